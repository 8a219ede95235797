/- Shafts: what they are, influences and deflections. -/
import Derived.Test.YtjdilmmpdlcimaaGreatA1

namespace Go.Proofs.YtjdilmmpdlcimaaGreat
open Go.RowKit Go.Shelf Go.Mem Go.RegInv
attribute [local go_sem] RelUpon_value RelUpon_skip RelUpon_enter BigFrame.eval_const BigFrame.eval_global BigFrame.eval_func


/-- A range. -/
abbrev Rg := Int × Int
def Rg.enc (r : Rg) : List Value := [.int .i64 r.1, .int .i64 r.2]
/-- A number. -/
def I1 (x : Int) : List Value := [.int .i64 x]
/-- A stroke. -/
structure Sk where
  j : Int
  a : Int
  u : Bool
deriving DecidableEq, Inhabited
def Sk.enc (x : Sk) : List Value := [.int .i64 x.j, .int .i64 x.a, .bool x.u]
/-- A section. -/
structure Se where
  l : Int
  lo : Int
  hi : Int
deriving DecidableEq, Inhabited
def Se.enc (x : Se) : List Value := [.int .i64 x.l, .int .i64 x.lo, .int .i64 x.hi]
/-- A station. -/
structure Sn where
  t : Int
  x : Int
  y : Int
deriving DecidableEq, Inhabited
def Sn.enc (x : Sn) : List Value := [.int .i64 x.t, .int .i64 x.x, .int .i64 x.y]
theorem row_at {α : Type} {k : Nat} {enc : α → List Value} {W : World} {A : Option Addr} {xs : List α} (h : RowsAt k enc W A xs) {i : Nat} {x : α} (hx : xs[i]? = some x) : ∃ b o, A = some ⟨b, o, none⟩ ∧ b < W.heap.size ∧ ∀ j u, (enc x)[j]? = some u → W.cell? ⟨b, o + i * k + j, none⟩ = some u := h.2 i x hx
theorem row_I1 {W : World} {A : Option Addr} {xs : List Int} (h : RowsAt 1 I1 W A xs) {i : Nat} (hi : i < xs.length) : ∃ b o, A = some ⟨b, o, none⟩ ∧ b < W.heap.size ∧ W.cell? ⟨b, o + i, none⟩ = some (.int .i64 (xs.getD i 0)) := by
  have hx : xs[i]? = some (xs.getD i 0) := by simp [hi]
  obtain ⟨b, o, hA, hb, hc⟩ := h.2 i _ hx
  refine ⟨b, o, hA, hb, ?_⟩
  have := hc 0 _ rfl
  simpa using this
theorem row_Rg {W : World} {A : Option Addr} {xs : List Rg} (h : RowsAt 2 Rg.enc W A xs) {i : Nat} (hi : i < xs.length) : ∃ b o, A = some ⟨b, o, none⟩ ∧ b < W.heap.size ∧ W.cell? ⟨b, o + i * 2, none⟩ = some (.int .i64 (xs.getD i default).1) ∧ W.cell? ⟨b, o + i * 2 + 1, none⟩ = some (.int .i64 (xs.getD i default).2) := by
  have hx : xs[i]? = some (xs.getD i default) := by simp [hi]
  obtain ⟨b, o, hA, hb, hc⟩ := h.2 i _ hx
  exact ⟨b, o, hA, hb, by simpa using hc 0 _ rfl, hc 1 _ rfl⟩
theorem rows_ints {W : World} {A : Option Addr} {xs : List Int} {n ca : Nat} (h : RowsAt 1 I1 W A xs) (hn : xs.length = n) : IntsAt W (.slice A n ca) xs := by
  subst hn
  cases xs with
  | nil => exact .inl ⟨A, ca, rfl, rfl⟩
  | cons x l =>
    obtain ⟨b, o, rfl, hb, -⟩ := row_I1 h (i := 0) (by simp)
    refine .inr ⟨b, o, ca, rfl, hb, h.1, fun i hi => ?_⟩
    obtain ⟨b2, o2, he, -, hc⟩ := row_I1 h hi
    obtain ⟨rfl, rfl⟩ : b = b2 ∧ o = o2 := by simpa using he
    exact hc
/-- The influence of a joint on a position, and the sums of a deflection. -/
def infl (L j p : Int) : Int := min j p * (L - max j p)
def dsum (L p : Int) (js : List Int) (ks : List Rg) : Nat → Rg
  | 0 => (0, 0)
  | k + 1 => ((dsum L p js ks k).1 + (ks.getD k default).1 * infl L (js.getD k 0) p, (dsum L p js ks k).2 + (ks.getD k default).2 * infl L (js.getD k 0) p)
def ceilD (a b : Int) : Int := -((-a) / b)
def defl (L : Int) (js : List Int) (ks : List Rg) (p : Int) : Rg := ((dsum L p js ks js.length).1 / L, ceilD (dsum L p js ks js.length).2 L)
/-- What a valid shaft is. -/
structure ShOK (L : Int) (js : List Int) (ks : List Rg) : Prop where
  l1 : 1 ≤ L
  l2 : L ≤ 10000
  four : js.length ≤ 4
  same : ks.length = js.length
  at' : ∀ i, i < js.length → 1 ≤ js.getD i 0 ∧ js.getD i 0 ≤ L - 1
  up : ∀ i, i + 1 < js.length → js.getD i 0 < js.getD (i + 1) 0
  kink : ∀ i, i < js.length → -100000 ≤ (ks.getD i default).1 ∧ (ks.getD i default).1 ≤ (ks.getD i default).2 ∧ (ks.getD i default).2 ≤ 100000
theorem mul_bd {a b A B : Int} (ha : -A ≤ a ∧ a ≤ A) (hb : -B ≤ b ∧ b ≤ B) : -(A * B) ≤ a * b ∧ a * b ≤ A * B := by
  have hA : 0 ≤ A := by omega
  have hB : 0 ≤ B := by omega
  have h1 : (a * b).natAbs ≤ A.natAbs * B.natAbs := by
    rw [Int.natAbs_mul]
    exact Nat.mul_le_mul (by omega) (by omega)
  have h2 : ((A.natAbs * B.natAbs : Nat) : Int) = A * B := by
    rw [Int.natCast_mul, Int.natAbs_of_nonneg hA, Int.natAbs_of_nonneg hB]
  omega
theorem infl_bd {L j p : Int} (h1 : L ≤ 10000) (hj : 0 ≤ j ∧ j ≤ L) (hp : 0 ≤ p ∧ p ≤ L) : 0 ≤ infl L j p ∧ infl L j p ≤ 100000000 := by
  have h2 := mul_bd (a := min j p) (b := L - max j p) (A := 10000) (B := 10000) (by omega) (by omega)
  have h3 : 0 ≤ min j p * (L - max j p) := Int.mul_nonneg (by omega) (by omega)
  unfold infl
  omega
theorem dsum_bd {L p : Int} {js : List Int} {ks : List Rg} (h : ShOK L js ks) (hp : 0 ≤ p ∧ p ≤ L) : ∀ k, k ≤ js.length → (-10000000000000 * (k : Int) ≤ (dsum L p js ks k).1 ∧ (dsum L p js ks k).1 ≤ 10000000000000 * k) ∧ (-10000000000000 * (k : Int) ≤ (dsum L p js ks k).2 ∧ (dsum L p js ks k).2 ≤ 10000000000000 * k)
  | 0, _ => by simp [dsum]
  | k + 1, hk => by
    have ih := dsum_bd h hp k (by omega)
    have hj := h.at' k (by omega)
    have hx := h.kink k (by omega)
    have hi := infl_bd (L := L) (j := js.getD k 0) (p := p) h.l2 (by omega) hp
    have m1 := mul_bd (a := (ks.getD k default).1) (b := infl L (js.getD k 0) p) (A := 100000) (B := 100000000) (by omega) (by omega)
    have m2 := mul_bd (a := (ks.getD k default).2) (b := infl L (js.getD k 0) p) (A := 100000) (B := 100000000) (by omega) (by omega)
    rw [dsum]
    dsimp only
    generalize (dsum L p js ks k).1 = d1 at *
    generalize (dsum L p js ks k).2 = d2 at *
    generalize (ks.getD k default).1 * infl L (js.getD k 0) p = e1 at *
    generalize (ks.getD k default).2 * infl L (js.getD k 0) p = e2 at *
    omega

end Go.Proofs.YtjdilmmpdlcimaaGreat
