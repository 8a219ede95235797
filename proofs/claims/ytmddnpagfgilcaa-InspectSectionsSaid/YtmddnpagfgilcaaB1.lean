/- Indents: disturbed ones. -/
import Derived.Test.YtmddnpagfgilcaaA8
import Derived.Lib.MinMax

namespace Go.Proofs.Ytmddnpagfgilcaa
open Go.RowKit Go.Shelf Go.Mem Go.RegInv
attribute [local go_sem] RelUpon_value RelUpon_skip RelUpon_enter BigFrame.eval_const BigFrame.eval_global BigFrame.eval_func


/-- An indent. -/
structure In where
  d : Int
  g : Int
  lo : Int
  hi : Int
deriving DecidableEq, Inhabited
def In.enc (x : In) : List Value := [.int .i64 x.d, .int .i64 x.g, .int .i64 x.lo, .int .i64 x.hi]
theorem orderError_any (a b : Int) (w : World) : Calls Try.prog 80 #[.agg #[.int .i64 a, .int .i64 b]] w fun e w' => e = .returned (.int .i64 (errIf (decide (b < a)) 9)) ∧ Ext w w' := by
  go_enter Try.func80, Try.ntmps80
  go_wp2_with (go_at_call 81; refine (errorIf_any _ _ _).mono ?_; rintro e w' ⟨rfl, rfl⟩)
  go_ret
  exact ⟨rfl, Ext.alloc _ _⟩
def countE (n lo hi : Int) : Int := firstE [errIf (decide (n < lo)) 10, errIf (decide (hi < n)) 8]
theorem countError_any (n lo hi : Int) (w : World) : Calls Try.prog 75 #[.int .i64 n, .int .i64 lo, .int .i64 hi] w fun e w' => e = .returned (.int .i64 (countE n lo hi)) ∧ Ext w w' := by
  go_enter Try.func75, Try.ntmps75
  go_wp2_with (first
    | (go_at_call 81; refine (errorIf_any _ _ _).mono ?_; rintro e w' ⟨rfl, rfl⟩)
    | (go_at_call 78; refine (firstOf_any _ [_, _] _ (ints_new _ [_, _] _ (by simp))).mono ?_; rintro e w' ⟨rfl, rfl⟩))
  go_ret
  exact ⟨rfl, Ext.alloc _ _⟩

/-- Whether an indent is disturbed, with Go's own arithmetic. -/
def dist0 (x : In) : Bool := decide (wrap64 (2 * x.d) < wrap64 (5 * x.g))
def dist1 (y x : In) : Bool := decide (wrap64 (x.d - y.d) < wrap64 (3 * max x.g y.g))
def distK (xs : List In) (i : Nat) : Bool := if i = 0 then dist0 (xs.getD 0 default) else dist1 (xs.getD (i - 1) default) (xs.getD i default)
theorem row_at {α : Type} {k : Nat} {enc : α → List Value} {W : World} {A : Option Addr} {xs : List α} (h : RowsAt k enc W A xs) {i : Nat} {x : α} (hx : xs[i]? = some x) : ∃ b o, A = some ⟨b, o, none⟩ ∧ b < W.heap.size ∧ ∀ j u, (enc x)[j]? = some u → W.cell? ⟨b, o + i * k + j, none⟩ = some u := h.2 i x hx
set_option maxRecDepth 100000 in
set_option maxHeartbeats 1000000 in
theorem dist_first {A : Option Addr} {n ca : Nat} {xs : List In} {w : World} (hn : xs.length = n) (hA : RowsAt 4 In.enc w A xs) (h1 : 0 < n) :
    Calls Try.prog 82 #[.slice A n ca, .int .i64 0] w fun e w' => e = .returned (.bool (distK xs 0)) ∧ Ext w w' := by
  have hx : xs[0]? = some (xs.getD 0 default) := by simp [hn, h1]
  have HD := Lib.hid (show distK xs 0 = dist0 (xs.getD 0 default) from rfl)
  generalize xs.getD 0 default = x at hx HD
  obtain ⟨b, o, rfl, hb, hc⟩ := row_at hA hx
  have p0 := hc 0 _ rfl
  have p1 := hc 1 _ rfl
  have p2 := hc 2 _ rfl
  have p3 := hc 3 _ rfl
  simp only [Nat.zero_mul, Nat.add_zero] at p0 p1 p2 p3
  have HN := Lib.hid hn
  clear hn hA hc hx
  go_enter Try.func82, Try.ntmps82
  go_wp2
  go_ret
  exact ⟨ret_bool (by rw [HD.out]; rfl), Ext.alloc _ _⟩
set_option maxRecDepth 100000 in
set_option maxHeartbeats 1000000 in
theorem dist_next {A : Option Addr} {n ca i : Nat} {xs : List In} {w : World} (hn : xs.length = n) (hA : RowsAt 4 In.enc w A xs) (h1 : i + 1 < n) :
    Calls Try.prog 82 #[.slice A n ca, .int .i64 ((i : Int) + 1)] w fun e w' => e = .returned (.bool (distK xs (i + 1))) ∧ Ext w w' := by
  have hx : xs[i + 1]? = some (xs.getD (i + 1) default) := by simp [hn, h1]
  have hy : xs[i]? = some (xs.getD i default) := by rw [List.getD_eq_getElem?_getD, List.getElem?_eq_getElem (by omega)]; rfl
  have HD := Lib.hid (show distK xs (i + 1) = dist1 (xs.getD i default) (xs.getD (i + 1) default) from rfl)
  generalize xs.getD (i + 1) default = x at hx HD
  generalize xs.getD i default = y at hy HD
  have hl := hA.1
  obtain ⟨b, o, rfl, hb, hc⟩ := row_at hA hx
  obtain ⟨b2, o2, he, _, hc2⟩ := row_at hA hy
  obtain ⟨rfl, rfl⟩ : b = b2 ∧ o = o2 := by simpa using he
  have p0 := hc 0 _ rfl
  have p1 := hc 1 _ rfl
  have p2 := hc 2 _ rfl
  have p3 := hc 3 _ rfl
  have q0 := hc2 0 _ rfl
  have q1 := hc2 1 _ rfl
  have q2 := hc2 2 _ rfl
  have q3 := hc2 3 _ rfl
  simp only [Nat.add_zero] at p0 q0
  have hnb : n ≤ 1152921504606846976 := by omega
  have hi : (i : Int) + 1 < (n : Int) := by omega
  clear hl
  have hi2 : (i : Int) < (n : Int) := by omega
  have hi0 : i < n := by omega
  have HN := Lib.hid hn
  clear hn hA hc hc2 hx hy he
  go_enter Try.func82, Try.ntmps82
  go_wp2
  go_ret
  exact ⟨ret_bool (by rw [HD.out]; rfl), (Ext.alloc _ _).trans (Ext.alloc _ _)⟩

end Go.Proofs.Ytmddnpagfgilcaa
