/- The rounds of the examples' reading of rules. -/
import Derived.Test.YtkmekbafjnlfkaaGreatS38

namespace Go.Proofs.YtkmekbafjnlfkaaGreat
open Go.RowKit Go.Shelf Go.Mem Go.RegInv
attribute [local go_sem] RelUpon_value RelUpon_skip RelUpon_enter BigFrame.eval_const BigFrame.eval_global BigFrame.eval_func

theorem RuIn.at {r : Ru} {A0 A1 A2 A3 : Option Addr} {n0 n1 n2 n3 c0 c1 c2 c3 : Nat} {w : World} (h : RuIn r (.agg #[.slice A0 n0 c0, .slice A1 n1 c1, .slice A2 n2 c2, .slice A3 n3 c3, .int .i64 r.h0, .int .i64 r.h1, .int .i64 r.h2, .int .i64 r.h3]) w) : RuAt w r A0 A1 A2 A3 n0 n1 n2 n3 := by
  obtain ⟨B0, B1, B2, B3, m0, m1, m2, m3, d0, d1, d2, d3, q, hA, -⟩ := h
  simp only [Value.agg.injEq, Array.mk.injEq, List.cons.injEq, Value.slice.injEq] at q
  obtain ⟨⟨rfl, rfl, rfl⟩, ⟨rfl, rfl, rfl⟩, ⟨rfl, rfl, rfl⟩, ⟨rfl, rfl, rfl⟩, -⟩ := q
  exact hA
/-- The temperature of the knot before. -/
def lastT {α : Type} (kn : α → Kn) (xs : List α) : Nat → Int
  | 0 => -1
  | i + 1 => match xs[i]? with | some y => (kn y).k | none => -1
theorem lastT_succ {α : Type} {kn : α → Kn} {xs : List α} {i : Nat} {y : α} (h : xs[i]? = some y) : lastT kn xs (i + 1) = (kn y).k := by
  show (match xs[i]? with | some y => (kn y).k | none => -1) = _
  rw [h]
theorem heat_round {xs : List HK} {j : Nat} {x : HK} (h : xs[j]? = some x) (b : Bool) (hb0 : j = 0 → b = true) (hb : ∀ i y, j = i + 1 → xs[i]? = some y → b = (decide (y.lo ≤ x.lo) && decide (y.hi ≤ x.hi))) :
    refK x.k (lastT HK.kn xs j) [⟨x.lo, x.hi⟩] x.g b = knotE HK.kn risingK xs j := by
  refine refK_knot (kn := HK.kn) h _ _ _ (.inl rfl) ?_ hb0 ?_
  · rintro rfl
    show (-1 : Int) < x.k ∨ x.k < 1
    omega
  · rintro i y rfl hy
    rw [lastT_succ hy, hb i y rfl hy]
    show (!(decide (y.k < x.k) && (decide (y.lo ≤ x.lo) && decide (y.hi ≤ x.hi)))) = (decide (x.k ≤ y.k) || !(decide (y.lo ≤ x.lo) && decide (y.hi ≤ x.hi)))
    rw [Bool.not_and, show decide (x.k ≤ y.k) = !decide (y.k < x.k) by rw [← decide_not]; exact decide_eq_decide.2 (by omega)]
theorem cold_round {xs : List DK} {j : Nat} {x : DK} (h : xs[j]? = some x) (b : Bool) (hb0 : j = 0 → b = true) (hb : ∀ i y, j = i + 1 → xs[i]? = some y → b = (decide (x.lo ≤ y.lo) && decide (x.hi ≤ y.hi))) :
    refK x.k (lastT DK.kn xs j) [⟨x.lo, x.hi⟩] 0 b = knotE DK.kn fallingK xs j := by
  refine refK_knot (kn := DK.kn) h _ _ _ (.inr ⟨rfl, rfl⟩) ?_ hb0 ?_
  · rintro rfl
    show (-1 : Int) < x.k ∨ x.k < 1
    omega
  · rintro i y rfl hy
    rw [lastT_succ hy, hb i y rfl hy]
    show (!(decide (y.k < x.k) && (decide (x.lo ≤ y.lo) && decide (x.hi ≤ y.hi)))) = (decide (x.k ≤ y.k) || !(decide (x.lo ≤ y.lo) && decide (x.hi ≤ y.hi)))
    rw [Bool.not_and, show decide (x.k ≤ y.k) = !decide (y.k < x.k) by rw [← decide_not]; exact decide_eq_decide.2 (by omega)]
theorem cool_round {xs : List CK} {j : Nat} {x : CK} (h : xs[j]? = some x) :
    refK x.k (lastT CK.kn xs j) [⟨x.wlo, x.whi⟩, ⟨x.rlo, x.rhi⟩] 0 true = knotE CK.kn laterK xs j := by
  refine refK_knot (kn := CK.kn) h _ _ _ (.inr ⟨rfl, rfl⟩) ?_ (fun _ => rfl) ?_
  · rintro rfl
    show (-1 : Int) < x.k ∨ x.k < 1
    omega
  · rintro i y rfl hy
    rw [lastT_succ hy]
    show (!decide (y.k < x.k)) = (decide (x.k ≤ y.k) || !true)
    rw [Bool.not_true, Bool.or_false, ← decide_not]; exact decide_eq_decide.2 (by omega)
theorem temper_round {xs : List TK} {j : Nat} {x : TK} (h : xs[j]? = some x) :
    refK x.k (lastT TK.kn xs j) [] x.r true = knotE TK.kn laterK xs j := by
  refine refK_knot (kn := TK.kn) h _ _ _ (.inl rfl) ?_ (fun _ => rfl) ?_
  · rintro rfl
    show (-1 : Int) < x.k ∨ x.k < 1
    omega
  · rintro i y rfl hy
    rw [lastT_succ hy]
    show (!decide (y.k < x.k)) = (decide (x.k ≤ y.k) || !true)
    rw [Bool.not_true, Bool.or_false, ← decide_not]; exact decide_eq_decide.2 (by omega)
theorem reach_last {α : Type} {kn : α → Kn} {xs : List α} {n : Nat} (hn : xs.length = n) {q : Int} (hq : 1 ≤ q) : reachK (xs.map kn) q = decide (q ≤ lastT kn xs n) := by
  unfold reachK
  rw [List.getLast?_map, List.getLast?_eq_getElem?, hn]
  cases n with
  | zero =>
    rw [List.length_eq_zero_iff.1 hn]
    show false = decide (q ≤ -1)
    rw [decide_eq_false (by omega)]
  | succ i =>
    rw [Nat.add_sub_cancel, List.getElem?_eq_getElem (by omega), lastT_succ (List.getElem?_eq_getElem (by omega))]
    rfl
/-- Where every knot of Heats is right, the clash is seen by the last temperatures alone. -/
theorem clash_last {r : Ru} {n1 n2 n3 : Nat} {x : HK} (hx : r.hs[0]? = some x) (h0 : knotE HK.kn risingK r.hs 0 = 0) (h1 : r.cs.length = n1) (h2 : r.ds.length = n2) (h3 : r.ts.length = n3) :
    clashK r = errIf (decide (x.k ≤ max (max (lastT CK.kn r.cs n1) (lastT DK.kn r.ds n2)) (lastT TK.kn r.ts n3))) 13 := by
  obtain ⟨l, hl⟩ : ∃ l, r.hs = x :: l := by
    cases hh : r.hs with
    | nil => rw [hh] at hx; simp at hx
    | cons y l => rw [hh] at hx; simp at hx; exact ⟨l, by rw [hx]⟩
  have hk : 1 ≤ x.k := by
    unfold knotE at h0
    rw [hx] at h0
    have h2 := firstE_zero h0 (ownE (HK.kn x)) (by simp)
    have h4 := firstE_zero (l := [kelE (HK.kn x).k, rangeE 0 1000000 (HK.kn x).nums, errIf ((HK.kn x).rs.any bwd) 3]) h2 (kelE (HK.kn x).k) (by simp)
    exact (rangeE_zeros h4 (HK.kn x).k (by simp)).1
  unfold clashK
  rw [hl]
  dsimp only
  rw [reach_last h1 hk, reach_last h2 hk, reach_last h3 hk]
  congr 1
  rw [← Bool.decide_or, ← Bool.decide_or]
  exact decide_eq_decide.2 (by omega)
theorem clash_none {r : Ru} (h : r.hs.length = 0) : clashK r = 0 := by
  unfold clashK; rw [List.length_eq_zero_iff.1 h]
/-- The first fault behind one that is none. -/
theorem flt_skip {l : List (Int × Int)} {p : Int × Int} (h : p = (0, 0)) : firstFlt (p :: l) = firstFlt l := by
  rw [firstFlt, h]; rfl
theorem flt_here {l : List (Int × Int)} {p : Int × Int} (h : p.2 ≠ 0) : firstFlt (p :: l) = p := by
  rw [firstFlt, if_pos h]

end Go.Proofs.YtkmekbafjnlfkaaGreat
