/- What DistortTurned asks. -/
import Derived.Test.YtjdilmmpdlcimaaX3
import Derived.Test.YtjdilmmpdlcimaaYA
import Derived.Test.YtjdilmmpdlcimaaFA

namespace Go.Proofs.Ytjdilmmpdlcimaa
open Go.RowKit Go.Shelf Go.Mem Go.RegInv
attribute [local go_sem] RelUpon_value RelUpon_skip RelUpon_enter BigFrame.eval_const BigFrame.eval_global BigFrame.eval_func


theorem readE_of {r0 r1 r2 r3 : Int} (h0 : -1000000 ≤ r0 ∧ r0 ≤ 1000000) (h1 : -1000000 ≤ r1 ∧ r1 ≤ 1000000) (h2 : -1000000 ≤ r2 ∧ r2 ≤ 1000000) (h3 : -1000000 ≤ r3 ∧ r3 ≤ 1000000) : readE r0 r1 r2 r3 = 0 := by
  show rangeE (-1000000) 1000000 [r0, r1, r2, r3] = 0
  rw [rangeE_cons, if_pos h0, rangeE_cons, if_pos h1, rangeE_cons, if_pos h2, rangeE_cons, if_pos h3]
  rfl
theorem readE_bd {r0 r1 r2 r3 : Int} (h : readE r0 r1 r2 r3 = 0) : (-1000000 ≤ r0 ∧ r0 ≤ 1000000) ∧ (-1000000 ≤ r1 ∧ r1 ≤ 1000000) ∧ (-1000000 ≤ r2 ∧ r2 ≤ 1000000) ∧ (-1000000 ≤ r3 ∧ r3 ≤ 1000000) :=
  ⟨rangeE_zeros h r0 (by simp), rangeE_zeros h r1 (by simp), rangeE_zeros h r2 (by simp), rangeE_zeros h r3 (by simp)⟩
theorem runV_eq (r0 r1 r2 r3 : Int) : runV r0 r1 r2 r3 = (r0 - r2, r1 - r3, r0 + r2 - r1 - r3, rootR ((r0 - r2) * (r0 - r2) + (r1 - r3) * (r1 - r3))) := rfl
theorem runV_turned (r0 r1 r2 r3 : Int) : runV r1 r2 r3 r0 = ((runV r0 r1 r2 r3).2.1, -(runV r0 r1 r2 r3).1, -(runV r0 r1 r2 r3).2.2.1, (runV r0 r1 r2 r3).2.2.2) := by
  rw [runV_eq, runV_eq]
  dsimp only
  have e1 : r2 - r0 = -(r0 - r2) := by omega
  have e2 : (r1 - r3) * (r1 - r3) + (r2 - r0) * (r2 - r0) = (r0 - r2) * (r0 - r2) + (r1 - r3) * (r1 - r3) := by
    rw [e1, Int.neg_mul_neg, Int.add_comm]
  rw [e2, e1, show r1 + r3 - r2 - r0 = -(r0 + r2 - r1 - r3) by omega]
theorem runV_shift (r0 r1 r2 r3 b : Int) : runV (r0 + b) (r1 + b) (r2 + b) (r3 + b) = runV r0 r1 r2 r3 := by
  rw [runV_eq, runV_eq, show r0 + b - (r2 + b) = r0 - r2 by omega, show r1 + b - (r3 + b) = r1 - r3 by omega, show r0 + b + (r2 + b) - (r1 + b) - (r3 + b) = r0 + r2 - r1 - r3 by omega]
theorem upF_le (n : Int) : ∀ f k : Nat, upF n f k ≤ k + f
  | 0, k => by rw [upF]; omega
  | f + 1, k => by
    rw [upF]
    split
    · omega
    · have := upF_le n f (k + 1); omega
theorem rootR_bd (n : Int) : (-1 ≤ (rootR n).1 ∧ (rootR n).1 ≤ 3000000) ∧ (rootR n).1 ≤ (rootR n).2 ∧ (rootR n).2 ≤ (rootR n).1 + 1 := by
  have h : upR n ≤ 0 + 3000000 := upF_le n 3000000 0
  unfold rootR
  generalize upR n = u at *
  dsimp only
  split <;> omega
theorem runV_bd {r0 r1 r2 r3 : Int} (h : readE r0 r1 r2 r3 = 0) : (-2000000 ≤ (runV r0 r1 r2 r3).1 ∧ (runV r0 r1 r2 r3).1 ≤ 2000000) ∧ (-4000000 ≤ (runV r0 r1 r2 r3).2.2.1 ∧ (runV r0 r1 r2 r3).2.2.1 ≤ 4000000) ∧ (-1 ≤ (runV r0 r1 r2 r3).2.2.2.1 ∧ (runV r0 r1 r2 r3).2.2.2.1 ≤ 3000000) ∧ (runV r0 r1 r2 r3).2.2.2.1 ≤ (runV r0 r1 r2 r3).2.2.2.2 ∧ (runV r0 r1 r2 r3).2.2.2.2 ≤ (runV r0 r1 r2 r3).2.2.2.1 + 1 := by
  have hb := readE_bd h
  have hr := rootR_bd ((r0 - r2) * (r0 - r2) + (r1 - r3) * (r1 - r3))
  rw [runV_eq]
  dsimp only
  generalize rootR ((r0 - r2) * (r0 - r2) + (r1 - r3) * (r1 - r3)) = ro at *
  omega
def mapG {α : Type} [Inhabited α] (f : Nat → α) (xs : List α) (n k : Nat) : List α := (List.range n).map fun i => if i < k then f i else xs.getD i default
theorem mapG_len {α : Type} [Inhabited α] (f : Nat → α) (xs : List α) (n k : Nat) : (mapG f xs n k).length = n := by simp [mapG]
theorem mapG_at {α : Type} [Inhabited α] {f : Nat → α} {xs : List α} {n k i : Nat} (h : i < n) : (mapG f xs n k)[i]? = some (if i < k then f i else xs.getD i default) := by simp [mapG, h]
theorem mapG_zero {α : Type} [Inhabited α] {f : Nat → α} {xs : List α} {n : Nat} (h : xs.length = n) : mapG f xs n 0 = xs := by
  apply List.ext_getElem?
  intro i
  by_cases hi : i < n
  · rw [mapG_at hi]
    simp [show i < xs.length by omega]
  · rw [List.getElem?_eq_none (by rw [mapG_len]; omega), List.getElem?_eq_none (by omega)]
theorem mapG_next {α : Type} [Inhabited α] {f : Nat → α} {xs : List α} {n k : Nat} (hk : k < n) : mapG f xs n (k + 1) = (mapG f xs n k).set k (f k) := by
  apply List.ext_getElem?
  intro i
  rw [List.getElem?_set]
  by_cases hi : i < n
  · rw [mapG_at hi, mapG_at hi]
    by_cases he : k = i
    · subst he
      rw [if_pos rfl, if_pos (show k < k + 1 by omega), if_pos (show k < (mapG f xs n k).length by rw [mapG_len]; exact hi)]
    · rw [if_neg he]
      by_cases h : i < k
      · rw [if_pos (by omega), if_pos h]
      · rw [if_neg (by omega), if_neg h]
  · rw [List.getElem?_eq_none (by rw [mapG_len]; omega), if_neg (by omega), List.getElem?_eq_none (by rw [mapG_len]; omega)]
theorem mapG_get {α : Type} [Inhabited α] {f : Nat → α} {xs : List α} {n i : Nat} (h : i < n) : (mapG f xs n n).getD i default = f i := by
  have := mapG_at (f := f) (xs := xs) (k := n) h
  rw [if_pos h] at this
  simp [this]
/-- The stations that are moved. -/
def movF (b0 b1 b2 : Int) (ys : List Sn) (i : Nat) : Sn := movS b0 b1 b2 (ys.getD i default)
theorem bowsL_moved {ys : List Sn} {m : Nat} (hm : ys.length = m) (b0 b1 b2 : Int) : bowsL (mapG (movF b0 b1 b2 ys) ys m m) m = bowsL ys m := by
  unfold bowsL
  apply List.map_congr_left
  intro i hi
  have hi : i < m := by simpa using hi
  rw [mapG_len, hm, mapG_get hi, mapG_get (show 0 < m by omega), mapG_get (show m - 1 < m by omega)]
  exact bowS_moved _ _ _ _ _ _
theorem bowsL_at {ys : List Sn} {m i : Nat} (hi : i < m) : (bowsL ys m)[i]? = some (bowS (ys.getD 0 default) (ys.getD i default) (ys.getD (ys.length - 1) default)) := by simp [bowsL, hi]
theorem bowsL_first {ys : List Sn} {m : Nat} (h : 1 ≤ m) : (bowsL ys m)[0]? = some ((0, 0), (0, 0)) := by
  rw [bowsL_at h, bowS_first]
theorem bowsL_last {ys : List Sn} {m : Nat} (hm : ys.length = m) (h : 1 ≤ m) : (bowsL ys m)[m - 1]? = some ((0, 0), (0, 0)) := by
  rw [bowsL_at (by omega), hm, bowS_last]
theorem flat_setSn : ∀ (zs : List Sn) (i : Nat) (x : Sn) (a b : Int), zs[i]? = some x → ((zs.flatMap Sn.enc).set (i * 3 + 1) (.int .i64 a)).set (i * 3 + 2) (.int .i64 b) = (zs.set i ⟨x.t, a, b⟩).flatMap Sn.enc
  | z :: l, 0, x, a, b, h => by
    obtain rfl : z = x := by simpa using h
    simp [Sn.enc]
  | z :: l, i + 1, x, a, b, h => by
    have ih := flat_setSn l i x a b (by simpa using h)
    have e1 : (i + 1) * 3 + 1 = (i * 3 + 1) + 1 + 1 + 1 := by omega
    have e2 : (i + 1) * 3 + 2 = (i * 3 + 2) + 1 + 1 + 1 := by omega
    rw [e1, e2]
    simp [Sn.enc]
    exact ih
theorem set_stn {W : World} {base n c g : Nat} {zs : List Sn} (h : W.ownsRow base 109 3 (.slice (some ⟨g, 0, none⟩) n c) n (zs.flatMap Sn.enc)) {k : Nat} {x : Sn} (hx : zs[k]? = some x) (a b : Int) : ((W.setCell ⟨g, k * 3 + 1, none⟩ (.int .i64 a)).setCell ⟨g, k * 3 + 2, none⟩ (.int .i64 b)).ownsRow base 109 3 (.slice (some ⟨g, 0, none⟩) n c) n ((zs.set k ⟨x.t, a, b⟩).flatMap Sn.enc) := by
  rw [← flat_setSn _ _ _ _ _ hx]
  exact own_setCell (own_setCell h _ _) _ _

end Go.Proofs.Ytjdilmmpdlcimaa
