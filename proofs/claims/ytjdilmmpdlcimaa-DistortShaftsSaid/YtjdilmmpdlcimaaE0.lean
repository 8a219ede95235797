/- Errors as conditions. -/
import Derived.Test.YtjdilmmpdlcimaaC2
import Derived.Lib.MinMax

namespace Go.Proofs.Ytjdilmmpdlcimaa
open Go.RowKit Go.Shelf Go.Mem Go.RegInv
attribute [local go_sem] RelUpon_value RelUpon_skip RelUpon_enter BigFrame.eval_const BigFrame.eval_global BigFrame.eval_func


theorem outB_in {lo hi x : Int} (h : lo ≤ x ∧ x ≤ hi) : outB lo hi x = false := by
  simp [outB]; omega
theorem outB_out {lo hi x : Int} (h : ¬ (lo ≤ x ∧ x ≤ hi)) : outB lo hi x = true := by
  simp [outB]; omega
theorem rangeE_one (lo hi x : Int) : rangeE lo hi [x] = if lo ≤ x ∧ x ≤ hi then 0 else 2 := by
  by_cases h : lo ≤ x ∧ x ≤ hi
  · rw [if_pos h]; simp [rangeE, errIf, outB_in h]
  · rw [if_neg h]; simp [rangeE, errIf, outB_out h]
theorem rangeE_pair (lo hi x y : Int) : rangeE lo hi [x, y] = if lo ≤ x ∧ x ≤ hi then (if lo ≤ y ∧ y ≤ hi then 0 else 2) else 2 := by
  by_cases h : lo ≤ x ∧ x ≤ hi
  · rw [if_pos h]
    by_cases h2 : lo ≤ y ∧ y ≤ hi
    · rw [if_pos h2]; simp [rangeE, errIf, outB_in h, outB_in h2]
    · rw [if_neg h2]; simp [rangeE, errIf, outB_in h, outB_out h2]
  · rw [if_neg h]; simp [rangeE, errIf, outB_out h]
theorem firstE_cons0 (l : List Int) : firstE (0 :: l) = firstE l := by simp [firstE]
theorem firstE_consN {x : Int} (l : List Int) (h : x ≠ 0) : firstE (x :: l) = x := by simp [firstE, h]
theorem errIf_t (b : Bool) (c : Int) (h : b = true) : errIf b c = c := by simp [errIf, h]
theorem errIf_f (b : Bool) (c : Int) (h : b = false) : errIf b c = 0 := by simp [errIf, h]
theorem endsE_if (lo hi : Int) (r : Rg) : endsE lo hi r = if lo ≤ r.1 ∧ r.1 ≤ hi then (if lo ≤ r.2 ∧ r.2 ≤ hi then (if r.2 < r.1 then 9 else 0) else 2) else 2 := by
  unfold endsE
  rw [rangeE_pair]
  by_cases h : lo ≤ r.1 ∧ r.1 ≤ hi
  · rw [if_pos h, if_pos h]
    by_cases h2 : lo ≤ r.2 ∧ r.2 ≤ hi
    · rw [if_pos h2, if_pos h2, firstE_cons0, firstE_one]
      by_cases h3 : r.2 < r.1
      · rw [if_pos h3]; simp [errIf, h3]
      · rw [if_neg h3]; simp [errIf, h3]
    · rw [if_neg h2, if_neg h2, firstE_consN _ (by decide)]
  · rw [if_neg h, if_neg h, firstE_consN _ (by decide)]
theorem withinB_t {a lo hi : Int} (h : lo ≤ a ∧ a ≤ hi) : withinB a lo hi = true := by simp [withinB, h]
theorem withinB_f {a lo hi : Int} (h : ¬ (lo ≤ a ∧ a ≤ hi)) : withinB a lo hi = false := by
  simp only [withinB]
  by_cases h1 : lo ≤ a
  · by_cases h2 : a ≤ hi
    · exact absurd ⟨h1, h2⟩ h
    · simp [h2]
  · simp [h1]
theorem jointK_if (L : Int) (js : List Int) (ks : List Rg) (i : Nat) : jointK L js ks i = if 1 ≤ js.getD i 0 ∧ js.getD i 0 ≤ L - 1 then (if i ≠ 0 ∧ js.getD i 0 ≤ js.getD (i - 1) 0 then 9 else endsE (-100000) 100000 (ks.getD i default)) else 2 := by
  unfold jointK
  rw [rangeE_one]
  by_cases h : 1 ≤ js.getD i 0 ∧ js.getD i 0 ≤ L - 1
  · rw [if_pos h, if_pos h, firstE_cons0]
    by_cases h2 : i ≠ 0 ∧ js.getD i 0 ≤ js.getD (i - 1) 0
    · rw [if_pos h2, errIf_t _ _ (by rw [if_neg h2.1]; simpa using h2.2), firstE_consN _ (by decide)]
    · rw [if_neg h2, errIf_f _ _ (by
        by_cases h3 : i = 0
        · rw [if_pos h3]
        · rw [if_neg h3]; exact decide_eq_false (fun h => h2 ⟨h3, h⟩)), firstE_cons0, firstE_one]
  · rw [if_neg h, if_neg h, firstE_consN _ (by decide)]
theorem pressK_if (am : List Int) (i : Nat) : pressK am i = if 1 ≤ am.getD i 0 ∧ am.getD i 0 ≤ 10000 then (if i ≠ 0 ∧ am.getD i 0 ≤ am.getD (i - 1) 0 then 9 else 0) else 2 := by
  unfold pressK
  rw [rangeE_one]
  by_cases h : 1 ≤ am.getD i 0 ∧ am.getD i 0 ≤ 10000
  · rw [if_pos h, if_pos h, firstE_cons0, firstE_one]
    by_cases h2 : i ≠ 0 ∧ am.getD i 0 ≤ am.getD (i - 1) 0
    · rw [if_pos h2, errIf_t _ _ (by rw [if_neg h2.1]; simpa using h2.2)]
    · rw [if_neg h2, errIf_f _ _ (by
        by_cases h3 : i = 0
        · rw [if_pos h3]
        · rw [if_neg h3]; exact decide_eq_false (fun h => h2 ⟨h3, h⟩))]
  · rw [if_neg h, if_neg h, firstE_consN _ (by decide)]
theorem headK_if (L : Int) (n m : Nat) : headK L n m = if 1 ≤ L ∧ L ≤ 10000 then (if 4 < n then 8 else if m ≠ n then 10 else 0) else 2 := by
  unfold headK
  rw [rangeE_one]
  by_cases h : 1 ≤ L ∧ L ≤ 10000
  · rw [if_pos h, if_pos h, firstE_cons0]
    by_cases h2 : 4 < n
    · rw [if_pos h2, errIf_t _ _ (by simp; omega), firstE_consN _ (by decide)]
    · rw [if_neg h2, errIf_f _ _ (by simp; omega), firstE_cons0, firstE_one]
      by_cases h3 : m ≠ n
      · rw [if_pos h3, errIf_t _ _ (by simp; omega)]
      · rw [if_neg h3, errIf_f _ _ (by simp; omega)]
  · rw [if_neg h, if_neg h, firstE_consN _ (by decide)]
theorem checkS_head {L : Int} {js : List Int} {ks : List Rg} {z : Int} (h : headK L js.length ks.length = z) (hz : z ≠ 0) : checkS L js ks = (0, z) := by
  unfold checkS
  rw [h, if_pos hz]
theorem checkS_loop {L : Int} {js : List Int} {ks : List Rg} (h : headK L js.length ks.length = 0) : checkS L js ks = firstAt (jointK L js ks) js.length 0 := by
  unfold checkS
  rw [h, if_neg (by decide)]
theorem firstAt_here (E : Nat → Int) {n k : Nat} {z : Int} (h : k < n) (hz : E k = z) (h0 : z ≠ 0) : firstAt E (n - k) k = ((k : Int), z) := by
  rw [firstAt_step E h, hz, if_pos h0]
theorem firstAt_next (E : Nat → Int) {n k : Nat} (h : k < n) (hz : E k = 0) : firstAt E (n - k) k = firstAt E (n - (k + 1)) (k + 1) := by
  rw [firstAt_step E h, hz, if_neg (by decide)]

end Go.Proofs.Ytjdilmmpdlcimaa
