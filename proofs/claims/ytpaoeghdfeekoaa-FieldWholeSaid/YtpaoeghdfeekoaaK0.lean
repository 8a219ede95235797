/- Voltages and currents of a ladder, node by node. -/
import Derived.Test.YtpaoeghdfeekoaaC8
namespace Go.Proofs.Ytpaoeghdfeekoaa
open Go.RowKit Go.Mem

theorem out_at (f : Int) (hot : List Bool) : ∀ (l : List (Nat × Sh)) (j : Nat), j ≤ l.length → (vfold f hot l).out[j]? = some (vfold f hot (l.take j)).last := by
  refine snoc_ind ?_ ?_
  · intro j hj
    obtain rfl : j = 0 := by simpa using hj
    rfl
  · intro l x ih j hj
    have hlen := vfold_len f hot l
    rw [vfold_snoc]
    simp only [vstep]
    by_cases hjl : j ≤ l.length
    · rw [List.getElem?_append_left (by omega), ih j hjl, List.take_append_of_le_length hjl]
    · obtain rfl : j = l.length + 1 := by simp at hj; omega
      rw [List.getElem?_append_right (by omega), List.take_of_length_le (by simp), vfold_snoc]
      simp [hlen, vstep]

def bx (ls : List Sh) : List (Nat × Sh) := (backE ls).map (·.1)
theorem bx_len (ls : List Sh) : (bx ls).length = ls.length := by simp [bx, backE_length]
theorem bx_at (ls : List Sh) (k : Nat) (s : Sh) (h : ls[k]? = some s) : (bx ls)[ls.length - 1 - k]? = some (k, s) := by
  simp [bx, List.getElem?_map, backE_at ls k s h]

/-- The state with the shells from k on. -/
def st (f : Int) (hot : List Bool) (ls : List Sh) (k : Nat) : VS := vfold f hot ((bx ls).take (ls.length - k))
theorem st_end (f : Int) (hot : List Bool) (ls : List Sh) : st f hot ls ls.length = vs0 := by simp [st, vfold]
theorem st_step {f : Int} {hot : List Bool} {ls : List Sh} {k : Nat} {s : Sh} (h : ls[k]? = some s) : st f hot ls k = vstep f hot (st f hot ls (k + 1)) (k, s) := by
  have hk := (List.getElem?_eq_some_iff.1 h).1
  unfold st
  rw [show ls.length - k = ls.length - 1 - k + 1 by omega, show ls.length - (k + 1) = ls.length - 1 - k by omega, List.take_add_one, bx_at ls k s h]
  exact vfold_snoc _ _ _ _
theorem volts_at (f : Int) (hot : List Bool) (ls : List Sh) (k : Nat) (hk : k ≤ ls.length) : (volts f hot ls)[k]? = some (st f hot ls k).last := by
  have hl : (vfold f hot (bx ls)).out.length = ls.length + 1 := by rw [vfold_len, bx_len]
  show (vfold f hot (bx ls)).out.reverse[k]? = _
  rw [List.getElem?_reverse (by omega), hl, show ls.length + 1 - 1 - k = ls.length - k by omega, out_at f hot (bx ls) _ (by rw [bx_len]; omega)]
  rfl
theorem volt_at (f : Int) (hot : List Bool) (ls : List Sh) (k : Nat) (hk : k ≤ ls.length) : volt f hot ls k = (st f hot ls k).last := by
  unfold volt
  rw [List.getD, volts_at f hot ls k hk]; rfl
theorem tail_at (f : Int) (hot : List Bool) (ls : List Sh) (k : Nat) (hk : k < ls.length) : (volts f hot ls).tail[k]? = some (st f hot ls (k + 1)).last := by
  rw [List.getElem?_tail, volts_at f hot ls _ (by omega)]
theorem cur_at (f : Int) (hot : List Bool) (ls : List Sh) : ∀ j k, j + k = ls.length → curAt ls (volts f hot ls).tail k = (st f hot ls k).cur
  | 0, k, h => by
    obtain rfl : k = ls.length := by omega
    rw [st_end, curAt_end ls _ (by simp [volts_len]) _ (Nat.le_refl _)]; rfl
  | j + 1, k, h => by
    have hk : k < ls.length := by omega
    have hs : ls[k]? = some ls[k] := List.getElem?_eq_getElem hk
    rw [curAt_step ls _ k _ _ hs (tail_at f hot ls k hk), cur_at f hot ls j (k + 1) (by omega), st_step hs]
    rfl

/-- The part of the power that turns. -/
def turnQ (v c : G) : Int := v.im * c.re - v.re * c.im
/-- The part of the power that goes in. -/
def realP (v c : G) : Int := v.re * c.re + v.im * c.im
def normG (v : G) : Int := v.re * v.re + v.im * v.im
theorem sq_nonneg (x : Int) : 0 ≤ x * x := by
  rcases Int.le_total 0 x with h | h
  · exact Int.mul_nonneg h h
  · have := Int.mul_nonneg (show 0 ≤ -x by omega) (show 0 ≤ -x by omega)
    rwa [Int.neg_mul_neg] at this
theorem norm_nonneg (v : G) : 0 ≤ normG v := by
  have := sq_nonneg v.re
  have := sq_nonneg v.im
  unfold normG; omega
theorem norm_zero {v : G} (h : v.re = 0 ∧ v.im = 0) : normG v = 0 := by simp [normG, h.1, h.2]

theorem turn_plus (v c : G) (g : Int) : turnQ v (plusG c g v) = turnQ v c := by
  have e1 : v.im * (g * v.re) = v.re * (g * v.im) := by rw [Int.mul_left_comm, Int.mul_left_comm v.re g, Int.mul_comm v.im]
  simp only [turnQ, plusG, Int.mul_add]
  omega
theorem real_plus (v c : G) (g : Int) : realP v (plusG c g v) = realP v c + g * normG v := by
  have e1 : v.re * (g * v.re) = g * (v.re * v.re) := Int.mul_left_comm _ _ _
  have e2 : v.im * (g * v.im) = g * (v.im * v.im) := Int.mul_left_comm _ _ _
  simp only [realP, plusG, normG, Int.mul_add]
  omega
theorem turn_bef (v c : G) (x : Int) : turnQ (befG v x c) c = turnQ v c + x * normG c := by
  have e1 : x * -c.im * c.im = -(x * (c.im * c.im)) := by rw [Int.mul_neg, Int.neg_mul, Int.mul_assoc]
  have e2 : x * c.re * c.re = x * (c.re * c.re) := Int.mul_assoc _ _ _
  simp only [turnQ, befG, normG, Int.mul_add, Int.add_mul]
  omega
theorem real_bef (v c : G) (x : Int) : realP (befG v x c) c = realP v c := by
  have e1 : x * -c.im * c.re = -(x * (c.re * c.im)) := by rw [Int.mul_neg, Int.neg_mul, Int.mul_assoc, Int.mul_comm c.im]
  have e2 : x * c.re * c.im = x * (c.re * c.im) := Int.mul_assoc _ _ _
  simp only [realP, befG, Int.add_mul]
  omega
theorem mul_four (a b c d : Int) : a * b * (c * d) = a * c * (b * d) := by rw [Int.mul_assoc, Int.mul_left_comm b, ← Int.mul_assoc]
theorem norm_bef (v c : G) (x : Int) : normG (befG v x c) = normG v + 2 * (x * turnQ v c) + x * x * normG c := by
  have a1 : x * -c.im * (x * -c.im) = x * x * (c.im * c.im) := by
    rw [Int.mul_neg, Int.neg_mul_neg, mul_four]
  have a2 : x * c.re * (x * c.re) = x * x * (c.re * c.re) := mul_four _ _ _ _
  have a3 : v.re * (x * -c.im) = -(x * (v.re * c.im)) := by rw [Int.mul_neg, Int.mul_neg, Int.mul_left_comm]
  have a4 : x * -c.im * v.re = -(x * (v.re * c.im)) := by rw [Int.mul_comm, a3]
  have a5 : v.im * (x * c.re) = x * (v.im * c.re) := Int.mul_left_comm _ _ _
  have a6 : x * c.re * v.im = x * (v.im * c.re) := by rw [Int.mul_comm, a5]
  simp only [normG, befG, turnQ, Int.mul_add, Int.add_mul, Int.mul_sub]
  omega

section
variable {f : Int} {hot : List Bool} {ls : List Sh} (hok : ∀ s ∈ ls, shOK s) (hf : 1 ≤ f ∧ f ≤ 8)
include hok hf
theorem turn_nonneg : ∀ j k, j + k = ls.length → 0 ≤ turnQ (st f hot ls k).last (st f hot ls k).cur
  | 0, k, h => by
    obtain rfl : k = ls.length := by omega
    rw [st_end]; decide
  | j + 1, k, h => by
    have hk : k < ls.length := by omega
    have hs : ls[k]? = some ls[k] := List.getElem?_eq_getElem hk
    have ih := turn_nonneg j (k + 1) (by omega)
    rw [st_step hs]
    simp only [vstep]
    rw [turn_bef, turn_plus]
    have hr := react_bd (h := hot.getD k false) hf (hok _ (List.mem_of_getElem? hs))
    have := Int.mul_nonneg (show 0 ≤ react f (hot.getD k false) ls[k] by omega) (norm_nonneg (plusG (st f hot ls (k + 1)).cur ls[k].g (st f hot ls (k + 1)).last))
    omega
theorem norm_step (k : Nat) (hk : k < ls.length) : normG (st f hot ls (k + 1)).last ≤ normG (st f hot ls k).last := by
  have hs : ls[k]? = some ls[k] := List.getElem?_eq_getElem hk
  have hq := turn_nonneg hok hf (hot := hot) (ls.length - (k + 1)) (k + 1) (by omega)
  rw [st_step hs]
  simp only [vstep]
  rw [norm_bef, turn_plus]
  have hr := react_bd (h := hot.getD k false) hf (hok _ (List.mem_of_getElem? hs))
  have h1 := Int.mul_nonneg (show 0 ≤ react f (hot.getD k false) ls[k] by omega) hq
  have h2 := Int.mul_nonneg (sq_nonneg (react f (hot.getD k false) ls[k])) (norm_nonneg (plusG (st f hot ls (k + 1)).cur ls[k].g (st f hot ls (k + 1)).last))
  omega
theorem norm_ge : ∀ j k, j + k = ls.length → 1 ≤ normG (st f hot ls k).last
  | 0, k, h => by
    obtain rfl : k = ls.length := by omega
    rw [st_end]; decide
  | j + 1, k, h => by
    have := norm_ge j (k + 1) (by omega)
    have := norm_step hok hf (hot := hot) k (by omega)
    omega
end

theorem powers_get {f : Int} {hot : List Bool} {ls : List Sh} {k : Nat} {s : Sh} (hs : ls[k]? = some s) : (powers f hot ls)[k]? = some (s.g * normG (st f hot ls (k + 1)).last) := by
  have hk := (List.getElem?_eq_some_iff.1 hs).1
  have hz : (nodes f hot ls)[k]? = some (st f hot ls (k + 1)).last := tail_at f hot ls k hk
  simp [powers, pwr, List.getElem?_zipWith, hs, hz, pw, normG]

theorem powers_down {f : Int} {hot : List Bool} {ls : List Sh} (hok : ∀ s ∈ ls, shOK s) (hf : 1 ≤ f ∧ f ≤ 8) (k : Nat) (s s' : Sh) (h : ls[k]? = some s) (h' : ls[k + 1]? = some s') (hg : s.g = s'.g) :
    (powers f hot ls).getD (k + 1) 0 ≤ (powers f hot ls).getD k 0 := by
  rw [List.getD, List.getD, powers_get h, powers_get h']
  have hk := (List.getElem?_eq_some_iff.1 h').1
  have := norm_step hok hf (hot := hot) (k + 1) hk
  have hgp := (hok s (List.mem_of_getElem? h)).1
  simp only [Option.getD_some]
  rw [← hg]
  exact Int.mul_le_mul_of_nonneg_left this (by omega)

/-- What goes in is what all shells take, from k on. -/
theorem real_sum (f : Int) (hot : List Bool) (ls : List Sh) : ∀ j k, j + k = ls.length → realP (st f hot ls k).last (st f hot ls k).cur = ((powers f hot ls).drop k).sum
  | 0, k, h => by
    obtain rfl : k = ls.length := by omega
    rw [st_end, List.drop_of_length_le (by rw [powers_len]; omega)]; decide
  | j + 1, k, h => by
    have hk : k < ls.length := by omega
    have hs : ls[k]? = some ls[k] := List.getElem?_eq_getElem hk
    have hp := powers_get (f := f) (hot := hot) hs
    obtain ⟨hkp, hpe⟩ := List.getElem?_eq_some_iff.1 hp
    rw [List.drop_eq_getElem_cons hkp, List.sum_cons, hpe, ← real_sum f hot ls j (k + 1) (by omega), st_step hs]
    simp only [vstep]
    rw [real_bef, real_plus]
    omega

end Go.Proofs.Ytpaoeghdfeekoaa
