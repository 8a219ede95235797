/- Powers of valid ladders, as numbers. -/
import Derived.Test.YtpaoeghdfeekoaaA9
namespace Go.Proofs.Ytpaoeghdfeekoaa
open Go.RowKit Go.Mem

theorem out_bd {f : Int} {hot : List Bool} (hf : 1 ≤ f ∧ f ≤ 8) : ∀ (l : List (Nat × Sh)), (∀ x ∈ l, shOK x.2) → ∀ j z, (vfold f hot l).out[j]? = some z → Bd (bv j).1 z := by
  refine snoc_ind ?_ ?_
  · intro _ j z h
    match j, h with
    | 0, h =>
      obtain rfl : (⟨1, 0⟩ : G) = z := by simpa [vfold, vs0] using h
      simp [Bd, bv]
    | j + 1, h => simp [vfold, vs0] at h
  · intro l x ih h j z hz
    have h1 := ih (fun y hy => h y (by simp [hy]))
    have h2 := (vfold_bd (hot := hot) hf (l ++ [x]) h).1
    rw [vfold_snoc] at hz h2
    have hlen := vfold_len f hot l
    by_cases hj : j < (vfold f hot l).out.length
    · refine h1 j z ?_
      simp only [vstep] at hz
      rwa [List.getElem?_append_left hj] at hz
    · simp only [vstep] at hz h2
      rw [List.getElem?_append_right (by omega)] at hz
      have hj0 : j - (vfold f hot l).out.length = 0 := by
        have := (List.getElem?_eq_some_iff.1 hz).1
        simp at this; omega
      rw [hj0] at hz
      obtain rfl := (by simpa using hz : _ = z)
      have hjl : j = (l ++ [x]).length := by simp; omega
      rw [hjl]; exact h2

theorem pw_bd {s : Sh} {z : G} {B : Int} (hs : shOK s) (hB : 0 ≤ B) (hz : Bd B z) : (0 ≤ z.re * z.re ∧ z.re * z.re ≤ B * B) ∧ (0 ≤ z.im * z.im ∧ z.im * z.im ≤ B * B) ∧ 0 ≤ pw s z ∧ pw s z ≤ 8 * (B * B) := by
  obtain ⟨⟨a, b⟩, ⟨c, d⟩⟩ := hz
  have sq : ∀ x : Int, -B ≤ x → x ≤ B → 0 ≤ x * x ∧ x * x ≤ B * B := fun x h1 h2 => by
    refine ⟨?_, ?_⟩
    · rcases Int.le_total 0 x with h | h
      · exact Int.mul_nonneg h h
      · have := Int.mul_nonneg (show 0 ≤ -x by omega) (show 0 ≤ -x by omega)
        rwa [Int.neg_mul_neg] at this
    · rcases Int.le_total 0 x with h | h
      · exact Int.mul_le_mul h2 h2 h hB
      · have := Int.mul_le_mul (show -x ≤ B by omega) (show -x ≤ B by omega) (by omega) hB
        rwa [Int.neg_mul_neg] at this
  have h1 := sq z.re a b
  have h2 := sq z.im c d
  obtain ⟨hg1, hg2⟩ := hs.1
  have h3 : 0 ≤ z.re * z.re + z.im * z.im := by omega
  have h4 : pw s z ≤ 4 * (z.re * z.re + z.im * z.im) := Int.mul_le_mul_of_nonneg_right hg2 h3
  exact ⟨h1, h2, Int.mul_nonneg (by omega) h3, by omega⟩

theorem bv_le {j : Nat} (h : j ≤ 3) : 0 ≤ (bv j).1 ∧ (bv j).1 ≤ 2179841 := by
  match j, h with
  | 0, _ => decide
  | 1, _ => decide
  | 2, _ => decide
  | 3, _ => decide

/-- The nodes of a ladder. -/
def nodes (f : Int) (hot : List Bool) (ls : List Sh) : List G := (volts f hot ls).tail
theorem nodes_len (f : Int) (hot : List Bool) (ls : List Sh) : (nodes f hot ls).length = ls.length := by simp [nodes, volts_len]
theorem node_out (f : Int) (hot : List Bool) (ls : List Sh) (k : Nat) (hk : k < ls.length) : (nodes f hot ls)[k]? = (vfold f hot ((backE ls).map (·.1))).out[ls.length - 1 - k]? := by
  have hl : (vfold f hot ((backE ls).map (·.1))).out.length = ls.length + 1 := by rw [vfold_len, List.length_map, backE_length]
  unfold nodes volts
  rw [List.getElem?_tail, List.getElem?_reverse (by omega), hl]
  congr 1; omega
theorem vfold_first (f : Int) (hot : List Bool) : ∀ l : List (Nat × Sh), (vfold f hot l).out[0]? = some ⟨1, 0⟩ := by
  refine snoc_ind rfl ?_
  intro l x ih
  rw [vfold_snoc]
  simp only [vstep]
  rw [List.getElem?_append_left (by rw [vfold_len]; omega)]
  exact ih

def powers (f : Int) (hot : List Bool) (ls : List Sh) : List Int := pwr ls (nodes f hot ls)

theorem sum_facts : ∀ (l : List Int), (∀ x ∈ l, 0 ≤ x) → ∀ k, 0 ≤ (l.take k).sum ∧ (l.take k).sum ≤ l.sum
  | [], _, k => by simp
  | x :: l, h, 0 => by
    have := sum_facts l (fun y hy => h y (by simp [hy])) l.length
    rw [List.take_length] at this
    have hx := h x (by simp)
    simp only [List.take_zero, List.sum_nil, List.sum_cons]
    omega
  | x :: l, h, k + 1 => by
    have := sum_facts l (fun y hy => h y (by simp [hy])) k
    have hx := h x (by simp)
    simp only [List.take_succ_cons, List.sum_cons]
    omega

theorem powers_at {f : Int} {hot : List Bool} {ls : List Sh} (hok : ∀ s ∈ ls, shOK s) (hf : 1 ≤ f ∧ f ≤ 8) (k : Nat) (s : Sh) (z : G) (hs : ls[k]? = some s) (hz : (nodes f hot ls)[k]? = some z) : Bd (bv (ls.length - 1 - k)).1 z := by
  have hk := (List.getElem?_eq_some_iff.1 hs).1
  rw [node_out f hot ls k hk] at hz
  refine out_bd hf _ ?_ _ _ hz
  intro y hy
  obtain ⟨q, _, rfl⟩ := List.mem_map.1 hy
  exact hok _ (List.mem_of_getElem? q.2)

/-- What the loops ask of the powers. -/
structure PowersOK (l : List Int) : Prop where
  sum : 0 < l.sum ∧ l.sum ≤ 40000000000000
  part : ∀ k, 0 ≤ (l.take k).sum ∧ (l.take k).sum ≤ l.sum

theorem powers_len (f : Int) (hot : List Bool) (ls : List Sh) : (powers f hot ls).length = ls.length := by simp [powers, pwr, nodes_len]

theorem powers_ok {f : Int} {hot : List Bool} {ls : List Sh} (hok : ∀ s ∈ ls, shOK s) (hf : 1 ≤ f ∧ f ≤ 8) (h1 : 1 ≤ ls.length) (h4 : ls.length ≤ 4) : PowersOK (powers f hot ls) := by
  have at_ : ∀ k p, (powers f hot ls)[k]? = some p → 0 ≤ p ∧ p ≤ 8 * ((bv (ls.length - 1 - k)).1 * (bv (ls.length - 1 - k)).1) ∧ (k = ls.length - 1 → 1 ≤ p) := by
    intro k p hp
    have hk : k < ls.length := by have := (List.getElem?_eq_some_iff.1 hp).1; rwa [powers_len] at this
    obtain ⟨s, hs⟩ : ∃ s, ls[k]? = some s := ⟨_, List.getElem?_eq_getElem hk⟩
    obtain ⟨z, hz⟩ : ∃ z, (nodes f hot ls)[k]? = some z := ⟨_, List.getElem?_eq_getElem (by rw [nodes_len]; exact hk)⟩
    obtain rfl : pw s z = p := by simpa [powers, pwr, List.getElem?_zipWith, hs, hz] using hp
    have hsk := hok s (List.mem_of_getElem? hs)
    have hb := powers_at hok hf k s z hs hz
    have h := pw_bd hsk (bv_le (show ls.length - 1 - k ≤ 3 by omega)).1 hb
    refine ⟨h.2.2.1, h.2.2.2, fun hkl => ?_⟩
    rw [node_out f hot ls k hk, hkl, show ls.length - 1 - (ls.length - 1) = 0 by omega, vfold_first] at hz
    obtain rfl : (⟨1, 0⟩ : G) = z := by simpa using hz
    have := hsk.1
    simp only [pw]; omega
  have hpos : ∀ x ∈ powers f hot ls, 0 ≤ x := fun x hx => by
    obtain ⟨k, hk⟩ := List.mem_iff_getElem?.1 hx
    exact (at_ k x hk).1
  refine ⟨?_, sum_facts _ hpos⟩
  have hlen := powers_len f hot ls
  generalize powers f hot ls = l at *
  generalize ls.length = m at *
  have e0 : (bv 0).1 = 1 := rfl
  have e1 : (bv 1).1 = 129 := rfl
  have e2 : (bv 2).1 = 16769 := rfl
  have e3 : (bv 3).1 = 2179841 := rfl
  match l, hlen with
  | [a], h =>
    subst h
    have ha := at_ 0 a rfl
    simp only [List.length_cons, List.length_nil, Nat.zero_add, Nat.sub_self, e0] at ha
    simp only [List.sum_cons, List.sum_nil]
    have := ha.2.2 trivial
    omega
  | [a, b], h =>
    subst h
    have ha := at_ 0 a rfl
    have hb := at_ 1 b rfl
    simp only [List.length_cons, List.length_nil, Nat.zero_add, Nat.reduceAdd, Nat.reduceSub, e0, e1] at ha hb
    simp only [List.sum_cons, List.sum_nil]
    have := hb.2.2 trivial
    omega
  | [a, b, c], h =>
    subst h
    have ha := at_ 0 a rfl
    have hb := at_ 1 b rfl
    have hc := at_ 2 c rfl
    simp only [List.length_cons, List.length_nil, Nat.zero_add, Nat.reduceAdd, Nat.reduceSub, e0, e1, e2] at ha hb hc
    simp only [List.sum_cons, List.sum_nil]
    have := hc.2.2 trivial
    omega
  | [a, b, c, d], h =>
    subst h
    have ha := at_ 0 a rfl
    have hb := at_ 1 b rfl
    have hc := at_ 2 c rfl
    have hd := at_ 3 d rfl
    simp only [List.length_cons, List.length_nil, Nat.zero_add, Nat.reduceAdd, Nat.reduceSub, e0, e1, e2, e3] at ha hb hc hd
    simp only [List.sum_cons, List.sum_nil]
    have := hd.2.2 trivial
    omega
  | [], h => simp at h; omega
  | a :: b :: c :: d :: e :: r, h => simp at h; omega

theorem iter_bd {f : Int} {hot : List Bool} {ls : List Sh} (hok : ∀ s ∈ ls, shOK s) (hf : 1 ≤ f ∧ f ≤ 8) (h4 : ls.length ≤ 4) (k : Nat) (s : Sh) (z : G) (hs : ls[k]? = some s) (hz : (nodes f hot ls)[k]? = some z) :
    Big (z.re * z.re) ∧ Big (z.im * z.im) ∧ Big (s.g * (z.re * z.re + z.im * z.im)) := by
  have hb := bv_le (show ls.length - 1 - k ≤ 3 by omega)
  have h := pw_bd (hok s (List.mem_of_getElem? hs)) hb.1 (powers_at hok hf k s z hs hz)
  have h5 : (bv (ls.length - 1 - k)).1 * (bv (ls.length - 1 - k)).1 ≤ 2179841 * 2179841 := Int.mul_le_mul hb.2 hb.2 hb.1 (by decide)
  unfold pw at h
  unfold Big
  omega

end Go.Proofs.Ytpaoeghdfeekoaa
