/- Classes: RangesOf, where all is valid. -/
import Derived.Test.YtpaoeghdfeekoaaK33
import Derived.Test.YtpaoeghdfeekoaaK31
namespace Go.Proofs.Ytpaoeghdfeekoaa
open Go.RowKit Go.Shelf Go.Mem Go.RegInv
attribute [local go_sem] RelUpon_value RelUpon_skip RelUpon_enter BigFrame.eval_const BigFrame.eval_global BigFrame.eval_func store_func

def rstep1 (a : G) (x : Int) : G := ⟨min a.re x, max a.im x⟩
def rstep (rs : List G) (ws : List Int) : List G := List.zipWith rstep1 rs ws
/-- The ranges behind some of the ladders. -/
def rangesK (total f : Int) (hot : List Bool) (n : Nat) (M : List (List Sh)) (j : Nat) : List G := (M.take j).foldl (fun rs x => rstep rs (wattsL total (powers f hot x) n)) (List.replicate n ⟨total, 0⟩)
theorem rangesK_succ {total f : Int} {hot : List Bool} {n : Nat} {M : List (List Sh)} {j : Nat} {x : List Sh} (h : M[j]? = some x) : rangesK total f hot n M (j + 1) = rstep (rangesK total f hot n M j) (wattsL total (powers f hot x) n) := by
  obtain ⟨hj, rfl⟩ := List.getElem?_eq_some_iff.1 h
  rw [rangesK, List.take_succ_eq_append_getElem hj, List.foldl_append]
  rfl
theorem rangesK_len (total f : Int) (hot : List Bool) (n : Nat) (M : List (List Sh)) : ∀ j, j ≤ M.length → (rangesK total f hot n M j).length = n
  | 0, _ => by simp [rangesK]
  | j + 1, hj => by
    rw [rangesK_succ (List.getElem?_eq_getElem (show j < M.length by omega)), rstep, List.length_zipWith, rangesK_len total f hot n M j (by omega), wattsL_len]; omega
/-- A block's first rows. -/
def RowsIs (cu : Array Value) (n : Nat) (rs : List G) : Prop := n * 2 ≤ cu.size ∧ ∀ (i : Nat) (r : G), rs[i]? = some r → cu[i * 2]? = some (.int .i64 r.re) ∧ cu[i * 2 + 1]? = some (.int .i64 r.im)
theorem RowsIs.fill {cu : Array Value} {n : Nat} {x y : Int} (h : FillAt cu n n x y) : RowsIs cu n (List.replicate n ⟨x, y⟩) := by
  refine ⟨Nat.le_of_eq h.1.symm, fun i r hr => ?_⟩
  have hi : i < n := by have := (List.getElem?_eq_some_iff.1 hr).1; simpa using this
  rw [List.getElem?_replicate, if_pos hi] at hr
  obtain rfl := Option.some.inj hr
  exact h.2 i hi
/-- The rows in the midst of a round: the first k of them are new. -/
def midL (rs : List G) (ws : List Int) (k : Nat) : List G := (rstep rs ws).take k ++ rs.drop k
theorem mid_zero (rs : List G) (ws : List Int) : midL rs ws 0 = rs := by simp [midL]
theorem mid_all {rs : List G} {ws : List Int} {n : Nat} (h1 : rs.length = n) (h2 : ws.length = n) : midL rs ws n = rstep rs ws := by
  unfold midL
  rw [List.drop_of_length_le (by omega), List.append_nil, List.take_of_length_le (by simp [rstep]; omega)]
theorem mid_at {rs : List G} {ws : List Int} {n k : Nat} (h1 : rs.length = n) (h2 : ws.length = n) (hk : k ≤ n) (i : Nat) : (midL rs ws k)[i]? = if i < k then (rstep rs ws)[i]? else rs[i]? := by
  unfold midL
  have hl : ((rstep rs ws).take k).length = k := by simp [rstep]; omega
  by_cases hi : i < k
  · rw [if_pos hi, List.getElem?_append_left (by omega), List.getElem?_take, if_pos hi]
  · rw [if_neg hi, List.getElem?_append_right (by omega), List.getElem?_drop, hl, show k + (i - k) = i by omega]
theorem RowsIs.step {cu : Array Value} {rs : List G} {ws : List Int} {n k : Nat} (h1 : rs.length = n) (h2 : ws.length = n) (hk : k < n) (h : RowsIs cu n (midL rs ws k)) {r : G} {x : Int} (hr : rs[k]? = some r) (hx : ws[k]? = some x) :
    RowsIs ((cu.setIfInBounds (k * 2) (.int .i64 (rstep1 r x).re)).setIfInBounds (k * 2 + 1) (.int .i64 (rstep1 r x).im)) n (midL rs ws (k + 1)) := by
  refine ⟨by simpa using h.1, fun i r' hr' => ?_⟩
  rw [mid_at h1 h2 (by omega)] at hr'
  have hs := h.1
  by_cases hi : i = k
  · subst hi
    rw [if_pos (by omega), rstep, List.getElem?_zipWith, hr, hx] at hr'
    obtain rfl := Option.some.inj hr'
    refine ⟨?_, ?_⟩
    · rw [Array.getElem?_setIfInBounds_ne (by omega), Array.getElem?_setIfInBounds_self_of_lt (by omega)]
    · rw [Array.getElem?_setIfInBounds_self_of_lt (by simp; omega)]
  · have hm : (midL rs ws k)[i]? = some r' := by
      rw [mid_at h1 h2 (by omega)]
      by_cases hik : i < k
      · rw [if_pos (by omega)] at hr'; rw [if_pos hik]; exact hr'
      · rw [if_neg (by omega)] at hr'; rw [if_neg hik]; exact hr'
    obtain ⟨a1, a2⟩ := h.2 i r' hm
    refine ⟨?_, ?_⟩
    · rw [Array.getElem?_setIfInBounds_ne (by omega), Array.getElem?_setIfInBounds_ne (by omega)]; exact a1
    · rw [Array.getElem?_setIfInBounds_ne (by omega), Array.getElem?_setIfInBounds_ne (by omega)]; exact a2
theorem grow_ok {L : List (List Sh)} {s : Sh} {r : G} (hL : ∀ x ∈ L, ∀ y ∈ x, shOK y) (hs : shOK s) (hr : 1 ≤ r.re ∧ r.re ≤ r.im ∧ r.im ≤ 4) : ∀ x ∈ grow L s r, ∀ y ∈ x, shOK y := by
  intro x hx y hy
  obtain ⟨z, hz, hx⟩ := List.mem_flatMap.1 hx
  obtain ⟨g, hg, rfl⟩ := List.mem_map.1 hx
  rcases List.mem_append.1 hy with h | h
  · exact hL z hz y h
  · obtain rfl : y = { s with g := g } := by simpa using h
    obtain ⟨i, hi, rfl⟩ := List.mem_map.1 hg
    have := List.mem_range.1 hi
    exact ⟨⟨by dsimp only; omega, by dsimp only; omega⟩, hs.2⟩
theorem members_ok (ls : List Sh) (rs : List G) (hs : ∀ s ∈ ls, shOK s) (hr : ∀ r ∈ rs, 1 ≤ r.re ∧ r.re ≤ r.im ∧ r.im ≤ 4) : ∀ k, ∀ x ∈ membersK ls rs k, ∀ y ∈ x, shOK y
  | 0 => by simp [membersK]
  | k + 1 => by
    rw [membersK]
    have ih := members_ok ls rs hs hr k
    split
    · next s r h1 h2 => exact grow_ok ih (hs _ (List.mem_of_getElem? h1)) (hr _ (List.mem_of_getElem? h2))
    · exact ih
theorem endsE_zero {r : G} (h : endsE 1 4 r = 0) : 1 ≤ r.re ∧ r.re ≤ r.im ∧ r.im ≤ 4 := by
  have h2 := (firstE_zero _).1 h
  have h3 := (rangeE_zero 1 4 [r.re, r.im]).1 (h2 _ (by simp))
  have h4 := (errIf_zero (show (9 : Int) ≠ 0 by decide)).1 (h2 (errIf (decide (r.im < r.re)) 9) (by simp))
  have h5 := h3 r.re (by simp)
  have h6 := h3 r.im (by simp)
  simp at h4
  omega
theorem firstRg_zero : ∀ (l : List G) (i : Nat), (firstRg l i).2 = 0 → ∀ r ∈ l, 1 ≤ r.re ∧ r.re ≤ r.im ∧ r.im ≤ 4
  | [], _ => by simp
  | s :: l, i => by
    intro h
    rw [firstRg] at h
    by_cases hz : endsE 1 4 s = 0
    · rw [if_neg (by simp [hz])] at h
      intro r hr
      rcases List.mem_cons.1 hr with rfl | hr
      · exact endsE_zero hz
      · exact firstRg_zero l (i + 1) h r hr
    · rw [if_pos hz] at h; exact absurd h hz
theorem checkC_zero {t : Int} {ls : List Sh} {rs : List G} (h : (checkC t ls rs).2 = 0) : (checkL t ls).2 = 0 ∧ rs.length = ls.length ∧ ∀ r ∈ rs, 1 ≤ r.re ∧ r.re ≤ r.im ∧ r.im ≤ 4 := by
  unfold checkC at h
  by_cases h1 : (checkL t ls).2 = 0
  · rw [if_neg (by simp [h1])] at h
    by_cases h2 : rs.length = ls.length
    · rw [if_neg (by simp [h2])] at h; exact ⟨h1, h2, firstRg_zero _ _ h⟩
    · rw [if_pos h2] at h; cases h
  · rw [if_pos h1] at h; exact absurd h h1

end Go.Proofs.Ytpaoeghdfeekoaa
