/- Classes: which ladder, and what its watts are to the ranges. -/
import Derived.Test.YtpaoeghdfeekoaaK35
import Derived.Test.YtpaoeghdfeekoaaK36
namespace Go.Proofs.Ytpaoeghdfeekoaa
open Go.RowKit Go.Shelf Go.Mem Go.RegInv
attribute [local go_sem] RelUpon_value RelUpon_skip RelUpon_enter BigFrame.eval_const BigFrame.eval_global BigFrame.eval_func

/-- The ladder with these conductances. -/
def pickL (ls : List Sh) (gs : List Int) : List Sh := List.zipWith (fun s g => { s with g := g }) ls gs
theorem pick_len {ls : List Sh} {gs : List Int} {n : Nat} (h1 : ls.length = n) (h2 : gs.length = n) : (pickL ls gs).length = n := by rw [pickL, List.length_zipWith, h1, h2]; omega
theorem pick_at {ls : List Sh} {gs : List Int} {k : Nat} {s : Sh} {g : Int} (hs : ls[k]? = some s) (hg : gs[k]? = some g) : (pickL ls gs)[k]? = some { s with g := g } := by
  rw [pickL, List.getElem?_zipWith, hs, hg]
theorem pick_take {ls : List Sh} {gs : List Int} {k : Nat} {s : Sh} {g : Int} (hs : ls[k]? = some s) (hg : gs[k]? = some g) : (pickL ls gs).take (k + 1) = (pickL ls gs).take k ++ [{ s with g := g }] := by
  obtain ⟨hk, e⟩ := List.getElem?_eq_some_iff.1 (pick_at hs hg)
  rw [List.take_succ_eq_append_getElem hk, e]
theorem pick_mem {ls : List Sh} {rs : List G} {gs : List Int} {n : Nat} (h1 : ls.length = n) (h2 : rs.length = n) (h3 : gs.length = n) (h : ∀ (i : Nat) (r : G) (g : Int), rs[i]? = some r → gs[i]? = some g → r.re ≤ g ∧ g ≤ r.im) : ∀ k, k ≤ n → (pickL ls gs).take k ∈ membersK ls rs k
  | 0, _ => by simp [membersK]
  | k + 1, hk => by
    have hs : ls[k]? = some ls[k] := List.getElem?_eq_getElem (by omega)
    have hr : rs[k]? = some rs[k] := List.getElem?_eq_getElem (by omega)
    have hg : gs[k]? = some gs[k] := List.getElem?_eq_getElem (by omega)
    rw [membersK_succ hs hr, pick_take hs hg]
    obtain ⟨a1, a2⟩ := h k _ _ hr hg
    exact List.mem_flatMap.2 ⟨_, pick_mem h1 h2 h3 h k (by omega), List.mem_map.2 ⟨_, irange_mem.2 ⟨a1, a2⟩, rfl⟩⟩
theorem irange_one (g : Int) : irange g g = [g] := by
  unfold irange
  rw [show (g - g + 1).toNat = 1 by omega]
  simp
theorem pick_only {ls : List Sh} {gs : List Int} {n : Nat} (h1 : ls.length = n) (h3 : gs.length = n) : ∀ k, k ≤ n → membersK ls (gs.map fun g => ⟨g, g⟩) k = [(pickL ls gs).take k]
  | 0, _ => by simp [membersK]
  | k + 1, hk => by
    have hs : ls[k]? = some ls[k] := List.getElem?_eq_getElem (by omega)
    have hg : gs[k]? = some gs[k] := List.getElem?_eq_getElem (by omega)
    have hr : (gs.map fun g => (⟨g, g⟩ : G))[k]? = some ⟨gs[k], gs[k]⟩ := by rw [List.getElem?_map, hg]; rfl
    rw [membersK_succ hs hr, pick_only h1 h3 k (by omega), pick_take hs hg]
    simp [grow, irange_one]
theorem ranges_hold {total f : Int} {hot : List Bool} {n : Nat} {M : List (List Sh)} : ∀ j, j ≤ M.length → ∀ x ∈ M.take j, ∀ (i : Nat) (r : G) (w : Int), (rangesK total f hot n M j)[i]? = some r → (wattsL total (powers f hot x) n)[i]? = some w → r.re ≤ w ∧ w ≤ r.im
  | 0, _ => by simp
  | j + 1, hj => by
    intro x hx i r w hr hw
    have hm : M[j]? = some M[j] := List.getElem?_eq_getElem (by omega)
    rw [rangesK_succ hm, rstep, List.getElem?_zipWith] at hr
    obtain ⟨a, ha⟩ : ∃ a, (rangesK total f hot n M j)[i]? = some a := by cases h : (rangesK total f hot n M j)[i]? with | none => rw [h] at hr; simp at hr | some a => exact ⟨a, rfl⟩
    obtain ⟨v, hv⟩ : ∃ v, (wattsL total (powers f hot M[j]) n)[i]? = some v := by cases h : (wattsL total (powers f hot M[j]) n)[i]? with | none => rw [h] at hr; rw [ha] at hr; simp at hr | some a => exact ⟨a, rfl⟩
    rw [ha, hv] at hr
    obtain rfl := Option.some.inj hr
    rw [List.take_succ_eq_append_getElem (show j < M.length by omega)] at hx
    simp only [rstep1]
    rcases List.mem_append.1 hx with h | h
    · have := ranges_hold j (by omega) x h i a w ha hw
      omega
    · obtain rfl : x = M[j] := by simpa using h
      rw [hv] at hw
      obtain rfl := Option.some.inj hw
      omega
theorem watts_within {total : Int} {l : List Int} (ht : 0 ≤ total ∧ total ≤ 100000) (hok : PowersOK l) (hp : ∀ x ∈ l, 0 ≤ x) {n i : Nat} {w : Int} (h : (wattsL total l n)[i]? = some w) : 0 ≤ w ∧ w ≤ total := by
  have hi : i < n := by have := (List.getElem?_eq_some_iff.1 h).1; rwa [wattsL_len] at this
  rw [watts_at hi] at h
  obtain rfl := Option.some.inj h
  have b1 := upTo_bd ht hok.sum hok.part i
  have b2 := upTo_bd ht hok.sum hok.part (i + 1)
  by_cases hl : i < l.length
  · have h1 : l[i]? = some l[i] := List.getElem?_eq_getElem hl
    have h2 := watts_bd ht hok h1 (hp _ (List.getElem_mem hl))
    omega
  · have : upTo total l (i + 1) = upTo total l i := by unfold upTo; rw [List.take_of_length_le (by omega), List.take_of_length_le (by omega)]
    omega
theorem ranges_one {total f : Int} {hot : List Bool} {n : Nat} {x : List Sh} (hw : ∀ (i : Nat) (w : Int), (wattsL total (powers f hot x) n)[i]? = some w → 0 ≤ w ∧ w ≤ total) : rangesK total f hot n [x] 1 = (wattsL total (powers f hot x) n).map fun w => ⟨w, w⟩ := by
  rw [show (1 : Nat) = 0 + 1 from rfl, rangesK_succ (x := x) rfl]
  refine List.ext_getElem? fun i => ?_
  rw [rstep, List.getElem?_zipWith, List.getElem?_map]
  by_cases hi : i < n
  · have h0 : (rangesK total f hot n [x] 0)[i]? = some ⟨total, 0⟩ := by simp [rangesK, hi]
    obtain ⟨w, hh⟩ : ∃ w, (wattsL total (powers f hot x) n)[i]? = some w := ⟨_, List.getElem?_eq_getElem (by rw [wattsL_len]; exact hi)⟩
    have := hw i w hh
    rw [h0, hh]
    simp only [rstep1, Option.map_some]
    congr 2 <;> omega
  · rw [List.getElem?_eq_none (l := wattsL total (powers f hot x) n) (by rw [wattsL_len]; omega)]
    cases (rangesK total f hot n [x] 0)[i]? <;> rfl
/-- The conductance that a number names in a range. -/
def gAt (r : G) (h : Int) : Int := r.re + h % (r.im - r.re + 1)
theorem gAt_in {r : G} (h : Int) (hr : r.re ≤ r.im) : r.re ≤ gAt r h ∧ gAt r h ≤ r.im := by
  have h1 := Int.emod_nonneg h (show r.im - r.re + 1 ≠ 0 by omega)
  have h2 := Int.emod_lt_of_pos h (show 0 < r.im - r.re + 1 by omega)
  unfold gAt; omega

set_option maxRecDepth 100000 in
theorem mod_any (x y : Int) (hy : 1 ≤ y ∧ y ≤ 4) (w : World) : Calls Try.prog 80 #[.int .i64 x, .int .i64 y] w fun e w' => e = .returned (.int .i64 (x % y)) ∧ w = w' := by
  have h0 : (y == 0) = false := by simp; omega
  have ht1 := Int.tmod_lt_of_pos x (show 0 < y by omega)
  have ht2 := Int.lt_tmod_of_pos x (show 0 < y by omega)
  have hw : IntKind.i64.wrap (Int.tmod x y) = Int.tmod x y := IntWalk.i64_in _ (by omega)
  by_cases hn : Int.tmod x y < 0
  · have hw2 : IntKind.i64.wrap (Int.tmod x y + y) = Int.tmod x y + y := IntWalk.i64_in _ (by omega)
    have he : x % y = Int.tmod x y + y := by
      have := Int.tmod_eq_emod (a := x) (b := y)
      have h1 := Int.emod_nonneg x (show y ≠ 0 by omega)
      split at this <;> omega
    rw [he]
    go_enter Try.func80, Try.ntmps80
    go_wp2
    go_ret
    exact ⟨rfl, rfl⟩
  · have he : x % y = Int.tmod x y := by
      have := Int.tmod_eq_emod (a := x) (b := y)
      have h1 := Int.emod_lt_of_pos x (show 0 < y by omega)
      have h2 := Int.emod_nonneg x (show y ≠ 0 by omega)
      split at this <;> omega
    rw [he]
    go_enter Try.func80, Try.ntmps80
    go_wp2
    go_ret
    exact ⟨rfl, rfl⟩

end Go.Proofs.Ytpaoeghdfeekoaa
