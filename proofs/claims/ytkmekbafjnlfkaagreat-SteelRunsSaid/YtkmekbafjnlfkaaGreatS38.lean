/- The equation of a knot. -/
import Derived.Test.YtkmekbafjnlfkaaGreatS35

namespace Go.Proofs.YtkmekbafjnlfkaaGreat
open Go.RowKit Go.Shelf Go.Mem Go.RegInv
attribute [local go_sem] RelUpon_value RelUpon_skip RelUpon_enter BigFrame.eval_const BigFrame.eval_global BigFrame.eval_func

theorem rangeE_all (lo hi : Int) (l : List Int) : rangeE lo hi l = if l.all (fun x => withinB x lo hi) = true then 0 else 2 := by
  have h : l.any (outB lo hi) = !(l.all fun x => withinB x lo hi) := by
    induction l with
    | nil => rfl
    | cons x l ih => rw [List.any_cons, List.all_cons, ih, outB_not, Bool.not_and]
  unfold rangeE errIf
  rw [h]
  cases l.all (fun x => withinB x lo hi) <;> rfl
theorem flat_all : ∀ rs : List Rg, (flat rs).all (fun x => withinB x 0 1000000) = rs.all partB
  | [] => rfl
  | r :: l => by
    have := flat_all l
    unfold flat at this ⊢
    rw [List.flatMap_cons, List.all_append, this, List.all_cons]
    simp [partB]
/-- A knot's error, in the examples' words and in the program's. -/
theorem refK_own (k last g : Int) (rs : List Rg) (am : List Int) (rises : Bool) (ha : am = [g] ∨ (am = [] ∧ g = 0)) : refK k last rs g rises = firstE [ownE ⟨k, rs, am⟩, errIf (decide (k ≤ last) || !rises) 9] := by
  have hw : (am.all fun x => withinB x 0 1000000) = withinB g 0 1000000 := by
    rcases ha with rfl | ⟨rfl, rfl⟩
    · simp
    · rfl
  have h1 : ownE ⟨k, rs, am⟩ = firstE [if withinB k 1 3000 = true then 0 else 2, if (rs.all partB && withinB g 0 1000000) = true then 0 else 2, errIf (rs.any bwd) 3] := by
    unfold ownE kelE Kn.nums
    dsimp only
    rw [rangeE_one, rangeE_all, List.all_append, flat_all, hw]
  rw [h1]
  unfold refK
  cases withinB k 1 3000 <;> cases withinB g 0 1000000 <;> cases rs.all partB <;> cases rs.any bwd <;> by_cases h : k ≤ last <;> cases rises <;> simp [firstE, errIf, h]
/-- The knot j of a list, where the last kelvin and the rising are the former knot's. -/
theorem refK_knot {α : Type} {kn : α → Kn} {fol : Kn → Kn → Bool} {xs : List α} {j : Nat} {x : α} (h : xs[j]? = some x) (last g : Int) (rises : Bool) (ha : (kn x).am = [g] ∨ ((kn x).am = [] ∧ g = 0))
    (h0 : j = 0 → last < (kn x).k ∨ (kn x).k < 1) (hr0 : j = 0 → rises = true) (hj : ∀ i y, j = i + 1 → xs[i]? = some y → (!fol (kn y) (kn x)) = (decide ((kn x).k ≤ last) || !rises)) :
    refK (kn x).k last (kn x).rs g rises = knotE kn fol xs j := by
  rw [refK_own _ last g _ (kn x).am rises ha]
  unfold knotE
  rw [h]
  dsimp only
  rcases j with _ | i
  · rw [hr0 rfl]
    rcases h0 rfl with h1 | h1
    · simp only [Bool.not_true, Bool.or_false, decide_eq_false (show ¬ (kn x).k ≤ last by omega)]
    · have hz : ownE (kn x) ≠ 0 := by
        intro he
        have h2 := firstE_zero (l := [kelE (kn x).k, rangeE 0 1000000 (kn x).nums, errIf ((kn x).rs.any bwd) 3]) he (kelE (kn x).k) (by simp)
        have h3 := rangeE_zeros h2 (kn x).k (by simp)
        omega
      simp only [firstE, if_pos hz]
  · have hi : i < xs.length := by have := (List.getElem?_eq_some_iff.1 h).1; omega
    rw [show i + 1 - 1 = i by omega, List.getElem?_eq_getElem hi]
    dsimp only
    rw [hj i xs[i] rfl (List.getElem?_eq_getElem hi)]

end Go.Proofs.YtkmekbafjnlfkaaGreat
