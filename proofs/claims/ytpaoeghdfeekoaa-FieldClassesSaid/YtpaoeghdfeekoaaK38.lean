/- Classes: RangesOf of a class that is read as such. -/
import Derived.Test.YtpaoeghdfeekoaaK37
namespace Go.Proofs.Ytpaoeghdfeekoaa
open Go.RowKit Go.Shelf Go.Mem Go.RegInv
attribute [local go_sem] RelUpon_value RelUpon_skip RelUpon_enter BigFrame.eval_const BigFrame.eval_global BigFrame.eval_func

def RgV (n : Nat) (L : List G) : Value → World → Prop := fun u W => ∃ g cu, u = .slice (some ⟨g, 0, none⟩) n n ∧ Blk W g 132 cu ∧ RowsIs cu n L
theorem RgV.ext {n : Nat} {L : List G} {u : Value} {W W' : World} (h : RgV n L u W) (e : Ext W W') : RgV n L u W' := by
  obtain ⟨g, cu, h1, h2, h3⟩ := h; exact ⟨g, cu, h1, h2.ext e, h3⟩
theorem rangesOf_V {t : Int} {ls : List Sh} {rs : List G} {f : Int} {hot : List Bool} {n : Nat} (hn : ls.length = n) (hr : rs.length = n) (hh : hot.length = n) (total : Int) (hc : (checkC t ls rs).2 = 0) (hd : driveE t ls f n = 0) (ht : rangeE 0 100000 [total] = 0) (W : World) (u v : Value) (h : ClsV t ls rs u W) (k : DrvV f hot v W) :
    Calls Try.prog 74 #[u, v, .int .i64 total] W (VPost W (TupV (RgV n (rangesK total f hot n (membersK ls rs n) (membersK ls rs n).length)) 0)) := by
  obtain ⟨A, n', c, R, m', d, h1, h2, rfl, h3, h4⟩ := h
  obtain ⟨B, q, cb, h5, rfl, h6⟩ := k
  obtain rfl : n = n' := hn.symm.trans h1.out
  obtain rfl : n = m' := hr.symm.trans h2.out
  obtain rfl : n = q := hh.symm.trans h5.out
  refine (rangesOf_ok t A n c ls hn R d rs hr f B cb hot hh total W h3.1 h4 h6 hc hd ht).mono ?_
  rintro e w' ⟨g, cu, rfl, hb, hro, hx⟩
  exact ⟨_, rfl, hx, _, rfl, g, cu, rfl, hb, hro⟩
/-- A class of the ladder alone. -/
theorem checkC_one {t : Int} {ls : List Sh} {gs : List Int} (h1 : (checkL t ls).2 = 0) (h2 : gs.length = ls.length) (h3 : ∀ g ∈ gs, 1 ≤ g ∧ g ≤ 4) : (checkC t ls (gs.map fun g => ⟨g, g⟩)).2 = 0 := by
  have hz : ∀ (l : List Int) (i : Nat), (∀ g ∈ l, 1 ≤ g ∧ g ≤ 4) → (firstRg (l.map fun g => (⟨g, g⟩ : G)) i).2 = 0 := by
    intro l
    induction l with
    | nil => intro i _; rfl
    | cons g l ih =>
      intro i h
      obtain ⟨a1, a2⟩ := h g (by simp)
      have he : endsE 1 4 (⟨g, g⟩ : G) = 0 := by
        rw [ends_cases4, if_pos ⟨by simp [inB]; omega, by simp [inB]; omega⟩, if_neg (by dsimp only; omega)]
      rw [List.map_cons, firstRg, if_neg (by simp [he])]
      exact ih (i + 1) (fun x hx => h x (by simp [hx]))
  unfold checkC
  rw [if_neg (by simp [h1]), if_neg (by simp [h2])]
  exact hz gs 0 h3

end Go.Proofs.Ytpaoeghdfeekoaa
