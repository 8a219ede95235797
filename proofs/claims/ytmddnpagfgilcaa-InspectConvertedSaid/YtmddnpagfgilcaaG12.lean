/- Opener of traverses. -/
import Derived.Test.YtmddnpagfgilcaaD2
import Derived.Test.YtmddnpagfgilcaaG1
import Derived.Test.YtmddnpagfgilcaaG5
import Derived.Lib.MinMax

namespace Go.Proofs.Ytmddnpagfgilcaa
open Go.RowKit Go.Shelf Go.Mem Go.RegInv
attribute [local go_sem] RelUpon_value RelUpon_skip RelUpon_enter BigFrame.eval_const BigFrame.eval_global BigFrame.eval_func


section
open Go.ChangeShapes Go.WideShapes Go.Deep
variable {H : Type} {enc : TypeId × Value → H} {w : World} {base : Nat} {spare : Nat → Bool} {held : Bool} {r : Reach} {b0 : Nat} {v : Value} {d : DataW H} {p : List MemPlace}
set_option maxRecDepth 100000 in
theorem elemIn {fuel : Nat} {cs : List Value} {x : DataW H × List MemPlace} (h : DataW.trod enc Try.prog w base spare held fuel 43 cs = some x) : ∃ z : In, cs = z.enc := by
  obtain ⟨xs, n, _, _, hl, hlen, hF⟩ := DataW.trod_struct Try.underlying43 h
  match cs, hl.trans (show Try.prog.cellsOf 43 = 4 by kernel_rfl), xs, hlen with
  | [c0, c1, c2, c3], _, [y0, y1, y2], _ =>
    have h0 : DataW.trod enc Try.prog w base spare held n 3 [c0] = some y0 := hF 0 _ rfl
    have h1 : DataW.trod enc Try.prog w base spare held n 3 [c1] = some y1 := hF 1 _ rfl
    have h2 : DataW.trod enc Try.prog w base spare held n 41 [c2, c3] = some y2 := hF 2 _ rfl
    obtain ⟨k, ek, _⟩ := DataW.trod_int (k := .i64) Try.underlying3 h0
    obtain ⟨k1, ek1, _⟩ := DataW.trod_int (k := .i64) Try.underlying3 h1
    obtain ⟨lo, hi, elo⟩ := elem2 (cs := [c2, c3]) Try.underlying41 (by kernel_rfl) rfl rfl (by kernel_rfl) (by kernel_rfl) Try.underlying3 Try.underlying3 h2
    simp at ek ek1 elo
    exact ⟨⟨k, k1, lo, hi⟩, by simp [In.enc, ek, ek1, elo]⟩
theorem open_in_row {fuel : Nat} {v : Value} {x : DataW H × List MemPlace} (h : DataW.trod enc Try.prog w base spare held fuel 22 [v] = some x) :
    ∃ A n cap xs, v = .slice A n cap ∧ (A = none → cap = 0) ∧ n ≤ cap ∧ cap ≤ maxLen ∧ xs.length = n ∧ (n ≤ 1152921504606846976 → RowsAt 4 In.enc w A xs) :=
  open_rows 4 In.enc (by decide) Try.underlying22 (by kernel_rfl) (fun fuel cs x h => by
    obtain ⟨z, rfl⟩ := elemIn h
    exact ⟨z, rfl⟩) h
set_option maxRecDepth 100000 in
theorem open_traverse (hv : Value.okWide Try.prog w r b0 24 v) (h : DataW.Trod enc Try.prog w base spare held 24 v d p) :
    ∃ A n ca xs, v = .agg #[.slice A n ca] ∧ (A = none → ca = 0) ∧ n ≤ maxLen ∧ xs.length = n ∧ (n ≤ 1000 → RowsAt 4 In.enc w A xs) := by
  have hu := Try.underlying24
  obtain ⟨cs, rfl, hsz⟩ : ∃ cs, v = .agg cs ∧ cs.size = Try.prog.cellsOf 24 := by
    unfold Value.okWide at hv
    simp only [hu] at hv
    cases v <;> simp_all
  obtain ⟨l⟩ := cs
  match l, hsz.trans (show Try.prog.cellsOf 24 = 1 by kernel_rfl) with
  | [c0], _ =>
    obtain ⟨fuel, hf⟩ := h
    obtain ⟨xs, n, _, _, _, hlen, hF⟩ := DataW.trod_struct hu hf
    match xs, hlen with
    | [y0], _ =>
      have h0 : DataW.trod enc Try.prog w base spare held n 22 [c0] = some y0 := hF 0 _ rfl
      obtain ⟨A0, n0, d0, x0, rfl, a0, l1, l2, l0, r0⟩ := open_in_row h0
      exact ⟨A0, n0, d0, x0, rfl, a0, by omega, l0, fun h => r0 (by omega)⟩
end

end Go.Proofs.Ytmddnpagfgilcaa
