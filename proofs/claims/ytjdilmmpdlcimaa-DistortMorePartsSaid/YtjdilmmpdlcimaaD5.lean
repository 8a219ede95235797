/- Openers. -/
import Derived.Test.YtjdilmmpdlcimaaD1
import Derived.ChangeShapes
import Derived.ChangeSame

namespace Go.Proofs.Ytjdilmmpdlcimaa
open Go.RowKit Go.Shelf Go.Mem Go.RegInv
attribute [local go_sem] RelUpon_value RelUpon_skip RelUpon_enter BigFrame.eval_const BigFrame.eval_global BigFrame.eval_func


section
open Go.ChangeShapes Go.WideShapes Go.Deep
variable {H : Type} {enc : TypeId × Value → H} {w : World} {base : Nat} {spare : Nat → Bool} {held : Bool} {r : Reach} {b0 : Nat} {v : Value} {d : DataW H} {p : List MemPlace}
theorem wf_I64 {z : Int} (h : (Lit.int .i64 z).wf = true) : I64 z := by
  have h1 : (decide (IntKind.i64.min ≤ z) && decide (z ≤ IntKind.i64.max)) = true := h
  have e1 : IntKind.i64.min = -9223372036854775808 := by decide
  have e2 : IntKind.i64.max = 9223372036854775807 := by decide
  rw [e1, e2] at h1
  unfold I64
  simpa using h1
set_option maxRecDepth 100000 in
theorem open_frac (hv : Value.okWide Try.prog w r b0 112 v) (h : DataW.Trod enc Try.prog w base spare held 112 v d p) : ∃ a b, v = .agg #[.int .i64 a, .int .i64 b] ∧ I64 a ∧ I64 b := by
  have hu := Try.underlying112
  obtain ⟨cs, rfl, hsz⟩ : ∃ cs, v = .agg cs ∧ cs.size = Try.prog.cellsOf 112 := by
    unfold Value.okWide at hv
    simp only [hu] at hv
    cases v <;> simp_all
  obtain ⟨l⟩ := cs
  match l, hsz.trans (show Try.prog.cellsOf 112 = 2 by kernel_rfl) with
  | [c0, c1], _ =>
    obtain ⟨fuel, hf⟩ := h
    obtain ⟨y0, y1, n, _, _, h0, h1⟩ := trod_struct2 Try.underlying112 hf
    obtain ⟨a, ea, _, wa⟩ := DataW.trod_int (k := .i64) Try.underlying3 (show DataW.trod enc Try.prog w base spare held n 3 [c0] = some _ from h0)
    obtain ⟨b, eb, _, wb⟩ := DataW.trod_int (k := .i64) Try.underlying3 (show DataW.trod enc Try.prog w base spare held n 3 [c1] = some _ from h1)
    simp at ea eb
    exact ⟨a, b, by simp [ea, eb], wf_I64 wa, wf_I64 wb⟩
end

end Go.Proofs.Ytjdilmmpdlcimaa
