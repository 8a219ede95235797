/- Arguments of the rows: three numbers. -/
import Derived.Test.YtpaoeghdfeekoaaQ1
import Derived.Laws.IdiomArrays
namespace Go.Proofs.Ytpaoeghdfeekoaa
open Go.ChangeShapes Go.WideShapes Go.RowKit Go.Deep Go.Mem
section
variable {H : Type} {enc : TypeId × Value → H} {w : World} {base : Nat} {spare : Nat → Bool} {held : Bool} {r : Reach} {b0 : Nat} {v : Value} {d : DataW H} {p : List MemPlace}
set_option maxRecDepth 100000 in
theorem open_three (hv : Value.okWide Try.prog w r b0 66 v) (h : DataW.Trod enc Try.prog w base spare held 66 v d p) :
    ∃ a b c, v = .agg #[.int .i64 a, .int .i64 b, .int .i64 c] := by
  have hu : Try.prog.underlying 66 = some (.array 3 3) := by kernel_rfl
  obtain ⟨cs, rfl, hsz⟩ : ∃ cs, v = .agg cs ∧ cs.size = Try.prog.cellsOf 66 := by
    unfold Value.okWide at hv
    simp only [hu] at hv
    cases v <;> simp_all
  obtain ⟨l⟩ := cs
  match l, hsz.trans (show Try.prog.cellsOf 66 = 3 by kernel_rfl) with
  | [c0, c1, c2], _ =>
    obtain ⟨fuel, hf⟩ := h
    obtain ⟨y0, y1, y2, n, _, h0, h1, h2⟩ := trod_array3 hu (by kernel_rfl) hf
    obtain ⟨a, ha, _⟩ := DataW.trod_int (k := .i64) Try.underlying3 h0
    obtain ⟨b, hb, _⟩ := DataW.trod_int (k := .i64) Try.underlying3 h1
    obtain ⟨c, hc, _⟩ := DataW.trod_int (k := .i64) Try.underlying3 h2
    simp at ha hb hc
    exact ⟨a, b, c, by rw [ha, hb, hc]⟩
end
end Go.Proofs.Ytpaoeghdfeekoaa
