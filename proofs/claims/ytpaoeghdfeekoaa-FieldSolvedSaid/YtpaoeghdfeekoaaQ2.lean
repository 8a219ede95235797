/- Arguments of the rows: voltages. -/
import Derived.Test.YtpaoeghdfeekoaaQ1
namespace Go.Proofs.Ytpaoeghdfeekoaa
open Go.ChangeShapes Go.WideShapes Go.RowKit Go.Deep Go.Mem
section
variable {H : Type} {enc : TypeId × Value → H} {w : World} {base : Nat} {spare : Nat → Bool} {held : Bool} {r : Reach} {b0 : Nat} {v : Value} {d : DataW H} {p : List MemPlace}
set_option maxRecDepth 100000 in
theorem open_gausses (hv : Value.okWide Try.prog w r b0 53 v) (h : DataW.Trod enc Try.prog w base spare held 53 v d p) :
    ∃ A n cap xs, v = .slice A n cap ∧ (A = none → cap = 0) ∧ xs.length = n ∧ (n ≤ 8 → RowsAt 2 G.enc w A xs) := by
  obtain ⟨a0, len0, cap0, rfl⟩ := okWide_slice Try.underlying53 hv
  obtain ⟨fuel, hf⟩ := h
  obtain ⟨A, n, cap, xs, h1, h2, _, _, h3, h4⟩ := open_gauss_row (v := .slice a0 len0 cap0) hf
  exact ⟨A, n, cap, xs, h1, h2, h3, fun h => h4 (by omega)⟩
end
end Go.Proofs.Ytpaoeghdfeekoaa
