/- Opener of ranges. -/
import Derived.Test.YtmddnpagfgilcaaD2
import Derived.Test.YtmddnpagfgilcaaG1
import Derived.Test.YtmddnpagfgilcaaG5
import Derived.Lib.MinMax

namespace Go.Proofs.Ytmddnpagfgilcaa
open Go.RowKit Go.Shelf Go.Mem Go.RegInv
attribute [local go_sem] RelUpon_value RelUpon_skip RelUpon_enter BigFrame.eval_const BigFrame.eval_global BigFrame.eval_func


section
open Go.ChangeShapes Go.WideShapes Go.Deep
variable {H : Type} {enc : TypeId × Value → H} {w : World} {base : Nat} {spare : Nat → Bool} {held : Bool} {r : Reach} {b0 : Nat} {v : Value} {d : DataW H} {p : List MemPlace}
theorem underlying86 : Try.prog.underlying 86 = some (.slice 41) := by kernel_rfl
theorem open_rng_row {fuel : Nat} {v : Value} {x : DataW H × List MemPlace} (h : DataW.trod enc Try.prog w base spare held fuel 86 [v] = some x) :
    ∃ A n cap xs, v = .slice A n cap ∧ (A = none → cap = 0) ∧ n ≤ cap ∧ cap ≤ maxLen ∧ xs.length = n ∧ (n ≤ 1152921504606846976 → RowsAt 2 frEnc w A xs) :=
  open_rows 2 frEnc (by decide) underlying86 (by kernel_rfl) (fun fuel cs x h => by
    obtain ⟨a, b, rfl⟩ := elem2 Try.underlying41 (by kernel_rfl) rfl rfl (by kernel_rfl) (by kernel_rfl) Try.underlying3 Try.underlying3 h
    exact ⟨(a, b), rfl⟩) h
set_option maxRecDepth 100000 in
theorem open_rngs (hv : Value.okWide Try.prog w r b0 86 v) (h : DataW.Trod enc Try.prog w base spare held 86 v d p) :
    ∃ A n cap xs, v = .slice A n cap ∧ (A = none → cap = 0) ∧ xs.length = n ∧ (n ≤ 1000 → RowsAt 2 frEnc w A xs) := by
  obtain ⟨a0, len0, cap0, rfl⟩ := okWide_slice underlying86 hv
  obtain ⟨fuel, hf⟩ := h
  obtain ⟨A, n, cap, xs, h1, h2, _, _, h3, h4⟩ := open_rng_row (v := .slice a0 len0 cap0) hf
  exact ⟨A, n, cap, xs, h1, h2, h3, fun h => h4 (by omega)⟩
end

end Go.Proofs.Ytmddnpagfgilcaa
