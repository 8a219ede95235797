/- SteelCases: all, and the openers. -/
import Derived.Test.YtkmekbafjnlfkaaGreatS27

namespace Go.Proofs.YtkmekbafjnlfkaaGreat
open Go.RowKit Go.Shelf Go.Mem Go.RegInv
attribute [local go_sem] RelUpon_value RelUpon_skip RelUpon_enter BigFrame.eval_const BigFrame.eval_global BigFrame.eval_func

section
open Go.ChangeShapes Go.WideShapes Go.Deep
variable {H : Type} {enc : TypeId × Value → H} {w : World} {base : Nat} {spare : Nat → Bool} {held : Bool} {r : Reach} {b0 : Nat} {v : Value} {d : DataW H} {p : List MemPlace}
theorem open_range_row {fuel : Nat} {v : Value} {x : DataW H × List MemPlace} (h : DataW.trod enc Tryz.prog w base spare held fuel 75 [v] = some x) :
    ∃ A n cap xs, v = .slice A n cap ∧ (A = none → cap = 0) ∧ n ≤ cap ∧ cap ≤ maxLen ∧ xs.length = n ∧ (n ≤ 1152921504606846976 → RowsAt 2 Rg.enc w A xs) :=
  open_rows 2 Rg.enc (by decide) Tryz.underlying75 (by kernel_rfl) (fun fuel cs x h => by
    obtain ⟨a, b, rfl⟩ := elem2 Tryz.underlying66 (by kernel_rfl) rfl rfl (by kernel_rfl) (by kernel_rfl) Tryz.underlying3 Tryz.underlying3 h
    exact ⟨⟨a, b⟩, rfl⟩) h
set_option maxRecDepth 100000 in
theorem open_ranges (hv : Value.okWide Tryz.prog w r b0 75 v) (h : DataW.Trod enc Tryz.prog w base spare held 75 v d p) :
    ∃ A n cap xs, v = .slice A n cap ∧ (A = none → cap = 0) ∧ xs.length = n ∧ (n ≤ 1000 → RowsAt 2 Rg.enc w A xs) := by
  obtain ⟨a0, len0, cap0, rfl⟩ := okWide_slice Tryz.underlying75 hv
  obtain ⟨fuel, hf⟩ := h
  obtain ⟨A, n, cap, xs, h1, h2, _, _, h3, h4⟩ := open_range_row (v := .slice a0 len0 cap0) hf
  exact ⟨A, n, cap, xs, h1, h2, h3, fun h => h4 (by omega)⟩
end
set_option maxRecDepth 100000 in
theorem steelCases_few {A : Option Addr} {n ca : Nat} {w : World} (l more : Int) (h14 : (14 : Int) < (n : Int)) :
    Calls Tryz.prog 10 #[.slice A n ca, .int .i64 l, .int .i64 more] w fun e w' => e = .returned (.bool true) ∧ Ext w w' := by
  go_enter Tryz.func10, Tryz.ntmps10
  go_wp2_with (go_at_call 13; refine (awake_any _).mono ?_; rintro e W0 ⟨rfl, hx⟩; have X0 := Lib.hid hx; clear hx)
  go_ret
  exact ⟨rfl, X0.out⟩
theorem steelCases_any {A : Option Addr} {n ca : Nat} {xs : List Rg} {w : World} (l more : Int) (hn : xs.length = n) (hA : n ≤ 1000 → RowsAt 2 Rg.enc w A xs) (hnil : A = none → ca = 0) :
    Calls Tryz.prog 10 #[.slice A n ca, .int .i64 l, .int .i64 more] w fun e w' => e = .returned (.bool true) ∧ Ext w w' :=
  if h : n ≤ 14 then law_any l more hn (hA (by omega)) hnil else steelCases_few l more (by omega)

end Go.Proofs.YtkmekbafjnlfkaaGreat
