/- Openers of tables and ranges. -/
import Derived.Test.YtmddnpagfgilcaaD2
import Derived.Test.YtmddnpagfgilcaaG1
import Derived.Lib.MinMax

namespace Go.Proofs.Ytmddnpagfgilcaa
open Go.RowKit Go.Shelf Go.Mem Go.RegInv
attribute [local go_sem] RelUpon_value RelUpon_skip RelUpon_enter BigFrame.eval_const BigFrame.eval_global BigFrame.eval_func


section
open Go.ChangeShapes Go.WideShapes Go.Deep
variable {H : Type} {enc : TypeId × Value → H} {w : World} {base : Nat} {spare : Nat → Bool} {held : Bool} {r : Reach} {b0 : Nat} {v : Value} {d : DataW H} {p : List MemPlace}
set_option maxRecDepth 100000 in
theorem elemKn {fuel : Nat} {cs : List Value} {x : DataW H × List MemPlace} (h : DataW.trod enc Try.prog w base spare held fuel 78 cs = some x) : ∃ z : Kn, cs = z.enc := by
  obtain ⟨y0, y1, n, _, hl, h0, h1⟩ := trod_struct2 Try.underlying78 h
  match cs, hl.trans (show Try.prog.cellsOf 78 = 3 by kernel_rfl) with
  | [c0, c1, c2], _ =>
    obtain ⟨k, ek, _⟩ := DataW.trod_int (k := .i64) Try.underlying3 (show DataW.trod enc Try.prog w base spare held n 3 [c0] = some _ from h0)
    obtain ⟨lo, hi, elo⟩ := elem2 (cs := [c1, c2]) Try.underlying41 (by kernel_rfl) rfl rfl (by kernel_rfl) (by kernel_rfl) Try.underlying3 Try.underlying3 h1
    simp at ek elo
    exact ⟨⟨k, lo, hi⟩, by simp [Kn.enc, ek, elo]⟩
theorem open_kn_row {fuel : Nat} {v : Value} {x : DataW H × List MemPlace} (h : DataW.trod enc Try.prog w base spare held fuel 62 [v] = some x) :
    ∃ A n cap xs, v = .slice A n cap ∧ (A = none → cap = 0) ∧ n ≤ cap ∧ cap ≤ maxLen ∧ xs.length = n ∧ (n ≤ 1152921504606846976 → RowsAt 3 Kn.enc w A xs) :=
  open_rows 3 Kn.enc (by decide) Try.underlying62 (by kernel_rfl) (fun fuel cs x h => by
    obtain ⟨z, rfl⟩ := elemKn h
    exact ⟨z, rfl⟩) h
set_option maxRecDepth 100000 in
theorem open_table (hv : Value.okWide Try.prog w r b0 64 v) (h : DataW.Trod enc Try.prog w base spare held 64 v d p) :
    ∃ A n ca xs, v = .agg #[.slice A n ca] ∧ (A = none → ca = 0) ∧ n ≤ maxLen ∧ xs.length = n ∧ (n ≤ 1000 → RowsAt 3 Kn.enc w A xs) := by
  have hu := Try.underlying64
  obtain ⟨cs, rfl, hsz⟩ : ∃ cs, v = .agg cs ∧ cs.size = Try.prog.cellsOf 64 := by
    unfold Value.okWide at hv
    simp only [hu] at hv
    cases v <;> simp_all
  obtain ⟨l⟩ := cs
  match l, hsz.trans (show Try.prog.cellsOf 64 = 1 by kernel_rfl) with
  | [c0], _ =>
    obtain ⟨fuel, hf⟩ := h
    obtain ⟨xs, n, _, _, _, hlen, hF⟩ := DataW.trod_struct hu hf
    match xs, hlen with
    | [y0], _ =>
      have h0 : DataW.trod enc Try.prog w base spare held n 62 [c0] = some y0 := hF 0 _ rfl
      obtain ⟨A0, n0, d0, x0, rfl, a0, l1, l2, l0, r0⟩ := open_kn_row h0
      exact ⟨A0, n0, d0, x0, rfl, a0, by omega, l0, fun h => r0 (by omega)⟩
set_option maxRecDepth 100000 in
theorem open_range (hv : Value.okWide Try.prog w r b0 41 v) (h : DataW.Trod enc Try.prog w base spare held 41 v d p) : ∃ z0 z1, v = .agg #[.int .i64 z0, .int .i64 z1] := by
  have hu := Try.underlying41
  obtain ⟨cs, rfl, hsz⟩ : ∃ cs, v = .agg cs ∧ cs.size = Try.prog.cellsOf 41 := by
    unfold Value.okWide at hv
    simp only [hu] at hv
    cases v <;> simp_all
  obtain ⟨l⟩ := cs
  match l, hsz.trans (show Try.prog.cellsOf 41 = 2 by kernel_rfl) with
  | [c0, c1], _ =>
    obtain ⟨fuel, hf⟩ := h
    obtain ⟨a, b, e⟩ := elem2 (cs := [c0, c1]) Try.underlying41 (by kernel_rfl) rfl rfl (by kernel_rfl) (by kernel_rfl) Try.underlying3 Try.underlying3 hf
    simp at e
    exact ⟨a, b, by simp [e]⟩
theorem trod_array2 {P : Program} {t e : TypeId} {fuel : Nat} {c0 c1 c2 c3 : Value} {x : DataW H × List MemPlace} (ht : P.underlying t = some (.array 2 e)) (hce : P.cellsOf e = 2) (h : DataW.trod enc P w base spare held fuel t [c0, c1, c2, c3] = some x) :
    ∃ y0 y1 n, DataW.trod enc P w base spare held n e [c0, c1] = some y0 ∧ DataW.trod enc P w base spare held n e [c2, c3] = some y1 := by
  cases fuel with
  | zero => simp [DataW.trod] at h
  | succ n =>
    unfold DataW.trod at h
    rw [ht] at h
    simp [show List.range 2 = [0, 1] from rfl, hce] at h
    obtain ⟨-, h⟩ := h
    cases h0 : DataW.trod enc P w base spare held n e [c0, c1] with
    | none => simp [h0] at h
    | some y0 =>
      cases h1 : DataW.trod enc P w base spare held n e [c2, c3] with
      | none => simp [h0, h1] at h
      | some y1 => exact ⟨y0, y1, n, h0, h1⟩
set_option maxRecDepth 100000 in
theorem open_ranges2 (hv : Value.okWide Try.prog w r b0 75 v) (h : DataW.Trod enc Try.prog w base spare held 75 v d p) : ∃ z0 z1 z2 z3, v = .agg #[.int .i64 z0, .int .i64 z1, .int .i64 z2, .int .i64 z3] := by
  have hu := (by kernel_rfl : Try.prog.underlying 75 = some (.array 2 41))
  obtain ⟨cs, rfl, hsz⟩ : ∃ cs, v = .agg cs ∧ cs.size = Try.prog.cellsOf 75 := by
    unfold Value.okWide at hv
    simp only [hu] at hv
    cases v <;> simp_all
  obtain ⟨l⟩ := cs
  match l, hsz.trans (show Try.prog.cellsOf 75 = 4 by kernel_rfl) with
  | [c0, c1, c2, c3], _ =>
    obtain ⟨fuel, hf⟩ := h
    obtain ⟨y0, y1, n, h0, h1⟩ := trod_array2 hu (by kernel_rfl) hf
    obtain ⟨a, b, e1⟩ := elem2 Try.underlying41 (by kernel_rfl) rfl rfl (by kernel_rfl) (by kernel_rfl) Try.underlying3 Try.underlying3 h0
    obtain ⟨c, d, e2⟩ := elem2 Try.underlying41 (by kernel_rfl) rfl rfl (by kernel_rfl) (by kernel_rfl) Try.underlying3 Try.underlying3 h1
    simp at e1 e2
    exact ⟨a, b, c, d, by simp [e1, e2]⟩
end

end Go.Proofs.Ytmddnpagfgilcaa
