/- Arguments of the rows: two numbers, five numbers, a number. -/
import Derived.Test.YtpaoeghdfeekoaaMD
namespace Go.Proofs.Ytpaoeghdfeekoaa
open Go.ChangeShapes Go.WideShapes Go.RowKit Go.Deep Go.Mem
section
variable {H : Type} {enc : TypeId × Value → H} {P : Program} {w : World} {base : Nat} {spare : Nat → Bool} {held : Bool} {r : Reach} {b0 : Nat} {v : Value} {d : DataW H} {p : List MemPlace}
theorem trod_array2 {t e : TypeId} {fuel : Nat} {c0 c1 : Value} {x : DataW H × List MemPlace} (ht : P.underlying t = some (.array 2 e)) (hce : P.cellsOf e = 1)
    (h : DataW.trod enc P w base spare held fuel t [c0, c1] = some x) :
    ∃ y0 y1 n, DataW.trod enc P w base spare held n e [c0] = some y0 ∧ DataW.trod enc P w base spare held n e [c1] = some y1 := by
  cases fuel with
  | zero => simp [DataW.trod] at h
  | succ n =>
    unfold DataW.trod at h
    rw [ht] at h
    have r2 : List.range 2 = [0, 1] := rfl
    simp [r2, hce] at h
    obtain ⟨_, h⟩ := h
    cases h0 : DataW.trod enc P w base spare held n e [c0] with
    | none => simp [h0] at h
    | some y0 =>
      cases h1 : DataW.trod enc P w base spare held n e [c1] with
      | none => simp [h0, h1] at h
      | some y1 => exact ⟨y0, y1, n, h0, h1⟩
theorem trod_array5 {t e : TypeId} {fuel : Nat} {c0 c1 c2 c3 c4 : Value} {x : DataW H × List MemPlace} (ht : P.underlying t = some (.array 5 e)) (hce : P.cellsOf e = 1)
    (h : DataW.trod enc P w base spare held fuel t [c0, c1, c2, c3, c4] = some x) :
    ∃ y0 y1 y2 y3 y4 n, DataW.trod enc P w base spare held n e [c0] = some y0 ∧ DataW.trod enc P w base spare held n e [c1] = some y1 ∧ DataW.trod enc P w base spare held n e [c2] = some y2 ∧ DataW.trod enc P w base spare held n e [c3] = some y3 ∧ DataW.trod enc P w base spare held n e [c4] = some y4 := by
  cases fuel with
  | zero => simp [DataW.trod] at h
  | succ n =>
    unfold DataW.trod at h
    rw [ht] at h
    have r5 : List.range 5 = [0, 1, 2, 3, 4] := rfl
    simp [r5, hce] at h
    obtain ⟨_, h⟩ := h
    cases h0 : DataW.trod enc P w base spare held n e [c0] with
    | none => simp [h0] at h
    | some y0 =>
      cases h1 : DataW.trod enc P w base spare held n e [c1] with
      | none => simp [h0, h1] at h
      | some y1 =>
        cases h2 : DataW.trod enc P w base spare held n e [c2] with
        | none => simp [h0, h1, h2] at h
        | some y2 =>
          cases h3 : DataW.trod enc P w base spare held n e [c3] with
          | none => simp [h0, h1, h2, h3] at h
          | some y3 =>
            cases h4 : DataW.trod enc P w base spare held n e [c4] with
            | none => simp [h0, h1, h2, h3, h4] at h
            | some y4 => exact ⟨y0, y1, y2, y3, y4, n, h0, h1, h2, h3, h4⟩
set_option maxRecDepth 100000 in
theorem open_two (hv : Value.okWide Try.prog w r b0 82 v) (h : DataW.Trod enc Try.prog w base spare held 82 v d p) :
    ∃ a b, v = .agg #[.int .i64 a, .int .i64 b] := by
  have hu : Try.prog.underlying 82 = some (.array 2 3) := by kernel_rfl
  obtain ⟨cs, rfl, hsz⟩ : ∃ cs, v = .agg cs ∧ cs.size = Try.prog.cellsOf 82 := by
    unfold Value.okWide at hv
    simp only [hu] at hv
    cases v <;> simp_all
  obtain ⟨l⟩ := cs
  match l, hsz.trans (show Try.prog.cellsOf 82 = 2 by kernel_rfl) with
  | [c0, c1], _ =>
    obtain ⟨fuel, hf⟩ := h
    obtain ⟨y0, y1, n, h0, h1⟩ := trod_array2 hu (by kernel_rfl) hf
    obtain ⟨a, ha, _⟩ := DataW.trod_int (k := .i64) Try.underlying3 h0
    obtain ⟨b, hb, _⟩ := DataW.trod_int (k := .i64) Try.underlying3 h1
    simp at ha hb
    exact ⟨a, b, by rw [ha, hb]⟩
set_option maxRecDepth 100000 in
theorem open_five (hv : Value.okWide Try.prog w r b0 129 v) (h : DataW.Trod enc Try.prog w base spare held 129 v d p) :
    ∃ a b c e f, v = .agg #[.int .i64 a, .int .i64 b, .int .i64 c, .int .i64 e, .int .i64 f] := by
  have hu : Try.prog.underlying 129 = some (.array 5 3) := by kernel_rfl
  obtain ⟨cs, rfl, hsz⟩ : ∃ cs, v = .agg cs ∧ cs.size = Try.prog.cellsOf 129 := by
    unfold Value.okWide at hv
    simp only [hu] at hv
    cases v <;> simp_all
  obtain ⟨l⟩ := cs
  match l, hsz.trans (show Try.prog.cellsOf 129 = 5 by kernel_rfl) with
  | [c0, c1, c2, c3, c4], _ =>
    obtain ⟨fuel, hf⟩ := h
    obtain ⟨y0, y1, y2, y3, y4, n, h0, h1, h2, h3, h4⟩ := trod_array5 hu (by kernel_rfl) hf
    obtain ⟨a, ha, _⟩ := DataW.trod_int (k := .i64) Try.underlying3 h0
    obtain ⟨b, hb, _⟩ := DataW.trod_int (k := .i64) Try.underlying3 h1
    obtain ⟨c, hc, _⟩ := DataW.trod_int (k := .i64) Try.underlying3 h2
    obtain ⟨e, he, _⟩ := DataW.trod_int (k := .i64) Try.underlying3 h3
    obtain ⟨f, hf, _⟩ := DataW.trod_int (k := .i64) Try.underlying3 h4
    simp at ha hb hc he hf
    exact ⟨a, b, c, e, f, by rw [ha, hb, hc, he, hf]⟩
end
end Go.Proofs.Ytpaoeghdfeekoaa
