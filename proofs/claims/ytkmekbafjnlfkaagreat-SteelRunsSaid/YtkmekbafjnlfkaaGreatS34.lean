/- Arguments of the rows: states and picks. -/
import Derived.Test.YtkmekbafjnlfkaaGreatS33

namespace Go.Proofs.YtkmekbafjnlfkaaGreat
open Go.RowKit Go.Shelf Go.Mem Go.RegInv
attribute [local go_sem] RelUpon_value RelUpon_skip RelUpon_enter BigFrame.eval_const BigFrame.eval_global BigFrame.eval_func

section
open Go.ChangeShapes Go.WideShapes Go.Deep
variable {H : Type} {enc : TypeId × Value → H} {w : World} {base : Nat} {spare : Nat → Bool} {held : Bool} {r : Reach} {b0 : Nat} {v : Value} {d : DataW H} {p : List MemPlace}

set_option maxRecDepth 100000 in
theorem open_state (hv : Value.okWide Tryz.prog w r b0 30 v) (h : DataW.Trod enc Tryz.prog w base spare held 30 v d p) :
    ∃ z0 z1 z2 z3 z4 z5 z6, v = .agg #[.int .i64 z0, .int .i64 z1, .int .i64 z2, .int .i64 z3, .int .i64 z4, .int .i64 z5, .int .i64 z6] := by
  have hu := Tryz.underlying30
  obtain ⟨cs, rfl, hsz⟩ : ∃ cs, v = .agg cs ∧ cs.size = Tryz.prog.cellsOf 30 := by
    unfold Value.okWide at hv
    simp only [hu] at hv
    cases v <;> simp_all
  obtain ⟨l⟩ := cs
  match l, hsz.trans (show Tryz.prog.cellsOf 30 = 7 by kernel_rfl) with
  | [c0, c1, c2, c3, c4, c5, c6], _ =>
    obtain ⟨fuel, hf⟩ := h
    obtain ⟨xs, n, _, _, _, hlen, hF⟩ := DataW.trod_struct hu hf
    match xs, hlen with
    | [y0, y1, y2, y3, y4, y5, y6], _ =>
      have h0 : DataW.trod enc Tryz.prog w base spare held n 3 [c0] = some y0 := hF 0 _ rfl
      obtain ⟨z0, e0, _⟩ := DataW.trod_int (k := .i64) Tryz.underlying3 h0
      have h1 : DataW.trod enc Tryz.prog w base spare held n 3 [c1] = some y1 := hF 1 _ rfl
      obtain ⟨z1, e1, _⟩ := DataW.trod_int (k := .i64) Tryz.underlying3 h1
      have h2 : DataW.trod enc Tryz.prog w base spare held n 3 [c2] = some y2 := hF 2 _ rfl
      obtain ⟨z2, e2, _⟩ := DataW.trod_int (k := .i64) Tryz.underlying3 h2
      have h3 : DataW.trod enc Tryz.prog w base spare held n 3 [c3] = some y3 := hF 3 _ rfl
      obtain ⟨z3, e3, _⟩ := DataW.trod_int (k := .i64) Tryz.underlying3 h3
      have h4 : DataW.trod enc Tryz.prog w base spare held n 3 [c4] = some y4 := hF 4 _ rfl
      obtain ⟨z4, e4, _⟩ := DataW.trod_int (k := .i64) Tryz.underlying3 h4
      have h5 : DataW.trod enc Tryz.prog w base spare held n 3 [c5] = some y5 := hF 5 _ rfl
      obtain ⟨z5, e5, _⟩ := DataW.trod_int (k := .i64) Tryz.underlying3 h5
      have h6 : DataW.trod enc Tryz.prog w base spare held n 3 [c6] = some y6 := hF 6 _ rfl
      obtain ⟨z6, e6, _⟩ := DataW.trod_int (k := .i64) Tryz.underlying3 h6
      simp at e0 e1 e2 e3 e4 e5 e6
      exact ⟨z0, z1, z2, z3, z4, z5, z6, by rw [e0, e1, e2, e3, e4, e5, e6]⟩

set_option maxRecDepth 100000 in
theorem open_pick (hv : Value.okWide Tryz.prog w r b0 32 v) (h : DataW.Trod enc Tryz.prog w base spare held 32 v d p) :
    ∃ z0 z1 z2, v = .agg #[.int .i64 z0, .int .i64 z1, .int .i64 z2] := by
  have hu := Tryz.underlying32
  obtain ⟨cs, rfl, hsz⟩ : ∃ cs, v = .agg cs ∧ cs.size = Tryz.prog.cellsOf 32 := by
    unfold Value.okWide at hv
    simp only [hu] at hv
    cases v <;> simp_all
  obtain ⟨l⟩ := cs
  match l, hsz.trans (show Tryz.prog.cellsOf 32 = 3 by kernel_rfl) with
  | [c0, c1, c2], _ =>
    obtain ⟨fuel, hf⟩ := h
    obtain ⟨xs, n, _, _, _, hlen, hF⟩ := DataW.trod_struct hu hf
    match xs, hlen with
    | [y0, y1, y2], _ =>
      have h0 : DataW.trod enc Tryz.prog w base spare held n 3 [c0] = some y0 := hF 0 _ rfl
      obtain ⟨z0, e0, _⟩ := DataW.trod_int (k := .i64) Tryz.underlying3 h0
      have h1 : DataW.trod enc Tryz.prog w base spare held n 3 [c1] = some y1 := hF 1 _ rfl
      obtain ⟨z1, e1, _⟩ := DataW.trod_int (k := .i64) Tryz.underlying3 h1
      have h2 : DataW.trod enc Tryz.prog w base spare held n 3 [c2] = some y2 := hF 2 _ rfl
      obtain ⟨z2, e2, _⟩ := DataW.trod_int (k := .i64) Tryz.underlying3 h2
      simp at e0 e1 e2
      exact ⟨z0, z1, z2, by rw [e0, e1, e2]⟩

end

end Go.Proofs.YtkmekbafjnlfkaaGreat
