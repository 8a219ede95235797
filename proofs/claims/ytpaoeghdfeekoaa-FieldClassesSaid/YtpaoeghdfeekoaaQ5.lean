/- Arguments of the rows: pairs of drives, wishes. -/
import Derived.Test.YtpaoeghdfeekoaaQ4
namespace Go.Proofs.Ytpaoeghdfeekoaa
open Go.ChangeShapes Go.WideShapes Go.RowKit Go.Deep Go.Mem
section
variable {H : Type} {enc : TypeId × Value → H} {w : World} {base : Nat} {spare : Nat → Bool} {held : Bool} {r : Reach} {b0 : Nat} {v : Value} {d : DataW H} {p : List MemPlace}
theorem open_range_row {fuel : Nat} {v : Value} {x : DataW H × List MemPlace} (h : DataW.trod enc Try.prog w base spare held fuel 99 [v] = some x) :
    ∃ A n cap xs, v = .slice A n cap ∧ (A = none → cap = 0) ∧ n ≤ cap ∧ cap ≤ maxLen ∧ xs.length = n ∧ (n ≤ 1152921504606846976 → RowsAt 2 G.enc w A xs) :=
  open_rows 2 G.enc (by decide) Try.underlying99 (by kernel_rfl) (fun fuel cs x h => by
    obtain ⟨a, b, rfl⟩ := elem2 Try.underlying132 (by kernel_rfl) rfl rfl (by kernel_rfl) (by kernel_rfl) Try.underlying3 Try.underlying3 h
    exact ⟨⟨a, b⟩, rfl⟩) h
set_option maxRecDepth 100000 in
theorem in_drive {fuel : Nat} {c0 c1 : Value} {x : DataW H × List MemPlace} (h : DataW.trod enc Try.prog w base spare held fuel 27 [c0, c1] = some x) :
    ∃ t A n cap xs, c0 = .int .i64 t ∧ c1 = .slice A n cap ∧ (A = none → cap = 0) ∧ xs.length = n ∧ (n ≤ 6 → RowsAt 1 boolEnc w A xs) := by
  obtain ⟨y0, y1, n, _, _, h0, h1⟩ := trod_struct2 Try.underlying27 h
  have h0' : DataW.trod enc Try.prog w base spare held n 3 [c0] = some y0 := h0
  obtain ⟨t, ht, _⟩ := DataW.trod_int (k := .i64) Try.underlying3 h0'
  obtain ⟨A, m, cap, xs, rfl, hA, _, _, hx, hr⟩ := open_bool_row h1
  obtain rfl : c0 = .int .i64 t := by simpa using ht
  exact ⟨t, A, m, cap, xs, rfl, rfl, hA, hx, fun h => hr (by omega)⟩
set_option maxRecDepth 100000 in
theorem in_shape {fuel : Nat} {c0 c1 : Value} {x : DataW H × List MemPlace} (h : DataW.trod enc Try.prog w base spare held fuel 101 [c0, c1] = some x) :
    ∃ t A n cap xs, c0 = .int .i64 t ∧ c1 = .slice A n cap ∧ (A = none → cap = 0) ∧ xs.length = n ∧ (n ≤ 6 → RowsAt 2 G.enc w A xs) := by
  obtain ⟨y0, y1, n, _, _, h0, h1⟩ := trod_struct2 Try.underlying101 h
  have h0' : DataW.trod enc Try.prog w base spare held n 3 [c0] = some y0 := h0
  obtain ⟨t, ht, _⟩ := DataW.trod_int (k := .i64) Try.underlying3 h0'
  obtain ⟨A, m, cap, xs, rfl, hA, _, _, hx, hr⟩ := open_range_row h1
  obtain rfl : c0 = .int .i64 t := by simpa using ht
  exact ⟨t, A, m, cap, xs, rfl, rfl, hA, hx, fun h => hr (by omega)⟩
set_option maxRecDepth 100000 in
theorem open_pair (hv : Value.okWide Try.prog w r b0 96 v) (h : DataW.Trod enc Try.prog w base spare held 96 v d p) :
    ∃ f B m cb hota g D q cd hotb, v = .agg #[.int .i64 f, .slice B m cb, .int .i64 g, .slice D q cd] ∧ (B = none → cb = 0) ∧ hota.length = m ∧ (m ≤ 6 → RowsAt 1 boolEnc w B hota) ∧ (D = none → cd = 0) ∧ hotb.length = q ∧ (q ≤ 6 → RowsAt 1 boolEnc w D hotb) := by
  have hu := Try.underlying96
  obtain ⟨cs, rfl, hsz⟩ : ∃ cs, v = .agg cs ∧ cs.size = Try.prog.cellsOf 96 := by
    unfold Value.okWide at hv
    simp only [hu] at hv
    cases v <;> simp_all
  obtain ⟨l⟩ := cs
  match l, hsz.trans (show Try.prog.cellsOf 96 = 4 by kernel_rfl) with
  | [c0, c1, c2, c3], _ =>
    obtain ⟨fuel, hf⟩ := h
    obtain ⟨y0, y1, n, _, _, h0, h1⟩ := trod_struct2 hu hf
    obtain ⟨f, B, m, cb, xs, rfl, rfl, a1, a2, a3⟩ := in_drive (c0 := c0) (c1 := c1) h0
    obtain ⟨g, D, q, cd, ys, rfl, rfl, b1, b2, b3⟩ := in_drive (c0 := c2) (c1 := c3) h1
    exact ⟨f, B, m, cb, xs, g, D, q, cd, ys, rfl, a1, a2, a3, b1, b2, b3⟩
set_option maxRecDepth 100000 in
theorem open_wishes (hv : Value.okWide Try.prog w r b0 103 v) (h : DataW.Trod enc Try.prog w base spare held 103 v d p) :
    ∃ pc dep a b tot C M cz rs, v = .agg #[.int .i64 pc, .int .i64 dep, .int .i64 a, .int .i64 b, .int .i64 tot, .slice C M cz] ∧ (C = none → cz = 0) ∧ rs.length = M ∧ (M ≤ 6 → RowsAt 2 G.enc w C rs) := by
  have hu := Try.underlying103
  obtain ⟨cs, rfl, hsz⟩ : ∃ cs, v = .agg cs ∧ cs.size = Try.prog.cellsOf 103 := by
    unfold Value.okWide at hv
    simp only [hu] at hv
    cases v <;> simp_all
  obtain ⟨l⟩ := cs
  match l, hsz.trans (show Try.prog.cellsOf 103 = 6 by kernel_rfl) with
  | [c0, c1, c2, c3, c4, c5], _ =>
    obtain ⟨fuel, hf⟩ := h
    obtain ⟨y0, y1, y2, n, _, _, h0, h1, h2⟩ := trod_struct3 hu hf
    obtain ⟨pc, dep, hpd⟩ := elem2 (cs := [c0, c1]) Try.underlying98 (by kernel_rfl) rfl rfl (by kernel_rfl) (by kernel_rfl) Try.underlying3 Try.underlying3 h0
    obtain ⟨z0, z1, n1, k0, k1⟩ := trod_array2 (c0 := c2) (c1 := c3) Try.underlying82 (by kernel_rfl) h1
    obtain ⟨a, ha, _⟩ := DataW.trod_int (k := .i64) Try.underlying3 k0
    obtain ⟨b, hb, _⟩ := DataW.trod_int (k := .i64) Try.underlying3 k1
    obtain ⟨tot, C, M, cz, rs, rfl, rfl, b1, b2, b3⟩ := in_shape (c0 := c4) (c1 := c5) h2
    simp at ha hb hpd
    obtain ⟨rfl, rfl⟩ := hpd
    exact ⟨pc, dep, a, b, tot, C, M, cz, rs, by rw [ha, hb], b1, b2, b3⟩
end
end Go.Proofs.Ytpaoeghdfeekoaa
