/- Arguments of the rows: classes. -/
import Derived.Test.YtpaoeghdfeekoaaQ5
namespace Go.Proofs.Ytpaoeghdfeekoaa
open Go.ChangeShapes Go.WideShapes Go.RowKit Go.Deep Go.Mem
section
variable {H : Type} {enc : TypeId × Value → H} {w : World} {base : Nat} {spare : Nat → Bool} {held : Bool} {r : Reach} {b0 : Nat} {v : Value} {d : DataW H} {p : List MemPlace}
set_option maxRecDepth 100000 in
theorem in_ladder {fuel : Nat} {c0 c1 : Value} {x : DataW H × List MemPlace} (h : DataW.trod enc Try.prog w base spare held fuel 24 [c0, c1] = some x) :
    ∃ t A n cap xs, c0 = .int .i64 t ∧ c1 = .slice A n cap ∧ (A = none → cap = 0) ∧ xs.length = n ∧ (n ≤ 6 → RowsAt 3 Sh.enc w A xs) := by
  obtain ⟨y0, y1, n, _, _, h0, h1⟩ := trod_struct2 Try.underlying24 h
  have h0' : DataW.trod enc Try.prog w base spare held n 3 [c0] = some y0 := h0
  obtain ⟨t, ht, _⟩ := DataW.trod_int (k := .i64) Try.underlying3 h0'
  obtain ⟨A, m, cap, xs, rfl, hA, _, _, hx, hr⟩ := open_shells h1
  obtain rfl : c0 = .int .i64 t := by simpa using ht
  exact ⟨t, A, m, cap, xs, rfl, rfl, hA, hx, fun h => hr (by omega)⟩
set_option maxRecDepth 100000 in
theorem open_class (hv : Value.okWide Try.prog w r b0 120 v) (h : DataW.Trod enc Try.prog w base spare held 120 v d p) :
    ∃ t A n ca ls R m cr rs, v = .agg #[.int .i64 t, .slice A n ca, .slice R m cr] ∧ (A = none → ca = 0) ∧ ls.length = n ∧ (n ≤ 6 → RowsAt 3 Sh.enc w A ls) ∧ (R = none → cr = 0) ∧ rs.length = m ∧ (m ≤ 6 → RowsAt 2 G.enc w R rs) := by
  have hu := Try.underlying120
  obtain ⟨cs, rfl, hsz⟩ : ∃ cs, v = .agg cs ∧ cs.size = Try.prog.cellsOf 120 := by
    unfold Value.okWide at hv
    simp only [hu] at hv
    cases v <;> simp_all
  obtain ⟨l⟩ := cs
  match l, hsz.trans (show Try.prog.cellsOf 120 = 3 by kernel_rfl) with
  | [c0, c1, c2], _ =>
    obtain ⟨fuel, hf⟩ := h
    obtain ⟨y0, y1, n, _, _, h0, h1⟩ := trod_struct2 hu hf
    obtain ⟨t, A, m, ca, xs, rfl, rfl, a1, a2, a3⟩ := in_ladder (c0 := c0) (c1 := c1) h0
    obtain ⟨R, q, cr, ys, rfl, b1, _, _, b2, b3⟩ := open_range_row h1
    exact ⟨t, A, m, ca, xs, R, q, cr, ys, rfl, a1, a2, a3, b1, b2, fun h => b3 (by omega)⟩
end
end Go.Proofs.Ytpaoeghdfeekoaa
