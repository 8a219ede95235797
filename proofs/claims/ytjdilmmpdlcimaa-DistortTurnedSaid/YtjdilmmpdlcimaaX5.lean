/- Openers of sections, stations and readings. -/
import Derived.Test.YtjdilmmpdlcimaaQ0
import Derived.Test.YtjdilmmpdlcimaaC1
import Derived.Test.YtjdilmmpdlcimaaEA
import Derived.ChangeShapes
import Derived.ChangeSame
import Derived.Laws.IdiomArrays

namespace Go.Proofs.Ytjdilmmpdlcimaa
open Go.RowKit Go.Shelf Go.Mem Go.RegInv
attribute [local go_sem] RelUpon_value RelUpon_skip RelUpon_enter BigFrame.eval_const BigFrame.eval_global BigFrame.eval_func

section
open Go.ChangeShapes Go.WideShapes Go.Deep
variable {H : Type} {enc : TypeId × Value → H} {w : World} {base : Nat} {spare : Nat → Bool} {held : Bool} {r : Reach} {b0 : Nat} {v : Value} {d : DataW H} {p : List MemPlace}
set_option maxRecDepth 100000 in
theorem elemSe {fuel : Nat} {cs : List Value} {x : DataW H × List MemPlace} (h : DataW.trod enc Try.prog w base spare held fuel 122 cs = some x) : ∃ z : Se, cs = z.enc := by
  obtain ⟨xs, n, _, _, hl, hlen, hF⟩ := DataW.trod_struct Try.underlying122 h
  match cs, hl.trans (show Try.prog.cellsOf 122 = 3 by kernel_rfl), xs, hlen with
  | [c0, c1, c2], _, [y0, y1], _ =>
    have h0 : DataW.trod enc Try.prog w base spare held n 3 [c0] = some y0 := hF 0 _ rfl
    have h1 : DataW.trod enc Try.prog w base spare held n 33 [c1, c2] = some y1 := hF 1 _ rfl
    obtain ⟨a, ea, _⟩ := DataW.trod_int (k := .i64) Try.underlying3 h0
    obtain ⟨lo, hi, e⟩ := elem2 (cs := [c1, c2]) Try.underlying33 (by kernel_rfl) rfl rfl (by kernel_rfl) (by kernel_rfl) Try.underlying3 Try.underlying3 h1
    simp at ea e
    exact ⟨⟨a, lo, hi⟩, by simp [Se.enc, ea, e]⟩
set_option maxRecDepth 100000 in
theorem elemSn {fuel : Nat} {cs : List Value} {x : DataW H × List MemPlace} (h : DataW.trod enc Try.prog w base spare held fuel 109 cs = some x) : ∃ z : Sn, cs = z.enc := by
  obtain ⟨xs, n, _, _, hl, hlen, hF⟩ := DataW.trod_struct Try.underlying109 h
  match cs, hl.trans (show Try.prog.cellsOf 109 = 3 by kernel_rfl), xs, hlen with
  | [c0, c1, c2], _, [y0, y1, y2], _ =>
    have h0 : DataW.trod enc Try.prog w base spare held n 3 [c0] = some y0 := hF 0 _ rfl
    have h1 : DataW.trod enc Try.prog w base spare held n 3 [c1] = some y1 := hF 1 _ rfl
    have h2 : DataW.trod enc Try.prog w base spare held n 3 [c2] = some y2 := hF 2 _ rfl
    obtain ⟨a, ea, _⟩ := DataW.trod_int (k := .i64) Try.underlying3 h0
    obtain ⟨b, eb, _⟩ := DataW.trod_int (k := .i64) Try.underlying3 h1
    obtain ⟨c, ec, _⟩ := DataW.trod_int (k := .i64) Try.underlying3 h2
    simp at ea eb ec
    exact ⟨⟨a, b, c⟩, by simp [Sn.enc, ea, eb, ec]⟩
theorem open_secs_row {fuel : Nat} {v : Value} {x : DataW H × List MemPlace} (h : DataW.trod enc Try.prog w base spare held fuel 86 [v] = some x) :
    ∃ A n cap xs, v = .slice A n cap ∧ (A = none → cap = 0) ∧ n ≤ cap ∧ cap ≤ maxLen ∧ xs.length = n ∧ (n ≤ 1152921504606846976 → RowsAt 3 Se.enc w A xs) :=
  open_rows 3 Se.enc (by decide) Try.underlying86 (by kernel_rfl) (fun fuel cs x h => elemSe h) h
set_option maxRecDepth 100000 in
theorem open_secs (hv : Value.okWide Try.prog w r b0 86 v) (h : DataW.Trod enc Try.prog w base spare held 86 v d p) :
    ∃ (A : Option Addr) (N ca : Nat) (l : List Se), v = .slice A N ca ∧ l.length = N ∧ (A = none → ca = 0) ∧ N ≤ maxLen ∧ (N ≤ 1000 → RowsAt 3 Se.enc w A l) := by
  obtain ⟨a0, len0, cap0, rfl⟩ := okWide_slice Try.underlying86 hv
  obtain ⟨fuel, hf⟩ := h
  obtain ⟨A, n, cap, xs, h1, h2, l1, m1, h3, h4⟩ := open_secs_row (v := .slice a0 len0 cap0) hf
  exact ⟨A, n, cap, xs, h1, h3, h2, by omega, fun h => h4 (by omega)⟩
theorem open_stns_row {fuel : Nat} {v : Value} {x : DataW H × List MemPlace} (h : DataW.trod enc Try.prog w base spare held fuel 88 [v] = some x) :
    ∃ A n cap xs, v = .slice A n cap ∧ (A = none → cap = 0) ∧ n ≤ cap ∧ cap ≤ maxLen ∧ xs.length = n ∧ (n ≤ 1152921504606846976 → RowsAt 3 Sn.enc w A xs) :=
  open_rows 3 Sn.enc (by decide) Try.underlying88 (by kernel_rfl) (fun fuel cs x h => elemSn h) h
set_option maxRecDepth 100000 in
theorem open_stns (hv : Value.okWide Try.prog w r b0 88 v) (h : DataW.Trod enc Try.prog w base spare held 88 v d p) :
    ∃ (A : Option Addr) (N ca : Nat) (l : List Sn), v = .slice A N ca ∧ l.length = N ∧ (A = none → ca = 0) ∧ N ≤ maxLen ∧ (N ≤ 1000 → RowsAt 3 Sn.enc w A l) := by
  obtain ⟨a0, len0, cap0, rfl⟩ := okWide_slice Try.underlying88 hv
  obtain ⟨fuel, hf⟩ := h
  obtain ⟨A, n, cap, xs, h1, h2, l1, m1, h3, h4⟩ := open_stns_row (v := .slice a0 len0 cap0) hf
  exact ⟨A, n, cap, xs, h1, h3, h2, by omega, fun h => h4 (by omega)⟩
set_option maxRecDepth 100000 in
theorem open_four (hv : Value.okWide Try.prog w r b0 87 v) (h : DataW.Trod enc Try.prog w base spare held 87 v d p) :
    ∃ a0 a1 a2 a3, v = .agg #[.int .i64 a0, .int .i64 a1, .int .i64 a2, .int .i64 a3] := by
  have hu : Try.prog.underlying 87 = some (.array 4 3) := by kernel_rfl
  obtain ⟨cs, rfl, hsz⟩ : ∃ cs, v = .agg cs ∧ cs.size = Try.prog.cellsOf 87 := by
    unfold Value.okWide at hv
    simp only [hu] at hv
    cases v <;> simp_all
  obtain ⟨l⟩ := cs
  match l, hsz.trans (show Try.prog.cellsOf 87 = 4 by kernel_rfl) with
  | [c0, c1, c2, c3], _ =>
    obtain ⟨fuel, hf⟩ := h
    obtain ⟨y0, y1, y2, y3, n, _, h0, h1, h2, h3⟩ := trod_array4 hu (by kernel_rfl) hf
    obtain ⟨a0, e0, _⟩ := DataW.trod_int (k := .i64) Try.underlying3 h0
    obtain ⟨a1, e1, _⟩ := DataW.trod_int (k := .i64) Try.underlying3 h1
    obtain ⟨a2, e2, _⟩ := DataW.trod_int (k := .i64) Try.underlying3 h2
    obtain ⟨a3, e3, _⟩ := DataW.trod_int (k := .i64) Try.underlying3 h3
    simp at e0 e1 e2 e3
    exact ⟨a0, a1, a2, a3, by rw [e0, e1, e2, e3]⟩
set_option maxRecDepth 100000 in
theorem open_three (hv : Value.okWide Try.prog w r b0 105 v) (h : DataW.Trod enc Try.prog w base spare held 105 v d p) :
    ∃ a0 a1 a2, v = .agg #[.int .i64 a0, .int .i64 a1, .int .i64 a2] := by
  have hu : Try.prog.underlying 105 = some (.array 3 3) := by kernel_rfl
  obtain ⟨cs, rfl, hsz⟩ : ∃ cs, v = .agg cs ∧ cs.size = Try.prog.cellsOf 105 := by
    unfold Value.okWide at hv
    simp only [hu] at hv
    cases v <;> simp_all
  obtain ⟨l⟩ := cs
  match l, hsz.trans (show Try.prog.cellsOf 105 = 3 by kernel_rfl) with
  | [c0, c1, c2], _ =>
    obtain ⟨fuel, hf⟩ := h
    obtain ⟨y0, y1, y2, n, _, h0, h1, h2⟩ := trod_array3 hu (by kernel_rfl) hf
    obtain ⟨a0, e0, _⟩ := DataW.trod_int (k := .i64) Try.underlying3 h0
    obtain ⟨a1, e1, _⟩ := DataW.trod_int (k := .i64) Try.underlying3 h1
    obtain ⟨a2, e2, _⟩ := DataW.trod_int (k := .i64) Try.underlying3 h2
    simp at e0 e1 e2
    exact ⟨a0, a1, a2, by rw [e0, e1, e2]⟩
end
def BowsP (t : Int) (m : Nat) (bl : List Bw) (B : Option Addr) (k : Nat) (W : World) : Prop := (t = 0 → k = m ∧ RowsAt 4 Bw.enc W B bl) ∧ (t ≠ 0 → k = 0)
theorem BowsP.ext {t : Int} {m k : Nat} {bl : List Bw} {B : Option Addr} {W W' : World} (h : BowsP t m bl B k W) (e : Ext W W') : BowsP t m bl B k W' := ⟨fun h0 => ⟨(h.1 h0).1, (h.1 h0).2.ext e⟩, h.2⟩

end Go.Proofs.Ytjdilmmpdlcimaa
