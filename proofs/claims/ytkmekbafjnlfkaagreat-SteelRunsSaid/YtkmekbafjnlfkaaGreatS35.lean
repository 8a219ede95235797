/- Arguments of the rows: rules. -/
import Derived.Test.YtkmekbafjnlfkaaGreatS34
import Derived.Laws.IdiomArrays

namespace Go.Proofs.YtkmekbafjnlfkaaGreat
open Go.RowKit Go.Shelf Go.Mem Go.RegInv
attribute [local go_sem] RelUpon_value RelUpon_skip RelUpon_enter BigFrame.eval_const BigFrame.eval_global BigFrame.eval_func

section
open Go.ChangeShapes Go.WideShapes Go.Deep
variable {H : Type} {enc : TypeId × Value → H} {w : World} {base : Nat} {spare : Nat → Bool} {held : Bool} {r : Reach} {b0 : Nat} {v : Value} {d : DataW H} {p : List MemPlace}
instance : Inhabited HK := ⟨⟨0, 0, 0, 0⟩⟩
instance : Inhabited CK := ⟨⟨0, 0, 0, 0, 0⟩⟩
instance : Inhabited DK := ⟨⟨0, 0, 0⟩⟩
instance : Inhabited TK := ⟨⟨0, 0⟩⟩

set_option maxRecDepth 100000 in
theorem elemHK {fuel : Nat} {cs : List Value} {x : DataW H × List MemPlace} (h : DataW.trod enc Tryz.prog w base spare held fuel 68 cs = some x) : ∃ z : HK, cs = z.enc := by
  obtain ⟨y0, y1, y2, n, _, hl, h0, h1, h2⟩ := trod_struct3 Tryz.underlying68 h
  match cs, hl.trans (show Tryz.prog.cellsOf 68 = 4 by kernel_rfl) with
  | [c0, c1, c2, c3], _ =>
    obtain ⟨k, ek, _⟩ := DataW.trod_int (k := .i64) Tryz.underlying3 (show DataW.trod enc Tryz.prog w base spare held n 3 [c0] = some _ from h0)
    obtain ⟨lo, hi, elo⟩ := elem2 (cs := [c1, c2]) Tryz.underlying66 (by kernel_rfl) rfl rfl (by kernel_rfl) (by kernel_rfl) Tryz.underlying3 Tryz.underlying3 h1
    obtain ⟨g, eg, _⟩ := DataW.trod_int (k := .i64) Tryz.underlying3 (show DataW.trod enc Tryz.prog w base spare held n 3 [c3] = some _ from h2)
    simp at ek elo eg
    exact ⟨⟨k, lo, hi, g⟩, by simp [HK.enc, ek, elo, eg]⟩

set_option maxRecDepth 100000 in
theorem elemCK {fuel : Nat} {cs : List Value} {x : DataW H × List MemPlace} (h : DataW.trod enc Tryz.prog w base spare held fuel 137 cs = some x) : ∃ z : CK, cs = z.enc := by
  obtain ⟨y0, y1, y2, n, _, hl, h0, h1, h2⟩ := trod_struct3 Tryz.underlying137 h
  match cs, hl.trans (show Tryz.prog.cellsOf 137 = 5 by kernel_rfl) with
  | [c0, c1, c2, c3, c4], _ =>
    obtain ⟨k, ek, _⟩ := DataW.trod_int (k := .i64) Tryz.underlying3 (show DataW.trod enc Tryz.prog w base spare held n 3 [c0] = some _ from h0)
    obtain ⟨lo, hi, elo⟩ := elem2 (cs := [c1, c2]) Tryz.underlying66 (by kernel_rfl) rfl rfl (by kernel_rfl) (by kernel_rfl) Tryz.underlying3 Tryz.underlying3 h1
    obtain ⟨ro, ri, ero⟩ := elem2 (cs := [c3, c4]) Tryz.underlying66 (by kernel_rfl) rfl rfl (by kernel_rfl) (by kernel_rfl) Tryz.underlying3 Tryz.underlying3 h2
    simp at ek elo ero
    exact ⟨⟨k, lo, hi, ro, ri⟩, by simp [CK.enc, ek, elo, ero]⟩

set_option maxRecDepth 100000 in
theorem elemDK {fuel : Nat} {cs : List Value} {x : DataW H × List MemPlace} (h : DataW.trod enc Tryz.prog w base spare held fuel 141 cs = some x) : ∃ z : DK, cs = z.enc := by
  obtain ⟨y0, y1, n, _, hl, h0, h1⟩ := trod_struct2 Tryz.underlying141 h
  match cs, hl.trans (show Tryz.prog.cellsOf 141 = 3 by kernel_rfl) with
  | [c0, c1, c2], _ =>
    obtain ⟨k, ek, _⟩ := DataW.trod_int (k := .i64) Tryz.underlying3 (show DataW.trod enc Tryz.prog w base spare held n 3 [c0] = some _ from h0)
    obtain ⟨lo, hi, elo⟩ := elem2 (cs := [c1, c2]) Tryz.underlying66 (by kernel_rfl) rfl rfl (by kernel_rfl) (by kernel_rfl) Tryz.underlying3 Tryz.underlying3 h1
    simp at ek elo
    exact ⟨⟨k, lo, hi⟩, by simp [DK.enc, ek, elo]⟩

set_option maxRecDepth 100000 in
theorem elemTK {fuel : Nat} {cs : List Value} {x : DataW H × List MemPlace} (h : DataW.trod enc Tryz.prog w base spare held fuel 145 cs = some x) : ∃ z : TK, cs = z.enc := by
  obtain ⟨y0, y1, n, _, hl, h0, h1⟩ := trod_struct2 Tryz.underlying145 h
  match cs, hl.trans (show Tryz.prog.cellsOf 145 = 2 by kernel_rfl) with
  | [c0, c1], _ =>
    obtain ⟨k, ek, _⟩ := DataW.trod_int (k := .i64) Tryz.underlying3 (show DataW.trod enc Tryz.prog w base spare held n 3 [c0] = some _ from h0)
    obtain ⟨q, eq, _⟩ := DataW.trod_int (k := .i64) Tryz.underlying3 (show DataW.trod enc Tryz.prog w base spare held n 3 [c1] = some _ from h1)
    simp at ek eq
    exact ⟨⟨k, q⟩, by simp [TK.enc, ek, eq]⟩

theorem open_hk_row {fuel : Nat} {v : Value} {x : DataW H × List MemPlace} (h : DataW.trod enc Tryz.prog w base spare held fuel 22 [v] = some x) :
    ∃ A n cap xs, v = .slice A n cap ∧ (A = none → cap = 0) ∧ n ≤ cap ∧ cap ≤ maxLen ∧ xs.length = n ∧ (n ≤ 1152921504606846976 → RowsAt 4 HK.enc w A xs) :=
  open_rows 4 HK.enc (by decide) Tryz.underlying22 (by kernel_rfl) (fun fuel cs x h => by
    obtain ⟨z, rfl⟩ := elemHK h
    exact ⟨z, rfl⟩) h

theorem open_ck_row {fuel : Nat} {v : Value} {x : DataW H × List MemPlace} (h : DataW.trod enc Tryz.prog w base spare held fuel 23 [v] = some x) :
    ∃ A n cap xs, v = .slice A n cap ∧ (A = none → cap = 0) ∧ n ≤ cap ∧ cap ≤ maxLen ∧ xs.length = n ∧ (n ≤ 1152921504606846976 → RowsAt 5 CK.enc w A xs) :=
  open_rows 5 CK.enc (by decide) Tryz.underlying23 (by kernel_rfl) (fun fuel cs x h => by
    obtain ⟨z, rfl⟩ := elemCK h
    exact ⟨z, rfl⟩) h

theorem open_dk_row {fuel : Nat} {v : Value} {x : DataW H × List MemPlace} (h : DataW.trod enc Tryz.prog w base spare held fuel 24 [v] = some x) :
    ∃ A n cap xs, v = .slice A n cap ∧ (A = none → cap = 0) ∧ n ≤ cap ∧ cap ≤ maxLen ∧ xs.length = n ∧ (n ≤ 1152921504606846976 → RowsAt 3 DK.enc w A xs) :=
  open_rows 3 DK.enc (by decide) Tryz.underlying24 (by kernel_rfl) (fun fuel cs x h => by
    obtain ⟨z, rfl⟩ := elemDK h
    exact ⟨z, rfl⟩) h

theorem open_tk_row {fuel : Nat} {v : Value} {x : DataW H × List MemPlace} (h : DataW.trod enc Tryz.prog w base spare held fuel 25 [v] = some x) :
    ∃ A n cap xs, v = .slice A n cap ∧ (A = none → cap = 0) ∧ n ≤ cap ∧ cap ≤ maxLen ∧ xs.length = n ∧ (n ≤ 1152921504606846976 → RowsAt 2 TK.enc w A xs) :=
  open_rows 2 TK.enc (by decide) Tryz.underlying25 (by kernel_rfl) (fun fuel cs x h => by
    obtain ⟨z, rfl⟩ := elemTK h
    exact ⟨z, rfl⟩) h

set_option maxRecDepth 100000 in
theorem open_rules (hv : Value.okWide Tryz.prog w r b0 28 v) (h : DataW.Trod enc Tryz.prog w base spare held 28 v d p) :
    ∃ A0 A1 A2 A3 n0 n1 n2 n3 c0 c1 c2 c3 r', v = .agg #[.slice A0 n0 c0, .slice A1 n1 c1, .slice A2 n2 c2, .slice A3 n3 c3, .int .i64 r'.h0, .int .i64 r'.h1, .int .i64 r'.h2, .int .i64 r'.h3] ∧ (n0 ≤ 10 → n1 ≤ 10 → n2 ≤ 10 → n3 ≤ 10 → RuIn r' v w) := by
  have hu := Tryz.underlying28
  obtain ⟨cs, rfl, hsz⟩ : ∃ cs, v = .agg cs ∧ cs.size = Tryz.prog.cellsOf 28 := by
    unfold Value.okWide at hv
    simp only [hu] at hv
    cases v <;> simp_all
  obtain ⟨l⟩ := cs
  match l, hsz.trans (show Tryz.prog.cellsOf 28 = 8 by kernel_rfl) with
  | [c0, c1, c2, c3, c4, c5, c6, c7], _ =>
    obtain ⟨fuel, hf⟩ := h
    obtain ⟨xs, n, _, _, _, hlen, hF⟩ := DataW.trod_struct hu hf
    match xs, hlen with
    | [y0, y1, y2, y3, y4], _ =>
      have h0 : DataW.trod enc Tryz.prog w base spare held n 22 [c0] = some y0 := hF 0 _ rfl
      have h1 : DataW.trod enc Tryz.prog w base spare held n 23 [c1] = some y1 := hF 1 _ rfl
      have h2 : DataW.trod enc Tryz.prog w base spare held n 24 [c2] = some y2 := hF 2 _ rfl
      have h3 : DataW.trod enc Tryz.prog w base spare held n 25 [c3] = some y3 := hF 3 _ rfl
      have h4 : DataW.trod enc Tryz.prog w base spare held n 26 [c4, c5, c6, c7] = some y4 := hF 4 _ rfl
      obtain ⟨A0, n0, d0, x0, rfl, a0, _, _, l0, r0⟩ := open_hk_row h0
      obtain ⟨A1, n1, d1, x1, rfl, a1, _, _, l1, r1⟩ := open_ck_row h1
      obtain ⟨A2, n2, d2, x2, rfl, a2, _, _, l2, r2⟩ := open_dk_row h2
      obtain ⟨A3, n3, d3, x3, rfl, a3, _, _, l3, r3⟩ := open_tk_row h3
      obtain ⟨q0, q1, q2, q3, m, _, k0, k1, k2, k3⟩ := trod_array4 (by kernel_rfl : Tryz.prog.underlying 26 = some (.array 4 3)) (by kernel_rfl) h4
      obtain ⟨z0, e0, _⟩ := DataW.trod_int (k := .i64) Tryz.underlying3 k0
      obtain ⟨z1, e1, _⟩ := DataW.trod_int (k := .i64) Tryz.underlying3 k1
      obtain ⟨z2, e2, _⟩ := DataW.trod_int (k := .i64) Tryz.underlying3 k2
      obtain ⟨z3, e3, _⟩ := DataW.trod_int (k := .i64) Tryz.underlying3 k3
      simp at e0 e1 e2 e3
      subst e0 e1 e2 e3
      exact ⟨A0, A1, A2, A3, n0, n1, n2, n3, d0, d1, d2, d3, ⟨x0, x1, x2, x3, z0, z1, z2, z3⟩, rfl, fun g0 g1 g2 g3 => ⟨A0, A1, A2, A3, n0, n1, n2, n3, d0, d1, d2, d3, rfl, ⟨l0, l1, l2, l3, r0 (by omega), r1 (by omega), r2 (by omega), r3 (by omega)⟩, a0, a1, a2, a3, g0, g1, g2, g3⟩⟩
end

end Go.Proofs.YtkmekbafjnlfkaaGreat
