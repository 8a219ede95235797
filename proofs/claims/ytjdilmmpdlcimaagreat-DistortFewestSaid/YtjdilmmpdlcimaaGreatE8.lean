/- Openers of shafts, presses and plans. -/
import Derived.Test.YtjdilmmpdlcimaaGreatQ0
import Derived.Test.YtjdilmmpdlcimaaGreatC1
import Derived.ChangeShapes
import Derived.ChangeSame

namespace Go.Proofs.YtjdilmmpdlcimaaGreat
open Go.RowKit Go.Shelf Go.Mem Go.RegInv
attribute [local go_sem] RelUpon_value RelUpon_skip RelUpon_enter BigFrame.eval_const BigFrame.eval_global BigFrame.eval_func

section
open Go.ChangeShapes Go.WideShapes Go.Deep
variable {H : Type} {enc : TypeId × Value → H} {w : World} {base : Nat} {spare : Nat → Bool} {held : Bool} {r : Reach} {b0 : Nat} {v : Value} {d : DataW H} {p : List MemPlace}
theorem open_int_row {fuel : Nat} {v : Value} {x : DataW H × List MemPlace} (h : DataW.trod enc Tryz.prog w base spare held fuel 22 [v] = some x) :
    ∃ A n cap xs, v = .slice A n cap ∧ (A = none → cap = 0) ∧ n ≤ cap ∧ cap ≤ maxLen ∧ xs.length = n ∧ (n ≤ 1152921504606846976 → RowsAt 1 I1 w A xs) :=
  open_rows 1 I1 (by decide) Tryz.underlying22 (by kernel_rfl) (fun fuel cs x h => by
    obtain ⟨z, rfl⟩ := elem1 Tryz.underlying3 h
    exact ⟨z, rfl⟩) h
theorem open_range_row {fuel : Nat} {v : Value} {x : DataW H × List MemPlace} (h : DataW.trod enc Tryz.prog w base spare held fuel 23 [v] = some x) :
    ∃ A n cap xs, v = .slice A n cap ∧ (A = none → cap = 0) ∧ n ≤ cap ∧ cap ≤ maxLen ∧ xs.length = n ∧ (n ≤ 1152921504606846976 → RowsAt 2 Rg.enc w A xs) :=
  open_rows 2 Rg.enc (by decide) Tryz.underlying23 (by kernel_rfl) (fun fuel cs x h => by
    obtain ⟨a, b, rfl⟩ := elem2 Tryz.underlying49 (by kernel_rfl) rfl rfl (by kernel_rfl) (by kernel_rfl) Tryz.underlying3 Tryz.underlying3 h
    exact ⟨(a, b), rfl⟩) h
set_option maxRecDepth 100000 in
theorem open_shaft (hv : Value.okWide Tryz.prog w r b0 25 v) (h : DataW.Trod enc Tryz.prog w base spare held 25 v d p) :
    ∃ (L : Int) (J : Option Addr) (n cj : Nat) (js : List Int) (K : Option Addr) (m ck : Nat) (ks : List Rg), v = .agg #[.int .i64 L, .slice J n cj, .slice K m ck] ∧ js.length = n ∧ ks.length = m ∧ (J = none → cj = 0) ∧ (K = none → ck = 0) ∧ n ≤ maxLen ∧ m ≤ maxLen ∧ (n ≤ 1000 → RowsAt 1 I1 w J js) ∧ (m ≤ 1000 → RowsAt 2 Rg.enc w K ks) := by
  have hu := Tryz.underlying25
  obtain ⟨cs, rfl, hsz⟩ : ∃ cs, v = .agg cs ∧ cs.size = Tryz.prog.cellsOf 25 := by
    unfold Value.okWide at hv
    simp only [hu] at hv
    cases v <;> simp_all
  obtain ⟨l⟩ := cs
  match l, hsz.trans (show Tryz.prog.cellsOf 25 = 3 by kernel_rfl) with
  | [c0, c1, c2], _ =>
    obtain ⟨fuel, hf⟩ := h
    obtain ⟨xs, n, _, _, _, hlen, hF⟩ := DataW.trod_struct hu hf
    match xs, hlen with
    | [y0, y1, y2], _ =>
      have h0 : DataW.trod enc Tryz.prog w base spare held n 3 [c0] = some y0 := hF 0 _ rfl
      have h1 : DataW.trod enc Tryz.prog w base spare held n 22 [c1] = some y1 := hF 1 _ rfl
      have h2 : DataW.trod enc Tryz.prog w base spare held n 23 [c2] = some y2 := hF 2 _ rfl
      obtain ⟨L, e0, _⟩ := DataW.trod_int (k := .i64) Tryz.underlying3 h0
      obtain ⟨J, n1, cj, js, rfl, a1, l1, m1, t1, r1⟩ := open_int_row h1
      obtain ⟨K, n2, ck, ks, rfl, a2, l2, m2, t2, r2⟩ := open_range_row h2
      simp at e0
      exact ⟨L, J, n1, cj, js, K, n2, ck, ks, by simp [e0], t1, t2, a1, a2, by omega, by omega, fun h => r1 (by omega), fun h => r2 (by omega)⟩
set_option maxRecDepth 100000 in
theorem open_press (hv : Value.okWide Tryz.prog w r b0 27 v) (h : DataW.Trod enc Tryz.prog w base spare held 27 v d p) :
    ∃ (P : Option Addr) (np cp : Nat) (am : List Int) (sp ga li : Int), v = .agg #[.slice P np cp, .int .i64 sp, .int .i64 ga, .int .i64 li] ∧ am.length = np ∧ (P = none → cp = 0) ∧ np ≤ maxLen ∧ (np ≤ 1000 → RowsAt 1 I1 w P am) := by
  have hu := Tryz.underlying27
  obtain ⟨cs, rfl, hsz⟩ : ∃ cs, v = .agg cs ∧ cs.size = Tryz.prog.cellsOf 27 := by
    unfold Value.okWide at hv
    simp only [hu] at hv
    cases v <;> simp_all
  obtain ⟨l⟩ := cs
  match l, hsz.trans (show Tryz.prog.cellsOf 27 = 4 by kernel_rfl) with
  | [c0, c1, c2, c3], _ =>
    obtain ⟨fuel, hf⟩ := h
    obtain ⟨xs, n, _, _, _, hlen, hF⟩ := DataW.trod_struct hu hf
    match xs, hlen with
    | [y0, y1, y2, y3], _ =>
      have h0 : DataW.trod enc Tryz.prog w base spare held n 22 [c0] = some y0 := hF 0 _ rfl
      have h1 : DataW.trod enc Tryz.prog w base spare held n 3 [c1] = some y1 := hF 1 _ rfl
      have h2 : DataW.trod enc Tryz.prog w base spare held n 3 [c2] = some y2 := hF 2 _ rfl
      have h3 : DataW.trod enc Tryz.prog w base spare held n 3 [c3] = some y3 := hF 3 _ rfl
      obtain ⟨P, n1, cp, am, rfl, a1, l1, m1, t1, r1⟩ := open_int_row h0
      obtain ⟨sp, e1, _⟩ := DataW.trod_int (k := .i64) Tryz.underlying3 h1
      obtain ⟨ga, e2, _⟩ := DataW.trod_int (k := .i64) Tryz.underlying3 h2
      obtain ⟨li, e3, _⟩ := DataW.trod_int (k := .i64) Tryz.underlying3 h3
      simp at e1 e2 e3
      exact ⟨P, n1, cp, am, sp, ga, li, by simp [e1, e2, e3], t1, a1, by omega, fun h => r1 (by omega)⟩
set_option maxRecDepth 100000 in
theorem elemSk {fuel : Nat} {cs : List Value} {x : DataW H × List MemPlace} (h : DataW.trod enc Tryz.prog w base spare held fuel 68 cs = some x) : ∃ z : Sk, cs = z.enc := by
  obtain ⟨xs, n, _, _, hl, hlen, hF⟩ := DataW.trod_struct Tryz.underlying68 h
  match cs, hl.trans (show Tryz.prog.cellsOf 68 = 3 by kernel_rfl), xs, hlen with
  | [c0, c1, c2], _, [y0, y1, y2], _ =>
    have h0 : DataW.trod enc Tryz.prog w base spare held n 3 [c0] = some y0 := hF 0 _ rfl
    have h1 : DataW.trod enc Tryz.prog w base spare held n 3 [c1] = some y1 := hF 1 _ rfl
    have h2 : DataW.trod enc Tryz.prog w base spare held n 4 [c2] = some y2 := hF 2 _ rfl
    obtain ⟨j, ej, _⟩ := DataW.trod_int (k := .i64) Tryz.underlying3 h0
    obtain ⟨a, ea, _⟩ := DataW.trod_int (k := .i64) Tryz.underlying3 h1
    obtain ⟨u, eu⟩ := elemB Tryz.underlying4 h2
    simp at ej ea eu
    exact ⟨⟨j, a, u⟩, by simp [Sk.enc, ej, ea, eu]⟩
theorem open_sk_row {fuel : Nat} {v : Value} {x : DataW H × List MemPlace} (h : DataW.trod enc Tryz.prog w base spare held fuel 32 [v] = some x) :
    ∃ A n cap xs, v = .slice A n cap ∧ (A = none → cap = 0) ∧ n ≤ cap ∧ cap ≤ maxLen ∧ xs.length = n ∧ (n ≤ 1152921504606846976 → RowsAt 3 Sk.enc w A xs) :=
  open_rows 3 Sk.enc (by decide) Tryz.underlying32 (by kernel_rfl) (fun fuel cs x h => elemSk h) h
set_option maxRecDepth 100000 in
theorem open_sks (hv : Value.okWide Tryz.prog w r b0 32 v) (h : DataW.Trod enc Tryz.prog w base spare held 32 v d p) :
    ∃ (A : Option Addr) (N ca : Nat) (l : List Sk), v = .slice A N ca ∧ l.length = N ∧ (A = none → ca = 0) ∧ N ≤ maxLen ∧ (N ≤ 1000 → RowsAt 3 Sk.enc w A l) := by
  obtain ⟨a0, len0, cap0, rfl⟩ := okWide_slice Tryz.underlying32 hv
  obtain ⟨fuel, hf⟩ := h
  obtain ⟨A, n, cap, xs, h1, h2, l1, m1, h3, h4⟩ := open_sk_row (v := .slice a0 len0 cap0) hf
  exact ⟨A, n, cap, xs, h1, h3, h2, by omega, fun h => h4 (by omega)⟩
set_option maxRecDepth 100000 in
theorem open_plan (hv : Value.okWide Tryz.prog w r b0 90 v) (h : DataW.Trod enc Tryz.prog w base spare held 90 v d p) :
    ∃ (A : Option Addr) (N ca : Nat) (l : List Sk) (t : Int), v = .agg #[.slice A N ca, .int .i64 t] ∧ l.length = N ∧ (A = none → ca = 0) ∧ N ≤ maxLen ∧ (N ≤ 1000 → RowsAt 3 Sk.enc w A l) := by
  have hu := Tryz.underlying90
  obtain ⟨cs, rfl, hsz⟩ : ∃ cs, v = .agg cs ∧ cs.size = Tryz.prog.cellsOf 90 := by
    unfold Value.okWide at hv
    simp only [hu] at hv
    cases v <;> simp_all
  obtain ⟨l⟩ := cs
  match l, hsz.trans (show Tryz.prog.cellsOf 90 = 2 by kernel_rfl) with
  | [c0, c1], _ =>
    obtain ⟨fuel, hf⟩ := h
    obtain ⟨xs, n, _, _, _, hlen, hF⟩ := DataW.trod_struct hu hf
    match xs, hlen with
    | [y0, y1], _ =>
      have h0 : DataW.trod enc Tryz.prog w base spare held n 32 [c0] = some y0 := hF 0 _ rfl
      have h1 : DataW.trod enc Tryz.prog w base spare held n 3 [c1] = some y1 := hF 1 _ rfl
      obtain ⟨A, n1, ca, l, rfl, a1, l1, m1, t1, r1⟩ := open_sk_row h0
      obtain ⟨t, e1, _⟩ := DataW.trod_int (k := .i64) Tryz.underlying3 h1
      simp at e1
      exact ⟨A, n1, ca, l, t, by simp [e1], t1, a1, by omega, fun h => r1 (by omega)⟩
set_option maxRecDepth 100000 in
theorem open_rg (hv : Value.okWide Tryz.prog w r b0 49 v) (h : DataW.Trod enc Tryz.prog w base spare held 49 v d p) : ∃ z0 z1, v = .agg #[.int .i64 z0, .int .i64 z1] := by
  have hu := Tryz.underlying49
  obtain ⟨cs, rfl, hsz⟩ : ∃ cs, v = .agg cs ∧ cs.size = Tryz.prog.cellsOf 49 := by
    unfold Value.okWide at hv
    simp only [hu] at hv
    cases v <;> simp_all
  obtain ⟨l⟩ := cs
  match l, hsz.trans (show Tryz.prog.cellsOf 49 = 2 by kernel_rfl) with
  | [c0, c1], _ =>
    obtain ⟨fuel, hf⟩ := h
    obtain ⟨a, b, e⟩ := elem2 (cs := [c0, c1]) Tryz.underlying49 (by kernel_rfl) rfl rfl (by kernel_rfl) (by kernel_rfl) Tryz.underlying3 Tryz.underlying3 hf
    simp at e
    exact ⟨a, b, by simp [e]⟩
set_option maxRecDepth 100000 in
theorem open_ints (hv : Value.okWide Tryz.prog w r b0 22 v) (h : DataW.Trod enc Tryz.prog w base spare held 22 v d p) :
    ∃ (A : Option Addr) (N ca : Nat) (l : List Int), v = .slice A N ca ∧ l.length = N ∧ (A = none → ca = 0) ∧ N ≤ maxLen ∧ (N ≤ 1000 → RowsAt 1 I1 w A l) := by
  obtain ⟨a0, len0, cap0, rfl⟩ := okWide_slice Tryz.underlying22 hv
  obtain ⟨fuel, hf⟩ := h
  obtain ⟨A, n, cap, xs, h1, h2, l1, m1, h3, h4⟩ := open_int_row (v := .slice a0 len0 cap0) hf
  exact ⟨A, n, cap, xs, h1, h3, h2, by omega, fun h => h4 (by omega)⟩
end

end Go.Proofs.YtjdilmmpdlcimaaGreat
