/- SteelShares for all; the opener of runs. -/
import Derived.Test.YtkmekbafjnlfkaaGreatS47

namespace Go.Proofs.YtkmekbafjnlfkaaGreat
open Go.RowKit Go.Shelf Go.Mem Go.RegInv
attribute [local go_sem] RelUpon_value RelUpon_skip RelUpon_enter BigFrame.eval_const BigFrame.eval_global BigFrame.eval_func

section
open Go.ChangeShapes Go.WideShapes Go.Deep
variable {H : Type} {enc : TypeId × Value → H} {w : World} {base : Nat} {spare : Nat → Bool} {held : Bool} {r : Reach} {b0 : Nat} {v : Value} {d : DataW H} {p : List MemPlace}
theorem rows1_ints {W : World} {A : Option Addr} {n c : Nat} {xs : List Int} (hn : xs.length = n) (h : RowsAt 1 (fun x : Int => [Value.int .i64 x]) W A xs) : IntsAt W (.slice A n c) xs := by
  subst hn
  cases xs with
  | nil => exact .inl ⟨A, c, rfl, rfl⟩
  | cons y l =>
    obtain ⟨b, o, hA, hb, -⟩ := h.2 0 y rfl
    refine .inr ⟨b, o, c, by rw [hA], hb, h.1, fun i hi => ?_⟩
    obtain ⟨b', o', hA', -, hc⟩ := h.2 i _ (List.getElem?_eq_getElem hi)
    obtain ⟨rfl, rfl⟩ : b = b' ∧ o = o' := by simpa using hA.symm.trans hA'
    have := hc 0 _ rfl
    rw [List.getD_eq_getElem?_getD, List.getElem?_eq_getElem hi]
    simpa using this
theorem open_ints_row {fuel : Nat} {v : Value} {x : DataW H × List MemPlace} (h : DataW.trod enc Tryz.prog w base spare held fuel 46 [v] = some x) :
    ∃ A n cap xs, v = .slice A n cap ∧ (A = none → cap = 0) ∧ n ≤ cap ∧ cap ≤ maxLen ∧ xs.length = n ∧ (n ≤ 1152921504606846976 → RowsAt 1 (fun x : Int => [Value.int .i64 x]) w A xs) :=
  open_rows 1 (fun x : Int => [Value.int .i64 x]) (by decide) Tryz.underlying46 (by kernel_rfl) (fun fuel cs x h => by
    obtain ⟨z, e, _⟩ := DataW.trod_int (k := .i64) Tryz.underlying3 h
    exact ⟨z, e⟩) h
set_option maxRecDepth 100000 in
theorem open_run (hv : Value.okWide Tryz.prog w r b0 48 v) (h : DataW.Trod enc Tryz.prog w base spare held 48 v d p) :
    ∃ B n cb xs y0 y1 y2, v = .agg #[.slice B n cb, .int .i64 y0, .int .i64 y1, .int .i64 y2] ∧ (B = none → cb = 0) ∧ (n ≤ 1000 → IntsAt w (.slice B n cb) xs) := by
  have hu := Tryz.underlying48
  obtain ⟨cs, rfl, hsz⟩ : ∃ cs, v = .agg cs ∧ cs.size = Tryz.prog.cellsOf 48 := by
    unfold Value.okWide at hv
    simp only [hu] at hv
    cases v <;> simp_all
  obtain ⟨l⟩ := cs
  match l, hsz.trans (show Tryz.prog.cellsOf 48 = 4 by kernel_rfl) with
  | [c0, c1, c2, c3], _ =>
    obtain ⟨fuel, hf⟩ := h
    obtain ⟨xs, n, _, _, _, hlen, hF⟩ := DataW.trod_struct hu hf
    match xs, hlen with
    | [y0, y1], _ =>
      have h0 : DataW.trod enc Tryz.prog w base spare held n 46 [c0] = some y0 := hF 0 _ rfl
      have h1 : DataW.trod enc Tryz.prog w base spare held n 32 [c1, c2, c3] = some y1 := hF 1 _ rfl
      obtain ⟨A0, n0, d0, x0, rfl, a0, _, _, l0, r0⟩ := open_ints_row h0
      obtain ⟨q0, q1, q2, m, _, _, k0, k1, k2⟩ := trod_struct3 Tryz.underlying32 h1
      obtain ⟨z0, e0, _⟩ := DataW.trod_int (k := .i64) Tryz.underlying3 (show DataW.trod enc Tryz.prog w base spare held m 3 [c1] = some _ from k0)
      obtain ⟨z1, e1, _⟩ := DataW.trod_int (k := .i64) Tryz.underlying3 (show DataW.trod enc Tryz.prog w base spare held m 3 [c2] = some _ from k1)
      obtain ⟨z2, e2, _⟩ := DataW.trod_int (k := .i64) Tryz.underlying3 (show DataW.trod enc Tryz.prog w base spare held m 3 [c3] = some _ from k2)
      simp at e0 e1 e2
      subst e0 e1 e2
      exact ⟨A0, n0, d0, x0, z0, z1, z2, rfl, a0, fun g => rows1_ints l0 (r0 (by omega))⟩
end
set_option maxRecDepth 100000 in
theorem shares_many (r : Ru) (A0 A1 A2 A3 B : Option Addr) (n0 n1 n2 n3 c0 c1 c2 c3 n cb : Nat) (w : World) (s : St) (k : Pk) (h : ¬ (n0 ≤ 10 ∧ n1 ≤ 10 ∧ n2 ≤ 10 ∧ n3 ≤ 10) ∨ (30 : Int) < (n : Int)) :
    Calls Tryz.prog 5 #[.agg #[.slice A0 n0 c0, .slice A1 n1 c1, .slice A2 n2 c2, .slice A3 n3 c3, .int .i64 r.h0, .int .i64 r.h1, .int .i64 r.h2, .int .i64 r.h3], .agg #[.int .i64 s.p, .int .i64 s.a, .int .i64 s.b, .int .i64 s.m, .int .i64 s.wt, .int .i64 s.g, .int .i64 s.t], .agg #[.slice B n cb, .int .i64 k.h, .int .i64 k.c, .int .i64 k.d]] w fun e w' => e = .returned (.bool true) ∧ Ext w w' := by
  obtain ⟨W0, hW0⟩ : ∃ W0, W0 = ((w.alloc (.cells #[.slice A0 n0 c0, .slice A1 n1 c1, .slice A2 n2 c2, .slice A3 n3 c3, .int .i64 r.h0, .int .i64 r.h1, .int .i64 r.h2, .int .i64 r.h3] 28)).alloc (.cells #[.int .i64 s.p, .int .i64 s.a, .int .i64 s.b, .int .i64 s.m, .int .i64 s.wt, .int .i64 s.g, .int .i64 s.t] 30)).alloc (.cells #[.slice B n cb, .int .i64 k.h, .int .i64 k.c, .int .i64 k.d] 48) := ⟨_, rfl⟩
  have HI := Lib.hid (show BoxI w W0 48 #[.slice A0 n0 c0, .slice A1 n1 c1, .slice A2 n2 c2, .slice A3 n3 c3, .int .i64 r.h0, .int .i64 r.h1, .int .i64 r.h2, .int .i64 r.h3] s #[.slice B n cb, .int .i64 k.h, .int .i64 k.c, .int .i64 k.d] by rw [hW0]; exact BoxI.new _ _ _ _ _)
  have HFEW := Lib.hid (fun W => few_any A0 A1 A2 A3 n0 n1 n2 n3 c0 c1 c2 c3 r.h0 r.h1 r.h2 r.h3 W)
  by_cases h10 : n0 ≤ 10 ∧ n1 ≤ 10 ∧ n2 ≤ 10 ∧ n3 ≤ 10
  · rw [decide_eq_true h10] at HFEW
    have hn : (30 : Int) < (n : Int) := by rcases h with h | h; exact absurd h10 h; exact h
    have hn31 : decide ((30 : Int) < (n : Int)) = true := decide_eq_true hn
    clear h h10
    go_enter Tryz.func5, Tryz.ntmps5
    go_wp2_with (go_at_call 13; rw [← hW0]; refine (awake_any _).mono ?_; rintro e W1 ⟨rfl, hx⟩; have XT := Lib.hid hx; clear hx hW0; refine Hid.out ?_)
    refine Lib.hid ?_
    replace HI := Lib.hid (HI.out.ext XT.out)
    clear XT
    have y0 : W1.cell? ⟨w.heap.size, 0, none⟩ = some (.slice A0 n0 c0) := HI.out.k0.cell 0
    have y1 : W1.cell? ⟨w.heap.size, 1, none⟩ = some (.slice A1 n1 c1) := HI.out.k0.cell 1
    have y2 : W1.cell? ⟨w.heap.size, 2, none⟩ = some (.slice A2 n2 c2) := HI.out.k0.cell 2
    have y3 : W1.cell? ⟨w.heap.size, 3, none⟩ = some (.slice A3 n3 c3) := HI.out.k0.cell 3
    have y4 : W1.cell? ⟨w.heap.size, 4, none⟩ = some (.int .i64 r.h0) := HI.out.k0.cell 4
    have y5 : W1.cell? ⟨w.heap.size, 5, none⟩ = some (.int .i64 r.h1) := HI.out.k0.cell 5
    have y6 : W1.cell? ⟨w.heap.size, 6, none⟩ = some (.int .i64 r.h2) := HI.out.k0.cell 6
    have y7 : W1.cell? ⟨w.heap.size, 7, none⟩ = some (.int .i64 r.h3) := HI.out.k0.cell 7
    have x0 : W1.cell? ⟨w.heap.size + 1, 0, none⟩ = some (.int .i64 s.p) := HI.out.k1.cell 0
    have x1 : W1.cell? ⟨w.heap.size + 1, 1, none⟩ = some (.int .i64 s.a) := HI.out.k1.cell 1
    have x2 : W1.cell? ⟨w.heap.size + 1, 2, none⟩ = some (.int .i64 s.b) := HI.out.k1.cell 2
    have x3 : W1.cell? ⟨w.heap.size + 1, 3, none⟩ = some (.int .i64 s.m) := HI.out.k1.cell 3
    have x4 : W1.cell? ⟨w.heap.size + 1, 4, none⟩ = some (.int .i64 s.wt) := HI.out.k1.cell 4
    have x5 : W1.cell? ⟨w.heap.size + 1, 5, none⟩ = some (.int .i64 s.g) := HI.out.k1.cell 5
    have x6 : W1.cell? ⟨w.heap.size + 1, 6, none⟩ = some (.int .i64 s.t) := HI.out.k1.cell 6
    have v0 : W1.cell? ⟨w.heap.size + 1 + 1, 0, none⟩ = some (.slice B n cb) := HI.out.k2.cell 0
    have v1 : W1.cell? ⟨w.heap.size + 1 + 1, 1, none⟩ = some (.int .i64 k.h) := HI.out.k2.cell 1
    have v2 : W1.cell? ⟨w.heap.size + 1 + 1, 2, none⟩ = some (.int .i64 k.c) := HI.out.k2.cell 2
    have v3 : W1.cell? ⟨w.heap.size + 1 + 1, 3, none⟩ = some (.int .i64 k.d) := HI.out.k2.cell 3
    go_wp2_with (go_at_call 14; refine (HFEW.out _).mono ?_; rintro e W2 ⟨rfl, hx⟩; have XT := Lib.hid hx; clear hx; refine Hid.out ?_)
    refine Lib.hid ?_
    replace HI := Lib.hid (HI.out.ext XT.out)
    clear XT
    clear y0 y1 y2 y3 y4 y5 y6 y7 x0 x1 x2 x3 x4 x5 x6 v0 v1 v2 v3
    have y0 : W2.cell? ⟨w.heap.size, 0, none⟩ = some (.slice A0 n0 c0) := HI.out.k0.cell 0
    have y1 : W2.cell? ⟨w.heap.size, 1, none⟩ = some (.slice A1 n1 c1) := HI.out.k0.cell 1
    have y2 : W2.cell? ⟨w.heap.size, 2, none⟩ = some (.slice A2 n2 c2) := HI.out.k0.cell 2
    have y3 : W2.cell? ⟨w.heap.size, 3, none⟩ = some (.slice A3 n3 c3) := HI.out.k0.cell 3
    have y4 : W2.cell? ⟨w.heap.size, 4, none⟩ = some (.int .i64 r.h0) := HI.out.k0.cell 4
    have y5 : W2.cell? ⟨w.heap.size, 5, none⟩ = some (.int .i64 r.h1) := HI.out.k0.cell 5
    have y6 : W2.cell? ⟨w.heap.size, 6, none⟩ = some (.int .i64 r.h2) := HI.out.k0.cell 6
    have y7 : W2.cell? ⟨w.heap.size, 7, none⟩ = some (.int .i64 r.h3) := HI.out.k0.cell 7
    have x0 : W2.cell? ⟨w.heap.size + 1, 0, none⟩ = some (.int .i64 s.p) := HI.out.k1.cell 0
    have x1 : W2.cell? ⟨w.heap.size + 1, 1, none⟩ = some (.int .i64 s.a) := HI.out.k1.cell 1
    have x2 : W2.cell? ⟨w.heap.size + 1, 2, none⟩ = some (.int .i64 s.b) := HI.out.k1.cell 2
    have x3 : W2.cell? ⟨w.heap.size + 1, 3, none⟩ = some (.int .i64 s.m) := HI.out.k1.cell 3
    have x4 : W2.cell? ⟨w.heap.size + 1, 4, none⟩ = some (.int .i64 s.wt) := HI.out.k1.cell 4
    have x5 : W2.cell? ⟨w.heap.size + 1, 5, none⟩ = some (.int .i64 s.g) := HI.out.k1.cell 5
    have x6 : W2.cell? ⟨w.heap.size + 1, 6, none⟩ = some (.int .i64 s.t) := HI.out.k1.cell 6
    have v0 : W2.cell? ⟨w.heap.size + 1 + 1, 0, none⟩ = some (.slice B n cb) := HI.out.k2.cell 0
    have v1 : W2.cell? ⟨w.heap.size + 1 + 1, 1, none⟩ = some (.int .i64 k.h) := HI.out.k2.cell 1
    have v2 : W2.cell? ⟨w.heap.size + 1 + 1, 2, none⟩ = some (.int .i64 k.c) := HI.out.k2.cell 2
    have v3 : W2.cell? ⟨w.heap.size + 1 + 1, 3, none⟩ = some (.int .i64 k.d) := HI.out.k2.cell 3
    go_wp2
    go_ret
    exact ⟨rfl, HI.out.e⟩
  · rw [decide_eq_false h10] at HFEW
    clear h h10
    go_enter Tryz.func5, Tryz.ntmps5
    go_wp2_with (go_at_call 13; rw [← hW0]; refine (awake_any _).mono ?_; rintro e W1 ⟨rfl, hx⟩; have XT := Lib.hid hx; clear hx hW0; refine Hid.out ?_)
    refine Lib.hid ?_
    replace HI := Lib.hid (HI.out.ext XT.out)
    clear XT
    have y0 : W1.cell? ⟨w.heap.size, 0, none⟩ = some (.slice A0 n0 c0) := HI.out.k0.cell 0
    have y1 : W1.cell? ⟨w.heap.size, 1, none⟩ = some (.slice A1 n1 c1) := HI.out.k0.cell 1
    have y2 : W1.cell? ⟨w.heap.size, 2, none⟩ = some (.slice A2 n2 c2) := HI.out.k0.cell 2
    have y3 : W1.cell? ⟨w.heap.size, 3, none⟩ = some (.slice A3 n3 c3) := HI.out.k0.cell 3
    have y4 : W1.cell? ⟨w.heap.size, 4, none⟩ = some (.int .i64 r.h0) := HI.out.k0.cell 4
    have y5 : W1.cell? ⟨w.heap.size, 5, none⟩ = some (.int .i64 r.h1) := HI.out.k0.cell 5
    have y6 : W1.cell? ⟨w.heap.size, 6, none⟩ = some (.int .i64 r.h2) := HI.out.k0.cell 6
    have y7 : W1.cell? ⟨w.heap.size, 7, none⟩ = some (.int .i64 r.h3) := HI.out.k0.cell 7
    have x0 : W1.cell? ⟨w.heap.size + 1, 0, none⟩ = some (.int .i64 s.p) := HI.out.k1.cell 0
    have x1 : W1.cell? ⟨w.heap.size + 1, 1, none⟩ = some (.int .i64 s.a) := HI.out.k1.cell 1
    have x2 : W1.cell? ⟨w.heap.size + 1, 2, none⟩ = some (.int .i64 s.b) := HI.out.k1.cell 2
    have x3 : W1.cell? ⟨w.heap.size + 1, 3, none⟩ = some (.int .i64 s.m) := HI.out.k1.cell 3
    have x4 : W1.cell? ⟨w.heap.size + 1, 4, none⟩ = some (.int .i64 s.wt) := HI.out.k1.cell 4
    have x5 : W1.cell? ⟨w.heap.size + 1, 5, none⟩ = some (.int .i64 s.g) := HI.out.k1.cell 5
    have x6 : W1.cell? ⟨w.heap.size + 1, 6, none⟩ = some (.int .i64 s.t) := HI.out.k1.cell 6
    have v0 : W1.cell? ⟨w.heap.size + 1 + 1, 0, none⟩ = some (.slice B n cb) := HI.out.k2.cell 0
    have v1 : W1.cell? ⟨w.heap.size + 1 + 1, 1, none⟩ = some (.int .i64 k.h) := HI.out.k2.cell 1
    have v2 : W1.cell? ⟨w.heap.size + 1 + 1, 2, none⟩ = some (.int .i64 k.c) := HI.out.k2.cell 2
    have v3 : W1.cell? ⟨w.heap.size + 1 + 1, 3, none⟩ = some (.int .i64 k.d) := HI.out.k2.cell 3
    go_wp2_with (go_at_call 14; refine (HFEW.out _).mono ?_; rintro e W2 ⟨rfl, hx⟩; have XT := Lib.hid hx; clear hx)
    go_ret
    exact ⟨rfl, HI.out.e.trans XT.out⟩
theorem shares_any {r : Ru} {A0 A1 A2 A3 B : Option Addr} {n0 n1 n2 n3 c0 c1 c2 c3 n cb : Nat} {xs : List Int} {w : World} (s : St) (k : Pk) (hR : n0 ≤ 10 → n1 ≤ 10 → n2 ≤ 10 → n3 ≤ 10 → RuIn r (.agg #[.slice A0 n0 c0, .slice A1 n1 c1, .slice A2 n2 c2, .slice A3 n3 c3, .int .i64 r.h0, .int .i64 r.h1, .int .i64 r.h2, .int .i64 r.h3]) w) (hx : n ≤ 1000 → IntsAt w (.slice B n cb) xs) :
    Calls Tryz.prog 5 #[.agg #[.slice A0 n0 c0, .slice A1 n1 c1, .slice A2 n2 c2, .slice A3 n3 c3, .int .i64 r.h0, .int .i64 r.h1, .int .i64 r.h2, .int .i64 r.h3], .agg #[.int .i64 s.p, .int .i64 s.a, .int .i64 s.b, .int .i64 s.m, .int .i64 s.wt, .int .i64 s.g, .int .i64 s.t], .agg #[.slice B n cb, .int .i64 k.h, .int .i64 k.c, .int .i64 k.d]] w fun e w' => e = .returned (.bool true) ∧ Ext w w' := by
  by_cases h10 : n0 ≤ 10 ∧ n1 ≤ 10 ∧ n2 ≤ 10 ∧ n3 ≤ 10
  · by_cases h30 : (30 : Int) < (n : Int)
    · exact shares_many r A0 A1 A2 A3 B n0 n1 n2 n3 c0 c1 c2 c3 n cb w s k (.inr h30)
    · by_cases hv : rulesE r = 0 ∧ stateE [s.p, s.a, s.b, s.m, s.wt, s.g, s.t] = 0 ∧ curveE xs = 0 ∧ pickE k.h k.c k.d = 0
      · exact shares_ok s k (hR h10.1 h10.2.1 h10.2.2.1 h10.2.2.2) h10 h30 (hx (by omega)) hv.1 hv.2.1 hv.2.2.1 hv.2.2.2
      · exact shares_bad s k (hR h10.1 h10.2.1 h10.2.2.1 h10.2.2.2) h10 h30 (hx (by omega)) hv
  · exact shares_many r A0 A1 A2 A3 B n0 n1 n2 n3 c0 c1 c2 c3 n cb w s k (.inl h10)

end Go.Proofs.YtkmekbafjnlfkaaGreat
