/- SteelFaster for all; the opener of two steels. -/
import Derived.Test.YtkmekbafjnlfkaaGreatS55

namespace Go.Proofs.YtkmekbafjnlfkaaGreat
open Go.RowKit Go.Shelf Go.Mem Go.RegInv
attribute [local go_sem] RelUpon_value RelUpon_skip RelUpon_enter BigFrame.eval_const BigFrame.eval_global BigFrame.eval_func

section
open Go.ChangeShapes Go.WideShapes Go.Deep
variable {H : Type} {enc : TypeId × Value → H} {w : World} {base : Nat} {spare : Nat → Bool} {held : Bool} {r : Reach} {b0 : Nat} {v : Value} {d : DataW H} {p : List MemPlace}
theorem open_intsI {fuel : Nat} {v : Value} {x : DataW H × List MemPlace} (h : DataW.trod enc Tryz.prog w base spare held fuel 46 [v] = some x) :
    ∃ A n cap xs, v = .slice A n cap ∧ (A = none → cap = 0) ∧ n ≤ cap ∧ cap ≤ maxLen ∧ xs.length = n ∧ (n ≤ 1152921504606846976 → RowsAt 1 encI w A xs) :=
  open_rows 1 encI (by decide) Tryz.underlying46 (by kernel_rfl) (fun fuel cs x h => by
    obtain ⟨z, e, _⟩ := DataW.trod_int (k := .i64) Tryz.underlying3 h
    exact ⟨z, e⟩) h
set_option maxRecDepth 100000 in
theorem pick_cells {fuel : Nat} {c0 c1 c2 : Value} {x : DataW H × List MemPlace} (h : DataW.trod enc Tryz.prog w base spare held fuel 32 [c0, c1, c2] = some x) : ∃ z0 z1 z2 : Int, c0 = .int .i64 z0 ∧ c1 = .int .i64 z1 ∧ c2 = .int .i64 z2 := by
  obtain ⟨q0, q1, q2, m, _, _, k0, k1, k2⟩ := trod_struct3 Tryz.underlying32 h
  obtain ⟨z0, e0, _⟩ := DataW.trod_int (k := .i64) Tryz.underlying3 (show DataW.trod enc Tryz.prog w base spare held m 3 [c0] = some _ from k0)
  obtain ⟨z1, e1, _⟩ := DataW.trod_int (k := .i64) Tryz.underlying3 (show DataW.trod enc Tryz.prog w base spare held m 3 [c1] = some _ from k1)
  obtain ⟨z2, e2, _⟩ := DataW.trod_int (k := .i64) Tryz.underlying3 (show DataW.trod enc Tryz.prog w base spare held m 3 [c2] = some _ from k2)
  simp at e0 e1 e2
  exact ⟨z0, z1, z2, e0, e1, e2⟩
set_option maxRecDepth 100000 in
theorem open_two (hv : Value.okWide Tryz.prog w r b0 71 v) (h : DataW.Trod enc Tryz.prog w base spare held 71 v d p) :
    ∃ B n cb xs y0 y1 y2 u0 u1 u2, v = .agg #[.slice B n cb, .int .i64 y0, .int .i64 y1, .int .i64 y2, .int .i64 u0, .int .i64 u1, .int .i64 u2] ∧ (B = none → cb = 0) ∧ xs.length = n ∧ (n ≤ 1000 → RowsAt 1 encI w B xs) := by
  have hu := Tryz.underlying71
  obtain ⟨cs, rfl, hsz⟩ : ∃ cs, v = .agg cs ∧ cs.size = Tryz.prog.cellsOf 71 := by
    unfold Value.okWide at hv
    simp only [hu] at hv
    cases v <;> simp_all
  obtain ⟨l⟩ := cs
  match l, hsz.trans (show Tryz.prog.cellsOf 71 = 7 by kernel_rfl) with
  | [c0, c1, c2, c3, c4, c5, c6], _ =>
    obtain ⟨fuel, hf⟩ := h
    obtain ⟨xs, n, _, _, _, hlen, hF⟩ := DataW.trod_struct hu hf
    match xs, hlen with
    | [y0, y1, y2], _ =>
      have h0 : DataW.trod enc Tryz.prog w base spare held n 46 [c0] = some y0 := hF 0 _ rfl
      have h1 : DataW.trod enc Tryz.prog w base spare held n 32 [c1, c2, c3] = some y1 := hF 1 _ rfl
      have h2 : DataW.trod enc Tryz.prog w base spare held n 32 [c4, c5, c6] = some y2 := hF 2 _ rfl
      obtain ⟨A0, n0, d0, x0, rfl, a0, _, _, l0, r0⟩ := open_intsI h0
      obtain ⟨z0, z1, z2, rfl, rfl, rfl⟩ := pick_cells h1
      obtain ⟨z3, z4, z5, rfl, rfl, rfl⟩ := pick_cells h2
      exact ⟨A0, n0, d0, x0, z0, z1, z2, z3, z4, z5, rfl, a0, l0, fun g => r0 (by omega)⟩
end
theorem faster_any {r : Ru} {A0 A1 A2 A3 B : Option Addr} {n0 n1 n2 n3 c0 c1 c2 c3 n cb : Nat} {xs : List Int} {w : World} (s : St) (k l : Pk) (hR : n0 ≤ 10 → n1 ≤ 10 → n2 ≤ 10 → n3 ≤ 10 → RuIn r (.agg #[.slice A0 n0 c0, .slice A1 n1 c1, .slice A2 n2 c2, .slice A3 n3 c3, .int .i64 r.h0, .int .i64 r.h1, .int .i64 r.h2, .int .i64 r.h3]) w) (hn : xs.length = n) (hB : n ≤ 1000 → RowsAt 1 encI w B xs) (hnil : B = none → cb = 0) :
    Calls Tryz.prog 6 #[.agg #[.slice A0 n0 c0, .slice A1 n1 c1, .slice A2 n2 c2, .slice A3 n3 c3, .int .i64 r.h0, .int .i64 r.h1, .int .i64 r.h2, .int .i64 r.h3], .agg #[.int .i64 s.p, .int .i64 s.a, .int .i64 s.b, .int .i64 s.m, .int .i64 s.wt, .int .i64 s.g, .int .i64 s.t], .agg #[.slice B n cb, .int .i64 k.h, .int .i64 k.c, .int .i64 k.d, .int .i64 l.h, .int .i64 l.c, .int .i64 l.d]] w fun e w' => e = .returned (.bool true) ∧ Ext w w' := by
  by_cases h10 : n0 ≤ 10 ∧ n1 ≤ 10 ∧ n2 ≤ 10 ∧ n3 ≤ 10
  · by_cases h30 : (30 : Int) < (n : Int)
    · exact faster_many r A0 A1 A2 A3 B n0 n1 n2 n3 c0 c1 c2 c3 n cb w s k l (.inr h30)
    · have hR' := hR h10.1 h10.2.1 h10.2.2.1 h10.2.2.2
      by_cases hv : rulesE r = 0 ∧ stateE [s.p, s.a, s.b, s.m, s.wt, s.g, s.t] = 0 ∧ curveE xs = 0 ∧ pickE k.h k.c k.d = 0 ∧ pickE l.h l.c l.d = 0
      · exact faster_ok s k l hR' h10 h30 hn (hB (by omega)) hnil hv.1 hv.2.1 hv.2.2.1 hv.2.2.2.1 hv.2.2.2.2
      · exact faster_bad s k l hR' h10 h30 hn (hB (by omega)) hnil hv
  · exact faster_many r A0 A1 A2 A3 B n0 n1 n2 n3 c0 c1 c2 c3 n cb w s k l (.inl h10)

end Go.Proofs.YtkmekbafjnlfkaaGreat
