/- SteelRuled, but for the reference of the rules. -/
import Derived.Test.YtkmekbafjnlfkaaGreatS35

namespace Go.Proofs.YtkmekbafjnlfkaaGreat
open Go.RowKit Go.Shelf Go.Mem Go.RegInv
attribute [local go_sem] RelUpon_value RelUpon_skip RelUpon_enter BigFrame.eval_const BigFrame.eval_global BigFrame.eval_func

set_option maxRecDepth 100000 in
set_option maxHeartbeats 4000000 in
theorem steelRuled_of {r : Ru} {A0 A1 A2 A3 : Option Addr} {n0 n1 n2 n3 c0 c1 c2 c3 : Nat} {w : World} (s : St) (k : Pk) (hR : RuIn r (.agg #[.slice A0 n0 c0, .slice A1 n1 c1, .slice A2 n2 c2, .slice A3 n3 c3, .int .i64 r.h0, .int .i64 r.h1, .int .i64 r.h2, .int .i64 r.h3]) w) (h10 : n0 ≤ 10 ∧ n1 ≤ 10 ∧ n2 ≤ 10 ∧ n3 ≤ 10)
    (href : ∀ W, Ext w W → Calls Tryz.prog 17 #[.agg #[.slice A0 n0 c0, .slice A1 n1 c1, .slice A2 n2 c2, .slice A3 n3 c3, .int .i64 r.h0, .int .i64 r.h1, .int .i64 r.h2, .int .i64 r.h3]] W fun e w' => e = .returned (.tuple #[.int .i64 (checkR r (mostR r)).1, .int .i64 (checkR r (mostR r)).2]) ∧ Ext W w') :
    Calls Tryz.prog 3 #[.agg #[.slice A0 n0 c0, .slice A1 n1 c1, .slice A2 n2 c2, .slice A3 n3 c3, .int .i64 r.h0, .int .i64 r.h1, .int .i64 r.h2, .int .i64 r.h3], .agg #[.int .i64 s.p, .int .i64 s.a, .int .i64 s.b, .int .i64 s.m, .int .i64 s.wt, .int .i64 s.g, .int .i64 s.t], .agg #[.int .i64 k.h, .int .i64 k.c, .int .i64 k.d]] w fun e w' => e = .returned (.bool true) ∧ Ext w w' := by
  have HIN := Lib.hid hR
  have HREF := Lib.hid href
  have HCK := Lib.hid (fun (u : Value) (W : World) (h : RuV r u W) => checkRules_any h)
  have HFEW := Lib.hid (fun W => show Calls Tryz.prog 14 #[.agg #[.slice A0 n0 c0, .slice A1 n1 c1, .slice A2 n2 c2, .slice A3 n3 c3, .int .i64 r.h0, .int .i64 r.h1, .int .i64 r.h2, .int .i64 r.h3]] W fun e w' => e = .returned (.bool true) ∧ Ext W w' by
    have := few_any A0 A1 A2 A3 n0 n1 n2 n3 c0 c1 c2 c3 r.h0 r.h1 r.h2 r.h3 W
    rw [decide_eq_true h10] at this
    exact this)
  generalize (checkR r (mostR r)).1 = ci at HREF HCK
  generalize (checkR r (mostR r)).2 = ce at HREF HCK
  have HS1 := Lib.hid (fun W => checkState_any s.p s.a s.b s.m s.wt s.g s.t W)
  have HS2 := Lib.hid (fun W => stateErr_any s.p s.a s.b s.m s.wt s.g s.t W)
  have HP1 := Lib.hid (fun W => checkPick_any k.h k.c k.d W)
  have HP2 := Lib.hid (fun W => pickErr_any k.h k.c k.d W)
  generalize stateE [s.p, s.a, s.b, s.m, s.wt, s.g, s.t] = SE at HS1 HS2
  generalize pickE k.h k.c k.d = PE at HP1 HP2
  clear hR href h10
  obtain ⟨W0, hW0⟩ : ∃ W0, W0 = ((w.alloc (.cells #[.slice A0 n0 c0, .slice A1 n1 c1, .slice A2 n2 c2, .slice A3 n3 c3, .int .i64 r.h0, .int .i64 r.h1, .int .i64 r.h2, .int .i64 r.h3] 28)).alloc (.cells #[.int .i64 s.p, .int .i64 s.a, .int .i64 s.b, .int .i64 s.m, .int .i64 s.wt, .int .i64 s.g, .int .i64 s.t] 30)).alloc (.cells #[.int .i64 k.h, .int .i64 k.c, .int .i64 k.d] 32) := ⟨_, rfl⟩
  have K0 := Lib.hid (show Blk W0 (w.heap.size) 28 #[.slice A0 n0 c0, .slice A1 n1 c1, .slice A2 n2 c2, .slice A3 n3 c3, .int .i64 r.h0, .int .i64 r.h1, .int .i64 r.h2, .int .i64 r.h3] by rw [hW0]; exact ((Blk.new _ _ _).alloc _).alloc _)
  have K1 := Lib.hid (show Blk W0 (w.heap.size + 1) 30 #[.int .i64 s.p, .int .i64 s.a, .int .i64 s.b, .int .i64 s.m, .int .i64 s.wt, .int .i64 s.g, .int .i64 s.t] by rw [hW0]; exact (Blk.newAt _ _ _ (by simp)).alloc _)
  have K2 := Lib.hid (show Blk W0 (w.heap.size + 1 + 1) 32 #[.int .i64 k.h, .int .i64 k.c, .int .i64 k.d] by rw [hW0]; exact Blk.newAt _ _ _ (by simp))
  have E0 := Lib.hid (show Ext w W0 by rw [hW0]; exact ((Ext.alloc _ _).trans (Ext.alloc _ _)).trans (Ext.alloc _ _))
  go_enter Tryz.func3, Tryz.ntmps3
  go_wp2_with (go_at_call 13; rw [← hW0]; refine (awake_any _).mono ?_; rintro e W1 ⟨rfl, hx⟩; have X1 := Lib.hid hx; clear hx hW0; refine Hid.out ?_)
  refine Lib.hid ?_
  have y0 : W1.cell? ⟨w.heap.size, 0, none⟩ = some (.slice A0 n0 c0) := (K0.out.ext X1.out).cell 0
  have y1 : W1.cell? ⟨w.heap.size, 1, none⟩ = some (.slice A1 n1 c1) := (K0.out.ext X1.out).cell 1
  have y2 : W1.cell? ⟨w.heap.size, 2, none⟩ = some (.slice A2 n2 c2) := (K0.out.ext X1.out).cell 2
  have y3 : W1.cell? ⟨w.heap.size, 3, none⟩ = some (.slice A3 n3 c3) := (K0.out.ext X1.out).cell 3
  have y4 : W1.cell? ⟨w.heap.size, 4, none⟩ = some (.int .i64 r.h0) := (K0.out.ext X1.out).cell 4
  have y5 : W1.cell? ⟨w.heap.size, 5, none⟩ = some (.int .i64 r.h1) := (K0.out.ext X1.out).cell 5
  have y6 : W1.cell? ⟨w.heap.size, 6, none⟩ = some (.int .i64 r.h2) := (K0.out.ext X1.out).cell 6
  have y7 : W1.cell? ⟨w.heap.size, 7, none⟩ = some (.int .i64 r.h3) := (K0.out.ext X1.out).cell 7
  go_wp2_with (go_at_call 14; refine (HFEW.out _).mono ?_; rintro e W2 ⟨rfl, hx⟩; have X2 := Lib.hid (X1.out.trans hx); clear hx y0 y1 y2 y3 y4 y5 y6 y7; refine Hid.out ?_)
  refine Lib.hid ?_
  have y0 : W2.cell? ⟨w.heap.size, 0, none⟩ = some (.slice A0 n0 c0) := (K0.out.ext X2.out).cell 0
  have y1 : W2.cell? ⟨w.heap.size, 1, none⟩ = some (.slice A1 n1 c1) := (K0.out.ext X2.out).cell 1
  have y2 : W2.cell? ⟨w.heap.size, 2, none⟩ = some (.slice A2 n2 c2) := (K0.out.ext X2.out).cell 2
  have y3 : W2.cell? ⟨w.heap.size, 3, none⟩ = some (.slice A3 n3 c3) := (K0.out.ext X2.out).cell 3
  have y4 : W2.cell? ⟨w.heap.size, 4, none⟩ = some (.int .i64 r.h0) := (K0.out.ext X2.out).cell 4
  have y5 : W2.cell? ⟨w.heap.size, 5, none⟩ = some (.int .i64 r.h1) := (K0.out.ext X2.out).cell 5
  have y6 : W2.cell? ⟨w.heap.size, 6, none⟩ = some (.int .i64 r.h2) := (K0.out.ext X2.out).cell 6
  have y7 : W2.cell? ⟨w.heap.size, 7, none⟩ = some (.int .i64 r.h3) := (K0.out.ext X2.out).cell 7
  go_wp2_with (go_at_call 16; refine (copyRules_any (r := r) (by
      obtain ⟨B0, B1, B2, B3, m0, m1, m2, m3, d0, d1, d2, d3, q, hA, hrest⟩ := HIN.out
      exact ⟨B0, B1, B2, B3, m0, m1, m2, m3, d0, d1, d2, d3, q, hA.ext (E0.out.trans X2.out), hrest⟩)).mono ?_; rintro e W3 ⟨v, rfl, hx, hv⟩; have X3 := Lib.hid (X2.out.trans hx); have HV := Lib.hid hv; clear hx hv y0 y1 y2 y3 y4 y5 y6 y7; refine Hid.out ?_)
  refine Lib.hid ?_
  have y0 : W3.cell? ⟨w.heap.size, 0, none⟩ = some (.slice A0 n0 c0) := (K0.out.ext X3.out).cell 0
  have y1 : W3.cell? ⟨w.heap.size, 1, none⟩ = some (.slice A1 n1 c1) := (K0.out.ext X3.out).cell 1
  have y2 : W3.cell? ⟨w.heap.size, 2, none⟩ = some (.slice A2 n2 c2) := (K0.out.ext X3.out).cell 2
  have y3 : W3.cell? ⟨w.heap.size, 3, none⟩ = some (.slice A3 n3 c3) := (K0.out.ext X3.out).cell 3
  have y4 : W3.cell? ⟨w.heap.size, 4, none⟩ = some (.int .i64 r.h0) := (K0.out.ext X3.out).cell 4
  have y5 : W3.cell? ⟨w.heap.size, 5, none⟩ = some (.int .i64 r.h1) := (K0.out.ext X3.out).cell 5
  have y6 : W3.cell? ⟨w.heap.size, 6, none⟩ = some (.int .i64 r.h2) := (K0.out.ext X3.out).cell 6
  have y7 : W3.cell? ⟨w.heap.size, 7, none⟩ = some (.int .i64 r.h3) := (K0.out.ext X3.out).cell 7
  clear y0 y1 y2 y3 y4 y5 y6 y7
  go_wp2_with (go_at_call 15; refine (HCK.out _ _ HV.out).mono ?_; rintro e W4 ⟨rfl, hx⟩; have X4 := Lib.hid (X3.out.trans hx); clear hx; refine Hid.out ?_)
  refine Lib.hid ?_
  have y0 : W4.cell? ⟨w.heap.size, 0, none⟩ = some (.slice A0 n0 c0) := (K0.out.ext X4.out).cell 0
  have y1 : W4.cell? ⟨w.heap.size, 1, none⟩ = some (.slice A1 n1 c1) := (K0.out.ext X4.out).cell 1
  have y2 : W4.cell? ⟨w.heap.size, 2, none⟩ = some (.slice A2 n2 c2) := (K0.out.ext X4.out).cell 2
  have y3 : W4.cell? ⟨w.heap.size, 3, none⟩ = some (.slice A3 n3 c3) := (K0.out.ext X4.out).cell 3
  have y4 : W4.cell? ⟨w.heap.size, 4, none⟩ = some (.int .i64 r.h0) := (K0.out.ext X4.out).cell 4
  have y5 : W4.cell? ⟨w.heap.size, 5, none⟩ = some (.int .i64 r.h1) := (K0.out.ext X4.out).cell 5
  have y6 : W4.cell? ⟨w.heap.size, 6, none⟩ = some (.int .i64 r.h2) := (K0.out.ext X4.out).cell 6
  have y7 : W4.cell? ⟨w.heap.size, 7, none⟩ = some (.int .i64 r.h3) := (K0.out.ext X4.out).cell 7
  go_wp2_with (go_at_call 17; refine (HREF.out _ (E0.out.trans X4.out)).mono ?_; rintro e W5 ⟨rfl, hx⟩; have X5 := Lib.hid (X4.out.trans hx); clear hx y0 y1 y2 y3 y4 y5 y6 y7; refine Hid.out ?_)
  refine Lib.hid ?_
  have x0 : W5.cell? ⟨w.heap.size + 1, 0, none⟩ = some (.int .i64 s.p) := (K1.out.ext X5.out).cell 0
  have x1 : W5.cell? ⟨w.heap.size + 1, 1, none⟩ = some (.int .i64 s.a) := (K1.out.ext X5.out).cell 1
  have x2 : W5.cell? ⟨w.heap.size + 1, 2, none⟩ = some (.int .i64 s.b) := (K1.out.ext X5.out).cell 2
  have x3 : W5.cell? ⟨w.heap.size + 1, 3, none⟩ = some (.int .i64 s.m) := (K1.out.ext X5.out).cell 3
  have x4 : W5.cell? ⟨w.heap.size + 1, 4, none⟩ = some (.int .i64 s.wt) := (K1.out.ext X5.out).cell 4
  have x5 : W5.cell? ⟨w.heap.size + 1, 5, none⟩ = some (.int .i64 s.g) := (K1.out.ext X5.out).cell 5
  have x6 : W5.cell? ⟨w.heap.size + 1, 6, none⟩ = some (.int .i64 s.t) := (K1.out.ext X5.out).cell 6
  have v0 : W5.cell? ⟨w.heap.size + 1 + 1, 0, none⟩ = some (.int .i64 k.h) := (K2.out.ext X5.out).cell 0
  have v1 : W5.cell? ⟨w.heap.size + 1 + 1, 1, none⟩ = some (.int .i64 k.c) := (K2.out.ext X5.out).cell 1
  have v2 : W5.cell? ⟨w.heap.size + 1 + 1, 2, none⟩ = some (.int .i64 k.d) := (K2.out.ext X5.out).cell 2
  go_wp2
  refine wp_region_eachG [(30, true), (30, true), (30, true), (35, true), (35, true), (35, true), (35, true), (35, true), (42, true), (42, true), (42, true), (42, true), (42, true)] [some 27, some 28, some 29, some 30, some 31, some 32, some 33, some 34, some 35, some 36, some 37, some 38, some 39, some 40, some 41, some 42, some 43, some 44, some 45, some 46, some 47, some 48, some 6] [[8], [10], [27, 28], [29], [7, 30], [9, 30], [31, 32, 30], [30, 33], [34], [4, 35], [36, 35], [4, 35], [38, 35], [37, 39, 35], [35, 40], [41], [5, 42], [43, 42], [5, 42], [45, 42], [44, 46, 42], [42, 47], [48]]
    [Is (.int .i64 (ce)), Is (.int .i64 (ce)), Is (.bool (true)), Is (.bool (true)), Is (.int .i64 (ci)), Is (.int .i64 (ci)), Is (.bool (true)), Is (.bool (true)), Is (.bool (true)), Is (.agg #[.int .i64 (s.p), .int .i64 (s.a), .int .i64 (s.b), .int .i64 (s.m), .int .i64 (s.wt), .int .i64 (s.g), .int .i64 (s.t)]), Is (.int .i64 (SE)), Is (.agg #[.int .i64 (s.p), .int .i64 (s.a), .int .i64 (s.b), .int .i64 (s.m), .int .i64 (s.wt), .int .i64 (s.g), .int .i64 (s.t)]), Is (.int .i64 (SE)), Is (.bool (true)), Is (.bool (true)), Is (.bool (true)), Is (.agg #[.int .i64 (k.h), .int .i64 (k.c), .int .i64 (k.d)]), Is (.int .i64 (PE)), Is (.agg #[.int .i64 (k.h), .int .i64 (k.c), .int .i64 (k.d)]), Is (.int .i64 (PE)), Is (.bool (true)), Is (.bool (true)), Is (.bool (true))]
    (by kernel_rfl) (by kernel_rfl) (by kernel_rfl) (by kernel_rfl) (by kernel_rfl) Ext (fun W => Ext W5 W)
    (fun W _ => Ext.refl W) (fun W W' h k => h.trans k) ?_ (by intro p hp; simp at hp; first | (subst hp; exact ⟨_, rfl, fun _ _ h => h⟩) | (rcases hp with rfl | rfl <;> exact ⟨_, rfl, fun _ _ h => h⟩) | (rcases hp with rfl | rfl | rfl <;> exact ⟨_, rfl, fun _ _ h => h⟩)) (Ext.drew _) ?_ ?_
  · repeat (refine ⟨fun _ _ _ _ k h => (by first | exact h | exact (by first | exact IntsAt.ext h k | exact KnV.ext h k | exact NumsV.ext h k)), ?_⟩)
    exact trivial
  · refine ⟨?_, ?_, ?_, ?_, ?_, ?_, ?_, ?_, ?_, ?_, ?_, ?_, ?_, ?_, ?_, ?_, ?_, ?_, ?_, ?_, ?_, ?_, ?_, trivial⟩
    all_goals intro ρ W ⟨kc, kg, kf⟩ hF hs
    · obtain ⟨h0, -⟩ := hs
      replace h0 : ρ (.tmp 8) = .int .i64 (ce) := h0
      go_simp
      exact ⟨Ext.refl _, rfl⟩
    · obtain ⟨h0, -⟩ := hs
      replace h0 : ρ (.tmp 10) = .int .i64 (ce) := h0
      go_simp
      exact ⟨Ext.refl _, rfl⟩
    · obtain ⟨h0, h1, -⟩ := hs
      replace h0 : ρ (.tmp 27) = .int .i64 (ce) := h0
      replace h1 : ρ (.tmp 28) = .int .i64 (ce) := h1
      go_simp
      first | exact ⟨Ext.refl _, rfl⟩ | (simp; exact Ext.refl _)
    · obtain ⟨h0, -⟩ := hs
      replace h0 : ρ (.tmp 29) = .bool (true) := h0
      go_simp
      exact ⟨Ext.refl _, rfl⟩
    · obtain ⟨h0, h1, -⟩ := hs
      replace h0 : ρ (.tmp 7) = .int .i64 (ci) := h0
      replace h1 : ρ (.tmp 30) = .bool (true) := h1
      go_simp
      exact ⟨Ext.refl _, rfl⟩
    · obtain ⟨h0, h1, -⟩ := hs
      replace h0 : ρ (.tmp 9) = .int .i64 (ci) := h0
      replace h1 : ρ (.tmp 30) = .bool (true) := h1
      go_simp
      exact ⟨Ext.refl _, rfl⟩
    · obtain ⟨h0, h1, h2, -⟩ := hs
      replace h0 : ρ (.tmp 31) = .int .i64 (ci) := h0
      replace h1 : ρ (.tmp 32) = .int .i64 (ci) := h1
      replace h2 : ρ (.tmp 30) = .bool (true) := h2
      go_simp
      first | exact ⟨Ext.refl _, rfl⟩ | (simp; exact Ext.refl _)
    · obtain ⟨h0, h1, -⟩ := hs
      replace h0 : ρ (.tmp 30) = .bool (true) := h0
      replace h1 : ρ (.tmp 33) = .bool (true) := h1
      go_simp
      exact ⟨Ext.refl _, rfl⟩
    · obtain ⟨h0, -⟩ := hs
      replace h0 : ρ (.tmp 34) = .bool (true) := h0
      go_simp
      exact ⟨Ext.refl _, rfl⟩
    · obtain ⟨h0, h1, -⟩ := hs
      replace h0 : ρ (.tmp 4) = .pointer (some ⟨w.heap.size + 1, 0, none⟩) := h0
      replace h1 : ρ (.tmp 35) = .bool (true) := h1
      have hc0 : W.cell? ⟨w.heap.size + 1, 0, none⟩ = some (.int .i64 (s.p)) := hF.cell (by assumption)
      have hc1 : W.cell? ⟨w.heap.size + 1, 1, none⟩ = some (.int .i64 (s.a)) := hF.cell (by assumption)
      have hc2 : W.cell? ⟨w.heap.size + 1, 2, none⟩ = some (.int .i64 (s.b)) := hF.cell (by assumption)
      have hc3 : W.cell? ⟨w.heap.size + 1, 3, none⟩ = some (.int .i64 (s.m)) := hF.cell (by assumption)
      have hc4 : W.cell? ⟨w.heap.size + 1, 4, none⟩ = some (.int .i64 (s.wt)) := hF.cell (by assumption)
      have hc5 : W.cell? ⟨w.heap.size + 1, 5, none⟩ = some (.int .i64 (s.g)) := hF.cell (by assumption)
      have hc6 : W.cell? ⟨w.heap.size + 1, 6, none⟩ = some (.int .i64 (s.t)) := hF.cell (by assumption)
      go_simp
      exact ⟨Ext.refl _, rfl⟩
    · obtain ⟨h0, h1, -⟩ := hs
      replace h0 : ρ (.tmp 36) = .agg #[.int .i64 (s.p), .int .i64 (s.a), .int .i64 (s.b), .int .i64 (s.m), .int .i64 (s.wt), .int .i64 (s.g), .int .i64 (s.t)] := h0
      replace h1 : ρ (.tmp 35) = .bool (true) := h1
      go_simp
      refine (HS1.out _).mono ?_; rintro e w' ⟨rfl, hx⟩; exact ⟨_, rfl, hx, rfl⟩
    · obtain ⟨h0, h1, -⟩ := hs
      replace h0 : ρ (.tmp 4) = .pointer (some ⟨w.heap.size + 1, 0, none⟩) := h0
      replace h1 : ρ (.tmp 35) = .bool (true) := h1
      have hc0 : W.cell? ⟨w.heap.size + 1, 0, none⟩ = some (.int .i64 (s.p)) := hF.cell (by assumption)
      have hc1 : W.cell? ⟨w.heap.size + 1, 1, none⟩ = some (.int .i64 (s.a)) := hF.cell (by assumption)
      have hc2 : W.cell? ⟨w.heap.size + 1, 2, none⟩ = some (.int .i64 (s.b)) := hF.cell (by assumption)
      have hc3 : W.cell? ⟨w.heap.size + 1, 3, none⟩ = some (.int .i64 (s.m)) := hF.cell (by assumption)
      have hc4 : W.cell? ⟨w.heap.size + 1, 4, none⟩ = some (.int .i64 (s.wt)) := hF.cell (by assumption)
      have hc5 : W.cell? ⟨w.heap.size + 1, 5, none⟩ = some (.int .i64 (s.g)) := hF.cell (by assumption)
      have hc6 : W.cell? ⟨w.heap.size + 1, 6, none⟩ = some (.int .i64 (s.t)) := hF.cell (by assumption)
      go_simp
      exact ⟨Ext.refl _, rfl⟩
    · obtain ⟨h0, h1, -⟩ := hs
      replace h0 : ρ (.tmp 38) = .agg #[.int .i64 (s.p), .int .i64 (s.a), .int .i64 (s.b), .int .i64 (s.m), .int .i64 (s.wt), .int .i64 (s.g), .int .i64 (s.t)] := h0
      replace h1 : ρ (.tmp 35) = .bool (true) := h1
      go_simp
      refine (HS2.out _).mono ?_; rintro e w' ⟨rfl, hx⟩; exact ⟨_, rfl, hx, rfl⟩
    · obtain ⟨h0, h1, h2, -⟩ := hs
      replace h0 : ρ (.tmp 37) = .int .i64 (SE) := h0
      replace h1 : ρ (.tmp 39) = .int .i64 (SE) := h1
      replace h2 : ρ (.tmp 35) = .bool (true) := h2
      go_simp
      first | exact ⟨Ext.refl _, rfl⟩ | (simp; exact Ext.refl _)
    · obtain ⟨h0, h1, -⟩ := hs
      replace h0 : ρ (.tmp 35) = .bool (true) := h0
      replace h1 : ρ (.tmp 40) = .bool (true) := h1
      go_simp
      exact ⟨Ext.refl _, rfl⟩
    · obtain ⟨h0, -⟩ := hs
      replace h0 : ρ (.tmp 41) = .bool (true) := h0
      go_simp
      exact ⟨Ext.refl _, rfl⟩
    · obtain ⟨h0, h1, -⟩ := hs
      replace h0 : ρ (.tmp 5) = .pointer (some ⟨w.heap.size + 1 + 1, 0, none⟩) := h0
      replace h1 : ρ (.tmp 42) = .bool (true) := h1
      have hc0 : W.cell? ⟨w.heap.size + 1 + 1, 0, none⟩ = some (.int .i64 (k.h)) := hF.cell (by assumption)
      have hc1 : W.cell? ⟨w.heap.size + 1 + 1, 1, none⟩ = some (.int .i64 (k.c)) := hF.cell (by assumption)
      have hc2 : W.cell? ⟨w.heap.size + 1 + 1, 2, none⟩ = some (.int .i64 (k.d)) := hF.cell (by assumption)
      go_simp
      exact ⟨Ext.refl _, rfl⟩
    · obtain ⟨h0, h1, -⟩ := hs
      replace h0 : ρ (.tmp 43) = .agg #[.int .i64 (k.h), .int .i64 (k.c), .int .i64 (k.d)] := h0
      replace h1 : ρ (.tmp 42) = .bool (true) := h1
      go_simp
      refine (HP1.out _).mono ?_; rintro e w' ⟨rfl, hx⟩; exact ⟨_, rfl, hx, rfl⟩
    · obtain ⟨h0, h1, -⟩ := hs
      replace h0 : ρ (.tmp 5) = .pointer (some ⟨w.heap.size + 1 + 1, 0, none⟩) := h0
      replace h1 : ρ (.tmp 42) = .bool (true) := h1
      have hc0 : W.cell? ⟨w.heap.size + 1 + 1, 0, none⟩ = some (.int .i64 (k.h)) := hF.cell (by assumption)
      have hc1 : W.cell? ⟨w.heap.size + 1 + 1, 1, none⟩ = some (.int .i64 (k.c)) := hF.cell (by assumption)
      have hc2 : W.cell? ⟨w.heap.size + 1 + 1, 2, none⟩ = some (.int .i64 (k.d)) := hF.cell (by assumption)
      go_simp
      exact ⟨Ext.refl _, rfl⟩
    · obtain ⟨h0, h1, -⟩ := hs
      replace h0 : ρ (.tmp 45) = .agg #[.int .i64 (k.h), .int .i64 (k.c), .int .i64 (k.d)] := h0
      replace h1 : ρ (.tmp 42) = .bool (true) := h1
      go_simp
      refine (HP2.out _).mono ?_; rintro e w' ⟨rfl, hx⟩; exact ⟨_, rfl, hx, rfl⟩
    · obtain ⟨h0, h1, h2, -⟩ := hs
      replace h0 : ρ (.tmp 44) = .int .i64 (PE) := h0
      replace h1 : ρ (.tmp 46) = .int .i64 (PE) := h1
      replace h2 : ρ (.tmp 42) = .bool (true) := h2
      go_simp
      first | exact ⟨Ext.refl _, rfl⟩ | (simp; exact Ext.refl _)
    · obtain ⟨h0, h1, -⟩ := hs
      replace h0 : ρ (.tmp 42) = .bool (true) := h0
      replace h1 : ρ (.tmp 47) = .bool (true) := h1
      go_simp
      exact ⟨Ext.refl _, rfl⟩
    · obtain ⟨h0, -⟩ := hs
      replace h0 : ρ (.tmp 48) = .bool (true) := h0
      go_simp
      exact ⟨Ext.refl _, rfl⟩
  · intro fv W6 hF hs
    obtain ⟨-, -, -, -, -, -, -, -, -, -, -, -, -, -, -, -, -, -, -, -, -, -, h6, -⟩ := hs
    replace h6 : fv 6 = .bool (true) := h6
    simp only [fin, List.filterMap]
    go_simp
    go_wp2
    go_ret
    exact ⟨rfl, (E0.out.trans X5.out).trans hF⟩

end Go.Proofs.YtkmekbafjnlfkaaGreat
