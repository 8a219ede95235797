/- Bands. -/
import Derived.Test.YtkmekbafjnlfkaaGreatS15b

namespace Go.Proofs.YtkmekbafjnlfkaaGreat
open Go.RowKit Go.Shelf Go.Mem Go.RegInv
attribute [local go_sem] RelUpon_value RelUpon_skip RelUpon_enter BigFrame.eval_const BigFrame.eval_global BigFrame.eval_func

theorem fill4_bd {l d0 d1 d2 d3 : Int} (hl : 0 ≤ l) (h0 : 0 ≤ d0) (h1 : 0 ≤ d1) (h2 : 0 ≤ d2) (h3 : 0 ≤ d3) :
    (0 ≤ (fill4 l d0 d1 d2 d3).1 ∧ (fill4 l d0 d1 d2 d3).1 ≤ d0) ∧ (0 ≤ (fill4 l d0 d1 d2 d3).2.1 ∧ (fill4 l d0 d1 d2 d3).2.1 ≤ d1) ∧ (0 ≤ (fill4 l d0 d1 d2 d3).2.2.1 ∧ (fill4 l d0 d1 d2 d3).2.2.1 ≤ d2) ∧ (0 ≤ (fill4 l d0 d1 d2 d3).2.2.2 ∧ (fill4 l d0 d1 d2 d3).2.2.2 ≤ d3) := by
  unfold fill4
  dsimp only
  omega

set_option maxRecDepth 100000 in
set_option maxHeartbeats 4000000 in
theorem band_any {r : Ru} {u : Value} {w : World} (hR : RuV r u w) (hr : rulesE r = 0) (p0 p1 a0 a1 b0 b1 m0 m1 w0 w1 g0 g1 t0 t1 : Int) (hp : 0 ≤ p0 ∧ p0 ≤ p1 ∧ p1 ≤ 1000000) (ha : 0 ≤ a0 ∧ a0 ≤ a1 ∧ a1 ≤ 1000000) (hb : 0 ≤ b0 ∧ b0 ≤ b1 ∧ b1 ≤ 1000000) (hm : 0 ≤ m0 ∧ m0 ≤ m1 ∧ m1 ≤ 1000000) (hs : p0 + a0 + b0 + m0 ≤ 1000000) (ht : 0 ≤ t0 ∧ t0 ≤ t1 ∧ t1 ≤ 1000000) :
    Calls Tryz.prog 107 #[u, .agg #[.int .i64 p0, .int .i64 p1, .int .i64 a0, .int .i64 a1, .int .i64 b0, .int .i64 b1, .int .i64 m0, .int .i64 m1, .int .i64 w0, .int .i64 w1, .int .i64 g0, .int .i64 g1, .int .i64 t0, .int .i64 t1]] w fun e w' => e = .returned (.agg #[.int .i64 (hardK r.h0 r.h1 r.h2 r.h3 (p0 + (fill4 (1000000 - p0 - a0 - b0 - m0) (p1 - p0) (a1 - a0) (b1 - b0) (m1 - m0)).1) (a0 + (fill4 (1000000 - p0 - a0 - b0 - m0) (p1 - p0) (a1 - a0) (b1 - b0) (m1 - m0)).2.1) (b0 + (fill4 (1000000 - p0 - a0 - b0 - m0) (p1 - p0) (a1 - a0) (b1 - b0) (m1 - m0)).2.2.1) (m0 + (fill4 (1000000 - p0 - a0 - b0 - m0) (p1 - p0) (a1 - a0) (b1 - b0) (m1 - m0)).2.2.2) t1), .int .i64 (hardK r.h0 r.h1 r.h2 r.h3 (p0 + (fill4 (1000000 - p0 - a0 - b0 - m0) (m1 - m0) (b1 - b0) (a1 - a0) (p1 - p0)).2.2.2) (a0 + (fill4 (1000000 - p0 - a0 - b0 - m0) (m1 - m0) (b1 - b0) (a1 - a0) (p1 - p0)).2.2.1) (b0 + (fill4 (1000000 - p0 - a0 - b0 - m0) (m1 - m0) (b1 - b0) (a1 - a0) (p1 - p0)).2.1) (m0 + (fill4 (1000000 - p0 - a0 - b0 - m0) (m1 - m0) (b1 - b0) (a1 - a0) (p1 - p0)).1) t0)]) ∧ Ext w w' := by
  have hR0 := hR
  obtain ⟨A0, A1, A2, A3, n0, n1, n2, n3, c0, c1, c2, c3, rfl, -⟩ := hR
  obtain ⟨W0, hW0⟩ : ∃ W0, W0 = ((w.alloc (.cells #[.slice A0 n0 c0, .slice A1 n1 c1, .slice A2 n2 c2, .slice A3 n3 c3, .int .i64 r.h0, .int .i64 r.h1, .int .i64 r.h2, .int .i64 r.h3] 161)).alloc (.cells #[.int .i64 p0, .int .i64 p1, .int .i64 a0, .int .i64 a1, .int .i64 b0, .int .i64 b1, .int .i64 m0, .int .i64 m1, .int .i64 w0, .int .i64 w1, .int .i64 g0, .int .i64 g1, .int .i64 t0, .int .i64 t1] 74)).alloc (.cells #[.int .i64 0, .int .i64 0] 66) := ⟨_, rfl⟩
  have k0 : Blk W0 w.heap.size 161 #[.slice A0 n0 c0, .slice A1 n1 c1, .slice A2 n2 c2, .slice A3 n3 c3, .int .i64 r.h0, .int .i64 r.h1, .int .i64 r.h2, .int .i64 r.h3] := by rw [hW0]; exact ((Blk.new _ _ _).alloc _).alloc _
  have k1 : Blk W0 (w.heap.size + 1) 74 #[.int .i64 p0, .int .i64 p1, .int .i64 a0, .int .i64 a1, .int .i64 b0, .int .i64 b1, .int .i64 m0, .int .i64 m1, .int .i64 w0, .int .i64 w1, .int .i64 g0, .int .i64 g1, .int .i64 t0, .int .i64 t1] := by rw [hW0]; exact (Blk.newAt _ _ _ (by simp)).alloc _
  have K2 := Lib.hid (show Blk W0 (w.heap.size + 1 + 1) 66 #[.int .i64 0, .int .i64 0] by rw [hW0]; exact Blk.newAt _ _ _ (by simp))
  have e0' : Ext w W0 := by rw [hW0]; exact ((Ext.alloc _ _).trans (Ext.alloc _ _)).trans (Ext.alloc _ _)
  have HV := Lib.hid (hR0.ext e0')
  have E0 := Lib.hid e0'
  have y0 : W0.cell? ⟨w.heap.size, 0, none⟩ = some (.slice A0 n0 c0) := k0.cell 0
  have y1 : W0.cell? ⟨w.heap.size, 1, none⟩ = some (.slice A1 n1 c1) := k0.cell 1
  have y2 : W0.cell? ⟨w.heap.size, 2, none⟩ = some (.slice A2 n2 c2) := k0.cell 2
  have y3 : W0.cell? ⟨w.heap.size, 3, none⟩ = some (.slice A3 n3 c3) := k0.cell 3
  have y4 : W0.cell? ⟨w.heap.size, 4, none⟩ = some (.int .i64 (r.h0)) := k0.cell 4
  have y5 : W0.cell? ⟨w.heap.size, 5, none⟩ = some (.int .i64 (r.h1)) := k0.cell 5
  have y6 : W0.cell? ⟨w.heap.size, 6, none⟩ = some (.int .i64 (r.h2)) := k0.cell 6
  have y7 : W0.cell? ⟨w.heap.size, 7, none⟩ = some (.int .i64 (r.h3)) := k0.cell 7
  have x0 : W0.cell? ⟨w.heap.size + 1, 0, none⟩ = some (.int .i64 (p0)) := k1.cell 0
  have x1 : W0.cell? ⟨w.heap.size + 1, 1, none⟩ = some (.int .i64 (p1)) := k1.cell 1
  have x2 : W0.cell? ⟨w.heap.size + 1, 2, none⟩ = some (.int .i64 (a0)) := k1.cell 2
  have x3 : W0.cell? ⟨w.heap.size + 1, 3, none⟩ = some (.int .i64 (a1)) := k1.cell 3
  have x4 : W0.cell? ⟨w.heap.size + 1, 4, none⟩ = some (.int .i64 (b0)) := k1.cell 4
  have x5 : W0.cell? ⟨w.heap.size + 1, 5, none⟩ = some (.int .i64 (b1)) := k1.cell 5
  have x6 : W0.cell? ⟨w.heap.size + 1, 6, none⟩ = some (.int .i64 (m0)) := k1.cell 6
  have x7 : W0.cell? ⟨w.heap.size + 1, 7, none⟩ = some (.int .i64 (m1)) := k1.cell 7
  have x8 : W0.cell? ⟨w.heap.size + 1, 8, none⟩ = some (.int .i64 (w0)) := k1.cell 8
  have x9 : W0.cell? ⟨w.heap.size + 1, 9, none⟩ = some (.int .i64 (w1)) := k1.cell 9
  have x10 : W0.cell? ⟨w.heap.size + 1, 10, none⟩ = some (.int .i64 (g0)) := k1.cell 10
  have x11 : W0.cell? ⟨w.heap.size + 1, 11, none⟩ = some (.int .i64 (g1)) := k1.cell 11
  have x12 : W0.cell? ⟨w.heap.size + 1, 12, none⟩ = some (.int .i64 (t0)) := k1.cell 12
  have x13 : W0.cell? ⟨w.heap.size + 1, 13, none⟩ = some (.int .i64 (t1)) := k1.cell 13
  have HH := Lib.hid (rules_hard hr)
  have T0 := Lib.hid (show 0 ≤ t0 ∧ t0 ≤ 1000000 by omega)
  have T1 := Lib.hid (show 0 ≤ t1 ∧ t1 ≤ 1000000 by omega)
  have HLo := Lib.hid (fun (W : World) (v : Value) hv => filledLo_any p0 p1 a0 a1 b0 b1 m0 m1 w0 w1 g0 g1 t0 t1 hp ha hb hm hs (w := W) (v := v) hv)
  have HHi := Lib.hid (fun (W : World) (v : Value) hv => filledHi_any p0 p1 a0 a1 b0 b1 m0 m1 w0 w1 g0 g1 t0 t1 hp ha hb hm hs (w := W) (v := v) hv)
  have fb := fill4_bd (l := 1000000 - p0 - a0 - b0 - m0) (d0 := p1 - p0) (d1 := a1 - a0) (d2 := b1 - b0) (d3 := m1 - m0) (by omega) (by omega) (by omega) (by omega) (by omega)
  have gb := fill4_bd (l := 1000000 - p0 - a0 - b0 - m0) (d0 := m1 - m0) (d1 := b1 - b0) (d2 := a1 - a0) (d3 := p1 - p0) (by omega) (by omega) (by omega) (by omega) (by omega)
  have F0 := Lib.hid (show 0 ≤ p0 + (fill4 (1000000 - p0 - a0 - b0 - m0) (p1 - p0) (a1 - a0) (b1 - b0) (m1 - m0)).1 ∧ p0 + (fill4 (1000000 - p0 - a0 - b0 - m0) (p1 - p0) (a1 - a0) (b1 - b0) (m1 - m0)).1 ≤ 1000000 by omega)
  have F1 := Lib.hid (show 0 ≤ a0 + (fill4 (1000000 - p0 - a0 - b0 - m0) (p1 - p0) (a1 - a0) (b1 - b0) (m1 - m0)).2.1 ∧ a0 + (fill4 (1000000 - p0 - a0 - b0 - m0) (p1 - p0) (a1 - a0) (b1 - b0) (m1 - m0)).2.1 ≤ 1000000 by omega)
  have F2 := Lib.hid (show 0 ≤ b0 + (fill4 (1000000 - p0 - a0 - b0 - m0) (p1 - p0) (a1 - a0) (b1 - b0) (m1 - m0)).2.2.1 ∧ b0 + (fill4 (1000000 - p0 - a0 - b0 - m0) (p1 - p0) (a1 - a0) (b1 - b0) (m1 - m0)).2.2.1 ≤ 1000000 by omega)
  have F3 := Lib.hid (show 0 ≤ m0 + (fill4 (1000000 - p0 - a0 - b0 - m0) (p1 - p0) (a1 - a0) (b1 - b0) (m1 - m0)).2.2.2 ∧ m0 + (fill4 (1000000 - p0 - a0 - b0 - m0) (p1 - p0) (a1 - a0) (b1 - b0) (m1 - m0)).2.2.2 ≤ 1000000 by omega)
  have G0 := Lib.hid (show 0 ≤ p0 + (fill4 (1000000 - p0 - a0 - b0 - m0) (m1 - m0) (b1 - b0) (a1 - a0) (p1 - p0)).2.2.2 ∧ p0 + (fill4 (1000000 - p0 - a0 - b0 - m0) (m1 - m0) (b1 - b0) (a1 - a0) (p1 - p0)).2.2.2 ≤ 1000000 by omega)
  have G1 := Lib.hid (show 0 ≤ a0 + (fill4 (1000000 - p0 - a0 - b0 - m0) (m1 - m0) (b1 - b0) (a1 - a0) (p1 - p0)).2.2.1 ∧ a0 + (fill4 (1000000 - p0 - a0 - b0 - m0) (m1 - m0) (b1 - b0) (a1 - a0) (p1 - p0)).2.2.1 ≤ 1000000 by omega)
  have G2 := Lib.hid (show 0 ≤ b0 + (fill4 (1000000 - p0 - a0 - b0 - m0) (m1 - m0) (b1 - b0) (a1 - a0) (p1 - p0)).2.1 ∧ b0 + (fill4 (1000000 - p0 - a0 - b0 - m0) (m1 - m0) (b1 - b0) (a1 - a0) (p1 - p0)).2.1 ≤ 1000000 by omega)
  have G3 := Lib.hid (show 0 ≤ m0 + (fill4 (1000000 - p0 - a0 - b0 - m0) (m1 - m0) (b1 - b0) (a1 - a0) (p1 - p0)).1 ∧ m0 + (fill4 (1000000 - p0 - a0 - b0 - m0) (m1 - m0) (b1 - b0) (a1 - a0) (p1 - p0)).1 ≤ 1000000 by omega)
  clear fb gb hp ha hb hm hs ht hr hR0 k0 k1 e0'
  generalize p0 + (fill4 (1000000 - p0 - a0 - b0 - m0) (p1 - p0) (a1 - a0) (b1 - b0) (m1 - m0)).1 = f0 at *
  generalize a0 + (fill4 (1000000 - p0 - a0 - b0 - m0) (p1 - p0) (a1 - a0) (b1 - b0) (m1 - m0)).2.1 = f1 at *
  generalize b0 + (fill4 (1000000 - p0 - a0 - b0 - m0) (p1 - p0) (a1 - a0) (b1 - b0) (m1 - m0)).2.2.1 = f2 at *
  generalize m0 + (fill4 (1000000 - p0 - a0 - b0 - m0) (p1 - p0) (a1 - a0) (b1 - b0) (m1 - m0)).2.2.2 = f3 at *
  generalize p0 + (fill4 (1000000 - p0 - a0 - b0 - m0) (m1 - m0) (b1 - b0) (a1 - a0) (p1 - p0)).2.2.2 = e0 at *
  generalize a0 + (fill4 (1000000 - p0 - a0 - b0 - m0) (m1 - m0) (b1 - b0) (a1 - a0) (p1 - p0)).2.2.1 = e1 at *
  generalize b0 + (fill4 (1000000 - p0 - a0 - b0 - m0) (m1 - m0) (b1 - b0) (a1 - a0) (p1 - p0)).2.1 = e2 at *
  generalize m0 + (fill4 (1000000 - p0 - a0 - b0 - m0) (m1 - m0) (b1 - b0) (a1 - a0) (p1 - p0)).1 = e3 at *
  go_enter Tryz.func107, Tryz.ntmps107
  go_wp2
  rw [← hW0]
  clear hW0
  refine wp_region_partR 17 [some 5, some 6, some 7, some 8, some 9, some 10, some 11, some 12, some 13, some 14, some 15, some 16, some 17, some 18, some 19, some 20, some 21] [[2], [3], [], [6, 7], [3], [9], [10], [5, 8, 11], [2], [3], [], [14, 15], [3], [17], [18], [13, 16, 19], [12, 20]]
    [Is (.agg #[.slice A0 n0 c0, .slice A1 n1 c1, .slice A2 n2 c2, .slice A3 n3 c3, .int .i64 (r.h0), .int .i64 (r.h1), .int .i64 (r.h2), .int .i64 (r.h3)]), Is (.agg #[.int .i64 (p0), .int .i64 (p1), .int .i64 (a0), .int .i64 (a1), .int .i64 (b0), .int .i64 (b1), .int .i64 (m0), .int .i64 (m1), .int .i64 (w0), .int .i64 (w1), .int .i64 (g0), .int .i64 (g1), .int .i64 (t0), .int .i64 (t1)]), Ints [0, 1, 2, 3], Is (.agg #[.int .i64 f0, .int .i64 f1, .int .i64 f2, .int .i64 f3]), Is (.pointer (some ⟨w.heap.size + 1, 12, none⟩)), Is (.pointer (some ⟨w.heap.size + 1, 13, none⟩)), Is (.int .i64 (t1)), Is (.int .i64 (hardK r.h0 r.h1 r.h2 r.h3 f0 f1 f2 f3 t1)), Is (.agg #[.slice A0 n0 c0, .slice A1 n1 c1, .slice A2 n2 c2, .slice A3 n3 c3, .int .i64 (r.h0), .int .i64 (r.h1), .int .i64 (r.h2), .int .i64 (r.h3)]), Is (.agg #[.int .i64 (p0), .int .i64 (p1), .int .i64 (a0), .int .i64 (a1), .int .i64 (b0), .int .i64 (b1), .int .i64 (m0), .int .i64 (m1), .int .i64 (w0), .int .i64 (w1), .int .i64 (g0), .int .i64 (g1), .int .i64 (t0), .int .i64 (t1)]), Ints [3, 2, 1, 0], Is (.agg #[.int .i64 e0, .int .i64 e1, .int .i64 e2, .int .i64 e3]), Is (.pointer (some ⟨w.heap.size + 1, 12, none⟩)), Is (.pointer (some ⟨w.heap.size + 1, 12, none⟩)), Is (.int .i64 (t0)), Is (.int .i64 (hardK r.h0 r.h1 r.h2 r.h3 e0 e1 e2 e3 t0)), Is (.agg #[.int .i64 (hardK r.h0 r.h1 r.h2 r.h3 f0 f1 f2 f3 t1), .int .i64 (hardK r.h0 r.h1 r.h2 r.h3 e0 e1 e2 e3 t0)])]
    (by kernel_rfl) (by kernel_rfl) (by kernel_rfl) (by kernel_rfl) (by kernel_rfl) (by kernel_rfl) (by kernel_rfl) Ext (fun W => Ext W0 W)
    (fun W _ => Ext.refl W) (fun W W' h k => h.trans k) ?_ (Ext.drew _) ?_ ?_
  · repeat (refine ⟨fun _ _ _ _ k h => (by first | exact h | exact (by first | exact IntsAt.ext h k | exact KnV.ext h k | exact NumsV.ext h k)), ?_⟩)
    exact trivial
  · refine ⟨?_, ?_, ?_, ?_, ?_, ?_, ?_, ?_, ?_, ?_, ?_, ?_, ?_, ?_, ?_, ?_, ?_, trivial⟩
    all_goals intro ρ W ⟨kc, kg, kf⟩ hF hs
    · obtain ⟨h0, -⟩ := hs
      replace h0 : ρ (.tmp 2) = .pointer (some ⟨w.heap.size, 0, none⟩) := h0
      have hc0 : W.cell? ⟨w.heap.size, 0, none⟩ = some (.slice A0 n0 c0) := hF.cell (by assumption)
      have hc1 : W.cell? ⟨w.heap.size, 1, none⟩ = some (.slice A1 n1 c1) := hF.cell (by assumption)
      have hc2 : W.cell? ⟨w.heap.size, 2, none⟩ = some (.slice A2 n2 c2) := hF.cell (by assumption)
      have hc3 : W.cell? ⟨w.heap.size, 3, none⟩ = some (.slice A3 n3 c3) := hF.cell (by assumption)
      have hc4 : W.cell? ⟨w.heap.size, 4, none⟩ = some (.int .i64 (r.h0)) := hF.cell (by assumption)
      have hc5 : W.cell? ⟨w.heap.size, 5, none⟩ = some (.int .i64 (r.h1)) := hF.cell (by assumption)
      have hc6 : W.cell? ⟨w.heap.size, 6, none⟩ = some (.int .i64 (r.h2)) := hF.cell (by assumption)
      have hc7 : W.cell? ⟨w.heap.size, 7, none⟩ = some (.int .i64 (r.h3)) := hF.cell (by assumption)
      go_simp
      exact ⟨Ext.refl _, rfl⟩
    · obtain ⟨h0, -⟩ := hs
      replace h0 : ρ (.tmp 3) = .pointer (some ⟨w.heap.size + 1, 0, none⟩) := h0
      have hc0 : W.cell? ⟨w.heap.size + 1, 0, none⟩ = some (.int .i64 (p0)) := hF.cell (by assumption)
      have hc1 : W.cell? ⟨w.heap.size + 1, 1, none⟩ = some (.int .i64 (p1)) := hF.cell (by assumption)
      have hc2 : W.cell? ⟨w.heap.size + 1, 2, none⟩ = some (.int .i64 (a0)) := hF.cell (by assumption)
      have hc3 : W.cell? ⟨w.heap.size + 1, 3, none⟩ = some (.int .i64 (a1)) := hF.cell (by assumption)
      have hc4 : W.cell? ⟨w.heap.size + 1, 4, none⟩ = some (.int .i64 (b0)) := hF.cell (by assumption)
      have hc5 : W.cell? ⟨w.heap.size + 1, 5, none⟩ = some (.int .i64 (b1)) := hF.cell (by assumption)
      have hc6 : W.cell? ⟨w.heap.size + 1, 6, none⟩ = some (.int .i64 (m0)) := hF.cell (by assumption)
      have hc7 : W.cell? ⟨w.heap.size + 1, 7, none⟩ = some (.int .i64 (m1)) := hF.cell (by assumption)
      have hc8 : W.cell? ⟨w.heap.size + 1, 8, none⟩ = some (.int .i64 (w0)) := hF.cell (by assumption)
      have hc9 : W.cell? ⟨w.heap.size + 1, 9, none⟩ = some (.int .i64 (w1)) := hF.cell (by assumption)
      have hc10 : W.cell? ⟨w.heap.size + 1, 10, none⟩ = some (.int .i64 (g0)) := hF.cell (by assumption)
      have hc11 : W.cell? ⟨w.heap.size + 1, 11, none⟩ = some (.int .i64 (g1)) := hF.cell (by assumption)
      have hc12 : W.cell? ⟨w.heap.size + 1, 12, none⟩ = some (.int .i64 (t0)) := hF.cell (by assumption)
      have hc13 : W.cell? ⟨w.heap.size + 1, 13, none⟩ = some (.int .i64 (t1)) := hF.cell (by assumption)
      go_simp
      exact ⟨Ext.refl _, rfl⟩
    · go_simp
      exact ⟨Ext.alloc _ _, ints_new _ [0, 1, 2, 3] _ (by simp)⟩
    · obtain ⟨h0, h1, -⟩ := hs
      replace h0 : ρ (.tmp 6) = .agg #[.int .i64 (p0), .int .i64 (p1), .int .i64 (a0), .int .i64 (a1), .int .i64 (b0), .int .i64 (b1), .int .i64 (m0), .int .i64 (m1), .int .i64 (w0), .int .i64 (w1), .int .i64 (g0), .int .i64 (g1), .int .i64 (t0), .int .i64 (t1)] := h0
      replace h1 : (Ints [0, 1, 2, 3]) (ρ (.tmp 7)) W := h1
      go_simp
      refine (HLo.out _ _ h1).mono ?_; rintro e w' ⟨rfl, hx⟩; exact ⟨_, rfl, hx, rfl⟩
    · obtain ⟨h0, -⟩ := hs
      replace h0 : ρ (.tmp 3) = .pointer (some ⟨w.heap.size + 1, 0, none⟩) := h0
      go_simp
      exact ⟨Ext.refl _, rfl⟩
    · obtain ⟨h0, -⟩ := hs
      replace h0 : ρ (.tmp 9) = .pointer (some ⟨w.heap.size + 1, 12, none⟩) := h0
      go_simp
      exact ⟨Ext.refl _, rfl⟩
    · obtain ⟨h0, -⟩ := hs
      replace h0 : ρ (.tmp 10) = .pointer (some ⟨w.heap.size + 1, 13, none⟩) := h0
      have hc0 : W.cell? ⟨w.heap.size + 1, 13, none⟩ = some (.int .i64 (t1)) := hF.cell (by assumption)
      go_simp
      exact ⟨Ext.refl _, rfl⟩
    · obtain ⟨h0, h1, h2, -⟩ := hs
      replace h0 : ρ (.tmp 5) = .agg #[.slice A0 n0 c0, .slice A1 n1 c1, .slice A2 n2 c2, .slice A3 n3 c3, .int .i64 (r.h0), .int .i64 (r.h1), .int .i64 (r.h2), .int .i64 (r.h3)] := h0
      replace h1 : ρ (.tmp 8) = .agg #[.int .i64 f0, .int .i64 f1, .int .i64 f2, .int .i64 f3] := h1
      replace h2 : ρ (.tmp 11) = .int .i64 (t1) := h2
      go_simp
      refine (hardness_any (HV.out.ext hF) _ _ _ _ _ F0.out F1.out F2.out F3.out T1.out (by have := HH.out; omega) (by have := HH.out; omega) (by have := HH.out; omega) (by have := HH.out; omega)).mono ?_; rintro e w' ⟨rfl, hx⟩; exact ⟨_, rfl, hx, rfl⟩
    · obtain ⟨h0, -⟩ := hs
      replace h0 : ρ (.tmp 2) = .pointer (some ⟨w.heap.size, 0, none⟩) := h0
      have hc0 : W.cell? ⟨w.heap.size, 0, none⟩ = some (.slice A0 n0 c0) := hF.cell (by assumption)
      have hc1 : W.cell? ⟨w.heap.size, 1, none⟩ = some (.slice A1 n1 c1) := hF.cell (by assumption)
      have hc2 : W.cell? ⟨w.heap.size, 2, none⟩ = some (.slice A2 n2 c2) := hF.cell (by assumption)
      have hc3 : W.cell? ⟨w.heap.size, 3, none⟩ = some (.slice A3 n3 c3) := hF.cell (by assumption)
      have hc4 : W.cell? ⟨w.heap.size, 4, none⟩ = some (.int .i64 (r.h0)) := hF.cell (by assumption)
      have hc5 : W.cell? ⟨w.heap.size, 5, none⟩ = some (.int .i64 (r.h1)) := hF.cell (by assumption)
      have hc6 : W.cell? ⟨w.heap.size, 6, none⟩ = some (.int .i64 (r.h2)) := hF.cell (by assumption)
      have hc7 : W.cell? ⟨w.heap.size, 7, none⟩ = some (.int .i64 (r.h3)) := hF.cell (by assumption)
      go_simp
      exact ⟨Ext.refl _, rfl⟩
    · obtain ⟨h0, -⟩ := hs
      replace h0 : ρ (.tmp 3) = .pointer (some ⟨w.heap.size + 1, 0, none⟩) := h0
      have hc0 : W.cell? ⟨w.heap.size + 1, 0, none⟩ = some (.int .i64 (p0)) := hF.cell (by assumption)
      have hc1 : W.cell? ⟨w.heap.size + 1, 1, none⟩ = some (.int .i64 (p1)) := hF.cell (by assumption)
      have hc2 : W.cell? ⟨w.heap.size + 1, 2, none⟩ = some (.int .i64 (a0)) := hF.cell (by assumption)
      have hc3 : W.cell? ⟨w.heap.size + 1, 3, none⟩ = some (.int .i64 (a1)) := hF.cell (by assumption)
      have hc4 : W.cell? ⟨w.heap.size + 1, 4, none⟩ = some (.int .i64 (b0)) := hF.cell (by assumption)
      have hc5 : W.cell? ⟨w.heap.size + 1, 5, none⟩ = some (.int .i64 (b1)) := hF.cell (by assumption)
      have hc6 : W.cell? ⟨w.heap.size + 1, 6, none⟩ = some (.int .i64 (m0)) := hF.cell (by assumption)
      have hc7 : W.cell? ⟨w.heap.size + 1, 7, none⟩ = some (.int .i64 (m1)) := hF.cell (by assumption)
      have hc8 : W.cell? ⟨w.heap.size + 1, 8, none⟩ = some (.int .i64 (w0)) := hF.cell (by assumption)
      have hc9 : W.cell? ⟨w.heap.size + 1, 9, none⟩ = some (.int .i64 (w1)) := hF.cell (by assumption)
      have hc10 : W.cell? ⟨w.heap.size + 1, 10, none⟩ = some (.int .i64 (g0)) := hF.cell (by assumption)
      have hc11 : W.cell? ⟨w.heap.size + 1, 11, none⟩ = some (.int .i64 (g1)) := hF.cell (by assumption)
      have hc12 : W.cell? ⟨w.heap.size + 1, 12, none⟩ = some (.int .i64 (t0)) := hF.cell (by assumption)
      have hc13 : W.cell? ⟨w.heap.size + 1, 13, none⟩ = some (.int .i64 (t1)) := hF.cell (by assumption)
      go_simp
      exact ⟨Ext.refl _, rfl⟩
    · go_simp
      exact ⟨Ext.alloc _ _, ints_new _ [3, 2, 1, 0] _ (by simp)⟩
    · obtain ⟨h0, h1, -⟩ := hs
      replace h0 : ρ (.tmp 14) = .agg #[.int .i64 (p0), .int .i64 (p1), .int .i64 (a0), .int .i64 (a1), .int .i64 (b0), .int .i64 (b1), .int .i64 (m0), .int .i64 (m1), .int .i64 (w0), .int .i64 (w1), .int .i64 (g0), .int .i64 (g1), .int .i64 (t0), .int .i64 (t1)] := h0
      replace h1 : (Ints [3, 2, 1, 0]) (ρ (.tmp 15)) W := h1
      go_simp
      refine (HHi.out _ _ h1).mono ?_; rintro e w' ⟨rfl, hx⟩; exact ⟨_, rfl, hx, rfl⟩
    · obtain ⟨h0, -⟩ := hs
      replace h0 : ρ (.tmp 3) = .pointer (some ⟨w.heap.size + 1, 0, none⟩) := h0
      go_simp
      exact ⟨Ext.refl _, rfl⟩
    · obtain ⟨h0, -⟩ := hs
      replace h0 : ρ (.tmp 17) = .pointer (some ⟨w.heap.size + 1, 12, none⟩) := h0
      go_simp
      exact ⟨Ext.refl _, rfl⟩
    · obtain ⟨h0, -⟩ := hs
      replace h0 : ρ (.tmp 18) = .pointer (some ⟨w.heap.size + 1, 12, none⟩) := h0
      have hc0 : W.cell? ⟨w.heap.size + 1, 12, none⟩ = some (.int .i64 (t0)) := hF.cell (by assumption)
      go_simp
      exact ⟨Ext.refl _, rfl⟩
    · obtain ⟨h0, h1, h2, -⟩ := hs
      replace h0 : ρ (.tmp 13) = .agg #[.slice A0 n0 c0, .slice A1 n1 c1, .slice A2 n2 c2, .slice A3 n3 c3, .int .i64 (r.h0), .int .i64 (r.h1), .int .i64 (r.h2), .int .i64 (r.h3)] := h0
      replace h1 : ρ (.tmp 16) = .agg #[.int .i64 e0, .int .i64 e1, .int .i64 e2, .int .i64 e3] := h1
      replace h2 : ρ (.tmp 19) = .int .i64 (t0) := h2
      go_simp
      refine (hardness_any (HV.out.ext hF) _ _ _ _ _ G0.out G1.out G2.out G3.out T0.out (by have := HH.out; omega) (by have := HH.out; omega) (by have := HH.out; omega) (by have := HH.out; omega)).mono ?_; rintro e w' ⟨rfl, hx⟩; exact ⟨_, rfl, hx, rfl⟩
    · obtain ⟨h0, h1, -⟩ := hs
      replace h0 : ρ (.tmp 12) = .int .i64 (hardK r.h0 r.h1 r.h2 r.h3 f0 f1 f2 f3 t1) := h0
      replace h1 : ρ (.tmp 20) = .int .i64 (hardK r.h0 r.h1 r.h2 r.h3 e0 e1 e2 e3 t0) := h1
      go_simp
      exact ⟨Ext.refl _, rfl⟩
  · intro fv W1 hF hs
    obtain ⟨-, -, -, -, -, -, -, -, -, -, -, -, -, -, -, -, h21, -⟩ := hs
    replace h21 : fv 21 = .agg #[.int .i64 (hardK r.h0 r.h1 r.h2 r.h3 f0 f1 f2 f3 t1), .int .i64 (hardK r.h0 r.h1 r.h2 r.h3 e0 e1 e2 e3 t0)] := h21
    simp only [fin, List.filterMap]
    go_simp
    have k2 := K2.out.ext hF
    have X := Lib.hid (E0.out.trans hF)
    have s0 : W1.cell? ⟨w.heap.size + 1 + 1, 0, none⟩ = some (.int .i64 0) := k2.cell 0
    have s1 : W1.cell? ⟨w.heap.size + 1 + 1, 1, none⟩ = some (.int .i64 0) := k2.cell 1
    have g0' := k2.free 0
    have g1' := k2.free 1
    clear hF h21 k2
    go_wp2
    exact bodyPost_ret (v := .agg #[.int .i64 (hardK r.h0 r.h1 r.h2 r.h3 f0 f1 f2 f3 t1), .int .i64 (hardK r.h0 r.h1 r.h2 r.h3 e0 e1 e2 e3 t0)]) (by simp [results, Tryz.f107, go_sem, s0, s1]) rfl
      ⟨rfl, Ext.set (Ext.set X.out (by dsimp only; omega) _) (by dsimp only; omega) _⟩

structure BxOK (p0 p1 a0 a1 b0 b1 m0 m1 w0 w1 g0 g1 t0 t1 : Int) : Prop where
  hp : 0 ≤ p0 ∧ p0 ≤ p1 ∧ p1 ≤ 1000000
  ha : 0 ≤ a0 ∧ a0 ≤ a1 ∧ a1 ≤ 1000000
  hb : 0 ≤ b0 ∧ b0 ≤ b1 ∧ b1 ≤ 1000000
  hm : 0 ≤ m0 ∧ m0 ≤ m1 ∧ m1 ≤ 1000000
  hw : 0 ≤ w0 ∧ w0 ≤ w1 ∧ w1 ≤ 1000000
  hg : 0 ≤ g0 ∧ g0 ≤ g1 ∧ g1 ≤ 100000
  ht : 0 ≤ t0 ∧ t0 ≤ t1 ∧ t1 ≤ 1000000
  lo : p0 + a0 + b0 + m0 ≤ 1000000
  hi : 1000000 ≤ p1 + a1 + b1 + m1
theorem box_ok {p0 p1 a0 a1 b0 b1 m0 m1 w0 w1 g0 g1 t0 t1 : Int} (h : boxE [⟨p0, p1⟩, ⟨a0, a1⟩, ⟨b0, b1⟩, ⟨m0, m1⟩, ⟨w0, w1⟩, ⟨g0, g1⟩, ⟨t0, t1⟩] = 0) : BxOK p0 p1 a0 a1 b0 b1 m0 m1 w0 w1 g0 g1 t0 t1 := by
  unfold boxE at h
  by_cases h0 : (firstAt (bxE [⟨p0, p1⟩, ⟨a0, a1⟩, ⟨b0, b1⟩, ⟨m0, m1⟩, ⟨w0, w1⟩, ⟨g0, g1⟩, ⟨t0, t1⟩]) 7 0).2 = 0
  · rw [if_neg (by rw [h0]; simp)] at h
    have hs := errIf_zero h (by decide)
    have hs' : emptyK p0 p1 a0 a1 b0 b1 m0 m1 = false := hs
    unfold emptyK at hs'
    simp at hs'
    exact ⟨endsE_zero (firstAt_zero h0 0 (by omega) (by omega)), endsE_zero (firstAt_zero h0 1 (by omega) (by omega)), endsE_zero (firstAt_zero h0 2 (by omega) (by omega)), endsE_zero (firstAt_zero h0 3 (by omega) (by omega)), endsE_zero (firstAt_zero h0 4 (by omega) (by omega)), endsE_zero (firstAt_zero h0 5 (by omega) (by omega)), endsE_zero (firstAt_zero h0 6 (by omega) (by omega)), by omega, by omega⟩
  · rw [if_pos h0] at h; exact absurd h h0
/-- The error of a box of rules. -/
def boxBothE (r : Ru) (l : List Rg) : Int := firstE [rulesE r, boxE l]
set_option maxRecDepth 100000 in
set_option maxHeartbeats 4000000 in
theorem bandOf_ok {r : Ru} {u : Value} {w : World} (hR : RuV r u w) (p0 p1 a0 a1 b0 b1 m0 m1 w0 w1 g0 g1 t0 t1 : Int) (h0 : boxBothE r [⟨p0, p1⟩, ⟨a0, a1⟩, ⟨b0, b1⟩, ⟨m0, m1⟩, ⟨w0, w1⟩, ⟨g0, g1⟩, ⟨t0, t1⟩] = 0) :
    Calls Tryz.prog 40 #[u, .agg #[.int .i64 p0, .int .i64 p1, .int .i64 a0, .int .i64 a1, .int .i64 b0, .int .i64 b1, .int .i64 m0, .int .i64 m1, .int .i64 w0, .int .i64 w1, .int .i64 g0, .int .i64 g1, .int .i64 t0, .int .i64 t1]] w fun e w' => e = .returned (.tuple #[.agg #[.int .i64 (hardK r.h0 r.h1 r.h2 r.h3 (p0 + (fill4 (1000000 - p0 - a0 - b0 - m0) (p1 - p0) (a1 - a0) (b1 - b0) (m1 - m0)).1) (a0 + (fill4 (1000000 - p0 - a0 - b0 - m0) (p1 - p0) (a1 - a0) (b1 - b0) (m1 - m0)).2.1) (b0 + (fill4 (1000000 - p0 - a0 - b0 - m0) (p1 - p0) (a1 - a0) (b1 - b0) (m1 - m0)).2.2.1) (m0 + (fill4 (1000000 - p0 - a0 - b0 - m0) (p1 - p0) (a1 - a0) (b1 - b0) (m1 - m0)).2.2.2) t1), .int .i64 (hardK r.h0 r.h1 r.h2 r.h3 (p0 + (fill4 (1000000 - p0 - a0 - b0 - m0) (m1 - m0) (b1 - b0) (a1 - a0) (p1 - p0)).2.2.2) (a0 + (fill4 (1000000 - p0 - a0 - b0 - m0) (m1 - m0) (b1 - b0) (a1 - a0) (p1 - p0)).2.2.1) (b0 + (fill4 (1000000 - p0 - a0 - b0 - m0) (m1 - m0) (b1 - b0) (a1 - a0) (p1 - p0)).2.1) (m0 + (fill4 (1000000 - p0 - a0 - b0 - m0) (m1 - m0) (b1 - b0) (a1 - a0) (p1 - p0)).1) t0)], .int .i64 0]) ∧ Ext w w' := by
  have hR0 := hR
  obtain ⟨A0, A1, A2, A3, n0, n1, n2, n3, c0, c1, c2, c3, rfl, -⟩ := hR
  obtain ⟨W0, hW0⟩ : ∃ W0, W0 = ((w.alloc (.cells #[.slice A0 n0 c0, .slice A1 n1 c1, .slice A2 n2 c2, .slice A3 n3 c3, .int .i64 r.h0, .int .i64 r.h1, .int .i64 r.h2, .int .i64 r.h3] 28)).alloc (.cells #[.int .i64 p0, .int .i64 p1, .int .i64 a0, .int .i64 a1, .int .i64 b0, .int .i64 b1, .int .i64 m0, .int .i64 m1, .int .i64 w0, .int .i64 w1, .int .i64 g0, .int .i64 g1, .int .i64 t0, .int .i64 t1] 74)).alloc (.cells #[.int .i64 0, .int .i64 0] 66) := ⟨_, rfl⟩
  have k0 : Blk W0 w.heap.size 28 #[.slice A0 n0 c0, .slice A1 n1 c1, .slice A2 n2 c2, .slice A3 n3 c3, .int .i64 r.h0, .int .i64 r.h1, .int .i64 r.h2, .int .i64 r.h3] := by rw [hW0]; exact ((Blk.new _ _ _).alloc _).alloc _
  have k1 : Blk W0 (w.heap.size + 1) 74 #[.int .i64 p0, .int .i64 p1, .int .i64 a0, .int .i64 a1, .int .i64 b0, .int .i64 b1, .int .i64 m0, .int .i64 m1, .int .i64 w0, .int .i64 w1, .int .i64 g0, .int .i64 g1, .int .i64 t0, .int .i64 t1] := by rw [hW0]; exact (Blk.newAt _ _ _ (by simp)).alloc _
  have K2 := Lib.hid (show Blk W0 (w.heap.size + 1 + 1) 66 #[.int .i64 0, .int .i64 0] by rw [hW0]; exact Blk.newAt _ _ _ (by simp))
  have e0' : Ext w W0 := by rw [hW0]; exact ((Ext.alloc _ _).trans (Ext.alloc _ _)).trans (Ext.alloc _ _)
  have HV := Lib.hid (hR0.ext e0')
  have E0 := Lib.hid e0'
  have K0 := Lib.hid k0
  have K1 := Lib.hid k1
  have y0 : W0.cell? ⟨w.heap.size, 0, none⟩ = some (.slice A0 n0 c0) := k0.cell 0
  have y1 : W0.cell? ⟨w.heap.size, 1, none⟩ = some (.slice A1 n1 c1) := k0.cell 1
  have y2 : W0.cell? ⟨w.heap.size, 2, none⟩ = some (.slice A2 n2 c2) := k0.cell 2
  have y3 : W0.cell? ⟨w.heap.size, 3, none⟩ = some (.slice A3 n3 c3) := k0.cell 3
  have y4 : W0.cell? ⟨w.heap.size, 4, none⟩ = some (.int .i64 (r.h0)) := k0.cell 4
  have y5 : W0.cell? ⟨w.heap.size, 5, none⟩ = some (.int .i64 (r.h1)) := k0.cell 5
  have y6 : W0.cell? ⟨w.heap.size, 6, none⟩ = some (.int .i64 (r.h2)) := k0.cell 6
  have y7 : W0.cell? ⟨w.heap.size, 7, none⟩ = some (.int .i64 (r.h3)) := k0.cell 7
  have x0 : W0.cell? ⟨w.heap.size + 1, 0, none⟩ = some (.int .i64 (p0)) := k1.cell 0
  have x1 : W0.cell? ⟨w.heap.size + 1, 1, none⟩ = some (.int .i64 (p1)) := k1.cell 1
  have x2 : W0.cell? ⟨w.heap.size + 1, 2, none⟩ = some (.int .i64 (a0)) := k1.cell 2
  have x3 : W0.cell? ⟨w.heap.size + 1, 3, none⟩ = some (.int .i64 (a1)) := k1.cell 3
  have x4 : W0.cell? ⟨w.heap.size + 1, 4, none⟩ = some (.int .i64 (b0)) := k1.cell 4
  have x5 : W0.cell? ⟨w.heap.size + 1, 5, none⟩ = some (.int .i64 (b1)) := k1.cell 5
  have x6 : W0.cell? ⟨w.heap.size + 1, 6, none⟩ = some (.int .i64 (m0)) := k1.cell 6
  have x7 : W0.cell? ⟨w.heap.size + 1, 7, none⟩ = some (.int .i64 (m1)) := k1.cell 7
  have x8 : W0.cell? ⟨w.heap.size + 1, 8, none⟩ = some (.int .i64 (w0)) := k1.cell 8
  have x9 : W0.cell? ⟨w.heap.size + 1, 9, none⟩ = some (.int .i64 (w1)) := k1.cell 9
  have x10 : W0.cell? ⟨w.heap.size + 1, 10, none⟩ = some (.int .i64 (g0)) := k1.cell 10
  have x11 : W0.cell? ⟨w.heap.size + 1, 11, none⟩ = some (.int .i64 (g1)) := k1.cell 11
  have x12 : W0.cell? ⟨w.heap.size + 1, 12, none⟩ = some (.int .i64 (t0)) := k1.cell 12
  have x13 : W0.cell? ⟨w.heap.size + 1, 13, none⟩ = some (.int .i64 (t1)) := k1.cell 13
  have hr : rulesE r = 0 := firstE_zero h0 _ (by simp)
  have hb : boxE [⟨p0, p1⟩, ⟨a0, a1⟩, ⟨b0, b1⟩, ⟨m0, m1⟩, ⟨w0, w1⟩, ⟨g0, g1⟩, ⟨t0, t1⟩] = 0 := firstE_zero h0 _ (by simp)
  have ok := box_ok hb
  have HB := Lib.hid (fun (W : World) (e : Ext W0 W) => band_any (HV.out.ext e) hr p0 p1 a0 a1 b0 b1 m0 m1 w0 w1 g0 g1 t0 t1 ok.hp ok.ha ok.hb ok.hm ok.lo ok.ht)
  have HE := Lib.hid (show firstE [rulesE r, boxE [⟨p0, p1⟩, ⟨a0, a1⟩, ⟨b0, b1⟩, ⟨m0, m1⟩, ⟨w0, w1⟩, ⟨g0, g1⟩, ⟨t0, t1⟩]] = 0 from h0)
  clear h0 hr hb ok hR0 k0 k1 e0'
  generalize hardK r.h0 r.h1 r.h2 r.h3 (p0 + (fill4 (1000000 - p0 - a0 - b0 - m0) (p1 - p0) (a1 - a0) (b1 - b0) (m1 - m0)).1) (a0 + (fill4 (1000000 - p0 - a0 - b0 - m0) (p1 - p0) (a1 - a0) (b1 - b0) (m1 - m0)).2.1) (b0 + (fill4 (1000000 - p0 - a0 - b0 - m0) (p1 - p0) (a1 - a0) (b1 - b0) (m1 - m0)).2.2.1) (m0 + (fill4 (1000000 - p0 - a0 - b0 - m0) (p1 - p0) (a1 - a0) (b1 - b0) (m1 - m0)).2.2.2) t1 = z0 at *
  generalize hardK r.h0 r.h1 r.h2 r.h3 (p0 + (fill4 (1000000 - p0 - a0 - b0 - m0) (m1 - m0) (b1 - b0) (a1 - a0) (p1 - p0)).2.2.2) (a0 + (fill4 (1000000 - p0 - a0 - b0 - m0) (m1 - m0) (b1 - b0) (a1 - a0) (p1 - p0)).2.2.1) (b0 + (fill4 (1000000 - p0 - a0 - b0 - m0) (m1 - m0) (b1 - b0) (a1 - a0) (p1 - p0)).2.1) (m0 + (fill4 (1000000 - p0 - a0 - b0 - m0) (m1 - m0) (b1 - b0) (a1 - a0) (p1 - p0)).1) t0 = z1 at *
  go_enter Tryz.func40, Tryz.ntmps40
  go_wp2
  rw [← hW0]
  clear hW0
  refine wp_region_each [some 7, some 8, some 9, some 10, some 11, some 12, some 6] [[2], [7], [3], [9], [8, 10], [11], [12]]
    [Is (.agg #[.slice A0 n0 c0, .slice A1 n1 c1, .slice A2 n2 c2, .slice A3 n3 c3, .int .i64 (r.h0), .int .i64 (r.h1), .int .i64 (r.h2), .int .i64 (r.h3)]), Is (.int .i64 (rulesE r)), Is (.agg #[.int .i64 (p0), .int .i64 (p1), .int .i64 (a0), .int .i64 (a1), .int .i64 (b0), .int .i64 (b1), .int .i64 (m0), .int .i64 (m1), .int .i64 (w0), .int .i64 (w1), .int .i64 (g0), .int .i64 (g1), .int .i64 (t0), .int .i64 (t1)]), Is (.int .i64 (boxE [⟨p0, p1⟩, ⟨a0, a1⟩, ⟨b0, b1⟩, ⟨m0, m1⟩, ⟨w0, w1⟩, ⟨g0, g1⟩, ⟨t0, t1⟩])), Ints [rulesE r, boxE [⟨p0, p1⟩, ⟨a0, a1⟩, ⟨b0, b1⟩, ⟨m0, m1⟩, ⟨w0, w1⟩, ⟨g0, g1⟩, ⟨t0, t1⟩]], Is (.int .i64 (firstE [rulesE r, boxE [⟨p0, p1⟩, ⟨a0, a1⟩, ⟨b0, b1⟩, ⟨m0, m1⟩, ⟨w0, w1⟩, ⟨g0, g1⟩, ⟨t0, t1⟩]])), Is (.int .i64 (firstE [rulesE r, boxE [⟨p0, p1⟩, ⟨a0, a1⟩, ⟨b0, b1⟩, ⟨m0, m1⟩, ⟨w0, w1⟩, ⟨g0, g1⟩, ⟨t0, t1⟩]]))]
    (by kernel_rfl) (by kernel_rfl) (by kernel_rfl) (by kernel_rfl) (by kernel_rfl) Ext (fun W => Ext W0 W)
    (fun W _ => Ext.refl W) (fun W W' h k => h.trans k) ?_ (Ext.drew _) ?_ ?_
  · repeat (refine ⟨fun _ _ _ _ k h => (by first | exact h | exact (by first | exact IntsAt.ext h k | exact KnV.ext h k | exact NumsV.ext h k)), ?_⟩)
    exact trivial
  · refine ⟨?_, ?_, ?_, ?_, ?_, ?_, ?_, trivial⟩
    all_goals intro ρ W ⟨kc, kg, kf⟩ hF hs
    · obtain ⟨h0, -⟩ := hs
      replace h0 : ρ (.tmp 2) = .pointer (some ⟨w.heap.size, 0, none⟩) := h0
      have hc0 : W.cell? ⟨w.heap.size, 0, none⟩ = some (.slice A0 n0 c0) := hF.cell (by assumption)
      have hc1 : W.cell? ⟨w.heap.size, 1, none⟩ = some (.slice A1 n1 c1) := hF.cell (by assumption)
      have hc2 : W.cell? ⟨w.heap.size, 2, none⟩ = some (.slice A2 n2 c2) := hF.cell (by assumption)
      have hc3 : W.cell? ⟨w.heap.size, 3, none⟩ = some (.slice A3 n3 c3) := hF.cell (by assumption)
      have hc4 : W.cell? ⟨w.heap.size, 4, none⟩ = some (.int .i64 (r.h0)) := hF.cell (by assumption)
      have hc5 : W.cell? ⟨w.heap.size, 5, none⟩ = some (.int .i64 (r.h1)) := hF.cell (by assumption)
      have hc6 : W.cell? ⟨w.heap.size, 6, none⟩ = some (.int .i64 (r.h2)) := hF.cell (by assumption)
      have hc7 : W.cell? ⟨w.heap.size, 7, none⟩ = some (.int .i64 (r.h3)) := hF.cell (by assumption)
      go_simp
      exact ⟨Ext.refl _, rfl⟩
    · obtain ⟨h0, -⟩ := hs
      replace h0 : ρ (.tmp 7) = .agg #[.slice A0 n0 c0, .slice A1 n1 c1, .slice A2 n2 c2, .slice A3 n3 c3, .int .i64 (r.h0), .int .i64 (r.h1), .int .i64 (r.h2), .int .i64 (r.h3)] := h0
      go_simp
      refine (rulesError_any (HV.out.ext hF)).mono ?_; rintro e w' ⟨rfl, hx⟩; exact ⟨_, rfl, hx, rfl⟩
    · obtain ⟨h0, -⟩ := hs
      replace h0 : ρ (.tmp 3) = .pointer (some ⟨w.heap.size + 1, 0, none⟩) := h0
      have hc0 : W.cell? ⟨w.heap.size + 1, 0, none⟩ = some (.int .i64 (p0)) := hF.cell (by assumption)
      have hc1 : W.cell? ⟨w.heap.size + 1, 1, none⟩ = some (.int .i64 (p1)) := hF.cell (by assumption)
      have hc2 : W.cell? ⟨w.heap.size + 1, 2, none⟩ = some (.int .i64 (a0)) := hF.cell (by assumption)
      have hc3 : W.cell? ⟨w.heap.size + 1, 3, none⟩ = some (.int .i64 (a1)) := hF.cell (by assumption)
      have hc4 : W.cell? ⟨w.heap.size + 1, 4, none⟩ = some (.int .i64 (b0)) := hF.cell (by assumption)
      have hc5 : W.cell? ⟨w.heap.size + 1, 5, none⟩ = some (.int .i64 (b1)) := hF.cell (by assumption)
      have hc6 : W.cell? ⟨w.heap.size + 1, 6, none⟩ = some (.int .i64 (m0)) := hF.cell (by assumption)
      have hc7 : W.cell? ⟨w.heap.size + 1, 7, none⟩ = some (.int .i64 (m1)) := hF.cell (by assumption)
      have hc8 : W.cell? ⟨w.heap.size + 1, 8, none⟩ = some (.int .i64 (w0)) := hF.cell (by assumption)
      have hc9 : W.cell? ⟨w.heap.size + 1, 9, none⟩ = some (.int .i64 (w1)) := hF.cell (by assumption)
      have hc10 : W.cell? ⟨w.heap.size + 1, 10, none⟩ = some (.int .i64 (g0)) := hF.cell (by assumption)
      have hc11 : W.cell? ⟨w.heap.size + 1, 11, none⟩ = some (.int .i64 (g1)) := hF.cell (by assumption)
      have hc12 : W.cell? ⟨w.heap.size + 1, 12, none⟩ = some (.int .i64 (t0)) := hF.cell (by assumption)
      have hc13 : W.cell? ⟨w.heap.size + 1, 13, none⟩ = some (.int .i64 (t1)) := hF.cell (by assumption)
      go_simp
      exact ⟨Ext.refl _, rfl⟩
    · obtain ⟨h0, -⟩ := hs
      replace h0 : ρ (.tmp 9) = .agg #[.int .i64 (p0), .int .i64 (p1), .int .i64 (a0), .int .i64 (a1), .int .i64 (b0), .int .i64 (b1), .int .i64 (m0), .int .i64 (m1), .int .i64 (w0), .int .i64 (w1), .int .i64 (g0), .int .i64 (g1), .int .i64 (t0), .int .i64 (t1)] := h0
      go_simp
      refine (checkBox_any _ _ _ _ _ _ _ _ _ _ _ _ _ _ _).mono ?_; rintro e w' ⟨rfl, hx⟩; exact ⟨_, rfl, hx, rfl⟩
    · obtain ⟨h0, h1, -⟩ := hs
      replace h0 : ρ (.tmp 8) = .int .i64 (rulesE r) := h0
      replace h1 : ρ (.tmp 10) = .int .i64 (boxE [⟨p0, p1⟩, ⟨a0, a1⟩, ⟨b0, b1⟩, ⟨m0, m1⟩, ⟨w0, w1⟩, ⟨g0, g1⟩, ⟨t0, t1⟩]) := h1
      go_simp
      exact ⟨Ext.alloc _ _, ints_new _ [rulesE r, boxE [⟨p0, p1⟩, ⟨a0, a1⟩, ⟨b0, b1⟩, ⟨m0, m1⟩, ⟨w0, w1⟩, ⟨g0, g1⟩, ⟨t0, t1⟩]] _ (by simp)⟩
    · obtain ⟨h0, -⟩ := hs
      replace h0 : (Ints [rulesE r, boxE [⟨p0, p1⟩, ⟨a0, a1⟩, ⟨b0, b1⟩, ⟨m0, m1⟩, ⟨w0, w1⟩, ⟨g0, g1⟩, ⟨t0, t1⟩]]) (ρ (.tmp 11)) W := h0
      go_simp
      refine (firstOf_any _ _ _ h0).mono ?_; rintro e w' ⟨rfl, rfl⟩; exact ⟨_, rfl, Ext.refl _, rfl⟩
    · obtain ⟨h0, -⟩ := hs
      replace h0 : ρ (.tmp 12) = .int .i64 (firstE [rulesE r, boxE [⟨p0, p1⟩, ⟨a0, a1⟩, ⟨b0, b1⟩, ⟨m0, m1⟩, ⟨w0, w1⟩, ⟨g0, g1⟩, ⟨t0, t1⟩]]) := h0
      go_simp
      exact ⟨Ext.refl _, rfl⟩
  · intro fv W1 hF hs
    obtain ⟨-, -, -, -, -, -, h6, -⟩ := hs
    replace h6 : fv 6 = .int .i64 (firstE [rulesE r, boxE [⟨p0, p1⟩, ⟨a0, a1⟩, ⟨b0, b1⟩, ⟨m0, m1⟩, ⟨w0, w1⟩, ⟨g0, g1⟩, ⟨t0, t1⟩]]) := h6
    simp only [fin, List.filterMap]
    go_simp
    have X1 := Lib.hid hF
    clear hF h6
    rw [HE.out]
    have h00 : ((0 : Int) != 0) = false := rfl
    have kk0 := K0.out.ext X1.out
    have kk1 := K1.out.ext X1.out
    have yy0 : W1.cell? ⟨w.heap.size, 0, none⟩ = some (.slice A0 n0 c0) := kk0.cell 0
    have yy1 : W1.cell? ⟨w.heap.size, 1, none⟩ = some (.slice A1 n1 c1) := kk0.cell 1
    have yy2 : W1.cell? ⟨w.heap.size, 2, none⟩ = some (.slice A2 n2 c2) := kk0.cell 2
    have yy3 : W1.cell? ⟨w.heap.size, 3, none⟩ = some (.slice A3 n3 c3) := kk0.cell 3
    have yy4 : W1.cell? ⟨w.heap.size, 4, none⟩ = some (.int .i64 (r.h0)) := kk0.cell 4
    have yy5 : W1.cell? ⟨w.heap.size, 5, none⟩ = some (.int .i64 (r.h1)) := kk0.cell 5
    have yy6 : W1.cell? ⟨w.heap.size, 6, none⟩ = some (.int .i64 (r.h2)) := kk0.cell 6
    have yy7 : W1.cell? ⟨w.heap.size, 7, none⟩ = some (.int .i64 (r.h3)) := kk0.cell 7
    have xx0 : W1.cell? ⟨w.heap.size + 1, 0, none⟩ = some (.int .i64 (p0)) := kk1.cell 0
    have xx1 : W1.cell? ⟨w.heap.size + 1, 1, none⟩ = some (.int .i64 (p1)) := kk1.cell 1
    have xx2 : W1.cell? ⟨w.heap.size + 1, 2, none⟩ = some (.int .i64 (a0)) := kk1.cell 2
    have xx3 : W1.cell? ⟨w.heap.size + 1, 3, none⟩ = some (.int .i64 (a1)) := kk1.cell 3
    have xx4 : W1.cell? ⟨w.heap.size + 1, 4, none⟩ = some (.int .i64 (b0)) := kk1.cell 4
    have xx5 : W1.cell? ⟨w.heap.size + 1, 5, none⟩ = some (.int .i64 (b1)) := kk1.cell 5
    have xx6 : W1.cell? ⟨w.heap.size + 1, 6, none⟩ = some (.int .i64 (m0)) := kk1.cell 6
    have xx7 : W1.cell? ⟨w.heap.size + 1, 7, none⟩ = some (.int .i64 (m1)) := kk1.cell 7
    have xx8 : W1.cell? ⟨w.heap.size + 1, 8, none⟩ = some (.int .i64 (w0)) := kk1.cell 8
    have xx9 : W1.cell? ⟨w.heap.size + 1, 9, none⟩ = some (.int .i64 (w1)) := kk1.cell 9
    have xx10 : W1.cell? ⟨w.heap.size + 1, 10, none⟩ = some (.int .i64 (g0)) := kk1.cell 10
    have xx11 : W1.cell? ⟨w.heap.size + 1, 11, none⟩ = some (.int .i64 (g1)) := kk1.cell 11
    have xx12 : W1.cell? ⟨w.heap.size + 1, 12, none⟩ = some (.int .i64 (t0)) := kk1.cell 12
    have xx13 : W1.cell? ⟨w.heap.size + 1, 13, none⟩ = some (.int .i64 (t1)) := kk1.cell 13
    clear kk0 kk1
    go_wp2_with (go_at_call 107; refine (HB.out _ X1.out).mono ?_; rintro e W2 ⟨rfl, hx⟩; have X2 := Lib.hid hx; have k2 := K2.out.ext (X1.out.trans hx); have s0 : W2.cell? ⟨w.heap.size + 1 + 1, 0, none⟩ = some (.int .i64 0) := k2.cell 0; have s1 : W2.cell? ⟨w.heap.size + 1 + 1, 1, none⟩ = some (.int .i64 0) := k2.cell 1; have g0' := k2.free 0; have g1' := k2.free 1; clear hx k2)
    exact bodyPost_ret (v := .tuple #[.agg #[.int .i64 z0, .int .i64 z1], .int .i64 0]) (by simp [results, Tryz.f40, go_sem, s0, s1]) rfl
      ⟨rfl, Ext.set (Ext.set (E0.out.trans (X1.out.trans X2.out)) (by dsimp only; omega) _) (by dsimp only; omega) _⟩

end Go.Proofs.YtkmekbafjnlfkaaGreat
