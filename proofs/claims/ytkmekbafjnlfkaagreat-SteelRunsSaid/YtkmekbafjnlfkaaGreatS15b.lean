/- Shares that fill a box, from above. -/
import Derived.Test.YtkmekbafjnlfkaaGreatS15

namespace Go.Proofs.YtkmekbafjnlfkaaGreat
open Go.RowKit Go.Shelf Go.Mem Go.RegInv
attribute [local go_sem] RelUpon_value RelUpon_skip RelUpon_enter BigFrame.eval_const BigFrame.eval_global BigFrame.eval_func

set_option maxRecDepth 100000 in
set_option maxHeartbeats 8000000 in
theorem filledHi_any (p0 p1 a0 a1 b0 b1 m0 m1 w0 w1 g0 g1 t0 t1 : Int) (hp : 0 ≤ p0 ∧ p0 ≤ p1 ∧ p1 ≤ 1000000) (ha : 0 ≤ a0 ∧ a0 ≤ a1 ∧ a1 ≤ 1000000) (hb : 0 ≤ b0 ∧ b0 ≤ b1 ∧ b1 ≤ 1000000) (hm : 0 ≤ m0 ∧ m0 ≤ m1 ∧ m1 ≤ 1000000) (hs : p0 + a0 + b0 + m0 ≤ 1000000) {w : World} {v : Value} (hv : IntsAt w v [3, 2, 1, 0]) :
    Calls Tryz.prog 138 #[.agg #[.int .i64 p0, .int .i64 p1, .int .i64 a0, .int .i64 a1, .int .i64 b0, .int .i64 b1, .int .i64 m0, .int .i64 m1, .int .i64 w0, .int .i64 w1, .int .i64 g0, .int .i64 g1, .int .i64 t0, .int .i64 t1], v] w fun e w' => e = .returned (.agg #[.int .i64 (p0 + (fill4 (1000000 - p0 - a0 - b0 - m0) (m1 - m0) (b1 - b0) (a1 - a0) (p1 - p0)).2.2.2), .int .i64 (a0 + (fill4 (1000000 - p0 - a0 - b0 - m0) (m1 - m0) (b1 - b0) (a1 - a0) (p1 - p0)).2.2.1), .int .i64 (b0 + (fill4 (1000000 - p0 - a0 - b0 - m0) (m1 - m0) (b1 - b0) (a1 - a0) (p1 - p0)).2.1), .int .i64 (m0 + (fill4 (1000000 - p0 - a0 - b0 - m0) (m1 - m0) (b1 - b0) (a1 - a0) (p1 - p0)).1)]) ∧ Ext w w' := by
  obtain ⟨W0, hW0⟩ : ∃ W0, W0 = ((w.alloc (.cells #[.int .i64 p0, .int .i64 p1, .int .i64 a0, .int .i64 a1, .int .i64 b0, .int .i64 b1, .int .i64 m0, .int .i64 m1, .int .i64 w0, .int .i64 w1, .int .i64 g0, .int .i64 g1, .int .i64 t0, .int .i64 t1] 74)).alloc (.cells #[.int .i64 0, .int .i64 0, .int .i64 0, .int .i64 0] 26)).alloc (.cells #[.int .i64 0, .int .i64 0, .int .i64 0, .int .i64 0] 26) := ⟨_, rfl⟩
  have K1 := Lib.hid (show Blk W0 (w.heap.size + 1) 26 #[.int .i64 0, .int .i64 0, .int .i64 0, .int .i64 0] by rw [hW0]; exact (Blk.newAt _ _ _ (by simp)).alloc _)
  have K2 := Lib.hid (show Blk W0 (w.heap.size + 1 + 1) 26 #[.int .i64 0, .int .i64 0, .int .i64 0, .int .i64 0] by rw [hW0]; exact Blk.newAt _ _ _ (by simp))
  have E0 := Lib.hid (show Ext w W0 by rw [hW0]; exact ((Ext.alloc _ _).trans (Ext.alloc _ _)).trans (Ext.alloc _ _))
  obtain ⟨p2, p3, p4⟩ := hp
  obtain ⟨a2, a3, a4⟩ := ha
  obtain ⟨b2, b3, b4⟩ := hb
  obtain ⟨m2, m3, m4⟩ := hm
  rcases hv with ⟨_, _, _, h⟩ | ⟨vb, vo, ca, rfl, hvb, -, hc⟩
  · cases h
  have o0 : w.cell? ⟨vb, vo, none⟩ = some (.int .i64 3) := hc 0 (by decide)
  have o1 : w.cell? ⟨vb, vo + 1, none⟩ = some (.int .i64 2) := hc 1 (by decide)
  have o2 : w.cell? ⟨vb, vo + 2, none⟩ = some (.int .i64 1) := hc 2 (by decide)
  have o3 : w.cell? ⟨vb, vo + 3, none⟩ = some (.int .i64 0) := hc 3 (by decide)
  have O0 := Lib.hid o0
  have O1 := Lib.hid o1
  have O2 := Lib.hid o2
  have O3 := Lib.hid o3
  clear hc o0 o1 o2 o3
  have i0 := fun W => idx215_0 p0 p1 a0 a1 b0 b1 m0 m1 W
  have i1 := fun W => idx215_1 p0 p1 a0 a1 b0 b1 m0 m1 W
  have i2 := fun W => idx215_2 p0 p1 a0 a1 b0 b1 m0 m1 W
  have i3 := fun W => idx215_3 p0 p1 a0 a1 b0 b1 m0 m1 W
  have HW := Lib.hid hW0
  clear hW0
  go_enter Tryz.func138, Tryz.ntmps138
  go_wp2_with (go_at_call 139; rw [← HW.out]; refine (shareRangesOf_any _ _ _ _ _ _ _ _ _ _ _ _ _ _ _).mono ?_; rintro e W1 ⟨rfl, hx⟩; have X1 := Lib.hid hx; have k1 := K1.out.ext hx; have k2 := K2.out.ext hx; have K1' := Lib.hid k1; have K2' := Lib.hid k2; clear hx k1 k2)
  obtain ⟨V0, hV0⟩ : ∃ V0, V0 = W1.alloc (.cells #[.int .i64 p0, .int .i64 p1, .int .i64 a0, .int .i64 a1, .int .i64 b0, .int .i64 b1, .int .i64 m0, .int .i64 m1] 215) := ⟨_, rfl⟩
  have KB := Lib.hid (show Blk V0 W1.heap.size 215 #[.int .i64 p0, .int .i64 p1, .int .i64 a0, .int .i64 a1, .int .i64 b0, .int .i64 b1, .int .i64 m0, .int .i64 m1] by rw [hV0]; exact Blk.new _ _ _)
  have KR := Lib.hid (show Blk V0 (w.heap.size + 1) 26 #[.int .i64 0, .int .i64 0, .int .i64 0, .int .i64 0] by rw [hV0]; exact K1'.out.alloc _)
  have KS := Lib.hid (show Blk V0 (w.heap.size + 1 + 1) 26 #[.int .i64 (0), .int .i64 (0), .int .i64 (0), .int .i64 (0)] by rw [hV0]; exact K2'.out.alloc _)
  have EX := Lib.hid (show Ext w V0 by rw [hV0]; exact (E0.out.trans X1.out).trans (Ext.alloc _ _))
  have HQ := Lib.hid (show w.heap.size + 1 + 1 < W1.heap.size from K2'.out.lt)
  rw [← hV0]
  clear hV0 K1' K2' K1 K2 X1 E0 HW
  generalize W1.heap.size = q6 at *
  have HQ5 := Lib.hid (show w.heap.size ≤ w.heap.size + 1 + 1 by omega)
  have HQ4 := Lib.hid (show w.heap.size ≤ w.heap.size + 1 by omega)
  have HQ45 := Lib.hid (show w.heap.size + 1 ≠ w.heap.size + 1 + 1 by omega)
  generalize w.heap.size + 1 + 1 = q5 at *
  generalize w.heap.size + 1 = q4 at *
  refine wp_loop_rounds 5 ?_
  have hn1 : ¬ (V0.heap.size = q5) := by have := KS.out.lt; omega
  have hn2 : ¬ (q5 = V0.heap.size) := by have := KS.out.lt; omega
  have c0 : ∀ o, (V0.alloc o).cell? ⟨q5, 0, none⟩ = some (.int .i64 0) := fun o => (KS.out.alloc o).cell 0
  have f0 : ∀ o, (V0.alloc o).frozen? ⟨q5, 0, none⟩ = false := fun o => (KS.out.alloc o).free 0
  rw [rounds_succ]
  go_wp2
  obtain ⟨V1, hV1⟩ : ∃ V1, V1 = (V0.alloc (.cells #[.int .i64 p0, .int .i64 p1] 66)).setCell ⟨q5, 0, none⟩ (.int .i64 p0) := ⟨_, rfl⟩
  have KB := Lib.hid (show Blk V1 q6 215 #[.int .i64 p0, .int .i64 p1, .int .i64 a0, .int .i64 a1, .int .i64 b0, .int .i64 b1, .int .i64 m0, .int .i64 m1] by rw [hV1]; exact (KB.out.alloc _).setOther (by have := HQ.out; dsimp only; omega) _)
  have KR := Lib.hid (show Blk V1 q4 26 #[.int .i64 0, .int .i64 0, .int .i64 0, .int .i64 0] by rw [hV1]; exact (KR.out.alloc _).setOther (by have := HQ45.out; dsimp only; omega) _)
  have KS := Lib.hid (show Blk V1 q5 26 #[.int .i64 (p0), .int .i64 (0), .int .i64 (0), .int .i64 (0)] by rw [hV1]; exact (KS.out.alloc _).setSame 0 _)
  have EX := Lib.hid (show Ext w V1 by rw [hV1]; exact Ext.set (EX.out.trans (Ext.alloc _ _)) HQ5.out _)
  rw [← hV1]
  clear hV1 hn1 hn2 c0 f0
  have hn1 : ¬ (V1.heap.size = q5) := by have := KS.out.lt; omega
  have hn2 : ¬ (q5 = V1.heap.size) := by have := KS.out.lt; omega
  have c0 : ∀ o, (V1.alloc o).cell? ⟨q5, 1, none⟩ = some (.int .i64 0) := fun o => (KS.out.alloc o).cell 1
  have f0 : ∀ o, (V1.alloc o).frozen? ⟨q5, 1, none⟩ = false := fun o => (KS.out.alloc o).free 1
  rw [rounds_succ]
  go_wp2
  obtain ⟨V2, hV2⟩ : ∃ V2, V2 = (V1.alloc (.cells #[.int .i64 a0, .int .i64 a1] 66)).setCell ⟨q5, 1, none⟩ (.int .i64 a0) := ⟨_, rfl⟩
  have KB := Lib.hid (show Blk V2 q6 215 #[.int .i64 p0, .int .i64 p1, .int .i64 a0, .int .i64 a1, .int .i64 b0, .int .i64 b1, .int .i64 m0, .int .i64 m1] by rw [hV2]; exact (KB.out.alloc _).setOther (by have := HQ.out; dsimp only; omega) _)
  have KR := Lib.hid (show Blk V2 q4 26 #[.int .i64 0, .int .i64 0, .int .i64 0, .int .i64 0] by rw [hV2]; exact (KR.out.alloc _).setOther (by have := HQ45.out; dsimp only; omega) _)
  have KS := Lib.hid (show Blk V2 q5 26 #[.int .i64 (p0), .int .i64 (a0), .int .i64 (0), .int .i64 (0)] by rw [hV2]; exact (KS.out.alloc _).setSame 1 _)
  have EX := Lib.hid (show Ext w V2 by rw [hV2]; exact Ext.set (EX.out.trans (Ext.alloc _ _)) HQ5.out _)
  rw [← hV2]
  clear hV2 hn1 hn2 c0 f0
  have hn1 : ¬ (V2.heap.size = q5) := by have := KS.out.lt; omega
  have hn2 : ¬ (q5 = V2.heap.size) := by have := KS.out.lt; omega
  have c0 : ∀ o, (V2.alloc o).cell? ⟨q5, 2, none⟩ = some (.int .i64 0) := fun o => (KS.out.alloc o).cell 2
  have f0 : ∀ o, (V2.alloc o).frozen? ⟨q5, 2, none⟩ = false := fun o => (KS.out.alloc o).free 2
  rw [rounds_succ]
  go_wp2
  obtain ⟨V3, hV3⟩ : ∃ V3, V3 = (V2.alloc (.cells #[.int .i64 b0, .int .i64 b1] 66)).setCell ⟨q5, 2, none⟩ (.int .i64 b0) := ⟨_, rfl⟩
  have KB := Lib.hid (show Blk V3 q6 215 #[.int .i64 p0, .int .i64 p1, .int .i64 a0, .int .i64 a1, .int .i64 b0, .int .i64 b1, .int .i64 m0, .int .i64 m1] by rw [hV3]; exact (KB.out.alloc _).setOther (by have := HQ.out; dsimp only; omega) _)
  have KR := Lib.hid (show Blk V3 q4 26 #[.int .i64 0, .int .i64 0, .int .i64 0, .int .i64 0] by rw [hV3]; exact (KR.out.alloc _).setOther (by have := HQ45.out; dsimp only; omega) _)
  have KS := Lib.hid (show Blk V3 q5 26 #[.int .i64 (p0), .int .i64 (a0), .int .i64 (b0), .int .i64 (0)] by rw [hV3]; exact (KS.out.alloc _).setSame 2 _)
  have EX := Lib.hid (show Ext w V3 by rw [hV3]; exact Ext.set (EX.out.trans (Ext.alloc _ _)) HQ5.out _)
  rw [← hV3]
  clear hV3 hn1 hn2 c0 f0
  have hn1 : ¬ (V3.heap.size = q5) := by have := KS.out.lt; omega
  have hn2 : ¬ (q5 = V3.heap.size) := by have := KS.out.lt; omega
  have c0 : ∀ o, (V3.alloc o).cell? ⟨q5, 3, none⟩ = some (.int .i64 0) := fun o => (KS.out.alloc o).cell 3
  have f0 : ∀ o, (V3.alloc o).frozen? ⟨q5, 3, none⟩ = false := fun o => (KS.out.alloc o).free 3
  rw [rounds_succ]
  go_wp2
  obtain ⟨V4, hV4⟩ : ∃ V4, V4 = (V3.alloc (.cells #[.int .i64 m0, .int .i64 m1] 66)).setCell ⟨q5, 3, none⟩ (.int .i64 m0) := ⟨_, rfl⟩
  have KB := Lib.hid (show Blk V4 q6 215 #[.int .i64 p0, .int .i64 p1, .int .i64 a0, .int .i64 a1, .int .i64 b0, .int .i64 b1, .int .i64 m0, .int .i64 m1] by rw [hV4]; exact (KB.out.alloc _).setOther (by have := HQ.out; dsimp only; omega) _)
  have KR := Lib.hid (show Blk V4 q4 26 #[.int .i64 0, .int .i64 0, .int .i64 0, .int .i64 0] by rw [hV4]; exact (KR.out.alloc _).setOther (by have := HQ45.out; dsimp only; omega) _)
  have KS := Lib.hid (show Blk V4 q5 26 #[.int .i64 (p0), .int .i64 (a0), .int .i64 (b0), .int .i64 (m0)] by rw [hV4]; exact (KS.out.alloc _).setSame 3 _)
  have EX := Lib.hid (show Ext w V4 by rw [hV4]; exact Ext.set (EX.out.trans (Ext.alloc _ _)) HQ5.out _)
  rw [← hV4]
  clear hV4 hn1 hn2 c0 f0
  rw [rounds_succ]
  go_wp2
  clear i0 i1 i2 i3
  have hl0 : 0 ≤ 1000000 - p0 - a0 - b0 - m0 := by omega
  have hl1 : 1000000 - p0 - a0 - b0 - m0 ≤ 1000000 := by omega
  generalize hL : 1000000 - p0 - a0 - b0 - m0 = l0 at *
  have HL0 := Lib.hid hL
  clear hL
  refine wp_loop_rounds 5 ?_
  have o0 : V4.cell? ⟨vb, vo, none⟩ = some (.int .i64 3) := EX.out.cell O0.out
  have z0 : V4.cell? ⟨q6, 6, none⟩ = some (.int .i64 m0) := KB.out.cell 6
  have z1 : V4.cell? ⟨q6, 7, none⟩ = some (.int .i64 m1) := KB.out.cell 7
  rw [rounds_succ]
  go_wp2
  refine wp_region_each [some 35, some 36, some 37, some 38, some 39, some 40, some 41, some 42, some 43, some 44, some 45, some 12] [[7], [11], [6, 36], [37], [38], [11], [6, 40], [41], [42], [39, 43], [35, 44], [45]]
    [Is (.int .i64 (l0)), Is (.int .i64 (3)), Is (.pointer (some ⟨q6, 6, none⟩)), Is (.pointer (some ⟨q6, 7, none⟩)), Is (.int .i64 (m1)), Is (.int .i64 (3)), Is (.pointer (some ⟨q6, 6, none⟩)), Is (.pointer (some ⟨q6, 6, none⟩)), Is (.int .i64 (m0)), Is (.int .i64 (m1 - m0)), Is (.int .i64 (min l0 (m1 - m0))), Is (.int .i64 (min l0 (m1 - m0)))]
    (by kernel_rfl) (by kernel_rfl) (by kernel_rfl) (by kernel_rfl) (by kernel_rfl) Ext (fun W => Ext V4 W)
    (fun W _ => Ext.refl W) (fun W W' h k => h.trans k) ?_ (Ext.drew _) ?_ ?_
  · repeat (refine ⟨fun _ _ _ _ k h => (by first | exact h | exact (by first | exact IntsAt.ext h k | exact KnV.ext h k | exact NumsV.ext h k)), ?_⟩)
    exact trivial
  · refine ⟨?_, ?_, ?_, ?_, ?_, ?_, ?_, ?_, ?_, ?_, ?_, ?_, trivial⟩
    all_goals intro ρ W ⟨kc, kg, kf⟩ hF hs
    · obtain ⟨h0, -⟩ := hs
      replace h0 : ρ (.tmp 7) = .int .i64 (l0) := h0
      go_simp
      exact ⟨Ext.refl _, rfl⟩
    · obtain ⟨h0, -⟩ := hs
      replace h0 : ρ (.tmp 11) = .int .i64 (3) := h0
      go_simp
      exact ⟨Ext.refl _, rfl⟩
    · obtain ⟨h0, h1, -⟩ := hs
      replace h0 : ρ (.tmp 6) = .pointer (some ⟨q6, 0, none⟩) := h0
      replace h1 : ρ (.tmp 36) = .int .i64 (3) := h1
      go_simp
      exact ⟨Ext.refl _, rfl⟩
    · obtain ⟨h0, -⟩ := hs
      replace h0 : ρ (.tmp 37) = .pointer (some ⟨q6, 6, none⟩) := h0
      go_simp
      exact ⟨Ext.refl _, rfl⟩
    · obtain ⟨h0, -⟩ := hs
      replace h0 : ρ (.tmp 38) = .pointer (some ⟨q6, 7, none⟩) := h0
      have hc0 : W.cell? ⟨q6, 7, none⟩ = some (.int .i64 (m1)) := hF.cell (by assumption)
      go_simp
      exact ⟨Ext.refl _, rfl⟩
    · obtain ⟨h0, -⟩ := hs
      replace h0 : ρ (.tmp 11) = .int .i64 (3) := h0
      go_simp
      exact ⟨Ext.refl _, rfl⟩
    · obtain ⟨h0, h1, -⟩ := hs
      replace h0 : ρ (.tmp 6) = .pointer (some ⟨q6, 0, none⟩) := h0
      replace h1 : ρ (.tmp 40) = .int .i64 (3) := h1
      go_simp
      exact ⟨Ext.refl _, rfl⟩
    · obtain ⟨h0, -⟩ := hs
      replace h0 : ρ (.tmp 41) = .pointer (some ⟨q6, 6, none⟩) := h0
      go_simp
      exact ⟨Ext.refl _, rfl⟩
    · obtain ⟨h0, -⟩ := hs
      replace h0 : ρ (.tmp 42) = .pointer (some ⟨q6, 6, none⟩) := h0
      have hc0 : W.cell? ⟨q6, 6, none⟩ = some (.int .i64 (m0)) := hF.cell (by assumption)
      go_simp
      exact ⟨Ext.refl _, rfl⟩
    · obtain ⟨h0, h1, -⟩ := hs
      replace h0 : ρ (.tmp 39) = .int .i64 (m1) := h0
      replace h1 : ρ (.tmp 43) = .int .i64 (m0) := h1
      have hw : IntKind.i64.wrap (m1 - m0) = m1 - m0 := wrap_id _ (by omega) (by omega)
      go_simp
      exact ⟨Ext.refl _, rfl⟩
    · obtain ⟨h0, h1, -⟩ := hs
      replace h0 : ρ (.tmp 35) = .int .i64 (l0) := h0
      replace h1 : ρ (.tmp 44) = .int .i64 (m1 - m0) := h1
      go_simp
      exact ⟨Ext.refl _, rfl⟩
    · obtain ⟨h0, -⟩ := hs
      replace h0 : ρ (.tmp 45) = .int .i64 (min l0 (m1 - m0)) := h0
      go_simp
      exact ⟨Ext.refl _, rfl⟩
  · intro fv U0 hF hs
    obtain ⟨-, -, -, -, -, -, -, -, -, -, -, h12, -⟩ := hs
    replace h12 : fv 12 = .int .i64 (min l0 (m1 - m0)) := h12
    simp only [fin, List.filterMap]
    go_simp
    have KB := Lib.hid (KB.out.ext hF)
    have KR := Lib.hid (KR.out.ext hF)
    have ks := KS.out.ext hF
    have EX := Lib.hid (EX.out.trans hF)
    have c0 : U0.cell? ⟨q5, 3, none⟩ = some (.int .i64 m0) := ks.cell 3
    have f0 := ks.free 3
    have KS := Lib.hid ks
    clear hF h12 ks o0 z0 z1
    have hn0 : 0 ≤ min l0 (m1 - m0) := by omega
    have hn1 : min l0 (m1 - m0) ≤ l0 := by omega
    have hn2 : min l0 (m1 - m0) ≤ 1000000 := by omega
    generalize hN0 : min l0 (m1 - m0) = n0 at *
    have HN0 := Lib.hid hN0
    clear hN0
    go_wp2
    obtain ⟨V5, hV5⟩ : ∃ V5, V5 = U0.setCell ⟨q5, 3, none⟩ (.int .i64 (m0 + n0)) := ⟨_, rfl⟩
    have KB := Lib.hid (show Blk V5 q6 215 #[.int .i64 p0, .int .i64 p1, .int .i64 a0, .int .i64 a1, .int .i64 b0, .int .i64 b1, .int .i64 m0, .int .i64 m1] by rw [hV5]; exact KB.out.setOther (by have := HQ.out; dsimp only; omega) _)
    have KR := Lib.hid (show Blk V5 q4 26 #[.int .i64 0, .int .i64 0, .int .i64 0, .int .i64 0] by rw [hV5]; exact KR.out.setOther (by have := HQ45.out; dsimp only; omega) _)
    have KS := Lib.hid (show Blk V5 q5 26 #[.int .i64 (p0), .int .i64 (a0), .int .i64 (b0), .int .i64 (m0 + n0)] by rw [hV5]; exact KS.out.setSame 3 _)
    have EX := Lib.hid (show Ext w V5 by rw [hV5]; exact Ext.set EX.out HQ5.out _)
    rw [← hV5]
    clear hV5 c0 f0
    have hl2 : 0 ≤ l0 - n0 := by omega
    have hl3 : l0 - n0 ≤ 1000000 := by omega
    generalize hL : l0 - n0 = l1 at *
    have HL1 := Lib.hid hL
    clear hL
    have o0 : V5.cell? ⟨vb, vo + 1, none⟩ = some (.int .i64 2) := EX.out.cell O1.out
    have z0 : V5.cell? ⟨q6, 4, none⟩ = some (.int .i64 b0) := KB.out.cell 4
    have z1 : V5.cell? ⟨q6, 5, none⟩ = some (.int .i64 b1) := KB.out.cell 5
    rw [rounds_succ]
    go_wp2
    refine wp_region_each [some 35, some 36, some 37, some 38, some 39, some 40, some 41, some 42, some 43, some 44, some 45, some 12] [[7], [11], [6, 36], [37], [38], [11], [6, 40], [41], [42], [39, 43], [35, 44], [45]]
      [Is (.int .i64 (l1)), Is (.int .i64 (2)), Is (.pointer (some ⟨q6, 4, none⟩)), Is (.pointer (some ⟨q6, 5, none⟩)), Is (.int .i64 (b1)), Is (.int .i64 (2)), Is (.pointer (some ⟨q6, 4, none⟩)), Is (.pointer (some ⟨q6, 4, none⟩)), Is (.int .i64 (b0)), Is (.int .i64 (b1 - b0)), Is (.int .i64 (min l1 (b1 - b0))), Is (.int .i64 (min l1 (b1 - b0)))]
      (by kernel_rfl) (by kernel_rfl) (by kernel_rfl) (by kernel_rfl) (by kernel_rfl) Ext (fun W => Ext V5 W)
      (fun W _ => Ext.refl W) (fun W W' h k => h.trans k) ?_ (Ext.drew _) ?_ ?_
    · repeat (refine ⟨fun _ _ _ _ k h => (by first | exact h | exact (by first | exact IntsAt.ext h k | exact KnV.ext h k | exact NumsV.ext h k)), ?_⟩)
      exact trivial
    · refine ⟨?_, ?_, ?_, ?_, ?_, ?_, ?_, ?_, ?_, ?_, ?_, ?_, trivial⟩
      all_goals intro ρ W ⟨kc, kg, kf⟩ hF hs
      · obtain ⟨h0, -⟩ := hs
        replace h0 : ρ (.tmp 7) = .int .i64 (l1) := h0
        go_simp
        exact ⟨Ext.refl _, rfl⟩
      · obtain ⟨h0, -⟩ := hs
        replace h0 : ρ (.tmp 11) = .int .i64 (2) := h0
        go_simp
        exact ⟨Ext.refl _, rfl⟩
      · obtain ⟨h0, h1, -⟩ := hs
        replace h0 : ρ (.tmp 6) = .pointer (some ⟨q6, 0, none⟩) := h0
        replace h1 : ρ (.tmp 36) = .int .i64 (2) := h1
        go_simp
        exact ⟨Ext.refl _, rfl⟩
      · obtain ⟨h0, -⟩ := hs
        replace h0 : ρ (.tmp 37) = .pointer (some ⟨q6, 4, none⟩) := h0
        go_simp
        exact ⟨Ext.refl _, rfl⟩
      · obtain ⟨h0, -⟩ := hs
        replace h0 : ρ (.tmp 38) = .pointer (some ⟨q6, 5, none⟩) := h0
        have hc0 : W.cell? ⟨q6, 5, none⟩ = some (.int .i64 (b1)) := hF.cell (by assumption)
        go_simp
        exact ⟨Ext.refl _, rfl⟩
      · obtain ⟨h0, -⟩ := hs
        replace h0 : ρ (.tmp 11) = .int .i64 (2) := h0
        go_simp
        exact ⟨Ext.refl _, rfl⟩
      · obtain ⟨h0, h1, -⟩ := hs
        replace h0 : ρ (.tmp 6) = .pointer (some ⟨q6, 0, none⟩) := h0
        replace h1 : ρ (.tmp 40) = .int .i64 (2) := h1
        go_simp
        exact ⟨Ext.refl _, rfl⟩
      · obtain ⟨h0, -⟩ := hs
        replace h0 : ρ (.tmp 41) = .pointer (some ⟨q6, 4, none⟩) := h0
        go_simp
        exact ⟨Ext.refl _, rfl⟩
      · obtain ⟨h0, -⟩ := hs
        replace h0 : ρ (.tmp 42) = .pointer (some ⟨q6, 4, none⟩) := h0
        have hc0 : W.cell? ⟨q6, 4, none⟩ = some (.int .i64 (b0)) := hF.cell (by assumption)
        go_simp
        exact ⟨Ext.refl _, rfl⟩
      · obtain ⟨h0, h1, -⟩ := hs
        replace h0 : ρ (.tmp 39) = .int .i64 (b1) := h0
        replace h1 : ρ (.tmp 43) = .int .i64 (b0) := h1
        have hw : IntKind.i64.wrap (b1 - b0) = b1 - b0 := wrap_id _ (by omega) (by omega)
        go_simp
        exact ⟨Ext.refl _, rfl⟩
      · obtain ⟨h0, h1, -⟩ := hs
        replace h0 : ρ (.tmp 35) = .int .i64 (l1) := h0
        replace h1 : ρ (.tmp 44) = .int .i64 (b1 - b0) := h1
        go_simp
        exact ⟨Ext.refl _, rfl⟩
      · obtain ⟨h0, -⟩ := hs
        replace h0 : ρ (.tmp 45) = .int .i64 (min l1 (b1 - b0)) := h0
        go_simp
        exact ⟨Ext.refl _, rfl⟩
    · intro fv U1 hF hs
      obtain ⟨-, -, -, -, -, -, -, -, -, -, -, h12, -⟩ := hs
      replace h12 : fv 12 = .int .i64 (min l1 (b1 - b0)) := h12
      simp only [fin, List.filterMap]
      go_simp
      have KB := Lib.hid (KB.out.ext hF)
      have KR := Lib.hid (KR.out.ext hF)
      have ks := KS.out.ext hF
      have EX := Lib.hid (EX.out.trans hF)
      have c0 : U1.cell? ⟨q5, 2, none⟩ = some (.int .i64 b0) := ks.cell 2
      have f0 := ks.free 2
      have KS := Lib.hid ks
      clear hF h12 ks o0 z0 z1
      have hn0 : 0 ≤ min l1 (b1 - b0) := by omega
      have hn1 : min l1 (b1 - b0) ≤ l1 := by omega
      have hn2 : min l1 (b1 - b0) ≤ 1000000 := by omega
      generalize hN1 : min l1 (b1 - b0) = n1 at *
      have HN1 := Lib.hid hN1
      clear hN1
      go_wp2
      obtain ⟨V6, hV6⟩ : ∃ V6, V6 = U1.setCell ⟨q5, 2, none⟩ (.int .i64 (b0 + n1)) := ⟨_, rfl⟩
      have KB := Lib.hid (show Blk V6 q6 215 #[.int .i64 p0, .int .i64 p1, .int .i64 a0, .int .i64 a1, .int .i64 b0, .int .i64 b1, .int .i64 m0, .int .i64 m1] by rw [hV6]; exact KB.out.setOther (by have := HQ.out; dsimp only; omega) _)
      have KR := Lib.hid (show Blk V6 q4 26 #[.int .i64 0, .int .i64 0, .int .i64 0, .int .i64 0] by rw [hV6]; exact KR.out.setOther (by have := HQ45.out; dsimp only; omega) _)
      have KS := Lib.hid (show Blk V6 q5 26 #[.int .i64 (p0), .int .i64 (a0), .int .i64 (b0 + n1), .int .i64 (m0 + n0)] by rw [hV6]; exact KS.out.setSame 2 _)
      have EX := Lib.hid (show Ext w V6 by rw [hV6]; exact Ext.set EX.out HQ5.out _)
      rw [← hV6]
      clear hV6 c0 f0
      have hl4 : 0 ≤ l1 - n1 := by omega
      have hl5 : l1 - n1 ≤ 1000000 := by omega
      generalize hL : l1 - n1 = l2 at *
      have HL2 := Lib.hid hL
      clear hL
      have o0 : V6.cell? ⟨vb, vo + 2, none⟩ = some (.int .i64 1) := EX.out.cell O2.out
      have z0 : V6.cell? ⟨q6, 2, none⟩ = some (.int .i64 a0) := KB.out.cell 2
      have z1 : V6.cell? ⟨q6, 3, none⟩ = some (.int .i64 a1) := KB.out.cell 3
      rw [rounds_succ]
      go_wp2
      refine wp_region_each [some 35, some 36, some 37, some 38, some 39, some 40, some 41, some 42, some 43, some 44, some 45, some 12] [[7], [11], [6, 36], [37], [38], [11], [6, 40], [41], [42], [39, 43], [35, 44], [45]]
        [Is (.int .i64 (l2)), Is (.int .i64 (1)), Is (.pointer (some ⟨q6, 2, none⟩)), Is (.pointer (some ⟨q6, 3, none⟩)), Is (.int .i64 (a1)), Is (.int .i64 (1)), Is (.pointer (some ⟨q6, 2, none⟩)), Is (.pointer (some ⟨q6, 2, none⟩)), Is (.int .i64 (a0)), Is (.int .i64 (a1 - a0)), Is (.int .i64 (min l2 (a1 - a0))), Is (.int .i64 (min l2 (a1 - a0)))]
        (by kernel_rfl) (by kernel_rfl) (by kernel_rfl) (by kernel_rfl) (by kernel_rfl) Ext (fun W => Ext V6 W)
        (fun W _ => Ext.refl W) (fun W W' h k => h.trans k) ?_ (Ext.drew _) ?_ ?_
      · repeat (refine ⟨fun _ _ _ _ k h => (by first | exact h | exact (by first | exact IntsAt.ext h k | exact KnV.ext h k | exact NumsV.ext h k)), ?_⟩)
        exact trivial
      · refine ⟨?_, ?_, ?_, ?_, ?_, ?_, ?_, ?_, ?_, ?_, ?_, ?_, trivial⟩
        all_goals intro ρ W ⟨kc, kg, kf⟩ hF hs
        · obtain ⟨h0, -⟩ := hs
          replace h0 : ρ (.tmp 7) = .int .i64 (l2) := h0
          go_simp
          exact ⟨Ext.refl _, rfl⟩
        · obtain ⟨h0, -⟩ := hs
          replace h0 : ρ (.tmp 11) = .int .i64 (1) := h0
          go_simp
          exact ⟨Ext.refl _, rfl⟩
        · obtain ⟨h0, h1, -⟩ := hs
          replace h0 : ρ (.tmp 6) = .pointer (some ⟨q6, 0, none⟩) := h0
          replace h1 : ρ (.tmp 36) = .int .i64 (1) := h1
          go_simp
          exact ⟨Ext.refl _, rfl⟩
        · obtain ⟨h0, -⟩ := hs
          replace h0 : ρ (.tmp 37) = .pointer (some ⟨q6, 2, none⟩) := h0
          go_simp
          exact ⟨Ext.refl _, rfl⟩
        · obtain ⟨h0, -⟩ := hs
          replace h0 : ρ (.tmp 38) = .pointer (some ⟨q6, 3, none⟩) := h0
          have hc0 : W.cell? ⟨q6, 3, none⟩ = some (.int .i64 (a1)) := hF.cell (by assumption)
          go_simp
          exact ⟨Ext.refl _, rfl⟩
        · obtain ⟨h0, -⟩ := hs
          replace h0 : ρ (.tmp 11) = .int .i64 (1) := h0
          go_simp
          exact ⟨Ext.refl _, rfl⟩
        · obtain ⟨h0, h1, -⟩ := hs
          replace h0 : ρ (.tmp 6) = .pointer (some ⟨q6, 0, none⟩) := h0
          replace h1 : ρ (.tmp 40) = .int .i64 (1) := h1
          go_simp
          exact ⟨Ext.refl _, rfl⟩
        · obtain ⟨h0, -⟩ := hs
          replace h0 : ρ (.tmp 41) = .pointer (some ⟨q6, 2, none⟩) := h0
          go_simp
          exact ⟨Ext.refl _, rfl⟩
        · obtain ⟨h0, -⟩ := hs
          replace h0 : ρ (.tmp 42) = .pointer (some ⟨q6, 2, none⟩) := h0
          have hc0 : W.cell? ⟨q6, 2, none⟩ = some (.int .i64 (a0)) := hF.cell (by assumption)
          go_simp
          exact ⟨Ext.refl _, rfl⟩
        · obtain ⟨h0, h1, -⟩ := hs
          replace h0 : ρ (.tmp 39) = .int .i64 (a1) := h0
          replace h1 : ρ (.tmp 43) = .int .i64 (a0) := h1
          have hw : IntKind.i64.wrap (a1 - a0) = a1 - a0 := wrap_id _ (by omega) (by omega)
          go_simp
          exact ⟨Ext.refl _, rfl⟩
        · obtain ⟨h0, h1, -⟩ := hs
          replace h0 : ρ (.tmp 35) = .int .i64 (l2) := h0
          replace h1 : ρ (.tmp 44) = .int .i64 (a1 - a0) := h1
          go_simp
          exact ⟨Ext.refl _, rfl⟩
        · obtain ⟨h0, -⟩ := hs
          replace h0 : ρ (.tmp 45) = .int .i64 (min l2 (a1 - a0)) := h0
          go_simp
          exact ⟨Ext.refl _, rfl⟩
      · intro fv U2 hF hs
        obtain ⟨-, -, -, -, -, -, -, -, -, -, -, h12, -⟩ := hs
        replace h12 : fv 12 = .int .i64 (min l2 (a1 - a0)) := h12
        simp only [fin, List.filterMap]
        go_simp
        have KB := Lib.hid (KB.out.ext hF)
        have KR := Lib.hid (KR.out.ext hF)
        have ks := KS.out.ext hF
        have EX := Lib.hid (EX.out.trans hF)
        have c0 : U2.cell? ⟨q5, 1, none⟩ = some (.int .i64 a0) := ks.cell 1
        have f0 := ks.free 1
        have KS := Lib.hid ks
        clear hF h12 ks o0 z0 z1
        have hn0 : 0 ≤ min l2 (a1 - a0) := by omega
        have hn1 : min l2 (a1 - a0) ≤ l2 := by omega
        have hn2 : min l2 (a1 - a0) ≤ 1000000 := by omega
        generalize hN2 : min l2 (a1 - a0) = n2 at *
        have HN2 := Lib.hid hN2
        clear hN2
        go_wp2
        obtain ⟨V7, hV7⟩ : ∃ V7, V7 = U2.setCell ⟨q5, 1, none⟩ (.int .i64 (a0 + n2)) := ⟨_, rfl⟩
        have KB := Lib.hid (show Blk V7 q6 215 #[.int .i64 p0, .int .i64 p1, .int .i64 a0, .int .i64 a1, .int .i64 b0, .int .i64 b1, .int .i64 m0, .int .i64 m1] by rw [hV7]; exact KB.out.setOther (by have := HQ.out; dsimp only; omega) _)
        have KR := Lib.hid (show Blk V7 q4 26 #[.int .i64 0, .int .i64 0, .int .i64 0, .int .i64 0] by rw [hV7]; exact KR.out.setOther (by have := HQ45.out; dsimp only; omega) _)
        have KS := Lib.hid (show Blk V7 q5 26 #[.int .i64 (p0), .int .i64 (a0 + n2), .int .i64 (b0 + n1), .int .i64 (m0 + n0)] by rw [hV7]; exact KS.out.setSame 1 _)
        have EX := Lib.hid (show Ext w V7 by rw [hV7]; exact Ext.set EX.out HQ5.out _)
        rw [← hV7]
        clear hV7 c0 f0
        have hl6 : 0 ≤ l2 - n2 := by omega
        have hl7 : l2 - n2 ≤ 1000000 := by omega
        generalize hL : l2 - n2 = l3 at *
        have HL3 := Lib.hid hL
        clear hL
        have o0 : V7.cell? ⟨vb, vo + 3, none⟩ = some (.int .i64 0) := EX.out.cell O3.out
        have z0 : V7.cell? ⟨q6, 0, none⟩ = some (.int .i64 p0) := KB.out.cell 0
        have z1 : V7.cell? ⟨q6, 1, none⟩ = some (.int .i64 p1) := KB.out.cell 1
        rw [rounds_succ]
        go_wp2
        refine wp_region_each [some 35, some 36, some 37, some 38, some 39, some 40, some 41, some 42, some 43, some 44, some 45, some 12] [[7], [11], [6, 36], [37], [38], [11], [6, 40], [41], [42], [39, 43], [35, 44], [45]]
          [Is (.int .i64 (l3)), Is (.int .i64 (0)), Is (.pointer (some ⟨q6, 0, none⟩)), Is (.pointer (some ⟨q6, 1, none⟩)), Is (.int .i64 (p1)), Is (.int .i64 (0)), Is (.pointer (some ⟨q6, 0, none⟩)), Is (.pointer (some ⟨q6, 0, none⟩)), Is (.int .i64 (p0)), Is (.int .i64 (p1 - p0)), Is (.int .i64 (min l3 (p1 - p0))), Is (.int .i64 (min l3 (p1 - p0)))]
          (by kernel_rfl) (by kernel_rfl) (by kernel_rfl) (by kernel_rfl) (by kernel_rfl) Ext (fun W => Ext V7 W)
          (fun W _ => Ext.refl W) (fun W W' h k => h.trans k) ?_ (Ext.drew _) ?_ ?_
        · repeat (refine ⟨fun _ _ _ _ k h => (by first | exact h | exact (by first | exact IntsAt.ext h k | exact KnV.ext h k | exact NumsV.ext h k)), ?_⟩)
          exact trivial
        · refine ⟨?_, ?_, ?_, ?_, ?_, ?_, ?_, ?_, ?_, ?_, ?_, ?_, trivial⟩
          all_goals intro ρ W ⟨kc, kg, kf⟩ hF hs
          · obtain ⟨h0, -⟩ := hs
            replace h0 : ρ (.tmp 7) = .int .i64 (l3) := h0
            go_simp
            exact ⟨Ext.refl _, rfl⟩
          · obtain ⟨h0, -⟩ := hs
            replace h0 : ρ (.tmp 11) = .int .i64 (0) := h0
            go_simp
            exact ⟨Ext.refl _, rfl⟩
          · obtain ⟨h0, h1, -⟩ := hs
            replace h0 : ρ (.tmp 6) = .pointer (some ⟨q6, 0, none⟩) := h0
            replace h1 : ρ (.tmp 36) = .int .i64 (0) := h1
            go_simp
            exact ⟨Ext.refl _, rfl⟩
          · obtain ⟨h0, -⟩ := hs
            replace h0 : ρ (.tmp 37) = .pointer (some ⟨q6, 0, none⟩) := h0
            go_simp
            exact ⟨Ext.refl _, rfl⟩
          · obtain ⟨h0, -⟩ := hs
            replace h0 : ρ (.tmp 38) = .pointer (some ⟨q6, 1, none⟩) := h0
            have hc0 : W.cell? ⟨q6, 1, none⟩ = some (.int .i64 (p1)) := hF.cell (by assumption)
            go_simp
            exact ⟨Ext.refl _, rfl⟩
          · obtain ⟨h0, -⟩ := hs
            replace h0 : ρ (.tmp 11) = .int .i64 (0) := h0
            go_simp
            exact ⟨Ext.refl _, rfl⟩
          · obtain ⟨h0, h1, -⟩ := hs
            replace h0 : ρ (.tmp 6) = .pointer (some ⟨q6, 0, none⟩) := h0
            replace h1 : ρ (.tmp 40) = .int .i64 (0) := h1
            go_simp
            exact ⟨Ext.refl _, rfl⟩
          · obtain ⟨h0, -⟩ := hs
            replace h0 : ρ (.tmp 41) = .pointer (some ⟨q6, 0, none⟩) := h0
            go_simp
            exact ⟨Ext.refl _, rfl⟩
          · obtain ⟨h0, -⟩ := hs
            replace h0 : ρ (.tmp 42) = .pointer (some ⟨q6, 0, none⟩) := h0
            have hc0 : W.cell? ⟨q6, 0, none⟩ = some (.int .i64 (p0)) := hF.cell (by assumption)
            go_simp
            exact ⟨Ext.refl _, rfl⟩
          · obtain ⟨h0, h1, -⟩ := hs
            replace h0 : ρ (.tmp 39) = .int .i64 (p1) := h0
            replace h1 : ρ (.tmp 43) = .int .i64 (p0) := h1
            have hw : IntKind.i64.wrap (p1 - p0) = p1 - p0 := wrap_id _ (by omega) (by omega)
            go_simp
            exact ⟨Ext.refl _, rfl⟩
          · obtain ⟨h0, h1, -⟩ := hs
            replace h0 : ρ (.tmp 35) = .int .i64 (l3) := h0
            replace h1 : ρ (.tmp 44) = .int .i64 (p1 - p0) := h1
            go_simp
            exact ⟨Ext.refl _, rfl⟩
          · obtain ⟨h0, -⟩ := hs
            replace h0 : ρ (.tmp 45) = .int .i64 (min l3 (p1 - p0)) := h0
            go_simp
            exact ⟨Ext.refl _, rfl⟩
        · intro fv U3 hF hs
          obtain ⟨-, -, -, -, -, -, -, -, -, -, -, h12, -⟩ := hs
          replace h12 : fv 12 = .int .i64 (min l3 (p1 - p0)) := h12
          simp only [fin, List.filterMap]
          go_simp
          have KB := Lib.hid (KB.out.ext hF)
          have KR := Lib.hid (KR.out.ext hF)
          have ks := KS.out.ext hF
          have EX := Lib.hid (EX.out.trans hF)
          have c0 : U3.cell? ⟨q5, 0, none⟩ = some (.int .i64 p0) := ks.cell 0
          have f0 := ks.free 0
          have KS := Lib.hid ks
          clear hF h12 ks o0 z0 z1
          have hn0 : 0 ≤ min l3 (p1 - p0) := by omega
          have hn1 : min l3 (p1 - p0) ≤ l3 := by omega
          have hn2 : min l3 (p1 - p0) ≤ 1000000 := by omega
          generalize hN3 : min l3 (p1 - p0) = n3 at *
          have HN3 := Lib.hid hN3
          clear hN3
          go_wp2
          obtain ⟨V8, hV8⟩ : ∃ V8, V8 = U3.setCell ⟨q5, 0, none⟩ (.int .i64 (p0 + n3)) := ⟨_, rfl⟩
          have KB := Lib.hid (show Blk V8 q6 215 #[.int .i64 p0, .int .i64 p1, .int .i64 a0, .int .i64 a1, .int .i64 b0, .int .i64 b1, .int .i64 m0, .int .i64 m1] by rw [hV8]; exact KB.out.setOther (by have := HQ.out; dsimp only; omega) _)
          have KR := Lib.hid (show Blk V8 q4 26 #[.int .i64 0, .int .i64 0, .int .i64 0, .int .i64 0] by rw [hV8]; exact KR.out.setOther (by have := HQ45.out; dsimp only; omega) _)
          have KS := Lib.hid (show Blk V8 q5 26 #[.int .i64 (p0 + n3), .int .i64 (a0 + n2), .int .i64 (b0 + n1), .int .i64 (m0 + n0)] by rw [hV8]; exact KS.out.setSame 0 _)
          have EX := Lib.hid (show Ext w V8 by rw [hV8]; exact Ext.set EX.out HQ5.out _)
          rw [← hV8]
          clear hV8 c0 f0
          have hl8 : 0 ≤ l3 - n3 := by omega
          have hl9 : l3 - n3 ≤ 1000000 := by omega
          generalize hL : l3 - n3 = l4 at *
          have HL4 := Lib.hid hL
          clear hL
          rw [rounds_succ]
          have s0 : V8.cell? ⟨q5, 0, none⟩ = some (.int .i64 (p0 + n3)) := KS.out.cell 0
          have s1 : V8.cell? ⟨q5, 1, none⟩ = some (.int .i64 (a0 + n2)) := KS.out.cell 1
          have s2 : V8.cell? ⟨q5, 2, none⟩ = some (.int .i64 (b0 + n1)) := KS.out.cell 2
          have s3 : V8.cell? ⟨q5, 3, none⟩ = some (.int .i64 (m0 + n0)) := KS.out.cell 3
          have g0 : V8.cell? ⟨q4, 0, none⟩ = some (.int .i64 0) := KR.out.cell 0
          have g1 : V8.cell? ⟨q4, 1, none⟩ = some (.int .i64 0) := KR.out.cell 1
          have g2 : V8.cell? ⟨q4, 2, none⟩ = some (.int .i64 0) := KR.out.cell 2
          have g3 : V8.cell? ⟨q4, 3, none⟩ = some (.int .i64 0) := KR.out.cell 3
          have e0 := KR.out.free 0
          have e1 := KR.out.free 1
          have e2 := KR.out.free 2
          have e3 := KR.out.free 3
          have HF := Lib.hid (show fill4 l0 (m1 - m0) (b1 - b0) (a1 - a0) (p1 - p0) = (n0, n1, n2, n3) by unfold fill4; dsimp only; rw [HN0.out, HL1.out, HN1.out, HL2.out, HN2.out, HL3.out, HN3.out])
          go_wp2
          exact bodyPost_ret (v := .agg #[.int .i64 (p0 + n3), .int .i64 (a0 + n2), .int .i64 (b0 + n1), .int .i64 (m0 + n0)]) (by simp [results, Tryz.f138, go_sem, g0, g1, g2, g3]) rfl
            ⟨by rw [HL0.out, HF.out], Ext.set (Ext.set (Ext.set (Ext.set EX.out HQ4.out _) HQ4.out _) HQ4.out _) HQ4.out _⟩

end Go.Proofs.YtkmekbafjnlfkaaGreat
