/- A copy of rules. -/
import Derived.Test.YtkmekbafjnlfkaaGreatS32

namespace Go.Proofs.YtkmekbafjnlfkaaGreat
open Go.RowKit Go.Shelf Go.Mem Go.RegInv
attribute [local go_sem] RelUpon_value RelUpon_skip RelUpon_enter BigFrame.eval_const BigFrame.eval_global BigFrame.eval_func

/-- Rules as they come in: with lengths, and nil slices without a cap. -/
def RuIn (r : Ru) (u : Value) (W : World) : Prop := ∃ A0 A1 A2 A3 n0 n1 n2 n3 c0 c1 c2 c3, u = .agg #[.slice A0 n0 c0, .slice A1 n1 c1, .slice A2 n2 c2, .slice A3 n3 c3, .int .i64 r.h0, .int .i64 r.h1, .int .i64 r.h2, .int .i64 r.h3] ∧ RuAt W r A0 A1 A2 A3 n0 n1 n2 n3 ∧ (A0 = none → c0 = 0) ∧ (A1 = none → c1 = 0) ∧ (A2 = none → c2 = 0) ∧ (A3 = none → c3 = 0) ∧ n0 ≤ 10 ∧ n1 ≤ 10 ∧ n2 ≤ 10 ∧ n3 ≤ 10
theorem infoR68 : (Tryz.prog.info? 68).map (fun i => (i.zero, i.size, i.bytes)) = some (some (.agg #[.int .i64 0, .int .i64 0, .int .i64 0, .int .i64 0]), 4, 32) := by kernel_rfl
theorem HK_one : ∀ x, ∀ u ∈ HK.enc x, u.oneCell' = true := by intro x u hu; simp [HK.enc] at hu; rcases hu with rfl | rfl | rfl | rfl <;> rfl
theorem infoR137 : (Tryz.prog.info? 137).map (fun i => (i.zero, i.size, i.bytes)) = some (some (.agg #[.int .i64 0, .int .i64 0, .int .i64 0, .int .i64 0, .int .i64 0]), 5, 40) := by kernel_rfl
theorem CK_one : ∀ x, ∀ u ∈ CK.enc x, u.oneCell' = true := by intro x u hu; simp [CK.enc] at hu; rcases hu with rfl | rfl | rfl | rfl | rfl <;> rfl
theorem infoR141 : (Tryz.prog.info? 141).map (fun i => (i.zero, i.size, i.bytes)) = some (some (.agg #[.int .i64 0, .int .i64 0, .int .i64 0]), 3, 24) := by kernel_rfl
theorem DK_one : ∀ x, ∀ u ∈ DK.enc x, u.oneCell' = true := by intro x u hu; simp [DK.enc] at hu; rcases hu with rfl | rfl | rfl <;> rfl
theorem infoR145 : (Tryz.prog.info? 145).map (fun i => (i.zero, i.size, i.bytes)) = some (some (.agg #[.int .i64 0, .int .i64 0]), 2, 16) := by kernel_rfl
theorem TK_one : ∀ x, ∀ u ∈ TK.enc x, u.oneCell' = true := by intro x u hu; simp [TK.enc] at hu; rcases hu with rfl | rfl <;> rfl

set_option maxRecDepth 100000 in
set_option maxHeartbeats 600000 in
theorem copyRules_any {r : Ru} {u : Value} {w : World} (hR : RuIn r u w) : Calls Tryz.prog 16 #[u] w (VPost w (RuV r)) := by
  obtain ⟨A0, A1, A2, A3, n0, n1, n2, n3, c0, c1, c2, c3, rfl, h, e0, e1, e2, e3, q0, q1, q2, q3⟩ := hR
  obtain ⟨i0, hi0, hz0, ha0, hb0⟩ := info_parts infoR68
  have I0 := Lib.hid hz0
  have N0 := Lib.hid e0
  obtain ⟨i1, hi1, hz1, ha1, hb1⟩ := info_parts infoR137
  have I1 := Lib.hid hz1
  have N1 := Lib.hid e1
  obtain ⟨i2, hi2, hz2, ha2, hb2⟩ := info_parts infoR141
  have I2 := Lib.hid hz2
  have N2 := Lib.hid e2
  obtain ⟨i3, hi3, hz3, ha3, hb3⟩ := info_parts infoR145
  have I3 := Lib.hid hz3
  have N3 := Lib.hid e3
  have H := Lib.hid h
  clear hz0 hz1 hz2 hz3 e0 e1 e2 e3 h
  obtain ⟨W0, hW0⟩ : ∃ W0, W0 = (w.alloc (.cells #[.slice A0 n0 c0, .slice A1 n1 c1, .slice A2 n2 c2, .slice A3 n3 c3, .int .i64 r.h0, .int .i64 r.h1, .int .i64 r.h2, .int .i64 r.h3] 28)).alloc (.cells #[.slice none 0 0, .slice none 0 0, .slice none 0 0, .slice none 0 0, .int .i64 0, .int .i64 0, .int .i64 0, .int .i64 0] 28) := ⟨_, rfl⟩
  have K0 := Lib.hid (show Blk W0 w.heap.size 28 #[.slice A0 n0 c0, .slice A1 n1 c1, .slice A2 n2 c2, .slice A3 n3 c3, .int .i64 r.h0, .int .i64 r.h1, .int .i64 r.h2, .int .i64 r.h3] by rw [hW0]; exact (Blk.new _ _ _).alloc _)
  have K1 := Lib.hid (show Blk W0 (w.heap.size + 1) 28 #[.slice none 0 0, .slice none 0 0, .slice none 0 0, .slice none 0 0, .int .i64 0, .int .i64 0, .int .i64 0, .int .i64 0] by rw [hW0]; exact Blk.newAt _ _ _ (by simp))
  have E0 := Lib.hid (show Ext w W0 by rw [hW0]; exact (Ext.alloc _ _).trans (Ext.alloc _ _))
  have HSZ0 := Lib.hid (show W0.heap.size = w.heap.size + 1 + 1 by rw [hW0]; simp)
  go_enter Tryz.func16, Tryz.ntmps16
  refine Hid.out ?_
  refine Lib.hid ?_

  go_wp2_with (at_builtin; rw [← hW0]; refine wpList_copy rfl _ _ 22 rfl 68 i0 (.agg #[.int .i64 0, .int .i64 0, .int .i64 0, .int .i64 0]) 4 32 Tryz.underlying22 hi0 I0.out ha0 hb0 rfl (by decide) (by decide) HK.enc (fun _ => rfl) HK_one (by first | rfl | (rw [HSZ0.out]; rfl)) A0 n0 c0 r.hs rfl H.out.l0 (H.out.r0.ext E0.out) (by omega) N0.out ?_; intro B0 d0 V0 hro hx hlo hnl; have k0 := K0.out.ext hx; have f0 := k0.free 0; have x0 : V0.cell? ⟨w.heap.size, 0, none⟩ = some (.slice A0 n0 c0) := k0.cell 0; have XR := Lib.hid hro; have XX := Lib.hid hx; have XL := Lib.hid hlo; have LN0 := Lib.hid hnl; clear hro hlo hnl hx k0 hW0; refine Hid.out ?_)
  refine Lib.hid ?_
  have hx := XX.out
  have LO0 := Lib.hid (show ∀ b o, B0 = some ⟨b, o, none⟩ → w.heap.size + 1 < b from fun b o hb => by have h1 := XL.out b o hb; have h2 := K1.out.lt; omega)
  have R0 := Lib.hid (rows_setOther (p := ⟨w.heap.size, 0, none⟩) XR.out (fun b o hb => by have := LO0.out b o hb; dsimp only; omega) (.slice B0 n0 d0))
  replace E0 := Lib.hid (Ext.set (E0.out.trans hx) (p := ⟨w.heap.size, 0, none⟩) (Nat.le_refl _) (.slice B0 n0 d0))
  replace K1 := Lib.hid ((K1.out.ext hx).setOther (p := ⟨w.heap.size, 0, none⟩) (by dsimp only; omega) (.slice B0 n0 d0))
  replace K0 := Lib.hid (show Blk (V0.setCell ⟨w.heap.size, 0, none⟩ (.slice B0 n0 d0)) (w.heap.size) 28 #[.slice B0 n0 d0, .slice A1 n1 c1, .slice A2 n2 c2, .slice A3 n3 c3, .int .i64 r.h0, .int .i64 r.h1, .int .i64 r.h2, .int .i64 r.h3] from (K0.out.ext hx).setSame 0 _)
  have y1 : ∀ o, ((V0.setCell ⟨w.heap.size, 0, none⟩ (.slice B0 n0 d0)).alloc o).cell? ⟨w.heap.size, 1, none⟩ = some (.slice A1 n1 c1) := fun o => (K0.out.alloc o).cell 1
  obtain ⟨W1, hW1⟩ : ∃ W1, W1 = V0.setCell ⟨w.heap.size, 0, none⟩ (.slice B0 n0 d0) := ⟨_, rfl⟩
  have HSZ1 := Lib.hid (show W1.heap.size = V0.heap.size by rw [hW1]; simp)
  rw [← hW1] at K0 K1 E0 R0
  clear hx XX XR XL
  go_wp2_with (at_builtin; rw [← hW1]; refine wpList_copy rfl _ _ 23 rfl 137 i1 (.agg #[.int .i64 0, .int .i64 0, .int .i64 0, .int .i64 0, .int .i64 0]) 5 40 Tryz.underlying23 hi1 I1.out ha1 hb1 rfl (by decide) (by decide) CK.enc (fun _ => rfl) CK_one (by first | rfl | (rw [HSZ1.out]; rfl)) A1 n1 c1 r.cs rfl H.out.l1 (H.out.r1.ext E0.out) (by omega) N1.out ?_; intro B1 d1 V1 hro hx hlo hnl; have k1 := K0.out.ext hx; have f1 := k1.free 1; have x1 : V1.cell? ⟨w.heap.size, 1, none⟩ = some (.slice A1 n1 c1) := k1.cell 1; have XR := Lib.hid hro; have XX := Lib.hid hx; have XL := Lib.hid hlo; have LN1 := Lib.hid hnl; clear hro hlo hnl hx k1 hW1; refine Hid.out ?_)
  refine Lib.hid ?_
  have hx := XX.out
  have LO1 := Lib.hid (show ∀ b o, B1 = some ⟨b, o, none⟩ → w.heap.size + 1 < b from fun b o hb => by have h1 := XL.out b o hb; have h2 := K1.out.lt; omega)
  have R1 := Lib.hid (rows_setOther (p := ⟨w.heap.size, 1, none⟩) XR.out (fun b o hb => by have := LO1.out b o hb; dsimp only; omega) (.slice B1 n1 d1))
  replace R0 := Lib.hid (rows_setOther (p := ⟨w.heap.size, 1, none⟩) (R0.out.ext hx) (fun b o hb => by have := LO0.out b o hb; dsimp only; omega) (.slice B1 n1 d1))
  replace E0 := Lib.hid (Ext.set (E0.out.trans hx) (p := ⟨w.heap.size, 1, none⟩) (Nat.le_refl _) (.slice B1 n1 d1))
  replace K1 := Lib.hid ((K1.out.ext hx).setOther (p := ⟨w.heap.size, 1, none⟩) (by dsimp only; omega) (.slice B1 n1 d1))
  replace K0 := Lib.hid (show Blk (V1.setCell ⟨w.heap.size, 1, none⟩ (.slice B1 n1 d1)) (w.heap.size) 28 #[.slice B0 n0 d0, .slice B1 n1 d1, .slice A2 n2 c2, .slice A3 n3 c3, .int .i64 r.h0, .int .i64 r.h1, .int .i64 r.h2, .int .i64 r.h3] from (K0.out.ext hx).setSame 1 _)
  have y2 : ∀ o, ((V1.setCell ⟨w.heap.size, 1, none⟩ (.slice B1 n1 d1)).alloc o).cell? ⟨w.heap.size, 2, none⟩ = some (.slice A2 n2 c2) := fun o => (K0.out.alloc o).cell 2
  obtain ⟨W2, hW2⟩ : ∃ W2, W2 = V1.setCell ⟨w.heap.size, 1, none⟩ (.slice B1 n1 d1) := ⟨_, rfl⟩
  have HSZ2 := Lib.hid (show W2.heap.size = V1.heap.size by rw [hW2]; simp)
  rw [← hW2] at K0 K1 E0 R0 R1
  clear hx XX XR XL y1
  go_wp2_with (at_builtin; rw [← hW2]; refine wpList_copy rfl _ _ 24 rfl 141 i2 (.agg #[.int .i64 0, .int .i64 0, .int .i64 0]) 3 24 Tryz.underlying24 hi2 I2.out ha2 hb2 rfl (by decide) (by decide) DK.enc (fun _ => rfl) DK_one (by first | rfl | (rw [HSZ2.out]; rfl)) A2 n2 c2 r.ds rfl H.out.l2 (H.out.r2.ext E0.out) (by omega) N2.out ?_; intro B2 d2 V2 hro hx hlo hnl; have k2 := K0.out.ext hx; have f2 := k2.free 2; have x2 : V2.cell? ⟨w.heap.size, 2, none⟩ = some (.slice A2 n2 c2) := k2.cell 2; have XR := Lib.hid hro; have XX := Lib.hid hx; have XL := Lib.hid hlo; have LN2 := Lib.hid hnl; clear hro hlo hnl hx k2 hW2; refine Hid.out ?_)
  refine Lib.hid ?_
  have hx := XX.out
  have LO2 := Lib.hid (show ∀ b o, B2 = some ⟨b, o, none⟩ → w.heap.size + 1 < b from fun b o hb => by have h1 := XL.out b o hb; have h2 := K1.out.lt; omega)
  have R2 := Lib.hid (rows_setOther (p := ⟨w.heap.size, 2, none⟩) XR.out (fun b o hb => by have := LO2.out b o hb; dsimp only; omega) (.slice B2 n2 d2))
  replace R0 := Lib.hid (rows_setOther (p := ⟨w.heap.size, 2, none⟩) (R0.out.ext hx) (fun b o hb => by have := LO0.out b o hb; dsimp only; omega) (.slice B2 n2 d2))
  replace R1 := Lib.hid (rows_setOther (p := ⟨w.heap.size, 2, none⟩) (R1.out.ext hx) (fun b o hb => by have := LO1.out b o hb; dsimp only; omega) (.slice B2 n2 d2))
  replace E0 := Lib.hid (Ext.set (E0.out.trans hx) (p := ⟨w.heap.size, 2, none⟩) (Nat.le_refl _) (.slice B2 n2 d2))
  replace K1 := Lib.hid ((K1.out.ext hx).setOther (p := ⟨w.heap.size, 2, none⟩) (by dsimp only; omega) (.slice B2 n2 d2))
  replace K0 := Lib.hid (show Blk (V2.setCell ⟨w.heap.size, 2, none⟩ (.slice B2 n2 d2)) (w.heap.size) 28 #[.slice B0 n0 d0, .slice B1 n1 d1, .slice B2 n2 d2, .slice A3 n3 c3, .int .i64 r.h0, .int .i64 r.h1, .int .i64 r.h2, .int .i64 r.h3] from (K0.out.ext hx).setSame 2 _)
  have y3 : ∀ o, ((V2.setCell ⟨w.heap.size, 2, none⟩ (.slice B2 n2 d2)).alloc o).cell? ⟨w.heap.size, 3, none⟩ = some (.slice A3 n3 c3) := fun o => (K0.out.alloc o).cell 3
  obtain ⟨W3, hW3⟩ : ∃ W3, W3 = V2.setCell ⟨w.heap.size, 2, none⟩ (.slice B2 n2 d2) := ⟨_, rfl⟩
  have HSZ3 := Lib.hid (show W3.heap.size = V2.heap.size by rw [hW3]; simp)
  rw [← hW3] at K0 K1 E0 R0 R1 R2
  clear hx XX XR XL y2
  go_wp2_with (at_builtin; rw [← hW3]; refine wpList_copy rfl _ _ 25 rfl 145 i3 (.agg #[.int .i64 0, .int .i64 0]) 2 16 Tryz.underlying25 hi3 I3.out ha3 hb3 rfl (by decide) (by decide) TK.enc (fun _ => rfl) TK_one (by first | rfl | (rw [HSZ3.out]; rfl)) A3 n3 c3 r.ts rfl H.out.l3 (H.out.r3.ext E0.out) (by omega) N3.out ?_; intro B3 d3 V3 hro hx hlo hnl; have k3 := K0.out.ext hx; have f3 := k3.free 3; have x3 : V3.cell? ⟨w.heap.size, 3, none⟩ = some (.slice A3 n3 c3) := k3.cell 3; have XR := Lib.hid hro; have XX := Lib.hid hx; have XL := Lib.hid hlo; have LN3 := Lib.hid hnl; clear hro hlo hnl hx k3 hW3; refine Hid.out ?_)
  refine Lib.hid ?_
  have hx := XX.out
  have LO3 := Lib.hid (show ∀ b o, B3 = some ⟨b, o, none⟩ → w.heap.size + 1 < b from fun b o hb => by have h1 := XL.out b o hb; have h2 := K1.out.lt; omega)
  have R3 := Lib.hid (rows_setOther (p := ⟨w.heap.size, 3, none⟩) XR.out (fun b o hb => by have := LO3.out b o hb; dsimp only; omega) (.slice B3 n3 d3))
  replace R0 := Lib.hid (rows_setOther (p := ⟨w.heap.size, 3, none⟩) (R0.out.ext hx) (fun b o hb => by have := LO0.out b o hb; dsimp only; omega) (.slice B3 n3 d3))
  replace R1 := Lib.hid (rows_setOther (p := ⟨w.heap.size, 3, none⟩) (R1.out.ext hx) (fun b o hb => by have := LO1.out b o hb; dsimp only; omega) (.slice B3 n3 d3))
  replace R2 := Lib.hid (rows_setOther (p := ⟨w.heap.size, 3, none⟩) (R2.out.ext hx) (fun b o hb => by have := LO2.out b o hb; dsimp only; omega) (.slice B3 n3 d3))
  replace E0 := Lib.hid (Ext.set (E0.out.trans hx) (p := ⟨w.heap.size, 3, none⟩) (Nat.le_refl _) (.slice B3 n3 d3))
  replace K1 := Lib.hid ((K1.out.ext hx).setOther (p := ⟨w.heap.size, 3, none⟩) (by dsimp only; omega) (.slice B3 n3 d3))
  replace K0 := Lib.hid (show Blk (V3.setCell ⟨w.heap.size, 3, none⟩ (.slice B3 n3 d3)) (w.heap.size) 28 #[.slice B0 n0 d0, .slice B1 n1 d1, .slice B2 n2 d2, .slice B3 n3 d3, .int .i64 r.h0, .int .i64 r.h1, .int .i64 r.h2, .int .i64 r.h3] from (K0.out.ext hx).setSame 3 _)
  have y0 : (V3.setCell ⟨w.heap.size, 3, none⟩ (.slice B3 n3 d3)).cell? ⟨w.heap.size, 0, none⟩ = some (.slice B0 n0 d0) := K0.out.cell 0
  have y1 : (V3.setCell ⟨w.heap.size, 3, none⟩ (.slice B3 n3 d3)).cell? ⟨w.heap.size, 1, none⟩ = some (.slice B1 n1 d1) := K0.out.cell 1
  have y2 : (V3.setCell ⟨w.heap.size, 3, none⟩ (.slice B3 n3 d3)).cell? ⟨w.heap.size, 2, none⟩ = some (.slice B2 n2 d2) := K0.out.cell 2
  have y3 : (V3.setCell ⟨w.heap.size, 3, none⟩ (.slice B3 n3 d3)).cell? ⟨w.heap.size, 3, none⟩ = some (.slice B3 n3 d3) := K0.out.cell 3
  have y4 : (V3.setCell ⟨w.heap.size, 3, none⟩ (.slice B3 n3 d3)).cell? ⟨w.heap.size, 4, none⟩ = some (.int .i64 r.h0) := K0.out.cell 4
  have y5 : (V3.setCell ⟨w.heap.size, 3, none⟩ (.slice B3 n3 d3)).cell? ⟨w.heap.size, 5, none⟩ = some (.int .i64 r.h1) := K0.out.cell 5
  have y6 : (V3.setCell ⟨w.heap.size, 3, none⟩ (.slice B3 n3 d3)).cell? ⟨w.heap.size, 6, none⟩ = some (.int .i64 r.h2) := K0.out.cell 6
  have y7 : (V3.setCell ⟨w.heap.size, 3, none⟩ (.slice B3 n3 d3)).cell? ⟨w.heap.size, 7, none⟩ = some (.int .i64 r.h3) := K0.out.cell 7
  have z0 : (V3.setCell ⟨w.heap.size, 3, none⟩ (.slice B3 n3 d3)).cell? ⟨w.heap.size + 1, 0, none⟩ = some (.slice none 0 0) := K1.out.cell 0
  have zf0 : (V3.setCell ⟨w.heap.size, 3, none⟩ (.slice B3 n3 d3)).frozen? ⟨w.heap.size + 1, 0, none⟩ = false := K1.out.free 0
  have z1 : (V3.setCell ⟨w.heap.size, 3, none⟩ (.slice B3 n3 d3)).cell? ⟨w.heap.size + 1, 1, none⟩ = some (.slice none 0 0) := K1.out.cell 1
  have zf1 : (V3.setCell ⟨w.heap.size, 3, none⟩ (.slice B3 n3 d3)).frozen? ⟨w.heap.size + 1, 1, none⟩ = false := K1.out.free 1
  have z2 : (V3.setCell ⟨w.heap.size, 3, none⟩ (.slice B3 n3 d3)).cell? ⟨w.heap.size + 1, 2, none⟩ = some (.slice none 0 0) := K1.out.cell 2
  have zf2 : (V3.setCell ⟨w.heap.size, 3, none⟩ (.slice B3 n3 d3)).frozen? ⟨w.heap.size + 1, 2, none⟩ = false := K1.out.free 2
  have z3 : (V3.setCell ⟨w.heap.size, 3, none⟩ (.slice B3 n3 d3)).cell? ⟨w.heap.size + 1, 3, none⟩ = some (.slice none 0 0) := K1.out.cell 3
  have zf3 : (V3.setCell ⟨w.heap.size, 3, none⟩ (.slice B3 n3 d3)).frozen? ⟨w.heap.size + 1, 3, none⟩ = false := K1.out.free 3
  have z4 : (V3.setCell ⟨w.heap.size, 3, none⟩ (.slice B3 n3 d3)).cell? ⟨w.heap.size + 1, 4, none⟩ = some (.int .i64 0) := K1.out.cell 4
  have zf4 : (V3.setCell ⟨w.heap.size, 3, none⟩ (.slice B3 n3 d3)).frozen? ⟨w.heap.size + 1, 4, none⟩ = false := K1.out.free 4
  have z5 : (V3.setCell ⟨w.heap.size, 3, none⟩ (.slice B3 n3 d3)).cell? ⟨w.heap.size + 1, 5, none⟩ = some (.int .i64 0) := K1.out.cell 5
  have zf5 : (V3.setCell ⟨w.heap.size, 3, none⟩ (.slice B3 n3 d3)).frozen? ⟨w.heap.size + 1, 5, none⟩ = false := K1.out.free 5
  have z6 : (V3.setCell ⟨w.heap.size, 3, none⟩ (.slice B3 n3 d3)).cell? ⟨w.heap.size + 1, 6, none⟩ = some (.int .i64 0) := K1.out.cell 6
  have zf6 : (V3.setCell ⟨w.heap.size, 3, none⟩ (.slice B3 n3 d3)).frozen? ⟨w.heap.size + 1, 6, none⟩ = false := K1.out.free 6
  have z7 : (V3.setCell ⟨w.heap.size, 3, none⟩ (.slice B3 n3 d3)).cell? ⟨w.heap.size + 1, 7, none⟩ = some (.int .i64 0) := K1.out.cell 7
  have zf7 : (V3.setCell ⟨w.heap.size, 3, none⟩ (.slice B3 n3 d3)).frozen? ⟨w.heap.size + 1, 7, none⟩ = false := K1.out.free 7
  obtain ⟨W4, hW4⟩ : ∃ W4, W4 = V3.setCell ⟨w.heap.size, 3, none⟩ (.slice B3 n3 d3) := ⟨_, rfl⟩
  have HSZ4 := Lib.hid (show W4.heap.size = V3.heap.size by rw [hW4]; simp)
  rw [← hW4] at K0 K1 E0 R0 R1 R2 R3
  clear hx XX XR XL y3
  have ne1 : ¬ (w.heap.size + 1 = w.heap.size) := by omega
  have ne2 : ¬ (w.heap.size = w.heap.size + 1) := by omega
  go_wp2
  rw [← hW4] at z0 z1 z2 z3 z4 z5 z6 z7 ⊢
  exact bodyPost_ret (v := .agg #[.slice B0 n0 d0, .slice B1 n1 d1, .slice B2 n2 d2, .slice B3 n3 d3, .int .i64 r.h0, .int .i64 r.h1, .int .i64 r.h2, .int .i64 r.h3]) (by simp [results, Tryz.f16, go_sem, z0, z1, z2, z3, z4, z5, z6, z7]) rfl
    ⟨_, rfl, (Ext.set (Ext.set (Ext.set (Ext.set (Ext.set (Ext.set (Ext.set (Ext.set E0.out (by dsimp only; omega) _) (by dsimp only; omega) _) (by dsimp only; omega) _) (by dsimp only; omega) _) (by dsimp only; omega) _) (by dsimp only; omega) _) (by dsimp only; omega) _) (by dsimp only; omega) _), B0, B1, B2, B3, n0, n1, n2, n3, d0, d1, d2, d3, rfl, H.out.l0, H.out.l1, H.out.l2, H.out.l3,
      (rows_setOther (rows_setOther (rows_setOther (rows_setOther (rows_setOther (rows_setOther (rows_setOther (rows_setOther R0.out (fun b o hb => by have := LO0.out b o hb; dsimp only; omega) _) (fun b o hb => by have := LO0.out b o hb; dsimp only; omega) _) (fun b o hb => by have := LO0.out b o hb; dsimp only; omega) _) (fun b o hb => by have := LO0.out b o hb; dsimp only; omega) _) (fun b o hb => by have := LO0.out b o hb; dsimp only; omega) _) (fun b o hb => by have := LO0.out b o hb; dsimp only; omega) _) (fun b o hb => by have := LO0.out b o hb; dsimp only; omega) _) (fun b o hb => by have := LO0.out b o hb; dsimp only; omega) _),
      (rows_setOther (rows_setOther (rows_setOther (rows_setOther (rows_setOther (rows_setOther (rows_setOther (rows_setOther R1.out (fun b o hb => by have := LO1.out b o hb; dsimp only; omega) _) (fun b o hb => by have := LO1.out b o hb; dsimp only; omega) _) (fun b o hb => by have := LO1.out b o hb; dsimp only; omega) _) (fun b o hb => by have := LO1.out b o hb; dsimp only; omega) _) (fun b o hb => by have := LO1.out b o hb; dsimp only; omega) _) (fun b o hb => by have := LO1.out b o hb; dsimp only; omega) _) (fun b o hb => by have := LO1.out b o hb; dsimp only; omega) _) (fun b o hb => by have := LO1.out b o hb; dsimp only; omega) _),
      (rows_setOther (rows_setOther (rows_setOther (rows_setOther (rows_setOther (rows_setOther (rows_setOther (rows_setOther R2.out (fun b o hb => by have := LO2.out b o hb; dsimp only; omega) _) (fun b o hb => by have := LO2.out b o hb; dsimp only; omega) _) (fun b o hb => by have := LO2.out b o hb; dsimp only; omega) _) (fun b o hb => by have := LO2.out b o hb; dsimp only; omega) _) (fun b o hb => by have := LO2.out b o hb; dsimp only; omega) _) (fun b o hb => by have := LO2.out b o hb; dsimp only; omega) _) (fun b o hb => by have := LO2.out b o hb; dsimp only; omega) _) (fun b o hb => by have := LO2.out b o hb; dsimp only; omega) _),
      (rows_setOther (rows_setOther (rows_setOther (rows_setOther (rows_setOther (rows_setOther (rows_setOther (rows_setOther R3.out (fun b o hb => by have := LO3.out b o hb; dsimp only; omega) _) (fun b o hb => by have := LO3.out b o hb; dsimp only; omega) _) (fun b o hb => by have := LO3.out b o hb; dsimp only; omega) _) (fun b o hb => by have := LO3.out b o hb; dsimp only; omega) _) (fun b o hb => by have := LO3.out b o hb; dsimp only; omega) _) (fun b o hb => by have := LO3.out b o hb; dsimp only; omega) _) (fun b o hb => by have := LO3.out b o hb; dsimp only; omega) _) (fun b o hb => by have := LO3.out b o hb; dsimp only; omega) _)⟩

end Go.Proofs.YtkmekbafjnlfkaaGreat
