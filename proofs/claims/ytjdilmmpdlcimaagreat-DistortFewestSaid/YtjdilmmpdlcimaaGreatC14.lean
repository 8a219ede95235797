/- The shaft and the press of the laws. -/
import Derived.Test.YtjdilmmpdlcimaaGreatC12
import Derived.Lib.MinMax
import Derived.Deep.DeepCutAuto
import Derived.BigQuiet

namespace Go.Proofs.YtjdilmmpdlcimaaGreat
open Go.RowKit Go.Shelf Go.Mem Go.RegInv
attribute [local go_sem] RelUpon_value RelUpon_skip RelUpon_enter BigFrame.eval_const BigFrame.eval_global BigFrame.eval_func


set_option maxRecDepth 100000 in
set_option maxHeartbeats 1000000 in
theorem shaft_any (w : World) : Calls Tryz.prog 18 #[] w fun e w' => ∃ J K, e = .returned (.agg #[.int .i64 100, .slice (some J) 1 1, .slice (some K) 1 1]) ∧ RowsAt 1 I1 w' (some J) [40] ∧ RowsAt 2 Rg.enc w' (some K) [(10, 12)] ∧ Ext w w' := by
  obtain ⟨W0, hW0⟩ : ∃ W, W = ((w.alloc (.cells #[.int .i64 100, .slice (some ⟨w.heap.size + 1, 0, none⟩) 1 1, .slice (some ⟨w.heap.size + 1 + 1, 0, none⟩) 1 1] 25)).alloc (.cells #[.int .i64 40] 3)).alloc (.cells #[.int .i64 10, .int .i64 12] 49) := ⟨_, rfl⟩
  have K0 := Lib.hid (show Blk W0 w.heap.size 25 #[.int .i64 100, .slice (some ⟨w.heap.size + 1, 0, none⟩) 1 1, .slice (some ⟨w.heap.size + 1 + 1, 0, none⟩) 1 1] by rw [hW0]; exact ((Blk.new _ _ _).alloc _).alloc _)
  have K1 := Lib.hid (show Blk W0 (w.heap.size + 1) 3 #[.int .i64 40] by rw [hW0]; exact (Blk.newAt _ _ _ (by simp)).alloc _)
  have K2 := Lib.hid (show Blk W0 (w.heap.size + 1 + 1) 49 #[.int .i64 10, .int .i64 12] by rw [hW0]; exact Blk.newAt _ _ _ (by simp))
  have E0 := Lib.hid (show Ext w W0 by rw [hW0]; exact ((Ext.alloc _ _).trans (Ext.alloc _ _)).trans (Ext.alloc _ _))
  go_enter Tryz.func18, Tryz.ntmps18
  go_wp2
  rw [← hW0]
  clear hW0
  have u0 : W0.cell? ⟨w.heap.size, 0, none⟩ = some (.int .i64 100) := K0.out.cell 0
  have u1 : W0.cell? ⟨w.heap.size, 1, none⟩ = some (.slice (some ⟨w.heap.size + 1, 0, none⟩) 1 1) := K0.out.cell 1
  have u2 : W0.cell? ⟨w.heap.size, 2, none⟩ = some (.slice (some ⟨w.heap.size + 1 + 1, 0, none⟩) 1 1) := K0.out.cell 2
  refine bodyPost_ret (v := .agg #[.int .i64 100, .slice (some ⟨w.heap.size + 1, 0, none⟩) 1 1, .slice (some ⟨w.heap.size + 1 + 1, 0, none⟩) 1 1]) (by simp [results, Tryz.f18, go_sem, u0, u1, u2]) rfl ⟨_, _, rfl, ?_, ?_, E0.out⟩
  · refine ⟨by simp, fun i x hx => ?_⟩
    rcases (show i = 0 ∨ 1 ≤ i by omega) with rfl | hi
    · obtain rfl := Option.some.inj hx
      refine ⟨_, 0, rfl, K1.out.lt, fun j u hu => ?_⟩
      rcases (show j = 0 ∨ 1 ≤ j by omega) with rfl | hj
      · rw [← hu]; exact K1.out.cell 0
      · rw [List.getElem?_eq_none (by simp [I1]; omega)] at hu; cases hu
    · rw [List.getElem?_eq_none (by simp; omega)] at hx; cases hx
  · refine ⟨by simp, fun i x hx => ?_⟩
    rcases (show i = 0 ∨ 1 ≤ i by omega) with rfl | hi
    · obtain rfl := Option.some.inj hx
      refine ⟨_, 0, rfl, K2.out.lt, fun j u hu => ?_⟩
      rcases (show j = 0 ∨ j = 1 ∨ 2 ≤ j by omega) with rfl | rfl | hj
      · rw [← hu]; exact K2.out.cell 0
      · rw [← hu]; exact K2.out.cell 1
      · rw [List.getElem?_eq_none (by simp [Rg.enc]; omega)] at hu; cases hu
    · rw [List.getElem?_eq_none (by simp; omega)] at hx; cases hx
set_option maxRecDepth 100000 in
set_option maxHeartbeats 1000000 in
theorem press_any (w : World) : Calls Tryz.prog 19 #[] w fun e w' => ∃ P, e = .returned (.agg #[.slice (some P) 2 2, .int .i64 3, .int .i64 2, .int .i64 12]) ∧ RowsAt 1 I1 w' (some P) [5, 8] ∧ Ext w w' := by
  obtain ⟨W0, hW0⟩ : ∃ W, W = (w.alloc (.cells #[.slice (some ⟨w.heap.size + 1, 0, none⟩) 2 2, .int .i64 3, .int .i64 2, .int .i64 12] 27)).alloc (.cells #[.int .i64 5, .int .i64 8] 3) := ⟨_, rfl⟩
  have K0 := Lib.hid (show Blk W0 w.heap.size 27 #[.slice (some ⟨w.heap.size + 1, 0, none⟩) 2 2, .int .i64 3, .int .i64 2, .int .i64 12] by rw [hW0]; exact (Blk.new _ _ _).alloc _)
  have K1 := Lib.hid (show Blk W0 (w.heap.size + 1) 3 #[.int .i64 5, .int .i64 8] by rw [hW0]; exact Blk.newAt _ _ _ (by simp))
  have E0 := Lib.hid (show Ext w W0 by rw [hW0]; exact (Ext.alloc _ _).trans (Ext.alloc _ _))
  go_enter Tryz.func19, Tryz.ntmps19
  go_wp2
  rw [← hW0]
  clear hW0
  have u0 : W0.cell? ⟨w.heap.size, 0, none⟩ = some (.slice (some ⟨w.heap.size + 1, 0, none⟩) 2 2) := K0.out.cell 0
  have u1 : W0.cell? ⟨w.heap.size, 1, none⟩ = some (.int .i64 3) := K0.out.cell 1
  have u2 : W0.cell? ⟨w.heap.size, 2, none⟩ = some (.int .i64 2) := K0.out.cell 2
  have u3 : W0.cell? ⟨w.heap.size, 3, none⟩ = some (.int .i64 12) := K0.out.cell 3
  refine bodyPost_ret (v := .agg #[.slice (some ⟨w.heap.size + 1, 0, none⟩) 2 2, .int .i64 3, .int .i64 2, .int .i64 12]) (by simp [results, Tryz.f19, go_sem, u0, u1, u2, u3]) rfl ⟨_, rfl, ?_, E0.out⟩
  · refine ⟨by simp, fun i x hx => ?_⟩
    rcases (show i = 0 ∨ i = 1 ∨ 2 ≤ i by omega) with rfl | rfl | hi
    · obtain rfl := Option.some.inj hx
      refine ⟨_, 0, rfl, K1.out.lt, fun j u hu => ?_⟩
      rcases (show j = 0 ∨ 1 ≤ j by omega) with rfl | hj
      · rw [← hu]; exact K1.out.cell 0
      · rw [List.getElem?_eq_none (by simp [I1]; omega)] at hu; cases hu
    · obtain rfl := Option.some.inj hx
      refine ⟨_, 0, rfl, K1.out.lt, fun j u hu => ?_⟩
      rcases (show j = 0 ∨ 1 ≤ j by omega) with rfl | hj
      · rw [← hu]; exact K1.out.cell 1
      · rw [List.getElem?_eq_none (by simp [I1]; omega)] at hu; cases hu
    · rw [List.getElem?_eq_none (by simp; omega)] at hx; cases hx

end Go.Proofs.YtjdilmmpdlcimaaGreat
