/- Examples: their calls. -/
import Derived.Test.YtkmekbafjnlfkaaGreatS16
import Derived.Test.YtkmekbafjnlfkaaGreatS17
import Derived.Test.YtkmekbafjnlfkaaGreatS23

namespace Go.Proofs.YtkmekbafjnlfkaaGreat
open Go.RowKit Go.Shelf Go.Mem Go.RegInv
attribute [local go_sem] RelUpon_value RelUpon_skip RelUpon_enter BigFrame.eval_const BigFrame.eval_global BigFrame.eval_func

def RULES : Ru := ⟨[⟨1000, 200000, 400000, 10⟩, ⟨1200, 500000, 600000, 30⟩], [⟨600, 0, 0, 0, 0⟩, ⟨800, 200000, 500000, 50000, 100000⟩], [⟨300, 900000, 950000⟩, ⟨500, 100000, 300000⟩], [⟨400, 5⟩], 200, 250, 400, 800⟩
theorem parent_any (w : World) : Calls Tryz.prog 69 #[] w fun e w' => e = .returned (.agg #[.int .i64 1000000, .int .i64 0, .int .i64 0, .int .i64 0, .int .i64 0, .int .i64 0, .int .i64 0]) ∧ Ext w w' := by
  go_enter Tryz.func69, Tryz.ntmps69
  go_wp2
  exact bodyPost_ret (v := .agg #[.int .i64 1000000, .int .i64 0, .int .i64 0, .int .i64 0, .int .i64 0, .int .i64 0, .int .i64 0]) (by simp [results, Tryz.f69, go_sem]) rfl ⟨rfl, Ext.alloc _ _⟩
theorem austenite_any (w : World) : Calls Tryz.prog 70 #[] w fun e w' => e = .returned (.agg #[.int .i64 0, .int .i64 1000000, .int .i64 0, .int .i64 0, .int .i64 0, .int .i64 0, .int .i64 0]) ∧ Ext w w' := by
  go_enter Tryz.func70, Tryz.ntmps70
  go_wp2
  exact bodyPost_ret (v := .agg #[.int .i64 0, .int .i64 1000000, .int .i64 0, .int .i64 0, .int .i64 0, .int .i64 0, .int .i64 0]) (by simp [results, Tryz.f70, go_sem]) rfl ⟨rfl, Ext.alloc _ _⟩
set_option maxRecDepth 100000 in
set_option maxHeartbeats 2000000 in
theorem rules_any (w : World) : Calls Tryz.prog 68 #[] w (VPost w (RuV RULES)) := by
  obtain ⟨W5, hW5⟩ : ∃ W5, W5 = ((((w.alloc (.cells #[.slice (some ⟨w.heap.size + 1, 0, none⟩) 2 2, .slice (some ⟨w.heap.size + 1 + 1, 0, none⟩) 2 2, .slice (some ⟨w.heap.size + 1 + 1 + 1, 0, none⟩) 2 2, .slice (some ⟨w.heap.size + 1 + 1 + 1 + 1, 0, none⟩) 1 1, .int .i64 200, .int .i64 250, .int .i64 400, .int .i64 800] 28)).alloc (.cells #[.int .i64 1000, .int .i64 200000, .int .i64 400000, .int .i64 10, .int .i64 1200, .int .i64 500000, .int .i64 600000, .int .i64 30] 68)).alloc (.cells #[.int .i64 600, .int .i64 0, .int .i64 0, .int .i64 0, .int .i64 0, .int .i64 800, .int .i64 200000, .int .i64 500000, .int .i64 50000, .int .i64 100000] 137)).alloc (.cells #[.int .i64 300, .int .i64 900000, .int .i64 950000, .int .i64 500, .int .i64 100000, .int .i64 300000] 141)).alloc (.cells #[.int .i64 400, .int .i64 5] 145) := ⟨_, rfl⟩
  have kR : Blk W5 (w.heap.size) 28 #[.slice (some ⟨w.heap.size + 1, 0, none⟩) 2 2, .slice (some ⟨w.heap.size + 1 + 1, 0, none⟩) 2 2, .slice (some ⟨w.heap.size + 1 + 1 + 1, 0, none⟩) 2 2, .slice (some ⟨w.heap.size + 1 + 1 + 1 + 1, 0, none⟩) 1 1, .int .i64 200, .int .i64 250, .int .i64 400, .int .i64 800] := by rw [hW5]; exact ((((Blk.new _ _ _).alloc _).alloc _).alloc _).alloc _
  have k1 : Blk W5 (w.heap.size + 1) 68 #[.int .i64 1000, .int .i64 200000, .int .i64 400000, .int .i64 10, .int .i64 1200, .int .i64 500000, .int .i64 600000, .int .i64 30] := by rw [hW5]; exact (((Blk.newAt _ _ _ (by simp)).alloc _).alloc _).alloc _
  have k2 : Blk W5 (w.heap.size + 1 + 1) 137 #[.int .i64 600, .int .i64 0, .int .i64 0, .int .i64 0, .int .i64 0, .int .i64 800, .int .i64 200000, .int .i64 500000, .int .i64 50000, .int .i64 100000] := by rw [hW5]; exact ((Blk.newAt _ _ _ (by simp)).alloc _).alloc _
  have k3 : Blk W5 (w.heap.size + 1 + 1 + 1) 141 #[.int .i64 300, .int .i64 900000, .int .i64 950000, .int .i64 500, .int .i64 100000, .int .i64 300000] := by rw [hW5]; exact (Blk.newAt _ _ _ (by simp)).alloc _
  have k4 : Blk W5 (w.heap.size + 1 + 1 + 1 + 1) 145 #[.int .i64 400, .int .i64 5] := by rw [hW5]; exact Blk.newAt _ _ _ (by simp)
  have e0 : Ext w W5 := by rw [hW5]; exact ((((Ext.alloc _ _).trans (Ext.alloc _ _)).trans (Ext.alloc _ _)).trans (Ext.alloc _ _)).trans (Ext.alloc _ _)
  have hV : RuV RULES (.agg #[.slice (some ⟨w.heap.size + 1, 0, none⟩) 2 2, .slice (some ⟨w.heap.size + 1 + 1, 0, none⟩) 2 2, .slice (some ⟨w.heap.size + 1 + 1 + 1, 0, none⟩) 2 2, .slice (some ⟨w.heap.size + 1 + 1 + 1 + 1, 0, none⟩) 1 1, .int .i64 200, .int .i64 250, .int .i64 400, .int .i64 800]) W5 := ⟨_, _, _, _, _, _, _, _, _, _, _, _, rfl, rfl, rfl, rfl, rfl, rows_blk k1 (fun _ => rfl) rfl rfl (by decide), rows_blk k2 (fun _ => rfl) rfl rfl (by decide), rows_blk k3 (fun _ => rfl) rfl rfl (by decide), rows_blk k4 (fun _ => rfl) rfl rfl (by decide)⟩
  have HV := Lib.hid hV
  have E0 := Lib.hid e0
  have KR := Lib.hid kR
  clear hV e0 kR k1 k2 k3 k4
  go_enter Tryz.func68, Tryz.ntmps68
  go_wp2
  rw [← hW5]
  have r0 := KR.out.cell 0
  have r1 := KR.out.cell 1
  have r2 := KR.out.cell 2
  have r3 := KR.out.cell 3
  have r4 := KR.out.cell 4
  have r5 := KR.out.cell 5
  have r6 := KR.out.cell 6
  have r7 := KR.out.cell 7
  simp only [List.getElem?_toArray, List.getElem?_cons_zero, List.getElem?_cons_succ] at r0 r1 r2 r3 r4 r5 r6 r7
  exact bodyPost_ret (v := .agg #[.slice (some ⟨w.heap.size + 1, 0, none⟩) 2 2, .slice (some ⟨w.heap.size + 1 + 1, 0, none⟩) 2 2, .slice (some ⟨w.heap.size + 1 + 1 + 1, 0, none⟩) 2 2, .slice (some ⟨w.heap.size + 1 + 1 + 1 + 1, 0, none⟩) 1 1, .int .i64 200, .int .i64 250, .int .i64 400, .int .i64 800]) (by simp [results, Tryz.f68, go_sem, r0, r1, r2, r3, r4, r5, r6, r7]) rfl ⟨_, rfl, E0.out, HV.out⟩

theorem rules_ok : RuOK RULES := by
  refine ⟨?_, ?_, ?_, ?_⟩ <;> intro x hx <;> simp [RULES] at hx
  · rcases hx with rfl | rfl <;> simp [deedOK, rgOK]
  · rcases hx with rfl | rfl <;> simp [deedOK, rgOK]
  · rcases hx with rfl | rfl <;> simp [deedOK, rgOK]
  · subst hx; simp [deedOK]
theorem run1_any {u : Value} {w : World} {A : Option Addr} {n ca : Nat} (hR : RuV RULES u w) (hx : IntsAt w (.slice A n ca) [1100, 1200, 1200]) : Calls Tryz.prog 24 #[u, .agg #[.int .i64 1000000, .int .i64 0, .int .i64 0, .int .i64 0, .int .i64 0, .int .i64 0, .int .i64 0], .agg #[.slice A n ca, .int .i64 0, .int .i64 0, .int .i64 0]] w fun e w' => e = .returned (.tuple #[.agg #[.int .i64 0, .int .i64 1000000, .int .i64 0, .int .i64 0, .int .i64 0, .int .i64 70, .int .i64 0], .int .i64 0]) ∧ Ext w w' := by
  have h := runOf_any hR (fun _ => rules_ok) ⟨1000000, 0, 0, 0, 0, 0, 0⟩ ⟨0, 0, 0⟩ hx
  have e1 : runE RULES ⟨1000000, 0, 0, 0, 0, 0, 0⟩ [1100, 1200, 1200] ⟨0, 0, 0⟩ = 0 := by kernel_rfl
  have e2 : runK RULES ⟨0, 0, 0⟩ ⟨1000000, 0, 0, 0, 0, 0, 0⟩ [1100, 1200, 1200] = ⟨0, 1000000, 0, 0, 0, 70, 0⟩ := by kernel_rfl
  rw [e1, if_pos rfl, e2] at h
  exact h
theorem run2_any {u : Value} {w : World} {A : Option Addr} {n ca : Nat} (hR : RuV RULES u w) (hx : IntsAt w (.slice A n ca) [450, 300]) : Calls Tryz.prog 24 #[u, .agg #[.int .i64 0, .int .i64 1000000, .int .i64 0, .int .i64 0, .int .i64 0, .int .i64 0, .int .i64 0], .agg #[.slice A n ca, .int .i64 0, .int .i64 0, .int .i64 0]] w fun e w' => e = .returned (.tuple #[.agg #[.int .i64 0, .int .i64 100000, .int .i64 0, .int .i64 900000, .int .i64 0, .int .i64 0, .int .i64 5], .int .i64 0]) ∧ Ext w w' := by
  have h := runOf_any hR (fun _ => rules_ok) ⟨0, 1000000, 0, 0, 0, 0, 0⟩ ⟨0, 0, 0⟩ hx
  have e1 : runE RULES ⟨0, 1000000, 0, 0, 0, 0, 0⟩ [450, 300] ⟨0, 0, 0⟩ = 0 := by kernel_rfl
  have e2 : runK RULES ⟨0, 0, 0⟩ ⟨0, 1000000, 0, 0, 0, 0, 0⟩ [450, 300] = ⟨0, 100000, 0, 900000, 0, 0, 5⟩ := by kernel_rfl
  rw [e1, if_pos rfl, e2] at h
  exact h
theorem hard1_any {u : Value} {w : World} (hR : RuV RULES u w) : Calls Tryz.prog 26 #[u, .agg #[.int .i64 0, .int .i64 100000, .int .i64 0, .int .i64 900000, .int .i64 0, .int .i64 0, .int .i64 5]] w fun e w' => e = .returned (.tuple #[.int .i64 740, .int .i64 0]) ∧ Ext w w' := by
  have h := hardnessOf_any hR 0 100000 0 900000 0 0 5
  have e1 : bothE RULES [0, 100000, 0, 900000, 0, 0, 5] = 0 := by kernel_rfl
  have e2 : hardK RULES.h0 RULES.h1 RULES.h2 RULES.h3 0 100000 0 900000 5 = 740 := by kernel_rfl
  rw [e1, if_pos rfl, e2] at h
  exact h
theorem band1_any {u : Value} {w : World} (hR : RuV RULES u w) : Calls Tryz.prog 40 #[u, .agg #[.int .i64 0, .int .i64 0, .int .i64 900000, .int .i64 1000000, .int .i64 0, .int .i64 100000, .int .i64 0, .int .i64 0, .int .i64 0, .int .i64 0, .int .i64 0, .int .i64 0, .int .i64 0, .int .i64 0]] w fun e w' => e = .returned (.tuple #[.agg #[.int .i64 250, .int .i64 265], .int .i64 0]) ∧ Ext w w' := by
  have h := bandOf_ok hR 0 0 900000 1000000 0 100000 0 0 0 0 0 0 0 0 (by kernel_rfl)
  refine h.mono ?_
  rintro e w' ⟨rfl, hx⟩
  exact ⟨by kernel_rfl, hx⟩
theorem case1_any {w : World} {A : Option Addr} {ca : Nat} (hA : RowsAt 2 Rg.enc w A [⟨700, 750⟩, ⟨500, 600⟩, ⟨200, 250⟩]) : Calls Tryz.prog 55 #[.slice A 3 ca, .int .i64 550] w fun e w' => e = .returned (.tuple #[.agg #[.int .i64 1, .int .i64 2], .int .i64 0]) ∧ Ext w w' := by
  have h := caseDepth_any (ca := ca) 550 (rfl : ([⟨700, 750⟩, ⟨500, 600⟩, ⟨200, 250⟩] : List Rg).length = 3) hA
  refine h.mono ?_
  rintro e w' ⟨rfl, hx⟩
  exact ⟨by kernel_rfl, hx⟩

end Go.Proofs.YtkmekbafjnlfkaaGreat
