/- DistortTurned. -/
import Derived.Test.YtjdilmmpdlcimaaT4
import Derived.Lib.MinMax
import Derived.Deep.DeepCutAuto
import Derived.BigRegion
import Derived.Laws.AppendOwn
import Derived.Laws.AppendOwnNone
import Derived.BigQuiet
import Derived.Laws.StructEq

namespace Go.Proofs.Ytjdilmmpdlcimaa
open Go.RowKit Go.Shelf Go.Mem Go.RegInv
attribute [local go_sem] RelUpon_value RelUpon_skip RelUpon_enter BigFrame.eval_const BigFrame.eval_global BigFrame.eval_func


set_option maxRecDepth 100000 in
set_option maxHeartbeats 4000000 in
theorem turned_r (r0 r1 r2 r3 : Int) {B : Option Addr} {m cb : Nat} {ys : List Sn} (b0 b1 b2 : Int) (hm : ys.length = m) (hnb : B = none → cb = 0) (lm : m ≤ maxLen) {w : World} (hB : m ≤ 1000 → RowsAt 3 Sn.enc w B ys) (hr : ¬ readE r0 r1 r2 r3 = 0) :
    Calls Try.prog 11 #[.agg #[.int .i64 r0, .int .i64 r1, .int .i64 r2, .int .i64 r3], .slice B m cb, .agg #[.int .i64 b0, .int .i64 b1, .int .i64 b2]] w fun e w' => e = .returned (.bool true) ∧ Ext w w' := by
  obtain ⟨i1, hi1, hz1, ha1, hb1⟩ := info_parts infoSnG
  have I1 := Lib.hid hz1
  have HM := Lib.hid hm
  have HBX := Lib.hid hB
  have HLB := Lib.hid hnb
  have LM := Lib.hid (show m ≤ 9223372036854775807 from lm)
  clear hz1 hm hB hnb lm
  obtain ⟨W0, hW0⟩ : ∃ W0, W0 = (w.alloc (.cells #[.int .i64 r0, .int .i64 r1, .int .i64 r2, .int .i64 r3] 87)).alloc (.cells #[.int .i64 b0, .int .i64 b1, .int .i64 b2] 105) := ⟨_, rfl⟩
  have Ky0 := Lib.hid (show Blk W0 (w.heap.size) 87 #[.int .i64 r0, .int .i64 r1, .int .i64 r2, .int .i64 r3] by rw [hW0]; exact (Blk.new _ _ _).alloc _)
  have Ky1 := Lib.hid (show Blk W0 (w.heap.size + 1) 105 #[.int .i64 b0, .int .i64 b1, .int .i64 b2] by rw [hW0]; exact Blk.newAt _ _ _ (by simp))
  have X := Lib.hid (show Ext w W0 by rw [hW0]; exact (Ext.alloc _ _).trans (Ext.alloc _ _))
  have y0_0 : W0.cell? ⟨w.heap.size, 0, none⟩ = some (.int .i64 r0) := Ky0.out.cell 0
  have y0_1 : W0.cell? ⟨w.heap.size, 1, none⟩ = some (.int .i64 r1) := Ky0.out.cell 1
  have y0_2 : W0.cell? ⟨w.heap.size, 2, none⟩ = some (.int .i64 r2) := Ky0.out.cell 2
  have y0_3 : W0.cell? ⟨w.heap.size, 3, none⟩ = some (.int .i64 r3) := Ky0.out.cell 3
  have y1_0 : W0.cell? ⟨w.heap.size + 1, 0, none⟩ = some (.int .i64 b0) := Ky1.out.cell 0
  have y1_1 : W0.cell? ⟨w.heap.size + 1, 1, none⟩ = some (.int .i64 b1) := Ky1.out.cell 1
  have y1_2 : W0.cell? ⟨w.heap.size + 1, 2, none⟩ = some (.int .i64 b2) := Ky1.out.cell 2
  have HC := Lib.hid (fun k (h : k < 3) => show W0.cell? ⟨w.heap.size + 1, k, none⟩ = some (.int .i64 (List.getD [b0, b1, b2] k 0)) from by
    rcases (show k = 0 ∨ k = 1 ∨ k = 2 by omega) with rfl | rfl | rfl
    · exact y1_0
    · exact y1_1
    · exact y1_2)
  have HBE := Lib.hid (show List.getD [b0, b1, b2] 0 0 = b0 ∧ List.getD [b0, b1, b2] 1 0 = b1 ∧ List.getD [b0, b1, b2] 2 0 = b2 from ⟨rfl, rfl, rfl⟩)
  have SW := Lib.hid (show w.heap.size + 1 < W0.heap.size from Ky1.out.lt)
  go_enter Try.func11, Try.ntmps11
  go_upto_region 1 with (fail)
  rw [← hW0]
  clear hW0
  clear y0_0 y0_1 y0_2 y0_3 y1_0 y1_1 y1_2
  generalize [b0, b1, b2] = bs at *
  go_wp2_with (go_at_call 13; refine (awake_any _).mono ?_; rintro e W1 ⟨rfl, hx⟩; have HC1 := Lib.hid (fun k h => hx.cell (HC.out k h)); replace SW := Lib.hid (Nat.lt_of_lt_of_le SW.out hx.size); replace X := Lib.hid (X.out.trans hx); replace Ky0 := Lib.hid (Ky0.out.ext hx); replace Ky1 := Lib.hid (Ky1.out.ext hx); clear hx HC; refine Hid.out ?_)
  refine Lib.hid ?_
  go_wp2
  go_loopw [7] (fun i wr => ∃ k : Nat, k ≤ 3 ∧ i = .int .i64 (k : Int) ∧ (∀ j, j < k → -100 ≤ List.getD bs j 0 ∧ List.getD bs j 0 ≤ 100) ∧ Hid (W1 = wr)) (fun i _ => 3 - (intOf i).toNat)
  case atStart => exact ⟨0, by omega, rfl, (fun j hj => by omega), Lib.hid rfl⟩
  case round =>
    obtain ⟨k, hk, rfl, hv, hw⟩ := hrel
    have HV := Lib.hid hv
    clear hv
    obtain rfl := hw.out
    clear hw
    by_cases hlt : k < 3
    · have hc := HC1.out k hlt
      have hki : (k : Int) < 3 := by omega
      have HV2 := Lib.hid (fun (h : -100 ≤ List.getD bs k 0 ∧ List.getD bs k 0 ≤ 100) j (hj : j < k + 1) => show -100 ≤ List.getD bs j 0 ∧ List.getD bs j 0 ≤ 100 from by
        rcases (show j < k ∨ j = k by omega) with h2 | rfl
        · exact HV.out j h2
        · exact h)
      generalize List.getD bs k 0 = r at *
      by_cases h : -100 ≤ r ∧ r ≤ 100
      · have HW := Lib.hid (withinB_t h)
        replace HV2 := Lib.hid (HV2.out h)
        clear h HV
        go_wp2_with (go_at_call 21; refine (within_any _ _ _ _).mono ?_; rintro e w' ⟨rfl, rfl⟩; rw [HW.out])
        go_roundw
        case rel => exact ⟨k + 1, by omega, by go_num, HV2.out, Lib.hid trivial⟩
        case measure => simp [intOf]; omega
      · have HW := Lib.hid (withinB_f h)
        clear h HV HV2
        go_wp2_with (go_at_call 21; refine (within_any _ _ _ _).mono ?_; rintro e w' ⟨rfl, rfl⟩; rw [HW.out])
        go_ret
        exact ⟨rfl, X.out⟩
    · obtain rfl : k = 3 := by omega
      have HBB := Lib.hid (show (-100 ≤ b0 ∧ b0 ≤ 100) ∧ (-100 ≤ b1 ∧ b1 ≤ 100) ∧ -100 ≤ b2 ∧ b2 ≤ 100 from by
        have h0 := HV.out 0 (by omega)
        have h1 := HV.out 1 (by omega)
        have h2 := HV.out 2 (by omega)
        rw [HBE.out.1] at h0
        rw [HBE.out.2.1] at h1
        rw [HBE.out.2.2] at h2
        exact ⟨h0, h1, h2⟩)
      clear HV HBE HC1
      obtain ⟨V1, hV1⟩ : ∃ V, V = W1 := ⟨_, rfl⟩
      rw [← hV1] at X Ky0 Ky1 SW ⊢
      clear hV1
      have y0_0 : V1.cell? ⟨w.heap.size, 0, none⟩ = some (.int .i64 r0) := Ky0.out.cell 0
      have y0_1 : V1.cell? ⟨w.heap.size, 1, none⟩ = some (.int .i64 r1) := Ky0.out.cell 1
      have y0_2 : V1.cell? ⟨w.heap.size, 2, none⟩ = some (.int .i64 r2) := Ky0.out.cell 2
      have y0_3 : V1.cell? ⟨w.heap.size, 3, none⟩ = some (.int .i64 r3) := Ky0.out.cell 3
      have y1_0 : V1.cell? ⟨w.heap.size + 1, 0, none⟩ = some (.int .i64 b0) := Ky1.out.cell 0
      have y1_1 : V1.cell? ⟨w.heap.size + 1, 1, none⟩ = some (.int .i64 b1) := Ky1.out.cell 1
      have y1_2 : V1.cell? ⟨w.heap.size + 1, 2, none⟩ = some (.int .i64 b2) := Ky1.out.cell 2
      have HRE := Lib.hid (fun W => readingsErr_any r0 r1 r2 r3 W)
      generalize readE r0 r1 r2 r3 = re at *
      have hz2 : (re != 0) = true := by simp [hr]
      go_wp2_with (go_at_call 55; refine (HRE.out _).mono ?_; rintro e W2 ⟨rfl, hx⟩; replace X := Lib.hid (X.out.trans hx); replace Ky0 := Lib.hid (Ky0.out.ext hx); replace Ky1 := Lib.hid (Ky1.out.ext hx); clear hx y0_0 y0_1 y0_2 y0_3 y1_0 y1_1 y1_2; refine Hid.out ?_)
      refine Lib.hid ?_
      have y0_0 : W2.cell? ⟨w.heap.size, 0, none⟩ = some (.int .i64 r0) := Ky0.out.cell 0
      have y0_1 : W2.cell? ⟨w.heap.size, 1, none⟩ = some (.int .i64 r1) := Ky0.out.cell 1
      have y0_2 : W2.cell? ⟨w.heap.size, 2, none⟩ = some (.int .i64 r2) := Ky0.out.cell 2
      have y0_3 : W2.cell? ⟨w.heap.size, 3, none⟩ = some (.int .i64 r3) := Ky0.out.cell 3
      have y1_0 : W2.cell? ⟨w.heap.size + 1, 0, none⟩ = some (.int .i64 b0) := Ky1.out.cell 0
      have y1_1 : W2.cell? ⟨w.heap.size + 1, 1, none⟩ = some (.int .i64 b1) := Ky1.out.cell 1
      have y1_2 : W2.cell? ⟨w.heap.size + 1, 2, none⟩ = some (.int .i64 b2) := Ky1.out.cell 2
      go_wp2
      go_ret
      exact ⟨rfl, X.out⟩

set_option maxRecDepth 100000 in
set_option maxHeartbeats 4000000 in
theorem turned_m (r0 r1 r2 r3 : Int) {B : Option Addr} {m cb : Nat} {ys : List Sn} (b0 b1 b2 : Int) (hm : ys.length = m) (hnb : B = none → cb = 0) (lm : m ≤ maxLen) {w : World} (hB : m ≤ 1000 → RowsAt 3 Sn.enc w B ys) (hr : readE r0 r1 r2 r3 = 0) (h20 : ¬ m ≤ 20) :
    Calls Try.prog 11 #[.agg #[.int .i64 r0, .int .i64 r1, .int .i64 r2, .int .i64 r3], .slice B m cb, .agg #[.int .i64 b0, .int .i64 b1, .int .i64 b2]] w fun e w' => e = .returned (.bool true) ∧ Ext w w' := by
  obtain ⟨i1, hi1, hz1, ha1, hb1⟩ := info_parts infoSnG
  have I1 := Lib.hid hz1
  have HM := Lib.hid hm
  have HBX := Lib.hid hB
  have HLB := Lib.hid hnb
  have LM := Lib.hid (show m ≤ 9223372036854775807 from lm)
  clear hz1 hm hB hnb lm
  obtain ⟨W0, hW0⟩ : ∃ W0, W0 = (w.alloc (.cells #[.int .i64 r0, .int .i64 r1, .int .i64 r2, .int .i64 r3] 87)).alloc (.cells #[.int .i64 b0, .int .i64 b1, .int .i64 b2] 105) := ⟨_, rfl⟩
  have Ky0 := Lib.hid (show Blk W0 (w.heap.size) 87 #[.int .i64 r0, .int .i64 r1, .int .i64 r2, .int .i64 r3] by rw [hW0]; exact (Blk.new _ _ _).alloc _)
  have Ky1 := Lib.hid (show Blk W0 (w.heap.size + 1) 105 #[.int .i64 b0, .int .i64 b1, .int .i64 b2] by rw [hW0]; exact Blk.newAt _ _ _ (by simp))
  have X := Lib.hid (show Ext w W0 by rw [hW0]; exact (Ext.alloc _ _).trans (Ext.alloc _ _))
  have y0_0 : W0.cell? ⟨w.heap.size, 0, none⟩ = some (.int .i64 r0) := Ky0.out.cell 0
  have y0_1 : W0.cell? ⟨w.heap.size, 1, none⟩ = some (.int .i64 r1) := Ky0.out.cell 1
  have y0_2 : W0.cell? ⟨w.heap.size, 2, none⟩ = some (.int .i64 r2) := Ky0.out.cell 2
  have y0_3 : W0.cell? ⟨w.heap.size, 3, none⟩ = some (.int .i64 r3) := Ky0.out.cell 3
  have y1_0 : W0.cell? ⟨w.heap.size + 1, 0, none⟩ = some (.int .i64 b0) := Ky1.out.cell 0
  have y1_1 : W0.cell? ⟨w.heap.size + 1, 1, none⟩ = some (.int .i64 b1) := Ky1.out.cell 1
  have y1_2 : W0.cell? ⟨w.heap.size + 1, 2, none⟩ = some (.int .i64 b2) := Ky1.out.cell 2
  have HC := Lib.hid (fun k (h : k < 3) => show W0.cell? ⟨w.heap.size + 1, k, none⟩ = some (.int .i64 (List.getD [b0, b1, b2] k 0)) from by
    rcases (show k = 0 ∨ k = 1 ∨ k = 2 by omega) with rfl | rfl | rfl
    · exact y1_0
    · exact y1_1
    · exact y1_2)
  have HBE := Lib.hid (show List.getD [b0, b1, b2] 0 0 = b0 ∧ List.getD [b0, b1, b2] 1 0 = b1 ∧ List.getD [b0, b1, b2] 2 0 = b2 from ⟨rfl, rfl, rfl⟩)
  have SW := Lib.hid (show w.heap.size + 1 < W0.heap.size from Ky1.out.lt)
  go_enter Try.func11, Try.ntmps11
  go_upto_region 1 with (fail)
  rw [← hW0]
  clear hW0
  clear y0_0 y0_1 y0_2 y0_3 y1_0 y1_1 y1_2
  generalize [b0, b1, b2] = bs at *
  go_wp2_with (go_at_call 13; refine (awake_any _).mono ?_; rintro e W1 ⟨rfl, hx⟩; have HC1 := Lib.hid (fun k h => hx.cell (HC.out k h)); replace SW := Lib.hid (Nat.lt_of_lt_of_le SW.out hx.size); replace X := Lib.hid (X.out.trans hx); replace Ky0 := Lib.hid (Ky0.out.ext hx); replace Ky1 := Lib.hid (Ky1.out.ext hx); clear hx HC; refine Hid.out ?_)
  refine Lib.hid ?_
  go_wp2
  go_loopw [7] (fun i wr => ∃ k : Nat, k ≤ 3 ∧ i = .int .i64 (k : Int) ∧ (∀ j, j < k → -100 ≤ List.getD bs j 0 ∧ List.getD bs j 0 ≤ 100) ∧ Hid (W1 = wr)) (fun i _ => 3 - (intOf i).toNat)
  case atStart => exact ⟨0, by omega, rfl, (fun j hj => by omega), Lib.hid rfl⟩
  case round =>
    obtain ⟨k, hk, rfl, hv, hw⟩ := hrel
    have HV := Lib.hid hv
    clear hv
    obtain rfl := hw.out
    clear hw
    by_cases hlt : k < 3
    · have hc := HC1.out k hlt
      have hki : (k : Int) < 3 := by omega
      have HV2 := Lib.hid (fun (h : -100 ≤ List.getD bs k 0 ∧ List.getD bs k 0 ≤ 100) j (hj : j < k + 1) => show -100 ≤ List.getD bs j 0 ∧ List.getD bs j 0 ≤ 100 from by
        rcases (show j < k ∨ j = k by omega) with h2 | rfl
        · exact HV.out j h2
        · exact h)
      generalize List.getD bs k 0 = r at *
      by_cases h : -100 ≤ r ∧ r ≤ 100
      · have HW := Lib.hid (withinB_t h)
        replace HV2 := Lib.hid (HV2.out h)
        clear h HV
        go_wp2_with (go_at_call 21; refine (within_any _ _ _ _).mono ?_; rintro e w' ⟨rfl, rfl⟩; rw [HW.out])
        go_roundw
        case rel => exact ⟨k + 1, by omega, by go_num, HV2.out, Lib.hid trivial⟩
        case measure => simp [intOf]; omega
      · have HW := Lib.hid (withinB_f h)
        clear h HV HV2
        go_wp2_with (go_at_call 21; refine (within_any _ _ _ _).mono ?_; rintro e w' ⟨rfl, rfl⟩; rw [HW.out])
        go_ret
        exact ⟨rfl, X.out⟩
    · obtain rfl : k = 3 := by omega
      have HBB := Lib.hid (show (-100 ≤ b0 ∧ b0 ≤ 100) ∧ (-100 ≤ b1 ∧ b1 ≤ 100) ∧ -100 ≤ b2 ∧ b2 ≤ 100 from by
        have h0 := HV.out 0 (by omega)
        have h1 := HV.out 1 (by omega)
        have h2 := HV.out 2 (by omega)
        rw [HBE.out.1] at h0
        rw [HBE.out.2.1] at h1
        rw [HBE.out.2.2] at h2
        exact ⟨h0, h1, h2⟩)
      clear HV HBE HC1
      obtain ⟨V1, hV1⟩ : ∃ V, V = W1 := ⟨_, rfl⟩
      rw [← hV1] at X Ky0 Ky1 SW ⊢
      clear hV1
      have y0_0 : V1.cell? ⟨w.heap.size, 0, none⟩ = some (.int .i64 r0) := Ky0.out.cell 0
      have y0_1 : V1.cell? ⟨w.heap.size, 1, none⟩ = some (.int .i64 r1) := Ky0.out.cell 1
      have y0_2 : V1.cell? ⟨w.heap.size, 2, none⟩ = some (.int .i64 r2) := Ky0.out.cell 2
      have y0_3 : V1.cell? ⟨w.heap.size, 3, none⟩ = some (.int .i64 r3) := Ky0.out.cell 3
      have y1_0 : V1.cell? ⟨w.heap.size + 1, 0, none⟩ = some (.int .i64 b0) := Ky1.out.cell 0
      have y1_1 : V1.cell? ⟨w.heap.size + 1, 1, none⟩ = some (.int .i64 b1) := Ky1.out.cell 1
      have y1_2 : V1.cell? ⟨w.heap.size + 1, 2, none⟩ = some (.int .i64 b2) := Ky1.out.cell 2
      have HRE := Lib.hid (fun W => show Calls Try.prog 55 #[.agg #[.int .i64 r0, .int .i64 r1, .int .i64 r2, .int .i64 r3]] W fun e w' => e = .returned (.int .i64 0) ∧ Ext W w' from by have := readingsErr_any r0 r1 r2 r3 W; rw [hr] at this; exact this)
      have hdm : decide ((20 : Int) < (m : Int)) = true := by simp; omega
      have hmb : m ≤ 9223372036854775807 := LM.out
      go_wp2_with (go_at_call 55; refine (HRE.out _).mono ?_; rintro e W2 ⟨rfl, hx⟩; replace X := Lib.hid (X.out.trans hx); replace Ky0 := Lib.hid (Ky0.out.ext hx); replace Ky1 := Lib.hid (Ky1.out.ext hx); clear hx y0_0 y0_1 y0_2 y0_3 y1_0 y1_1 y1_2; refine Hid.out ?_)
      refine Lib.hid ?_
      have y0_0 : W2.cell? ⟨w.heap.size, 0, none⟩ = some (.int .i64 r0) := Ky0.out.cell 0
      have y0_1 : W2.cell? ⟨w.heap.size, 1, none⟩ = some (.int .i64 r1) := Ky0.out.cell 1
      have y0_2 : W2.cell? ⟨w.heap.size, 2, none⟩ = some (.int .i64 r2) := Ky0.out.cell 2
      have y0_3 : W2.cell? ⟨w.heap.size, 3, none⟩ = some (.int .i64 r3) := Ky0.out.cell 3
      have y1_0 : W2.cell? ⟨w.heap.size + 1, 0, none⟩ = some (.int .i64 b0) := Ky1.out.cell 0
      have y1_1 : W2.cell? ⟨w.heap.size + 1, 1, none⟩ = some (.int .i64 b1) := Ky1.out.cell 1
      have y1_2 : W2.cell? ⟨w.heap.size + 1, 2, none⟩ = some (.int .i64 b2) := Ky1.out.cell 2
      go_wp2
      go_ret
      exact ⟨rfl, X.out⟩

set_option maxRecDepth 100000 in
set_option maxHeartbeats 4000000 in
theorem turned_t (r0 r1 r2 r3 : Int) {B : Option Addr} {m cb : Nat} {ys : List Sn} (b0 b1 b2 : Int) (hm : ys.length = m) (hnb : B = none → cb = 0) (lm : m ≤ maxLen) {w : World} (hB : m ≤ 1000 → RowsAt 3 Sn.enc w B ys) (hr : readE r0 r1 r2 r3 = 0) (h20 : m ≤ 20) (ht : ¬ stnsE ys = 0) :
    Calls Try.prog 11 #[.agg #[.int .i64 r0, .int .i64 r1, .int .i64 r2, .int .i64 r3], .slice B m cb, .agg #[.int .i64 b0, .int .i64 b1, .int .i64 b2]] w fun e w' => e = .returned (.bool true) ∧ Ext w w' := by
  obtain ⟨i1, hi1, hz1, ha1, hb1⟩ := info_parts infoSnG
  have I1 := Lib.hid hz1
  have HM := Lib.hid hm
  have HBX := Lib.hid hB
  have HLB := Lib.hid hnb
  have LM := Lib.hid (show m ≤ 9223372036854775807 from lm)
  clear hz1 hm hB hnb lm
  obtain ⟨W0, hW0⟩ : ∃ W0, W0 = (w.alloc (.cells #[.int .i64 r0, .int .i64 r1, .int .i64 r2, .int .i64 r3] 87)).alloc (.cells #[.int .i64 b0, .int .i64 b1, .int .i64 b2] 105) := ⟨_, rfl⟩
  have Ky0 := Lib.hid (show Blk W0 (w.heap.size) 87 #[.int .i64 r0, .int .i64 r1, .int .i64 r2, .int .i64 r3] by rw [hW0]; exact (Blk.new _ _ _).alloc _)
  have Ky1 := Lib.hid (show Blk W0 (w.heap.size + 1) 105 #[.int .i64 b0, .int .i64 b1, .int .i64 b2] by rw [hW0]; exact Blk.newAt _ _ _ (by simp))
  have X := Lib.hid (show Ext w W0 by rw [hW0]; exact (Ext.alloc _ _).trans (Ext.alloc _ _))
  have y0_0 : W0.cell? ⟨w.heap.size, 0, none⟩ = some (.int .i64 r0) := Ky0.out.cell 0
  have y0_1 : W0.cell? ⟨w.heap.size, 1, none⟩ = some (.int .i64 r1) := Ky0.out.cell 1
  have y0_2 : W0.cell? ⟨w.heap.size, 2, none⟩ = some (.int .i64 r2) := Ky0.out.cell 2
  have y0_3 : W0.cell? ⟨w.heap.size, 3, none⟩ = some (.int .i64 r3) := Ky0.out.cell 3
  have y1_0 : W0.cell? ⟨w.heap.size + 1, 0, none⟩ = some (.int .i64 b0) := Ky1.out.cell 0
  have y1_1 : W0.cell? ⟨w.heap.size + 1, 1, none⟩ = some (.int .i64 b1) := Ky1.out.cell 1
  have y1_2 : W0.cell? ⟨w.heap.size + 1, 2, none⟩ = some (.int .i64 b2) := Ky1.out.cell 2
  have HC := Lib.hid (fun k (h : k < 3) => show W0.cell? ⟨w.heap.size + 1, k, none⟩ = some (.int .i64 (List.getD [b0, b1, b2] k 0)) from by
    rcases (show k = 0 ∨ k = 1 ∨ k = 2 by omega) with rfl | rfl | rfl
    · exact y1_0
    · exact y1_1
    · exact y1_2)
  have HBE := Lib.hid (show List.getD [b0, b1, b2] 0 0 = b0 ∧ List.getD [b0, b1, b2] 1 0 = b1 ∧ List.getD [b0, b1, b2] 2 0 = b2 from ⟨rfl, rfl, rfl⟩)
  have SW := Lib.hid (show w.heap.size + 1 < W0.heap.size from Ky1.out.lt)
  go_enter Try.func11, Try.ntmps11
  go_upto_region 1 with (fail)
  rw [← hW0]
  clear hW0
  clear y0_0 y0_1 y0_2 y0_3 y1_0 y1_1 y1_2
  generalize [b0, b1, b2] = bs at *
  go_wp2_with (go_at_call 13; refine (awake_any _).mono ?_; rintro e W1 ⟨rfl, hx⟩; have HC1 := Lib.hid (fun k h => hx.cell (HC.out k h)); replace SW := Lib.hid (Nat.lt_of_lt_of_le SW.out hx.size); replace X := Lib.hid (X.out.trans hx); replace Ky0 := Lib.hid (Ky0.out.ext hx); replace Ky1 := Lib.hid (Ky1.out.ext hx); clear hx HC; refine Hid.out ?_)
  refine Lib.hid ?_
  go_wp2
  go_loopw [7] (fun i wr => ∃ k : Nat, k ≤ 3 ∧ i = .int .i64 (k : Int) ∧ (∀ j, j < k → -100 ≤ List.getD bs j 0 ∧ List.getD bs j 0 ≤ 100) ∧ Hid (W1 = wr)) (fun i _ => 3 - (intOf i).toNat)
  case atStart => exact ⟨0, by omega, rfl, (fun j hj => by omega), Lib.hid rfl⟩
  case round =>
    obtain ⟨k, hk, rfl, hv, hw⟩ := hrel
    have HV := Lib.hid hv
    clear hv
    obtain rfl := hw.out
    clear hw
    by_cases hlt : k < 3
    · have hc := HC1.out k hlt
      have hki : (k : Int) < 3 := by omega
      have HV2 := Lib.hid (fun (h : -100 ≤ List.getD bs k 0 ∧ List.getD bs k 0 ≤ 100) j (hj : j < k + 1) => show -100 ≤ List.getD bs j 0 ∧ List.getD bs j 0 ≤ 100 from by
        rcases (show j < k ∨ j = k by omega) with h2 | rfl
        · exact HV.out j h2
        · exact h)
      generalize List.getD bs k 0 = r at *
      by_cases h : -100 ≤ r ∧ r ≤ 100
      · have HW := Lib.hid (withinB_t h)
        replace HV2 := Lib.hid (HV2.out h)
        clear h HV
        go_wp2_with (go_at_call 21; refine (within_any _ _ _ _).mono ?_; rintro e w' ⟨rfl, rfl⟩; rw [HW.out])
        go_roundw
        case rel => exact ⟨k + 1, by omega, by go_num, HV2.out, Lib.hid trivial⟩
        case measure => simp [intOf]; omega
      · have HW := Lib.hid (withinB_f h)
        clear h HV HV2
        go_wp2_with (go_at_call 21; refine (within_any _ _ _ _).mono ?_; rintro e w' ⟨rfl, rfl⟩; rw [HW.out])
        go_ret
        exact ⟨rfl, X.out⟩
    · obtain rfl : k = 3 := by omega
      have HBB := Lib.hid (show (-100 ≤ b0 ∧ b0 ≤ 100) ∧ (-100 ≤ b1 ∧ b1 ≤ 100) ∧ -100 ≤ b2 ∧ b2 ≤ 100 from by
        have h0 := HV.out 0 (by omega)
        have h1 := HV.out 1 (by omega)
        have h2 := HV.out 2 (by omega)
        rw [HBE.out.1] at h0
        rw [HBE.out.2.1] at h1
        rw [HBE.out.2.2] at h2
        exact ⟨h0, h1, h2⟩)
      clear HV HBE HC1
      obtain ⟨V1, hV1⟩ : ∃ V, V = W1 := ⟨_, rfl⟩
      rw [← hV1] at X Ky0 Ky1 SW ⊢
      clear hV1
      have y0_0 : V1.cell? ⟨w.heap.size, 0, none⟩ = some (.int .i64 r0) := Ky0.out.cell 0
      have y0_1 : V1.cell? ⟨w.heap.size, 1, none⟩ = some (.int .i64 r1) := Ky0.out.cell 1
      have y0_2 : V1.cell? ⟨w.heap.size, 2, none⟩ = some (.int .i64 r2) := Ky0.out.cell 2
      have y0_3 : V1.cell? ⟨w.heap.size, 3, none⟩ = some (.int .i64 r3) := Ky0.out.cell 3
      have y1_0 : V1.cell? ⟨w.heap.size + 1, 0, none⟩ = some (.int .i64 b0) := Ky1.out.cell 0
      have y1_1 : V1.cell? ⟨w.heap.size + 1, 1, none⟩ = some (.int .i64 b1) := Ky1.out.cell 1
      have y1_2 : V1.cell? ⟨w.heap.size + 1, 2, none⟩ = some (.int .i64 b2) := Ky1.out.cell 2
      have HRE := Lib.hid (fun W => show Calls Try.prog 55 #[.agg #[.int .i64 r0, .int .i64 r1, .int .i64 r2, .int .i64 r3]] W fun e w' => e = .returned (.int .i64 0) ∧ Ext W w' from by have := readingsErr_any r0 r1 r2 r3 W; rw [hr] at this; exact this)
      have hdm : decide ((20 : Int) < (m : Int)) = false := by simp; omega
      have HTE := Lib.hid (fun W (e : Ext w W) => refStationsErr_any (ca := cb) HM.out (fun _ => (HBX.out (by omega)).ext e) (by unfold maxLen; omega))
      have hz2 : (stnsE ys != 0) = true := by simp [ht]
      generalize stnsE ys = te at *
      go_wp2_with (go_at_call 55; refine (HRE.out _).mono ?_; rintro e W2 ⟨rfl, hx⟩; replace X := Lib.hid (X.out.trans hx); replace Ky0 := Lib.hid (Ky0.out.ext hx); replace Ky1 := Lib.hid (Ky1.out.ext hx); clear hx y0_0 y0_1 y0_2 y0_3 y1_0 y1_1 y1_2; refine Hid.out ?_)
      refine Lib.hid ?_
      have y0_0 : W2.cell? ⟨w.heap.size, 0, none⟩ = some (.int .i64 r0) := Ky0.out.cell 0
      have y0_1 : W2.cell? ⟨w.heap.size, 1, none⟩ = some (.int .i64 r1) := Ky0.out.cell 1
      have y0_2 : W2.cell? ⟨w.heap.size, 2, none⟩ = some (.int .i64 r2) := Ky0.out.cell 2
      have y0_3 : W2.cell? ⟨w.heap.size, 3, none⟩ = some (.int .i64 r3) := Ky0.out.cell 3
      have y1_0 : W2.cell? ⟨w.heap.size + 1, 0, none⟩ = some (.int .i64 b0) := Ky1.out.cell 0
      have y1_1 : W2.cell? ⟨w.heap.size + 1, 1, none⟩ = some (.int .i64 b1) := Ky1.out.cell 1
      have y1_2 : W2.cell? ⟨w.heap.size + 1, 2, none⟩ = some (.int .i64 b2) := Ky1.out.cell 2
      go_wp2_with (go_at_call 57; refine (HTE.out _ X.out).mono ?_; rintro e W3 ⟨rfl, hx⟩; replace X := Lib.hid (X.out.trans hx); replace Ky0 := Lib.hid (Ky0.out.ext hx); replace Ky1 := Lib.hid (Ky1.out.ext hx); clear hx y0_0 y0_1 y0_2 y0_3 y1_0 y1_1 y1_2; refine Hid.out ?_)
      refine Lib.hid ?_
      have y0_0 : W3.cell? ⟨w.heap.size, 0, none⟩ = some (.int .i64 r0) := Ky0.out.cell 0
      have y0_1 : W3.cell? ⟨w.heap.size, 1, none⟩ = some (.int .i64 r1) := Ky0.out.cell 1
      have y0_2 : W3.cell? ⟨w.heap.size, 2, none⟩ = some (.int .i64 r2) := Ky0.out.cell 2
      have y0_3 : W3.cell? ⟨w.heap.size, 3, none⟩ = some (.int .i64 r3) := Ky0.out.cell 3
      have y1_0 : W3.cell? ⟨w.heap.size + 1, 0, none⟩ = some (.int .i64 b0) := Ky1.out.cell 0
      have y1_1 : W3.cell? ⟨w.heap.size + 1, 1, none⟩ = some (.int .i64 b1) := Ky1.out.cell 1
      have y1_2 : W3.cell? ⟨w.heap.size + 1, 2, none⟩ = some (.int .i64 b2) := Ky1.out.cell 2
      go_wp2
      go_ret
      exact ⟨rfl, X.out⟩

theorem turned_any (r0 r1 r2 r3 : Int) {B : Option Addr} {m cb : Nat} {ys : List Sn} (b0 b1 b2 : Int) (hm : ys.length = m) (hnb : B = none → cb = 0) (lm : m ≤ maxLen) {w : World} (hB : m ≤ 1000 → RowsAt 3 Sn.enc w B ys) :
    Calls Try.prog 11 #[.agg #[.int .i64 r0, .int .i64 r1, .int .i64 r2, .int .i64 r3], .slice B m cb, .agg #[.int .i64 b0, .int .i64 b1, .int .i64 b2]] w fun e w' => e = .returned (.bool true) ∧ Ext w w' := by
  by_cases hr : readE r0 r1 r2 r3 = 0
  · by_cases h20 : m ≤ 20
    · by_cases ht : stnsE ys = 0
      · by_cases hs : readE (r0 + b0) (r1 + b0) (r2 + b0) (r3 + b0) = 0
        · exact turned_a r0 r1 r2 r3 b0 b1 b2 hm hnb lm hB hr h20 ht hs
        · exact turned_b r0 r1 r2 r3 b0 b1 b2 hm hnb lm hB hr h20 ht hs
      · exact turned_t r0 r1 r2 r3 b0 b1 b2 hm hnb lm hB hr h20 ht
    · exact turned_m r0 r1 r2 r3 b0 b1 b2 hm hnb lm hB hr h20
  · exact turned_r r0 r1 r2 r3 b0 b1 b2 hm hnb lm hB hr

end Go.Proofs.Ytjdilmmpdlcimaa
