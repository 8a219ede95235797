/- DistortTurned where the shifted readings are not valid. -/
import Derived.Test.YtjdilmmpdlcimaaT3
import Derived.Lib.MinMax
import Derived.Deep.DeepCutAuto
import Derived.BigRegion
import Derived.Laws.AppendOwn
import Derived.Laws.AppendOwnNone
import Derived.BigQuiet
import Derived.Laws.StructEq

namespace Go.Proofs.Ytjdilmmpdlcimaa
open Go.RowKit Go.Shelf Go.Mem Go.RegInv
attribute [local go_sem] RelUpon_value RelUpon_skip RelUpon_enter BigFrame.eval_const BigFrame.eval_global BigFrame.eval_func


set_option maxRecDepth 100000 in
set_option maxHeartbeats 4000000 in
theorem turned_b (r0 r1 r2 r3 : Int) {B : Option Addr} {m cb : Nat} {ys : List Sn} (b0 b1 b2 : Int) (hm : ys.length = m) (hnb : B = none → cb = 0) (lm : m ≤ maxLen) {w : World} (hB : m ≤ 1000 → RowsAt 3 Sn.enc w B ys) (hr : readE r0 r1 r2 r3 = 0) (h20 : m ≤ 20) (ht : stnsE ys = 0) (hs : ¬ readE (r0 + b0) (r1 + b0) (r2 + b0) (r3 + b0) = 0) :
    Calls Try.prog 11 #[.agg #[.int .i64 r0, .int .i64 r1, .int .i64 r2, .int .i64 r3], .slice B m cb, .agg #[.int .i64 b0, .int .i64 b1, .int .i64 b2]] w fun e w' => e = .returned (.bool true) ∧ Ext w w' := by
  obtain ⟨i1, hi1, hz1, ha1, hb1⟩ := info_parts infoSnG
  have I1 := Lib.hid hz1
  have HM := Lib.hid hm
  have HBX := Lib.hid hB
  have HLB := Lib.hid hnb
  have LM := Lib.hid (show m ≤ 9223372036854775807 from lm)
  clear hz1 hm hB hnb lm
  obtain ⟨W0, hW0⟩ : ∃ W0, W0 = (w.alloc (.cells #[.int .i64 r0, .int .i64 r1, .int .i64 r2, .int .i64 r3] 87)).alloc (.cells #[.int .i64 b0, .int .i64 b1, .int .i64 b2] 105) := ⟨_, rfl⟩
  have Ky0 := Lib.hid (show Blk W0 (w.heap.size) 87 #[.int .i64 r0, .int .i64 r1, .int .i64 r2, .int .i64 r3] by rw [hW0]; exact (Blk.new _ _ _).alloc _)
  have Ky1 := Lib.hid (show Blk W0 (w.heap.size + 1) 105 #[.int .i64 b0, .int .i64 b1, .int .i64 b2] by rw [hW0]; exact Blk.newAt _ _ _ (by simp))
  have X := Lib.hid (show Ext w W0 by rw [hW0]; exact (Ext.alloc _ _).trans (Ext.alloc _ _))
  have y0_0 : W0.cell? ⟨w.heap.size, 0, none⟩ = some (.int .i64 r0) := Ky0.out.cell 0
  have y0_1 : W0.cell? ⟨w.heap.size, 1, none⟩ = some (.int .i64 r1) := Ky0.out.cell 1
  have y0_2 : W0.cell? ⟨w.heap.size, 2, none⟩ = some (.int .i64 r2) := Ky0.out.cell 2
  have y0_3 : W0.cell? ⟨w.heap.size, 3, none⟩ = some (.int .i64 r3) := Ky0.out.cell 3
  have y1_0 : W0.cell? ⟨w.heap.size + 1, 0, none⟩ = some (.int .i64 b0) := Ky1.out.cell 0
  have y1_1 : W0.cell? ⟨w.heap.size + 1, 1, none⟩ = some (.int .i64 b1) := Ky1.out.cell 1
  have y1_2 : W0.cell? ⟨w.heap.size + 1, 2, none⟩ = some (.int .i64 b2) := Ky1.out.cell 2
  have HC := Lib.hid (fun k (h : k < 3) => show W0.cell? ⟨w.heap.size + 1, k, none⟩ = some (.int .i64 (List.getD [b0, b1, b2] k 0)) from by
    rcases (show k = 0 ∨ k = 1 ∨ k = 2 by omega) with rfl | rfl | rfl
    · exact y1_0
    · exact y1_1
    · exact y1_2)
  have HBE := Lib.hid (show List.getD [b0, b1, b2] 0 0 = b0 ∧ List.getD [b0, b1, b2] 1 0 = b1 ∧ List.getD [b0, b1, b2] 2 0 = b2 from ⟨rfl, rfl, rfl⟩)
  have SW := Lib.hid (show w.heap.size + 1 < W0.heap.size from Ky1.out.lt)
  go_enter Try.func11, Try.ntmps11
  go_upto_region 1 with (fail)
  rw [← hW0]
  clear hW0
  clear y0_0 y0_1 y0_2 y0_3 y1_0 y1_1 y1_2
  generalize [b0, b1, b2] = bs at *
  go_wp2_with (go_at_call 13; refine (awake_any _).mono ?_; rintro e W1 ⟨rfl, hx⟩; have HC1 := Lib.hid (fun k h => hx.cell (HC.out k h)); replace SW := Lib.hid (Nat.lt_of_lt_of_le SW.out hx.size); replace X := Lib.hid (X.out.trans hx); replace Ky0 := Lib.hid (Ky0.out.ext hx); replace Ky1 := Lib.hid (Ky1.out.ext hx); clear hx HC; refine Hid.out ?_)
  refine Lib.hid ?_
  go_wp2
  go_loopw [7] (fun i wr => ∃ k : Nat, k ≤ 3 ∧ i = .int .i64 (k : Int) ∧ (∀ j, j < k → -100 ≤ List.getD bs j 0 ∧ List.getD bs j 0 ≤ 100) ∧ Hid (W1 = wr)) (fun i _ => 3 - (intOf i).toNat)
  case atStart => exact ⟨0, by omega, rfl, (fun j hj => by omega), Lib.hid rfl⟩
  case round =>
    obtain ⟨k, hk, rfl, hv, hw⟩ := hrel
    have HV := Lib.hid hv
    clear hv
    obtain rfl := hw.out
    clear hw
    by_cases hlt : k < 3
    · have hc := HC1.out k hlt
      have hki : (k : Int) < 3 := by omega
      have HV2 := Lib.hid (fun (h : -100 ≤ List.getD bs k 0 ∧ List.getD bs k 0 ≤ 100) j (hj : j < k + 1) => show -100 ≤ List.getD bs j 0 ∧ List.getD bs j 0 ≤ 100 from by
        rcases (show j < k ∨ j = k by omega) with h2 | rfl
        · exact HV.out j h2
        · exact h)
      generalize List.getD bs k 0 = r at *
      by_cases h : -100 ≤ r ∧ r ≤ 100
      · have HW := Lib.hid (withinB_t h)
        replace HV2 := Lib.hid (HV2.out h)
        clear h HV
        go_wp2_with (go_at_call 21; refine (within_any _ _ _ _).mono ?_; rintro e w' ⟨rfl, rfl⟩; rw [HW.out])
        go_roundw
        case rel => exact ⟨k + 1, by omega, by go_num, HV2.out, Lib.hid trivial⟩
        case measure => simp [intOf]; omega
      · have HW := Lib.hid (withinB_f h)
        clear h HV HV2
        go_wp2_with (go_at_call 21; refine (within_any _ _ _ _).mono ?_; rintro e w' ⟨rfl, rfl⟩; rw [HW.out])
        go_ret
        exact ⟨rfl, X.out⟩
    · obtain rfl : k = 3 := by omega
      have HBB := Lib.hid (show (-100 ≤ b0 ∧ b0 ≤ 100) ∧ (-100 ≤ b1 ∧ b1 ≤ 100) ∧ -100 ≤ b2 ∧ b2 ≤ 100 from by
        have h0 := HV.out 0 (by omega)
        have h1 := HV.out 1 (by omega)
        have h2 := HV.out 2 (by omega)
        rw [HBE.out.1] at h0
        rw [HBE.out.2.1] at h1
        rw [HBE.out.2.2] at h2
        exact ⟨h0, h1, h2⟩)
      clear HV HBE HC1
      obtain ⟨V1, hV1⟩ : ∃ V, V = W1 := ⟨_, rfl⟩
      rw [← hV1] at X Ky0 Ky1 SW ⊢
      clear hV1
      have y0_0 : V1.cell? ⟨w.heap.size, 0, none⟩ = some (.int .i64 r0) := Ky0.out.cell 0
      have y0_1 : V1.cell? ⟨w.heap.size, 1, none⟩ = some (.int .i64 r1) := Ky0.out.cell 1
      have y0_2 : V1.cell? ⟨w.heap.size, 2, none⟩ = some (.int .i64 r2) := Ky0.out.cell 2
      have y0_3 : V1.cell? ⟨w.heap.size, 3, none⟩ = some (.int .i64 r3) := Ky0.out.cell 3
      have y1_0 : V1.cell? ⟨w.heap.size + 1, 0, none⟩ = some (.int .i64 b0) := Ky1.out.cell 0
      have y1_1 : V1.cell? ⟨w.heap.size + 1, 1, none⟩ = some (.int .i64 b1) := Ky1.out.cell 1
      have y1_2 : V1.cell? ⟨w.heap.size + 1, 2, none⟩ = some (.int .i64 b2) := Ky1.out.cell 2
      have HRE := Lib.hid (fun W => show Calls Try.prog 55 #[.agg #[.int .i64 r0, .int .i64 r1, .int .i64 r2, .int .i64 r3]] W fun e w' => e = .returned (.int .i64 0) ∧ Ext W w' from by have := readingsErr_any r0 r1 r2 r3 W; rw [hr] at this; exact this)
      have hdm : decide ((20 : Int) < (m : Int)) = false := by simp; omega
      have HTE := Lib.hid (fun W (e : Ext w W) => refStationsErr_any (ca := cb) HM.out (fun _ => (HBX.out (by omega)).ext e) (by unfold maxLen; omega))
      have HB := Lib.hid (HBX.out (by omega))
      clear HBX
      rw [ht] at HTE
      have HBO := Lib.hid (fun W P c (r : RowsAt 3 Sn.enc W P ys) => bowsOf_ok (ca := c) HM.out r ht)
      have HBL := Lib.hid (bowsL_len ys m)
      obtain ⟨⟨hm2, hm20⟩, hst, -⟩ := stnsE_ok ht
      have HST := Lib.hid hst
      have HM2 := Lib.hid (show 2 ≤ m by have := HM.out; omega)
      have hm2' : 2 ≤ m := HM2.out
      have HB0 := Lib.hid (bowsL_first (ys := ys) (m := m) (by omega))
      have HBm := Lib.hid (bowsL_last HM.out (by omega))
      have HVB := Lib.hid (runV_bd hr)
      have hb := readE_bd hr
      have HRB := Lib.hid hb
      have HRO := Lib.hid (fun W => runOutOf_ok hr W)
      have HR2 := Lib.hid (fun W => show Calls Try.prog 51 #[.agg #[.int .i64 r1, .int .i64 r2, .int .i64 r3, .int .i64 r0]] W fun e w' => e = .returned (.tuple #[.agg #[.int .i64 (runV r0 r1 r2 r3).2.1, .int .i64 (-(runV r0 r1 r2 r3).1), .int .i64 (-(runV r0 r1 r2 r3).2.2.1), .int .i64 (runV r0 r1 r2 r3).2.2.2.1, .int .i64 (runV r0 r1 r2 r3).2.2.2.2], .int .i64 0]) ∧ Ext W w' from by
        have := runOutOf_ok (readE_of hb.2.1 hb.2.2.1 hb.2.2.2 hb.1) W
        rw [runV_turned] at this
        exact this)
      obtain ⟨re2, hre2⟩ : ∃ z, z = readE (r0 + b0) (r1 + b0) (r2 + b0) (r3 + b0) := ⟨_, rfl⟩
      have HRE2 := Lib.hid (fun W => show Calls Try.prog 55 #[.agg #[.int .i64 (r0 + b0), .int .i64 (r1 + b0), .int .i64 (r2 + b0), .int .i64 (r3 + b0)]] W fun e w' => e = .returned (.int .i64 re2) ∧ Ext W w' from by rw [hre2]; exact readingsErr_any _ _ _ _ W)
      have hs2 : (re2 == 0) = false := by rw [hre2]; simp [hs]
      clear hre2 hs
      generalize runV r0 r1 r2 r3 = rv at *
      obtain ⟨a0, a1, a2, a3, a4⟩ := rv
      dsimp only at HVB HRO HR2
      clear hb hst hr ht hm2 hm20
      go_wp2_with (go_at_call 55; refine (HRE.out _).mono ?_; rintro e W2 ⟨rfl, hx⟩; replace X := Lib.hid (X.out.trans hx); replace Ky0 := Lib.hid (Ky0.out.ext hx); replace Ky1 := Lib.hid (Ky1.out.ext hx); clear hx y0_0 y0_1 y0_2 y0_3 y1_0 y1_1 y1_2; refine Hid.out ?_)
      refine Lib.hid ?_
      have y0_0 : W2.cell? ⟨w.heap.size, 0, none⟩ = some (.int .i64 r0) := Ky0.out.cell 0
      have y0_1 : W2.cell? ⟨w.heap.size, 1, none⟩ = some (.int .i64 r1) := Ky0.out.cell 1
      have y0_2 : W2.cell? ⟨w.heap.size, 2, none⟩ = some (.int .i64 r2) := Ky0.out.cell 2
      have y0_3 : W2.cell? ⟨w.heap.size, 3, none⟩ = some (.int .i64 r3) := Ky0.out.cell 3
      have y1_0 : W2.cell? ⟨w.heap.size + 1, 0, none⟩ = some (.int .i64 b0) := Ky1.out.cell 0
      have y1_1 : W2.cell? ⟨w.heap.size + 1, 1, none⟩ = some (.int .i64 b1) := Ky1.out.cell 1
      have y1_2 : W2.cell? ⟨w.heap.size + 1, 2, none⟩ = some (.int .i64 b2) := Ky1.out.cell 2
      go_wp2_with (go_at_call 57; refine (HTE.out _ X.out).mono ?_; rintro e W3 ⟨rfl, hx⟩; replace X := Lib.hid (X.out.trans hx); replace Ky0 := Lib.hid (Ky0.out.ext hx); replace Ky1 := Lib.hid (Ky1.out.ext hx); clear hx y0_0 y0_1 y0_2 y0_3 y1_0 y1_1 y1_2; refine Hid.out ?_)
      refine Lib.hid ?_
      have y0_0 : W3.cell? ⟨w.heap.size, 0, none⟩ = some (.int .i64 r0) := Ky0.out.cell 0
      have y0_1 : W3.cell? ⟨w.heap.size, 1, none⟩ = some (.int .i64 r1) := Ky0.out.cell 1
      have y0_2 : W3.cell? ⟨w.heap.size, 2, none⟩ = some (.int .i64 r2) := Ky0.out.cell 2
      have y0_3 : W3.cell? ⟨w.heap.size, 3, none⟩ = some (.int .i64 r3) := Ky0.out.cell 3
      have y1_0 : W3.cell? ⟨w.heap.size + 1, 0, none⟩ = some (.int .i64 b0) := Ky1.out.cell 0
      have y1_1 : W3.cell? ⟨w.heap.size + 1, 1, none⟩ = some (.int .i64 b1) := Ky1.out.cell 1
      have y1_2 : W3.cell? ⟨w.heap.size + 1, 2, none⟩ = some (.int .i64 b2) := Ky1.out.cell 2
      clear HRE HTE
      go_wp2_with (go_at_call 51; refine (HRO.out _).mono ?_; rintro e W4 ⟨rfl, hx⟩; replace X := Lib.hid (X.out.trans hx); replace Ky0 := Lib.hid (Ky0.out.ext hx); replace Ky1 := Lib.hid (Ky1.out.ext hx); clear hx y0_0 y0_1 y0_2 y0_3 y1_0 y1_1 y1_2; refine Hid.out ?_)
      refine Lib.hid ?_
      have y0_0 : W4.cell? ⟨w.heap.size, 0, none⟩ = some (.int .i64 r0) := Ky0.out.cell 0
      have y0_1 : W4.cell? ⟨w.heap.size, 1, none⟩ = some (.int .i64 r1) := Ky0.out.cell 1
      have y0_2 : W4.cell? ⟨w.heap.size, 2, none⟩ = some (.int .i64 r2) := Ky0.out.cell 2
      have y0_3 : W4.cell? ⟨w.heap.size, 3, none⟩ = some (.int .i64 r3) := Ky0.out.cell 3
      have y1_0 : W4.cell? ⟨w.heap.size + 1, 0, none⟩ = some (.int .i64 b0) := Ky1.out.cell 0
      have y1_1 : W4.cell? ⟨w.heap.size + 1, 1, none⟩ = some (.int .i64 b1) := Ky1.out.cell 1
      have y1_2 : W4.cell? ⟨w.heap.size + 1, 2, none⟩ = some (.int .i64 b2) := Ky1.out.cell 2
      obtain ⟨q8, hq⟩ : ∃ q, q = W4.heap.size := ⟨_, rfl⟩
      obtain ⟨V5, hV⟩ : ∃ V, V = W4.alloc (.cells #[.int .i64 a0, .int .i64 a1, .int .i64 a2, .int .i64 a3, .int .i64 a4] 91) := ⟨_, rfl⟩
      have hx : Ext W4 V5 := by rw [hV]; exact Ext.alloc _ _
      have Ky8 := Lib.hid (show Blk V5 q8 91 #[.int .i64 a0, .int .i64 a1, .int .i64 a2, .int .i64 a3, .int .i64 a4] by rw [hV, hq]; exact Blk.new _ _ _)
      go_upto_region 11 with (fail)
      rw [← hV, ← hq]
      replace X := Lib.hid (X.out.trans hx)
      replace Ky0 := Lib.hid (Ky0.out.ext hx)
      replace Ky1 := Lib.hid (Ky1.out.ext hx)
      clear hx y0_0 y0_1 y0_2 y0_3 y1_0 y1_1 y1_2
      clear hV hq
      have y0_0 : V5.cell? ⟨w.heap.size, 0, none⟩ = some (.int .i64 r0) := Ky0.out.cell 0
      have y0_1 : V5.cell? ⟨w.heap.size, 1, none⟩ = some (.int .i64 r1) := Ky0.out.cell 1
      have y0_2 : V5.cell? ⟨w.heap.size, 2, none⟩ = some (.int .i64 r2) := Ky0.out.cell 2
      have y0_3 : V5.cell? ⟨w.heap.size, 3, none⟩ = some (.int .i64 r3) := Ky0.out.cell 3
      have y1_0 : V5.cell? ⟨w.heap.size + 1, 0, none⟩ = some (.int .i64 b0) := Ky1.out.cell 0
      have y1_1 : V5.cell? ⟨w.heap.size + 1, 1, none⟩ = some (.int .i64 b1) := Ky1.out.cell 1
      have y1_2 : V5.cell? ⟨w.heap.size + 1, 2, none⟩ = some (.int .i64 b2) := Ky1.out.cell 2
      have y8_0 : V5.cell? ⟨q8, 0, none⟩ = some (.int .i64 a0) := Ky8.out.cell 0
      have y8_1 : V5.cell? ⟨q8, 1, none⟩ = some (.int .i64 a1) := Ky8.out.cell 1
      have y8_2 : V5.cell? ⟨q8, 2, none⟩ = some (.int .i64 a2) := Ky8.out.cell 2
      have y8_3 : V5.cell? ⟨q8, 3, none⟩ = some (.int .i64 a3) := Ky8.out.cell 3
      have y8_4 : V5.cell? ⟨q8, 4, none⟩ = some (.int .i64 a4) := Ky8.out.cell 4
      go_wp2_with (go_at_call 51; refine (HR2.out _).mono ?_; rintro e W6 ⟨rfl, hx⟩; replace X := Lib.hid (X.out.trans hx); replace Ky0 := Lib.hid (Ky0.out.ext hx); replace Ky1 := Lib.hid (Ky1.out.ext hx); replace Ky8 := Lib.hid (Ky8.out.ext hx); clear hx y0_0 y0_1 y0_2 y0_3 y1_0 y1_1 y1_2 y8_0 y8_1 y8_2 y8_3 y8_4; refine Hid.out ?_)
      refine Lib.hid ?_
      have y0_0 : W6.cell? ⟨w.heap.size, 0, none⟩ = some (.int .i64 r0) := Ky0.out.cell 0
      have y0_1 : W6.cell? ⟨w.heap.size, 1, none⟩ = some (.int .i64 r1) := Ky0.out.cell 1
      have y0_2 : W6.cell? ⟨w.heap.size, 2, none⟩ = some (.int .i64 r2) := Ky0.out.cell 2
      have y0_3 : W6.cell? ⟨w.heap.size, 3, none⟩ = some (.int .i64 r3) := Ky0.out.cell 3
      have y1_0 : W6.cell? ⟨w.heap.size + 1, 0, none⟩ = some (.int .i64 b0) := Ky1.out.cell 0
      have y1_1 : W6.cell? ⟨w.heap.size + 1, 1, none⟩ = some (.int .i64 b1) := Ky1.out.cell 1
      have y1_2 : W6.cell? ⟨w.heap.size + 1, 2, none⟩ = some (.int .i64 b2) := Ky1.out.cell 2
      have y8_0 : W6.cell? ⟨q8, 0, none⟩ = some (.int .i64 a0) := Ky8.out.cell 0
      have y8_1 : W6.cell? ⟨q8, 1, none⟩ = some (.int .i64 a1) := Ky8.out.cell 1
      have y8_2 : W6.cell? ⟨q8, 2, none⟩ = some (.int .i64 a2) := Ky8.out.cell 2
      have y8_3 : W6.cell? ⟨q8, 3, none⟩ = some (.int .i64 a3) := Ky8.out.cell 3
      have y8_4 : W6.cell? ⟨q8, 4, none⟩ = some (.int .i64 a4) := Ky8.out.cell 4
      obtain ⟨q10, hq⟩ : ∃ q, q = W6.heap.size := ⟨_, rfl⟩
      obtain ⟨V7, hV⟩ : ∃ V, V = W6.alloc (.cells #[.int .i64 a1, .int .i64 (-a0), .int .i64 (-a2), .int .i64 a3, .int .i64 a4] 91) := ⟨_, rfl⟩
      have hx : Ext W6 V7 := by rw [hV]; exact Ext.alloc _ _
      have Ky10 := Lib.hid (show Blk V7 q10 91 #[.int .i64 a1, .int .i64 (-a0), .int .i64 (-a2), .int .i64 a3, .int .i64 a4] by rw [hV, hq]; exact Blk.new _ _ _)
      go_upto_region 12 with (fail)
      rw [← hV, ← hq]
      replace X := Lib.hid (X.out.trans hx)
      replace Ky0 := Lib.hid (Ky0.out.ext hx)
      replace Ky1 := Lib.hid (Ky1.out.ext hx)
      replace Ky8 := Lib.hid (Ky8.out.ext hx)
      clear hx y0_0 y0_1 y0_2 y0_3 y1_0 y1_1 y1_2 y8_0 y8_1 y8_2 y8_3 y8_4
      clear hV hq
      have y0_0 : V7.cell? ⟨w.heap.size, 0, none⟩ = some (.int .i64 r0) := Ky0.out.cell 0
      have y0_1 : V7.cell? ⟨w.heap.size, 1, none⟩ = some (.int .i64 r1) := Ky0.out.cell 1
      have y0_2 : V7.cell? ⟨w.heap.size, 2, none⟩ = some (.int .i64 r2) := Ky0.out.cell 2
      have y0_3 : V7.cell? ⟨w.heap.size, 3, none⟩ = some (.int .i64 r3) := Ky0.out.cell 3
      have y1_0 : V7.cell? ⟨w.heap.size + 1, 0, none⟩ = some (.int .i64 b0) := Ky1.out.cell 0
      have y1_1 : V7.cell? ⟨w.heap.size + 1, 1, none⟩ = some (.int .i64 b1) := Ky1.out.cell 1
      have y1_2 : V7.cell? ⟨w.heap.size + 1, 2, none⟩ = some (.int .i64 b2) := Ky1.out.cell 2
      have y8_0 : V7.cell? ⟨q8, 0, none⟩ = some (.int .i64 a0) := Ky8.out.cell 0
      have y8_1 : V7.cell? ⟨q8, 1, none⟩ = some (.int .i64 a1) := Ky8.out.cell 1
      have y8_2 : V7.cell? ⟨q8, 2, none⟩ = some (.int .i64 a2) := Ky8.out.cell 2
      have y8_3 : V7.cell? ⟨q8, 3, none⟩ = some (.int .i64 a3) := Ky8.out.cell 3
      have y8_4 : V7.cell? ⟨q8, 4, none⟩ = some (.int .i64 a4) := Ky8.out.cell 4
      have y10_0 : V7.cell? ⟨q10, 0, none⟩ = some (.int .i64 a1) := Ky10.out.cell 0
      have y10_1 : V7.cell? ⟨q10, 1, none⟩ = some (.int .i64 (-a0)) := Ky10.out.cell 1
      have y10_2 : V7.cell? ⟨q10, 2, none⟩ = some (.int .i64 (-a2)) := Ky10.out.cell 2
      have y10_3 : V7.cell? ⟨q10, 3, none⟩ = some (.int .i64 a3) := Ky10.out.cell 3
      have y10_4 : V7.cell? ⟨q10, 4, none⟩ = some (.int .i64 a4) := Ky10.out.cell 4
      clear HRO HR2
      have hvb := HVB.out
      have HWI := Lib.hid (withinB_t (show a3 ≤ a4 ∧ a4 ≤ a3 + 1 by omega))
      have k1 : IntKind.i64.wrap (-a0) = -a0 := wrap_id _ (by omega) (by omega)
      have k2 : IntKind.i64.wrap (-a2) = -a2 := wrap_id _ (by omega) (by omega)
      have k3 : IntKind.i64.wrap (a3 + 1) = a3 + 1 := wrap_id _ (by omega) (by omega)
      clear hvb
      go_upto_region 14 with (go_at_call 21; refine (within_any _ _ _ _).mono ?_; rintro e w' ⟨rfl, rfl⟩; rw [HWI.out])
      clear k1 k2 k3 HWI Ky10 y10_0 y10_1 y10_2 y10_3 y10_4
      obtain ⟨q12, hq⟩ : ∃ q, q = V7.heap.size := ⟨_, rfl⟩
      obtain ⟨V8, hV⟩ : ∃ V, V = V7.alloc (.cells #[.int .i64 0, .int .i64 0, .int .i64 0, .int .i64 0] 87) := ⟨_, rfl⟩
      have hx : Ext V7 V8 := by rw [hV]; exact Ext.alloc _ _
      have SQ := Lib.hid (show w.heap.size ≤ q12 ∧ w.heap.size ≠ q12 ∧ w.heap.size + 1 ≠ q12 ∧ q8 ≠ q12 from by
        rw [hq]
        have := Ky1.out.lt
        have := Ky8.out.lt
        omega)
      have Ky12 := Lib.hid (show Blk V8 q12 87 #[.int .i64 0, .int .i64 0, .int .i64 0, .int .i64 0] by rw [hV, hq]; exact Blk.new _ _ _)
      go_upto_region 15 with (fail)
      rw [← hV, ← hq]
      replace X := Lib.hid (X.out.trans hx)
      replace Ky0 := Lib.hid (Ky0.out.ext hx)
      replace Ky1 := Lib.hid (Ky1.out.ext hx)
      replace Ky8 := Lib.hid (Ky8.out.ext hx)
      clear hx y0_0 y0_1 y0_2 y0_3 y1_0 y1_1 y1_2 y8_0 y8_1 y8_2 y8_3 y8_4
      clear hV hq
      have y0_0 : V8.cell? ⟨w.heap.size, 0, none⟩ = some (.int .i64 r0) := Ky0.out.cell 0
      have y0_1 : V8.cell? ⟨w.heap.size, 1, none⟩ = some (.int .i64 r1) := Ky0.out.cell 1
      have y0_2 : V8.cell? ⟨w.heap.size, 2, none⟩ = some (.int .i64 r2) := Ky0.out.cell 2
      have y0_3 : V8.cell? ⟨w.heap.size, 3, none⟩ = some (.int .i64 r3) := Ky0.out.cell 3
      have y1_0 : V8.cell? ⟨w.heap.size + 1, 0, none⟩ = some (.int .i64 b0) := Ky1.out.cell 0
      have y1_1 : V8.cell? ⟨w.heap.size + 1, 1, none⟩ = some (.int .i64 b1) := Ky1.out.cell 1
      have y1_2 : V8.cell? ⟨w.heap.size + 1, 2, none⟩ = some (.int .i64 b2) := Ky1.out.cell 2
      have y8_0 : V8.cell? ⟨q8, 0, none⟩ = some (.int .i64 a0) := Ky8.out.cell 0
      have y8_1 : V8.cell? ⟨q8, 1, none⟩ = some (.int .i64 a1) := Ky8.out.cell 1
      have y8_2 : V8.cell? ⟨q8, 2, none⟩ = some (.int .i64 a2) := Ky8.out.cell 2
      have y8_3 : V8.cell? ⟨q8, 3, none⟩ = some (.int .i64 a3) := Ky8.out.cell 3
      have y8_4 : V8.cell? ⟨q8, 4, none⟩ = some (.int .i64 a4) := Ky8.out.cell 4
      have y12_0 : V8.cell? ⟨q12, 0, none⟩ = some (.int .i64 0) := Ky12.out.cell 0
      have y12_1 : V8.cell? ⟨q12, 1, none⟩ = some (.int .i64 0) := Ky12.out.cell 1
      have y12_2 : V8.cell? ⟨q12, 2, none⟩ = some (.int .i64 0) := Ky12.out.cell 2
      have y12_3 : V8.cell? ⟨q12, 3, none⟩ = some (.int .i64 0) := Ky12.out.cell 3
      
      go_wp2
      clear y0_0 y0_1 y0_2 y0_3 y1_0 y1_1 y1_2 y8_0 y8_1 y8_2 y8_3 y8_4 y12_0 y12_1 y12_2 y12_3
      go_loopw [13] (fun i wr => ∃ k : Nat, k ≤ 4 ∧ i = .int .i64 (k : Int) ∧ Ext w wr ∧ Blk wr w.heap.size 87 #[.int .i64 r0, .int .i64 r1, .int .i64 r2, .int .i64 r3] ∧ Blk wr (w.heap.size + 1) 105 #[.int .i64 b0, .int .i64 b1, .int .i64 b2] ∧ Blk wr q8 91 #[.int .i64 a0, .int .i64 a1, .int .i64 a2, .int .i64 a3, .int .i64 a4] ∧ Blk wr q12 87 #[.int .i64 (if 0 < k then r0 + b0 else 0), .int .i64 (if 1 < k then r1 + b0 else 0), .int .i64 (if 2 < k then r2 + b0 else 0), .int .i64 (if 3 < k then r3 + b0 else 0)]) (fun i _ => 4 - (intOf i).toNat)
      case atStart => exact ⟨0, by omega, rfl, X.out, Ky0.out, Ky1.out, Ky8.out, Ky12.out⟩
      case round =>
        clear X Ky0 Ky1 Ky8 Ky12
        obtain ⟨k, hk, rfl, hx, h1, h2, h3, h4⟩ := hrel
        have X := Lib.hid hx
        have Ky0 := Lib.hid h1
        have Ky1 := Lib.hid h2
        have Ky8 := Lib.hid h3
        have K12 := Lib.hid h4
        clear hx h1 h2 h3 h4
        obtain ⟨V9, hV9⟩ : ∃ V, V = wr := ⟨_, rfl⟩
        rw [← hV9] at X Ky0 Ky1 Ky8 K12 ⊢
        clear hV9
        have hrb := HRB.out
        have hbb := HBB.out
        rcases (show k = 0 ∨ k = 1 ∨ k = 2 ∨ k = 3 ∨ k = 4 by omega) with rfl | rfl | rfl | rfl | rfl
        · have Ky12 := Lib.hid (show Blk V9 q12 87 #[.int .i64 0, .int .i64 0, .int .i64 0, .int .i64 0] from K12.out)
          have y0_0 : V9.cell? ⟨w.heap.size, 0, none⟩ = some (.int .i64 r0) := Ky0.out.cell 0
          have y0_1 : V9.cell? ⟨w.heap.size, 1, none⟩ = some (.int .i64 r1) := Ky0.out.cell 1
          have y0_2 : V9.cell? ⟨w.heap.size, 2, none⟩ = some (.int .i64 r2) := Ky0.out.cell 2
          have y0_3 : V9.cell? ⟨w.heap.size, 3, none⟩ = some (.int .i64 r3) := Ky0.out.cell 3
          have y1_0 : V9.cell? ⟨w.heap.size + 1, 0, none⟩ = some (.int .i64 b0) := Ky1.out.cell 0
          have y1_1 : V9.cell? ⟨w.heap.size + 1, 1, none⟩ = some (.int .i64 b1) := Ky1.out.cell 1
          have y1_2 : V9.cell? ⟨w.heap.size + 1, 2, none⟩ = some (.int .i64 b2) := Ky1.out.cell 2
          have y8_0 : V9.cell? ⟨q8, 0, none⟩ = some (.int .i64 a0) := Ky8.out.cell 0
          have y8_1 : V9.cell? ⟨q8, 1, none⟩ = some (.int .i64 a1) := Ky8.out.cell 1
          have y8_2 : V9.cell? ⟨q8, 2, none⟩ = some (.int .i64 a2) := Ky8.out.cell 2
          have y8_3 : V9.cell? ⟨q8, 3, none⟩ = some (.int .i64 a3) := Ky8.out.cell 3
          have y8_4 : V9.cell? ⟨q8, 4, none⟩ = some (.int .i64 a4) := Ky8.out.cell 4
          have y12_0 : V9.cell? ⟨q12, 0, none⟩ = some (.int .i64 0) := Ky12.out.cell 0
          have y12_1 : V9.cell? ⟨q12, 1, none⟩ = some (.int .i64 0) := Ky12.out.cell 1
          have y12_2 : V9.cell? ⟨q12, 2, none⟩ = some (.int .i64 0) := Ky12.out.cell 2
          have y12_3 : V9.cell? ⟨q12, 3, none⟩ = some (.int .i64 0) := Ky12.out.cell 3
          have hw : IntKind.i64.wrap (r0 + b0) = r0 + b0 := wrap_id _ (by omega) (by omega)
          have fz := Ky12.out.free 0
          have n3 : w.heap.size ≤ q12 := SQ.out.1
          have n0 : w.heap.size ≠ q12 := SQ.out.2.1
          have n1 : w.heap.size + 1 ≠ q12 := SQ.out.2.2.1
          have n8 : q8 ≠ q12 := SQ.out.2.2.2
          clear K12 hrb hbb
          go_upto_region 18 with (fail)
          go_region
          obtain ⟨VV, hVV⟩ : ∃ V, V = (V9.setCell ⟨q12, 0, none⟩ (.int .i64 (r0 + b0))).drew := ⟨_, rfl⟩
          rw [← hVV]
          have REL := Lib.hid (show Ext w VV ∧ Blk VV w.heap.size 87 #[.int .i64 r0, .int .i64 r1, .int .i64 r2, .int .i64 r3] ∧ Blk VV (w.heap.size + 1) 105 #[.int .i64 b0, .int .i64 b1, .int .i64 b2] ∧ Blk VV q8 91 #[.int .i64 a0, .int .i64 a1, .int .i64 a2, .int .i64 a3, .int .i64 a4] ∧ Blk VV q12 87 #[.int .i64 (if 0 < 1 then r0 + b0 else 0), .int .i64 (if 1 < 1 then r1 + b0 else 0), .int .i64 (if 2 < 1 then r2 + b0 else 0), .int .i64 (if 3 < 1 then r3 + b0 else 0)] from by
            rw [hVV]
            exact ⟨(Ext.set X.out n3 _).trans (Ext.drew _), (Ky0.out.setOther n0 _).drew, (Ky1.out.setOther n1 _).drew, (Ky8.out.setOther n8 _).drew, (Ky12.out.setSame 0 _).drew⟩)
          clear hVV hw fz n3 n0 n1 n8 y0_0 y0_1 y0_2 y0_3 y1_0 y1_1 y1_2 y8_0 y8_1 y8_2 y8_3 y8_4 y12_0 y12_1 y12_2 y12_3
          go_wp2
          go_roundw
          case rel => exact ⟨1, by omega, by go_num, REL.out⟩
          case measure => simp [intOf]
        · have Ky12 := Lib.hid (show Blk V9 q12 87 #[.int .i64 (r0 + b0), .int .i64 0, .int .i64 0, .int .i64 0] from K12.out)
          have y0_0 : V9.cell? ⟨w.heap.size, 0, none⟩ = some (.int .i64 r0) := Ky0.out.cell 0
          have y0_1 : V9.cell? ⟨w.heap.size, 1, none⟩ = some (.int .i64 r1) := Ky0.out.cell 1
          have y0_2 : V9.cell? ⟨w.heap.size, 2, none⟩ = some (.int .i64 r2) := Ky0.out.cell 2
          have y0_3 : V9.cell? ⟨w.heap.size, 3, none⟩ = some (.int .i64 r3) := Ky0.out.cell 3
          have y1_0 : V9.cell? ⟨w.heap.size + 1, 0, none⟩ = some (.int .i64 b0) := Ky1.out.cell 0
          have y1_1 : V9.cell? ⟨w.heap.size + 1, 1, none⟩ = some (.int .i64 b1) := Ky1.out.cell 1
          have y1_2 : V9.cell? ⟨w.heap.size + 1, 2, none⟩ = some (.int .i64 b2) := Ky1.out.cell 2
          have y8_0 : V9.cell? ⟨q8, 0, none⟩ = some (.int .i64 a0) := Ky8.out.cell 0
          have y8_1 : V9.cell? ⟨q8, 1, none⟩ = some (.int .i64 a1) := Ky8.out.cell 1
          have y8_2 : V9.cell? ⟨q8, 2, none⟩ = some (.int .i64 a2) := Ky8.out.cell 2
          have y8_3 : V9.cell? ⟨q8, 3, none⟩ = some (.int .i64 a3) := Ky8.out.cell 3
          have y8_4 : V9.cell? ⟨q8, 4, none⟩ = some (.int .i64 a4) := Ky8.out.cell 4
          have y12_0 : V9.cell? ⟨q12, 0, none⟩ = some (.int .i64 (r0 + b0)) := Ky12.out.cell 0
          have y12_1 : V9.cell? ⟨q12, 1, none⟩ = some (.int .i64 0) := Ky12.out.cell 1
          have y12_2 : V9.cell? ⟨q12, 2, none⟩ = some (.int .i64 0) := Ky12.out.cell 2
          have y12_3 : V9.cell? ⟨q12, 3, none⟩ = some (.int .i64 0) := Ky12.out.cell 3
          have hw : IntKind.i64.wrap (r1 + b0) = r1 + b0 := wrap_id _ (by omega) (by omega)
          have fz := Ky12.out.free 1
          have n3 : w.heap.size ≤ q12 := SQ.out.1
          have n0 : w.heap.size ≠ q12 := SQ.out.2.1
          have n1 : w.heap.size + 1 ≠ q12 := SQ.out.2.2.1
          have n8 : q8 ≠ q12 := SQ.out.2.2.2
          clear K12 hrb hbb
          go_upto_region 18 with (fail)
          go_region
          obtain ⟨VV, hVV⟩ : ∃ V, V = (V9.setCell ⟨q12, 1, none⟩ (.int .i64 (r1 + b0))).drew := ⟨_, rfl⟩
          rw [← hVV]
          have REL := Lib.hid (show Ext w VV ∧ Blk VV w.heap.size 87 #[.int .i64 r0, .int .i64 r1, .int .i64 r2, .int .i64 r3] ∧ Blk VV (w.heap.size + 1) 105 #[.int .i64 b0, .int .i64 b1, .int .i64 b2] ∧ Blk VV q8 91 #[.int .i64 a0, .int .i64 a1, .int .i64 a2, .int .i64 a3, .int .i64 a4] ∧ Blk VV q12 87 #[.int .i64 (if 0 < 2 then r0 + b0 else 0), .int .i64 (if 1 < 2 then r1 + b0 else 0), .int .i64 (if 2 < 2 then r2 + b0 else 0), .int .i64 (if 3 < 2 then r3 + b0 else 0)] from by
            rw [hVV]
            exact ⟨(Ext.set X.out n3 _).trans (Ext.drew _), (Ky0.out.setOther n0 _).drew, (Ky1.out.setOther n1 _).drew, (Ky8.out.setOther n8 _).drew, (Ky12.out.setSame 1 _).drew⟩)
          clear hVV hw fz n3 n0 n1 n8 y0_0 y0_1 y0_2 y0_3 y1_0 y1_1 y1_2 y8_0 y8_1 y8_2 y8_3 y8_4 y12_0 y12_1 y12_2 y12_3
          go_wp2
          go_roundw
          case rel => exact ⟨2, by omega, by go_num, REL.out⟩
          case measure => simp [intOf]
        · have Ky12 := Lib.hid (show Blk V9 q12 87 #[.int .i64 (r0 + b0), .int .i64 (r1 + b0), .int .i64 0, .int .i64 0] from K12.out)
          have y0_0 : V9.cell? ⟨w.heap.size, 0, none⟩ = some (.int .i64 r0) := Ky0.out.cell 0
          have y0_1 : V9.cell? ⟨w.heap.size, 1, none⟩ = some (.int .i64 r1) := Ky0.out.cell 1
          have y0_2 : V9.cell? ⟨w.heap.size, 2, none⟩ = some (.int .i64 r2) := Ky0.out.cell 2
          have y0_3 : V9.cell? ⟨w.heap.size, 3, none⟩ = some (.int .i64 r3) := Ky0.out.cell 3
          have y1_0 : V9.cell? ⟨w.heap.size + 1, 0, none⟩ = some (.int .i64 b0) := Ky1.out.cell 0
          have y1_1 : V9.cell? ⟨w.heap.size + 1, 1, none⟩ = some (.int .i64 b1) := Ky1.out.cell 1
          have y1_2 : V9.cell? ⟨w.heap.size + 1, 2, none⟩ = some (.int .i64 b2) := Ky1.out.cell 2
          have y8_0 : V9.cell? ⟨q8, 0, none⟩ = some (.int .i64 a0) := Ky8.out.cell 0
          have y8_1 : V9.cell? ⟨q8, 1, none⟩ = some (.int .i64 a1) := Ky8.out.cell 1
          have y8_2 : V9.cell? ⟨q8, 2, none⟩ = some (.int .i64 a2) := Ky8.out.cell 2
          have y8_3 : V9.cell? ⟨q8, 3, none⟩ = some (.int .i64 a3) := Ky8.out.cell 3
          have y8_4 : V9.cell? ⟨q8, 4, none⟩ = some (.int .i64 a4) := Ky8.out.cell 4
          have y12_0 : V9.cell? ⟨q12, 0, none⟩ = some (.int .i64 (r0 + b0)) := Ky12.out.cell 0
          have y12_1 : V9.cell? ⟨q12, 1, none⟩ = some (.int .i64 (r1 + b0)) := Ky12.out.cell 1
          have y12_2 : V9.cell? ⟨q12, 2, none⟩ = some (.int .i64 0) := Ky12.out.cell 2
          have y12_3 : V9.cell? ⟨q12, 3, none⟩ = some (.int .i64 0) := Ky12.out.cell 3
          have hw : IntKind.i64.wrap (r2 + b0) = r2 + b0 := wrap_id _ (by omega) (by omega)
          have fz := Ky12.out.free 2
          have n3 : w.heap.size ≤ q12 := SQ.out.1
          have n0 : w.heap.size ≠ q12 := SQ.out.2.1
          have n1 : w.heap.size + 1 ≠ q12 := SQ.out.2.2.1
          have n8 : q8 ≠ q12 := SQ.out.2.2.2
          clear K12 hrb hbb
          go_upto_region 18 with (fail)
          go_region
          obtain ⟨VV, hVV⟩ : ∃ V, V = (V9.setCell ⟨q12, 2, none⟩ (.int .i64 (r2 + b0))).drew := ⟨_, rfl⟩
          rw [← hVV]
          have REL := Lib.hid (show Ext w VV ∧ Blk VV w.heap.size 87 #[.int .i64 r0, .int .i64 r1, .int .i64 r2, .int .i64 r3] ∧ Blk VV (w.heap.size + 1) 105 #[.int .i64 b0, .int .i64 b1, .int .i64 b2] ∧ Blk VV q8 91 #[.int .i64 a0, .int .i64 a1, .int .i64 a2, .int .i64 a3, .int .i64 a4] ∧ Blk VV q12 87 #[.int .i64 (if 0 < 3 then r0 + b0 else 0), .int .i64 (if 1 < 3 then r1 + b0 else 0), .int .i64 (if 2 < 3 then r2 + b0 else 0), .int .i64 (if 3 < 3 then r3 + b0 else 0)] from by
            rw [hVV]
            exact ⟨(Ext.set X.out n3 _).trans (Ext.drew _), (Ky0.out.setOther n0 _).drew, (Ky1.out.setOther n1 _).drew, (Ky8.out.setOther n8 _).drew, (Ky12.out.setSame 2 _).drew⟩)
          clear hVV hw fz n3 n0 n1 n8 y0_0 y0_1 y0_2 y0_3 y1_0 y1_1 y1_2 y8_0 y8_1 y8_2 y8_3 y8_4 y12_0 y12_1 y12_2 y12_3
          go_wp2
          go_roundw
          case rel => exact ⟨3, by omega, by go_num, REL.out⟩
          case measure => simp [intOf]
        · have Ky12 := Lib.hid (show Blk V9 q12 87 #[.int .i64 (r0 + b0), .int .i64 (r1 + b0), .int .i64 (r2 + b0), .int .i64 0] from K12.out)
          have y0_0 : V9.cell? ⟨w.heap.size, 0, none⟩ = some (.int .i64 r0) := Ky0.out.cell 0
          have y0_1 : V9.cell? ⟨w.heap.size, 1, none⟩ = some (.int .i64 r1) := Ky0.out.cell 1
          have y0_2 : V9.cell? ⟨w.heap.size, 2, none⟩ = some (.int .i64 r2) := Ky0.out.cell 2
          have y0_3 : V9.cell? ⟨w.heap.size, 3, none⟩ = some (.int .i64 r3) := Ky0.out.cell 3
          have y1_0 : V9.cell? ⟨w.heap.size + 1, 0, none⟩ = some (.int .i64 b0) := Ky1.out.cell 0
          have y1_1 : V9.cell? ⟨w.heap.size + 1, 1, none⟩ = some (.int .i64 b1) := Ky1.out.cell 1
          have y1_2 : V9.cell? ⟨w.heap.size + 1, 2, none⟩ = some (.int .i64 b2) := Ky1.out.cell 2
          have y8_0 : V9.cell? ⟨q8, 0, none⟩ = some (.int .i64 a0) := Ky8.out.cell 0
          have y8_1 : V9.cell? ⟨q8, 1, none⟩ = some (.int .i64 a1) := Ky8.out.cell 1
          have y8_2 : V9.cell? ⟨q8, 2, none⟩ = some (.int .i64 a2) := Ky8.out.cell 2
          have y8_3 : V9.cell? ⟨q8, 3, none⟩ = some (.int .i64 a3) := Ky8.out.cell 3
          have y8_4 : V9.cell? ⟨q8, 4, none⟩ = some (.int .i64 a4) := Ky8.out.cell 4
          have y12_0 : V9.cell? ⟨q12, 0, none⟩ = some (.int .i64 (r0 + b0)) := Ky12.out.cell 0
          have y12_1 : V9.cell? ⟨q12, 1, none⟩ = some (.int .i64 (r1 + b0)) := Ky12.out.cell 1
          have y12_2 : V9.cell? ⟨q12, 2, none⟩ = some (.int .i64 (r2 + b0)) := Ky12.out.cell 2
          have y12_3 : V9.cell? ⟨q12, 3, none⟩ = some (.int .i64 0) := Ky12.out.cell 3
          have hw : IntKind.i64.wrap (r3 + b0) = r3 + b0 := wrap_id _ (by omega) (by omega)
          have fz := Ky12.out.free 3
          have n3 : w.heap.size ≤ q12 := SQ.out.1
          have n0 : w.heap.size ≠ q12 := SQ.out.2.1
          have n1 : w.heap.size + 1 ≠ q12 := SQ.out.2.2.1
          have n8 : q8 ≠ q12 := SQ.out.2.2.2
          clear K12 hrb hbb
          go_upto_region 18 with (fail)
          go_region
          obtain ⟨VV, hVV⟩ : ∃ V, V = (V9.setCell ⟨q12, 3, none⟩ (.int .i64 (r3 + b0))).drew := ⟨_, rfl⟩
          rw [← hVV]
          have REL := Lib.hid (show Ext w VV ∧ Blk VV w.heap.size 87 #[.int .i64 r0, .int .i64 r1, .int .i64 r2, .int .i64 r3] ∧ Blk VV (w.heap.size + 1) 105 #[.int .i64 b0, .int .i64 b1, .int .i64 b2] ∧ Blk VV q8 91 #[.int .i64 a0, .int .i64 a1, .int .i64 a2, .int .i64 a3, .int .i64 a4] ∧ Blk VV q12 87 #[.int .i64 (if 0 < 4 then r0 + b0 else 0), .int .i64 (if 1 < 4 then r1 + b0 else 0), .int .i64 (if 2 < 4 then r2 + b0 else 0), .int .i64 (if 3 < 4 then r3 + b0 else 0)] from by
            rw [hVV]
            exact ⟨(Ext.set X.out n3 _).trans (Ext.drew _), (Ky0.out.setOther n0 _).drew, (Ky1.out.setOther n1 _).drew, (Ky8.out.setOther n8 _).drew, (Ky12.out.setSame 3 _).drew⟩)
          clear hVV hw fz n3 n0 n1 n8 y0_0 y0_1 y0_2 y0_3 y1_0 y1_1 y1_2 y8_0 y8_1 y8_2 y8_3 y8_4 y12_0 y12_1 y12_2 y12_3
          go_wp2
          go_roundw
          case rel => exact ⟨4, by omega, by go_num, REL.out⟩
          case measure => simp [intOf]
        · have Ky12 := Lib.hid (show Blk V9 q12 87 #[.int .i64 (r0 + b0), .int .i64 (r1 + b0), .int .i64 (r2 + b0), .int .i64 (r3 + b0)] from K12.out)
          have y0_0 : V9.cell? ⟨w.heap.size, 0, none⟩ = some (.int .i64 r0) := Ky0.out.cell 0
          have y0_1 : V9.cell? ⟨w.heap.size, 1, none⟩ = some (.int .i64 r1) := Ky0.out.cell 1
          have y0_2 : V9.cell? ⟨w.heap.size, 2, none⟩ = some (.int .i64 r2) := Ky0.out.cell 2
          have y0_3 : V9.cell? ⟨w.heap.size, 3, none⟩ = some (.int .i64 r3) := Ky0.out.cell 3
          have y1_0 : V9.cell? ⟨w.heap.size + 1, 0, none⟩ = some (.int .i64 b0) := Ky1.out.cell 0
          have y1_1 : V9.cell? ⟨w.heap.size + 1, 1, none⟩ = some (.int .i64 b1) := Ky1.out.cell 1
          have y1_2 : V9.cell? ⟨w.heap.size + 1, 2, none⟩ = some (.int .i64 b2) := Ky1.out.cell 2
          have y8_0 : V9.cell? ⟨q8, 0, none⟩ = some (.int .i64 a0) := Ky8.out.cell 0
          have y8_1 : V9.cell? ⟨q8, 1, none⟩ = some (.int .i64 a1) := Ky8.out.cell 1
          have y8_2 : V9.cell? ⟨q8, 2, none⟩ = some (.int .i64 a2) := Ky8.out.cell 2
          have y8_3 : V9.cell? ⟨q8, 3, none⟩ = some (.int .i64 a3) := Ky8.out.cell 3
          have y8_4 : V9.cell? ⟨q8, 4, none⟩ = some (.int .i64 a4) := Ky8.out.cell 4
          have y12_0 : V9.cell? ⟨q12, 0, none⟩ = some (.int .i64 (r0 + b0)) := Ky12.out.cell 0
          have y12_1 : V9.cell? ⟨q12, 1, none⟩ = some (.int .i64 (r1 + b0)) := Ky12.out.cell 1
          have y12_2 : V9.cell? ⟨q12, 2, none⟩ = some (.int .i64 (r2 + b0)) := Ky12.out.cell 2
          have y12_3 : V9.cell? ⟨q12, 3, none⟩ = some (.int .i64 (r3 + b0)) := Ky12.out.cell 3
          clear K12 hrb hbb
          go_wp2_with (go_at_call 55; refine (HRE2.out _).mono ?_; rintro e W19 ⟨rfl, hx⟩; replace X := Lib.hid (X.out.trans hx); replace Ky0 := Lib.hid (Ky0.out.ext hx); replace Ky1 := Lib.hid (Ky1.out.ext hx); replace Ky8 := Lib.hid (Ky8.out.ext hx); replace Ky12 := Lib.hid (Ky12.out.ext hx); clear hx y0_0 y0_1 y0_2 y0_3 y1_0 y1_1 y1_2 y8_0 y8_1 y8_2 y8_3 y8_4 y12_0 y12_1 y12_2 y12_3; refine Hid.out ?_)
          refine Lib.hid ?_
          have y0_0 : W19.cell? ⟨w.heap.size, 0, none⟩ = some (.int .i64 r0) := Ky0.out.cell 0
          have y0_1 : W19.cell? ⟨w.heap.size, 1, none⟩ = some (.int .i64 r1) := Ky0.out.cell 1
          have y0_2 : W19.cell? ⟨w.heap.size, 2, none⟩ = some (.int .i64 r2) := Ky0.out.cell 2
          have y0_3 : W19.cell? ⟨w.heap.size, 3, none⟩ = some (.int .i64 r3) := Ky0.out.cell 3
          have y1_0 : W19.cell? ⟨w.heap.size + 1, 0, none⟩ = some (.int .i64 b0) := Ky1.out.cell 0
          have y1_1 : W19.cell? ⟨w.heap.size + 1, 1, none⟩ = some (.int .i64 b1) := Ky1.out.cell 1
          have y1_2 : W19.cell? ⟨w.heap.size + 1, 2, none⟩ = some (.int .i64 b2) := Ky1.out.cell 2
          have y8_0 : W19.cell? ⟨q8, 0, none⟩ = some (.int .i64 a0) := Ky8.out.cell 0
          have y8_1 : W19.cell? ⟨q8, 1, none⟩ = some (.int .i64 a1) := Ky8.out.cell 1
          have y8_2 : W19.cell? ⟨q8, 2, none⟩ = some (.int .i64 a2) := Ky8.out.cell 2
          have y8_3 : W19.cell? ⟨q8, 3, none⟩ = some (.int .i64 a3) := Ky8.out.cell 3
          have y8_4 : W19.cell? ⟨q8, 4, none⟩ = some (.int .i64 a4) := Ky8.out.cell 4
          have y12_0 : W19.cell? ⟨q12, 0, none⟩ = some (.int .i64 (r0 + b0)) := Ky12.out.cell 0
          have y12_1 : W19.cell? ⟨q12, 1, none⟩ = some (.int .i64 (r1 + b0)) := Ky12.out.cell 1
          have y12_2 : W19.cell? ⟨q12, 2, none⟩ = some (.int .i64 (r2 + b0)) := Ky12.out.cell 2
          have y12_3 : W19.cell? ⟨q12, 3, none⟩ = some (.int .i64 (r3 + b0)) := Ky12.out.cell 3
          clear HRE2
          go_upto_region 23 with (fail)
          clear hs2 Ky0 Ky8 Ky12 y0_0 y0_1 y0_2 y0_3 y8_0 y8_1 y8_2 y8_3 y8_4 y12_0 y12_1 y12_2 y12_3
          go_wp2_with (at_builtin; refine wpList_copyW rfl _ _ 88 rfl 109 i1 (.agg #[.int .i64 0, .int .i64 0, .int .i64 0]) 3 24 (by kernel_rfl) hi1 I1.out ha1 hb1 rfl (by decide) (by decide) Sn.enc (fun _ => rfl) Sn_one rfl B m cb ys rfl HM.out (HB.out.ext X.out) (by omega) HLB.out ?_; intro Pv cv V23 hro hx; have RSv := Lib.hid (rows_own (enc := Sn.enc) (k := 3) HM.out (fun _ => rfl) hro (by omega)); clear hro; replace X := Lib.hid (X.out.trans hx); replace Ky1 := Lib.hid (Ky1.out.ext hx); clear hx y1_0 y1_1 y1_2; refine Hid.out ?_)
          refine Lib.hid ?_
          have y1_0 : V23.cell? ⟨w.heap.size + 1, 0, none⟩ = some (.int .i64 b0) := Ky1.out.cell 0
          have y1_1 : V23.cell? ⟨w.heap.size + 1, 1, none⟩ = some (.int .i64 b1) := Ky1.out.cell 1
          have y1_2 : V23.cell? ⟨w.heap.size + 1, 2, none⟩ = some (.int .i64 b2) := Ky1.out.cell 2
          go_wp2_with (go_at_call 52; refine (HBO.out _ _ _ RSv.out).mono ?_; rintro e V24 ⟨D, ⟨dc, rfl⟩, hd, hx⟩; replace X := Lib.hid (X.out.trans hx); replace Ky1 := Lib.hid (Ky1.out.ext hx); clear hx y1_0 y1_1 y1_2; have RD := Lib.hid hd; clear hd; refine Hid.out ?_)
          refine Lib.hid ?_
          have y1_0 : V24.cell? ⟨w.heap.size + 1, 0, none⟩ = some (.int .i64 b0) := Ky1.out.cell 0
          have y1_1 : V24.cell? ⟨w.heap.size + 1, 1, none⟩ = some (.int .i64 b1) := Ky1.out.cell 1
          have y1_2 : V24.cell? ⟨w.heap.size + 1, 2, none⟩ = some (.int .i64 b2) := Ky1.out.cell 2
          clear RSv
          obtain ⟨db, do_, rfl, hdb, hd0⟩ := row_at RD.out HB0.out
          obtain ⟨db2, do2, hde, hdb2, hd1⟩ := row_at RD.out HBm.out
          obtain ⟨rfl, rfl⟩ : db = db2 ∧ do_ = do2 := by simpa using hde
          simp only [Nat.zero_mul, Nat.add_zero] at hd0
          have e0 : V24.cell? ⟨db, do_, none⟩ = some (.int .i64 0) := by simpa using hd0 0 _ rfl
          have e1 : V24.cell? ⟨db, do_ + 1, none⟩ = some (.int .i64 0) := hd0 1 _ rfl
          have e2 : V24.cell? ⟨db, do_ + 2, none⟩ = some (.int .i64 0) := hd0 2 _ rfl
          have e3 : V24.cell? ⟨db, do_ + 3, none⟩ = some (.int .i64 0) := hd0 3 _ rfl
          have f0 : V24.cell? ⟨db, do_ + (m - 1) * 4, none⟩ = some (.int .i64 0) := hd1 0 _ rfl
          have f1 : V24.cell? ⟨db, do_ + (m - 1) * 4 + 1, none⟩ = some (.int .i64 0) := hd1 1 _ rfl
          have f2 : V24.cell? ⟨db, do_ + (m - 1) * 4 + 2, none⟩ = some (.int .i64 0) := hd1 2 _ rfl
          have f3 : V24.cell? ⟨db, do_ + (m - 1) * 4 + 3, none⟩ = some (.int .i64 0) := hd1 3 _ rfl
          have g1 : (0 : Int) < (m : Int) := by omega
          have g2 : 0 < m := by omega
          have g3 : (m : Int) - 1 < (m : Int) := by omega
          have g4 : (0 : Int) ≤ (m : Int) - 1 := by omega
          have g5 : ((m : Int) - 1).toNat = m - 1 := by omega
          have g6 : IntKind.i64.wrap ((m : Int) - 1) = (m : Int) - 1 := wrap_id _ (by omega) (by omega)
          have g8 : m - 1 < m := by omega
          have g9 : 1 ≤ m := by omega
          clear hd0 hd1 hde hdb2
          go_upto_region 26 with (fail)
          clear e0 e1 e2 e3 f0 f1 f2 f3 g1 g2 g3 g4 g5 g6 g8 g9
          have HDB := Lib.hid hdb
          have SW4 := Lib.hid (show w.heap.size + 1 < V24.heap.size from Ky1.out.lt)
          clear hdb
          go_wp2_with (at_builtin; refine wpList_copyW rfl _ _ 88 rfl 109 i1 (.agg #[.int .i64 0, .int .i64 0, .int .i64 0]) 3 24 (by kernel_rfl) hi1 I1.out ha1 hb1 rfl (by decide) (by decide) Sn.enc (fun _ => rfl) Sn_one rfl B m cb ys rfl HM.out (HB.out.ext X.out) (by omega) HLB.out ?_; intro Pm cm V26 hro hx; have OM := Lib.hid hro; clear hro; replace X := Lib.hid (X.out.trans hx); replace Ky1 := Lib.hid (Ky1.out.ext hx); replace RD := Lib.hid (RD.out.ext hx); clear hx y1_0 y1_1 y1_2; refine Hid.out ?_)
          refine Lib.hid ?_
          go_wp2
          go_loopw [19] (fun i wr => ∃ k : Nat, k ≤ m ∧ i = .int .i64 (k : Int) ∧ Ext w wr ∧ Blk wr (w.heap.size + 1) 105 #[.int .i64 b0, .int .i64 b1, .int .i64 b2] ∧ RowsAt 4 Bw.enc wr (some ⟨db, do_, none⟩) (bowsL ys m) ∧ wr.ownsRow V24.heap.size 109 3 (.slice Pm m cm) m ((mapG (movF b0 b1 b2 ys) ys m k).flatMap Sn.enc)) (fun i _ => m - (intOf i).toNat)
          case atStart => exact ⟨0, by omega, rfl, X.out, Ky1.out, RD.out, by rw [mapG_zero HM.out]; exact OM.out⟩
          case round =>
            clear X Ky1 RD OM
            obtain ⟨k, hk, rfl, hx, h1, h2, h3⟩ := hrel
            have X := Lib.hid hx
            have Ky1 := Lib.hid h1
            have RD := Lib.hid h2
            have OM := Lib.hid h3
            clear hx h1 h2 h3
            by_cases hlt : k < m
            · have HR := Lib.hid (mapG_at (f := movF b0 b1 b2 ys) (xs := ys) (k := k) hlt)
              rw [if_neg (by omega)] at HR
              have HNX := Lib.hid (mapG_next (f := movF b0 b1 b2 ys) (xs := ys) hlt)
              rw [show movF b0 b1 b2 ys k = movS b0 b1 b2 (ys.getD k default) from rfl] at HNX
              have hst := HST.out k (by have := HM.out; omega)
              obtain ⟨g, rfl, hg⟩ := own_at OM.out (by omega)
              generalize ys.getD k default = x at *
              have hki : (k : Int) < (m : Int) := by omega
              have hk0 : (0 : Int) ≤ (k : Int) := by omega
              have hk1 : ((k : Int)).toNat = k := by omega
              obtain ⟨V, hV⟩ : ∃ V, V = wr := ⟨_, rfl⟩
              rw [← hV] at X Ky1 RD OM ⊢
              clear hV
              have E := flat_atG (k := 3) (enc := Sn.enc) (fun _ => rfl) (mapG (movF b0 b1 b2 ys) ys m k) k x
              have c0 : V.cell? ⟨g, k * 3, none⟩ = some (.int .i64 x.t) := (own_cell OM.out (E 0 _ HR.out rfl)).1
              have c1 : V.cell? ⟨g, k * 3 + 1, none⟩ = some (.int .i64 x.x) := (own_cell OM.out (E 1 _ HR.out rfl)).1
              have c2 : V.cell? ⟨g, k * 3 + 2, none⟩ = some (.int .i64 x.y) := (own_cell OM.out (E 2 _ HR.out rfl)).1
              have fr1 : V.frozen? ⟨g, k * 3 + 1, none⟩ = false := (own_cell OM.out (E 1 _ HR.out rfl)).2
              have fr2 : V.frozen? ⟨g, k * 3 + 2, none⟩ = false := (own_cell OM.out (E 2 _ HR.out rfl)).2
              have n1 : ¬ w.heap.size + 1 = g := fun he => own_notBlk OM.out Ky1.out (by decide) (by rw [he]; rfl)
              have n2 : ¬ g = w.heap.size + 1 := fun h => n1 h.symm
              have n3 : w.heap.size ≤ g := by have := SW4.out; omega
              have HN4 := Lib.hid (fun b o (hb : some (⟨db, do_, none⟩ : Addr) = some ⟨b, o, none⟩) => show b ≠ g from by
                obtain ⟨rfl, rfl⟩ : db = b ∧ do_ = o := by simpa using hb
                have := HDB.out
                omega)
              have y1_0 : V.cell? ⟨w.heap.size + 1, 0, none⟩ = some (.int .i64 b0) := Ky1.out.cell 0
              have y1_1 : V.cell? ⟨w.heap.size + 1, 1, none⟩ = some (.int .i64 b1) := Ky1.out.cell 1
              have y1_2 : V.cell? ⟨w.heap.size + 1, 2, none⟩ = some (.int .i64 b2) := Ky1.out.cell 2
              have m1 := mul_bd (a := b1) (b := x.t) (A := 100) (B := 10000) HBB.out.2.1 (by omega)
              have m2 := mul_bd (a := b2) (b := x.t) (A := 100) (B := 10000) HBB.out.2.2 (by omega)
              have hb0 := HBB.out.1
              have w1 : IntKind.i64.wrap (x.x + b0) = x.x + b0 := wrap_id _ (by omega) (by omega)
              have w2 : IntKind.i64.wrap (b1 * x.t) = b1 * x.t := wrap_id _ (by omega) (by omega)
              have w3 : IntKind.i64.wrap (x.x + b0 + b1 * x.t) = x.x + b0 + b1 * x.t := wrap_id _ (by omega) (by omega)
              have w4 : IntKind.i64.wrap (b2 * x.t) = b2 * x.t := wrap_id _ (by omega) (by omega)
              have w5 : IntKind.i64.wrap (x.y + b2 * x.t) = x.y + b2 * x.t := wrap_id _ (by omega) (by omega)
              clear m1 m2 hb0 hst hg
              obtain ⟨Va, hVa⟩ : ∃ W, W = V.drew.setCell ⟨g, k * 3 + 1, none⟩ (.int .i64 (x.x + b0 + b1 * x.t)) := ⟨_, rfl⟩
              obtain ⟨Vb, hVb⟩ : ∃ W, W = Va.setCell ⟨g, k * 3 + 2, none⟩ (.int .i64 (x.y + b2 * x.t)) := ⟨_, rfl⟩
              have OMa := own_setCell (own_ext OM.out (Ext.drew V)) (k * 3 + 1) (.int .i64 (x.x + b0 + b1 * x.t))
              rw [← hVa] at OMa
              have Kb := (Ky1.out.drew).setOther (p := ⟨g, k * 3 + 1, none⟩) (show w.heap.size + 1 ≠ g from n1) (.int .i64 (x.x + b0 + b1 * x.t))
              rw [← hVa] at Kb
              have C0 := Lib.hid (fun W (h : W = V.drew ∨ W = Va) => show W.cell? ⟨g, k * 3, none⟩ = some (.int .i64 x.t) from by
                rcases h with h | h
                · rw [h]; exact c0
                · rw [h]; exact (own_cell OMa (by rw [List.getElem?_set_ne (show k * 3 + 1 ≠ k * 3 by omega)]; exact E 0 _ HR.out rfl)).1)
              have C1 := Lib.hid (fun W (h : W = V.drew) => show W.cell? ⟨g, k * 3 + 1, none⟩ = some (.int .i64 x.x) from by rw [h]; exact c1)
              have C2 := Lib.hid (fun W (h : W = V.drew ∨ W = Va) => show W.cell? ⟨g, k * 3 + 2, none⟩ = some (.int .i64 x.y) from by
                rcases h with h | h
                · rw [h]; exact c2
                · rw [h]; exact (own_cell OMa (by rw [List.getElem?_set_ne (show k * 3 + 1 ≠ k * 3 + 2 by omega)]; exact E 2 _ HR.out rfl)).1)
              have fa : Va.frozen? ⟨g, k * 3 + 2, none⟩ = false := (own_cell OMa (by rw [List.getElem?_set_ne (show k * 3 + 1 ≠ k * 3 + 2 by omega)]; exact E 2 _ HR.out rfl)).2
              have ca_ : Va.cell? ⟨g, k * 3 + 2, none⟩ = some (.int .i64 x.y) := C2.out Va (.inr rfl)
              have cd : V.drew.cell? ⟨g, k * 3 + 1, none⟩ = some (.int .i64 x.x) := c1
              have fd : V.drew.frozen? ⟨g, k * 3 + 1, none⟩ = false := fr1
              have D0 := Lib.hid (fun W (h : W = V.drew ∨ W = Va) => show W.cell? ⟨w.heap.size + 1, 0, none⟩ = some (.int .i64 b0) from by
                rcases h with h | h
                · rw [h]; exact Ky1.out.drew.cell 0
                · rw [h]; exact Kb.cell 0)
              have D1 := Lib.hid (fun W (h : W = V.drew ∨ W = Va) => show W.cell? ⟨w.heap.size + 1, 1, none⟩ = some (.int .i64 b1) from by
                rcases h with h | h
                · rw [h]; exact Ky1.out.drew.cell 1
                · rw [h]; exact Kb.cell 1)
              have D2 := Lib.hid (fun W (h : W = V.drew ∨ W = Va) => show W.cell? ⟨w.heap.size + 1, 2, none⟩ = some (.int .i64 b2) from by
                rcases h with h | h
                · rw [h]; exact Ky1.out.drew.cell 2
                · rw [h]; exact Kb.cell 2)
              have HVa := Lib.hid hVa
              have HVb := Lib.hid hVb
              clear hVa hVb OMa Kb E c0 c2 fr2 y1_0 y1_1 y1_2
              go_upto_region 30 with (fail)
              refine wp_region_seq [.pre, .pre, .post, .post, .pre, .pre, .pre, .pre, .pre, .pre, .pre, .pre, .pre, .pre, .pre, .pre, .pre, .pre, .pre, .pre, .pre, .pre, .pre, .pre, .pre, .pre, .post, .post, .pre, .pre, .pre, .pre, .pre, .post, .post, .pre, .pre, .s1, .post, .post, .s2] 37 40 [some 183, some 184, some 185, some 186, some 187, some 188, some 189, some 190, some 191, some 192, some 193, some 194, some 195, some 196, some 197, some 198, some 199, some 200, some 201, some 202, some 203, some 204, some 205, some 206, some 207, some 208, some 209, some 210, some 211, some 212, some 213, some 214, some 215, some 216, some 217, some 218, some 219, none, some 220, some 221, none] [[18], [19], [18], [19], [18], [19], [187, 188], [189], [190], [5], [192], [191, 193], [5], [195], [18], [19], [197, 198], [199], [200], [196, 201], [194, 202], [18], [19], [204, 205], [206], [207], [5], [209], [18], [19], [211, 212], [213], [214], [210, 215], [208, 216], [183, 184], [218], [219, 203], [185, 186], [220], [221, 217]]
                [Is (.slice (some ⟨g, 0, none⟩) m cm), Is (.int .i64 ((k : Int))), Is (.slice (some ⟨g, 0, none⟩) m cm), Is (.int .i64 ((k : Int))), Is (.slice (some ⟨g, 0, none⟩) m cm), Is (.int .i64 ((k : Int))), Is (.pointer (some ⟨g, k * 3, none⟩)), Is (.pointer (some ⟨g, k * 3 + 1, none⟩)), Is (.int .i64 (x.x)), Is (.pointer (some ⟨w.heap.size + 1, 0, none⟩)), Is (.int .i64 (b0)), Is (.int .i64 (x.x + b0)), Is (.pointer (some ⟨w.heap.size + 1, 1, none⟩)), Is (.int .i64 (b1)), Is (.slice (some ⟨g, 0, none⟩) m cm), Is (.int .i64 ((k : Int))), Is (.pointer (some ⟨g, k * 3, none⟩)), Is (.pointer (some ⟨g, k * 3, none⟩)), Is (.int .i64 (x.t)), Is (.int .i64 (b1 * x.t)), Is (.int .i64 (x.x + b0 + b1 * x.t)), Is (.slice (some ⟨g, 0, none⟩) m cm), Is (.int .i64 ((k : Int))), Is (.pointer (some ⟨g, k * 3, none⟩)), Is (.pointer (some ⟨g, k * 3 + 2, none⟩)), Is (.int .i64 (x.y)), Is (.pointer (some ⟨w.heap.size + 1, 2, none⟩)), Is (.int .i64 (b2)), Is (.slice (some ⟨g, 0, none⟩) m cm), Is (.int .i64 ((k : Int))), Is (.pointer (some ⟨g, k * 3, none⟩)), Is (.pointer (some ⟨g, k * 3, none⟩)), Is (.int .i64 (x.t)), Is (.int .i64 (b2 * x.t)), Is (.int .i64 (x.y + b2 * x.t)), Is (.pointer (some ⟨g, k * 3, none⟩)), Is (.pointer (some ⟨g, k * 3 + 1, none⟩)), fun _ _ => True, Is (.pointer (some ⟨g, k * 3, none⟩)), Is (.pointer (some ⟨g, k * 3 + 2, none⟩)), fun _ _ => True]
                (by kernel_rfl) (by kernel_rfl) (by kernel_rfl) (by kernel_rfl) (by kernel_rfl) (by kernel_rfl) (by kernel_rfl) (by kernel_rfl) (by kernel_rfl) (by kernel_rfl) ?_ Va Vb ?_ ?_
              · repeat (refine ⟨fun _ _ _ _ k h => (by first | exact h | exact (IntsAt.ext h k)), ?_⟩)
                exact trivial
              · refine ⟨?_, ?_, ?_, ?_, ?_, ?_, ?_, ?_, ?_, ?_, ?_, ?_, ?_, ?_, ?_, ?_, ?_, ?_, ?_, ?_, ?_, ?_, ?_, ?_, ?_, ?_, ?_, ?_, ?_, ?_, ?_, ?_, ?_, ?_, ?_, ?_, ?_, ?_, ?_, ?_, ?_, trivial⟩
                · intro ρ W ⟨kc, kg, kf⟩ hF hs
                  replace hF := Lib.hid hF
                  obtain ⟨h0, -⟩ := hs
                  replace h0 : ρ (.tmp 18) = .slice (some ⟨g, 0, none⟩) m cm := h0
                  go_simp
                  exact rfl
                · intro ρ W ⟨kc, kg, kf⟩ hF hs
                  replace hF := Lib.hid hF
                  obtain ⟨h0, -⟩ := hs
                  replace h0 : ρ (.tmp 19) = .int .i64 ((k : Int)) := h0
                  go_simp
                  exact rfl
                · intro ρ W ⟨kc, kg, kf⟩ hF hs
                  replace hF := Lib.hid hF
                  obtain ⟨h0, -⟩ := hs
                  replace h0 : ρ (.tmp 18) = .slice (some ⟨g, 0, none⟩) m cm := h0
                  go_simp
                  exact rfl
                · intro ρ W ⟨kc, kg, kf⟩ hF hs
                  replace hF := Lib.hid hF
                  obtain ⟨h0, -⟩ := hs
                  replace h0 : ρ (.tmp 19) = .int .i64 ((k : Int)) := h0
                  go_simp
                  exact rfl
                · intro ρ W ⟨kc, kg, kf⟩ hF hs
                  replace hF := Lib.hid hF
                  obtain ⟨h0, -⟩ := hs
                  replace h0 : ρ (.tmp 18) = .slice (some ⟨g, 0, none⟩) m cm := h0
                  go_simp
                  exact rfl
                · intro ρ W ⟨kc, kg, kf⟩ hF hs
                  replace hF := Lib.hid hF
                  obtain ⟨h0, -⟩ := hs
                  replace h0 : ρ (.tmp 19) = .int .i64 ((k : Int)) := h0
                  go_simp
                  exact rfl
                · intro ρ W ⟨kc, kg, kf⟩ hF hs
                  replace hF := Lib.hid hF
                  obtain ⟨h0, h1, -⟩ := hs
                  replace h0 : ρ (.tmp 187) = .slice (some ⟨g, 0, none⟩) m cm := h0
                  replace h1 : ρ (.tmp 188) = .int .i64 ((k : Int)) := h1
                  go_simp
                  exact rfl
                · intro ρ W ⟨kc, kg, kf⟩ hF hs
                  replace hF := Lib.hid hF
                  obtain ⟨h0, -⟩ := hs
                  replace h0 : ρ (.tmp 189) = .pointer (some ⟨g, k * 3, none⟩) := h0
                  go_simp
                  exact rfl
                · intro ρ W ⟨kc, kg, kf⟩ hF hs
                  replace hF := Lib.hid hF
                  obtain ⟨h0, -⟩ := hs
                  replace h0 : ρ (.tmp 190) = .pointer (some ⟨g, k * 3 + 1, none⟩) := h0
                  have hc0 : W.cell? ⟨g, k * 3 + 1, none⟩ = some (.int .i64 (x.x)) := (by first | exact C1.out W hF.out | exact C1.out W (.inl hF.out))
                  go_simp
                  exact rfl
                · intro ρ W ⟨kc, kg, kf⟩ hF hs
                  replace hF := Lib.hid hF
                  obtain ⟨h0, -⟩ := hs
                  replace h0 : ρ (.tmp 5) = .pointer (some ⟨w.heap.size + 1, 0, none⟩) := h0
                  go_simp
                  exact rfl
                · intro ρ W ⟨kc, kg, kf⟩ hF hs
                  replace hF := Lib.hid hF
                  obtain ⟨h0, -⟩ := hs
                  replace h0 : ρ (.tmp 192) = .pointer (some ⟨w.heap.size + 1, 0, none⟩) := h0
                  have hc0 : W.cell? ⟨w.heap.size + 1, 0, none⟩ = some (.int .i64 (b0)) := (by first | exact D0.out W hF.out | exact D0.out W (.inl hF.out))
                  go_simp
                  exact rfl
                · intro ρ W ⟨kc, kg, kf⟩ hF hs
                  replace hF := Lib.hid hF
                  obtain ⟨h0, h1, -⟩ := hs
                  replace h0 : ρ (.tmp 191) = .int .i64 (x.x) := h0
                  replace h1 : ρ (.tmp 193) = .int .i64 (b0) := h1
                  go_simp
                  exact rfl
                · intro ρ W ⟨kc, kg, kf⟩ hF hs
                  replace hF := Lib.hid hF
                  obtain ⟨h0, -⟩ := hs
                  replace h0 : ρ (.tmp 5) = .pointer (some ⟨w.heap.size + 1, 0, none⟩) := h0
                  go_simp
                  exact rfl
                · intro ρ W ⟨kc, kg, kf⟩ hF hs
                  replace hF := Lib.hid hF
                  obtain ⟨h0, -⟩ := hs
                  replace h0 : ρ (.tmp 195) = .pointer (some ⟨w.heap.size + 1, 1, none⟩) := h0
                  have hc0 : W.cell? ⟨w.heap.size + 1, 1, none⟩ = some (.int .i64 (b1)) := (by first | exact D1.out W hF.out | exact D1.out W (.inl hF.out))
                  go_simp
                  exact rfl
                · intro ρ W ⟨kc, kg, kf⟩ hF hs
                  replace hF := Lib.hid hF
                  obtain ⟨h0, -⟩ := hs
                  replace h0 : ρ (.tmp 18) = .slice (some ⟨g, 0, none⟩) m cm := h0
                  go_simp
                  exact rfl
                · intro ρ W ⟨kc, kg, kf⟩ hF hs
                  replace hF := Lib.hid hF
                  obtain ⟨h0, -⟩ := hs
                  replace h0 : ρ (.tmp 19) = .int .i64 ((k : Int)) := h0
                  go_simp
                  exact rfl
                · intro ρ W ⟨kc, kg, kf⟩ hF hs
                  replace hF := Lib.hid hF
                  obtain ⟨h0, h1, -⟩ := hs
                  replace h0 : ρ (.tmp 197) = .slice (some ⟨g, 0, none⟩) m cm := h0
                  replace h1 : ρ (.tmp 198) = .int .i64 ((k : Int)) := h1
                  go_simp
                  exact rfl
                · intro ρ W ⟨kc, kg, kf⟩ hF hs
                  replace hF := Lib.hid hF
                  obtain ⟨h0, -⟩ := hs
                  replace h0 : ρ (.tmp 199) = .pointer (some ⟨g, k * 3, none⟩) := h0
                  go_simp
                  exact rfl
                · intro ρ W ⟨kc, kg, kf⟩ hF hs
                  replace hF := Lib.hid hF
                  obtain ⟨h0, -⟩ := hs
                  replace h0 : ρ (.tmp 200) = .pointer (some ⟨g, k * 3, none⟩) := h0
                  have hc0 : W.cell? ⟨g, k * 3, none⟩ = some (.int .i64 (x.t)) := (by first | exact C0.out W hF.out | exact C0.out W (.inl hF.out))
                  go_simp
                  exact rfl
                · intro ρ W ⟨kc, kg, kf⟩ hF hs
                  replace hF := Lib.hid hF
                  obtain ⟨h0, h1, -⟩ := hs
                  replace h0 : ρ (.tmp 196) = .int .i64 (b1) := h0
                  replace h1 : ρ (.tmp 201) = .int .i64 (x.t) := h1
                  go_simp
                  exact rfl
                · intro ρ W ⟨kc, kg, kf⟩ hF hs
                  replace hF := Lib.hid hF
                  obtain ⟨h0, h1, -⟩ := hs
                  replace h0 : ρ (.tmp 194) = .int .i64 (x.x + b0) := h0
                  replace h1 : ρ (.tmp 202) = .int .i64 (b1 * x.t) := h1
                  go_simp
                  exact rfl
                · intro ρ W ⟨kc, kg, kf⟩ hF hs
                  replace hF := Lib.hid hF
                  obtain ⟨h0, -⟩ := hs
                  replace h0 : ρ (.tmp 18) = .slice (some ⟨g, 0, none⟩) m cm := h0
                  go_simp
                  exact rfl
                · intro ρ W ⟨kc, kg, kf⟩ hF hs
                  replace hF := Lib.hid hF
                  obtain ⟨h0, -⟩ := hs
                  replace h0 : ρ (.tmp 19) = .int .i64 ((k : Int)) := h0
                  go_simp
                  exact rfl
                · intro ρ W ⟨kc, kg, kf⟩ hF hs
                  replace hF := Lib.hid hF
                  obtain ⟨h0, h1, -⟩ := hs
                  replace h0 : ρ (.tmp 204) = .slice (some ⟨g, 0, none⟩) m cm := h0
                  replace h1 : ρ (.tmp 205) = .int .i64 ((k : Int)) := h1
                  go_simp
                  exact rfl
                · intro ρ W ⟨kc, kg, kf⟩ hF hs
                  replace hF := Lib.hid hF
                  obtain ⟨h0, -⟩ := hs
                  replace h0 : ρ (.tmp 206) = .pointer (some ⟨g, k * 3, none⟩) := h0
                  go_simp
                  exact rfl
                · intro ρ W ⟨kc, kg, kf⟩ hF hs
                  replace hF := Lib.hid hF
                  obtain ⟨h0, -⟩ := hs
                  replace h0 : ρ (.tmp 207) = .pointer (some ⟨g, k * 3 + 2, none⟩) := h0
                  have hc0 : W.cell? ⟨g, k * 3 + 2, none⟩ = some (.int .i64 (x.y)) := (by first | exact C2.out W hF.out | exact C2.out W (.inl hF.out))
                  go_simp
                  exact rfl
                · intro ρ W ⟨kc, kg, kf⟩ hF hs
                  replace hF := Lib.hid hF
                  obtain ⟨h0, -⟩ := hs
                  replace h0 : ρ (.tmp 5) = .pointer (some ⟨w.heap.size + 1, 0, none⟩) := h0
                  go_simp
                  exact rfl
                · intro ρ W ⟨kc, kg, kf⟩ hF hs
                  replace hF := Lib.hid hF
                  obtain ⟨h0, -⟩ := hs
                  replace h0 : ρ (.tmp 209) = .pointer (some ⟨w.heap.size + 1, 2, none⟩) := h0
                  have hc0 : W.cell? ⟨w.heap.size + 1, 2, none⟩ = some (.int .i64 (b2)) := (by first | exact D2.out W hF.out | exact D2.out W (.inl hF.out))
                  go_simp
                  exact rfl
                · intro ρ W ⟨kc, kg, kf⟩ hF hs
                  replace hF := Lib.hid hF
                  obtain ⟨h0, -⟩ := hs
                  replace h0 : ρ (.tmp 18) = .slice (some ⟨g, 0, none⟩) m cm := h0
                  go_simp
                  exact rfl
                · intro ρ W ⟨kc, kg, kf⟩ hF hs
                  replace hF := Lib.hid hF
                  obtain ⟨h0, -⟩ := hs
                  replace h0 : ρ (.tmp 19) = .int .i64 ((k : Int)) := h0
                  go_simp
                  exact rfl
                · intro ρ W ⟨kc, kg, kf⟩ hF hs
                  replace hF := Lib.hid hF
                  obtain ⟨h0, h1, -⟩ := hs
                  replace h0 : ρ (.tmp 211) = .slice (some ⟨g, 0, none⟩) m cm := h0
                  replace h1 : ρ (.tmp 212) = .int .i64 ((k : Int)) := h1
                  go_simp
                  exact rfl
                · intro ρ W ⟨kc, kg, kf⟩ hF hs
                  replace hF := Lib.hid hF
                  obtain ⟨h0, -⟩ := hs
                  replace h0 : ρ (.tmp 213) = .pointer (some ⟨g, k * 3, none⟩) := h0
                  go_simp
                  exact rfl
                · intro ρ W ⟨kc, kg, kf⟩ hF hs
                  replace hF := Lib.hid hF
                  obtain ⟨h0, -⟩ := hs
                  replace h0 : ρ (.tmp 214) = .pointer (some ⟨g, k * 3, none⟩) := h0
                  have hc0 : W.cell? ⟨g, k * 3, none⟩ = some (.int .i64 (x.t)) := (by first | exact C0.out W hF.out | exact C0.out W (.inl hF.out))
                  go_simp
                  exact rfl
                · intro ρ W ⟨kc, kg, kf⟩ hF hs
                  replace hF := Lib.hid hF
                  obtain ⟨h0, h1, -⟩ := hs
                  replace h0 : ρ (.tmp 210) = .int .i64 (b2) := h0
                  replace h1 : ρ (.tmp 215) = .int .i64 (x.t) := h1
                  go_simp
                  exact rfl
                · intro ρ W ⟨kc, kg, kf⟩ hF hs
                  replace hF := Lib.hid hF
                  obtain ⟨h0, h1, -⟩ := hs
                  replace h0 : ρ (.tmp 208) = .int .i64 (x.y) := h0
                  replace h1 : ρ (.tmp 216) = .int .i64 (b2 * x.t) := h1
                  go_simp
                  exact rfl
                · intro ρ W ⟨kc, kg, kf⟩ hF hs
                  replace hF := Lib.hid hF
                  obtain ⟨h0, h1, -⟩ := hs
                  replace h0 : ρ (.tmp 183) = .slice (some ⟨g, 0, none⟩) m cm := h0
                  replace h1 : ρ (.tmp 184) = .int .i64 ((k : Int)) := h1
                  go_simp
                  exact rfl
                · intro ρ W ⟨kc, kg, kf⟩ hF hs
                  replace hF := Lib.hid hF
                  obtain ⟨h0, -⟩ := hs
                  replace h0 : ρ (.tmp 218) = .pointer (some ⟨g, k * 3, none⟩) := h0
                  go_simp
                  exact rfl
                · intro ρ W ⟨kc, kg, kf⟩ hF hs
                  replace hF := Lib.hid hF
                  obtain ⟨h0, h1, -⟩ := hs
                  replace h0 : ρ (.tmp 219) = .pointer (some ⟨g, k * 3 + 1, none⟩) := h0
                  replace h1 : ρ (.tmp 203) = .int .i64 (x.x + b0 + b1 * x.t) := h1
                  replace hF := hF.out
                  subst hF
                  rw [HVa.out]
                  go_simp
                · intro ρ W ⟨kc, kg, kf⟩ hF hs
                  replace hF := Lib.hid hF
                  obtain ⟨h0, h1, -⟩ := hs
                  replace h0 : ρ (.tmp 185) = .slice (some ⟨g, 0, none⟩) m cm := h0
                  replace h1 : ρ (.tmp 186) = .int .i64 ((k : Int)) := h1
                  go_simp
                  exact rfl
                · intro ρ W ⟨kc, kg, kf⟩ hF hs
                  replace hF := Lib.hid hF
                  obtain ⟨h0, -⟩ := hs
                  replace h0 : ρ (.tmp 220) = .pointer (some ⟨g, k * 3, none⟩) := h0
                  go_simp
                  exact rfl
                · intro ρ W ⟨kc, kg, kf⟩ hF hs
                  replace hF := Lib.hid hF
                  obtain ⟨h0, h1, -⟩ := hs
                  replace h0 : ρ (.tmp 221) = .pointer (some ⟨g, k * 3 + 2, none⟩) := h0
                  replace h1 : ρ (.tmp 217) = .int .i64 (x.y + b2 * x.t) := h1
                  replace hF := hF.out
                  subst hF
                  rw [HVb.out]
                  go_simp
              · intro fv hs
                obtain ⟨-, -, -, -, -, -, -, -, -, -, -, -, -, -, -, -, -, -, -, -, -, -, -, -, -, -, -, -, -, -, -, -, -, -, -, -, -, -, -, -⟩ := hs
                simp only [fin, List.filterMap]
                go_simp
                have REL := Lib.hid (show Ext w Vb ∧ Blk Vb (w.heap.size + 1) 105 #[.int .i64 b0, .int .i64 b1, .int .i64 b2] ∧ RowsAt 4 Bw.enc Vb (some ⟨db, do_, none⟩) (bowsL ys m) ∧ Vb.ownsRow V24.heap.size 109 3 (.slice (some ⟨g, 0, none⟩) m cm) m ((mapG (movF b0 b1 b2 ys) ys m (k + 1)).flatMap Sn.enc) from by
                  rw [HVb.out, HVa.out, HNX.out]
                  exact ⟨Ext.set (Ext.set (X.out.trans (Ext.drew _)) n3 _) n3 _, (Ky1.out.drew.setOther n1 _).setOther n1 _, rows_setOther (rows_setOther (RD.out.ext (Ext.drew _)) (fun b o hb => HN4.out b o hb) _) (fun b o hb => HN4.out b o hb) _, set_stn (own_ext OM.out (Ext.drew _)) HR.out _ _⟩)
                clear HVa HVb n1 n3 C0 C1 C2 D0 D1 D2 fa ca_ cd fd w1 w2 w3 w4 w5 c1 fr1 n2 hk0 hk1
                go_wp2
                go_roundw
                case rel => exact ⟨k + 1, by omega, by go_num, REL.out⟩
                case measure => simp [intOf]; omega
            · obtain rfl : m = k := by omega
              have hkn : ¬ (m : Int) < (m : Int) := by omega
              have RM := Lib.hid (rows_own (enc := Sn.enc) (k := 3) (mapG_len _ _ _ _) (fun _ => rfl) OM.out (by omega))
              have HMV := Lib.hid (bowsL_moved HM.out b0 b1 b2)
              have HML := Lib.hid (mapG_len (movF b0 b1 b2 ys) ys m m)
              generalize (mapG (movF b0 b1 b2 ys) ys m m) = mv at *
              have HT2 := Lib.hid (fun W (r : RowsAt 3 Sn.enc W Pm mv) => refStationsErr_any (ca := cm) HML.out (fun _ => r) (by unfold maxLen; omega))
              have HB2 := Lib.hid (fun (h : stnsE mv = 0) W (r : RowsAt 3 Sn.enc W Pm mv) => show Calls Try.prog 52 #[.slice Pm m cm] W fun e w' => ∃ F, (∃ fc, e = .returned (.tuple #[.slice F m fc, .int .i64 0])) ∧ RowsAt 4 Bw.enc w' F (bowsL ys m) ∧ Ext W w' from by have := bowsOf_ok (ca := cm) HML.out r h; rw [HMV.out] at this; exact this)
              generalize stnsE mv = te2 at *
              clear OM HMV
              go_wp2_with (go_at_call 57; refine (HT2.out _ RM.out).mono ?_; rintro e W31 ⟨rfl, hx⟩; replace X := Lib.hid (X.out.trans hx); replace RD := Lib.hid (RD.out.ext hx); replace RM := Lib.hid (RM.out.ext hx); clear hx ; refine Hid.out ?_)
              refine Lib.hid ?_
              by_cases hu : te2 = 0
              · replace HB2 := Lib.hid (fun W r => HB2.out hu W r)
                subst hu
                go_wp2_with (go_at_call 52; refine (HB2.out _ RM.out).mono ?_; rintro e W33 ⟨F, ⟨fc, rfl⟩, hd, hx⟩; replace X := Lib.hid (X.out.trans hx); replace RD := Lib.hid (RD.out.ext hx); replace RM := Lib.hid (RM.out.ext hx); clear hx ; have RE := Lib.hid hd; clear hd; refine Hid.out ?_)
                refine Lib.hid ?_
                go_wp2_with (go_at_call 58; refine (bows_any HBL.out RE.out HBL.out RD.out).mono ?_; rintro e W34 ⟨b, rfl, hb, hx⟩; obtain rfl : b = true := hb.2 rfl; clear hb; replace X := Lib.hid (X.out.trans hx); clear hx)
                go_ret
                exact ⟨ret_bool (by simp), X.out⟩
              · have hu2 : (te2 != 0) = true := by simp [hu]
                go_wp2
                go_ret
                exact ⟨rfl, X.out⟩

end Go.Proofs.Ytjdilmmpdlcimaa
