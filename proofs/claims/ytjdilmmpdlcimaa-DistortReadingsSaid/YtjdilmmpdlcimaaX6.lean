/- DistortReadings. -/
import Derived.Test.YtjdilmmpdlcimaaX4
import Derived.Test.YtjdilmmpdlcimaaX5
import Derived.Test.YtjdilmmpdlcimaaYA
import Derived.Test.YtjdilmmpdlcimaaE4b
import Derived.Test.YtjdilmmpdlcimaaC15
import Derived.Lib.MinMax
import Derived.Deep.DeepCutAuto
import Derived.BigRegion
import Derived.Laws.AppendOwn
import Derived.Laws.AppendOwnNone
import Derived.BigQuiet
import Derived.Laws.StructEq

namespace Go.Proofs.Ytjdilmmpdlcimaa
open Go.RowKit Go.Shelf Go.Mem Go.RegInv
attribute [local go_sem] RelUpon_value RelUpon_skip RelUpon_enter BigFrame.eval_const BigFrame.eval_global BigFrame.eval_func


set_option maxRecDepth 100000 in
set_option maxHeartbeats 4000000 in
theorem readings_long {A : Option Addr} {n ca : Nat} (r0 r1 r2 r3 : Int) {B : Option Addr} {m cb : Nat} {w : World} (ln : n ≤ maxLen) (lm : m ≤ maxLen) (h : ¬ (n ≤ 22 ∧ m ≤ 22)) :
    Calls Try.prog 10 #[.slice A n ca, .agg #[.int .i64 r0, .int .i64 r1, .int .i64 r2, .int .i64 r3], .slice B m cb] w fun e w' => e = .returned (.bool true) ∧ Ext w w' := by
  have h1 : n ≤ 9223372036854775807 := ln
  have h2 : m ≤ 9223372036854775807 := lm
  clear ln lm
  by_cases hn : n ≤ 22
  · have hdn : decide ((22 : Int) < (n : Int)) = false := by simp; omega
    have hdm : decide ((22 : Int) < (m : Int)) = true := by simp; omega
    clear h hn
    obtain ⟨W0, hW0⟩ : ∃ W0, W0 = w.alloc (.cells #[.int .i64 r0, .int .i64 r1, .int .i64 r2, .int .i64 r3] 87) := ⟨_, rfl⟩
    have Ky0 := Lib.hid (show Blk W0 (w.heap.size) 87 #[.int .i64 r0, .int .i64 r1, .int .i64 r2, .int .i64 r3] by rw [hW0]; exact Blk.new _ _ _)
    have X := Lib.hid (show Ext w W0 by rw [hW0]; exact Ext.alloc _ _)
    have y0_0 : W0.cell? ⟨w.heap.size, 0, none⟩ = some (.int .i64 r0) := Ky0.out.cell 0
    have y0_1 : W0.cell? ⟨w.heap.size, 1, none⟩ = some (.int .i64 r1) := Ky0.out.cell 1
    have y0_2 : W0.cell? ⟨w.heap.size, 2, none⟩ = some (.int .i64 r2) := Ky0.out.cell 2
    have y0_3 : W0.cell? ⟨w.heap.size, 3, none⟩ = some (.int .i64 r3) := Ky0.out.cell 3
    go_enter Try.func10, Try.ntmps10
    go_upto_region 1 with (fail)
    rw [← hW0]
    clear hW0
    go_wp2_with (go_at_call 13; refine (awake_any _).mono ?_; rintro e W1 ⟨rfl, hx⟩; replace X := Lib.hid (X.out.trans hx); replace Ky0 := Lib.hid (Ky0.out.ext hx); clear hx y0_0 y0_1 y0_2 y0_3; refine Hid.out ?_)
    refine Lib.hid ?_
    have y0_0 : W1.cell? ⟨w.heap.size, 0, none⟩ = some (.int .i64 r0) := Ky0.out.cell 0
    have y0_1 : W1.cell? ⟨w.heap.size, 1, none⟩ = some (.int .i64 r1) := Ky0.out.cell 1
    have y0_2 : W1.cell? ⟨w.heap.size, 2, none⟩ = some (.int .i64 r2) := Ky0.out.cell 2
    have y0_3 : W1.cell? ⟨w.heap.size, 3, none⟩ = some (.int .i64 r3) := Ky0.out.cell 3
    go_wp2
    go_ret
    exact ⟨rfl, X.out⟩
  · have hdn : decide ((22 : Int) < (n : Int)) = true := by simp; omega
    clear h hn
    obtain ⟨W0, hW0⟩ : ∃ W0, W0 = w.alloc (.cells #[.int .i64 r0, .int .i64 r1, .int .i64 r2, .int .i64 r3] 87) := ⟨_, rfl⟩
    have Ky0 := Lib.hid (show Blk W0 (w.heap.size) 87 #[.int .i64 r0, .int .i64 r1, .int .i64 r2, .int .i64 r3] by rw [hW0]; exact Blk.new _ _ _)
    have X := Lib.hid (show Ext w W0 by rw [hW0]; exact Ext.alloc _ _)
    have y0_0 : W0.cell? ⟨w.heap.size, 0, none⟩ = some (.int .i64 r0) := Ky0.out.cell 0
    have y0_1 : W0.cell? ⟨w.heap.size, 1, none⟩ = some (.int .i64 r1) := Ky0.out.cell 1
    have y0_2 : W0.cell? ⟨w.heap.size, 2, none⟩ = some (.int .i64 r2) := Ky0.out.cell 2
    have y0_3 : W0.cell? ⟨w.heap.size, 3, none⟩ = some (.int .i64 r3) := Ky0.out.cell 3
    go_enter Try.func10, Try.ntmps10
    go_upto_region 1 with (fail)
    rw [← hW0]
    clear hW0
    go_wp2_with (go_at_call 13; refine (awake_any _).mono ?_; rintro e W1 ⟨rfl, hx⟩; replace X := Lib.hid (X.out.trans hx); replace Ky0 := Lib.hid (Ky0.out.ext hx); clear hx y0_0 y0_1 y0_2 y0_3; refine Hid.out ?_)
    refine Lib.hid ?_
    have y0_0 : W1.cell? ⟨w.heap.size, 0, none⟩ = some (.int .i64 r0) := Ky0.out.cell 0
    have y0_1 : W1.cell? ⟨w.heap.size, 1, none⟩ = some (.int .i64 r1) := Ky0.out.cell 1
    have y0_2 : W1.cell? ⟨w.heap.size, 2, none⟩ = some (.int .i64 r2) := Ky0.out.cell 2
    have y0_3 : W1.cell? ⟨w.heap.size, 3, none⟩ = some (.int .i64 r3) := Ky0.out.cell 3
    go_wp2
    go_ret
    exact ⟨rfl, X.out⟩
set_option maxRecDepth 100000 in
set_option maxHeartbeats 4000000 in
theorem readings_few {A : Option Addr} {n ca : Nat} {xs : List Se} (r0 r1 r2 r3 : Int) {B : Option Addr} {m cb : Nat} {ys : List Sn} {w : World} (hn : xs.length = n) (hA : RowsAt 3 Se.enc w A xs) (hna : A = none → ca = 0) (hm : ys.length = m) (hB : RowsAt 3 Sn.enc w B ys) (hnb : B = none → cb = 0) (h22 : n ≤ 22) (hm22 : m ≤ 22) :
    Calls Try.prog 10 #[.slice A n ca, .agg #[.int .i64 r0, .int .i64 r1, .int .i64 r2, .int .i64 r3], .slice B m cb] w fun e w' => e = .returned (.bool true) ∧ Ext w w' := by
  have hdn : decide ((22 : Int) < (n : Int)) = false := by simp; omega
  have hdm : decide ((22 : Int) < (m : Int)) = false := by simp; omega
  obtain ⟨i0, hi0, hz0, ha0, hb0⟩ := info_parts infoSeG
  have I0 := Lib.hid hz0
  obtain ⟨i1, hi1, hz1, ha1, hb1⟩ := info_parts infoSnG
  have I1 := Lib.hid hz1
  clear hz0 hz1
  have HGO := Lib.hid (fun W P c (r : RowsAt 3 Se.enc W P xs) => growthOf_any (ca := c) hn r)
  have HGR := Lib.hid (fun (h : sectsE xs = 0) W (e : Ext w W) => refGrowth_any (ca := ca) hn (hA.ext e) h)
  have HZG := Lib.hid (show ¬ sectsE xs = 0 → (growV xs).1 = 0 ∧ (growV xs).2 = 0 from fun h => by unfold growV; rw [if_neg h]; exact ⟨rfl, rfl⟩)
  have HSE := Lib.hid (fun W (e : Ext w W) => refSectionsErr_any (ca := ca) hn (fun _ => hA.ext e) (by unfold maxLen; omega))
  have HRO := Lib.hid (fun W => show Calls Try.prog 51 #[.agg #[.int .i64 r0, .int .i64 r1, .int .i64 r2, .int .i64 r3]] W fun e w' => e = .returned (.tuple #[.agg #[.int .i64 (if readE r0 r1 r2 r3 = 0 then runV r0 r1 r2 r3 else default).1, .int .i64 (if readE r0 r1 r2 r3 = 0 then runV r0 r1 r2 r3 else default).2.1, .int .i64 (if readE r0 r1 r2 r3 = 0 then runV r0 r1 r2 r3 else default).2.2.1, .int .i64 (if readE r0 r1 r2 r3 = 0 then runV r0 r1 r2 r3 else default).2.2.2.1, .int .i64 (if readE r0 r1 r2 r3 = 0 then runV r0 r1 r2 r3 else default).2.2.2.2], .int .i64 (readE r0 r1 r2 r3)]) ∧ Ext W w' from by
    by_cases hz : readE r0 r1 r2 r3 = 0
    · rw [if_pos hz, hz]; exact runOutOf_ok hz W
    · rw [if_neg hz]; exact runOutOf_bad hz W)
  have HZR := Lib.hid (show ¬ readE r0 r1 r2 r3 = 0 → (if readE r0 r1 r2 r3 = 0 then runV r0 r1 r2 r3 else default).1 = 0 ∧ (if readE r0 r1 r2 r3 = 0 then runV r0 r1 r2 r3 else default).2.1 = 0 ∧ (if readE r0 r1 r2 r3 = 0 then runV r0 r1 r2 r3 else default).2.2.1 = 0 ∧ (if readE r0 r1 r2 r3 = 0 then runV r0 r1 r2 r3 else default).2.2.2.1 = 0 ∧ (if readE r0 r1 r2 r3 = 0 then runV r0 r1 r2 r3 else default).2.2.2.2 = 0 from fun h => by rw [if_neg h]; exact ⟨rfl, rfl, rfl, rfl, rfl⟩)
  have HRR := Lib.hid (fun (h : readE r0 r1 r2 r3 = 0) W => show Calls Try.prog 56 #[.agg #[.int .i64 r0, .int .i64 r1, .int .i64 r2, .int .i64 r3]] W fun e w' => e = .returned (.agg #[.int .i64 (if readE r0 r1 r2 r3 = 0 then runV r0 r1 r2 r3 else default).1, .int .i64 (if readE r0 r1 r2 r3 = 0 then runV r0 r1 r2 r3 else default).2.1, .int .i64 (if readE r0 r1 r2 r3 = 0 then runV r0 r1 r2 r3 else default).2.2.1, .int .i64 (if readE r0 r1 r2 r3 = 0 then runV r0 r1 r2 r3 else default).2.2.2.1, .int .i64 (if readE r0 r1 r2 r3 = 0 then runV r0 r1 r2 r3 else default).2.2.2.2]) ∧ Ext W w' from by
    rw [if_pos h]; exact refRunOut_any r0 r1 r2 r3 h W)
  have HRE := Lib.hid (fun W => readingsErr_any r0 r1 r2 r3 W)
  have HBO := Lib.hid (fun W P c (r : RowsAt 3 Sn.enc W P ys) => show Calls Try.prog 52 #[.slice P m c] W fun e w' => ∃ D k dc, e = .returned (.tuple #[.slice D k dc, .int .i64 (stnsE ys)]) ∧ BowsP (stnsE ys) m (bowsL ys m) D k w' ∧ Ext W w' from by
    by_cases hz : stnsE ys = 0
    · refine (bowsOf_ok (ca := c) hm r hz).mono ?_
      rintro e w' ⟨D, ⟨dc, rfl⟩, hr, hx⟩
      exact ⟨D, m, dc, by rw [hz], ⟨fun _ => ⟨rfl, hr⟩, fun h => absurd hz h⟩, hx⟩
    · refine (bowsOf_bad (ca := c) hm r hz).mono ?_
      rintro e w' ⟨rfl, hx⟩
      exact ⟨none, 0, 0, rfl, ⟨fun h => absurd h hz, fun _ => rfl⟩, hx⟩)
  have HBR := Lib.hid (fun (h : stnsE ys = 0) W (e : Ext w W) => refBows_any (ca := cb) hm (hB.ext e) h)
  have HTE := Lib.hid (fun W (e : Ext w W) => refStationsErr_any (ca := cb) hm (fun _ => hB.ext e) (by unfold maxLen; omega))
  have HBL := Lib.hid (bowsL_len ys m)
  generalize bowsL ys m = bl at *
  generalize stnsE ys = te at *
  generalize (if readE r0 r1 r2 r3 = 0 then runV r0 r1 r2 r3 else default) = rv at *
  generalize readE r0 r1 r2 r3 = re at *
  generalize growV xs = gv at *
  generalize sectsE xs = se at *
  obtain ⟨a0, a1, a2, a3, a4⟩ := rv
  obtain ⟨g1, g2⟩ := gv
  dsimp only at HRO HZR HRR HGO HGR HZG
  have HN := Lib.hid hn
  have HA := Lib.hid hA
  have HLA := Lib.hid hna
  have HM := Lib.hid hm
  have HB := Lib.hid hB
  have HLB := Lib.hid hnb
  clear hn hA hna hm hB hnb
  obtain ⟨W0, hW0⟩ : ∃ W0, W0 = w.alloc (.cells #[.int .i64 r0, .int .i64 r1, .int .i64 r2, .int .i64 r3] 87) := ⟨_, rfl⟩
  have Ky0 := Lib.hid (show Blk W0 (w.heap.size) 87 #[.int .i64 r0, .int .i64 r1, .int .i64 r2, .int .i64 r3] by rw [hW0]; exact Blk.new _ _ _)
  have X := Lib.hid (show Ext w W0 by rw [hW0]; exact Ext.alloc _ _)
  have y0_0 : W0.cell? ⟨w.heap.size, 0, none⟩ = some (.int .i64 r0) := Ky0.out.cell 0
  have y0_1 : W0.cell? ⟨w.heap.size, 1, none⟩ = some (.int .i64 r1) := Ky0.out.cell 1
  have y0_2 : W0.cell? ⟨w.heap.size, 2, none⟩ = some (.int .i64 r2) := Ky0.out.cell 2
  have y0_3 : W0.cell? ⟨w.heap.size, 3, none⟩ = some (.int .i64 r3) := Ky0.out.cell 3
  go_enter Try.func10, Try.ntmps10
  go_upto_region 1 with (fail)
  rw [← hW0]
  clear hW0
  go_wp2_with (go_at_call 13; refine (awake_any _).mono ?_; rintro e W1 ⟨rfl, hx⟩; replace X := Lib.hid (X.out.trans hx); replace Ky0 := Lib.hid (Ky0.out.ext hx); clear hx y0_0 y0_1 y0_2 y0_3; refine Hid.out ?_)
  refine Lib.hid ?_
  have y0_0 : W1.cell? ⟨w.heap.size, 0, none⟩ = some (.int .i64 r0) := Ky0.out.cell 0
  have y0_1 : W1.cell? ⟨w.heap.size, 1, none⟩ = some (.int .i64 r1) := Ky0.out.cell 1
  have y0_2 : W1.cell? ⟨w.heap.size, 2, none⟩ = some (.int .i64 r2) := Ky0.out.cell 2
  have y0_3 : W1.cell? ⟨w.heap.size, 3, none⟩ = some (.int .i64 r3) := Ky0.out.cell 3
  go_wp2_with (at_builtin; refine wpList_copyW rfl _ _ 86 rfl 122 i0 (.agg #[.int .i64 0, .int .i64 0, .int .i64 0]) 3 24 (by kernel_rfl) hi0 I0.out ha0 hb0 rfl (by decide) (by decide) Se.enc (fun _ => rfl) Se_one rfl A n ca xs rfl HN.out (HA.out.ext X.out) (by omega) HLA.out ?_; intro Pu cu W2 hro hx; have RSu := Lib.hid (rows_own (enc := Se.enc) (k := 3) HN.out (fun _ => rfl) hro (by omega)); clear hro; replace X := Lib.hid (X.out.trans hx); replace Ky0 := Lib.hid (Ky0.out.ext hx); clear hx y0_0 y0_1 y0_2 y0_3; refine Hid.out ?_)
  refine Lib.hid ?_
  have y0_0 : W2.cell? ⟨w.heap.size, 0, none⟩ = some (.int .i64 r0) := Ky0.out.cell 0
  have y0_1 : W2.cell? ⟨w.heap.size, 1, none⟩ = some (.int .i64 r1) := Ky0.out.cell 1
  have y0_2 : W2.cell? ⟨w.heap.size, 2, none⟩ = some (.int .i64 r2) := Ky0.out.cell 2
  have y0_3 : W2.cell? ⟨w.heap.size, 3, none⟩ = some (.int .i64 r3) := Ky0.out.cell 3
  go_wp2_with (go_at_call 50; refine (HGO.out _ _ _ RSu.out).mono ?_; rintro e W3 ⟨rfl, hx⟩; replace X := Lib.hid (X.out.trans hx); replace Ky0 := Lib.hid (Ky0.out.ext hx); clear hx y0_0 y0_1 y0_2 y0_3; refine Hid.out ?_)
  refine Lib.hid ?_
  have y0_0 : W3.cell? ⟨w.heap.size, 0, none⟩ = some (.int .i64 r0) := Ky0.out.cell 0
  have y0_1 : W3.cell? ⟨w.heap.size, 1, none⟩ = some (.int .i64 r1) := Ky0.out.cell 1
  have y0_2 : W3.cell? ⟨w.heap.size, 2, none⟩ = some (.int .i64 r2) := Ky0.out.cell 2
  have y0_3 : W3.cell? ⟨w.heap.size, 3, none⟩ = some (.int .i64 r3) := Ky0.out.cell 3
  clear HGO RSu
  obtain ⟨q7, hq⟩ : ∃ q, q = W3.heap.size := ⟨_, rfl⟩
  obtain ⟨V4, hV⟩ : ∃ V, V = W3.alloc (.cells #[.int .i64 g1, .int .i64 g2] 33) := ⟨_, rfl⟩
  have hx : Ext W3 V4 := by rw [hV]; exact Ext.alloc _ _
  have Ky7 := Lib.hid (show Blk V4 q7 33 #[.int .i64 g1, .int .i64 g2] by rw [hV, hq]; exact Blk.new _ _ _)
  go_upto_region 6 with (fail)
  rw [← hV, ← hq]
  replace X := Lib.hid (X.out.trans hx)
  replace Ky0 := Lib.hid (Ky0.out.ext hx)
  clear hx y0_0 y0_1 y0_2 y0_3
  clear hV hq
  have y0_0 : V4.cell? ⟨w.heap.size, 0, none⟩ = some (.int .i64 r0) := Ky0.out.cell 0
  have y0_1 : V4.cell? ⟨w.heap.size, 1, none⟩ = some (.int .i64 r1) := Ky0.out.cell 1
  have y0_2 : V4.cell? ⟨w.heap.size, 2, none⟩ = some (.int .i64 r2) := Ky0.out.cell 2
  have y0_3 : V4.cell? ⟨w.heap.size, 3, none⟩ = some (.int .i64 r3) := Ky0.out.cell 3
  have y7_0 : V4.cell? ⟨q7, 0, none⟩ = some (.int .i64 g1) := Ky7.out.cell 0
  have y7_1 : V4.cell? ⟨q7, 1, none⟩ = some (.int .i64 g2) := Ky7.out.cell 1
  go_wp2_with (go_at_call 51; refine (HRO.out _).mono ?_; rintro e W5 ⟨rfl, hx⟩; replace X := Lib.hid (X.out.trans hx); replace Ky0 := Lib.hid (Ky0.out.ext hx); replace Ky7 := Lib.hid (Ky7.out.ext hx); clear hx y0_0 y0_1 y0_2 y0_3 y7_0 y7_1; refine Hid.out ?_)
  refine Lib.hid ?_
  have y0_0 : W5.cell? ⟨w.heap.size, 0, none⟩ = some (.int .i64 r0) := Ky0.out.cell 0
  have y0_1 : W5.cell? ⟨w.heap.size, 1, none⟩ = some (.int .i64 r1) := Ky0.out.cell 1
  have y0_2 : W5.cell? ⟨w.heap.size, 2, none⟩ = some (.int .i64 r2) := Ky0.out.cell 2
  have y0_3 : W5.cell? ⟨w.heap.size, 3, none⟩ = some (.int .i64 r3) := Ky0.out.cell 3
  have y7_0 : W5.cell? ⟨q7, 0, none⟩ = some (.int .i64 g1) := Ky7.out.cell 0
  have y7_1 : W5.cell? ⟨q7, 1, none⟩ = some (.int .i64 g2) := Ky7.out.cell 1
  obtain ⟨q9, hq⟩ : ∃ q, q = W5.heap.size := ⟨_, rfl⟩
  obtain ⟨V6, hV⟩ : ∃ V, V = W5.alloc (.cells #[.int .i64 a0, .int .i64 a1, .int .i64 a2, .int .i64 a3, .int .i64 a4] 91) := ⟨_, rfl⟩
  have hx : Ext W5 V6 := by rw [hV]; exact Ext.alloc _ _
  have Ky9 := Lib.hid (show Blk V6 q9 91 #[.int .i64 a0, .int .i64 a1, .int .i64 a2, .int .i64 a3, .int .i64 a4] by rw [hV, hq]; exact Blk.new _ _ _)
  go_upto_region 7 with (fail)
  rw [← hV, ← hq]
  replace X := Lib.hid (X.out.trans hx)
  replace Ky0 := Lib.hid (Ky0.out.ext hx)
  replace Ky7 := Lib.hid (Ky7.out.ext hx)
  clear hx y0_0 y0_1 y0_2 y0_3 y7_0 y7_1
  clear hV hq
  have y0_0 : V6.cell? ⟨w.heap.size, 0, none⟩ = some (.int .i64 r0) := Ky0.out.cell 0
  have y0_1 : V6.cell? ⟨w.heap.size, 1, none⟩ = some (.int .i64 r1) := Ky0.out.cell 1
  have y0_2 : V6.cell? ⟨w.heap.size, 2, none⟩ = some (.int .i64 r2) := Ky0.out.cell 2
  have y0_3 : V6.cell? ⟨w.heap.size, 3, none⟩ = some (.int .i64 r3) := Ky0.out.cell 3
  have y7_0 : V6.cell? ⟨q7, 0, none⟩ = some (.int .i64 g1) := Ky7.out.cell 0
  have y7_1 : V6.cell? ⟨q7, 1, none⟩ = some (.int .i64 g2) := Ky7.out.cell 1
  have y9_0 : V6.cell? ⟨q9, 0, none⟩ = some (.int .i64 a0) := Ky9.out.cell 0
  have y9_1 : V6.cell? ⟨q9, 1, none⟩ = some (.int .i64 a1) := Ky9.out.cell 1
  have y9_2 : V6.cell? ⟨q9, 2, none⟩ = some (.int .i64 a2) := Ky9.out.cell 2
  have y9_3 : V6.cell? ⟨q9, 3, none⟩ = some (.int .i64 a3) := Ky9.out.cell 3
  have y9_4 : V6.cell? ⟨q9, 4, none⟩ = some (.int .i64 a4) := Ky9.out.cell 4
  go_wp2_with (at_builtin; refine wpList_copyW rfl _ _ 88 rfl 109 i1 (.agg #[.int .i64 0, .int .i64 0, .int .i64 0]) 3 24 (by kernel_rfl) hi1 I1.out ha1 hb1 rfl (by decide) (by decide) Sn.enc (fun _ => rfl) Sn_one rfl B m cb ys rfl HM.out (HB.out.ext X.out) (by omega) HLB.out ?_; intro Pv cv W7 hro hx; have RSv := Lib.hid (rows_own (enc := Sn.enc) (k := 3) HM.out (fun _ => rfl) hro (by omega)); clear hro; replace X := Lib.hid (X.out.trans hx); replace Ky0 := Lib.hid (Ky0.out.ext hx); replace Ky7 := Lib.hid (Ky7.out.ext hx); replace Ky9 := Lib.hid (Ky9.out.ext hx); clear hx y0_0 y0_1 y0_2 y0_3 y7_0 y7_1 y9_0 y9_1 y9_2 y9_3 y9_4; refine Hid.out ?_)
  refine Lib.hid ?_
  have y0_0 : W7.cell? ⟨w.heap.size, 0, none⟩ = some (.int .i64 r0) := Ky0.out.cell 0
  have y0_1 : W7.cell? ⟨w.heap.size, 1, none⟩ = some (.int .i64 r1) := Ky0.out.cell 1
  have y0_2 : W7.cell? ⟨w.heap.size, 2, none⟩ = some (.int .i64 r2) := Ky0.out.cell 2
  have y0_3 : W7.cell? ⟨w.heap.size, 3, none⟩ = some (.int .i64 r3) := Ky0.out.cell 3
  have y7_0 : W7.cell? ⟨q7, 0, none⟩ = some (.int .i64 g1) := Ky7.out.cell 0
  have y7_1 : W7.cell? ⟨q7, 1, none⟩ = some (.int .i64 g2) := Ky7.out.cell 1
  have y9_0 : W7.cell? ⟨q9, 0, none⟩ = some (.int .i64 a0) := Ky9.out.cell 0
  have y9_1 : W7.cell? ⟨q9, 1, none⟩ = some (.int .i64 a1) := Ky9.out.cell 1
  have y9_2 : W7.cell? ⟨q9, 2, none⟩ = some (.int .i64 a2) := Ky9.out.cell 2
  have y9_3 : W7.cell? ⟨q9, 3, none⟩ = some (.int .i64 a3) := Ky9.out.cell 3
  have y9_4 : W7.cell? ⟨q9, 4, none⟩ = some (.int .i64 a4) := Ky9.out.cell 4
  go_wp2_with (go_at_call 52; refine (HBO.out _ _ _ RSv.out).mono ?_; rintro e W8 ⟨D, dk, dc, rfl, hd, hx⟩; replace X := Lib.hid (X.out.trans hx); replace Ky0 := Lib.hid (Ky0.out.ext hx); replace Ky7 := Lib.hid (Ky7.out.ext hx); replace Ky9 := Lib.hid (Ky9.out.ext hx); clear hx y0_0 y0_1 y0_2 y0_3 y7_0 y7_1 y9_0 y9_1 y9_2 y9_3 y9_4; have RD := Lib.hid hd; clear hd; refine Hid.out ?_)
  refine Lib.hid ?_
  have y0_0 : W8.cell? ⟨w.heap.size, 0, none⟩ = some (.int .i64 r0) := Ky0.out.cell 0
  have y0_1 : W8.cell? ⟨w.heap.size, 1, none⟩ = some (.int .i64 r1) := Ky0.out.cell 1
  have y0_2 : W8.cell? ⟨w.heap.size, 2, none⟩ = some (.int .i64 r2) := Ky0.out.cell 2
  have y0_3 : W8.cell? ⟨w.heap.size, 3, none⟩ = some (.int .i64 r3) := Ky0.out.cell 3
  have y7_0 : W8.cell? ⟨q7, 0, none⟩ = some (.int .i64 g1) := Ky7.out.cell 0
  have y7_1 : W8.cell? ⟨q7, 1, none⟩ = some (.int .i64 g2) := Ky7.out.cell 1
  have y9_0 : W8.cell? ⟨q9, 0, none⟩ = some (.int .i64 a0) := Ky9.out.cell 0
  have y9_1 : W8.cell? ⟨q9, 1, none⟩ = some (.int .i64 a1) := Ky9.out.cell 1
  have y9_2 : W8.cell? ⟨q9, 2, none⟩ = some (.int .i64 a2) := Ky9.out.cell 2
  have y9_3 : W8.cell? ⟨q9, 3, none⟩ = some (.int .i64 a3) := Ky9.out.cell 3
  have y9_4 : W8.cell? ⟨q9, 4, none⟩ = some (.int .i64 a4) := Ky9.out.cell 4
  clear HBO RSv
  go_wp2_with (go_at_call 53; refine (HSE.out _ X.out).mono ?_; rintro e W9 ⟨rfl, hx⟩; replace X := Lib.hid (X.out.trans hx); replace Ky0 := Lib.hid (Ky0.out.ext hx); replace Ky7 := Lib.hid (Ky7.out.ext hx); replace Ky9 := Lib.hid (Ky9.out.ext hx); replace RD := Lib.hid (RD.out.ext hx); clear hx y0_0 y0_1 y0_2 y0_3 y7_0 y7_1 y9_0 y9_1 y9_2 y9_3 y9_4; refine Hid.out ?_)
  refine Lib.hid ?_
  have y0_0 : W9.cell? ⟨w.heap.size, 0, none⟩ = some (.int .i64 r0) := Ky0.out.cell 0
  have y0_1 : W9.cell? ⟨w.heap.size, 1, none⟩ = some (.int .i64 r1) := Ky0.out.cell 1
  have y0_2 : W9.cell? ⟨w.heap.size, 2, none⟩ = some (.int .i64 r2) := Ky0.out.cell 2
  have y0_3 : W9.cell? ⟨w.heap.size, 3, none⟩ = some (.int .i64 r3) := Ky0.out.cell 3
  have y7_0 : W9.cell? ⟨q7, 0, none⟩ = some (.int .i64 g1) := Ky7.out.cell 0
  have y7_1 : W9.cell? ⟨q7, 1, none⟩ = some (.int .i64 g2) := Ky7.out.cell 1
  have y9_0 : W9.cell? ⟨q9, 0, none⟩ = some (.int .i64 a0) := Ky9.out.cell 0
  have y9_1 : W9.cell? ⟨q9, 1, none⟩ = some (.int .i64 a1) := Ky9.out.cell 1
  have y9_2 : W9.cell? ⟨q9, 2, none⟩ = some (.int .i64 a2) := Ky9.out.cell 2
  have y9_3 : W9.cell? ⟨q9, 3, none⟩ = some (.int .i64 a3) := Ky9.out.cell 3
  have y9_4 : W9.cell? ⟨q9, 4, none⟩ = some (.int .i64 a4) := Ky9.out.cell 4
  clear HSE
  by_cases hs : se = 0
  · replace HGR := Lib.hid (fun W e => HGR.out hs W e)
    subst hs
    go_upto_region 9 with (fail)
    refine wp_region_eachM [true, true, true, false, false, false, false, false, false, false, false, true, true, true, true, true, true, true, true, true, true, true, true, true, true, true] [(49, true, false), (49, true, false), (49, true, false), (49, true, false), (53, false, false), (53, false, false), (53, false, false), (49, true, false), (59, false, true), (59, false, true), (59, false, true), (62, true, true), (62, true, true), (62, true, true), (65, false, true), (65, false, true), (65, false, true), (65, false, true), (62, true, true), (59, false, true)] [some 47, some 48, some 49, some 50, some 51, some 52, some 53, some 54, some 55, some 56, some 57, some 58, some 59, some 60, some 61, some 62, some 63, some 64, some 65, some 66, some 67, some 68, some 69, some 70, some 71, some 72] [[13], [47], [48], [8, 49], [13, 49], [50, 51, 49], [52, 49], [7, 53], [53], [54, 55, 53], [53, 56, 49], [49, 57], [58], [13, 59], [60, 59], [61, 59], [8, 62], [63, 62], [64, 62], [7, 65], [0, 65], [67, 65], [66, 68, 65], [65, 69, 62], [62, 70, 59], [59, 71]]
      [Is (.int .i64 (0)), Is (.bool (false)), Is (.bool (false)), Is (undef), Is (undef), Is (undef), Is (undef), Is (undef), Is (undef), Is (undef), Is (undef), Is (.bool (false)), Is (.bool (false)), Is (.int .i64 (0)), Is (.bool (true)), Is (.bool (true)), Is (.int .i64 (0)), Is (.bool (false)), Is (.bool (false)), Is (.agg #[.int .i64 g1, .int .i64 g2]), Is (.slice A n ca), Is (.agg #[.int .i64 g1, .int .i64 g2]), Is (.bool (false)), Is (.bool (false)), Is (.bool (false)), Is (.bool (false))]
      (by kernel_rfl) (by kernel_rfl) (by kernel_rfl) (by kernel_rfl) (by kernel_rfl) Ext (fun W => Ext W9 W)
      (fun W _ => Ext.refl W) (fun W W' h k => h.trans k) ?_ (by intro p hp; simp only [List.mem_cons, List.not_mem_nil, or_false] at hp; rcases hp with rfl | rfl | rfl | rfl | rfl | rfl | rfl | rfl | rfl | rfl | rfl | rfl | rfl | rfl | rfl | rfl | rfl | rfl | rfl | rfl <;> exact ⟨_, rfl, fun v W h => by rw [show v = _ from h]; first | (simp; done) | (simp [undef]; done)⟩) (Ext.drew _) ?_ ?_
    · repeat (refine ⟨fun _ _ _ _ k h => (by first | exact h | exact (IntsAt.ext h k)), ?_⟩)
      exact trivial
    · refine ⟨?_, ?_, ?_, ?_, ?_, ?_, ?_, ?_, ?_, ?_, ?_, ?_, ?_, ?_, ?_, ?_, ?_, ?_, ?_, ?_, ?_, ?_, ?_, ?_, ?_, ?_, trivial⟩
      · intro ρ W ⟨kc, kg, kf⟩ hF hs
        obtain ⟨h0, -⟩ := hs
        replace h0 : ρ (.tmp 13) = .int .i64 (0) := h0
        go_simp
        exact ⟨Ext.refl _, rfl⟩
      · intro ρ W ⟨kc, kg, kf⟩ hF hs
        obtain ⟨h0, -⟩ := hs
        replace h0 : ρ (.tmp 47) = .int .i64 (0) := h0
        go_simp
        exact ⟨Ext.refl _, rfl⟩
      · intro ρ W ⟨kc, kg, kf⟩ hF hs
        obtain ⟨h0, -⟩ := hs
        replace h0 : ρ (.tmp 48) = .bool (false) := h0
        go_simp
        exact ⟨Ext.refl _, rfl⟩
      · exact fun _ => rfl
      · exact fun _ => rfl
      · exact fun _ => rfl
      · exact fun _ => rfl
      · exact fun _ => rfl
      · exact fun _ => rfl
      · exact fun _ => rfl
      · exact fun _ => rfl
      · intro ρ W ⟨kc, kg, kf⟩ hF hs
        obtain ⟨h0, h1, -⟩ := hs
        replace h0 : ρ (.tmp 49) = .bool (false) := h0
        replace h1 : ρ (.tmp 57) = undef := h1
        go_simp
        exact ⟨Ext.refl _, rfl⟩
      · intro ρ W ⟨kc, kg, kf⟩ hF hs
        obtain ⟨h0, -⟩ := hs
        replace h0 : ρ (.tmp 58) = .bool (false) := h0
        go_simp
        exact ⟨Ext.refl _, rfl⟩
      · intro ρ W ⟨kc, kg, kf⟩ hF hs
        obtain ⟨h0, h1, -⟩ := hs
        replace h0 : ρ (.tmp 13) = .int .i64 (0) := h0
        replace h1 : ρ (.tmp 59) = .bool (false) := h1
        go_simp
        exact ⟨Ext.refl _, rfl⟩
      · intro ρ W ⟨kc, kg, kf⟩ hF hs
        obtain ⟨h0, h1, -⟩ := hs
        replace h0 : ρ (.tmp 60) = .int .i64 (0) := h0
        replace h1 : ρ (.tmp 59) = .bool (false) := h1
        go_simp
        exact ⟨Ext.refl _, rfl⟩
      · intro ρ W ⟨kc, kg, kf⟩ hF hs
        obtain ⟨h0, h1, -⟩ := hs
        replace h0 : ρ (.tmp 61) = .bool (true) := h0
        replace h1 : ρ (.tmp 59) = .bool (false) := h1
        go_simp
        exact ⟨Ext.refl _, rfl⟩
      · intro ρ W ⟨kc, kg, kf⟩ hF hs
        obtain ⟨h0, h1, -⟩ := hs
        replace h0 : ρ (.tmp 8) = .int .i64 (0) := h0
        replace h1 : ρ (.tmp 62) = .bool (true) := h1
        go_simp
        exact ⟨Ext.refl _, rfl⟩
      · intro ρ W ⟨kc, kg, kf⟩ hF hs
        obtain ⟨h0, h1, -⟩ := hs
        replace h0 : ρ (.tmp 63) = .int .i64 (0) := h0
        replace h1 : ρ (.tmp 62) = .bool (true) := h1
        go_simp
        exact ⟨Ext.refl _, rfl⟩
      · intro ρ W ⟨kc, kg, kf⟩ hF hs
        obtain ⟨h0, h1, -⟩ := hs
        replace h0 : ρ (.tmp 64) = .bool (false) := h0
        replace h1 : ρ (.tmp 62) = .bool (true) := h1
        go_simp
        exact ⟨Ext.refl _, rfl⟩
      · intro ρ W ⟨kc, kg, kf⟩ hF hs
        obtain ⟨h0, h1, -⟩ := hs
        replace h0 : ρ (.tmp 7) = .pointer (some ⟨q7, 0, none⟩) := h0
        replace h1 : ρ (.tmp 65) = .bool (false) := h1
        have hc0 : W.cell? ⟨q7, 0, none⟩ = some (.int .i64 g1) := hF.cell (by assumption)
        have hc1 : W.cell? ⟨q7, 1, none⟩ = some (.int .i64 g2) := hF.cell (by assumption)
        go_simp
        exact ⟨Ext.refl _, rfl⟩
      · intro ρ W ⟨kc, kg, kf⟩ hF hs
        obtain ⟨h0, h1, -⟩ := hs
        replace h0 : ρ (.tmp 0) = .slice A n ca := h0
        replace h1 : ρ (.tmp 65) = .bool (false) := h1
        go_simp
        exact ⟨Ext.refl _, rfl⟩
      · intro ρ W ⟨kc, kg, kf⟩ hF hs
        obtain ⟨h0, h1, -⟩ := hs
        replace h0 : ρ (.tmp 67) = .slice A n ca := h0
        replace h1 : ρ (.tmp 65) = .bool (false) := h1
        go_simp
        refine (HGR.out _ (X.out.trans hF)).mono ?_; rintro e w' ⟨rfl, hx⟩; exact ⟨_, rfl, hx, rfl⟩
      · intro ρ W ⟨kc, kg, kf⟩ hF hs
        obtain ⟨h0, h1, h2, -⟩ := hs
        replace h0 : ρ (.tmp 66) = .agg #[.int .i64 g1, .int .i64 g2] := h0
        replace h1 : ρ (.tmp 68) = .agg #[.int .i64 g1, .int .i64 g2] := h1
        replace h2 : ρ (.tmp 65) = .bool (false) := h2
        go_simp
        exact ⟨Ext.refl _, rfl⟩
      · intro ρ W ⟨kc, kg, kf⟩ hF hs
        obtain ⟨h0, h1, h2, -⟩ := hs
        replace h0 : ρ (.tmp 65) = .bool (false) := h0
        replace h1 : ρ (.tmp 69) = .bool (false) := h1
        replace h2 : ρ (.tmp 62) = .bool (true) := h2
        go_simp
        exact ⟨Ext.refl _, rfl⟩
      · intro ρ W ⟨kc, kg, kf⟩ hF hs
        obtain ⟨h0, h1, h2, -⟩ := hs
        replace h0 : ρ (.tmp 62) = .bool (true) := h0
        replace h1 : ρ (.tmp 70) = .bool (false) := h1
        replace h2 : ρ (.tmp 59) = .bool (false) := h2
        go_simp
        exact ⟨Ext.refl _, rfl⟩
      · intro ρ W ⟨kc, kg, kf⟩ hF hs
        obtain ⟨h0, h1, -⟩ := hs
        replace h0 : ρ (.tmp 59) = .bool (false) := h0
        replace h1 : ρ (.tmp 71) = .bool (false) := h1
        go_simp
        exact ⟨Ext.refl _, rfl⟩
    · intro fv W10 hF hs
      obtain ⟨-, -, -, -, -, -, -, -, -, -, -, -, -, -, -, -, -, -, -, -, -, -, -, -, -, h72, -⟩ := hs
      replace h72 : fv 72 = .bool (false) := h72
      simp only [fin, List.filterMap]
      go_simp
      have hx := hF
      replace X := Lib.hid (X.out.trans hx)
      replace Ky0 := Lib.hid (Ky0.out.ext hx)
      replace Ky7 := Lib.hid (Ky7.out.ext hx)
      replace Ky9 := Lib.hid (Ky9.out.ext hx)
      replace RD := Lib.hid (RD.out.ext hx)
      clear hx hF y0_0 y0_1 y0_2 y0_3 y7_0 y7_1 y9_0 y9_1 y9_2 y9_3 y9_4
      have y0_0 : W10.cell? ⟨w.heap.size, 0, none⟩ = some (.int .i64 r0) := Ky0.out.cell 0
      have y0_1 : W10.cell? ⟨w.heap.size, 1, none⟩ = some (.int .i64 r1) := Ky0.out.cell 1
      have y0_2 : W10.cell? ⟨w.heap.size, 2, none⟩ = some (.int .i64 r2) := Ky0.out.cell 2
      have y0_3 : W10.cell? ⟨w.heap.size, 3, none⟩ = some (.int .i64 r3) := Ky0.out.cell 3
      have y7_0 : W10.cell? ⟨q7, 0, none⟩ = some (.int .i64 g1) := Ky7.out.cell 0
      have y7_1 : W10.cell? ⟨q7, 1, none⟩ = some (.int .i64 g2) := Ky7.out.cell 1
      have y9_0 : W10.cell? ⟨q9, 0, none⟩ = some (.int .i64 a0) := Ky9.out.cell 0
      have y9_1 : W10.cell? ⟨q9, 1, none⟩ = some (.int .i64 a1) := Ky9.out.cell 1
      have y9_2 : W10.cell? ⟨q9, 2, none⟩ = some (.int .i64 a2) := Ky9.out.cell 2
      have y9_3 : W10.cell? ⟨q9, 3, none⟩ = some (.int .i64 a3) := Ky9.out.cell 3
      have y9_4 : W10.cell? ⟨q9, 4, none⟩ = some (.int .i64 a4) := Ky9.out.cell 4
      go_wp2_with (go_at_call 55; refine (HRE.out _).mono ?_; rintro e W11 ⟨rfl, hx⟩; replace X := Lib.hid (X.out.trans hx); replace Ky0 := Lib.hid (Ky0.out.ext hx); replace Ky7 := Lib.hid (Ky7.out.ext hx); replace Ky9 := Lib.hid (Ky9.out.ext hx); replace RD := Lib.hid (RD.out.ext hx); clear hx y0_0 y0_1 y0_2 y0_3 y7_0 y7_1 y9_0 y9_1 y9_2 y9_3 y9_4; refine Hid.out ?_)
      refine Lib.hid ?_
      have y0_0 : W11.cell? ⟨w.heap.size, 0, none⟩ = some (.int .i64 r0) := Ky0.out.cell 0
      have y0_1 : W11.cell? ⟨w.heap.size, 1, none⟩ = some (.int .i64 r1) := Ky0.out.cell 1
      have y0_2 : W11.cell? ⟨w.heap.size, 2, none⟩ = some (.int .i64 r2) := Ky0.out.cell 2
      have y0_3 : W11.cell? ⟨w.heap.size, 3, none⟩ = some (.int .i64 r3) := Ky0.out.cell 3
      have y7_0 : W11.cell? ⟨q7, 0, none⟩ = some (.int .i64 g1) := Ky7.out.cell 0
      have y7_1 : W11.cell? ⟨q7, 1, none⟩ = some (.int .i64 g2) := Ky7.out.cell 1
      have y9_0 : W11.cell? ⟨q9, 0, none⟩ = some (.int .i64 a0) := Ky9.out.cell 0
      have y9_1 : W11.cell? ⟨q9, 1, none⟩ = some (.int .i64 a1) := Ky9.out.cell 1
      have y9_2 : W11.cell? ⟨q9, 2, none⟩ = some (.int .i64 a2) := Ky9.out.cell 2
      have y9_3 : W11.cell? ⟨q9, 3, none⟩ = some (.int .i64 a3) := Ky9.out.cell 3
      have y9_4 : W11.cell? ⟨q9, 4, none⟩ = some (.int .i64 a4) := Ky9.out.cell 4
      by_cases ht : re = 0
      · replace HRR := Lib.hid (fun W => HRR.out ht W)
        subst ht
        go_upto_region 12 with (fail)
        refine wp_region_eachM [true, true, true, false, false, false, false, false, false, false, false, true, true, true, true, true, true, true, true, true, true, true, true, true, true, true] [(77, true, false), (77, true, false), (77, true, false), (77, true, false), (81, false, false), (81, false, false), (81, false, false), (77, true, false), (87, false, true), (87, false, true), (87, false, true), (90, true, true), (90, true, true), (90, true, true), (93, false, true), (93, false, true), (93, false, true), (93, false, true), (90, true, true), (87, false, true)] [some 75, some 76, some 77, some 78, some 79, some 80, some 81, some 82, some 83, some 84, some 85, some 86, some 87, some 88, some 89, some 90, some 91, some 92, some 93, some 94, some 95, some 96, some 97, some 98, some 99, some 100] [[14], [75], [76], [10, 77], [14, 77], [78, 79, 77], [80, 77], [9, 81], [81], [82, 83, 81], [81, 84, 77], [77, 85], [86], [14, 87], [88, 87], [89, 87], [10, 90], [91, 90], [92, 90], [9, 93], [4, 93], [95, 93], [94, 96, 93], [93, 97, 90], [90, 98, 87], [87, 99]]
          [Is (.int .i64 (0)), Is (.bool (false)), Is (.bool (false)), Is (undef), Is (undef), Is (undef), Is (undef), Is (undef), Is (undef), Is (undef), Is (undef), Is (.bool (false)), Is (.bool (false)), Is (.int .i64 (0)), Is (.bool (true)), Is (.bool (true)), Is (.int .i64 (0)), Is (.bool (false)), Is (.bool (false)), Is (.agg #[.int .i64 a0, .int .i64 a1, .int .i64 a2, .int .i64 a3, .int .i64 a4]), Is (.agg #[.int .i64 r0, .int .i64 r1, .int .i64 r2, .int .i64 r3]), Is (.agg #[.int .i64 a0, .int .i64 a1, .int .i64 a2, .int .i64 a3, .int .i64 a4]), Is (.bool (false)), Is (.bool (false)), Is (.bool (false)), Is (.bool (false))]
          (by kernel_rfl) (by kernel_rfl) (by kernel_rfl) (by kernel_rfl) (by kernel_rfl) Ext (fun W => Ext W11 W)
          (fun W _ => Ext.refl W) (fun W W' h k => h.trans k) ?_ (by intro p hp; simp only [List.mem_cons, List.not_mem_nil, or_false] at hp; rcases hp with rfl | rfl | rfl | rfl | rfl | rfl | rfl | rfl | rfl | rfl | rfl | rfl | rfl | rfl | rfl | rfl | rfl | rfl | rfl | rfl <;> exact ⟨_, rfl, fun v W h => by rw [show v = _ from h]; first | (simp; done) | (simp [undef]; done)⟩) (Ext.drew _) ?_ ?_
        · repeat (refine ⟨fun _ _ _ _ k h => (by first | exact h | exact (IntsAt.ext h k)), ?_⟩)
          exact trivial
        · refine ⟨?_, ?_, ?_, ?_, ?_, ?_, ?_, ?_, ?_, ?_, ?_, ?_, ?_, ?_, ?_, ?_, ?_, ?_, ?_, ?_, ?_, ?_, ?_, ?_, ?_, ?_, trivial⟩
          · intro ρ W ⟨kc, kg, kf⟩ hF hs
            obtain ⟨h0, -⟩ := hs
            replace h0 : ρ (.tmp 14) = .int .i64 (0) := h0
            go_simp
            exact ⟨Ext.refl _, rfl⟩
          · intro ρ W ⟨kc, kg, kf⟩ hF hs
            obtain ⟨h0, -⟩ := hs
            replace h0 : ρ (.tmp 75) = .int .i64 (0) := h0
            go_simp
            exact ⟨Ext.refl _, rfl⟩
          · intro ρ W ⟨kc, kg, kf⟩ hF hs
            obtain ⟨h0, -⟩ := hs
            replace h0 : ρ (.tmp 76) = .bool (false) := h0
            go_simp
            exact ⟨Ext.refl _, rfl⟩
          · exact fun _ => rfl
          · exact fun _ => rfl
          · exact fun _ => rfl
          · exact fun _ => rfl
          · exact fun _ => rfl
          · exact fun _ => rfl
          · exact fun _ => rfl
          · exact fun _ => rfl
          · intro ρ W ⟨kc, kg, kf⟩ hF hs
            obtain ⟨h0, h1, -⟩ := hs
            replace h0 : ρ (.tmp 77) = .bool (false) := h0
            replace h1 : ρ (.tmp 85) = undef := h1
            go_simp
            exact ⟨Ext.refl _, rfl⟩
          · intro ρ W ⟨kc, kg, kf⟩ hF hs
            obtain ⟨h0, -⟩ := hs
            replace h0 : ρ (.tmp 86) = .bool (false) := h0
            go_simp
            exact ⟨Ext.refl _, rfl⟩
          · intro ρ W ⟨kc, kg, kf⟩ hF hs
            obtain ⟨h0, h1, -⟩ := hs
            replace h0 : ρ (.tmp 14) = .int .i64 (0) := h0
            replace h1 : ρ (.tmp 87) = .bool (false) := h1
            go_simp
            exact ⟨Ext.refl _, rfl⟩
          · intro ρ W ⟨kc, kg, kf⟩ hF hs
            obtain ⟨h0, h1, -⟩ := hs
            replace h0 : ρ (.tmp 88) = .int .i64 (0) := h0
            replace h1 : ρ (.tmp 87) = .bool (false) := h1
            go_simp
            exact ⟨Ext.refl _, rfl⟩
          · intro ρ W ⟨kc, kg, kf⟩ hF hs
            obtain ⟨h0, h1, -⟩ := hs
            replace h0 : ρ (.tmp 89) = .bool (true) := h0
            replace h1 : ρ (.tmp 87) = .bool (false) := h1
            go_simp
            exact ⟨Ext.refl _, rfl⟩
          · intro ρ W ⟨kc, kg, kf⟩ hF hs
            obtain ⟨h0, h1, -⟩ := hs
            replace h0 : ρ (.tmp 10) = .int .i64 (0) := h0
            replace h1 : ρ (.tmp 90) = .bool (true) := h1
            go_simp
            exact ⟨Ext.refl _, rfl⟩
          · intro ρ W ⟨kc, kg, kf⟩ hF hs
            obtain ⟨h0, h1, -⟩ := hs
            replace h0 : ρ (.tmp 91) = .int .i64 (0) := h0
            replace h1 : ρ (.tmp 90) = .bool (true) := h1
            go_simp
            exact ⟨Ext.refl _, rfl⟩
          · intro ρ W ⟨kc, kg, kf⟩ hF hs
            obtain ⟨h0, h1, -⟩ := hs
            replace h0 : ρ (.tmp 92) = .bool (false) := h0
            replace h1 : ρ (.tmp 90) = .bool (true) := h1
            go_simp
            exact ⟨Ext.refl _, rfl⟩
          · intro ρ W ⟨kc, kg, kf⟩ hF hs
            obtain ⟨h0, h1, -⟩ := hs
            replace h0 : ρ (.tmp 9) = .pointer (some ⟨q9, 0, none⟩) := h0
            replace h1 : ρ (.tmp 93) = .bool (false) := h1
            have hc0 : W.cell? ⟨q9, 0, none⟩ = some (.int .i64 a0) := hF.cell (by assumption)
            have hc1 : W.cell? ⟨q9, 1, none⟩ = some (.int .i64 a1) := hF.cell (by assumption)
            have hc2 : W.cell? ⟨q9, 2, none⟩ = some (.int .i64 a2) := hF.cell (by assumption)
            have hc3 : W.cell? ⟨q9, 3, none⟩ = some (.int .i64 a3) := hF.cell (by assumption)
            have hc4 : W.cell? ⟨q9, 4, none⟩ = some (.int .i64 a4) := hF.cell (by assumption)
            go_simp
            exact ⟨Ext.refl _, rfl⟩
          · intro ρ W ⟨kc, kg, kf⟩ hF hs
            obtain ⟨h0, h1, -⟩ := hs
            replace h0 : ρ (.tmp 4) = .pointer (some ⟨w.heap.size, 0, none⟩) := h0
            replace h1 : ρ (.tmp 93) = .bool (false) := h1
            have hc0 : W.cell? ⟨w.heap.size, 0, none⟩ = some (.int .i64 r0) := hF.cell (by assumption)
            have hc1 : W.cell? ⟨w.heap.size, 1, none⟩ = some (.int .i64 r1) := hF.cell (by assumption)
            have hc2 : W.cell? ⟨w.heap.size, 2, none⟩ = some (.int .i64 r2) := hF.cell (by assumption)
            have hc3 : W.cell? ⟨w.heap.size, 3, none⟩ = some (.int .i64 r3) := hF.cell (by assumption)
            go_simp
            exact ⟨Ext.refl _, rfl⟩
          · intro ρ W ⟨kc, kg, kf⟩ hF hs
            obtain ⟨h0, h1, -⟩ := hs
            replace h0 : ρ (.tmp 95) = .agg #[.int .i64 r0, .int .i64 r1, .int .i64 r2, .int .i64 r3] := h0
            replace h1 : ρ (.tmp 93) = .bool (false) := h1
            go_simp
            refine (HRR.out _).mono ?_; rintro e w' ⟨rfl, hx⟩; exact ⟨_, rfl, hx, rfl⟩
          · intro ρ W ⟨kc, kg, kf⟩ hF hs
            obtain ⟨h0, h1, h2, -⟩ := hs
            replace h0 : ρ (.tmp 94) = .agg #[.int .i64 a0, .int .i64 a1, .int .i64 a2, .int .i64 a3, .int .i64 a4] := h0
            replace h1 : ρ (.tmp 96) = .agg #[.int .i64 a0, .int .i64 a1, .int .i64 a2, .int .i64 a3, .int .i64 a4] := h1
            replace h2 : ρ (.tmp 93) = .bool (false) := h2
            go_simp
            exact ⟨Ext.refl _, rfl⟩
          · intro ρ W ⟨kc, kg, kf⟩ hF hs
            obtain ⟨h0, h1, h2, -⟩ := hs
            replace h0 : ρ (.tmp 93) = .bool (false) := h0
            replace h1 : ρ (.tmp 97) = .bool (false) := h1
            replace h2 : ρ (.tmp 90) = .bool (true) := h2
            go_simp
            exact ⟨Ext.refl _, rfl⟩
          · intro ρ W ⟨kc, kg, kf⟩ hF hs
            obtain ⟨h0, h1, h2, -⟩ := hs
            replace h0 : ρ (.tmp 90) = .bool (true) := h0
            replace h1 : ρ (.tmp 98) = .bool (false) := h1
            replace h2 : ρ (.tmp 87) = .bool (false) := h2
            go_simp
            exact ⟨Ext.refl _, rfl⟩
          · intro ρ W ⟨kc, kg, kf⟩ hF hs
            obtain ⟨h0, h1, -⟩ := hs
            replace h0 : ρ (.tmp 87) = .bool (false) := h0
            replace h1 : ρ (.tmp 99) = .bool (false) := h1
            go_simp
            exact ⟨Ext.refl _, rfl⟩
        · intro fv W12 hF hs
          obtain ⟨-, -, -, -, -, -, -, -, -, -, -, -, -, -, -, -, -, -, -, -, -, -, -, -, -, h100, -⟩ := hs
          replace h100 : fv 100 = .bool (false) := h100
          simp only [fin, List.filterMap]
          go_simp
          have hx := hF
          replace X := Lib.hid (X.out.trans hx)
          replace Ky0 := Lib.hid (Ky0.out.ext hx)
          replace Ky7 := Lib.hid (Ky7.out.ext hx)
          replace Ky9 := Lib.hid (Ky9.out.ext hx)
          replace RD := Lib.hid (RD.out.ext hx)
          clear hx hF y0_0 y0_1 y0_2 y0_3 y7_0 y7_1 y9_0 y9_1 y9_2 y9_3 y9_4
          have y0_0 : W12.cell? ⟨w.heap.size, 0, none⟩ = some (.int .i64 r0) := Ky0.out.cell 0
          have y0_1 : W12.cell? ⟨w.heap.size, 1, none⟩ = some (.int .i64 r1) := Ky0.out.cell 1
          have y0_2 : W12.cell? ⟨w.heap.size, 2, none⟩ = some (.int .i64 r2) := Ky0.out.cell 2
          have y0_3 : W12.cell? ⟨w.heap.size, 3, none⟩ = some (.int .i64 r3) := Ky0.out.cell 3
          have y7_0 : W12.cell? ⟨q7, 0, none⟩ = some (.int .i64 g1) := Ky7.out.cell 0
          have y7_1 : W12.cell? ⟨q7, 1, none⟩ = some (.int .i64 g2) := Ky7.out.cell 1
          have y9_0 : W12.cell? ⟨q9, 0, none⟩ = some (.int .i64 a0) := Ky9.out.cell 0
          have y9_1 : W12.cell? ⟨q9, 1, none⟩ = some (.int .i64 a1) := Ky9.out.cell 1
          have y9_2 : W12.cell? ⟨q9, 2, none⟩ = some (.int .i64 a2) := Ky9.out.cell 2
          have y9_3 : W12.cell? ⟨q9, 3, none⟩ = some (.int .i64 a3) := Ky9.out.cell 3
          have y9_4 : W12.cell? ⟨q9, 4, none⟩ = some (.int .i64 a4) := Ky9.out.cell 4
          go_wp2_with (go_at_call 57; refine (HTE.out _ X.out).mono ?_; rintro e W13 ⟨rfl, hx⟩; replace X := Lib.hid (X.out.trans hx); replace Ky0 := Lib.hid (Ky0.out.ext hx); replace Ky7 := Lib.hid (Ky7.out.ext hx); replace Ky9 := Lib.hid (Ky9.out.ext hx); replace RD := Lib.hid (RD.out.ext hx); clear hx y0_0 y0_1 y0_2 y0_3 y7_0 y7_1 y9_0 y9_1 y9_2 y9_3 y9_4; refine Hid.out ?_)
          refine Lib.hid ?_
          have y0_0 : W13.cell? ⟨w.heap.size, 0, none⟩ = some (.int .i64 r0) := Ky0.out.cell 0
          have y0_1 : W13.cell? ⟨w.heap.size, 1, none⟩ = some (.int .i64 r1) := Ky0.out.cell 1
          have y0_2 : W13.cell? ⟨w.heap.size, 2, none⟩ = some (.int .i64 r2) := Ky0.out.cell 2
          have y0_3 : W13.cell? ⟨w.heap.size, 3, none⟩ = some (.int .i64 r3) := Ky0.out.cell 3
          have y7_0 : W13.cell? ⟨q7, 0, none⟩ = some (.int .i64 g1) := Ky7.out.cell 0
          have y7_1 : W13.cell? ⟨q7, 1, none⟩ = some (.int .i64 g2) := Ky7.out.cell 1
          have y9_0 : W13.cell? ⟨q9, 0, none⟩ = some (.int .i64 a0) := Ky9.out.cell 0
          have y9_1 : W13.cell? ⟨q9, 1, none⟩ = some (.int .i64 a1) := Ky9.out.cell 1
          have y9_2 : W13.cell? ⟨q9, 2, none⟩ = some (.int .i64 a2) := Ky9.out.cell 2
          have y9_3 : W13.cell? ⟨q9, 3, none⟩ = some (.int .i64 a3) := Ky9.out.cell 3
          have y9_4 : W13.cell? ⟨q9, 4, none⟩ = some (.int .i64 a4) := Ky9.out.cell 4
          by_cases hu : te = 0
          · replace HBR := Lib.hid (fun W e => HBR.out hu W e)
            obtain ⟨rfl, hrd⟩ := RD.out.1 hu
            replace RD := Lib.hid hrd
            clear hrd
            subst hu
            go_wp2_with (go_at_call 59; refine (HBR.out _ X.out).mono ?_; rintro e W14 ⟨E, ⟨ec, rfl⟩, hd, hx⟩; replace X := Lib.hid (X.out.trans hx); replace Ky0 := Lib.hid (Ky0.out.ext hx); replace Ky7 := Lib.hid (Ky7.out.ext hx); replace Ky9 := Lib.hid (Ky9.out.ext hx); replace RD := Lib.hid (RD.out.ext hx); clear hx y0_0 y0_1 y0_2 y0_3 y7_0 y7_1 y9_0 y9_1 y9_2 y9_3 y9_4; have RE := Lib.hid hd; clear hd; refine Hid.out ?_)
            refine Lib.hid ?_
            have y0_0 : W14.cell? ⟨w.heap.size, 0, none⟩ = some (.int .i64 r0) := Ky0.out.cell 0
            have y0_1 : W14.cell? ⟨w.heap.size, 1, none⟩ = some (.int .i64 r1) := Ky0.out.cell 1
            have y0_2 : W14.cell? ⟨w.heap.size, 2, none⟩ = some (.int .i64 r2) := Ky0.out.cell 2
            have y0_3 : W14.cell? ⟨w.heap.size, 3, none⟩ = some (.int .i64 r3) := Ky0.out.cell 3
            have y7_0 : W14.cell? ⟨q7, 0, none⟩ = some (.int .i64 g1) := Ky7.out.cell 0
            have y7_1 : W14.cell? ⟨q7, 1, none⟩ = some (.int .i64 g2) := Ky7.out.cell 1
            have y9_0 : W14.cell? ⟨q9, 0, none⟩ = some (.int .i64 a0) := Ky9.out.cell 0
            have y9_1 : W14.cell? ⟨q9, 1, none⟩ = some (.int .i64 a1) := Ky9.out.cell 1
            have y9_2 : W14.cell? ⟨q9, 2, none⟩ = some (.int .i64 a2) := Ky9.out.cell 2
            have y9_3 : W14.cell? ⟨q9, 3, none⟩ = some (.int .i64 a3) := Ky9.out.cell 3
            have y9_4 : W14.cell? ⟨q9, 4, none⟩ = some (.int .i64 a4) := Ky9.out.cell 4
            go_wp2_with (go_at_call 58; refine (bows_any HBL.out RD.out HBL.out RE.out).mono ?_; rintro e W15 ⟨b, rfl, hb, hx⟩; obtain rfl : b = true := hb.2 rfl; clear hb; replace X := Lib.hid (X.out.trans hx); clear hx)
            go_ret
            exact ⟨ret_bool (by simp), X.out⟩
          · have hu2 : (te != 0) = true := by simp [hu]
            have hu3 : (te == te) = true := by simp
            obtain rfl := RD.out.2 hu
            go_wp2
            go_ret
            exact ⟨rfl, X.out⟩
      · have ht2 : (re != 0) = true := by simp [ht]
        have ht3 : (re == 0) = false := by simp [ht]
        have ht4 : (re != re) = false := by simp
        obtain ⟨rfl, rfl, rfl, rfl, rfl⟩ := HZR.out ht
        go_upto_region 12 with (fail)
        go_quiet (fail)
        obtain ⟨W12, hV⟩ : ∃ V, V = World.drewN W11 nq := ⟨_, rfl⟩
        have hx : Ext W11 W12 := by rw [hV]; exact Ext.drewN _ _
        rw [← hV]
        replace X := Lib.hid (X.out.trans hx)
        replace Ky0 := Lib.hid (Ky0.out.ext hx)
        replace Ky7 := Lib.hid (Ky7.out.ext hx)
        replace Ky9 := Lib.hid (Ky9.out.ext hx)
        replace RD := Lib.hid (RD.out.ext hx)
        clear hx y0_0 y0_1 y0_2 y0_3 y7_0 y7_1 y9_0 y9_1 y9_2 y9_3 y9_4
        clear hV
        have y0_0 : W12.cell? ⟨w.heap.size, 0, none⟩ = some (.int .i64 r0) := Ky0.out.cell 0
        have y0_1 : W12.cell? ⟨w.heap.size, 1, none⟩ = some (.int .i64 r1) := Ky0.out.cell 1
        have y0_2 : W12.cell? ⟨w.heap.size, 2, none⟩ = some (.int .i64 r2) := Ky0.out.cell 2
        have y0_3 : W12.cell? ⟨w.heap.size, 3, none⟩ = some (.int .i64 r3) := Ky0.out.cell 3
        have y7_0 : W12.cell? ⟨q7, 0, none⟩ = some (.int .i64 g1) := Ky7.out.cell 0
        have y7_1 : W12.cell? ⟨q7, 1, none⟩ = some (.int .i64 g2) := Ky7.out.cell 1
        have y9_0 : W12.cell? ⟨q9, 0, none⟩ = some (.int .i64 0) := Ky9.out.cell 0
        have y9_1 : W12.cell? ⟨q9, 1, none⟩ = some (.int .i64 0) := Ky9.out.cell 1
        have y9_2 : W12.cell? ⟨q9, 2, none⟩ = some (.int .i64 0) := Ky9.out.cell 2
        have y9_3 : W12.cell? ⟨q9, 3, none⟩ = some (.int .i64 0) := Ky9.out.cell 3
        have y9_4 : W12.cell? ⟨q9, 4, none⟩ = some (.int .i64 0) := Ky9.out.cell 4
        go_wp2_with (go_at_call 57; refine (HTE.out _ X.out).mono ?_; rintro e W13 ⟨rfl, hx⟩; replace X := Lib.hid (X.out.trans hx); replace Ky0 := Lib.hid (Ky0.out.ext hx); replace Ky7 := Lib.hid (Ky7.out.ext hx); replace Ky9 := Lib.hid (Ky9.out.ext hx); replace RD := Lib.hid (RD.out.ext hx); clear hx y0_0 y0_1 y0_2 y0_3 y7_0 y7_1 y9_0 y9_1 y9_2 y9_3 y9_4; refine Hid.out ?_)
        refine Lib.hid ?_
        have y0_0 : W13.cell? ⟨w.heap.size, 0, none⟩ = some (.int .i64 r0) := Ky0.out.cell 0
        have y0_1 : W13.cell? ⟨w.heap.size, 1, none⟩ = some (.int .i64 r1) := Ky0.out.cell 1
        have y0_2 : W13.cell? ⟨w.heap.size, 2, none⟩ = some (.int .i64 r2) := Ky0.out.cell 2
        have y0_3 : W13.cell? ⟨w.heap.size, 3, none⟩ = some (.int .i64 r3) := Ky0.out.cell 3
        have y7_0 : W13.cell? ⟨q7, 0, none⟩ = some (.int .i64 g1) := Ky7.out.cell 0
        have y7_1 : W13.cell? ⟨q7, 1, none⟩ = some (.int .i64 g2) := Ky7.out.cell 1
        have y9_0 : W13.cell? ⟨q9, 0, none⟩ = some (.int .i64 0) := Ky9.out.cell 0
        have y9_1 : W13.cell? ⟨q9, 1, none⟩ = some (.int .i64 0) := Ky9.out.cell 1
        have y9_2 : W13.cell? ⟨q9, 2, none⟩ = some (.int .i64 0) := Ky9.out.cell 2
        have y9_3 : W13.cell? ⟨q9, 3, none⟩ = some (.int .i64 0) := Ky9.out.cell 3
        have y9_4 : W13.cell? ⟨q9, 4, none⟩ = some (.int .i64 0) := Ky9.out.cell 4
        by_cases hu : te = 0
        · replace HBR := Lib.hid (fun W e => HBR.out hu W e)
          obtain ⟨rfl, hrd⟩ := RD.out.1 hu
          replace RD := Lib.hid hrd
          clear hrd
          subst hu
          go_wp2_with (go_at_call 59; refine (HBR.out _ X.out).mono ?_; rintro e W14 ⟨E, ⟨ec, rfl⟩, hd, hx⟩; replace X := Lib.hid (X.out.trans hx); replace Ky0 := Lib.hid (Ky0.out.ext hx); replace Ky7 := Lib.hid (Ky7.out.ext hx); replace Ky9 := Lib.hid (Ky9.out.ext hx); replace RD := Lib.hid (RD.out.ext hx); clear hx y0_0 y0_1 y0_2 y0_3 y7_0 y7_1 y9_0 y9_1 y9_2 y9_3 y9_4; have RE := Lib.hid hd; clear hd; refine Hid.out ?_)
          refine Lib.hid ?_
          have y0_0 : W14.cell? ⟨w.heap.size, 0, none⟩ = some (.int .i64 r0) := Ky0.out.cell 0
          have y0_1 : W14.cell? ⟨w.heap.size, 1, none⟩ = some (.int .i64 r1) := Ky0.out.cell 1
          have y0_2 : W14.cell? ⟨w.heap.size, 2, none⟩ = some (.int .i64 r2) := Ky0.out.cell 2
          have y0_3 : W14.cell? ⟨w.heap.size, 3, none⟩ = some (.int .i64 r3) := Ky0.out.cell 3
          have y7_0 : W14.cell? ⟨q7, 0, none⟩ = some (.int .i64 g1) := Ky7.out.cell 0
          have y7_1 : W14.cell? ⟨q7, 1, none⟩ = some (.int .i64 g2) := Ky7.out.cell 1
          have y9_0 : W14.cell? ⟨q9, 0, none⟩ = some (.int .i64 0) := Ky9.out.cell 0
          have y9_1 : W14.cell? ⟨q9, 1, none⟩ = some (.int .i64 0) := Ky9.out.cell 1
          have y9_2 : W14.cell? ⟨q9, 2, none⟩ = some (.int .i64 0) := Ky9.out.cell 2
          have y9_3 : W14.cell? ⟨q9, 3, none⟩ = some (.int .i64 0) := Ky9.out.cell 3
          have y9_4 : W14.cell? ⟨q9, 4, none⟩ = some (.int .i64 0) := Ky9.out.cell 4
          go_wp2_with (go_at_call 58; refine (bows_any HBL.out RD.out HBL.out RE.out).mono ?_; rintro e W15 ⟨b, rfl, hb, hx⟩; obtain rfl : b = true := hb.2 rfl; clear hb; replace X := Lib.hid (X.out.trans hx); clear hx)
          go_ret
          exact ⟨ret_bool (by simp), X.out⟩
        · have hu2 : (te != 0) = true := by simp [hu]
          have hu3 : (te == te) = true := by simp
          obtain rfl := RD.out.2 hu
          go_wp2
          go_ret
          exact ⟨rfl, X.out⟩
  · have hs2 : (se != 0) = true := by simp [hs]
    have hs3 : (se == 0) = false := by simp [hs]
    have hs4 : (se != se) = false := by simp
    obtain ⟨rfl, rfl⟩ := HZG.out hs
    go_upto_region 9 with (fail)
    go_quiet (fail)
    obtain ⟨W10, hV⟩ : ∃ V, V = World.drewN W9 nq := ⟨_, rfl⟩
    have hx : Ext W9 W10 := by rw [hV]; exact Ext.drewN _ _
    rw [← hV]
    replace X := Lib.hid (X.out.trans hx)
    replace Ky0 := Lib.hid (Ky0.out.ext hx)
    replace Ky7 := Lib.hid (Ky7.out.ext hx)
    replace Ky9 := Lib.hid (Ky9.out.ext hx)
    replace RD := Lib.hid (RD.out.ext hx)
    clear hx y0_0 y0_1 y0_2 y0_3 y7_0 y7_1 y9_0 y9_1 y9_2 y9_3 y9_4
    clear hV
    have y0_0 : W10.cell? ⟨w.heap.size, 0, none⟩ = some (.int .i64 r0) := Ky0.out.cell 0
    have y0_1 : W10.cell? ⟨w.heap.size, 1, none⟩ = some (.int .i64 r1) := Ky0.out.cell 1
    have y0_2 : W10.cell? ⟨w.heap.size, 2, none⟩ = some (.int .i64 r2) := Ky0.out.cell 2
    have y0_3 : W10.cell? ⟨w.heap.size, 3, none⟩ = some (.int .i64 r3) := Ky0.out.cell 3
    have y7_0 : W10.cell? ⟨q7, 0, none⟩ = some (.int .i64 0) := Ky7.out.cell 0
    have y7_1 : W10.cell? ⟨q7, 1, none⟩ = some (.int .i64 0) := Ky7.out.cell 1
    have y9_0 : W10.cell? ⟨q9, 0, none⟩ = some (.int .i64 a0) := Ky9.out.cell 0
    have y9_1 : W10.cell? ⟨q9, 1, none⟩ = some (.int .i64 a1) := Ky9.out.cell 1
    have y9_2 : W10.cell? ⟨q9, 2, none⟩ = some (.int .i64 a2) := Ky9.out.cell 2
    have y9_3 : W10.cell? ⟨q9, 3, none⟩ = some (.int .i64 a3) := Ky9.out.cell 3
    have y9_4 : W10.cell? ⟨q9, 4, none⟩ = some (.int .i64 a4) := Ky9.out.cell 4
    go_wp2_with (go_at_call 55; refine (HRE.out _).mono ?_; rintro e W11 ⟨rfl, hx⟩; replace X := Lib.hid (X.out.trans hx); replace Ky0 := Lib.hid (Ky0.out.ext hx); replace Ky7 := Lib.hid (Ky7.out.ext hx); replace Ky9 := Lib.hid (Ky9.out.ext hx); replace RD := Lib.hid (RD.out.ext hx); clear hx y0_0 y0_1 y0_2 y0_3 y7_0 y7_1 y9_0 y9_1 y9_2 y9_3 y9_4; refine Hid.out ?_)
    refine Lib.hid ?_
    have y0_0 : W11.cell? ⟨w.heap.size, 0, none⟩ = some (.int .i64 r0) := Ky0.out.cell 0
    have y0_1 : W11.cell? ⟨w.heap.size, 1, none⟩ = some (.int .i64 r1) := Ky0.out.cell 1
    have y0_2 : W11.cell? ⟨w.heap.size, 2, none⟩ = some (.int .i64 r2) := Ky0.out.cell 2
    have y0_3 : W11.cell? ⟨w.heap.size, 3, none⟩ = some (.int .i64 r3) := Ky0.out.cell 3
    have y7_0 : W11.cell? ⟨q7, 0, none⟩ = some (.int .i64 0) := Ky7.out.cell 0
    have y7_1 : W11.cell? ⟨q7, 1, none⟩ = some (.int .i64 0) := Ky7.out.cell 1
    have y9_0 : W11.cell? ⟨q9, 0, none⟩ = some (.int .i64 a0) := Ky9.out.cell 0
    have y9_1 : W11.cell? ⟨q9, 1, none⟩ = some (.int .i64 a1) := Ky9.out.cell 1
    have y9_2 : W11.cell? ⟨q9, 2, none⟩ = some (.int .i64 a2) := Ky9.out.cell 2
    have y9_3 : W11.cell? ⟨q9, 3, none⟩ = some (.int .i64 a3) := Ky9.out.cell 3
    have y9_4 : W11.cell? ⟨q9, 4, none⟩ = some (.int .i64 a4) := Ky9.out.cell 4
    by_cases ht : re = 0
    · replace HRR := Lib.hid (fun W => HRR.out ht W)
      subst ht
      go_upto_region 12 with (fail)
      refine wp_region_eachM [true, true, true, false, false, false, false, false, false, false, false, true, true, true, true, true, true, true, true, true, true, true, true, true, true, true] [(77, true, false), (77, true, false), (77, true, false), (77, true, false), (81, false, false), (81, false, false), (81, false, false), (77, true, false), (87, false, true), (87, false, true), (87, false, true), (90, true, true), (90, true, true), (90, true, true), (93, false, true), (93, false, true), (93, false, true), (93, false, true), (90, true, true), (87, false, true)] [some 75, some 76, some 77, some 78, some 79, some 80, some 81, some 82, some 83, some 84, some 85, some 86, some 87, some 88, some 89, some 90, some 91, some 92, some 93, some 94, some 95, some 96, some 97, some 98, some 99, some 100] [[14], [75], [76], [10, 77], [14, 77], [78, 79, 77], [80, 77], [9, 81], [81], [82, 83, 81], [81, 84, 77], [77, 85], [86], [14, 87], [88, 87], [89, 87], [10, 90], [91, 90], [92, 90], [9, 93], [4, 93], [95, 93], [94, 96, 93], [93, 97, 90], [90, 98, 87], [87, 99]]
        [Is (.int .i64 (0)), Is (.bool (false)), Is (.bool (false)), Is (undef), Is (undef), Is (undef), Is (undef), Is (undef), Is (undef), Is (undef), Is (undef), Is (.bool (false)), Is (.bool (false)), Is (.int .i64 (0)), Is (.bool (true)), Is (.bool (true)), Is (.int .i64 (0)), Is (.bool (false)), Is (.bool (false)), Is (.agg #[.int .i64 a0, .int .i64 a1, .int .i64 a2, .int .i64 a3, .int .i64 a4]), Is (.agg #[.int .i64 r0, .int .i64 r1, .int .i64 r2, .int .i64 r3]), Is (.agg #[.int .i64 a0, .int .i64 a1, .int .i64 a2, .int .i64 a3, .int .i64 a4]), Is (.bool (false)), Is (.bool (false)), Is (.bool (false)), Is (.bool (false))]
        (by kernel_rfl) (by kernel_rfl) (by kernel_rfl) (by kernel_rfl) (by kernel_rfl) Ext (fun W => Ext W11 W)
        (fun W _ => Ext.refl W) (fun W W' h k => h.trans k) ?_ (by intro p hp; simp only [List.mem_cons, List.not_mem_nil, or_false] at hp; rcases hp with rfl | rfl | rfl | rfl | rfl | rfl | rfl | rfl | rfl | rfl | rfl | rfl | rfl | rfl | rfl | rfl | rfl | rfl | rfl | rfl <;> exact ⟨_, rfl, fun v W h => by rw [show v = _ from h]; first | (simp; done) | (simp [undef]; done)⟩) (Ext.drew _) ?_ ?_
      · repeat (refine ⟨fun _ _ _ _ k h => (by first | exact h | exact (IntsAt.ext h k)), ?_⟩)
        exact trivial
      · refine ⟨?_, ?_, ?_, ?_, ?_, ?_, ?_, ?_, ?_, ?_, ?_, ?_, ?_, ?_, ?_, ?_, ?_, ?_, ?_, ?_, ?_, ?_, ?_, ?_, ?_, ?_, trivial⟩
        · intro ρ W ⟨kc, kg, kf⟩ hF hs
          obtain ⟨h0, -⟩ := hs
          replace h0 : ρ (.tmp 14) = .int .i64 (0) := h0
          go_simp
          exact ⟨Ext.refl _, rfl⟩
        · intro ρ W ⟨kc, kg, kf⟩ hF hs
          obtain ⟨h0, -⟩ := hs
          replace h0 : ρ (.tmp 75) = .int .i64 (0) := h0
          go_simp
          exact ⟨Ext.refl _, rfl⟩
        · intro ρ W ⟨kc, kg, kf⟩ hF hs
          obtain ⟨h0, -⟩ := hs
          replace h0 : ρ (.tmp 76) = .bool (false) := h0
          go_simp
          exact ⟨Ext.refl _, rfl⟩
        · exact fun _ => rfl
        · exact fun _ => rfl
        · exact fun _ => rfl
        · exact fun _ => rfl
        · exact fun _ => rfl
        · exact fun _ => rfl
        · exact fun _ => rfl
        · exact fun _ => rfl
        · intro ρ W ⟨kc, kg, kf⟩ hF hs
          obtain ⟨h0, h1, -⟩ := hs
          replace h0 : ρ (.tmp 77) = .bool (false) := h0
          replace h1 : ρ (.tmp 85) = undef := h1
          go_simp
          exact ⟨Ext.refl _, rfl⟩
        · intro ρ W ⟨kc, kg, kf⟩ hF hs
          obtain ⟨h0, -⟩ := hs
          replace h0 : ρ (.tmp 86) = .bool (false) := h0
          go_simp
          exact ⟨Ext.refl _, rfl⟩
        · intro ρ W ⟨kc, kg, kf⟩ hF hs
          obtain ⟨h0, h1, -⟩ := hs
          replace h0 : ρ (.tmp 14) = .int .i64 (0) := h0
          replace h1 : ρ (.tmp 87) = .bool (false) := h1
          go_simp
          exact ⟨Ext.refl _, rfl⟩
        · intro ρ W ⟨kc, kg, kf⟩ hF hs
          obtain ⟨h0, h1, -⟩ := hs
          replace h0 : ρ (.tmp 88) = .int .i64 (0) := h0
          replace h1 : ρ (.tmp 87) = .bool (false) := h1
          go_simp
          exact ⟨Ext.refl _, rfl⟩
        · intro ρ W ⟨kc, kg, kf⟩ hF hs
          obtain ⟨h0, h1, -⟩ := hs
          replace h0 : ρ (.tmp 89) = .bool (true) := h0
          replace h1 : ρ (.tmp 87) = .bool (false) := h1
          go_simp
          exact ⟨Ext.refl _, rfl⟩
        · intro ρ W ⟨kc, kg, kf⟩ hF hs
          obtain ⟨h0, h1, -⟩ := hs
          replace h0 : ρ (.tmp 10) = .int .i64 (0) := h0
          replace h1 : ρ (.tmp 90) = .bool (true) := h1
          go_simp
          exact ⟨Ext.refl _, rfl⟩
        · intro ρ W ⟨kc, kg, kf⟩ hF hs
          obtain ⟨h0, h1, -⟩ := hs
          replace h0 : ρ (.tmp 91) = .int .i64 (0) := h0
          replace h1 : ρ (.tmp 90) = .bool (true) := h1
          go_simp
          exact ⟨Ext.refl _, rfl⟩
        · intro ρ W ⟨kc, kg, kf⟩ hF hs
          obtain ⟨h0, h1, -⟩ := hs
          replace h0 : ρ (.tmp 92) = .bool (false) := h0
          replace h1 : ρ (.tmp 90) = .bool (true) := h1
          go_simp
          exact ⟨Ext.refl _, rfl⟩
        · intro ρ W ⟨kc, kg, kf⟩ hF hs
          obtain ⟨h0, h1, -⟩ := hs
          replace h0 : ρ (.tmp 9) = .pointer (some ⟨q9, 0, none⟩) := h0
          replace h1 : ρ (.tmp 93) = .bool (false) := h1
          have hc0 : W.cell? ⟨q9, 0, none⟩ = some (.int .i64 a0) := hF.cell (by assumption)
          have hc1 : W.cell? ⟨q9, 1, none⟩ = some (.int .i64 a1) := hF.cell (by assumption)
          have hc2 : W.cell? ⟨q9, 2, none⟩ = some (.int .i64 a2) := hF.cell (by assumption)
          have hc3 : W.cell? ⟨q9, 3, none⟩ = some (.int .i64 a3) := hF.cell (by assumption)
          have hc4 : W.cell? ⟨q9, 4, none⟩ = some (.int .i64 a4) := hF.cell (by assumption)
          go_simp
          exact ⟨Ext.refl _, rfl⟩
        · intro ρ W ⟨kc, kg, kf⟩ hF hs
          obtain ⟨h0, h1, -⟩ := hs
          replace h0 : ρ (.tmp 4) = .pointer (some ⟨w.heap.size, 0, none⟩) := h0
          replace h1 : ρ (.tmp 93) = .bool (false) := h1
          have hc0 : W.cell? ⟨w.heap.size, 0, none⟩ = some (.int .i64 r0) := hF.cell (by assumption)
          have hc1 : W.cell? ⟨w.heap.size, 1, none⟩ = some (.int .i64 r1) := hF.cell (by assumption)
          have hc2 : W.cell? ⟨w.heap.size, 2, none⟩ = some (.int .i64 r2) := hF.cell (by assumption)
          have hc3 : W.cell? ⟨w.heap.size, 3, none⟩ = some (.int .i64 r3) := hF.cell (by assumption)
          go_simp
          exact ⟨Ext.refl _, rfl⟩
        · intro ρ W ⟨kc, kg, kf⟩ hF hs
          obtain ⟨h0, h1, -⟩ := hs
          replace h0 : ρ (.tmp 95) = .agg #[.int .i64 r0, .int .i64 r1, .int .i64 r2, .int .i64 r3] := h0
          replace h1 : ρ (.tmp 93) = .bool (false) := h1
          go_simp
          refine (HRR.out _).mono ?_; rintro e w' ⟨rfl, hx⟩; exact ⟨_, rfl, hx, rfl⟩
        · intro ρ W ⟨kc, kg, kf⟩ hF hs
          obtain ⟨h0, h1, h2, -⟩ := hs
          replace h0 : ρ (.tmp 94) = .agg #[.int .i64 a0, .int .i64 a1, .int .i64 a2, .int .i64 a3, .int .i64 a4] := h0
          replace h1 : ρ (.tmp 96) = .agg #[.int .i64 a0, .int .i64 a1, .int .i64 a2, .int .i64 a3, .int .i64 a4] := h1
          replace h2 : ρ (.tmp 93) = .bool (false) := h2
          go_simp
          exact ⟨Ext.refl _, rfl⟩
        · intro ρ W ⟨kc, kg, kf⟩ hF hs
          obtain ⟨h0, h1, h2, -⟩ := hs
          replace h0 : ρ (.tmp 93) = .bool (false) := h0
          replace h1 : ρ (.tmp 97) = .bool (false) := h1
          replace h2 : ρ (.tmp 90) = .bool (true) := h2
          go_simp
          exact ⟨Ext.refl _, rfl⟩
        · intro ρ W ⟨kc, kg, kf⟩ hF hs
          obtain ⟨h0, h1, h2, -⟩ := hs
          replace h0 : ρ (.tmp 90) = .bool (true) := h0
          replace h1 : ρ (.tmp 98) = .bool (false) := h1
          replace h2 : ρ (.tmp 87) = .bool (false) := h2
          go_simp
          exact ⟨Ext.refl _, rfl⟩
        · intro ρ W ⟨kc, kg, kf⟩ hF hs
          obtain ⟨h0, h1, -⟩ := hs
          replace h0 : ρ (.tmp 87) = .bool (false) := h0
          replace h1 : ρ (.tmp 99) = .bool (false) := h1
          go_simp
          exact ⟨Ext.refl _, rfl⟩
      · intro fv W12 hF hs
        obtain ⟨-, -, -, -, -, -, -, -, -, -, -, -, -, -, -, -, -, -, -, -, -, -, -, -, -, h100, -⟩ := hs
        replace h100 : fv 100 = .bool (false) := h100
        simp only [fin, List.filterMap]
        go_simp
        have hx := hF
        replace X := Lib.hid (X.out.trans hx)
        replace Ky0 := Lib.hid (Ky0.out.ext hx)
        replace Ky7 := Lib.hid (Ky7.out.ext hx)
        replace Ky9 := Lib.hid (Ky9.out.ext hx)
        replace RD := Lib.hid (RD.out.ext hx)
        clear hx hF y0_0 y0_1 y0_2 y0_3 y7_0 y7_1 y9_0 y9_1 y9_2 y9_3 y9_4
        have y0_0 : W12.cell? ⟨w.heap.size, 0, none⟩ = some (.int .i64 r0) := Ky0.out.cell 0
        have y0_1 : W12.cell? ⟨w.heap.size, 1, none⟩ = some (.int .i64 r1) := Ky0.out.cell 1
        have y0_2 : W12.cell? ⟨w.heap.size, 2, none⟩ = some (.int .i64 r2) := Ky0.out.cell 2
        have y0_3 : W12.cell? ⟨w.heap.size, 3, none⟩ = some (.int .i64 r3) := Ky0.out.cell 3
        have y7_0 : W12.cell? ⟨q7, 0, none⟩ = some (.int .i64 0) := Ky7.out.cell 0
        have y7_1 : W12.cell? ⟨q7, 1, none⟩ = some (.int .i64 0) := Ky7.out.cell 1
        have y9_0 : W12.cell? ⟨q9, 0, none⟩ = some (.int .i64 a0) := Ky9.out.cell 0
        have y9_1 : W12.cell? ⟨q9, 1, none⟩ = some (.int .i64 a1) := Ky9.out.cell 1
        have y9_2 : W12.cell? ⟨q9, 2, none⟩ = some (.int .i64 a2) := Ky9.out.cell 2
        have y9_3 : W12.cell? ⟨q9, 3, none⟩ = some (.int .i64 a3) := Ky9.out.cell 3
        have y9_4 : W12.cell? ⟨q9, 4, none⟩ = some (.int .i64 a4) := Ky9.out.cell 4
        go_wp2_with (go_at_call 57; refine (HTE.out _ X.out).mono ?_; rintro e W13 ⟨rfl, hx⟩; replace X := Lib.hid (X.out.trans hx); replace Ky0 := Lib.hid (Ky0.out.ext hx); replace Ky7 := Lib.hid (Ky7.out.ext hx); replace Ky9 := Lib.hid (Ky9.out.ext hx); replace RD := Lib.hid (RD.out.ext hx); clear hx y0_0 y0_1 y0_2 y0_3 y7_0 y7_1 y9_0 y9_1 y9_2 y9_3 y9_4; refine Hid.out ?_)
        refine Lib.hid ?_
        have y0_0 : W13.cell? ⟨w.heap.size, 0, none⟩ = some (.int .i64 r0) := Ky0.out.cell 0
        have y0_1 : W13.cell? ⟨w.heap.size, 1, none⟩ = some (.int .i64 r1) := Ky0.out.cell 1
        have y0_2 : W13.cell? ⟨w.heap.size, 2, none⟩ = some (.int .i64 r2) := Ky0.out.cell 2
        have y0_3 : W13.cell? ⟨w.heap.size, 3, none⟩ = some (.int .i64 r3) := Ky0.out.cell 3
        have y7_0 : W13.cell? ⟨q7, 0, none⟩ = some (.int .i64 0) := Ky7.out.cell 0
        have y7_1 : W13.cell? ⟨q7, 1, none⟩ = some (.int .i64 0) := Ky7.out.cell 1
        have y9_0 : W13.cell? ⟨q9, 0, none⟩ = some (.int .i64 a0) := Ky9.out.cell 0
        have y9_1 : W13.cell? ⟨q9, 1, none⟩ = some (.int .i64 a1) := Ky9.out.cell 1
        have y9_2 : W13.cell? ⟨q9, 2, none⟩ = some (.int .i64 a2) := Ky9.out.cell 2
        have y9_3 : W13.cell? ⟨q9, 3, none⟩ = some (.int .i64 a3) := Ky9.out.cell 3
        have y9_4 : W13.cell? ⟨q9, 4, none⟩ = some (.int .i64 a4) := Ky9.out.cell 4
        by_cases hu : te = 0
        · replace HBR := Lib.hid (fun W e => HBR.out hu W e)
          obtain ⟨rfl, hrd⟩ := RD.out.1 hu
          replace RD := Lib.hid hrd
          clear hrd
          subst hu
          go_wp2_with (go_at_call 59; refine (HBR.out _ X.out).mono ?_; rintro e W14 ⟨E, ⟨ec, rfl⟩, hd, hx⟩; replace X := Lib.hid (X.out.trans hx); replace Ky0 := Lib.hid (Ky0.out.ext hx); replace Ky7 := Lib.hid (Ky7.out.ext hx); replace Ky9 := Lib.hid (Ky9.out.ext hx); replace RD := Lib.hid (RD.out.ext hx); clear hx y0_0 y0_1 y0_2 y0_3 y7_0 y7_1 y9_0 y9_1 y9_2 y9_3 y9_4; have RE := Lib.hid hd; clear hd; refine Hid.out ?_)
          refine Lib.hid ?_
          have y0_0 : W14.cell? ⟨w.heap.size, 0, none⟩ = some (.int .i64 r0) := Ky0.out.cell 0
          have y0_1 : W14.cell? ⟨w.heap.size, 1, none⟩ = some (.int .i64 r1) := Ky0.out.cell 1
          have y0_2 : W14.cell? ⟨w.heap.size, 2, none⟩ = some (.int .i64 r2) := Ky0.out.cell 2
          have y0_3 : W14.cell? ⟨w.heap.size, 3, none⟩ = some (.int .i64 r3) := Ky0.out.cell 3
          have y7_0 : W14.cell? ⟨q7, 0, none⟩ = some (.int .i64 0) := Ky7.out.cell 0
          have y7_1 : W14.cell? ⟨q7, 1, none⟩ = some (.int .i64 0) := Ky7.out.cell 1
          have y9_0 : W14.cell? ⟨q9, 0, none⟩ = some (.int .i64 a0) := Ky9.out.cell 0
          have y9_1 : W14.cell? ⟨q9, 1, none⟩ = some (.int .i64 a1) := Ky9.out.cell 1
          have y9_2 : W14.cell? ⟨q9, 2, none⟩ = some (.int .i64 a2) := Ky9.out.cell 2
          have y9_3 : W14.cell? ⟨q9, 3, none⟩ = some (.int .i64 a3) := Ky9.out.cell 3
          have y9_4 : W14.cell? ⟨q9, 4, none⟩ = some (.int .i64 a4) := Ky9.out.cell 4
          go_wp2_with (go_at_call 58; refine (bows_any HBL.out RD.out HBL.out RE.out).mono ?_; rintro e W15 ⟨b, rfl, hb, hx⟩; obtain rfl : b = true := hb.2 rfl; clear hb; replace X := Lib.hid (X.out.trans hx); clear hx)
          go_ret
          exact ⟨ret_bool (by simp), X.out⟩
        · have hu2 : (te != 0) = true := by simp [hu]
          have hu3 : (te == te) = true := by simp
          obtain rfl := RD.out.2 hu
          go_wp2
          go_ret
          exact ⟨rfl, X.out⟩
    · have ht2 : (re != 0) = true := by simp [ht]
      have ht3 : (re == 0) = false := by simp [ht]
      have ht4 : (re != re) = false := by simp
      obtain ⟨rfl, rfl, rfl, rfl, rfl⟩ := HZR.out ht
      go_upto_region 12 with (fail)
      go_quiet (fail)
      obtain ⟨W12, hV⟩ : ∃ V, V = World.drewN W11 nq := ⟨_, rfl⟩
      have hx : Ext W11 W12 := by rw [hV]; exact Ext.drewN _ _
      rw [← hV]
      replace X := Lib.hid (X.out.trans hx)
      replace Ky0 := Lib.hid (Ky0.out.ext hx)
      replace Ky7 := Lib.hid (Ky7.out.ext hx)
      replace Ky9 := Lib.hid (Ky9.out.ext hx)
      replace RD := Lib.hid (RD.out.ext hx)
      clear hx y0_0 y0_1 y0_2 y0_3 y7_0 y7_1 y9_0 y9_1 y9_2 y9_3 y9_4
      clear hV
      have y0_0 : W12.cell? ⟨w.heap.size, 0, none⟩ = some (.int .i64 r0) := Ky0.out.cell 0
      have y0_1 : W12.cell? ⟨w.heap.size, 1, none⟩ = some (.int .i64 r1) := Ky0.out.cell 1
      have y0_2 : W12.cell? ⟨w.heap.size, 2, none⟩ = some (.int .i64 r2) := Ky0.out.cell 2
      have y0_3 : W12.cell? ⟨w.heap.size, 3, none⟩ = some (.int .i64 r3) := Ky0.out.cell 3
      have y7_0 : W12.cell? ⟨q7, 0, none⟩ = some (.int .i64 0) := Ky7.out.cell 0
      have y7_1 : W12.cell? ⟨q7, 1, none⟩ = some (.int .i64 0) := Ky7.out.cell 1
      have y9_0 : W12.cell? ⟨q9, 0, none⟩ = some (.int .i64 0) := Ky9.out.cell 0
      have y9_1 : W12.cell? ⟨q9, 1, none⟩ = some (.int .i64 0) := Ky9.out.cell 1
      have y9_2 : W12.cell? ⟨q9, 2, none⟩ = some (.int .i64 0) := Ky9.out.cell 2
      have y9_3 : W12.cell? ⟨q9, 3, none⟩ = some (.int .i64 0) := Ky9.out.cell 3
      have y9_4 : W12.cell? ⟨q9, 4, none⟩ = some (.int .i64 0) := Ky9.out.cell 4
      go_wp2_with (go_at_call 57; refine (HTE.out _ X.out).mono ?_; rintro e W13 ⟨rfl, hx⟩; replace X := Lib.hid (X.out.trans hx); replace Ky0 := Lib.hid (Ky0.out.ext hx); replace Ky7 := Lib.hid (Ky7.out.ext hx); replace Ky9 := Lib.hid (Ky9.out.ext hx); replace RD := Lib.hid (RD.out.ext hx); clear hx y0_0 y0_1 y0_2 y0_3 y7_0 y7_1 y9_0 y9_1 y9_2 y9_3 y9_4; refine Hid.out ?_)
      refine Lib.hid ?_
      have y0_0 : W13.cell? ⟨w.heap.size, 0, none⟩ = some (.int .i64 r0) := Ky0.out.cell 0
      have y0_1 : W13.cell? ⟨w.heap.size, 1, none⟩ = some (.int .i64 r1) := Ky0.out.cell 1
      have y0_2 : W13.cell? ⟨w.heap.size, 2, none⟩ = some (.int .i64 r2) := Ky0.out.cell 2
      have y0_3 : W13.cell? ⟨w.heap.size, 3, none⟩ = some (.int .i64 r3) := Ky0.out.cell 3
      have y7_0 : W13.cell? ⟨q7, 0, none⟩ = some (.int .i64 0) := Ky7.out.cell 0
      have y7_1 : W13.cell? ⟨q7, 1, none⟩ = some (.int .i64 0) := Ky7.out.cell 1
      have y9_0 : W13.cell? ⟨q9, 0, none⟩ = some (.int .i64 0) := Ky9.out.cell 0
      have y9_1 : W13.cell? ⟨q9, 1, none⟩ = some (.int .i64 0) := Ky9.out.cell 1
      have y9_2 : W13.cell? ⟨q9, 2, none⟩ = some (.int .i64 0) := Ky9.out.cell 2
      have y9_3 : W13.cell? ⟨q9, 3, none⟩ = some (.int .i64 0) := Ky9.out.cell 3
      have y9_4 : W13.cell? ⟨q9, 4, none⟩ = some (.int .i64 0) := Ky9.out.cell 4
      by_cases hu : te = 0
      · replace HBR := Lib.hid (fun W e => HBR.out hu W e)
        obtain ⟨rfl, hrd⟩ := RD.out.1 hu
        replace RD := Lib.hid hrd
        clear hrd
        subst hu
        go_wp2_with (go_at_call 59; refine (HBR.out _ X.out).mono ?_; rintro e W14 ⟨E, ⟨ec, rfl⟩, hd, hx⟩; replace X := Lib.hid (X.out.trans hx); replace Ky0 := Lib.hid (Ky0.out.ext hx); replace Ky7 := Lib.hid (Ky7.out.ext hx); replace Ky9 := Lib.hid (Ky9.out.ext hx); replace RD := Lib.hid (RD.out.ext hx); clear hx y0_0 y0_1 y0_2 y0_3 y7_0 y7_1 y9_0 y9_1 y9_2 y9_3 y9_4; have RE := Lib.hid hd; clear hd; refine Hid.out ?_)
        refine Lib.hid ?_
        have y0_0 : W14.cell? ⟨w.heap.size, 0, none⟩ = some (.int .i64 r0) := Ky0.out.cell 0
        have y0_1 : W14.cell? ⟨w.heap.size, 1, none⟩ = some (.int .i64 r1) := Ky0.out.cell 1
        have y0_2 : W14.cell? ⟨w.heap.size, 2, none⟩ = some (.int .i64 r2) := Ky0.out.cell 2
        have y0_3 : W14.cell? ⟨w.heap.size, 3, none⟩ = some (.int .i64 r3) := Ky0.out.cell 3
        have y7_0 : W14.cell? ⟨q7, 0, none⟩ = some (.int .i64 0) := Ky7.out.cell 0
        have y7_1 : W14.cell? ⟨q7, 1, none⟩ = some (.int .i64 0) := Ky7.out.cell 1
        have y9_0 : W14.cell? ⟨q9, 0, none⟩ = some (.int .i64 0) := Ky9.out.cell 0
        have y9_1 : W14.cell? ⟨q9, 1, none⟩ = some (.int .i64 0) := Ky9.out.cell 1
        have y9_2 : W14.cell? ⟨q9, 2, none⟩ = some (.int .i64 0) := Ky9.out.cell 2
        have y9_3 : W14.cell? ⟨q9, 3, none⟩ = some (.int .i64 0) := Ky9.out.cell 3
        have y9_4 : W14.cell? ⟨q9, 4, none⟩ = some (.int .i64 0) := Ky9.out.cell 4
        go_wp2_with (go_at_call 58; refine (bows_any HBL.out RD.out HBL.out RE.out).mono ?_; rintro e W15 ⟨b, rfl, hb, hx⟩; obtain rfl : b = true := hb.2 rfl; clear hb; replace X := Lib.hid (X.out.trans hx); clear hx)
        go_ret
        exact ⟨ret_bool (by simp), X.out⟩
      · have hu2 : (te != 0) = true := by simp [hu]
        have hu3 : (te == te) = true := by simp
        obtain rfl := RD.out.2 hu
        go_wp2
        go_ret
        exact ⟨rfl, X.out⟩
theorem readings_any {A : Option Addr} {n ca : Nat} {xs : List Se} (r0 r1 r2 r3 : Int) {B : Option Addr} {m cb : Nat} {ys : List Sn} (hn : xs.length = n) (hna : A = none → ca = 0) (ln : n ≤ maxLen) (hm : ys.length = m) (hnb : B = none → cb = 0) (lm : m ≤ maxLen) {w : World} (hA : n ≤ 1000 → RowsAt 3 Se.enc w A xs) (hB : m ≤ 1000 → RowsAt 3 Sn.enc w B ys) :
    Calls Try.prog 10 #[.slice A n ca, .agg #[.int .i64 r0, .int .i64 r1, .int .i64 r2, .int .i64 r3], .slice B m cb] w fun e w' => e = .returned (.bool true) ∧ Ext w w' := by
  by_cases h : n ≤ 22 ∧ m ≤ 22
  · exact readings_few r0 r1 r2 r3 hn (hA (by omega)) hna hm (hB (by omega)) hnb h.1 h.2
  · exact readings_long r0 r1 r2 r3 ln lm h

end Go.Proofs.Ytjdilmmpdlcimaa
