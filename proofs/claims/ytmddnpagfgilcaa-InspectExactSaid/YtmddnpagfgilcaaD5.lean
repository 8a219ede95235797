/- InspectExact. -/
import Derived.Test.YtmddnpagfgilcaaF1
import Derived.Test.YtmddnpagfgilcaaD4
import Derived.Test.YtmddnpagfgilcaaR6
import Derived.Lib.MinMax

namespace Go.Proofs.Ytmddnpagfgilcaa
open Go.RowKit Go.Shelf Go.Mem Go.RegInv
attribute [local go_sem] RelUpon_value RelUpon_skip RelUpon_enter BigFrame.eval_const BigFrame.eval_global BigFrame.eval_func


theorem plan_zero {L s a : Nat} (hL : L ≤ 30) (hs : 1 ≤ s) (hs2 : s ≤ L) (ha : a ≤ s) : planE L s a = 0 := by
  rw [planE_eq, withinB_eq, withinB_eq, withinB_eq]
  simp only [decide_eq_true_eq]
  rw [if_pos (by omega), if_pos (by omega), if_pos (by omega)]
theorem accOf_nat {L s a b : Nat} (hL : L ≤ 30) (hs : 1 ≤ s) (hs2 : s ≤ L) (ha : a ≤ s) (hb : b ≤ L) (w : World) : Calls Try.prog 59 #[.agg #[.int .i64 (L : Int), .int .i64 (s : Int), .int .i64 (a : Int)], .int .i64 (b : Int)] w fun e w' => e = .returned (.tuple #[.agg #[.int .i64 (accF L s a b).1, .int .i64 (accF L s a b).2], .int .i64 0]) ∧ Ext w w' := by
  have := accOf_any L s a b w
  have hE : accE L s a b = 0 := by
    unfold accE
    rw [plan_zero hL hs hs2 ha, badE_eq, withinB_eq, if_pos (by simp only [decide_eq_true_eq]; omega)]
    rfl
  unfold accV at this
  rw [hE, if_pos rfl] at this
  exact this
theorem cmpV_le {x y : Int} (h : x ≤ y) : cmpV x y ≤ 0 := by
  unfold cmpV
  by_cases h1 : x < y
  · rw [if_pos h1]; decide
  · rw [if_neg h1, if_neg (by omega)]; decide
theorem cmpV_ge {x y : Int} (h : y ≤ x) : ¬ cmpV x y < 0 := by
  unfold cmpV
  rw [if_neg (by omega)]
  by_cases h1 : y < x
  · rw [if_pos h1]; decide
  · rw [if_neg h1]; decide
set_option maxRecDepth 100000 in
set_option maxHeartbeats 8000000 in
theorem rare_any {L n b r : Nat} (hL : L ≤ 30) (h1 : 1 ≤ n) (h2 : n ≤ L) (hb : b ≤ L) (hr : r ≤ 999) (w : World) : Calls Try.prog 69 #[.int .i64 (L : Int), .int .i64 (n : Int), .int .i64 (b : Int), .int .i64 (r : Int)] w fun e w' => e = .returned (.bool (decide (1000 * (accF L n 0 b).1 ≤ (r : Int) * (accF L n 0 b).2))) ∧ Ext w w' := by
  have HA := Lib.hid (fun W => show Calls Try.prog 59 #[.agg #[.int .i64 (L : Int), .int .i64 (n : Int), .int .i64 0], .int .i64 (b : Int)] W fun e w' => e = .returned (.tuple #[.agg #[.int .i64 (accF L n 0 b).1, .int .i64 (accF L n 0 b).2], .int .i64 0]) ∧ Ext W w' from accOf_nat hL h1 h2 (Nat.zero_le _) hb W)
  obtain ⟨b1, b2, b3, b4⟩ := acc_bd (a := 0) hL h1 h2 (Nat.zero_le _) hb
  have m1 := mul_bd (a := (r : Int)) (b := (accF L n 0 b).2) (A := 999) (B := 155117520) ⟨by omega, by omega⟩ ⟨by omega, by omega⟩
  obtain ⟨m2, m3⟩ := m1
  generalize accF L n 0 b = ac at *
  have HS := Lib.hid (fun W => isSmall_ok ac.1 ac.2 W (by omega) (by omega))
  go_enter Try.func69, Try.ntmps69
  go_wp2_with (go_at_call 59; refine (HA.out _).mono ?_; rintro e W1 ⟨rfl, hx⟩; have X1 := Lib.hid (hx.trans (Ext.alloc W1 (.cells #[.int .i64 ac.1, .int .i64 ac.2] 32))); have Q := Lib.hid (Blk.new W1 32 #[.int .i64 ac.1, .int .i64 ac.2]); clear hx; refine Hid.out ?_)
  refine Lib.hid ?_
  have y0 : (W1.alloc (.cells #[.int .i64 ac.1, .int .i64 ac.2] 32)).cell? ⟨W1.heap.size, 0, none⟩ = some (.int .i64 ac.1) := Q.out.cell 0
  have y1 : (W1.alloc (.cells #[.int .i64 ac.1, .int .i64 ac.2] 32)).cell? ⟨W1.heap.size, 1, none⟩ = some (.int .i64 ac.2) := Q.out.cell 1
  go_wp2_with (go_at_call 31; refine (HS.out _).mono ?_; rintro e W2 ⟨rfl, hx⟩; have X2 := Lib.hid (X1.out.trans hx); have Q := Lib.hid (Q.out.ext hx); clear hx y0 y1; refine Hid.out ?_)
  refine Lib.hid ?_
  have y0 : W2.cell? ⟨W1.heap.size, 0, none⟩ = some (.int .i64 ac.1) := Q.out.cell 0
  have y1 : W2.cell? ⟨W1.heap.size, 1, none⟩ = some (.int .i64 ac.2) := Q.out.cell 1
  go_wp2
  go_ret
  exact ⟨rfl, X2.out⟩
set_option maxRecDepth 100000 in
set_option maxHeartbeats 8000000 in
theorem exact_bad (L s a b r : Int) (w : World) (hb : planE L s a ≠ 0 ∨ badE L b ≠ 0 ∨ riskE r ≠ 0) : Calls Try.prog 12 #[.agg #[.int .i64 L, .int .i64 s, .int .i64 a], .int .i64 b, .int .i64 r] w fun e w' => e = .returned (.bool true) ∧ Ext w w' := by
  have HP := Lib.hid (fun W => refPlanErr_any L s a W)
  have HB := Lib.hid (fun W => refBadErr_any b L W)
  have HR := Lib.hid (fun W => refRiskErr_any r W)
  generalize planE L s a = z1 at *
  generalize badE L b = z2 at *
  generalize riskE r = z3 at *
  go_enter Try.func12, Try.ntmps12
  go_wp2_with (go_at_call 13; refine (awake_any _).mono ?_; rintro e W1 ⟨rfl, hx⟩; have X1 := Lib.hid ((Ext.alloc _ _).trans hx); have P := Lib.hid ((Blk.new w 104 #[.int .i64 L, .int .i64 s, .int .i64 a]).ext hx); clear hx; refine Hid.out ?_)
  refine Lib.hid ?_
  have y0 : W1.cell? ⟨w.heap.size, 0, none⟩ = some (.int .i64 L) := P.out.cell 0
  have y1 : W1.cell? ⟨w.heap.size, 1, none⟩ = some (.int .i64 s) := P.out.cell 1
  have y2 : W1.cell? ⟨w.heap.size, 2, none⟩ = some (.int .i64 a) := P.out.cell 2
  by_cases h1 : z1 = 0
  · have h2 : (z1 != 0) = false := by simp [h1]
    have H1 := Lib.hid h1
    clear h1
    by_cases h3 : z2 = 0
    · have h4 : (z2 != 0) = false := by simp [h3]
      have h5 : (z3 != 0) = true := by
        rcases hb with hb | hb | hb
        · exact absurd H1.out hb
        · exact absurd h3 hb
        · simp [hb]
      clear hb h3
      go_wp2_with (go_at_call 64; refine (HP.out _).mono ?_; rintro e W2 ⟨rfl, hx⟩; have X2 := Lib.hid (X1.out.trans hx); have z0 : W2.cell? ⟨w.heap.size, 0, none⟩ = some (.int .i64 L) := (P.out.ext hx).cell 0; clear hx y0 y1 y2; refine Hid.out ?_)
      refine Lib.hid ?_
      go_wp2_with (first
        | (go_at_call 62; refine (HB.out _).mono ?_; rintro e w' ⟨rfl, rfl⟩)
        | (go_at_call 57; refine (HR.out _).mono ?_; rintro e w' ⟨rfl, rfl⟩))
      go_ret
      exact ⟨rfl, X2.out⟩
    · have h4 : (z2 != 0) = true := by simp [h3]
      clear hb h3
      go_wp2_with (go_at_call 64; refine (HP.out _).mono ?_; rintro e W2 ⟨rfl, hx⟩; have X2 := Lib.hid (X1.out.trans hx); have z0 : W2.cell? ⟨w.heap.size, 0, none⟩ = some (.int .i64 L) := (P.out.ext hx).cell 0; clear hx y0 y1 y2; refine Hid.out ?_)
      refine Lib.hid ?_
      go_wp2_with (go_at_call 62; refine (HB.out _).mono ?_; rintro e w' ⟨rfl, rfl⟩)
      go_ret
      exact ⟨rfl, X2.out⟩
  · have h2 : (z1 != 0) = true := by simp [h1]
    clear hb h1
    go_wp2_with (go_at_call 64; refine (HP.out _).mono ?_; rintro e W2 ⟨rfl, hx⟩; have X2 := Lib.hid (X1.out.trans hx); clear hx; refine Hid.out ?_)
    refine Lib.hid ?_
    go_wp2
    go_ret
    exact ⟨rfl, X2.out⟩

set_option maxRecDepth 100000 in
set_option maxHeartbeats 8000000 in
theorem exact_ok (L s a b r : Nat) (w : World) (hL : L ≤ 30) (hs : 1 ≤ s) (hs2 : s ≤ L) (ha : a ≤ s) (hbL : b ≤ L) (hr : r ≤ 999) : Calls Try.prog 12 #[.agg #[.int .i64 (L : Int), .int .i64 (s : Int), .int .i64 (a : Int)], .int .i64 (b : Int), .int .i64 (r : Int)] w fun e w' => e = .returned (.bool true) ∧ Ext w w' := by
  have HPL := Lib.hid (fun W => show Calls Try.prog 64 #[.agg #[.int .i64 (L : Int), .int .i64 (s : Int), .int .i64 (a : Int)]] W fun e w' => e = .returned (.int .i64 0) ∧ Ext W w' from by
    have := refPlanErr_any L s a W
    rw [plan_zero hL hs hs2 ha] at this
    exact this)
  have HBD := Lib.hid (fun W => show Calls Try.prog 62 #[.int .i64 (b : Int), .int .i64 (L : Int)] W fun e w' => e = .returned (.int .i64 0) ∧ W = w' from by
    have := refBadErr_any b L W
    rw [badE_eq, withinB_eq, if_pos (by simp only [decide_eq_true_eq]; omega)] at this
    exact this)
  have HRI := Lib.hid (fun W => show Calls Try.prog 57 #[.int .i64 (r : Int)] W fun e w' => e = .returned (.int .i64 0) ∧ W = w' from by
    have := refRiskErr_any r W
    rw [riskE_eq, withinB_eq, if_pos (by simp only [decide_eq_true_eq]; omega)] at this
    exact this)
  have HCU := Lib.hid (fun W => curveOf_ok L s a hL hs hs2 ha W)
  have HAO := Lib.hid (fun W => accOf_nat hL hs hs2 ha hbL W)
  have HRR := Lib.hid (fun n (h1 : 1 ≤ n) (h2 : n ≤ L) W => rare_any hL h1 h2 hbL hr W)
  have HSG := Lib.hid (fun W => show Calls Try.prog 61 #[.int .i64 (L : Int), .int .i64 (b : Int), .int .i64 (r : Int)] W fun e w' => e = .returned (.tuple #[.int .i64 (optV (smp L b r L 1)), .int .i64 (optE (smp L b r L 1))]) ∧ Ext W w' from
    sampleFor_loop L b r (by omega) hL hbL hr (by
      unfold smpE lotE
      rw [rangeE_one, withinB_eq, if_pos (by simp only [decide_eq_true_eq]; omega), badE_eq, withinB_eq, if_pos (by simp only [decide_eq_true_eq]; omega), riskE_eq, withinB_eq, if_pos (by simp only [decide_eq_true_eq]; omega)]
      rfl) W)
  have HBD2 := Lib.hid (fun k (hk : k ≤ L) => acc_bd hL hs hs2 ha hk)
  have HL1 := Lib.hid (fun k (hk : k ≤ L) => acc_le1 hs hs2 ha hk)
  have HCP := Lib.hid (fun k => acc_coprime (a := a) (b := k) hs2)
  have HDN := Lib.hid (fun k (hk : k + 1 ≤ L) => acc_down (a := a) hs hs2 hk)
  have HLA := Lib.hid (fun (h : a < s) => acc_last L s a hs hs2 h)
  have HLB := Lib.hid (fun (h : a = s) => show accF L s a L = (1, 1) by rw [h]; exact acc_all L s hs hs2)
  have HFI := Lib.hid (acc_first L s a hs2)
  have H1L := Lib.hid (show 1 ≤ L by omega)
  have HbL := Lib.hid hbL
  have hLb : (b : Int) ≤ (L : Int) := by omega
  obtain ⟨zb, hzb⟩ : ∃ zb, zb = accF L s a b := ⟨_, rfl⟩
  obtain ⟨zm, hzm⟩ : ∃ zm, zm = accF L s (a + 1) b := ⟨_, rfl⟩
  have HXC := Lib.hid (fun (h1 : 0 < b) (h2 : a ≤ b) W => show Calls Try.prog 59 #[.agg #[.int .i64 (L : Int), .int .i64 (b : Int), .int .i64 (a : Int)], .int .i64 (s : Int)] W fun e w' => e = .returned (.tuple #[.agg #[.int .i64 zb.1, .int .i64 zb.2], .int .i64 0]) ∧ Ext W w' from by
    have := accOf_nat (L := L) (s := b) (a := a) (b := s) hL (by omega) hbL h2 hs2 W
    rw [acc_exch hs2 hbL ha h2, ← hzb] at this
    exact this)
  have HMO := Lib.hid (fun (h : a < s) W => show Calls Try.prog 59 #[.agg #[.int .i64 (L : Int), .int .i64 (s : Int), .int .i64 ((a : Int) + 1)], .int .i64 (b : Int)] W fun e w' => e = .returned (.tuple #[.agg #[.int .i64 zm.1, .int .i64 zm.2], .int .i64 0]) ∧ Ext W w' from by
    have := accOf_nat (L := L) (s := s) (a := a + 1) (b := b) hL hs hs2 h hbL W
    rw [← hzm] at this
    exact this)
  have BZ := Lib.hid (show 0 ≤ zb.1 ∧ zb.1 ≤ 155117520 ∧ 1 ≤ zb.2 ∧ zb.2 ≤ 155117520 by rw [hzb]; exact HBD2.out b hbL)
  have HMB := Lib.hid (fun (h : a < s) => show 0 ≤ zm.1 ∧ zm.1 ≤ 155117520 ∧ 1 ≤ zm.2 ∧ zm.2 ≤ 155117520 from by rw [hzm]; exact acc_bd hL hs hs2 h hbL)
  have HMD := Lib.hid (show zb.1 * zm.2 ≤ zm.1 * zb.2 by rw [hzb, hzm]; exact acc_more hs2)
  rw [← hzb] at HAO
  have HZB := Lib.hid hzb
  clear hzb hzm
  go_enter Try.func12, Try.ntmps12
  go_wp2_with (go_at_call 13; refine (awake_any _).mono ?_; rintro e W1 ⟨rfl, hx⟩; have X1 := Lib.hid ((Ext.alloc _ _).trans hx); have P := Lib.hid ((Blk.new w 104 #[.int .i64 (L : Int), .int .i64 (s : Int), .int .i64 (a : Int)]).ext hx); clear hx; refine Hid.out ?_)
  refine Lib.hid ?_
  have y0 : W1.cell? ⟨w.heap.size, 0, none⟩ = some (.int .i64 (L : Int)) := P.out.cell 0
  have y1 : W1.cell? ⟨w.heap.size, 1, none⟩ = some (.int .i64 (s : Int)) := P.out.cell 1
  have y2 : W1.cell? ⟨w.heap.size, 2, none⟩ = some (.int .i64 (a : Int)) := P.out.cell 2
  go_wp2_with (go_at_call 64; refine (HPL.out _).mono ?_; rintro e W0 ⟨rfl, hx⟩; have X0 := Lib.hid (X1.out.trans hx); have P := Lib.hid (P.out.ext hx); clear hx y0 y1 y2; refine Hid.out ?_)
  refine Lib.hid ?_
  have y0 : W0.cell? ⟨w.heap.size, 0, none⟩ = some (.int .i64 (L : Int)) := P.out.cell 0
  have y1 : W0.cell? ⟨w.heap.size, 1, none⟩ = some (.int .i64 (s : Int)) := P.out.cell 1
  have y2 : W0.cell? ⟨w.heap.size, 2, none⟩ = some (.int .i64 (a : Int)) := P.out.cell 2
  go_wp2_with (first
    | (go_at_call 62; refine (HBD.out _).mono ?_; rintro e w' ⟨rfl, rfl⟩)
    | (go_at_call 57; refine (HRI.out _).mono ?_; rintro e w' ⟨rfl, rfl⟩)
    | (go_at_call 60; refine (HCU.out _).mono ?_; rintro e W2 ⟨A1, c1, rfl, hr1, hx⟩; have R := Lib.hid hr1; have X2 := Lib.hid (X0.out.trans hx); have P := Lib.hid (P.out.ext hx); clear hx hr1 y0 y1 y2; refine Hid.out ?_))
  refine Lib.hid ?_
  have y0 : W2.cell? ⟨w.heap.size, 0, none⟩ = some (.int .i64 (L : Int)) := P.out.cell 0
  have y1 : W2.cell? ⟨w.heap.size, 1, none⟩ = some (.int .i64 (s : Int)) := P.out.cell 1
  have y2 : W2.cell? ⟨w.heap.size, 2, none⟩ = some (.int .i64 (a : Int)) := P.out.cell 2
  go_wp2_with (go_at_call 59; refine (HAO.out _).mono ?_; rintro e W3 ⟨rfl, hx⟩; have X3 := Lib.hid (X2.out.trans (hx.trans (Ext.alloc W3 (.cells #[.int .i64 zb.1, .int .i64 zb.2] 32)))); have P := Lib.hid ((P.out.ext hx).alloc (.cells #[.int .i64 zb.1, .int .i64 zb.2] 32)); have R := Lib.hid (R.out.ext (hx.trans (Ext.alloc W3 (.cells #[.int .i64 zb.1, .int .i64 zb.2] 32)))); have Q := Lib.hid (Blk.new W3 32 #[.int .i64 zb.1, .int .i64 zb.2]); clear hx y0 y1 y2; refine Hid.out ?_)
  refine Lib.hid ?_
  obtain ⟨W4, hW4⟩ : ∃ W4, W4 = W3.alloc (.cells #[.int .i64 zb.1, .int .i64 zb.2] 32) := ⟨_, rfl⟩
  rw [← hW4] at X3 P R Q
  have hr0 : (curveK L s a (L + 1))[0]? = some (1, 1) := by rw [curveK_at (by omega), HFI.out]
  have hrb : (curveK L s a (L + 1))[b]? = some zb := by rw [curveK_at (by omega), HZB.out]
  obtain ⟨g, o, rfl, hg, hc0⟩ := row_at R.out hr0
  obtain ⟨g2, o2, he, _, hcb⟩ := row_at R.out hrb
  obtain ⟨rfl, rfl⟩ : g = g2 ∧ o = o2 := by simpa using he
  have t0 := hc0 0 _ rfl
  have t1 := hc0 1 _ rfl
  have t2 := hcb 0 _ rfl
  have t3 := hcb 1 _ rfl
  simp only [Nat.zero_mul, Nat.add_zero] at t0 t1 t2
  have y0 : W4.cell? ⟨w.heap.size, 0, none⟩ = some (.int .i64 (L : Int)) := P.out.cell 0
  have y1 : W4.cell? ⟨w.heap.size, 1, none⟩ = some (.int .i64 (s : Int)) := P.out.cell 1
  have y2 : W4.cell? ⟨w.heap.size, 2, none⟩ = some (.int .i64 (a : Int)) := P.out.cell 2
  have u0 : W4.cell? ⟨W3.heap.size, 0, none⟩ = some (.int .i64 zb.1) := Q.out.cell 0
  have u1 : W4.cell? ⟨W3.heap.size, 1, none⟩ = some (.int .i64 zb.2) := Q.out.cell 1
  clear hc0 hcb he hr0 hrb hg
  go_wp2_with (fail)
  rw [← hW4]
  clear hW4
  refine wp_region_eachG [(49, false), (49, false), (53, false), (53, false), (53, false), (53, false), (53, false), (53, false), (61, false), (61, false), (61, false), (61, false), (61, false), (61, false), (69, false), (69, false), (69, false), (69, false), (69, false)] [some 47, some 48, some 49, some 50, some 51, some 52, some 53, some 54, some 55, some 56, some 57, some 58, some 59, some 60, some 61, some 62, some 63, some 64, some 65, some 66, some 67, some 68, some 69, some 70, some 71, some 72, some 73, some 74, some 75] [[8], [47], [48], [10, 49], [50, 49], [49, 51], [52], [7, 53], [54, 53], [3, 53], [56, 53], [57, 53], [55, 58, 53], [53, 59], [60], [9, 61], [7, 61], [1, 61], [63, 64, 61], [65, 61], [62, 66, 61], [61, 67], [68], [7, 69], [70, 69], [71, 69], [69], [72, 73, 69], [69, 74]]
    [Is (.int .i64 (0)), Is (.bool (false)), Is (.bool (false)), Is (.int .i64 (0)), Is (.bool (false)), Is (.bool (false)), Is (.bool (false)), Is (.slice (some ⟨g, o, none⟩) (L + 1) c1), Is (.int .i64 ((L : Int) + 1)), Is (.pointer (some ⟨w.heap.size, 0, none⟩)), Is (.int .i64 ((L : Int))), Is (.int .i64 ((L : Int) + 1)), Is (.bool (false)), Is (.bool (false)), Is (.bool (false)), Is (.agg #[.int .i64 (zb.1), .int .i64 (zb.2)]), Is (.slice (some ⟨g, o, none⟩) (L + 1) c1), Is (.int .i64 ((b : Int))), Is (.pointer (some ⟨g, o + b * 2, none⟩)), Is (.agg #[.int .i64 (zb.1), .int .i64 (zb.2)]), Is (.bool (false)), Is (.bool (false)), Is (.bool (false)), Is (.slice (some ⟨g, o, none⟩) (L + 1) c1), Is (.pointer (some ⟨g, o, none⟩)), Is (.agg #[.int .i64 (1), .int .i64 (1)]), Is (.agg #[.int .i64 1, .int .i64 1]), Is (.bool (false)), Is (.bool (false))]
    (by kernel_rfl) (by kernel_rfl) (by kernel_rfl) (by kernel_rfl) (by kernel_rfl) Ext (fun W => Ext W4 W)
    (fun W _ => Ext.refl W) (fun W W' h k => h.trans k) ?_ (by intro p hp; simp only [List.mem_cons, List.not_mem_nil, or_false] at hp; rcases hp with rfl | rfl | rfl | rfl | rfl | rfl | rfl | rfl | rfl | rfl | rfl | rfl | rfl | rfl | rfl | rfl | rfl | rfl | rfl <;> exact ⟨_, rfl, fun _ _ h => h⟩) (Ext.drew _) ?_ ?_
  · repeat (refine ⟨fun _ _ _ _ k h => (by first | exact h | exact (IntsAt.ext h k)), ?_⟩)
    exact trivial
  · refine ⟨?_, ?_, ?_, ?_, ?_, ?_, ?_, ?_, ?_, ?_, ?_, ?_, ?_, ?_, ?_, ?_, ?_, ?_, ?_, ?_, ?_, ?_, ?_, ?_, ?_, ?_, ?_, ?_, ?_, trivial⟩
    all_goals intro ρ W ⟨kc, kg, kf⟩ hF hs
    · obtain ⟨h0, -⟩ := hs
      replace h0 : ρ (.tmp 8) = .int .i64 (0) := h0
      go_simp
      exact ⟨Ext.refl _, rfl⟩
    · obtain ⟨h0, -⟩ := hs
      replace h0 : ρ (.tmp 47) = .int .i64 (0) := h0
      go_simp
      exact ⟨Ext.refl _, rfl⟩
    · obtain ⟨h0, -⟩ := hs
      replace h0 : ρ (.tmp 48) = .bool (false) := h0
      go_simp
      exact ⟨Ext.refl _, rfl⟩
    · obtain ⟨h0, h1, -⟩ := hs
      replace h0 : ρ (.tmp 10) = .int .i64 (0) := h0
      replace h1 : ρ (.tmp 49) = .bool (false) := h1
      go_simp
      exact ⟨Ext.refl _, rfl⟩
    · obtain ⟨h0, h1, -⟩ := hs
      replace h0 : ρ (.tmp 50) = .int .i64 (0) := h0
      replace h1 : ρ (.tmp 49) = .bool (false) := h1
      go_simp
      exact ⟨Ext.refl _, rfl⟩
    · obtain ⟨h0, h1, -⟩ := hs
      replace h0 : ρ (.tmp 49) = .bool (false) := h0
      replace h1 : ρ (.tmp 51) = .bool (false) := h1
      go_simp
      exact ⟨Ext.refl _, rfl⟩
    · obtain ⟨h0, -⟩ := hs
      replace h0 : ρ (.tmp 52) = .bool (false) := h0
      go_simp
      exact ⟨Ext.refl _, rfl⟩
    · obtain ⟨h0, h1, -⟩ := hs
      replace h0 : ρ (.tmp 7) = .slice (some ⟨g, o, none⟩) (L + 1) c1 := h0
      replace h1 : ρ (.tmp 53) = .bool (false) := h1
      go_simp
      exact ⟨Ext.refl _, rfl⟩
    · obtain ⟨h0, h1, -⟩ := hs
      replace h0 : ρ (.tmp 54) = .slice (some ⟨g, o, none⟩) (L + 1) c1 := h0
      replace h1 : ρ (.tmp 53) = .bool (false) := h1
      go_simp
      exact ⟨Ext.refl _, rfl⟩
    · obtain ⟨h0, h1, -⟩ := hs
      replace h0 : ρ (.tmp 3) = .pointer (some ⟨w.heap.size, 0, none⟩) := h0
      replace h1 : ρ (.tmp 53) = .bool (false) := h1
      go_simp
      exact ⟨Ext.refl _, rfl⟩
    · obtain ⟨h0, h1, -⟩ := hs
      replace h0 : ρ (.tmp 56) = .pointer (some ⟨w.heap.size, 0, none⟩) := h0
      replace h1 : ρ (.tmp 53) = .bool (false) := h1
      have hc0 : W.cell? ⟨w.heap.size, 0, none⟩ = some (.int .i64 ((L : Int))) := hF.cell (by assumption)
      go_simp
      exact ⟨Ext.refl _, rfl⟩
    · obtain ⟨h0, h1, -⟩ := hs
      replace h0 : ρ (.tmp 57) = .int .i64 ((L : Int)) := h0
      replace h1 : ρ (.tmp 53) = .bool (false) := h1
      have hw : IntKind.i64.wrap ((L : Int) + 1) = (L : Int) + 1 := wrap_id _ (by omega) (by omega)
      go_simp
      exact ⟨Ext.refl _, rfl⟩
    · obtain ⟨h0, h1, h2, -⟩ := hs
      replace h0 : ρ (.tmp 55) = .int .i64 ((L : Int) + 1) := h0
      replace h1 : ρ (.tmp 58) = .int .i64 ((L : Int) + 1) := h1
      replace h2 : ρ (.tmp 53) = .bool (false) := h2
      go_simp
      exact ⟨Ext.refl _, rfl⟩
    · obtain ⟨h0, h1, -⟩ := hs
      replace h0 : ρ (.tmp 53) = .bool (false) := h0
      replace h1 : ρ (.tmp 59) = .bool (false) := h1
      go_simp
      exact ⟨Ext.refl _, rfl⟩
    · obtain ⟨h0, -⟩ := hs
      replace h0 : ρ (.tmp 60) = .bool (false) := h0
      go_simp
      exact ⟨Ext.refl _, rfl⟩
    · obtain ⟨h0, h1, -⟩ := hs
      replace h0 : ρ (.tmp 9) = .pointer (some ⟨W3.heap.size, 0, none⟩) := h0
      replace h1 : ρ (.tmp 61) = .bool (false) := h1
      have hc0 : W.cell? ⟨W3.heap.size, 0, none⟩ = some (.int .i64 (zb.1)) := hF.cell (by assumption)
      have hc1 : W.cell? ⟨W3.heap.size, 1, none⟩ = some (.int .i64 (zb.2)) := hF.cell (by assumption)
      go_simp
      exact ⟨Ext.refl _, rfl⟩
    · obtain ⟨h0, h1, -⟩ := hs
      replace h0 : ρ (.tmp 7) = .slice (some ⟨g, o, none⟩) (L + 1) c1 := h0
      replace h1 : ρ (.tmp 61) = .bool (false) := h1
      go_simp
      exact ⟨Ext.refl _, rfl⟩
    · obtain ⟨h0, h1, -⟩ := hs
      replace h0 : ρ (.tmp 1) = .int .i64 ((b : Int)) := h0
      replace h1 : ρ (.tmp 61) = .bool (false) := h1
      go_simp
      exact ⟨Ext.refl _, rfl⟩
    · obtain ⟨h0, h1, h2, -⟩ := hs
      replace h0 : ρ (.tmp 63) = .slice (some ⟨g, o, none⟩) (L + 1) c1 := h0
      replace h1 : ρ (.tmp 64) = .int .i64 ((b : Int)) := h1
      replace h2 : ρ (.tmp 61) = .bool (false) := h2
      have hb1 : (b : Int) < (L : Int) + 1 := by omega
      have hb2 : b < L + 1 := by omega
      go_simp
      exact ⟨Ext.refl _, rfl⟩
    · obtain ⟨h0, h1, -⟩ := hs
      replace h0 : ρ (.tmp 65) = .pointer (some ⟨g, o + b * 2, none⟩) := h0
      replace h1 : ρ (.tmp 61) = .bool (false) := h1
      have hc0 : W.cell? ⟨g, o + b * 2, none⟩ = some (.int .i64 (zb.1)) := hF.cell (by assumption)
      have hc1 : W.cell? ⟨g, o + b * 2 + 1, none⟩ = some (.int .i64 (zb.2)) := hF.cell (by assumption)
      go_simp
      exact ⟨Ext.refl _, rfl⟩
    · obtain ⟨h0, h1, h2, -⟩ := hs
      replace h0 : ρ (.tmp 62) = .agg #[.int .i64 (zb.1), .int .i64 (zb.2)] := h0
      replace h1 : ρ (.tmp 66) = .agg #[.int .i64 (zb.1), .int .i64 (zb.2)] := h1
      replace h2 : ρ (.tmp 61) = .bool (false) := h2
      go_simp
      exact ⟨Ext.refl _, rfl⟩
    · obtain ⟨h0, h1, -⟩ := hs
      replace h0 : ρ (.tmp 61) = .bool (false) := h0
      replace h1 : ρ (.tmp 67) = .bool (false) := h1
      go_simp
      exact ⟨Ext.refl _, rfl⟩
    · obtain ⟨h0, -⟩ := hs
      replace h0 : ρ (.tmp 68) = .bool (false) := h0
      go_simp
      exact ⟨Ext.refl _, rfl⟩
    · obtain ⟨h0, h1, -⟩ := hs
      replace h0 : ρ (.tmp 7) = .slice (some ⟨g, o, none⟩) (L + 1) c1 := h0
      replace h1 : ρ (.tmp 69) = .bool (false) := h1
      go_simp
      exact ⟨Ext.refl _, rfl⟩
    · obtain ⟨h0, h1, -⟩ := hs
      replace h0 : ρ (.tmp 70) = .slice (some ⟨g, o, none⟩) (L + 1) c1 := h0
      replace h1 : ρ (.tmp 69) = .bool (false) := h1
      have hb1 : (0 : Int) < (L : Int) + 1 := by omega
      have hb2 : 0 < L + 1 := by omega
      go_simp
      exact ⟨Ext.refl _, rfl⟩
    · obtain ⟨h0, h1, -⟩ := hs
      replace h0 : ρ (.tmp 71) = .pointer (some ⟨g, o, none⟩) := h0
      replace h1 : ρ (.tmp 69) = .bool (false) := h1
      have hc0 : W.cell? ⟨g, o, none⟩ = some (.int .i64 (1)) := hF.cell (by assumption)
      have hc1 : W.cell? ⟨g, o + 1, none⟩ = some (.int .i64 (1)) := hF.cell (by assumption)
      go_simp
      exact ⟨Ext.refl _, rfl⟩
    · obtain ⟨h0, -⟩ := hs
      replace h0 : ρ (.tmp 69) = .bool (false) := h0
      go_simp
      refine (whole_any 1 _).mono ?_; rintro e w' ⟨rfl, hx⟩; exact ⟨_, rfl, hx, rfl⟩
    · obtain ⟨h0, h1, h2, -⟩ := hs
      replace h0 : ρ (.tmp 72) = .agg #[.int .i64 (1), .int .i64 (1)] := h0
      replace h1 : ρ (.tmp 73) = .agg #[.int .i64 1, .int .i64 1] := h1
      replace h2 : ρ (.tmp 69) = .bool (false) := h2
      go_simp
      exact ⟨Ext.refl _, rfl⟩
    · obtain ⟨h0, h1, -⟩ := hs
      replace h0 : ρ (.tmp 69) = .bool (false) := h0
      replace h1 : ρ (.tmp 74) = .bool (false) := h1
      go_simp
      exact ⟨Ext.refl _, rfl⟩
  · intro fv W hF hs
    obtain ⟨-, -, -, -, -, -, -, -, -, -, -, -, -, -, -, -, -, -, -, -, -, -, -, -, -, -, -, -, h75, -⟩ := hs
    replace h75 : fv 75 = .bool (false) := h75
    simp only [fin, List.filterMap]
    go_simp
    have X5 := Lib.hid (X3.out.trans hF)
    have P := Lib.hid (P.out.ext hF)
    have Q := Lib.hid (Q.out.ext hF)
    have R := Lib.hid (R.out.ext hF)
    clear hF y0 y1 y2 u0 u1 t0 t1 t2 t3 X3
    obtain ⟨W5, hW5⟩ : ∃ W5, W5 = W := ⟨_, rfl⟩
    rw [← hW5] at X5 P Q R
    rw [← hW5]
    clear hW5
    go_wp2
    go_loopw [11] (fun i wr => ∃ k : Nat, k ≤ L + 1 ∧ i = .int .i64 k ∧ Ext W5 wr) (fun i _ => L + 1 - (intOf i).toNat)
    case atStart => exact ⟨0, Nat.zero_le _, rfl, Ext.refl _⟩
    case round =>
      obtain ⟨k, hk, rfl, hx⟩ := hrel
      have X := Lib.hid hx
      clear hx
      by_cases hlt : k < L + 1
      · have hrk : (curveK L s a (L + 1))[k]? = some (accF L s a k) := curveK_at hlt
        obtain ⟨g2, o2, he, _, hck⟩ := row_at (R.out.ext X.out) hrk
        obtain ⟨rfl, rfl⟩ : g = g2 ∧ o = o2 := by simpa using he
        have t2 := hck 0 _ rfl
        have t3 := hck 1 _ rfl
        simp only [Nat.add_zero] at t2
        clear he hck hrk
        obtain ⟨b1, b2, b3, b4⟩ := HBD2.out k (by omega)
        have b5 := HL1.out k (by omega)
        have HLW := Lib.hid (fun W => isLowest_ok (accF L s a k).1 (accF L s a k).2 W (by omega) (by omega) (HCP.out k))
        have HSM := Lib.hid (fun W => isSmall_ok (accF L s a k).1 (accF L s a k).2 W (by omega) (by omega))
        rcases Nat.eq_zero_or_pos k with h0 | h0
        · subst h0
          simp only [Nat.zero_mul, Nat.add_zero] at t2 t3
          generalize accF L s a 0 = z at *
          have hlen : (0 : Int) < (L : Int) + 1 := by omega
          go_wp2
          refine wp_region_eachM [true, true, true, true, true, true, true, true, true, true, true, true, true, true, true, true, true, true, true, true, true, true, true, true, true, true, true, true, true, true, true, true, true, true, true, true, true, true, true, false, false, false, false, false, false, false, false, false, false, false, true, true] [(88, false, true), (88, false, true), (88, false, true), (88, false, true), (88, false, true), (88, false, true), (96, false, true), (96, false, true), (96, false, true), (96, false, true), (96, false, true), (96, false, true), (104, false, true), (104, false, true), (104, false, true), (104, false, true), (104, false, true), (104, false, true), (104, false, true), (104, false, true), (104, false, true), (104, false, true), (104, false, true), (117, false, true), (117, false, true), (117, false, true), (120, true, false), (120, true, false), (120, true, false), (120, true, false), (120, true, false), (120, true, false), (120, true, false), (120, true, false), (120, true, false), (120, true, false), (120, true, false), (117, false, true)] [some 82, some 83, some 84, some 85, some 86, some 87, some 88, some 89, some 90, some 91, some 92, some 93, some 94, some 95, some 96, some 97, some 98, some 99, some 100, some 101, some 102, some 103, some 104, some 105, some 106, some 107, some 108, some 109, some 110, some 111, some 112, some 113, some 114, some 115, some 116, some 117, some 118, some 119, some 120, some 121, some 122, some 123, some 124, some 125, some 126, some 127, some 128, some 129, some 130, some 131, some 132, some 133] [[7], [11], [82, 83], [84], [85], [86], [87], [7, 88], [11, 88], [89, 90, 88], [91, 88], [92, 88], [93, 88], [88, 94], [95], [7, 96], [11, 96], [97, 98, 96], [99, 96], [100, 96], [101, 96], [96, 102], [103], [7, 104], [11, 104], [105, 106, 104], [107, 104], [108, 104], [7, 104], [11, 104], [110, 111, 104], [112, 104], [113, 104], [109, 114, 104], [104, 115], [116], [11, 117], [118, 117], [119, 117], [7, 120], [11, 120], [121, 122, 120], [123, 120], [7, 120], [11, 120], [126, 120], [125, 127, 120], [128, 120], [124, 129, 120], [130, 120], [120, 131, 117], [117, 132]]
            [Is (.slice (some ⟨g, o, none⟩) (L + 1) c1), Is (.int .i64 (0)), Is (.pointer (some ⟨g, o, none⟩)), Is (.agg #[.int .i64 (z.1), .int .i64 (z.2)]), Is (.bool (true)), Is (.bool (false)), Is (.bool (false)), Is (.slice (some ⟨g, o, none⟩) (L + 1) c1), Is (.int .i64 (0)), Is (.pointer (some ⟨g, o, none⟩)), Is (.agg #[.int .i64 (z.1), .int .i64 (z.2)]), Is (.bool (true)), Is (.bool (false)), Is (.bool (false)), Is (.bool (false)), Is (.slice (some ⟨g, o, none⟩) (L + 1) c1), Is (.int .i64 (0)), Is (.pointer (some ⟨g, o, none⟩)), Is (.pointer (some ⟨g, o, none⟩)), Is (.int .i64 (z.1)), Is (.bool (false)), Is (.bool (false)), Is (.bool (false)), Is (.slice (some ⟨g, o, none⟩) (L + 1) c1), Is (.int .i64 (0)), Is (.pointer (some ⟨g, o, none⟩)), Is (.pointer (some ⟨g, o, none⟩)), Is (.int .i64 (z.1)), Is (.slice (some ⟨g, o, none⟩) (L + 1) c1), Is (.int .i64 (0)), Is (.pointer (some ⟨g, o, none⟩)), Is (.pointer (some ⟨g, o + 1, none⟩)), Is (.int .i64 (z.2)), Is (.bool (false)), Is (.bool (false)), Is (.bool (false)), Is (.int .i64 (0)), Is (.bool (false)), Is (.bool (false)), Is (undef), Is (undef), Is (undef), Is (undef), Is (undef), Is (undef), Is (undef), Is (undef), Is (undef), Is (undef), Is (undef), Is (.bool (false)), Is (.bool (false))]
            (by kernel_rfl) (by kernel_rfl) (by kernel_rfl) (by kernel_rfl) (by kernel_rfl) Ext (fun W => Ext wr W)
            (fun W _ => Ext.refl W) (fun W W' h k => h.trans k) ?_ (by intro p hp; simp only [List.mem_cons, List.not_mem_nil, or_false] at hp; rcases hp with rfl | rfl | rfl | rfl | rfl | rfl | rfl | rfl | rfl | rfl | rfl | rfl | rfl | rfl | rfl | rfl | rfl | rfl | rfl | rfl | rfl | rfl | rfl | rfl | rfl | rfl | rfl | rfl | rfl | rfl | rfl | rfl | rfl | rfl | rfl | rfl | rfl | rfl <;> exact ⟨_, rfl, fun v W h => by rw [show v = _ from h]; first | (simp; done) | (simp [undef]; done)⟩) (Ext.drew _) ?_ ?_
          · repeat (refine ⟨fun _ _ _ _ k h => (by first | exact h | exact (IntsAt.ext h k)), ?_⟩)
            exact trivial
          · refine ⟨?_, ?_, ?_, ?_, ?_, ?_, ?_, ?_, ?_, ?_, ?_, ?_, ?_, ?_, ?_, ?_, ?_, ?_, ?_, ?_, ?_, ?_, ?_, ?_, ?_, ?_, ?_, ?_, ?_, ?_, ?_, ?_, ?_, ?_, ?_, ?_, ?_, ?_, ?_, ?_, ?_, ?_, ?_, ?_, ?_, ?_, ?_, ?_, ?_, ?_, ?_, ?_, trivial⟩
            · intro ρ W ⟨kc, kg, kf⟩ hF hs
              obtain ⟨h0, -⟩ := hs
              replace h0 : ρ (.tmp 7) = .slice (some ⟨g, o, none⟩) (L + 1) c1 := h0
              go_simp
              exact ⟨Ext.refl _, rfl⟩
            · intro ρ W ⟨kc, kg, kf⟩ hF hs
              obtain ⟨h0, -⟩ := hs
              replace h0 : ρ (.tmp 11) = .int .i64 (0) := h0
              go_simp
              exact ⟨Ext.refl _, rfl⟩
            · intro ρ W ⟨kc, kg, kf⟩ hF hs
              obtain ⟨h0, h1, -⟩ := hs
              replace h0 : ρ (.tmp 82) = .slice (some ⟨g, o, none⟩) (L + 1) c1 := h0
              replace h1 : ρ (.tmp 83) = .int .i64 (0) := h1
              have hb1 : (0 : Int) < (L : Int) + 1 := by omega
              have hb2 : 0 < L + 1 := by omega
              go_simp
              exact ⟨Ext.refl _, rfl⟩
            · intro ρ W ⟨kc, kg, kf⟩ hF hs
              obtain ⟨h0, -⟩ := hs
              replace h0 : ρ (.tmp 84) = .pointer (some ⟨g, o, none⟩) := h0
              have hc0 : W.cell? ⟨g, o, none⟩ = some (.int .i64 (z.1)) := hF.cell (by assumption)
              have hc1 : W.cell? ⟨g, o + 1, none⟩ = some (.int .i64 (z.2)) := hF.cell (by assumption)
              go_simp
              exact ⟨Ext.refl _, rfl⟩
            · intro ρ W ⟨kc, kg, kf⟩ hF hs
              obtain ⟨h0, -⟩ := hs
              replace h0 : ρ (.tmp 85) = .agg #[.int .i64 (z.1), .int .i64 (z.2)] := h0
              go_simp
              refine (HLW.out _).mono ?_; rintro e w' ⟨rfl, hx⟩; exact ⟨_, rfl, hx, rfl⟩
            · intro ρ W ⟨kc, kg, kf⟩ hF hs
              obtain ⟨h0, -⟩ := hs
              replace h0 : ρ (.tmp 86) = .bool (true) := h0
              go_simp
              exact ⟨Ext.refl _, rfl⟩
            · intro ρ W ⟨kc, kg, kf⟩ hF hs
              obtain ⟨h0, -⟩ := hs
              replace h0 : ρ (.tmp 87) = .bool (false) := h0
              go_simp
              exact ⟨Ext.refl _, rfl⟩
            · intro ρ W ⟨kc, kg, kf⟩ hF hs
              obtain ⟨h0, h1, -⟩ := hs
              replace h0 : ρ (.tmp 7) = .slice (some ⟨g, o, none⟩) (L + 1) c1 := h0
              replace h1 : ρ (.tmp 88) = .bool (false) := h1
              go_simp
              exact ⟨Ext.refl _, rfl⟩
            · intro ρ W ⟨kc, kg, kf⟩ hF hs
              obtain ⟨h0, h1, -⟩ := hs
              replace h0 : ρ (.tmp 11) = .int .i64 (0) := h0
              replace h1 : ρ (.tmp 88) = .bool (false) := h1
              go_simp
              exact ⟨Ext.refl _, rfl⟩
            · intro ρ W ⟨kc, kg, kf⟩ hF hs
              obtain ⟨h0, h1, h2, -⟩ := hs
              replace h0 : ρ (.tmp 89) = .slice (some ⟨g, o, none⟩) (L + 1) c1 := h0
              replace h1 : ρ (.tmp 90) = .int .i64 (0) := h1
              replace h2 : ρ (.tmp 88) = .bool (false) := h2
              have hb1 : (0 : Int) < (L : Int) + 1 := by omega
              have hb2 : 0 < L + 1 := by omega
              go_simp
              exact ⟨Ext.refl _, rfl⟩
            · intro ρ W ⟨kc, kg, kf⟩ hF hs
              obtain ⟨h0, h1, -⟩ := hs
              replace h0 : ρ (.tmp 91) = .pointer (some ⟨g, o, none⟩) := h0
              replace h1 : ρ (.tmp 88) = .bool (false) := h1
              have hc0 : W.cell? ⟨g, o, none⟩ = some (.int .i64 (z.1)) := hF.cell (by assumption)
              have hc1 : W.cell? ⟨g, o + 1, none⟩ = some (.int .i64 (z.2)) := hF.cell (by assumption)
              go_simp
              exact ⟨Ext.refl _, rfl⟩
            · intro ρ W ⟨kc, kg, kf⟩ hF hs
              obtain ⟨h0, h1, -⟩ := hs
              replace h0 : ρ (.tmp 92) = .agg #[.int .i64 (z.1), .int .i64 (z.2)] := h0
              replace h1 : ρ (.tmp 88) = .bool (false) := h1
              go_simp
              refine (HSM.out _).mono ?_; rintro e w' ⟨rfl, hx⟩; exact ⟨_, rfl, hx, rfl⟩
            · intro ρ W ⟨kc, kg, kf⟩ hF hs
              obtain ⟨h0, h1, -⟩ := hs
              replace h0 : ρ (.tmp 93) = .bool (true) := h0
              replace h1 : ρ (.tmp 88) = .bool (false) := h1
              go_simp
              exact ⟨Ext.refl _, rfl⟩
            · intro ρ W ⟨kc, kg, kf⟩ hF hs
              obtain ⟨h0, h1, -⟩ := hs
              replace h0 : ρ (.tmp 88) = .bool (false) := h0
              replace h1 : ρ (.tmp 94) = .bool (false) := h1
              go_simp
              exact ⟨Ext.refl _, rfl⟩
            · intro ρ W ⟨kc, kg, kf⟩ hF hs
              obtain ⟨h0, -⟩ := hs
              replace h0 : ρ (.tmp 95) = .bool (false) := h0
              go_simp
              exact ⟨Ext.refl _, rfl⟩
            · intro ρ W ⟨kc, kg, kf⟩ hF hs
              obtain ⟨h0, h1, -⟩ := hs
              replace h0 : ρ (.tmp 7) = .slice (some ⟨g, o, none⟩) (L + 1) c1 := h0
              replace h1 : ρ (.tmp 96) = .bool (false) := h1
              go_simp
              exact ⟨Ext.refl _, rfl⟩
            · intro ρ W ⟨kc, kg, kf⟩ hF hs
              obtain ⟨h0, h1, -⟩ := hs
              replace h0 : ρ (.tmp 11) = .int .i64 (0) := h0
              replace h1 : ρ (.tmp 96) = .bool (false) := h1
              go_simp
              exact ⟨Ext.refl _, rfl⟩
            · intro ρ W ⟨kc, kg, kf⟩ hF hs
              obtain ⟨h0, h1, h2, -⟩ := hs
              replace h0 : ρ (.tmp 97) = .slice (some ⟨g, o, none⟩) (L + 1) c1 := h0
              replace h1 : ρ (.tmp 98) = .int .i64 (0) := h1
              replace h2 : ρ (.tmp 96) = .bool (false) := h2
              have hb1 : (0 : Int) < (L : Int) + 1 := by omega
              have hb2 : 0 < L + 1 := by omega
              go_simp
              exact ⟨Ext.refl _, rfl⟩
            · intro ρ W ⟨kc, kg, kf⟩ hF hs
              obtain ⟨h0, h1, -⟩ := hs
              replace h0 : ρ (.tmp 99) = .pointer (some ⟨g, o, none⟩) := h0
              replace h1 : ρ (.tmp 96) = .bool (false) := h1
              go_simp
              exact ⟨Ext.refl _, rfl⟩
            · intro ρ W ⟨kc, kg, kf⟩ hF hs
              obtain ⟨h0, h1, -⟩ := hs
              replace h0 : ρ (.tmp 100) = .pointer (some ⟨g, o, none⟩) := h0
              replace h1 : ρ (.tmp 96) = .bool (false) := h1
              have hc0 : W.cell? ⟨g, o, none⟩ = some (.int .i64 (z.1)) := hF.cell (by assumption)
              go_simp
              exact ⟨Ext.refl _, rfl⟩
            · intro ρ W ⟨kc, kg, kf⟩ hF hs
              obtain ⟨h0, h1, -⟩ := hs
              replace h0 : ρ (.tmp 101) = .int .i64 (z.1) := h0
              replace h1 : ρ (.tmp 96) = .bool (false) := h1
              have hd : decide (z.1 < 0) = false := by simp; omega
              go_simp
              exact ⟨Ext.refl _, rfl⟩
            · intro ρ W ⟨kc, kg, kf⟩ hF hs
              obtain ⟨h0, h1, -⟩ := hs
              replace h0 : ρ (.tmp 96) = .bool (false) := h0
              replace h1 : ρ (.tmp 102) = .bool (false) := h1
              go_simp
              exact ⟨Ext.refl _, rfl⟩
            · intro ρ W ⟨kc, kg, kf⟩ hF hs
              obtain ⟨h0, -⟩ := hs
              replace h0 : ρ (.tmp 103) = .bool (false) := h0
              go_simp
              exact ⟨Ext.refl _, rfl⟩
            · intro ρ W ⟨kc, kg, kf⟩ hF hs
              obtain ⟨h0, h1, -⟩ := hs
              replace h0 : ρ (.tmp 7) = .slice (some ⟨g, o, none⟩) (L + 1) c1 := h0
              replace h1 : ρ (.tmp 104) = .bool (false) := h1
              go_simp
              exact ⟨Ext.refl _, rfl⟩
            · intro ρ W ⟨kc, kg, kf⟩ hF hs
              obtain ⟨h0, h1, -⟩ := hs
              replace h0 : ρ (.tmp 11) = .int .i64 (0) := h0
              replace h1 : ρ (.tmp 104) = .bool (false) := h1
              go_simp
              exact ⟨Ext.refl _, rfl⟩
            · intro ρ W ⟨kc, kg, kf⟩ hF hs
              obtain ⟨h0, h1, h2, -⟩ := hs
              replace h0 : ρ (.tmp 105) = .slice (some ⟨g, o, none⟩) (L + 1) c1 := h0
              replace h1 : ρ (.tmp 106) = .int .i64 (0) := h1
              replace h2 : ρ (.tmp 104) = .bool (false) := h2
              have hb1 : (0 : Int) < (L : Int) + 1 := by omega
              have hb2 : 0 < L + 1 := by omega
              go_simp
              exact ⟨Ext.refl _, rfl⟩
            · intro ρ W ⟨kc, kg, kf⟩ hF hs
              obtain ⟨h0, h1, -⟩ := hs
              replace h0 : ρ (.tmp 107) = .pointer (some ⟨g, o, none⟩) := h0
              replace h1 : ρ (.tmp 104) = .bool (false) := h1
              go_simp
              exact ⟨Ext.refl _, rfl⟩
            · intro ρ W ⟨kc, kg, kf⟩ hF hs
              obtain ⟨h0, h1, -⟩ := hs
              replace h0 : ρ (.tmp 108) = .pointer (some ⟨g, o, none⟩) := h0
              replace h1 : ρ (.tmp 104) = .bool (false) := h1
              have hc0 : W.cell? ⟨g, o, none⟩ = some (.int .i64 (z.1)) := hF.cell (by assumption)
              go_simp
              exact ⟨Ext.refl _, rfl⟩
            · intro ρ W ⟨kc, kg, kf⟩ hF hs
              obtain ⟨h0, h1, -⟩ := hs
              replace h0 : ρ (.tmp 7) = .slice (some ⟨g, o, none⟩) (L + 1) c1 := h0
              replace h1 : ρ (.tmp 104) = .bool (false) := h1
              go_simp
              exact ⟨Ext.refl _, rfl⟩
            · intro ρ W ⟨kc, kg, kf⟩ hF hs
              obtain ⟨h0, h1, -⟩ := hs
              replace h0 : ρ (.tmp 11) = .int .i64 (0) := h0
              replace h1 : ρ (.tmp 104) = .bool (false) := h1
              go_simp
              exact ⟨Ext.refl _, rfl⟩
            · intro ρ W ⟨kc, kg, kf⟩ hF hs
              obtain ⟨h0, h1, h2, -⟩ := hs
              replace h0 : ρ (.tmp 110) = .slice (some ⟨g, o, none⟩) (L + 1) c1 := h0
              replace h1 : ρ (.tmp 111) = .int .i64 (0) := h1
              replace h2 : ρ (.tmp 104) = .bool (false) := h2
              have hb1 : (0 : Int) < (L : Int) + 1 := by omega
              have hb2 : 0 < L + 1 := by omega
              go_simp
              exact ⟨Ext.refl _, rfl⟩
            · intro ρ W ⟨kc, kg, kf⟩ hF hs
              obtain ⟨h0, h1, -⟩ := hs
              replace h0 : ρ (.tmp 112) = .pointer (some ⟨g, o, none⟩) := h0
              replace h1 : ρ (.tmp 104) = .bool (false) := h1
              go_simp
              exact ⟨Ext.refl _, rfl⟩
            · intro ρ W ⟨kc, kg, kf⟩ hF hs
              obtain ⟨h0, h1, -⟩ := hs
              replace h0 : ρ (.tmp 113) = .pointer (some ⟨g, o + 1, none⟩) := h0
              replace h1 : ρ (.tmp 104) = .bool (false) := h1
              have hc0 : W.cell? ⟨g, o + 1, none⟩ = some (.int .i64 (z.2)) := hF.cell (by assumption)
              go_simp
              exact ⟨Ext.refl _, rfl⟩
            · intro ρ W ⟨kc, kg, kf⟩ hF hs
              obtain ⟨h0, h1, h2, -⟩ := hs
              replace h0 : ρ (.tmp 109) = .int .i64 (z.1) := h0
              replace h1 : ρ (.tmp 114) = .int .i64 (z.2) := h1
              replace h2 : ρ (.tmp 104) = .bool (false) := h2
              have hd : decide (z.2 < z.1) = false := by simp; omega
              go_simp
              exact ⟨Ext.refl _, rfl⟩
            · intro ρ W ⟨kc, kg, kf⟩ hF hs
              obtain ⟨h0, h1, -⟩ := hs
              replace h0 : ρ (.tmp 104) = .bool (false) := h0
              replace h1 : ρ (.tmp 115) = .bool (false) := h1
              go_simp
              exact ⟨Ext.refl _, rfl⟩
            · intro ρ W ⟨kc, kg, kf⟩ hF hs
              obtain ⟨h0, -⟩ := hs
              replace h0 : ρ (.tmp 116) = .bool (false) := h0
              go_simp
              exact ⟨Ext.refl _, rfl⟩
            · intro ρ W ⟨kc, kg, kf⟩ hF hs
              obtain ⟨h0, h1, -⟩ := hs
              replace h0 : ρ (.tmp 11) = .int .i64 (0) := h0
              replace h1 : ρ (.tmp 117) = .bool (false) := h1
              go_simp
              exact ⟨Ext.refl _, rfl⟩
            · intro ρ W ⟨kc, kg, kf⟩ hF hs
              obtain ⟨h0, h1, -⟩ := hs
              replace h0 : ρ (.tmp 118) = .int .i64 (0) := h0
              replace h1 : ρ (.tmp 117) = .bool (false) := h1
              go_simp
              exact ⟨Ext.refl _, rfl⟩
            · intro ρ W ⟨kc, kg, kf⟩ hF hs
              obtain ⟨h0, h1, -⟩ := hs
              replace h0 : ρ (.tmp 119) = .bool (false) := h0
              replace h1 : ρ (.tmp 117) = .bool (false) := h1
              go_simp
              exact ⟨Ext.refl _, rfl⟩
            · exact fun _ => rfl
            · exact fun _ => rfl
            · exact fun _ => rfl
            · exact fun _ => rfl
            · exact fun _ => rfl
            · exact fun _ => rfl
            · exact fun _ => rfl
            · exact fun _ => rfl
            · exact fun _ => rfl
            · exact fun _ => rfl
            · exact fun _ => rfl
            · intro ρ W ⟨kc, kg, kf⟩ hF hs
              obtain ⟨h0, h1, h2, -⟩ := hs
              replace h0 : ρ (.tmp 120) = .bool (false) := h0
              replace h1 : ρ (.tmp 131) = undef := h1
              replace h2 : ρ (.tmp 117) = .bool (false) := h2
              go_simp
              exact ⟨Ext.refl _, rfl⟩
            · intro ρ W ⟨kc, kg, kf⟩ hF hs
              obtain ⟨h0, h1, -⟩ := hs
              replace h0 : ρ (.tmp 117) = .bool (false) := h0
              replace h1 : ρ (.tmp 132) = .bool (false) := h1
              go_simp
              exact ⟨Ext.refl _, rfl⟩
          · intro fv W hF hs
            obtain ⟨-, -, -, -, -, -, -, -, -, -, -, -, -, -, -, -, -, -, -, -, -, -, -, -, -, -, -, -, -, -, -, -, -, -, -, -, -, -, -, -, -, -, -, -, -, -, -, -, -, -, -, h133, -⟩ := hs
            replace h133 : fv 133 = .bool (false) := h133
            simp only [fin, List.filterMap]
            go_simp
            have X6 := Lib.hid (X.out.trans hF)
            clear hF t2 t3
            go_wp2
            go_roundw
            case rel => exact ⟨1, by omega, by go_num, X6.out⟩
            case measure => simp [intOf]
        · obtain ⟨j, hj⟩ : ∃ j, j = k - 1 := ⟨_, rfl⟩
          have hj1 : j < k := by omega
          have hj2 : k ≤ j + 1 := by omega
          clear hj
          have hrj : (curveK L s a (L + 1))[j]? = some (accF L s a j) := curveK_at (by omega)
          obtain ⟨g2, o2, he, _, hcj⟩ := row_at (R.out.ext X.out) hrj
          obtain ⟨rfl, rfl⟩ : g = g2 ∧ o = o2 := by simpa using he
          have t4 := hcj 0 _ rfl
          have t5 := hcj 1 _ rfl
          simp only [Nat.add_zero] at t4
          clear he hcj hrj
          obtain ⟨e1, e2, e3, e4⟩ := HBD2.out j (by omega)
          have hdn := HDN.out j (by omega)
          rw [show j + 1 = k by omega] at hdn
          generalize accF L s a k = z at *
          generalize accF L s a j = y at *
          have m1 := mul_bd (a := z.1) (b := y.2) (A := 155117520) (B := 155117520) ⟨by omega, by omega⟩ ⟨by omega, by omega⟩
          have m2 := mul_bd (a := y.1) (b := z.2) (A := 155117520) (B := 155117520) ⟨by omega, by omega⟩ ⟨by omega, by omega⟩
          have HCM := Lib.hid (fun W => cmp_any z.1 z.2 y.1 y.2 W (by omega) (by omega))
          have HCV := Lib.hid (cmpV_le hdn)
          clear m1 m2 hdn
          have hlen : (k : Int) < (L : Int) + 1 := by omega
          go_wp2
          refine wp_region_eachG [(88, false), (88, false), (88, false), (88, false), (88, false), (88, false), (96, false), (96, false), (96, false), (96, false), (96, false), (96, false), (104, false), (104, false), (104, false), (104, false), (104, false), (104, false), (104, false), (104, false), (104, false), (104, false), (104, false), (117, false), (117, false), (117, false), (120, true), (120, true), (120, true), (120, true), (120, true), (120, true), (120, true), (120, true), (120, true), (120, true), (120, true), (117, false)] [some 82, some 83, some 84, some 85, some 86, some 87, some 88, some 89, some 90, some 91, some 92, some 93, some 94, some 95, some 96, some 97, some 98, some 99, some 100, some 101, some 102, some 103, some 104, some 105, some 106, some 107, some 108, some 109, some 110, some 111, some 112, some 113, some 114, some 115, some 116, some 117, some 118, some 119, some 120, some 121, some 122, some 123, some 124, some 125, some 126, some 127, some 128, some 129, some 130, some 131, some 132, some 133] [[7], [11], [82, 83], [84], [85], [86], [87], [7, 88], [11, 88], [89, 90, 88], [91, 88], [92, 88], [93, 88], [88, 94], [95], [7, 96], [11, 96], [97, 98, 96], [99, 96], [100, 96], [101, 96], [96, 102], [103], [7, 104], [11, 104], [105, 106, 104], [107, 104], [108, 104], [7, 104], [11, 104], [110, 111, 104], [112, 104], [113, 104], [109, 114, 104], [104, 115], [116], [11, 117], [118, 117], [119, 117], [7, 120], [11, 120], [121, 122, 120], [123, 120], [7, 120], [11, 120], [126, 120], [125, 127, 120], [128, 120], [124, 129, 120], [130, 120], [120, 131, 117], [117, 132]]
            [Is (.slice (some ⟨g, o, none⟩) (L + 1) c1), Is (.int .i64 ((k : Int))), Is (.pointer (some ⟨g, o + k * 2, none⟩)), Is (.agg #[.int .i64 (z.1), .int .i64 (z.2)]), Is (.bool (true)), Is (.bool (false)), Is (.bool (false)), Is (.slice (some ⟨g, o, none⟩) (L + 1) c1), Is (.int .i64 ((k : Int))), Is (.pointer (some ⟨g, o + k * 2, none⟩)), Is (.agg #[.int .i64 (z.1), .int .i64 (z.2)]), Is (.bool (true)), Is (.bool (false)), Is (.bool (false)), Is (.bool (false)), Is (.slice (some ⟨g, o, none⟩) (L + 1) c1), Is (.int .i64 ((k : Int))), Is (.pointer (some ⟨g, o + k * 2, none⟩)), Is (.pointer (some ⟨g, o + k * 2, none⟩)), Is (.int .i64 (z.1)), Is (.bool (false)), Is (.bool (false)), Is (.bool (false)), Is (.slice (some ⟨g, o, none⟩) (L + 1) c1), Is (.int .i64 ((k : Int))), Is (.pointer (some ⟨g, o + k * 2, none⟩)), Is (.pointer (some ⟨g, o + k * 2, none⟩)), Is (.int .i64 (z.1)), Is (.slice (some ⟨g, o, none⟩) (L + 1) c1), Is (.int .i64 ((k : Int))), Is (.pointer (some ⟨g, o + k * 2, none⟩)), Is (.pointer (some ⟨g, o + k * 2 + 1, none⟩)), Is (.int .i64 (z.2)), Is (.bool (false)), Is (.bool (false)), Is (.bool (false)), Is (.int .i64 ((k : Int))), Is (.bool (true)), Is (.bool (true)), Is (.slice (some ⟨g, o, none⟩) (L + 1) c1), Is (.int .i64 ((k : Int))), Is (.pointer (some ⟨g, o + k * 2, none⟩)), Is (.agg #[.int .i64 (z.1), .int .i64 (z.2)]), Is (.slice (some ⟨g, o, none⟩) (L + 1) c1), Is (.int .i64 ((k : Int))), Is (.int .i64 ((k : Int) - 1)), Is (.pointer (some ⟨g, o + j * 2, none⟩)), Is (.agg #[.int .i64 (y.1), .int .i64 (y.2)]), Is (.int .i64 (cmpV (z.1 * y.2) (y.1 * z.2))), Is (.bool (false)), Is (.bool (false)), Is (.bool (false))]
            (by kernel_rfl) (by kernel_rfl) (by kernel_rfl) (by kernel_rfl) (by kernel_rfl) Ext (fun W => Ext wr W)
            (fun W _ => Ext.refl W) (fun W W' h k => h.trans k) ?_ (by intro p hp; simp only [List.mem_cons, List.not_mem_nil, or_false] at hp; rcases hp with rfl | rfl | rfl | rfl | rfl | rfl | rfl | rfl | rfl | rfl | rfl | rfl | rfl | rfl | rfl | rfl | rfl | rfl | rfl | rfl | rfl | rfl | rfl | rfl | rfl | rfl | rfl | rfl | rfl | rfl | rfl | rfl | rfl | rfl | rfl | rfl | rfl | rfl <;> exact ⟨_, rfl, fun _ _ h => h⟩) (Ext.drew _) ?_ ?_
          · repeat (refine ⟨fun _ _ _ _ k h => (by first | exact h | exact (IntsAt.ext h k)), ?_⟩)
            exact trivial
          · refine ⟨?_, ?_, ?_, ?_, ?_, ?_, ?_, ?_, ?_, ?_, ?_, ?_, ?_, ?_, ?_, ?_, ?_, ?_, ?_, ?_, ?_, ?_, ?_, ?_, ?_, ?_, ?_, ?_, ?_, ?_, ?_, ?_, ?_, ?_, ?_, ?_, ?_, ?_, ?_, ?_, ?_, ?_, ?_, ?_, ?_, ?_, ?_, ?_, ?_, ?_, ?_, ?_, trivial⟩
            all_goals intro ρ W ⟨kc, kg, kf⟩ hF hs
            · obtain ⟨h0, -⟩ := hs
              replace h0 : ρ (.tmp 7) = .slice (some ⟨g, o, none⟩) (L + 1) c1 := h0
              go_simp
              exact ⟨Ext.refl _, rfl⟩
            · obtain ⟨h0, -⟩ := hs
              replace h0 : ρ (.tmp 11) = .int .i64 ((k : Int)) := h0
              go_simp
              exact ⟨Ext.refl _, rfl⟩
            · obtain ⟨h0, h1, -⟩ := hs
              replace h0 : ρ (.tmp 82) = .slice (some ⟨g, o, none⟩) (L + 1) c1 := h0
              replace h1 : ρ (.tmp 83) = .int .i64 ((k : Int)) := h1
              have hb1 : (k : Int) < (L : Int) + 1 := by omega
              have hb2 : k < L + 1 := by omega
              go_simp
              exact ⟨Ext.refl _, rfl⟩
            · obtain ⟨h0, -⟩ := hs
              replace h0 : ρ (.tmp 84) = .pointer (some ⟨g, o + k * 2, none⟩) := h0
              have hc0 : W.cell? ⟨g, o + k * 2, none⟩ = some (.int .i64 (z.1)) := hF.cell (by assumption)
              have hc1 : W.cell? ⟨g, o + k * 2 + 1, none⟩ = some (.int .i64 (z.2)) := hF.cell (by assumption)
              go_simp
              exact ⟨Ext.refl _, rfl⟩
            · obtain ⟨h0, -⟩ := hs
              replace h0 : ρ (.tmp 85) = .agg #[.int .i64 (z.1), .int .i64 (z.2)] := h0
              go_simp
              refine (HLW.out _).mono ?_; rintro e w' ⟨rfl, hx⟩; exact ⟨_, rfl, hx, rfl⟩
            · obtain ⟨h0, -⟩ := hs
              replace h0 : ρ (.tmp 86) = .bool (true) := h0
              go_simp
              exact ⟨Ext.refl _, rfl⟩
            · obtain ⟨h0, -⟩ := hs
              replace h0 : ρ (.tmp 87) = .bool (false) := h0
              go_simp
              exact ⟨Ext.refl _, rfl⟩
            · obtain ⟨h0, h1, -⟩ := hs
              replace h0 : ρ (.tmp 7) = .slice (some ⟨g, o, none⟩) (L + 1) c1 := h0
              replace h1 : ρ (.tmp 88) = .bool (false) := h1
              go_simp
              exact ⟨Ext.refl _, rfl⟩
            · obtain ⟨h0, h1, -⟩ := hs
              replace h0 : ρ (.tmp 11) = .int .i64 ((k : Int)) := h0
              replace h1 : ρ (.tmp 88) = .bool (false) := h1
              go_simp
              exact ⟨Ext.refl _, rfl⟩
            · obtain ⟨h0, h1, h2, -⟩ := hs
              replace h0 : ρ (.tmp 89) = .slice (some ⟨g, o, none⟩) (L + 1) c1 := h0
              replace h1 : ρ (.tmp 90) = .int .i64 ((k : Int)) := h1
              replace h2 : ρ (.tmp 88) = .bool (false) := h2
              have hb1 : (k : Int) < (L : Int) + 1 := by omega
              have hb2 : k < L + 1 := by omega
              go_simp
              exact ⟨Ext.refl _, rfl⟩
            · obtain ⟨h0, h1, -⟩ := hs
              replace h0 : ρ (.tmp 91) = .pointer (some ⟨g, o + k * 2, none⟩) := h0
              replace h1 : ρ (.tmp 88) = .bool (false) := h1
              have hc0 : W.cell? ⟨g, o + k * 2, none⟩ = some (.int .i64 (z.1)) := hF.cell (by assumption)
              have hc1 : W.cell? ⟨g, o + k * 2 + 1, none⟩ = some (.int .i64 (z.2)) := hF.cell (by assumption)
              go_simp
              exact ⟨Ext.refl _, rfl⟩
            · obtain ⟨h0, h1, -⟩ := hs
              replace h0 : ρ (.tmp 92) = .agg #[.int .i64 (z.1), .int .i64 (z.2)] := h0
              replace h1 : ρ (.tmp 88) = .bool (false) := h1
              go_simp
              refine (HSM.out _).mono ?_; rintro e w' ⟨rfl, hx⟩; exact ⟨_, rfl, hx, rfl⟩
            · obtain ⟨h0, h1, -⟩ := hs
              replace h0 : ρ (.tmp 93) = .bool (true) := h0
              replace h1 : ρ (.tmp 88) = .bool (false) := h1
              go_simp
              exact ⟨Ext.refl _, rfl⟩
            · obtain ⟨h0, h1, -⟩ := hs
              replace h0 : ρ (.tmp 88) = .bool (false) := h0
              replace h1 : ρ (.tmp 94) = .bool (false) := h1
              go_simp
              exact ⟨Ext.refl _, rfl⟩
            · obtain ⟨h0, -⟩ := hs
              replace h0 : ρ (.tmp 95) = .bool (false) := h0
              go_simp
              exact ⟨Ext.refl _, rfl⟩
            · obtain ⟨h0, h1, -⟩ := hs
              replace h0 : ρ (.tmp 7) = .slice (some ⟨g, o, none⟩) (L + 1) c1 := h0
              replace h1 : ρ (.tmp 96) = .bool (false) := h1
              go_simp
              exact ⟨Ext.refl _, rfl⟩
            · obtain ⟨h0, h1, -⟩ := hs
              replace h0 : ρ (.tmp 11) = .int .i64 ((k : Int)) := h0
              replace h1 : ρ (.tmp 96) = .bool (false) := h1
              go_simp
              exact ⟨Ext.refl _, rfl⟩
            · obtain ⟨h0, h1, h2, -⟩ := hs
              replace h0 : ρ (.tmp 97) = .slice (some ⟨g, o, none⟩) (L + 1) c1 := h0
              replace h1 : ρ (.tmp 98) = .int .i64 ((k : Int)) := h1
              replace h2 : ρ (.tmp 96) = .bool (false) := h2
              have hb1 : (k : Int) < (L : Int) + 1 := by omega
              have hb2 : k < L + 1 := by omega
              go_simp
              exact ⟨Ext.refl _, rfl⟩
            · obtain ⟨h0, h1, -⟩ := hs
              replace h0 : ρ (.tmp 99) = .pointer (some ⟨g, o + k * 2, none⟩) := h0
              replace h1 : ρ (.tmp 96) = .bool (false) := h1
              go_simp
              exact ⟨Ext.refl _, rfl⟩
            · obtain ⟨h0, h1, -⟩ := hs
              replace h0 : ρ (.tmp 100) = .pointer (some ⟨g, o + k * 2, none⟩) := h0
              replace h1 : ρ (.tmp 96) = .bool (false) := h1
              have hc0 : W.cell? ⟨g, o + k * 2, none⟩ = some (.int .i64 (z.1)) := hF.cell (by assumption)
              go_simp
              exact ⟨Ext.refl _, rfl⟩
            · obtain ⟨h0, h1, -⟩ := hs
              replace h0 : ρ (.tmp 101) = .int .i64 (z.1) := h0
              replace h1 : ρ (.tmp 96) = .bool (false) := h1
              have hd : decide (z.1 < 0) = false := by simp; omega
              go_simp
              exact ⟨Ext.refl _, rfl⟩
            · obtain ⟨h0, h1, -⟩ := hs
              replace h0 : ρ (.tmp 96) = .bool (false) := h0
              replace h1 : ρ (.tmp 102) = .bool (false) := h1
              go_simp
              exact ⟨Ext.refl _, rfl⟩
            · obtain ⟨h0, -⟩ := hs
              replace h0 : ρ (.tmp 103) = .bool (false) := h0
              go_simp
              exact ⟨Ext.refl _, rfl⟩
            · obtain ⟨h0, h1, -⟩ := hs
              replace h0 : ρ (.tmp 7) = .slice (some ⟨g, o, none⟩) (L + 1) c1 := h0
              replace h1 : ρ (.tmp 104) = .bool (false) := h1
              go_simp
              exact ⟨Ext.refl _, rfl⟩
            · obtain ⟨h0, h1, -⟩ := hs
              replace h0 : ρ (.tmp 11) = .int .i64 ((k : Int)) := h0
              replace h1 : ρ (.tmp 104) = .bool (false) := h1
              go_simp
              exact ⟨Ext.refl _, rfl⟩
            · obtain ⟨h0, h1, h2, -⟩ := hs
              replace h0 : ρ (.tmp 105) = .slice (some ⟨g, o, none⟩) (L + 1) c1 := h0
              replace h1 : ρ (.tmp 106) = .int .i64 ((k : Int)) := h1
              replace h2 : ρ (.tmp 104) = .bool (false) := h2
              have hb1 : (k : Int) < (L : Int) + 1 := by omega
              have hb2 : k < L + 1 := by omega
              go_simp
              exact ⟨Ext.refl _, rfl⟩
            · obtain ⟨h0, h1, -⟩ := hs
              replace h0 : ρ (.tmp 107) = .pointer (some ⟨g, o + k * 2, none⟩) := h0
              replace h1 : ρ (.tmp 104) = .bool (false) := h1
              go_simp
              exact ⟨Ext.refl _, rfl⟩
            · obtain ⟨h0, h1, -⟩ := hs
              replace h0 : ρ (.tmp 108) = .pointer (some ⟨g, o + k * 2, none⟩) := h0
              replace h1 : ρ (.tmp 104) = .bool (false) := h1
              have hc0 : W.cell? ⟨g, o + k * 2, none⟩ = some (.int .i64 (z.1)) := hF.cell (by assumption)
              go_simp
              exact ⟨Ext.refl _, rfl⟩
            · obtain ⟨h0, h1, -⟩ := hs
              replace h0 : ρ (.tmp 7) = .slice (some ⟨g, o, none⟩) (L + 1) c1 := h0
              replace h1 : ρ (.tmp 104) = .bool (false) := h1
              go_simp
              exact ⟨Ext.refl _, rfl⟩
            · obtain ⟨h0, h1, -⟩ := hs
              replace h0 : ρ (.tmp 11) = .int .i64 ((k : Int)) := h0
              replace h1 : ρ (.tmp 104) = .bool (false) := h1
              go_simp
              exact ⟨Ext.refl _, rfl⟩
            · obtain ⟨h0, h1, h2, -⟩ := hs
              replace h0 : ρ (.tmp 110) = .slice (some ⟨g, o, none⟩) (L + 1) c1 := h0
              replace h1 : ρ (.tmp 111) = .int .i64 ((k : Int)) := h1
              replace h2 : ρ (.tmp 104) = .bool (false) := h2
              have hb1 : (k : Int) < (L : Int) + 1 := by omega
              have hb2 : k < L + 1 := by omega
              go_simp
              exact ⟨Ext.refl _, rfl⟩
            · obtain ⟨h0, h1, -⟩ := hs
              replace h0 : ρ (.tmp 112) = .pointer (some ⟨g, o + k * 2, none⟩) := h0
              replace h1 : ρ (.tmp 104) = .bool (false) := h1
              go_simp
              exact ⟨Ext.refl _, rfl⟩
            · obtain ⟨h0, h1, -⟩ := hs
              replace h0 : ρ (.tmp 113) = .pointer (some ⟨g, o + k * 2 + 1, none⟩) := h0
              replace h1 : ρ (.tmp 104) = .bool (false) := h1
              have hc0 : W.cell? ⟨g, o + k * 2 + 1, none⟩ = some (.int .i64 (z.2)) := hF.cell (by assumption)
              go_simp
              exact ⟨Ext.refl _, rfl⟩
            · obtain ⟨h0, h1, h2, -⟩ := hs
              replace h0 : ρ (.tmp 109) = .int .i64 (z.1) := h0
              replace h1 : ρ (.tmp 114) = .int .i64 (z.2) := h1
              replace h2 : ρ (.tmp 104) = .bool (false) := h2
              have hd : decide (z.2 < z.1) = false := by simp; omega
              go_simp
              exact ⟨Ext.refl _, rfl⟩
            · obtain ⟨h0, h1, -⟩ := hs
              replace h0 : ρ (.tmp 104) = .bool (false) := h0
              replace h1 : ρ (.tmp 115) = .bool (false) := h1
              go_simp
              exact ⟨Ext.refl _, rfl⟩
            · obtain ⟨h0, -⟩ := hs
              replace h0 : ρ (.tmp 116) = .bool (false) := h0
              go_simp
              exact ⟨Ext.refl _, rfl⟩
            · obtain ⟨h0, h1, -⟩ := hs
              replace h0 : ρ (.tmp 11) = .int .i64 ((k : Int)) := h0
              replace h1 : ρ (.tmp 117) = .bool (false) := h1
              go_simp
              exact ⟨Ext.refl _, rfl⟩
            · obtain ⟨h0, h1, -⟩ := hs
              replace h0 : ρ (.tmp 118) = .int .i64 ((k : Int)) := h0
              replace h1 : ρ (.tmp 117) = .bool (false) := h1
              have hd : decide ((0 : Int) < (k : Int)) = true := by simp; omega
              have hk0 : 0 < k := by omega
              go_simp
              exact ⟨Ext.refl _, rfl⟩
            · obtain ⟨h0, h1, -⟩ := hs
              replace h0 : ρ (.tmp 119) = .bool (true) := h0
              replace h1 : ρ (.tmp 117) = .bool (false) := h1
              go_simp
              exact ⟨Ext.refl _, rfl⟩
            · obtain ⟨h0, h1, -⟩ := hs
              replace h0 : ρ (.tmp 7) = .slice (some ⟨g, o, none⟩) (L + 1) c1 := h0
              replace h1 : ρ (.tmp 120) = .bool (true) := h1
              go_simp
              exact ⟨Ext.refl _, rfl⟩
            · obtain ⟨h0, h1, -⟩ := hs
              replace h0 : ρ (.tmp 11) = .int .i64 ((k : Int)) := h0
              replace h1 : ρ (.tmp 120) = .bool (true) := h1
              go_simp
              exact ⟨Ext.refl _, rfl⟩
            · obtain ⟨h0, h1, h2, -⟩ := hs
              replace h0 : ρ (.tmp 121) = .slice (some ⟨g, o, none⟩) (L + 1) c1 := h0
              replace h1 : ρ (.tmp 122) = .int .i64 ((k : Int)) := h1
              replace h2 : ρ (.tmp 120) = .bool (true) := h2
              have hb1 : (k : Int) < (L : Int) + 1 := by omega
              have hb2 : k < L + 1 := by omega
              go_simp
              exact ⟨Ext.refl _, rfl⟩
            · obtain ⟨h0, h1, -⟩ := hs
              replace h0 : ρ (.tmp 123) = .pointer (some ⟨g, o + k * 2, none⟩) := h0
              replace h1 : ρ (.tmp 120) = .bool (true) := h1
              have hc0 : W.cell? ⟨g, o + k * 2, none⟩ = some (.int .i64 (z.1)) := hF.cell (by assumption)
              have hc1 : W.cell? ⟨g, o + k * 2 + 1, none⟩ = some (.int .i64 (z.2)) := hF.cell (by assumption)
              go_simp
              exact ⟨Ext.refl _, rfl⟩
            · obtain ⟨h0, h1, -⟩ := hs
              replace h0 : ρ (.tmp 7) = .slice (some ⟨g, o, none⟩) (L + 1) c1 := h0
              replace h1 : ρ (.tmp 120) = .bool (true) := h1
              go_simp
              exact ⟨Ext.refl _, rfl⟩
            · obtain ⟨h0, h1, -⟩ := hs
              replace h0 : ρ (.tmp 11) = .int .i64 ((k : Int)) := h0
              replace h1 : ρ (.tmp 120) = .bool (true) := h1
              go_simp
              exact ⟨Ext.refl _, rfl⟩
            · obtain ⟨h0, h1, -⟩ := hs
              replace h0 : ρ (.tmp 126) = .int .i64 ((k : Int)) := h0
              replace h1 : ρ (.tmp 120) = .bool (true) := h1
              have hw : IntKind.i64.wrap ((k : Int) - 1) = (k : Int) - 1 := wrap_id _ (by omega) (by omega)
              go_simp
              exact ⟨Ext.refl _, rfl⟩
            · obtain ⟨h0, h1, h2, -⟩ := hs
              replace h0 : ρ (.tmp 125) = .slice (some ⟨g, o, none⟩) (L + 1) c1 := h0
              replace h1 : ρ (.tmp 127) = .int .i64 ((k : Int) - 1) := h1
              replace h2 : ρ (.tmp 120) = .bool (true) := h2
              have hb6 : (1 : Int) ≤ (k : Int) := by omega
              have hb1 : (k : Int) - 1 < (L : Int) + 1 := by omega
              have hb3 : (0 : Int) ≤ (k : Int) - 1 := by omega
              have hb4 : ((k : Int) - 1).toNat = j := by omega
              have hb7 : k - 1 = j := by omega
              have hb5 : (k : Int) ≤ (L : Int) + 1 := by omega
              go_simp
              exact ⟨Ext.refl _, rfl⟩
            · obtain ⟨h0, h1, -⟩ := hs
              replace h0 : ρ (.tmp 128) = .pointer (some ⟨g, o + j * 2, none⟩) := h0
              replace h1 : ρ (.tmp 120) = .bool (true) := h1
              have hc0 : W.cell? ⟨g, o + j * 2, none⟩ = some (.int .i64 (y.1)) := hF.cell (by assumption)
              have hc1 : W.cell? ⟨g, o + j * 2 + 1, none⟩ = some (.int .i64 (y.2)) := hF.cell (by assumption)
              go_simp
              exact ⟨Ext.refl _, rfl⟩
            · obtain ⟨h0, h1, h2, -⟩ := hs
              replace h0 : ρ (.tmp 124) = .agg #[.int .i64 (z.1), .int .i64 (z.2)] := h0
              replace h1 : ρ (.tmp 129) = .agg #[.int .i64 (y.1), .int .i64 (y.2)] := h1
              replace h2 : ρ (.tmp 120) = .bool (true) := h2
              go_simp
              refine (HCM.out _).mono ?_; rintro e w' ⟨rfl, hx⟩; exact ⟨_, rfl, hx, rfl⟩
            · obtain ⟨h0, h1, -⟩ := hs
              replace h0 : ρ (.tmp 130) = .int .i64 (cmpV (z.1 * y.2) (y.1 * z.2)) := h0
              replace h1 : ρ (.tmp 120) = .bool (true) := h1
              have hd : decide (0 < cmpV (z.1 * y.2) (y.1 * z.2)) = false := by simp; exact HCV.out
              go_simp
              exact ⟨Ext.refl _, rfl⟩
            · obtain ⟨h0, h1, h2, -⟩ := hs
              replace h0 : ρ (.tmp 120) = .bool (true) := h0
              replace h1 : ρ (.tmp 131) = .bool (false) := h1
              replace h2 : ρ (.tmp 117) = .bool (false) := h2
              go_simp
              exact ⟨Ext.refl _, rfl⟩
            · obtain ⟨h0, h1, -⟩ := hs
              replace h0 : ρ (.tmp 117) = .bool (false) := h0
              replace h1 : ρ (.tmp 132) = .bool (false) := h1
              go_simp
              exact ⟨Ext.refl _, rfl⟩
          · intro fv W hF hs
            obtain ⟨-, -, -, -, -, -, -, -, -, -, -, -, -, -, -, -, -, -, -, -, -, -, -, -, -, -, -, -, -, -, -, -, -, -, -, -, -, -, -, -, -, -, -, -, -, -, -, -, -, -, -, h133, -⟩ := hs
            replace h133 : fv 133 = .bool (false) := h133
            simp only [fin, List.filterMap]
            go_simp
            have X6 := Lib.hid (X.out.trans hF)
            clear hF t2 t3 t4 t5
            go_wp2
            go_roundw
            case rel => exact ⟨k + 1, by omega, by go_num, X6.out⟩
            case measure => simp [intOf]; omega
      · have hlen : ¬ (k : Int) < (L : Int) + 1 := by omega
        have P := Lib.hid (P.out.ext X.out)
        have Q := Lib.hid (Q.out.ext X.out)
        have X6 := Lib.hid (X5.out.trans X.out)
        have hrk : (curveK L s a (L + 1))[L]? = some (accF L s a L) := curveK_at (by omega)
        obtain ⟨g2, o2, he, _, hck⟩ := row_at (R.out.ext X.out) hrk
        obtain ⟨rfl, rfl⟩ : g = g2 ∧ o = o2 := by simpa using he
        have t2 := hck 0 _ rfl
        have t3 := hck 1 _ rfl
        simp only [Nat.add_zero] at t2
        clear he hck hrk hlt X
        have y0 : wr.cell? ⟨w.heap.size, 0, none⟩ = some (.int .i64 (L : Int)) := P.out.cell 0
        have y1 : wr.cell? ⟨w.heap.size, 1, none⟩ = some (.int .i64 (s : Int)) := P.out.cell 1
        have y2 : wr.cell? ⟨w.heap.size, 2, none⟩ = some (.int .i64 (a : Int)) := P.out.cell 2
        have u0 : wr.cell? ⟨W3.heap.size, 0, none⟩ = some (.int .i64 zb.1) := Q.out.cell 0
        have u1 : wr.cell? ⟨W3.heap.size, 1, none⟩ = some (.int .i64 zb.2) := Q.out.cell 1
        have hL2 : L < L + 1 := by omega
        have hL3 : (L : Int) < (L : Int) + 1 := by omega
        rcases Nat.lt_or_ge a s with hcase | hcase
        · rw [HLA.out hcase] at t2 t3
          obtain ⟨z1, z2, z3, z4⟩ := BZ.out
          obtain ⟨z5, z6, z7, z8⟩ := HMB.out hcase
          have m1 := mul_bd (a := zm.1) (b := zb.2) (A := 155117520) (B := 155117520) ⟨by omega, by omega⟩ ⟨by omega, by omega⟩
          have m2 := mul_bd (a := zb.1) (b := zm.2) (A := 155117520) (B := 155117520) ⟨by omega, by omega⟩ ⟨by omega, by omega⟩
          have HMC := Lib.hid (fun W => cmp_any zm.1 zm.2 zb.1 zb.2 W (by omega) (by omega))
          have HMV := Lib.hid (show 0 ≤ cmpV (zm.1 * zb.2) (zb.1 * zm.2) by have := cmpV_ge HMD.out; omega)
          have HMS := Lib.hid (fun W => isSmall_ok zm.1 zm.2 W (by omega) (by omega))
          clear m1 m2
          go_wp2_with (fail)
          obtain ⟨Wl, hWl⟩ : ∃ Wl, Wl = wr.alloc (.cells #[.int .i64 0, .int .i64 1] 32) := ⟨_, rfl⟩
          rw [← hWl]
          have P := Lib.hid (show Blk Wl w.heap.size 104 _ by rw [hWl]; exact P.out.alloc _)
          have Q := Lib.hid (show Blk Wl W3.heap.size 32 _ by rw [hWl]; exact Q.out.alloc _)
          have l0 : Wl.cell? ⟨wr.heap.size, 0, none⟩ = some (.int .i64 0) := by rw [hWl]; exact (Blk.new wr 32 #[.int .i64 0, .int .i64 1]).cell 0
          have l1 : Wl.cell? ⟨wr.heap.size, 1, none⟩ = some (.int .i64 1) := by rw [hWl]; exact (Blk.new wr 32 #[.int .i64 0, .int .i64 1]).cell 1
          have Xl := Lib.hid (show Ext w Wl by rw [hWl]; exact X6.out.trans (Ext.alloc _ _))
          clear hWl y0 y1 y2 u0 u1 t2 t3 X6
          have y0 : Wl.cell? ⟨w.heap.size, 0, none⟩ = some (.int .i64 (L : Int)) := P.out.cell 0
          have y1 : Wl.cell? ⟨w.heap.size, 1, none⟩ = some (.int .i64 (s : Int)) := P.out.cell 1
          have y2 : Wl.cell? ⟨w.heap.size, 2, none⟩ = some (.int .i64 (a : Int)) := P.out.cell 2
          have u0 : Wl.cell? ⟨W3.heap.size, 0, none⟩ = some (.int .i64 zb.1) := Q.out.cell 0
          have u1 : Wl.cell? ⟨W3.heap.size, 1, none⟩ = some (.int .i64 zb.2) := Q.out.cell 1
          generalize wr.heap.size = ql at *
          have hsa : (a : Int) < (s : Int) := by omega
          refine wp_region_eachM [true, true, true, true, false, false, false, false, false, true, true, true, true, true, true, true, true, true, true, true, true, true] [(142, true, false), (142, true, false), (142, true, false), (142, true, false), (142, true, false), (149, false, true), (149, false, true), (149, false, true), (149, false, true), (153, true, true), (153, true, true), (153, true, true), (153, true, true), (153, true, true), (149, false, true)] [some 139, some 140, some 141, some 142, some 143, some 144, some 145, some 146, some 147, some 148, some 149, some 150, some 151, some 152, some 153, some 154, some 155, some 156, some 157, some 158, some 159, some 160] [[12], [139], [140], [141], [3, 142], [143, 142], [3, 142], [145, 142], [144, 146, 142], [142, 147], [148], [12, 149], [149], [150, 151, 149], [152, 149], [3, 153], [154, 153], [3, 153], [156, 153], [155, 157, 153], [153, 158, 149], [149, 159]]
            [Is (.pointer (some ⟨ql, 0, none⟩)), Is (.int .i64 (0)), Is (.bool (false)), Is (.bool (false)), Is (undef), Is (undef), Is (undef), Is (undef), Is (undef), Is (.bool (false)), Is (.bool (false)), Is (.agg #[.int .i64 (0), .int .i64 (1)]), Is (.agg #[.int .i64 1, .int .i64 1]), Is (.bool (true)), Is (.bool (true)), Is (.pointer (some ⟨w.heap.size, 2, none⟩)), Is (.int .i64 ((a : Int))), Is (.pointer (some ⟨w.heap.size, 1, none⟩)), Is (.int .i64 ((s : Int))), Is (.bool (false)), Is (.bool (false)), Is (.bool (false))]
            (by kernel_rfl) (by kernel_rfl) (by kernel_rfl) (by kernel_rfl) (by kernel_rfl) Ext (fun W => Ext Wl W)
            (fun W _ => Ext.refl W) (fun W W' h k => h.trans k) ?_ (by intro p hp; simp only [List.mem_cons, List.not_mem_nil, or_false] at hp; rcases hp with rfl | rfl | rfl | rfl | rfl | rfl | rfl | rfl | rfl | rfl | rfl | rfl | rfl | rfl | rfl <;> exact ⟨_, rfl, fun v W h => by rw [show v = _ from h]; first | (simp; done) | (simp [undef]; done)⟩) (Ext.drew _) ?_ ?_
          · repeat (refine ⟨fun _ _ _ _ k h => (by first | exact h | exact (IntsAt.ext h k)), ?_⟩)
            exact trivial
          · refine ⟨?_, ?_, ?_, ?_, ?_, ?_, ?_, ?_, ?_, ?_, ?_, ?_, ?_, ?_, ?_, ?_, ?_, ?_, ?_, ?_, ?_, ?_, trivial⟩
            · intro ρ W ⟨kc, kg, kf⟩ hF hs
              obtain ⟨h0, -⟩ := hs
              replace h0 : ρ (.tmp 12) = .pointer (some ⟨ql, 0, none⟩) := h0
              go_simp
              exact ⟨Ext.refl _, rfl⟩
            · intro ρ W ⟨kc, kg, kf⟩ hF hs
              obtain ⟨h0, -⟩ := hs
              replace h0 : ρ (.tmp 139) = .pointer (some ⟨ql, 0, none⟩) := h0
              have hc0 : W.cell? ⟨ql, 0, none⟩ = some (.int .i64 (0)) := hF.cell (by assumption)
              go_simp
              exact ⟨Ext.refl _, rfl⟩
            · intro ρ W ⟨kc, kg, kf⟩ hF hs
              obtain ⟨h0, -⟩ := hs
              replace h0 : ρ (.tmp 140) = .int .i64 (0) := h0
              go_simp
              exact ⟨Ext.refl _, rfl⟩
            · intro ρ W ⟨kc, kg, kf⟩ hF hs
              obtain ⟨h0, -⟩ := hs
              replace h0 : ρ (.tmp 141) = .bool (false) := h0
              go_simp
              exact ⟨Ext.refl _, rfl⟩
            · exact fun _ => rfl
            · exact fun _ => rfl
            · exact fun _ => rfl
            · exact fun _ => rfl
            · exact fun _ => rfl
            · intro ρ W ⟨kc, kg, kf⟩ hF hs
              obtain ⟨h0, h1, -⟩ := hs
              replace h0 : ρ (.tmp 142) = .bool (false) := h0
              replace h1 : ρ (.tmp 147) = undef := h1
              go_simp
              exact ⟨Ext.refl _, rfl⟩
            · intro ρ W ⟨kc, kg, kf⟩ hF hs
              obtain ⟨h0, -⟩ := hs
              replace h0 : ρ (.tmp 148) = .bool (false) := h0
              go_simp
              exact ⟨Ext.refl _, rfl⟩
            · intro ρ W ⟨kc, kg, kf⟩ hF hs
              obtain ⟨h0, h1, -⟩ := hs
              replace h0 : ρ (.tmp 12) = .pointer (some ⟨ql, 0, none⟩) := h0
              replace h1 : ρ (.tmp 149) = .bool (false) := h1
              have hc0 : W.cell? ⟨ql, 0, none⟩ = some (.int .i64 (0)) := hF.cell (by assumption)
              have hc1 : W.cell? ⟨ql, 1, none⟩ = some (.int .i64 (1)) := hF.cell (by assumption)
              go_simp
              exact ⟨Ext.refl _, rfl⟩
            · intro ρ W ⟨kc, kg, kf⟩ hF hs
              obtain ⟨h0, -⟩ := hs
              replace h0 : ρ (.tmp 149) = .bool (false) := h0
              go_simp
              refine (whole_any 1 _).mono ?_; rintro e w' ⟨rfl, hx⟩; exact ⟨_, rfl, hx, rfl⟩
            · intro ρ W ⟨kc, kg, kf⟩ hF hs
              obtain ⟨h0, h1, h2, -⟩ := hs
              replace h0 : ρ (.tmp 150) = .agg #[.int .i64 (0), .int .i64 (1)] := h0
              replace h1 : ρ (.tmp 151) = .agg #[.int .i64 1, .int .i64 1] := h1
              replace h2 : ρ (.tmp 149) = .bool (false) := h2
              go_simp
              exact ⟨Ext.refl _, rfl⟩
            · intro ρ W ⟨kc, kg, kf⟩ hF hs
              obtain ⟨h0, h1, -⟩ := hs
              replace h0 : ρ (.tmp 152) = .bool (true) := h0
              replace h1 : ρ (.tmp 149) = .bool (false) := h1
              go_simp
              exact ⟨Ext.refl _, rfl⟩
            · intro ρ W ⟨kc, kg, kf⟩ hF hs
              obtain ⟨h0, h1, -⟩ := hs
              replace h0 : ρ (.tmp 3) = .pointer (some ⟨w.heap.size, 0, none⟩) := h0
              replace h1 : ρ (.tmp 153) = .bool (true) := h1
              go_simp
              exact ⟨Ext.refl _, rfl⟩
            · intro ρ W ⟨kc, kg, kf⟩ hF hs
              obtain ⟨h0, h1, -⟩ := hs
              replace h0 : ρ (.tmp 154) = .pointer (some ⟨w.heap.size, 2, none⟩) := h0
              replace h1 : ρ (.tmp 153) = .bool (true) := h1
              have hc0 : W.cell? ⟨w.heap.size, 2, none⟩ = some (.int .i64 ((a : Int))) := hF.cell (by assumption)
              go_simp
              exact ⟨Ext.refl _, rfl⟩
            · intro ρ W ⟨kc, kg, kf⟩ hF hs
              obtain ⟨h0, h1, -⟩ := hs
              replace h0 : ρ (.tmp 3) = .pointer (some ⟨w.heap.size, 0, none⟩) := h0
              replace h1 : ρ (.tmp 153) = .bool (true) := h1
              go_simp
              exact ⟨Ext.refl _, rfl⟩
            · intro ρ W ⟨kc, kg, kf⟩ hF hs
              obtain ⟨h0, h1, -⟩ := hs
              replace h0 : ρ (.tmp 156) = .pointer (some ⟨w.heap.size, 1, none⟩) := h0
              replace h1 : ρ (.tmp 153) = .bool (true) := h1
              have hc0 : W.cell? ⟨w.heap.size, 1, none⟩ = some (.int .i64 ((s : Int))) := hF.cell (by assumption)
              go_simp
              exact ⟨Ext.refl _, rfl⟩
            · intro ρ W ⟨kc, kg, kf⟩ hF hs
              obtain ⟨h0, h1, h2, -⟩ := hs
              replace h0 : ρ (.tmp 155) = .int .i64 ((a : Int)) := h0
              replace h1 : ρ (.tmp 157) = .int .i64 ((s : Int)) := h1
              replace h2 : ρ (.tmp 153) = .bool (true) := h2
              have hd : ((a : Int) == (s : Int)) = false := by simp; omega
              go_simp
              exact ⟨Ext.refl _, rfl⟩
            · intro ρ W ⟨kc, kg, kf⟩ hF hs
              obtain ⟨h0, h1, h2, -⟩ := hs
              replace h0 : ρ (.tmp 153) = .bool (true) := h0
              replace h1 : ρ (.tmp 158) = .bool (false) := h1
              replace h2 : ρ (.tmp 149) = .bool (false) := h2
              go_simp
              exact ⟨Ext.refl _, rfl⟩
            · intro ρ W ⟨kc, kg, kf⟩ hF hs
              obtain ⟨h0, h1, -⟩ := hs
              replace h0 : ρ (.tmp 149) = .bool (false) := h0
              replace h1 : ρ (.tmp 159) = .bool (false) := h1
              go_simp
              exact ⟨Ext.refl _, rfl⟩
          · intro fv W hF hs
            obtain ⟨-, -, -, -, -, -, -, -, -, -, -, -, -, -, -, -, -, -, -, -, -, h160, -⟩ := hs
            replace h160 : fv 160 = .bool (false) := h160
            simp only [fin, List.filterMap]
            go_simp
            have X6 := Lib.hid (Xl.out.trans hF)
            have P := Lib.hid (P.out.ext hF)
            have Q := Lib.hid (Q.out.ext hF)
            clear hF y0 y1 y2 u0 u1 l0 l1
            have y0 : W.cell? ⟨w.heap.size, 0, none⟩ = some (.int .i64 (L : Int)) := P.out.cell 0
            have y1 : W.cell? ⟨w.heap.size, 1, none⟩ = some (.int .i64 (s : Int)) := P.out.cell 1
            have y2 : W.cell? ⟨w.heap.size, 2, none⟩ = some (.int .i64 (a : Int)) := P.out.cell 2
            have u0 : W.cell? ⟨W3.heap.size, 0, none⟩ = some (.int .i64 zb.1) := Q.out.cell 0
            have u1 : W.cell? ⟨W3.heap.size, 1, none⟩ = some (.int .i64 zb.2) := Q.out.cell 1
            go_wp2_with (go_at_call 59; refine (HMO.out (by omega) _).mono ?_; rintro e S1 ⟨rfl, hx⟩; have X7 := Lib.hid (X6.out.trans (hx.trans (Ext.alloc S1 (.cells #[.int .i64 zm.1, .int .i64 zm.2] 32)))); have P := Lib.hid ((P.out.ext hx).alloc (.cells #[.int .i64 zm.1, .int .i64 zm.2] 32)); have Q := Lib.hid ((Q.out.ext hx).alloc (.cells #[.int .i64 zm.1, .int .i64 zm.2] 32)); have Q2 := Lib.hid (Blk.new S1 32 #[.int .i64 zm.1, .int .i64 zm.2]); clear hx y0 y1 y2 u0 u1; refine Hid.out ?_)
            refine Lib.hid ?_
            have y0 : (S1.alloc (.cells #[.int .i64 zm.1, .int .i64 zm.2] 32)).cell? ⟨w.heap.size, 0, none⟩ = some (.int .i64 (L : Int)) := P.out.cell 0
            have y1 : (S1.alloc (.cells #[.int .i64 zm.1, .int .i64 zm.2] 32)).cell? ⟨w.heap.size, 1, none⟩ = some (.int .i64 (s : Int)) := P.out.cell 1
            have y2 : (S1.alloc (.cells #[.int .i64 zm.1, .int .i64 zm.2] 32)).cell? ⟨w.heap.size, 2, none⟩ = some (.int .i64 (a : Int)) := P.out.cell 2
            have u0 : (S1.alloc (.cells #[.int .i64 zm.1, .int .i64 zm.2] 32)).cell? ⟨W3.heap.size, 0, none⟩ = some (.int .i64 zb.1) := Q.out.cell 0
            have u1 : (S1.alloc (.cells #[.int .i64 zm.1, .int .i64 zm.2] 32)).cell? ⟨W3.heap.size, 1, none⟩ = some (.int .i64 zb.2) := Q.out.cell 1
            have v0 : (S1.alloc (.cells #[.int .i64 zm.1, .int .i64 zm.2] 32)).cell? ⟨S1.heap.size, 0, none⟩ = some (.int .i64 zm.1) := Q2.out.cell 0
            have v1 : (S1.alloc (.cells #[.int .i64 zm.1, .int .i64 zm.2] 32)).cell? ⟨S1.heap.size, 1, none⟩ = some (.int .i64 zm.2) := Q2.out.cell 1
            go_wp2_with (go_at_call 31; refine (HMS.out _).mono ?_; rintro e S2 ⟨rfl, hx⟩; have X8 := Lib.hid (X7.out.trans hx); have P := Lib.hid (P.out.ext hx); have Q := Lib.hid (Q.out.ext hx); have Q2 := Lib.hid (Q2.out.ext hx); clear hx y0 y1 y2 u0 u1 v0 v1; refine Hid.out ?_)
            refine Lib.hid ?_
            have y0 : S2.cell? ⟨w.heap.size, 0, none⟩ = some (.int .i64 (L : Int)) := P.out.cell 0
            have y1 : S2.cell? ⟨w.heap.size, 1, none⟩ = some (.int .i64 (s : Int)) := P.out.cell 1
            have y2 : S2.cell? ⟨w.heap.size, 2, none⟩ = some (.int .i64 (a : Int)) := P.out.cell 2
            have u0 : S2.cell? ⟨W3.heap.size, 0, none⟩ = some (.int .i64 zb.1) := Q.out.cell 0
            have u1 : S2.cell? ⟨W3.heap.size, 1, none⟩ = some (.int .i64 zb.2) := Q.out.cell 1
            have v0 : S2.cell? ⟨S1.heap.size, 0, none⟩ = some (.int .i64 zm.1) := Q2.out.cell 0
            have v1 : S2.cell? ⟨S1.heap.size, 1, none⟩ = some (.int .i64 zm.2) := Q2.out.cell 1
            go_wp2_with (go_at_call 29; refine (HMC.out _).mono ?_; rintro e S3 ⟨rfl, hx⟩; have X9 := Lib.hid (X8.out.trans hx); have P := Lib.hid (P.out.ext hx); have Q := Lib.hid (Q.out.ext hx); clear hx y0 y1 y2 u0 u1 v0 v1; refine Hid.out ?_)
            refine Lib.hid ?_
            have hcm : ¬ cmpV (zm.1 * zb.2) (zb.1 * zm.2) < 0 := by have := HMV.out; omega
            have y0 : S3.cell? ⟨w.heap.size, 0, none⟩ = some (.int .i64 (L : Int)) := P.out.cell 0
            have y1 : S3.cell? ⟨w.heap.size, 1, none⟩ = some (.int .i64 (s : Int)) := P.out.cell 1
            have y2 : S3.cell? ⟨w.heap.size, 2, none⟩ = some (.int .i64 (a : Int)) := P.out.cell 2
            have u0 : S3.cell? ⟨W3.heap.size, 0, none⟩ = some (.int .i64 zb.1) := Q.out.cell 0
            have u1 : S3.cell? ⟨W3.heap.size, 1, none⟩ = some (.int .i64 zb.2) := Q.out.cell 1
            by_cases hbb : 0 < b ∧ a ≤ b
            · obtain ⟨hb1, hb2⟩ := hbb
              have HEX := Lib.hid (HXC.out hb1 hb2)
              have hb3 : (0 : Int) < (b : Int) := by omega
              have hb4 : (a : Int) ≤ (b : Int) := by omega
              go_wp2_with (go_at_call 59; refine (HEX.out _).mono ?_; rintro e U1 ⟨rfl, hx⟩; have Z1 := Lib.hid (X9.out.trans (hx.trans (Ext.alloc U1 (.cells #[.int .i64 zb.1, .int .i64 zb.2] 32)))); have P := Lib.hid ((P.out.ext hx).alloc (.cells #[.int .i64 zb.1, .int .i64 zb.2] 32)); have Q := Lib.hid ((Q.out.ext hx).alloc (.cells #[.int .i64 zb.1, .int .i64 zb.2] 32)); have Q3 := Lib.hid (Blk.new U1 32 #[.int .i64 zb.1, .int .i64 zb.2]); clear hx y0 y1 y2 u0 u1; refine Hid.out ?_)
              refine Lib.hid ?_
              have y0 : (U1.alloc (.cells #[.int .i64 zb.1, .int .i64 zb.2] 32)).cell? ⟨w.heap.size, 0, none⟩ = some (.int .i64 (L : Int)) := P.out.cell 0
              have y1 : (U1.alloc (.cells #[.int .i64 zb.1, .int .i64 zb.2] 32)).cell? ⟨w.heap.size, 1, none⟩ = some (.int .i64 (s : Int)) := P.out.cell 1
              have y2 : (U1.alloc (.cells #[.int .i64 zb.1, .int .i64 zb.2] 32)).cell? ⟨w.heap.size, 2, none⟩ = some (.int .i64 (a : Int)) := P.out.cell 2
              have u0 : (U1.alloc (.cells #[.int .i64 zb.1, .int .i64 zb.2] 32)).cell? ⟨W3.heap.size, 0, none⟩ = some (.int .i64 zb.1) := Q.out.cell 0
              have u1 : (U1.alloc (.cells #[.int .i64 zb.1, .int .i64 zb.2] 32)).cell? ⟨W3.heap.size, 1, none⟩ = some (.int .i64 zb.2) := Q.out.cell 1
              have v0 : (U1.alloc (.cells #[.int .i64 zb.1, .int .i64 zb.2] 32)).cell? ⟨U1.heap.size, 0, none⟩ = some (.int .i64 zb.1) := Q3.out.cell 0
              have v1 : (U1.alloc (.cells #[.int .i64 zb.1, .int .i64 zb.2] 32)).cell? ⟨U1.heap.size, 1, none⟩ = some (.int .i64 zb.2) := Q3.out.cell 1
              clear hb1 hb2
              rcases hso : smp L b r L 1 with _ | n
              · have HSF := Lib.hid (fun W => show Calls Try.prog 61 #[.int .i64 (L : Int), .int .i64 (b : Int), .int .i64 (r : Int)] W fun e w' => e = .returned (.tuple #[.int .i64 0, .int .i64 12]) ∧ Ext W w' from by
                  have := HSG.out W
                  rw [hso] at this
                  exact this)
                have hb0 : b = 0 := smp_bad H1L.out HbL.out hso
                have hb1 : ((b : Int) == 0) = true := by simp [hb0]
                clear hb0 hso
                go_wp2_with (go_at_call 61; refine (HSF.out _).mono ?_; rintro e V1 ⟨rfl, hx⟩; have Y1 := Lib.hid (Z1.out.trans hx); clear hx; refine Hid.out ?_)
                refine Lib.hid ?_
                go_wp2
                go_ret
                exact ⟨rfl, Y1.out⟩
              · have HSF := Lib.hid (fun W => show Calls Try.prog 61 #[.int .i64 (L : Int), .int .i64 (b : Int), .int .i64 (r : Int)] W fun e w' => e = .returned (.tuple #[.int .i64 (n : Int), .int .i64 0]) ∧ Ext W w' from by
                  have := HSG.out W
                  rw [hso] at this
                  exact this)
                obtain ⟨n1, n2, n3, n4⟩ := smp_some hso
                have HRA := Lib.hid (fun W => show Calls Try.prog 69 #[.int .i64 (L : Int), .int .i64 (n : Int), .int .i64 (b : Int), .int .i64 (r : Int)] W fun e w' => e = .returned (.bool true) ∧ Ext W w' from by
                  have := HRR.out n n1 (by omega) W
                  rw [decide_eq_true n3] at this
                  exact this)
                have HWI := Lib.hid (fun W => show Calls Try.prog 20 #[.int .i64 (n : Int), .int .i64 1, .int .i64 (L : Int)] W fun e w' => e = .returned (.bool true) ∧ W = w' from by
                  have := within_any n 1 L W
                  rw [withinB_eq, decide_eq_true (by omega)] at this
                  exact this)
                have n5 : n ≤ L := by omega
                have N4 := Lib.hid n4
                clear n2 n3 n4 hso
                go_wp2_with (go_at_call 61; refine (HSF.out _).mono ?_; rintro e V1 ⟨rfl, hx⟩; have Y1 := Lib.hid (Z1.out.trans hx); have P := Lib.hid (P.out.ext hx); clear hx y0 y1 y2; refine Hid.out ?_)
                refine Lib.hid ?_
                have y0 : V1.cell? ⟨w.heap.size, 0, none⟩ = some (.int .i64 (L : Int)) := P.out.cell 0
                have y1 : V1.cell? ⟨w.heap.size, 1, none⟩ = some (.int .i64 (s : Int)) := P.out.cell 1
                have y2 : V1.cell? ⟨w.heap.size, 2, none⟩ = some (.int .i64 (a : Int)) := P.out.cell 2
                go_wp2_with (first
                  | (go_at_call 20; refine (HWI.out _).mono ?_; rintro e w' ⟨rfl, rfl⟩)
                  | (go_at_call 69; refine (HRA.out _).mono ?_; rintro e V2 ⟨rfl, hx⟩; have Y2 := Lib.hid (Y1.out.trans hx); have P := Lib.hid (P.out.ext hx); clear hx y0 y1 y2; refine Hid.out ?_))
                refine Lib.hid ?_
                have y0 : V2.cell? ⟨w.heap.size, 0, none⟩ = some (.int .i64 (L : Int)) := P.out.cell 0
                have y1 : V2.cell? ⟨w.heap.size, 1, none⟩ = some (.int .i64 (s : Int)) := P.out.cell 1
                have y2 : V2.cell? ⟨w.heap.size, 2, none⟩ = some (.int .i64 (a : Int)) := P.out.cell 2
                by_cases hn1 : n = 1
                · have hn2 : ((n : Int) == 1) = true := by simp [hn1]
                  clear hn1
                  go_wp2
                  go_ret
                  exact ⟨rfl, Y2.out⟩
                · have hn2 : ((n : Int) == 1) = false := by simp; omega
                  have HRB := Lib.hid (fun W => show Calls Try.prog 69 #[.int .i64 (L : Int), .int .i64 ((n : Int) - 1), .int .i64 (b : Int), .int .i64 (r : Int)] W fun e w' => e = .returned (.bool false) ∧ Ext W w' from by
                    have := HRR.out (n - 1) (by omega) (by omega) W
                    rw [decide_eq_false (show ¬ 1000 * (accF L (n - 1) 0 b).1 ≤ (r : Int) * (accF L (n - 1) 0 b).2 by have := N4.out (n - 1) (by omega) (by omega); omega), show ((n - 1 : Nat) : Int) = (n : Int) - 1 by omega] at this
                    exact this)
                  clear hn1
                  go_wp2_with (go_at_call 69; refine (HRB.out _).mono ?_; rintro e V3 ⟨rfl, hx⟩; have Y3 := Lib.hid (Y2.out.trans hx); clear hx)
                  go_ret
                  exact ⟨rfl, Y3.out⟩

            · have hbf : decide ((0 : Int) < (b : Int)) = false ∨ (decide ((0 : Int) < (b : Int)) = true ∧ decide ((a : Int) ≤ (b : Int)) = false) := by
                by_cases h : 0 < b
                · right; exact ⟨by simp; omega, by simp; omega⟩
                · left; simp; omega
              clear hbb
              rcases hbf with hbf | ⟨hbf, hbg⟩
              · have hb3 : ¬ (0 : Int) < (b : Int) := by simpa using hbf
                rcases hso : smp L b r L 1 with _ | n
                · have HSF := Lib.hid (fun W => show Calls Try.prog 61 #[.int .i64 (L : Int), .int .i64 (b : Int), .int .i64 (r : Int)] W fun e w' => e = .returned (.tuple #[.int .i64 0, .int .i64 12]) ∧ Ext W w' from by
                    have := HSG.out W
                    rw [hso] at this
                    exact this)
                  have hb0 : b = 0 := smp_bad H1L.out HbL.out hso
                  have hb1 : ((b : Int) == 0) = true := by simp [hb0]
                  clear hb0 hso
                  go_wp2_with (go_at_call 61; refine (HSF.out _).mono ?_; rintro e V1 ⟨rfl, hx⟩; have Y1 := Lib.hid (X9.out.trans hx); clear hx; refine Hid.out ?_)
                  refine Lib.hid ?_
                  go_wp2
                  go_ret
                  exact ⟨rfl, Y1.out⟩
                · have HSF := Lib.hid (fun W => show Calls Try.prog 61 #[.int .i64 (L : Int), .int .i64 (b : Int), .int .i64 (r : Int)] W fun e w' => e = .returned (.tuple #[.int .i64 (n : Int), .int .i64 0]) ∧ Ext W w' from by
                    have := HSG.out W
                    rw [hso] at this
                    exact this)
                  obtain ⟨n1, n2, n3, n4⟩ := smp_some hso
                  have HRA := Lib.hid (fun W => show Calls Try.prog 69 #[.int .i64 (L : Int), .int .i64 (n : Int), .int .i64 (b : Int), .int .i64 (r : Int)] W fun e w' => e = .returned (.bool true) ∧ Ext W w' from by
                    have := HRR.out n n1 (by omega) W
                    rw [decide_eq_true n3] at this
                    exact this)
                  have HWI := Lib.hid (fun W => show Calls Try.prog 20 #[.int .i64 (n : Int), .int .i64 1, .int .i64 (L : Int)] W fun e w' => e = .returned (.bool true) ∧ W = w' from by
                    have := within_any n 1 L W
                    rw [withinB_eq, decide_eq_true (by omega)] at this
                    exact this)
                  have n5 : n ≤ L := by omega
                  have N4 := Lib.hid n4
                  clear n2 n3 n4 hso
                  go_wp2_with (go_at_call 61; refine (HSF.out _).mono ?_; rintro e V1 ⟨rfl, hx⟩; have Y1 := Lib.hid (X9.out.trans hx); have P := Lib.hid (P.out.ext hx); clear hx y0 y1 y2; refine Hid.out ?_)
                  refine Lib.hid ?_
                  have y0 : V1.cell? ⟨w.heap.size, 0, none⟩ = some (.int .i64 (L : Int)) := P.out.cell 0
                  have y1 : V1.cell? ⟨w.heap.size, 1, none⟩ = some (.int .i64 (s : Int)) := P.out.cell 1
                  have y2 : V1.cell? ⟨w.heap.size, 2, none⟩ = some (.int .i64 (a : Int)) := P.out.cell 2
                  go_wp2_with (first
                    | (go_at_call 20; refine (HWI.out _).mono ?_; rintro e w' ⟨rfl, rfl⟩)
                    | (go_at_call 69; refine (HRA.out _).mono ?_; rintro e V2 ⟨rfl, hx⟩; have Y2 := Lib.hid (Y1.out.trans hx); have P := Lib.hid (P.out.ext hx); clear hx y0 y1 y2; refine Hid.out ?_))
                  refine Lib.hid ?_
                  have y0 : V2.cell? ⟨w.heap.size, 0, none⟩ = some (.int .i64 (L : Int)) := P.out.cell 0
                  have y1 : V2.cell? ⟨w.heap.size, 1, none⟩ = some (.int .i64 (s : Int)) := P.out.cell 1
                  have y2 : V2.cell? ⟨w.heap.size, 2, none⟩ = some (.int .i64 (a : Int)) := P.out.cell 2
                  by_cases hn1 : n = 1
                  · have hn2 : ((n : Int) == 1) = true := by simp [hn1]
                    clear hn1
                    go_wp2
                    go_ret
                    exact ⟨rfl, Y2.out⟩
                  · have hn2 : ((n : Int) == 1) = false := by simp; omega
                    have HRB := Lib.hid (fun W => show Calls Try.prog 69 #[.int .i64 (L : Int), .int .i64 ((n : Int) - 1), .int .i64 (b : Int), .int .i64 (r : Int)] W fun e w' => e = .returned (.bool false) ∧ Ext W w' from by
                      have := HRR.out (n - 1) (by omega) (by omega) W
                      rw [decide_eq_false (show ¬ 1000 * (accF L (n - 1) 0 b).1 ≤ (r : Int) * (accF L (n - 1) 0 b).2 by have := N4.out (n - 1) (by omega) (by omega); omega), show ((n - 1 : Nat) : Int) = (n : Int) - 1 by omega] at this
                      exact this)
                    clear hn1
                    go_wp2_with (go_at_call 69; refine (HRB.out _).mono ?_; rintro e V3 ⟨rfl, hx⟩; have Y3 := Lib.hid (Y2.out.trans hx); clear hx)
                    go_ret
                    exact ⟨rfl, Y3.out⟩

              · have hb3 : (0 : Int) < (b : Int) := by simpa using hbf
                have hb4 : ¬ (a : Int) ≤ (b : Int) := by simpa using hbg
                rcases hso : smp L b r L 1 with _ | n
                · have HSF := Lib.hid (fun W => show Calls Try.prog 61 #[.int .i64 (L : Int), .int .i64 (b : Int), .int .i64 (r : Int)] W fun e w' => e = .returned (.tuple #[.int .i64 0, .int .i64 12]) ∧ Ext W w' from by
                    have := HSG.out W
                    rw [hso] at this
                    exact this)
                  have hb0 : b = 0 := smp_bad H1L.out HbL.out hso
                  have hb1 : ((b : Int) == 0) = true := by simp [hb0]
                  clear hb0 hso
                  go_wp2_with (go_at_call 61; refine (HSF.out _).mono ?_; rintro e V1 ⟨rfl, hx⟩; have Y1 := Lib.hid (X9.out.trans hx); clear hx; refine Hid.out ?_)
                  refine Lib.hid ?_
                  go_wp2
                  go_ret
                  exact ⟨rfl, Y1.out⟩
                · have HSF := Lib.hid (fun W => show Calls Try.prog 61 #[.int .i64 (L : Int), .int .i64 (b : Int), .int .i64 (r : Int)] W fun e w' => e = .returned (.tuple #[.int .i64 (n : Int), .int .i64 0]) ∧ Ext W w' from by
                    have := HSG.out W
                    rw [hso] at this
                    exact this)
                  obtain ⟨n1, n2, n3, n4⟩ := smp_some hso
                  have HRA := Lib.hid (fun W => show Calls Try.prog 69 #[.int .i64 (L : Int), .int .i64 (n : Int), .int .i64 (b : Int), .int .i64 (r : Int)] W fun e w' => e = .returned (.bool true) ∧ Ext W w' from by
                    have := HRR.out n n1 (by omega) W
                    rw [decide_eq_true n3] at this
                    exact this)
                  have HWI := Lib.hid (fun W => show Calls Try.prog 20 #[.int .i64 (n : Int), .int .i64 1, .int .i64 (L : Int)] W fun e w' => e = .returned (.bool true) ∧ W = w' from by
                    have := within_any n 1 L W
                    rw [withinB_eq, decide_eq_true (by omega)] at this
                    exact this)
                  have n5 : n ≤ L := by omega
                  have N4 := Lib.hid n4
                  clear n2 n3 n4 hso
                  go_wp2_with (go_at_call 61; refine (HSF.out _).mono ?_; rintro e V1 ⟨rfl, hx⟩; have Y1 := Lib.hid (X9.out.trans hx); have P := Lib.hid (P.out.ext hx); clear hx y0 y1 y2; refine Hid.out ?_)
                  refine Lib.hid ?_
                  have y0 : V1.cell? ⟨w.heap.size, 0, none⟩ = some (.int .i64 (L : Int)) := P.out.cell 0
                  have y1 : V1.cell? ⟨w.heap.size, 1, none⟩ = some (.int .i64 (s : Int)) := P.out.cell 1
                  have y2 : V1.cell? ⟨w.heap.size, 2, none⟩ = some (.int .i64 (a : Int)) := P.out.cell 2
                  go_wp2_with (first
                    | (go_at_call 20; refine (HWI.out _).mono ?_; rintro e w' ⟨rfl, rfl⟩)
                    | (go_at_call 69; refine (HRA.out _).mono ?_; rintro e V2 ⟨rfl, hx⟩; have Y2 := Lib.hid (Y1.out.trans hx); have P := Lib.hid (P.out.ext hx); clear hx y0 y1 y2; refine Hid.out ?_))
                  refine Lib.hid ?_
                  have y0 : V2.cell? ⟨w.heap.size, 0, none⟩ = some (.int .i64 (L : Int)) := P.out.cell 0
                  have y1 : V2.cell? ⟨w.heap.size, 1, none⟩ = some (.int .i64 (s : Int)) := P.out.cell 1
                  have y2 : V2.cell? ⟨w.heap.size, 2, none⟩ = some (.int .i64 (a : Int)) := P.out.cell 2
                  by_cases hn1 : n = 1
                  · have hn2 : ((n : Int) == 1) = true := by simp [hn1]
                    clear hn1
                    go_wp2
                    go_ret
                    exact ⟨rfl, Y2.out⟩
                  · have hn2 : ((n : Int) == 1) = false := by simp; omega
                    have HRB := Lib.hid (fun W => show Calls Try.prog 69 #[.int .i64 (L : Int), .int .i64 ((n : Int) - 1), .int .i64 (b : Int), .int .i64 (r : Int)] W fun e w' => e = .returned (.bool false) ∧ Ext W w' from by
                      have := HRR.out (n - 1) (by omega) (by omega) W
                      rw [decide_eq_false (show ¬ 1000 * (accF L (n - 1) 0 b).1 ≤ (r : Int) * (accF L (n - 1) 0 b).2 by have := N4.out (n - 1) (by omega) (by omega); omega), show ((n - 1 : Nat) : Int) = (n : Int) - 1 by omega] at this
                      exact this)
                    clear hn1
                    go_wp2_with (go_at_call 69; refine (HRB.out _).mono ?_; rintro e V3 ⟨rfl, hx⟩; have Y3 := Lib.hid (Y2.out.trans hx); clear hx)
                    go_ret
                    exact ⟨rfl, Y3.out⟩


        · have has : a = s := by omega
          rw [HLB.out has] at t2 t3
          clear has
          go_wp2_with (fail)
          obtain ⟨Wl, hWl⟩ : ∃ Wl, Wl = wr.alloc (.cells #[.int .i64 1, .int .i64 1] 32) := ⟨_, rfl⟩
          rw [← hWl]
          have P := Lib.hid (show Blk Wl w.heap.size 104 _ by rw [hWl]; exact P.out.alloc _)
          have Q := Lib.hid (show Blk Wl W3.heap.size 32 _ by rw [hWl]; exact Q.out.alloc _)
          have l0 : Wl.cell? ⟨wr.heap.size, 0, none⟩ = some (.int .i64 1) := by rw [hWl]; exact (Blk.new wr 32 #[.int .i64 1, .int .i64 1]).cell 0
          have l1 : Wl.cell? ⟨wr.heap.size, 1, none⟩ = some (.int .i64 1) := by rw [hWl]; exact (Blk.new wr 32 #[.int .i64 1, .int .i64 1]).cell 1
          have Xl := Lib.hid (show Ext w Wl by rw [hWl]; exact X6.out.trans (Ext.alloc _ _))
          clear hWl y0 y1 y2 u0 u1 t2 t3 X6
          have y0 : Wl.cell? ⟨w.heap.size, 0, none⟩ = some (.int .i64 (L : Int)) := P.out.cell 0
          have y1 : Wl.cell? ⟨w.heap.size, 1, none⟩ = some (.int .i64 (s : Int)) := P.out.cell 1
          have y2 : Wl.cell? ⟨w.heap.size, 2, none⟩ = some (.int .i64 (a : Int)) := P.out.cell 2
          have u0 : Wl.cell? ⟨W3.heap.size, 0, none⟩ = some (.int .i64 zb.1) := Q.out.cell 0
          have u1 : Wl.cell? ⟨W3.heap.size, 1, none⟩ = some (.int .i64 zb.2) := Q.out.cell 1
          generalize wr.heap.size = ql at *
          have hsa : ¬ (a : Int) < (s : Int) := by omega
          refine wp_region_eachM [true, true, true, true, true, true, true, true, true, true, true, true, true, true, true, false, false, false, false, false, true, true] [(142, true, true), (142, true, true), (142, true, true), (142, true, true), (142, true, true), (149, false, true), (149, false, true), (149, false, true), (149, false, true), (153, true, false), (153, true, false), (153, true, false), (153, true, false), (153, true, false), (149, false, true)] [some 139, some 140, some 141, some 142, some 143, some 144, some 145, some 146, some 147, some 148, some 149, some 150, some 151, some 152, some 153, some 154, some 155, some 156, some 157, some 158, some 159, some 160] [[12], [139], [140], [141], [3, 142], [143, 142], [3, 142], [145, 142], [144, 146, 142], [142, 147], [148], [12, 149], [149], [150, 151, 149], [152, 149], [3, 153], [154, 153], [3, 153], [156, 153], [155, 157, 153], [153, 158, 149], [149, 159]]
            [Is (.pointer (some ⟨ql, 0, none⟩)), Is (.int .i64 (1)), Is (.bool (true)), Is (.bool (true)), Is (.pointer (some ⟨w.heap.size, 2, none⟩)), Is (.int .i64 ((a : Int))), Is (.pointer (some ⟨w.heap.size, 1, none⟩)), Is (.int .i64 ((s : Int))), Is (.bool (false)), Is (.bool (false)), Is (.bool (false)), Is (.agg #[.int .i64 (1), .int .i64 (1)]), Is (.agg #[.int .i64 1, .int .i64 1]), Is (.bool (false)), Is (.bool (false)), Is (undef), Is (undef), Is (undef), Is (undef), Is (undef), Is (.bool (false)), Is (.bool (false))]
            (by kernel_rfl) (by kernel_rfl) (by kernel_rfl) (by kernel_rfl) (by kernel_rfl) Ext (fun W => Ext Wl W)
            (fun W _ => Ext.refl W) (fun W W' h k => h.trans k) ?_ (by intro p hp; simp only [List.mem_cons, List.not_mem_nil, or_false] at hp; rcases hp with rfl | rfl | rfl | rfl | rfl | rfl | rfl | rfl | rfl | rfl | rfl | rfl | rfl | rfl | rfl <;> exact ⟨_, rfl, fun v W h => by rw [show v = _ from h]; first | (simp; done) | (simp [undef]; done)⟩) (Ext.drew _) ?_ ?_
          · repeat (refine ⟨fun _ _ _ _ k h => (by first | exact h | exact (IntsAt.ext h k)), ?_⟩)
            exact trivial
          · refine ⟨?_, ?_, ?_, ?_, ?_, ?_, ?_, ?_, ?_, ?_, ?_, ?_, ?_, ?_, ?_, ?_, ?_, ?_, ?_, ?_, ?_, ?_, trivial⟩
            · intro ρ W ⟨kc, kg, kf⟩ hF hs
              obtain ⟨h0, -⟩ := hs
              replace h0 : ρ (.tmp 12) = .pointer (some ⟨ql, 0, none⟩) := h0
              go_simp
              exact ⟨Ext.refl _, rfl⟩
            · intro ρ W ⟨kc, kg, kf⟩ hF hs
              obtain ⟨h0, -⟩ := hs
              replace h0 : ρ (.tmp 139) = .pointer (some ⟨ql, 0, none⟩) := h0
              have hc0 : W.cell? ⟨ql, 0, none⟩ = some (.int .i64 (1)) := hF.cell (by assumption)
              go_simp
              exact ⟨Ext.refl _, rfl⟩
            · intro ρ W ⟨kc, kg, kf⟩ hF hs
              obtain ⟨h0, -⟩ := hs
              replace h0 : ρ (.tmp 140) = .int .i64 (1) := h0
              go_simp
              exact ⟨Ext.refl _, rfl⟩
            · intro ρ W ⟨kc, kg, kf⟩ hF hs
              obtain ⟨h0, -⟩ := hs
              replace h0 : ρ (.tmp 141) = .bool (true) := h0
              go_simp
              exact ⟨Ext.refl _, rfl⟩
            · intro ρ W ⟨kc, kg, kf⟩ hF hs
              obtain ⟨h0, h1, -⟩ := hs
              replace h0 : ρ (.tmp 3) = .pointer (some ⟨w.heap.size, 0, none⟩) := h0
              replace h1 : ρ (.tmp 142) = .bool (true) := h1
              go_simp
              exact ⟨Ext.refl _, rfl⟩
            · intro ρ W ⟨kc, kg, kf⟩ hF hs
              obtain ⟨h0, h1, -⟩ := hs
              replace h0 : ρ (.tmp 143) = .pointer (some ⟨w.heap.size, 2, none⟩) := h0
              replace h1 : ρ (.tmp 142) = .bool (true) := h1
              have hc0 : W.cell? ⟨w.heap.size, 2, none⟩ = some (.int .i64 ((a : Int))) := hF.cell (by assumption)
              go_simp
              exact ⟨Ext.refl _, rfl⟩
            · intro ρ W ⟨kc, kg, kf⟩ hF hs
              obtain ⟨h0, h1, -⟩ := hs
              replace h0 : ρ (.tmp 3) = .pointer (some ⟨w.heap.size, 0, none⟩) := h0
              replace h1 : ρ (.tmp 142) = .bool (true) := h1
              go_simp
              exact ⟨Ext.refl _, rfl⟩
            · intro ρ W ⟨kc, kg, kf⟩ hF hs
              obtain ⟨h0, h1, -⟩ := hs
              replace h0 : ρ (.tmp 145) = .pointer (some ⟨w.heap.size, 1, none⟩) := h0
              replace h1 : ρ (.tmp 142) = .bool (true) := h1
              have hc0 : W.cell? ⟨w.heap.size, 1, none⟩ = some (.int .i64 ((s : Int))) := hF.cell (by assumption)
              go_simp
              exact ⟨Ext.refl _, rfl⟩
            · intro ρ W ⟨kc, kg, kf⟩ hF hs
              obtain ⟨h0, h1, h2, -⟩ := hs
              replace h0 : ρ (.tmp 144) = .int .i64 ((a : Int)) := h0
              replace h1 : ρ (.tmp 146) = .int .i64 ((s : Int)) := h1
              replace h2 : ρ (.tmp 142) = .bool (true) := h2
              have hd : decide ((a : Int) < (s : Int)) = false := by simp; omega
              go_simp
              exact ⟨Ext.refl _, rfl⟩
            · intro ρ W ⟨kc, kg, kf⟩ hF hs
              obtain ⟨h0, h1, -⟩ := hs
              replace h0 : ρ (.tmp 142) = .bool (true) := h0
              replace h1 : ρ (.tmp 147) = .bool (false) := h1
              go_simp
              exact ⟨Ext.refl _, rfl⟩
            · intro ρ W ⟨kc, kg, kf⟩ hF hs
              obtain ⟨h0, -⟩ := hs
              replace h0 : ρ (.tmp 148) = .bool (false) := h0
              go_simp
              exact ⟨Ext.refl _, rfl⟩
            · intro ρ W ⟨kc, kg, kf⟩ hF hs
              obtain ⟨h0, h1, -⟩ := hs
              replace h0 : ρ (.tmp 12) = .pointer (some ⟨ql, 0, none⟩) := h0
              replace h1 : ρ (.tmp 149) = .bool (false) := h1
              have hc0 : W.cell? ⟨ql, 0, none⟩ = some (.int .i64 (1)) := hF.cell (by assumption)
              have hc1 : W.cell? ⟨ql, 1, none⟩ = some (.int .i64 (1)) := hF.cell (by assumption)
              go_simp
              exact ⟨Ext.refl _, rfl⟩
            · intro ρ W ⟨kc, kg, kf⟩ hF hs
              obtain ⟨h0, -⟩ := hs
              replace h0 : ρ (.tmp 149) = .bool (false) := h0
              go_simp
              refine (whole_any 1 _).mono ?_; rintro e w' ⟨rfl, hx⟩; exact ⟨_, rfl, hx, rfl⟩
            · intro ρ W ⟨kc, kg, kf⟩ hF hs
              obtain ⟨h0, h1, h2, -⟩ := hs
              replace h0 : ρ (.tmp 150) = .agg #[.int .i64 (1), .int .i64 (1)] := h0
              replace h1 : ρ (.tmp 151) = .agg #[.int .i64 1, .int .i64 1] := h1
              replace h2 : ρ (.tmp 149) = .bool (false) := h2
              go_simp
              exact ⟨Ext.refl _, rfl⟩
            · intro ρ W ⟨kc, kg, kf⟩ hF hs
              obtain ⟨h0, h1, -⟩ := hs
              replace h0 : ρ (.tmp 152) = .bool (false) := h0
              replace h1 : ρ (.tmp 149) = .bool (false) := h1
              go_simp
              exact ⟨Ext.refl _, rfl⟩
            · exact fun _ => rfl
            · exact fun _ => rfl
            · exact fun _ => rfl
            · exact fun _ => rfl
            · exact fun _ => rfl
            · intro ρ W ⟨kc, kg, kf⟩ hF hs
              obtain ⟨h0, h1, h2, -⟩ := hs
              replace h0 : ρ (.tmp 153) = .bool (false) := h0
              replace h1 : ρ (.tmp 158) = undef := h1
              replace h2 : ρ (.tmp 149) = .bool (false) := h2
              go_simp
              exact ⟨Ext.refl _, rfl⟩
            · intro ρ W ⟨kc, kg, kf⟩ hF hs
              obtain ⟨h0, h1, -⟩ := hs
              replace h0 : ρ (.tmp 149) = .bool (false) := h0
              replace h1 : ρ (.tmp 159) = .bool (false) := h1
              go_simp
              exact ⟨Ext.refl _, rfl⟩
          · intro fv W hF hs
            obtain ⟨-, -, -, -, -, -, -, -, -, -, -, -, -, -, -, -, -, -, -, -, -, h160, -⟩ := hs
            replace h160 : fv 160 = .bool (false) := h160
            simp only [fin, List.filterMap]
            go_simp
            have X6 := Lib.hid (Xl.out.trans hF)
            have P := Lib.hid (P.out.ext hF)
            have Q := Lib.hid (Q.out.ext hF)
            clear hF y0 y1 y2 u0 u1 l0 l1
            have y0 : W.cell? ⟨w.heap.size, 0, none⟩ = some (.int .i64 (L : Int)) := P.out.cell 0
            have y1 : W.cell? ⟨w.heap.size, 1, none⟩ = some (.int .i64 (s : Int)) := P.out.cell 1
            have y2 : W.cell? ⟨w.heap.size, 2, none⟩ = some (.int .i64 (a : Int)) := P.out.cell 2
            have u0 : W.cell? ⟨W3.heap.size, 0, none⟩ = some (.int .i64 zb.1) := Q.out.cell 0
            have u1 : W.cell? ⟨W3.heap.size, 1, none⟩ = some (.int .i64 zb.2) := Q.out.cell 1
            by_cases hbb : 0 < b ∧ a ≤ b
            · obtain ⟨hb1, hb2⟩ := hbb
              have HEX := Lib.hid (HXC.out hb1 hb2)
              have hb3 : (0 : Int) < (b : Int) := by omega
              have hb4 : (a : Int) ≤ (b : Int) := by omega
              go_wp2_with (go_at_call 59; refine (HEX.out _).mono ?_; rintro e U1 ⟨rfl, hx⟩; have Z1 := Lib.hid (X6.out.trans (hx.trans (Ext.alloc U1 (.cells #[.int .i64 zb.1, .int .i64 zb.2] 32)))); have P := Lib.hid ((P.out.ext hx).alloc (.cells #[.int .i64 zb.1, .int .i64 zb.2] 32)); have Q := Lib.hid ((Q.out.ext hx).alloc (.cells #[.int .i64 zb.1, .int .i64 zb.2] 32)); have Q3 := Lib.hid (Blk.new U1 32 #[.int .i64 zb.1, .int .i64 zb.2]); clear hx y0 y1 y2 u0 u1; refine Hid.out ?_)
              refine Lib.hid ?_
              have y0 : (U1.alloc (.cells #[.int .i64 zb.1, .int .i64 zb.2] 32)).cell? ⟨w.heap.size, 0, none⟩ = some (.int .i64 (L : Int)) := P.out.cell 0
              have y1 : (U1.alloc (.cells #[.int .i64 zb.1, .int .i64 zb.2] 32)).cell? ⟨w.heap.size, 1, none⟩ = some (.int .i64 (s : Int)) := P.out.cell 1
              have y2 : (U1.alloc (.cells #[.int .i64 zb.1, .int .i64 zb.2] 32)).cell? ⟨w.heap.size, 2, none⟩ = some (.int .i64 (a : Int)) := P.out.cell 2
              have u0 : (U1.alloc (.cells #[.int .i64 zb.1, .int .i64 zb.2] 32)).cell? ⟨W3.heap.size, 0, none⟩ = some (.int .i64 zb.1) := Q.out.cell 0
              have u1 : (U1.alloc (.cells #[.int .i64 zb.1, .int .i64 zb.2] 32)).cell? ⟨W3.heap.size, 1, none⟩ = some (.int .i64 zb.2) := Q.out.cell 1
              have v0 : (U1.alloc (.cells #[.int .i64 zb.1, .int .i64 zb.2] 32)).cell? ⟨U1.heap.size, 0, none⟩ = some (.int .i64 zb.1) := Q3.out.cell 0
              have v1 : (U1.alloc (.cells #[.int .i64 zb.1, .int .i64 zb.2] 32)).cell? ⟨U1.heap.size, 1, none⟩ = some (.int .i64 zb.2) := Q3.out.cell 1
              clear hb1 hb2
              rcases hso : smp L b r L 1 with _ | n
              · have HSF := Lib.hid (fun W => show Calls Try.prog 61 #[.int .i64 (L : Int), .int .i64 (b : Int), .int .i64 (r : Int)] W fun e w' => e = .returned (.tuple #[.int .i64 0, .int .i64 12]) ∧ Ext W w' from by
                  have := HSG.out W
                  rw [hso] at this
                  exact this)
                have hb0 : b = 0 := smp_bad H1L.out HbL.out hso
                have hb1 : ((b : Int) == 0) = true := by simp [hb0]
                clear hb0 hso
                go_wp2_with (go_at_call 61; refine (HSF.out _).mono ?_; rintro e V1 ⟨rfl, hx⟩; have Y1 := Lib.hid (Z1.out.trans hx); clear hx; refine Hid.out ?_)
                refine Lib.hid ?_
                go_wp2
                go_ret
                exact ⟨rfl, Y1.out⟩
              · have HSF := Lib.hid (fun W => show Calls Try.prog 61 #[.int .i64 (L : Int), .int .i64 (b : Int), .int .i64 (r : Int)] W fun e w' => e = .returned (.tuple #[.int .i64 (n : Int), .int .i64 0]) ∧ Ext W w' from by
                  have := HSG.out W
                  rw [hso] at this
                  exact this)
                obtain ⟨n1, n2, n3, n4⟩ := smp_some hso
                have HRA := Lib.hid (fun W => show Calls Try.prog 69 #[.int .i64 (L : Int), .int .i64 (n : Int), .int .i64 (b : Int), .int .i64 (r : Int)] W fun e w' => e = .returned (.bool true) ∧ Ext W w' from by
                  have := HRR.out n n1 (by omega) W
                  rw [decide_eq_true n3] at this
                  exact this)
                have HWI := Lib.hid (fun W => show Calls Try.prog 20 #[.int .i64 (n : Int), .int .i64 1, .int .i64 (L : Int)] W fun e w' => e = .returned (.bool true) ∧ W = w' from by
                  have := within_any n 1 L W
                  rw [withinB_eq, decide_eq_true (by omega)] at this
                  exact this)
                have n5 : n ≤ L := by omega
                have N4 := Lib.hid n4
                clear n2 n3 n4 hso
                go_wp2_with (go_at_call 61; refine (HSF.out _).mono ?_; rintro e V1 ⟨rfl, hx⟩; have Y1 := Lib.hid (Z1.out.trans hx); have P := Lib.hid (P.out.ext hx); clear hx y0 y1 y2; refine Hid.out ?_)
                refine Lib.hid ?_
                have y0 : V1.cell? ⟨w.heap.size, 0, none⟩ = some (.int .i64 (L : Int)) := P.out.cell 0
                have y1 : V1.cell? ⟨w.heap.size, 1, none⟩ = some (.int .i64 (s : Int)) := P.out.cell 1
                have y2 : V1.cell? ⟨w.heap.size, 2, none⟩ = some (.int .i64 (a : Int)) := P.out.cell 2
                go_wp2_with (first
                  | (go_at_call 20; refine (HWI.out _).mono ?_; rintro e w' ⟨rfl, rfl⟩)
                  | (go_at_call 69; refine (HRA.out _).mono ?_; rintro e V2 ⟨rfl, hx⟩; have Y2 := Lib.hid (Y1.out.trans hx); have P := Lib.hid (P.out.ext hx); clear hx y0 y1 y2; refine Hid.out ?_))
                refine Lib.hid ?_
                have y0 : V2.cell? ⟨w.heap.size, 0, none⟩ = some (.int .i64 (L : Int)) := P.out.cell 0
                have y1 : V2.cell? ⟨w.heap.size, 1, none⟩ = some (.int .i64 (s : Int)) := P.out.cell 1
                have y2 : V2.cell? ⟨w.heap.size, 2, none⟩ = some (.int .i64 (a : Int)) := P.out.cell 2
                by_cases hn1 : n = 1
                · have hn2 : ((n : Int) == 1) = true := by simp [hn1]
                  clear hn1
                  go_wp2
                  go_ret
                  exact ⟨rfl, Y2.out⟩
                · have hn2 : ((n : Int) == 1) = false := by simp; omega
                  have HRB := Lib.hid (fun W => show Calls Try.prog 69 #[.int .i64 (L : Int), .int .i64 ((n : Int) - 1), .int .i64 (b : Int), .int .i64 (r : Int)] W fun e w' => e = .returned (.bool false) ∧ Ext W w' from by
                    have := HRR.out (n - 1) (by omega) (by omega) W
                    rw [decide_eq_false (show ¬ 1000 * (accF L (n - 1) 0 b).1 ≤ (r : Int) * (accF L (n - 1) 0 b).2 by have := N4.out (n - 1) (by omega) (by omega); omega), show ((n - 1 : Nat) : Int) = (n : Int) - 1 by omega] at this
                    exact this)
                  clear hn1
                  go_wp2_with (go_at_call 69; refine (HRB.out _).mono ?_; rintro e V3 ⟨rfl, hx⟩; have Y3 := Lib.hid (Y2.out.trans hx); clear hx)
                  go_ret
                  exact ⟨rfl, Y3.out⟩

            · have hbf : decide ((0 : Int) < (b : Int)) = false ∨ (decide ((0 : Int) < (b : Int)) = true ∧ decide ((a : Int) ≤ (b : Int)) = false) := by
                by_cases h : 0 < b
                · right; exact ⟨by simp; omega, by simp; omega⟩
                · left; simp; omega
              clear hbb
              rcases hbf with hbf | ⟨hbf, hbg⟩
              · have hb3 : ¬ (0 : Int) < (b : Int) := by simpa using hbf
                rcases hso : smp L b r L 1 with _ | n
                · have HSF := Lib.hid (fun W => show Calls Try.prog 61 #[.int .i64 (L : Int), .int .i64 (b : Int), .int .i64 (r : Int)] W fun e w' => e = .returned (.tuple #[.int .i64 0, .int .i64 12]) ∧ Ext W w' from by
                    have := HSG.out W
                    rw [hso] at this
                    exact this)
                  have hb0 : b = 0 := smp_bad H1L.out HbL.out hso
                  have hb1 : ((b : Int) == 0) = true := by simp [hb0]
                  clear hb0 hso
                  go_wp2_with (go_at_call 61; refine (HSF.out _).mono ?_; rintro e V1 ⟨rfl, hx⟩; have Y1 := Lib.hid (X6.out.trans hx); clear hx; refine Hid.out ?_)
                  refine Lib.hid ?_
                  go_wp2
                  go_ret
                  exact ⟨rfl, Y1.out⟩
                · have HSF := Lib.hid (fun W => show Calls Try.prog 61 #[.int .i64 (L : Int), .int .i64 (b : Int), .int .i64 (r : Int)] W fun e w' => e = .returned (.tuple #[.int .i64 (n : Int), .int .i64 0]) ∧ Ext W w' from by
                    have := HSG.out W
                    rw [hso] at this
                    exact this)
                  obtain ⟨n1, n2, n3, n4⟩ := smp_some hso
                  have HRA := Lib.hid (fun W => show Calls Try.prog 69 #[.int .i64 (L : Int), .int .i64 (n : Int), .int .i64 (b : Int), .int .i64 (r : Int)] W fun e w' => e = .returned (.bool true) ∧ Ext W w' from by
                    have := HRR.out n n1 (by omega) W
                    rw [decide_eq_true n3] at this
                    exact this)
                  have HWI := Lib.hid (fun W => show Calls Try.prog 20 #[.int .i64 (n : Int), .int .i64 1, .int .i64 (L : Int)] W fun e w' => e = .returned (.bool true) ∧ W = w' from by
                    have := within_any n 1 L W
                    rw [withinB_eq, decide_eq_true (by omega)] at this
                    exact this)
                  have n5 : n ≤ L := by omega
                  have N4 := Lib.hid n4
                  clear n2 n3 n4 hso
                  go_wp2_with (go_at_call 61; refine (HSF.out _).mono ?_; rintro e V1 ⟨rfl, hx⟩; have Y1 := Lib.hid (X6.out.trans hx); have P := Lib.hid (P.out.ext hx); clear hx y0 y1 y2; refine Hid.out ?_)
                  refine Lib.hid ?_
                  have y0 : V1.cell? ⟨w.heap.size, 0, none⟩ = some (.int .i64 (L : Int)) := P.out.cell 0
                  have y1 : V1.cell? ⟨w.heap.size, 1, none⟩ = some (.int .i64 (s : Int)) := P.out.cell 1
                  have y2 : V1.cell? ⟨w.heap.size, 2, none⟩ = some (.int .i64 (a : Int)) := P.out.cell 2
                  go_wp2_with (first
                    | (go_at_call 20; refine (HWI.out _).mono ?_; rintro e w' ⟨rfl, rfl⟩)
                    | (go_at_call 69; refine (HRA.out _).mono ?_; rintro e V2 ⟨rfl, hx⟩; have Y2 := Lib.hid (Y1.out.trans hx); have P := Lib.hid (P.out.ext hx); clear hx y0 y1 y2; refine Hid.out ?_))
                  refine Lib.hid ?_
                  have y0 : V2.cell? ⟨w.heap.size, 0, none⟩ = some (.int .i64 (L : Int)) := P.out.cell 0
                  have y1 : V2.cell? ⟨w.heap.size, 1, none⟩ = some (.int .i64 (s : Int)) := P.out.cell 1
                  have y2 : V2.cell? ⟨w.heap.size, 2, none⟩ = some (.int .i64 (a : Int)) := P.out.cell 2
                  by_cases hn1 : n = 1
                  · have hn2 : ((n : Int) == 1) = true := by simp [hn1]
                    clear hn1
                    go_wp2
                    go_ret
                    exact ⟨rfl, Y2.out⟩
                  · have hn2 : ((n : Int) == 1) = false := by simp; omega
                    have HRB := Lib.hid (fun W => show Calls Try.prog 69 #[.int .i64 (L : Int), .int .i64 ((n : Int) - 1), .int .i64 (b : Int), .int .i64 (r : Int)] W fun e w' => e = .returned (.bool false) ∧ Ext W w' from by
                      have := HRR.out (n - 1) (by omega) (by omega) W
                      rw [decide_eq_false (show ¬ 1000 * (accF L (n - 1) 0 b).1 ≤ (r : Int) * (accF L (n - 1) 0 b).2 by have := N4.out (n - 1) (by omega) (by omega); omega), show ((n - 1 : Nat) : Int) = (n : Int) - 1 by omega] at this
                      exact this)
                    clear hn1
                    go_wp2_with (go_at_call 69; refine (HRB.out _).mono ?_; rintro e V3 ⟨rfl, hx⟩; have Y3 := Lib.hid (Y2.out.trans hx); clear hx)
                    go_ret
                    exact ⟨rfl, Y3.out⟩

              · have hb3 : (0 : Int) < (b : Int) := by simpa using hbf
                have hb4 : ¬ (a : Int) ≤ (b : Int) := by simpa using hbg
                rcases hso : smp L b r L 1 with _ | n
                · have HSF := Lib.hid (fun W => show Calls Try.prog 61 #[.int .i64 (L : Int), .int .i64 (b : Int), .int .i64 (r : Int)] W fun e w' => e = .returned (.tuple #[.int .i64 0, .int .i64 12]) ∧ Ext W w' from by
                    have := HSG.out W
                    rw [hso] at this
                    exact this)
                  have hb0 : b = 0 := smp_bad H1L.out HbL.out hso
                  have hb1 : ((b : Int) == 0) = true := by simp [hb0]
                  clear hb0 hso
                  go_wp2_with (go_at_call 61; refine (HSF.out _).mono ?_; rintro e V1 ⟨rfl, hx⟩; have Y1 := Lib.hid (X6.out.trans hx); clear hx; refine Hid.out ?_)
                  refine Lib.hid ?_
                  go_wp2
                  go_ret
                  exact ⟨rfl, Y1.out⟩
                · have HSF := Lib.hid (fun W => show Calls Try.prog 61 #[.int .i64 (L : Int), .int .i64 (b : Int), .int .i64 (r : Int)] W fun e w' => e = .returned (.tuple #[.int .i64 (n : Int), .int .i64 0]) ∧ Ext W w' from by
                    have := HSG.out W
                    rw [hso] at this
                    exact this)
                  obtain ⟨n1, n2, n3, n4⟩ := smp_some hso
                  have HRA := Lib.hid (fun W => show Calls Try.prog 69 #[.int .i64 (L : Int), .int .i64 (n : Int), .int .i64 (b : Int), .int .i64 (r : Int)] W fun e w' => e = .returned (.bool true) ∧ Ext W w' from by
                    have := HRR.out n n1 (by omega) W
                    rw [decide_eq_true n3] at this
                    exact this)
                  have HWI := Lib.hid (fun W => show Calls Try.prog 20 #[.int .i64 (n : Int), .int .i64 1, .int .i64 (L : Int)] W fun e w' => e = .returned (.bool true) ∧ W = w' from by
                    have := within_any n 1 L W
                    rw [withinB_eq, decide_eq_true (by omega)] at this
                    exact this)
                  have n5 : n ≤ L := by omega
                  have N4 := Lib.hid n4
                  clear n2 n3 n4 hso
                  go_wp2_with (go_at_call 61; refine (HSF.out _).mono ?_; rintro e V1 ⟨rfl, hx⟩; have Y1 := Lib.hid (X6.out.trans hx); have P := Lib.hid (P.out.ext hx); clear hx y0 y1 y2; refine Hid.out ?_)
                  refine Lib.hid ?_
                  have y0 : V1.cell? ⟨w.heap.size, 0, none⟩ = some (.int .i64 (L : Int)) := P.out.cell 0
                  have y1 : V1.cell? ⟨w.heap.size, 1, none⟩ = some (.int .i64 (s : Int)) := P.out.cell 1
                  have y2 : V1.cell? ⟨w.heap.size, 2, none⟩ = some (.int .i64 (a : Int)) := P.out.cell 2
                  go_wp2_with (first
                    | (go_at_call 20; refine (HWI.out _).mono ?_; rintro e w' ⟨rfl, rfl⟩)
                    | (go_at_call 69; refine (HRA.out _).mono ?_; rintro e V2 ⟨rfl, hx⟩; have Y2 := Lib.hid (Y1.out.trans hx); have P := Lib.hid (P.out.ext hx); clear hx y0 y1 y2; refine Hid.out ?_))
                  refine Lib.hid ?_
                  have y0 : V2.cell? ⟨w.heap.size, 0, none⟩ = some (.int .i64 (L : Int)) := P.out.cell 0
                  have y1 : V2.cell? ⟨w.heap.size, 1, none⟩ = some (.int .i64 (s : Int)) := P.out.cell 1
                  have y2 : V2.cell? ⟨w.heap.size, 2, none⟩ = some (.int .i64 (a : Int)) := P.out.cell 2
                  by_cases hn1 : n = 1
                  · have hn2 : ((n : Int) == 1) = true := by simp [hn1]
                    clear hn1
                    go_wp2
                    go_ret
                    exact ⟨rfl, Y2.out⟩
                  · have hn2 : ((n : Int) == 1) = false := by simp; omega
                    have HRB := Lib.hid (fun W => show Calls Try.prog 69 #[.int .i64 (L : Int), .int .i64 ((n : Int) - 1), .int .i64 (b : Int), .int .i64 (r : Int)] W fun e w' => e = .returned (.bool false) ∧ Ext W w' from by
                      have := HRR.out (n - 1) (by omega) (by omega) W
                      rw [decide_eq_false (show ¬ 1000 * (accF L (n - 1) 0 b).1 ≤ (r : Int) * (accF L (n - 1) 0 b).2 by have := N4.out (n - 1) (by omega) (by omega); omega), show ((n - 1 : Nat) : Int) = (n : Int) - 1 by omega] at this
                      exact this)
                    clear hn1
                    go_wp2_with (go_at_call 69; refine (HRB.out _).mono ?_; rintro e V3 ⟨rfl, hx⟩; have Y3 := Lib.hid (Y2.out.trans hx); clear hx)
                    go_ret
                    exact ⟨rfl, Y3.out⟩


theorem exact_any (L s a b r : Int) (w : World) : Calls Try.prog 12 #[.agg #[.int .i64 L, .int .i64 s, .int .i64 a], .int .i64 b, .int .i64 r] w fun e w' => e = .returned (.bool true) ∧ Ext w w' := by
  by_cases hp : planE L s a = 0
  · by_cases hb : badE L b = 0
    · by_cases hr : riskE r = 0
      · obtain ⟨q1, q2, q3, q4, q5, q6⟩ := plan_ok hp
        obtain ⟨b0, b1⟩ := bad_ok hb
        rw [riskE_eq] at hr
        by_cases hw : withinB r 0 999 = true
        · rw [withinB_eq] at hw
          have hw := of_decide_eq_true hw
          have := exact_ok L.toNat s.toNat a.toNat b.toNat r.toNat w (by omega) (by omega) (by omega) (by omega) (by omega) (by omega)
          rw [Int.toNat_of_nonneg (show 0 ≤ L by omega), Int.toNat_of_nonneg (show 0 ≤ s by omega), Int.toNat_of_nonneg (show 0 ≤ a by omega), Int.toNat_of_nonneg (show 0 ≤ b by omega), Int.toNat_of_nonneg (show 0 ≤ r by omega)] at this
          exact this
        · rw [if_neg hw] at hr
          cases hr
      · exact exact_bad L s a b r w (Or.inr (Or.inr hr))
    · exact exact_bad L s a b r w (Or.inr (Or.inl hb))
  · exact exact_bad L s a b r w (Or.inl hp)

end Go.Proofs.Ytmddnpagfgilcaa
