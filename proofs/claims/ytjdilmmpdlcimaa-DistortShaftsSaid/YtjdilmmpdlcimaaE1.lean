/- The reference of valid shafts. -/
import Derived.Test.YtjdilmmpdlcimaaE0
import Derived.Test.YtjdilmmpdlcimaaQ1
import Derived.Test.YtjdilmmpdlcimaaB5
import Derived.Lib.MinMax
import Derived.Deep.DeepCutAuto
import Derived.BigQuiet

namespace Go.Proofs.Ytjdilmmpdlcimaa
open Go.RowKit Go.Shelf Go.Mem Go.RegInv
attribute [local go_sem] RelUpon_value RelUpon_skip RelUpon_enter BigFrame.eval_const BigFrame.eval_global BigFrame.eval_func


theorem sized_any (a m : Int) (hm : -1000000000000 ≤ m ∧ m ≤ 1000000000000) (w : World) : Calls Try.prog 79 #[.int .i64 a, .int .i64 m] w fun e w' => e = .returned (.bool (withinB a (-m) m)) ∧ w = w' := by
  have HWI := Lib.hid (fun W => within_any a (-m) m W)
  generalize withinB a (-m) m = b at *
  go_enter Try.func79, Try.ntmps79
  go_wp2_with (go_at_call 21; refine (HWI.out _).mono ?_; rintro e w' ⟨rfl, rfl⟩)
  go_ret
  exact ⟨rfl, rfl⟩
set_option maxRecDepth 100000 in
set_option maxHeartbeats 4000000 in
theorem refCheckShaft_any {L : Int} {J K : Option Addr} {n m cj ck : Nat} {js : List Int} {ks : List Rg} {w : World} (hn : js.length = n) (hJ : RowsAt 1 I1 w J js) (hm : ks.length = m) (hK : RowsAt 2 Rg.enc w K ks) :
    Calls Try.prog 20 #[.agg #[.int .i64 L, .slice J n cj, .slice K m ck]] w fun e w' => e = .returned (.tuple #[.int .i64 (checkS L js ks).1, .int .i64 (checkS L js ks).2]) ∧ Ext w w' := by
  have HN := Lib.hid hn
  have HM := Lib.hid hm
  have HJ := Lib.hid hJ
  have HK := Lib.hid hK
  have HH := Lib.hid (headK_if L n m)
  have HC := Lib.hid (fun z (h : headK L n m = z) (hz : z ≠ 0) => checkS_head (L := L) (js := js) (ks := ks) (z := z) (by rw [hn, hm]; exact h) hz)
  have HL := Lib.hid (fun (h : headK L n m = 0) => show checkS L js ks = firstAt (jointK L js ks) n 0 by rw [checkS_loop (by rw [hn, hm]; exact h), hn])
  have hnb : n ≤ 1152921504606846976 := by have := hJ.1; omega
  have hmb : m ≤ 1152921504606846976 := by have := hK.1; omega
  generalize checkS L js ks = cs at *
  clear hn hJ hm hK
  obtain ⟨W0, hW0⟩ : ∃ W0, W0 = w.alloc (.cells #[.int .i64 L, .slice J n cj, .slice K m ck] 25) := ⟨_, rfl⟩
  have K0 := Lib.hid (show Blk W0 (w.heap.size) 25 #[.int .i64 L, .slice J n cj, .slice K m ck] by rw [hW0]; exact Blk.new _ _ _)
  have E0 := Lib.hid (show Ext w W0 by rw [hW0]; exact Ext.alloc _ _)
  have y0_0 : W0.cell? ⟨w.heap.size, 0, none⟩ = some (.int .i64 L) := K0.out.cell 0
  have y0_1 : W0.cell? ⟨w.heap.size, 1, none⟩ = some (.slice J n cj) := K0.out.cell 1
  have y0_2 : W0.cell? ⟨w.heap.size, 2, none⟩ = some (.slice K m ck) := K0.out.cell 2
  by_cases h1 : 1 ≤ L ∧ L ≤ 10000
  · have HW := Lib.hid (fun W => show Calls Try.prog 21 #[.int .i64 L, .int .i64 1, .int .i64 10000] W fun e w' => e = .returned (.bool true) ∧ W = w' from by
      have := within_any L 1 10000 W
      rw [withinB_t h1] at this
      exact this)
    by_cases h2 : 4 < n
    · have hd : decide ((4 : Int) < (n : Int)) = true := by simp; omega
      have HV := Lib.hid (HC.out 8 (by rw [HH.out, if_pos h1, if_pos h2]) (by decide))
      clear h1 h2 HC HL HH
      go_enter Try.func20, Try.ntmps20
      go_upto_region 1 with (fail)
      rw [← hW0]
      clear hW0
      go_wp2_with (go_at_call 21; refine (HW.out _).mono ?_; rintro e w' ⟨rfl, rfl⟩)
      go_ret2
      exact ⟨ret_two (by rw [HV.out]) (by rw [HV.out]), E0.out⟩
    · have hd : decide ((4 : Int) < (n : Int)) = false := by simp; omega
      by_cases h3 : m ≠ n
      · have hd3 : ((m : Int) != (n : Int)) = true := by simp; omega
        have HV := Lib.hid (HC.out 10 (by rw [HH.out, if_pos h1, if_neg h2, if_pos h3]) (by decide))
        clear h1 h2 h3 HC HL HH
        go_enter Try.func20, Try.ntmps20
        go_upto_region 1 with (fail)
        rw [← hW0]
        clear hW0
        go_wp2_with (go_at_call 21; refine (HW.out _).mono ?_; rintro e w' ⟨rfl, rfl⟩)
        go_ret2
        exact ⟨ret_two (by rw [HV.out]) (by rw [HV.out]), E0.out⟩
      · obtain rfl : m = n := by omega
        have hd3 : ((m : Int) != (m : Int)) = false := by simp
        have HV := Lib.hid (HL.out (by rw [HH.out, if_pos h1, if_neg h2, if_neg h3]))
        have hn4 : m ≤ 4 := by omega
        have hl1 := h1.1
        have hl2 := h1.2
        clear h1 h2 h3 HC HL HH
        go_enter Try.func20, Try.ntmps20
        go_upto_region 1 with (fail)
        rw [← hW0]
        clear hW0
        go_wp2_with (go_at_call 21; refine (HW.out _).mono ?_; rintro e w' ⟨rfl, rfl⟩)
        clear y0_0 y0_1 y0_2 hd hd3
        go_loopw [4] (fun i wr => ∃ k : Nat, k ≤ m ∧ i = .int .i64 (k : Int) ∧ cs = firstAt (jointK L js ks) (m - k) k ∧ Ext w wr ∧ Blk wr w.heap.size 25 #[.int .i64 L, .slice J m cj, .slice K m ck]) (fun i _ => m - (intOf i).toNat)
        case atStart => exact ⟨0, by omega, rfl, HV.out, E0.out, K0.out⟩
        case round =>
          clear E0 K0 HV HW
          obtain ⟨k, hk, rfl, hr, hx, k0⟩ := hrel
          have X := Lib.hid hx
          have K0 := Lib.hid k0
          have R := Lib.hid hr
          clear hx k0 hr
          by_cases hlt : k < m
          · obtain ⟨jb, jo, rfl, hjb, hjc⟩ := row_I1 (HJ.out.ext X.out) (i := k) (by have := HN.out; omega)
            obtain ⟨kb, ko, rfl, hkb, hc0, hc1⟩ := row_Rg (HK.out.ext X.out) (i := k) (by have := HM.out; omega)
            have HJI := Lib.hid (jointK_if L js ks k)
            have HHE := Lib.hid (fun z (hz : jointK L js ks k = z) (h0 : z ≠ 0) => R.out.trans (firstAt_here _ hlt hz h0))
            have HNX := Lib.hid (fun (hz : jointK L js ks k = 0) => R.out.trans (firstAt_next _ hlt hz))
            have HP := Lib.hid (fun (h : 0 < k) => row_I1 (HJ.out.ext X.out) (i := k - 1) (by have := HN.out; omega))
            have hki : (k : Int) < (m : Int) := by omega
            generalize hjk : jointK L js ks k = jk at *
            generalize js.getD k 0 = j at *
            generalize ks.getD k default = x at *
            have z0 : wr.cell? ⟨w.heap.size, 0, none⟩ = some (.int .i64 L) := K0.out.cell 0
            have z1 : wr.cell? ⟨w.heap.size, 1, none⟩ = some (.slice (some ⟨jb, jo, none⟩) m cj) := K0.out.cell 1
            have z2 : wr.cell? ⟨w.heap.size, 2, none⟩ = some (.slice (some ⟨kb, ko, none⟩) m ck) := K0.out.cell 2
            by_cases g1 : 1 ≤ j ∧ j ≤ L - 1
            · rw [if_pos g1] at HJI
              have HWI := Lib.hid (fun W => show Calls Try.prog 21 #[.int .i64 j, .int .i64 1, .int .i64 (L - 1)] W fun e w' => e = .returned (.bool true) ∧ W = w' from by
                have := within_any j 1 (L - 1) W
                rw [withinB_t g1] at this
                exact this)
              clear g1
              go_upto_region 10 with (fail)
              go_quiet (first | (go_at_call 21; refine Calls.quiet_of_same ((HWI.out _).mono fun _ _ ⟨h1, h2⟩ => ⟨h1, h2.symm⟩)))
              clear HWI
              obtain ⟨V1, hV⟩ : ∃ V, V = World.drewN wr nq := ⟨_, rfl⟩
              have hxV : Ext wr V1 := by rw [hV]; exact Ext.drewN _ _
              rw [← hV]
              replace X := Lib.hid (X.out.trans hxV)
              replace K0 := Lib.hid (K0.out.ext hxV)
              replace hjc := hxV.cell hjc
              replace hc0 := hxV.cell hc0
              replace hc1 := hxV.cell hc1
              clear hV z0 z1 z2
              have z0 : V1.cell? ⟨w.heap.size, 0, none⟩ = some (.int .i64 L) := K0.out.cell 0
              have z1 : V1.cell? ⟨w.heap.size, 1, none⟩ = some (.slice (some ⟨jb, jo, none⟩) m cj) := K0.out.cell 1
              have z2 : V1.cell? ⟨w.heap.size, 2, none⟩ = some (.slice (some ⟨kb, ko, none⟩) m ck) := K0.out.cell 2
              rcases (show k = 0 ∨ 0 < k by omega) with hk0 | hk0
              · rw [if_neg (by simp [hk0])] at HJI
                have hg : decide (0 < k) = false := by simp; omega
                clear HP hk0
                go_upto_region 12 with (fail)
                go_quiet (fail)
                obtain ⟨V, hV⟩ : ∃ V, V = World.drewN V1 nq := ⟨_, rfl⟩
                have hxV : Ext V1 V := by rw [hV]; exact Ext.drewN _ _
                rw [← hV]
                replace X := Lib.hid (X.out.trans hxV)
                replace K0 := Lib.hid (K0.out.ext hxV)
                replace hjc := hxV.cell hjc
                replace hc0 := hxV.cell hc0
                replace hc1 := hxV.cell hc1
                clear hV z0 z1 z2
                have z0 : V.cell? ⟨w.heap.size, 0, none⟩ = some (.int .i64 L) := K0.out.cell 0
                have z1 : V.cell? ⟨w.heap.size, 1, none⟩ = some (.slice (some ⟨jb, jo, none⟩) m cj) := K0.out.cell 1
                have z2 : V.cell? ⟨w.heap.size, 2, none⟩ = some (.slice (some ⟨kb, ko, none⟩) m ck) := K0.out.cell 2
                clear hg hxV
                rw [endsE_if] at HJI
                obtain ⟨q5, hq⟩ : ∃ q, q = V.heap.size := ⟨_, rfl⟩
                obtain ⟨W3, hW3⟩ : ∃ W, W = V.alloc (.cells #[.int .i64 x.1, .int .i64 x.2] 33) := ⟨_, rfl⟩
                have E3 := Lib.hid (show Ext V W3 by rw [hW3]; exact Ext.alloc _ _)
                have KQ := Lib.hid (show Blk W3 q5 33 #[.int .i64 x.1, .int .i64 x.2] by rw [hW3, hq]; exact Blk.new _ _ _)
                go_upto_region 15 with (fail)
                rw [← hW3, ← hq]
                replace X := Lib.hid (X.out.trans E3.out)
                replace K0 := Lib.hid (K0.out.ext E3.out)
                clear hW3 E3 hq z0 z1 z2 hc0 hc1 hjc
                have q0 : W3.cell? ⟨q5, 0, none⟩ = some (.int .i64 x.1) := KQ.out.cell 0
                have q1 : W3.cell? ⟨q5, 1, none⟩ = some (.int .i64 x.2) := KQ.out.cell 1
                by_cases g3 : -100000 ≤ x.1 ∧ x.1 ≤ 100000
                · rw [if_pos g3] at HJI
                  have HW1 := Lib.hid (withinB_t g3)
                  by_cases g4 : -100000 ≤ x.2 ∧ x.2 ≤ 100000
                  · rw [if_pos g4] at HJI
                    have HW2 := Lib.hid (withinB_t g4)
                    by_cases g5 : x.2 < x.1
                    · rw [if_pos g5] at HJI
                      have HV := Lib.hid (HHE.out 9 HJI.out (by decide))
                      clear HHE HNX g3 g4
                      go_wp2_with (go_at_call 79; refine (sized_any _ 100000 (by omega) _).mono ?_; rintro e w' ⟨rfl, rfl⟩; first | rw [HW1.out] | rw [HW2.out])
                      go_ret2
                      exact ⟨ret_two (by rw [HV.out]) (by rw [HV.out]), X.out⟩
                    · rw [if_neg g5] at HJI
                      have HV := Lib.hid (HNX.out HJI.out)
                      clear HHE HNX g3 g4
                      go_wp2_with (go_at_call 79; refine (sized_any _ 100000 (by omega) _).mono ?_; rintro e w' ⟨rfl, rfl⟩; first | rw [HW1.out] | rw [HW2.out])
                      go_roundw
                      case rel => exact ⟨k + 1, by omega, by go_num, HV.out, X.out, K0.out⟩
                      case measure => simp [intOf]; omega
                  · rw [if_neg g4] at HJI
                    have HW2 := Lib.hid (withinB_f g4)
                    have HV := Lib.hid (HHE.out 2 HJI.out (by decide))
                    clear HHE HNX g3 g4
                    go_wp2_with (go_at_call 79; refine (sized_any _ 100000 (by omega) _).mono ?_; rintro e w' ⟨rfl, rfl⟩; first | rw [HW1.out] | rw [HW2.out])
                    go_ret2
                    exact ⟨ret_two (by rw [HV.out]) (by rw [HV.out]), X.out⟩
                · rw [if_neg g3] at HJI
                  have HW1 := Lib.hid (withinB_f g3)
                  have HW2 := HW1
                  have HV := Lib.hid (HHE.out 2 HJI.out (by decide))
                  clear HHE HNX g3
                  go_wp2_with (go_at_call 79; refine (sized_any _ 100000 (by omega) _).mono ?_; rintro e w' ⟨rfl, rfl⟩; first | rw [HW1.out] | rw [HW2.out])
                  go_ret2
                  exact ⟨ret_two (by rw [HV.out]) (by rw [HV.out]), X.out⟩
              · obtain ⟨jb2, jo2, hje, hjb2, hpc⟩ := HP.out hk0
                obtain ⟨rfl, rfl⟩ : jb = jb2 ∧ jo = jo2 := by simpa using hje
                have hg : decide (0 < k) = true := by simp; omega
                have hb1 : (k : Int) - 1 < (m : Int) := by omega
                have hb3 : (0 : Int) ≤ (k : Int) - 1 := by omega
                have hb6 : (1 : Int) ≤ (k : Int) := by omega
                have hb7 : ((k : Int) - 1).toNat = k - 1 := by omega
                replace hpc := hxV.cell hpc
                generalize js.getD (k - 1) 0 = j0 at *
                generalize hkm : k - 1 = km at *
                by_cases g2 : j ≤ j0
                · rw [if_pos ⟨by omega, g2⟩] at HJI
                  have HV := Lib.hid (HHE.out 9 HJI.out (by decide))
                  have hd : decide (j ≤ j0) = true := by simp [g2]
                  clear HHE HNX HP hc0 hc1 hje hjb2 g2 hkm
                  go_upto_region 12 with (fail)
                  go_quiet (fail)
                  go_wp2
                  go_ret2
                  exact ⟨ret_two (by rw [HV.out]) (by rw [HV.out]), X.out.trans (Ext.drewN _ _)⟩
                · rw [if_neg (fun h => g2 h.2)] at HJI
                  have hd : decide (j ≤ j0) = false := by simp; omega
                  clear HP hje hjb2 g2 hkm
                  go_upto_region 12 with (fail)
                  go_quiet (fail)
                  obtain ⟨V, hV⟩ : ∃ V, V = World.drewN V1 nq := ⟨_, rfl⟩
                  have hxV : Ext V1 V := by rw [hV]; exact Ext.drewN _ _
                  rw [← hV]
                  replace X := Lib.hid (X.out.trans hxV)
                  replace K0 := Lib.hid (K0.out.ext hxV)
                  replace hjc := hxV.cell hjc
                  replace hc0 := hxV.cell hc0
                  replace hc1 := hxV.cell hc1
                  clear hV z0 z1 z2
                  have z0 : V.cell? ⟨w.heap.size, 0, none⟩ = some (.int .i64 L) := K0.out.cell 0
                  have z1 : V.cell? ⟨w.heap.size, 1, none⟩ = some (.slice (some ⟨jb, jo, none⟩) m cj) := K0.out.cell 1
                  have z2 : V.cell? ⟨w.heap.size, 2, none⟩ = some (.slice (some ⟨kb, ko, none⟩) m ck) := K0.out.cell 2
                  clear hg hxV hd hb1 hb3 hb6 hb7 hpc
                  rw [endsE_if] at HJI
                  obtain ⟨q5, hq⟩ : ∃ q, q = V.heap.size := ⟨_, rfl⟩
                  obtain ⟨W3, hW3⟩ : ∃ W, W = V.alloc (.cells #[.int .i64 x.1, .int .i64 x.2] 33) := ⟨_, rfl⟩
                  have E3 := Lib.hid (show Ext V W3 by rw [hW3]; exact Ext.alloc _ _)
                  have KQ := Lib.hid (show Blk W3 q5 33 #[.int .i64 x.1, .int .i64 x.2] by rw [hW3, hq]; exact Blk.new _ _ _)
                  go_upto_region 15 with (fail)
                  rw [← hW3, ← hq]
                  replace X := Lib.hid (X.out.trans E3.out)
                  replace K0 := Lib.hid (K0.out.ext E3.out)
                  clear hW3 E3 hq z0 z1 z2 hc0 hc1 hjc
                  have q0 : W3.cell? ⟨q5, 0, none⟩ = some (.int .i64 x.1) := KQ.out.cell 0
                  have q1 : W3.cell? ⟨q5, 1, none⟩ = some (.int .i64 x.2) := KQ.out.cell 1
                  by_cases g3 : -100000 ≤ x.1 ∧ x.1 ≤ 100000
                  · rw [if_pos g3] at HJI
                    have HW1 := Lib.hid (withinB_t g3)
                    by_cases g4 : -100000 ≤ x.2 ∧ x.2 ≤ 100000
                    · rw [if_pos g4] at HJI
                      have HW2 := Lib.hid (withinB_t g4)
                      by_cases g5 : x.2 < x.1
                      · rw [if_pos g5] at HJI
                        have HV := Lib.hid (HHE.out 9 HJI.out (by decide))
                        clear HHE HNX g3 g4
                        go_wp2_with (go_at_call 79; refine (sized_any _ 100000 (by omega) _).mono ?_; rintro e w' ⟨rfl, rfl⟩; first | rw [HW1.out] | rw [HW2.out])
                        go_ret2
                        exact ⟨ret_two (by rw [HV.out]) (by rw [HV.out]), X.out⟩
                      · rw [if_neg g5] at HJI
                        have HV := Lib.hid (HNX.out HJI.out)
                        clear HHE HNX g3 g4
                        go_wp2_with (go_at_call 79; refine (sized_any _ 100000 (by omega) _).mono ?_; rintro e w' ⟨rfl, rfl⟩; first | rw [HW1.out] | rw [HW2.out])
                        go_roundw
                        case rel => exact ⟨k + 1, by omega, by go_num, HV.out, X.out, K0.out⟩
                        case measure => simp [intOf]; omega
                    · rw [if_neg g4] at HJI
                      have HW2 := Lib.hid (withinB_f g4)
                      have HV := Lib.hid (HHE.out 2 HJI.out (by decide))
                      clear HHE HNX g3 g4
                      go_wp2_with (go_at_call 79; refine (sized_any _ 100000 (by omega) _).mono ?_; rintro e w' ⟨rfl, rfl⟩; first | rw [HW1.out] | rw [HW2.out])
                      go_ret2
                      exact ⟨ret_two (by rw [HV.out]) (by rw [HV.out]), X.out⟩
                  · rw [if_neg g3] at HJI
                    have HW1 := Lib.hid (withinB_f g3)
                    have HW2 := HW1
                    have HV := Lib.hid (HHE.out 2 HJI.out (by decide))
                    clear HHE HNX g3
                    go_wp2_with (go_at_call 79; refine (sized_any _ 100000 (by omega) _).mono ?_; rintro e w' ⟨rfl, rfl⟩; first | rw [HW1.out] | rw [HW2.out])
                    go_ret2
                    exact ⟨ret_two (by rw [HV.out]) (by rw [HV.out]), X.out⟩
            · rw [if_neg g1] at HJI
              have HWI := Lib.hid (fun W => show Calls Try.prog 21 #[.int .i64 j, .int .i64 1, .int .i64 (L - 1)] W fun e w' => e = .returned (.bool false) ∧ W = w' from by
                have := within_any j 1 (L - 1) W
                rw [withinB_f g1] at this
                exact this)
              have HV := Lib.hid (HHE.out 2 HJI.out (by decide))
              clear g1 HHE HNX HP hc0 hc1
              go_upto_region 10 with (fail)
              go_quiet (first | (go_at_call 21; refine Calls.quiet_of_same ((HWI.out _).mono fun _ _ ⟨h1, h2⟩ => ⟨h1, h2.symm⟩)))
              clear HWI
              go_wp2
              go_ret2
              exact ⟨ret_two (by rw [HV.out]) (by rw [HV.out]), X.out.trans (Ext.drewN _ _)⟩
          · obtain rfl : k = m := by omega
            have hkn : ¬ (k : Int) < (k : Int) := by omega
            have HV := Lib.hid (show cs = (0, 0) by rw [R.out, Nat.sub_self]; rfl)
            have z0 : wr.cell? ⟨w.heap.size, 0, none⟩ = some (.int .i64 L) := K0.out.cell 0
            have z1 : wr.cell? ⟨w.heap.size, 1, none⟩ = some (.slice J k cj) := K0.out.cell 1
            go_wp2
            go_ret2
            exact ⟨ret_two (by rw [HV.out]) (by rw [HV.out]), X.out⟩
  · have HW := Lib.hid (fun W => show Calls Try.prog 21 #[.int .i64 L, .int .i64 1, .int .i64 10000] W fun e w' => e = .returned (.bool false) ∧ W = w' from by
      have := within_any L 1 10000 W
      rw [withinB_f h1] at this
      exact this)
    have HV := Lib.hid (HC.out 2 (by rw [HH.out, if_neg h1]) (by decide))
    clear h1 HC HL HH
    go_enter Try.func20, Try.ntmps20
    go_upto_region 1 with (fail)
    rw [← hW0]
    clear hW0
    go_wp2_with (go_at_call 21; refine (HW.out _).mono ?_; rintro e w' ⟨rfl, rfl⟩)
    go_ret2
    exact ⟨ret_two (by rw [HV.out]) (by rw [HV.out]), E0.out⟩

end Go.Proofs.Ytjdilmmpdlcimaa
