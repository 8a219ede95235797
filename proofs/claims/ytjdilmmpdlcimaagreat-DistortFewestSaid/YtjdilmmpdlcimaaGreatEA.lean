/- Errors as conditions. The reference of valid shafts. The reference of deflections. Deflections at all joints. Whether lists are equal. The references of shafts. -/
import Derived.Test.YtjdilmmpdlcimaaGreatC2
import Derived.Test.YtjdilmmpdlcimaaGreatQ1
import Derived.Test.YtjdilmmpdlcimaaGreatB5
import Derived.Test.YtjdilmmpdlcimaaGreatB2
import Derived.Test.YtjdilmmpdlcimaaGreatC8
import Derived.Test.YtjdilmmpdlcimaaGreatC13
import Derived.Lib.MinMax
import Derived.Deep.DeepCutAuto
import Derived.BigQuiet
import Derived.Laws.AppendOwn
import Derived.Laws.AppendOwnNone
import Derived.Laws.StructEq

namespace Go.Proofs.YtjdilmmpdlcimaaGreat
open Go.RowKit Go.Shelf Go.Mem Go.RegInv
attribute [local go_sem] RelUpon_value RelUpon_skip RelUpon_enter BigFrame.eval_const BigFrame.eval_global BigFrame.eval_func


theorem outB_in {lo hi x : Int} (h : lo ≤ x ∧ x ≤ hi) : outB lo hi x = false := by
  simp [outB]; omega
theorem outB_out {lo hi x : Int} (h : ¬ (lo ≤ x ∧ x ≤ hi)) : outB lo hi x = true := by
  simp [outB]; omega
theorem rangeE_one (lo hi x : Int) : rangeE lo hi [x] = if lo ≤ x ∧ x ≤ hi then 0 else 2 := by
  by_cases h : lo ≤ x ∧ x ≤ hi
  · rw [if_pos h]; simp [rangeE, errIf, outB_in h]
  · rw [if_neg h]; simp [rangeE, errIf, outB_out h]
theorem rangeE_pair (lo hi x y : Int) : rangeE lo hi [x, y] = if lo ≤ x ∧ x ≤ hi then (if lo ≤ y ∧ y ≤ hi then 0 else 2) else 2 := by
  by_cases h : lo ≤ x ∧ x ≤ hi
  · rw [if_pos h]
    by_cases h2 : lo ≤ y ∧ y ≤ hi
    · rw [if_pos h2]; simp [rangeE, errIf, outB_in h, outB_in h2]
    · rw [if_neg h2]; simp [rangeE, errIf, outB_in h, outB_out h2]
  · rw [if_neg h]; simp [rangeE, errIf, outB_out h]
theorem firstE_cons0 (l : List Int) : firstE (0 :: l) = firstE l := by simp [firstE]
theorem firstE_consN {x : Int} (l : List Int) (h : x ≠ 0) : firstE (x :: l) = x := by simp [firstE, h]
theorem errIf_t (b : Bool) (c : Int) (h : b = true) : errIf b c = c := by simp [errIf, h]
theorem errIf_f (b : Bool) (c : Int) (h : b = false) : errIf b c = 0 := by simp [errIf, h]
theorem endsE_if (lo hi : Int) (r : Rg) : endsE lo hi r = if lo ≤ r.1 ∧ r.1 ≤ hi then (if lo ≤ r.2 ∧ r.2 ≤ hi then (if r.2 < r.1 then 9 else 0) else 2) else 2 := by
  unfold endsE
  rw [rangeE_pair]
  by_cases h : lo ≤ r.1 ∧ r.1 ≤ hi
  · rw [if_pos h, if_pos h]
    by_cases h2 : lo ≤ r.2 ∧ r.2 ≤ hi
    · rw [if_pos h2, if_pos h2, firstE_cons0, firstE_one]
      by_cases h3 : r.2 < r.1
      · rw [if_pos h3]; simp [errIf, h3]
      · rw [if_neg h3]; simp [errIf, h3]
    · rw [if_neg h2, if_neg h2, firstE_consN _ (by decide)]
  · rw [if_neg h, if_neg h, firstE_consN _ (by decide)]
theorem withinB_t {a lo hi : Int} (h : lo ≤ a ∧ a ≤ hi) : withinB a lo hi = true := by simp [withinB, h]
theorem withinB_f {a lo hi : Int} (h : ¬ (lo ≤ a ∧ a ≤ hi)) : withinB a lo hi = false := by
  simp only [withinB]
  by_cases h1 : lo ≤ a
  · by_cases h2 : a ≤ hi
    · exact absurd ⟨h1, h2⟩ h
    · simp [h2]
  · simp [h1]
theorem jointK_if (L : Int) (js : List Int) (ks : List Rg) (i : Nat) : jointK L js ks i = if 1 ≤ js.getD i 0 ∧ js.getD i 0 ≤ L - 1 then (if i ≠ 0 ∧ js.getD i 0 ≤ js.getD (i - 1) 0 then 9 else endsE (-100000) 100000 (ks.getD i default)) else 2 := by
  unfold jointK
  rw [rangeE_one]
  by_cases h : 1 ≤ js.getD i 0 ∧ js.getD i 0 ≤ L - 1
  · rw [if_pos h, if_pos h, firstE_cons0]
    by_cases h2 : i ≠ 0 ∧ js.getD i 0 ≤ js.getD (i - 1) 0
    · rw [if_pos h2, errIf_t _ _ (by rw [if_neg h2.1]; simpa using h2.2), firstE_consN _ (by decide)]
    · rw [if_neg h2, errIf_f _ _ (by
        by_cases h3 : i = 0
        · rw [if_pos h3]
        · rw [if_neg h3]; exact decide_eq_false (fun h => h2 ⟨h3, h⟩)), firstE_cons0, firstE_one]
  · rw [if_neg h, if_neg h, firstE_consN _ (by decide)]
theorem pressK_if (am : List Int) (i : Nat) : pressK am i = if 1 ≤ am.getD i 0 ∧ am.getD i 0 ≤ 10000 then (if i ≠ 0 ∧ am.getD i 0 ≤ am.getD (i - 1) 0 then 9 else 0) else 2 := by
  unfold pressK
  rw [rangeE_one]
  by_cases h : 1 ≤ am.getD i 0 ∧ am.getD i 0 ≤ 10000
  · rw [if_pos h, if_pos h, firstE_cons0, firstE_one]
    by_cases h2 : i ≠ 0 ∧ am.getD i 0 ≤ am.getD (i - 1) 0
    · rw [if_pos h2, errIf_t _ _ (by rw [if_neg h2.1]; simpa using h2.2)]
    · rw [if_neg h2, errIf_f _ _ (by
        by_cases h3 : i = 0
        · rw [if_pos h3]
        · rw [if_neg h3]; exact decide_eq_false (fun h => h2 ⟨h3, h⟩))]
  · rw [if_neg h, if_neg h, firstE_consN _ (by decide)]
theorem headK_if (L : Int) (n m : Nat) : headK L n m = if 1 ≤ L ∧ L ≤ 10000 then (if 4 < n then 8 else if m ≠ n then 10 else 0) else 2 := by
  unfold headK
  rw [rangeE_one]
  by_cases h : 1 ≤ L ∧ L ≤ 10000
  · rw [if_pos h, if_pos h, firstE_cons0]
    by_cases h2 : 4 < n
    · rw [if_pos h2, errIf_t _ _ (by simp; omega), firstE_consN _ (by decide)]
    · rw [if_neg h2, errIf_f _ _ (by simp; omega), firstE_cons0, firstE_one]
      by_cases h3 : m ≠ n
      · rw [if_pos h3, errIf_t _ _ (by simp; omega)]
      · rw [if_neg h3, errIf_f _ _ (by simp; omega)]
  · rw [if_neg h, if_neg h, firstE_consN _ (by decide)]
theorem checkS_head {L : Int} {js : List Int} {ks : List Rg} {z : Int} (h : headK L js.length ks.length = z) (hz : z ≠ 0) : checkS L js ks = (0, z) := by
  unfold checkS
  rw [h, if_pos hz]
theorem checkS_loop {L : Int} {js : List Int} {ks : List Rg} (h : headK L js.length ks.length = 0) : checkS L js ks = firstAt (jointK L js ks) js.length 0 := by
  unfold checkS
  rw [h, if_neg (by decide)]
theorem firstAt_here (E : Nat → Int) {n k : Nat} {z : Int} (h : k < n) (hz : E k = z) (h0 : z ≠ 0) : firstAt E (n - k) k = ((k : Int), z) := by
  rw [firstAt_step E h, hz, if_pos h0]
theorem firstAt_next (E : Nat → Int) {n k : Nat} (h : k < n) (hz : E k = 0) : firstAt E (n - k) k = firstAt E (n - (k + 1)) (k + 1) := by
  rw [firstAt_step E h, hz, if_neg (by decide)]



theorem sized_any (a m : Int) (hm : -1000000000000 ≤ m ∧ m ≤ 1000000000000) (w : World) : Calls Tryz.prog 86 #[.int .i64 a, .int .i64 m] w fun e w' => e = .returned (.bool (withinB a (-m) m)) ∧ w = w' := by
  have HWI := Lib.hid (fun W => within_any a (-m) m W)
  generalize withinB a (-m) m = b at *
  go_enter Tryz.func86, Tryz.ntmps86
  go_wp2_with (go_at_call 35; refine (HWI.out _).mono ?_; rintro e w' ⟨rfl, rfl⟩)
  go_ret
  exact ⟨rfl, rfl⟩
set_option maxRecDepth 100000 in
set_option maxHeartbeats 4000000 in
theorem refCheckShaft_any {L : Int} {J K : Option Addr} {n m cj ck : Nat} {js : List Int} {ks : List Rg} {w : World} (hn : js.length = n) (hJ : RowsAt 1 I1 w J js) (hm : ks.length = m) (hK : RowsAt 2 Rg.enc w K ks) :
    Calls Tryz.prog 56 #[.agg #[.int .i64 L, .slice J n cj, .slice K m ck]] w fun e w' => e = .returned (.tuple #[.int .i64 (checkS L js ks).1, .int .i64 (checkS L js ks).2]) ∧ Ext w w' := by
  have HN := Lib.hid hn
  have HM := Lib.hid hm
  have HJ := Lib.hid hJ
  have HK := Lib.hid hK
  have HH := Lib.hid (headK_if L n m)
  have HC := Lib.hid (fun z (h : headK L n m = z) (hz : z ≠ 0) => checkS_head (L := L) (js := js) (ks := ks) (z := z) (by rw [hn, hm]; exact h) hz)
  have HL := Lib.hid (fun (h : headK L n m = 0) => show checkS L js ks = firstAt (jointK L js ks) n 0 by rw [checkS_loop (by rw [hn, hm]; exact h), hn])
  have hnb : n ≤ 1152921504606846976 := by have := hJ.1; omega
  have hmb : m ≤ 1152921504606846976 := by have := hK.1; omega
  generalize checkS L js ks = cs at *
  clear hn hJ hm hK
  obtain ⟨W0, hW0⟩ : ∃ W0, W0 = w.alloc (.cells #[.int .i64 L, .slice J n cj, .slice K m ck] 25) := ⟨_, rfl⟩
  have K0 := Lib.hid (show Blk W0 (w.heap.size) 25 #[.int .i64 L, .slice J n cj, .slice K m ck] by rw [hW0]; exact Blk.new _ _ _)
  have E0 := Lib.hid (show Ext w W0 by rw [hW0]; exact Ext.alloc _ _)
  have y0_0 : W0.cell? ⟨w.heap.size, 0, none⟩ = some (.int .i64 L) := K0.out.cell 0
  have y0_1 : W0.cell? ⟨w.heap.size, 1, none⟩ = some (.slice J n cj) := K0.out.cell 1
  have y0_2 : W0.cell? ⟨w.heap.size, 2, none⟩ = some (.slice K m ck) := K0.out.cell 2
  by_cases h1 : 1 ≤ L ∧ L ≤ 10000
  · have HW := Lib.hid (fun W => show Calls Tryz.prog 35 #[.int .i64 L, .int .i64 1, .int .i64 10000] W fun e w' => e = .returned (.bool true) ∧ W = w' from by
      have := within_any L 1 10000 W
      rw [withinB_t h1] at this
      exact this)
    by_cases h2 : 4 < n
    · have hd : decide ((4 : Int) < (n : Int)) = true := by simp; omega
      have HV := Lib.hid (HC.out 8 (by rw [HH.out, if_pos h1, if_pos h2]) (by decide))
      clear h1 h2 HC HL HH
      go_enter Tryz.func56, Tryz.ntmps56
      go_upto_region 1 with (fail)
      rw [← hW0]
      clear hW0
      go_wp2_with (go_at_call 35; refine (HW.out _).mono ?_; rintro e w' ⟨rfl, rfl⟩)
      go_ret2
      exact ⟨ret_two (by rw [HV.out]) (by rw [HV.out]), E0.out⟩
    · have hd : decide ((4 : Int) < (n : Int)) = false := by simp; omega
      by_cases h3 : m ≠ n
      · have hd3 : ((m : Int) != (n : Int)) = true := by simp; omega
        have HV := Lib.hid (HC.out 10 (by rw [HH.out, if_pos h1, if_neg h2, if_pos h3]) (by decide))
        clear h1 h2 h3 HC HL HH
        go_enter Tryz.func56, Tryz.ntmps56
        go_upto_region 1 with (fail)
        rw [← hW0]
        clear hW0
        go_wp2_with (go_at_call 35; refine (HW.out _).mono ?_; rintro e w' ⟨rfl, rfl⟩)
        go_ret2
        exact ⟨ret_two (by rw [HV.out]) (by rw [HV.out]), E0.out⟩
      · obtain rfl : m = n := by omega
        have hd3 : ((m : Int) != (m : Int)) = false := by simp
        have HV := Lib.hid (HL.out (by rw [HH.out, if_pos h1, if_neg h2, if_neg h3]))
        have hn4 : m ≤ 4 := by omega
        have hl1 := h1.1
        have hl2 := h1.2
        clear h1 h2 h3 HC HL HH
        go_enter Tryz.func56, Tryz.ntmps56
        go_upto_region 1 with (fail)
        rw [← hW0]
        clear hW0
        go_wp2_with (go_at_call 35; refine (HW.out _).mono ?_; rintro e w' ⟨rfl, rfl⟩)
        clear y0_0 y0_1 y0_2 hd hd3
        go_loopw [4] (fun i wr => ∃ k : Nat, k ≤ m ∧ i = .int .i64 (k : Int) ∧ cs = firstAt (jointK L js ks) (m - k) k ∧ Ext w wr ∧ Blk wr w.heap.size 25 #[.int .i64 L, .slice J m cj, .slice K m ck]) (fun i _ => m - (intOf i).toNat)
        case atStart => exact ⟨0, by omega, rfl, HV.out, E0.out, K0.out⟩
        case round =>
          clear E0 K0 HV HW
          obtain ⟨k, hk, rfl, hr, hx, k0⟩ := hrel
          have X := Lib.hid hx
          have K0 := Lib.hid k0
          have R := Lib.hid hr
          clear hx k0 hr
          by_cases hlt : k < m
          · obtain ⟨jb, jo, rfl, hjb, hjc⟩ := row_I1 (HJ.out.ext X.out) (i := k) (by have := HN.out; omega)
            obtain ⟨kb, ko, rfl, hkb, hc0, hc1⟩ := row_Rg (HK.out.ext X.out) (i := k) (by have := HM.out; omega)
            have HJI := Lib.hid (jointK_if L js ks k)
            have HHE := Lib.hid (fun z (hz : jointK L js ks k = z) (h0 : z ≠ 0) => R.out.trans (firstAt_here _ hlt hz h0))
            have HNX := Lib.hid (fun (hz : jointK L js ks k = 0) => R.out.trans (firstAt_next _ hlt hz))
            have HP := Lib.hid (fun (h : 0 < k) => row_I1 (HJ.out.ext X.out) (i := k - 1) (by have := HN.out; omega))
            have hki : (k : Int) < (m : Int) := by omega
            generalize hjk : jointK L js ks k = jk at *
            generalize js.getD k 0 = j at *
            generalize ks.getD k default = x at *
            have z0 : wr.cell? ⟨w.heap.size, 0, none⟩ = some (.int .i64 L) := K0.out.cell 0
            have z1 : wr.cell? ⟨w.heap.size, 1, none⟩ = some (.slice (some ⟨jb, jo, none⟩) m cj) := K0.out.cell 1
            have z2 : wr.cell? ⟨w.heap.size, 2, none⟩ = some (.slice (some ⟨kb, ko, none⟩) m ck) := K0.out.cell 2
            by_cases g1 : 1 ≤ j ∧ j ≤ L - 1
            · rw [if_pos g1] at HJI
              have HWI := Lib.hid (fun W => show Calls Tryz.prog 35 #[.int .i64 j, .int .i64 1, .int .i64 (L - 1)] W fun e w' => e = .returned (.bool true) ∧ W = w' from by
                have := within_any j 1 (L - 1) W
                rw [withinB_t g1] at this
                exact this)
              clear g1
              go_upto_region 10 with (fail)
              go_quiet (first | (go_at_call 35; refine Calls.quiet_of_same ((HWI.out _).mono fun _ _ ⟨h1, h2⟩ => ⟨h1, h2.symm⟩)))
              clear HWI
              obtain ⟨V1, hV⟩ : ∃ V, V = World.drewN wr nq := ⟨_, rfl⟩
              have hxV : Ext wr V1 := by rw [hV]; exact Ext.drewN _ _
              rw [← hV]
              replace X := Lib.hid (X.out.trans hxV)
              replace K0 := Lib.hid (K0.out.ext hxV)
              replace hjc := hxV.cell hjc
              replace hc0 := hxV.cell hc0
              replace hc1 := hxV.cell hc1
              clear hV z0 z1 z2
              have z0 : V1.cell? ⟨w.heap.size, 0, none⟩ = some (.int .i64 L) := K0.out.cell 0
              have z1 : V1.cell? ⟨w.heap.size, 1, none⟩ = some (.slice (some ⟨jb, jo, none⟩) m cj) := K0.out.cell 1
              have z2 : V1.cell? ⟨w.heap.size, 2, none⟩ = some (.slice (some ⟨kb, ko, none⟩) m ck) := K0.out.cell 2
              rcases (show k = 0 ∨ 0 < k by omega) with hk0 | hk0
              · rw [if_neg (by simp [hk0])] at HJI
                have hg : decide (0 < k) = false := by simp; omega
                clear HP hk0
                go_upto_region 12 with (fail)
                go_quiet (fail)
                obtain ⟨V, hV⟩ : ∃ V, V = World.drewN V1 nq := ⟨_, rfl⟩
                have hxV : Ext V1 V := by rw [hV]; exact Ext.drewN _ _
                rw [← hV]
                replace X := Lib.hid (X.out.trans hxV)
                replace K0 := Lib.hid (K0.out.ext hxV)
                replace hjc := hxV.cell hjc
                replace hc0 := hxV.cell hc0
                replace hc1 := hxV.cell hc1
                clear hV z0 z1 z2
                have z0 : V.cell? ⟨w.heap.size, 0, none⟩ = some (.int .i64 L) := K0.out.cell 0
                have z1 : V.cell? ⟨w.heap.size, 1, none⟩ = some (.slice (some ⟨jb, jo, none⟩) m cj) := K0.out.cell 1
                have z2 : V.cell? ⟨w.heap.size, 2, none⟩ = some (.slice (some ⟨kb, ko, none⟩) m ck) := K0.out.cell 2
                clear hg hxV
                rw [endsE_if] at HJI
                obtain ⟨q5, hq⟩ : ∃ q, q = V.heap.size := ⟨_, rfl⟩
                obtain ⟨W3, hW3⟩ : ∃ W, W = V.alloc (.cells #[.int .i64 x.1, .int .i64 x.2] 49) := ⟨_, rfl⟩
                have E3 := Lib.hid (show Ext V W3 by rw [hW3]; exact Ext.alloc _ _)
                have KQ := Lib.hid (show Blk W3 q5 49 #[.int .i64 x.1, .int .i64 x.2] by rw [hW3, hq]; exact Blk.new _ _ _)
                go_upto_region 15 with (fail)
                rw [← hW3, ← hq]
                replace X := Lib.hid (X.out.trans E3.out)
                replace K0 := Lib.hid (K0.out.ext E3.out)
                clear hW3 E3 hq z0 z1 z2 hc0 hc1 hjc
                have q0 : W3.cell? ⟨q5, 0, none⟩ = some (.int .i64 x.1) := KQ.out.cell 0
                have q1 : W3.cell? ⟨q5, 1, none⟩ = some (.int .i64 x.2) := KQ.out.cell 1
                by_cases g3 : -100000 ≤ x.1 ∧ x.1 ≤ 100000
                · rw [if_pos g3] at HJI
                  have HW1 := Lib.hid (withinB_t g3)
                  by_cases g4 : -100000 ≤ x.2 ∧ x.2 ≤ 100000
                  · rw [if_pos g4] at HJI
                    have HW2 := Lib.hid (withinB_t g4)
                    by_cases g5 : x.2 < x.1
                    · rw [if_pos g5] at HJI
                      have HV := Lib.hid (HHE.out 9 HJI.out (by decide))
                      clear HHE HNX g3 g4
                      go_wp2_with (go_at_call 86; refine (sized_any _ 100000 (by omega) _).mono ?_; rintro e w' ⟨rfl, rfl⟩; first | rw [HW1.out] | rw [HW2.out])
                      go_ret2
                      exact ⟨ret_two (by rw [HV.out]) (by rw [HV.out]), X.out⟩
                    · rw [if_neg g5] at HJI
                      have HV := Lib.hid (HNX.out HJI.out)
                      clear HHE HNX g3 g4
                      go_wp2_with (go_at_call 86; refine (sized_any _ 100000 (by omega) _).mono ?_; rintro e w' ⟨rfl, rfl⟩; first | rw [HW1.out] | rw [HW2.out])
                      go_roundw
                      case rel => exact ⟨k + 1, by omega, by go_num, HV.out, X.out, K0.out⟩
                      case measure => simp [intOf]; omega
                  · rw [if_neg g4] at HJI
                    have HW2 := Lib.hid (withinB_f g4)
                    have HV := Lib.hid (HHE.out 2 HJI.out (by decide))
                    clear HHE HNX g3 g4
                    go_wp2_with (go_at_call 86; refine (sized_any _ 100000 (by omega) _).mono ?_; rintro e w' ⟨rfl, rfl⟩; first | rw [HW1.out] | rw [HW2.out])
                    go_ret2
                    exact ⟨ret_two (by rw [HV.out]) (by rw [HV.out]), X.out⟩
                · rw [if_neg g3] at HJI
                  have HW1 := Lib.hid (withinB_f g3)
                  have HW2 := HW1
                  have HV := Lib.hid (HHE.out 2 HJI.out (by decide))
                  clear HHE HNX g3
                  go_wp2_with (go_at_call 86; refine (sized_any _ 100000 (by omega) _).mono ?_; rintro e w' ⟨rfl, rfl⟩; first | rw [HW1.out] | rw [HW2.out])
                  go_ret2
                  exact ⟨ret_two (by rw [HV.out]) (by rw [HV.out]), X.out⟩
              · obtain ⟨jb2, jo2, hje, hjb2, hpc⟩ := HP.out hk0
                obtain ⟨rfl, rfl⟩ : jb = jb2 ∧ jo = jo2 := by simpa using hje
                have hg : decide (0 < k) = true := by simp; omega
                have hb1 : (k : Int) - 1 < (m : Int) := by omega
                have hb3 : (0 : Int) ≤ (k : Int) - 1 := by omega
                have hb6 : (1 : Int) ≤ (k : Int) := by omega
                have hb7 : ((k : Int) - 1).toNat = k - 1 := by omega
                replace hpc := hxV.cell hpc
                generalize js.getD (k - 1) 0 = j0 at *
                generalize hkm : k - 1 = km at *
                by_cases g2 : j ≤ j0
                · rw [if_pos ⟨by omega, g2⟩] at HJI
                  have HV := Lib.hid (HHE.out 9 HJI.out (by decide))
                  have hd : decide (j ≤ j0) = true := by simp [g2]
                  clear HHE HNX HP hc0 hc1 hje hjb2 g2 hkm
                  go_upto_region 12 with (fail)
                  go_quiet (fail)
                  go_wp2
                  go_ret2
                  exact ⟨ret_two (by rw [HV.out]) (by rw [HV.out]), X.out.trans (Ext.drewN _ _)⟩
                · rw [if_neg (fun h => g2 h.2)] at HJI
                  have hd : decide (j ≤ j0) = false := by simp; omega
                  clear HP hje hjb2 g2 hkm
                  go_upto_region 12 with (fail)
                  go_quiet (fail)
                  obtain ⟨V, hV⟩ : ∃ V, V = World.drewN V1 nq := ⟨_, rfl⟩
                  have hxV : Ext V1 V := by rw [hV]; exact Ext.drewN _ _
                  rw [← hV]
                  replace X := Lib.hid (X.out.trans hxV)
                  replace K0 := Lib.hid (K0.out.ext hxV)
                  replace hjc := hxV.cell hjc
                  replace hc0 := hxV.cell hc0
                  replace hc1 := hxV.cell hc1
                  clear hV z0 z1 z2
                  have z0 : V.cell? ⟨w.heap.size, 0, none⟩ = some (.int .i64 L) := K0.out.cell 0
                  have z1 : V.cell? ⟨w.heap.size, 1, none⟩ = some (.slice (some ⟨jb, jo, none⟩) m cj) := K0.out.cell 1
                  have z2 : V.cell? ⟨w.heap.size, 2, none⟩ = some (.slice (some ⟨kb, ko, none⟩) m ck) := K0.out.cell 2
                  clear hg hxV hd hb1 hb3 hb6 hb7 hpc
                  rw [endsE_if] at HJI
                  obtain ⟨q5, hq⟩ : ∃ q, q = V.heap.size := ⟨_, rfl⟩
                  obtain ⟨W3, hW3⟩ : ∃ W, W = V.alloc (.cells #[.int .i64 x.1, .int .i64 x.2] 49) := ⟨_, rfl⟩
                  have E3 := Lib.hid (show Ext V W3 by rw [hW3]; exact Ext.alloc _ _)
                  have KQ := Lib.hid (show Blk W3 q5 49 #[.int .i64 x.1, .int .i64 x.2] by rw [hW3, hq]; exact Blk.new _ _ _)
                  go_upto_region 15 with (fail)
                  rw [← hW3, ← hq]
                  replace X := Lib.hid (X.out.trans E3.out)
                  replace K0 := Lib.hid (K0.out.ext E3.out)
                  clear hW3 E3 hq z0 z1 z2 hc0 hc1 hjc
                  have q0 : W3.cell? ⟨q5, 0, none⟩ = some (.int .i64 x.1) := KQ.out.cell 0
                  have q1 : W3.cell? ⟨q5, 1, none⟩ = some (.int .i64 x.2) := KQ.out.cell 1
                  by_cases g3 : -100000 ≤ x.1 ∧ x.1 ≤ 100000
                  · rw [if_pos g3] at HJI
                    have HW1 := Lib.hid (withinB_t g3)
                    by_cases g4 : -100000 ≤ x.2 ∧ x.2 ≤ 100000
                    · rw [if_pos g4] at HJI
                      have HW2 := Lib.hid (withinB_t g4)
                      by_cases g5 : x.2 < x.1
                      · rw [if_pos g5] at HJI
                        have HV := Lib.hid (HHE.out 9 HJI.out (by decide))
                        clear HHE HNX g3 g4
                        go_wp2_with (go_at_call 86; refine (sized_any _ 100000 (by omega) _).mono ?_; rintro e w' ⟨rfl, rfl⟩; first | rw [HW1.out] | rw [HW2.out])
                        go_ret2
                        exact ⟨ret_two (by rw [HV.out]) (by rw [HV.out]), X.out⟩
                      · rw [if_neg g5] at HJI
                        have HV := Lib.hid (HNX.out HJI.out)
                        clear HHE HNX g3 g4
                        go_wp2_with (go_at_call 86; refine (sized_any _ 100000 (by omega) _).mono ?_; rintro e w' ⟨rfl, rfl⟩; first | rw [HW1.out] | rw [HW2.out])
                        go_roundw
                        case rel => exact ⟨k + 1, by omega, by go_num, HV.out, X.out, K0.out⟩
                        case measure => simp [intOf]; omega
                    · rw [if_neg g4] at HJI
                      have HW2 := Lib.hid (withinB_f g4)
                      have HV := Lib.hid (HHE.out 2 HJI.out (by decide))
                      clear HHE HNX g3 g4
                      go_wp2_with (go_at_call 86; refine (sized_any _ 100000 (by omega) _).mono ?_; rintro e w' ⟨rfl, rfl⟩; first | rw [HW1.out] | rw [HW2.out])
                      go_ret2
                      exact ⟨ret_two (by rw [HV.out]) (by rw [HV.out]), X.out⟩
                  · rw [if_neg g3] at HJI
                    have HW1 := Lib.hid (withinB_f g3)
                    have HW2 := HW1
                    have HV := Lib.hid (HHE.out 2 HJI.out (by decide))
                    clear HHE HNX g3
                    go_wp2_with (go_at_call 86; refine (sized_any _ 100000 (by omega) _).mono ?_; rintro e w' ⟨rfl, rfl⟩; first | rw [HW1.out] | rw [HW2.out])
                    go_ret2
                    exact ⟨ret_two (by rw [HV.out]) (by rw [HV.out]), X.out⟩
            · rw [if_neg g1] at HJI
              have HWI := Lib.hid (fun W => show Calls Tryz.prog 35 #[.int .i64 j, .int .i64 1, .int .i64 (L - 1)] W fun e w' => e = .returned (.bool false) ∧ W = w' from by
                have := within_any j 1 (L - 1) W
                rw [withinB_f g1] at this
                exact this)
              have HV := Lib.hid (HHE.out 2 HJI.out (by decide))
              clear g1 HHE HNX HP hc0 hc1
              go_upto_region 10 with (fail)
              go_quiet (first | (go_at_call 35; refine Calls.quiet_of_same ((HWI.out _).mono fun _ _ ⟨h1, h2⟩ => ⟨h1, h2.symm⟩)))
              clear HWI
              go_wp2
              go_ret2
              exact ⟨ret_two (by rw [HV.out]) (by rw [HV.out]), X.out.trans (Ext.drewN _ _)⟩
          · obtain rfl : k = m := by omega
            have hkn : ¬ (k : Int) < (k : Int) := by omega
            have HV := Lib.hid (show cs = (0, 0) by rw [R.out, Nat.sub_self]; rfl)
            have z0 : wr.cell? ⟨w.heap.size, 0, none⟩ = some (.int .i64 L) := K0.out.cell 0
            have z1 : wr.cell? ⟨w.heap.size, 1, none⟩ = some (.slice J k cj) := K0.out.cell 1
            go_wp2
            go_ret2
            exact ⟨ret_two (by rw [HV.out]) (by rw [HV.out]), X.out⟩
  · have HW := Lib.hid (fun W => show Calls Tryz.prog 35 #[.int .i64 L, .int .i64 1, .int .i64 10000] W fun e w' => e = .returned (.bool false) ∧ W = w' from by
      have := within_any L 1 10000 W
      rw [withinB_f h1] at this
      exact this)
    have HV := Lib.hid (HC.out 2 (by rw [HH.out, if_neg h1]) (by decide))
    clear h1 HC HL HH
    go_enter Tryz.func56, Tryz.ntmps56
    go_upto_region 1 with (fail)
    rw [← hW0]
    clear hW0
    go_wp2_with (go_at_call 35; refine (HW.out _).mono ?_; rintro e w' ⟨rfl, rfl⟩)
    go_ret2
    exact ⟨ret_two (by rw [HV.out]) (by rw [HV.out]), E0.out⟩



set_option maxRecDepth 100000 in
set_option maxHeartbeats 1000000 in
theorem refDeflection_any {L : Int} {J K : Option Addr} {n cj ck : Nat} {js : List Int} {ks : List Rg} {w : World} (hn : js.length = n) (hJ : RowsAt 1 I1 w J js) (hm : ks.length = n) (hK : RowsAt 2 Rg.enc w K ks) {p : Int} (hs : ShOK L js ks) (hp : 0 ≤ p ∧ p ≤ L) :
    Calls Tryz.prog 36 #[.agg #[.int .i64 L, .slice J n cj, .slice K n ck], .int .i64 p] w fun e w' => e = .returned (.agg #[.int .i64 (defl L js ks p).1, .int .i64 (defl L js ks p).2]) ∧ Ext w w' := by
  have HI := Lib.hid (fun (i : Nat) (hi : i < n) W => refInfl_any L (js.getD i 0) p hs.l2 (by have := hs.at' i (by omega); omega) hp W)
  have HB := Lib.hid (fun k (hk : k ≤ n) => dsum_bd hs hp k (by omega))
  have HX := Lib.hid (fun (i : Nat) (hi : i < n) => infl_bd hs.l2 (j := js.getD i 0) (by have := hs.at' i (by omega); omega) hp)
  have HK := Lib.hid hs.kink
  have hl1 := hs.l1
  have hl2 := hs.l2
  have h4 : n ≤ 4 := by have := hs.four; omega
  have HKR := Lib.hid hK
  have HJR := Lib.hid hJ
  have HN := Lib.hid hn
  have HM := Lib.hid hm
  have HD := Lib.hid (show defl L js ks p = ((dsum L p js ks n).1 / L, ceilD (dsum L p js ks n).2 L) by rw [← hn]; rfl)
  generalize defl L js ks p = df at *
  clear hn hJ hm hK hs
  obtain ⟨W0, hW0⟩ : ∃ W0, W0 = (w.alloc (.cells #[.int .i64 L, .slice J n cj, .slice K n ck] 25)).alloc (.cells #[.int .i64 0, .int .i64 0] 49) := ⟨_, rfl⟩
  have K0 := Lib.hid (show Blk W0 (w.heap.size) 25 #[.int .i64 L, .slice J n cj, .slice K n ck] by rw [hW0]; exact (Blk.new _ _ _).alloc _)
  have K1 := Lib.hid (show Blk W0 (w.heap.size + 1) 49 #[.int .i64 0, .int .i64 0] by rw [hW0]; exact Blk.newAt _ _ _ (by simp))
  have E0 := Lib.hid (show Ext w W0 by rw [hW0]; exact (Ext.alloc _ _).trans (Ext.alloc _ _))
  have y0_0 : W0.cell? ⟨w.heap.size, 0, none⟩ = some (.int .i64 L) := K0.out.cell 0
  have y0_1 : W0.cell? ⟨w.heap.size, 1, none⟩ = some (.slice J n cj) := K0.out.cell 1
  have y0_2 : W0.cell? ⟨w.heap.size, 2, none⟩ = some (.slice K n ck) := K0.out.cell 2
  have y1_0 : W0.cell? ⟨w.heap.size + 1, 0, none⟩ = some (.int .i64 0) := K1.out.cell 0
  have y1_1 : W0.cell? ⟨w.heap.size + 1, 1, none⟩ = some (.int .i64 0) := K1.out.cell 1
  go_enter Tryz.func36, Tryz.ntmps36
  go_upto_region 2 with (fail)
  rw [← hW0]
  clear hW0
  go_wp2
  clear y0_0 y0_1 y0_2 y1_0 y1_1
  go_loopw [5, 6, 7] (fun a b i wr => ∃ k : Nat, k ≤ n ∧ i = .int .i64 k ∧ a = .int .i64 (dsum L p js ks k).1 ∧ b = .int .i64 (dsum L p js ks k).2 ∧ Ext w wr ∧ Blk wr w.heap.size 25 #[.int .i64 L, .slice J n cj, .slice K n ck] ∧ Blk wr (w.heap.size + 1) 49 #[.int .i64 0, .int .i64 0]) (fun _ _ i _ => n - (intOf i).toNat)
  case atStart => exact ⟨0, Nat.zero_le _, rfl, rfl, rfl, E0.out, K0.out, K1.out⟩
  case round =>
    clear E0 K0 K1
    obtain ⟨k, hk, rfl, rfl, rfl, hx, k0, k1⟩ := hrel
    have X := Lib.hid hx
    have K0 := Lib.hid k0
    have K1 := Lib.hid k1
    clear hx k0 k1
    by_cases hlt : k < n
    · obtain ⟨kb, ko, rfl, hkb, hc0, hc1⟩ := row_Rg (HKR.out.ext X.out) (i := k) (by have := HM.out; omega)
      obtain ⟨jb, jo, rfl, hjb, hjc⟩ := row_I1 (HJR.out.ext X.out) (i := k) (by have := HN.out; omega)
      have hb := HB.out k hk
      have hb2 := HB.out (k + 1) (by omega)
      have hkk := HK.out k (by have := HN.out; omega)
      have hix := HX.out k hlt
      have m1 := mul_bd (a := (ks.getD k default).1) (b := infl L (js.getD k 0) p) (A := 100000) (B := 100000000) (by omega) (by omega)
      have m2 := mul_bd (a := (ks.getD k default).2) (b := infl L (js.getD k 0) p) (A := 100000) (B := 100000000) (by omega) (by omega)
      have HI2 := Lib.hid (fun W => HI.out k hlt W)
      have HS := Lib.hid (dsum_succ L p js ks k)
      generalize infl L (js.getD k 0) p = f at *
      generalize js.getD k 0 = j at *
      generalize hks : ks.getD k default = x at *
      generalize hd : dsum L p js ks k = d at *
      generalize hd2 : dsum L p js ks (k + 1) = e2 at *
      clear hks hd
      have HE := Lib.hid hd2
      clear hd2
      have hki : (k : Int) < (n : Int) := by omega
      have hk4 : (k : Int) ≤ 3 := by omega
      have B1 : -9000000000000000000 ≤ d.1 + x.1 * f ∧ d.1 + x.1 * f ≤ 9000000000000000000 := by omega
      have B2 : -9000000000000000000 ≤ d.2 + x.2 * f ∧ d.2 + x.2 * f ≤ 9000000000000000000 := by omega
      clear hb hb2
      have z0 : wr.cell? ⟨w.heap.size, 0, none⟩ = some (.int .i64 L) := K0.out.cell 0
      have z1 : wr.cell? ⟨w.heap.size, 1, none⟩ = some (.slice (some ⟨jb, jo, none⟩) n cj) := K0.out.cell 1
      have z2 : wr.cell? ⟨w.heap.size, 2, none⟩ = some (.slice (some ⟨kb, ko, none⟩) n ck) := K0.out.cell 2
      go_upto_region 5 with (fail)
      go_quiet (first | (go_at_call 37; refine Calls.quiet_of_same ((HI2.out _).mono fun _ _ ⟨h1, h2⟩ => ⟨h1, h2.symm⟩)))
      go_upto_region 6 with (fail)
      go_quiet (fail)
      go_wp2
      go_roundw
      case rel => exact ⟨k + 1, by omega, by go_num, by rw [HE.out, HS.out], by rw [HE.out, HS.out], X.out.trans (Ext.drewN _ _), K0.out, K1.out⟩
      case measure => simp [intOf]; omega
    · obtain rfl : k = n := by omega
      have hkn : ¬ (k : Int) < (k : Int) := by omega
      have hb := HB.out k hk
      obtain ⟨d1, hd1⟩ : ∃ d, d = (dsum L p js ks k).1 := ⟨_, rfl⟩
      obtain ⟨d2, hd2⟩ : ∃ d, d = (dsum L p js ks k).2 := ⟨_, rfl⟩
      rw [← hd1, ← hd2] at HD hb
      rw [← hd1, ← hd2]
      clear hd1 hd2 HB HX HK HI HKR HJR
      obtain ⟨V, hV⟩ : ∃ V, V = wr := ⟨_, rfl⟩
      rw [← hV] at X K0 K1 ⊢
      clear hV
      have z0 : V.cell? ⟨w.heap.size, 0, none⟩ = some (.int .i64 L) := K0.out.cell 0
      have z1 : V.cell? ⟨w.heap.size, 1, none⟩ = some (.slice J k cj) := K0.out.cell 1
      go_upto_region 7 with (fail)
      refine wp_region_part 9 [some 45, some 46, some 47, some 48, some 49, some 50, some 51, some 52, some 53] [[5], [2], [46], [45, 47], [6], [2], [50], [49, 51], [48, 52]]
        [Is (.int .i64 (d1)), Is (.pointer (some ⟨w.heap.size, 0, none⟩)), Is (.int .i64 (L)), Is (.int .i64 (d1 / L)), Is (.int .i64 (d2)), Is (.pointer (some ⟨w.heap.size, 0, none⟩)), Is (.int .i64 (L)), Is (.int .i64 (ceilD d2 L)), Is (.agg #[.int .i64 (d1 / L), .int .i64 (ceilD d2 L)])]
        (by kernel_rfl) (by kernel_rfl) (by kernel_rfl) (by kernel_rfl) (by kernel_rfl) (by kernel_rfl) (by kernel_rfl) Ext (fun W => Ext V W)
        (fun W _ => Ext.refl W) (fun W W' h k => h.trans k) ?_ (Ext.drew _) ?_ ?_
      · repeat (refine ⟨fun _ _ _ _ k h => (by first | exact h | exact (IntsAt.ext h k)), ?_⟩)
        exact trivial
      · refine ⟨?_, ?_, ?_, ?_, ?_, ?_, ?_, ?_, ?_, trivial⟩
        all_goals intro ρ W ⟨kc, kg, kf⟩ hF hs
        · obtain ⟨h0, -⟩ := hs
          replace h0 : ρ (.tmp 5) = .int .i64 (d1) := h0
          go_simp
          exact ⟨Ext.refl _, rfl⟩
        · obtain ⟨h0, -⟩ := hs
          replace h0 : ρ (.tmp 2) = .pointer (some ⟨w.heap.size, 0, none⟩) := h0
          go_simp
          exact ⟨Ext.refl _, rfl⟩
        · obtain ⟨h0, -⟩ := hs
          replace h0 : ρ (.tmp 46) = .pointer (some ⟨w.heap.size, 0, none⟩) := h0
          have hc0 : W.cell? ⟨w.heap.size, 0, none⟩ = some (.int .i64 (L)) := hF.cell (by assumption)
          go_simp
          exact ⟨Ext.refl _, rfl⟩
        · obtain ⟨h0, h1, -⟩ := hs
          replace h0 : ρ (.tmp 45) = .int .i64 (d1) := h0
          replace h1 : ρ (.tmp 47) = .int .i64 (L) := h1
          go_simp
          refine (floor_any d1 L ⟨by omega, by omega⟩ ⟨by omega, by omega⟩ _).mono ?_; rintro e w' ⟨rfl, rfl⟩; exact ⟨_, rfl, Ext.refl _, rfl⟩
        · obtain ⟨h0, -⟩ := hs
          replace h0 : ρ (.tmp 6) = .int .i64 (d2) := h0
          go_simp
          exact ⟨Ext.refl _, rfl⟩
        · obtain ⟨h0, -⟩ := hs
          replace h0 : ρ (.tmp 2) = .pointer (some ⟨w.heap.size, 0, none⟩) := h0
          go_simp
          exact ⟨Ext.refl _, rfl⟩
        · obtain ⟨h0, -⟩ := hs
          replace h0 : ρ (.tmp 50) = .pointer (some ⟨w.heap.size, 0, none⟩) := h0
          have hc0 : W.cell? ⟨w.heap.size, 0, none⟩ = some (.int .i64 (L)) := hF.cell (by assumption)
          go_simp
          exact ⟨Ext.refl _, rfl⟩
        · obtain ⟨h0, h1, -⟩ := hs
          replace h0 : ρ (.tmp 49) = .int .i64 (d2) := h0
          replace h1 : ρ (.tmp 51) = .int .i64 (L) := h1
          go_simp
          refine (ceil_any d2 L ⟨by omega, by omega⟩ ⟨by omega, by omega⟩ _).mono ?_; rintro e w' ⟨rfl, rfl⟩; exact ⟨_, rfl, Ext.refl _, rfl⟩
        · obtain ⟨h0, h1, -⟩ := hs
          replace h0 : ρ (.tmp 48) = .int .i64 (d1 / L) := h0
          replace h1 : ρ (.tmp 52) = .int .i64 (ceilD d2 L) := h1
          go_simp
          exact ⟨Ext.refl _, rfl⟩
      · intro fv W1 hF hs
        obtain ⟨-, -, -, h48, -, -, -, h52, h53, -⟩ := hs
        replace h48 : fv 48 = .int .i64 (d1 / L) := h48
        replace h52 : fv 52 = .int .i64 (ceilD d2 L) := h52
        replace h53 : fv 53 = .agg #[.int .i64 (d1 / L), .int .i64 (ceilD d2 L)] := h53
        simp only [fin, List.filterMap]
        go_simp
        have u0 : W1.cell? ⟨w.heap.size + 1, 0, none⟩ = some (.int .i64 0) := (K1.out.ext hF).cell 0
        have u1 : W1.cell? ⟨w.heap.size + 1, 1, none⟩ = some (.int .i64 0) := (K1.out.ext hF).cell 1
        have f0 := (K1.out.ext hF).free 0
        have f1 := (K1.out.ext hF).free 1
        have hsz : w.heap.size ≤ w.heap.size + 1 := by omega
        go_wp2
        exact bodyPost_ret (v := .agg #[.int .i64 (d1 / L), .int .i64 (ceilD d2 L)]) (by simp [results, Tryz.f36, go_sem, u0, u1]) rfl ⟨by rw [HD.out], Ext.set (Ext.set (X.out.trans hF) hsz _) hsz _⟩



def SlP (T : TypeId) (cs : Array Value) : Value → World → Prop := fun u W => ∃ q, u = .slice (some ⟨q, 0, none⟩) 1 1 ∧ Blk W q T cs
theorem SlP.ext {T : TypeId} {cs : Array Value} {u : Value} {W W' : World} (h : SlP T cs u W) (k : Ext W W') : SlP T cs u W' := by
  obtain ⟨q, e, hb⟩ := h
  exact ⟨q, e, hb.ext k⟩
def deflL (L : Int) (js : List Int) (ks : List Rg) (n : Nat) : List Rg := (List.range n).map (deflAt L js ks)
theorem deflL_succ (L : Int) (js : List Int) (ks : List Rg) (k : Nat) : (deflL L js ks (k + 1)).flatMap Rg.enc = (deflL L js ks k).flatMap Rg.enc ++ Rg.enc (deflAt L js ks k) := by
  unfold deflL
  rw [List.range_succ, List.map_append, List.flatMap_append]
  simp
theorem deflL_len (L : Int) (js : List Int) (ks : List Rg) (n : Nat) : (deflL L js ks n).length = n := by simp [deflL]
set_option maxRecDepth 100000 in
set_option maxHeartbeats 1000000 in
theorem refDeflections_any {L : Int} {J K : Option Addr} {n cj ck : Nat} {js : List Int} {ks : List Rg} {w : World} (hn : js.length = n) (hJ : RowsAt 1 I1 w J js) (hm : ks.length = n) (hK : RowsAt 2 Rg.enc w K ks) (hs : ShOK L js ks) :
    Calls Tryz.prog 100 #[.agg #[.int .i64 L, .slice J n cj, .slice K n ck]] w fun e w' => ∃ A c, e = .returned (.slice A n c) ∧ RowsAt 2 Rg.enc w' A (deflL L js ks n) ∧ Ext w w' := by
  have HDA := Lib.hid (fun (k : Nat) (hk : k < n) W (e : Ext w W) => refDeflection_any (cj := cj) (ck := ck) (p := js.getD k 0) hn (hJ.ext e) hm (hK.ext e) hs (by have := hs.at' k (by omega); omega))
  have HJ := Lib.hid hJ
  have HN := Lib.hid hn
  have h4 : n ≤ 4 := by have := hs.four; omega
  clear hn hJ hm hK hs
  obtain ⟨W0, hW0⟩ : ∃ W0, W0 = w.alloc (.cells #[.int .i64 L, .slice J n cj, .slice K n ck] 25) := ⟨_, rfl⟩
  have K0 := Lib.hid (show Blk W0 (w.heap.size) 25 #[.int .i64 L, .slice J n cj, .slice K n ck] by rw [hW0]; exact Blk.new _ _ _)
  have E0 := Lib.hid (show Ext w W0 by rw [hW0]; exact Ext.alloc _ _)
  have y0_0 : W0.cell? ⟨w.heap.size, 0, none⟩ = some (.int .i64 L) := K0.out.cell 0
  have y0_1 : W0.cell? ⟨w.heap.size, 1, none⟩ = some (.slice J n cj) := K0.out.cell 1
  have y0_2 : W0.cell? ⟨w.heap.size, 2, none⟩ = some (.slice K n ck) := K0.out.cell 2
  go_enter Tryz.func100, Tryz.ntmps100
  go_wp2
  rw [← hW0]
  clear hW0
  go_wp2
  clear y0_0 y0_1 y0_2
  go_loopw [3, 4] (fun v i wr => ∃ (k c : Nat) (R : Option Addr), k ≤ n ∧ i = .int .i64 (k : Int) ∧ v = .slice R k c ∧ wr.ownsRow W0.heap.size 49 2 (.slice R k c) k ((deflL L js ks k).flatMap Rg.enc) ∧ Ext W0 wr) (fun _ i _ => n - (intOf i).toNat)
  case atStart => exact ⟨0, 0, none, Nat.zero_le _, rfl, rfl, own_none _ _ _ _, Ext.refl _⟩
  case round =>
    obtain ⟨k, c, R, hk, rfl, rfl, ho, hx⟩ := hrel
    have X := Lib.hid (E0.out.trans hx)
    have X0 := Lib.hid hx
    have O := Lib.hid ho
    have SZ := Lib.hid (show W0.heap.size ≤ wr.heap.size from hx.size)
    have K1 := Lib.hid (K0.out.ext hx)
    clear hx ho
    by_cases hlt : k < n
    · obtain ⟨jb, jo, rfl, hjb, hjc⟩ := row_I1 (HJ.out.ext X.out) (i := k) (by have := HN.out; omega)
      have HD := Lib.hid (fun W (e : Ext w W) => HDA.out k hlt W e)
      have HS := Lib.hid (deflL_succ L js ks k)
      have HE : deflAt L js ks k = defl L js ks (js.getD k 0) := rfl
      rw [HE] at HS
      clear HE
      generalize defl L js ks (js.getD k 0) = d at *
      generalize js.getD k 0 = j at *
      have hki : (k : Int) < (n : Int) := by omega
      obtain ⟨V, hV⟩ : ∃ V, V = wr := ⟨_, rfl⟩
      rw [← hV] at X X0 O SZ K1 hjc ⊢
      clear hV
      have z0 : V.cell? ⟨w.heap.size, 0, none⟩ = some (.int .i64 L) := K1.out.cell 0
      have z1 : V.cell? ⟨w.heap.size, 1, none⟩ = some (.slice (some ⟨jb, jo, none⟩) n cj) := K1.out.cell 1
      have z2 : V.cell? ⟨w.heap.size, 2, none⟩ = some (.slice K n ck) := K1.out.cell 2
      go_upto_region 5 with (fail)
      refine wp_region_partR 9 [some 12, some 13, some 14, some 15, some 16, some 17, some 18, some 19, some 20] [[3], [1], [1], [14], [4], [15, 16], [17], [13, 18], [19]]
        [Is (.slice R k c), Is (.agg #[.int .i64 (L), .slice (some ⟨jb, jo, none⟩) n cj, .slice K n ck]), Is (.pointer (some ⟨w.heap.size, 1, none⟩)), Is (.slice (some ⟨jb, jo, none⟩) n cj), Is (.int .i64 ((k : Int))), Is (.pointer (some ⟨jb, jo + k, none⟩)), Is (.int .i64 (j)), Is (.agg #[.int .i64 d.1, .int .i64 d.2]), SlP 49 #[.int .i64 d.1, .int .i64 d.2]]
        (by kernel_rfl) (by kernel_rfl) (by kernel_rfl) (by kernel_rfl) (by kernel_rfl) (by kernel_rfl) (by kernel_rfl) Ext (fun W => Ext V W)
        (fun W _ => Ext.refl W) (fun W W' h k => h.trans k) ?_ (Ext.drew _) ?_ ?_
      · repeat (refine ⟨fun _ _ _ _ k h => (by first | exact h | exact (by first | exact IntsAt.ext h k | exact SlP.ext h k)), ?_⟩)
        exact trivial
      · refine ⟨?_, ?_, ?_, ?_, ?_, ?_, ?_, ?_, ?_, trivial⟩
        all_goals intro ρ W ⟨kc, kg, kf⟩ hF hs
        · obtain ⟨h0, -⟩ := hs
          replace h0 : ρ (.tmp 3) = .slice R k c := h0
          go_simp
          exact ⟨Ext.refl _, rfl⟩
        · obtain ⟨h0, -⟩ := hs
          replace h0 : ρ (.tmp 1) = .pointer (some ⟨w.heap.size, 0, none⟩) := h0
          have hc0 : W.cell? ⟨w.heap.size, 0, none⟩ = some (.int .i64 (L)) := hF.cell (by assumption)
          have hc1 : W.cell? ⟨w.heap.size, 1, none⟩ = some (.slice (some ⟨jb, jo, none⟩) n cj) := hF.cell (by assumption)
          have hc2 : W.cell? ⟨w.heap.size, 2, none⟩ = some (.slice K n ck) := hF.cell (by assumption)
          go_simp
          exact ⟨Ext.refl _, rfl⟩
        · obtain ⟨h0, -⟩ := hs
          replace h0 : ρ (.tmp 1) = .pointer (some ⟨w.heap.size, 0, none⟩) := h0
          go_simp
          exact ⟨Ext.refl _, rfl⟩
        · obtain ⟨h0, -⟩ := hs
          replace h0 : ρ (.tmp 14) = .pointer (some ⟨w.heap.size, 1, none⟩) := h0
          have hc0 : W.cell? ⟨w.heap.size, 1, none⟩ = some (.slice (some ⟨jb, jo, none⟩) n cj) := hF.cell (by assumption)
          go_simp
          exact ⟨Ext.refl _, rfl⟩
        · obtain ⟨h0, -⟩ := hs
          replace h0 : ρ (.tmp 4) = .int .i64 ((k : Int)) := h0
          go_simp
          exact ⟨Ext.refl _, rfl⟩
        · obtain ⟨h0, h1, -⟩ := hs
          replace h0 : ρ (.tmp 15) = .slice (some ⟨jb, jo, none⟩) n cj := h0
          replace h1 : ρ (.tmp 16) = .int .i64 ((k : Int)) := h1
          go_simp
          exact ⟨Ext.refl _, rfl⟩
        · obtain ⟨h0, -⟩ := hs
          replace h0 : ρ (.tmp 17) = .pointer (some ⟨jb, jo + k, none⟩) := h0
          have hc0 : W.cell? ⟨jb, jo + k, none⟩ = some (.int .i64 (j)) := hF.cell (by assumption)
          go_simp
          exact ⟨Ext.refl _, rfl⟩
        · obtain ⟨h0, h1, -⟩ := hs
          replace h0 : ρ (.tmp 13) = .agg #[.int .i64 (L), .slice (some ⟨jb, jo, none⟩) n cj, .slice K n ck] := h0
          replace h1 : ρ (.tmp 18) = .int .i64 (j) := h1
          go_simp
          refine (HD.out _ (Ext.trans X.out hF)).mono ?_; rintro e w' ⟨rfl, hx⟩; exact ⟨_, rfl, hx, rfl⟩
        · obtain ⟨h0, -⟩ := hs
          replace h0 : ρ (.tmp 19) = .agg #[.int .i64 d.1, .int .i64 d.2] := h0
          go_simp
          exact ⟨Ext.alloc _ _, _, rfl, Blk.new _ _ _⟩
      · intro fv W1 hF hs
        obtain ⟨h12, -, -, -, -, -, -, -, h20, -⟩ := hs
        replace h12 : fv 12 = .slice R k c := h12
        replace h20 : (SlP 49 #[.int .i64 d.1, .int .i64 d.2]) (fv 20) W1 := h20
        simp only [fin, List.filterMap]
        go_simp
        obtain ⟨q2, hq2, hQ2⟩ := h20
        rw [hq2]
        have Q2 := Lib.hid hQ2
        have hx6 := Lib.hid hF
        clear hq2 hQ2 hF z0 z1 z2 hjc
        go_wp2_with
          (refine append_Rg (own_ext O.out hx6.out) (by omega) (by have := SZ.out; have := hx6.out.size; omega) Q2.out rfl (.tmp 12) (.tmp 20) rfl rfl rfl rfl ?_
           intro R' c' w2 hown' hkb hxe hgs
           have O2 := Lib.hid hown'
           have X2 := Lib.hid (hxe W0 (X0.out.trans hx6.out) (Nat.le_refl _))
           clear hown' hkb hxe hgs)
        go_roundw
        case rel => exact ⟨k + 1, _, _, by omega, by go_num, rfl, by rw [HS.out]; exact O2.out, X2.out⟩
        case measure => simp [intOf]; omega
    · obtain rfl : k = n := by omega
      have hkn : ¬ (k : Int) < (k : Int) := by omega
      have H := Lib.hid (show RowsAt 2 Rg.enc wr R (deflL L js ks k) from rows_own (deflL_len _ _ _ _) (fun _ => rfl) O.out (by omega))
      have z1 : wr.cell? ⟨w.heap.size, 1, none⟩ = some (.slice J k cj) := K1.out.cell 1
      go_wp2
      go_ret
      exact ⟨R, ⟨c, rfl⟩, H.out, X.out⟩
theorem list_ext {α : Type} [Inhabited α] {xs ys : List α} (hl : xs.length = ys.length) (h : ∀ k, k < xs.length → xs.getD k default = ys.getD k default) : xs = ys := by
  apply List.ext_getElem hl
  intro i h1 h2
  have := h i h1
  simpa [h1, h2] using this
theorem list_ext0 {xs ys : List Int} (hl : xs.length = ys.length) (h : ∀ k, k < xs.length → xs.getD k 0 = ys.getD k 0) : xs = ys := list_ext hl h
abbrev Bw := Rg × Rg
def Bw.enc (x : Bw) : List Value := [.int .i64 x.1.1, .int .i64 x.1.2, .int .i64 x.2.1, .int .i64 x.2.2]

def few2 (n m : Nat) : Bool := decide (n ≤ 6) && decide (m ≤ 6)
set_option maxRecDepth 100000 in
set_option maxHeartbeats 1000000 in
theorem few_any {L : Int} {J K : Option Addr} {n m cj ck : Nat} (w : World) (hn0 : n ≤ maxLen) (hm0 : m ≤ maxLen) :
    Calls Tryz.prog 5 #[.agg #[.int .i64 L, .slice J n cj, .slice K m ck]] w fun e w' => e = .returned (.bool (few2 n m)) ∧ Ext w w' := by
  have hn : n ≤ 9223372036854775807 := hn0
  have hm : m ≤ 9223372036854775807 := hm0
  clear hn0 hm0
  obtain ⟨W0, hW0⟩ : ∃ W0, W0 = w.alloc (.cells #[.int .i64 L, .slice J n cj, .slice K m ck] 25) := ⟨_, rfl⟩
  have K0 := Lib.hid (show Blk W0 (w.heap.size) 25 #[.int .i64 L, .slice J n cj, .slice K m ck] by rw [hW0]; exact Blk.new _ _ _)
  have E0 := Lib.hid (show Ext w W0 by rw [hW0]; exact Ext.alloc _ _)
  have y0_0 : W0.cell? ⟨w.heap.size, 0, none⟩ = some (.int .i64 L) := K0.out.cell 0
  have y0_1 : W0.cell? ⟨w.heap.size, 1, none⟩ = some (.slice J n cj) := K0.out.cell 1
  have y0_2 : W0.cell? ⟨w.heap.size, 2, none⟩ = some (.slice K m ck) := K0.out.cell 2
  by_cases h1 : n ≤ 6
  · by_cases h2 : m ≤ 6
    · have d1 : decide ((n : Int) ≤ (6 : Int)) = true := by simp; omega
      have d2 : decide ((m : Int) ≤ (6 : Int)) = true := by simp; omega
      have HV := Lib.hid (show few2 n m = true by simp [few2, h1, h2])
      clear h1 h2
      go_enter Tryz.func5, Tryz.ntmps5
      go_upto_region 1 with (fail)
      rw [← hW0]
      clear hW0
      go_wp2
      go_ret
      exact ⟨ret_bool HV.out.symm, E0.out⟩
    · have d1 : decide ((n : Int) ≤ (6 : Int)) = true := by simp; omega
      have d2 : decide ((m : Int) ≤ (6 : Int)) = false := by simp; omega
      have HV := Lib.hid (show few2 n m = false by simp [few2, h2])
      clear h1 h2
      go_enter Tryz.func5, Tryz.ntmps5
      go_upto_region 1 with (fail)
      rw [← hW0]
      clear hW0
      go_wp2
      go_ret
      exact ⟨ret_bool HV.out.symm, E0.out⟩
  · have d1 : decide ((n : Int) ≤ (6 : Int)) = false := by simp; omega
    have HV := Lib.hid (show few2 n m = false by simp [few2, h1])
    clear h1
    go_enter Tryz.func5, Tryz.ntmps5
    go_upto_region 1 with (fail)
    rw [← hW0]
    clear hW0
    go_wp2
    go_ret
    exact ⟨ret_bool HV.out.symm, E0.out⟩
theorem refTolE_any (t : Int) (w : World) : Calls Tryz.prog 13 #[.int .i64 t] w fun e w' => e = .returned (.int .i64 (tolE t)) ∧ Ext w w' := by
  have HWI := Lib.hid (fun W => within_any t 0 1000000000000 W)
  have HT := Lib.hid (show tolE t = if 0 ≤ t ∧ t ≤ 1000000000000 then 0 else 2 from rangeE_one _ _ _)
  generalize tolE t = z at *
  by_cases h : 0 ≤ t ∧ t ≤ 1000000000000
  · rw [withinB_t h] at HWI
    rw [if_pos h] at HT
    clear h
    go_enter Tryz.func13, Tryz.ntmps13
    go_wp2_with (go_at_call 35; refine (HWI.out _).mono ?_; rintro e w' ⟨rfl, rfl⟩)
    go_ret
    exact ⟨ret_int HT.out.symm, Ext.refl _⟩
  · rw [withinB_f h] at HWI
    rw [if_neg h] at HT
    clear h
    go_enter Tryz.func13, Tryz.ntmps13
    go_wp2_with (go_at_call 35; refine (HWI.out _).mono ?_; rintro e w' ⟨rfl, rfl⟩)
    go_ret
    exact ⟨ret_int HT.out.symm, Ext.refl _⟩
theorem refShaftErr_any {L : Int} {J K : Option Addr} {n m cj ck : Nat} {js : List Int} {ks : List Rg} {w : World} (hn : js.length = n) (hJ : RowsAt 1 I1 w J js) (hm : ks.length = m) (hK : RowsAt 2 Rg.enc w K ks) :
    Calls Tryz.prog 33 #[.agg #[.int .i64 L, .slice J n cj, .slice K m ck]] w fun e w' => e = .returned (.int .i64 (checkS L js ks).2) ∧ Ext w w' := by
  have HC := Lib.hid (fun W (e : Ext w W) => refCheckShaft_any (cj := cj) (ck := ck) (L := L) hn (hJ.ext e) hm (hK.ext e))
  clear hn hJ hm hK
  go_enter Tryz.func33, Tryz.ntmps33
  go_wp2_with (go_at_call 56; refine (HC.out _ (Ext.alloc _ _)).mono ?_; rintro e W1 ⟨rfl, hx⟩; have X1 := Lib.hid ((Ext.alloc _ _).trans hx); clear hx)
  go_ret
  exact ⟨rfl, X1.out⟩
set_option maxRecDepth 100000 in
set_option maxHeartbeats 1000000 in
theorem refStraight_any {L : Int} {J K : Option Addr} {n cj ck : Nat} {js : List Int} {ks : List Rg} {w : World} (hn : js.length = n) (hJ : RowsAt 1 I1 w J js) (hm : ks.length = n) (hK : RowsAt 2 Rg.enc w K ks) {t : Int} (hs : ShOK L js ks) (ht : 0 ≤ t ∧ t ≤ 1000000000000) :
    Calls Tryz.prog 88 #[.agg #[.int .i64 L, .slice J n cj, .slice K n ck], .int .i64 t] w fun e w' => e = .returned (.int .i64 (straightV t L js ks)) ∧ Ext w w' := by
  have HD := Lib.hid (fun W (e : Ext w W) => refDeflections_any (cj := cj) (ck := ck) hn (hJ.ext e) hm (hK.ext e) hs)
  have HV := Lib.hid (show straightV t L js ks = strF t (deflAt L js ks) n 0 2 by rw [← hn]; rfl)
  have HLL := Lib.hid (deflL_len L js ks n)
  have HLG := Lib.hid (fun k (hk : k < n) => show (deflL L js ks n).getD k default = deflAt L js ks k by simp [deflL, hk])
  have h4 : n ≤ 4 := by have := hs.four; omega
  generalize straightV t L js ks = sv at *
  generalize deflL L js ks n = dl at *
  generalize deflAt L js ks = D at *
  clear hn hJ hm hK hs
  obtain ⟨W0, hW0⟩ : ∃ W0, W0 = w.alloc (.cells #[.int .i64 L, .slice J n cj, .slice K n ck] 25) := ⟨_, rfl⟩
  have K0 := Lib.hid (show Blk W0 (w.heap.size) 25 #[.int .i64 L, .slice J n cj, .slice K n ck] by rw [hW0]; exact Blk.new _ _ _)
  have E0 := Lib.hid (show Ext w W0 by rw [hW0]; exact Ext.alloc _ _)
  have y0_0 : W0.cell? ⟨w.heap.size, 0, none⟩ = some (.int .i64 L) := K0.out.cell 0
  have y0_1 : W0.cell? ⟨w.heap.size, 1, none⟩ = some (.slice J n cj) := K0.out.cell 1
  have y0_2 : W0.cell? ⟨w.heap.size, 2, none⟩ = some (.slice K n ck) := K0.out.cell 2
  go_enter Tryz.func88, Tryz.ntmps88
  go_upto_region 1 with (fail)
  rw [← hW0]
  clear hW0
  go_wp2_with (go_at_call 100; refine (HD.out _ E0.out).mono ?_; rintro e W1 ⟨A, c, rfl, hr, hx⟩; have R1 := Lib.hid hr; replace E0 := Lib.hid (E0.out.trans hx); clear hx hr y0_0 y0_1 y0_2 K0)
  clear HD
  go_loopw [6, 7] (fun c i wr => ∃ (k : Nat) (a : Int), k ≤ n ∧ i = .int .i64 (k : Int) ∧ c = .int .i64 a ∧ sv = strF t D (n - k) k a ∧ Ext W1 wr) (fun _ i _ => n - (intOf i).toNat)
  case atStart => exact ⟨0, 2, by omega, rfl, rfl, HV.out, Ext.refl _⟩
  case round =>
    clear HV
    obtain ⟨k, a, hk, rfl, rfl, hr, hx⟩ := hrel
    have X := Lib.hid hx
    have R := Lib.hid hr
    clear hx hr
    by_cases hlt : k < n
    · obtain ⟨b, o, rfl, hb, hc0, hc1⟩ := row_Rg (R1.out.ext X.out) (i := k) (by have := HLL.out; omega)
      rw [HLG.out k hlt] at hc0 hc1
      have HR := Lib.hid (R.out.trans (strF_step t D hlt a))
      generalize D k = d at *
      clear R hb
      have hki : (k : Int) < (n : Int) := by omega
      by_cases h1 : t < d.1
      · replace HR := Lib.hid (show sv = 0 by rw [HR.out, if_pos (.inl h1)])
        go_wp2
        go_ret
        exact ⟨ret_int HR.out.symm, E0.out.trans X.out⟩
      · by_cases h2 : d.2 < -t
        · replace HR := Lib.hid (show sv = 0 by rw [HR.out, if_pos (.inr h2)])
          go_wp2
          go_ret
          exact ⟨ret_int HR.out.symm, E0.out.trans X.out⟩
        · by_cases h3 : d.1 < -t
          · replace HR := Lib.hid (show sv = strF t D (n - (k + 1)) (k + 1) 1 by rw [HR.out, if_neg (by omega), if_pos (.inl h3)])
            go_wp2
            go_roundw
            case rel => exact ⟨k + 1, 1, by omega, by go_num, rfl, HR.out, X.out⟩
            case measure => simp [intOf]; omega
          · by_cases h4 : t < d.2
            · replace HR := Lib.hid (show sv = strF t D (n - (k + 1)) (k + 1) 1 by rw [HR.out, if_neg (by omega), if_pos (.inr h4)])
              go_wp2
              go_roundw
              case rel => exact ⟨k + 1, 1, by omega, by go_num, rfl, HR.out, X.out⟩
              case measure => simp [intOf]; omega
            · replace HR := Lib.hid (show sv = strF t D (n - (k + 1)) (k + 1) a by rw [HR.out, if_neg (by omega), if_neg (by omega)])
              go_wp2
              go_roundw
              case rel => exact ⟨k + 1, a, by omega, by go_num, rfl, HR.out, X.out⟩
              case measure => simp [intOf]; omega
    · obtain rfl : k = n := by omega
      have hkn : ¬ (k : Int) < (k : Int) := by omega
      have HR := Lib.hid (show sv = a by rw [R.out, Nat.sub_self]; rfl)
      clear R
      go_wp2
      go_ret
      exact ⟨ret_int HR.out.symm, E0.out.trans X.out⟩

end Go.Proofs.YtjdilmmpdlcimaaGreat
