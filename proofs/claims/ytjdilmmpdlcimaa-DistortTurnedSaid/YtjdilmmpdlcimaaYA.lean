/- The reference of readings errors. The reference of sections errors. The reference of stations errors. The reference of growth. Roots. Roots from below and above. The reference of a run-out. -/
import Derived.Test.YtjdilmmpdlcimaaEA
import Derived.Test.YtjdilmmpdlcimaaB7
import Derived.Test.YtjdilmmpdlcimaaB6
import Derived.Lib.MinMax
import Derived.Deep.DeepCutAuto
import Derived.BigQuiet

namespace Go.Proofs.Ytjdilmmpdlcimaa
open Go.RowKit Go.Shelf Go.Mem Go.RegInv
attribute [local go_sem] RelUpon_value RelUpon_skip RelUpon_enter BigFrame.eval_const BigFrame.eval_global BigFrame.eval_func


theorem rangeE_cons (lo hi r : Int) (l : List Int) : rangeE lo hi (r :: l) = if lo ≤ r ∧ r ≤ hi then rangeE lo hi l else 2 := by
  unfold rangeE
  by_cases h : lo ≤ r ∧ r ≤ hi
  · rw [if_pos h]
    simp [errIf, outB_in h]
  · rw [if_neg h]
    simp [errIf, outB_out h]
set_option maxRecDepth 100000 in
set_option maxHeartbeats 2000000 in
theorem readingsErr_any (r0 r1 r2 r3 : Int) (w : World) :
    Calls Try.prog 55 #[.agg #[.int .i64 r0, .int .i64 r1, .int .i64 r2, .int .i64 r3]] w fun e w' => e = .returned (.int .i64 (readE r0 r1 r2 r3)) ∧ Ext w w' := by
  have HV := Lib.hid (show readE r0 r1 r2 r3 = rangeE (-1000000) 1000000 (List.drop 0 [r0, r1, r2, r3]) from rfl)
  generalize readE r0 r1 r2 r3 = z at *
  obtain ⟨W0, hW0⟩ : ∃ W0, W0 = w.alloc (.cells #[.int .i64 r0, .int .i64 r1, .int .i64 r2, .int .i64 r3] 87) := ⟨_, rfl⟩
  have K0 := Lib.hid (show Blk W0 (w.heap.size) 87 #[.int .i64 r0, .int .i64 r1, .int .i64 r2, .int .i64 r3] by rw [hW0]; exact Blk.new _ _ _)
  have E0 := Lib.hid (show Ext w W0 by rw [hW0]; exact Ext.alloc _ _)
  have y0_0 : W0.cell? ⟨w.heap.size, 0, none⟩ = some (.int .i64 r0) := K0.out.cell 0
  have y0_1 : W0.cell? ⟨w.heap.size, 1, none⟩ = some (.int .i64 r1) := K0.out.cell 1
  have y0_2 : W0.cell? ⟨w.heap.size, 2, none⟩ = some (.int .i64 r2) := K0.out.cell 2
  have y0_3 : W0.cell? ⟨w.heap.size, 3, none⟩ = some (.int .i64 r3) := K0.out.cell 3
  have HC := Lib.hid (fun k (h : k < 4) => show W0.cell? ⟨w.heap.size, k, none⟩ = some (.int .i64 (List.getD [r0, r1, r2, r3] k 0)) from by
    rcases (show k = 0 ∨ k = 1 ∨ k = 2 ∨ k = 3 by omega) with rfl | rfl | rfl | rfl
    · exact y0_0
    · exact y0_1
    · exact y0_2
    · exact y0_3)
  have HD := Lib.hid (fun k (h : k < 4) => show List.drop k [r0, r1, r2, r3] = List.getD [r0, r1, r2, r3] k 0 :: List.drop (k + 1) [r0, r1, r2, r3] from by
    rcases (show k = 0 ∨ k = 1 ∨ k = 2 ∨ k = 3 by omega) with rfl | rfl | rfl | rfl <;> rfl)
  have HN := Lib.hid (show List.drop 4 [r0, r1, r2, r3] = [] from rfl)
  go_enter Try.func55, Try.ntmps55
  go_upto_region 1 with (fail)
  rw [← hW0]
  clear hW0 y0_0 y0_1 y0_2 y0_3
  generalize [r0, r1, r2, r3] = rs at *
  go_wp2
  go_loopw [3] (fun i wr => ∃ k : Nat, k ≤ 4 ∧ i = .int .i64 (k : Int) ∧ z = rangeE (-1000000) 1000000 (List.drop k rs) ∧ Hid (W0 = wr)) (fun i _ => 4 - (intOf i).toNat)
  case atStart => exact ⟨0, by omega, rfl, HV.out, Lib.hid rfl⟩
  case round =>
    clear HV
    obtain ⟨k, hk, rfl, hv, hw⟩ := hrel
    have HV := Lib.hid hv
    clear hv
    obtain rfl := hw.out
    clear hw
    by_cases hlt : k < 4
    · have hc := HC.out k hlt
      have hv := HV.out
      rw [HD.out k hlt, rangeE_cons] at hv
      generalize List.getD rs k 0 = r at *
      have hki : (k : Int) < 4 := by omega
      by_cases h : -1000000 ≤ r ∧ r ≤ 1000000
      · have HW := Lib.hid (withinB_t h)
        rw [if_pos h] at hv
        have HV2 := Lib.hid hv
        clear hv h HV
        go_wp2_with (go_at_call 79; refine (sized_any _ 1000000 (by omega) _).mono ?_; rintro e w' ⟨rfl, rfl⟩; rw [HW.out])
        go_roundw
        case rel => exact ⟨k + 1, by omega, by go_num, HV2.out, Lib.hid trivial⟩
        case measure => simp [intOf]; omega
      · have HW := Lib.hid (withinB_f h)
        rw [if_neg h] at hv
        have HV2 := Lib.hid hv
        clear hv h HV
        go_wp2_with (go_at_call 79; refine (sized_any _ 1000000 (by omega) _).mono ?_; rintro e w' ⟨rfl, rfl⟩; rw [HW.out])
        go_ret
        exact ⟨by rw [HV2.out]; try rfl, E0.out⟩
    · obtain rfl : k = 4 := by omega
      have hv := HV.out
      rw [HN.out] at hv
      have HV2 := Lib.hid (show z = 0 from hv)
      clear hv HV
      go_wp2
      go_ret
      exact ⟨by rw [HV2.out]; try rfl, E0.out⟩



theorem sectE_if (x : Se) : sectE x = if 0 ≤ x.l ∧ x.l ≤ 10000 then (if -100000 ≤ x.lo ∧ x.lo ≤ 100000 then (if -100000 ≤ x.hi ∧ x.hi ≤ 100000 then (if x.hi < x.lo then 9 else 0) else 2) else 2) else 2 := by
  unfold sectE
  rw [rangeE_one, endsE_if]
  dsimp only
  by_cases h : 0 ≤ x.l ∧ x.l ≤ 10000
  · rw [if_pos h, if_pos h, firstE_cons0, firstE_one]
  · rw [if_neg h, if_neg h, firstE_consN _ (by decide)]
set_option maxRecDepth 100000 in
set_option maxHeartbeats 2000000 in
theorem refSectionsErr_any {A : Option Addr} {n ca : Nat} {xs : List Se} {w : World} (hn : xs.length = n) (hA : n ≤ 1000 → RowsAt 3 Se.enc w A xs) (ln : n ≤ maxLen) :
    Calls Try.prog 53 #[.slice A n ca] w fun e w' => e = .returned (.int .i64 (sectsE xs)) ∧ Ext w w' := by
  by_cases h20 : 20 < n
  · have HV := Lib.hid (show sectsE xs = 8 by unfold sectsE; rw [if_pos (by omega)])
    generalize sectsE xs = z at *
    have hd : decide ((20 : Int) < (n : Int)) = true := by simp; omega
    have hd2 : (20 : Int) < (n : Int) := by omega
    have hnb : n ≤ 9223372036854775807 := ln
    clear hn hA ln
    go_enter Try.func53, Try.ntmps53
    go_wp2
    go_ret
    exact ⟨by rw [HV.out]; try rfl, Ext.refl _⟩
  · have HZ := Lib.hid (show sectsE xs = (firstAt (sectAt xs) n 0).2 by unfold sectsE; rw [if_neg (by omega), hn])
    have HA := Lib.hid (hA (by omega))
    have HN := Lib.hid hn
    have HAT := Lib.hid (fun i => show sectAt xs i = sectE (xs.getD i default) from rfl)
    have hd : decide ((20 : Int) < (n : Int)) = false := by simp; omega
    have hd2 : ¬ (20 : Int) < (n : Int) := by omega
    generalize sectsE xs = z at *
    generalize sectAt xs = F at *
    obtain ⟨r, hr⟩ : ∃ r, r = firstAt F n 0 := ⟨_, rfl⟩
    rw [← hr] at HZ
    have HR := Lib.hid hr
    clear hr hn hA
    go_enter Try.func53, Try.ntmps53
    go_wp2
    go_loopw [3] (fun i wr => ∃ k : Nat, k ≤ n ∧ i = .int .i64 (k : Int) ∧ r = firstAt F (n - k) k ∧ Ext w wr) (fun i _ => n - (intOf i).toNat)
    case atStart => exact ⟨0, by omega, rfl, HR.out, Ext.refl _⟩
    case round =>
      clear HR
      obtain ⟨k, hk, rfl, hr, hx⟩ := hrel
      have X := Lib.hid hx
      have R := Lib.hid hr
      clear hx hr
      by_cases hlt : k < n
      · obtain ⟨b, o, rfl, hb, hc⟩ := row_at (HA.out.ext X.out) (getD_some (xs := xs) (i := k) (by have := HN.out; omega))
        have HE := Lib.hid ((HAT.out k).trans (sectE_if _))
        have HNX := Lib.hid (fun (hz : F k = 0) => R.out.trans (firstAt_next _ hlt hz))
        have HHE := Lib.hid (fun (c : Int) (hz : F k = c) (h0 : c ≠ 0) => (R.out.trans (firstAt_here _ hlt hz h0)))
        generalize F k = fk at *
        generalize xs.getD k default = x at *
        obtain ⟨a, lo, hi⟩ := x
        dsimp only at HE
        have c0 : wr.cell? ⟨b, o + k * 3, none⟩ = some (.int .i64 a) := hc 0 _ rfl
        have c1 : wr.cell? ⟨b, o + k * 3 + 1, none⟩ = some (.int .i64 lo) := hc 1 _ rfl
        have c2 : wr.cell? ⟨b, o + k * 3 + 2, none⟩ = some (.int .i64 hi) := hc 2 _ rfl
        have hki : (k : Int) < (n : Int) := by omega
        clear hc hb
        by_cases g1 : 0 ≤ a ∧ a ≤ 10000
        · have HW1 := Lib.hid (withinB_t g1)
          by_cases g2 : -100000 ≤ lo ∧ lo ≤ 100000
          · have HW2 := Lib.hid (withinB_t g2)
            by_cases g3 : -100000 ≤ hi ∧ hi ≤ 100000
            · have HW3 := Lib.hid (withinB_t g3)
              by_cases g4 : hi < lo
              · have HV := Lib.hid (show z = 9 by rw [HZ.out, HHE.out 9 (by rw [HE.out, if_pos g1, if_pos g2, if_pos g3, if_pos g4]) (by decide)])
                clear g1 g2 g3 HNX HHE HE R HZ
                go_upto_region 8 with (first | (go_at_call 21; refine (within_any _ _ _ _).mono ?_; rintro e w' ⟨rfl, rfl⟩; rw [HW1.out]) | (go_at_call 79; refine (sized_any _ 100000 (by omega) _).mono ?_; rintro e w' ⟨rfl, rfl⟩; first | rw [HW2.out] | rw [HW3.out]))
                go_quiet (fail)
                generalize hwq : World.drewN wr nq = V
                have hx : Ext wr V := by rw [← hwq]; exact Ext.drewN _ _
                replace X := Lib.hid (X.out.trans hx)
                clear hwq hx
                go_wp2
                go_ret
                exact ⟨by rw [HV.out]; try rfl, X.out⟩
              · have HV := Lib.hid (HNX.out (by rw [HE.out, if_pos g1, if_pos g2, if_pos g3, if_neg g4]))
                clear g1 g2 g3 HNX HHE HE R
                go_upto_region 8 with (first | (go_at_call 21; refine (within_any _ _ _ _).mono ?_; rintro e w' ⟨rfl, rfl⟩; rw [HW1.out]) | (go_at_call 79; refine (sized_any _ 100000 (by omega) _).mono ?_; rintro e w' ⟨rfl, rfl⟩; first | rw [HW2.out] | rw [HW3.out]))
                go_quiet (fail)
                generalize hwq : World.drewN wr nq = V
                have hx : Ext wr V := by rw [← hwq]; exact Ext.drewN _ _
                replace X := Lib.hid (X.out.trans hx)
                clear hwq hx
                go_wp2
                go_roundw
                case rel => exact ⟨k + 1, by omega, by go_num, HV.out, X.out⟩
                case measure => simp [intOf]; omega
            · have HW3 := Lib.hid (withinB_f g3)
              have HV := Lib.hid (show z = 2 by rw [HZ.out, HHE.out 2 (by rw [HE.out, if_pos g1, if_pos g2, if_neg g3]) (by decide)])
              clear g1 g2 g3 HNX HHE HE R HZ
              go_wp2_with (first | (go_at_call 21; refine (within_any _ _ _ _).mono ?_; rintro e w' ⟨rfl, rfl⟩; rw [HW1.out]) | (go_at_call 79; refine (sized_any _ 100000 (by omega) _).mono ?_; rintro e w' ⟨rfl, rfl⟩; first | rw [HW2.out] | rw [HW3.out]))
              go_ret
              exact ⟨by rw [HV.out]; try rfl, X.out⟩
          · have HW2 := Lib.hid (withinB_f g2)
            have HV := Lib.hid (show z = 2 by rw [HZ.out, HHE.out 2 (by rw [HE.out, if_pos g1, if_neg g2]) (by decide)])
            clear g1 g2 HNX HHE HE R HZ
            go_wp2_with (first | (go_at_call 21; refine (within_any _ _ _ _).mono ?_; rintro e w' ⟨rfl, rfl⟩; rw [HW1.out]) | (go_at_call 79; refine (sized_any _ 100000 (by omega) _).mono ?_; rintro e w' ⟨rfl, rfl⟩; rw [HW2.out]))
            go_ret
            exact ⟨by rw [HV.out]; try rfl, X.out⟩
        · have HW1 := Lib.hid (withinB_f g1)
          have HV := Lib.hid (show z = 2 by rw [HZ.out, HHE.out 2 (by rw [HE.out, if_neg g1]) (by decide)])
          clear g1 HNX HHE HE R HZ
          go_wp2_with (go_at_call 21; refine (within_any _ _ _ _).mono ?_; rintro e w' ⟨rfl, rfl⟩; rw [HW1.out])
          go_ret
          exact ⟨by rw [HV.out]; try rfl, X.out⟩
      · obtain rfl : k = n := by omega
        have hkn : ¬ (k : Int) < (k : Int) := by omega
        have HV := Lib.hid (show z = 0 by rw [HZ.out, R.out, Nat.sub_self]; rfl)
        clear R HZ
        go_wp2
        go_ret
        exact ⟨by rw [HV.out]; try rfl, X.out⟩



def stnE (p : Int) (i : Nat) (x : Sn) : Int := if 0 ≤ x.t ∧ x.t ≤ 10000 then (if -1000000 ≤ x.x ∧ x.x ≤ 1000000 then (if -1000000 ≤ x.y ∧ x.y ≤ 1000000 then (if 0 < i ∧ x.t ≤ p then 9 else 0) else 2) else 2) else 2
def stnAt (xs : List Sn) (i : Nat) : Int := stnE (xs.getD (i - 1) default).t i (xs.getD i default)
/-- The error of stations. -/
def stnsE (xs : List Sn) : Int := if xs.length < 2 then 10 else if 20 < xs.length then 8 else (firstAt (stnAt xs) xs.length 0).2
set_option maxRecDepth 100000 in
set_option maxHeartbeats 2000000 in
theorem refStationsErr_any {A : Option Addr} {n ca : Nat} {xs : List Sn} {w : World} (hn : xs.length = n) (hA : n ≤ 1000 → RowsAt 3 Sn.enc w A xs) (ln : n ≤ maxLen) :
    Calls Try.prog 57 #[.slice A n ca] w fun e w' => e = .returned (.int .i64 (stnsE xs)) ∧ Ext w w' := by
  have hnb : n ≤ 9223372036854775807 := ln
  by_cases h2 : n < 2
  · have HV := Lib.hid (show stnsE xs = 10 by unfold stnsE; rw [if_pos (by omega)])
    generalize stnsE xs = z at *
    have hd : decide (n < 2) = true := by simp; omega
    have hd2 : (n : Int) < (2 : Int) := by omega
    clear hn hA ln
    go_enter Try.func57, Try.ntmps57
    go_wp2
    go_ret
    exact ⟨by rw [HV.out]; try rfl, Ext.refl _⟩
  have hd0 : decide (n < 2) = false := by simp; omega
  have hd02 : ¬ (n : Int) < (2 : Int) := by omega
  by_cases h20 : 20 < n
  · have HV := Lib.hid (show stnsE xs = 8 by unfold stnsE; rw [if_neg (by omega), if_pos (by omega)])
    generalize stnsE xs = z at *
    have hd : decide ((20 : Int) < (n : Int)) = true := by simp; omega
    have hd2 : (20 : Int) < (n : Int) := by omega
    clear hn hA ln
    go_enter Try.func57, Try.ntmps57
    go_wp2
    go_ret
    exact ⟨by rw [HV.out]; try rfl, Ext.refl _⟩
  · have HZ := Lib.hid (show stnsE xs = (firstAt (stnAt xs) n 0).2 by unfold stnsE; rw [if_neg (by omega), if_neg (by omega), hn])
    have HA := Lib.hid (hA (by omega))
    have HN := Lib.hid hn
    have HAT := Lib.hid (fun i => show stnAt xs i = stnE (xs.getD (i - 1) default).t i (xs.getD i default) from rfl)
    have hd : decide ((20 : Int) < (n : Int)) = false := by simp; omega
    have hd2 : ¬ (20 : Int) < (n : Int) := by omega
    generalize stnsE xs = z at *
    generalize stnAt xs = F at *
    obtain ⟨r, hr⟩ : ∃ r, r = firstAt F n 0 := ⟨_, rfl⟩
    rw [← hr] at HZ
    have HR := Lib.hid hr
    clear hr hn hA ln
    go_enter Try.func57, Try.ntmps57
    go_wp2
    go_loopw [3] (fun i wr => ∃ k : Nat, k ≤ n ∧ i = .int .i64 (k : Int) ∧ r = firstAt F (n - k) k ∧ Ext w wr) (fun i _ => n - (intOf i).toNat)
    case atStart => exact ⟨0, by omega, rfl, HR.out, Ext.refl _⟩
    case round =>
      clear HR
      obtain ⟨k, hk, rfl, hr, hx⟩ := hrel
      have X := Lib.hid hx
      have R := Lib.hid hr
      clear hx hr
      by_cases hlt : k < n
      · obtain ⟨b, o, rfl, hb, hc⟩ := row_at (HA.out.ext X.out) (getD_some (xs := xs) (i := k) (by have := HN.out; omega))
        obtain ⟨b2, o2, he, hb2, hc2⟩ := row_at (HA.out.ext X.out) (getD_some (xs := xs) (i := k - 1) (by have := HN.out; omega))
        obtain ⟨rfl, rfl⟩ : b = b2 ∧ o = o2 := by simpa using he
        have HE := Lib.hid ((HAT.out k).trans (show _ = if _ then _ else _ from rfl))
        have HNX := Lib.hid (fun (hz : F k = 0) => R.out.trans (firstAt_next _ hlt hz))
        have HHE := Lib.hid (fun (c : Int) (hz : F k = c) (h0 : c ≠ 0) => (R.out.trans (firstAt_here _ hlt hz h0)))
        generalize F k = fk at *
        generalize xs.getD k default = x at *
        generalize xs.getD (k - 1) default = y at *
        obtain ⟨a, lo, hi⟩ := x
        obtain ⟨p, p2, p3⟩ := y
        dsimp only at HE
        have c0 : wr.cell? ⟨b, o + k * 3, none⟩ = some (.int .i64 a) := hc 0 _ rfl
        have c1 : wr.cell? ⟨b, o + k * 3 + 1, none⟩ = some (.int .i64 lo) := hc 1 _ rfl
        have c2 : wr.cell? ⟨b, o + k * 3 + 2, none⟩ = some (.int .i64 hi) := hc 2 _ rfl
        have p0 : wr.cell? ⟨b, o + (k - 1) * 3, none⟩ = some (.int .i64 p) := hc2 0 _ rfl
        have hki : (k : Int) < (n : Int) := by omega
        clear hc hb hc2 hb2 he
        by_cases g1 : 0 ≤ a ∧ a ≤ 10000
        · have HW1 := Lib.hid (withinB_t g1)
          by_cases g2 : -1000000 ≤ lo ∧ lo ≤ 1000000
          · have HW2 := Lib.hid (withinB_t g2)
            by_cases g3 : -1000000 ≤ hi ∧ hi ≤ 1000000
            · have HW3 := Lib.hid (withinB_t g3)
              rcases (show k = 0 ∨ 0 < k by omega) with hk0 | hk0
              · have HV := Lib.hid (HNX.out (by rw [HE.out, if_pos g1, if_pos g2, if_pos g3, if_neg (by omega)]))
                have hg : decide (0 < k) = false := by simp; omega
                have hg2 : ¬ (0 : Int) < (k : Int) := by omega
                clear g1 g2 g3 HNX HHE HE R hk0
                go_upto_region 10 with (first | (go_at_call 21; refine (within_any _ _ _ _).mono ?_; rintro e w' ⟨rfl, rfl⟩; rw [HW1.out]) | (go_at_call 79; refine (sized_any _ 1000000 (by omega) _).mono ?_; rintro e w' ⟨rfl, rfl⟩; first | rw [HW2.out] | rw [HW3.out]))
                go_quiet (fail)
                generalize hwq : World.drewN wr nq = V
                have hx : Ext wr V := by rw [← hwq]; exact Ext.drewN _ _
                replace X := Lib.hid (X.out.trans hx)
                clear hwq hx
                go_wp2
                go_roundw
                case rel => exact ⟨k + 1, by omega, by go_num, HV.out, X.out⟩
                case measure => simp [intOf]; omega
              · have hg : decide (0 < k) = true := by simp; omega
                have hkw : IntKind.i64.wrap ((k : Int) - 1) = (k : Int) - 1 := wrap_id _ (by omega) (by omega)
                have hkt : ((k : Int) - 1).toNat = k - 1 := by omega
                have hkp : (0 : Int) ≤ (k : Int) - 1 := by omega
                have hkl : (k : Int) - 1 < (n : Int) := by omega
                have hkl2 : k - 1 < n := by omega
                by_cases g4 : a ≤ p
                · have HV := Lib.hid (show z = 9 by rw [HZ.out, HHE.out 9 (by rw [HE.out, if_pos g1, if_pos g2, if_pos g3, if_pos ⟨hk0, g4⟩]) (by decide)])
                  have hd9 : decide (a ≤ p) = true := by simp [g4]
                  clear g1 g2 g3 HNX HHE HE R HZ
                  go_upto_region 10 with (first | (go_at_call 21; refine (within_any _ _ _ _).mono ?_; rintro e w' ⟨rfl, rfl⟩; rw [HW1.out]) | (go_at_call 79; refine (sized_any _ 1000000 (by omega) _).mono ?_; rintro e w' ⟨rfl, rfl⟩; first | rw [HW2.out] | rw [HW3.out]))
                  go_quiet (fail)
                  generalize hwq : World.drewN wr nq = V
                  have hx : Ext wr V := by rw [← hwq]; exact Ext.drewN _ _
                  replace X := Lib.hid (X.out.trans hx)
                  clear hwq hx
                  go_wp2
                  go_ret
                  exact ⟨by rw [HV.out]; try rfl, X.out⟩
                · have HV := Lib.hid (HNX.out (by rw [HE.out, if_pos g1, if_pos g2, if_pos g3, if_neg (by omega)]))
                  have hd9 : decide (a ≤ p) = false := by simp; omega
                  clear g1 g2 g3 HNX HHE HE R
                  go_upto_region 10 with (first | (go_at_call 21; refine (within_any _ _ _ _).mono ?_; rintro e w' ⟨rfl, rfl⟩; rw [HW1.out]) | (go_at_call 79; refine (sized_any _ 1000000 (by omega) _).mono ?_; rintro e w' ⟨rfl, rfl⟩; first | rw [HW2.out] | rw [HW3.out]))
                  go_quiet (fail)
                  generalize hwq : World.drewN wr nq = V
                  have hx : Ext wr V := by rw [← hwq]; exact Ext.drewN _ _
                  replace X := Lib.hid (X.out.trans hx)
                  clear hwq hx
                  go_wp2
                  go_roundw
                  case rel => exact ⟨k + 1, by omega, by go_num, HV.out, X.out⟩
                  case measure => simp [intOf]; omega
            · have HW3 := Lib.hid (withinB_f g3)
              have HV := Lib.hid (show z = 2 by rw [HZ.out, HHE.out 2 (by rw [HE.out, if_pos g1, if_pos g2, if_neg g3]) (by decide)])
              clear g1 g2 g3 HNX HHE HE R HZ
              go_wp2_with (first | (go_at_call 21; refine (within_any _ _ _ _).mono ?_; rintro e w' ⟨rfl, rfl⟩; rw [HW1.out]) | (go_at_call 79; refine (sized_any _ 1000000 (by omega) _).mono ?_; rintro e w' ⟨rfl, rfl⟩; first | rw [HW2.out] | rw [HW3.out]))
              go_ret
              exact ⟨by rw [HV.out]; try rfl, X.out⟩
          · have HW2 := Lib.hid (withinB_f g2)
            have HV := Lib.hid (show z = 2 by rw [HZ.out, HHE.out 2 (by rw [HE.out, if_pos g1, if_neg g2]) (by decide)])
            clear g1 g2 HNX HHE HE R HZ
            go_wp2_with (first | (go_at_call 21; refine (within_any _ _ _ _).mono ?_; rintro e w' ⟨rfl, rfl⟩; rw [HW1.out]) | (go_at_call 79; refine (sized_any _ 1000000 (by omega) _).mono ?_; rintro e w' ⟨rfl, rfl⟩; rw [HW2.out]))
            go_ret
            exact ⟨by rw [HV.out]; try rfl, X.out⟩
        · have HW1 := Lib.hid (withinB_f g1)
          have HV := Lib.hid (show z = 2 by rw [HZ.out, HHE.out 2 (by rw [HE.out, if_neg g1]) (by decide)])
          clear g1 HNX HHE HE R HZ
          go_wp2_with (go_at_call 21; refine (within_any _ _ _ _).mono ?_; rintro e w' ⟨rfl, rfl⟩; rw [HW1.out])
          go_ret
          exact ⟨by rw [HV.out]; try rfl, X.out⟩
      · obtain rfl : k = n := by omega
        have hkn : ¬ (k : Int) < (k : Int) := by omega
        have HV := Lib.hid (show z = 0 by rw [HZ.out, R.out, Nat.sub_self]; rfl)
        clear R HZ
        go_wp2
        go_ret
        exact ⟨by rw [HV.out]; try rfl, X.out⟩



set_option maxRecDepth 100000 in
set_option maxHeartbeats 4000000 in
theorem refGrowth_any {A : Option Addr} {n ca : Nat} {xs : List Se} {w : World} (hn : xs.length = n) (hA : RowsAt 3 Se.enc w A xs) (hz : sectsE xs = 0) :
    Calls Try.prog 54 #[.slice A n ca] w fun e w' => e = .returned (.agg #[.int .i64 (growV xs).1, .int .i64 (growV xs).2]) ∧ Ext w w' := by
  have h20 : n ≤ 20 := by
    rcases Nat.lt_or_ge 20 n with h | h
    · unfold sectsE at hz; rw [if_pos (by omega)] at hz; cases hz
    · exact h
  have hz2 : (firstAt (sectAt xs) xs.length 0).2 = 0 := by
    unfold sectsE at hz
    rw [if_neg (by omega)] at hz
    exact hz
  have HO := Lib.hid (fun i (hi : i < n) => sectE_ok (firstAt_zero hz2 i (by omega) (by omega)))
  have HB := Lib.hid (fun k (hk : k ≤ n) => growS_bd (xs := xs) (fun i hi => firstAt_zero hz2 i (by omega) (by omega)) k (by omega))
  have HV := Lib.hid (show growV xs = growS xs n by unfold growV; rw [if_pos hz, hn])
  generalize growV xs = gv at *
  have HA := Lib.hid hA
  have HN := Lib.hid hn
  clear hn hA hz hz2
  obtain ⟨W0, hW0⟩ : ∃ W0, W0 = (w.alloc (.cells #[.int .i64 0, .int .i64 0] 33)).alloc (.cells #[.int .i64 0, .int .i64 0] 33) := ⟨_, rfl⟩
  have K0 := Lib.hid (show Blk W0 (w.heap.size) 33 #[.int .i64 0, .int .i64 0] by rw [hW0]; exact (Blk.new _ _ _).alloc _)
  have K1 := Lib.hid (show Blk W0 (w.heap.size + 1) 33 #[.int .i64 0, .int .i64 0] by rw [hW0]; exact Blk.newAt _ _ _ (by simp))
  have E0 := Lib.hid (show Ext w W0 by rw [hW0]; exact (Ext.alloc _ _).trans (Ext.alloc _ _))
  have y0_0 : W0.cell? ⟨w.heap.size, 0, none⟩ = some (.int .i64 0) := K0.out.cell 0
  have y0_1 : W0.cell? ⟨w.heap.size, 1, none⟩ = some (.int .i64 0) := K0.out.cell 1
  have y1_0 : W0.cell? ⟨w.heap.size + 1, 0, none⟩ = some (.int .i64 0) := K1.out.cell 0
  have y1_1 : W0.cell? ⟨w.heap.size + 1, 1, none⟩ = some (.int .i64 0) := K1.out.cell 1
  go_enter Try.func54, Try.ntmps54
  go_upto_region 2 with (fail)
  rw [← hW0]
  clear hW0 y0_0 y0_1 y1_0 y1_1
  go_wp2
  go_loopw [4] (fun i wr => ∃ k : Nat, k ≤ n ∧ i = .int .i64 (k : Int) ∧ Ext w wr ∧ Blk wr w.heap.size 33 #[.int .i64 0, .int .i64 0] ∧ Blk wr (w.heap.size + 1) 33 #[.int .i64 (growS xs k).1, .int .i64 (growS xs k).2]) (fun i _ => n - (intOf i).toNat)
  case atStart => exact ⟨0, by omega, rfl, E0.out, K0.out, K1.out⟩
  case round =>
    clear E0 K0 K1
    obtain ⟨k, hk, rfl, hx, k0, k1⟩ := hrel
    have X := Lib.hid hx
    have K0 := Lib.hid k0
    have K1 := Lib.hid k1
    clear hx k0 k1
    by_cases hlt : k < n
    · obtain ⟨b, o, rfl, hb, hc⟩ := row_at (HA.out.ext X.out) (getD_some (xs := xs) (i := k) (by have := HN.out; omega))
      have ho := HO.out k hlt
      have hbd := HB.out k (by omega)
      have HS := Lib.hid (show growS xs (k + 1) = ((growS xs k).1 + (xs.getD k default).l * (xs.getD k default).lo, (growS xs k).2 + (xs.getD k default).l * (xs.getD k default).hi) from rfl)
      have m1 := mul_bd (a := (xs.getD k default).l) (b := (xs.getD k default).lo) (A := 10000) (B := 100000) (by omega) (by omega)
      have m2 := mul_bd (a := (xs.getD k default).l) (b := (xs.getD k default).hi) (A := 10000) (B := 100000) (by omega) (by omega)
      generalize growS xs k = d at *
      generalize xs.getD k default = x at *
      obtain ⟨a, lo, hi⟩ := x
      dsimp only at ho HS m1 m2
      have hki : (k : Int) < (n : Int) := by omega
      obtain ⟨V, hV⟩ : ∃ V, V = wr := ⟨_, rfl⟩
      rw [← hV] at X K0 K1 hc ⊢
      clear hV hb
      have c0 : V.cell? ⟨b, o + k * 3, none⟩ = some (.int .i64 a) := hc 0 _ rfl
      have c1 : V.cell? ⟨b, o + k * 3 + 1, none⟩ = some (.int .i64 lo) := hc 1 _ rfl
      have c2 : V.cell? ⟨b, o + k * 3 + 1 + 1, none⟩ = some (.int .i64 hi) := hc 2 _ rfl
      have y1_0 : V.cell? ⟨w.heap.size + 1, 0, none⟩ = some (.int .i64 d.1) := K1.out.cell 0
      have y1_1 : V.cell? ⟨w.heap.size + 1, 1, none⟩ = some (.int .i64 d.2) := K1.out.cell 1
      clear hc
      go_upto_region 5 with (fail)
      refine wp_region_partR 31 [some 11, some 12, some 13, some 14, some 15, some 16, some 17, some 18, some 19, some 20, some 21, some 22, some 23, some 24, some 25, some 26, some 27, some 28, some 29, some 30, some 31, some 32, some 33, some 34, some 35, some 36, some 37, some 38, some 39, some 40, some 41] [[3], [11], [0], [4], [13, 14], [15], [16], [0], [4], [18, 19], [20], [21], [22], [17, 23], [12, 24], [3], [26], [0], [4], [28, 29], [30], [31], [0], [4], [33, 34], [35], [36], [37], [32, 38], [27, 39], [25, 40]]
        [Is (.pointer (some ⟨w.heap.size + 1, 0, none⟩)), Is (.int .i64 (d.1)), Is (.slice (some ⟨b, o, none⟩) n ca), Is (.int .i64 ((k : Int))), Is (.pointer (some ⟨b, o + k * 3, none⟩)), Is (.pointer (some ⟨b, o + k * 3, none⟩)), Is (.int .i64 (a)), Is (.slice (some ⟨b, o, none⟩) n ca), Is (.int .i64 ((k : Int))), Is (.pointer (some ⟨b, o + k * 3, none⟩)), Is (.pointer (some ⟨b, o + k * 3 + 1, none⟩)), Is (.pointer (some ⟨b, o + k * 3 + 1, none⟩)), Is (.int .i64 (lo)), Is (.int .i64 (a * lo)), Is (.int .i64 (d.1 + a * lo)), Is (.pointer (some ⟨w.heap.size + 1, 1, none⟩)), Is (.int .i64 (d.2)), Is (.slice (some ⟨b, o, none⟩) n ca), Is (.int .i64 ((k : Int))), Is (.pointer (some ⟨b, o + k * 3, none⟩)), Is (.pointer (some ⟨b, o + k * 3, none⟩)), Is (.int .i64 (a)), Is (.slice (some ⟨b, o, none⟩) n ca), Is (.int .i64 ((k : Int))), Is (.pointer (some ⟨b, o + k * 3, none⟩)), Is (.pointer (some ⟨b, o + k * 3 + 1, none⟩)), Is (.pointer (some ⟨b, o + k * 3 + 1 + 1, none⟩)), Is (.int .i64 (hi)), Is (.int .i64 (a * hi)), Is (.int .i64 (d.2 + a * hi)), Is (.agg #[.int .i64 (d.1 + a * lo), .int .i64 (d.2 + a * hi)])]
        (by kernel_rfl) (by kernel_rfl) (by kernel_rfl) (by kernel_rfl) (by kernel_rfl) (by kernel_rfl) (by kernel_rfl) Ext (fun W => Ext V W)
        (fun W _ => Ext.refl W) (fun W W' h k => h.trans k) ?_ (Ext.drew _) ?_ ?_
      · repeat (refine ⟨fun _ _ _ _ k h => (by first | exact h | exact (IntsAt.ext h k)), ?_⟩)
        exact trivial
      · refine ⟨?_, ?_, ?_, ?_, ?_, ?_, ?_, ?_, ?_, ?_, ?_, ?_, ?_, ?_, ?_, ?_, ?_, ?_, ?_, ?_, ?_, ?_, ?_, ?_, ?_, ?_, ?_, ?_, ?_, ?_, ?_, trivial⟩
        all_goals intro ρ W ⟨kc, kg, kf⟩ hF hs
        · obtain ⟨h0, -⟩ := hs
          replace h0 : ρ (.tmp 3) = .pointer (some ⟨w.heap.size + 1, 0, none⟩) := h0
          go_simp
          exact ⟨Ext.refl _, rfl⟩
        · obtain ⟨h0, -⟩ := hs
          replace h0 : ρ (.tmp 11) = .pointer (some ⟨w.heap.size + 1, 0, none⟩) := h0
          have hc0 : W.cell? ⟨w.heap.size + 1, 0, none⟩ = some (.int .i64 (d.1)) := hF.cell (by assumption)
          go_simp
          exact ⟨Ext.refl _, rfl⟩
        · obtain ⟨h0, -⟩ := hs
          replace h0 : ρ (.tmp 0) = .slice (some ⟨b, o, none⟩) n ca := h0
          go_simp
          exact ⟨Ext.refl _, rfl⟩
        · obtain ⟨h0, -⟩ := hs
          replace h0 : ρ (.tmp 4) = .int .i64 ((k : Int)) := h0
          go_simp
          exact ⟨Ext.refl _, rfl⟩
        · obtain ⟨h0, h1, -⟩ := hs
          replace h0 : ρ (.tmp 13) = .slice (some ⟨b, o, none⟩) n ca := h0
          replace h1 : ρ (.tmp 14) = .int .i64 ((k : Int)) := h1
          have hb1 : (k : Int) < (n : Int) := by omega
          have hb3 : (0 : Int) ≤ (k : Int) := by omega
          have hb4 : ((k : Int)).toNat = k := by omega
          have hb8 : k < n := by omega
          go_simp
          exact ⟨Ext.refl _, rfl⟩
        · obtain ⟨h0, -⟩ := hs
          replace h0 : ρ (.tmp 15) = .pointer (some ⟨b, o + k * 3, none⟩) := h0
          go_simp
          exact ⟨Ext.refl _, rfl⟩
        · obtain ⟨h0, -⟩ := hs
          replace h0 : ρ (.tmp 16) = .pointer (some ⟨b, o + k * 3, none⟩) := h0
          have hc0 : W.cell? ⟨b, o + k * 3, none⟩ = some (.int .i64 (a)) := hF.cell (by assumption)
          go_simp
          exact ⟨Ext.refl _, rfl⟩
        · obtain ⟨h0, -⟩ := hs
          replace h0 : ρ (.tmp 0) = .slice (some ⟨b, o, none⟩) n ca := h0
          go_simp
          exact ⟨Ext.refl _, rfl⟩
        · obtain ⟨h0, -⟩ := hs
          replace h0 : ρ (.tmp 4) = .int .i64 ((k : Int)) := h0
          go_simp
          exact ⟨Ext.refl _, rfl⟩
        · obtain ⟨h0, h1, -⟩ := hs
          replace h0 : ρ (.tmp 18) = .slice (some ⟨b, o, none⟩) n ca := h0
          replace h1 : ρ (.tmp 19) = .int .i64 ((k : Int)) := h1
          have hb1 : (k : Int) < (n : Int) := by omega
          have hb3 : (0 : Int) ≤ (k : Int) := by omega
          have hb4 : ((k : Int)).toNat = k := by omega
          have hb8 : k < n := by omega
          go_simp
          exact ⟨Ext.refl _, rfl⟩
        · obtain ⟨h0, -⟩ := hs
          replace h0 : ρ (.tmp 20) = .pointer (some ⟨b, o + k * 3, none⟩) := h0
          go_simp
          exact ⟨Ext.refl _, rfl⟩
        · obtain ⟨h0, -⟩ := hs
          replace h0 : ρ (.tmp 21) = .pointer (some ⟨b, o + k * 3 + 1, none⟩) := h0
          go_simp
          exact ⟨Ext.refl _, rfl⟩
        · obtain ⟨h0, -⟩ := hs
          replace h0 : ρ (.tmp 22) = .pointer (some ⟨b, o + k * 3 + 1, none⟩) := h0
          have hc0 : W.cell? ⟨b, o + k * 3 + 1, none⟩ = some (.int .i64 (lo)) := hF.cell (by assumption)
          go_simp
          exact ⟨Ext.refl _, rfl⟩
        · obtain ⟨h0, h1, -⟩ := hs
          replace h0 : ρ (.tmp 17) = .int .i64 (a) := h0
          replace h1 : ρ (.tmp 23) = .int .i64 (lo) := h1
          have hw : IntKind.i64.wrap (a * lo) = a * lo := wrap_id _ (by omega) (by omega)
          go_simp
          exact ⟨Ext.refl _, rfl⟩
        · obtain ⟨h0, h1, -⟩ := hs
          replace h0 : ρ (.tmp 12) = .int .i64 (d.1) := h0
          replace h1 : ρ (.tmp 24) = .int .i64 (a * lo) := h1
          have hw : IntKind.i64.wrap (d.1 + a * lo) = d.1 + a * lo := wrap_id _ (by omega) (by omega)
          go_simp
          exact ⟨Ext.refl _, rfl⟩
        · obtain ⟨h0, -⟩ := hs
          replace h0 : ρ (.tmp 3) = .pointer (some ⟨w.heap.size + 1, 0, none⟩) := h0
          go_simp
          exact ⟨Ext.refl _, rfl⟩
        · obtain ⟨h0, -⟩ := hs
          replace h0 : ρ (.tmp 26) = .pointer (some ⟨w.heap.size + 1, 1, none⟩) := h0
          have hc0 : W.cell? ⟨w.heap.size + 1, 1, none⟩ = some (.int .i64 (d.2)) := hF.cell (by assumption)
          go_simp
          exact ⟨Ext.refl _, rfl⟩
        · obtain ⟨h0, -⟩ := hs
          replace h0 : ρ (.tmp 0) = .slice (some ⟨b, o, none⟩) n ca := h0
          go_simp
          exact ⟨Ext.refl _, rfl⟩
        · obtain ⟨h0, -⟩ := hs
          replace h0 : ρ (.tmp 4) = .int .i64 ((k : Int)) := h0
          go_simp
          exact ⟨Ext.refl _, rfl⟩
        · obtain ⟨h0, h1, -⟩ := hs
          replace h0 : ρ (.tmp 28) = .slice (some ⟨b, o, none⟩) n ca := h0
          replace h1 : ρ (.tmp 29) = .int .i64 ((k : Int)) := h1
          have hb1 : (k : Int) < (n : Int) := by omega
          have hb3 : (0 : Int) ≤ (k : Int) := by omega
          have hb4 : ((k : Int)).toNat = k := by omega
          have hb8 : k < n := by omega
          go_simp
          exact ⟨Ext.refl _, rfl⟩
        · obtain ⟨h0, -⟩ := hs
          replace h0 : ρ (.tmp 30) = .pointer (some ⟨b, o + k * 3, none⟩) := h0
          go_simp
          exact ⟨Ext.refl _, rfl⟩
        · obtain ⟨h0, -⟩ := hs
          replace h0 : ρ (.tmp 31) = .pointer (some ⟨b, o + k * 3, none⟩) := h0
          have hc0 : W.cell? ⟨b, o + k * 3, none⟩ = some (.int .i64 (a)) := hF.cell (by assumption)
          go_simp
          exact ⟨Ext.refl _, rfl⟩
        · obtain ⟨h0, -⟩ := hs
          replace h0 : ρ (.tmp 0) = .slice (some ⟨b, o, none⟩) n ca := h0
          go_simp
          exact ⟨Ext.refl _, rfl⟩
        · obtain ⟨h0, -⟩ := hs
          replace h0 : ρ (.tmp 4) = .int .i64 ((k : Int)) := h0
          go_simp
          exact ⟨Ext.refl _, rfl⟩
        · obtain ⟨h0, h1, -⟩ := hs
          replace h0 : ρ (.tmp 33) = .slice (some ⟨b, o, none⟩) n ca := h0
          replace h1 : ρ (.tmp 34) = .int .i64 ((k : Int)) := h1
          have hb1 : (k : Int) < (n : Int) := by omega
          have hb3 : (0 : Int) ≤ (k : Int) := by omega
          have hb4 : ((k : Int)).toNat = k := by omega
          have hb8 : k < n := by omega
          go_simp
          exact ⟨Ext.refl _, rfl⟩
        · obtain ⟨h0, -⟩ := hs
          replace h0 : ρ (.tmp 35) = .pointer (some ⟨b, o + k * 3, none⟩) := h0
          go_simp
          exact ⟨Ext.refl _, rfl⟩
        · obtain ⟨h0, -⟩ := hs
          replace h0 : ρ (.tmp 36) = .pointer (some ⟨b, o + k * 3 + 1, none⟩) := h0
          go_simp
          exact ⟨Ext.refl _, rfl⟩
        · obtain ⟨h0, -⟩ := hs
          replace h0 : ρ (.tmp 37) = .pointer (some ⟨b, o + k * 3 + 1 + 1, none⟩) := h0
          have hc0 : W.cell? ⟨b, o + k * 3 + 1 + 1, none⟩ = some (.int .i64 (hi)) := hF.cell (by assumption)
          go_simp
          exact ⟨Ext.refl _, rfl⟩
        · obtain ⟨h0, h1, -⟩ := hs
          replace h0 : ρ (.tmp 32) = .int .i64 (a) := h0
          replace h1 : ρ (.tmp 38) = .int .i64 (hi) := h1
          have hw : IntKind.i64.wrap (a * hi) = a * hi := wrap_id _ (by omega) (by omega)
          go_simp
          exact ⟨Ext.refl _, rfl⟩
        · obtain ⟨h0, h1, -⟩ := hs
          replace h0 : ρ (.tmp 27) = .int .i64 (d.2) := h0
          replace h1 : ρ (.tmp 39) = .int .i64 (a * hi) := h1
          have hw : IntKind.i64.wrap (d.2 + a * hi) = d.2 + a * hi := wrap_id _ (by omega) (by omega)
          go_simp
          exact ⟨Ext.refl _, rfl⟩
        · obtain ⟨h0, h1, -⟩ := hs
          replace h0 : ρ (.tmp 25) = .int .i64 (d.1 + a * lo) := h0
          replace h1 : ρ (.tmp 40) = .int .i64 (d.2 + a * hi) := h1
          go_simp
          exact ⟨Ext.refl _, rfl⟩
      · intro fv V1 hF hs
        obtain ⟨-, -, -, -, -, -, -, -, -, -, -, -, -, -, -, -, -, -, -, -, -, -, -, -, -, -, -, -, -, -, h41, -⟩ := hs
        replace h41 : fv 41 = .agg #[.int .i64 (d.1 + a * lo), .int .i64 (d.2 + a * hi)] := h41
        simp only [fin, List.filterMap]
        go_simp
        replace X := Lib.hid (X.out.trans hF)
        replace K0 := Lib.hid (K0.out.ext hF)
        replace K1 := Lib.hid (K1.out.ext hF)
        clear hF c0 c1 c2 y1_0 y1_1 m1 m2 hbd ho
        have f0 := K1.out.free 0
        have f1 := K1.out.free 1
        have y1_0 : V1.cell? ⟨w.heap.size + 1, 0, none⟩ = some (.int .i64 d.1) := K1.out.cell 0
        have y1_1 : V1.cell? ⟨w.heap.size + 1, 1, none⟩ = some (.int .i64 d.2) := K1.out.cell 1
        go_wp2
        go_roundw
        case rel => exact ⟨k + 1, by omega, by go_num, Ext.set (Ext.set X.out (by dsimp only; omega) _) (by dsimp only; omega) _, (K0.out.setOther (by dsimp only; omega) _).setOther (by dsimp only; omega) _, by rw [HS.out]; exact (K1.out.setSame 0 _).setSame 1 _⟩
        case measure => simp [intOf]; omega
    · obtain rfl : k = n := by omega
      have hkn : ¬ (k : Int) < (k : Int) := by omega
      rw [← HV.out] at K1
      obtain ⟨g1, g2⟩ := gv
      dsimp only at K1
      have y1_0 : wr.cell? ⟨w.heap.size + 1, 0, none⟩ = some (.int .i64 g1) := K1.out.cell 0
      have y1_1 : wr.cell? ⟨w.heap.size + 1, 1, none⟩ = some (.int .i64 g2) := K1.out.cell 1
      have f0 := K0.out.free 0
      have f1 := K0.out.free 1
      have y0_0 : wr.cell? ⟨w.heap.size, 0, none⟩ = some (.int .i64 0) := K0.out.cell 0
      have y0_1 : wr.cell? ⟨w.heap.size, 1, none⟩ = some (.int .i64 0) := K0.out.cell 1
      go_wp2
      exact bodyPost_ret (v := .agg #[.int .i64 g1, .int .i64 g2]) (by simp [results, Try.f54, go_sem, y0_0, y0_1]) rfl ⟨rfl, Ext.set (Ext.set X.out (by dsimp only; omega) _) (by dsimp only; omega) _⟩



def Pw (b : Int) : Prop := b = 0 ∨ ∃ j : Nat, j ≤ 30 ∧ b = 2 ^ j
theorem Pw.half {b : Int} (h : Pw b) (h0 : 0 < b) : Pw (b / 2) ∧ ((b = 1 ∧ b / 2 = 0) ∨ (0 < b / 2 ∧ b = 2 * (b / 2))) := by
  rcases h with h | ⟨j, hj, rfl⟩
  · omega
  · cases j with
    | zero => exact ⟨Or.inl rfl, Or.inl ⟨rfl, rfl⟩⟩
    | succ j =>
      have h1 : (2 : Int) ^ (j + 1) = 2 * 2 ^ j := by rw [Int.pow_succ]; omega
      have h2 : 0 < (2 : Int) ^ j := Int.pow_pos (by decide)
      have h3 : (2 : Int) ^ (j + 1) / 2 = 2 ^ j := by rw [h1]; omega
      rw [h3]
      exact ⟨Or.inr ⟨j, by omega, rfl⟩, Or.inr ⟨h2, h1⟩⟩
theorem Pw.le {b : Int} (h : Pw b) : 0 ≤ b ∧ b ≤ 1073741824 := by
  rcases h with h | ⟨j, hj, rfl⟩
  · omega
  · have h1 := Nat.pow_le_pow_right (n := 2) (by decide) hj
    have h2 : ((2 ^ j : Nat) : Int) = (2 : Int) ^ j := by simp
    have h3 : (2 : Nat) ^ 30 = 1073741824 := by decide
    rw [← h2]
    rw [h3] at h1
    clear h2 h3
    generalize (2 : Nat) ^ j = p at *
    omega
/-- What the search for a root keeps. -/
def RootI (n r b : Int) : Prop := 0 ≤ r ∧ r * r ≤ n ∧ ((b = 0 ∧ n < (r + 1) * (r + 1)) ∨ (0 < b ∧ n < (r + 2 * b) * (r + 2 * b)))
theorem RootI.take {n r b : Int} (h : RootI n r b) (hp : Pw b) (h0 : 0 < b) (hs : (r + b) * (r + b) ≤ n) : RootI n (r + b) (b / 2) := by
  obtain ⟨h1, h2, h3⟩ := h
  refine ⟨by omega, hs, ?_⟩
  rcases h3 with ⟨h3, -⟩ | ⟨-, h3⟩
  · omega
  · rcases (hp.half h0).2 with ⟨a, c⟩ | ⟨a, c⟩
    · left
      subst a
      exact ⟨c, by rw [show r + 1 + 1 = r + 2 * 1 by omega]; exact h3⟩
    · right
      exact ⟨a, by rw [show r + b + 2 * (b / 2) = r + 2 * b by omega]; exact h3⟩
theorem RootI.leave {n r b : Int} (h : RootI n r b) (hp : Pw b) (h0 : 0 < b) (hs : ¬ (r + b) * (r + b) ≤ n) : RootI n r (b / 2) := by
  obtain ⟨h1, h2, h3⟩ := h
  refine ⟨h1, h2, ?_⟩
  rcases (hp.half h0).2 with ⟨a, c⟩ | ⟨a, c⟩
  · left
    subst a
    exact ⟨c, by omega⟩
  · right
    exact ⟨a, by rw [← c]; omega⟩
theorem root_lim {n r : Int} (hn : n ≤ 9000000000000) (h0 : 0 ≤ r) (h : r * r ≤ n) : r ≤ 3000000 := by
  rcases Int.lt_or_le 3000000 r with h1 | h1
  · have := Int.mul_le_mul (show (3000001 : Int) ≤ r by omega) (show (3000001 : Int) ≤ r by omega) (by decide) h0
    omega
  · exact h1
set_option maxRecDepth 100000 in
set_option maxHeartbeats 2000000 in
theorem root_any (n : Int) (hn : 0 ≤ n ∧ n ≤ 9000000000000) (w : World) :
    Calls Try.prog 106 #[.int .i64 n] w fun e w' => ∃ r, e = .returned (.int .i64 r) ∧ 0 ≤ r ∧ r ≤ 3000000 ∧ r * r ≤ n ∧ n < (r + 1) * (r + 1) ∧ w = w' := by
  have HN := Lib.hid hn
  clear hn
  go_enter Try.func106, Try.ntmps106
  go_wp2
  go_loopw [3, 4] (fun u v wr => ∃ r b : Int, u = .int .i64 r ∧ v = .int .i64 b ∧ RootI n r b ∧ Pw b ∧ Hid (w = wr)) (fun _ v _ => (intOf v).toNat)
  case atStart => exact ⟨0, 1073741824, rfl, rfl, ⟨by decide, by have := HN.out; omega, Or.inr ⟨by decide, by have := HN.out; omega⟩⟩, Or.inr ⟨30, by decide, by decide⟩, Lib.hid rfl⟩
  case round =>
    obtain ⟨r, b, rfl, rfl, hi, hp, hw⟩ := hrel
    obtain rfl := hw.out
    clear hw
    have I := Lib.hid hi
    have P := Lib.hid hp
    have hb := hp.le
    have hr0 := hi.1
    have hr1 := root_lim HN.out.2 hi.1 hi.2.1
    clear hi hp
    by_cases h0 : 0 < b
    · have hm := mul_bd (a := r + b) (b := r + b) (A := 1100000000) (B := 1100000000) (by omega) (by omega)
      have htd : b.tdiv 2 = b / 2 := Int.tdiv_eq_ediv_of_nonneg (by omega)
      have HT := Lib.hid (fun (hs : (r + b) * (r + b) ≤ n) => I.out.take P.out h0 hs)
      have HL := Lib.hid (fun (hs : ¬ (r + b) * (r + b) ≤ n) => I.out.leave P.out h0 hs)
      have HP := Lib.hid (P.out.half h0).1
      have hh : b / 2 < b ∧ 0 ≤ b / 2 := by omega
      replace hm : -1210000000000000000 ≤ (r + b) * (r + b) ∧ (r + b) * (r + b) ≤ 1210000000000000000 := by omega
      generalize b / 2 = c at *
      by_cases hs : (r + b) * (r + b) ≤ n
      · have HI := Lib.hid (HT.out hs)
        go_wp2
        go_roundw
        case rel => exact ⟨r + b, c, by go_num, by go_num, HI.out, HP.out, Lib.hid trivial⟩
        case measure => simp [intOf]; omega
      · have HI := Lib.hid (HL.out hs)
        go_wp2
        go_roundw
        case rel => exact ⟨r, c, by go_num, by go_num, HI.out, HP.out, Lib.hid trivial⟩
        case measure => simp [intOf]; omega
    · have HI := Lib.hid (show r * r ≤ n ∧ n < (r + 1) * (r + 1) from by
        obtain ⟨-, h2, h3⟩ := I.out
        rcases h3 with ⟨-, h3⟩ | ⟨h3, -⟩
        · exact ⟨h2, h3⟩
        · omega)
      go_wp2
      go_ret
      exact ⟨r, rfl, hr0, hr1, HI.out.1, HI.out.2, rfl⟩



theorem rootR_of {n r : Int} (hn : n ≤ 9000000000000) (h0 : 0 ≤ r) (h1 : r * r ≤ n) (h2 : n < (r + 1) * (r + 1)) : rootR n = (r, if r * r < n then r + 1 else r) := by
  obtain ⟨m, rfl⟩ : ∃ m : Nat, r = (m : Int) := ⟨r.toNat, by omega⟩
  have hlim := root_lim hn h0 h1
  by_cases h : (m : Int) * m < n
  · have hm : (m : Int) < 3000000 := by
      rcases Int.lt_or_le (m : Int) 3000000 with h3 | h3
      · exact h3
      · have := Int.mul_le_mul h3 h3 (by decide) h0
        omega
    have hu : upR n = m + 1 := upR_eq (by omega) (fun k hk => Int.lt_of_le_of_lt (sq_mono (by omega)) h) (by
      rw [Int.natCast_succ]
      exact Int.le_of_lt h2)
    unfold rootR
    rw [hu, if_pos h, Int.natCast_succ, if_pos h2]
    exact Prod.ext (by dsimp only; omega) rfl
  · have he : (m : Int) * m = n := by omega
    have hu : upR n = m := upR_eq (by omega) (fun k hk => by
      rw [← he]
      exact Int.lt_of_lt_of_le (show (k : Int) * k < (k : Int) * k + 2 * k + 1 by omega) (by
        have := sq_mono (a := k + 1) (b := m) (by omega)
        rw [Int.natCast_succ] at this
        have e : ((k : Int) + 1) * ((k : Int) + 1) = (k : Int) * k + 2 * k + 1 := by grind
        omega)) (by omega)
    unfold rootR
    rw [hu, if_neg h, if_neg (by omega)]
set_option maxRecDepth 100000 in
set_option maxHeartbeats 2000000 in
theorem roots_any (n : Int) (hn : 0 ≤ n ∧ n ≤ 9000000000000) (w : World) :
    Calls Try.prog 106 #[.int .i64 n] w fun e w' => e = .returned (.int .i64 (rootR n).1) ∧ w = w' := by
  refine (root_any n hn w).mono ?_
  rintro e w' ⟨r, rfl, h0, h1, h2, h3, h4⟩
  rw [rootR_of hn.2 h0 h2 h3]
  exact ⟨rfl, h4⟩
set_option maxRecDepth 100000 in
set_option maxHeartbeats 2000000 in
theorem rootUp_any (n : Int) (hn : 0 ≤ n ∧ n ≤ 9000000000000) (w : World) :
    Calls Try.prog 107 #[.int .i64 n] w fun e w' => e = .returned (.int .i64 (rootR n).2) ∧ w = w' := by
  have HR := Lib.hid (fun W => root_any n hn W)
  have HE := Lib.hid (fun r (h0 : 0 ≤ r) (h1 : r * r ≤ n) (h2 : n < (r + 1) * (r + 1)) => congrArg Prod.snd (rootR_of hn.2 h0 h1 h2))
  generalize rootR n = z at *
  clear hn
  go_enter Try.func107, Try.ntmps107
  go_wp2_with (go_at_call 106; refine (HR.out _).mono ?_; rintro e w' ⟨r, rfl, h0, h1, h2, h3, rfl⟩; have HV := Lib.hid (HE.out r h0 h2 h3); have hrr := sq_nn r; have hr9 := Lib.hid h2; clear h3; refine Hid.out ?_)
  refine Lib.hid ?_
  have hm := mul_bd (a := r) (b := r) (A := 3000000) (B := 3000000) (by omega) (by omega)
  replace hm : -9000000000000 ≤ r * r ∧ r * r ≤ 9000000000000 := by omega
  by_cases h : r * r < n
  · have HV2 := Lib.hid (HV.out.trans (if_pos h))
    go_wp2
    go_ret
    exact ⟨by rw [HV2.out]; try rfl, rfl⟩
  · have HV2 := Lib.hid (HV.out.trans (if_neg h))
    go_wp2
    go_ret
    exact ⟨by rw [HV2.out]; try rfl, rfl⟩



set_option maxRecDepth 100000 in
set_option maxHeartbeats 4000000 in
theorem refRunOut_any (r0 r1 r2 r3 : Int) (hz : readE r0 r1 r2 r3 = 0) (w : World) :
    Calls Try.prog 56 #[.agg #[.int .i64 r0, .int .i64 r1, .int .i64 r2, .int .i64 r3]] w fun e w' => e = .returned (.agg #[.int .i64 (r0 - r2), .int .i64 (r1 - r3), .int .i64 (r0 + r2 - r1 - r3), .int .i64 (rootR ((r0 - r2) * (r0 - r2) + (r1 - r3) * (r1 - r3))).1, .int .i64 (rootR ((r0 - r2) * (r0 - r2) + (r1 - r3) * (r1 - r3))).2]) ∧ Ext w w' := by
  have HR := Lib.hid (show (-1000000 ≤ r0 ∧ r0 ≤ 1000000) ∧ (-1000000 ≤ r1 ∧ r1 ≤ 1000000) ∧ (-1000000 ≤ r2 ∧ r2 ≤ 1000000) ∧ (-1000000 ≤ r3 ∧ r3 ≤ 1000000) from ⟨rangeE_zeros hz r0 (by simp), rangeE_zeros hz r1 (by simp), rangeE_zeros hz r2 (by simp), rangeE_zeros hz r3 (by simp)⟩)
  have hx2 := sq_nn (r0 - r2)
  have hy2 := sq_nn (r1 - r3)
  have hx3 := mul_bd (a := r0 - r2) (b := r0 - r2) (A := 2000000) (B := 2000000) (by have := HR.out; omega) (by have := HR.out; omega)
  have hy3 := mul_bd (a := r1 - r3) (b := r1 - r3) (A := 2000000) (B := 2000000) (by have := HR.out; omega) (by have := HR.out; omega)
  have HR1 := Lib.hid (fun W => roots_any ((r0 - r2) * (r0 - r2) + (r1 - r3) * (r1 - r3)) (by omega) W)
  have HR2 := Lib.hid (fun W => rootUp_any ((r0 - r2) * (r0 - r2) + (r1 - r3) * (r1 - r3)) (by omega) W)
  generalize rootR ((r0 - r2) * (r0 - r2) + (r1 - r3) * (r1 - r3)) = ro at *
  have hx4 : 0 ≤ (r0 - r2) * (r0 - r2) ∧ (r0 - r2) * (r0 - r2) ≤ 4000000000000 := by omega
  have hy4 : 0 ≤ (r1 - r3) * (r1 - r3) ∧ (r1 - r3) * (r1 - r3) ≤ 4000000000000 := by omega
  clear hx2 hy2 hx3 hy3 hz
  obtain ⟨W0, hW0⟩ : ∃ W0, W0 = (w.alloc (.cells #[.int .i64 r0, .int .i64 r1, .int .i64 r2, .int .i64 r3] 87)).alloc (.cells #[.int .i64 0, .int .i64 0, .int .i64 0, .int .i64 0, .int .i64 0] 91) := ⟨_, rfl⟩
  have K0 := Lib.hid (show Blk W0 (w.heap.size) 87 #[.int .i64 r0, .int .i64 r1, .int .i64 r2, .int .i64 r3] by rw [hW0]; exact (Blk.new _ _ _).alloc _)
  have K1 := Lib.hid (show Blk W0 (w.heap.size + 1) 91 #[.int .i64 0, .int .i64 0, .int .i64 0, .int .i64 0, .int .i64 0] by rw [hW0]; exact Blk.newAt _ _ _ (by simp))
  have E0 := Lib.hid (show Ext w W0 by rw [hW0]; exact (Ext.alloc _ _).trans (Ext.alloc _ _))
  have y0_0 : W0.cell? ⟨w.heap.size, 0, none⟩ = some (.int .i64 r0) := K0.out.cell 0
  have y0_1 : W0.cell? ⟨w.heap.size, 1, none⟩ = some (.int .i64 r1) := K0.out.cell 1
  have y0_2 : W0.cell? ⟨w.heap.size, 2, none⟩ = some (.int .i64 r2) := K0.out.cell 2
  have y0_3 : W0.cell? ⟨w.heap.size, 3, none⟩ = some (.int .i64 r3) := K0.out.cell 3
  have y1_0 : W0.cell? ⟨w.heap.size + 1, 0, none⟩ = some (.int .i64 0) := K1.out.cell 0
  have y1_1 : W0.cell? ⟨w.heap.size + 1, 1, none⟩ = some (.int .i64 0) := K1.out.cell 1
  have y1_2 : W0.cell? ⟨w.heap.size + 1, 2, none⟩ = some (.int .i64 0) := K1.out.cell 2
  have y1_3 : W0.cell? ⟨w.heap.size + 1, 3, none⟩ = some (.int .i64 0) := K1.out.cell 3
  have y1_4 : W0.cell? ⟨w.heap.size + 1, 4, none⟩ = some (.int .i64 0) := K1.out.cell 4
  go_enter Try.func56, Try.ntmps56
  go_upto_region 1 with (fail)
  rw [← hW0]
  clear hW0
  refine wp_region_each [some 6, some 7, some 8, some 9, some 10, some 11, some 12, some 13, some 14, some 15, some 3, some 4] [[1], [6], [1], [8], [7, 9], [1], [11], [1], [13], [12, 14], [10], [15]]
    [Is (.pointer (some ⟨w.heap.size, 0, none⟩)), Is (.int .i64 (r0)), Is (.pointer (some ⟨w.heap.size, 2, none⟩)), Is (.int .i64 (r2)), Is (.int .i64 (r0 - r2)), Is (.pointer (some ⟨w.heap.size, 1, none⟩)), Is (.int .i64 (r1)), Is (.pointer (some ⟨w.heap.size, 3, none⟩)), Is (.int .i64 (r3)), Is (.int .i64 (r1 - r3)), Is (.int .i64 (r0 - r2)), Is (.int .i64 (r1 - r3))]
    (by kernel_rfl) (by kernel_rfl) (by kernel_rfl) (by kernel_rfl) (by kernel_rfl) Ext (fun W => Ext W0 W)
    (fun W _ => Ext.refl W) (fun W W' h k => h.trans k) ?_ (Ext.drew _) ?_ ?_
  · repeat (refine ⟨fun _ _ _ _ k h => (by first | exact h | exact (IntsAt.ext h k)), ?_⟩)
    exact trivial
  · refine ⟨?_, ?_, ?_, ?_, ?_, ?_, ?_, ?_, ?_, ?_, ?_, ?_, trivial⟩
    all_goals intro ρ W ⟨kc, kg, kf⟩ hF hs
    · obtain ⟨h0, -⟩ := hs
      replace h0 : ρ (.tmp 1) = .pointer (some ⟨w.heap.size, 0, none⟩) := h0
      go_simp
      exact ⟨Ext.refl _, rfl⟩
    · obtain ⟨h0, -⟩ := hs
      replace h0 : ρ (.tmp 6) = .pointer (some ⟨w.heap.size, 0, none⟩) := h0
      have hc0 : W.cell? ⟨w.heap.size, 0, none⟩ = some (.int .i64 (r0)) := hF.cell (by assumption)
      go_simp
      exact ⟨Ext.refl _, rfl⟩
    · obtain ⟨h0, -⟩ := hs
      replace h0 : ρ (.tmp 1) = .pointer (some ⟨w.heap.size, 0, none⟩) := h0
      go_simp
      exact ⟨Ext.refl _, rfl⟩
    · obtain ⟨h0, -⟩ := hs
      replace h0 : ρ (.tmp 8) = .pointer (some ⟨w.heap.size, 2, none⟩) := h0
      have hc0 : W.cell? ⟨w.heap.size, 2, none⟩ = some (.int .i64 (r2)) := hF.cell (by assumption)
      go_simp
      exact ⟨Ext.refl _, rfl⟩
    · obtain ⟨h0, h1, -⟩ := hs
      replace h0 : ρ (.tmp 7) = .int .i64 (r0) := h0
      replace h1 : ρ (.tmp 9) = .int .i64 (r2) := h1
      have hw : IntKind.i64.wrap (r0 - r2) = r0 - r2 := wrap_id _ (by have := HR.out; omega) (by have := HR.out; omega)
      go_simp
      exact ⟨Ext.refl _, rfl⟩
    · obtain ⟨h0, -⟩ := hs
      replace h0 : ρ (.tmp 1) = .pointer (some ⟨w.heap.size, 0, none⟩) := h0
      go_simp
      exact ⟨Ext.refl _, rfl⟩
    · obtain ⟨h0, -⟩ := hs
      replace h0 : ρ (.tmp 11) = .pointer (some ⟨w.heap.size, 1, none⟩) := h0
      have hc0 : W.cell? ⟨w.heap.size, 1, none⟩ = some (.int .i64 (r1)) := hF.cell (by assumption)
      go_simp
      exact ⟨Ext.refl _, rfl⟩
    · obtain ⟨h0, -⟩ := hs
      replace h0 : ρ (.tmp 1) = .pointer (some ⟨w.heap.size, 0, none⟩) := h0
      go_simp
      exact ⟨Ext.refl _, rfl⟩
    · obtain ⟨h0, -⟩ := hs
      replace h0 : ρ (.tmp 13) = .pointer (some ⟨w.heap.size, 3, none⟩) := h0
      have hc0 : W.cell? ⟨w.heap.size, 3, none⟩ = some (.int .i64 (r3)) := hF.cell (by assumption)
      go_simp
      exact ⟨Ext.refl _, rfl⟩
    · obtain ⟨h0, h1, -⟩ := hs
      replace h0 : ρ (.tmp 12) = .int .i64 (r1) := h0
      replace h1 : ρ (.tmp 14) = .int .i64 (r3) := h1
      have hw : IntKind.i64.wrap (r1 - r3) = r1 - r3 := wrap_id _ (by have := HR.out; omega) (by have := HR.out; omega)
      go_simp
      exact ⟨Ext.refl _, rfl⟩
    · obtain ⟨h0, -⟩ := hs
      replace h0 : ρ (.tmp 10) = .int .i64 (r0 - r2) := h0
      go_simp
      exact ⟨Ext.refl _, rfl⟩
    · obtain ⟨h0, -⟩ := hs
      replace h0 : ρ (.tmp 15) = .int .i64 (r1 - r3) := h0
      go_simp
      exact ⟨Ext.refl _, rfl⟩
  · intro fv W1 hF hs
    obtain ⟨-, -, -, -, -, -, -, -, -, -, h3, h4, -⟩ := hs
    replace h3 : fv 3 = .int .i64 (r0 - r2) := h3
    replace h4 : fv 4 = .int .i64 (r1 - r3) := h4
    simp only [fin, List.filterMap]
    go_simp
    have X := Lib.hid (E0.out.trans hF)
    replace K0 := Lib.hid (K0.out.ext hF)
    replace K1 := Lib.hid (K1.out.ext hF)
    clear hF y0_0 y0_1 y0_2 y0_3 y1_0 y1_1 y1_2 y1_3 y1_4 E0
    obtain ⟨W2, hW2⟩ : ∃ W, W = W1 := ⟨_, rfl⟩
    rw [← hW2] at X K0 K1 ⊢
    clear hW2
    generalize hxe : r0 - r2 = x at *
    generalize hye : r1 - r3 = y at *
    have HXE := Lib.hid hxe
    have HYE := Lib.hid hye
    clear hxe hye
    go_upto_region 3 with (fail)
    generalize x * x + y * y = q at *
    have y0_0 : W2.cell? ⟨w.heap.size, 0, none⟩ = some (.int .i64 r0) := K0.out.cell 0
    have y0_1 : W2.cell? ⟨w.heap.size, 1, none⟩ = some (.int .i64 r1) := K0.out.cell 1
    have y0_2 : W2.cell? ⟨w.heap.size, 2, none⟩ = some (.int .i64 r2) := K0.out.cell 2
    have y0_3 : W2.cell? ⟨w.heap.size, 3, none⟩ = some (.int .i64 r3) := K0.out.cell 3
    refine wp_region_partR 19 [some 23, some 24, some 25, some 26, some 27, some 28, some 29, some 30, some 31, some 32, some 33, some 34, some 35, some 36, some 37, some 38, some 39, some 40, some 41] [[3], [4], [1], [25], [1], [27], [26, 28], [1], [30], [29, 31], [1], [33], [32, 34], [5], [36], [5], [38], [37, 39], [23, 24, 35, 40]]
      [Is (.int .i64 (x)), Is (.int .i64 (y)), Is (.pointer (some ⟨w.heap.size, 0, none⟩)), Is (.int .i64 (r0)), Is (.pointer (some ⟨w.heap.size, 2, none⟩)), Is (.int .i64 (r2)), Is (.int .i64 (r0 + r2)), Is (.pointer (some ⟨w.heap.size, 1, none⟩)), Is (.int .i64 (r1)), Is (.int .i64 (r0 + r2 - r1)), Is (.pointer (some ⟨w.heap.size, 3, none⟩)), Is (.int .i64 (r3)), Is (.int .i64 (r0 + r2 - r1 - r3)), Is (.int .i64 (q)), Is (.int .i64 (ro.1)), Is (.int .i64 (q)), Is (.int .i64 (ro.2)), Is (.agg #[.int .i64 ro.1, .int .i64 ro.2]), Is (.agg #[.int .i64 x, .int .i64 y, .int .i64 (r0 + r2 - r1 - r3), .int .i64 ro.1, .int .i64 ro.2])]
      (by kernel_rfl) (by kernel_rfl) (by kernel_rfl) (by kernel_rfl) (by kernel_rfl) (by kernel_rfl) (by kernel_rfl) Ext (fun W => Ext W2 W)
      (fun W _ => Ext.refl W) (fun W W' h k => h.trans k) ?_ (Ext.drew _) ?_ ?_
    · repeat (refine ⟨fun _ _ _ _ k h => (by first | exact h | exact (IntsAt.ext h k)), ?_⟩)
      exact trivial
    · refine ⟨?_, ?_, ?_, ?_, ?_, ?_, ?_, ?_, ?_, ?_, ?_, ?_, ?_, ?_, ?_, ?_, ?_, ?_, ?_, trivial⟩
      all_goals intro ρ W ⟨kc, kg, kf⟩ hF hs
      · obtain ⟨h0, -⟩ := hs
        replace h0 : ρ (.tmp 3) = .int .i64 (x) := h0
        go_simp
        exact ⟨Ext.refl _, rfl⟩
      · obtain ⟨h0, -⟩ := hs
        replace h0 : ρ (.tmp 4) = .int .i64 (y) := h0
        go_simp
        exact ⟨Ext.refl _, rfl⟩
      · obtain ⟨h0, -⟩ := hs
        replace h0 : ρ (.tmp 1) = .pointer (some ⟨w.heap.size, 0, none⟩) := h0
        go_simp
        exact ⟨Ext.refl _, rfl⟩
      · obtain ⟨h0, -⟩ := hs
        replace h0 : ρ (.tmp 25) = .pointer (some ⟨w.heap.size, 0, none⟩) := h0
        have hc0 : W.cell? ⟨w.heap.size, 0, none⟩ = some (.int .i64 (r0)) := hF.cell (by assumption)
        go_simp
        exact ⟨Ext.refl _, rfl⟩
      · obtain ⟨h0, -⟩ := hs
        replace h0 : ρ (.tmp 1) = .pointer (some ⟨w.heap.size, 0, none⟩) := h0
        go_simp
        exact ⟨Ext.refl _, rfl⟩
      · obtain ⟨h0, -⟩ := hs
        replace h0 : ρ (.tmp 27) = .pointer (some ⟨w.heap.size, 2, none⟩) := h0
        have hc0 : W.cell? ⟨w.heap.size, 2, none⟩ = some (.int .i64 (r2)) := hF.cell (by assumption)
        go_simp
        exact ⟨Ext.refl _, rfl⟩
      · obtain ⟨h0, h1, -⟩ := hs
        replace h0 : ρ (.tmp 26) = .int .i64 (r0) := h0
        replace h1 : ρ (.tmp 28) = .int .i64 (r2) := h1
        have hw : IntKind.i64.wrap (r0 + r2) = r0 + r2 := wrap_id _ (by have := HR.out; omega) (by have := HR.out; omega)
        go_simp
        exact ⟨Ext.refl _, rfl⟩
      · obtain ⟨h0, -⟩ := hs
        replace h0 : ρ (.tmp 1) = .pointer (some ⟨w.heap.size, 0, none⟩) := h0
        go_simp
        exact ⟨Ext.refl _, rfl⟩
      · obtain ⟨h0, -⟩ := hs
        replace h0 : ρ (.tmp 30) = .pointer (some ⟨w.heap.size, 1, none⟩) := h0
        have hc0 : W.cell? ⟨w.heap.size, 1, none⟩ = some (.int .i64 (r1)) := hF.cell (by assumption)
        go_simp
        exact ⟨Ext.refl _, rfl⟩
      · obtain ⟨h0, h1, -⟩ := hs
        replace h0 : ρ (.tmp 29) = .int .i64 (r0 + r2) := h0
        replace h1 : ρ (.tmp 31) = .int .i64 (r1) := h1
        have hw : IntKind.i64.wrap (r0 + r2 - r1) = r0 + r2 - r1 := wrap_id _ (by have := HR.out; omega) (by have := HR.out; omega)
        go_simp
        exact ⟨Ext.refl _, rfl⟩
      · obtain ⟨h0, -⟩ := hs
        replace h0 : ρ (.tmp 1) = .pointer (some ⟨w.heap.size, 0, none⟩) := h0
        go_simp
        exact ⟨Ext.refl _, rfl⟩
      · obtain ⟨h0, -⟩ := hs
        replace h0 : ρ (.tmp 33) = .pointer (some ⟨w.heap.size, 3, none⟩) := h0
        have hc0 : W.cell? ⟨w.heap.size, 3, none⟩ = some (.int .i64 (r3)) := hF.cell (by assumption)
        go_simp
        exact ⟨Ext.refl _, rfl⟩
      · obtain ⟨h0, h1, -⟩ := hs
        replace h0 : ρ (.tmp 32) = .int .i64 (r0 + r2 - r1) := h0
        replace h1 : ρ (.tmp 34) = .int .i64 (r3) := h1
        have hw : IntKind.i64.wrap (r0 + r2 - r1 - r3) = r0 + r2 - r1 - r3 := wrap_id _ (by have := HR.out; omega) (by have := HR.out; omega)
        go_simp
        exact ⟨Ext.refl _, rfl⟩
      · obtain ⟨h0, -⟩ := hs
        replace h0 : ρ (.tmp 5) = .int .i64 (q) := h0
        go_simp
        exact ⟨Ext.refl _, rfl⟩
      · obtain ⟨h0, -⟩ := hs
        replace h0 : ρ (.tmp 36) = .int .i64 (q) := h0
        go_simp
        refine (HR1.out _).mono ?_; rintro e w' ⟨rfl, rfl⟩; exact ⟨_, rfl, Ext.refl _, rfl⟩
      · obtain ⟨h0, -⟩ := hs
        replace h0 : ρ (.tmp 5) = .int .i64 (q) := h0
        go_simp
        exact ⟨Ext.refl _, rfl⟩
      · obtain ⟨h0, -⟩ := hs
        replace h0 : ρ (.tmp 38) = .int .i64 (q) := h0
        go_simp
        refine (HR2.out _).mono ?_; rintro e w' ⟨rfl, rfl⟩; exact ⟨_, rfl, Ext.refl _, rfl⟩
      · obtain ⟨h0, h1, -⟩ := hs
        replace h0 : ρ (.tmp 37) = .int .i64 (ro.1) := h0
        replace h1 : ρ (.tmp 39) = .int .i64 (ro.2) := h1
        go_simp
        exact ⟨Ext.refl _, rfl⟩
      · obtain ⟨h0, h1, h2, h3, -⟩ := hs
        replace h0 : ρ (.tmp 23) = .int .i64 (x) := h0
        replace h1 : ρ (.tmp 24) = .int .i64 (y) := h1
        replace h2 : ρ (.tmp 35) = .int .i64 (r0 + r2 - r1 - r3) := h2
        replace h3 : ρ (.tmp 40) = .agg #[.int .i64 ro.1, .int .i64 ro.2] := h3
        go_simp
        exact ⟨Ext.refl _, rfl⟩
    · intro fv W3 hF hs
      obtain ⟨-, -, -, -, -, -, -, -, -, -, -, -, -, -, -, -, -, -, h41, -⟩ := hs
      replace h41 : fv 41 = .agg #[.int .i64 x, .int .i64 y, .int .i64 (r0 + r2 - r1 - r3), .int .i64 ro.1, .int .i64 ro.2] := h41
      simp only [fin, List.filterMap]
      go_simp
      replace X := Lib.hid (X.out.trans hF)
      replace K1 := Lib.hid (K1.out.ext hF)
      clear hF
      have f0 := K1.out.free 0
      have f1 := K1.out.free 1
      have f2 := K1.out.free 2
      have f3 := K1.out.free 3
      have f4 := K1.out.free 4
      have u0 : W3.cell? ⟨w.heap.size + 1, 0, none⟩ = some (.int .i64 0) := K1.out.cell 0
      have u1 : W3.cell? ⟨w.heap.size + 1, 1, none⟩ = some (.int .i64 0) := K1.out.cell 1
      have u2 : W3.cell? ⟨w.heap.size + 1, 2, none⟩ = some (.int .i64 0) := K1.out.cell 2
      have u3 : W3.cell? ⟨w.heap.size + 1, 3, none⟩ = some (.int .i64 0) := K1.out.cell 3
      have u4 : W3.cell? ⟨w.heap.size + 1, 4, none⟩ = some (.int .i64 0) := K1.out.cell 4
      clear y0_0 y0_1 y0_2 y0_3
      go_wp2
      exact bodyPost_ret (v := .agg #[.int .i64 x, .int .i64 y, .int .i64 (r0 + r2 - r1 - r3), .int .i64 ro.1, .int .i64 ro.2]) (by simp [results, Try.f56, go_sem, u0, u1, u2, u3, u4]) rfl ⟨by rw [HXE.out, HYE.out], Ext.set (Ext.set (Ext.set (Ext.set (Ext.set X.out (by dsimp only; omega) _) (by dsimp only; omega) _) (by dsimp only; omega) _) (by dsimp only; omega) _) (by dsimp only; omega) _⟩

end Go.Proofs.Ytjdilmmpdlcimaa
