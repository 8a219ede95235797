/- The reference of plans. CheckPlan. -/
import Derived.Test.YtjdilmmpdlcimaaGreatFA
import Derived.Test.YtjdilmmpdlcimaaGreatF5
import Derived.Test.YtjdilmmpdlcimaaGreatC8
import Derived.Lib.MinMax
import Derived.Deep.DeepCutAuto
import Derived.BigQuiet

namespace Go.Proofs.YtjdilmmpdlcimaaGreat
open Go.RowKit Go.Shelf Go.Mem Go.RegInv
attribute [local go_sem] RelUpon_value RelUpon_skip RelUpon_enter BigFrame.eval_const BigFrame.eval_global BigFrame.eval_func


def planE (L : Int) (js : List Int) (ks : List Rg) (am : List Int) (sp ga li t : Int) (l : List Sk) : Int := if strokesE js.length am li l ≠ 0 then strokesE js.length am li l else if tolE t ≠ 0 then tolE t else proofE ga sp t L js ks l
def cplE (L : Int) (js : List Int) (ks : List Rg) (am : List Int) (sp ga li t : Int) (l : List Sk) : Int := if (checkS L js ks).2 ≠ 0 then (checkS L js ks).2 else if (checkP am sp ga li).2 ≠ 0 then (checkP am sp ga li).2 else planE L js ks am sp ga li t l
theorem strokesE_ok {n : Nat} {am : List Int} {li : Int} {l : List Sk} (h : strokesE n am li l = 0) : PlOK n am l := by
  by_cases h4 : 4 < l.length
  · rw [strokesE_many h4] at h; cases h
  · rw [strokesE_few h4] at h
    by_cases hz : (firstAt (strokeAt n am l) l.length 0).2 = 0
    · exact ⟨by omega, fun k hk => strokeE_ok (firstAt_zero hz k (by omega) (by omega))⟩
    · rw [if_pos hz] at h; exact absurd h hz
set_option maxRecDepth 100000 in
set_option maxHeartbeats 1000000 in
theorem refPlanErr_any {L : Int} {J K : Option Addr} {n cj ck : Nat} {js : List Int} {ks : List Rg} {w : World} (hn : js.length = n) (hJ : RowsAt 1 I1 w J js) (hm : ks.length = n) (hK : RowsAt 2 Rg.enc w K ks) {P : Option Addr} {np cp : Nat} {am : List Int} {sp ga li : Int} (hnp : am.length = np) (hP : RowsAt 1 I1 w P am) {A : Option Addr} {N ca : Nat} {l : List Sk} {t : Int} (hN : l.length = N) (hA : RowsAt 3 Sk.enc w A l) (hjn : J = none → cj = 0) (hkn : K = none → ck = 0) (hs : ShOK L js ks) (hp : PrOK am sp ga li) :
    Calls Tryz.prog 59 #[.agg #[.int .i64 L, .slice J n cj, .slice K n ck], .agg #[.slice P np cp, .int .i64 sp, .int .i64 ga, .int .i64 li], .agg #[.slice A N ca, .int .i64 t]] w fun e w' => e = .returned (.int .i64 (planE L js ks am sp ga li t l)) ∧ Ext w w' := by
  have HSE := Lib.hid (fun W (e : Ext w W) => refStrokesErr_any (L := L) (J := J) (K := K) (n := n) (m := n) (cj := cj) (ck := ck) (cp := cp) (sp := sp) (ga := ga) (li := li) (ca := ca) hnp (hP.ext e) (by have := hs.four; omega) hp.am1 hN (hA.ext e))
  have HAF := Lib.hid (fun (hz : strokesE n am li l = 0) W (e : Ext w W) => refAfter_any (cj := cj) (ck := ck) (P := P) (np := np) (cp := cp) (am := am) (sp := sp) (ga := ga) (li := li) (ca := ca) hn (hJ.ext e) hm (hK.ext e) hjn hkn hs hp hN (hA.ext e) (strokesE_ok hz))
  have HST := Lib.hid (fun (ht : tolE t = 0) (hz : aftE ga sp l ks n = 0) W J' cj' K' ck' (h1 : RowsAt 1 I1 W J' js) (h2 : RowsAt 2 Rg.enc W K' (aftK ga sp l ks n)) => refStraight_any (J := J') (K := K') (cj := cj') (ck := ck') (t := t) hn h1 (show (aftK ga sp l ks n).length = n by simp [aftK, kinkL]) h2 (by have := aftK_ok (ga := ga) (sp := sp) (l := l) hs (by rw [hn]; exact hz); rw [hn] at this; exact this) (rangeE_zeros ht t (by simp)))
  have HV := Lib.hid (show planE L js ks am sp ga li t l = if strokesE n am li l ≠ 0 then strokesE n am li l else if tolE t ≠ 0 then tolE t else if aftE ga sp l ks n ≠ 0 then aftE ga sp l ks n else errIf (straightV t L js (aftK ga sp l ks n) != 2) 19 by rw [← hn]; rfl)
  generalize planE L js ks am sp ga li t l = pv at *
  generalize hsv : straightV t L js (aftK ga sp l ks n) = sv at *
  generalize aftK ga sp l ks n = ak at *
  generalize aftE ga sp l ks n = ae at *
  generalize strokesE n am li l = se at *
  clear hn hJ hm hK hnp hP hN hA hjn hkn hs hp
  obtain ⟨W0, hW0⟩ : ∃ W0, W0 = ((w.alloc (.cells #[.int .i64 L, .slice J n cj, .slice K n ck] 25)).alloc (.cells #[.slice P np cp, .int .i64 sp, .int .i64 ga, .int .i64 li] 27)).alloc (.cells #[.slice A N ca, .int .i64 t] 90) := ⟨_, rfl⟩
  have K0 := Lib.hid (show Blk W0 (w.heap.size) 25 #[.int .i64 L, .slice J n cj, .slice K n ck] by rw [hW0]; exact ((Blk.new _ _ _).alloc _).alloc _)
  have K1 := Lib.hid (show Blk W0 (w.heap.size + 1) 27 #[.slice P np cp, .int .i64 sp, .int .i64 ga, .int .i64 li] by rw [hW0]; exact (Blk.newAt _ _ _ (by simp)).alloc _)
  have K2 := Lib.hid (show Blk W0 (w.heap.size + 1 + 1) 90 #[.slice A N ca, .int .i64 t] by rw [hW0]; exact Blk.newAt _ _ _ (by simp))
  have E0 := Lib.hid (show Ext w W0 by rw [hW0]; exact ((Ext.alloc _ _).trans (Ext.alloc _ _)).trans (Ext.alloc _ _))
  have y0_0 : W0.cell? ⟨w.heap.size, 0, none⟩ = some (.int .i64 L) := K0.out.cell 0
  have y0_1 : W0.cell? ⟨w.heap.size, 1, none⟩ = some (.slice J n cj) := K0.out.cell 1
  have y0_2 : W0.cell? ⟨w.heap.size, 2, none⟩ = some (.slice K n ck) := K0.out.cell 2
  have y1_0 : W0.cell? ⟨w.heap.size + 1, 0, none⟩ = some (.slice P np cp) := K1.out.cell 0
  have y1_1 : W0.cell? ⟨w.heap.size + 1, 1, none⟩ = some (.int .i64 sp) := K1.out.cell 1
  have y1_2 : W0.cell? ⟨w.heap.size + 1, 2, none⟩ = some (.int .i64 ga) := K1.out.cell 2
  have y1_3 : W0.cell? ⟨w.heap.size + 1, 3, none⟩ = some (.int .i64 li) := K1.out.cell 3
  have y2_0 : W0.cell? ⟨w.heap.size + 1 + 1, 0, none⟩ = some (.slice A N ca) := K2.out.cell 0
  have y2_1 : W0.cell? ⟨w.heap.size + 1 + 1, 1, none⟩ = some (.int .i64 t) := K2.out.cell 1
  go_enter Tryz.func59, Tryz.ntmps59
  go_upto_region 1 with (fail)
  rw [← hW0]
  clear hW0
  go_wp2_with (go_at_call 61; refine (HSE.out _ E0.out).mono ?_; rintro e W1 ⟨rfl, hx⟩; have X := Lib.hid (E0.out.trans hx); replace K0 := Lib.hid (K0.out.ext hx); replace K1 := Lib.hid (K1.out.ext hx); replace K2 := Lib.hid (K2.out.ext hx); clear hx y0_0 y0_1 y0_2 y1_0 y1_1 y1_2 y1_3 y2_0 y2_1 E0; refine Hid.out ?_)
  refine Lib.hid ?_
  have y0_0 : W1.cell? ⟨w.heap.size, 0, none⟩ = some (.int .i64 L) := K0.out.cell 0
  have y0_1 : W1.cell? ⟨w.heap.size, 1, none⟩ = some (.slice J n cj) := K0.out.cell 1
  have y0_2 : W1.cell? ⟨w.heap.size, 2, none⟩ = some (.slice K n ck) := K0.out.cell 2
  have y1_0 : W1.cell? ⟨w.heap.size + 1, 0, none⟩ = some (.slice P np cp) := K1.out.cell 0
  have y1_1 : W1.cell? ⟨w.heap.size + 1, 1, none⟩ = some (.int .i64 sp) := K1.out.cell 1
  have y1_2 : W1.cell? ⟨w.heap.size + 1, 2, none⟩ = some (.int .i64 ga) := K1.out.cell 2
  have y1_3 : W1.cell? ⟨w.heap.size + 1, 3, none⟩ = some (.int .i64 li) := K1.out.cell 3
  have y2_0 : W1.cell? ⟨w.heap.size + 1 + 1, 0, none⟩ = some (.slice A N ca) := K2.out.cell 0
  have y2_1 : W1.cell? ⟨w.heap.size + 1 + 1, 1, none⟩ = some (.int .i64 t) := K2.out.cell 1
  by_cases hz : se = 0
  · have hz2 : (se != 0) = false := by simp [hz]
    replace HV := Lib.hid (HV.out.trans (by rw [if_neg (by simpa using hz)]))
    replace HAF := Lib.hid (fun W (e : Ext w W) => HAF.out hz W e)
    clear hz HSE
    go_wp2_with (go_at_call 13; refine (refTolE_any _ _).mono ?_; rintro e W2 ⟨rfl, hx⟩; replace X := Lib.hid (X.out.trans hx); replace K0 := Lib.hid (K0.out.ext hx); replace K1 := Lib.hid (K1.out.ext hx); replace K2 := Lib.hid (K2.out.ext hx); clear hx y0_0 y0_1 y0_2 y1_0 y1_1 y1_2 y1_3 y2_0 y2_1; refine Hid.out ?_)
    refine Lib.hid ?_
    have y0_0 : W2.cell? ⟨w.heap.size, 0, none⟩ = some (.int .i64 L) := K0.out.cell 0
    have y0_1 : W2.cell? ⟨w.heap.size, 1, none⟩ = some (.slice J n cj) := K0.out.cell 1
    have y0_2 : W2.cell? ⟨w.heap.size, 2, none⟩ = some (.slice K n ck) := K0.out.cell 2
    have y1_0 : W2.cell? ⟨w.heap.size + 1, 0, none⟩ = some (.slice P np cp) := K1.out.cell 0
    have y1_1 : W2.cell? ⟨w.heap.size + 1, 1, none⟩ = some (.int .i64 sp) := K1.out.cell 1
    have y1_2 : W2.cell? ⟨w.heap.size + 1, 2, none⟩ = some (.int .i64 ga) := K1.out.cell 2
    have y1_3 : W2.cell? ⟨w.heap.size + 1, 3, none⟩ = some (.int .i64 li) := K1.out.cell 3
    have y2_0 : W2.cell? ⟨w.heap.size + 1 + 1, 0, none⟩ = some (.slice A N ca) := K2.out.cell 0
    have y2_1 : W2.cell? ⟨w.heap.size + 1 + 1, 1, none⟩ = some (.int .i64 t) := K2.out.cell 1
    by_cases ht : tolE t = 0
    · have ht2 : (tolE t != 0) = false := by simp [ht]
      replace HV := Lib.hid (HV.out.trans (by rw [if_neg (by simpa using ht)]))
      replace HST := Lib.hid (fun hz W J' cj' K' ck' h1 h2 => HST.out ht hz W J' cj' K' ck' h1 h2)
      generalize tolE t = te at *
      clear ht
      go_wp2_with (go_at_call 87; refine (HAF.out _ X.out).mono ?_; rintro e W3 ⟨v, rfl, ha, hx⟩; have HC := Lib.hid ha; replace X := Lib.hid (X.out.trans hx); replace K0 := Lib.hid (K0.out.ext hx); replace K1 := Lib.hid (K1.out.ext hx); replace K2 := Lib.hid (K2.out.ext hx); clear hx ha y0_0 y0_1 y0_2 y1_0 y1_1 y1_2 y1_3 y2_0 y2_1; refine Hid.out ?_)
      refine Lib.hid ?_
      have y0_0 : W3.cell? ⟨w.heap.size, 0, none⟩ = some (.int .i64 L) := K0.out.cell 0
      have y0_1 : W3.cell? ⟨w.heap.size, 1, none⟩ = some (.slice J n cj) := K0.out.cell 1
      have y0_2 : W3.cell? ⟨w.heap.size, 2, none⟩ = some (.slice K n ck) := K0.out.cell 2
      have y1_0 : W3.cell? ⟨w.heap.size + 1, 0, none⟩ = some (.slice P np cp) := K1.out.cell 0
      have y1_1 : W3.cell? ⟨w.heap.size + 1, 1, none⟩ = some (.int .i64 sp) := K1.out.cell 1
      have y1_2 : W3.cell? ⟨w.heap.size + 1, 2, none⟩ = some (.int .i64 ga) := K1.out.cell 2
      have y1_3 : W3.cell? ⟨w.heap.size + 1, 3, none⟩ = some (.int .i64 li) := K1.out.cell 3
      have y2_0 : W3.cell? ⟨w.heap.size + 1 + 1, 0, none⟩ = some (.slice A N ca) := K2.out.cell 0
      have y2_1 : W3.cell? ⟨w.heap.size + 1 + 1, 1, none⟩ = some (.int .i64 t) := K2.out.cell 1
      by_cases ha : ae = 0
      · have ha2 : (ae != 0) = false := by simp [ha]
        have hc := HC.out
        rw [AftC, if_pos ha] at hc
        obtain ⟨J', cj', K', ck', rfl, hr1, hr2, -⟩ := hc
        have R1 := Lib.hid hr1
        have R2 := Lib.hid hr2
        replace HV := Lib.hid (HV.out.trans (by rw [if_neg (by simpa using ha)]))
        have HS2 := Lib.hid (fun W J' cj' K' ck' h1 h2 => HST.out ha W J' cj' K' ck' h1 h2)
        clear hr1 hr2 HC HST ha HAF hsv
        obtain ⟨q9, hq9⟩ : ∃ q9, q9 = W3.heap.size := ⟨_, rfl⟩
        obtain ⟨W4, hW4⟩ : ∃ W, W = W3.alloc (.cells #[.int .i64 L, .slice J' n cj', .slice K' n ck'] 25) := ⟨_, rfl⟩
        have hx4 : Ext W3 W4 := by rw [hW4]; exact Ext.alloc _ _
        have K9 := Lib.hid (show Blk W4 q9 25 #[.int .i64 L, .slice J' n cj', .slice K' n ck'] by rw [hW4, hq9]; exact Blk.new _ _ _)
        replace X := Lib.hid (X.out.trans hx4)
        replace R1 := Lib.hid (R1.out.ext hx4)
        replace R2 := Lib.hid (R2.out.ext hx4)
        replace K0 := Lib.hid (K0.out.ext hx4)
        replace K1 := Lib.hid (K1.out.ext hx4)
        replace K2 := Lib.hid (K2.out.ext hx4)
        go_upto_region 8 with (fail)
        rw [← hW4, ← hq9]
        clear hW4 hq9 hx4 y0_0 y0_1 y0_2 y1_0 y1_1 y1_2 y1_3 y2_0 y2_1
        have y2_0 : W4.cell? ⟨w.heap.size + 1 + 1, 0, none⟩ = some (.slice A N ca) := K2.out.cell 0
        have y2_1 : W4.cell? ⟨w.heap.size + 1 + 1, 1, none⟩ = some (.int .i64 t) := K2.out.cell 1
        have l0 : W4.cell? ⟨q9, 0, none⟩ = some (.int .i64 L) := K9.out.cell 0
        have l1 : W4.cell? ⟨q9, 1, none⟩ = some (.slice J' n cj') := K9.out.cell 1
        have l2 : W4.cell? ⟨q9, 2, none⟩ = some (.slice K' n ck') := K9.out.cell 2
        by_cases h2 : sv = 2
        · have hd : (sv != 2) = false := by simp [h2]
          replace HV := Lib.hid (HV.out.trans (by rw [hd]; rfl) : pv = 0)
          clear h2
          go_wp2_with (go_at_call 88; refine (HS2.out _ J' cj' K' ck' R1.out R2.out).mono ?_; rintro e W5 ⟨rfl, hx⟩; replace X := Lib.hid (X.out.trans hx); clear hx)
          go_ret
          exact ⟨ret_int HV.out.symm, X.out⟩
        · have hd : (sv != 2) = true := by simp [h2]
          replace HV := Lib.hid (HV.out.trans (by rw [hd]; rfl) : pv = 19)
          clear h2
          go_wp2_with (go_at_call 88; refine (HS2.out _ J' cj' K' ck' R1.out R2.out).mono ?_; rintro e W5 ⟨rfl, hx⟩; replace X := Lib.hid (X.out.trans hx); clear hx)
          go_ret
          exact ⟨ret_int HV.out.symm, X.out⟩
      · have ha2 : (ae != 0) = true := by simp [ha]
        have hc := HC.out
        rw [AftC, if_neg ha] at hc
        obtain rfl := hc
        replace HV := Lib.hid (HV.out.trans (by rw [if_pos ha]) : pv = ae)
        clear HC HST ha HAF hsv
        go_wp2
        go_ret
        exact ⟨ret_int HV.out.symm, X.out.trans (Ext.alloc _ _)⟩
    · have ht2 : (tolE t != 0) = true := by simp [ht]
      replace HV := Lib.hid (HV.out.trans (by rw [if_pos ht]) : pv = tolE t)
      clear HST
      generalize tolE t = te at *
      clear ht HAF hsv
      go_wp2
      go_ret
      exact ⟨ret_int HV.out.symm, X.out⟩
  · have hz2 : (se != 0) = true := by simp [hz]
    replace HV := Lib.hid (HV.out.trans (by rw [if_pos hz]) : pv = se)
    clear hz HSE HST HAF hsv
    go_wp2
    go_ret
    exact ⟨ret_int HV.out.symm, X.out⟩



theorem firstE_two {a b : Int} : firstE [a, b] = if a ≠ 0 then a else b := by
  by_cases h : a = 0
  · rw [if_neg (by simpa using h), h, firstE_cons0, firstE_one]
  · rw [if_pos h, firstE_consN _ h]

end Go.Proofs.YtjdilmmpdlcimaaGreat
