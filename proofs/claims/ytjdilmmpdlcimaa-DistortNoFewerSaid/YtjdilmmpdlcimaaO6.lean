/- DistortNoFewer where there are none. -/
import Derived.Test.YtjdilmmpdlcimaaO5
import Derived.Lib.MinMax
import Derived.Deep.DeepCutAuto
import Derived.BigQuiet

namespace Go.Proofs.Ytjdilmmpdlcimaa
open Go.RowKit Go.Shelf Go.Mem Go.RegInv
attribute [local go_sem] RelUpon_value RelUpon_skip RelUpon_enter BigFrame.eval_const BigFrame.eval_global BigFrame.eval_func


set_option maxRecDepth 100000 in
set_option maxHeartbeats 8000000 in
theorem nf_none {L : Int} {J K : Option Addr} {n cj ck : Nat} {js : List Int} {ks : List Rg} {w : World} (hn : js.length = n) (hJ : RowsAt 1 I1 w J js) (hm : ks.length = n) (hK : RowsAt 2 Rg.enc w K ks) {P : Option Addr} {np cp : Nat} {am : List Int} {sp ga li : Int} (hnp : am.length = np) (hP : RowsAt 1 I1 w P am) {A : Option Addr} {N ca : Nat} {l : List Sk} {t : Int} (hN : l.length = N) (hA : RowsAt 3 Sk.enc w A l) (hjn : J = none → cj = 0) (hkn : K = none → ck = 0) (hpn : P = none → cp = 0) (hln : A = none → ca = 0) (hcz : (checkS L js ks).2 = 0) (hpz : (checkP am sp ga li).2 = 0) (hto : tolE t = 0) (hlt : (optL am n).length ≤ 8) (hN4 : N ≤ 4) (hfv : fewV L js ks am sp ga li t = none) :
    Calls Try.prog 9 #[.agg #[.int .i64 L, .slice J n cj, .slice K n ck], .agg #[.slice P np cp, .int .i64 sp, .int .i64 ga, .int .i64 li], .agg #[.slice A N ca, .int .i64 t]] w fun e w' => e = .returned (.bool true) ∧ Ext w w' := by
  have hs := checkS_ok hcz
  have hpo := checkP_ok hpz
  have hn4 : n ≤ 4 := by have := hs.four; omega
  have h5 : np ≤ 5 := by have := hpo.three; omega
  have h6 : n ≤ 6 := by omega
  have hdN : decide ((4 : Int) < (N : Int)) = false := by simp; omega
  have hfe : fewE L js ks am sp ga li t = 0 := by unfold fewE; rw [hcz, hpz, hto]; rfl
  have hbe : bndE L js ks am sp ga li t = 0 := by unfold bndE; rw [hcz, hpz, hto]; rfl
  have hie : isE L js ks t = 0 := by unfold isE; rw [hcz, hto]; rfl
  obtain ⟨bn, hbn⟩ : ∃ z, z = (bndV L js ks am sp ga t).1 := ⟨_, rfl⟩
  obtain ⟨bj, hbj⟩ : ∃ z, z = (bndV L js ks am sp ga t).2.1 := ⟨_, rfl⟩
  obtain ⟨bf, hbf⟩ : ∃ z, z = (bndV L js ks am sp ga t).2.2 := ⟨_, rfl⟩
  obtain ⟨ce, hce⟩ : ∃ z, z = cplE L js ks am sp ga li t l := ⟨_, rfl⟩
  obtain ⟨cn, hcn⟩ : ∃ z, z = (if ce = 0 then (N : Int) else 0) := ⟨_, rfl⟩
  obtain ⟨iv, hiv⟩ : ∃ z, z = straightV t L js ks := ⟨_, rfl⟩
  have hfr : fewRk js.length li (pfB ga sp t L js ks) (optL am js.length) 0 = none := by rw [← hfv]; unfold fewV; rw [if_pos hfe]
  have hfc : fewC L js ks am sp ga li t = 12 := by unfold fewC; rw [if_pos hfe, hfv]; rfl
  have HCE := Lib.hid (show ce ≠ 0 from fun h => by
    rw [hce] at h
    obtain ⟨p2, h1, h2⟩ := few_found hcz hpz hto h
    rw [hfr] at h1
    cases h1)
  have HIV := Lib.hid (show iv ≠ 2 from fun h => by
    obtain ⟨p2, h3, h4⟩ := (few_none (L := L) (js := js) (ks := ks) (am := am) (sp := sp) (ga := ga) (li := li) (t := t) hcz hpz).1 (by rw [← hiv]; exact h)
    rw [hfr] at h3
    cases h3)
  have HBF := Lib.hid (show bf = 0 ∨ bf = 12 from by rw [hbf]; exact bndV_err L js ks am sp ga t)
  have HFW := Lib.hid (fun W J1 c1 K1 d1 P2 c2 (r1 : RowsAt 1 I1 W J1 js) (s1 : RowsAt 2 Rg.enc W K1 ks) (r2 : RowsAt 1 I1 W P2 am) (n1 : J1 = none → c1 = 0) => show Calls Try.prog 48 #[.agg #[.int .i64 L, .slice J1 n c1, .slice K1 n d1], .agg #[.slice P2 np c2, .int .i64 sp, .int .i64 ga, .int .i64 li], .int .i64 t] W fun e w' => e = .returned (.tuple #[.slice none 0 0, .int .i64 12]) ∧ Ext W w' from by
    have h := fewestOf_any (ck := d1) (cp := c2) (L := L) (sp := sp) (ga := ga) (li := li) (t := t) hn r1 hm s1 n1 hnp r2
    rw [hfv, hfc] at h
    refine h.mono ?_
    rintro e w' ⟨A', m', c', h1, h2, h3, h4⟩
    obtain ⟨rfl, rfl, rfl⟩ := h2 rfl
    exact ⟨h1, h4⟩)
  have HBO := Lib.hid (fun W J1 c1 K1 d1 P2 c2 (r1 : RowsAt 1 I1 W J1 js) (s1 : RowsAt 2 Rg.enc W K1 ks) (r2 : RowsAt 1 I1 W P2 am) => show Calls Try.prog 49 #[.agg #[.int .i64 L, .slice J1 n c1, .slice K1 n d1], .agg #[.slice P2 np c2, .int .i64 sp, .int .i64 ga, .int .i64 li], .int .i64 t] W fun e w' => e = .returned (.tuple #[.int .i64 bn, .int .i64 bj, .int .i64 bf]) ∧ Ext W w' from by
    have h := boundOf_ok (cj := c1) (ck := d1) (cp := c2) (L := L) (sp := sp) (ga := ga) (li := li) (t := t) hn r1 hm s1 hnp r2 hbe
    rw [← hbn, ← hbj, ← hbf] at h
    exact h)
  have HCH := Lib.hid (fun W J1 c1 K1 d1 P2 c2 A3 c3 (r1 : RowsAt 1 I1 W J1 js) (s1 : RowsAt 2 Rg.enc W K1 ks) (r2 : RowsAt 1 I1 W P2 am) (r3 : RowsAt 3 Sk.enc W A3 l) (n1 : J1 = none → c1 = 0) => show Calls Try.prog 45 #[.agg #[.int .i64 L, .slice J1 n c1, .slice K1 n d1], .agg #[.slice P2 np c2, .int .i64 sp, .int .i64 ga, .int .i64 li], .agg #[.slice A3 N c3, .int .i64 t]] W fun e w' => e = .returned (.tuple #[.int .i64 cn, .int .i64 ce]) ∧ Ext W w' from by
    rw [hcn, hce]
    exact checkPlan_any hn r1 hm s1 hnp r2 hN r3 n1)
  have HIS := Lib.hid (fun W J1 c1 K1 d1 (r1 : RowsAt 1 I1 W J1 js) (s1 : RowsAt 2 Rg.enc W K1 ks) => show Calls Try.prog 19 #[.agg #[.int .i64 L, .slice J1 n c1, .slice K1 n d1], .int .i64 t] W fun e w' => e = .returned (.tuple #[.int .i64 iv, .int .i64 0]) ∧ Ext W w' from by
    have h := isStraight_any (cj := c1) (ck := d1) (L := L) (t := t) hn r1 hm s1
    rw [hie, show isV L js ks t = iv by unfold isV; rw [if_pos hie, hiv]] at h
    exact h)
  have HBE := Lib.hid (fun W (e : Ext w W) => show Calls Try.prog 44 #[.agg #[.int .i64 L, .slice J n cj, .slice K n ck], .agg #[.slice P np cp, .int .i64 sp, .int .i64 ga, .int .i64 li]] W fun e w' => e = .returned (.int .i64 0) ∧ Ext W w' from by have := bothErr_any (cj := cj) (ck := ck) (cp := cp) (L := L) (sp := sp) (ga := ga) (li := li) hn (hJ.ext e) hm (hK.ext e) hnp (hP.ext e); rw [if_neg (by simpa using hcz), hpz] at this; exact this)
  have HLT := Lib.hid (fun W (e : Ext w W) => show Calls Try.prog 47 #[.agg #[.int .i64 L, .slice J n cj, .slice K n ck], .agg #[.slice P np cp, .int .i64 sp, .int .i64 ga, .int .i64 li]] W fun e w' => e = .returned (.bool true) ∧ Ext W w' from by have := light_any (cj := cj) (ck := ck) (cp := cp) (L := L) (sp := sp) (ga := ga) (li := li) hn (hJ.ext e) hm (hK.ext e) hnp (hP.ext e) hcz hpz; rw [show decide ((optL am n).length ≤ 8) = true by simp [hlt]] at this; exact this)
  have HTO := Lib.hid (fun W => show Calls Try.prog 25 #[.int .i64 t] W fun e w' => e = .returned (.int .i64 0) ∧ Ext W w' from by have := refTolE_any t W; rw [hto] at this; exact this)
  have HCP := Lib.hid (fun W (e : Ext w W) => copyShaft_any (L := L) (cj := cj) (ck := ck) hn (hJ.ext e) hm (hK.ext e) hjn hkn (by omega) (by omega))
  have HCQ := Lib.hid (fun W (e : Ext w W) => copyPress_any (cp := cp) (sp := sp) (ga := ga) (li := li) hnp (hP.ext e) hpn (by omega))
  have HCL := Lib.hid (fun W (e : Ext w W) => copyPlan_any (ca := ca) hN (hA.ext e) (by omega) hln)
  have HFEW := Lib.hid (fun W => show Calls Try.prog 14 #[.agg #[.int .i64 L, .slice J n cj, .slice K n ck]] W fun e w' => e = .returned (.bool true) ∧ Ext W w' from by have := few_any (L := L) (J := J) (K := K) (n := n) (m := n) (cj := cj) (ck := ck) W (by unfold maxLen; omega) (by unfold maxLen; omega); rw [show few2 n n = true by simp [few2, h6]] at this; exact this)
  have HFEA := Lib.hid (fun W => show Calls Try.prog 33 #[.agg #[.slice P np cp, .int .i64 sp, .int .i64 ga, .int .i64 li]] W fun e w' => e = .returned (.bool true) ∧ Ext W w' from by have := fewAmounts_any (P := P) (np := np) (cp := cp) (sp := sp) (ga := ga) (li := li) W (by unfold maxLen; omega); rw [show few1 np = true by simp [few1, h5]] at this; exact this)
  have HN := Lib.hid hN
  clear hn hJ hm hK hnp hP hN hA hjn hkn hpn hln hcz hpz hto hlt hs hpo hfe hbe hie hbn hbj hbf hce hcn hiv hfr hfc hfv h5 h6 
  skip
  obtain ⟨W0, hW0⟩ : ∃ W0, W0 = ((w.alloc (.cells #[.int .i64 L, .slice J n cj, .slice K n ck] 25)).alloc (.cells #[.slice P np cp, .int .i64 sp, .int .i64 ga, .int .i64 li] 58)).alloc (.cells #[.slice A N ca, .int .i64 t] 77) := ⟨_, rfl⟩
  have Ky0 := Lib.hid (show Blk W0 (w.heap.size) 25 #[.int .i64 L, .slice J n cj, .slice K n ck] by rw [hW0]; exact ((Blk.new _ _ _).alloc _).alloc _)
  have Ky1 := Lib.hid (show Blk W0 (w.heap.size + 1) 58 #[.slice P np cp, .int .i64 sp, .int .i64 ga, .int .i64 li] by rw [hW0]; exact (Blk.newAt _ _ _ (by simp)).alloc _)
  have Ky2 := Lib.hid (show Blk W0 (w.heap.size + 1 + 1) 77 #[.slice A N ca, .int .i64 t] by rw [hW0]; exact Blk.newAt _ _ _ (by simp))
  have X := Lib.hid (show Ext w W0 by rw [hW0]; exact ((Ext.alloc _ _).trans (Ext.alloc _ _)).trans (Ext.alloc _ _))
  have y0_0 : W0.cell? ⟨w.heap.size, 0, none⟩ = some (.int .i64 L) := Ky0.out.cell 0
  have y0_1 : W0.cell? ⟨w.heap.size, 1, none⟩ = some (.slice J n cj) := Ky0.out.cell 1
  have y0_2 : W0.cell? ⟨w.heap.size, 2, none⟩ = some (.slice K n ck) := Ky0.out.cell 2
  have y1_0 : W0.cell? ⟨w.heap.size + 1, 0, none⟩ = some (.slice P np cp) := Ky1.out.cell 0
  have y1_1 : W0.cell? ⟨w.heap.size + 1, 1, none⟩ = some (.int .i64 sp) := Ky1.out.cell 1
  have y1_2 : W0.cell? ⟨w.heap.size + 1, 2, none⟩ = some (.int .i64 ga) := Ky1.out.cell 2
  have y1_3 : W0.cell? ⟨w.heap.size + 1, 3, none⟩ = some (.int .i64 li) := Ky1.out.cell 3
  have y2_0 : W0.cell? ⟨w.heap.size + 1 + 1, 0, none⟩ = some (.slice A N ca) := Ky2.out.cell 0
  have y2_1 : W0.cell? ⟨w.heap.size + 1 + 1, 1, none⟩ = some (.int .i64 t) := Ky2.out.cell 1
  go_enter Try.func9, Try.ntmps9
  go_upto_region 1 with (fail)
  rw [← hW0]
  clear hW0
  go_wp2_with (go_at_call 13; refine (awake_any _).mono ?_; rintro e W1 ⟨rfl, hx⟩; replace X := Lib.hid (X.out.trans hx); replace Ky0 := Lib.hid (Ky0.out.ext hx); replace Ky1 := Lib.hid (Ky1.out.ext hx); replace Ky2 := Lib.hid (Ky2.out.ext hx); clear hx y0_0 y0_1 y0_2 y1_0 y1_1 y1_2 y1_3 y2_0 y2_1; refine Hid.out ?_)
  refine Lib.hid ?_
  have y0_0 : W1.cell? ⟨w.heap.size, 0, none⟩ = some (.int .i64 L) := Ky0.out.cell 0
  have y0_1 : W1.cell? ⟨w.heap.size, 1, none⟩ = some (.slice J n cj) := Ky0.out.cell 1
  have y0_2 : W1.cell? ⟨w.heap.size, 2, none⟩ = some (.slice K n ck) := Ky0.out.cell 2
  have y1_0 : W1.cell? ⟨w.heap.size + 1, 0, none⟩ = some (.slice P np cp) := Ky1.out.cell 0
  have y1_1 : W1.cell? ⟨w.heap.size + 1, 1, none⟩ = some (.int .i64 sp) := Ky1.out.cell 1
  have y1_2 : W1.cell? ⟨w.heap.size + 1, 2, none⟩ = some (.int .i64 ga) := Ky1.out.cell 2
  have y1_3 : W1.cell? ⟨w.heap.size + 1, 3, none⟩ = some (.int .i64 li) := Ky1.out.cell 3
  have y2_0 : W1.cell? ⟨w.heap.size + 1 + 1, 0, none⟩ = some (.slice A N ca) := Ky2.out.cell 0
  have y2_1 : W1.cell? ⟨w.heap.size + 1 + 1, 1, none⟩ = some (.int .i64 t) := Ky2.out.cell 1
  go_wp2_with (go_at_call 14; refine (HFEW.out _).mono ?_; rintro e W2 ⟨rfl, hx⟩; replace X := Lib.hid (X.out.trans hx); replace Ky0 := Lib.hid (Ky0.out.ext hx); replace Ky1 := Lib.hid (Ky1.out.ext hx); replace Ky2 := Lib.hid (Ky2.out.ext hx); clear hx y0_0 y0_1 y0_2 y1_0 y1_1 y1_2 y1_3 y2_0 y2_1; refine Hid.out ?_)
  refine Lib.hid ?_
  have y0_0 : W2.cell? ⟨w.heap.size, 0, none⟩ = some (.int .i64 L) := Ky0.out.cell 0
  have y0_1 : W2.cell? ⟨w.heap.size, 1, none⟩ = some (.slice J n cj) := Ky0.out.cell 1
  have y0_2 : W2.cell? ⟨w.heap.size, 2, none⟩ = some (.slice K n ck) := Ky0.out.cell 2
  have y1_0 : W2.cell? ⟨w.heap.size + 1, 0, none⟩ = some (.slice P np cp) := Ky1.out.cell 0
  have y1_1 : W2.cell? ⟨w.heap.size + 1, 1, none⟩ = some (.int .i64 sp) := Ky1.out.cell 1
  have y1_2 : W2.cell? ⟨w.heap.size + 1, 2, none⟩ = some (.int .i64 ga) := Ky1.out.cell 2
  have y1_3 : W2.cell? ⟨w.heap.size + 1, 3, none⟩ = some (.int .i64 li) := Ky1.out.cell 3
  have y2_0 : W2.cell? ⟨w.heap.size + 1 + 1, 0, none⟩ = some (.slice A N ca) := Ky2.out.cell 0
  have y2_1 : W2.cell? ⟨w.heap.size + 1 + 1, 1, none⟩ = some (.int .i64 t) := Ky2.out.cell 1
  go_wp2_with (go_at_call 33; refine (HFEA.out _).mono ?_; rintro e W3 ⟨rfl, hx⟩; replace X := Lib.hid (X.out.trans hx); replace Ky0 := Lib.hid (Ky0.out.ext hx); replace Ky1 := Lib.hid (Ky1.out.ext hx); replace Ky2 := Lib.hid (Ky2.out.ext hx); clear hx y0_0 y0_1 y0_2 y1_0 y1_1 y1_2 y1_3 y2_0 y2_1; refine Hid.out ?_)
  refine Lib.hid ?_
  have y0_0 : W3.cell? ⟨w.heap.size, 0, none⟩ = some (.int .i64 L) := Ky0.out.cell 0
  have y0_1 : W3.cell? ⟨w.heap.size, 1, none⟩ = some (.slice J n cj) := Ky0.out.cell 1
  have y0_2 : W3.cell? ⟨w.heap.size, 2, none⟩ = some (.slice K n ck) := Ky0.out.cell 2
  have y1_0 : W3.cell? ⟨w.heap.size + 1, 0, none⟩ = some (.slice P np cp) := Ky1.out.cell 0
  have y1_1 : W3.cell? ⟨w.heap.size + 1, 1, none⟩ = some (.int .i64 sp) := Ky1.out.cell 1
  have y1_2 : W3.cell? ⟨w.heap.size + 1, 2, none⟩ = some (.int .i64 ga) := Ky1.out.cell 2
  have y1_3 : W3.cell? ⟨w.heap.size + 1, 3, none⟩ = some (.int .i64 li) := Ky1.out.cell 3
  have y2_0 : W3.cell? ⟨w.heap.size + 1 + 1, 0, none⟩ = some (.slice A N ca) := Ky2.out.cell 0
  have y2_1 : W3.cell? ⟨w.heap.size + 1 + 1, 1, none⟩ = some (.int .i64 t) := Ky2.out.cell 1
  go_wp2_with (go_at_call 44; refine (HBE.out _ X.out).mono ?_; rintro e W4 ⟨rfl, hx⟩; replace X := Lib.hid (X.out.trans hx); replace Ky0 := Lib.hid (Ky0.out.ext hx); replace Ky1 := Lib.hid (Ky1.out.ext hx); replace Ky2 := Lib.hid (Ky2.out.ext hx); clear hx y0_0 y0_1 y0_2 y1_0 y1_1 y1_2 y1_3 y2_0 y2_1; refine Hid.out ?_)
  refine Lib.hid ?_
  have y0_0 : W4.cell? ⟨w.heap.size, 0, none⟩ = some (.int .i64 L) := Ky0.out.cell 0
  have y0_1 : W4.cell? ⟨w.heap.size, 1, none⟩ = some (.slice J n cj) := Ky0.out.cell 1
  have y0_2 : W4.cell? ⟨w.heap.size, 2, none⟩ = some (.slice K n ck) := Ky0.out.cell 2
  have y1_0 : W4.cell? ⟨w.heap.size + 1, 0, none⟩ = some (.slice P np cp) := Ky1.out.cell 0
  have y1_1 : W4.cell? ⟨w.heap.size + 1, 1, none⟩ = some (.int .i64 sp) := Ky1.out.cell 1
  have y1_2 : W4.cell? ⟨w.heap.size + 1, 2, none⟩ = some (.int .i64 ga) := Ky1.out.cell 2
  have y1_3 : W4.cell? ⟨w.heap.size + 1, 3, none⟩ = some (.int .i64 li) := Ky1.out.cell 3
  have y2_0 : W4.cell? ⟨w.heap.size + 1 + 1, 0, none⟩ = some (.slice A N ca) := Ky2.out.cell 0
  have y2_1 : W4.cell? ⟨w.heap.size + 1 + 1, 1, none⟩ = some (.int .i64 t) := Ky2.out.cell 1
  go_wp2_with (go_at_call 47; refine (HLT.out _ X.out).mono ?_; rintro e W5 ⟨rfl, hx⟩; replace X := Lib.hid (X.out.trans hx); replace Ky0 := Lib.hid (Ky0.out.ext hx); replace Ky1 := Lib.hid (Ky1.out.ext hx); replace Ky2 := Lib.hid (Ky2.out.ext hx); clear hx y0_0 y0_1 y0_2 y1_0 y1_1 y1_2 y1_3 y2_0 y2_1; refine Hid.out ?_)
  refine Lib.hid ?_
  have y0_0 : W5.cell? ⟨w.heap.size, 0, none⟩ = some (.int .i64 L) := Ky0.out.cell 0
  have y0_1 : W5.cell? ⟨w.heap.size, 1, none⟩ = some (.slice J n cj) := Ky0.out.cell 1
  have y0_2 : W5.cell? ⟨w.heap.size, 2, none⟩ = some (.slice K n ck) := Ky0.out.cell 2
  have y1_0 : W5.cell? ⟨w.heap.size + 1, 0, none⟩ = some (.slice P np cp) := Ky1.out.cell 0
  have y1_1 : W5.cell? ⟨w.heap.size + 1, 1, none⟩ = some (.int .i64 sp) := Ky1.out.cell 1
  have y1_2 : W5.cell? ⟨w.heap.size + 1, 2, none⟩ = some (.int .i64 ga) := Ky1.out.cell 2
  have y1_3 : W5.cell? ⟨w.heap.size + 1, 3, none⟩ = some (.int .i64 li) := Ky1.out.cell 3
  have y2_0 : W5.cell? ⟨w.heap.size + 1 + 1, 0, none⟩ = some (.slice A N ca) := Ky2.out.cell 0
  have y2_1 : W5.cell? ⟨w.heap.size + 1 + 1, 1, none⟩ = some (.int .i64 t) := Ky2.out.cell 1
  go_wp2_with (go_at_call 25; refine (HTO.out _).mono ?_; rintro e W6 ⟨rfl, hx⟩; replace X := Lib.hid (X.out.trans hx); replace Ky0 := Lib.hid (Ky0.out.ext hx); replace Ky1 := Lib.hid (Ky1.out.ext hx); replace Ky2 := Lib.hid (Ky2.out.ext hx); clear hx y0_0 y0_1 y0_2 y1_0 y1_1 y1_2 y1_3 y2_0 y2_1; refine Hid.out ?_)
  refine Lib.hid ?_
  have y0_0 : W6.cell? ⟨w.heap.size, 0, none⟩ = some (.int .i64 L) := Ky0.out.cell 0
  have y0_1 : W6.cell? ⟨w.heap.size, 1, none⟩ = some (.slice J n cj) := Ky0.out.cell 1
  have y0_2 : W6.cell? ⟨w.heap.size, 2, none⟩ = some (.slice K n ck) := Ky0.out.cell 2
  have y1_0 : W6.cell? ⟨w.heap.size + 1, 0, none⟩ = some (.slice P np cp) := Ky1.out.cell 0
  have y1_1 : W6.cell? ⟨w.heap.size + 1, 1, none⟩ = some (.int .i64 sp) := Ky1.out.cell 1
  have y1_2 : W6.cell? ⟨w.heap.size + 1, 2, none⟩ = some (.int .i64 ga) := Ky1.out.cell 2
  have y1_3 : W6.cell? ⟨w.heap.size + 1, 3, none⟩ = some (.int .i64 li) := Ky1.out.cell 3
  have y2_0 : W6.cell? ⟨w.heap.size + 1 + 1, 0, none⟩ = some (.slice A N ca) := Ky2.out.cell 0
  have y2_1 : W6.cell? ⟨w.heap.size + 1 + 1, 1, none⟩ = some (.int .i64 t) := Ky2.out.cell 1
  clear HFEW HFEA HBE HLT HTO
  go_upto_region 5 with (fail)
  refine wp_region_each [some 53, some 54, some 55, some 56, some 57, some 58, some 59, some 52, some 60, some 61, some 7, some 8] [[3], [53], [4], [55], [5], [57], [54, 56, 58], [59], [52], [52], [60], [61]]
    [Is (.agg #[.int .i64 L, .slice J n cj, .slice K n ck]), CopS L js ks n n, Is (.agg #[.slice P np cp, .int .i64 sp, .int .i64 ga, .int .i64 li]), CopP am sp ga li np, Is (.pointer (some ⟨w.heap.size + 1 + 1, 1, none⟩)), Is (.int .i64 (t)), Is (.tuple #[.slice none 0 0, .int .i64 12]), Is (.tuple #[.slice none 0 0, .int .i64 12]), Is (.slice none 0 0), Is (.int .i64 (12)), Is (.slice none 0 0), Is (.int .i64 (12))]
    (by kernel_rfl) (by kernel_rfl) (by kernel_rfl) (by kernel_rfl) (by kernel_rfl) Ext (fun W => Ext W6 W)
    (fun W _ => Ext.refl W) (fun W W' h k => h.trans k) ?_ (Ext.drew _) ?_ ?_
  · repeat (refine ⟨fun _ _ _ _ k h => (by first | exact h | exact (by first | exact IntsAt.ext h k | exact CopS.ext h k | exact CopP.ext h k | exact CopL.ext h k | exact CopX.ext h k | exact FewT.ext h k)), ?_⟩)
    exact trivial
  · refine ⟨?_, ?_, ?_, ?_, ?_, ?_, ?_, ?_, ?_, ?_, ?_, ?_, trivial⟩
    all_goals intro ρ W ⟨kc, kg, kf⟩ hF hs
    · obtain ⟨h0, -⟩ := hs
      replace h0 : ρ (.tmp 3) = .pointer (some ⟨w.heap.size, 0, none⟩) := h0
      have hc0 : W.cell? ⟨w.heap.size, 0, none⟩ = some (.int .i64 L) := hF.cell (by assumption)
      have hc1 : W.cell? ⟨w.heap.size, 1, none⟩ = some (.slice J n cj) := hF.cell (by assumption)
      have hc2 : W.cell? ⟨w.heap.size, 2, none⟩ = some (.slice K n ck) := hF.cell (by assumption)
      go_simp
      exact ⟨Ext.refl _, rfl⟩
    · obtain ⟨h0, -⟩ := hs
      replace h0 : ρ (.tmp 53) = .agg #[.int .i64 L, .slice J n cj, .slice K n ck] := h0
      go_simp
      refine (HCP.out _ (X.out.trans hF)).mono ?_; rintro e w' ⟨v, rfl, hc, hx⟩; exact ⟨_, rfl, hx, CopS.of hc⟩
    · obtain ⟨h0, -⟩ := hs
      replace h0 : ρ (.tmp 4) = .pointer (some ⟨w.heap.size + 1, 0, none⟩) := h0
      have hc0 : W.cell? ⟨w.heap.size + 1, 0, none⟩ = some (.slice P np cp) := hF.cell (by assumption)
      have hc1 : W.cell? ⟨w.heap.size + 1, 1, none⟩ = some (.int .i64 sp) := hF.cell (by assumption)
      have hc2 : W.cell? ⟨w.heap.size + 1, 2, none⟩ = some (.int .i64 ga) := hF.cell (by assumption)
      have hc3 : W.cell? ⟨w.heap.size + 1, 3, none⟩ = some (.int .i64 li) := hF.cell (by assumption)
      go_simp
      exact ⟨Ext.refl _, rfl⟩
    · obtain ⟨h0, -⟩ := hs
      replace h0 : ρ (.tmp 55) = .agg #[.slice P np cp, .int .i64 sp, .int .i64 ga, .int .i64 li] := h0
      go_simp
      refine (HCQ.out _ (X.out.trans hF)).mono ?_; rintro e w' ⟨v, rfl, hc, hx⟩; exact ⟨_, rfl, hx, CopP.of hc⟩
    · obtain ⟨h0, -⟩ := hs
      replace h0 : ρ (.tmp 5) = .pointer (some ⟨w.heap.size + 1 + 1, 0, none⟩) := h0
      go_simp
      exact ⟨Ext.refl _, rfl⟩
    · obtain ⟨h0, -⟩ := hs
      replace h0 : ρ (.tmp 57) = .pointer (some ⟨w.heap.size + 1 + 1, 1, none⟩) := h0
      have hc0 : W.cell? ⟨w.heap.size + 1 + 1, 1, none⟩ = some (.int .i64 (t)) := hF.cell (by assumption)
      go_simp
      exact ⟨Ext.refl _, rfl⟩
    · obtain ⟨h0, h1, h2, -⟩ := hs
      replace h0 : (CopS L js ks n n) (ρ (.tmp 54)) W := h0
      replace h1 : (CopP am sp ga li np) (ρ (.tmp 56)) W := h1
      replace h2 : ρ (.tmp 58) = .int .i64 (t) := h2
      obtain ⟨J1, c1, K1, d1, e1, r1, s1, n1, m1⟩ := h0
      replace e1 : ρ (.tmp 54) = .agg #[.int .i64 L, .slice J1 n c1, .slice K1 n d1] := e1
      obtain ⟨P2, c2, e2, r2, n2⟩ := h1
      replace e2 : ρ (.tmp 56) = .agg #[.slice P2 np c2, .int .i64 sp, .int .i64 ga, .int .i64 li] := e2
      go_simp
      refine (HFW.out _ J1 c1 K1 d1 P2 c2 r1 s1 r2 n1).mono ?_; rintro e w' ⟨rfl, hx⟩; exact ⟨_, rfl, hx, rfl⟩
    · obtain ⟨h0, -⟩ := hs
      replace h0 : ρ (.tmp 59) = .tuple #[.slice none 0 0, .int .i64 12] := h0
      go_simp
      exact ⟨Ext.refl _, rfl⟩
    · obtain ⟨h0, -⟩ := hs
      replace h0 : ρ (.tmp 52) = .tuple #[.slice none 0 0, .int .i64 12] := h0
      go_simp
      exact ⟨Ext.refl _, rfl⟩
    · obtain ⟨h0, -⟩ := hs
      replace h0 : ρ (.tmp 52) = .tuple #[.slice none 0 0, .int .i64 12] := h0
      go_simp
      exact ⟨Ext.refl _, rfl⟩
    · obtain ⟨h0, -⟩ := hs
      replace h0 : ρ (.tmp 60) = .slice none 0 0 := h0
      go_simp
      exact ⟨Ext.refl _, rfl⟩
    · obtain ⟨h0, -⟩ := hs
      replace h0 : ρ (.tmp 61) = .int .i64 (12) := h0
      go_simp
      exact ⟨Ext.refl _, rfl⟩
  · intro fv V1x hF hs
    obtain ⟨-, -, -, -, -, -, -, -, -, -, h7, h8, -⟩ := hs
    replace h7 : fv 7 = .slice none 0 0 := h7
    replace h8 : fv 8 = .int .i64 (12) := h8
    simp only [fin, List.filterMap]
    go_simp
    have hx := hF
    replace X := Lib.hid (X.out.trans hx)
    replace Ky0 := Lib.hid (Ky0.out.ext hx)
    replace Ky1 := Lib.hid (Ky1.out.ext hx)
    replace Ky2 := Lib.hid (Ky2.out.ext hx)
    clear hx y0_0 y0_1 y0_2 y1_0 y1_1 y1_2 y1_3 y2_0 y2_1
    clear hF
    obtain ⟨V1, hV⟩ : ∃ V, V = V1x := ⟨_, rfl⟩
    rw [← hV] at X Ky0 Ky1 Ky2 ⊢
    clear hV
    have y0_0 : V1.cell? ⟨w.heap.size, 0, none⟩ = some (.int .i64 L) := Ky0.out.cell 0
    have y0_1 : V1.cell? ⟨w.heap.size, 1, none⟩ = some (.slice J n cj) := Ky0.out.cell 1
    have y0_2 : V1.cell? ⟨w.heap.size, 2, none⟩ = some (.slice K n ck) := Ky0.out.cell 2
    have y1_0 : V1.cell? ⟨w.heap.size + 1, 0, none⟩ = some (.slice P np cp) := Ky1.out.cell 0
    have y1_1 : V1.cell? ⟨w.heap.size + 1, 1, none⟩ = some (.int .i64 sp) := Ky1.out.cell 1
    have y1_2 : V1.cell? ⟨w.heap.size + 1, 2, none⟩ = some (.int .i64 ga) := Ky1.out.cell 2
    have y1_3 : V1.cell? ⟨w.heap.size + 1, 3, none⟩ = some (.int .i64 li) := Ky1.out.cell 3
    have y2_0 : V1.cell? ⟨w.heap.size + 1 + 1, 0, none⟩ = some (.slice A N ca) := Ky2.out.cell 0
    have y2_1 : V1.cell? ⟨w.heap.size + 1 + 1, 1, none⟩ = some (.int .i64 t) := Ky2.out.cell 1
    go_upto_region 6 with (fail)
    refine wp_region_each [some 63, some 64, some 65, some 66, some 67, some 68, some 69, some 62, some 70, some 71, some 72, some 9, some 10, some 11] [[3], [63], [4], [65], [5], [67], [64, 66, 68], [69], [62], [62], [62], [70], [71], [72]]
      [Is (.agg #[.int .i64 L, .slice J n cj, .slice K n ck]), CopS L js ks n n, Is (.agg #[.slice P np cp, .int .i64 sp, .int .i64 ga, .int .i64 li]), CopP am sp ga li np, Is (.pointer (some ⟨w.heap.size + 1 + 1, 1, none⟩)), Is (.int .i64 (t)), Is (.tuple #[.int .i64 bn, .int .i64 bj, .int .i64 bf]), Is (.tuple #[.int .i64 bn, .int .i64 bj, .int .i64 bf]), Is (.int .i64 (bn)), Is (.int .i64 (bj)), Is (.int .i64 (bf)), Is (.int .i64 (bn)), Is (.int .i64 (bj)), Is (.int .i64 (bf))]
      (by kernel_rfl) (by kernel_rfl) (by kernel_rfl) (by kernel_rfl) (by kernel_rfl) Ext (fun W => Ext V1 W)
      (fun W _ => Ext.refl W) (fun W W' h k => h.trans k) ?_ (Ext.drew _) ?_ ?_
    · repeat (refine ⟨fun _ _ _ _ k h => (by first | exact h | exact (by first | exact IntsAt.ext h k | exact CopS.ext h k | exact CopP.ext h k | exact CopL.ext h k | exact CopX.ext h k | exact FewT.ext h k)), ?_⟩)
      exact trivial
    · refine ⟨?_, ?_, ?_, ?_, ?_, ?_, ?_, ?_, ?_, ?_, ?_, ?_, ?_, ?_, trivial⟩
      all_goals intro ρ W ⟨kc, kg, kf⟩ hF hs
      · obtain ⟨h0, -⟩ := hs
        replace h0 : ρ (.tmp 3) = .pointer (some ⟨w.heap.size, 0, none⟩) := h0
        have hc0 : W.cell? ⟨w.heap.size, 0, none⟩ = some (.int .i64 L) := hF.cell (by assumption)
        have hc1 : W.cell? ⟨w.heap.size, 1, none⟩ = some (.slice J n cj) := hF.cell (by assumption)
        have hc2 : W.cell? ⟨w.heap.size, 2, none⟩ = some (.slice K n ck) := hF.cell (by assumption)
        go_simp
        exact ⟨Ext.refl _, rfl⟩
      · obtain ⟨h0, -⟩ := hs
        replace h0 : ρ (.tmp 63) = .agg #[.int .i64 L, .slice J n cj, .slice K n ck] := h0
        go_simp
        refine (HCP.out _ (X.out.trans hF)).mono ?_; rintro e w' ⟨v, rfl, hc, hx⟩; exact ⟨_, rfl, hx, CopS.of hc⟩
      · obtain ⟨h0, -⟩ := hs
        replace h0 : ρ (.tmp 4) = .pointer (some ⟨w.heap.size + 1, 0, none⟩) := h0
        have hc0 : W.cell? ⟨w.heap.size + 1, 0, none⟩ = some (.slice P np cp) := hF.cell (by assumption)
        have hc1 : W.cell? ⟨w.heap.size + 1, 1, none⟩ = some (.int .i64 sp) := hF.cell (by assumption)
        have hc2 : W.cell? ⟨w.heap.size + 1, 2, none⟩ = some (.int .i64 ga) := hF.cell (by assumption)
        have hc3 : W.cell? ⟨w.heap.size + 1, 3, none⟩ = some (.int .i64 li) := hF.cell (by assumption)
        go_simp
        exact ⟨Ext.refl _, rfl⟩
      · obtain ⟨h0, -⟩ := hs
        replace h0 : ρ (.tmp 65) = .agg #[.slice P np cp, .int .i64 sp, .int .i64 ga, .int .i64 li] := h0
        go_simp
        refine (HCQ.out _ (X.out.trans hF)).mono ?_; rintro e w' ⟨v, rfl, hc, hx⟩; exact ⟨_, rfl, hx, CopP.of hc⟩
      · obtain ⟨h0, -⟩ := hs
        replace h0 : ρ (.tmp 5) = .pointer (some ⟨w.heap.size + 1 + 1, 0, none⟩) := h0
        go_simp
        exact ⟨Ext.refl _, rfl⟩
      · obtain ⟨h0, -⟩ := hs
        replace h0 : ρ (.tmp 67) = .pointer (some ⟨w.heap.size + 1 + 1, 1, none⟩) := h0
        have hc0 : W.cell? ⟨w.heap.size + 1 + 1, 1, none⟩ = some (.int .i64 (t)) := hF.cell (by assumption)
        go_simp
        exact ⟨Ext.refl _, rfl⟩
      · obtain ⟨h0, h1, h2, -⟩ := hs
        replace h0 : (CopS L js ks n n) (ρ (.tmp 64)) W := h0
        replace h1 : (CopP am sp ga li np) (ρ (.tmp 66)) W := h1
        replace h2 : ρ (.tmp 68) = .int .i64 (t) := h2
        obtain ⟨J1, c1, K1, d1, e1, r1, s1, n1, m1⟩ := h0
        replace e1 : ρ (.tmp 64) = .agg #[.int .i64 L, .slice J1 n c1, .slice K1 n d1] := e1
        obtain ⟨P2, c2, e2, r2, n2⟩ := h1
        replace e2 : ρ (.tmp 66) = .agg #[.slice P2 np c2, .int .i64 sp, .int .i64 ga, .int .i64 li] := e2
        go_simp
        refine (HBO.out _ J1 c1 K1 d1 P2 c2 r1 s1 r2).mono ?_; rintro e w' ⟨rfl, hx⟩; exact ⟨_, rfl, hx, rfl⟩
      · obtain ⟨h0, -⟩ := hs
        replace h0 : ρ (.tmp 69) = .tuple #[.int .i64 bn, .int .i64 bj, .int .i64 bf] := h0
        go_simp
        exact ⟨Ext.refl _, rfl⟩
      · obtain ⟨h0, -⟩ := hs
        replace h0 : ρ (.tmp 62) = .tuple #[.int .i64 bn, .int .i64 bj, .int .i64 bf] := h0
        go_simp
        exact ⟨Ext.refl _, rfl⟩
      · obtain ⟨h0, -⟩ := hs
        replace h0 : ρ (.tmp 62) = .tuple #[.int .i64 bn, .int .i64 bj, .int .i64 bf] := h0
        go_simp
        exact ⟨Ext.refl _, rfl⟩
      · obtain ⟨h0, -⟩ := hs
        replace h0 : ρ (.tmp 62) = .tuple #[.int .i64 bn, .int .i64 bj, .int .i64 bf] := h0
        go_simp
        exact ⟨Ext.refl _, rfl⟩
      · obtain ⟨h0, -⟩ := hs
        replace h0 : ρ (.tmp 70) = .int .i64 (bn) := h0
        go_simp
        exact ⟨Ext.refl _, rfl⟩
      · obtain ⟨h0, -⟩ := hs
        replace h0 : ρ (.tmp 71) = .int .i64 (bj) := h0
        go_simp
        exact ⟨Ext.refl _, rfl⟩
      · obtain ⟨h0, -⟩ := hs
        replace h0 : ρ (.tmp 72) = .int .i64 (bf) := h0
        go_simp
        exact ⟨Ext.refl _, rfl⟩
    · intro fv V2x hF hs
      obtain ⟨-, -, -, -, -, -, -, -, -, -, -, h9, h10, h11, -⟩ := hs
      replace h9 : fv 9 = .int .i64 (bn) := h9
      replace h10 : fv 10 = .int .i64 (bj) := h10
      replace h11 : fv 11 = .int .i64 (bf) := h11
      simp only [fin, List.filterMap]
      go_simp
      have hx := hF
      replace X := Lib.hid (X.out.trans hx)
      replace Ky0 := Lib.hid (Ky0.out.ext hx)
      replace Ky1 := Lib.hid (Ky1.out.ext hx)
      replace Ky2 := Lib.hid (Ky2.out.ext hx)
      clear hx y0_0 y0_1 y0_2 y1_0 y1_1 y1_2 y1_3 y2_0 y2_1
      clear hF
      obtain ⟨V2, hV⟩ : ∃ V, V = V2x := ⟨_, rfl⟩
      rw [← hV] at X Ky0 Ky1 Ky2 ⊢
      clear hV
      have y0_0 : V2.cell? ⟨w.heap.size, 0, none⟩ = some (.int .i64 L) := Ky0.out.cell 0
      have y0_1 : V2.cell? ⟨w.heap.size, 1, none⟩ = some (.slice J n cj) := Ky0.out.cell 1
      have y0_2 : V2.cell? ⟨w.heap.size, 2, none⟩ = some (.slice K n ck) := Ky0.out.cell 2
      have y1_0 : V2.cell? ⟨w.heap.size + 1, 0, none⟩ = some (.slice P np cp) := Ky1.out.cell 0
      have y1_1 : V2.cell? ⟨w.heap.size + 1, 1, none⟩ = some (.int .i64 sp) := Ky1.out.cell 1
      have y1_2 : V2.cell? ⟨w.heap.size + 1, 2, none⟩ = some (.int .i64 ga) := Ky1.out.cell 2
      have y1_3 : V2.cell? ⟨w.heap.size + 1, 3, none⟩ = some (.int .i64 li) := Ky1.out.cell 3
      have y2_0 : V2.cell? ⟨w.heap.size + 1 + 1, 0, none⟩ = some (.slice A N ca) := Ky2.out.cell 0
      have y2_1 : V2.cell? ⟨w.heap.size + 1 + 1, 1, none⟩ = some (.int .i64 t) := Ky2.out.cell 1
      go_upto_region 7 with (fail)
      refine wp_region_each [some 74, some 75, some 76, some 77, some 78, some 79, some 80, some 81, some 82, some 83, some 84, some 73, some 85, some 86, some 12, some 13] [[3], [74], [4], [76], [5], [78], [79], [5], [81], [80, 82], [75, 77, 83], [84], [73], [73], [85], [86]]
        [Is (.agg #[.int .i64 L, .slice J n cj, .slice K n ck]), CopS L js ks n n, Is (.agg #[.slice P np cp, .int .i64 sp, .int .i64 ga, .int .i64 li]), CopP am sp ga li np, Is (.pointer (some ⟨w.heap.size + 1 + 1, 0, none⟩)), Is (.slice A N ca), CopL l N, Is (.pointer (some ⟨w.heap.size + 1 + 1, 1, none⟩)), Is (.int .i64 (t)), CopX l t N, Is (.tuple #[.int .i64 cn, .int .i64 ce]), Is (.tuple #[.int .i64 cn, .int .i64 ce]), Is (.int .i64 (cn)), Is (.int .i64 (ce)), Is (.int .i64 (cn)), Is (.int .i64 (ce))]
        (by kernel_rfl) (by kernel_rfl) (by kernel_rfl) (by kernel_rfl) (by kernel_rfl) Ext (fun W => Ext V2 W)
        (fun W _ => Ext.refl W) (fun W W' h k => h.trans k) ?_ (Ext.drew _) ?_ ?_
      · repeat (refine ⟨fun _ _ _ _ k h => (by first | exact h | exact (by first | exact IntsAt.ext h k | exact CopS.ext h k | exact CopP.ext h k | exact CopL.ext h k | exact CopX.ext h k | exact FewT.ext h k)), ?_⟩)
        exact trivial
      · refine ⟨?_, ?_, ?_, ?_, ?_, ?_, ?_, ?_, ?_, ?_, ?_, ?_, ?_, ?_, ?_, ?_, trivial⟩
        all_goals intro ρ W ⟨kc, kg, kf⟩ hF hs
        · obtain ⟨h0, -⟩ := hs
          replace h0 : ρ (.tmp 3) = .pointer (some ⟨w.heap.size, 0, none⟩) := h0
          have hc0 : W.cell? ⟨w.heap.size, 0, none⟩ = some (.int .i64 L) := hF.cell (by assumption)
          have hc1 : W.cell? ⟨w.heap.size, 1, none⟩ = some (.slice J n cj) := hF.cell (by assumption)
          have hc2 : W.cell? ⟨w.heap.size, 2, none⟩ = some (.slice K n ck) := hF.cell (by assumption)
          go_simp
          exact ⟨Ext.refl _, rfl⟩
        · obtain ⟨h0, -⟩ := hs
          replace h0 : ρ (.tmp 74) = .agg #[.int .i64 L, .slice J n cj, .slice K n ck] := h0
          go_simp
          refine (HCP.out _ (X.out.trans hF)).mono ?_; rintro e w' ⟨v, rfl, hc, hx⟩; exact ⟨_, rfl, hx, CopS.of hc⟩
        · obtain ⟨h0, -⟩ := hs
          replace h0 : ρ (.tmp 4) = .pointer (some ⟨w.heap.size + 1, 0, none⟩) := h0
          have hc0 : W.cell? ⟨w.heap.size + 1, 0, none⟩ = some (.slice P np cp) := hF.cell (by assumption)
          have hc1 : W.cell? ⟨w.heap.size + 1, 1, none⟩ = some (.int .i64 sp) := hF.cell (by assumption)
          have hc2 : W.cell? ⟨w.heap.size + 1, 2, none⟩ = some (.int .i64 ga) := hF.cell (by assumption)
          have hc3 : W.cell? ⟨w.heap.size + 1, 3, none⟩ = some (.int .i64 li) := hF.cell (by assumption)
          go_simp
          exact ⟨Ext.refl _, rfl⟩
        · obtain ⟨h0, -⟩ := hs
          replace h0 : ρ (.tmp 76) = .agg #[.slice P np cp, .int .i64 sp, .int .i64 ga, .int .i64 li] := h0
          go_simp
          refine (HCQ.out _ (X.out.trans hF)).mono ?_; rintro e w' ⟨v, rfl, hc, hx⟩; exact ⟨_, rfl, hx, CopP.of hc⟩
        · obtain ⟨h0, -⟩ := hs
          replace h0 : ρ (.tmp 5) = .pointer (some ⟨w.heap.size + 1 + 1, 0, none⟩) := h0
          go_simp
          exact ⟨Ext.refl _, rfl⟩
        · obtain ⟨h0, -⟩ := hs
          replace h0 : ρ (.tmp 78) = .pointer (some ⟨w.heap.size + 1 + 1, 0, none⟩) := h0
          have hc0 : W.cell? ⟨w.heap.size + 1 + 1, 0, none⟩ = some (.slice A N ca) := hF.cell (by assumption)
          go_simp
          exact ⟨Ext.refl _, rfl⟩
        · obtain ⟨h0, -⟩ := hs
          replace h0 : ρ (.tmp 79) = .slice A N ca := h0
          go_simp
          refine (HCL.out _ (X.out.trans hF)).mono ?_; rintro e w' ⟨A', c', rfl, hr, hn1, hc1, hl1, hx⟩; exact ⟨_, rfl, hx, A', c', rfl, hr, hn1⟩
        · obtain ⟨h0, -⟩ := hs
          replace h0 : ρ (.tmp 5) = .pointer (some ⟨w.heap.size + 1 + 1, 0, none⟩) := h0
          go_simp
          exact ⟨Ext.refl _, rfl⟩
        · obtain ⟨h0, -⟩ := hs
          replace h0 : ρ (.tmp 81) = .pointer (some ⟨w.heap.size + 1 + 1, 1, none⟩) := h0
          have hc0 : W.cell? ⟨w.heap.size + 1 + 1, 1, none⟩ = some (.int .i64 (t)) := hF.cell (by assumption)
          go_simp
          exact ⟨Ext.refl _, rfl⟩
        · obtain ⟨h0, h1, -⟩ := hs
          replace h0 : (CopL l N) (ρ (.tmp 80)) W := h0
          replace h1 : ρ (.tmp 82) = .int .i64 (t) := h1
          obtain ⟨A2, c2, e2, r2, n2⟩ := h0
          replace e2 : ρ (.tmp 80) = .slice A2 N c2 := e2
          go_simp
          exact ⟨Ext.refl _, A2, c2, rfl, r2, n2⟩
        · obtain ⟨h0, h1, h2, -⟩ := hs
          replace h0 : (CopS L js ks n n) (ρ (.tmp 75)) W := h0
          replace h1 : (CopP am sp ga li np) (ρ (.tmp 77)) W := h1
          replace h2 : (CopX l t N) (ρ (.tmp 83)) W := h2
          obtain ⟨J1, c1, K1, d1, e1, r1, s1, n1, m1⟩ := h0
          replace e1 : ρ (.tmp 75) = .agg #[.int .i64 L, .slice J1 n c1, .slice K1 n d1] := e1
          obtain ⟨P2, c2, e2, r2, n2⟩ := h1
          replace e2 : ρ (.tmp 77) = .agg #[.slice P2 np c2, .int .i64 sp, .int .i64 ga, .int .i64 li] := e2
          obtain ⟨A3, c3, e3, r3, n3⟩ := h2
          replace e3 : ρ (.tmp 83) = .agg #[.slice A3 N c3, .int .i64 t] := e3
          go_simp
          refine (HCH.out _ J1 c1 K1 d1 P2 c2 A3 c3 r1 s1 r2 r3 n1).mono ?_; rintro e w' ⟨rfl, hx⟩; exact ⟨_, rfl, hx, rfl⟩
        · obtain ⟨h0, -⟩ := hs
          replace h0 : ρ (.tmp 84) = .tuple #[.int .i64 cn, .int .i64 ce] := h0
          go_simp
          exact ⟨Ext.refl _, rfl⟩
        · obtain ⟨h0, -⟩ := hs
          replace h0 : ρ (.tmp 73) = .tuple #[.int .i64 cn, .int .i64 ce] := h0
          go_simp
          exact ⟨Ext.refl _, rfl⟩
        · obtain ⟨h0, -⟩ := hs
          replace h0 : ρ (.tmp 73) = .tuple #[.int .i64 cn, .int .i64 ce] := h0
          go_simp
          exact ⟨Ext.refl _, rfl⟩
        · obtain ⟨h0, -⟩ := hs
          replace h0 : ρ (.tmp 85) = .int .i64 (cn) := h0
          go_simp
          exact ⟨Ext.refl _, rfl⟩
        · obtain ⟨h0, -⟩ := hs
          replace h0 : ρ (.tmp 86) = .int .i64 (ce) := h0
          go_simp
          exact ⟨Ext.refl _, rfl⟩
      · intro fv V3x hF hs
        obtain ⟨-, -, -, -, -, -, -, -, -, -, -, -, -, -, h12, h13, -⟩ := hs
        replace h12 : fv 12 = .int .i64 (cn) := h12
        replace h13 : fv 13 = .int .i64 (ce) := h13
        simp only [fin, List.filterMap]
        go_simp
        have hx := hF
        replace X := Lib.hid (X.out.trans hx)
        replace Ky0 := Lib.hid (Ky0.out.ext hx)
        replace Ky1 := Lib.hid (Ky1.out.ext hx)
        replace Ky2 := Lib.hid (Ky2.out.ext hx)
        clear hx y0_0 y0_1 y0_2 y1_0 y1_1 y1_2 y1_3 y2_0 y2_1
        clear hF
        obtain ⟨V3, hV⟩ : ∃ V, V = V3x := ⟨_, rfl⟩
        rw [← hV] at X Ky0 Ky1 Ky2 ⊢
        clear hV
        have y0_0 : V3.cell? ⟨w.heap.size, 0, none⟩ = some (.int .i64 L) := Ky0.out.cell 0
        have y0_1 : V3.cell? ⟨w.heap.size, 1, none⟩ = some (.slice J n cj) := Ky0.out.cell 1
        have y0_2 : V3.cell? ⟨w.heap.size, 2, none⟩ = some (.slice K n ck) := Ky0.out.cell 2
        have y1_0 : V3.cell? ⟨w.heap.size + 1, 0, none⟩ = some (.slice P np cp) := Ky1.out.cell 0
        have y1_1 : V3.cell? ⟨w.heap.size + 1, 1, none⟩ = some (.int .i64 sp) := Ky1.out.cell 1
        have y1_2 : V3.cell? ⟨w.heap.size + 1, 2, none⟩ = some (.int .i64 ga) := Ky1.out.cell 2
        have y1_3 : V3.cell? ⟨w.heap.size + 1, 3, none⟩ = some (.int .i64 li) := Ky1.out.cell 3
        have y2_0 : V3.cell? ⟨w.heap.size + 1 + 1, 0, none⟩ = some (.slice A N ca) := Ky2.out.cell 0
        have y2_1 : V3.cell? ⟨w.heap.size + 1 + 1, 1, none⟩ = some (.int .i64 t) := Ky2.out.cell 1
        go_upto_region 8 with (fail)
        refine wp_region_each [some 88, some 89, some 90, some 91, some 92, some 87, some 93, some 94, some 14, some 15] [[3], [88], [5], [90], [89, 91], [92], [87], [87], [93], [94]]
          [Is (.agg #[.int .i64 L, .slice J n cj, .slice K n ck]), CopS L js ks n n, Is (.pointer (some ⟨w.heap.size + 1 + 1, 1, none⟩)), Is (.int .i64 (t)), Is (.tuple #[.int .i64 iv, .int .i64 0]), Is (.tuple #[.int .i64 iv, .int .i64 0]), Is (.int .i64 (iv)), Is (.int .i64 (0)), Is (.int .i64 (iv)), Is (.int .i64 (0))]
          (by kernel_rfl) (by kernel_rfl) (by kernel_rfl) (by kernel_rfl) (by kernel_rfl) Ext (fun W => Ext V3 W)
          (fun W _ => Ext.refl W) (fun W W' h k => h.trans k) ?_ (Ext.drew _) ?_ ?_
        · repeat (refine ⟨fun _ _ _ _ k h => (by first | exact h | exact (by first | exact IntsAt.ext h k | exact CopS.ext h k | exact CopP.ext h k | exact CopL.ext h k | exact CopX.ext h k | exact FewT.ext h k)), ?_⟩)
          exact trivial
        · refine ⟨?_, ?_, ?_, ?_, ?_, ?_, ?_, ?_, ?_, ?_, trivial⟩
          all_goals intro ρ W ⟨kc, kg, kf⟩ hF hs
          · obtain ⟨h0, -⟩ := hs
            replace h0 : ρ (.tmp 3) = .pointer (some ⟨w.heap.size, 0, none⟩) := h0
            have hc0 : W.cell? ⟨w.heap.size, 0, none⟩ = some (.int .i64 L) := hF.cell (by assumption)
            have hc1 : W.cell? ⟨w.heap.size, 1, none⟩ = some (.slice J n cj) := hF.cell (by assumption)
            have hc2 : W.cell? ⟨w.heap.size, 2, none⟩ = some (.slice K n ck) := hF.cell (by assumption)
            go_simp
            exact ⟨Ext.refl _, rfl⟩
          · obtain ⟨h0, -⟩ := hs
            replace h0 : ρ (.tmp 88) = .agg #[.int .i64 L, .slice J n cj, .slice K n ck] := h0
            go_simp
            refine (HCP.out _ (X.out.trans hF)).mono ?_; rintro e w' ⟨v, rfl, hc, hx⟩; exact ⟨_, rfl, hx, CopS.of hc⟩
          · obtain ⟨h0, -⟩ := hs
            replace h0 : ρ (.tmp 5) = .pointer (some ⟨w.heap.size + 1 + 1, 0, none⟩) := h0
            go_simp
            exact ⟨Ext.refl _, rfl⟩
          · obtain ⟨h0, -⟩ := hs
            replace h0 : ρ (.tmp 90) = .pointer (some ⟨w.heap.size + 1 + 1, 1, none⟩) := h0
            have hc0 : W.cell? ⟨w.heap.size + 1 + 1, 1, none⟩ = some (.int .i64 (t)) := hF.cell (by assumption)
            go_simp
            exact ⟨Ext.refl _, rfl⟩
          · obtain ⟨h0, h1, -⟩ := hs
            replace h0 : (CopS L js ks n n) (ρ (.tmp 89)) W := h0
            replace h1 : ρ (.tmp 91) = .int .i64 (t) := h1
            obtain ⟨J1, c1, K1, d1, e1, r1, s1, n1, m1⟩ := h0
            replace e1 : ρ (.tmp 89) = .agg #[.int .i64 L, .slice J1 n c1, .slice K1 n d1] := e1
            go_simp
            refine (HIS.out _ J1 c1 K1 d1 r1 s1).mono ?_; rintro e w' ⟨rfl, hx⟩; exact ⟨_, rfl, hx, rfl⟩
          · obtain ⟨h0, -⟩ := hs
            replace h0 : ρ (.tmp 92) = .tuple #[.int .i64 iv, .int .i64 0] := h0
            go_simp
            exact ⟨Ext.refl _, rfl⟩
          · obtain ⟨h0, -⟩ := hs
            replace h0 : ρ (.tmp 87) = .tuple #[.int .i64 iv, .int .i64 0] := h0
            go_simp
            exact ⟨Ext.refl _, rfl⟩
          · obtain ⟨h0, -⟩ := hs
            replace h0 : ρ (.tmp 87) = .tuple #[.int .i64 iv, .int .i64 0] := h0
            go_simp
            exact ⟨Ext.refl _, rfl⟩
          · obtain ⟨h0, -⟩ := hs
            replace h0 : ρ (.tmp 93) = .int .i64 (iv) := h0
            go_simp
            exact ⟨Ext.refl _, rfl⟩
          · obtain ⟨h0, -⟩ := hs
            replace h0 : ρ (.tmp 94) = .int .i64 (0) := h0
            go_simp
            exact ⟨Ext.refl _, rfl⟩
        · intro fv V4x hF hs
          obtain ⟨-, -, -, -, -, -, -, -, h14, h15, -⟩ := hs
          replace h14 : fv 14 = .int .i64 (iv) := h14
          replace h15 : fv 15 = .int .i64 (0) := h15
          simp only [fin, List.filterMap]
          go_simp
          have hx := hF
          replace X := Lib.hid (X.out.trans hx)
          replace Ky0 := Lib.hid (Ky0.out.ext hx)
          replace Ky1 := Lib.hid (Ky1.out.ext hx)
          replace Ky2 := Lib.hid (Ky2.out.ext hx)
          clear hx y0_0 y0_1 y0_2 y1_0 y1_1 y1_2 y1_3 y2_0 y2_1
          clear hF
          obtain ⟨V4, hV⟩ : ∃ V, V = V4x := ⟨_, rfl⟩
          rw [← hV] at X Ky0 Ky1 Ky2 ⊢
          clear hV
          have y0_0 : V4.cell? ⟨w.heap.size, 0, none⟩ = some (.int .i64 L) := Ky0.out.cell 0
          have y0_1 : V4.cell? ⟨w.heap.size, 1, none⟩ = some (.slice J n cj) := Ky0.out.cell 1
          have y0_2 : V4.cell? ⟨w.heap.size, 2, none⟩ = some (.slice K n ck) := Ky0.out.cell 2
          have y1_0 : V4.cell? ⟨w.heap.size + 1, 0, none⟩ = some (.slice P np cp) := Ky1.out.cell 0
          have y1_1 : V4.cell? ⟨w.heap.size + 1, 1, none⟩ = some (.int .i64 sp) := Ky1.out.cell 1
          have y1_2 : V4.cell? ⟨w.heap.size + 1, 2, none⟩ = some (.int .i64 ga) := Ky1.out.cell 2
          have y1_3 : V4.cell? ⟨w.heap.size + 1, 3, none⟩ = some (.int .i64 li) := Ky1.out.cell 3
          have y2_0 : V4.cell? ⟨w.heap.size + 1 + 1, 0, none⟩ = some (.slice A N ca) := Ky2.out.cell 0
          have y2_1 : V4.cell? ⟨w.heap.size + 1 + 1, 1, none⟩ = some (.int .i64 t) := Ky2.out.cell 1
          clear HBO HCH HIS
          have hce2 : (ce == 0) = false := by have := HCE.out; simp [this]
          have hce3 : (ce != 0) = true := by have := HCE.out; simp [this]
          have hiv : (iv == 2) = false := by have := HIV.out; simp [this]
          rcases HBF.out with hb | hb
          · subst hb
            go_wp2
            go_ret
            exact ⟨ret_bool (by simp), X.out⟩
          · subst hb
            go_wp2
            go_ret
            exact ⟨ret_bool (by simp), X.out⟩

end Go.Proofs.Ytjdilmmpdlcimaa
