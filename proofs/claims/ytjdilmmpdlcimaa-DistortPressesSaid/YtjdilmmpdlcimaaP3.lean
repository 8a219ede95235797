/- DistortPresses where the strokes bend a kink too far. -/
import Derived.Test.YtjdilmmpdlcimaaP1
import Derived.Lib.MinMax
import Derived.Deep.DeepCutAuto
import Derived.BigQuiet

namespace Go.Proofs.Ytjdilmmpdlcimaa
open Go.RowKit Go.Shelf Go.Mem Go.RegInv
attribute [local go_sem] RelUpon_value RelUpon_skip RelUpon_enter BigFrame.eval_const BigFrame.eval_global BigFrame.eval_func


set_option maxRecDepth 100000 in
set_option maxHeartbeats 8000000 in
theorem press_no {L : Int} {J K : Option Addr} {n cj ck : Nat} {js : List Int} {ks : List Rg} {w : World} (hn : js.length = n) (hJ : RowsAt 1 I1 w J js) (hm : ks.length = n) (hK : RowsAt 2 Rg.enc w K ks) {P : Option Addr} {np cp : Nat} {am : List Int} {sp ga li : Int} (hnp : am.length = np) (hP : RowsAt 1 I1 w P am) {A : Option Addr} {N ca : Nat} {l : List Sk} (hN : l.length = N) (hA : RowsAt 3 Sk.enc w A l) (hjn : J = none → cj = 0) (hkn : K = none → ck = 0) (hpn : P = none → cp = 0) (hln : A = none → ca = 0) (h6 : n ≤ 6) (_hm6 : n ≤ 6) (h5 : np ≤ 5) (hN6 : N ≤ 6) (hz1e : (checkS L js ks).2 = 0) (hcp0 : (checkP am sp ga li).2 = 0) (hse : strokesE n am li l = 0) (hae : aftE ga sp l ks n = 2) :
    Calls Try.prog 6 #[.agg #[.int .i64 L, .slice J n cj, .slice K n ck], .agg #[.slice P np cp, .int .i64 sp, .int .i64 ga, .int .i64 li], .slice A N ca] w fun e w' => e = .returned (.bool true) ∧ Ext w w' := by
  have hdN : decide ((6 : Int) < (N : Int)) = false := by simp; omega
  obtain ⟨kp0, hkp⟩ : ∃ z, (checkP am sp ga li).1 = z := ⟨_, rfl⟩
  have hs := checkS_ok hz1e
  have hpo := checkP_ok hcp0
  have hpl := strokesE_ok hse
  have hfz : aftT L js ks am sp ga li l = 2 := by
    unfold aftT
    rw [if_neg (by simpa using hz1e), if_neg (by simpa using hcp0), hn, if_neg (by simpa using hse), hae]
  obtain ⟨ak, hak⟩ : ∃ a, aftK ga sp l ks n = a := ⟨_, rfl⟩
  have HAL := Lib.hid (show ak.length = n by rw [← hak]; simp [aftK, kinkL])
  have HCZ := Lib.hid (show (0 : Int) = 0 from rfl)
  have HSE := Lib.hid (fun W (e : Ext w W) => show Calls Try.prog 42 #[.agg #[.int .i64 L, .slice J n cj, .slice K n ck], .agg #[.slice P np cp, .int .i64 sp, .int .i64 ga, .int .i64 li], .slice A N ca] W fun e w' => e = .returned (.int .i64 0) ∧ Ext W w' from by have := refStrokesErr_any (L := L) (J := J) (K := K) (n := n) (m := n) (cj := cj) (ck := ck) (cp := cp) (sp := sp) (ga := ga) (li := li) (ca := ca) hnp (hP.ext e) (by omega) hpo.am1 hN (hA.ext e); rw [hse] at this; exact this)
  have HRA := Lib.hid (fun W (e : Ext w W) => show Calls Try.prog 43 #[.agg #[.int .i64 L, .slice J n cj, .slice K n ck], .agg #[.slice P np cp, .int .i64 sp, .int .i64 ga, .int .i64 li], .slice A N ca] W fun e w' => ∃ v, e = .returned (.tuple #[v, .int .i64 2]) ∧ v = .agg #[.int .i64 0, .slice none 0 0, .slice none 0 0] ∧ Ext W w' from by
    have h := refAfter_any (cj := cj) (ck := ck) (P := P) (np := np) (cp := cp) (am := am) (sp := sp) (ga := ga) (li := li) (ca := ca) hn (hJ.ext e) hm (hK.ext e) hjn hkn hs hpo hN (hA.ext e) hpl
    rw [hae] at h
    refine h.mono ?_
    rintro e w' ⟨v, h1, h2, h3⟩
    rw [AftC, if_neg (by decide)] at h2
    exact ⟨v, h1, h2, h3⟩)
  have HJ1 := Lib.hid (fun i (hi : i < js.length) => (hs.at' i hi).1)
  have HCK := Lib.hid (fun W P9 c9 (h : RowsAt 1 I1 W P9 am) => show Calls Try.prog 34 #[.agg #[.slice P9 np c9, .int .i64 sp, .int .i64 ga, .int .i64 li]] W fun e w' => e = .returned (.tuple #[.int .i64 kp0, .int .i64 0]) ∧ Ext W w' from by have := checkPress_any (cp := c9) (sp := sp) (ga := ga) (li := li) hnp h; rw [hkp, hcp0] at this; exact this)
  have HRP := Lib.hid (fun W (e : Ext w W) => show Calls Try.prog 38 #[.agg #[.slice P np cp, .int .i64 sp, .int .i64 ga, .int .i64 li]] W fun e w' => e = .returned (.tuple #[.int .i64 kp0, .int .i64 0]) ∧ Ext W w' from by have := refCheckPress_any (cp := cp) (sp := sp) (ga := ga) (li := li) hnp (hP.ext e); rw [hkp, hcp0] at this; exact this)
  have HSH := Lib.hid (fun W (e : Ext w W) => show Calls Try.prog 27 #[.agg #[.int .i64 L, .slice J n cj, .slice K n ck]] W fun e w' => e = .returned (.int .i64 0) ∧ Ext W w' from by have := refShaftErr_any (cj := cj) (ck := ck) (L := L) hn (hJ.ext e) hm (hK.ext e); rw [hz1e] at this; exact this)
  have HB39 := Lib.hid (fun (x : Sk) W P2 c2 (h : RowsAt 1 I1 W P2 am) => bentBy39_any (cp := c2) (sp := sp) (ga := ga) (li := li) (x := x) hnp h)
  have HBE1 := Lib.hid (fun (x : Sk) => bbE_cases (P := P) (np := np) (cp := cp) hcp0 x)
  have HAFT := Lib.hid (fun W J1 c1 K1 d1 P2 c2 A3 c3 (r1 : RowsAt 1 I1 W J1 js) (s1 : RowsAt 2 Rg.enc W K1 ks) (r2 : RowsAt 1 I1 W P2 am) (r3 : RowsAt 3 Sk.enc W A3 l) (n1 : J1 = none → c1 = 0) => show Calls Try.prog 36 #[.agg #[.int .i64 L, .slice J1 n c1, .slice K1 n d1], .agg #[.slice P2 np c2, .int .i64 sp, .int .i64 ga, .int .i64 li], .slice A3 N c3] W fun e w' => e = .returned (.tuple #[.agg #[.int .i64 0, .slice none 0 0, .slice none 0 0], .int .i64 2]) ∧ Ext W w' from by
    have h := after36_any (ck := d1) (cp := c2) (ca := c3) (L := L) (sp := sp) (ga := ga) (li := li) hn r1 hm s1 hnp r2 hN r3 n1
    rw [hfz] at h
    refine h.mono ?_
    rintro e w' ⟨v, h1, h2, h3⟩
    rw [AftV, if_neg (by decide)] at h2
    subst h2
    exact ⟨h1, h3⟩)
  have HCP := Lib.hid (fun W (e : Ext w W) => copyShaft_any (L := L) (cj := cj) (ck := ck) hn (hJ.ext e) hm (hK.ext e) hjn hkn (by omega) (by omega))
  have HCQ := Lib.hid (fun W (e : Ext w W) => copyPress_any (cp := cp) (sp := sp) (ga := ga) (li := li) hnp (hP.ext e) hpn (by omega))
  have HCL := Lib.hid (fun W (e : Ext w W) => copyPlan_any (ca := ca) hN (hA.ext e) (by omega) hln)
  have HFEW := Lib.hid (fun W => show Calls Try.prog 14 #[.agg #[.int .i64 L, .slice J n cj, .slice K n ck]] W fun e w' => e = .returned (.bool true) ∧ Ext W w' from by have := few_any (L := L) (J := J) (K := K) (n := n) (m := n) (cj := cj) (ck := ck) W (by unfold maxLen; omega) (by unfold maxLen; omega); rw [show few2 n n = true by simp [few2, h6]] at this; exact this)
  have HFEA := Lib.hid (fun W => show Calls Try.prog 33 #[.agg #[.slice P np cp, .int .i64 sp, .int .i64 ga, .int .i64 li]] W fun e w' => e = .returned (.bool true) ∧ Ext W w' from by have := fewAmounts_any (P := P) (np := np) (cp := cp) (sp := sp) (ga := ga) (li := li) W (by unfold maxLen; omega); rw [show few1 np = true by simp [few1, h5]] at this; exact this)
  have HN := Lib.hid hN
  have HN2 := Lib.hid hn
  have HA := Lib.hid hA
  have HNP := Lib.hid hnp
  have HP := Lib.hid hP
  clear hn hJ hm hK hnp hP hN hA hjn hkn hpn hln hkp hz1e hcp0 hse hae hs hpo hpl hfz hak
  obtain ⟨W0, hW0⟩ : ∃ W0, W0 = (w.alloc (.cells #[.int .i64 L, .slice J n cj, .slice K n ck] 25)).alloc (.cells #[.slice P np cp, .int .i64 sp, .int .i64 ga, .int .i64 li] 58) := ⟨_, rfl⟩
  have Ky0 := Lib.hid (show Blk W0 (w.heap.size) 25 #[.int .i64 L, .slice J n cj, .slice K n ck] by rw [hW0]; exact (Blk.new _ _ _).alloc _)
  have Ky1 := Lib.hid (show Blk W0 (w.heap.size + 1) 58 #[.slice P np cp, .int .i64 sp, .int .i64 ga, .int .i64 li] by rw [hW0]; exact Blk.newAt _ _ _ (by simp))
  have X := Lib.hid (show Ext w W0 by rw [hW0]; exact (Ext.alloc _ _).trans (Ext.alloc _ _))
  have y0_0 : W0.cell? ⟨w.heap.size, 0, none⟩ = some (.int .i64 L) := Ky0.out.cell 0
  have y0_1 : W0.cell? ⟨w.heap.size, 1, none⟩ = some (.slice J n cj) := Ky0.out.cell 1
  have y0_2 : W0.cell? ⟨w.heap.size, 2, none⟩ = some (.slice K n ck) := Ky0.out.cell 2
  have y1_0 : W0.cell? ⟨w.heap.size + 1, 0, none⟩ = some (.slice P np cp) := Ky1.out.cell 0
  have y1_1 : W0.cell? ⟨w.heap.size + 1, 1, none⟩ = some (.int .i64 sp) := Ky1.out.cell 1
  have y1_2 : W0.cell? ⟨w.heap.size + 1, 2, none⟩ = some (.int .i64 ga) := Ky1.out.cell 2
  have y1_3 : W0.cell? ⟨w.heap.size + 1, 3, none⟩ = some (.int .i64 li) := Ky1.out.cell 3
  go_enter Try.func6, Try.ntmps6
  go_upto_region 1 with (fail)
  rw [← hW0]
  clear hW0
  go_wp2_with (go_at_call 13; refine (awake_any _).mono ?_; rintro e W1 ⟨rfl, hx⟩; replace X := Lib.hid (X.out.trans hx); replace Ky0 := Lib.hid (Ky0.out.ext hx); replace Ky1 := Lib.hid (Ky1.out.ext hx); clear hx y0_0 y0_1 y0_2 y1_0 y1_1 y1_2 y1_3; refine Hid.out ?_)
  refine Lib.hid ?_
  have y0_0 : W1.cell? ⟨w.heap.size, 0, none⟩ = some (.int .i64 L) := Ky0.out.cell 0
  have y0_1 : W1.cell? ⟨w.heap.size, 1, none⟩ = some (.slice J n cj) := Ky0.out.cell 1
  have y0_2 : W1.cell? ⟨w.heap.size, 2, none⟩ = some (.slice K n ck) := Ky0.out.cell 2
  have y1_0 : W1.cell? ⟨w.heap.size + 1, 0, none⟩ = some (.slice P np cp) := Ky1.out.cell 0
  have y1_1 : W1.cell? ⟨w.heap.size + 1, 1, none⟩ = some (.int .i64 sp) := Ky1.out.cell 1
  have y1_2 : W1.cell? ⟨w.heap.size + 1, 2, none⟩ = some (.int .i64 ga) := Ky1.out.cell 2
  have y1_3 : W1.cell? ⟨w.heap.size + 1, 3, none⟩ = some (.int .i64 li) := Ky1.out.cell 3
  go_wp2_with (go_at_call 14; refine (HFEW.out _).mono ?_; rintro e W2 ⟨rfl, hx⟩; replace X := Lib.hid (X.out.trans hx); replace Ky0 := Lib.hid (Ky0.out.ext hx); replace Ky1 := Lib.hid (Ky1.out.ext hx); clear hx y0_0 y0_1 y0_2 y1_0 y1_1 y1_2 y1_3; refine Hid.out ?_)
  refine Lib.hid ?_
  have y0_0 : W2.cell? ⟨w.heap.size, 0, none⟩ = some (.int .i64 L) := Ky0.out.cell 0
  have y0_1 : W2.cell? ⟨w.heap.size, 1, none⟩ = some (.slice J n cj) := Ky0.out.cell 1
  have y0_2 : W2.cell? ⟨w.heap.size, 2, none⟩ = some (.slice K n ck) := Ky0.out.cell 2
  have y1_0 : W2.cell? ⟨w.heap.size + 1, 0, none⟩ = some (.slice P np cp) := Ky1.out.cell 0
  have y1_1 : W2.cell? ⟨w.heap.size + 1, 1, none⟩ = some (.int .i64 sp) := Ky1.out.cell 1
  have y1_2 : W2.cell? ⟨w.heap.size + 1, 2, none⟩ = some (.int .i64 ga) := Ky1.out.cell 2
  have y1_3 : W2.cell? ⟨w.heap.size + 1, 3, none⟩ = some (.int .i64 li) := Ky1.out.cell 3
  go_wp2_with (go_at_call 33; refine (HFEA.out _).mono ?_; rintro e W3 ⟨rfl, hx⟩; replace X := Lib.hid (X.out.trans hx); replace Ky0 := Lib.hid (Ky0.out.ext hx); replace Ky1 := Lib.hid (Ky1.out.ext hx); clear hx y0_0 y0_1 y0_2 y1_0 y1_1 y1_2 y1_3; refine Hid.out ?_)
  refine Lib.hid ?_
  have y0_0 : W3.cell? ⟨w.heap.size, 0, none⟩ = some (.int .i64 L) := Ky0.out.cell 0
  have y0_1 : W3.cell? ⟨w.heap.size, 1, none⟩ = some (.slice J n cj) := Ky0.out.cell 1
  have y0_2 : W3.cell? ⟨w.heap.size, 2, none⟩ = some (.slice K n ck) := Ky0.out.cell 2
  have y1_0 : W3.cell? ⟨w.heap.size + 1, 0, none⟩ = some (.slice P np cp) := Ky1.out.cell 0
  have y1_1 : W3.cell? ⟨w.heap.size + 1, 1, none⟩ = some (.int .i64 sp) := Ky1.out.cell 1
  have y1_2 : W3.cell? ⟨w.heap.size + 1, 2, none⟩ = some (.int .i64 ga) := Ky1.out.cell 2
  have y1_3 : W3.cell? ⟨w.heap.size + 1, 3, none⟩ = some (.int .i64 li) := Ky1.out.cell 3
  go_wp2_with (go_at_call 35; refine (HCQ.out _ X.out).mono ?_; rintro e W4 ⟨v, rfl, hc, hx⟩; obtain ⟨P9, c9, rfl, hr9, -⟩ := CopP.of hc; have RP9 := Lib.hid hr9; clear hr9 hc; replace X := Lib.hid (X.out.trans hx); replace Ky0 := Lib.hid (Ky0.out.ext hx); replace Ky1 := Lib.hid (Ky1.out.ext hx); clear hx y0_0 y0_1 y0_2 y1_0 y1_1 y1_2 y1_3; refine Hid.out ?_)
  refine Lib.hid ?_
  have y0_0 : W4.cell? ⟨w.heap.size, 0, none⟩ = some (.int .i64 L) := Ky0.out.cell 0
  have y0_1 : W4.cell? ⟨w.heap.size, 1, none⟩ = some (.slice J n cj) := Ky0.out.cell 1
  have y0_2 : W4.cell? ⟨w.heap.size, 2, none⟩ = some (.slice K n ck) := Ky0.out.cell 2
  have y1_0 : W4.cell? ⟨w.heap.size + 1, 0, none⟩ = some (.slice P np cp) := Ky1.out.cell 0
  have y1_1 : W4.cell? ⟨w.heap.size + 1, 1, none⟩ = some (.int .i64 sp) := Ky1.out.cell 1
  have y1_2 : W4.cell? ⟨w.heap.size + 1, 2, none⟩ = some (.int .i64 ga) := Ky1.out.cell 2
  have y1_3 : W4.cell? ⟨w.heap.size + 1, 3, none⟩ = some (.int .i64 li) := Ky1.out.cell 3
  go_wp2_with (go_at_call 34; refine (HCK.out _ _ _ RP9.out).mono ?_; rintro e W5 ⟨rfl, hx⟩; replace X := Lib.hid (X.out.trans hx); replace Ky0 := Lib.hid (Ky0.out.ext hx); replace Ky1 := Lib.hid (Ky1.out.ext hx); clear hx y0_0 y0_1 y0_2 y1_0 y1_1 y1_2 y1_3; refine Hid.out ?_)
  refine Lib.hid ?_
  have y0_0 : W5.cell? ⟨w.heap.size, 0, none⟩ = some (.int .i64 L) := Ky0.out.cell 0
  have y0_1 : W5.cell? ⟨w.heap.size, 1, none⟩ = some (.slice J n cj) := Ky0.out.cell 1
  have y0_2 : W5.cell? ⟨w.heap.size, 2, none⟩ = some (.slice K n ck) := Ky0.out.cell 2
  have y1_0 : W5.cell? ⟨w.heap.size + 1, 0, none⟩ = some (.slice P np cp) := Ky1.out.cell 0
  have y1_1 : W5.cell? ⟨w.heap.size + 1, 1, none⟩ = some (.int .i64 sp) := Ky1.out.cell 1
  have y1_2 : W5.cell? ⟨w.heap.size + 1, 2, none⟩ = some (.int .i64 ga) := Ky1.out.cell 2
  have y1_3 : W5.cell? ⟨w.heap.size + 1, 3, none⟩ = some (.int .i64 li) := Ky1.out.cell 3
  clear RP9 HFEW HFEA
  go_upto_region 6 with (fail)
  refine wp_region_free [.op, .op, .op, .op, .op, .op, .op, .op, .op, .late (.int .i64 (2)), .new, .store, .late (.int .i64 (2))] [11] [9, 48] [9] [some 41, some 42, some 43, some 44, some 45, some 46, some 47, some 40, some 48, some 49, some 9, none, some 10] [[3], [41], [4], [43], [2], [45], [42, 44, 46], [47], [40], [40], [], [9, 48], [49]]
    [Is (.agg #[.int .i64 L, .slice J n cj, .slice K n ck]), CopS L js ks n n, Is (.agg #[.slice P np cp, .int .i64 sp, .int .i64 ga, .int .i64 li]), CopP am sp ga li np, Is (.slice A N ca), CopL l N, Is (.tuple #[.agg #[.int .i64 0, .slice none 0 0, .slice none 0 0], .int .i64 2]), Is (.tuple #[.agg #[.int .i64 0, .slice none 0 0, .slice none 0 0], .int .i64 2]), Is (.agg #[.int .i64 0, .slice none 0 0, .slice none 0 0]), Is (.int .i64 (2)), NewP W5.heap.size 25 #[.int .i64 0, .slice none 0 0, .slice none 0 0], fun _ _ => True, Is (.int .i64 (2))]
    (by kernel_rfl) (by kernel_rfl) (by kernel_rfl) (by kernel_rfl) (by kernel_rfl) (by kernel_rfl) (by kernel_rfl) (by kernel_rfl) (by kernel_rfl) Ext (fun W => Ext W5 W)
    (fun W _ => Ext.refl W) (fun W W' h k => h.trans k) (fun W W' h => h.size) ?_ (Ext.drew _) ?_ ?_
  · repeat (refine ⟨fun _ _ _ _ k h => (by first | exact h | exact (by first | exact IntsAt.ext h k | exact NewP.ext h k | exact CopS.ext h k | exact CopP.ext h k | exact CopL.ext h k | exact AftT.ext h k)), ?_⟩)
    exact trivial
  · refine ⟨?_, ?_, ?_, ?_, ?_, ?_, ?_, ?_, ?_, ?_, ?_, ?_, trivial⟩
    · intro ρ W ⟨kc, kg, kf⟩ hF hs
      obtain ⟨h0, -⟩ := hs
      replace h0 : ρ (.tmp 3) = .pointer (some ⟨w.heap.size, 0, none⟩) := h0
      have hc0 : W.cell? ⟨w.heap.size, 0, none⟩ = some (.int .i64 L) := hF.cell (by assumption)
      have hc1 : W.cell? ⟨w.heap.size, 1, none⟩ = some (.slice J n cj) := hF.cell (by assumption)
      have hc2 : W.cell? ⟨w.heap.size, 2, none⟩ = some (.slice K n ck) := hF.cell (by assumption)
      go_simp
      exact ⟨Ext.refl _, rfl⟩
    · intro ρ W ⟨kc, kg, kf⟩ hF hs
      obtain ⟨h0, -⟩ := hs
      replace h0 : ρ (.tmp 41) = .agg #[.int .i64 L, .slice J n cj, .slice K n ck] := h0
      go_simp
      refine (HCP.out _ (X.out.trans hF)).mono ?_; rintro e w' ⟨v, rfl, hc, hx⟩; exact ⟨_, rfl, hx, CopS.of hc⟩
    · intro ρ W ⟨kc, kg, kf⟩ hF hs
      obtain ⟨h0, -⟩ := hs
      replace h0 : ρ (.tmp 4) = .pointer (some ⟨w.heap.size + 1, 0, none⟩) := h0
      have hc0 : W.cell? ⟨w.heap.size + 1, 0, none⟩ = some (.slice P np cp) := hF.cell (by assumption)
      have hc1 : W.cell? ⟨w.heap.size + 1, 1, none⟩ = some (.int .i64 sp) := hF.cell (by assumption)
      have hc2 : W.cell? ⟨w.heap.size + 1, 2, none⟩ = some (.int .i64 ga) := hF.cell (by assumption)
      have hc3 : W.cell? ⟨w.heap.size + 1, 3, none⟩ = some (.int .i64 li) := hF.cell (by assumption)
      go_simp
      exact ⟨Ext.refl _, rfl⟩
    · intro ρ W ⟨kc, kg, kf⟩ hF hs
      obtain ⟨h0, -⟩ := hs
      replace h0 : ρ (.tmp 43) = .agg #[.slice P np cp, .int .i64 sp, .int .i64 ga, .int .i64 li] := h0
      go_simp
      refine (HCQ.out _ (X.out.trans hF)).mono ?_; rintro e w' ⟨v, rfl, hc, hx⟩; exact ⟨_, rfl, hx, CopP.of hc⟩
    · intro ρ W ⟨kc, kg, kf⟩ hF hs
      obtain ⟨h0, -⟩ := hs
      replace h0 : ρ (.tmp 2) = .slice A N ca := h0
      go_simp
      exact ⟨Ext.refl _, rfl⟩
    · intro ρ W ⟨kc, kg, kf⟩ hF hs
      obtain ⟨h0, -⟩ := hs
      replace h0 : ρ (.tmp 45) = .slice A N ca := h0
      go_simp
      refine (HCL.out _ (X.out.trans hF)).mono ?_; rintro e w' ⟨A', c', rfl, hr, hn1, hc1, hl1, hx⟩; exact ⟨_, rfl, hx, A', c', rfl, hr, hn1⟩
    · intro ρ W ⟨kc, kg, kf⟩ hF hs
      obtain ⟨h0, h1, h2, -⟩ := hs
      replace h0 : (CopS L js ks n n) (ρ (.tmp 42)) W := h0
      replace h1 : (CopP am sp ga li np) (ρ (.tmp 44)) W := h1
      replace h2 : (CopL l N) (ρ (.tmp 46)) W := h2
      obtain ⟨J1, c1, K1, d1, e1, r1, s1, n1, m1⟩ := h0
      replace e1 : ρ (.tmp 42) = .agg #[.int .i64 L, .slice J1 n c1, .slice K1 n d1] := e1
      obtain ⟨P2, c2, e2, r2, n2⟩ := h1
      replace e2 : ρ (.tmp 44) = .agg #[.slice P2 np c2, .int .i64 sp, .int .i64 ga, .int .i64 li] := e2
      obtain ⟨A3, c3, e3, r3, n3⟩ := h2
      replace e3 : ρ (.tmp 46) = .slice A3 N c3 := e3
      go_simp
      refine (HAFT.out _ J1 c1 K1 d1 P2 c2 A3 c3 r1 s1 r2 r3 n1).mono ?_; rintro e w' ⟨rfl, hx⟩; exact ⟨_, rfl, hx, rfl⟩
    · intro ρ W ⟨kc, kg, kf⟩ hF hs
      obtain ⟨h0, -⟩ := hs
      replace h0 : ρ (.tmp 47) = .tuple #[.agg #[.int .i64 0, .slice none 0 0, .slice none 0 0], .int .i64 2] := h0
      go_simp
      exact ⟨Ext.refl _, rfl⟩
    · intro ρ W ⟨kc, kg, kf⟩ hF hs
      obtain ⟨h0, -⟩ := hs
      replace h0 : ρ (.tmp 40) = .tuple #[.agg #[.int .i64 0, .slice none 0 0, .slice none 0 0], .int .i64 2] := h0
      go_simp
      exact ⟨Ext.refl _, rfl⟩
    · refine ⟨rfl, fun ρ W ⟨kc, kg, kf⟩ hF hs W' => ?_⟩
      obtain ⟨h0, -⟩ := hs
      replace h0 : ρ (.tmp 40) = .tuple #[.agg #[.int .i64 0, .slice none 0 0, .slice none 0 0], .int .i64 2] := h0
      go_simp
    · intro ρ W ⟨kc, kg, kf⟩ hF hs
      exact ⟨W.alloc (.cells #[.int .i64 0, .slice none 0 0, .slice none 0 0] 25), (by go_simp), by simp, Ext.alloc _ _, _, rfl, hF.size, Blk.new _ _ _⟩
    · refine ⟨rfl, fun ρ W ⟨kc, kg, kf⟩ hF hs W' => ?_⟩
      obtain ⟨h0, -⟩ := hs
      replace h0 : ρ (.tmp 49) = .int .i64 (2) := h0
      go_simp
  · intro fv U hF hs hap σ hσ ρ ⟨kc, kg, kf⟩ hr
    obtain ⟨-, -, -, -, -, -, -, -, h48, h49, h9, h10, -⟩ := hs
    replace h48 : fv 48 = .agg #[.int .i64 0, .slice none 0 0, .slice none 0 0] := h48
    replace h49 : fv 49 = .int .i64 (2) := h49
    replace h9 : (NewP W5.heap.size 25 #[.int .i64 0, .slice none 0 0, .slice none 0 0]) (fv 9) U := h9
    replace h10 : fv 10 = .int .i64 (2) := h10
    obtain ⟨r0, r1, -⟩ := hr
    replace r0 : ρ (.tmp 9) = fv 9 := r0
    replace r1 : ρ (.tmp 48) = .agg #[.int .i64 0, .slice none 0 0, .slice none 0 0] := r1.trans h48
    obtain ⟨q9, hq9, hqs9, hb9⟩ := h9
    rw [hq9] at r0
    have f9_0 := hb9.free 0
    have c9_0 : U.cell? ⟨q9, 0, none⟩ = some (.int .i64 0) := hb9.cell 0
    have f9_1 := hb9.free 1
    have c9_1 : U.cell? ⟨q9, 1, none⟩ = some (.slice none 0 0) := hb9.cell 1
    have f9_2 := hb9.free 2
    have c9_2 : U.cell? ⟨q9, 2, none⟩ = some (.slice none 0 0) := hb9.cell 2
    refine stores_one _ rfl hσ (((U.setCell ⟨q9, 0, none⟩ (.int .i64 0)).setCell ⟨q9, 1, none⟩ (.slice none 0 0)).setCell ⟨q9, 2, none⟩ (.slice none 0 0)) (by go_simp) ?_
    obtain ⟨V1, hV1⟩ : ∃ Vx, Vx = ((U.setCell ⟨q9, 0, none⟩ (.int .i64 0)).setCell ⟨q9, 1, none⟩ (.slice none 0 0)).setCell ⟨q9, 2, none⟩ (.slice none 0 0) := ⟨_, rfl⟩
    rw [← hV1]
    have K9 := Lib.hid (show Blk V1 q9 25 #[.int .i64 0, .slice none 0 0, .slice none 0 0] by rw [hV1]; exact ((hb9.setSame 0 _).setSame 1 _).setSame 2 _)
    have XN := Lib.hid (show Ext W5 V1 by rw [hV1]; exact Ext.set (Ext.set (Ext.set hF (by dsimp only; exact hqs9) _) (by dsimp only; exact hqs9) _) (by dsimp only; exact hqs9) _)
    have L9 := Lib.hid hqs9
    clear f9_0 c9_0 f9_1 c9_1 f9_2 c9_2
    clear hV1 hF hap hσ r0 r1 kc kg kf hb9 hqs9
    simp only [fin, List.filterMap]
    go_simp
    try rw [hq9]
    clear hq9
    clear ρ σ h48 h49 h10
    have hx := XN.out
    replace X := Lib.hid (X.out.trans hx)
    replace Ky0 := Lib.hid (Ky0.out.ext hx)
    replace Ky1 := Lib.hid (Ky1.out.ext hx)
    clear hx y0_0 y0_1 y0_2 y1_0 y1_1 y1_2 y1_3
    have Ky9 := K9
    clear K9 XN L9 HAFT
    have y0_0 : V1.cell? ⟨w.heap.size, 0, none⟩ = some (.int .i64 L) := Ky0.out.cell 0
    have y0_1 : V1.cell? ⟨w.heap.size, 1, none⟩ = some (.slice J n cj) := Ky0.out.cell 1
    have y0_2 : V1.cell? ⟨w.heap.size, 2, none⟩ = some (.slice K n ck) := Ky0.out.cell 2
    have y1_0 : V1.cell? ⟨w.heap.size + 1, 0, none⟩ = some (.slice P np cp) := Ky1.out.cell 0
    have y1_1 : V1.cell? ⟨w.heap.size + 1, 1, none⟩ = some (.int .i64 sp) := Ky1.out.cell 1
    have y1_2 : V1.cell? ⟨w.heap.size + 1, 2, none⟩ = some (.int .i64 ga) := Ky1.out.cell 2
    have y1_3 : V1.cell? ⟨w.heap.size + 1, 3, none⟩ = some (.int .i64 li) := Ky1.out.cell 3
    have y9_0 : V1.cell? ⟨q9, 0, none⟩ = some (.int .i64 0) := Ky9.out.cell 0
    have y9_1 : V1.cell? ⟨q9, 1, none⟩ = some (.slice none 0 0) := Ky9.out.cell 1
    have y9_2 : V1.cell? ⟨q9, 2, none⟩ = some (.slice none 0 0) := Ky9.out.cell 2
    go_wp2_with (go_at_call 38; refine (HRP.out _ X.out).mono ?_; rintro e W6 ⟨rfl, hx⟩; replace X := Lib.hid (X.out.trans hx); replace Ky0 := Lib.hid (Ky0.out.ext hx); replace Ky1 := Lib.hid (Ky1.out.ext hx); replace Ky9 := Lib.hid (Ky9.out.ext hx); clear hx y0_0 y0_1 y0_2 y1_0 y1_1 y1_2 y1_3 y9_0 y9_1 y9_2; refine Hid.out ?_)
    refine Lib.hid ?_
    have y0_0 : W6.cell? ⟨w.heap.size, 0, none⟩ = some (.int .i64 L) := Ky0.out.cell 0
    have y0_1 : W6.cell? ⟨w.heap.size, 1, none⟩ = some (.slice J n cj) := Ky0.out.cell 1
    have y0_2 : W6.cell? ⟨w.heap.size, 2, none⟩ = some (.slice K n ck) := Ky0.out.cell 2
    have y1_0 : W6.cell? ⟨w.heap.size + 1, 0, none⟩ = some (.slice P np cp) := Ky1.out.cell 0
    have y1_1 : W6.cell? ⟨w.heap.size + 1, 1, none⟩ = some (.int .i64 sp) := Ky1.out.cell 1
    have y1_2 : W6.cell? ⟨w.heap.size + 1, 2, none⟩ = some (.int .i64 ga) := Ky1.out.cell 2
    have y1_3 : W6.cell? ⟨w.heap.size + 1, 3, none⟩ = some (.int .i64 li) := Ky1.out.cell 3
    have y9_0 : W6.cell? ⟨q9, 0, none⟩ = some (.int .i64 0) := Ky9.out.cell 0
    have y9_1 : W6.cell? ⟨q9, 1, none⟩ = some (.slice none 0 0) := Ky9.out.cell 1
    have y9_2 : W6.cell? ⟨q9, 2, none⟩ = some (.slice none 0 0) := Ky9.out.cell 2
    clear HRP HCK
    go_upto_region 10 with (fail)
    go_wp2
    clear y0_0 y0_1 y0_2 y1_0 y1_1 y1_2 y1_3 y9_0 y9_1 y9_2
    go_loopw [13] (fun i wr => ∃ k : Nat, k ≤ N ∧ i = .int .i64 (k : Int) ∧ Ext w wr ∧ Blk wr w.heap.size 25 #[.int .i64 L, .slice J n cj, .slice K n ck] ∧ Blk wr (w.heap.size + 1) 58 #[.slice P np cp, .int .i64 sp, .int .i64 ga, .int .i64 li] ∧ Blk wr q9 25 #[.int .i64 0, .slice none 0 0, .slice none 0 0]) (fun i _ => N - (intOf i).toNat)
    case atStart => exact ⟨0, by omega, rfl, X.out, Ky0.out, Ky1.out, Ky9.out⟩
    case round =>
      clear X Ky0 Ky1 Ky9
      obtain ⟨k, hk, rfl, hx, k0, k1, k9⟩ := hrel
      have X := Lib.hid hx
      have Ky0 := Lib.hid k0
      have Ky1 := Lib.hid k1
      have Ky9 := Lib.hid k9
    
    
      clear hx k0 k1 k9
      by_cases hlt : k < N
      · have hxk := getD_some (xs := l) (i := k) (by have := HN.out; omega)
        generalize l.getD k default = x at *
        obtain ⟨b, o, rfl, hb, hc⟩ := row_at (HA.out.ext X.out) hxk
        have hki : (k : Int) < (N : Int) := by omega
        have HBB := Lib.hid (HB39.out x)
        obtain ⟨bb, hbb⟩ : ∃ z, z = bbE am sp ga li x := ⟨_, rfl⟩
        obtain ⟨bv, hbv⟩ : ∃ z, z = (if bbE am sp ga li x = 0 then bentV ga sp x else 0) := ⟨_, rfl⟩
        rw [← hbv, ← hbb] at HBB
        have HE1 := Lib.hid (HBE1.out x)
        rw [← hbb] at hbv HE1
        have HV1 := Lib.hid hbv
        clear hbb hbv
        obtain ⟨V, hV⟩ : ∃ V, V = wr := ⟨_, rfl⟩
        rw [← hV] at X Ky0 Ky1 Ky9 hc ⊢
        clear hV hb hxk
        have y0_0 : V.cell? ⟨w.heap.size, 0, none⟩ = some (.int .i64 L) := Ky0.out.cell 0
        have y0_1 : V.cell? ⟨w.heap.size, 1, none⟩ = some (.slice J n cj) := Ky0.out.cell 1
        have y0_2 : V.cell? ⟨w.heap.size, 2, none⟩ = some (.slice K n ck) := Ky0.out.cell 2
        have y1_0 : V.cell? ⟨w.heap.size + 1, 0, none⟩ = some (.slice P np cp) := Ky1.out.cell 0
        have y1_1 : V.cell? ⟨w.heap.size + 1, 1, none⟩ = some (.int .i64 sp) := Ky1.out.cell 1
        have y1_2 : V.cell? ⟨w.heap.size + 1, 2, none⟩ = some (.int .i64 ga) := Ky1.out.cell 2
        have y1_3 : V.cell? ⟨w.heap.size + 1, 3, none⟩ = some (.int .i64 li) := Ky1.out.cell 3
        have y9_0 : V.cell? ⟨q9, 0, none⟩ = some (.int .i64 0) := Ky9.out.cell 0
        have y9_1 : V.cell? ⟨q9, 1, none⟩ = some (.slice none 0 0) := Ky9.out.cell 1
        have y9_2 : V.cell? ⟨q9, 2, none⟩ = some (.slice none 0 0) := Ky9.out.cell 2
        have p0 : V.cell? ⟨b, o + k * 3, none⟩ = some (.int .i64 x.j) := hc 0 _ rfl
        have p1 : V.cell? ⟨b, o + k * 3 + 1, none⟩ = some (.int .i64 x.a) := hc 1 _ rfl
        have p2 : V.cell? ⟨b, o + k * 3 + 2, none⟩ = some (.bool x.u) := hc 2 _ rfl
        clear hc
        go_upto_region 13 with (fail)
        refine wp_region_each [some 70, some 71, some 72, some 73, some 74, some 75, some 76, some 69, some 77, some 78, some 14, some 15] [[4], [70], [2], [13], [72, 73], [74], [71, 75], [76], [69], [69], [77], [78]]
          [Is (.agg #[.slice P np cp, .int .i64 sp, .int .i64 ga, .int .i64 li]), CopP am sp ga li np, Is (.slice (some ⟨b, o, none⟩) N ca), Is (.int .i64 ((k : Int))), Is (.pointer (some ⟨b, o + k * 3, none⟩)), Is (.agg #[.int .i64 x.j, .int .i64 x.a, .bool x.u]), Is (.tuple #[.int .i64 bv, .int .i64 bb]), Is (.tuple #[.int .i64 bv, .int .i64 bb]), Is (.int .i64 (bv)), Is (.int .i64 (bb)), Is (.int .i64 (bv)), Is (.int .i64 (bb))]
          (by kernel_rfl) (by kernel_rfl) (by kernel_rfl) (by kernel_rfl) (by kernel_rfl) Ext (fun W => Ext V W)
          (fun W _ => Ext.refl W) (fun W W' h k => h.trans k) ?_ (Ext.drew _) ?_ ?_
        · repeat (refine ⟨fun _ _ _ _ k h => (by first | exact h | exact (by first | exact IntsAt.ext h k | exact NewP.ext h k | exact CopS.ext h k | exact CopP.ext h k | exact CopL.ext h k | exact AftT.ext h k)), ?_⟩)
          exact trivial
        · refine ⟨?_, ?_, ?_, ?_, ?_, ?_, ?_, ?_, ?_, ?_, ?_, ?_, trivial⟩
          all_goals intro ρ W ⟨kc, kg, kf⟩ hF hs
          · obtain ⟨h0, -⟩ := hs
            replace h0 : ρ (.tmp 4) = .pointer (some ⟨w.heap.size + 1, 0, none⟩) := h0
            have hc0 : W.cell? ⟨w.heap.size + 1, 0, none⟩ = some (.slice P np cp) := hF.cell (by assumption)
            have hc1 : W.cell? ⟨w.heap.size + 1, 1, none⟩ = some (.int .i64 sp) := hF.cell (by assumption)
            have hc2 : W.cell? ⟨w.heap.size + 1, 2, none⟩ = some (.int .i64 ga) := hF.cell (by assumption)
            have hc3 : W.cell? ⟨w.heap.size + 1, 3, none⟩ = some (.int .i64 li) := hF.cell (by assumption)
            go_simp
            exact ⟨Ext.refl _, rfl⟩
          · obtain ⟨h0, -⟩ := hs
            replace h0 : ρ (.tmp 70) = .agg #[.slice P np cp, .int .i64 sp, .int .i64 ga, .int .i64 li] := h0
            go_simp
            refine (HCQ.out _ (X.out.trans hF)).mono ?_; rintro e w' ⟨v, rfl, hc, hx⟩; exact ⟨_, rfl, hx, CopP.of hc⟩
          · obtain ⟨h0, -⟩ := hs
            replace h0 : ρ (.tmp 2) = .slice (some ⟨b, o, none⟩) N ca := h0
            go_simp
            exact ⟨Ext.refl _, rfl⟩
          · obtain ⟨h0, -⟩ := hs
            replace h0 : ρ (.tmp 13) = .int .i64 ((k : Int)) := h0
            go_simp
            exact ⟨Ext.refl _, rfl⟩
          · obtain ⟨h0, h1, -⟩ := hs
            replace h0 : ρ (.tmp 72) = .slice (some ⟨b, o, none⟩) N ca := h0
            replace h1 : ρ (.tmp 73) = .int .i64 ((k : Int)) := h1
            have hb1 : (k : Int) < (N : Int) := by omega
            have hb3 : (0 : Int) ≤ (k : Int) := by omega
            have hb4 : ((k : Int)).toNat = k := by omega
            have hb8 : k < N := by omega
            go_simp
            exact ⟨Ext.refl _, rfl⟩
          · obtain ⟨h0, -⟩ := hs
            replace h0 : ρ (.tmp 74) = .pointer (some ⟨b, o + k * 3, none⟩) := h0
            have hc0 : W.cell? ⟨b, o + k * 3, none⟩ = some (.int .i64 (x.j)) := hF.cell (by assumption)
            have hc1 : W.cell? ⟨b, o + k * 3 + 1, none⟩ = some (.int .i64 (x.a)) := hF.cell (by assumption)
            have hc2 : W.cell? ⟨b, o + k * 3 + 2, none⟩ = some (.bool (x.u)) := hF.cell (by assumption)
            go_simp
            exact ⟨Ext.refl _, rfl⟩
          · obtain ⟨h0, h1, -⟩ := hs
            replace h0 : (CopP am sp ga li np) (ρ (.tmp 71)) W := h0
            replace h1 : ρ (.tmp 75) = .agg #[.int .i64 x.j, .int .i64 x.a, .bool x.u] := h1
            obtain ⟨P2, c2, e2, r2, n2⟩ := h0
            replace e2 : ρ (.tmp 71) = .agg #[.slice P2 np c2, .int .i64 sp, .int .i64 ga, .int .i64 li] := e2
            replace h1 : ρ (.tmp 75) = .agg #[.int .i64 x.j, .int .i64 x.a, .bool x.u] := h1
            go_simp
            refine (HBB.out _ P2 c2 r2).mono ?_; rintro e w' ⟨rfl, hx⟩; exact ⟨_, rfl, hx, rfl⟩
          · obtain ⟨h0, -⟩ := hs
            replace h0 : ρ (.tmp 76) = .tuple #[.int .i64 bv, .int .i64 bb] := h0
            go_simp
            exact ⟨Ext.refl _, rfl⟩
          · obtain ⟨h0, -⟩ := hs
            replace h0 : ρ (.tmp 69) = .tuple #[.int .i64 bv, .int .i64 bb] := h0
            go_simp
            exact ⟨Ext.refl _, rfl⟩
          · obtain ⟨h0, -⟩ := hs
            replace h0 : ρ (.tmp 69) = .tuple #[.int .i64 bv, .int .i64 bb] := h0
            go_simp
            exact ⟨Ext.refl _, rfl⟩
          · obtain ⟨h0, -⟩ := hs
            replace h0 : ρ (.tmp 77) = .int .i64 (bv) := h0
            go_simp
            exact ⟨Ext.refl _, rfl⟩
          · obtain ⟨h0, -⟩ := hs
            replace h0 : ρ (.tmp 78) = .int .i64 (bb) := h0
            go_simp
            exact ⟨Ext.refl _, rfl⟩
        · intro fv V1 hF hs
          obtain ⟨-, -, -, -, -, -, -, -, -, -, h14, h15, -⟩ := hs
          replace h14 : fv 14 = .int .i64 (bv) := h14
          replace h15 : fv 15 = .int .i64 (bb) := h15
          simp only [fin, List.filterMap]
          go_simp
          have hx := hF
          replace X := Lib.hid (X.out.trans hx)
          replace Ky0 := Lib.hid (Ky0.out.ext hx)
          replace Ky1 := Lib.hid (Ky1.out.ext hx)
          replace Ky9 := Lib.hid (Ky9.out.ext hx)
          clear hx y0_0 y0_1 y0_2 y1_0 y1_1 y1_2 y1_3 y9_0 y9_1 y9_2
          replace p0 := hF.cell p0
          replace p1 := hF.cell p1
          replace p2 := hF.cell p2
          clear hF HBB
          obtain ⟨V2, hV⟩ : ∃ V, V = V1 := ⟨_, rfl⟩
          rw [← hV] at X Ky0 Ky1 Ky9 p0 p1 p2 ⊢
          clear hV
          have y0_0 : V2.cell? ⟨w.heap.size, 0, none⟩ = some (.int .i64 L) := Ky0.out.cell 0
          have y0_1 : V2.cell? ⟨w.heap.size, 1, none⟩ = some (.slice J n cj) := Ky0.out.cell 1
          have y0_2 : V2.cell? ⟨w.heap.size, 2, none⟩ = some (.slice K n ck) := Ky0.out.cell 2
          have y1_0 : V2.cell? ⟨w.heap.size + 1, 0, none⟩ = some (.slice P np cp) := Ky1.out.cell 0
          have y1_1 : V2.cell? ⟨w.heap.size + 1, 1, none⟩ = some (.int .i64 sp) := Ky1.out.cell 1
          have y1_2 : V2.cell? ⟨w.heap.size + 1, 2, none⟩ = some (.int .i64 ga) := Ky1.out.cell 2
          have y1_3 : V2.cell? ⟨w.heap.size + 1, 3, none⟩ = some (.int .i64 li) := Ky1.out.cell 3
          have y9_0 : V2.cell? ⟨q9, 0, none⟩ = some (.int .i64 0) := Ky9.out.cell 0
          have y9_1 : V2.cell? ⟨q9, 1, none⟩ = some (.slice none 0 0) := Ky9.out.cell 1
          have y9_2 : V2.cell? ⟨q9, 2, none⟩ = some (.slice none 0 0) := Ky9.out.cell 2
          have HHAS := Lib.hid (fun W (e : Ext w W) => has_any (ca := cp) x.a HNP.out (HP.out.ext e))
          cases hh : hasB am x.a with
          | true =>
            obtain ⟨e1, e2⟩ := HE1.out.2.1 HCZ.out hh
            rw [hh] at HHAS
            have HB4 := Lib.hid (show ∀ W, Calls Try.prog 41 #[.agg #[.slice P np cp, .int .i64 sp, .int .i64 ga, .int .i64 li], .agg #[.int .i64 x.j, .int .i64 x.a, .bool x.u]] W fun e w' => e = .returned (.int .i64 bv) ∧ Ext W w' from fun W => by rw [HV1.out, if_pos e1]; exact e2 W)
            subst e1
            clear HV1 HE1 e2 hh
            go_upto_region 15 with (fail)
            go_quiet (first | (go_at_call 40; refine Calls.quiet_of_same ((HHAS.out _ (by first | exact X.out | exact X.out.trans (Ext.drewN _ _))).mono fun _ _ ⟨h1, h2⟩ => ⟨h1, h2.symm⟩)))
            obtain ⟨V3, hV⟩ : ∃ V, V = World.drewN V2 nq := ⟨_, rfl⟩
            have hx : Ext V2 V3 := by rw [hV]; exact Ext.drewN _ _
            rw [← hV]
            clear hV
            replace p0 := hx.cell p0
            replace p1 := hx.cell p1
            replace p2 := hx.cell p2
            replace X := Lib.hid (X.out.trans hx)
            replace Ky0 := Lib.hid (Ky0.out.ext hx)
            replace Ky1 := Lib.hid (Ky1.out.ext hx)
            replace Ky9 := Lib.hid (Ky9.out.ext hx)
            clear hx y0_0 y0_1 y0_2 y1_0 y1_1 y1_2 y1_3 y9_0 y9_1 y9_2
            have y0_0 : V3.cell? ⟨w.heap.size, 0, none⟩ = some (.int .i64 L) := Ky0.out.cell 0
            have y0_1 : V3.cell? ⟨w.heap.size, 1, none⟩ = some (.slice J n cj) := Ky0.out.cell 1
            have y0_2 : V3.cell? ⟨w.heap.size, 2, none⟩ = some (.slice K n ck) := Ky0.out.cell 2
            have y1_0 : V3.cell? ⟨w.heap.size + 1, 0, none⟩ = some (.slice P np cp) := Ky1.out.cell 0
            have y1_1 : V3.cell? ⟨w.heap.size + 1, 1, none⟩ = some (.int .i64 sp) := Ky1.out.cell 1
            have y1_2 : V3.cell? ⟨w.heap.size + 1, 2, none⟩ = some (.int .i64 ga) := Ky1.out.cell 2
            have y1_3 : V3.cell? ⟨w.heap.size + 1, 3, none⟩ = some (.int .i64 li) := Ky1.out.cell 3
            have y9_0 : V3.cell? ⟨q9, 0, none⟩ = some (.int .i64 0) := Ky9.out.cell 0
            have y9_1 : V3.cell? ⟨q9, 1, none⟩ = some (.slice none 0 0) := Ky9.out.cell 1
            have y9_2 : V3.cell? ⟨q9, 2, none⟩ = some (.slice none 0 0) := Ky9.out.cell 2
            go_upto_region 17 with (fail)
            refine wp_region_eachM [true, true, true, false, false, false, false, false, false, false, true, true, true, true, true, true, true, true, true, true, true, true, true, true, true, true, true, true, true] [(95, true, false), (95, true, false), (95, true, false), (95, true, false), (99, false, false), (99, false, false), (95, true, false), (104, false, true), (104, false, true), (104, false, true), (107, true, true), (107, true, true), (107, true, true), (110, false, true), (110, false, true), (110, false, true), (110, false, true), (110, false, true), (110, false, true), (110, false, true), (110, false, true), (107, true, true), (104, false, true)] [some 93, some 94, some 95, some 96, some 97, some 98, some 99, some 100, some 101, some 102, some 103, some 104, some 105, some 106, some 107, some 108, some 109, some 110, some 111, some 112, some 113, some 114, some 115, some 116, some 117, some 118, some 119, some 120, some 121] [[16], [93], [94], [15, 95], [16, 95], [96, 97, 95], [98, 95], [14, 99], [100, 99], [99, 101, 95], [95, 102], [103], [16, 104], [105, 104], [106, 104], [15, 107], [108, 107], [109, 107], [14, 110], [4, 110], [2, 110], [13, 110], [113, 114, 110], [115, 110], [112, 116, 110], [111, 117, 110], [110, 118, 107], [107, 119, 104], [104, 120]]
              [Is (.int .i64 (0)), Is (.bool (false)), Is (.bool (false)), Is (undef), Is (undef), Is (undef), Is (undef), Is (undef), Is (undef), Is (undef), Is (.bool (false)), Is (.bool (false)), Is (.int .i64 (0)), Is (.bool (true)), Is (.bool (true)), Is (.int .i64 (0)), Is (.bool (false)), Is (.bool (false)), Is (.int .i64 (bv)), Is (.agg #[.slice P np cp, .int .i64 sp, .int .i64 ga, .int .i64 li]), Is (.slice (some ⟨b, o, none⟩) N ca), Is (.int .i64 ((k : Int))), Is (.pointer (some ⟨b, o + k * 3, none⟩)), Is (.agg #[.int .i64 x.j, .int .i64 x.a, .bool x.u]), Is (.int .i64 (bv)), Is (.bool (false)), Is (.bool (false)), Is (.bool (false)), Is (.bool (false))]
              (by kernel_rfl) (by kernel_rfl) (by kernel_rfl) (by kernel_rfl) (by kernel_rfl) Ext (fun W => Ext V3 W)
              (fun W _ => Ext.refl W) (fun W W' h k => h.trans k) ?_ (by intro p hp; simp only [List.mem_cons, List.not_mem_nil, or_false] at hp; rcases hp with rfl | rfl | rfl | rfl | rfl | rfl | rfl | rfl | rfl | rfl | rfl | rfl | rfl | rfl | rfl | rfl | rfl | rfl | rfl | rfl | rfl | rfl | rfl <;> exact ⟨_, rfl, fun v W h => by rw [show v = _ from h]; first | (simp; done) | (simp [undef]; done)⟩) (Ext.drew _) ?_ ?_
            · repeat (refine ⟨fun _ _ _ _ k h => (by first | exact h | exact (IntsAt.ext h k)), ?_⟩)
              exact trivial
            · refine ⟨?_, ?_, ?_, ?_, ?_, ?_, ?_, ?_, ?_, ?_, ?_, ?_, ?_, ?_, ?_, ?_, ?_, ?_, ?_, ?_, ?_, ?_, ?_, ?_, ?_, ?_, ?_, ?_, ?_, trivial⟩
              · intro ρ W ⟨kc, kg, kf⟩ hF hs
                obtain ⟨h0, -⟩ := hs
                replace h0 : ρ (.tmp 16) = .int .i64 (0) := h0
                go_simp
                exact ⟨Ext.refl _, rfl⟩
              · intro ρ W ⟨kc, kg, kf⟩ hF hs
                obtain ⟨h0, -⟩ := hs
                replace h0 : ρ (.tmp 93) = .int .i64 (0) := h0
                go_simp
                exact ⟨Ext.refl _, rfl⟩
              · intro ρ W ⟨kc, kg, kf⟩ hF hs
                obtain ⟨h0, -⟩ := hs
                replace h0 : ρ (.tmp 94) = .bool (false) := h0
                go_simp
                exact ⟨Ext.refl _, rfl⟩
              · exact fun _ => rfl
              · exact fun _ => rfl
              · exact fun _ => rfl
              · exact fun _ => rfl
              · exact fun _ => rfl
              · exact fun _ => rfl
              · exact fun _ => rfl
              · intro ρ W ⟨kc, kg, kf⟩ hF hs
                obtain ⟨h0, h1, -⟩ := hs
                replace h0 : ρ (.tmp 95) = .bool (false) := h0
                replace h1 : ρ (.tmp 102) = undef := h1
                go_simp
                exact ⟨Ext.refl _, rfl⟩
              · intro ρ W ⟨kc, kg, kf⟩ hF hs
                obtain ⟨h0, -⟩ := hs
                replace h0 : ρ (.tmp 103) = .bool (false) := h0
                go_simp
                exact ⟨Ext.refl _, rfl⟩
              · intro ρ W ⟨kc, kg, kf⟩ hF hs
                obtain ⟨h0, h1, -⟩ := hs
                replace h0 : ρ (.tmp 16) = .int .i64 (0) := h0
                replace h1 : ρ (.tmp 104) = .bool (false) := h1
                go_simp
                exact ⟨Ext.refl _, rfl⟩
              · intro ρ W ⟨kc, kg, kf⟩ hF hs
                obtain ⟨h0, h1, -⟩ := hs
                replace h0 : ρ (.tmp 105) = .int .i64 (0) := h0
                replace h1 : ρ (.tmp 104) = .bool (false) := h1
                go_simp
                exact ⟨Ext.refl _, rfl⟩
              · intro ρ W ⟨kc, kg, kf⟩ hF hs
                obtain ⟨h0, h1, -⟩ := hs
                replace h0 : ρ (.tmp 106) = .bool (true) := h0
                replace h1 : ρ (.tmp 104) = .bool (false) := h1
                go_simp
                exact ⟨Ext.refl _, rfl⟩
              · intro ρ W ⟨kc, kg, kf⟩ hF hs
                obtain ⟨h0, h1, -⟩ := hs
                replace h0 : ρ (.tmp 15) = .int .i64 (0) := h0
                replace h1 : ρ (.tmp 107) = .bool (true) := h1
                go_simp
                exact ⟨Ext.refl _, rfl⟩
              · intro ρ W ⟨kc, kg, kf⟩ hF hs
                obtain ⟨h0, h1, -⟩ := hs
                replace h0 : ρ (.tmp 108) = .int .i64 (0) := h0
                replace h1 : ρ (.tmp 107) = .bool (true) := h1
                go_simp
                exact ⟨Ext.refl _, rfl⟩
              · intro ρ W ⟨kc, kg, kf⟩ hF hs
                obtain ⟨h0, h1, -⟩ := hs
                replace h0 : ρ (.tmp 109) = .bool (false) := h0
                replace h1 : ρ (.tmp 107) = .bool (true) := h1
                go_simp
                exact ⟨Ext.refl _, rfl⟩
              · intro ρ W ⟨kc, kg, kf⟩ hF hs
                obtain ⟨h0, h1, -⟩ := hs
                replace h0 : ρ (.tmp 14) = .int .i64 (bv) := h0
                replace h1 : ρ (.tmp 110) = .bool (false) := h1
                go_simp
                exact ⟨Ext.refl _, rfl⟩
              · intro ρ W ⟨kc, kg, kf⟩ hF hs
                obtain ⟨h0, h1, -⟩ := hs
                replace h0 : ρ (.tmp 4) = .pointer (some ⟨w.heap.size + 1, 0, none⟩) := h0
                replace h1 : ρ (.tmp 110) = .bool (false) := h1
                have hc0 : W.cell? ⟨w.heap.size + 1, 0, none⟩ = some (.slice P np cp) := hF.cell (by assumption)
                have hc1 : W.cell? ⟨w.heap.size + 1, 1, none⟩ = some (.int .i64 sp) := hF.cell (by assumption)
                have hc2 : W.cell? ⟨w.heap.size + 1, 2, none⟩ = some (.int .i64 ga) := hF.cell (by assumption)
                have hc3 : W.cell? ⟨w.heap.size + 1, 3, none⟩ = some (.int .i64 li) := hF.cell (by assumption)
                go_simp
                exact ⟨Ext.refl _, rfl⟩
              · intro ρ W ⟨kc, kg, kf⟩ hF hs
                obtain ⟨h0, h1, -⟩ := hs
                replace h0 : ρ (.tmp 2) = .slice (some ⟨b, o, none⟩) N ca := h0
                replace h1 : ρ (.tmp 110) = .bool (false) := h1
                go_simp
                exact ⟨Ext.refl _, rfl⟩
              · intro ρ W ⟨kc, kg, kf⟩ hF hs
                obtain ⟨h0, h1, -⟩ := hs
                replace h0 : ρ (.tmp 13) = .int .i64 ((k : Int)) := h0
                replace h1 : ρ (.tmp 110) = .bool (false) := h1
                go_simp
                exact ⟨Ext.refl _, rfl⟩
              · intro ρ W ⟨kc, kg, kf⟩ hF hs
                obtain ⟨h0, h1, h2, -⟩ := hs
                replace h0 : ρ (.tmp 113) = .slice (some ⟨b, o, none⟩) N ca := h0
                replace h1 : ρ (.tmp 114) = .int .i64 ((k : Int)) := h1
                replace h2 : ρ (.tmp 110) = .bool (false) := h2
                have hb1 : (k : Int) < (N : Int) := by omega
                have hb3 : (0 : Int) ≤ (k : Int) := by omega
                have hb4 : ((k : Int)).toNat = k := by omega
                have hb8 : k < N := by omega
                go_simp
                exact ⟨Ext.refl _, rfl⟩
              · intro ρ W ⟨kc, kg, kf⟩ hF hs
                obtain ⟨h0, h1, -⟩ := hs
                replace h0 : ρ (.tmp 115) = .pointer (some ⟨b, o + k * 3, none⟩) := h0
                replace h1 : ρ (.tmp 110) = .bool (false) := h1
                have hc0 : W.cell? ⟨b, o + k * 3, none⟩ = some (.int .i64 (x.j)) := hF.cell (by assumption)
                have hc1 : W.cell? ⟨b, o + k * 3 + 1, none⟩ = some (.int .i64 (x.a)) := hF.cell (by assumption)
                have hc2 : W.cell? ⟨b, o + k * 3 + 2, none⟩ = some (.bool (x.u)) := hF.cell (by assumption)
                go_simp
                exact ⟨Ext.refl _, rfl⟩
              · intro ρ W ⟨kc, kg, kf⟩ hF hs
                obtain ⟨h0, h1, h2, -⟩ := hs
                replace h0 : ρ (.tmp 112) = .agg #[.slice P np cp, .int .i64 sp, .int .i64 ga, .int .i64 li] := h0
                replace h1 : ρ (.tmp 116) = .agg #[.int .i64 x.j, .int .i64 x.a, .bool x.u] := h1
                replace h2 : ρ (.tmp 110) = .bool (false) := h2
                go_simp
                refine (HB4.out _).mono ?_; rintro e w' ⟨rfl, hx⟩; exact ⟨_, rfl, hx, rfl⟩
              · intro ρ W ⟨kc, kg, kf⟩ hF hs
                obtain ⟨h0, h1, h2, -⟩ := hs
                replace h0 : ρ (.tmp 111) = .int .i64 (bv) := h0
                replace h1 : ρ (.tmp 117) = .int .i64 (bv) := h1
                replace h2 : ρ (.tmp 110) = .bool (false) := h2
                go_simp
                exact ⟨Ext.refl _, rfl⟩
              · intro ρ W ⟨kc, kg, kf⟩ hF hs
                obtain ⟨h0, h1, h2, -⟩ := hs
                replace h0 : ρ (.tmp 110) = .bool (false) := h0
                replace h1 : ρ (.tmp 118) = .bool (false) := h1
                replace h2 : ρ (.tmp 107) = .bool (true) := h2
                go_simp
                exact ⟨Ext.refl _, rfl⟩
              · intro ρ W ⟨kc, kg, kf⟩ hF hs
                obtain ⟨h0, h1, h2, -⟩ := hs
                replace h0 : ρ (.tmp 107) = .bool (true) := h0
                replace h1 : ρ (.tmp 119) = .bool (false) := h1
                replace h2 : ρ (.tmp 104) = .bool (false) := h2
                go_simp
                exact ⟨Ext.refl _, rfl⟩
              · intro ρ W ⟨kc, kg, kf⟩ hF hs
                obtain ⟨h0, h1, -⟩ := hs
                replace h0 : ρ (.tmp 104) = .bool (false) := h0
                replace h1 : ρ (.tmp 120) = .bool (false) := h1
                go_simp
                exact ⟨Ext.refl _, rfl⟩
            · intro fv V4 hF hs
              obtain ⟨-, -, -, -, -, -, -, -, -, -, -, -, -, -, -, -, -, -, -, -, -, -, -, -, -, -, -, -, h121, -⟩ := hs
              replace h121 : fv 121 = .bool (false) := h121
              simp only [fin, List.filterMap]
              go_simp
              have hx := hF
              replace X := Lib.hid (X.out.trans hx)
              replace Ky0 := Lib.hid (Ky0.out.ext hx)
              replace Ky1 := Lib.hid (Ky1.out.ext hx)
              replace Ky9 := Lib.hid (Ky9.out.ext hx)
              clear hx y0_0 y0_1 y0_2 y1_0 y1_1 y1_2 y1_3 y9_0 y9_1 y9_2
              clear hF p0 p1 p2
              go_wp2
              go_roundw
              case rel => exact ⟨k + 1, by omega, by go_num, X.out, Ky0.out, Ky1.out, Ky9.out⟩
              case measure => simp [intOf]; omega
          | false =>
            have e1 := HE1.out.2.2 HCZ.out hh
            have e2 : bv = 0 := by rw [HV1.out, if_neg (by rw [e1]; decide)]
            rw [hh] at HHAS
            subst e1 e2
            clear HV1 HE1 hh
            go_upto_region 15 with (fail)
            go_quiet (first | (go_at_call 40; refine Calls.quiet_of_same ((HHAS.out _ (by first | exact X.out | exact X.out.trans (Ext.drewN _ _))).mono fun _ _ ⟨h1, h2⟩ => ⟨h1, h2.symm⟩)))
            obtain ⟨V3, hV⟩ : ∃ V, V = World.drewN V2 nq := ⟨_, rfl⟩
            have hx : Ext V2 V3 := by rw [hV]; exact Ext.drewN _ _
            rw [← hV]
            clear hV
            replace p0 := hx.cell p0
            replace p1 := hx.cell p1
            replace p2 := hx.cell p2
            replace X := Lib.hid (X.out.trans hx)
            replace Ky0 := Lib.hid (Ky0.out.ext hx)
            replace Ky1 := Lib.hid (Ky1.out.ext hx)
            replace Ky9 := Lib.hid (Ky9.out.ext hx)
            clear hx y0_0 y0_1 y0_2 y1_0 y1_1 y1_2 y1_3 y9_0 y9_1 y9_2
            have y0_0 : V3.cell? ⟨w.heap.size, 0, none⟩ = some (.int .i64 L) := Ky0.out.cell 0
            have y0_1 : V3.cell? ⟨w.heap.size, 1, none⟩ = some (.slice J n cj) := Ky0.out.cell 1
            have y0_2 : V3.cell? ⟨w.heap.size, 2, none⟩ = some (.slice K n ck) := Ky0.out.cell 2
            have y1_0 : V3.cell? ⟨w.heap.size + 1, 0, none⟩ = some (.slice P np cp) := Ky1.out.cell 0
            have y1_1 : V3.cell? ⟨w.heap.size + 1, 1, none⟩ = some (.int .i64 sp) := Ky1.out.cell 1
            have y1_2 : V3.cell? ⟨w.heap.size + 1, 2, none⟩ = some (.int .i64 ga) := Ky1.out.cell 2
            have y1_3 : V3.cell? ⟨w.heap.size + 1, 3, none⟩ = some (.int .i64 li) := Ky1.out.cell 3
            have y9_0 : V3.cell? ⟨q9, 0, none⟩ = some (.int .i64 0) := Ky9.out.cell 0
            have y9_1 : V3.cell? ⟨q9, 1, none⟩ = some (.slice none 0 0) := Ky9.out.cell 1
            have y9_2 : V3.cell? ⟨q9, 2, none⟩ = some (.slice none 0 0) := Ky9.out.cell 2
            go_upto_region 17 with (fail)
            go_quiet (fail)
            go_wp2
            go_roundw
            case rel => exact ⟨k + 1, by omega, by go_num, X.out.trans (Ext.drewN _ _), Ky0.out, Ky1.out, Ky9.out⟩
            case measure => simp [intOf]; omega
      · obtain rfl : k = N := by omega
        have hkn : ¬ (k : Int) < (k : Int) := by omega
        obtain ⟨V, hV⟩ : ∃ V, V = wr := ⟨_, rfl⟩
        rw [← hV] at X Ky0 Ky1 Ky9 ⊢
        clear hV
        have y0_0 : V.cell? ⟨w.heap.size, 0, none⟩ = some (.int .i64 L) := Ky0.out.cell 0
        have y0_1 : V.cell? ⟨w.heap.size, 1, none⟩ = some (.slice J n cj) := Ky0.out.cell 1
        have y0_2 : V.cell? ⟨w.heap.size, 2, none⟩ = some (.slice K n ck) := Ky0.out.cell 2
        have y1_0 : V.cell? ⟨w.heap.size + 1, 0, none⟩ = some (.slice P np cp) := Ky1.out.cell 0
        have y1_1 : V.cell? ⟨w.heap.size + 1, 1, none⟩ = some (.int .i64 sp) := Ky1.out.cell 1
        have y1_2 : V.cell? ⟨w.heap.size + 1, 2, none⟩ = some (.int .i64 ga) := Ky1.out.cell 2
        have y1_3 : V.cell? ⟨w.heap.size + 1, 3, none⟩ = some (.int .i64 li) := Ky1.out.cell 3
        have y9_0 : V.cell? ⟨q9, 0, none⟩ = some (.int .i64 0) := Ky9.out.cell 0
        have y9_1 : V.cell? ⟨q9, 1, none⟩ = some (.slice none 0 0) := Ky9.out.cell 1
        have y9_2 : V.cell? ⟨q9, 2, none⟩ = some (.slice none 0 0) := Ky9.out.cell 2
        go_wp2_with (go_at_call 27; refine (HSH.out _ X.out).mono ?_; rintro e V1 ⟨rfl, hx⟩; replace X := Lib.hid (X.out.trans hx); replace Ky0 := Lib.hid (Ky0.out.ext hx); replace Ky1 := Lib.hid (Ky1.out.ext hx); replace Ky9 := Lib.hid (Ky9.out.ext hx); clear hx y0_0 y0_1 y0_2 y1_0 y1_1 y1_2 y1_3 y9_0 y9_1 y9_2; refine Hid.out ?_)
        refine Lib.hid ?_
        have y0_0 : V1.cell? ⟨w.heap.size, 0, none⟩ = some (.int .i64 L) := Ky0.out.cell 0
        have y0_1 : V1.cell? ⟨w.heap.size, 1, none⟩ = some (.slice J n cj) := Ky0.out.cell 1
        have y0_2 : V1.cell? ⟨w.heap.size, 2, none⟩ = some (.slice K n ck) := Ky0.out.cell 2
        have y1_0 : V1.cell? ⟨w.heap.size + 1, 0, none⟩ = some (.slice P np cp) := Ky1.out.cell 0
        have y1_1 : V1.cell? ⟨w.heap.size + 1, 1, none⟩ = some (.int .i64 sp) := Ky1.out.cell 1
        have y1_2 : V1.cell? ⟨w.heap.size + 1, 2, none⟩ = some (.int .i64 ga) := Ky1.out.cell 2
        have y1_3 : V1.cell? ⟨w.heap.size + 1, 3, none⟩ = some (.int .i64 li) := Ky1.out.cell 3
        have y9_0 : V1.cell? ⟨q9, 0, none⟩ = some (.int .i64 0) := Ky9.out.cell 0
        have y9_1 : V1.cell? ⟨q9, 1, none⟩ = some (.slice none 0 0) := Ky9.out.cell 1
        have y9_2 : V1.cell? ⟨q9, 2, none⟩ = some (.slice none 0 0) := Ky9.out.cell 2
        go_wp2_with (go_at_call 42; refine (HSE.out _ X.out).mono ?_; rintro e V2 ⟨rfl, hx⟩; replace X := Lib.hid (X.out.trans hx); replace Ky0 := Lib.hid (Ky0.out.ext hx); replace Ky1 := Lib.hid (Ky1.out.ext hx); replace Ky9 := Lib.hid (Ky9.out.ext hx); clear hx y0_0 y0_1 y0_2 y1_0 y1_1 y1_2 y1_3 y9_0 y9_1 y9_2; refine Hid.out ?_)
        refine Lib.hid ?_
        have y0_0 : V2.cell? ⟨w.heap.size, 0, none⟩ = some (.int .i64 L) := Ky0.out.cell 0
        have y0_1 : V2.cell? ⟨w.heap.size, 1, none⟩ = some (.slice J n cj) := Ky0.out.cell 1
        have y0_2 : V2.cell? ⟨w.heap.size, 2, none⟩ = some (.slice K n ck) := Ky0.out.cell 2
        have y1_0 : V2.cell? ⟨w.heap.size + 1, 0, none⟩ = some (.slice P np cp) := Ky1.out.cell 0
        have y1_1 : V2.cell? ⟨w.heap.size + 1, 1, none⟩ = some (.int .i64 sp) := Ky1.out.cell 1
        have y1_2 : V2.cell? ⟨w.heap.size + 1, 2, none⟩ = some (.int .i64 ga) := Ky1.out.cell 2
        have y1_3 : V2.cell? ⟨w.heap.size + 1, 3, none⟩ = some (.int .i64 li) := Ky1.out.cell 3
        have y9_0 : V2.cell? ⟨q9, 0, none⟩ = some (.int .i64 0) := Ky9.out.cell 0
        have y9_1 : V2.cell? ⟨q9, 1, none⟩ = some (.slice none 0 0) := Ky9.out.cell 1
        have y9_2 : V2.cell? ⟨q9, 2, none⟩ = some (.slice none 0 0) := Ky9.out.cell 2
        go_wp2_with (go_at_call 43; refine (HRA.out _ X.out).mono ?_; rintro e V3 ⟨v, rfl, hc, hx⟩; have HC := Lib.hid hc; clear hc; replace X := Lib.hid (X.out.trans hx); replace Ky0 := Lib.hid (Ky0.out.ext hx); replace Ky1 := Lib.hid (Ky1.out.ext hx); replace Ky9 := Lib.hid (Ky9.out.ext hx); clear hx y0_0 y0_1 y0_2 y1_0 y1_1 y1_2 y1_3 y9_0 y9_1 y9_2; refine Hid.out ?_)
        refine Lib.hid ?_
        obtain rfl := HC.out
        clear HC
        have y0_0 : V3.cell? ⟨w.heap.size, 0, none⟩ = some (.int .i64 L) := Ky0.out.cell 0
        have y0_1 : V3.cell? ⟨w.heap.size, 1, none⟩ = some (.slice J n cj) := Ky0.out.cell 1
        have y0_2 : V3.cell? ⟨w.heap.size, 2, none⟩ = some (.slice K n ck) := Ky0.out.cell 2
        have y1_0 : V3.cell? ⟨w.heap.size + 1, 0, none⟩ = some (.slice P np cp) := Ky1.out.cell 0
        have y1_1 : V3.cell? ⟨w.heap.size + 1, 1, none⟩ = some (.int .i64 sp) := Ky1.out.cell 1
        have y1_2 : V3.cell? ⟨w.heap.size + 1, 2, none⟩ = some (.int .i64 ga) := Ky1.out.cell 2
        have y1_3 : V3.cell? ⟨w.heap.size + 1, 3, none⟩ = some (.int .i64 li) := Ky1.out.cell 3
        have y9_0 : V3.cell? ⟨q9, 0, none⟩ = some (.int .i64 0) := Ky9.out.cell 0
        have y9_1 : V3.cell? ⟨q9, 1, none⟩ = some (.slice none 0 0) := Ky9.out.cell 1
        have y9_2 : V3.cell? ⟨q9, 2, none⟩ = some (.slice none 0 0) := Ky9.out.cell 2
        obtain ⟨q18, hq⟩ : ∃ q, q = V3.heap.size := ⟨_, rfl⟩
        obtain ⟨V4, hV⟩ : ∃ V, V = V3.alloc (.cells #[.int .i64 0, .slice none 0 0, .slice none 0 0] 25) := ⟨_, rfl⟩
        have hx : Ext V3 V4 := by rw [hV]; exact Ext.alloc _ _
        have Ky18 := Lib.hid (show Blk V4 q18 25 #[.int .i64 0, .slice none 0 0, .slice none 0 0] by rw [hV, hq]; exact Blk.new _ _ _)
        go_upto_region 27 with (fail)
        rw [← hV, ← hq]
        replace X := Lib.hid (X.out.trans hx)
        replace Ky0 := Lib.hid (Ky0.out.ext hx)
        replace Ky1 := Lib.hid (Ky1.out.ext hx)
        replace Ky9 := Lib.hid (Ky9.out.ext hx)
        clear hx y0_0 y0_1 y0_2 y1_0 y1_1 y1_2 y1_3 y9_0 y9_1 y9_2
        clear hV hq
        have y0_0 : V4.cell? ⟨w.heap.size, 0, none⟩ = some (.int .i64 L) := Ky0.out.cell 0
        have y0_1 : V4.cell? ⟨w.heap.size, 1, none⟩ = some (.slice J n cj) := Ky0.out.cell 1
        have y0_2 : V4.cell? ⟨w.heap.size, 2, none⟩ = some (.slice K n ck) := Ky0.out.cell 2
        have y1_0 : V4.cell? ⟨w.heap.size + 1, 0, none⟩ = some (.slice P np cp) := Ky1.out.cell 0
        have y1_1 : V4.cell? ⟨w.heap.size + 1, 1, none⟩ = some (.int .i64 sp) := Ky1.out.cell 1
        have y1_2 : V4.cell? ⟨w.heap.size + 1, 2, none⟩ = some (.int .i64 ga) := Ky1.out.cell 2
        have y1_3 : V4.cell? ⟨w.heap.size + 1, 3, none⟩ = some (.int .i64 li) := Ky1.out.cell 3
        have y9_0 : V4.cell? ⟨q9, 0, none⟩ = some (.int .i64 0) := Ky9.out.cell 0
        have y9_1 : V4.cell? ⟨q9, 1, none⟩ = some (.slice none 0 0) := Ky9.out.cell 1
        have y9_2 : V4.cell? ⟨q9, 2, none⟩ = some (.slice none 0 0) := Ky9.out.cell 2
        have y18_0 : V4.cell? ⟨q18, 0, none⟩ = some (.int .i64 0) := Ky18.out.cell 0
        have y18_1 : V4.cell? ⟨q18, 1, none⟩ = some (.slice none 0 0) := Ky18.out.cell 1
        have y18_2 : V4.cell? ⟨q18, 2, none⟩ = some (.slice none 0 0) := Ky18.out.cell 2
        have HSM := Lib.hid (show ∀ W, Ext V4 W → Calls Try.prog 31 #[.agg #[.int .i64 0, .slice none 0 0, .slice none 0 0], .agg #[.int .i64 0, .slice none 0 0, .slice none 0 0]] W fun e w' => e = .returned (.bool true) ∧ Ext W w' from fun W e => (same_any (js := []) (ks := []) (js2 := []) (ks2 := []) (L := 0) (L2 := 0) (n := 0) (m := 0) (n2 := 0) (m2 := 0) rfl (rowsNil 1 I1 W) rfl (rowsNil 2 Rg.enc W) rfl (rowsNil 1 I1 W) rfl (rowsNil 2 Rg.enc W)).mono (by rintro e w' ⟨b, rfl, hb, hx⟩; exact ⟨by rw [hb.2 ⟨rfl, rfl, rfl⟩], hx⟩))
        go_wp2_with (go_at_call 31; refine (HSM.out _ (Ext.refl _)).mono ?_; rintro e w' ⟨rfl, hx⟩; replace X := Lib.hid (X.out.trans hx); clear hx)
        go_ret
        exact ⟨ret_bool (by simp), X.out⟩

end Go.Proofs.Ytjdilmmpdlcimaa
