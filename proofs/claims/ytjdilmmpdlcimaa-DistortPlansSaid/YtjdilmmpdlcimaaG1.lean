/- DistortPlans where there are few items. -/
import Derived.Test.YtjdilmmpdlcimaaG0
import Derived.Lib.MinMax
import Derived.Deep.DeepCutAuto
import Derived.BigQuiet

namespace Go.Proofs.Ytjdilmmpdlcimaa
open Go.RowKit Go.Shelf Go.Mem Go.RegInv
attribute [local go_sem] RelUpon_value RelUpon_skip RelUpon_enter BigFrame.eval_const BigFrame.eval_global BigFrame.eval_func


set_option maxRecDepth 100000 in
set_option maxHeartbeats 1000000 in
theorem plans_few {L : Int} {J K : Option Addr} {n m cj ck : Nat} {js : List Int} {ks : List Rg} {w : World} (hn : js.length = n) (hJ : RowsAt 1 I1 w J js) (hm : ks.length = m) (hK : RowsAt 2 Rg.enc w K ks) {P : Option Addr} {np cp : Nat} {am : List Int} {sp ga li : Int} (hnp : am.length = np) (hP : RowsAt 1 I1 w P am) {A : Option Addr} {N ca : Nat} {l : List Sk} {t : Int} (hN : l.length = N) (hA : RowsAt 3 Sk.enc w A l) (hjn : J = none → cj = 0) (hkn : K = none → ck = 0) (hpn : P = none → cp = 0) (hln : A = none → ca = 0) (h6 : n ≤ 6) (hm6 : m ≤ 6) (h5 : np ≤ 5) (hN6 : N ≤ 6) :
    Calls Try.prog 8 #[.agg #[.int .i64 L, .slice J n cj, .slice K m ck], .agg #[.slice P np cp, .int .i64 sp, .int .i64 ga, .int .i64 li], .agg #[.slice A N ca, .int .i64 t]] w fun e w' => e = .returned (.bool true) ∧ Ext w w' := by
  have hdN : decide ((6 : Int) < (N : Int)) = false := by simp; omega
  obtain ⟨be, hbe⟩ : ∃ b, b = (if (checkS L js ks).2 ≠ 0 then (checkS L js ks).2 else (checkP am sp ga li).2) := ⟨_, rfl⟩
  obtain ⟨ce, hce⟩ : ∃ c, c = cplE L js ks am sp ga li t l := ⟨_, rfl⟩
  obtain ⟨cn, hcn⟩ : ∃ c, c = (if ce = 0 then (N : Int) else 0) := ⟨_, rfl⟩
  obtain ⟨pe, hpe⟩ : ∃ c, c = planE L js ks am sp ga li t l := ⟨_, rfl⟩
  have HZ := Lib.hid (show be = 0 → (checkS L js ks).2 = 0 ∧ (checkP am sp ga li).2 = 0 from fun h => by
    rw [hbe] at h
    by_cases h1 : (checkS L js ks).2 = 0
    · rw [if_neg (by simpa using h1)] at h; exact ⟨h1, h⟩
    · rw [if_pos h1] at h; exact absurd h h1)
  have HB0 := Lib.hid (show be = 0 → ce = pe ∧ (pe = 0 → cn = (N : Int)) ∧ (¬ pe = 0 → cn = 0) from fun h => by
    obtain ⟨h1, h2⟩ := HZ.out h
    have h3 : ce = pe := by rw [hce, hpe]; unfold cplE; rw [if_neg (by simpa using h1), if_neg (by simpa using h2)]
    exact ⟨h3, fun h => by rw [hcn, h3, if_pos h], fun h => by rw [hcn, h3, if_neg h]⟩)
  have HB1 := Lib.hid (show ¬ be = 0 → ce = be ∧ cn = 0 from fun h => by
    have h3 : ce = be := by
      rw [hce, hbe]
      rw [hbe] at h
      unfold cplE
      generalize (checkS L js ks).2 = a at *
      generalize (checkP am sp ga li).2 = b at *
      by_cases h1 : a = 0 <;> by_cases h2 : b = 0 <;> simp_all
    exact ⟨h3, by rw [hcn, h3, if_neg h]⟩)
  have HPE := Lib.hid (fun (h : be = 0) W (e : Ext w W) => show Calls Try.prog 46 #[.agg #[.int .i64 L, .slice J n cj, .slice K m ck], .agg #[.slice P np cp, .int .i64 sp, .int .i64 ga, .int .i64 li], .agg #[.slice A N ca, .int .i64 t]] W fun e w' => e = .returned (.int .i64 pe) ∧ Ext W w' from by
    obtain ⟨h1, h2⟩ := HZ.out h
    have hs := checkS_ok h1
    obtain rfl : n = m := by have := hs.same; omega
    rw [hpe]
    exact refPlanErr_any (cp := cp) (ca := ca) hn (hJ.ext e) hm (hK.ext e) hnp (hP.ext e) hN (hA.ext e) hjn hkn hs (checkP_ok h2))
  have HPL := Lib.hid (fun W J1 c1 K1 d1 P2 c2 A3 c3 (r1 : RowsAt 1 I1 W J1 js) (s1 : RowsAt 2 Rg.enc W K1 ks) (r2 : RowsAt 1 I1 W P2 am) (r3 : RowsAt 3 Sk.enc W A3 l) (n1 : J1 = none → c1 = 0) => show Calls Try.prog 45 #[.agg #[.int .i64 L, .slice J1 n c1, .slice K1 m d1], .agg #[.slice P2 np c2, .int .i64 sp, .int .i64 ga, .int .i64 li], .agg #[.slice A3 N c3, .int .i64 t]] W fun e w' => e = .returned (.tuple #[.int .i64 cn, .int .i64 ce]) ∧ Ext W w' from by
    rw [hcn, hce]
    exact checkPlan_any hn r1 hm s1 hnp r2 hN r3 n1)
  have HBE := Lib.hid (fun W (e : Ext w W) => show Calls Try.prog 44 #[.agg #[.int .i64 L, .slice J n cj, .slice K m ck], .agg #[.slice P np cp, .int .i64 sp, .int .i64 ga, .int .i64 li]] W fun e w' => e = .returned (.int .i64 be) ∧ Ext W w' from by
    rw [hbe]
    exact bothErr_any hn (hJ.ext e) hm (hK.ext e) hnp (hP.ext e))
  have HCP := Lib.hid (fun W (e : Ext w W) => copyShaft_any (L := L) (cj := cj) (ck := ck) hn (hJ.ext e) hm (hK.ext e) hjn hkn (by omega) (by omega))
  have HCQ := Lib.hid (fun W (e : Ext w W) => copyPress_any (cp := cp) (sp := sp) (ga := ga) (li := li) hnp (hP.ext e) hpn (by omega))
  have HCL := Lib.hid (fun W (e : Ext w W) => copyPlan_any (ca := ca) hN (hA.ext e) (by omega) hln)
  have HFEW := Lib.hid (fun W => show Calls Try.prog 14 #[.agg #[.int .i64 L, .slice J n cj, .slice K m ck]] W fun e w' => e = .returned (.bool true) ∧ Ext W w' from by have := few_any (L := L) (J := J) (K := K) (n := n) (m := m) (cj := cj) (ck := ck) W (by unfold maxLen; omega) (by unfold maxLen; omega); rw [show few2 n m = true by simp [few2, h6, hm6]] at this; exact this)
  have HFEA := Lib.hid (fun W => show Calls Try.prog 33 #[.agg #[.slice P np cp, .int .i64 sp, .int .i64 ga, .int .i64 li]] W fun e w' => e = .returned (.bool true) ∧ Ext W w' from by have := fewAmounts_any (P := P) (np := np) (cp := cp) (sp := sp) (ga := ga) (li := li) W (by unfold maxLen; omega); rw [show few1 np = true by simp [few1, h5]] at this; exact this)
  clear hbe hce hcn hpe HZ hn hJ hm hK hnp hP hN hA hjn hkn hpn hln
  obtain ⟨W0, hW0⟩ : ∃ W0, W0 = ((w.alloc (.cells #[.int .i64 L, .slice J n cj, .slice K m ck] 25)).alloc (.cells #[.slice P np cp, .int .i64 sp, .int .i64 ga, .int .i64 li] 58)).alloc (.cells #[.slice A N ca, .int .i64 t] 77) := ⟨_, rfl⟩
  have Ky0 := Lib.hid (show Blk W0 (w.heap.size) 25 #[.int .i64 L, .slice J n cj, .slice K m ck] by rw [hW0]; exact ((Blk.new _ _ _).alloc _).alloc _)
  have Ky1 := Lib.hid (show Blk W0 (w.heap.size + 1) 58 #[.slice P np cp, .int .i64 sp, .int .i64 ga, .int .i64 li] by rw [hW0]; exact (Blk.newAt _ _ _ (by simp)).alloc _)
  have Ky2 := Lib.hid (show Blk W0 (w.heap.size + 1 + 1) 77 #[.slice A N ca, .int .i64 t] by rw [hW0]; exact Blk.newAt _ _ _ (by simp))
  have X := Lib.hid (show Ext w W0 by rw [hW0]; exact ((Ext.alloc _ _).trans (Ext.alloc _ _)).trans (Ext.alloc _ _))
  have y0_0 : W0.cell? ⟨w.heap.size, 0, none⟩ = some (.int .i64 L) := Ky0.out.cell 0
  have y0_1 : W0.cell? ⟨w.heap.size, 1, none⟩ = some (.slice J n cj) := Ky0.out.cell 1
  have y0_2 : W0.cell? ⟨w.heap.size, 2, none⟩ = some (.slice K m ck) := Ky0.out.cell 2
  have y1_0 : W0.cell? ⟨w.heap.size + 1, 0, none⟩ = some (.slice P np cp) := Ky1.out.cell 0
  have y1_1 : W0.cell? ⟨w.heap.size + 1, 1, none⟩ = some (.int .i64 sp) := Ky1.out.cell 1
  have y1_2 : W0.cell? ⟨w.heap.size + 1, 2, none⟩ = some (.int .i64 ga) := Ky1.out.cell 2
  have y1_3 : W0.cell? ⟨w.heap.size + 1, 3, none⟩ = some (.int .i64 li) := Ky1.out.cell 3
  have y2_0 : W0.cell? ⟨w.heap.size + 1 + 1, 0, none⟩ = some (.slice A N ca) := Ky2.out.cell 0
  have y2_1 : W0.cell? ⟨w.heap.size + 1 + 1, 1, none⟩ = some (.int .i64 t) := Ky2.out.cell 1
  go_enter Try.func8, Try.ntmps8
  go_upto_region 1 with (fail)
  rw [← hW0]
  clear hW0
  go_wp2_with (go_at_call 13; refine (awake_any _).mono ?_; rintro e W1 ⟨rfl, hx⟩; replace X := Lib.hid (X.out.trans hx); replace Ky0 := Lib.hid (Ky0.out.ext hx); replace Ky1 := Lib.hid (Ky1.out.ext hx); replace Ky2 := Lib.hid (Ky2.out.ext hx); clear hx y0_0 y0_1 y0_2 y1_0 y1_1 y1_2 y1_3 y2_0 y2_1; refine Hid.out ?_)
  refine Lib.hid ?_
  have y0_0 : W1.cell? ⟨w.heap.size, 0, none⟩ = some (.int .i64 L) := Ky0.out.cell 0
  have y0_1 : W1.cell? ⟨w.heap.size, 1, none⟩ = some (.slice J n cj) := Ky0.out.cell 1
  have y0_2 : W1.cell? ⟨w.heap.size, 2, none⟩ = some (.slice K m ck) := Ky0.out.cell 2
  have y1_0 : W1.cell? ⟨w.heap.size + 1, 0, none⟩ = some (.slice P np cp) := Ky1.out.cell 0
  have y1_1 : W1.cell? ⟨w.heap.size + 1, 1, none⟩ = some (.int .i64 sp) := Ky1.out.cell 1
  have y1_2 : W1.cell? ⟨w.heap.size + 1, 2, none⟩ = some (.int .i64 ga) := Ky1.out.cell 2
  have y1_3 : W1.cell? ⟨w.heap.size + 1, 3, none⟩ = some (.int .i64 li) := Ky1.out.cell 3
  have y2_0 : W1.cell? ⟨w.heap.size + 1 + 1, 0, none⟩ = some (.slice A N ca) := Ky2.out.cell 0
  have y2_1 : W1.cell? ⟨w.heap.size + 1 + 1, 1, none⟩ = some (.int .i64 t) := Ky2.out.cell 1
  go_wp2_with (go_at_call 14; refine (HFEW.out _).mono ?_; rintro e W2 ⟨rfl, hx⟩; replace X := Lib.hid (X.out.trans hx); replace Ky0 := Lib.hid (Ky0.out.ext hx); replace Ky1 := Lib.hid (Ky1.out.ext hx); replace Ky2 := Lib.hid (Ky2.out.ext hx); clear hx y0_0 y0_1 y0_2 y1_0 y1_1 y1_2 y1_3 y2_0 y2_1; refine Hid.out ?_)
  refine Lib.hid ?_
  have y0_0 : W2.cell? ⟨w.heap.size, 0, none⟩ = some (.int .i64 L) := Ky0.out.cell 0
  have y0_1 : W2.cell? ⟨w.heap.size, 1, none⟩ = some (.slice J n cj) := Ky0.out.cell 1
  have y0_2 : W2.cell? ⟨w.heap.size, 2, none⟩ = some (.slice K m ck) := Ky0.out.cell 2
  have y1_0 : W2.cell? ⟨w.heap.size + 1, 0, none⟩ = some (.slice P np cp) := Ky1.out.cell 0
  have y1_1 : W2.cell? ⟨w.heap.size + 1, 1, none⟩ = some (.int .i64 sp) := Ky1.out.cell 1
  have y1_2 : W2.cell? ⟨w.heap.size + 1, 2, none⟩ = some (.int .i64 ga) := Ky1.out.cell 2
  have y1_3 : W2.cell? ⟨w.heap.size + 1, 3, none⟩ = some (.int .i64 li) := Ky1.out.cell 3
  have y2_0 : W2.cell? ⟨w.heap.size + 1 + 1, 0, none⟩ = some (.slice A N ca) := Ky2.out.cell 0
  have y2_1 : W2.cell? ⟨w.heap.size + 1 + 1, 1, none⟩ = some (.int .i64 t) := Ky2.out.cell 1
  go_wp2_with (go_at_call 33; refine (HFEA.out _).mono ?_; rintro e W3 ⟨rfl, hx⟩; replace X := Lib.hid (X.out.trans hx); replace Ky0 := Lib.hid (Ky0.out.ext hx); replace Ky1 := Lib.hid (Ky1.out.ext hx); replace Ky2 := Lib.hid (Ky2.out.ext hx); clear hx y0_0 y0_1 y0_2 y1_0 y1_1 y1_2 y1_3 y2_0 y2_1; refine Hid.out ?_)
  refine Lib.hid ?_
  have y0_0 : W3.cell? ⟨w.heap.size, 0, none⟩ = some (.int .i64 L) := Ky0.out.cell 0
  have y0_1 : W3.cell? ⟨w.heap.size, 1, none⟩ = some (.slice J n cj) := Ky0.out.cell 1
  have y0_2 : W3.cell? ⟨w.heap.size, 2, none⟩ = some (.slice K m ck) := Ky0.out.cell 2
  have y1_0 : W3.cell? ⟨w.heap.size + 1, 0, none⟩ = some (.slice P np cp) := Ky1.out.cell 0
  have y1_1 : W3.cell? ⟨w.heap.size + 1, 1, none⟩ = some (.int .i64 sp) := Ky1.out.cell 1
  have y1_2 : W3.cell? ⟨w.heap.size + 1, 2, none⟩ = some (.int .i64 ga) := Ky1.out.cell 2
  have y1_3 : W3.cell? ⟨w.heap.size + 1, 3, none⟩ = some (.int .i64 li) := Ky1.out.cell 3
  have y2_0 : W3.cell? ⟨w.heap.size + 1 + 1, 0, none⟩ = some (.slice A N ca) := Ky2.out.cell 0
  have y2_1 : W3.cell? ⟨w.heap.size + 1 + 1, 1, none⟩ = some (.int .i64 t) := Ky2.out.cell 1
  go_upto_region 5 with (fail)
  refine wp_region_each [some 27, some 28, some 29, some 30, some 31, some 32, some 33, some 34, some 35, some 36, some 37, some 26, some 38, some 39, some 7, some 8] [[3], [27], [4], [29], [5], [31], [32], [5], [34], [33, 35], [28, 30, 36], [37], [26], [26], [38], [39]]
    [Is (.agg #[.int .i64 L, .slice J n cj, .slice K m ck]), CopS L js ks n m, Is (.agg #[.slice P np cp, .int .i64 sp, .int .i64 ga, .int .i64 li]), CopP am sp ga li np, Is (.pointer (some ⟨w.heap.size + 1 + 1, 0, none⟩)), Is (.slice A N ca), CopL l N, Is (.pointer (some ⟨w.heap.size + 1 + 1, 1, none⟩)), Is (.int .i64 (t)), CopX l t N, Is (.tuple #[.int .i64 cn, .int .i64 ce]), Is (.tuple #[.int .i64 cn, .int .i64 ce]), Is (.int .i64 (cn)), Is (.int .i64 (ce)), Is (.int .i64 (cn)), Is (.int .i64 (ce))]
    (by kernel_rfl) (by kernel_rfl) (by kernel_rfl) (by kernel_rfl) (by kernel_rfl) Ext (fun W => Ext W3 W)
    (fun W _ => Ext.refl W) (fun W W' h k => h.trans k) ?_ (Ext.drew _) ?_ ?_
  · repeat (refine ⟨fun _ _ _ _ k h => (by first | exact h | exact (by first | exact IntsAt.ext h k | exact CopS.ext h k | exact CopP.ext h k | exact CopL.ext h k | exact CopX.ext h k)), ?_⟩)
    exact trivial
  · refine ⟨?_, ?_, ?_, ?_, ?_, ?_, ?_, ?_, ?_, ?_, ?_, ?_, ?_, ?_, ?_, ?_, trivial⟩
    all_goals intro ρ W ⟨kc, kg, kf⟩ hF hs
    · obtain ⟨h0, -⟩ := hs
      replace h0 : ρ (.tmp 3) = .pointer (some ⟨w.heap.size, 0, none⟩) := h0
      have hc0 : W.cell? ⟨w.heap.size, 0, none⟩ = some (.int .i64 L) := hF.cell (by assumption)
      have hc1 : W.cell? ⟨w.heap.size, 1, none⟩ = some (.slice J n cj) := hF.cell (by assumption)
      have hc2 : W.cell? ⟨w.heap.size, 2, none⟩ = some (.slice K m ck) := hF.cell (by assumption)
      go_simp
      exact ⟨Ext.refl _, rfl⟩
    · obtain ⟨h0, -⟩ := hs
      replace h0 : ρ (.tmp 27) = .agg #[.int .i64 L, .slice J n cj, .slice K m ck] := h0
      go_simp
      refine (HCP.out _ (X.out.trans hF)).mono ?_; rintro e w' ⟨v, rfl, hc, hx⟩; exact ⟨_, rfl, hx, CopS.of hc⟩
    · obtain ⟨h0, -⟩ := hs
      replace h0 : ρ (.tmp 4) = .pointer (some ⟨w.heap.size + 1, 0, none⟩) := h0
      have hc0 : W.cell? ⟨w.heap.size + 1, 0, none⟩ = some (.slice P np cp) := hF.cell (by assumption)
      have hc1 : W.cell? ⟨w.heap.size + 1, 1, none⟩ = some (.int .i64 sp) := hF.cell (by assumption)
      have hc2 : W.cell? ⟨w.heap.size + 1, 2, none⟩ = some (.int .i64 ga) := hF.cell (by assumption)
      have hc3 : W.cell? ⟨w.heap.size + 1, 3, none⟩ = some (.int .i64 li) := hF.cell (by assumption)
      go_simp
      exact ⟨Ext.refl _, rfl⟩
    · obtain ⟨h0, -⟩ := hs
      replace h0 : ρ (.tmp 29) = .agg #[.slice P np cp, .int .i64 sp, .int .i64 ga, .int .i64 li] := h0
      go_simp
      refine (HCQ.out _ (X.out.trans hF)).mono ?_; rintro e w' ⟨v, rfl, hc, hx⟩; exact ⟨_, rfl, hx, CopP.of hc⟩
    · obtain ⟨h0, -⟩ := hs
      replace h0 : ρ (.tmp 5) = .pointer (some ⟨w.heap.size + 1 + 1, 0, none⟩) := h0
      go_simp
      exact ⟨Ext.refl _, rfl⟩
    · obtain ⟨h0, -⟩ := hs
      replace h0 : ρ (.tmp 31) = .pointer (some ⟨w.heap.size + 1 + 1, 0, none⟩) := h0
      have hc0 : W.cell? ⟨w.heap.size + 1 + 1, 0, none⟩ = some (.slice A N ca) := hF.cell (by assumption)
      go_simp
      exact ⟨Ext.refl _, rfl⟩
    · obtain ⟨h0, -⟩ := hs
      replace h0 : ρ (.tmp 32) = .slice A N ca := h0
      go_simp
      refine (HCL.out _ (X.out.trans hF)).mono ?_; rintro e w' ⟨A', c', rfl, hr, hn1, hc1, hl1, hx⟩; exact ⟨_, rfl, hx, A', c', rfl, hr, hn1⟩
    · obtain ⟨h0, -⟩ := hs
      replace h0 : ρ (.tmp 5) = .pointer (some ⟨w.heap.size + 1 + 1, 0, none⟩) := h0
      go_simp
      exact ⟨Ext.refl _, rfl⟩
    · obtain ⟨h0, -⟩ := hs
      replace h0 : ρ (.tmp 34) = .pointer (some ⟨w.heap.size + 1 + 1, 1, none⟩) := h0
      have hc0 : W.cell? ⟨w.heap.size + 1 + 1, 1, none⟩ = some (.int .i64 (t)) := hF.cell (by assumption)
      go_simp
      exact ⟨Ext.refl _, rfl⟩
    · obtain ⟨h0, h1, -⟩ := hs
      replace h0 : (CopL l N) (ρ (.tmp 33)) W := h0
      replace h1 : ρ (.tmp 35) = .int .i64 (t) := h1
      obtain ⟨A2, c2, e2, r2, n2⟩ := h0
      replace e2 : ρ (.tmp 33) = .slice A2 N c2 := e2
      go_simp
      exact ⟨Ext.refl _, A2, c2, rfl, r2, n2⟩
    · obtain ⟨h0, h1, h2, -⟩ := hs
      replace h0 : (CopS L js ks n m) (ρ (.tmp 28)) W := h0
      replace h1 : (CopP am sp ga li np) (ρ (.tmp 30)) W := h1
      replace h2 : (CopX l t N) (ρ (.tmp 36)) W := h2
      obtain ⟨J1, c1, K1, d1, e1, r1, s1, n1, m1⟩ := h0
      replace e1 : ρ (.tmp 28) = .agg #[.int .i64 L, .slice J1 n c1, .slice K1 m d1] := e1
      obtain ⟨P2, c2, e2, r2, n2⟩ := h1
      replace e2 : ρ (.tmp 30) = .agg #[.slice P2 np c2, .int .i64 sp, .int .i64 ga, .int .i64 li] := e2
      obtain ⟨A3, c3, e3, r3, n3⟩ := h2
      replace e3 : ρ (.tmp 36) = .agg #[.slice A3 N c3, .int .i64 t] := e3
      go_simp
      refine (HPL.out _ J1 c1 K1 d1 P2 c2 A3 c3 r1 s1 r2 r3 n1).mono ?_; rintro e w' ⟨rfl, hx⟩; exact ⟨_, rfl, hx, rfl⟩
    · obtain ⟨h0, -⟩ := hs
      replace h0 : ρ (.tmp 37) = .tuple #[.int .i64 cn, .int .i64 ce] := h0
      go_simp
      exact ⟨Ext.refl _, rfl⟩
    · obtain ⟨h0, -⟩ := hs
      replace h0 : ρ (.tmp 26) = .tuple #[.int .i64 cn, .int .i64 ce] := h0
      go_simp
      exact ⟨Ext.refl _, rfl⟩
    · obtain ⟨h0, -⟩ := hs
      replace h0 : ρ (.tmp 26) = .tuple #[.int .i64 cn, .int .i64 ce] := h0
      go_simp
      exact ⟨Ext.refl _, rfl⟩
    · obtain ⟨h0, -⟩ := hs
      replace h0 : ρ (.tmp 38) = .int .i64 (cn) := h0
      go_simp
      exact ⟨Ext.refl _, rfl⟩
    · obtain ⟨h0, -⟩ := hs
      replace h0 : ρ (.tmp 39) = .int .i64 (ce) := h0
      go_simp
      exact ⟨Ext.refl _, rfl⟩
  · intro fv W4 hF hs
    obtain ⟨-, -, -, -, -, -, -, -, -, -, -, -, -, -, h7, h8, -⟩ := hs
    replace h7 : fv 7 = .int .i64 (cn) := h7
    replace h8 : fv 8 = .int .i64 (ce) := h8
    simp only [fin, List.filterMap]
    go_simp
    have hx := hF
    replace X := Lib.hid (X.out.trans hx)
    replace Ky0 := Lib.hid (Ky0.out.ext hx)
    replace Ky1 := Lib.hid (Ky1.out.ext hx)
    replace Ky2 := Lib.hid (Ky2.out.ext hx)
    clear hx y0_0 y0_1 y0_2 y1_0 y1_1 y1_2 y1_3 y2_0 y2_1
    clear hF
    obtain ⟨W5, hW5⟩ : ∃ W, W = W4 := ⟨_, rfl⟩
    rw [← hW5] at X Ky0 Ky1 Ky2 ⊢
    clear hW5 HCP HCQ HCL HPL
    have y0_0 : W5.cell? ⟨w.heap.size, 0, none⟩ = some (.int .i64 L) := Ky0.out.cell 0
    have y0_1 : W5.cell? ⟨w.heap.size, 1, none⟩ = some (.slice J n cj) := Ky0.out.cell 1
    have y0_2 : W5.cell? ⟨w.heap.size, 2, none⟩ = some (.slice K m ck) := Ky0.out.cell 2
    have y1_0 : W5.cell? ⟨w.heap.size + 1, 0, none⟩ = some (.slice P np cp) := Ky1.out.cell 0
    have y1_1 : W5.cell? ⟨w.heap.size + 1, 1, none⟩ = some (.int .i64 sp) := Ky1.out.cell 1
    have y1_2 : W5.cell? ⟨w.heap.size + 1, 2, none⟩ = some (.int .i64 ga) := Ky1.out.cell 2
    have y1_3 : W5.cell? ⟨w.heap.size + 1, 3, none⟩ = some (.int .i64 li) := Ky1.out.cell 3
    have y2_0 : W5.cell? ⟨w.heap.size + 1 + 1, 0, none⟩ = some (.slice A N ca) := Ky2.out.cell 0
    have y2_1 : W5.cell? ⟨w.heap.size + 1 + 1, 1, none⟩ = some (.int .i64 t) := Ky2.out.cell 1
    go_wp2_with (go_at_call 44; refine (HBE.out _ X.out).mono ?_; rintro e W6 ⟨rfl, hx⟩; replace X := Lib.hid (X.out.trans hx); replace Ky0 := Lib.hid (Ky0.out.ext hx); replace Ky1 := Lib.hid (Ky1.out.ext hx); replace Ky2 := Lib.hid (Ky2.out.ext hx); clear hx y0_0 y0_1 y0_2 y1_0 y1_1 y1_2 y1_3 y2_0 y2_1; refine Hid.out ?_)
    refine Lib.hid ?_
    have y0_0 : W6.cell? ⟨w.heap.size, 0, none⟩ = some (.int .i64 L) := Ky0.out.cell 0
    have y0_1 : W6.cell? ⟨w.heap.size, 1, none⟩ = some (.slice J n cj) := Ky0.out.cell 1
    have y0_2 : W6.cell? ⟨w.heap.size, 2, none⟩ = some (.slice K m ck) := Ky0.out.cell 2
    have y1_0 : W6.cell? ⟨w.heap.size + 1, 0, none⟩ = some (.slice P np cp) := Ky1.out.cell 0
    have y1_1 : W6.cell? ⟨w.heap.size + 1, 1, none⟩ = some (.int .i64 sp) := Ky1.out.cell 1
    have y1_2 : W6.cell? ⟨w.heap.size + 1, 2, none⟩ = some (.int .i64 ga) := Ky1.out.cell 2
    have y1_3 : W6.cell? ⟨w.heap.size + 1, 3, none⟩ = some (.int .i64 li) := Ky1.out.cell 3
    have y2_0 : W6.cell? ⟨w.heap.size + 1 + 1, 0, none⟩ = some (.slice A N ca) := Ky2.out.cell 0
    have y2_1 : W6.cell? ⟨w.heap.size + 1 + 1, 1, none⟩ = some (.int .i64 t) := Ky2.out.cell 1
    by_cases hb : be = 0
    · have hb2 : (be == 0) = true := by simp [hb]
      obtain ⟨a1, a2⟩ := HB0.out hb
      replace HPE := Lib.hid (fun W (e : Ext w W) => HPE.out hb W e)
      have a1 := a1.symm
      subst a1
      clear hb HB0 HB1
      go_wp2_with (go_at_call 46; refine (HPE.out _ X.out).mono ?_; rintro e W7 ⟨rfl, hx⟩; replace X := Lib.hid (X.out.trans hx); replace Ky0 := Lib.hid (Ky0.out.ext hx); replace Ky1 := Lib.hid (Ky1.out.ext hx); replace Ky2 := Lib.hid (Ky2.out.ext hx); clear hx y0_0 y0_1 y0_2 y1_0 y1_1 y1_2 y1_3 y2_0 y2_1; refine Hid.out ?_)
      refine Lib.hid ?_
      have y0_0 : W7.cell? ⟨w.heap.size, 0, none⟩ = some (.int .i64 L) := Ky0.out.cell 0
      have y0_1 : W7.cell? ⟨w.heap.size, 1, none⟩ = some (.slice J n cj) := Ky0.out.cell 1
      have y0_2 : W7.cell? ⟨w.heap.size, 2, none⟩ = some (.slice K m ck) := Ky0.out.cell 2
      have y1_0 : W7.cell? ⟨w.heap.size + 1, 0, none⟩ = some (.slice P np cp) := Ky1.out.cell 0
      have y1_1 : W7.cell? ⟨w.heap.size + 1, 1, none⟩ = some (.int .i64 sp) := Ky1.out.cell 1
      have y1_2 : W7.cell? ⟨w.heap.size + 1, 2, none⟩ = some (.int .i64 ga) := Ky1.out.cell 2
      have y1_3 : W7.cell? ⟨w.heap.size + 1, 3, none⟩ = some (.int .i64 li) := Ky1.out.cell 3
      have y2_0 : W7.cell? ⟨w.heap.size + 1 + 1, 0, none⟩ = some (.slice A N ca) := Ky2.out.cell 0
      have y2_1 : W7.cell? ⟨w.heap.size + 1 + 1, 1, none⟩ = some (.int .i64 t) := Ky2.out.cell 1
      by_cases hp : pe = 0
      · have hp2 : (pe != 0) = false := by simp [hp]
        have HR := Lib.hid (a2.1 hp)
        subst hp
        rw [HR.out]
        clear a2
        go_wp2
        go_ret
        exact ⟨ret_bool (by simp), X.out⟩
      · have hp2 : (pe != 0) = true := by simp [hp]
        have HR := Lib.hid (a2.2 hp)
        rw [HR.out]
        clear a2 hp
        go_wp2
        go_ret
        exact ⟨ret_bool (by simp), X.out⟩
    · have hb2 : (be == 0) = false := by simp [hb]
      have hb3 : (be != 0) = true := by simp [hb]
      obtain ⟨a1, a2⟩ := HB1.out hb
      subst a1 a2
      clear hb HB0 HB1 HPE
      go_wp2
      go_ret
      exact ⟨ret_bool (by simp), X.out⟩

end Go.Proofs.Ytjdilmmpdlcimaa
