/- DistortContained where all is valid. -/
import Derived.Test.YtjdilmmpdlcimaaV1
import Derived.Test.YtjdilmmpdlcimaaY1
import Derived.Test.YtjdilmmpdlcimaaG4
import Derived.Lib.MinMax
import Derived.Deep.DeepCutAuto
import Derived.BigQuiet
import Derived.BigRegion

namespace Go.Proofs.Ytjdilmmpdlcimaa
open Go.RowKit Go.Shelf Go.Mem Go.RegInv
attribute [local go_sem] RelUpon_value RelUpon_skip RelUpon_enter BigFrame.eval_const BigFrame.eval_global BigFrame.eval_func


set_option maxRecDepth 100000 in
set_option maxHeartbeats 4000000 in
theorem cont_ok {L : Int} {J K : Option Addr} {n cj ck : Nat} {js : List Int} {ks : List Rg} {w : World} (hn : js.length = n) (hJ : RowsAt 1 I1 w J js) (hm : ks.length = n) (hK : RowsAt 2 Rg.enc w K ks) {p : Int} {A : Option Addr} {np ca : Nat} {ps : List Int} (hnp : ps.length = np) (hP : RowsAt 1 I1 w A ps) (hjn : J = none → cj = 0) (hkn : K = none → ck = 0) (hs : ShOK L js ks) (hp : 0 ≤ p ∧ p ≤ L) (h10 : np ≤ 10) :
    Calls Try.prog 4 #[.agg #[.int .i64 L, .slice J n cj, .slice K n ck], .int .i64 p, .slice A np ca] w fun e w' => e = .returned (.bool true) ∧ Ext w w' := by
  have hn4 : n ≤ 4 := by have := hs.four; omega
  have HKI := Lib.hid (fun k (h : k < n) => hs.kink k (by omega))
  have HALL := Lib.hid (contained_all (p := p) ps hs hn hp)
  have HCP := Lib.hid (fun W (e : Ext w W) => copyShaft_any (L := L) (cj := cj) (ck := ck) hn (hJ.ext e) hm (hK.ext e) hjn hkn (by omega) (by omega))
  have HCW := Lib.hid (fun W (e : Ext w W) => copyShaftW_any (L := L) (cj := cj) (ck := ck) hn (hJ.ext e) hm (hK.ext e) hjn hkn (by omega) (by omega))
  have HSE := Lib.hid (fun W (e : Ext w W) => show Calls Try.prog 27 #[.agg #[.int .i64 L, .slice J n cj, .slice K n ck]] W fun e w' => e = .returned (.int .i64 0) ∧ Ext W w' from by have := refShaftErr_any (cj := cj) (ck := ck) (L := L) hn (hJ.ext e) hm (hK.ext e); rw [checkS_of hs] at this; exact this)
  have H17 := Lib.hid (fun W J1 c1 K1 d1 (r1 : RowsAt 1 I1 W J1 js) (s1 : RowsAt 2 Rg.enc W K1 ks) => show Calls Try.prog 17 #[.agg #[.int .i64 L, .slice J1 n c1, .slice K1 n d1], .int .i64 p] W fun e w' => e = .returned (.tuple #[.agg #[.int .i64 (defl L js ks p).1, .int .i64 (defl L js ks p).2], .int .i64 0]) ∧ Ext W w' from by
    have := deflectionAt_any (L := L) (cj := c1) (ck := d1) (p := p) hn r1 hm s1
    rw [deflE_of hs hp, deflV_of hs hp] at this
    exact this)
  have H170 := Lib.hid (fun W J1 c1 K1 d1 (r1 : RowsAt 1 I1 W J1 js) (s1 : RowsAt 2 Rg.enc W K1 ks) => show Calls Try.prog 17 #[.agg #[.int .i64 L, .slice J1 n c1, .slice K1 n d1], .int .i64 0] W fun e w' => e = .returned (.tuple #[.agg #[.int .i64 0, .int .i64 0], .int .i64 0]) ∧ Ext W w' from by
    have := deflectionAt_any (L := L) (cj := c1) (ck := d1) (p := 0) hn r1 hm s1
    rw [deflE_of hs (by omega), deflV_of hs (by omega), defl_zero (fun i hi => by have := hs.at' i hi; omega)] at this
    exact this)
  have H17L := Lib.hid (fun W J1 c1 K1 d1 (r1 : RowsAt 1 I1 W J1 js) (s1 : RowsAt 2 Rg.enc W K1 ks) => show Calls Try.prog 17 #[.agg #[.int .i64 L, .slice J1 n c1, .slice K1 n d1], .int .i64 L] W fun e w' => e = .returned (.tuple #[.agg #[.int .i64 0, .int .i64 0], .int .i64 0]) ∧ Ext W w' from by
    have := deflectionAt_any (L := L) (cj := c1) (ck := d1) (p := L) hn r1 hm s1
    rw [deflE_of hs (by omega), deflV_of hs (by omega), defl_end (fun i hi => by have := hs.at' i hi; omega)] at this
    exact this)
  have HSO := Lib.hid (sh_ones ps hs hn)
  have HSN := Lib.hid (sh_negs hs hn)
  have H17o := Lib.hid (fun W J1 c1 K1 d1 (r1 : RowsAt 1 I1 W J1 js) (s1 : RowsAt 2 Rg.enc W K1 (mapU (oneF ks ps) ks n n)) => show Calls Try.prog 17 #[.agg #[.int .i64 L, .slice J1 n c1, .slice K1 n d1], .int .i64 p] W fun e w' => e = .returned (.tuple #[.agg #[.int .i64 (defl L js (mapU (oneF ks ps) ks n n) p).1, .int .i64 (defl L js (mapU (oneF ks ps) ks n n) p).2], .int .i64 0]) ∧ Ext W w' from by
    have := deflectionAt_any (L := L) (cj := c1) (ck := d1) (p := p) hn r1 (mapU_len _ _ _ _) s1
    rw [deflE_of HSO.out hp, deflV_of HSO.out hp] at this
    exact this)
  have H17n := Lib.hid (fun W J1 c1 K1 d1 (r1 : RowsAt 1 I1 W J1 js) (s1 : RowsAt 2 Rg.enc W K1 (mapU (negF ks) ks n n)) => show Calls Try.prog 17 #[.agg #[.int .i64 L, .slice J1 n c1, .slice K1 n d1], .int .i64 p] W fun e w' => e = .returned (.tuple #[.agg #[.int .i64 (-(defl L js ks p).2), .int .i64 (-(defl L js ks p).1)], .int .i64 0]) ∧ Ext W w' from by
    have := deflectionAt_any (L := L) (cj := c1) (ck := d1) (p := p) hn r1 (mapU_len _ _ _ _) s1
    rw [deflE_of HSN.out hp, deflV_of HSN.out hp, HALL.out.2.2.2.2.2] at this
    exact this)
  have H18 := Lib.hid (fun W J1 c1 K1 d1 (r1 : RowsAt 1 I1 W J1 js) (s1 : RowsAt 2 Rg.enc W K1 (mapU (oneF ks ps) ks n n)) => deflectionsOf_ok (L := L) (cj := c1) (ck := d1) hn r1 (mapU_len _ _ _ _) s1 (checkS_of HSO.out))
  have HSL := Lib.hid (show 1 ≤ L ∧ L ≤ 10000 from ⟨hs.l1, hs.l2⟩)
  have HJ1 := Lib.hid (fun i (hi : i < js.length) => hs.at' i hi)
  generalize defl L js ks p = d at *
  generalize defl L js (mapU (oneF ks ps) ks n n) p = xo at *
  obtain ⟨d1, d2⟩ := d
  obtain ⟨o1, o2⟩ := xo
  dsimp only at HALL H17 H17n H17o
  have HOK := Lib.hid (fun i (h : i < js.length) => HSO.out.kink i h)
  clear HSO HSN
  have HWP := Lib.hid (show withinB p 0 L = true from withinB_t hp)
  have HPP := Lib.hid hp
  have HN2 := Lib.hid hn
  have HM2 := Lib.hid hm
  have HNP := Lib.hid hnp
  have HJ := Lib.hid hJ
  have HK := Lib.hid hK
  have HP := Lib.hid hP
  have HFEW := Lib.hid (fun W => show Calls Try.prog 14 #[.agg #[.int .i64 L, .slice J n cj, .slice K n ck]] W fun e w' => e = .returned (.bool true) ∧ Ext W w' from by have := few_any (L := L) (J := J) (K := K) (n := n) (m := n) (cj := cj) (ck := ck) W (by unfold maxLen; omega) (by unfold maxLen; omega); rw [show few2 n n = true by simp [few2]; omega] at this; exact this)
  have hd10 : decide ((10 : Int) < (np : Int)) = false := by simp; omega
  clear hn hJ hm hK hjn hkn hs hp hnp hP
  obtain ⟨W0, hW0⟩ : ∃ W0, W0 = w.alloc (.cells #[.int .i64 L, .slice J n cj, .slice K n ck] 25) := ⟨_, rfl⟩
  have Ky0 := Lib.hid (show Blk W0 (w.heap.size) 25 #[.int .i64 L, .slice J n cj, .slice K n ck] by rw [hW0]; exact Blk.new _ _ _)
  have X := Lib.hid (show Ext w W0 by rw [hW0]; exact Ext.alloc _ _)
  have y0_0 : W0.cell? ⟨w.heap.size, 0, none⟩ = some (.int .i64 L) := Ky0.out.cell 0
  have y0_1 : W0.cell? ⟨w.heap.size, 1, none⟩ = some (.slice J n cj) := Ky0.out.cell 1
  have y0_2 : W0.cell? ⟨w.heap.size, 2, none⟩ = some (.slice K n ck) := Ky0.out.cell 2
  go_enter Try.func4, Try.ntmps4
  go_upto_region 1 with (fail)
  rw [← hW0]
  clear hW0
  go_wp2_with (go_at_call 13; refine (awake_any _).mono ?_; rintro e W1 ⟨rfl, hx⟩; replace X := Lib.hid (X.out.trans hx); replace Ky0 := Lib.hid (Ky0.out.ext hx); clear hx y0_0 y0_1 y0_2; refine Hid.out ?_)
  refine Lib.hid ?_
  have y0_0 : W1.cell? ⟨w.heap.size, 0, none⟩ = some (.int .i64 L) := Ky0.out.cell 0
  have y0_1 : W1.cell? ⟨w.heap.size, 1, none⟩ = some (.slice J n cj) := Ky0.out.cell 1
  have y0_2 : W1.cell? ⟨w.heap.size, 2, none⟩ = some (.slice K n ck) := Ky0.out.cell 2
  go_wp2_with (go_at_call 14; refine (HFEW.out _).mono ?_; rintro e W2 ⟨rfl, hx⟩; replace X := Lib.hid (X.out.trans hx); replace Ky0 := Lib.hid (Ky0.out.ext hx); clear hx y0_0 y0_1 y0_2; refine Hid.out ?_)
  refine Lib.hid ?_
  have y0_0 : W2.cell? ⟨w.heap.size, 0, none⟩ = some (.int .i64 L) := Ky0.out.cell 0
  have y0_1 : W2.cell? ⟨w.heap.size, 1, none⟩ = some (.slice J n cj) := Ky0.out.cell 1
  have y0_2 : W2.cell? ⟨w.heap.size, 2, none⟩ = some (.slice K n ck) := Ky0.out.cell 2
  go_wp2_with (go_at_call 27; refine (HSE.out _ X.out).mono ?_; rintro e W3 ⟨rfl, hx⟩; replace X := Lib.hid (X.out.trans hx); replace Ky0 := Lib.hid (Ky0.out.ext hx); clear hx y0_0 y0_1 y0_2; refine Hid.out ?_)
  refine Lib.hid ?_
  have y0_0 : W3.cell? ⟨w.heap.size, 0, none⟩ = some (.int .i64 L) := Ky0.out.cell 0
  have y0_1 : W3.cell? ⟨w.heap.size, 1, none⟩ = some (.slice J n cj) := Ky0.out.cell 1
  have y0_2 : W3.cell? ⟨w.heap.size, 2, none⟩ = some (.slice K n ck) := Ky0.out.cell 2
  clear HFEW HSE
  go_upto_region 5 with (go_at_call 21; refine (within_any _ _ _ _).mono ?_; rintro e w' ⟨rfl, rfl⟩; rw [HWP.out])
  clear HWP
  go_wp2_with (go_at_call 16; refine (HCP.out _ X.out).mono ?_; rintro e W4 ⟨v, rfl, hc, hx⟩; obtain ⟨J1, cj1, K1, ck1, rfl, hr1, hr2, hn1, hn2, -⟩ := hc; have RJ1 := Lib.hid hr1; have RK1 := Lib.hid hr2; have NJ1 := Lib.hid hn1; have NK1 := Lib.hid hn2; clear hr1 hr2 hn1 hn2; replace X := Lib.hid (X.out.trans hx); replace Ky0 := Lib.hid (Ky0.out.ext hx); clear hx y0_0 y0_1 y0_2; refine Hid.out ?_)
  refine Lib.hid ?_
  have y0_0 : W4.cell? ⟨w.heap.size, 0, none⟩ = some (.int .i64 L) := Ky0.out.cell 0
  have y0_1 : W4.cell? ⟨w.heap.size, 1, none⟩ = some (.slice J n cj) := Ky0.out.cell 1
  have y0_2 : W4.cell? ⟨w.heap.size, 2, none⟩ = some (.slice K n ck) := Ky0.out.cell 2
  go_wp2_with (go_at_call 17; refine (H17.out _ _ _ _ _ RJ1.out RK1.out).mono ?_; rintro e W5 ⟨rfl, hx⟩; replace X := Lib.hid (X.out.trans hx); replace Ky0 := Lib.hid (Ky0.out.ext hx); clear hx y0_0 y0_1 y0_2; refine Hid.out ?_)
  refine Lib.hid ?_
  have y0_0 : W5.cell? ⟨w.heap.size, 0, none⟩ = some (.int .i64 L) := Ky0.out.cell 0
  have y0_1 : W5.cell? ⟨w.heap.size, 1, none⟩ = some (.slice J n cj) := Ky0.out.cell 1
  have y0_2 : W5.cell? ⟨w.heap.size, 2, none⟩ = some (.slice K n ck) := Ky0.out.cell 2
  clear RJ1 RK1 NJ1 NK1
  obtain ⟨q7, hq⟩ : ∃ q, q = W5.heap.size := ⟨_, rfl⟩
  obtain ⟨V6, hV⟩ : ∃ V, V = W5.alloc (.cells #[.int .i64 d1, .int .i64 d2] 33) := ⟨_, rfl⟩
  have hx : Ext W5 V6 := by rw [hV]; exact Ext.alloc _ _
  have Ky7 := Lib.hid (show Blk V6 q7 33 #[.int .i64 d1, .int .i64 d2] by rw [hV, hq]; exact Blk.new _ _ _)
  go_upto_region 6 with (fail)
  rw [← hV, ← hq]
  replace X := Lib.hid (X.out.trans hx)
  replace Ky0 := Lib.hid (Ky0.out.ext hx)
  clear hx y0_0 y0_1 y0_2
  clear hV hq
  have y0_0 : V6.cell? ⟨w.heap.size, 0, none⟩ = some (.int .i64 L) := Ky0.out.cell 0
  have y0_1 : V6.cell? ⟨w.heap.size, 1, none⟩ = some (.slice J n cj) := Ky0.out.cell 1
  have y0_2 : V6.cell? ⟨w.heap.size, 2, none⟩ = some (.slice K n ck) := Ky0.out.cell 2
  have y7_0 : V6.cell? ⟨q7, 0, none⟩ = some (.int .i64 d1) := Ky7.out.cell 0
  have y7_1 : V6.cell? ⟨q7, 1, none⟩ = some (.int .i64 d2) := Ky7.out.cell 1
  have K7L := Lib.hid Ky7.out.lt
  have K0L := Lib.hid Ky0.out.lt
  refine wp_region_ownW [.op, .new, .op, .new, .new, .new, .store, .store] [6, 7] [9, 62, 10, 64] [62, 64, 9, 10] [some 61, some 62, some 63, some 64, some 9, some 10, none, none] [[3], [61], [3], [63], [], [], [9, 62], [10, 64]]
    [Is (.agg #[.int .i64 L, .slice J n cj, .slice K n ck]), OShC V6.heap.size L (js.flatMap I1) (ks.flatMap Rg.enc) n n, Is (.agg #[.int .i64 L, .slice J n cj, .slice K n ck]), OShC V6.heap.size L (js.flatMap I1) (ks.flatMap Rg.enc) n n, NewP V6.heap.size 25 #[.int .i64 0, .slice none 0 0, .slice none 0 0], NewP V6.heap.size 25 #[.int .i64 0, .slice none 0 0, .slice none 0 0], fun _ _ => True, fun _ _ => True]
    (by kernel_rfl) (by kernel_rfl) (by kernel_rfl) (by kernel_rfl) (by kernel_rfl) (by kernel_rfl) (by kernel_rfl) (by kernel_rfl) (by kernel_rfl) Ext (fun W => Ext V6 W)
    (fun W _ => Ext.refl W) (fun W W' h k => h.trans k) (fun W W' h => h.size) ?_ (Ext.drew _) ?_ ?_
  · repeat (refine ⟨fun _ _ _ _ k h => (by first | exact h | exact NewP.ext h k | exact OShC.ext h k), ?_⟩)
    exact trivial
  · refine ⟨?_, ?_, ?_, ?_, ?_, ?_, trivial⟩
    · intro ρ W ⟨kc, kg, kf⟩ hF hs
      obtain ⟨h0, -⟩ := hs
      replace h0 : ρ (.tmp 3) = .pointer (some ⟨w.heap.size, 0, none⟩) := h0
      have hc0 : W.cell? ⟨w.heap.size, 0, none⟩ = some (.int .i64 L) := hF.cell (by assumption)
      have hc1 : W.cell? ⟨w.heap.size, 1, none⟩ = some (.slice J n cj) := hF.cell (by assumption)
      have hc2 : W.cell? ⟨w.heap.size, 2, none⟩ = some (.slice K n ck) := hF.cell (by assumption)
      go_simp
      exact ⟨Ext.refl _, rfl⟩
    · intro ρ W ⟨kc, kg, kf⟩ hF hs
      obtain ⟨h0, -⟩ := hs
      replace h0 : ρ (.tmp 61) = .agg #[.int .i64 L, .slice J n cj, .slice K n ck] := h0
      go_simp
      refine (HCW.out _ (X.out.trans hF)).mono ?_
      rintro e w' ⟨J', cj', K', ck', rfl, oj, ok, hx⟩
      exact ⟨_, rfl, hx, ⟨J', cj', K', ck', rfl, own_low oj hF.size, own_low ok hF.size⟩, blkW_own ok⟩
    · intro ρ W ⟨kc, kg, kf⟩ hF hs
      obtain ⟨h0, -⟩ := hs
      replace h0 : ρ (.tmp 3) = .pointer (some ⟨w.heap.size, 0, none⟩) := h0
      have hc0 : W.cell? ⟨w.heap.size, 0, none⟩ = some (.int .i64 L) := hF.cell (by assumption)
      have hc1 : W.cell? ⟨w.heap.size, 1, none⟩ = some (.slice J n cj) := hF.cell (by assumption)
      have hc2 : W.cell? ⟨w.heap.size, 2, none⟩ = some (.slice K n ck) := hF.cell (by assumption)
      go_simp
      exact ⟨Ext.refl _, rfl⟩
    · intro ρ W ⟨kc, kg, kf⟩ hF hs
      obtain ⟨h0, -⟩ := hs
      replace h0 : ρ (.tmp 63) = .agg #[.int .i64 L, .slice J n cj, .slice K n ck] := h0
      go_simp
      refine (HCW.out _ (X.out.trans hF)).mono ?_
      rintro e w' ⟨J', cj', K', ck', rfl, oj, ok, hx⟩
      exact ⟨_, rfl, hx, ⟨J', cj', K', ck', rfl, own_low oj hF.size, own_low ok hF.size⟩, blkW_own ok⟩
    · intro ρ W ⟨kc, kg, kf⟩ hF hs
      go_simp
      exact ⟨Ext.alloc _ _, ⟨_, rfl, hF.size, Blk.new _ _ _⟩, fun q hq => by obtain rfl := Option.some.inj hq; exact ⟨Nat.le_refl _, by simp⟩⟩
    · intro ρ W ⟨kc, kg, kf⟩ hF hs
      go_simp
      exact ⟨Ext.alloc _ _, ⟨_, rfl, hF.size, Blk.new _ _ _⟩, fun q hq => by obtain rfl := Option.some.inj hq; exact ⟨Nat.le_refl _, by simp⟩⟩
  · intro fv U hF hs hap σ hσ ρ ⟨kc, kg, kf⟩ hr
    obtain ⟨-, h62, -, h64, h9, h10, -⟩ := hs
    replace h62 : OShC V6.heap.size L (js.flatMap I1) (ks.flatMap Rg.enc) n n (fv 62) U := h62
    replace h64 : OShC V6.heap.size L (js.flatMap I1) (ks.flatMap Rg.enc) n n (fv 64) U := h64
    replace h9 : (NewP V6.heap.size 25 #[.int .i64 0, .slice none 0 0, .slice none 0 0]) (fv 9) U := h9
    replace h10 : (NewP V6.heap.size 25 #[.int .i64 0, .slice none 0 0, .slice none 0 0]) (fv 10) U := h10
    obtain ⟨r0, r1, r2, r3, -⟩ := hr
    replace r0 : ρ (.tmp 9) = fv 9 := r0
    replace r1 : ρ (.tmp 62) = fv 62 := r1
    replace r2 : ρ (.tmp 10) = fv 10 := r2
    replace r3 : ρ (.tmp 64) = fv 64 := r3
    obtain ⟨J1, cj1, K1, ck1, hv62, oj1, ok1⟩ := h62
    obtain ⟨J2, cj2, K2, ck2, hv64, oj2, ok2⟩ := h64
    obtain ⟨q9, hq9, hqs9, hb9⟩ := h9
    obtain ⟨q10, hq10, hqs10, hb10⟩ := h10
    rw [hq9] at r0
    rw [hv62] at r1
    rw [hq10] at r2
    rw [hv64] at r3
    have f9_0 := hb9.free 0
    have f9_1 := hb9.free 1
    have f9_2 := hb9.free 2
    have f10_0 := hb10.free 0
    have f10_1 := hb10.free 1
    have f10_2 := hb10.free 2
    have c9_0 : U.cell? ⟨q9, 0, none⟩ = some (.int .i64 0) := hb9.cell 0
    have c10_0 : U.cell? ⟨q10, 0, none⟩ = some (.int .i64 0) := hb10.cell 0
    have c9_1 : U.cell? ⟨q9, 1, none⟩ = some (.slice none 0 0) := hb9.cell 1
    have c10_1 : U.cell? ⟨q10, 1, none⟩ = some (.slice none 0 0) := hb10.cell 1
    have c9_2 : U.cell? ⟨q9, 2, none⟩ = some (.slice none 0 0) := hb9.cell 2
    have c10_2 : U.cell? ⟨q10, 2, none⟩ = some (.slice none 0 0) := hb10.cell 2
    obtain ⟨ha62, ha64, ha9, -⟩ := hap
    have hg12 : ∀ g, K1 = some ⟨g, 0, none⟩ → K2 ≠ some ⟨g, 0, none⟩ := by
      intro g e1 e2
      subst e1
      subst e2
      have := ha62 64 (by simp) g (by rw [hv62]; rfl)
      rw [hv64] at this
      exact this rfl
    have hne : q9 ≠ q10 := by
      intro h
      subst h
      exact ha9 10 (by simp) q9 (by rw [hq9]; rfl) (by rw [hq10]; rfl)
    have hne2 := Ne.symm hne
    have a19 := own_notBlk oj1 hb9 (by decide)
    have a110 := own_notBlk oj1 hb10 (by decide)
    have a29 := own_notBlk oj2 hb9 (by decide)
    have a210 := own_notBlk oj2 hb10 (by decide)
    have b19 := own_notBlk ok1 hb9 (by decide)
    have b110 := own_notBlk ok1 hb10 (by decide)
    have b29 := own_notBlk ok2 hb9 (by decide)
    have b210 := own_notBlk ok2 hb10 (by decide)
    refine stores_two (R := fun V => Ext V6 V ∧ Blk V q9 25 #[.int .i64 L, .slice J1 n cj1, .slice K1 n ck1] ∧ Blk V q10 25 #[.int .i64 L, .slice J2 n cj2, .slice K2 n ck2] ∧ V.ownsRow V6.heap.size 3 1 (.slice J1 n cj1) n (js.flatMap I1) ∧ V.ownsRow V6.heap.size 3 1 (.slice J2 n cj2) n (js.flatMap I1) ∧ V.ownsRow V6.heap.size 33 2 (.slice K1 n ck1) n ((ks).flatMap Rg.enc) ∧ V.ownsRow V6.heap.size 33 2 (.slice K2 n ck2) n ((ks).flatMap Rg.enc)) _ _ rfl rfl hσ (((U.setCell ⟨q9, 0, none⟩ (.int .i64 L)).setCell ⟨q9, 1, none⟩ (.slice J1 n cj1)).setCell ⟨q9, 2, none⟩ (.slice K1 n ck1)) ((((((U.setCell ⟨q9, 0, none⟩ (.int .i64 L)).setCell ⟨q9, 1, none⟩ (.slice J1 n cj1)).setCell ⟨q9, 2, none⟩ (.slice K1 n ck1)).setCell ⟨q10, 0, none⟩ (.int .i64 L)).setCell ⟨q10, 1, none⟩ (.slice J2 n cj2)).setCell ⟨q10, 2, none⟩ (.slice K2 n ck2)) (((U.setCell ⟨q10, 0, none⟩ (.int .i64 L)).setCell ⟨q10, 1, none⟩ (.slice J2 n cj2)).setCell ⟨q10, 2, none⟩ (.slice K2 n ck2)) ((((((U.setCell ⟨q10, 0, none⟩ (.int .i64 L)).setCell ⟨q10, 1, none⟩ (.slice J2 n cj2)).setCell ⟨q10, 2, none⟩ (.slice K2 n ck2)).setCell ⟨q9, 0, none⟩ (.int .i64 L)).setCell ⟨q9, 1, none⟩ (.slice J1 n cj1)).setCell ⟨q9, 2, none⟩ (.slice K1 n ck1)) (by go_simp) (by go_simp) (by go_simp) (by go_simp)
      ⟨Ext.set (Ext.set (Ext.set (Ext.set (Ext.set (Ext.set hF (by dsimp only; exact hqs9) _) (by dsimp only; exact hqs9) _) (by dsimp only; exact hqs9) _) (by dsimp only; exact hqs10) _) (by dsimp only; exact hqs10) _) (by dsimp only; exact hqs10) _, (((((hb9.setSame 0 _).setSame 1 _).setSame 2 _).setOther (by dsimp only; first | exact hne | exact hne2) _).setOther (by dsimp only; first | exact hne | exact hne2) _).setOther (by dsimp only; first | exact hne | exact hne2) _, (((((hb10.setOther (by dsimp only; first | exact hne | exact hne2) _).setOther (by dsimp only; first | exact hne | exact hne2) _).setOther (by dsimp only; first | exact hne | exact hne2) _).setSame 0 _).setSame 1 _).setSame 2 _, own_set (own_set (own_set (own_set (own_set (own_set oj1 a19 _) a19 _) a19 _) a110 _) a110 _) a110 _, own_set (own_set (own_set (own_set (own_set (own_set oj2 a29 _) a29 _) a29 _) a210 _) a210 _) a210 _, own_set (own_set (own_set (own_set (own_set (own_set ok1 b19 _) b19 _) b19 _) b110 _) b110 _) b110 _, own_set (own_set (own_set (own_set (own_set (own_set ok2 b29 _) b29 _) b29 _) b210 _) b210 _) b210 _⟩
      ⟨Ext.set (Ext.set (Ext.set (Ext.set (Ext.set (Ext.set hF (by dsimp only; exact hqs10) _) (by dsimp only; exact hqs10) _) (by dsimp only; exact hqs10) _) (by dsimp only; exact hqs9) _) (by dsimp only; exact hqs9) _) (by dsimp only; exact hqs9) _, (((((hb9.setOther (by dsimp only; first | exact hne | exact hne2) _).setOther (by dsimp only; first | exact hne | exact hne2) _).setOther (by dsimp only; first | exact hne | exact hne2) _).setSame 0 _).setSame 1 _).setSame 2 _, (((((hb10.setSame 0 _).setSame 1 _).setSame 2 _).setOther (by dsimp only; first | exact hne | exact hne2) _).setOther (by dsimp only; first | exact hne | exact hne2) _).setOther (by dsimp only; first | exact hne | exact hne2) _, own_set (own_set (own_set (own_set (own_set (own_set oj1 a110 _) a110 _) a110 _) a19 _) a19 _) a19 _, own_set (own_set (own_set (own_set (own_set (own_set oj2 a210 _) a210 _) a210 _) a29 _) a29 _) a29 _, own_set (own_set (own_set (own_set (own_set (own_set ok1 b110 _) b110 _) b110 _) b19 _) b19 _) b19 _, own_set (own_set (own_set (own_set (own_set (own_set ok2 b210 _) b210 _) b210 _) b29 _) b29 _) b29 _⟩ ?_
    rintro V7 ⟨hx, ky9, ky10, o1, o2, o3, o4⟩
    have XS := Lib.hid hx.size
    have Ky9 := Lib.hid ky9
    have Ky10 := Lib.hid ky10
    have OJ1 := Lib.hid o1
    have OJ2 := Lib.hid o2
    have OK1 := Lib.hid o3
    have OK2 := Lib.hid o4
    have N12 := Lib.hid hg12
    have Q9s := Lib.hid hqs9
    have Q10s := Lib.hid hqs10
    have NE := Lib.hid hne
    clear hF hσ hne hne2 ha62 ha64 ha9 r0 r1 r2 r3 kc kg kf hb9 hb10 hqs9 hqs10 f9_0 f9_1 f9_2 f10_0 f10_1 f10_2 c9_0 c9_1 c9_2 c10_0 c10_1 c10_2 oj1 oj2 ok1 ok2 a19 a110 a29 a210 b19 b110 b29 b210 hg12 ky9 ky10 o1 o2 o3 o4
    simp only [fin, List.filterMap]
    go_simp
    try rw [hv62]
    try rw [hv64]
    try rw [hq9]
    try rw [hq10]
    clear hv62 hv64 hq9 hq10
    clear ρ σ
    replace X := Lib.hid (X.out.trans hx)
    replace Ky0 := Lib.hid (Ky0.out.ext hx)
    replace Ky7 := Lib.hid (Ky7.out.ext hx)
    clear hx y0_0 y0_1 y0_2 y7_0 y7_1
    have y0_0 : V7.cell? ⟨w.heap.size, 0, none⟩ = some (.int .i64 L) := Ky0.out.cell 0
    have y0_1 : V7.cell? ⟨w.heap.size, 1, none⟩ = some (.slice J n cj) := Ky0.out.cell 1
    have y0_2 : V7.cell? ⟨w.heap.size, 2, none⟩ = some (.slice K n ck) := Ky0.out.cell 2
    have y7_0 : V7.cell? ⟨q7, 0, none⟩ = some (.int .i64 d1) := Ky7.out.cell 0
    have y7_1 : V7.cell? ⟨q7, 1, none⟩ = some (.int .i64 d2) := Ky7.out.cell 1
    have y9_0 : V7.cell? ⟨q9, 0, none⟩ = some (.int .i64 L) := Ky9.out.cell 0
    have y9_1 : V7.cell? ⟨q9, 1, none⟩ = some (.slice J1 n cj1) := Ky9.out.cell 1
    have y9_2 : V7.cell? ⟨q9, 2, none⟩ = some (.slice K1 n ck1) := Ky9.out.cell 2
    have y10_0 : V7.cell? ⟨q10, 0, none⟩ = some (.int .i64 L) := Ky10.out.cell 0
    have y10_1 : V7.cell? ⟨q10, 1, none⟩ = some (.slice J2 n cj2) := Ky10.out.cell 1
    have y10_2 : V7.cell? ⟨q10, 2, none⟩ = some (.slice K2 n ck2) := Ky10.out.cell 2
    go_wp2
    clear y0_0 y0_1 y0_2 y7_0 y7_1 y9_0 y9_1 y9_2 y10_0 y10_1 y10_2
    have S67 := Lib.hid (show q7 < V6.heap.size from K7L.out)
    go_loopw [11] (fun i wr => ∃ k : Nat, k ≤ n ∧ i = .int .i64 (k : Int) ∧ Ext w wr ∧ V6.heap.size ≤ wr.heap.size ∧ Blk wr (w.heap.size) 25 #[.int .i64 L, .slice J n cj, .slice K n ck] ∧ Blk wr (q7) 33 #[.int .i64 d1, .int .i64 d2] ∧ Blk wr (q9) 25 #[.int .i64 L, .slice J1 n cj1, .slice K1 n ck1] ∧ Blk wr (q10) 25 #[.int .i64 L, .slice J2 n cj2, .slice K2 n ck2] ∧ wr.ownsRow V6.heap.size 3 1 (.slice J1 n cj1) n (js.flatMap I1) ∧ wr.ownsRow V6.heap.size 3 1 (.slice J2 n cj2) n (js.flatMap I1) ∧ wr.ownsRow V6.heap.size 33 2 (.slice K1 n ck1) n ((mapU (oneF ks ps) ks n k).flatMap Rg.enc) ∧ wr.ownsRow V6.heap.size 33 2 (.slice K2 n ck2) n ((mapU (negF ks) ks n k).flatMap Rg.enc)) (fun i _ => n - (intOf i).toNat)
    case atStart => exact ⟨0, by omega, rfl, X.out, XS.out, Ky0.out, Ky7.out, Ky9.out, Ky10.out, OJ1.out, OJ2.out, by rw [mapU_zero HM2.out]; exact OK1.out, by rw [mapU_zero HM2.out]; exact OK2.out⟩
    case round =>
      clear X XS Ky0 Ky7 Ky9 Ky10 OJ1 OJ2 OK1 OK2
      obtain ⟨k, hk, rfl, hx, h0, h1, h2, h3, h4, h5, h6, h7, h8⟩ := hrel
      have X := Lib.hid hx
      have XS := Lib.hid h0
      have Ky0 := Lib.hid h1
      have Ky7 := Lib.hid h2
      have Ky9 := Lib.hid h3
      have Ky10 := Lib.hid h4
      have OJ1 := Lib.hid h5
      have OJ2 := Lib.hid h6
      have OK1 := Lib.hid h7
      have OK2 := Lib.hid h8
      clear hx h0 h1 h2 h3 h4 h5 h6 h7 h8
      by_cases hlt : k < n
      · have HR1 := Lib.hid (mapU_at (f := oneF ks ps) (ks := ks) (k := k) hlt)
        rw [if_neg (by omega)] at HR1
        have HR2 := Lib.hid (mapU_at (f := negF ks) (ks := ks) (k := k) hlt)
        rw [if_neg (by omega)] at HR2
        have HN1 := Lib.hid (mapU_next (f := oneF ks ps) (ks := ks) hlt)
        have HN2n := Lib.hid (mapU_next (f := negF ks) (ks := ks) hlt)
        have hkb := HKI.out k hlt
        have HF1 := Lib.hid (show oneF ks ps k = (oneN ks ps k, oneN ks ps k) from rfl)
        have HF2 := Lib.hid (show negF ks k = (-(ks.getD k default).2, -(ks.getD k default).1) from rfl)
        have HO := Lib.hid (show oneN ks ps k = if k < ps.length then (ks.getD k default).1 + ps.getD k 0 % ((ks.getD k default).2 - (ks.getD k default).1 + 1) else (ks.getD k default).1 from rfl)
        rw [HF1.out] at HN1
        rw [HF2.out] at HN2n
        rw [HNP.out] at HO
        obtain ⟨kb, ko, rfl, hkl, hc0, hc1⟩ := row_Rg (HK.out.ext X.out) (i := k) (by have := HM2.out; omega)
        generalize oneN ks ps k = v at *
        generalize ks.getD k default = x at *
        obtain ⟨x1, x2⟩ := x
        dsimp only at hc0 hc1 hkb HO HN2n
        have HX := Lib.hid hkb
        have hki : (k : Int) < (n : Int) := by omega
        have hnb : n ≤ 1152921504606846976 := by omega
        obtain ⟨g1, rfl, hg1⟩ := own_at OK1.out (by omega)
        obtain ⟨g2, rfl, hg2⟩ := own_at OK2.out (by omega)
        have G1 := Lib.hid hg1
        have G2 := Lib.hid hg2
        have G12 := Lib.hid (show g1 < wr.heap.size ∧ g2 < wr.heap.size from ⟨(own_in OK1.out).2, (own_in OK2.out).2⟩)
        clear hg1 hg2 HF1 HF2 hkl
        obtain ⟨Vr, hVr⟩ : ∃ V, V = wr := ⟨_, rfl⟩
        rw [← hVr] at G12 X XS Ky0 Ky7 Ky9 Ky10 OJ1 OJ2 OK1 OK2 hc0 hc1 ⊢
        clear hVr
        have y0_0 : Vr.cell? ⟨w.heap.size, 0, none⟩ = some (.int .i64 L) := Ky0.out.cell 0
        have y0_1 : Vr.cell? ⟨w.heap.size, 1, none⟩ = some (.slice J n cj) := Ky0.out.cell 1
        have y0_2 : Vr.cell? ⟨w.heap.size, 2, none⟩ = some (.slice (some ⟨kb, ko, none⟩) n ck) := Ky0.out.cell 2
        have y7_0 : Vr.cell? ⟨q7, 0, none⟩ = some (.int .i64 d1) := Ky7.out.cell 0
        have y7_1 : Vr.cell? ⟨q7, 1, none⟩ = some (.int .i64 d2) := Ky7.out.cell 1
        have y9_0 : Vr.cell? ⟨q9, 0, none⟩ = some (.int .i64 L) := Ky9.out.cell 0
        have y9_1 : Vr.cell? ⟨q9, 1, none⟩ = some (.slice J1 n cj1) := Ky9.out.cell 1
        have y9_2 : Vr.cell? ⟨q9, 2, none⟩ = some (.slice (some ⟨g1, 0, none⟩) n ck1) := Ky9.out.cell 2
        have y10_0 : Vr.cell? ⟨q10, 0, none⟩ = some (.int .i64 L) := Ky10.out.cell 0
        have y10_1 : Vr.cell? ⟨q10, 1, none⟩ = some (.slice J2 n cj2) := Ky10.out.cell 1
        have y10_2 : Vr.cell? ⟨q10, 2, none⟩ = some (.slice (some ⟨g2, 0, none⟩) n ck2) := Ky10.out.cell 2
        by_cases hkp : k < np
        · rw [if_pos hkp] at HO
          have hd12 : (k : Int) < (np : Int) := by omega
          have hd12b : decide (k < np) = true := by simp [hkp]
          obtain ⟨pb, po, rfl, hpb, hp0⟩ := row_I1 (HP.out.ext X.out) (i := k) (by have := HNP.out; omega)
          generalize ps.getD k 0 = pk at *
          obtain ⟨q12, hq⟩ : ∃ q, q = Vr.heap.size := ⟨_, rfl⟩
          obtain ⟨Vs, hV⟩ : ∃ V, V = Vr.alloc (.cells #[.int .i64 x1, .int .i64 x2] 33) := ⟨_, rfl⟩
          have hx : Ext Vr Vs := by rw [hV]; exact Ext.alloc _ _
          have HXS := Lib.hid hx
          have HQ12 := Lib.hid hq
          have Ky12 := Lib.hid (show Blk Vs q12 33 #[.int .i64 x1, .int .i64 x2] by rw [hV, hq]; exact Blk.new _ _ _)
          go_upto_region 13 with (fail)
          rw [← hV, ← hq]
          replace X := Lib.hid (X.out.trans hx)
          replace Ky0 := Lib.hid (Ky0.out.ext hx)
          replace Ky7 := Lib.hid (Ky7.out.ext hx)
          replace Ky9 := Lib.hid (Ky9.out.ext hx)
          replace Ky10 := Lib.hid (Ky10.out.ext hx)
          replace OJ1 := Lib.hid (own_ext OJ1.out hx)
          replace OJ2 := Lib.hid (own_ext OJ2.out hx)
          replace OK1 := Lib.hid (own_ext OK1.out hx)
          replace OK2 := Lib.hid (own_ext OK2.out hx)
          clear hx y0_0 y0_1 y0_2 y7_0 y7_1 y9_0 y9_1 y9_2 y10_0 y10_1 y10_2
          clear hV hq
          have y0_0 : Vs.cell? ⟨w.heap.size, 0, none⟩ = some (.int .i64 L) := Ky0.out.cell 0
          have y0_1 : Vs.cell? ⟨w.heap.size, 1, none⟩ = some (.slice J n cj) := Ky0.out.cell 1
          have y0_2 : Vs.cell? ⟨w.heap.size, 2, none⟩ = some (.slice (some ⟨kb, ko, none⟩) n ck) := Ky0.out.cell 2
          have y7_0 : Vs.cell? ⟨q7, 0, none⟩ = some (.int .i64 d1) := Ky7.out.cell 0
          have y7_1 : Vs.cell? ⟨q7, 1, none⟩ = some (.int .i64 d2) := Ky7.out.cell 1
          have y9_0 : Vs.cell? ⟨q9, 0, none⟩ = some (.int .i64 L) := Ky9.out.cell 0
          have y9_1 : Vs.cell? ⟨q9, 1, none⟩ = some (.slice J1 n cj1) := Ky9.out.cell 1
          have y9_2 : Vs.cell? ⟨q9, 2, none⟩ = some (.slice (some ⟨g1, 0, none⟩) n ck1) := Ky9.out.cell 2
          have y10_0 : Vs.cell? ⟨q10, 0, none⟩ = some (.int .i64 L) := Ky10.out.cell 0
          have y10_1 : Vs.cell? ⟨q10, 1, none⟩ = some (.slice J2 n cj2) := Ky10.out.cell 1
          have y10_2 : Vs.cell? ⟨q10, 2, none⟩ = some (.slice (some ⟨g2, 0, none⟩) n ck2) := Ky10.out.cell 2
          have y12_0 : Vs.cell? ⟨q12, 0, none⟩ = some (.int .i64 x1) := Ky12.out.cell 0
          have y12_1 : Vs.cell? ⟨q12, 1, none⟩ = some (.int .i64 x2) := Ky12.out.cell 1
          have hp1 : Vs.cell? ⟨pb, po + k, none⟩ = some (.int .i64 pk) := HXS.out.cell hp0
          have hmd0 := Int.emod_nonneg pk (show x2 - x1 + 1 ≠ 0 by omega)
          have hmd1 := Int.emod_lt_of_pos pk (show 0 < x2 - x1 + 1 by omega)
          have HMD := Lib.hid (fun W => mod_any pk (x2 - x1 + 1) (by omega) W)
          generalize pk % (x2 - x1 + 1) = md at *
          have HMB := Lib.hid (show 0 ≤ md ∧ md < x2 - x1 + 1 by omega)
          clear hmd0 hmd1
          refine wp_region_each [some 83, some 84, some 85, some 86, some 87, some 88, some 89, some 90, some 91, some 92, some 93, some 94, some 95, some 96, some 13] [[12], [83], [2], [11], [85, 86], [87], [12], [89], [12], [91], [90, 92], [93], [88, 94], [84, 95], [96]]
            [Is (.pointer (some ⟨q12, 0, none⟩)), Is (.int .i64 (x1)), Is (.slice (some ⟨pb, po, none⟩) np ca), Is (.int .i64 ((k : Int))), Is (.pointer (some ⟨pb, po + k, none⟩)), Is (.int .i64 (pk)), Is (.pointer (some ⟨q12, 1, none⟩)), Is (.int .i64 (x2)), Is (.pointer (some ⟨q12, 0, none⟩)), Is (.int .i64 (x1)), Is (.int .i64 (x2 - x1)), Is (.int .i64 (x2 - x1 + 1)), Is (.int .i64 (md)), Is (.int .i64 (x1 + md)), Is (.int .i64 (x1 + md))]
            (by kernel_rfl) (by kernel_rfl) (by kernel_rfl) (by kernel_rfl) (by kernel_rfl) Ext (fun W => Ext Vs W)
            (fun W _ => Ext.refl W) (fun W W' h k => h.trans k) ?_ (Ext.drew _) ?_ ?_
          · repeat (refine ⟨fun _ _ _ _ k h => (by first | exact h | exact (IntsAt.ext h k)), ?_⟩)
            exact trivial
          · refine ⟨?_, ?_, ?_, ?_, ?_, ?_, ?_, ?_, ?_, ?_, ?_, ?_, ?_, ?_, ?_, trivial⟩
            all_goals intro ρ W ⟨kc, kg, kf⟩ hF hs
            · obtain ⟨h0, -⟩ := hs
              replace h0 : ρ (.tmp 12) = .pointer (some ⟨q12, 0, none⟩) := h0
              go_simp
              exact ⟨Ext.refl _, rfl⟩
            · obtain ⟨h0, -⟩ := hs
              replace h0 : ρ (.tmp 83) = .pointer (some ⟨q12, 0, none⟩) := h0
              have hc0 : W.cell? ⟨q12, 0, none⟩ = some (.int .i64 (x1)) := hF.cell (by assumption)
              go_simp
              exact ⟨Ext.refl _, rfl⟩
            · obtain ⟨h0, -⟩ := hs
              replace h0 : ρ (.tmp 2) = .slice (some ⟨pb, po, none⟩) np ca := h0
              go_simp
              exact ⟨Ext.refl _, rfl⟩
            · obtain ⟨h0, -⟩ := hs
              replace h0 : ρ (.tmp 11) = .int .i64 ((k : Int)) := h0
              go_simp
              exact ⟨Ext.refl _, rfl⟩
            · obtain ⟨h0, h1, -⟩ := hs
              replace h0 : ρ (.tmp 85) = .slice (some ⟨pb, po, none⟩) np ca := h0
              replace h1 : ρ (.tmp 86) = .int .i64 ((k : Int)) := h1
              have hb1 : (k : Int) < (np : Int) := by omega
              have hb3 : (0 : Int) ≤ (k : Int) := by omega
              have hb4 : ((k : Int)).toNat = k := by omega
              have hb8 : k < np := by omega
              go_simp
              exact ⟨Ext.refl _, rfl⟩
            · obtain ⟨h0, -⟩ := hs
              replace h0 : ρ (.tmp 87) = .pointer (some ⟨pb, po + k, none⟩) := h0
              have hc0 : W.cell? ⟨pb, po + k, none⟩ = some (.int .i64 (pk)) := hF.cell (by assumption)
              go_simp
              exact ⟨Ext.refl _, rfl⟩
            · obtain ⟨h0, -⟩ := hs
              replace h0 : ρ (.tmp 12) = .pointer (some ⟨q12, 0, none⟩) := h0
              go_simp
              exact ⟨Ext.refl _, rfl⟩
            · obtain ⟨h0, -⟩ := hs
              replace h0 : ρ (.tmp 89) = .pointer (some ⟨q12, 1, none⟩) := h0
              have hc0 : W.cell? ⟨q12, 1, none⟩ = some (.int .i64 (x2)) := hF.cell (by assumption)
              go_simp
              exact ⟨Ext.refl _, rfl⟩
            · obtain ⟨h0, -⟩ := hs
              replace h0 : ρ (.tmp 12) = .pointer (some ⟨q12, 0, none⟩) := h0
              go_simp
              exact ⟨Ext.refl _, rfl⟩
            · obtain ⟨h0, -⟩ := hs
              replace h0 : ρ (.tmp 91) = .pointer (some ⟨q12, 0, none⟩) := h0
              have hc0 : W.cell? ⟨q12, 0, none⟩ = some (.int .i64 (x1)) := hF.cell (by assumption)
              go_simp
              exact ⟨Ext.refl _, rfl⟩
            · obtain ⟨h0, h1, -⟩ := hs
              replace h0 : ρ (.tmp 90) = .int .i64 (x2) := h0
              replace h1 : ρ (.tmp 92) = .int .i64 (x1) := h1
              have hw : IntKind.i64.wrap (x2 - x1) = x2 - x1 := wrap_id _ (by have := HX.out; omega) (by have := HX.out; omega)
              go_simp
              exact ⟨Ext.refl _, rfl⟩
            · obtain ⟨h0, -⟩ := hs
              replace h0 : ρ (.tmp 93) = .int .i64 (x2 - x1) := h0
              have hw : IntKind.i64.wrap (x2 - x1 + 1) = x2 - x1 + 1 := wrap_id _ (by have := HX.out; omega) (by have := HX.out; omega)
              go_simp
              exact ⟨Ext.refl _, rfl⟩
            · obtain ⟨h0, h1, -⟩ := hs
              replace h0 : ρ (.tmp 88) = .int .i64 (pk) := h0
              replace h1 : ρ (.tmp 94) = .int .i64 (x2 - x1 + 1) := h1
              go_simp
              refine (HMD.out _).mono ?_; rintro e w' ⟨rfl, rfl⟩; exact ⟨_, rfl, Ext.refl _, rfl⟩
            · obtain ⟨h0, h1, -⟩ := hs
              replace h0 : ρ (.tmp 84) = .int .i64 (x1) := h0
              replace h1 : ρ (.tmp 95) = .int .i64 (md) := h1
              have hw : IntKind.i64.wrap (x1 + md) = x1 + md := wrap_id _ (by have := HX.out; have := HMB.out; omega) (by have := HX.out; have := HMB.out; omega)
              go_simp
              exact ⟨Ext.refl _, rfl⟩
            · obtain ⟨h0, -⟩ := hs
              replace h0 : ρ (.tmp 96) = .int .i64 (x1 + md) := h0
              go_simp
              exact ⟨Ext.refl _, rfl⟩
          · intro fv Vt hF hs
            obtain ⟨-, -, -, -, -, -, -, -, -, -, -, -, -, -, h13, -⟩ := hs
            replace h13 : fv 13 = .int .i64 (x1 + md) := h13
            simp only [fin, List.filterMap]
            go_simp
            have hx := hF
            replace X := Lib.hid (X.out.trans hx)
            replace Ky0 := Lib.hid (Ky0.out.ext hx)
            replace Ky7 := Lib.hid (Ky7.out.ext hx)
            replace Ky9 := Lib.hid (Ky9.out.ext hx)
            replace Ky10 := Lib.hid (Ky10.out.ext hx)
            replace Ky12 := Lib.hid (Ky12.out.ext hx)
            replace OJ1 := Lib.hid (own_ext OJ1.out hx)
            replace OJ2 := Lib.hid (own_ext OJ2.out hx)
            replace OK1 := Lib.hid (own_ext OK1.out hx)
            replace OK2 := Lib.hid (own_ext OK2.out hx)
            clear hx y0_0 y0_1 y0_2 y7_0 y7_1 y9_0 y9_1 y9_2 y10_0 y10_1 y10_2 y12_0 y12_1
            clear hF hp1
            rw [← HO.out]
            clear HMD HMB HO
            have y0_0 : Vt.cell? ⟨w.heap.size, 0, none⟩ = some (.int .i64 L) := Ky0.out.cell 0
            have y0_1 : Vt.cell? ⟨w.heap.size, 1, none⟩ = some (.slice J n cj) := Ky0.out.cell 1
            have y0_2 : Vt.cell? ⟨w.heap.size, 2, none⟩ = some (.slice (some ⟨kb, ko, none⟩) n ck) := Ky0.out.cell 2
            have y7_0 : Vt.cell? ⟨q7, 0, none⟩ = some (.int .i64 d1) := Ky7.out.cell 0
            have y7_1 : Vt.cell? ⟨q7, 1, none⟩ = some (.int .i64 d2) := Ky7.out.cell 1
            have y9_0 : Vt.cell? ⟨q9, 0, none⟩ = some (.int .i64 L) := Ky9.out.cell 0
            have y9_1 : Vt.cell? ⟨q9, 1, none⟩ = some (.slice J1 n cj1) := Ky9.out.cell 1
            have y9_2 : Vt.cell? ⟨q9, 2, none⟩ = some (.slice (some ⟨g1, 0, none⟩) n ck1) := Ky9.out.cell 2
            have y10_0 : Vt.cell? ⟨q10, 0, none⟩ = some (.int .i64 L) := Ky10.out.cell 0
            have y10_1 : Vt.cell? ⟨q10, 1, none⟩ = some (.slice J2 n cj2) := Ky10.out.cell 1
            have y10_2 : Vt.cell? ⟨q10, 2, none⟩ = some (.slice (some ⟨g2, 0, none⟩) n ck2) := Ky10.out.cell 2
            have y12_0 : Vt.cell? ⟨q12, 0, none⟩ = some (.int .i64 x1) := Ky12.out.cell 0
            have y12_1 : Vt.cell? ⟨q12, 1, none⟩ = some (.int .i64 x2) := Ky12.out.cell 1
            go_upto_region 14 with (fail)
            clear hc0 hc1
            have E1 := flat_atG (k := 2) (enc := Rg.enc) (fun _ => rfl) (mapU (oneF ks ps) ks n k) k (x1, x2)
            have E2 := flat_atG (k := 2) (enc := Rg.enc) (fun _ => rfl) (mapU (negF ks) ks n k) k (x1, x2)
            have fr0 : Vt.frozen? ⟨g1, k * 2, none⟩ = false := (own_cell OK1.out (E1 0 _ HR1.out rfl)).2
            have fr1 : Vt.frozen? ⟨g1, k * 2 + 1, none⟩ = false := (own_cell OK1.out (E1 1 _ HR1.out rfl)).2
            have fr2 : Vt.frozen? ⟨g2, k * 2, none⟩ = false := (own_cell OK2.out (E2 0 _ HR2.out rfl)).2
            have fr3 : Vt.frozen? ⟨g2, k * 2 + 1, none⟩ = false := (own_cell OK2.out (E2 1 _ HR2.out rfl)).2
            have c0 : Vt.cell? ⟨g1, k * 2, none⟩ = some (.int .i64 x1) := (own_cell OK1.out (E1 0 _ HR1.out rfl)).1
            have c1 : Vt.cell? ⟨g1, k * 2 + 1, none⟩ = some (.int .i64 x2) := (own_cell OK1.out (E1 1 _ HR1.out rfl)).1
            have c2 : Vt.cell? ⟨g2, k * 2, none⟩ = some (.int .i64 x1) := (own_cell OK2.out (E2 0 _ HR2.out rfl)).1
            have c3 : Vt.cell? ⟨g2, k * 2 + 1, none⟩ = some (.int .i64 x2) := (own_cell OK2.out (E2 1 _ HR2.out rfl)).1
            have n12 : ¬ g1 = g2 := fun h => N12.out g1 rfl (by rw [h])
            have n21 : ¬ g2 = g1 := fun h => n12 h.symm
            have HTY1 := Lib.hid (show ∀ q T cs, Blk Vt q T cs → T ≠ 33 → q ≠ g1 from fun q T cs h hT he => own_notBlk OK1.out h hT (by rw [he]; rfl))
            have HTY2 := Lib.hid (show ∀ q T cs, Blk Vt q T cs → T ≠ 33 → q ≠ g2 from fun q T cs h hT he => own_notBlk OK2.out h hT (by rw [he]; rfl))
            have a1 : ¬ q9 = g1 := HTY1.out _ _ _ Ky9.out (by decide)
            have a2 : ¬ q9 = g2 := HTY2.out _ _ _ Ky9.out (by decide)
            have a3 : ¬ q10 = g1 := HTY1.out _ _ _ Ky10.out (by decide)
            have a4 : ¬ q10 = g2 := HTY2.out _ _ _ Ky10.out (by decide)
            have a5 : ¬ q12 = g1 := by have := G12.out.1; have := HQ12.out; omega
            have a6 : ¬ q12 = g2 := by have := G12.out.2; have := HQ12.out; omega
            clear E1 E2
            have hw1 : IntKind.i64.wrap (-x2) = -x2 := wrap_id _ (by have := HX.out; omega) (by have := HX.out; omega)
            have hw2 : IntKind.i64.wrap (-x1) = -x1 := wrap_id _ (by have := HX.out; omega) (by have := HX.out; omega)
            have hb3 : (0 : Int) ≤ (k : Int) := by omega
            have hb4 : ((k : Int)).toNat = k := by omega
            go_region
            clear hw1 hw2 hb3 hb4 fr0 fr1 fr2 fr3 c0 c1 c2 c3
            have gS1 : w.heap.size ≤ g1 := by have := G1.out; have := K0L.out; omega
            have gS2 : w.heap.size ≤ g2 := by have := G2.out; have := K0L.out; omega
            have e01 : w.heap.size ≠ g1 := by have := G1.out; have := K0L.out; omega
            have e02 : w.heap.size ≠ g2 := by have := G2.out; have := K0L.out; omega
            have e71 : q7 ≠ g1 := by have := G1.out; have := K7L.out; omega
            have e72 : q7 ≠ g2 := by have := G2.out; have := K7L.out; omega
            have oj11 : some g1 ≠ (Value.slice J1 n cj1).ownBlock := fun he => by
              obtain ⟨cu, hcu, _⟩ := own_blk OK1.out
              exact own_notBlk OJ1.out hcu (by decide) he
            have oj12 : some g2 ≠ (Value.slice J1 n cj1).ownBlock := fun he => by
              obtain ⟨cu, hcu, _⟩ := own_blk OK2.out
              exact own_notBlk OJ1.out hcu (by decide) he
            have oj21 : some g1 ≠ (Value.slice J2 n cj2).ownBlock := fun he => by
              obtain ⟨cu, hcu, _⟩ := own_blk OK1.out
              exact own_notBlk OJ2.out hcu (by decide) he
            have oj22 : some g2 ≠ (Value.slice J2 n cj2).ownBlock := fun he => by
              obtain ⟨cu, hcu, _⟩ := own_blk OK2.out
              exact own_notBlk OJ2.out hcu (by decide) he
            have ok12 : some g2 ≠ (Value.slice (some ⟨g1, 0, none⟩) n ck1).ownBlock := fun he => n21 (Option.some.inj he)
            have ok21 : some g1 ≠ (Value.slice (some ⟨g2, 0, none⟩) n ck2).ownBlock := fun he => n12 (Option.some.inj he)
            obtain ⟨VV, hVV⟩ : ∃ V, V = ((((Vt.setCell ⟨g1, k * 2, none⟩ (.int .i64 v)).setCell ⟨g1, k * 2 + 1, none⟩ (.int .i64 v)).setCell ⟨g2, k * 2, none⟩ (.int .i64 (-x2))).setCell ⟨g2, k * 2 + 1, none⟩ (.int .i64 (-x1))).drew := ⟨_, rfl⟩
            rw [← hVV]
            have REL := Lib.hid (show Ext w VV ∧ V6.heap.size ≤ VV.heap.size ∧ Blk VV (w.heap.size) 25 #[.int .i64 L, .slice J n cj, .slice (some ⟨kb, ko, none⟩) n ck] ∧ Blk VV (q7) 33 #[.int .i64 d1, .int .i64 d2] ∧ Blk VV (q9) 25 #[.int .i64 L, .slice J1 n cj1, .slice (some ⟨g1, 0, none⟩) n ck1] ∧ Blk VV (q10) 25 #[.int .i64 L, .slice J2 n cj2, .slice (some ⟨g2, 0, none⟩) n ck2] ∧ VV.ownsRow V6.heap.size 3 1 (.slice J1 n cj1) n (js.flatMap I1) ∧ VV.ownsRow V6.heap.size 3 1 (.slice J2 n cj2) n (js.flatMap I1) ∧ VV.ownsRow V6.heap.size 33 2 (.slice (some ⟨g1, 0, none⟩) n ck1) n ((mapU (oneF ks ps) ks n (k + 1)).flatMap Rg.enc) ∧ VV.ownsRow V6.heap.size 33 2 (.slice (some ⟨g2, 0, none⟩) n ck2) n ((mapU (negF ks) ks n (k + 1)).flatMap Rg.enc) from by
              rw [hVV, HN1.out, HN2n.out]
              exact ⟨(Ext.set (Ext.set (Ext.set (Ext.set X.out gS1 _) gS1 _) gS2 _) gS2 _).trans (Ext.drew _), by have h := (own_in OK1.out).2; have := G1.out; simp at h ⊢; omega, (((((Ky0.out.setOther e01 _).setOther e01 _).setOther e02 _).setOther e02 _)).drew, (((((Ky7.out.setOther e71 _).setOther e71 _).setOther e72 _).setOther e72 _)).drew, (((((Ky9.out.setOther a1 _).setOther a1 _).setOther a2 _).setOther a2 _)).drew, (((((Ky10.out.setOther a3 _).setOther a3 _).setOther a4 _).setOther a4 _)).drew, own_ext (own_set (own_set (own_set (own_set OJ1.out oj11 _) oj11 _) oj12 _) oj12 _) (Ext.drew _), own_ext (own_set (own_set (own_set (own_set OJ2.out oj21 _) oj21 _) oj22 _) oj22 _) (Ext.drew _), own_ext (own_set (own_set (set_rows OK1.out (by rw [mapU_len]; exact hlt) _ _) ok12 _) ok12 _) (Ext.drew _), own_ext (set_rows (own_set (own_set OK2.out ok21 _) ok21 _) (by rw [mapU_len]; exact hlt) _ _) (Ext.drew _)⟩)
            clear hVV gS1 gS2 e01 e02 e71 e72 oj11 oj12 oj21 oj22 ok12 ok21 a1 a2 a3 a4 a5 a6 n12 n21
            go_wp2
            go_roundw
            case rel => exact ⟨k + 1, by omega, by go_num, REL.out⟩
            case measure => simp [intOf]; omega
        · rw [if_neg hkp] at HO
          have hd12 : ¬ (k : Int) < (np : Int) := by omega
          have hd12b : decide (k < np) = false := by simp; omega
          obtain ⟨q12, hq⟩ : ∃ q, q = Vr.heap.size := ⟨_, rfl⟩
          obtain ⟨Vs, hV⟩ : ∃ V, V = Vr.alloc (.cells #[.int .i64 x1, .int .i64 x2] 33) := ⟨_, rfl⟩
          have hx : Ext Vr Vs := by rw [hV]; exact Ext.alloc _ _
          have HQ12 := Lib.hid hq
          have Ky12 := Lib.hid (show Blk Vs q12 33 #[.int .i64 x1, .int .i64 x2] by rw [hV, hq]; exact Blk.new _ _ _)
          go_upto_region 14 with (fail)
          rw [← hV, ← hq]
          replace X := Lib.hid (X.out.trans hx)
          replace Ky0 := Lib.hid (Ky0.out.ext hx)
          replace Ky7 := Lib.hid (Ky7.out.ext hx)
          replace Ky9 := Lib.hid (Ky9.out.ext hx)
          replace Ky10 := Lib.hid (Ky10.out.ext hx)
          replace OJ1 := Lib.hid (own_ext OJ1.out hx)
          replace OJ2 := Lib.hid (own_ext OJ2.out hx)
          replace OK1 := Lib.hid (own_ext OK1.out hx)
          replace OK2 := Lib.hid (own_ext OK2.out hx)
          clear hx y0_0 y0_1 y0_2 y7_0 y7_1 y9_0 y9_1 y9_2 y10_0 y10_1 y10_2
          clear hV hq
          have y0_0 : Vs.cell? ⟨w.heap.size, 0, none⟩ = some (.int .i64 L) := Ky0.out.cell 0
          have y0_1 : Vs.cell? ⟨w.heap.size, 1, none⟩ = some (.slice J n cj) := Ky0.out.cell 1
          have y0_2 : Vs.cell? ⟨w.heap.size, 2, none⟩ = some (.slice (some ⟨kb, ko, none⟩) n ck) := Ky0.out.cell 2
          have y7_0 : Vs.cell? ⟨q7, 0, none⟩ = some (.int .i64 d1) := Ky7.out.cell 0
          have y7_1 : Vs.cell? ⟨q7, 1, none⟩ = some (.int .i64 d2) := Ky7.out.cell 1
          have y9_0 : Vs.cell? ⟨q9, 0, none⟩ = some (.int .i64 L) := Ky9.out.cell 0
          have y9_1 : Vs.cell? ⟨q9, 1, none⟩ = some (.slice J1 n cj1) := Ky9.out.cell 1
          have y9_2 : Vs.cell? ⟨q9, 2, none⟩ = some (.slice (some ⟨g1, 0, none⟩) n ck1) := Ky9.out.cell 2
          have y10_0 : Vs.cell? ⟨q10, 0, none⟩ = some (.int .i64 L) := Ky10.out.cell 0
          have y10_1 : Vs.cell? ⟨q10, 1, none⟩ = some (.slice J2 n cj2) := Ky10.out.cell 1
          have y10_2 : Vs.cell? ⟨q10, 2, none⟩ = some (.slice (some ⟨g2, 0, none⟩) n ck2) := Ky10.out.cell 2
          have y12_0 : Vs.cell? ⟨q12, 0, none⟩ = some (.int .i64 x1) := Ky12.out.cell 0
          have y12_1 : Vs.cell? ⟨q12, 1, none⟩ = some (.int .i64 x2) := Ky12.out.cell 1
          rw [← HO.out]
          clear HO
          clear hc0 hc1
          have E1 := flat_atG (k := 2) (enc := Rg.enc) (fun _ => rfl) (mapU (oneF ks ps) ks n k) k (x1, x2)
          have E2 := flat_atG (k := 2) (enc := Rg.enc) (fun _ => rfl) (mapU (negF ks) ks n k) k (x1, x2)
          have fr0 : Vs.frozen? ⟨g1, k * 2, none⟩ = false := (own_cell OK1.out (E1 0 _ HR1.out rfl)).2
          have fr1 : Vs.frozen? ⟨g1, k * 2 + 1, none⟩ = false := (own_cell OK1.out (E1 1 _ HR1.out rfl)).2
          have fr2 : Vs.frozen? ⟨g2, k * 2, none⟩ = false := (own_cell OK2.out (E2 0 _ HR2.out rfl)).2
          have fr3 : Vs.frozen? ⟨g2, k * 2 + 1, none⟩ = false := (own_cell OK2.out (E2 1 _ HR2.out rfl)).2
          have c0 : Vs.cell? ⟨g1, k * 2, none⟩ = some (.int .i64 x1) := (own_cell OK1.out (E1 0 _ HR1.out rfl)).1
          have c1 : Vs.cell? ⟨g1, k * 2 + 1, none⟩ = some (.int .i64 x2) := (own_cell OK1.out (E1 1 _ HR1.out rfl)).1
          have c2 : Vs.cell? ⟨g2, k * 2, none⟩ = some (.int .i64 x1) := (own_cell OK2.out (E2 0 _ HR2.out rfl)).1
          have c3 : Vs.cell? ⟨g2, k * 2 + 1, none⟩ = some (.int .i64 x2) := (own_cell OK2.out (E2 1 _ HR2.out rfl)).1
          have n12 : ¬ g1 = g2 := fun h => N12.out g1 rfl (by rw [h])
          have n21 : ¬ g2 = g1 := fun h => n12 h.symm
          have HTY1 := Lib.hid (show ∀ q T cs, Blk Vs q T cs → T ≠ 33 → q ≠ g1 from fun q T cs h hT he => own_notBlk OK1.out h hT (by rw [he]; rfl))
          have HTY2 := Lib.hid (show ∀ q T cs, Blk Vs q T cs → T ≠ 33 → q ≠ g2 from fun q T cs h hT he => own_notBlk OK2.out h hT (by rw [he]; rfl))
          have a1 : ¬ q9 = g1 := HTY1.out _ _ _ Ky9.out (by decide)
          have a2 : ¬ q9 = g2 := HTY2.out _ _ _ Ky9.out (by decide)
          have a3 : ¬ q10 = g1 := HTY1.out _ _ _ Ky10.out (by decide)
          have a4 : ¬ q10 = g2 := HTY2.out _ _ _ Ky10.out (by decide)
          have a5 : ¬ q12 = g1 := by have := G12.out.1; have := HQ12.out; omega
          have a6 : ¬ q12 = g2 := by have := G12.out.2; have := HQ12.out; omega
          clear E1 E2
          have hw1 : IntKind.i64.wrap (-x2) = -x2 := wrap_id _ (by have := HX.out; omega) (by have := HX.out; omega)
          have hw2 : IntKind.i64.wrap (-x1) = -x1 := wrap_id _ (by have := HX.out; omega) (by have := HX.out; omega)
          have hb3 : (0 : Int) ≤ (k : Int) := by omega
          have hb4 : ((k : Int)).toNat = k := by omega
          go_region
          clear hw1 hw2 hb3 hb4 fr0 fr1 fr2 fr3 c0 c1 c2 c3
          have gS1 : w.heap.size ≤ g1 := by have := G1.out; have := K0L.out; omega
          have gS2 : w.heap.size ≤ g2 := by have := G2.out; have := K0L.out; omega
          have e01 : w.heap.size ≠ g1 := by have := G1.out; have := K0L.out; omega
          have e02 : w.heap.size ≠ g2 := by have := G2.out; have := K0L.out; omega
          have e71 : q7 ≠ g1 := by have := G1.out; have := K7L.out; omega
          have e72 : q7 ≠ g2 := by have := G2.out; have := K7L.out; omega
          have oj11 : some g1 ≠ (Value.slice J1 n cj1).ownBlock := fun he => by
            obtain ⟨cu, hcu, _⟩ := own_blk OK1.out
            exact own_notBlk OJ1.out hcu (by decide) he
          have oj12 : some g2 ≠ (Value.slice J1 n cj1).ownBlock := fun he => by
            obtain ⟨cu, hcu, _⟩ := own_blk OK2.out
            exact own_notBlk OJ1.out hcu (by decide) he
          have oj21 : some g1 ≠ (Value.slice J2 n cj2).ownBlock := fun he => by
            obtain ⟨cu, hcu, _⟩ := own_blk OK1.out
            exact own_notBlk OJ2.out hcu (by decide) he
          have oj22 : some g2 ≠ (Value.slice J2 n cj2).ownBlock := fun he => by
            obtain ⟨cu, hcu, _⟩ := own_blk OK2.out
            exact own_notBlk OJ2.out hcu (by decide) he
          have ok12 : some g2 ≠ (Value.slice (some ⟨g1, 0, none⟩) n ck1).ownBlock := fun he => n21 (Option.some.inj he)
          have ok21 : some g1 ≠ (Value.slice (some ⟨g2, 0, none⟩) n ck2).ownBlock := fun he => n12 (Option.some.inj he)
          obtain ⟨VV, hVV⟩ : ∃ V, V = ((((Vs.setCell ⟨g1, k * 2, none⟩ (.int .i64 v)).setCell ⟨g1, k * 2 + 1, none⟩ (.int .i64 v)).setCell ⟨g2, k * 2, none⟩ (.int .i64 (-x2))).setCell ⟨g2, k * 2 + 1, none⟩ (.int .i64 (-x1))).drew := ⟨_, rfl⟩
          rw [← hVV]
          have REL := Lib.hid (show Ext w VV ∧ V6.heap.size ≤ VV.heap.size ∧ Blk VV (w.heap.size) 25 #[.int .i64 L, .slice J n cj, .slice (some ⟨kb, ko, none⟩) n ck] ∧ Blk VV (q7) 33 #[.int .i64 d1, .int .i64 d2] ∧ Blk VV (q9) 25 #[.int .i64 L, .slice J1 n cj1, .slice (some ⟨g1, 0, none⟩) n ck1] ∧ Blk VV (q10) 25 #[.int .i64 L, .slice J2 n cj2, .slice (some ⟨g2, 0, none⟩) n ck2] ∧ VV.ownsRow V6.heap.size 3 1 (.slice J1 n cj1) n (js.flatMap I1) ∧ VV.ownsRow V6.heap.size 3 1 (.slice J2 n cj2) n (js.flatMap I1) ∧ VV.ownsRow V6.heap.size 33 2 (.slice (some ⟨g1, 0, none⟩) n ck1) n ((mapU (oneF ks ps) ks n (k + 1)).flatMap Rg.enc) ∧ VV.ownsRow V6.heap.size 33 2 (.slice (some ⟨g2, 0, none⟩) n ck2) n ((mapU (negF ks) ks n (k + 1)).flatMap Rg.enc) from by
            rw [hVV, HN1.out, HN2n.out]
            exact ⟨(Ext.set (Ext.set (Ext.set (Ext.set X.out gS1 _) gS1 _) gS2 _) gS2 _).trans (Ext.drew _), by have h := (own_in OK1.out).2; have := G1.out; simp at h ⊢; omega, (((((Ky0.out.setOther e01 _).setOther e01 _).setOther e02 _).setOther e02 _)).drew, (((((Ky7.out.setOther e71 _).setOther e71 _).setOther e72 _).setOther e72 _)).drew, (((((Ky9.out.setOther a1 _).setOther a1 _).setOther a2 _).setOther a2 _)).drew, (((((Ky10.out.setOther a3 _).setOther a3 _).setOther a4 _).setOther a4 _)).drew, own_ext (own_set (own_set (own_set (own_set OJ1.out oj11 _) oj11 _) oj12 _) oj12 _) (Ext.drew _), own_ext (own_set (own_set (own_set (own_set OJ2.out oj21 _) oj21 _) oj22 _) oj22 _) (Ext.drew _), own_ext (own_set (own_set (set_rows OK1.out (by rw [mapU_len]; exact hlt) _ _) ok12 _) ok12 _) (Ext.drew _), own_ext (set_rows (own_set (own_set OK2.out ok21 _) ok21 _) (by rw [mapU_len]; exact hlt) _ _) (Ext.drew _)⟩)
          clear hVV gS1 gS2 e01 e02 e71 e72 oj11 oj12 oj21 oj22 ok12 ok21 a1 a2 a3 a4 a5 a6 n12 n21
          go_wp2
          go_roundw
          case rel => exact ⟨k + 1, by omega, by go_num, REL.out⟩
          case measure => simp [intOf]; omega
      · obtain rfl : n = k := by omega
        have hkn : ¬ (n : Int) < (n : Int) := by omega
        have HL1 := Lib.hid (mapU_len (oneF ks ps) ks n n)
        have RA1 := Lib.hid (rows_own (enc := I1) (k := 1) HN2.out (fun _ => rfl) OJ1.out (by omega))
        have RA2 := Lib.hid (rows_own (enc := I1) (k := 1) HN2.out (fun _ => rfl) OJ2.out (by omega))
        have RB1 := Lib.hid (rows_own (enc := Rg.enc) (k := 2) (mapU_len (oneF ks ps) ks n n) (fun _ => rfl) OK1.out (by omega))
        have RB2 := Lib.hid (rows_own (enc := Rg.enc) (k := 2) (mapU_len (negF ks) ks n n) (fun _ => rfl) OK2.out (by omega))
        have NA1 := Lib.hid (own_nil OJ1.out)
        have NB1 := Lib.hid (own_nil OK1.out)
        obtain ⟨Vb, hV⟩ : ∃ V, V = wr := ⟨_, rfl⟩
        rw [← hV] at X Ky0 Ky7 Ky9 Ky10 RA1 RA2 RB1 RB2 ⊢
        clear hV OJ1 OJ2 OK1 OK2 XS N12 K7L K0L Q9s Q10s NE hlt HCW HKI
        have y0_0 : Vb.cell? ⟨w.heap.size, 0, none⟩ = some (.int .i64 L) := Ky0.out.cell 0
        have y0_1 : Vb.cell? ⟨w.heap.size, 1, none⟩ = some (.slice J n cj) := Ky0.out.cell 1
        have y0_2 : Vb.cell? ⟨w.heap.size, 2, none⟩ = some (.slice K n ck) := Ky0.out.cell 2
        have y7_0 : Vb.cell? ⟨q7, 0, none⟩ = some (.int .i64 d1) := Ky7.out.cell 0
        have y7_1 : Vb.cell? ⟨q7, 1, none⟩ = some (.int .i64 d2) := Ky7.out.cell 1
        have y9_0 : Vb.cell? ⟨q9, 0, none⟩ = some (.int .i64 L) := Ky9.out.cell 0
        have y9_1 : Vb.cell? ⟨q9, 1, none⟩ = some (.slice J1 n cj1) := Ky9.out.cell 1
        have y9_2 : Vb.cell? ⟨q9, 2, none⟩ = some (.slice K1 n ck1) := Ky9.out.cell 2
        have y10_0 : Vb.cell? ⟨q10, 0, none⟩ = some (.int .i64 L) := Ky10.out.cell 0
        have y10_1 : Vb.cell? ⟨q10, 1, none⟩ = some (.slice J2 n cj2) := Ky10.out.cell 1
        have y10_2 : Vb.cell? ⟨q10, 2, none⟩ = some (.slice K2 n ck2) := Ky10.out.cell 2
        go_wp2_with (go_at_call 16; refine (copyShaft_any (L := L) HN2.out RA1.out HL1.out RB1.out NA1.out NB1.out (by omega) (by omega)).mono ?_; rintro e W8 ⟨v, rfl, hc, hx⟩; obtain ⟨J3, cj3, K3, ck3, rfl, hr1, hr2, -, -, -⟩ := hc; have RJ3 := Lib.hid hr1; have RK3 := Lib.hid hr2; clear hr1 hr2; replace X := Lib.hid (X.out.trans hx); replace Ky0 := Lib.hid (Ky0.out.ext hx); replace Ky7 := Lib.hid (Ky7.out.ext hx); replace Ky9 := Lib.hid (Ky9.out.ext hx); replace Ky10 := Lib.hid (Ky10.out.ext hx); replace RA1 := Lib.hid (RA1.out.ext hx); replace RA2 := Lib.hid (RA2.out.ext hx); replace RB1 := Lib.hid (RB1.out.ext hx); replace RB2 := Lib.hid (RB2.out.ext hx); clear hx y0_0 y0_1 y0_2 y7_0 y7_1 y9_0 y9_1 y9_2 y10_0 y10_1 y10_2; refine Hid.out ?_)
        refine Lib.hid ?_
        have y0_0 : W8.cell? ⟨w.heap.size, 0, none⟩ = some (.int .i64 L) := Ky0.out.cell 0
        have y0_1 : W8.cell? ⟨w.heap.size, 1, none⟩ = some (.slice J n cj) := Ky0.out.cell 1
        have y0_2 : W8.cell? ⟨w.heap.size, 2, none⟩ = some (.slice K n ck) := Ky0.out.cell 2
        have y7_0 : W8.cell? ⟨q7, 0, none⟩ = some (.int .i64 d1) := Ky7.out.cell 0
        have y7_1 : W8.cell? ⟨q7, 1, none⟩ = some (.int .i64 d2) := Ky7.out.cell 1
        have y9_0 : W8.cell? ⟨q9, 0, none⟩ = some (.int .i64 L) := Ky9.out.cell 0
        have y9_1 : W8.cell? ⟨q9, 1, none⟩ = some (.slice J1 n cj1) := Ky9.out.cell 1
        have y9_2 : W8.cell? ⟨q9, 2, none⟩ = some (.slice K1 n ck1) := Ky9.out.cell 2
        have y10_0 : W8.cell? ⟨q10, 0, none⟩ = some (.int .i64 L) := Ky10.out.cell 0
        have y10_1 : W8.cell? ⟨q10, 1, none⟩ = some (.slice J2 n cj2) := Ky10.out.cell 1
        have y10_2 : W8.cell? ⟨q10, 2, none⟩ = some (.slice K2 n ck2) := Ky10.out.cell 2
        go_wp2_with (go_at_call 17; refine (H17o.out _ _ _ _ _ RJ3.out RK3.out).mono ?_; rintro e W9 ⟨rfl, hx⟩; replace X := Lib.hid (X.out.trans hx); replace Ky0 := Lib.hid (Ky0.out.ext hx); replace Ky7 := Lib.hid (Ky7.out.ext hx); replace Ky9 := Lib.hid (Ky9.out.ext hx); replace Ky10 := Lib.hid (Ky10.out.ext hx); replace RA1 := Lib.hid (RA1.out.ext hx); replace RA2 := Lib.hid (RA2.out.ext hx); replace RB1 := Lib.hid (RB1.out.ext hx); replace RB2 := Lib.hid (RB2.out.ext hx); clear hx y0_0 y0_1 y0_2 y7_0 y7_1 y9_0 y9_1 y9_2 y10_0 y10_1 y10_2; refine Hid.out ?_)
        refine Lib.hid ?_
        have y0_0 : W9.cell? ⟨w.heap.size, 0, none⟩ = some (.int .i64 L) := Ky0.out.cell 0
        have y0_1 : W9.cell? ⟨w.heap.size, 1, none⟩ = some (.slice J n cj) := Ky0.out.cell 1
        have y0_2 : W9.cell? ⟨w.heap.size, 2, none⟩ = some (.slice K n ck) := Ky0.out.cell 2
        have y7_0 : W9.cell? ⟨q7, 0, none⟩ = some (.int .i64 d1) := Ky7.out.cell 0
        have y7_1 : W9.cell? ⟨q7, 1, none⟩ = some (.int .i64 d2) := Ky7.out.cell 1
        have y9_0 : W9.cell? ⟨q9, 0, none⟩ = some (.int .i64 L) := Ky9.out.cell 0
        have y9_1 : W9.cell? ⟨q9, 1, none⟩ = some (.slice J1 n cj1) := Ky9.out.cell 1
        have y9_2 : W9.cell? ⟨q9, 2, none⟩ = some (.slice K1 n ck1) := Ky9.out.cell 2
        have y10_0 : W9.cell? ⟨q10, 0, none⟩ = some (.int .i64 L) := Ky10.out.cell 0
        have y10_1 : W9.cell? ⟨q10, 1, none⟩ = some (.slice J2 n cj2) := Ky10.out.cell 1
        have y10_2 : W9.cell? ⟨q10, 2, none⟩ = some (.slice K2 n ck2) := Ky10.out.cell 2
        clear RJ3 RK3
        obtain ⟨q14, hq⟩ : ∃ q, q = W9.heap.size := ⟨_, rfl⟩
        obtain ⟨V10, hV⟩ : ∃ V, V = W9.alloc (.cells #[.int .i64 o1, .int .i64 o2] 33) := ⟨_, rfl⟩
        have hx : Ext W9 V10 := by rw [hV]; exact Ext.alloc _ _
        have Ky14 := Lib.hid (show Blk V10 q14 33 #[.int .i64 o1, .int .i64 o2] by rw [hV, hq]; exact Blk.new _ _ _)
        go_upto_region 16 with (fail)
        rw [← hV, ← hq]
        replace X := Lib.hid (X.out.trans hx)
        replace Ky0 := Lib.hid (Ky0.out.ext hx)
        replace Ky7 := Lib.hid (Ky7.out.ext hx)
        replace Ky9 := Lib.hid (Ky9.out.ext hx)
        replace Ky10 := Lib.hid (Ky10.out.ext hx)
        replace RA1 := Lib.hid (RA1.out.ext hx)
        replace RA2 := Lib.hid (RA2.out.ext hx)
        replace RB1 := Lib.hid (RB1.out.ext hx)
        replace RB2 := Lib.hid (RB2.out.ext hx)
        clear hx y0_0 y0_1 y0_2 y7_0 y7_1 y9_0 y9_1 y9_2 y10_0 y10_1 y10_2
        clear hV hq
        have y0_0 : V10.cell? ⟨w.heap.size, 0, none⟩ = some (.int .i64 L) := Ky0.out.cell 0
        have y0_1 : V10.cell? ⟨w.heap.size, 1, none⟩ = some (.slice J n cj) := Ky0.out.cell 1
        have y0_2 : V10.cell? ⟨w.heap.size, 2, none⟩ = some (.slice K n ck) := Ky0.out.cell 2
        have y7_0 : V10.cell? ⟨q7, 0, none⟩ = some (.int .i64 d1) := Ky7.out.cell 0
        have y7_1 : V10.cell? ⟨q7, 1, none⟩ = some (.int .i64 d2) := Ky7.out.cell 1
        have y9_0 : V10.cell? ⟨q9, 0, none⟩ = some (.int .i64 L) := Ky9.out.cell 0
        have y9_1 : V10.cell? ⟨q9, 1, none⟩ = some (.slice J1 n cj1) := Ky9.out.cell 1
        have y9_2 : V10.cell? ⟨q9, 2, none⟩ = some (.slice K1 n ck1) := Ky9.out.cell 2
        have y10_0 : V10.cell? ⟨q10, 0, none⟩ = some (.int .i64 L) := Ky10.out.cell 0
        have y10_1 : V10.cell? ⟨q10, 1, none⟩ = some (.slice J2 n cj2) := Ky10.out.cell 1
        have y10_2 : V10.cell? ⟨q10, 2, none⟩ = some (.slice K2 n ck2) := Ky10.out.cell 2
        have y14_0 : V10.cell? ⟨q14, 0, none⟩ = some (.int .i64 o1) := Ky14.out.cell 0
        have y14_1 : V10.cell? ⟨q14, 1, none⟩ = some (.int .i64 o2) := Ky14.out.cell 1
        go_wp2_with (go_at_call 17; refine (H17n.out _ _ _ _ _ RA2.out RB2.out).mono ?_; rintro e W11 ⟨rfl, hx⟩; replace X := Lib.hid (X.out.trans hx); replace Ky0 := Lib.hid (Ky0.out.ext hx); replace Ky7 := Lib.hid (Ky7.out.ext hx); replace Ky9 := Lib.hid (Ky9.out.ext hx); replace Ky10 := Lib.hid (Ky10.out.ext hx); replace Ky14 := Lib.hid (Ky14.out.ext hx); replace RA1 := Lib.hid (RA1.out.ext hx); replace RA2 := Lib.hid (RA2.out.ext hx); replace RB1 := Lib.hid (RB1.out.ext hx); replace RB2 := Lib.hid (RB2.out.ext hx); clear hx y0_0 y0_1 y0_2 y7_0 y7_1 y9_0 y9_1 y9_2 y10_0 y10_1 y10_2 y14_0 y14_1; refine Hid.out ?_)
        refine Lib.hid ?_
        have y0_0 : W11.cell? ⟨w.heap.size, 0, none⟩ = some (.int .i64 L) := Ky0.out.cell 0
        have y0_1 : W11.cell? ⟨w.heap.size, 1, none⟩ = some (.slice J n cj) := Ky0.out.cell 1
        have y0_2 : W11.cell? ⟨w.heap.size, 2, none⟩ = some (.slice K n ck) := Ky0.out.cell 2
        have y7_0 : W11.cell? ⟨q7, 0, none⟩ = some (.int .i64 d1) := Ky7.out.cell 0
        have y7_1 : W11.cell? ⟨q7, 1, none⟩ = some (.int .i64 d2) := Ky7.out.cell 1
        have y9_0 : W11.cell? ⟨q9, 0, none⟩ = some (.int .i64 L) := Ky9.out.cell 0
        have y9_1 : W11.cell? ⟨q9, 1, none⟩ = some (.slice J1 n cj1) := Ky9.out.cell 1
        have y9_2 : W11.cell? ⟨q9, 2, none⟩ = some (.slice K1 n ck1) := Ky9.out.cell 2
        have y10_0 : W11.cell? ⟨q10, 0, none⟩ = some (.int .i64 L) := Ky10.out.cell 0
        have y10_1 : W11.cell? ⟨q10, 1, none⟩ = some (.slice J2 n cj2) := Ky10.out.cell 1
        have y10_2 : W11.cell? ⟨q10, 2, none⟩ = some (.slice K2 n ck2) := Ky10.out.cell 2
        have y14_0 : W11.cell? ⟨q14, 0, none⟩ = some (.int .i64 o1) := Ky14.out.cell 0
        have y14_1 : W11.cell? ⟨q14, 1, none⟩ = some (.int .i64 o2) := Ky14.out.cell 1
        clear RA2 RB2
        obtain ⟨q16, hq⟩ : ∃ q, q = W11.heap.size := ⟨_, rfl⟩
        obtain ⟨V12, hV⟩ : ∃ V, V = W11.alloc (.cells #[.int .i64 (-d2), .int .i64 (-d1)] 33) := ⟨_, rfl⟩
        have hx : Ext W11 V12 := by rw [hV]; exact Ext.alloc _ _
        have Ky16 := Lib.hid (show Blk V12 q16 33 #[.int .i64 (-d2), .int .i64 (-d1)] by rw [hV, hq]; exact Blk.new _ _ _)
        go_upto_region 17 with (fail)
        rw [← hV, ← hq]
        replace X := Lib.hid (X.out.trans hx)
        replace Ky0 := Lib.hid (Ky0.out.ext hx)
        replace Ky7 := Lib.hid (Ky7.out.ext hx)
        replace Ky9 := Lib.hid (Ky9.out.ext hx)
        replace Ky10 := Lib.hid (Ky10.out.ext hx)
        replace Ky14 := Lib.hid (Ky14.out.ext hx)
        replace RA1 := Lib.hid (RA1.out.ext hx)
        replace RB1 := Lib.hid (RB1.out.ext hx)
        clear hx y0_0 y0_1 y0_2 y7_0 y7_1 y9_0 y9_1 y9_2 y10_0 y10_1 y10_2 y14_0 y14_1
        clear hV hq
        have y0_0 : V12.cell? ⟨w.heap.size, 0, none⟩ = some (.int .i64 L) := Ky0.out.cell 0
        have y0_1 : V12.cell? ⟨w.heap.size, 1, none⟩ = some (.slice J n cj) := Ky0.out.cell 1
        have y0_2 : V12.cell? ⟨w.heap.size, 2, none⟩ = some (.slice K n ck) := Ky0.out.cell 2
        have y7_0 : V12.cell? ⟨q7, 0, none⟩ = some (.int .i64 d1) := Ky7.out.cell 0
        have y7_1 : V12.cell? ⟨q7, 1, none⟩ = some (.int .i64 d2) := Ky7.out.cell 1
        have y9_0 : V12.cell? ⟨q9, 0, none⟩ = some (.int .i64 L) := Ky9.out.cell 0
        have y9_1 : V12.cell? ⟨q9, 1, none⟩ = some (.slice J1 n cj1) := Ky9.out.cell 1
        have y9_2 : V12.cell? ⟨q9, 2, none⟩ = some (.slice K1 n ck1) := Ky9.out.cell 2
        have y10_0 : V12.cell? ⟨q10, 0, none⟩ = some (.int .i64 L) := Ky10.out.cell 0
        have y10_1 : V12.cell? ⟨q10, 1, none⟩ = some (.slice J2 n cj2) := Ky10.out.cell 1
        have y10_2 : V12.cell? ⟨q10, 2, none⟩ = some (.slice K2 n ck2) := Ky10.out.cell 2
        have y14_0 : V12.cell? ⟨q14, 0, none⟩ = some (.int .i64 o1) := Ky14.out.cell 0
        have y14_1 : V12.cell? ⟨q14, 1, none⟩ = some (.int .i64 o2) := Ky14.out.cell 1
        have y16_0 : V12.cell? ⟨q16, 0, none⟩ = some (.int .i64 (-d2)) := Ky16.out.cell 0
        have y16_1 : V12.cell? ⟨q16, 1, none⟩ = some (.int .i64 (-d1)) := Ky16.out.cell 1
        go_wp2_with (go_at_call 16; refine (HCP.out _ X.out).mono ?_; rintro e W13 ⟨v, rfl, hc, hx⟩; obtain ⟨J4, cj4, K4, ck4, rfl, hr1, hr2, hn1, hn2, -⟩ := hc; have RJ4 := Lib.hid hr1; have RK4 := Lib.hid hr2; have NJ4 := Lib.hid hn1; have NK4 := Lib.hid hn2; clear hr1 hr2 hn1 hn2; replace X := Lib.hid (X.out.trans hx); replace Ky0 := Lib.hid (Ky0.out.ext hx); replace Ky7 := Lib.hid (Ky7.out.ext hx); replace Ky9 := Lib.hid (Ky9.out.ext hx); replace Ky10 := Lib.hid (Ky10.out.ext hx); replace Ky14 := Lib.hid (Ky14.out.ext hx); replace Ky16 := Lib.hid (Ky16.out.ext hx); replace RA1 := Lib.hid (RA1.out.ext hx); replace RB1 := Lib.hid (RB1.out.ext hx); clear hx y0_0 y0_1 y0_2 y7_0 y7_1 y9_0 y9_1 y9_2 y10_0 y10_1 y10_2 y14_0 y14_1 y16_0 y16_1; refine Hid.out ?_)
        refine Lib.hid ?_
        have y0_0 : W13.cell? ⟨w.heap.size, 0, none⟩ = some (.int .i64 L) := Ky0.out.cell 0
        have y0_1 : W13.cell? ⟨w.heap.size, 1, none⟩ = some (.slice J n cj) := Ky0.out.cell 1
        have y0_2 : W13.cell? ⟨w.heap.size, 2, none⟩ = some (.slice K n ck) := Ky0.out.cell 2
        have y7_0 : W13.cell? ⟨q7, 0, none⟩ = some (.int .i64 d1) := Ky7.out.cell 0
        have y7_1 : W13.cell? ⟨q7, 1, none⟩ = some (.int .i64 d2) := Ky7.out.cell 1
        have y9_0 : W13.cell? ⟨q9, 0, none⟩ = some (.int .i64 L) := Ky9.out.cell 0
        have y9_1 : W13.cell? ⟨q9, 1, none⟩ = some (.slice J1 n cj1) := Ky9.out.cell 1
        have y9_2 : W13.cell? ⟨q9, 2, none⟩ = some (.slice K1 n ck1) := Ky9.out.cell 2
        have y10_0 : W13.cell? ⟨q10, 0, none⟩ = some (.int .i64 L) := Ky10.out.cell 0
        have y10_1 : W13.cell? ⟨q10, 1, none⟩ = some (.slice J2 n cj2) := Ky10.out.cell 1
        have y10_2 : W13.cell? ⟨q10, 2, none⟩ = some (.slice K2 n ck2) := Ky10.out.cell 2
        have y14_0 : W13.cell? ⟨q14, 0, none⟩ = some (.int .i64 o1) := Ky14.out.cell 0
        have y14_1 : W13.cell? ⟨q14, 1, none⟩ = some (.int .i64 o2) := Ky14.out.cell 1
        have y16_0 : W13.cell? ⟨q16, 0, none⟩ = some (.int .i64 (-d2)) := Ky16.out.cell 0
        have y16_1 : W13.cell? ⟨q16, 1, none⟩ = some (.int .i64 (-d1)) := Ky16.out.cell 1
        go_wp2_with (go_at_call 17; refine (H170.out _ _ _ _ _ RJ4.out RK4.out).mono ?_; rintro e W14 ⟨rfl, hx⟩; replace X := Lib.hid (X.out.trans hx); replace Ky0 := Lib.hid (Ky0.out.ext hx); replace Ky7 := Lib.hid (Ky7.out.ext hx); replace Ky9 := Lib.hid (Ky9.out.ext hx); replace Ky10 := Lib.hid (Ky10.out.ext hx); replace Ky14 := Lib.hid (Ky14.out.ext hx); replace Ky16 := Lib.hid (Ky16.out.ext hx); replace RA1 := Lib.hid (RA1.out.ext hx); replace RB1 := Lib.hid (RB1.out.ext hx); clear hx y0_0 y0_1 y0_2 y7_0 y7_1 y9_0 y9_1 y9_2 y10_0 y10_1 y10_2 y14_0 y14_1 y16_0 y16_1; refine Hid.out ?_)
        refine Lib.hid ?_
        have y0_0 : W14.cell? ⟨w.heap.size, 0, none⟩ = some (.int .i64 L) := Ky0.out.cell 0
        have y0_1 : W14.cell? ⟨w.heap.size, 1, none⟩ = some (.slice J n cj) := Ky0.out.cell 1
        have y0_2 : W14.cell? ⟨w.heap.size, 2, none⟩ = some (.slice K n ck) := Ky0.out.cell 2
        have y7_0 : W14.cell? ⟨q7, 0, none⟩ = some (.int .i64 d1) := Ky7.out.cell 0
        have y7_1 : W14.cell? ⟨q7, 1, none⟩ = some (.int .i64 d2) := Ky7.out.cell 1
        have y9_0 : W14.cell? ⟨q9, 0, none⟩ = some (.int .i64 L) := Ky9.out.cell 0
        have y9_1 : W14.cell? ⟨q9, 1, none⟩ = some (.slice J1 n cj1) := Ky9.out.cell 1
        have y9_2 : W14.cell? ⟨q9, 2, none⟩ = some (.slice K1 n ck1) := Ky9.out.cell 2
        have y10_0 : W14.cell? ⟨q10, 0, none⟩ = some (.int .i64 L) := Ky10.out.cell 0
        have y10_1 : W14.cell? ⟨q10, 1, none⟩ = some (.slice J2 n cj2) := Ky10.out.cell 1
        have y10_2 : W14.cell? ⟨q10, 2, none⟩ = some (.slice K2 n ck2) := Ky10.out.cell 2
        have y14_0 : W14.cell? ⟨q14, 0, none⟩ = some (.int .i64 o1) := Ky14.out.cell 0
        have y14_1 : W14.cell? ⟨q14, 1, none⟩ = some (.int .i64 o2) := Ky14.out.cell 1
        have y16_0 : W14.cell? ⟨q16, 0, none⟩ = some (.int .i64 (-d2)) := Ky16.out.cell 0
        have y16_1 : W14.cell? ⟨q16, 1, none⟩ = some (.int .i64 (-d1)) := Ky16.out.cell 1
        clear RJ4 RK4 NJ4 NK4
        obtain ⟨q18, hq⟩ : ∃ q, q = W14.heap.size := ⟨_, rfl⟩
        obtain ⟨V15, hV⟩ : ∃ V, V = W14.alloc (.cells #[.int .i64 0, .int .i64 0] 33) := ⟨_, rfl⟩
        have hx : Ext W14 V15 := by rw [hV]; exact Ext.alloc _ _
        have Ky18 := Lib.hid (show Blk V15 q18 33 #[.int .i64 0, .int .i64 0] by rw [hV, hq]; exact Blk.new _ _ _)
        go_upto_region 18 with (fail)
        rw [← hV, ← hq]
        replace X := Lib.hid (X.out.trans hx)
        replace Ky0 := Lib.hid (Ky0.out.ext hx)
        replace Ky7 := Lib.hid (Ky7.out.ext hx)
        replace Ky9 := Lib.hid (Ky9.out.ext hx)
        replace Ky10 := Lib.hid (Ky10.out.ext hx)
        replace Ky14 := Lib.hid (Ky14.out.ext hx)
        replace Ky16 := Lib.hid (Ky16.out.ext hx)
        replace RA1 := Lib.hid (RA1.out.ext hx)
        replace RB1 := Lib.hid (RB1.out.ext hx)
        clear hx y0_0 y0_1 y0_2 y7_0 y7_1 y9_0 y9_1 y9_2 y10_0 y10_1 y10_2 y14_0 y14_1 y16_0 y16_1
        clear hV hq
        have y0_0 : V15.cell? ⟨w.heap.size, 0, none⟩ = some (.int .i64 L) := Ky0.out.cell 0
        have y0_1 : V15.cell? ⟨w.heap.size, 1, none⟩ = some (.slice J n cj) := Ky0.out.cell 1
        have y0_2 : V15.cell? ⟨w.heap.size, 2, none⟩ = some (.slice K n ck) := Ky0.out.cell 2
        have y7_0 : V15.cell? ⟨q7, 0, none⟩ = some (.int .i64 d1) := Ky7.out.cell 0
        have y7_1 : V15.cell? ⟨q7, 1, none⟩ = some (.int .i64 d2) := Ky7.out.cell 1
        have y9_0 : V15.cell? ⟨q9, 0, none⟩ = some (.int .i64 L) := Ky9.out.cell 0
        have y9_1 : V15.cell? ⟨q9, 1, none⟩ = some (.slice J1 n cj1) := Ky9.out.cell 1
        have y9_2 : V15.cell? ⟨q9, 2, none⟩ = some (.slice K1 n ck1) := Ky9.out.cell 2
        have y10_0 : V15.cell? ⟨q10, 0, none⟩ = some (.int .i64 L) := Ky10.out.cell 0
        have y10_1 : V15.cell? ⟨q10, 1, none⟩ = some (.slice J2 n cj2) := Ky10.out.cell 1
        have y10_2 : V15.cell? ⟨q10, 2, none⟩ = some (.slice K2 n ck2) := Ky10.out.cell 2
        have y14_0 : V15.cell? ⟨q14, 0, none⟩ = some (.int .i64 o1) := Ky14.out.cell 0
        have y14_1 : V15.cell? ⟨q14, 1, none⟩ = some (.int .i64 o2) := Ky14.out.cell 1
        have y16_0 : V15.cell? ⟨q16, 0, none⟩ = some (.int .i64 (-d2)) := Ky16.out.cell 0
        have y16_1 : V15.cell? ⟨q16, 1, none⟩ = some (.int .i64 (-d1)) := Ky16.out.cell 1
        have y18_0 : V15.cell? ⟨q18, 0, none⟩ = some (.int .i64 0) := Ky18.out.cell 0
        have y18_1 : V15.cell? ⟨q18, 1, none⟩ = some (.int .i64 0) := Ky18.out.cell 1
        refine wp_region_free [.op, .op, .op, .op, .op, .op, .op, .late (.int .i64 (0)), .new, .store, .late (.int .i64 (0))] [9] [20, 140] [20] [some 135, some 136, some 137, some 138, some 139, some 134, some 140, some 141, some 20, none, some 21] [[3], [135], [3], [137], [136, 138], [139], [134], [134], [], [20, 140], [141]]
          [Is (.agg #[.int .i64 (L), .slice J n cj, .slice K n ck]), CopS L js ks n n, Is (.pointer (some ⟨w.heap.size, 0, none⟩)), Is (.int .i64 (L)), Is (.tuple #[.agg #[.int .i64 0, .int .i64 0], .int .i64 0]), Is (.tuple #[.agg #[.int .i64 0, .int .i64 0], .int .i64 0]), Is (.agg #[.int .i64 0, .int .i64 0]), Is (.int .i64 (0)), NewP V15.heap.size 33 #[.int .i64 0, .int .i64 0], fun _ _ => True, Is (.int .i64 (0))]
          (by kernel_rfl) (by kernel_rfl) (by kernel_rfl) (by kernel_rfl) (by kernel_rfl) (by kernel_rfl) (by kernel_rfl) (by kernel_rfl) (by kernel_rfl) Ext (fun W => Ext V15 W)
          (fun W _ => Ext.refl W) (fun W W' h k => h.trans k) (fun W W' h => h.size) ?_ (Ext.drew _) ?_ ?_
        · repeat (refine ⟨fun _ _ _ _ k h => (by first | exact h | exact (by first | exact IntsAt.ext h k | exact NewP.ext h k | exact CopS.ext h k)), ?_⟩)
          exact trivial
        · refine ⟨?_, ?_, ?_, ?_, ?_, ?_, ?_, ?_, ?_, ?_, trivial⟩
          · intro ρ W ⟨kc, kg, kf⟩ hF hs
            obtain ⟨h0, -⟩ := hs
            replace h0 : ρ (.tmp 3) = .pointer (some ⟨w.heap.size, 0, none⟩) := h0
            have hc0 : W.cell? ⟨w.heap.size, 0, none⟩ = some (.int .i64 (L)) := hF.cell (by assumption)
            have hc1 : W.cell? ⟨w.heap.size, 1, none⟩ = some (.slice J n cj) := hF.cell (by assumption)
            have hc2 : W.cell? ⟨w.heap.size, 2, none⟩ = some (.slice K n ck) := hF.cell (by assumption)
            go_simp
            exact ⟨Ext.refl _, rfl⟩
          · intro ρ W ⟨kc, kg, kf⟩ hF hs
            obtain ⟨h0, -⟩ := hs
            replace h0 : ρ (.tmp 135) = .agg #[.int .i64 (L), .slice J n cj, .slice K n ck] := h0
            go_simp
            refine (HCP.out _ (X.out.trans hF)).mono ?_; rintro e w' ⟨v, rfl, hc, hx⟩; exact ⟨_, rfl, hx, CopS.of hc⟩
          · intro ρ W ⟨kc, kg, kf⟩ hF hs
            obtain ⟨h0, -⟩ := hs
            replace h0 : ρ (.tmp 3) = .pointer (some ⟨w.heap.size, 0, none⟩) := h0
            go_simp
            exact ⟨Ext.refl _, rfl⟩
          · intro ρ W ⟨kc, kg, kf⟩ hF hs
            obtain ⟨h0, -⟩ := hs
            replace h0 : ρ (.tmp 137) = .pointer (some ⟨w.heap.size, 0, none⟩) := h0
            have hc0 : W.cell? ⟨w.heap.size, 0, none⟩ = some (.int .i64 (L)) := hF.cell (by assumption)
            go_simp
            exact ⟨Ext.refl _, rfl⟩
          · intro ρ W ⟨kc, kg, kf⟩ hF hs
            obtain ⟨h0, h1, -⟩ := hs
            replace h0 : (CopS L js ks n n) (ρ (.tmp 136)) W := h0
            replace h1 : ρ (.tmp 138) = .int .i64 (L) := h1
            obtain ⟨J1, c1, K1, d1, e1, r1, s1, n1, m1⟩ := h0
            replace e1 : ρ (.tmp 136) = .agg #[.int .i64 L, .slice J1 n c1, .slice K1 n d1] := e1
            go_simp
            refine (H17L.out _ J1 c1 K1 d1 r1 s1).mono ?_; rintro e w' ⟨rfl, hx⟩; exact ⟨_, rfl, hx, rfl⟩
          · intro ρ W ⟨kc, kg, kf⟩ hF hs
            obtain ⟨h0, -⟩ := hs
            replace h0 : ρ (.tmp 139) = .tuple #[.agg #[.int .i64 0, .int .i64 0], .int .i64 0] := h0
            go_simp
            exact ⟨Ext.refl _, rfl⟩
          · intro ρ W ⟨kc, kg, kf⟩ hF hs
            obtain ⟨h0, -⟩ := hs
            replace h0 : ρ (.tmp 134) = .tuple #[.agg #[.int .i64 0, .int .i64 0], .int .i64 0] := h0
            go_simp
            exact ⟨Ext.refl _, rfl⟩
          · refine ⟨rfl, fun ρ W ⟨kc, kg, kf⟩ hF hs W' => ?_⟩
            obtain ⟨h0, -⟩ := hs
            replace h0 : ρ (.tmp 134) = .tuple #[.agg #[.int .i64 0, .int .i64 0], .int .i64 0] := h0
            go_simp
          · intro ρ W ⟨kc, kg, kf⟩ hF hs
            exact ⟨W.alloc (.cells #[.int .i64 0, .int .i64 0] 33), (by go_simp), by simp, Ext.alloc _ _, _, rfl, hF.size, Blk.new _ _ _⟩
          · refine ⟨rfl, fun ρ W ⟨kc, kg, kf⟩ hF hs W' => ?_⟩
            obtain ⟨h0, -⟩ := hs
            replace h0 : ρ (.tmp 141) = .int .i64 (0) := h0
            go_simp
        · intro fv U hF hs hap σ hσ ρ ⟨kc, kg, kf⟩ hr
          obtain ⟨-, -, -, -, -, -, h140, h141, h20, h21, -⟩ := hs
          replace h140 : fv 140 = .agg #[.int .i64 0, .int .i64 0] := h140
          replace h141 : fv 141 = .int .i64 (0) := h141
          replace h20 : (NewP V15.heap.size 33 #[.int .i64 0, .int .i64 0]) (fv 20) U := h20
          replace h21 : fv 21 = .int .i64 (0) := h21
          obtain ⟨r0, r1, -⟩ := hr
          replace r0 : ρ (.tmp 20) = fv 20 := r0
          replace r1 : ρ (.tmp 140) = .agg #[.int .i64 0, .int .i64 0] := r1.trans h140
          obtain ⟨q20, hq20, hqs20, hb20⟩ := h20
          rw [hq20] at r0
          have f20_0 := hb20.free 0
          have c20_0 : U.cell? ⟨q20, 0, none⟩ = some (.int .i64 0) := hb20.cell 0
          have f20_1 := hb20.free 1
          have c20_1 : U.cell? ⟨q20, 1, none⟩ = some (.int .i64 0) := hb20.cell 1
          refine stores_one _ rfl hσ ((U.setCell ⟨q20, 0, none⟩ (.int .i64 0)).setCell ⟨q20, 1, none⟩ (.int .i64 0)) (by go_simp) ?_
          obtain ⟨V18, hV18⟩ : ∃ Vx, Vx = (U.setCell ⟨q20, 0, none⟩ (.int .i64 0)).setCell ⟨q20, 1, none⟩ (.int .i64 0) := ⟨_, rfl⟩
          rw [← hV18]
          have K20 := Lib.hid (show Blk V18 q20 33 #[.int .i64 0, .int .i64 0] by rw [hV18]; exact (hb20.setSame 0 _).setSame 1 _)
          have XN := Lib.hid (show Ext V15 V18 by rw [hV18]; exact Ext.set (Ext.set hF (by dsimp only; exact hqs20) _) (by dsimp only; exact hqs20) _)
          have L20 := Lib.hid hqs20
          clear f20_0 c20_0 f20_1 c20_1
          clear hV18 hF hap hσ r0 r1 kc kg kf hb20 hqs20
          simp only [fin, List.filterMap]
          go_simp
          try rw [hq20]
          clear hq20
          clear ρ σ h140 h141 h21
          have hx := XN.out
          have XLAST := Lib.hid hx
          replace X := Lib.hid (X.out.trans hx)
          replace Ky0 := Lib.hid (Ky0.out.ext hx)
          replace Ky7 := Lib.hid (Ky7.out.ext hx)
          replace Ky9 := Lib.hid (Ky9.out.ext hx)
          replace Ky10 := Lib.hid (Ky10.out.ext hx)
          replace Ky14 := Lib.hid (Ky14.out.ext hx)
          replace Ky16 := Lib.hid (Ky16.out.ext hx)
          replace Ky18 := Lib.hid (Ky18.out.ext hx)
          replace RA1 := Lib.hid (RA1.out.ext hx)
          replace RB1 := Lib.hid (RB1.out.ext hx)
          clear hx y0_0 y0_1 y0_2 y7_0 y7_1 y9_0 y9_1 y9_2 y10_0 y10_1 y10_2 y14_0 y14_1 y16_0 y16_1 y18_0 y18_1
          have Ky20 := K20
          clear K20 XN L20 H17L H170 H17n H17o
          have y0_0 : V18.cell? ⟨w.heap.size, 0, none⟩ = some (.int .i64 L) := Ky0.out.cell 0
          have y0_1 : V18.cell? ⟨w.heap.size, 1, none⟩ = some (.slice J n cj) := Ky0.out.cell 1
          have y0_2 : V18.cell? ⟨w.heap.size, 2, none⟩ = some (.slice K n ck) := Ky0.out.cell 2
          have y7_0 : V18.cell? ⟨q7, 0, none⟩ = some (.int .i64 d1) := Ky7.out.cell 0
          have y7_1 : V18.cell? ⟨q7, 1, none⟩ = some (.int .i64 d2) := Ky7.out.cell 1
          have y9_0 : V18.cell? ⟨q9, 0, none⟩ = some (.int .i64 L) := Ky9.out.cell 0
          have y9_1 : V18.cell? ⟨q9, 1, none⟩ = some (.slice J1 n cj1) := Ky9.out.cell 1
          have y9_2 : V18.cell? ⟨q9, 2, none⟩ = some (.slice K1 n ck1) := Ky9.out.cell 2
          have y10_0 : V18.cell? ⟨q10, 0, none⟩ = some (.int .i64 L) := Ky10.out.cell 0
          have y10_1 : V18.cell? ⟨q10, 1, none⟩ = some (.slice J2 n cj2) := Ky10.out.cell 1
          have y10_2 : V18.cell? ⟨q10, 2, none⟩ = some (.slice K2 n ck2) := Ky10.out.cell 2
          have y14_0 : V18.cell? ⟨q14, 0, none⟩ = some (.int .i64 o1) := Ky14.out.cell 0
          have y14_1 : V18.cell? ⟨q14, 1, none⟩ = some (.int .i64 o2) := Ky14.out.cell 1
          have y16_0 : V18.cell? ⟨q16, 0, none⟩ = some (.int .i64 (-d2)) := Ky16.out.cell 0
          have y16_1 : V18.cell? ⟨q16, 1, none⟩ = some (.int .i64 (-d1)) := Ky16.out.cell 1
          have y18_0 : V18.cell? ⟨q18, 0, none⟩ = some (.int .i64 0) := Ky18.out.cell 0
          have y18_1 : V18.cell? ⟨q18, 1, none⟩ = some (.int .i64 0) := Ky18.out.cell 1
          have y20_0 : V18.cell? ⟨q20, 0, none⟩ = some (.int .i64 0) := Ky20.out.cell 0
          have y20_1 : V18.cell? ⟨q20, 1, none⟩ = some (.int .i64 0) := Ky20.out.cell 1
          obtain ⟨a1, a2, a3, a4, ⟨a5, a6, a7⟩, -⟩ := HALL.out
          have HW1 := Lib.hid (withinB_t (show o1 ≤ o2 ∧ o2 ≤ o1 + 1 from ⟨a3, a4⟩))
          have HW2 := Lib.hid (withinB_t (show -1000000000000 ≤ d1 ∧ d1 ≤ 1000000000000 by omega))
          have HW3 := Lib.hid (withinB_t (show d1 ≤ d2 ∧ d2 ≤ 1000000000000 by omega))
          have ho1 : IntKind.i64.wrap (o1 + 1) = o1 + 1 := wrap_id _ (by omega) (by omega)
          have ho2 : IntKind.i64.wrap (-d1) = -d1 := wrap_id _ (by omega) (by omega)
          have ho3 : IntKind.i64.wrap (-d2) = -d2 := wrap_id _ (by omega) (by omega)
          have ho4 : decide (o1 < d1) = false := by simp; omega
          have ho5 : decide (d2 < o2) = false := by simp; omega
          clear a1 a2 a3 a4 a5 a6 a7 HALL
          go_upto_region 21 with (go_at_call 21; refine (within_any _ _ _ _).mono ?_; rintro e w' ⟨rfl, rfl⟩; first | rw [HW1.out] | rw [HW2.out] | rw [HW3.out])
          clear HW1 HW2 HW3 ho1 ho2 ho3 ho4 ho5
          clear Ky7 y7_0 y7_1
          clear Ky10 y10_0 y10_1 y10_2
          clear Ky14 y14_0 y14_1
          clear Ky16 y16_0 y16_1
          clear Ky18 y18_0 y18_1
          clear Ky20 y20_0 y20_1
          go_wp2_with (go_at_call 16; refine (copyShaft_any (L := L) HN2.out RA1.out HL1.out RB1.out NA1.out NB1.out (by omega) (by omega)).mono ?_; rintro e W20 ⟨v, rfl, hc, hx⟩; obtain ⟨J5, cj5, K5, ck5, rfl, hr1, hr2, -, -, -⟩ := hc; have RJ5 := Lib.hid hr1; have RK5 := Lib.hid hr2; clear hr1 hr2; replace X := Lib.hid (X.out.trans hx); replace Ky0 := Lib.hid (Ky0.out.ext hx); replace Ky9 := Lib.hid (Ky9.out.ext hx); replace RA1 := Lib.hid (RA1.out.ext hx); replace RB1 := Lib.hid (RB1.out.ext hx); clear hx y0_0 y0_1 y0_2 y9_0 y9_1 y9_2; refine Hid.out ?_)
          refine Lib.hid ?_
          have y0_0 : W20.cell? ⟨w.heap.size, 0, none⟩ = some (.int .i64 L) := Ky0.out.cell 0
          have y0_1 : W20.cell? ⟨w.heap.size, 1, none⟩ = some (.slice J n cj) := Ky0.out.cell 1
          have y0_2 : W20.cell? ⟨w.heap.size, 2, none⟩ = some (.slice K n ck) := Ky0.out.cell 2
          have y9_0 : W20.cell? ⟨q9, 0, none⟩ = some (.int .i64 L) := Ky9.out.cell 0
          have y9_1 : W20.cell? ⟨q9, 1, none⟩ = some (.slice J1 n cj1) := Ky9.out.cell 1
          have y9_2 : W20.cell? ⟨q9, 2, none⟩ = some (.slice K1 n ck1) := Ky9.out.cell 2
          go_wp2_with (go_at_call 18; refine (H18.out _ _ _ _ _ RJ5.out RK5.out).mono ?_; rintro e W21 ⟨D, cd, rfl, hd, hx⟩; replace X := Lib.hid (X.out.trans hx); replace Ky0 := Lib.hid (Ky0.out.ext hx); replace Ky9 := Lib.hid (Ky9.out.ext hx); replace RA1 := Lib.hid (RA1.out.ext hx); replace RB1 := Lib.hid (RB1.out.ext hx); clear hx y0_0 y0_1 y0_2 y9_0 y9_1 y9_2; clear hd; refine Hid.out ?_)
          refine Lib.hid ?_
          have y0_0 : W21.cell? ⟨w.heap.size, 0, none⟩ = some (.int .i64 L) := Ky0.out.cell 0
          have y0_1 : W21.cell? ⟨w.heap.size, 1, none⟩ = some (.slice J n cj) := Ky0.out.cell 1
          have y0_2 : W21.cell? ⟨w.heap.size, 2, none⟩ = some (.slice K n ck) := Ky0.out.cell 2
          have y9_0 : W21.cell? ⟨q9, 0, none⟩ = some (.int .i64 L) := Ky9.out.cell 0
          have y9_1 : W21.cell? ⟨q9, 1, none⟩ = some (.slice J1 n cj1) := Ky9.out.cell 1
          have y9_2 : W21.cell? ⟨q9, 2, none⟩ = some (.slice K1 n ck1) := Ky9.out.cell 2
          clear RJ5 RK5 H18 NA1 NB1 RA1
          have hbn : ((n : Int) != (n : Int)) = false := by simp
          go_wp2
          clear hbn y0_0 y0_1 y0_2 y9_0 y9_1 y9_2
          generalize mapU (oneF ks ps) ks n n = ol at *
          go_loopw [24] (fun i wr => ∃ m : Nat, m ≤ n ∧ i = .int .i64 (m : Int) ∧ Ext w wr ∧ Blk wr (w.heap.size) 25 #[.int .i64 L, .slice J n cj, .slice K n ck] ∧ Blk wr q9 25 #[.int .i64 L, .slice J1 n cj1, .slice K1 n ck1] ∧ RowsAt 2 Rg.enc wr K1 ol) (fun i _ => n - (intOf i).toNat)
          case atStart => exact ⟨0, by omega, rfl, X.out, Ky0.out, Ky9.out, RB1.out⟩
          case round =>
            clear X Ky0 Ky9 RB1
            obtain ⟨m, hm, rfl, hx, h1, h2, h3⟩ := hrel
            have X := Lib.hid hx
            have Ky0 := Lib.hid h1
            have Ky9 := Lib.hid h2
            have RB1 := Lib.hid h3
            clear hx h1 h2 h3
            by_cases hlm : m < n
            · have hmi : (m : Int) < (n : Int) := by omega
              obtain ⟨Vo, hVo⟩ : ∃ V, V = wr := ⟨_, rfl⟩
              rw [← hVo] at X Ky0 Ky9 RB1 ⊢
              clear hVo
              have y0_0 : Vo.cell? ⟨w.heap.size, 0, none⟩ = some (.int .i64 L) := Ky0.out.cell 0
              have y0_1 : Vo.cell? ⟨w.heap.size, 1, none⟩ = some (.slice J n cj) := Ky0.out.cell 1
              have y0_2 : Vo.cell? ⟨w.heap.size, 2, none⟩ = some (.slice K n ck) := Ky0.out.cell 2
              have y9_0 : Vo.cell? ⟨q9, 0, none⟩ = some (.int .i64 L) := Ky9.out.cell 0
              have y9_1 : Vo.cell? ⟨q9, 1, none⟩ = some (.slice J1 n cj1) := Ky9.out.cell 1
              have y9_2 : Vo.cell? ⟨q9, 2, none⟩ = some (.slice K1 n ck1) := Ky9.out.cell 2
              go_wp2
              clear y0_0 y0_1 y0_2 y9_0 y9_1 y9_2
              go_loopw [25] (fun i wr => ∃ q : Nat, q ≤ m ∧ i = .int .i64 (q : Int) ∧ Ext w wr ∧ Blk wr (w.heap.size) 25 #[.int .i64 L, .slice J n cj, .slice K n ck] ∧ Blk wr q9 25 #[.int .i64 L, .slice J1 n cj1, .slice K1 n ck1] ∧ RowsAt 2 Rg.enc wr K1 ol) (fun i _ => m - (intOf i).toNat)
              case atStart => exact ⟨0, by omega, rfl, X.out, Ky0.out, Ky9.out, RB1.out⟩
              case round =>
                clear X Ky0 Ky9 RB1
                obtain ⟨q, hq, rfl, hx, h1, h2, h3⟩ := hrel
                have X := Lib.hid hx
                have Ky0 := Lib.hid h1
                have Ky9 := Lib.hid h2
                have RB1 := Lib.hid h3
                clear hx h1 h2 h3
                by_cases hlq : q < m
                · have hqi : (q : Int) < (m : Int) := by omega
                  have hqn : (q : Int) < (n : Int) := by omega
                  obtain ⟨V0, hV0⟩ : ∃ V, V = wr := ⟨_, rfl⟩
                  rw [← hV0] at X Ky0 Ky9 RB1 ⊢
                  clear hV0
                  obtain ⟨jb, jo, rfl, hjb, hjm⟩ := row_I1 (HJ.out.ext X.out) (i := m) (by have := HN2.out; omega)
                  obtain ⟨jb2, jo2, hje, hjb2, hjq⟩ := row_I1 (HJ.out.ext X.out) (i := q) (by have := HN2.out; omega)
                  obtain ⟨rfl, rfl⟩ : jb = jb2 ∧ jo = jo2 := by simpa using hje
                  obtain ⟨rb, ro, rfl, hrb, hr0, hr1⟩ := row_Rg RB1.out (i := 0) (by have := HL1.out; omega)
                  have hjr := HJ1.out m (by have := HN2.out; omega)
                  have hjs := HJ1.out q (by have := HN2.out; omega)
                  have hkr := HOK.out 0 (by have := HN2.out; omega)
                  generalize js.getD m 0 = a at *
                  generalize js.getD q 0 = b at *
                  generalize hrg : ol.getD 0 default = rg at *
                  clear hrg
                  obtain ⟨ra, rz⟩ := rg
                  dsimp only at hr0 hr1 hkr
                  rw [Nat.zero_mul, Nat.add_zero] at hr0 hr1
                  have HPU := Lib.hid (fun W Jp c Kp d (r1 : RowsAt 1 I1 W Jp [a]) (s1 : RowsAt 2 Rg.enc W Kp [(ra, rz)]) => show Calls Try.prog 17 #[.agg #[.int .i64 L, .slice Jp 1 c, .slice Kp 1 d], .int .i64 b] W fun e w' => e = .returned (.tuple #[.agg #[.int .i64 (defl L [a] [(ra, rz)] b).1, .int .i64 (defl L [a] [(ra, rz)] b).2], .int .i64 0]) ∧ Ext W w' from by
                    have hs := sh_one (L := L) (a := a) (r := (ra, rz)) HSL.out hjr hkr
                    have := deflectionAt_any (L := L) (cj := c) (ck := d) (p := b) (show [a].length = 1 from rfl) r1 (show [(ra, rz)].length = 1 from rfl) s1
                    rw [deflE_of hs (by omega), deflV_of hs (by omega)] at this
                    exact this)
                  have HQU := Lib.hid (fun W Jp c Kp d (r1 : RowsAt 1 I1 W Jp [b]) (s1 : RowsAt 2 Rg.enc W Kp [(ra, rz)]) => show Calls Try.prog 17 #[.agg #[.int .i64 L, .slice Jp 1 c, .slice Kp 1 d], .int .i64 a] W fun e w' => e = .returned (.tuple #[.agg #[.int .i64 (defl L [a] [(ra, rz)] b).1, .int .i64 (defl L [a] [(ra, rz)] b).2], .int .i64 0]) ∧ Ext W w' from by
                    have hs := sh_one (L := L) (a := b) (r := (ra, rz)) HSL.out hjs hkr
                    have := deflectionAt_any (L := L) (cj := c) (ck := d) (p := a) (show [b].length = 1 from rfl) r1 (show [(ra, rz)].length = 1 from rfl) s1
                    rw [deflE_of hs (by omega), deflV_of hs (by omega), ← defl_swap L a b] at this
                    exact this)
                  generalize defl L [a] [(ra, rz)] b = u at *
                  obtain ⟨u1, u2⟩ := u
                  dsimp only at HPU HQU
                  have HA1 := Lib.hid (show ∀ i, i < [a].length → 1 ≤ [a].getD i 0 from fun i hi => by obtain rfl : i = 0 := by simpa using hi
                                                                                                       exact hjr.1)
                  have HB1 := Lib.hid (show ∀ i, i < [b].length → 1 ≤ [b].getD i 0 from fun i hi => by obtain rfl : i = 0 := by simpa using hi
                                                                                                       exact hjs.1)
                  clear hje hjb2 hjb hrb hjr hjs hkr
                  have y0_0 : V0.cell? ⟨w.heap.size, 0, none⟩ = some (.int .i64 L) := Ky0.out.cell 0
                  have y0_1 : V0.cell? ⟨w.heap.size, 1, none⟩ = some (.slice (some ⟨jb, jo, none⟩) n cj) := Ky0.out.cell 1
                  have y0_2 : V0.cell? ⟨w.heap.size, 2, none⟩ = some (.slice K n ck) := Ky0.out.cell 2
                  have y9_0 : V0.cell? ⟨q9, 0, none⟩ = some (.int .i64 L) := Ky9.out.cell 0
                  have y9_1 : V0.cell? ⟨q9, 1, none⟩ = some (.slice J1 n cj1) := Ky9.out.cell 1
                  have y9_2 : V0.cell? ⟨q9, 2, none⟩ = some (.slice (some ⟨rb, ro, none⟩) n ck1) := Ky9.out.cell 2
                  have C0 := Lib.hid hjm
                  have C1 := Lib.hid hjq
                  have C2 := Lib.hid hr0
                  have C3 := Lib.hid hr1
                  go_upto_region 30 with (fail)
                  refine wp_region_free [.op, .op, .op, .op, .op, .op, .op, .op, .op, .op, .op, .op, .op, .op, .new, .store] [15] [26, 261] [26] [some 248, some 249, some 250, some 251, some 252, some 253, some 254, some 255, some 256, some 257, some 258, some 259, some 260, some 261, some 26, none] [[3], [248], [3], [250], [24], [251, 252], [253], [254], [9], [256], [257], [258], [259], [249, 255, 260], [], [26, 261]]
                    [Is (.pointer (some ⟨w.heap.size, 0, none⟩)), Is (.int .i64 (L)), Is (.pointer (some ⟨w.heap.size, 1, none⟩)), Is (.slice (some ⟨jb, jo, none⟩) n cj), Is (.int .i64 ((m : Int))), Is (.pointer (some ⟨jb, jo + m, none⟩)), Is (.int .i64 (a)), CopI [a] 1, Is (.pointer (some ⟨q9, 2, none⟩)), Is (.slice (some ⟨rb, ro, none⟩) n ck1), Is (.pointer (some ⟨rb, ro, none⟩)), Is (.agg #[.int .i64 (ra), .int .i64 (rz)]), CopR [(ra, rz)] 1, CopS L [a] [(ra, rz)] 1 1, NewP V0.heap.size 25 #[.int .i64 0, .slice none 0 0, .slice none 0 0], fun _ _ => True]
                    (by kernel_rfl) (by kernel_rfl) (by kernel_rfl) (by kernel_rfl) (by kernel_rfl) (by kernel_rfl) (by kernel_rfl) (by kernel_rfl) (by kernel_rfl) Ext (fun W => Ext V0 W)
                    (fun W _ => Ext.refl W) (fun W W' h k => h.trans k) (fun W W' h => h.size) ?_ (Ext.drew _) ?_ ?_
                  · repeat (refine ⟨fun _ _ _ _ k h => (by first | exact h | exact (by first | exact IntsAt.ext h k | exact NewP.ext h k | exact CopS.ext h k | exact CopI.ext h k | exact CopR.ext h k)), ?_⟩)
                    exact trivial
                  · refine ⟨?_, ?_, ?_, ?_, ?_, ?_, ?_, ?_, ?_, ?_, ?_, ?_, ?_, ?_, ?_, trivial⟩
                    · intro ρ W ⟨kc, kg, kf⟩ hF hs
                      obtain ⟨h0, -⟩ := hs
                      replace h0 : ρ (.tmp 3) = .pointer (some ⟨w.heap.size, 0, none⟩) := h0
                      go_simp
                      exact ⟨Ext.refl _, rfl⟩
                    · intro ρ W ⟨kc, kg, kf⟩ hF hs
                      obtain ⟨h0, -⟩ := hs
                      replace h0 : ρ (.tmp 248) = .pointer (some ⟨w.heap.size, 0, none⟩) := h0
                      have hc0 : W.cell? ⟨w.heap.size, 0, none⟩ = some (.int .i64 (L)) := hF.cell (by assumption)
                      go_simp
                      exact ⟨Ext.refl _, rfl⟩
                    · intro ρ W ⟨kc, kg, kf⟩ hF hs
                      obtain ⟨h0, -⟩ := hs
                      replace h0 : ρ (.tmp 3) = .pointer (some ⟨w.heap.size, 0, none⟩) := h0
                      go_simp
                      exact ⟨Ext.refl _, rfl⟩
                    · intro ρ W ⟨kc, kg, kf⟩ hF hs
                      obtain ⟨h0, -⟩ := hs
                      replace h0 : ρ (.tmp 250) = .pointer (some ⟨w.heap.size, 1, none⟩) := h0
                      have hc0 : W.cell? ⟨w.heap.size, 1, none⟩ = some (.slice (some ⟨jb, jo, none⟩) n cj) := hF.cell (by assumption)
                      go_simp
                      exact ⟨Ext.refl _, rfl⟩
                    · intro ρ W ⟨kc, kg, kf⟩ hF hs
                      obtain ⟨h0, -⟩ := hs
                      replace h0 : ρ (.tmp 24) = .int .i64 ((m : Int)) := h0
                      go_simp
                      exact ⟨Ext.refl _, rfl⟩
                    · intro ρ W ⟨kc, kg, kf⟩ hF hs
                      obtain ⟨h0, h1, -⟩ := hs
                      replace h0 : ρ (.tmp 251) = .slice (some ⟨jb, jo, none⟩) n cj := h0
                      replace h1 : ρ (.tmp 252) = .int .i64 ((m : Int)) := h1
                      have hb1 : (m : Int) < (n : Int) := by omega
                      have hb3 : (0 : Int) ≤ (m : Int) := by omega
                      have hb4 : ((m : Int)).toNat = m := by omega
                      have hb8 : m < n := by omega
                      go_simp
                      exact ⟨Ext.refl _, rfl⟩
                    · intro ρ W ⟨kc, kg, kf⟩ hF hs
                      obtain ⟨h0, -⟩ := hs
                      replace h0 : ρ (.tmp 253) = .pointer (some ⟨jb, jo + m, none⟩) := h0
                      have hc0 : W.cell? ⟨jb, jo + m, none⟩ = some (.int .i64 (a)) := hF.cell (by assumption)
                      go_simp
                      exact ⟨Ext.refl _, rfl⟩
                    · intro ρ W ⟨kc, kg, kf⟩ hF hs
                      obtain ⟨h0, -⟩ := hs
                      replace h0 : ρ (.tmp 254) = .int .i64 (a) := h0
                      go_simp
                      exact ⟨Ext.alloc _ _, _, _, rfl, one_int (Blk.new _ _ _), fun h => by cases h⟩
                    · intro ρ W ⟨kc, kg, kf⟩ hF hs
                      obtain ⟨h0, -⟩ := hs
                      replace h0 : ρ (.tmp 9) = .pointer (some ⟨q9, 0, none⟩) := h0
                      go_simp
                      exact ⟨Ext.refl _, rfl⟩
                    · intro ρ W ⟨kc, kg, kf⟩ hF hs
                      obtain ⟨h0, -⟩ := hs
                      replace h0 : ρ (.tmp 256) = .pointer (some ⟨q9, 2, none⟩) := h0
                      have hc0 : W.cell? ⟨q9, 2, none⟩ = some (.slice (some ⟨rb, ro, none⟩) n ck1) := hF.cell (by assumption)
                      go_simp
                      exact ⟨Ext.refl _, rfl⟩
                    · intro ρ W ⟨kc, kg, kf⟩ hF hs
                      obtain ⟨h0, -⟩ := hs
                      replace h0 : ρ (.tmp 257) = .slice (some ⟨rb, ro, none⟩) n ck1 := h0
                      have hb1 : (0 : Int) < (n : Int) := by omega
                      have hb8 : 0 < n := by omega
                      go_simp
                      exact ⟨Ext.refl _, rfl⟩
                    · intro ρ W ⟨kc, kg, kf⟩ hF hs
                      obtain ⟨h0, -⟩ := hs
                      replace h0 : ρ (.tmp 258) = .pointer (some ⟨rb, ro, none⟩) := h0
                      have hc0 : W.cell? ⟨rb, ro, none⟩ = some (.int .i64 (ra)) := hF.cell (by assumption)
                      have hc1 : W.cell? ⟨rb, ro + 1, none⟩ = some (.int .i64 (rz)) := hF.cell (by assumption)
                      go_simp
                      exact ⟨Ext.refl _, rfl⟩
                    · intro ρ W ⟨kc, kg, kf⟩ hF hs
                      obtain ⟨h0, -⟩ := hs
                      replace h0 : ρ (.tmp 259) = .agg #[.int .i64 (ra), .int .i64 (rz)] := h0
                      go_simp
                      exact ⟨Ext.alloc _ _, _, _, rfl, one_rg (Blk.new _ _ _), fun h => by cases h⟩
                    · intro ρ W ⟨kc, kg, kf⟩ hF hs
                      obtain ⟨h0, h1, h2, -⟩ := hs
                      replace h0 : ρ (.tmp 249) = .int .i64 (L) := h0
                      replace h1 : (CopI [a] 1) (ρ (.tmp 255)) W := h1
                      replace h2 : (CopR [(ra, rz)] 1) (ρ (.tmp 260)) W := h2
                      obtain ⟨A1, c1, e1, r1, n1⟩ := h1
                      replace e1 : ρ (.tmp 255) = .slice A1 1 c1 := e1
                      obtain ⟨A2, c2, e2, r2, n2⟩ := h2
                      replace e2 : ρ (.tmp 260) = .slice A2 1 c2 := e2
                      go_simp
                      exact ⟨Ext.refl _, A1, c1, A2, c2, rfl, r1, r2, n1, n2⟩
                    · intro ρ W ⟨kc, kg, kf⟩ hF hs
                      exact ⟨W.alloc (.cells #[.int .i64 0, .slice none 0 0, .slice none 0 0] 25), (by go_simp), by simp, Ext.alloc _ _, _, rfl, hF.size, Blk.new _ _ _⟩
                  · intro fv U hF hs hap σ hσ ρ ⟨kc, kg, kf⟩ hr
                    obtain ⟨-, -, -, -, -, -, -, -, -, -, -, -, -, h261, h26, -⟩ := hs
                    replace h261 : (CopS L [a] [(ra, rz)] 1 1) (fv 261) U := h261
                    replace h26 : (NewP V0.heap.size 25 #[.int .i64 0, .slice none 0 0, .slice none 0 0]) (fv 26) U := h26
                    obtain ⟨r0, r1, -⟩ := hr
                    replace r0 : ρ (.tmp 26) = fv 26 := r0
                    replace r1 : ρ (.tmp 261) = fv 261 := r1
                    obtain ⟨Jp, cp, Kp, dp, hvx, hra, hrb, hna, hnb⟩ := h261
                    rw [hvx] at r1
                    obtain ⟨q26, hq26, hqs26, hb26⟩ := h26
                    rw [hq26] at r0
                    have f26_0 := hb26.free 0
                    have c26_0 : U.cell? ⟨q26, 0, none⟩ = some (.int .i64 0) := hb26.cell 0
                    have f26_1 := hb26.free 1
                    have c26_1 : U.cell? ⟨q26, 1, none⟩ = some (.slice none 0 0) := hb26.cell 1
                    have f26_2 := hb26.free 2
                    have c26_2 : U.cell? ⟨q26, 2, none⟩ = some (.slice none 0 0) := hb26.cell 2
                    refine stores_one _ rfl hσ (((U.setCell ⟨q26, 0, none⟩ (.int .i64 L)).setCell ⟨q26, 1, none⟩ (.slice Jp 1 cp)).setCell ⟨q26, 2, none⟩ (.slice Kp 1 dp)) (by go_simp) ?_
                    obtain ⟨V30, hV30⟩ : ∃ Vx, Vx = ((U.setCell ⟨q26, 0, none⟩ (.int .i64 L)).setCell ⟨q26, 1, none⟩ (.slice Jp 1 cp)).setCell ⟨q26, 2, none⟩ (.slice Kp 1 dp) := ⟨_, rfl⟩
                    rw [← hV30]
                    have K26 := Lib.hid (show Blk V30 q26 25 #[.int .i64 L, .slice Jp 1 cp, .slice Kp 1 dp] by rw [hV30]; exact ((hb26.setSame 0 _).setSame 1 _).setSame 2 _)
                    have XN := Lib.hid (show Ext V0 V30 by rw [hV30]; exact Ext.set (Ext.set (Ext.set hF (by dsimp only; exact hqs26) _) (by dsimp only; exact hqs26) _) (by dsimp only; exact hqs26) _)
                    have L26 := Lib.hid hqs26
                    have RJp := Lib.hid (show RowsAt 1 I1 V30 Jp [a] by rw [hV30]; exact keepJ hra hb26 HA1.out _ _ _)
                    have RKp := Lib.hid (show RowsAt 2 Rg.enc V30 Kp [(ra, rz)] by rw [hV30]; exact keepK hrb hb26 _ _ _)
                    clear hra hrb hna hnb hvx
                    clear f26_0 c26_0 f26_1 c26_1 f26_2 c26_2
                    clear hV30 hF hap hσ r0 r1 kc kg kf hb26 hqs26
                    simp only [fin, List.filterMap]
                    go_simp
                    try rw [hq26]
                    clear hq26
                    clear ρ σ 
                    have hx := XN.out
                    have XLAST := Lib.hid hx
                    replace X := Lib.hid (X.out.trans hx)
                    replace Ky0 := Lib.hid (Ky0.out.ext hx)
                    replace Ky9 := Lib.hid (Ky9.out.ext hx)
                    replace RB1 := Lib.hid (RB1.out.ext hx)
                    clear hx y0_0 y0_1 y0_2 y9_0 y9_1 y9_2
                    have Ky26 := K26
                    clear K26 XN L26
                    have y0_0 : V30.cell? ⟨w.heap.size, 0, none⟩ = some (.int .i64 L) := Ky0.out.cell 0
                    have y0_1 : V30.cell? ⟨w.heap.size, 1, none⟩ = some (.slice (some ⟨jb, jo, none⟩) n cj) := Ky0.out.cell 1
                    have y0_2 : V30.cell? ⟨w.heap.size, 2, none⟩ = some (.slice K n ck) := Ky0.out.cell 2
                    have y9_0 : V30.cell? ⟨q9, 0, none⟩ = some (.int .i64 L) := Ky9.out.cell 0
                    have y9_1 : V30.cell? ⟨q9, 1, none⟩ = some (.slice J1 n cj1) := Ky9.out.cell 1
                    have y9_2 : V30.cell? ⟨q9, 2, none⟩ = some (.slice (some ⟨rb, ro, none⟩) n ck1) := Ky9.out.cell 2
                    have y26_0 : V30.cell? ⟨q26, 0, none⟩ = some (.int .i64 L) := Ky26.out.cell 0
                    have y26_1 : V30.cell? ⟨q26, 1, none⟩ = some (.slice Jp 1 cp) := Ky26.out.cell 1
                    have y26_2 : V30.cell? ⟨q26, 2, none⟩ = some (.slice Kp 1 dp) := Ky26.out.cell 2
                    replace hjm := XLAST.out.cell hjm
                    replace hjq := XLAST.out.cell hjq
                    replace hr0 := XLAST.out.cell hr0
                    replace hr1 := XLAST.out.cell hr1
                    go_upto_region 31 with (fail)
                    refine wp_region_free [.op, .op, .op, .op, .op, .op, .op, .op, .op, .op, .op, .op, .op, .op, .new, .store] [15] [27, 275] [27] [some 262, some 263, some 264, some 265, some 266, some 267, some 268, some 269, some 270, some 271, some 272, some 273, some 274, some 275, some 27, none] [[3], [262], [3], [264], [25], [265, 266], [267], [268], [9], [270], [271], [272], [273], [263, 269, 274], [], [27, 275]]
                      [Is (.pointer (some ⟨w.heap.size, 0, none⟩)), Is (.int .i64 (L)), Is (.pointer (some ⟨w.heap.size, 1, none⟩)), Is (.slice (some ⟨jb, jo, none⟩) n cj), Is (.int .i64 ((q : Int))), Is (.pointer (some ⟨jb, jo + q, none⟩)), Is (.int .i64 (b)), CopI [b] 1, Is (.pointer (some ⟨q9, 2, none⟩)), Is (.slice (some ⟨rb, ro, none⟩) n ck1), Is (.pointer (some ⟨rb, ro, none⟩)), Is (.agg #[.int .i64 (ra), .int .i64 (rz)]), CopR [(ra, rz)] 1, CopS L [b] [(ra, rz)] 1 1, NewP V30.heap.size 25 #[.int .i64 0, .slice none 0 0, .slice none 0 0], fun _ _ => True]
                      (by kernel_rfl) (by kernel_rfl) (by kernel_rfl) (by kernel_rfl) (by kernel_rfl) (by kernel_rfl) (by kernel_rfl) (by kernel_rfl) (by kernel_rfl) Ext (fun W => Ext V30 W)
                      (fun W _ => Ext.refl W) (fun W W' h k => h.trans k) (fun W W' h => h.size) ?_ (Ext.drew _) ?_ ?_
                    · repeat (refine ⟨fun _ _ _ _ k h => (by first | exact h | exact (by first | exact IntsAt.ext h k | exact NewP.ext h k | exact CopS.ext h k | exact CopI.ext h k | exact CopR.ext h k)), ?_⟩)
                      exact trivial
                    · refine ⟨?_, ?_, ?_, ?_, ?_, ?_, ?_, ?_, ?_, ?_, ?_, ?_, ?_, ?_, ?_, trivial⟩
                      · intro ρ W ⟨kc, kg, kf⟩ hF hs
                        obtain ⟨h0, -⟩ := hs
                        replace h0 : ρ (.tmp 3) = .pointer (some ⟨w.heap.size, 0, none⟩) := h0
                        go_simp
                        exact ⟨Ext.refl _, rfl⟩
                      · intro ρ W ⟨kc, kg, kf⟩ hF hs
                        obtain ⟨h0, -⟩ := hs
                        replace h0 : ρ (.tmp 262) = .pointer (some ⟨w.heap.size, 0, none⟩) := h0
                        have hc0 : W.cell? ⟨w.heap.size, 0, none⟩ = some (.int .i64 (L)) := hF.cell (by assumption)
                        go_simp
                        exact ⟨Ext.refl _, rfl⟩
                      · intro ρ W ⟨kc, kg, kf⟩ hF hs
                        obtain ⟨h0, -⟩ := hs
                        replace h0 : ρ (.tmp 3) = .pointer (some ⟨w.heap.size, 0, none⟩) := h0
                        go_simp
                        exact ⟨Ext.refl _, rfl⟩
                      · intro ρ W ⟨kc, kg, kf⟩ hF hs
                        obtain ⟨h0, -⟩ := hs
                        replace h0 : ρ (.tmp 264) = .pointer (some ⟨w.heap.size, 1, none⟩) := h0
                        have hc0 : W.cell? ⟨w.heap.size, 1, none⟩ = some (.slice (some ⟨jb, jo, none⟩) n cj) := hF.cell (by assumption)
                        go_simp
                        exact ⟨Ext.refl _, rfl⟩
                      · intro ρ W ⟨kc, kg, kf⟩ hF hs
                        obtain ⟨h0, -⟩ := hs
                        replace h0 : ρ (.tmp 25) = .int .i64 ((q : Int)) := h0
                        go_simp
                        exact ⟨Ext.refl _, rfl⟩
                      · intro ρ W ⟨kc, kg, kf⟩ hF hs
                        obtain ⟨h0, h1, -⟩ := hs
                        replace h0 : ρ (.tmp 265) = .slice (some ⟨jb, jo, none⟩) n cj := h0
                        replace h1 : ρ (.tmp 266) = .int .i64 ((q : Int)) := h1
                        have hb1 : (q : Int) < (n : Int) := by omega
                        have hb3 : (0 : Int) ≤ (q : Int) := by omega
                        have hb4 : ((q : Int)).toNat = q := by omega
                        have hb8 : q < n := by omega
                        go_simp
                        exact ⟨Ext.refl _, rfl⟩
                      · intro ρ W ⟨kc, kg, kf⟩ hF hs
                        obtain ⟨h0, -⟩ := hs
                        replace h0 : ρ (.tmp 267) = .pointer (some ⟨jb, jo + q, none⟩) := h0
                        have hc0 : W.cell? ⟨jb, jo + q, none⟩ = some (.int .i64 (b)) := hF.cell (by assumption)
                        go_simp
                        exact ⟨Ext.refl _, rfl⟩
                      · intro ρ W ⟨kc, kg, kf⟩ hF hs
                        obtain ⟨h0, -⟩ := hs
                        replace h0 : ρ (.tmp 268) = .int .i64 (b) := h0
                        go_simp
                        exact ⟨Ext.alloc _ _, _, _, rfl, one_int (Blk.new _ _ _), fun h => by cases h⟩
                      · intro ρ W ⟨kc, kg, kf⟩ hF hs
                        obtain ⟨h0, -⟩ := hs
                        replace h0 : ρ (.tmp 9) = .pointer (some ⟨q9, 0, none⟩) := h0
                        go_simp
                        exact ⟨Ext.refl _, rfl⟩
                      · intro ρ W ⟨kc, kg, kf⟩ hF hs
                        obtain ⟨h0, -⟩ := hs
                        replace h0 : ρ (.tmp 270) = .pointer (some ⟨q9, 2, none⟩) := h0
                        have hc0 : W.cell? ⟨q9, 2, none⟩ = some (.slice (some ⟨rb, ro, none⟩) n ck1) := hF.cell (by assumption)
                        go_simp
                        exact ⟨Ext.refl _, rfl⟩
                      · intro ρ W ⟨kc, kg, kf⟩ hF hs
                        obtain ⟨h0, -⟩ := hs
                        replace h0 : ρ (.tmp 271) = .slice (some ⟨rb, ro, none⟩) n ck1 := h0
                        have hb1 : (0 : Int) < (n : Int) := by omega
                        have hb8 : 0 < n := by omega
                        go_simp
                        exact ⟨Ext.refl _, rfl⟩
                      · intro ρ W ⟨kc, kg, kf⟩ hF hs
                        obtain ⟨h0, -⟩ := hs
                        replace h0 : ρ (.tmp 272) = .pointer (some ⟨rb, ro, none⟩) := h0
                        have hc0 : W.cell? ⟨rb, ro, none⟩ = some (.int .i64 (ra)) := hF.cell (by assumption)
                        have hc1 : W.cell? ⟨rb, ro + 1, none⟩ = some (.int .i64 (rz)) := hF.cell (by assumption)
                        go_simp
                        exact ⟨Ext.refl _, rfl⟩
                      · intro ρ W ⟨kc, kg, kf⟩ hF hs
                        obtain ⟨h0, -⟩ := hs
                        replace h0 : ρ (.tmp 273) = .agg #[.int .i64 (ra), .int .i64 (rz)] := h0
                        go_simp
                        exact ⟨Ext.alloc _ _, _, _, rfl, one_rg (Blk.new _ _ _), fun h => by cases h⟩
                      · intro ρ W ⟨kc, kg, kf⟩ hF hs
                        obtain ⟨h0, h1, h2, -⟩ := hs
                        replace h0 : ρ (.tmp 263) = .int .i64 (L) := h0
                        replace h1 : (CopI [b] 1) (ρ (.tmp 269)) W := h1
                        replace h2 : (CopR [(ra, rz)] 1) (ρ (.tmp 274)) W := h2
                        obtain ⟨A1, c1, e1, r1, n1⟩ := h1
                        replace e1 : ρ (.tmp 269) = .slice A1 1 c1 := e1
                        obtain ⟨A2, c2, e2, r2, n2⟩ := h2
                        replace e2 : ρ (.tmp 274) = .slice A2 1 c2 := e2
                        go_simp
                        exact ⟨Ext.refl _, A1, c1, A2, c2, rfl, r1, r2, n1, n2⟩
                      · intro ρ W ⟨kc, kg, kf⟩ hF hs
                        exact ⟨W.alloc (.cells #[.int .i64 0, .slice none 0 0, .slice none 0 0] 25), (by go_simp), by simp, Ext.alloc _ _, _, rfl, hF.size, Blk.new _ _ _⟩
                    · intro fv U hF hs hap σ hσ ρ ⟨kc, kg, kf⟩ hr
                      obtain ⟨-, -, -, -, -, -, -, -, -, -, -, -, -, h275, h27, -⟩ := hs
                      replace h275 : (CopS L [b] [(ra, rz)] 1 1) (fv 275) U := h275
                      replace h27 : (NewP V30.heap.size 25 #[.int .i64 0, .slice none 0 0, .slice none 0 0]) (fv 27) U := h27
                      obtain ⟨r0, r1, -⟩ := hr
                      replace r0 : ρ (.tmp 27) = fv 27 := r0
                      replace r1 : ρ (.tmp 275) = fv 275 := r1
                      obtain ⟨Js, cs, Ks, ds, hvx, hra, hrb, hna, hnb⟩ := h275
                      rw [hvx] at r1
                      obtain ⟨q27, hq27, hqs27, hb27⟩ := h27
                      rw [hq27] at r0
                      have f27_0 := hb27.free 0
                      have c27_0 : U.cell? ⟨q27, 0, none⟩ = some (.int .i64 0) := hb27.cell 0
                      have f27_1 := hb27.free 1
                      have c27_1 : U.cell? ⟨q27, 1, none⟩ = some (.slice none 0 0) := hb27.cell 1
                      have f27_2 := hb27.free 2
                      have c27_2 : U.cell? ⟨q27, 2, none⟩ = some (.slice none 0 0) := hb27.cell 2
                      refine stores_one _ rfl hσ (((U.setCell ⟨q27, 0, none⟩ (.int .i64 L)).setCell ⟨q27, 1, none⟩ (.slice Js 1 cs)).setCell ⟨q27, 2, none⟩ (.slice Ks 1 ds)) (by go_simp) ?_
                      obtain ⟨V31, hV31⟩ : ∃ Vx, Vx = ((U.setCell ⟨q27, 0, none⟩ (.int .i64 L)).setCell ⟨q27, 1, none⟩ (.slice Js 1 cs)).setCell ⟨q27, 2, none⟩ (.slice Ks 1 ds) := ⟨_, rfl⟩
                      rw [← hV31]
                      have K27 := Lib.hid (show Blk V31 q27 25 #[.int .i64 L, .slice Js 1 cs, .slice Ks 1 ds] by rw [hV31]; exact ((hb27.setSame 0 _).setSame 1 _).setSame 2 _)
                      have XN := Lib.hid (show Ext V30 V31 by rw [hV31]; exact Ext.set (Ext.set (Ext.set hF (by dsimp only; exact hqs27) _) (by dsimp only; exact hqs27) _) (by dsimp only; exact hqs27) _)
                      have L27 := Lib.hid hqs27
                      have RJs := Lib.hid (show RowsAt 1 I1 V31 Js [b] by rw [hV31]; exact keepJ hra hb27 HB1.out _ _ _)
                      have RKs := Lib.hid (show RowsAt 2 Rg.enc V31 Ks [(ra, rz)] by rw [hV31]; exact keepK hrb hb27 _ _ _)
                      clear hra hrb hna hnb hvx
                      clear f27_0 c27_0 f27_1 c27_1 f27_2 c27_2
                      clear hV31 hF hap hσ r0 r1 kc kg kf hb27 hqs27
                      simp only [fin, List.filterMap]
                      go_simp
                      try rw [hq27]
                      clear hq27
                      clear ρ σ 
                      have hx := XN.out
                      have XLAST := Lib.hid hx
                      replace X := Lib.hid (X.out.trans hx)
                      replace Ky0 := Lib.hid (Ky0.out.ext hx)
                      replace Ky9 := Lib.hid (Ky9.out.ext hx)
                      replace Ky26 := Lib.hid (Ky26.out.ext hx)
                      replace RB1 := Lib.hid (RB1.out.ext hx)
                      replace RJp := Lib.hid (RJp.out.ext hx)
                      replace RKp := Lib.hid (RKp.out.ext hx)
                      clear hx y0_0 y0_1 y0_2 y9_0 y9_1 y9_2 y26_0 y26_1 y26_2
                      have Ky27 := K27
                      clear K27 XN L27
                      have y0_0 : V31.cell? ⟨w.heap.size, 0, none⟩ = some (.int .i64 L) := Ky0.out.cell 0
                      have y0_1 : V31.cell? ⟨w.heap.size, 1, none⟩ = some (.slice (some ⟨jb, jo, none⟩) n cj) := Ky0.out.cell 1
                      have y0_2 : V31.cell? ⟨w.heap.size, 2, none⟩ = some (.slice K n ck) := Ky0.out.cell 2
                      have y9_0 : V31.cell? ⟨q9, 0, none⟩ = some (.int .i64 L) := Ky9.out.cell 0
                      have y9_1 : V31.cell? ⟨q9, 1, none⟩ = some (.slice J1 n cj1) := Ky9.out.cell 1
                      have y9_2 : V31.cell? ⟨q9, 2, none⟩ = some (.slice (some ⟨rb, ro, none⟩) n ck1) := Ky9.out.cell 2
                      have y26_0 : V31.cell? ⟨q26, 0, none⟩ = some (.int .i64 L) := Ky26.out.cell 0
                      have y26_1 : V31.cell? ⟨q26, 1, none⟩ = some (.slice Jp 1 cp) := Ky26.out.cell 1
                      have y26_2 : V31.cell? ⟨q26, 2, none⟩ = some (.slice Kp 1 dp) := Ky26.out.cell 2
                      have y27_0 : V31.cell? ⟨q27, 0, none⟩ = some (.int .i64 L) := Ky27.out.cell 0
                      have y27_1 : V31.cell? ⟨q27, 1, none⟩ = some (.slice Js 1 cs) := Ky27.out.cell 1
                      have y27_2 : V31.cell? ⟨q27, 2, none⟩ = some (.slice Ks 1 ds) := Ky27.out.cell 2
                      replace hjm := XLAST.out.cell hjm
                      replace hjq := XLAST.out.cell hjq
                      replace hr0 := XLAST.out.cell hr0
                      replace hr1 := XLAST.out.cell hr1
                      go_upto_region 32 with (fail)
                      refine wp_region_free [.op, .op, .op, .op, .op, .op, .op, .op, .op, .late (.int .i64 (0)), .new, .store, .late (.int .i64 (0))] [11] [28, 284] [28] [some 277, some 278, some 279, some 280, some 281, some 282, some 283, some 276, some 284, some 285, some 28, none, some 29] [[26], [3], [278], [25], [279, 280], [281], [277, 282], [283], [276], [276], [], [28, 284], [285]]
                        [Is (.agg #[.int .i64 L, .slice Jp 1 cp, .slice Kp 1 dp]), Is (.pointer (some ⟨w.heap.size, 1, none⟩)), Is (.slice (some ⟨jb, jo, none⟩) n cj), Is (.int .i64 ((q : Int))), Is (.pointer (some ⟨jb, jo + q, none⟩)), Is (.int .i64 (b)), Is (.tuple #[.agg #[.int .i64 u1, .int .i64 u2], .int .i64 0]), Is (.tuple #[.agg #[.int .i64 u1, .int .i64 u2], .int .i64 0]), Is (.agg #[.int .i64 u1, .int .i64 u2]), Is (.int .i64 (0)), NewP V31.heap.size 33 #[.int .i64 0, .int .i64 0], fun _ _ => True, Is (.int .i64 (0))]
                        (by kernel_rfl) (by kernel_rfl) (by kernel_rfl) (by kernel_rfl) (by kernel_rfl) (by kernel_rfl) (by kernel_rfl) (by kernel_rfl) (by kernel_rfl) Ext (fun W => Ext V31 W)
                        (fun W _ => Ext.refl W) (fun W W' h k => h.trans k) (fun W W' h => h.size) ?_ (Ext.drew _) ?_ ?_
                      · repeat (refine ⟨fun _ _ _ _ k h => (by first | exact h | exact (by first | exact IntsAt.ext h k | exact NewP.ext h k | exact CopS.ext h k | exact CopI.ext h k | exact CopR.ext h k)), ?_⟩)
                        exact trivial
                      · refine ⟨?_, ?_, ?_, ?_, ?_, ?_, ?_, ?_, ?_, ?_, ?_, ?_, trivial⟩
                        · intro ρ W ⟨kc, kg, kf⟩ hF hs
                          obtain ⟨h0, -⟩ := hs
                          replace h0 : ρ (.tmp 26) = .pointer (some ⟨q26, 0, none⟩) := h0
                          have hc0 : W.cell? ⟨q26, 0, none⟩ = some (.int .i64 L) := hF.cell (by assumption)
                          have hc1 : W.cell? ⟨q26, 1, none⟩ = some (.slice Jp 1 cp) := hF.cell (by assumption)
                          have hc2 : W.cell? ⟨q26, 2, none⟩ = some (.slice Kp 1 dp) := hF.cell (by assumption)
                          go_simp
                          exact ⟨Ext.refl _, rfl⟩
                        · intro ρ W ⟨kc, kg, kf⟩ hF hs
                          obtain ⟨h0, -⟩ := hs
                          replace h0 : ρ (.tmp 3) = .pointer (some ⟨w.heap.size, 0, none⟩) := h0
                          go_simp
                          exact ⟨Ext.refl _, rfl⟩
                        · intro ρ W ⟨kc, kg, kf⟩ hF hs
                          obtain ⟨h0, -⟩ := hs
                          replace h0 : ρ (.tmp 278) = .pointer (some ⟨w.heap.size, 1, none⟩) := h0
                          have hc0 : W.cell? ⟨w.heap.size, 1, none⟩ = some (.slice (some ⟨jb, jo, none⟩) n cj) := hF.cell (by assumption)
                          go_simp
                          exact ⟨Ext.refl _, rfl⟩
                        · intro ρ W ⟨kc, kg, kf⟩ hF hs
                          obtain ⟨h0, -⟩ := hs
                          replace h0 : ρ (.tmp 25) = .int .i64 ((q : Int)) := h0
                          go_simp
                          exact ⟨Ext.refl _, rfl⟩
                        · intro ρ W ⟨kc, kg, kf⟩ hF hs
                          obtain ⟨h0, h1, -⟩ := hs
                          replace h0 : ρ (.tmp 279) = .slice (some ⟨jb, jo, none⟩) n cj := h0
                          replace h1 : ρ (.tmp 280) = .int .i64 ((q : Int)) := h1
                          have hb1 : (q : Int) < (n : Int) := by omega
                          have hb3 : (0 : Int) ≤ (q : Int) := by omega
                          have hb4 : ((q : Int)).toNat = q := by omega
                          have hb8 : q < n := by omega
                          go_simp
                          exact ⟨Ext.refl _, rfl⟩
                        · intro ρ W ⟨kc, kg, kf⟩ hF hs
                          obtain ⟨h0, -⟩ := hs
                          replace h0 : ρ (.tmp 281) = .pointer (some ⟨jb, jo + q, none⟩) := h0
                          have hc0 : W.cell? ⟨jb, jo + q, none⟩ = some (.int .i64 (b)) := hF.cell (by assumption)
                          go_simp
                          exact ⟨Ext.refl _, rfl⟩
                        · intro ρ W ⟨kc, kg, kf⟩ hF hs
                          obtain ⟨h0, h1, -⟩ := hs
                          replace h0 : ρ (.tmp 277) = .agg #[.int .i64 L, .slice Jp 1 cp, .slice Kp 1 dp] := h0
                          replace h1 : ρ (.tmp 282) = .int .i64 (b) := h1
                          go_simp
                          refine (HPU.out _ _ _ _ _ (RJp.out.ext hF) (RKp.out.ext hF)).mono ?_; rintro e w' ⟨rfl, hx⟩; exact ⟨_, rfl, hx, rfl⟩
                        · intro ρ W ⟨kc, kg, kf⟩ hF hs
                          obtain ⟨h0, -⟩ := hs
                          replace h0 : ρ (.tmp 283) = .tuple #[.agg #[.int .i64 u1, .int .i64 u2], .int .i64 0] := h0
                          go_simp
                          exact ⟨Ext.refl _, rfl⟩
                        · intro ρ W ⟨kc, kg, kf⟩ hF hs
                          obtain ⟨h0, -⟩ := hs
                          replace h0 : ρ (.tmp 276) = .tuple #[.agg #[.int .i64 u1, .int .i64 u2], .int .i64 0] := h0
                          go_simp
                          exact ⟨Ext.refl _, rfl⟩
                        · refine ⟨rfl, fun ρ W ⟨kc, kg, kf⟩ hF hs W' => ?_⟩
                          obtain ⟨h0, -⟩ := hs
                          replace h0 : ρ (.tmp 276) = .tuple #[.agg #[.int .i64 u1, .int .i64 u2], .int .i64 0] := h0
                          go_simp
                        · intro ρ W ⟨kc, kg, kf⟩ hF hs
                          exact ⟨W.alloc (.cells #[.int .i64 0, .int .i64 0] 33), (by go_simp), by simp, Ext.alloc _ _, _, rfl, hF.size, Blk.new _ _ _⟩
                        · refine ⟨rfl, fun ρ W ⟨kc, kg, kf⟩ hF hs W' => ?_⟩
                          obtain ⟨h0, -⟩ := hs
                          replace h0 : ρ (.tmp 285) = .int .i64 (0) := h0
                          go_simp
                      · intro fv U hF hs hap σ hσ ρ ⟨kc, kg, kf⟩ hr
                        obtain ⟨-, -, -, -, -, -, -, -, h284, h285, h28, h29, -⟩ := hs
                        replace h284 : fv 284 = .agg #[.int .i64 u1, .int .i64 u2] := h284
                        replace h285 : fv 285 = .int .i64 (0) := h285
                        replace h28 : (NewP V31.heap.size 33 #[.int .i64 0, .int .i64 0]) (fv 28) U := h28
                        replace h29 : fv 29 = .int .i64 (0) := h29
                        obtain ⟨r0, r1, -⟩ := hr
                        replace r0 : ρ (.tmp 28) = fv 28 := r0
                        replace r1 : ρ (.tmp 284) = .agg #[.int .i64 u1, .int .i64 u2] := r1.trans h284
                        obtain ⟨q28, hq28, hqs28, hb28⟩ := h28
                        rw [hq28] at r0
                        have f28_0 := hb28.free 0
                        have c28_0 : U.cell? ⟨q28, 0, none⟩ = some (.int .i64 0) := hb28.cell 0
                        have f28_1 := hb28.free 1
                        have c28_1 : U.cell? ⟨q28, 1, none⟩ = some (.int .i64 0) := hb28.cell 1
                        refine stores_one _ rfl hσ ((U.setCell ⟨q28, 0, none⟩ (.int .i64 u1)).setCell ⟨q28, 1, none⟩ (.int .i64 u2)) (by go_simp) ?_
                        obtain ⟨V32, hV32⟩ : ∃ Vx, Vx = (U.setCell ⟨q28, 0, none⟩ (.int .i64 u1)).setCell ⟨q28, 1, none⟩ (.int .i64 u2) := ⟨_, rfl⟩
                        rw [← hV32]
                        have K28 := Lib.hid (show Blk V32 q28 33 #[.int .i64 u1, .int .i64 u2] by rw [hV32]; exact (hb28.setSame 0 _).setSame 1 _)
                        have XN := Lib.hid (show Ext V31 V32 by rw [hV32]; exact Ext.set (Ext.set hF (by dsimp only; exact hqs28) _) (by dsimp only; exact hqs28) _)
                        have L28 := Lib.hid hqs28
                        clear f28_0 c28_0 f28_1 c28_1
                        clear hV32 hF hap hσ r0 r1 kc kg kf hb28 hqs28
                        simp only [fin, List.filterMap]
                        go_simp
                        try rw [hq28]
                        clear hq28
                        clear ρ σ h284 h285 h29
                        have hx := XN.out
                        have XLAST := Lib.hid hx
                        replace X := Lib.hid (X.out.trans hx)
                        replace Ky0 := Lib.hid (Ky0.out.ext hx)
                        replace Ky9 := Lib.hid (Ky9.out.ext hx)
                        replace Ky26 := Lib.hid (Ky26.out.ext hx)
                        replace Ky27 := Lib.hid (Ky27.out.ext hx)
                        replace RB1 := Lib.hid (RB1.out.ext hx)
                        replace RJp := Lib.hid (RJp.out.ext hx)
                        replace RKp := Lib.hid (RKp.out.ext hx)
                        replace RJs := Lib.hid (RJs.out.ext hx)
                        replace RKs := Lib.hid (RKs.out.ext hx)
                        clear hx y0_0 y0_1 y0_2 y9_0 y9_1 y9_2 y26_0 y26_1 y26_2 y27_0 y27_1 y27_2
                        have Ky28 := K28
                        clear K28 XN L28
                        have y0_0 : V32.cell? ⟨w.heap.size, 0, none⟩ = some (.int .i64 L) := Ky0.out.cell 0
                        have y0_1 : V32.cell? ⟨w.heap.size, 1, none⟩ = some (.slice (some ⟨jb, jo, none⟩) n cj) := Ky0.out.cell 1
                        have y0_2 : V32.cell? ⟨w.heap.size, 2, none⟩ = some (.slice K n ck) := Ky0.out.cell 2
                        have y9_0 : V32.cell? ⟨q9, 0, none⟩ = some (.int .i64 L) := Ky9.out.cell 0
                        have y9_1 : V32.cell? ⟨q9, 1, none⟩ = some (.slice J1 n cj1) := Ky9.out.cell 1
                        have y9_2 : V32.cell? ⟨q9, 2, none⟩ = some (.slice (some ⟨rb, ro, none⟩) n ck1) := Ky9.out.cell 2
                        have y26_0 : V32.cell? ⟨q26, 0, none⟩ = some (.int .i64 L) := Ky26.out.cell 0
                        have y26_1 : V32.cell? ⟨q26, 1, none⟩ = some (.slice Jp 1 cp) := Ky26.out.cell 1
                        have y26_2 : V32.cell? ⟨q26, 2, none⟩ = some (.slice Kp 1 dp) := Ky26.out.cell 2
                        have y27_0 : V32.cell? ⟨q27, 0, none⟩ = some (.int .i64 L) := Ky27.out.cell 0
                        have y27_1 : V32.cell? ⟨q27, 1, none⟩ = some (.slice Js 1 cs) := Ky27.out.cell 1
                        have y27_2 : V32.cell? ⟨q27, 2, none⟩ = some (.slice Ks 1 ds) := Ky27.out.cell 2
                        have y28_0 : V32.cell? ⟨q28, 0, none⟩ = some (.int .i64 u1) := Ky28.out.cell 0
                        have y28_1 : V32.cell? ⟨q28, 1, none⟩ = some (.int .i64 u2) := Ky28.out.cell 1
                        replace hjm := XLAST.out.cell hjm
                        replace hjq := XLAST.out.cell hjq
                        replace hr0 := XLAST.out.cell hr0
                        replace hr1 := XLAST.out.cell hr1
                        go_upto_region 33 with (fail)
                        refine wp_region_free [.op, .op, .op, .op, .op, .op, .op, .op, .op, .late (.int .i64 (0)), .new, .store, .late (.int .i64 (0))] [11] [30, 294] [30] [some 287, some 288, some 289, some 290, some 291, some 292, some 293, some 286, some 294, some 295, some 30, none, some 31] [[27], [3], [288], [24], [289, 290], [291], [287, 292], [293], [286], [286], [], [30, 294], [295]]
                          [Is (.agg #[.int .i64 L, .slice Js 1 cs, .slice Ks 1 ds]), Is (.pointer (some ⟨w.heap.size, 1, none⟩)), Is (.slice (some ⟨jb, jo, none⟩) n cj), Is (.int .i64 ((m : Int))), Is (.pointer (some ⟨jb, jo + m, none⟩)), Is (.int .i64 (a)), Is (.tuple #[.agg #[.int .i64 u1, .int .i64 u2], .int .i64 0]), Is (.tuple #[.agg #[.int .i64 u1, .int .i64 u2], .int .i64 0]), Is (.agg #[.int .i64 u1, .int .i64 u2]), Is (.int .i64 (0)), NewP V32.heap.size 33 #[.int .i64 0, .int .i64 0], fun _ _ => True, Is (.int .i64 (0))]
                          (by kernel_rfl) (by kernel_rfl) (by kernel_rfl) (by kernel_rfl) (by kernel_rfl) (by kernel_rfl) (by kernel_rfl) (by kernel_rfl) (by kernel_rfl) Ext (fun W => Ext V32 W)
                          (fun W _ => Ext.refl W) (fun W W' h k => h.trans k) (fun W W' h => h.size) ?_ (Ext.drew _) ?_ ?_
                        · repeat (refine ⟨fun _ _ _ _ k h => (by first | exact h | exact (by first | exact IntsAt.ext h k | exact NewP.ext h k | exact CopS.ext h k | exact CopI.ext h k | exact CopR.ext h k)), ?_⟩)
                          exact trivial
                        · refine ⟨?_, ?_, ?_, ?_, ?_, ?_, ?_, ?_, ?_, ?_, ?_, ?_, trivial⟩
                          · intro ρ W ⟨kc, kg, kf⟩ hF hs
                            obtain ⟨h0, -⟩ := hs
                            replace h0 : ρ (.tmp 27) = .pointer (some ⟨q27, 0, none⟩) := h0
                            have hc0 : W.cell? ⟨q27, 0, none⟩ = some (.int .i64 L) := hF.cell (by assumption)
                            have hc1 : W.cell? ⟨q27, 1, none⟩ = some (.slice Js 1 cs) := hF.cell (by assumption)
                            have hc2 : W.cell? ⟨q27, 2, none⟩ = some (.slice Ks 1 ds) := hF.cell (by assumption)
                            go_simp
                            exact ⟨Ext.refl _, rfl⟩
                          · intro ρ W ⟨kc, kg, kf⟩ hF hs
                            obtain ⟨h0, -⟩ := hs
                            replace h0 : ρ (.tmp 3) = .pointer (some ⟨w.heap.size, 0, none⟩) := h0
                            go_simp
                            exact ⟨Ext.refl _, rfl⟩
                          · intro ρ W ⟨kc, kg, kf⟩ hF hs
                            obtain ⟨h0, -⟩ := hs
                            replace h0 : ρ (.tmp 288) = .pointer (some ⟨w.heap.size, 1, none⟩) := h0
                            have hc0 : W.cell? ⟨w.heap.size, 1, none⟩ = some (.slice (some ⟨jb, jo, none⟩) n cj) := hF.cell (by assumption)
                            go_simp
                            exact ⟨Ext.refl _, rfl⟩
                          · intro ρ W ⟨kc, kg, kf⟩ hF hs
                            obtain ⟨h0, -⟩ := hs
                            replace h0 : ρ (.tmp 24) = .int .i64 ((m : Int)) := h0
                            go_simp
                            exact ⟨Ext.refl _, rfl⟩
                          · intro ρ W ⟨kc, kg, kf⟩ hF hs
                            obtain ⟨h0, h1, -⟩ := hs
                            replace h0 : ρ (.tmp 289) = .slice (some ⟨jb, jo, none⟩) n cj := h0
                            replace h1 : ρ (.tmp 290) = .int .i64 ((m : Int)) := h1
                            have hb1 : (m : Int) < (n : Int) := by omega
                            have hb3 : (0 : Int) ≤ (m : Int) := by omega
                            have hb4 : ((m : Int)).toNat = m := by omega
                            have hb8 : m < n := by omega
                            go_simp
                            exact ⟨Ext.refl _, rfl⟩
                          · intro ρ W ⟨kc, kg, kf⟩ hF hs
                            obtain ⟨h0, -⟩ := hs
                            replace h0 : ρ (.tmp 291) = .pointer (some ⟨jb, jo + m, none⟩) := h0
                            have hc0 : W.cell? ⟨jb, jo + m, none⟩ = some (.int .i64 (a)) := hF.cell (by assumption)
                            go_simp
                            exact ⟨Ext.refl _, rfl⟩
                          · intro ρ W ⟨kc, kg, kf⟩ hF hs
                            obtain ⟨h0, h1, -⟩ := hs
                            replace h0 : ρ (.tmp 287) = .agg #[.int .i64 L, .slice Js 1 cs, .slice Ks 1 ds] := h0
                            replace h1 : ρ (.tmp 292) = .int .i64 (a) := h1
                            go_simp
                            refine (HQU.out _ _ _ _ _ (RJs.out.ext hF) (RKs.out.ext hF)).mono ?_; rintro e w' ⟨rfl, hx⟩; exact ⟨_, rfl, hx, rfl⟩
                          · intro ρ W ⟨kc, kg, kf⟩ hF hs
                            obtain ⟨h0, -⟩ := hs
                            replace h0 : ρ (.tmp 293) = .tuple #[.agg #[.int .i64 u1, .int .i64 u2], .int .i64 0] := h0
                            go_simp
                            exact ⟨Ext.refl _, rfl⟩
                          · intro ρ W ⟨kc, kg, kf⟩ hF hs
                            obtain ⟨h0, -⟩ := hs
                            replace h0 : ρ (.tmp 286) = .tuple #[.agg #[.int .i64 u1, .int .i64 u2], .int .i64 0] := h0
                            go_simp
                            exact ⟨Ext.refl _, rfl⟩
                          · refine ⟨rfl, fun ρ W ⟨kc, kg, kf⟩ hF hs W' => ?_⟩
                            obtain ⟨h0, -⟩ := hs
                            replace h0 : ρ (.tmp 286) = .tuple #[.agg #[.int .i64 u1, .int .i64 u2], .int .i64 0] := h0
                            go_simp
                          · intro ρ W ⟨kc, kg, kf⟩ hF hs
                            exact ⟨W.alloc (.cells #[.int .i64 0, .int .i64 0] 33), (by go_simp), by simp, Ext.alloc _ _, _, rfl, hF.size, Blk.new _ _ _⟩
                          · refine ⟨rfl, fun ρ W ⟨kc, kg, kf⟩ hF hs W' => ?_⟩
                            obtain ⟨h0, -⟩ := hs
                            replace h0 : ρ (.tmp 295) = .int .i64 (0) := h0
                            go_simp
                        · intro fv U hF hs hap σ hσ ρ ⟨kc, kg, kf⟩ hr
                          obtain ⟨-, -, -, -, -, -, -, -, h294, h295, h30, h31, -⟩ := hs
                          replace h294 : fv 294 = .agg #[.int .i64 u1, .int .i64 u2] := h294
                          replace h295 : fv 295 = .int .i64 (0) := h295
                          replace h30 : (NewP V32.heap.size 33 #[.int .i64 0, .int .i64 0]) (fv 30) U := h30
                          replace h31 : fv 31 = .int .i64 (0) := h31
                          obtain ⟨r0, r1, -⟩ := hr
                          replace r0 : ρ (.tmp 30) = fv 30 := r0
                          replace r1 : ρ (.tmp 294) = .agg #[.int .i64 u1, .int .i64 u2] := r1.trans h294
                          obtain ⟨q30, hq30, hqs30, hb30⟩ := h30
                          rw [hq30] at r0
                          have f30_0 := hb30.free 0
                          have c30_0 : U.cell? ⟨q30, 0, none⟩ = some (.int .i64 0) := hb30.cell 0
                          have f30_1 := hb30.free 1
                          have c30_1 : U.cell? ⟨q30, 1, none⟩ = some (.int .i64 0) := hb30.cell 1
                          refine stores_one _ rfl hσ ((U.setCell ⟨q30, 0, none⟩ (.int .i64 u1)).setCell ⟨q30, 1, none⟩ (.int .i64 u2)) (by go_simp) ?_
                          obtain ⟨V33, hV33⟩ : ∃ Vx, Vx = (U.setCell ⟨q30, 0, none⟩ (.int .i64 u1)).setCell ⟨q30, 1, none⟩ (.int .i64 u2) := ⟨_, rfl⟩
                          rw [← hV33]
                          have K30 := Lib.hid (show Blk V33 q30 33 #[.int .i64 u1, .int .i64 u2] by rw [hV33]; exact (hb30.setSame 0 _).setSame 1 _)
                          have XN := Lib.hid (show Ext V32 V33 by rw [hV33]; exact Ext.set (Ext.set hF (by dsimp only; exact hqs30) _) (by dsimp only; exact hqs30) _)
                          have L30 := Lib.hid hqs30
                          clear f30_0 c30_0 f30_1 c30_1
                          clear hV33 hF hap hσ r0 r1 kc kg kf hb30 hqs30
                          simp only [fin, List.filterMap]
                          go_simp
                          try rw [hq30]
                          clear hq30
                          clear ρ σ h294 h295 h31
                          have hx := XN.out
                          have XLAST := Lib.hid hx
                          replace X := Lib.hid (X.out.trans hx)
                          replace Ky0 := Lib.hid (Ky0.out.ext hx)
                          replace Ky9 := Lib.hid (Ky9.out.ext hx)
                          replace Ky26 := Lib.hid (Ky26.out.ext hx)
                          replace Ky27 := Lib.hid (Ky27.out.ext hx)
                          replace Ky28 := Lib.hid (Ky28.out.ext hx)
                          replace RB1 := Lib.hid (RB1.out.ext hx)
                          replace RJp := Lib.hid (RJp.out.ext hx)
                          replace RKp := Lib.hid (RKp.out.ext hx)
                          replace RJs := Lib.hid (RJs.out.ext hx)
                          replace RKs := Lib.hid (RKs.out.ext hx)
                          clear hx y0_0 y0_1 y0_2 y9_0 y9_1 y9_2 y26_0 y26_1 y26_2 y27_0 y27_1 y27_2 y28_0 y28_1
                          have Ky30 := K30
                          clear K30 XN L30
                          have y0_0 : V33.cell? ⟨w.heap.size, 0, none⟩ = some (.int .i64 L) := Ky0.out.cell 0
                          have y0_1 : V33.cell? ⟨w.heap.size, 1, none⟩ = some (.slice (some ⟨jb, jo, none⟩) n cj) := Ky0.out.cell 1
                          have y0_2 : V33.cell? ⟨w.heap.size, 2, none⟩ = some (.slice K n ck) := Ky0.out.cell 2
                          have y9_0 : V33.cell? ⟨q9, 0, none⟩ = some (.int .i64 L) := Ky9.out.cell 0
                          have y9_1 : V33.cell? ⟨q9, 1, none⟩ = some (.slice J1 n cj1) := Ky9.out.cell 1
                          have y9_2 : V33.cell? ⟨q9, 2, none⟩ = some (.slice (some ⟨rb, ro, none⟩) n ck1) := Ky9.out.cell 2
                          have y26_0 : V33.cell? ⟨q26, 0, none⟩ = some (.int .i64 L) := Ky26.out.cell 0
                          have y26_1 : V33.cell? ⟨q26, 1, none⟩ = some (.slice Jp 1 cp) := Ky26.out.cell 1
                          have y26_2 : V33.cell? ⟨q26, 2, none⟩ = some (.slice Kp 1 dp) := Ky26.out.cell 2
                          have y27_0 : V33.cell? ⟨q27, 0, none⟩ = some (.int .i64 L) := Ky27.out.cell 0
                          have y27_1 : V33.cell? ⟨q27, 1, none⟩ = some (.slice Js 1 cs) := Ky27.out.cell 1
                          have y27_2 : V33.cell? ⟨q27, 2, none⟩ = some (.slice Ks 1 ds) := Ky27.out.cell 2
                          have y28_0 : V33.cell? ⟨q28, 0, none⟩ = some (.int .i64 u1) := Ky28.out.cell 0
                          have y28_1 : V33.cell? ⟨q28, 1, none⟩ = some (.int .i64 u2) := Ky28.out.cell 1
                          have y30_0 : V33.cell? ⟨q30, 0, none⟩ = some (.int .i64 u1) := Ky30.out.cell 0
                          have y30_1 : V33.cell? ⟨q30, 1, none⟩ = some (.int .i64 u2) := Ky30.out.cell 1
                          go_wp2
                          go_roundw
                          case rel => exact ⟨q + 1, by omega, by go_num, X.out, Ky0.out, Ky9.out, RB1.out⟩
                          case measure => simp [intOf]; omega
                · obtain rfl : m = q := by omega
                  have hqn : ¬ (m : Int) < (m : Int) := by omega
                  go_wp2
                  go_roundw
                  case rel => exact ⟨m + 1, by omega, by go_num, X.out, Ky0.out, Ky9.out, RB1.out⟩
                  case measure => simp [intOf]; omega
            · obtain rfl : n = m := by omega
              have hmn : ¬ (n : Int) < (n : Int) := by omega
              have y0_0 : wr.cell? ⟨w.heap.size, 0, none⟩ = some (.int .i64 L) := Ky0.out.cell 0
              have y0_1 : wr.cell? ⟨w.heap.size, 1, none⟩ = some (.slice J n cj) := Ky0.out.cell 1
              have y0_2 : wr.cell? ⟨w.heap.size, 2, none⟩ = some (.slice K n ck) := Ky0.out.cell 2
              go_wp2
              go_ret
              exact ⟨rfl, X.out⟩

end Go.Proofs.Ytjdilmmpdlcimaa
