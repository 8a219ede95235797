/- DistortRelieved where all is valid. -/
import Derived.Test.YtjdilmmpdlcimaaL4
import Derived.Lib.MinMax
import Derived.Deep.DeepCutAuto
import Derived.BigQuiet
import Derived.Laws.StructEq

namespace Go.Proofs.Ytjdilmmpdlcimaa
open Go.RowKit Go.Shelf Go.Mem Go.RegInv
attribute [local go_sem] RelUpon_value RelUpon_skip RelUpon_enter BigFrame.eval_const BigFrame.eval_global BigFrame.eval_func


theorem rlE_ok {L : Int} {js : List Int} {ks : List Rg} {p : Rg} (h : (checkS L js ks).2 = 0) (hp : 0 ≤ p.1 ∧ p.1 ≤ p.2 ∧ p.2 ≤ 1000) : rlE L js ks p = 0 := by
  unfold rlE
  rw [h, if_neg (by decide), endsE_if, if_pos (by omega), if_pos (by omega), if_neg (by omega)]
theorem relL_at {ks : List Rg} {p : Rg} {n k : Nat} (h : k < n) : (relL ks p n).getD k default = relV (ks.getD k default) p := by simp [relL, kinkL, h]
theorem relL_same {ks : List Rg} {n : Nat} (h : ks.length = n) (hk : ∀ k, k < n → (ks.getD k default).1 ≤ (ks.getD k default).2) : relL ks (0, 0) n = ks := by
  apply List.ext_getElem?
  intro i
  by_cases hi : i < n
  · have h1 : (relL ks (0, 0) n)[i]? = some (relV (ks.getD i default) (0, 0)) := by simp [relL, kinkL, hi]
    rw [h1, relV_same (hk i hi)]
    simp [show i < ks.length by omega]
  · rw [List.getElem?_eq_none (by simp [relL, kinkL]; omega), List.getElem?_eq_none (by omega)]
set_option maxRecDepth 100000 in
set_option maxHeartbeats 4000000 in
theorem rel_ok {L : Int} {J K : Option Addr} {n cj ck : Nat} {js : List Int} {ks : List Rg} {w : World} (hn : js.length = n) (hJ : RowsAt 1 I1 w J js) (hm : ks.length = n) (hK : RowsAt 2 Rg.enc w K ks) {p1 p2 : Int} (hjn : J = none → cj = 0) (hkn : K = none → ck = 0) (hz : (checkS L js ks).2 = 0) (hp : 0 ≤ p1 ∧ p1 ≤ p2 ∧ p2 ≤ 1000) :
    Calls Try.prog 5 #[.agg #[.int .i64 L, .slice J n cj, .slice K n ck], .agg #[.int .i64 p1, .int .i64 p2]] w fun e w' => e = .returned (.bool true) ∧ Ext w w' := by
  have hs := checkS_ok hz
  have hn4 : n ≤ 4 := by have := hs.four; omega
  have hkk : ∀ k, k < n → -100000 ≤ (ks.getD k default).1 ∧ (ks.getD k default).1 ≤ (ks.getD k default).2 ∧ (ks.getD k default).2 ≤ 100000 := fun k h => hs.kink k (by omega)
  have HJ1 := Lib.hid (fun i (hi : i < js.length) => show 1 ≤ js.getD i 0 from (hs.at' i hi).1)
  have HCP := Lib.hid (fun W (e : Ext w W) => copyShaft_any (L := L) (cj := cj) (ck := ck) hn (hJ.ext e) hm (hK.ext e) hjn hkn (by omega) (by omega))
  have HSE := Lib.hid (fun W (e : Ext w W) => show Calls Try.prog 27 #[.agg #[.int .i64 L, .slice J n cj, .slice K n ck]] W fun e w' => e = .returned (.int .i64 0) ∧ Ext W w' from by have := refShaftErr_any (cj := cj) (ck := ck) (L := L) hn (hJ.ext e) hm (hK.ext e); rw [hz] at this; exact this)
  have HPA := Lib.hid (fun W => show Calls Try.prog 30 #[.agg #[.int .i64 p1, .int .i64 p2]] W fun e w' => e = .returned (.int .i64 0) ∧ Ext W w' from by have := partsErr_any p1 p2 W; rw [endsE_if, if_pos (by dsimp only; omega), if_pos (by dsimp only; omega), if_neg (by dsimp only; omega)] at this; exact this)
  have HRL := Lib.hid (fun W J1 c1 K1 d1 (r1 : RowsAt 1 I1 W J1 js) (s1 : RowsAt 2 Rg.enc W K1 ks) (n1 : J1 = none → c1 = 0) => show Calls Try.prog 29 #[.agg #[.int .i64 L, .slice J1 n c1, .slice K1 n d1], .agg #[.int .i64 p1, .int .i64 p2]] W fun e w' => ∃ v, e = .returned (.tuple #[v, .int .i64 0]) ∧ CopS L js (relL ks (p1, p2) n) n n v w' ∧ Ext W w' from by
    have h := relieved29_any (L := L) (ck := d1) (p1 := p1) (p2 := p2) hn r1 hm s1 n1
    rw [rlE_ok hz (by omega)] at h
    refine h.mono ?_
    rintro e w' ⟨v, h1, h2, h3⟩
    rw [AftV, if_pos rfl] at h2
    exact ⟨v, h1, h2, h3⟩)
  have HRZ := Lib.hid (fun W J1 c1 K1 d1 (r1 : RowsAt 1 I1 W J1 js) (s1 : RowsAt 2 Rg.enc W K1 ks) (n1 : J1 = none → c1 = 0) => show Calls Try.prog 29 #[.agg #[.int .i64 L, .slice J1 n c1, .slice K1 n d1], .agg #[.int .i64 0, .int .i64 0]] W fun e w' => ∃ v, e = .returned (.tuple #[v, .int .i64 0]) ∧ CopS L js ks n n v w' ∧ Ext W w' from by
    have h := relieved29_any (L := L) (ck := d1) (p1 := 0) (p2 := 0) hn r1 hm s1 n1
    rw [rlE_ok hz (by omega)] at h
    refine h.mono ?_
    rintro e w' ⟨v, h1, h2, h3⟩
    rw [AftV, if_pos rfl, relL_same hm (fun k h => (hkk k h).2.1)] at h2
    exact ⟨v, h1, h2, h3⟩)
  have HRN := Lib.hid (fun W J1 c1 K1 d1 (r1 : RowsAt 1 I1 W J1 js) (s1 : RowsAt 2 Rg.enc W K1 ks) (n1 : J1 = none → c1 = 0) => show Calls Try.prog 29 #[.agg #[.int .i64 L, .slice J1 n c1, .slice K1 n d1], .agg #[.int .i64 1000, .int .i64 1000]] W fun e w' => ∃ v, e = .returned (.tuple #[v, .int .i64 0]) ∧ CopS L js (relL ks (1000, 1000) n) n n v w' ∧ Ext W w' from by
    have h := relieved29_any (L := L) (ck := d1) (p1 := 1000) (p2 := 1000) hn r1 hm s1 n1
    rw [rlE_ok hz (by omega)] at h
    refine h.mono ?_
    rintro e w' ⟨v, h1, h2, h3⟩
    rw [AftV, if_pos rfl] at h2
    exact ⟨v, h1, h2, h3⟩)
  have HRR := Lib.hid (fun W (e : Ext w W) => refRel_any (L := L) (cj := cj) (ck := ck) hn (hJ.ext e) hm (hK.ext e) hjn hkn hs hp)
  have HIN := Lib.hid (fun k (h : k < n) => show min 0 (ks.getD k default).1 ≤ ((relL ks (p1, p2) n).getD k default).1 ∧ ((relL ks (p1, p2) n).getD k default).2 ≤ max 0 (ks.getD k default).2 ∧ ((relL ks (p1, p2) n).getD k default).1 ≤ ((relL ks (p1, p2) n).getD k default).2 from by rw [relL_at h]; exact relV_in (hkk k h).2.1 hp)
  have HZN := Lib.hid (fun k (h : k < n) => show (relL ks (1000, 1000) n).getD k default = (0, 0) from by rw [relL_at h]; exact relV_none _)
  have HAL := Lib.hid (show (relL ks (p1, p2) n).length = n by simp [relL, kinkL])
  have HZL := Lib.hid (show (relL ks (1000, 1000) n).length = n by simp [relL, kinkL])
  generalize relL ks (p1, p2) n = ak at *
  generalize relL ks (1000, 1000) n = zn at *
  have HSA := Lib.hid (fun W Jr cr Kr dr J3 c3 K3 d3 (a1 : RowsAt 1 I1 W Jr js) (a2 : RowsAt 2 Rg.enc W Kr ak) (a3 : RowsAt 1 I1 W J3 js) (a4 : RowsAt 2 Rg.enc W K3 ak) => show Calls Try.prog 31 #[.agg #[.int .i64 L, .slice Jr n cr, .slice Kr n dr], .agg #[.int .i64 L, .slice J3 n c3, .slice K3 n d3]] W fun e w' => e = .returned (.bool true) ∧ Ext W w' from (same_any hn a1 HAL.out a2 hn a3 HAL.out a4).mono (by rintro e w' ⟨b, rfl, hb, hx⟩; exact ⟨by rw [hb.2 ⟨rfl, rfl, rfl⟩], hx⟩))
  have HSB := Lib.hid (fun W Js cs Ks ds (a1 : RowsAt 1 I1 W Js js) (a2 : RowsAt 2 Rg.enc W Ks ks) (a3 : RowsAt 1 I1 W J js) (a4 : RowsAt 2 Rg.enc W K ks) => show Calls Try.prog 31 #[.agg #[.int .i64 L, .slice Js n cs, .slice Ks n ds], .agg #[.int .i64 L, .slice J n cj, .slice K n ck]] W fun e w' => e = .returned (.bool true) ∧ Ext W w' from (same_any hn a1 hm a2 hn a3 hm a4).mono (by rintro e w' ⟨b, rfl, hb, hx⟩; exact ⟨by rw [hb.2 ⟨rfl, rfl, rfl⟩], hx⟩))
  have HN2 := Lib.hid hn
  have HM2 := Lib.hid hm
  have HJ := Lib.hid hJ
  have HK := Lib.hid hK
  have HFEW := Lib.hid (fun W => show Calls Try.prog 14 #[.agg #[.int .i64 L, .slice J n cj, .slice K n ck]] W fun e w' => e = .returned (.bool true) ∧ Ext W w' from by have := few_any (L := L) (J := J) (K := K) (n := n) (m := n) (cj := cj) (ck := ck) W (by unfold maxLen; omega) (by unfold maxLen; omega); rw [show few2 n n = true by simp [few2]; omega] at this; exact this)
  clear hn hJ hm hK hjn hkn hz hs hkk hp
  obtain ⟨W0, hW0⟩ : ∃ W0, W0 = (w.alloc (.cells #[.int .i64 L, .slice J n cj, .slice K n ck] 25)).alloc (.cells #[.int .i64 p1, .int .i64 p2] 33) := ⟨_, rfl⟩
  have Ky0 := Lib.hid (show Blk W0 (w.heap.size) 25 #[.int .i64 L, .slice J n cj, .slice K n ck] by rw [hW0]; exact (Blk.new _ _ _).alloc _)
  have Ky1 := Lib.hid (show Blk W0 (w.heap.size + 1) 33 #[.int .i64 p1, .int .i64 p2] by rw [hW0]; exact Blk.newAt _ _ _ (by simp))
  have X := Lib.hid (show Ext w W0 by rw [hW0]; exact (Ext.alloc _ _).trans (Ext.alloc _ _))
  have y0_0 : W0.cell? ⟨w.heap.size, 0, none⟩ = some (.int .i64 L) := Ky0.out.cell 0
  have y0_1 : W0.cell? ⟨w.heap.size, 1, none⟩ = some (.slice J n cj) := Ky0.out.cell 1
  have y0_2 : W0.cell? ⟨w.heap.size, 2, none⟩ = some (.slice K n ck) := Ky0.out.cell 2
  have y1_0 : W0.cell? ⟨w.heap.size + 1, 0, none⟩ = some (.int .i64 p1) := Ky1.out.cell 0
  have y1_1 : W0.cell? ⟨w.heap.size + 1, 1, none⟩ = some (.int .i64 p2) := Ky1.out.cell 1
  go_enter Try.func5, Try.ntmps5
  go_upto_region 1 with (fail)
  rw [← hW0]
  clear hW0
  go_wp2_with (go_at_call 13; refine (awake_any _).mono ?_; rintro e W1 ⟨rfl, hx⟩; replace X := Lib.hid (X.out.trans hx); replace Ky0 := Lib.hid (Ky0.out.ext hx); replace Ky1 := Lib.hid (Ky1.out.ext hx); clear hx y0_0 y0_1 y0_2 y1_0 y1_1; refine Hid.out ?_)
  refine Lib.hid ?_
  have y0_0 : W1.cell? ⟨w.heap.size, 0, none⟩ = some (.int .i64 L) := Ky0.out.cell 0
  have y0_1 : W1.cell? ⟨w.heap.size, 1, none⟩ = some (.slice J n cj) := Ky0.out.cell 1
  have y0_2 : W1.cell? ⟨w.heap.size, 2, none⟩ = some (.slice K n ck) := Ky0.out.cell 2
  have y1_0 : W1.cell? ⟨w.heap.size + 1, 0, none⟩ = some (.int .i64 p1) := Ky1.out.cell 0
  have y1_1 : W1.cell? ⟨w.heap.size + 1, 1, none⟩ = some (.int .i64 p2) := Ky1.out.cell 1
  go_wp2_with (go_at_call 14; refine (HFEW.out _).mono ?_; rintro e W2 ⟨rfl, hx⟩; replace X := Lib.hid (X.out.trans hx); replace Ky0 := Lib.hid (Ky0.out.ext hx); replace Ky1 := Lib.hid (Ky1.out.ext hx); clear hx y0_0 y0_1 y0_2 y1_0 y1_1; refine Hid.out ?_)
  refine Lib.hid ?_
  have y0_0 : W2.cell? ⟨w.heap.size, 0, none⟩ = some (.int .i64 L) := Ky0.out.cell 0
  have y0_1 : W2.cell? ⟨w.heap.size, 1, none⟩ = some (.slice J n cj) := Ky0.out.cell 1
  have y0_2 : W2.cell? ⟨w.heap.size, 2, none⟩ = some (.slice K n ck) := Ky0.out.cell 2
  have y1_0 : W2.cell? ⟨w.heap.size + 1, 0, none⟩ = some (.int .i64 p1) := Ky1.out.cell 0
  have y1_1 : W2.cell? ⟨w.heap.size + 1, 1, none⟩ = some (.int .i64 p2) := Ky1.out.cell 1
  clear HFEW
  go_upto_region 5 with (fail)
  refine wp_region_free [.op, .op, .op, .op, .op, .op, .late (.int .i64 (0)), .new, .store, .late (.int .i64 (0))] [8] [5, 25] [5] [some 21, some 22, some 23, some 24, some 20, some 25, some 26, some 5, none, some 6] [[2], [21], [3], [22, 23], [24], [20], [20], [], [5, 25], [26]]
    [Is (.agg #[.int .i64 L, .slice J n cj, .slice K n ck]), CopS L js ks n n, Is (.agg #[.int .i64 (p1), .int .i64 (p2)]), AftT L js ak n, AftT L js ak n, CopS L js ak n n, Is (.int .i64 (0)), NewP W2.heap.size 25 #[.int .i64 0, .slice none 0 0, .slice none 0 0], fun _ _ => True, Is (.int .i64 (0))]
    (by kernel_rfl) (by kernel_rfl) (by kernel_rfl) (by kernel_rfl) (by kernel_rfl) (by kernel_rfl) (by kernel_rfl) (by kernel_rfl) (by kernel_rfl) Ext (fun W => Ext W2 W)
    (fun W _ => Ext.refl W) (fun W W' h k => h.trans k) (fun W W' h => h.size) ?_ (Ext.drew _) ?_ ?_
  · repeat (refine ⟨fun _ _ _ _ k h => (by first | exact h | exact (by first | exact IntsAt.ext h k | exact NewP.ext h k | exact CopS.ext h k | exact CopP.ext h k | exact CopL.ext h k | exact AftT.ext h k)), ?_⟩)
    exact trivial
  · refine ⟨?_, ?_, ?_, ?_, ?_, ?_, ?_, ?_, ?_, trivial⟩
    · intro ρ W ⟨kc, kg, kf⟩ hF hs
      obtain ⟨h0, -⟩ := hs
      replace h0 : ρ (.tmp 2) = .pointer (some ⟨w.heap.size, 0, none⟩) := h0
      have hc0 : W.cell? ⟨w.heap.size, 0, none⟩ = some (.int .i64 L) := hF.cell (by assumption)
      have hc1 : W.cell? ⟨w.heap.size, 1, none⟩ = some (.slice J n cj) := hF.cell (by assumption)
      have hc2 : W.cell? ⟨w.heap.size, 2, none⟩ = some (.slice K n ck) := hF.cell (by assumption)
      go_simp
      exact ⟨Ext.refl _, rfl⟩
    · intro ρ W ⟨kc, kg, kf⟩ hF hs
      obtain ⟨h0, -⟩ := hs
      replace h0 : ρ (.tmp 21) = .agg #[.int .i64 L, .slice J n cj, .slice K n ck] := h0
      go_simp
      refine (HCP.out _ (X.out.trans hF)).mono ?_; rintro e w' ⟨v, rfl, hc, hx⟩; exact ⟨_, rfl, hx, CopS.of hc⟩
    · intro ρ W ⟨kc, kg, kf⟩ hF hs
      obtain ⟨h0, -⟩ := hs
      replace h0 : ρ (.tmp 3) = .pointer (some ⟨w.heap.size + 1, 0, none⟩) := h0
      have hc0 : W.cell? ⟨w.heap.size + 1, 0, none⟩ = some (.int .i64 (p1)) := hF.cell (by assumption)
      have hc1 : W.cell? ⟨w.heap.size + 1, 1, none⟩ = some (.int .i64 (p2)) := hF.cell (by assumption)
      go_simp
      exact ⟨Ext.refl _, rfl⟩
    · intro ρ W ⟨kc, kg, kf⟩ hF hs
      obtain ⟨h0, h1, -⟩ := hs
      replace h0 : (CopS L js ks n n) (ρ (.tmp 22)) W := h0
      replace h1 : ρ (.tmp 23) = .agg #[.int .i64 (p1), .int .i64 (p2)] := h1
      obtain ⟨J1, c1, K1, d1, e1, r1, s1, n1, m1⟩ := h0
      replace e1 : ρ (.tmp 22) = .agg #[.int .i64 L, .slice J1 n c1, .slice K1 n d1] := e1
      go_simp
      refine (HRL.out _ J1 c1 K1 d1 r1 s1 n1).mono ?_; rintro e w' ⟨v, rfl, hv, hx⟩; exact ⟨_, rfl, hx, v, rfl, hv⟩
    · intro ρ W ⟨kc, kg, kf⟩ hF hs
      obtain ⟨h0, -⟩ := hs
      replace h0 : (AftT L js ak n) (ρ (.tmp 24)) W := h0
      go_simp
      first | exact ⟨Ext.refl _, h0⟩ | exact Ext.refl _
    · intro ρ W ⟨kc, kg, kf⟩ hF hs
      obtain ⟨h0, -⟩ := hs
      replace h0 : (AftT L js ak n) (ρ (.tmp 20)) W := h0
      obtain ⟨v, hv, hc⟩ := h0
      replace hv : ρ (.tmp 20) = .tuple #[v, .int .i64 0] := hv
      go_simp
      first | exact ⟨Ext.refl _, hc⟩ | exact Ext.refl _
    · refine ⟨rfl, fun ρ W ⟨kc, kg, kf⟩ hF hs W' => ?_⟩
      obtain ⟨h0, -⟩ := hs
      replace h0 : (AftT L js ak n) (ρ (.tmp 20)) W := h0
      obtain ⟨v, hv, hc⟩ := h0
      replace hv : ρ (.tmp 20) = .tuple #[v, .int .i64 0] := hv
      go_simp
    · intro ρ W ⟨kc, kg, kf⟩ hF hs
      exact ⟨W.alloc (.cells #[.int .i64 0, .slice none 0 0, .slice none 0 0] 25), (by go_simp), by simp, Ext.alloc _ _, _, rfl, hF.size, Blk.new _ _ _⟩
    · refine ⟨rfl, fun ρ W ⟨kc, kg, kf⟩ hF hs W' => ?_⟩
      obtain ⟨h0, -⟩ := hs
      replace h0 : ρ (.tmp 26) = .int .i64 (0) := h0
      go_simp
  · intro fv U hF hs hap σ hσ ρ ⟨kc, kg, kf⟩ hr
    obtain ⟨-, -, -, -, -, h25, h26, h5, h6, -⟩ := hs
    replace h25 : (CopS L js ak n n) (fv 25) U := h25
    replace h26 : fv 26 = .int .i64 (0) := h26
    replace h5 : (NewP W2.heap.size 25 #[.int .i64 0, .slice none 0 0, .slice none 0 0]) (fv 5) U := h5
    replace h6 : fv 6 = .int .i64 (0) := h6
    obtain ⟨r0, r1, -⟩ := hr
    replace r0 : ρ (.tmp 5) = fv 5 := r0
    replace r1 : ρ (.tmp 25) = fv 25 := r1
    obtain ⟨Jr, cr, Kr, dr, hvx, hra, hrb, hna, hnb⟩ := h25
    rw [hvx] at r1
    obtain ⟨q5, hq5, hqs5, hb5⟩ := h5
    rw [hq5] at r0
    have f5_0 := hb5.free 0
    have c5_0 : U.cell? ⟨q5, 0, none⟩ = some (.int .i64 0) := hb5.cell 0
    have f5_1 := hb5.free 1
    have c5_1 : U.cell? ⟨q5, 1, none⟩ = some (.slice none 0 0) := hb5.cell 1
    have f5_2 := hb5.free 2
    have c5_2 : U.cell? ⟨q5, 2, none⟩ = some (.slice none 0 0) := hb5.cell 2
    refine stores_one _ rfl hσ (((U.setCell ⟨q5, 0, none⟩ (.int .i64 L)).setCell ⟨q5, 1, none⟩ (.slice Jr n cr)).setCell ⟨q5, 2, none⟩ (.slice Kr n dr)) (by go_simp) ?_
    obtain ⟨V1, hV1⟩ : ∃ Vx, Vx = ((U.setCell ⟨q5, 0, none⟩ (.int .i64 L)).setCell ⟨q5, 1, none⟩ (.slice Jr n cr)).setCell ⟨q5, 2, none⟩ (.slice Kr n dr) := ⟨_, rfl⟩
    rw [← hV1]
    have K5 := Lib.hid (show Blk V1 q5 25 #[.int .i64 L, .slice Jr n cr, .slice Kr n dr] by rw [hV1]; exact ((hb5.setSame 0 _).setSame 1 _).setSame 2 _)
    have XN := Lib.hid (show Ext W2 V1 by rw [hV1]; exact Ext.set (Ext.set (Ext.set hF (by dsimp only; exact hqs5) _) (by dsimp only; exact hqs5) _) (by dsimp only; exact hqs5) _)
    have L5 := Lib.hid hqs5
    have RJr := Lib.hid (show RowsAt 1 I1 V1 Jr js by rw [hV1]; exact keepJ hra hb5 HJ1.out _ _ _)
    have RKr := Lib.hid (show RowsAt 2 Rg.enc V1 Kr ak by rw [hV1]; exact keepK hrb hb5 _ _ _)
    clear hra hrb hna hnb hvx
    clear f5_0 c5_0 f5_1 c5_1 f5_2 c5_2
    clear hV1 hF hap hσ r0 r1 kc kg kf hb5 hqs5
    simp only [fin, List.filterMap]
    go_simp
    try rw [hq5]
    clear hq5
    clear ρ σ h26 h6
    have hx := XN.out
    replace X := Lib.hid (X.out.trans hx)
    replace Ky0 := Lib.hid (Ky0.out.ext hx)
    replace Ky1 := Lib.hid (Ky1.out.ext hx)
    clear hx y0_0 y0_1 y0_2 y1_0 y1_1
    have Ky5 := K5
    clear K5 XN L5 HRL
    have y0_0 : V1.cell? ⟨w.heap.size, 0, none⟩ = some (.int .i64 L) := Ky0.out.cell 0
    have y0_1 : V1.cell? ⟨w.heap.size, 1, none⟩ = some (.slice J n cj) := Ky0.out.cell 1
    have y0_2 : V1.cell? ⟨w.heap.size, 2, none⟩ = some (.slice K n ck) := Ky0.out.cell 2
    have y1_0 : V1.cell? ⟨w.heap.size + 1, 0, none⟩ = some (.int .i64 p1) := Ky1.out.cell 0
    have y1_1 : V1.cell? ⟨w.heap.size + 1, 1, none⟩ = some (.int .i64 p2) := Ky1.out.cell 1
    have y5_0 : V1.cell? ⟨q5, 0, none⟩ = some (.int .i64 L) := Ky5.out.cell 0
    have y5_1 : V1.cell? ⟨q5, 1, none⟩ = some (.slice Jr n cr) := Ky5.out.cell 1
    have y5_2 : V1.cell? ⟨q5, 2, none⟩ = some (.slice Kr n dr) := Ky5.out.cell 2
    go_wp2_with (go_at_call 27; refine (HSE.out _ X.out).mono ?_; rintro e W3 ⟨rfl, hx⟩; replace X := Lib.hid (X.out.trans hx); replace Ky0 := Lib.hid (Ky0.out.ext hx); replace Ky1 := Lib.hid (Ky1.out.ext hx); replace Ky5 := Lib.hid (Ky5.out.ext hx); replace RJr := Lib.hid (RJr.out.ext hx); replace RKr := Lib.hid (RKr.out.ext hx); clear hx y0_0 y0_1 y0_2 y1_0 y1_1 y5_0 y5_1 y5_2; refine Hid.out ?_)
    refine Lib.hid ?_
    have y0_0 : W3.cell? ⟨w.heap.size, 0, none⟩ = some (.int .i64 L) := Ky0.out.cell 0
    have y0_1 : W3.cell? ⟨w.heap.size, 1, none⟩ = some (.slice J n cj) := Ky0.out.cell 1
    have y0_2 : W3.cell? ⟨w.heap.size, 2, none⟩ = some (.slice K n ck) := Ky0.out.cell 2
    have y1_0 : W3.cell? ⟨w.heap.size + 1, 0, none⟩ = some (.int .i64 p1) := Ky1.out.cell 0
    have y1_1 : W3.cell? ⟨w.heap.size + 1, 1, none⟩ = some (.int .i64 p2) := Ky1.out.cell 1
    have y5_0 : W3.cell? ⟨q5, 0, none⟩ = some (.int .i64 L) := Ky5.out.cell 0
    have y5_1 : W3.cell? ⟨q5, 1, none⟩ = some (.slice Jr n cr) := Ky5.out.cell 1
    have y5_2 : W3.cell? ⟨q5, 2, none⟩ = some (.slice Kr n dr) := Ky5.out.cell 2
    go_wp2_with (go_at_call 30; refine (HPA.out _).mono ?_; rintro e W4 ⟨rfl, hx⟩; replace X := Lib.hid (X.out.trans hx); replace Ky0 := Lib.hid (Ky0.out.ext hx); replace Ky1 := Lib.hid (Ky1.out.ext hx); replace Ky5 := Lib.hid (Ky5.out.ext hx); replace RJr := Lib.hid (RJr.out.ext hx); replace RKr := Lib.hid (RKr.out.ext hx); clear hx y0_0 y0_1 y0_2 y1_0 y1_1 y5_0 y5_1 y5_2; refine Hid.out ?_)
    refine Lib.hid ?_
    have y0_0 : W4.cell? ⟨w.heap.size, 0, none⟩ = some (.int .i64 L) := Ky0.out.cell 0
    have y0_1 : W4.cell? ⟨w.heap.size, 1, none⟩ = some (.slice J n cj) := Ky0.out.cell 1
    have y0_2 : W4.cell? ⟨w.heap.size, 2, none⟩ = some (.slice K n ck) := Ky0.out.cell 2
    have y1_0 : W4.cell? ⟨w.heap.size + 1, 0, none⟩ = some (.int .i64 p1) := Ky1.out.cell 0
    have y1_1 : W4.cell? ⟨w.heap.size + 1, 1, none⟩ = some (.int .i64 p2) := Ky1.out.cell 1
    have y5_0 : W4.cell? ⟨q5, 0, none⟩ = some (.int .i64 L) := Ky5.out.cell 0
    have y5_1 : W4.cell? ⟨q5, 1, none⟩ = some (.slice Jr n cr) := Ky5.out.cell 1
    have y5_2 : W4.cell? ⟨q5, 2, none⟩ = some (.slice Kr n dr) := Ky5.out.cell 2
    clear HSE HPA
    go_upto_region 11 with (fail)
    refine wp_region_eachG [(45, false), (45, false), (45, false), (45, false), (45, false), (45, false)] [some 43, some 44, some 45, some 46, some 47, some 48, some 49, some 50, some 51, some 52] [[6], [43], [44], [5, 45], [2, 45], [3, 45], [47, 48, 45], [46, 49, 45], [50, 45], [45, 51]]
      [Is (.int .i64 (0)), Is (.bool (false)), Is (.bool (false)), Is (.agg #[.int .i64 (L), .slice Jr n cr, .slice Kr n dr]), Is (.agg #[.int .i64 L, .slice J n cj, .slice K n ck]), Is (.agg #[.int .i64 (p1), .int .i64 (p2)]), CopS L js ak n n, Is (.bool (true)), Is (.bool (false)), Is (.bool (false))]
      (by kernel_rfl) (by kernel_rfl) (by kernel_rfl) (by kernel_rfl) (by kernel_rfl) Ext (fun W => Ext W4 W)
      (fun W _ => Ext.refl W) (fun W W' h k => h.trans k) ?_ (by intro p hp; simp only [List.mem_cons, List.not_mem_nil, or_false] at hp; rcases hp with rfl | rfl | rfl | rfl | rfl | rfl <;> exact ⟨_, rfl, fun _ _ h => h⟩) (Ext.drew _) ?_ ?_
    · repeat (refine ⟨fun _ _ _ _ k h => (by first | exact h | exact (by first | exact IntsAt.ext h k | exact NewP.ext h k | exact CopS.ext h k | exact CopP.ext h k | exact CopL.ext h k | exact AftT.ext h k)), ?_⟩)
      exact trivial
    · refine ⟨?_, ?_, ?_, ?_, ?_, ?_, ?_, ?_, ?_, ?_, trivial⟩
      all_goals intro ρ W ⟨kc, kg, kf⟩ hF hs
      · obtain ⟨h0, -⟩ := hs
        replace h0 : ρ (.tmp 6) = .int .i64 (0) := h0
        go_simp
        exact ⟨Ext.refl _, rfl⟩
      · obtain ⟨h0, -⟩ := hs
        replace h0 : ρ (.tmp 43) = .int .i64 (0) := h0
        go_simp
        exact ⟨Ext.refl _, rfl⟩
      · obtain ⟨h0, -⟩ := hs
        replace h0 : ρ (.tmp 44) = .bool (false) := h0
        go_simp
        exact ⟨Ext.refl _, rfl⟩
      · obtain ⟨h0, h1, -⟩ := hs
        replace h0 : ρ (.tmp 5) = .pointer (some ⟨q5, 0, none⟩) := h0
        replace h1 : ρ (.tmp 45) = .bool (false) := h1
        have hc0 : W.cell? ⟨q5, 0, none⟩ = some (.int .i64 (L)) := hF.cell (by assumption)
        have hc1 : W.cell? ⟨q5, 1, none⟩ = some (.slice Jr n cr) := hF.cell (by assumption)
        have hc2 : W.cell? ⟨q5, 2, none⟩ = some (.slice Kr n dr) := hF.cell (by assumption)
        go_simp
        exact ⟨Ext.refl _, rfl⟩
      · obtain ⟨h0, h1, -⟩ := hs
        replace h0 : ρ (.tmp 2) = .pointer (some ⟨w.heap.size, 0, none⟩) := h0
        replace h1 : ρ (.tmp 45) = .bool (false) := h1
        have hc0 : W.cell? ⟨w.heap.size, 0, none⟩ = some (.int .i64 L) := hF.cell (by assumption)
        have hc1 : W.cell? ⟨w.heap.size, 1, none⟩ = some (.slice J n cj) := hF.cell (by assumption)
        have hc2 : W.cell? ⟨w.heap.size, 2, none⟩ = some (.slice K n ck) := hF.cell (by assumption)
        go_simp
        exact ⟨Ext.refl _, rfl⟩
      · obtain ⟨h0, h1, -⟩ := hs
        replace h0 : ρ (.tmp 3) = .pointer (some ⟨w.heap.size + 1, 0, none⟩) := h0
        replace h1 : ρ (.tmp 45) = .bool (false) := h1
        have hc0 : W.cell? ⟨w.heap.size + 1, 0, none⟩ = some (.int .i64 (p1)) := hF.cell (by assumption)
        have hc1 : W.cell? ⟨w.heap.size + 1, 1, none⟩ = some (.int .i64 (p2)) := hF.cell (by assumption)
        go_simp
        exact ⟨Ext.refl _, rfl⟩
      · obtain ⟨h0, h1, h2, -⟩ := hs
        replace h0 : ρ (.tmp 47) = .agg #[.int .i64 L, .slice J n cj, .slice K n ck] := h0
        replace h1 : ρ (.tmp 48) = .agg #[.int .i64 (p1), .int .i64 (p2)] := h1
        replace h2 : ρ (.tmp 45) = .bool (false) := h2
        go_simp
        refine (HRR.out _ (X.out.trans hF)).mono ?_; rintro e w' ⟨v, rfl, hc, hx⟩; exact ⟨_, rfl, hx, hc⟩
      · obtain ⟨h0, h1, h2, -⟩ := hs
        replace h0 : ρ (.tmp 46) = .agg #[.int .i64 (L), .slice Jr n cr, .slice Kr n dr] := h0
        replace h1 : (CopS L js ak n n) (ρ (.tmp 49)) W := h1
        replace h2 : ρ (.tmp 45) = .bool (false) := h2
        obtain ⟨J3, c3, K3, d3, e3, r3, s3, -⟩ := h1
        replace e3 : ρ (.tmp 49) = .agg #[.int .i64 L, .slice J3 n c3, .slice K3 n d3] := e3
        go_simp
        refine (HSA.out _ Jr cr Kr dr J3 c3 K3 d3 (RJr.out.ext hF) (RKr.out.ext hF) r3 s3).mono ?_; rintro e w' ⟨rfl, hx⟩; exact ⟨_, rfl, hx, rfl⟩
      · obtain ⟨h0, h1, -⟩ := hs
        replace h0 : ρ (.tmp 50) = .bool (true) := h0
        replace h1 : ρ (.tmp 45) = .bool (false) := h1
        go_simp
        exact ⟨Ext.refl _, rfl⟩
      · obtain ⟨h0, h1, -⟩ := hs
        replace h0 : ρ (.tmp 45) = .bool (false) := h0
        replace h1 : ρ (.tmp 51) = .bool (false) := h1
        go_simp
        exact ⟨Ext.refl _, rfl⟩
    · intro fv W5 hF hs
      obtain ⟨-, -, -, -, -, -, -, -, -, h52, -⟩ := hs
      replace h52 : fv 52 = .bool (false) := h52
      simp only [fin, List.filterMap]
      go_simp
      have hx := hF
      replace X := Lib.hid (X.out.trans hx)
      replace Ky0 := Lib.hid (Ky0.out.ext hx)
      replace Ky1 := Lib.hid (Ky1.out.ext hx)
      replace Ky5 := Lib.hid (Ky5.out.ext hx)
      replace RJr := Lib.hid (RJr.out.ext hx)
      replace RKr := Lib.hid (RKr.out.ext hx)
      clear hx hF y0_0 y0_1 y0_2 y1_0 y1_1 y5_0 y5_1 y5_2
      clear HRR HSA
      have y0_0 : W5.cell? ⟨w.heap.size, 0, none⟩ = some (.int .i64 L) := Ky0.out.cell 0
      have y0_1 : W5.cell? ⟨w.heap.size, 1, none⟩ = some (.slice J n cj) := Ky0.out.cell 1
      have y0_2 : W5.cell? ⟨w.heap.size, 2, none⟩ = some (.slice K n ck) := Ky0.out.cell 2
      have y1_0 : W5.cell? ⟨w.heap.size + 1, 0, none⟩ = some (.int .i64 p1) := Ky1.out.cell 0
      have y1_1 : W5.cell? ⟨w.heap.size + 1, 1, none⟩ = some (.int .i64 p2) := Ky1.out.cell 1
      have y5_0 : W5.cell? ⟨q5, 0, none⟩ = some (.int .i64 L) := Ky5.out.cell 0
      have y5_1 : W5.cell? ⟨q5, 1, none⟩ = some (.slice Jr n cr) := Ky5.out.cell 1
      have y5_2 : W5.cell? ⟨q5, 2, none⟩ = some (.slice Kr n dr) := Ky5.out.cell 2
      go_wp2
      clear y0_0 y0_1 y0_2 y1_0 y1_1 y5_0 y5_1 y5_2
      go_loopw [8] (fun i wr => ∃ k : Nat, k ≤ n ∧ i = .int .i64 (k : Int) ∧ Ext w wr ∧ RowsAt 2 Rg.enc wr Kr ak ∧ Blk wr (w.heap.size) 25 #[.int .i64 L, .slice J n cj, .slice K n ck] ∧ Blk wr (q5) 25 #[.int .i64 L, .slice Jr n cr, .slice Kr n dr]) (fun i _ => n - (intOf i).toNat)
      case atStart => exact ⟨0, by omega, rfl, X.out, RKr.out, Ky0.out, Ky5.out⟩
      case round =>
        clear X RKr Ky0 Ky1 Ky5 RJr
        obtain ⟨k, hk, rfl, hx, rk, k0, k5⟩ := hrel
        have X := Lib.hid hx
        have RKr := Lib.hid rk
        have Ky0 := Lib.hid k0
        have Ky5 := Lib.hid k5
        clear hx rk k0 k5
        by_cases hlt : k < n
        · have HVB := Lib.hid (HIN.out k hlt)
          obtain ⟨kb, ko, rfl, hkb, hc0, hc1⟩ := row_Rg (HK.out.ext X.out) (i := k) (by have := HM2.out; omega)
          have HAK := Lib.hid (show k < ak.length by have := HAL.out; omega)
          generalize hx : ks.getD k default = x at *
          clear hx
          obtain ⟨x1, x2⟩ := x
          dsimp only at hc0 hc1 HVB
          have hki : (k : Int) < (n : Int) := by omega
          have hnb : n ≤ 1152921504606846976 := by omega
          have y0_0 : wr.cell? ⟨w.heap.size, 0, none⟩ = some (.int .i64 L) := Ky0.out.cell 0
          have y0_1 : wr.cell? ⟨w.heap.size, 1, none⟩ = some (.slice J n cj) := Ky0.out.cell 1
          have y0_2 : wr.cell? ⟨w.heap.size, 2, none⟩ = some (.slice (some ⟨kb, ko, none⟩) n ck) := Ky0.out.cell 2
          have y5_0 : wr.cell? ⟨q5, 0, none⟩ = some (.int .i64 L) := Ky5.out.cell 0
          have y5_1 : wr.cell? ⟨q5, 1, none⟩ = some (.slice Jr n cr) := Ky5.out.cell 1
          have y5_2 : wr.cell? ⟨q5, 2, none⟩ = some (.slice Kr n dr) := Ky5.out.cell 2
          obtain ⟨q9, hq⟩ : ∃ q, q = wr.heap.size := ⟨_, rfl⟩
          obtain ⟨V9, hV⟩ : ∃ V, V = wr.alloc (.cells #[.int .i64 x1, .int .i64 x2] 33) := ⟨_, rfl⟩
          have hx : Ext wr V9 := by rw [hV]; exact Ext.alloc _ _
          have Ky9 := Lib.hid (show Blk V9 q9 33 #[.int .i64 x1, .int .i64 x2] by rw [hV, hq]; exact Blk.new _ _ _)
          go_upto_region 17 with (fail)
          rw [← hV, ← hq]
          replace X := Lib.hid (X.out.trans hx)
          replace Ky0 := Lib.hid (Ky0.out.ext hx)
          replace Ky5 := Lib.hid (Ky5.out.ext hx)
          replace RKr := Lib.hid (RKr.out.ext hx)
          clear hx y0_0 y0_1 y0_2 y5_0 y5_1 y5_2
          clear hV hq
          have y0_0 : V9.cell? ⟨w.heap.size, 0, none⟩ = some (.int .i64 L) := Ky0.out.cell 0
          have y0_1 : V9.cell? ⟨w.heap.size, 1, none⟩ = some (.slice J n cj) := Ky0.out.cell 1
          have y0_2 : V9.cell? ⟨w.heap.size, 2, none⟩ = some (.slice (some ⟨kb, ko, none⟩) n ck) := Ky0.out.cell 2
          have y5_0 : V9.cell? ⟨q5, 0, none⟩ = some (.int .i64 L) := Ky5.out.cell 0
          have y5_1 : V9.cell? ⟨q5, 1, none⟩ = some (.slice Jr n cr) := Ky5.out.cell 1
          have y5_2 : V9.cell? ⟨q5, 2, none⟩ = some (.slice Kr n dr) := Ky5.out.cell 2
          have y9_0 : V9.cell? ⟨q9, 0, none⟩ = some (.int .i64 x1) := Ky9.out.cell 0
          have y9_1 : V9.cell? ⟨q9, 1, none⟩ = some (.int .i64 x2) := Ky9.out.cell 1
          clear hc0 hc1 hkb
          obtain ⟨rb, ro, rfl, hrb, vc0, vc1⟩ := row_Rg RKr.out (i := k) HAK.out
          generalize hv : ak.getD k default = v at *
          clear hv
          obtain ⟨v1, v2⟩ := v
          dsimp only at vc0 vc1 HVB
          obtain ⟨hv1, hv2, hv3⟩ := HVB.out
          generalize hmi : min 0 x1 = mi at *
          generalize hma : max 0 x2 = ma at *
          have HMI := Lib.hid hmi
          have HMA := Lib.hid hma
          clear hmi hma HVB
          refine wp_region_eachG [(75, false), (75, false), (75, false), (75, false), (75, false), (75, false), (75, false), (75, false), (75, false), (75, false), (87, false), (87, false), (87, false), (87, false), (87, false), (87, false), (87, false), (87, false), (87, false), (87, false), (87, false), (87, false), (87, false)] [some 65, some 66, some 67, some 68, some 69, some 70, some 71, some 72, some 73, some 74, some 75, some 76, some 77, some 78, some 79, some 80, some 81, some 82, some 83, some 84, some 85, some 86, some 87, some 88, some 89, some 90, some 91, some 92, some 93, some 94, some 95, some 96, some 97, some 98, some 99, some 100, some 101] [[5], [65], [8], [66, 67], [68], [69], [9], [71], [72], [70, 73], [74], [5, 75], [76, 75], [8, 75], [77, 78, 75], [79, 75], [80, 75], [9, 75], [82, 75], [83, 75], [81, 84, 75], [75, 85], [86], [5, 87], [88, 87], [8, 87], [89, 90, 87], [91, 87], [92, 87], [5, 87], [94, 87], [8, 87], [95, 96, 87], [97, 87], [98, 87], [93, 99, 87], [87, 100]]
            [Is (.pointer (some ⟨q5, 2, none⟩)), Is (.slice (some ⟨rb, ro, none⟩) n dr), Is (.int .i64 ((k : Int))), Is (.pointer (some ⟨rb, ro + k * 2, none⟩)), Is (.pointer (some ⟨rb, ro + k * 2, none⟩)), Is (.int .i64 (v1)), Is (.pointer (some ⟨q9, 0, none⟩)), Is (.int .i64 (x1)), Is (.int .i64 (mi)), Is (.bool (false)), Is (.bool (false)), Is (.pointer (some ⟨q5, 2, none⟩)), Is (.slice (some ⟨rb, ro, none⟩) n dr), Is (.int .i64 ((k : Int))), Is (.pointer (some ⟨rb, ro + k * 2, none⟩)), Is (.pointer (some ⟨rb, ro + k * 2 + 1, none⟩)), Is (.int .i64 (v2)), Is (.pointer (some ⟨q9, 1, none⟩)), Is (.int .i64 (x2)), Is (.int .i64 (ma)), Is (.bool (false)), Is (.bool (false)), Is (.bool (false)), Is (.pointer (some ⟨q5, 2, none⟩)), Is (.slice (some ⟨rb, ro, none⟩) n dr), Is (.int .i64 ((k : Int))), Is (.pointer (some ⟨rb, ro + k * 2, none⟩)), Is (.pointer (some ⟨rb, ro + k * 2, none⟩)), Is (.int .i64 (v1)), Is (.pointer (some ⟨q5, 2, none⟩)), Is (.slice (some ⟨rb, ro, none⟩) n dr), Is (.int .i64 ((k : Int))), Is (.pointer (some ⟨rb, ro + k * 2, none⟩)), Is (.pointer (some ⟨rb, ro + k * 2 + 1, none⟩)), Is (.int .i64 (v2)), Is (.bool (false)), Is (.bool (false))]
            (by kernel_rfl) (by kernel_rfl) (by kernel_rfl) (by kernel_rfl) (by kernel_rfl) Ext (fun W => Ext V9 W)
            (fun W _ => Ext.refl W) (fun W W' h k => h.trans k) ?_ (by intro p hp; simp only [List.mem_cons, List.not_mem_nil, or_false] at hp; rcases hp with rfl | rfl | rfl | rfl | rfl | rfl | rfl | rfl | rfl | rfl | rfl | rfl | rfl | rfl | rfl | rfl | rfl | rfl | rfl | rfl | rfl | rfl | rfl <;> exact ⟨_, rfl, fun _ _ h => h⟩) (Ext.drew _) ?_ ?_
          · repeat (refine ⟨fun _ _ _ _ k h => (by first | exact h | exact (IntsAt.ext h k)), ?_⟩)
            exact trivial
          · refine ⟨?_, ?_, ?_, ?_, ?_, ?_, ?_, ?_, ?_, ?_, ?_, ?_, ?_, ?_, ?_, ?_, ?_, ?_, ?_, ?_, ?_, ?_, ?_, ?_, ?_, ?_, ?_, ?_, ?_, ?_, ?_, ?_, ?_, ?_, ?_, ?_, ?_, trivial⟩
            all_goals intro ρ W ⟨kc, kg, kf⟩ hF hs
            · obtain ⟨h0, -⟩ := hs
              replace h0 : ρ (.tmp 5) = .pointer (some ⟨q5, 0, none⟩) := h0
              go_simp
              exact ⟨Ext.refl _, rfl⟩
            · obtain ⟨h0, -⟩ := hs
              replace h0 : ρ (.tmp 65) = .pointer (some ⟨q5, 2, none⟩) := h0
              have hc0 : W.cell? ⟨q5, 2, none⟩ = some (.slice (some ⟨rb, ro, none⟩) n dr) := hF.cell (by assumption)
              go_simp
              exact ⟨Ext.refl _, rfl⟩
            · obtain ⟨h0, -⟩ := hs
              replace h0 : ρ (.tmp 8) = .int .i64 ((k : Int)) := h0
              go_simp
              exact ⟨Ext.refl _, rfl⟩
            · obtain ⟨h0, h1, -⟩ := hs
              replace h0 : ρ (.tmp 66) = .slice (some ⟨rb, ro, none⟩) n dr := h0
              replace h1 : ρ (.tmp 67) = .int .i64 ((k : Int)) := h1
              have hb1 : (k : Int) < (n : Int) := by omega
              have hb3 : (0 : Int) ≤ (k : Int) := by omega
              have hb4 : ((k : Int)).toNat = k := by omega
              have hb8 : k < n := by omega
              go_simp
              exact ⟨Ext.refl _, rfl⟩
            · obtain ⟨h0, -⟩ := hs
              replace h0 : ρ (.tmp 68) = .pointer (some ⟨rb, ro + k * 2, none⟩) := h0
              go_simp
              exact ⟨Ext.refl _, rfl⟩
            · obtain ⟨h0, -⟩ := hs
              replace h0 : ρ (.tmp 69) = .pointer (some ⟨rb, ro + k * 2, none⟩) := h0
              have hc0 : W.cell? ⟨rb, ro + k * 2, none⟩ = some (.int .i64 (v1)) := hF.cell (by assumption)
              go_simp
              exact ⟨Ext.refl _, rfl⟩
            · obtain ⟨h0, -⟩ := hs
              replace h0 : ρ (.tmp 9) = .pointer (some ⟨q9, 0, none⟩) := h0
              go_simp
              exact ⟨Ext.refl _, rfl⟩
            · obtain ⟨h0, -⟩ := hs
              replace h0 : ρ (.tmp 71) = .pointer (some ⟨q9, 0, none⟩) := h0
              have hc0 : W.cell? ⟨q9, 0, none⟩ = some (.int .i64 (x1)) := hF.cell (by assumption)
              go_simp
              exact ⟨Ext.refl _, rfl⟩
            · obtain ⟨h0, -⟩ := hs
              replace h0 : ρ (.tmp 72) = .int .i64 (x1) := h0
              go_simp
              exact ⟨Ext.refl _, congrArg (Value.int .i64) (by rw [← HMI.out]; try first | simp only [ite_min] | omega)⟩
            · obtain ⟨h0, h1, -⟩ := hs
              replace h0 : ρ (.tmp 70) = .int .i64 (v1) := h0
              replace h1 : ρ (.tmp 73) = .int .i64 (mi) := h1
              have hd : decide (v1 < mi) = false := by simp; omega
              go_simp
              exact ⟨Ext.refl _, rfl⟩
            · obtain ⟨h0, -⟩ := hs
              replace h0 : ρ (.tmp 74) = .bool (false) := h0
              go_simp
              exact ⟨Ext.refl _, rfl⟩
            · obtain ⟨h0, h1, -⟩ := hs
              replace h0 : ρ (.tmp 5) = .pointer (some ⟨q5, 0, none⟩) := h0
              replace h1 : ρ (.tmp 75) = .bool (false) := h1
              go_simp
              exact ⟨Ext.refl _, rfl⟩
            · obtain ⟨h0, h1, -⟩ := hs
              replace h0 : ρ (.tmp 76) = .pointer (some ⟨q5, 2, none⟩) := h0
              replace h1 : ρ (.tmp 75) = .bool (false) := h1
              have hc0 : W.cell? ⟨q5, 2, none⟩ = some (.slice (some ⟨rb, ro, none⟩) n dr) := hF.cell (by assumption)
              go_simp
              exact ⟨Ext.refl _, rfl⟩
            · obtain ⟨h0, h1, -⟩ := hs
              replace h0 : ρ (.tmp 8) = .int .i64 ((k : Int)) := h0
              replace h1 : ρ (.tmp 75) = .bool (false) := h1
              go_simp
              exact ⟨Ext.refl _, rfl⟩
            · obtain ⟨h0, h1, h2, -⟩ := hs
              replace h0 : ρ (.tmp 77) = .slice (some ⟨rb, ro, none⟩) n dr := h0
              replace h1 : ρ (.tmp 78) = .int .i64 ((k : Int)) := h1
              replace h2 : ρ (.tmp 75) = .bool (false) := h2
              have hb1 : (k : Int) < (n : Int) := by omega
              have hb3 : (0 : Int) ≤ (k : Int) := by omega
              have hb4 : ((k : Int)).toNat = k := by omega
              have hb8 : k < n := by omega
              go_simp
              exact ⟨Ext.refl _, rfl⟩
            · obtain ⟨h0, h1, -⟩ := hs
              replace h0 : ρ (.tmp 79) = .pointer (some ⟨rb, ro + k * 2, none⟩) := h0
              replace h1 : ρ (.tmp 75) = .bool (false) := h1
              go_simp
              exact ⟨Ext.refl _, rfl⟩
            · obtain ⟨h0, h1, -⟩ := hs
              replace h0 : ρ (.tmp 80) = .pointer (some ⟨rb, ro + k * 2 + 1, none⟩) := h0
              replace h1 : ρ (.tmp 75) = .bool (false) := h1
              have hc0 : W.cell? ⟨rb, ro + k * 2 + 1, none⟩ = some (.int .i64 (v2)) := hF.cell (by assumption)
              go_simp
              exact ⟨Ext.refl _, rfl⟩
            · obtain ⟨h0, h1, -⟩ := hs
              replace h0 : ρ (.tmp 9) = .pointer (some ⟨q9, 0, none⟩) := h0
              replace h1 : ρ (.tmp 75) = .bool (false) := h1
              go_simp
              exact ⟨Ext.refl _, rfl⟩
            · obtain ⟨h0, h1, -⟩ := hs
              replace h0 : ρ (.tmp 82) = .pointer (some ⟨q9, 1, none⟩) := h0
              replace h1 : ρ (.tmp 75) = .bool (false) := h1
              have hc0 : W.cell? ⟨q9, 1, none⟩ = some (.int .i64 (x2)) := hF.cell (by assumption)
              go_simp
              exact ⟨Ext.refl _, rfl⟩
            · obtain ⟨h0, h1, -⟩ := hs
              replace h0 : ρ (.tmp 83) = .int .i64 (x2) := h0
              replace h1 : ρ (.tmp 75) = .bool (false) := h1
              go_simp
              exact ⟨Ext.refl _, congrArg (Value.int .i64) (by rw [← HMA.out]; try first | simp only [ite_max] | omega)⟩
            · obtain ⟨h0, h1, h2, -⟩ := hs
              replace h0 : ρ (.tmp 81) = .int .i64 (v2) := h0
              replace h1 : ρ (.tmp 84) = .int .i64 (ma) := h1
              replace h2 : ρ (.tmp 75) = .bool (false) := h2
              have hd : decide (ma < v2) = false := by simp; omega
              go_simp
              exact ⟨Ext.refl _, rfl⟩
            · obtain ⟨h0, h1, -⟩ := hs
              replace h0 : ρ (.tmp 75) = .bool (false) := h0
              replace h1 : ρ (.tmp 85) = .bool (false) := h1
              go_simp
              exact ⟨Ext.refl _, rfl⟩
            · obtain ⟨h0, -⟩ := hs
              replace h0 : ρ (.tmp 86) = .bool (false) := h0
              go_simp
              exact ⟨Ext.refl _, rfl⟩
            · obtain ⟨h0, h1, -⟩ := hs
              replace h0 : ρ (.tmp 5) = .pointer (some ⟨q5, 0, none⟩) := h0
              replace h1 : ρ (.tmp 87) = .bool (false) := h1
              go_simp
              exact ⟨Ext.refl _, rfl⟩
            · obtain ⟨h0, h1, -⟩ := hs
              replace h0 : ρ (.tmp 88) = .pointer (some ⟨q5, 2, none⟩) := h0
              replace h1 : ρ (.tmp 87) = .bool (false) := h1
              have hc0 : W.cell? ⟨q5, 2, none⟩ = some (.slice (some ⟨rb, ro, none⟩) n dr) := hF.cell (by assumption)
              go_simp
              exact ⟨Ext.refl _, rfl⟩
            · obtain ⟨h0, h1, -⟩ := hs
              replace h0 : ρ (.tmp 8) = .int .i64 ((k : Int)) := h0
              replace h1 : ρ (.tmp 87) = .bool (false) := h1
              go_simp
              exact ⟨Ext.refl _, rfl⟩
            · obtain ⟨h0, h1, h2, -⟩ := hs
              replace h0 : ρ (.tmp 89) = .slice (some ⟨rb, ro, none⟩) n dr := h0
              replace h1 : ρ (.tmp 90) = .int .i64 ((k : Int)) := h1
              replace h2 : ρ (.tmp 87) = .bool (false) := h2
              have hb1 : (k : Int) < (n : Int) := by omega
              have hb3 : (0 : Int) ≤ (k : Int) := by omega
              have hb4 : ((k : Int)).toNat = k := by omega
              have hb8 : k < n := by omega
              go_simp
              exact ⟨Ext.refl _, rfl⟩
            · obtain ⟨h0, h1, -⟩ := hs
              replace h0 : ρ (.tmp 91) = .pointer (some ⟨rb, ro + k * 2, none⟩) := h0
              replace h1 : ρ (.tmp 87) = .bool (false) := h1
              go_simp
              exact ⟨Ext.refl _, rfl⟩
            · obtain ⟨h0, h1, -⟩ := hs
              replace h0 : ρ (.tmp 92) = .pointer (some ⟨rb, ro + k * 2, none⟩) := h0
              replace h1 : ρ (.tmp 87) = .bool (false) := h1
              have hc0 : W.cell? ⟨rb, ro + k * 2, none⟩ = some (.int .i64 (v1)) := hF.cell (by assumption)
              go_simp
              exact ⟨Ext.refl _, rfl⟩
            · obtain ⟨h0, h1, -⟩ := hs
              replace h0 : ρ (.tmp 5) = .pointer (some ⟨q5, 0, none⟩) := h0
              replace h1 : ρ (.tmp 87) = .bool (false) := h1
              go_simp
              exact ⟨Ext.refl _, rfl⟩
            · obtain ⟨h0, h1, -⟩ := hs
              replace h0 : ρ (.tmp 94) = .pointer (some ⟨q5, 2, none⟩) := h0
              replace h1 : ρ (.tmp 87) = .bool (false) := h1
              have hc0 : W.cell? ⟨q5, 2, none⟩ = some (.slice (some ⟨rb, ro, none⟩) n dr) := hF.cell (by assumption)
              go_simp
              exact ⟨Ext.refl _, rfl⟩
            · obtain ⟨h0, h1, -⟩ := hs
              replace h0 : ρ (.tmp 8) = .int .i64 ((k : Int)) := h0
              replace h1 : ρ (.tmp 87) = .bool (false) := h1
              go_simp
              exact ⟨Ext.refl _, rfl⟩
            · obtain ⟨h0, h1, h2, -⟩ := hs
              replace h0 : ρ (.tmp 95) = .slice (some ⟨rb, ro, none⟩) n dr := h0
              replace h1 : ρ (.tmp 96) = .int .i64 ((k : Int)) := h1
              replace h2 : ρ (.tmp 87) = .bool (false) := h2
              have hb1 : (k : Int) < (n : Int) := by omega
              have hb3 : (0 : Int) ≤ (k : Int) := by omega
              have hb4 : ((k : Int)).toNat = k := by omega
              have hb8 : k < n := by omega
              go_simp
              exact ⟨Ext.refl _, rfl⟩
            · obtain ⟨h0, h1, -⟩ := hs
              replace h0 : ρ (.tmp 97) = .pointer (some ⟨rb, ro + k * 2, none⟩) := h0
              replace h1 : ρ (.tmp 87) = .bool (false) := h1
              go_simp
              exact ⟨Ext.refl _, rfl⟩
            · obtain ⟨h0, h1, -⟩ := hs
              replace h0 : ρ (.tmp 98) = .pointer (some ⟨rb, ro + k * 2 + 1, none⟩) := h0
              replace h1 : ρ (.tmp 87) = .bool (false) := h1
              have hc0 : W.cell? ⟨rb, ro + k * 2 + 1, none⟩ = some (.int .i64 (v2)) := hF.cell (by assumption)
              go_simp
              exact ⟨Ext.refl _, rfl⟩
            · obtain ⟨h0, h1, h2, -⟩ := hs
              replace h0 : ρ (.tmp 93) = .int .i64 (v1) := h0
              replace h1 : ρ (.tmp 99) = .int .i64 (v2) := h1
              replace h2 : ρ (.tmp 87) = .bool (false) := h2
              have hd : decide (v2 < v1) = false := by simp; omega
              go_simp
              exact ⟨Ext.refl _, rfl⟩
            · obtain ⟨h0, h1, -⟩ := hs
              replace h0 : ρ (.tmp 87) = .bool (false) := h0
              replace h1 : ρ (.tmp 100) = .bool (false) := h1
              go_simp
              exact ⟨Ext.refl _, rfl⟩
          · intro fv V10 hF hs
            obtain ⟨-, -, -, -, -, -, -, -, -, -, -, -, -, -, -, -, -, -, -, -, -, -, -, -, -, -, -, -, -, -, -, -, -, -, -, -, h101, -⟩ := hs
            replace h101 : fv 101 = .bool (false) := h101
            simp only [fin, List.filterMap]
            go_simp
            have hx := hF
            replace X := Lib.hid (X.out.trans hx)
            replace Ky0 := Lib.hid (Ky0.out.ext hx)
            replace Ky5 := Lib.hid (Ky5.out.ext hx)
            replace Ky9 := Lib.hid (Ky9.out.ext hx)
            replace RKr := Lib.hid (RKr.out.ext hx)
            clear hx hF vc0 vc1 hv1 hv2 hv3 y0_0 y0_1 y0_2 y5_0 y5_1 y5_2 y9_0 y9_1
            go_wp2
            go_roundw
            case rel => exact ⟨k + 1, by omega, by go_num, X.out, RKr.out, Ky0.out, Ky5.out⟩
            case measure => simp [intOf]; omega
        · obtain rfl : k = n := by omega
          have hkn : ¬ (k : Int) < (k : Int) := by omega
          obtain ⟨Vb, hV⟩ : ∃ V, V = wr := ⟨_, rfl⟩
          rw [← hV] at X Ky0 Ky5 ⊢
          clear hV RKr
          have y0_0 : Vb.cell? ⟨w.heap.size, 0, none⟩ = some (.int .i64 L) := Ky0.out.cell 0
          have y0_1 : Vb.cell? ⟨w.heap.size, 1, none⟩ = some (.slice J k cj) := Ky0.out.cell 1
          have y0_2 : Vb.cell? ⟨w.heap.size, 2, none⟩ = some (.slice K k ck) := Ky0.out.cell 2
          have y5_0 : Vb.cell? ⟨q5, 0, none⟩ = some (.int .i64 L) := Ky5.out.cell 0
          have y5_1 : Vb.cell? ⟨q5, 1, none⟩ = some (.slice Jr k cr) := Ky5.out.cell 1
          have y5_2 : Vb.cell? ⟨q5, 2, none⟩ = some (.slice Kr k dr) := Ky5.out.cell 2
          go_upto_region 19 with (fail)
          clear y5_0 y5_1 y5_2 Ky5
          go_wp2_with (go_at_call 16; refine (HCP.out _ X.out).mono ?_; rintro e V10a ⟨v, rfl, hc, hx⟩; obtain ⟨J1, cj1, K1, ck1, rfl, hr1, hr2, hn1, hn2, -⟩ := hc; have RJ1 := Lib.hid hr1; have RK1 := Lib.hid hr2; have NJ1 := Lib.hid hn1; have NK1 := Lib.hid hn2; clear hr1 hr2 hn1 hn2; replace X := Lib.hid (X.out.trans hx); replace Ky0 := Lib.hid (Ky0.out.ext hx); clear hx y0_0 y0_1 y0_2; refine Hid.out ?_)
          refine Lib.hid ?_
          have y0_0 : V10a.cell? ⟨w.heap.size, 0, none⟩ = some (.int .i64 L) := Ky0.out.cell 0
          have y0_1 : V10a.cell? ⟨w.heap.size, 1, none⟩ = some (.slice J k cj) := Ky0.out.cell 1
          have y0_2 : V10a.cell? ⟨w.heap.size, 2, none⟩ = some (.slice K k ck) := Ky0.out.cell 2
          go_wp2_with (go_at_call 29; refine (HRZ.out _ J1 cj1 K1 ck1 RJ1.out RK1.out NJ1.out).mono ?_; rintro e V10b ⟨v, rfl, hc, hx⟩; have HC := Lib.hid hc; replace X := Lib.hid (X.out.trans hx); replace Ky0 := Lib.hid (Ky0.out.ext hx); clear hx y0_0 y0_1 y0_2; refine Hid.out ?_)
          refine Lib.hid ?_
          obtain ⟨Js, cs, Ks, ds, rfl, hr1, hr2, -, -⟩ := HC.out
          have RJs := Lib.hid hr1
          have RKs := Lib.hid hr2
          clear hr1 hr2 HC HRZ RJ1 RK1 NJ1 NK1
          have y0_0 : V10b.cell? ⟨w.heap.size, 0, none⟩ = some (.int .i64 L) := Ky0.out.cell 0
          have y0_1 : V10b.cell? ⟨w.heap.size, 1, none⟩ = some (.slice J k cj) := Ky0.out.cell 1
          have y0_2 : V10b.cell? ⟨w.heap.size, 2, none⟩ = some (.slice K k ck) := Ky0.out.cell 2
          obtain ⟨q10, hq⟩ : ∃ q, q = V10b.heap.size := ⟨_, rfl⟩
          obtain ⟨V11, hV⟩ : ∃ V, V = V10b.alloc (.cells #[.int .i64 L, .slice Js k cs, .slice Ks k ds] 25) := ⟨_, rfl⟩
          have hx : Ext V10b V11 := by rw [hV]; exact Ext.alloc _ _
          have Ky10 := Lib.hid (show Blk V11 q10 25 #[.int .i64 L, .slice Js k cs, .slice Ks k ds] by rw [hV, hq]; exact Blk.new _ _ _)
          go_upto_region 20 with (fail)
          rw [← hV, ← hq]
          replace X := Lib.hid (X.out.trans hx)
          replace Ky0 := Lib.hid (Ky0.out.ext hx)
          replace RJs := Lib.hid (RJs.out.ext hx)
          replace RKs := Lib.hid (RKs.out.ext hx)
          clear hx y0_0 y0_1 y0_2
          clear hV hq
          have y0_0 : V11.cell? ⟨w.heap.size, 0, none⟩ = some (.int .i64 L) := Ky0.out.cell 0
          have y0_1 : V11.cell? ⟨w.heap.size, 1, none⟩ = some (.slice J k cj) := Ky0.out.cell 1
          have y0_2 : V11.cell? ⟨w.heap.size, 2, none⟩ = some (.slice K k ck) := Ky0.out.cell 2
          have y10_0 : V11.cell? ⟨q10, 0, none⟩ = some (.int .i64 L) := Ky10.out.cell 0
          have y10_1 : V11.cell? ⟨q10, 1, none⟩ = some (.slice Js k cs) := Ky10.out.cell 1
          have y10_2 : V11.cell? ⟨q10, 2, none⟩ = some (.slice Ks k ds) := Ky10.out.cell 2
          go_wp2_with (go_at_call 16; refine (HCP.out _ X.out).mono ?_; rintro e V11a ⟨v, rfl, hc, hx⟩; obtain ⟨J2, cj2, K2, ck2, rfl, hr1, hr2, hn1, hn2, -⟩ := hc; have RJ2 := Lib.hid hr1; have RK2 := Lib.hid hr2; have NJ2 := Lib.hid hn1; have NK2 := Lib.hid hn2; clear hr1 hr2 hn1 hn2; replace X := Lib.hid (X.out.trans hx); replace Ky0 := Lib.hid (Ky0.out.ext hx); replace Ky10 := Lib.hid (Ky10.out.ext hx); replace RJs := Lib.hid (RJs.out.ext hx); replace RKs := Lib.hid (RKs.out.ext hx); clear hx y0_0 y0_1 y0_2 y10_0 y10_1 y10_2; refine Hid.out ?_)
          refine Lib.hid ?_
          have y0_0 : V11a.cell? ⟨w.heap.size, 0, none⟩ = some (.int .i64 L) := Ky0.out.cell 0
          have y0_1 : V11a.cell? ⟨w.heap.size, 1, none⟩ = some (.slice J k cj) := Ky0.out.cell 1
          have y0_2 : V11a.cell? ⟨w.heap.size, 2, none⟩ = some (.slice K k ck) := Ky0.out.cell 2
          have y10_0 : V11a.cell? ⟨q10, 0, none⟩ = some (.int .i64 L) := Ky10.out.cell 0
          have y10_1 : V11a.cell? ⟨q10, 1, none⟩ = some (.slice Js k cs) := Ky10.out.cell 1
          have y10_2 : V11a.cell? ⟨q10, 2, none⟩ = some (.slice Ks k ds) := Ky10.out.cell 2
          go_wp2_with (go_at_call 29; refine (HRN.out _ J2 cj2 K2 ck2 RJ2.out RK2.out NJ2.out).mono ?_; rintro e V11b ⟨v, rfl, hc, hx⟩; have HC := Lib.hid hc; replace X := Lib.hid (X.out.trans hx); replace Ky0 := Lib.hid (Ky0.out.ext hx); replace Ky10 := Lib.hid (Ky10.out.ext hx); replace RJs := Lib.hid (RJs.out.ext hx); replace RKs := Lib.hid (RKs.out.ext hx); clear hx y0_0 y0_1 y0_2 y10_0 y10_1 y10_2; refine Hid.out ?_)
          refine Lib.hid ?_
          obtain ⟨Jt, ct, Kt, dt, rfl, hr1, hr2, -, -⟩ := HC.out
          have RJt := Lib.hid hr1
          have RKt := Lib.hid hr2
          clear hr1 hr2 HC HRN RJ2 RK2 NJ2 NK2
          have y0_0 : V11b.cell? ⟨w.heap.size, 0, none⟩ = some (.int .i64 L) := Ky0.out.cell 0
          have y0_1 : V11b.cell? ⟨w.heap.size, 1, none⟩ = some (.slice J k cj) := Ky0.out.cell 1
          have y0_2 : V11b.cell? ⟨w.heap.size, 2, none⟩ = some (.slice K k ck) := Ky0.out.cell 2
          have y10_0 : V11b.cell? ⟨q10, 0, none⟩ = some (.int .i64 L) := Ky10.out.cell 0
          have y10_1 : V11b.cell? ⟨q10, 1, none⟩ = some (.slice Js k cs) := Ky10.out.cell 1
          have y10_2 : V11b.cell? ⟨q10, 2, none⟩ = some (.slice Ks k ds) := Ky10.out.cell 2
          obtain ⟨q12, hq⟩ : ∃ q, q = V11b.heap.size := ⟨_, rfl⟩
          obtain ⟨V12, hV⟩ : ∃ V, V = V11b.alloc (.cells #[.int .i64 L, .slice Jt k ct, .slice Kt k dt] 25) := ⟨_, rfl⟩
          have hx : Ext V11b V12 := by rw [hV]; exact Ext.alloc _ _
          have Ky12 := Lib.hid (show Blk V12 q12 25 #[.int .i64 L, .slice Jt k ct, .slice Kt k dt] by rw [hV, hq]; exact Blk.new _ _ _)
          go_upto_region 21 with (fail)
          rw [← hV, ← hq]
          replace X := Lib.hid (X.out.trans hx)
          replace Ky0 := Lib.hid (Ky0.out.ext hx)
          replace Ky10 := Lib.hid (Ky10.out.ext hx)
          replace RJs := Lib.hid (RJs.out.ext hx)
          replace RKs := Lib.hid (RKs.out.ext hx)
          replace RJt := Lib.hid (RJt.out.ext hx)
          replace RKt := Lib.hid (RKt.out.ext hx)
          clear hx y0_0 y0_1 y0_2 y10_0 y10_1 y10_2
          clear hV hq
          have y0_0 : V12.cell? ⟨w.heap.size, 0, none⟩ = some (.int .i64 L) := Ky0.out.cell 0
          have y0_1 : V12.cell? ⟨w.heap.size, 1, none⟩ = some (.slice J k cj) := Ky0.out.cell 1
          have y0_2 : V12.cell? ⟨w.heap.size, 2, none⟩ = some (.slice K k ck) := Ky0.out.cell 2
          have y10_0 : V12.cell? ⟨q10, 0, none⟩ = some (.int .i64 L) := Ky10.out.cell 0
          have y10_1 : V12.cell? ⟨q10, 1, none⟩ = some (.slice Js k cs) := Ky10.out.cell 1
          have y10_2 : V12.cell? ⟨q10, 2, none⟩ = some (.slice Ks k ds) := Ky10.out.cell 2
          have y12_0 : V12.cell? ⟨q12, 0, none⟩ = some (.int .i64 L) := Ky12.out.cell 0
          have y12_1 : V12.cell? ⟨q12, 1, none⟩ = some (.slice Jt k ct) := Ky12.out.cell 1
          have y12_2 : V12.cell? ⟨q12, 2, none⟩ = some (.slice Kt k dt) := Ky12.out.cell 2
          have HSM := Lib.hid (HSB.out _ Js cs Ks ds RJs.out RKs.out (HJ.out.ext X.out) (HK.out.ext X.out))
          clear HSB
          go_wp2_with (go_at_call 31; refine (HSM.out).mono ?_; rintro e V13 ⟨rfl, hx⟩; replace X := Lib.hid (X.out.trans hx); replace Ky0 := Lib.hid (Ky0.out.ext hx); replace Ky10 := Lib.hid (Ky10.out.ext hx); replace Ky12 := Lib.hid (Ky12.out.ext hx); replace RJs := Lib.hid (RJs.out.ext hx); replace RKs := Lib.hid (RKs.out.ext hx); replace RJt := Lib.hid (RJt.out.ext hx); replace RKt := Lib.hid (RKt.out.ext hx); clear hx y0_0 y0_1 y0_2 y10_0 y10_1 y10_2 y12_0 y12_1 y12_2; refine Hid.out ?_)
          refine Lib.hid ?_
          have y0_0 : V13.cell? ⟨w.heap.size, 0, none⟩ = some (.int .i64 L) := Ky0.out.cell 0
          have y0_1 : V13.cell? ⟨w.heap.size, 1, none⟩ = some (.slice J k cj) := Ky0.out.cell 1
          have y0_2 : V13.cell? ⟨w.heap.size, 2, none⟩ = some (.slice K k ck) := Ky0.out.cell 2
          have y10_0 : V13.cell? ⟨q10, 0, none⟩ = some (.int .i64 L) := Ky10.out.cell 0
          have y10_1 : V13.cell? ⟨q10, 1, none⟩ = some (.slice Js k cs) := Ky10.out.cell 1
          have y10_2 : V13.cell? ⟨q10, 2, none⟩ = some (.slice Ks k ds) := Ky10.out.cell 2
          have y12_0 : V13.cell? ⟨q12, 0, none⟩ = some (.int .i64 L) := Ky12.out.cell 0
          have y12_1 : V13.cell? ⟨q12, 1, none⟩ = some (.slice Jt k ct) := Ky12.out.cell 1
          have y12_2 : V13.cell? ⟨q12, 2, none⟩ = some (.slice Kt k dt) := Ky12.out.cell 2
          clear HSM
          go_wp2
          clear y0_0 y0_1 y0_2 y10_0 y10_1 y10_2 y12_0 y12_1 y12_2
          go_loopw [14] (fun i wr => ∃ q : Nat, q ≤ k ∧ i = .int .i64 (q : Int) ∧ Ext w wr ∧ RowsAt 2 Rg.enc wr Kt zn ∧ Blk wr q12 25 #[.int .i64 L, .slice Jt k ct, .slice Kt k dt]) (fun i _ => k - (intOf i).toNat)
          case atStart => exact ⟨0, by omega, rfl, X.out, RKt.out, Ky12.out⟩
          case round =>
            clear X RKt Ky12 RJs RKs RJt Ky0 Ky10
            obtain ⟨q, hq, rfl, hx, rk, k0⟩ := hrel
            have X := Lib.hid hx
            have RKt := Lib.hid rk
            have Ky12 := Lib.hid k0
            clear hx rk k0
            by_cases hlq : q < k
            · have hz0 := HZN.out q hlq
              obtain ⟨zb, zo, rfl, hzb, zc0, zc1⟩ := row_Rg RKt.out (i := q) (by have := HZL.out; omega)
              rw [hz0] at zc0 zc1
              dsimp only at zc0 zc1
              have hqi : (q : Int) < (k : Int) := by omega
              have y2 : wr.cell? ⟨q12, 2, none⟩ = some (.slice (some ⟨zb, zo, none⟩) k dt) := Ky12.out.cell 2
              clear hz0 hzb
              go_wp2
              go_roundw
              case rel => exact ⟨q + 1, by omega, by go_num, X.out, RKt.out, Ky12.out⟩
              case measure => simp [intOf]; omega
            · obtain rfl : q = k := by omega
              have hqn : ¬ (q : Int) < (q : Int) := by omega
              have y2 : wr.cell? ⟨q12, 2, none⟩ = some (.slice Kt q dt) := Ky12.out.cell 2
              go_wp2
              go_ret
              exact ⟨rfl, X.out⟩

theorem relieved_any {L : Int} {J K : Option Addr} {n m cj ck : Nat} {js : List Int} {ks : List Rg} (p1 p2 : Int) (hn : js.length = n) (hm : ks.length = m) (hjn : J = none → cj = 0) (hkn : K = none → ck = 0) (ln : n ≤ maxLen) (lm : m ≤ maxLen) {w : World} (hJ : n ≤ 1000 → RowsAt 1 I1 w J js) (hK : m ≤ 1000 → RowsAt 2 Rg.enc w K ks) :
    Calls Try.prog 5 #[.agg #[.int .i64 L, .slice J n cj, .slice K m ck], .agg #[.int .i64 p1, .int .i64 p2]] w fun e w' => e = .returned (.bool true) ∧ Ext w w' := by
  by_cases h : n ≤ 6 ∧ m ≤ 6
  · by_cases hz : (checkS L js ks).2 = 0
    · by_cases hp : endsE 0 1000 (p1, p2) = 0
      · obtain rfl : n = m := by have := (checkS_ok hz).same; omega
        exact rel_ok hn (hJ (by omega)) hm (hK (by omega)) hjn hkn hz (endsE_ok hp)
      · exact rel_badP hn (hJ (by omega)) hm (hK (by omega)) hjn hkn h ln lm hz rfl hp
    · exact rel_badS hn (hJ (by omega)) hm (hK (by omega)) hjn hkn h ln lm rfl hz
  · exact rel_many h ln lm

end Go.Proofs.Ytjdilmmpdlcimaa
