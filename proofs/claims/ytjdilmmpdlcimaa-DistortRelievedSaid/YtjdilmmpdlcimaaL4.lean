/- DistortRelieved where a shaft or the parts are wrong, or a shaft is too long. -/
import Derived.Test.YtjdilmmpdlcimaaL3
import Derived.Test.YtjdilmmpdlcimaaC15
import Derived.Lib.MinMax
import Derived.Deep.DeepCutAuto
import Derived.BigQuiet

namespace Go.Proofs.Ytjdilmmpdlcimaa
open Go.RowKit Go.Shelf Go.Mem Go.RegInv
attribute [local go_sem] RelUpon_value RelUpon_skip RelUpon_enter BigFrame.eval_const BigFrame.eval_global BigFrame.eval_func


theorem rowsNil {α : Type} (k : Nat) (enc : α → List Value) (W : World) : RowsAt k enc W none [] := ⟨by simp, fun i x hx => by simp at hx⟩

set_option maxRecDepth 100000 in
set_option maxHeartbeats 4000000 in
theorem rel_many {L : Int} {J K : Option Addr} {n m cj ck : Nat} {p1 p2 : Int} {w : World} (h : ¬ (n ≤ 6 ∧ m ≤ 6)) (ln : n ≤ maxLen) (lm : m ≤ maxLen) :
    Calls Try.prog 5 #[.agg #[.int .i64 L, .slice J n cj, .slice K m ck], .agg #[.int .i64 p1, .int .i64 p2]] w fun e w' => e = .returned (.bool true) ∧ Ext w w' := by
  have HFEW := Lib.hid (fun W => show Calls Try.prog 14 #[.agg #[.int .i64 L, .slice J n cj, .slice K m ck]] W fun e w' => e = .returned (.bool false) ∧ Ext W w' from by have := few_any (L := L) (J := J) (K := K) (n := n) (m := m) (cj := cj) (ck := ck) W ln lm; rw [few2_false h] at this; exact this)
  clear h
  obtain ⟨W0, hW0⟩ : ∃ W0, W0 = (w.alloc (.cells #[.int .i64 L, .slice J n cj, .slice K m ck] 25)).alloc (.cells #[.int .i64 p1, .int .i64 p2] 33) := ⟨_, rfl⟩
  have Ky0 := Lib.hid (show Blk W0 (w.heap.size) 25 #[.int .i64 L, .slice J n cj, .slice K m ck] by rw [hW0]; exact (Blk.new _ _ _).alloc _)
  have Ky1 := Lib.hid (show Blk W0 (w.heap.size + 1) 33 #[.int .i64 p1, .int .i64 p2] by rw [hW0]; exact Blk.newAt _ _ _ (by simp))
  have X := Lib.hid (show Ext w W0 by rw [hW0]; exact (Ext.alloc _ _).trans (Ext.alloc _ _))
  have y0_0 : W0.cell? ⟨w.heap.size, 0, none⟩ = some (.int .i64 L) := Ky0.out.cell 0
  have y0_1 : W0.cell? ⟨w.heap.size, 1, none⟩ = some (.slice J n cj) := Ky0.out.cell 1
  have y0_2 : W0.cell? ⟨w.heap.size, 2, none⟩ = some (.slice K m ck) := Ky0.out.cell 2
  have y1_0 : W0.cell? ⟨w.heap.size + 1, 0, none⟩ = some (.int .i64 p1) := Ky1.out.cell 0
  have y1_1 : W0.cell? ⟨w.heap.size + 1, 1, none⟩ = some (.int .i64 p2) := Ky1.out.cell 1
  go_enter Try.func5, Try.ntmps5
  go_upto_region 1 with (fail)
  rw [← hW0]
  clear hW0
  go_wp2_with (go_at_call 13; refine (awake_any _).mono ?_; rintro e W1 ⟨rfl, hx⟩; replace X := Lib.hid (X.out.trans hx); replace Ky0 := Lib.hid (Ky0.out.ext hx); replace Ky1 := Lib.hid (Ky1.out.ext hx); clear hx y0_0 y0_1 y0_2 y1_0 y1_1; refine Hid.out ?_)
  refine Lib.hid ?_
  have y0_0 : W1.cell? ⟨w.heap.size, 0, none⟩ = some (.int .i64 L) := Ky0.out.cell 0
  have y0_1 : W1.cell? ⟨w.heap.size, 1, none⟩ = some (.slice J n cj) := Ky0.out.cell 1
  have y0_2 : W1.cell? ⟨w.heap.size, 2, none⟩ = some (.slice K m ck) := Ky0.out.cell 2
  have y1_0 : W1.cell? ⟨w.heap.size + 1, 0, none⟩ = some (.int .i64 p1) := Ky1.out.cell 0
  have y1_1 : W1.cell? ⟨w.heap.size + 1, 1, none⟩ = some (.int .i64 p2) := Ky1.out.cell 1
  go_wp2_with (go_at_call 14; refine (HFEW.out _).mono ?_; rintro e W2 ⟨rfl, hx⟩; replace X := Lib.hid (X.out.trans hx); replace Ky0 := Lib.hid (Ky0.out.ext hx); replace Ky1 := Lib.hid (Ky1.out.ext hx); clear hx y0_0 y0_1 y0_2 y1_0 y1_1; refine Hid.out ?_)
  refine Lib.hid ?_
  have y0_0 : W2.cell? ⟨w.heap.size, 0, none⟩ = some (.int .i64 L) := Ky0.out.cell 0
  have y0_1 : W2.cell? ⟨w.heap.size, 1, none⟩ = some (.slice J n cj) := Ky0.out.cell 1
  have y0_2 : W2.cell? ⟨w.heap.size, 2, none⟩ = some (.slice K m ck) := Ky0.out.cell 2
  have y1_0 : W2.cell? ⟨w.heap.size + 1, 0, none⟩ = some (.int .i64 p1) := Ky1.out.cell 0
  have y1_1 : W2.cell? ⟨w.heap.size + 1, 1, none⟩ = some (.int .i64 p2) := Ky1.out.cell 1
  go_wp2
  go_ret
  exact ⟨rfl, X.out⟩

set_option maxRecDepth 100000 in
set_option maxHeartbeats 4000000 in
theorem rel_badS {L : Int} {J K : Option Addr} {n m cj ck : Nat} {js : List Int} {ks : List Rg} {w : World} (hn : js.length = n) (hJ : RowsAt 1 I1 w J js) (hm : ks.length = m) (hK : RowsAt 2 Rg.enc w K ks) {p1 p2 z : Int} (hjn : J = none → cj = 0) (hkn : K = none → ck = 0) (h : n ≤ 6 ∧ m ≤ 6) (ln : n ≤ maxLen) (lm : m ≤ maxLen) (h1 : (checkS L js ks).2 = z) (hz : z ≠ 0) :
    Calls Try.prog 5 #[.agg #[.int .i64 L, .slice J n cj, .slice K m ck], .agg #[.int .i64 p1, .int .i64 p2]] w fun e w' => e = .returned (.bool true) ∧ Ext w w' := by
  have hcv : rlE L js ks (p1, p2) = z := by unfold rlE; rw [h1]; rw [if_pos hz]
  have HCP := Lib.hid (fun W (e : Ext w W) => copyShaft_any (L := L) (cj := cj) (ck := ck) hn (hJ.ext e) hm (hK.ext e) hjn hkn (by omega) (by omega))
  have HSE := Lib.hid (fun W (e : Ext w W) => show Calls Try.prog 27 #[.agg #[.int .i64 L, .slice J n cj, .slice K m ck]] W fun e w' => e = .returned (.int .i64 z) ∧ Ext W w' from by have := refShaftErr_any (cj := cj) (ck := ck) (L := L) hn (hJ.ext e) hm (hK.ext e); rw [h1] at this; exact this)
  have HRL := Lib.hid (fun W J1 c1 K1 d1 (r1 : RowsAt 1 I1 W J1 js) (s1 : RowsAt 2 Rg.enc W K1 ks) (n1 : J1 = none → c1 = 0) => show Calls Try.prog 29 #[.agg #[.int .i64 L, .slice J1 n c1, .slice K1 m d1], .agg #[.int .i64 p1, .int .i64 p2]] W fun e w' => e = .returned (.tuple #[.agg #[.int .i64 0, .slice none 0 0, .slice none 0 0], .int .i64 z]) ∧ Ext W w' from by
    have h := relieved29_any (L := L) (ck := d1) (p1 := p1) (p2 := p2) hn r1 hm s1 n1
    rw [hcv] at h
    refine h.mono ?_
    rintro e w' ⟨v, h1, h2, h3⟩
    rw [AftV, if_neg hz] at h2
    subst h2
    exact ⟨h1, h3⟩)
  have HSM := Lib.hid (show ∀ W, Calls Try.prog 31 #[.agg #[.int .i64 0, .slice none 0 0, .slice none 0 0], .agg #[.int .i64 0, .slice none 0 0, .slice none 0 0]] W fun e w' => e = .returned (.bool true) ∧ Ext W w' from fun W => (same_any (js := []) (ks := []) (js2 := []) (ks2 := []) (L := 0) (L2 := 0) (n := 0) (m := 0) (n2 := 0) (m2 := 0) rfl (rowsNil 1 I1 W) rfl (rowsNil 2 Rg.enc W) rfl (rowsNil 1 I1 W) rfl (rowsNil 2 Rg.enc W)).mono (by rintro e w' ⟨b, rfl, hb, hx⟩; exact ⟨by rw [hb.2 ⟨rfl, rfl, rfl⟩], hx⟩))
  have HFEW := Lib.hid (fun W => show Calls Try.prog 14 #[.agg #[.int .i64 L, .slice J n cj, .slice K m ck]] W fun e w' => e = .returned (.bool true) ∧ Ext W w' from by have := few_any (L := L) (J := J) (K := K) (n := n) (m := m) (cj := cj) (ck := ck) W ln lm; rw [show few2 n m = true by simp [few2, h.1, h.2]] at this; exact this)
  have hz1 : (z == 0) = false := by simp [hz]
  have hz2 : (z != 0) = true := by simp [hz]
  clear h hn hJ hm hK hjn hkn hcv h1 hz ln lm
  obtain ⟨W0, hW0⟩ : ∃ W0, W0 = (w.alloc (.cells #[.int .i64 L, .slice J n cj, .slice K m ck] 25)).alloc (.cells #[.int .i64 p1, .int .i64 p2] 33) := ⟨_, rfl⟩
  have Ky0 := Lib.hid (show Blk W0 (w.heap.size) 25 #[.int .i64 L, .slice J n cj, .slice K m ck] by rw [hW0]; exact (Blk.new _ _ _).alloc _)
  have Ky1 := Lib.hid (show Blk W0 (w.heap.size + 1) 33 #[.int .i64 p1, .int .i64 p2] by rw [hW0]; exact Blk.newAt _ _ _ (by simp))
  have X := Lib.hid (show Ext w W0 by rw [hW0]; exact (Ext.alloc _ _).trans (Ext.alloc _ _))
  have y0_0 : W0.cell? ⟨w.heap.size, 0, none⟩ = some (.int .i64 L) := Ky0.out.cell 0
  have y0_1 : W0.cell? ⟨w.heap.size, 1, none⟩ = some (.slice J n cj) := Ky0.out.cell 1
  have y0_2 : W0.cell? ⟨w.heap.size, 2, none⟩ = some (.slice K m ck) := Ky0.out.cell 2
  have y1_0 : W0.cell? ⟨w.heap.size + 1, 0, none⟩ = some (.int .i64 p1) := Ky1.out.cell 0
  have y1_1 : W0.cell? ⟨w.heap.size + 1, 1, none⟩ = some (.int .i64 p2) := Ky1.out.cell 1
  go_enter Try.func5, Try.ntmps5
  go_upto_region 1 with (fail)
  rw [← hW0]
  clear hW0
  go_wp2_with (go_at_call 13; refine (awake_any _).mono ?_; rintro e W1 ⟨rfl, hx⟩; replace X := Lib.hid (X.out.trans hx); replace Ky0 := Lib.hid (Ky0.out.ext hx); replace Ky1 := Lib.hid (Ky1.out.ext hx); clear hx y0_0 y0_1 y0_2 y1_0 y1_1; refine Hid.out ?_)
  refine Lib.hid ?_
  have y0_0 : W1.cell? ⟨w.heap.size, 0, none⟩ = some (.int .i64 L) := Ky0.out.cell 0
  have y0_1 : W1.cell? ⟨w.heap.size, 1, none⟩ = some (.slice J n cj) := Ky0.out.cell 1
  have y0_2 : W1.cell? ⟨w.heap.size, 2, none⟩ = some (.slice K m ck) := Ky0.out.cell 2
  have y1_0 : W1.cell? ⟨w.heap.size + 1, 0, none⟩ = some (.int .i64 p1) := Ky1.out.cell 0
  have y1_1 : W1.cell? ⟨w.heap.size + 1, 1, none⟩ = some (.int .i64 p2) := Ky1.out.cell 1
  go_wp2_with (go_at_call 14; refine (HFEW.out _).mono ?_; rintro e W2 ⟨rfl, hx⟩; replace X := Lib.hid (X.out.trans hx); replace Ky0 := Lib.hid (Ky0.out.ext hx); replace Ky1 := Lib.hid (Ky1.out.ext hx); clear hx y0_0 y0_1 y0_2 y1_0 y1_1; refine Hid.out ?_)
  refine Lib.hid ?_
  have y0_0 : W2.cell? ⟨w.heap.size, 0, none⟩ = some (.int .i64 L) := Ky0.out.cell 0
  have y0_1 : W2.cell? ⟨w.heap.size, 1, none⟩ = some (.slice J n cj) := Ky0.out.cell 1
  have y0_2 : W2.cell? ⟨w.heap.size, 2, none⟩ = some (.slice K m ck) := Ky0.out.cell 2
  have y1_0 : W2.cell? ⟨w.heap.size + 1, 0, none⟩ = some (.int .i64 p1) := Ky1.out.cell 0
  have y1_1 : W2.cell? ⟨w.heap.size + 1, 1, none⟩ = some (.int .i64 p2) := Ky1.out.cell 1
  clear HFEW
  go_upto_region 5 with (fail)
  refine wp_region_free [.op, .op, .op, .op, .op, .op, .late (.int .i64 (z)), .new, .store, .late (.int .i64 (z))] [8] [5, 25] [5] [some 21, some 22, some 23, some 24, some 20, some 25, some 26, some 5, none, some 6] [[2], [21], [3], [22, 23], [24], [20], [20], [], [5, 25], [26]]
    [Is (.agg #[.int .i64 L, .slice J n cj, .slice K m ck]), CopS L js ks n m, Is (.agg #[.int .i64 (p1), .int .i64 (p2)]), Is (.tuple #[.agg #[.int .i64 0, .slice none 0 0, .slice none 0 0], .int .i64 z]), Is (.tuple #[.agg #[.int .i64 0, .slice none 0 0, .slice none 0 0], .int .i64 z]), Is (.agg #[.int .i64 0, .slice none 0 0, .slice none 0 0]), Is (.int .i64 (z)), NewP W2.heap.size 25 #[.int .i64 0, .slice none 0 0, .slice none 0 0], fun _ _ => True, Is (.int .i64 (z))]
    (by kernel_rfl) (by kernel_rfl) (by kernel_rfl) (by kernel_rfl) (by kernel_rfl) (by kernel_rfl) (by kernel_rfl) (by kernel_rfl) (by kernel_rfl) Ext (fun W => Ext W2 W)
    (fun W _ => Ext.refl W) (fun W W' h k => h.trans k) (fun W W' h => h.size) ?_ (Ext.drew _) ?_ ?_
  · repeat (refine ⟨fun _ _ _ _ k h => (by first | exact h | exact (by first | exact IntsAt.ext h k | exact NewP.ext h k | exact CopS.ext h k | exact CopP.ext h k | exact CopL.ext h k | exact AftT.ext h k)), ?_⟩)
    exact trivial
  · refine ⟨?_, ?_, ?_, ?_, ?_, ?_, ?_, ?_, ?_, trivial⟩
    · intro ρ W ⟨kc, kg, kf⟩ hF hs
      obtain ⟨h0, -⟩ := hs
      replace h0 : ρ (.tmp 2) = .pointer (some ⟨w.heap.size, 0, none⟩) := h0
      have hc0 : W.cell? ⟨w.heap.size, 0, none⟩ = some (.int .i64 L) := hF.cell (by assumption)
      have hc1 : W.cell? ⟨w.heap.size, 1, none⟩ = some (.slice J n cj) := hF.cell (by assumption)
      have hc2 : W.cell? ⟨w.heap.size, 2, none⟩ = some (.slice K m ck) := hF.cell (by assumption)
      go_simp
      exact ⟨Ext.refl _, rfl⟩
    · intro ρ W ⟨kc, kg, kf⟩ hF hs
      obtain ⟨h0, -⟩ := hs
      replace h0 : ρ (.tmp 21) = .agg #[.int .i64 L, .slice J n cj, .slice K m ck] := h0
      go_simp
      refine (HCP.out _ (X.out.trans hF)).mono ?_; rintro e w' ⟨v, rfl, hc, hx⟩; exact ⟨_, rfl, hx, CopS.of hc⟩
    · intro ρ W ⟨kc, kg, kf⟩ hF hs
      obtain ⟨h0, -⟩ := hs
      replace h0 : ρ (.tmp 3) = .pointer (some ⟨w.heap.size + 1, 0, none⟩) := h0
      have hc0 : W.cell? ⟨w.heap.size + 1, 0, none⟩ = some (.int .i64 (p1)) := hF.cell (by assumption)
      have hc1 : W.cell? ⟨w.heap.size + 1, 1, none⟩ = some (.int .i64 (p2)) := hF.cell (by assumption)
      go_simp
      exact ⟨Ext.refl _, rfl⟩
    · intro ρ W ⟨kc, kg, kf⟩ hF hs
      obtain ⟨h0, h1, -⟩ := hs
      replace h0 : (CopS L js ks n m) (ρ (.tmp 22)) W := h0
      replace h1 : ρ (.tmp 23) = .agg #[.int .i64 (p1), .int .i64 (p2)] := h1
      obtain ⟨J1, c1, K1, d1, e1, r1, s1, n1, m1⟩ := h0
      replace e1 : ρ (.tmp 22) = .agg #[.int .i64 L, .slice J1 n c1, .slice K1 m d1] := e1
      go_simp
      refine (HRL.out _ J1 c1 K1 d1 r1 s1 n1).mono ?_; rintro e w' ⟨rfl, hx⟩; exact ⟨_, rfl, hx, rfl⟩
    · intro ρ W ⟨kc, kg, kf⟩ hF hs
      obtain ⟨h0, -⟩ := hs
      replace h0 : ρ (.tmp 24) = .tuple #[.agg #[.int .i64 0, .slice none 0 0, .slice none 0 0], .int .i64 z] := h0
      go_simp
      exact ⟨Ext.refl _, rfl⟩
    · intro ρ W ⟨kc, kg, kf⟩ hF hs
      obtain ⟨h0, -⟩ := hs
      replace h0 : ρ (.tmp 20) = .tuple #[.agg #[.int .i64 0, .slice none 0 0, .slice none 0 0], .int .i64 z] := h0
      go_simp
      exact ⟨Ext.refl _, rfl⟩
    · refine ⟨rfl, fun ρ W ⟨kc, kg, kf⟩ hF hs W' => ?_⟩
      obtain ⟨h0, -⟩ := hs
      replace h0 : ρ (.tmp 20) = .tuple #[.agg #[.int .i64 0, .slice none 0 0, .slice none 0 0], .int .i64 z] := h0
      go_simp
    · intro ρ W ⟨kc, kg, kf⟩ hF hs
      exact ⟨W.alloc (.cells #[.int .i64 0, .slice none 0 0, .slice none 0 0] 25), (by go_simp), by simp, Ext.alloc _ _, _, rfl, hF.size, Blk.new _ _ _⟩
    · refine ⟨rfl, fun ρ W ⟨kc, kg, kf⟩ hF hs W' => ?_⟩
      obtain ⟨h0, -⟩ := hs
      replace h0 : ρ (.tmp 26) = .int .i64 (z) := h0
      go_simp
  · intro fv U hF hs hap σ hσ ρ ⟨kc, kg, kf⟩ hr
    obtain ⟨-, -, -, -, -, h25, h26, h5, h6, -⟩ := hs
    replace h25 : fv 25 = .agg #[.int .i64 0, .slice none 0 0, .slice none 0 0] := h25
    replace h26 : fv 26 = .int .i64 (z) := h26
    replace h5 : (NewP W2.heap.size 25 #[.int .i64 0, .slice none 0 0, .slice none 0 0]) (fv 5) U := h5
    replace h6 : fv 6 = .int .i64 (z) := h6
    obtain ⟨r0, r1, -⟩ := hr
    replace r0 : ρ (.tmp 5) = fv 5 := r0
    replace r1 : ρ (.tmp 25) = .agg #[.int .i64 0, .slice none 0 0, .slice none 0 0] := r1.trans h25
    obtain ⟨q5, hq5, hqs5, hb5⟩ := h5
    rw [hq5] at r0
    have f5_0 := hb5.free 0
    have c5_0 : U.cell? ⟨q5, 0, none⟩ = some (.int .i64 0) := hb5.cell 0
    have f5_1 := hb5.free 1
    have c5_1 : U.cell? ⟨q5, 1, none⟩ = some (.slice none 0 0) := hb5.cell 1
    have f5_2 := hb5.free 2
    have c5_2 : U.cell? ⟨q5, 2, none⟩ = some (.slice none 0 0) := hb5.cell 2
    refine stores_one _ rfl hσ (((U.setCell ⟨q5, 0, none⟩ (.int .i64 0)).setCell ⟨q5, 1, none⟩ (.slice none 0 0)).setCell ⟨q5, 2, none⟩ (.slice none 0 0)) (by go_simp) ?_
    obtain ⟨V1, hV1⟩ : ∃ Vx, Vx = ((U.setCell ⟨q5, 0, none⟩ (.int .i64 0)).setCell ⟨q5, 1, none⟩ (.slice none 0 0)).setCell ⟨q5, 2, none⟩ (.slice none 0 0) := ⟨_, rfl⟩
    rw [← hV1]
    have K5 := Lib.hid (show Blk V1 q5 25 #[.int .i64 0, .slice none 0 0, .slice none 0 0] by rw [hV1]; exact ((hb5.setSame 0 _).setSame 1 _).setSame 2 _)
    have XN := Lib.hid (show Ext W2 V1 by rw [hV1]; exact Ext.set (Ext.set (Ext.set hF (by dsimp only; exact hqs5) _) (by dsimp only; exact hqs5) _) (by dsimp only; exact hqs5) _)
    have L5 := Lib.hid hqs5
    clear f5_0 c5_0 f5_1 c5_1 f5_2 c5_2
    clear hV1 hF hap hσ r0 r1 kc kg kf hb5 hqs5
    simp only [fin, List.filterMap]
    go_simp
    try rw [hq5]
    clear hq5
    clear ρ σ h25 h26 h6
    have hx := XN.out
    replace X := Lib.hid (X.out.trans hx)
    replace Ky0 := Lib.hid (Ky0.out.ext hx)
    replace Ky1 := Lib.hid (Ky1.out.ext hx)
    clear hx y0_0 y0_1 y0_2 y1_0 y1_1
    have Ky5 := K5
    clear K5 XN L5 HRL
    have y0_0 : V1.cell? ⟨w.heap.size, 0, none⟩ = some (.int .i64 L) := Ky0.out.cell 0
    have y0_1 : V1.cell? ⟨w.heap.size, 1, none⟩ = some (.slice J n cj) := Ky0.out.cell 1
    have y0_2 : V1.cell? ⟨w.heap.size, 2, none⟩ = some (.slice K m ck) := Ky0.out.cell 2
    have y1_0 : V1.cell? ⟨w.heap.size + 1, 0, none⟩ = some (.int .i64 p1) := Ky1.out.cell 0
    have y1_1 : V1.cell? ⟨w.heap.size + 1, 1, none⟩ = some (.int .i64 p2) := Ky1.out.cell 1
    have y5_0 : V1.cell? ⟨q5, 0, none⟩ = some (.int .i64 0) := Ky5.out.cell 0
    have y5_1 : V1.cell? ⟨q5, 1, none⟩ = some (.slice none 0 0) := Ky5.out.cell 1
    have y5_2 : V1.cell? ⟨q5, 2, none⟩ = some (.slice none 0 0) := Ky5.out.cell 2
    go_wp2_with (go_at_call 27; refine (HSE.out _ X.out).mono ?_; rintro e W3 ⟨rfl, hx⟩; replace X := Lib.hid (X.out.trans hx); replace Ky0 := Lib.hid (Ky0.out.ext hx); replace Ky1 := Lib.hid (Ky1.out.ext hx); replace Ky5 := Lib.hid (Ky5.out.ext hx); clear hx y0_0 y0_1 y0_2 y1_0 y1_1 y5_0 y5_1 y5_2; refine Hid.out ?_)
    refine Lib.hid ?_
    have y0_0 : W3.cell? ⟨w.heap.size, 0, none⟩ = some (.int .i64 L) := Ky0.out.cell 0
    have y0_1 : W3.cell? ⟨w.heap.size, 1, none⟩ = some (.slice J n cj) := Ky0.out.cell 1
    have y0_2 : W3.cell? ⟨w.heap.size, 2, none⟩ = some (.slice K m ck) := Ky0.out.cell 2
    have y1_0 : W3.cell? ⟨w.heap.size + 1, 0, none⟩ = some (.int .i64 p1) := Ky1.out.cell 0
    have y1_1 : W3.cell? ⟨w.heap.size + 1, 1, none⟩ = some (.int .i64 p2) := Ky1.out.cell 1
    have y5_0 : W3.cell? ⟨q5, 0, none⟩ = some (.int .i64 0) := Ky5.out.cell 0
    have y5_1 : W3.cell? ⟨q5, 1, none⟩ = some (.slice none 0 0) := Ky5.out.cell 1
    have y5_2 : W3.cell? ⟨q5, 2, none⟩ = some (.slice none 0 0) := Ky5.out.cell 2
    clear HSE
    go_wp2_with (go_at_call 31; refine (HSM.out _).mono ?_; rintro e W5 ⟨rfl, hx⟩; replace X := Lib.hid (X.out.trans hx); replace Ky0 := Lib.hid (Ky0.out.ext hx); replace Ky1 := Lib.hid (Ky1.out.ext hx); replace Ky5 := Lib.hid (Ky5.out.ext hx); clear hx y0_0 y0_1 y0_2 y1_0 y1_1 y5_0 y5_1 y5_2; refine Hid.out ?_)
    refine Lib.hid ?_
    have y0_0 : W5.cell? ⟨w.heap.size, 0, none⟩ = some (.int .i64 L) := Ky0.out.cell 0
    have y0_1 : W5.cell? ⟨w.heap.size, 1, none⟩ = some (.slice J n cj) := Ky0.out.cell 1
    have y0_2 : W5.cell? ⟨w.heap.size, 2, none⟩ = some (.slice K m ck) := Ky0.out.cell 2
    have y1_0 : W5.cell? ⟨w.heap.size + 1, 0, none⟩ = some (.int .i64 p1) := Ky1.out.cell 0
    have y1_1 : W5.cell? ⟨w.heap.size + 1, 1, none⟩ = some (.int .i64 p2) := Ky1.out.cell 1
    have y5_0 : W5.cell? ⟨q5, 0, none⟩ = some (.int .i64 0) := Ky5.out.cell 0
    have y5_1 : W5.cell? ⟨q5, 1, none⟩ = some (.slice none 0 0) := Ky5.out.cell 1
    have y5_2 : W5.cell? ⟨q5, 2, none⟩ = some (.slice none 0 0) := Ky5.out.cell 2
    go_wp2
    go_ret
    exact ⟨rfl, X.out⟩

set_option maxRecDepth 100000 in
set_option maxHeartbeats 4000000 in
theorem rel_badP {L : Int} {J K : Option Addr} {n m cj ck : Nat} {js : List Int} {ks : List Rg} {w : World} (hn : js.length = n) (hJ : RowsAt 1 I1 w J js) (hm : ks.length = m) (hK : RowsAt 2 Rg.enc w K ks) {p1 p2 z : Int} (hjn : J = none → cj = 0) (hkn : K = none → ck = 0) (h : n ≤ 6 ∧ m ≤ 6) (ln : n ≤ maxLen) (lm : m ≤ maxLen) (h1 : (checkS L js ks).2 = 0) (h2 : endsE 0 1000 (p1, p2) = z) (hz : z ≠ 0) :
    Calls Try.prog 5 #[.agg #[.int .i64 L, .slice J n cj, .slice K m ck], .agg #[.int .i64 p1, .int .i64 p2]] w fun e w' => e = .returned (.bool true) ∧ Ext w w' := by
  have hcv : rlE L js ks (p1, p2) = z := by unfold rlE; rw [h1]; rw [if_neg (by decide), h2]
  have HCP := Lib.hid (fun W (e : Ext w W) => copyShaft_any (L := L) (cj := cj) (ck := ck) hn (hJ.ext e) hm (hK.ext e) hjn hkn (by omega) (by omega))
  have HSE := Lib.hid (fun W (e : Ext w W) => show Calls Try.prog 27 #[.agg #[.int .i64 L, .slice J n cj, .slice K m ck]] W fun e w' => e = .returned (.int .i64 0) ∧ Ext W w' from by have := refShaftErr_any (cj := cj) (ck := ck) (L := L) hn (hJ.ext e) hm (hK.ext e); rw [h1] at this; exact this)
  have HPA := Lib.hid (fun W => show Calls Try.prog 30 #[.agg #[.int .i64 p1, .int .i64 p2]] W fun e w' => e = .returned (.int .i64 z) ∧ Ext W w' from by have := partsErr_any p1 p2 W; rw [h2] at this; exact this)
  have HRL := Lib.hid (fun W J1 c1 K1 d1 (r1 : RowsAt 1 I1 W J1 js) (s1 : RowsAt 2 Rg.enc W K1 ks) (n1 : J1 = none → c1 = 0) => show Calls Try.prog 29 #[.agg #[.int .i64 L, .slice J1 n c1, .slice K1 m d1], .agg #[.int .i64 p1, .int .i64 p2]] W fun e w' => e = .returned (.tuple #[.agg #[.int .i64 0, .slice none 0 0, .slice none 0 0], .int .i64 z]) ∧ Ext W w' from by
    have h := relieved29_any (L := L) (ck := d1) (p1 := p1) (p2 := p2) hn r1 hm s1 n1
    rw [hcv] at h
    refine h.mono ?_
    rintro e w' ⟨v, h1, h2, h3⟩
    rw [AftV, if_neg hz] at h2
    subst h2
    exact ⟨h1, h3⟩)
  have HSM := Lib.hid (show ∀ W, Calls Try.prog 31 #[.agg #[.int .i64 0, .slice none 0 0, .slice none 0 0], .agg #[.int .i64 0, .slice none 0 0, .slice none 0 0]] W fun e w' => e = .returned (.bool true) ∧ Ext W w' from fun W => (same_any (js := []) (ks := []) (js2 := []) (ks2 := []) (L := 0) (L2 := 0) (n := 0) (m := 0) (n2 := 0) (m2 := 0) rfl (rowsNil 1 I1 W) rfl (rowsNil 2 Rg.enc W) rfl (rowsNil 1 I1 W) rfl (rowsNil 2 Rg.enc W)).mono (by rintro e w' ⟨b, rfl, hb, hx⟩; exact ⟨by rw [hb.2 ⟨rfl, rfl, rfl⟩], hx⟩))
  have HFEW := Lib.hid (fun W => show Calls Try.prog 14 #[.agg #[.int .i64 L, .slice J n cj, .slice K m ck]] W fun e w' => e = .returned (.bool true) ∧ Ext W w' from by have := few_any (L := L) (J := J) (K := K) (n := n) (m := m) (cj := cj) (ck := ck) W ln lm; rw [show few2 n m = true by simp [few2, h.1, h.2]] at this; exact this)
  have hz1 : (z == 0) = false := by simp [hz]
  have hz2 : (z != 0) = true := by simp [hz]
  clear h hn hJ hm hK hjn hkn hcv h1 h2 hz ln lm
  obtain ⟨W0, hW0⟩ : ∃ W0, W0 = (w.alloc (.cells #[.int .i64 L, .slice J n cj, .slice K m ck] 25)).alloc (.cells #[.int .i64 p1, .int .i64 p2] 33) := ⟨_, rfl⟩
  have Ky0 := Lib.hid (show Blk W0 (w.heap.size) 25 #[.int .i64 L, .slice J n cj, .slice K m ck] by rw [hW0]; exact (Blk.new _ _ _).alloc _)
  have Ky1 := Lib.hid (show Blk W0 (w.heap.size + 1) 33 #[.int .i64 p1, .int .i64 p2] by rw [hW0]; exact Blk.newAt _ _ _ (by simp))
  have X := Lib.hid (show Ext w W0 by rw [hW0]; exact (Ext.alloc _ _).trans (Ext.alloc _ _))
  have y0_0 : W0.cell? ⟨w.heap.size, 0, none⟩ = some (.int .i64 L) := Ky0.out.cell 0
  have y0_1 : W0.cell? ⟨w.heap.size, 1, none⟩ = some (.slice J n cj) := Ky0.out.cell 1
  have y0_2 : W0.cell? ⟨w.heap.size, 2, none⟩ = some (.slice K m ck) := Ky0.out.cell 2
  have y1_0 : W0.cell? ⟨w.heap.size + 1, 0, none⟩ = some (.int .i64 p1) := Ky1.out.cell 0
  have y1_1 : W0.cell? ⟨w.heap.size + 1, 1, none⟩ = some (.int .i64 p2) := Ky1.out.cell 1
  go_enter Try.func5, Try.ntmps5
  go_upto_region 1 with (fail)
  rw [← hW0]
  clear hW0
  go_wp2_with (go_at_call 13; refine (awake_any _).mono ?_; rintro e W1 ⟨rfl, hx⟩; replace X := Lib.hid (X.out.trans hx); replace Ky0 := Lib.hid (Ky0.out.ext hx); replace Ky1 := Lib.hid (Ky1.out.ext hx); clear hx y0_0 y0_1 y0_2 y1_0 y1_1; refine Hid.out ?_)
  refine Lib.hid ?_
  have y0_0 : W1.cell? ⟨w.heap.size, 0, none⟩ = some (.int .i64 L) := Ky0.out.cell 0
  have y0_1 : W1.cell? ⟨w.heap.size, 1, none⟩ = some (.slice J n cj) := Ky0.out.cell 1
  have y0_2 : W1.cell? ⟨w.heap.size, 2, none⟩ = some (.slice K m ck) := Ky0.out.cell 2
  have y1_0 : W1.cell? ⟨w.heap.size + 1, 0, none⟩ = some (.int .i64 p1) := Ky1.out.cell 0
  have y1_1 : W1.cell? ⟨w.heap.size + 1, 1, none⟩ = some (.int .i64 p2) := Ky1.out.cell 1
  go_wp2_with (go_at_call 14; refine (HFEW.out _).mono ?_; rintro e W2 ⟨rfl, hx⟩; replace X := Lib.hid (X.out.trans hx); replace Ky0 := Lib.hid (Ky0.out.ext hx); replace Ky1 := Lib.hid (Ky1.out.ext hx); clear hx y0_0 y0_1 y0_2 y1_0 y1_1; refine Hid.out ?_)
  refine Lib.hid ?_
  have y0_0 : W2.cell? ⟨w.heap.size, 0, none⟩ = some (.int .i64 L) := Ky0.out.cell 0
  have y0_1 : W2.cell? ⟨w.heap.size, 1, none⟩ = some (.slice J n cj) := Ky0.out.cell 1
  have y0_2 : W2.cell? ⟨w.heap.size, 2, none⟩ = some (.slice K m ck) := Ky0.out.cell 2
  have y1_0 : W2.cell? ⟨w.heap.size + 1, 0, none⟩ = some (.int .i64 p1) := Ky1.out.cell 0
  have y1_1 : W2.cell? ⟨w.heap.size + 1, 1, none⟩ = some (.int .i64 p2) := Ky1.out.cell 1
  clear HFEW
  go_upto_region 5 with (fail)
  refine wp_region_free [.op, .op, .op, .op, .op, .op, .late (.int .i64 (z)), .new, .store, .late (.int .i64 (z))] [8] [5, 25] [5] [some 21, some 22, some 23, some 24, some 20, some 25, some 26, some 5, none, some 6] [[2], [21], [3], [22, 23], [24], [20], [20], [], [5, 25], [26]]
    [Is (.agg #[.int .i64 L, .slice J n cj, .slice K m ck]), CopS L js ks n m, Is (.agg #[.int .i64 (p1), .int .i64 (p2)]), Is (.tuple #[.agg #[.int .i64 0, .slice none 0 0, .slice none 0 0], .int .i64 z]), Is (.tuple #[.agg #[.int .i64 0, .slice none 0 0, .slice none 0 0], .int .i64 z]), Is (.agg #[.int .i64 0, .slice none 0 0, .slice none 0 0]), Is (.int .i64 (z)), NewP W2.heap.size 25 #[.int .i64 0, .slice none 0 0, .slice none 0 0], fun _ _ => True, Is (.int .i64 (z))]
    (by kernel_rfl) (by kernel_rfl) (by kernel_rfl) (by kernel_rfl) (by kernel_rfl) (by kernel_rfl) (by kernel_rfl) (by kernel_rfl) (by kernel_rfl) Ext (fun W => Ext W2 W)
    (fun W _ => Ext.refl W) (fun W W' h k => h.trans k) (fun W W' h => h.size) ?_ (Ext.drew _) ?_ ?_
  · repeat (refine ⟨fun _ _ _ _ k h => (by first | exact h | exact (by first | exact IntsAt.ext h k | exact NewP.ext h k | exact CopS.ext h k | exact CopP.ext h k | exact CopL.ext h k | exact AftT.ext h k)), ?_⟩)
    exact trivial
  · refine ⟨?_, ?_, ?_, ?_, ?_, ?_, ?_, ?_, ?_, trivial⟩
    · intro ρ W ⟨kc, kg, kf⟩ hF hs
      obtain ⟨h0, -⟩ := hs
      replace h0 : ρ (.tmp 2) = .pointer (some ⟨w.heap.size, 0, none⟩) := h0
      have hc0 : W.cell? ⟨w.heap.size, 0, none⟩ = some (.int .i64 L) := hF.cell (by assumption)
      have hc1 : W.cell? ⟨w.heap.size, 1, none⟩ = some (.slice J n cj) := hF.cell (by assumption)
      have hc2 : W.cell? ⟨w.heap.size, 2, none⟩ = some (.slice K m ck) := hF.cell (by assumption)
      go_simp
      exact ⟨Ext.refl _, rfl⟩
    · intro ρ W ⟨kc, kg, kf⟩ hF hs
      obtain ⟨h0, -⟩ := hs
      replace h0 : ρ (.tmp 21) = .agg #[.int .i64 L, .slice J n cj, .slice K m ck] := h0
      go_simp
      refine (HCP.out _ (X.out.trans hF)).mono ?_; rintro e w' ⟨v, rfl, hc, hx⟩; exact ⟨_, rfl, hx, CopS.of hc⟩
    · intro ρ W ⟨kc, kg, kf⟩ hF hs
      obtain ⟨h0, -⟩ := hs
      replace h0 : ρ (.tmp 3) = .pointer (some ⟨w.heap.size + 1, 0, none⟩) := h0
      have hc0 : W.cell? ⟨w.heap.size + 1, 0, none⟩ = some (.int .i64 (p1)) := hF.cell (by assumption)
      have hc1 : W.cell? ⟨w.heap.size + 1, 1, none⟩ = some (.int .i64 (p2)) := hF.cell (by assumption)
      go_simp
      exact ⟨Ext.refl _, rfl⟩
    · intro ρ W ⟨kc, kg, kf⟩ hF hs
      obtain ⟨h0, h1, -⟩ := hs
      replace h0 : (CopS L js ks n m) (ρ (.tmp 22)) W := h0
      replace h1 : ρ (.tmp 23) = .agg #[.int .i64 (p1), .int .i64 (p2)] := h1
      obtain ⟨J1, c1, K1, d1, e1, r1, s1, n1, m1⟩ := h0
      replace e1 : ρ (.tmp 22) = .agg #[.int .i64 L, .slice J1 n c1, .slice K1 m d1] := e1
      go_simp
      refine (HRL.out _ J1 c1 K1 d1 r1 s1 n1).mono ?_; rintro e w' ⟨rfl, hx⟩; exact ⟨_, rfl, hx, rfl⟩
    · intro ρ W ⟨kc, kg, kf⟩ hF hs
      obtain ⟨h0, -⟩ := hs
      replace h0 : ρ (.tmp 24) = .tuple #[.agg #[.int .i64 0, .slice none 0 0, .slice none 0 0], .int .i64 z] := h0
      go_simp
      exact ⟨Ext.refl _, rfl⟩
    · intro ρ W ⟨kc, kg, kf⟩ hF hs
      obtain ⟨h0, -⟩ := hs
      replace h0 : ρ (.tmp 20) = .tuple #[.agg #[.int .i64 0, .slice none 0 0, .slice none 0 0], .int .i64 z] := h0
      go_simp
      exact ⟨Ext.refl _, rfl⟩
    · refine ⟨rfl, fun ρ W ⟨kc, kg, kf⟩ hF hs W' => ?_⟩
      obtain ⟨h0, -⟩ := hs
      replace h0 : ρ (.tmp 20) = .tuple #[.agg #[.int .i64 0, .slice none 0 0, .slice none 0 0], .int .i64 z] := h0
      go_simp
    · intro ρ W ⟨kc, kg, kf⟩ hF hs
      exact ⟨W.alloc (.cells #[.int .i64 0, .slice none 0 0, .slice none 0 0] 25), (by go_simp), by simp, Ext.alloc _ _, _, rfl, hF.size, Blk.new _ _ _⟩
    · refine ⟨rfl, fun ρ W ⟨kc, kg, kf⟩ hF hs W' => ?_⟩
      obtain ⟨h0, -⟩ := hs
      replace h0 : ρ (.tmp 26) = .int .i64 (z) := h0
      go_simp
  · intro fv U hF hs hap σ hσ ρ ⟨kc, kg, kf⟩ hr
    obtain ⟨-, -, -, -, -, h25, h26, h5, h6, -⟩ := hs
    replace h25 : fv 25 = .agg #[.int .i64 0, .slice none 0 0, .slice none 0 0] := h25
    replace h26 : fv 26 = .int .i64 (z) := h26
    replace h5 : (NewP W2.heap.size 25 #[.int .i64 0, .slice none 0 0, .slice none 0 0]) (fv 5) U := h5
    replace h6 : fv 6 = .int .i64 (z) := h6
    obtain ⟨r0, r1, -⟩ := hr
    replace r0 : ρ (.tmp 5) = fv 5 := r0
    replace r1 : ρ (.tmp 25) = .agg #[.int .i64 0, .slice none 0 0, .slice none 0 0] := r1.trans h25
    obtain ⟨q5, hq5, hqs5, hb5⟩ := h5
    rw [hq5] at r0
    have f5_0 := hb5.free 0
    have c5_0 : U.cell? ⟨q5, 0, none⟩ = some (.int .i64 0) := hb5.cell 0
    have f5_1 := hb5.free 1
    have c5_1 : U.cell? ⟨q5, 1, none⟩ = some (.slice none 0 0) := hb5.cell 1
    have f5_2 := hb5.free 2
    have c5_2 : U.cell? ⟨q5, 2, none⟩ = some (.slice none 0 0) := hb5.cell 2
    refine stores_one _ rfl hσ (((U.setCell ⟨q5, 0, none⟩ (.int .i64 0)).setCell ⟨q5, 1, none⟩ (.slice none 0 0)).setCell ⟨q5, 2, none⟩ (.slice none 0 0)) (by go_simp) ?_
    obtain ⟨V1, hV1⟩ : ∃ Vx, Vx = ((U.setCell ⟨q5, 0, none⟩ (.int .i64 0)).setCell ⟨q5, 1, none⟩ (.slice none 0 0)).setCell ⟨q5, 2, none⟩ (.slice none 0 0) := ⟨_, rfl⟩
    rw [← hV1]
    have K5 := Lib.hid (show Blk V1 q5 25 #[.int .i64 0, .slice none 0 0, .slice none 0 0] by rw [hV1]; exact ((hb5.setSame 0 _).setSame 1 _).setSame 2 _)
    have XN := Lib.hid (show Ext W2 V1 by rw [hV1]; exact Ext.set (Ext.set (Ext.set hF (by dsimp only; exact hqs5) _) (by dsimp only; exact hqs5) _) (by dsimp only; exact hqs5) _)
    have L5 := Lib.hid hqs5
    clear f5_0 c5_0 f5_1 c5_1 f5_2 c5_2
    clear hV1 hF hap hσ r0 r1 kc kg kf hb5 hqs5
    simp only [fin, List.filterMap]
    go_simp
    try rw [hq5]
    clear hq5
    clear ρ σ h25 h26 h6
    have hx := XN.out
    replace X := Lib.hid (X.out.trans hx)
    replace Ky0 := Lib.hid (Ky0.out.ext hx)
    replace Ky1 := Lib.hid (Ky1.out.ext hx)
    clear hx y0_0 y0_1 y0_2 y1_0 y1_1
    have Ky5 := K5
    clear K5 XN L5 HRL
    have y0_0 : V1.cell? ⟨w.heap.size, 0, none⟩ = some (.int .i64 L) := Ky0.out.cell 0
    have y0_1 : V1.cell? ⟨w.heap.size, 1, none⟩ = some (.slice J n cj) := Ky0.out.cell 1
    have y0_2 : V1.cell? ⟨w.heap.size, 2, none⟩ = some (.slice K m ck) := Ky0.out.cell 2
    have y1_0 : V1.cell? ⟨w.heap.size + 1, 0, none⟩ = some (.int .i64 p1) := Ky1.out.cell 0
    have y1_1 : V1.cell? ⟨w.heap.size + 1, 1, none⟩ = some (.int .i64 p2) := Ky1.out.cell 1
    have y5_0 : V1.cell? ⟨q5, 0, none⟩ = some (.int .i64 0) := Ky5.out.cell 0
    have y5_1 : V1.cell? ⟨q5, 1, none⟩ = some (.slice none 0 0) := Ky5.out.cell 1
    have y5_2 : V1.cell? ⟨q5, 2, none⟩ = some (.slice none 0 0) := Ky5.out.cell 2
    go_wp2_with (go_at_call 27; refine (HSE.out _ X.out).mono ?_; rintro e W3 ⟨rfl, hx⟩; replace X := Lib.hid (X.out.trans hx); replace Ky0 := Lib.hid (Ky0.out.ext hx); replace Ky1 := Lib.hid (Ky1.out.ext hx); replace Ky5 := Lib.hid (Ky5.out.ext hx); clear hx y0_0 y0_1 y0_2 y1_0 y1_1 y5_0 y5_1 y5_2; refine Hid.out ?_)
    refine Lib.hid ?_
    have y0_0 : W3.cell? ⟨w.heap.size, 0, none⟩ = some (.int .i64 L) := Ky0.out.cell 0
    have y0_1 : W3.cell? ⟨w.heap.size, 1, none⟩ = some (.slice J n cj) := Ky0.out.cell 1
    have y0_2 : W3.cell? ⟨w.heap.size, 2, none⟩ = some (.slice K m ck) := Ky0.out.cell 2
    have y1_0 : W3.cell? ⟨w.heap.size + 1, 0, none⟩ = some (.int .i64 p1) := Ky1.out.cell 0
    have y1_1 : W3.cell? ⟨w.heap.size + 1, 1, none⟩ = some (.int .i64 p2) := Ky1.out.cell 1
    have y5_0 : W3.cell? ⟨q5, 0, none⟩ = some (.int .i64 0) := Ky5.out.cell 0
    have y5_1 : W3.cell? ⟨q5, 1, none⟩ = some (.slice none 0 0) := Ky5.out.cell 1
    have y5_2 : W3.cell? ⟨q5, 2, none⟩ = some (.slice none 0 0) := Ky5.out.cell 2
    go_wp2_with (go_at_call 30; refine (HPA.out _).mono ?_; rintro e W4 ⟨rfl, hx⟩; replace X := Lib.hid (X.out.trans hx); replace Ky0 := Lib.hid (Ky0.out.ext hx); replace Ky1 := Lib.hid (Ky1.out.ext hx); replace Ky5 := Lib.hid (Ky5.out.ext hx); clear hx y0_0 y0_1 y0_2 y1_0 y1_1 y5_0 y5_1 y5_2; refine Hid.out ?_)
    refine Lib.hid ?_
    have y0_0 : W4.cell? ⟨w.heap.size, 0, none⟩ = some (.int .i64 L) := Ky0.out.cell 0
    have y0_1 : W4.cell? ⟨w.heap.size, 1, none⟩ = some (.slice J n cj) := Ky0.out.cell 1
    have y0_2 : W4.cell? ⟨w.heap.size, 2, none⟩ = some (.slice K m ck) := Ky0.out.cell 2
    have y1_0 : W4.cell? ⟨w.heap.size + 1, 0, none⟩ = some (.int .i64 p1) := Ky1.out.cell 0
    have y1_1 : W4.cell? ⟨w.heap.size + 1, 1, none⟩ = some (.int .i64 p2) := Ky1.out.cell 1
    have y5_0 : W4.cell? ⟨q5, 0, none⟩ = some (.int .i64 0) := Ky5.out.cell 0
    have y5_1 : W4.cell? ⟨q5, 1, none⟩ = some (.slice none 0 0) := Ky5.out.cell 1
    have y5_2 : W4.cell? ⟨q5, 2, none⟩ = some (.slice none 0 0) := Ky5.out.cell 2
    clear HSE HPA
    go_wp2_with (go_at_call 31; refine (HSM.out _).mono ?_; rintro e W5 ⟨rfl, hx⟩; replace X := Lib.hid (X.out.trans hx); replace Ky0 := Lib.hid (Ky0.out.ext hx); replace Ky1 := Lib.hid (Ky1.out.ext hx); replace Ky5 := Lib.hid (Ky5.out.ext hx); clear hx y0_0 y0_1 y0_2 y1_0 y1_1 y5_0 y5_1 y5_2; refine Hid.out ?_)
    refine Lib.hid ?_
    have y0_0 : W5.cell? ⟨w.heap.size, 0, none⟩ = some (.int .i64 L) := Ky0.out.cell 0
    have y0_1 : W5.cell? ⟨w.heap.size, 1, none⟩ = some (.slice J n cj) := Ky0.out.cell 1
    have y0_2 : W5.cell? ⟨w.heap.size, 2, none⟩ = some (.slice K m ck) := Ky0.out.cell 2
    have y1_0 : W5.cell? ⟨w.heap.size + 1, 0, none⟩ = some (.int .i64 p1) := Ky1.out.cell 0
    have y1_1 : W5.cell? ⟨w.heap.size + 1, 1, none⟩ = some (.int .i64 p2) := Ky1.out.cell 1
    have y5_0 : W5.cell? ⟨q5, 0, none⟩ = some (.int .i64 0) := Ky5.out.cell 0
    have y5_1 : W5.cell? ⟨q5, 1, none⟩ = some (.slice none 0 0) := Ky5.out.cell 1
    have y5_2 : W5.cell? ⟨q5, 2, none⟩ = some (.slice none 0 0) := Ky5.out.cell 2
    go_wp2
    go_ret
    exact ⟨rfl, X.out⟩

end Go.Proofs.Ytjdilmmpdlcimaa
