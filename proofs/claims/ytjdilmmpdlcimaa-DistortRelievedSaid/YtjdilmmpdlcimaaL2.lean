/- Tempered shafts. -/
import Derived.Test.YtjdilmmpdlcimaaL1
import Derived.Test.YtjdilmmpdlcimaaG4
import Derived.Lib.MinMax
import Derived.Deep.DeepCutAuto
import Derived.Deep.RegionHeld3
import Derived.Deep.AppendLies
import Derived.Deep.RegionLaw
import Derived.BigQuiet

namespace Go.Proofs.Ytjdilmmpdlcimaa
open Go.RowKit Go.Shelf Go.Mem Go.RegInv
attribute [local go_sem] RelUpon_value RelUpon_skip RelUpon_enter BigFrame.eval_const BigFrame.eval_global BigFrame.eval_func


set_option maxRecDepth 100000 in
set_option maxHeartbeats 4000000 in
theorem rel85_any (k : Int) (x : Rg) (p1 p2 : Int) (a : Nat) (hx : -100000 ≤ x.1 ∧ x.1 ≤ x.2 ∧ x.2 ≤ 100000) (hp : 0 ≤ p1 ∧ p1 ≤ p2 ∧ p2 ≤ 1000) {w : World} (c0 : w.cell? ⟨a, 0, none⟩ = some (.int .i64 p1)) (c1 : w.cell? ⟨a, 1, none⟩ = some (.int .i64 p2)) :
    Calls Try.prog 85 #[.int .i64 k, .agg #[.int .i64 x.1, .int .i64 x.2], .pointer (some ⟨a, 0, none⟩)] w fun e w' => e = .returned (.agg #[.int .i64 (relV x (p1, p2)).1, .int .i64 (relV x (p1, p2)).2]) ∧ Ext w w' := by
  obtain ⟨x1, x2⟩ := x
  have HR := Lib.hid (fun W => relieved86_any x1 x2 p1 p2 hx hp W)
  generalize relV (x1, x2) (p1, p2) = rv at *
  obtain ⟨v1, v2⟩ := rv
  dsimp only at HR ⊢
  clear hx hp
  obtain ⟨W0, hW0⟩ : ∃ W0, W0 = (w.alloc (.cells #[.int .i64 x1, .int .i64 x2] 33)).alloc (.cells #[.int .i64 0, .int .i64 0] 33) := ⟨_, rfl⟩
  have K0 := Lib.hid (show Blk W0 (w.heap.size) 33 #[.int .i64 x1, .int .i64 x2] by rw [hW0]; exact (Blk.new _ _ _).alloc _)
  have K1 := Lib.hid (show Blk W0 (w.heap.size + 1) 33 #[.int .i64 0, .int .i64 0] by rw [hW0]; exact Blk.newAt _ _ _ (by simp))
  have E0 := Lib.hid (show Ext w W0 by rw [hW0]; exact (Ext.alloc _ _).trans (Ext.alloc _ _))
  have y0_0 : W0.cell? ⟨w.heap.size, 0, none⟩ = some (.int .i64 x1) := K0.out.cell 0
  have y0_1 : W0.cell? ⟨w.heap.size, 1, none⟩ = some (.int .i64 x2) := K0.out.cell 1
  have y1_0 : W0.cell? ⟨w.heap.size + 1, 0, none⟩ = some (.int .i64 0) := K1.out.cell 0
  have y1_1 : W0.cell? ⟨w.heap.size + 1, 1, none⟩ = some (.int .i64 0) := K1.out.cell 1
  go_enter Try.func85, Try.ntmps85
  go_upto_region 1 with (fail)
  rw [← hW0]
  clear hW0
  have z0 := E0.out.cell c0
  have z1 := E0.out.cell c1
  clear c0 c1
  go_wp2_with (go_at_call 86; refine (HR.out _).mono ?_; rintro e W1 ⟨rfl, hx⟩; have X := Lib.hid (E0.out.trans hx); replace K1 := Lib.hid (K1.out.ext hx); clear hx y0_0 y0_1 y1_0 y1_1 z0 z1; refine Hid.out ?_)
  refine Lib.hid ?_
  have f0 := K1.out.free 0
  have f1 := K1.out.free 1
  have y1_0 : W1.cell? ⟨w.heap.size + 1, 0, none⟩ = some (.int .i64 0) := K1.out.cell 0
  have y1_1 : W1.cell? ⟨w.heap.size + 1, 1, none⟩ = some (.int .i64 0) := K1.out.cell 1
  go_wp2
  exact bodyPost_ret (v := .agg #[.int .i64 v1, .int .i64 v2]) (by simp [results, Try.f85, go_sem, y1_0, y1_1]) rfl ⟨rfl, Ext.set (Ext.set X.out (by dsimp only; omega) _) (by dsimp only; omega) _⟩

set_option maxRecDepth 100000 in
set_option maxHeartbeats 1000000 in
theorem kinked85_any {L : Int} {J K : Option Addr} {n cj ck : Nat} {js : List Int} {ks : List Rg} {w : World} (hn : js.length = n) (hJ : RowsAt 1 I1 w J js) (hm : ks.length = n) (hK : RowsAt 2 Rg.enc w K ks) {cp : Array Value} {F : Nat → Rg → Rg} (hjn : J = none → cj = 0) (hn6 : n ≤ 100)
    (hG : ∀ k x W, k < n → ks.getD k default = x → Ext w W → Calls Try.prog 85 (#[.int .i64 (k : Int), .agg #[.int .i64 x.1, .int .i64 x.2]] ++ cp) W fun e w' => e = .returned (.agg #[.int .i64 (F k x).1, .int .i64 (F k x).2]) ∧ Ext W w') :
    Calls Try.prog 84 #[.agg #[.int .i64 L, .slice J n cj, .slice K n ck], .func (.func 85) #[] cp] w fun e w' => ∃ v, e = .returned v ∧ ShC w.heap.size L js (kinkL F ks n) n n v w' ∧ Ext w w' := by
  have HCL := Lib.hid (fun W (e : Ext w W) => cloneInts_any (ca := cj) hn (hJ.ext e) (by omega) hjn)
  have HG := Lib.hid hG
  have HK := Lib.hid hK
  have HM := Lib.hid hm
  obtain ⟨i33, hi33, hz33, hy33, hw33⟩ := info_parts infoRgG
  have HZ33 := Lib.hid hz33
  clear hn hJ hm hK hG hjn hz33
  obtain ⟨W0, hW0⟩ : ∃ W0, W0 = (w.alloc (.cells #[.int .i64 L, .slice J n cj, .slice K n ck] 130)).alloc (.cells #[.int .i64 0, .slice none 0 0, .slice none 0 0] 130) := ⟨_, rfl⟩
  have K0 := Lib.hid (show Blk W0 (w.heap.size) 130 #[.int .i64 L, .slice J n cj, .slice K n ck] by rw [hW0]; exact (Blk.new _ _ _).alloc _)
  have K1 := Lib.hid (show Blk W0 (w.heap.size + 1) 130 #[.int .i64 0, .slice none 0 0, .slice none 0 0] by rw [hW0]; exact Blk.newAt _ _ _ (by simp))
  have E0 := Lib.hid (show Ext w W0 by rw [hW0]; exact (Ext.alloc _ _).trans (Ext.alloc _ _))
  have y0_0 : W0.cell? ⟨w.heap.size, 0, none⟩ = some (.int .i64 L) := K0.out.cell 0
  have y0_1 : W0.cell? ⟨w.heap.size, 1, none⟩ = some (.slice J n cj) := K0.out.cell 1
  have y0_2 : W0.cell? ⟨w.heap.size, 2, none⟩ = some (.slice K n ck) := K0.out.cell 2
  have y1_0 : W0.cell? ⟨w.heap.size + 1, 0, none⟩ = some (.int .i64 0) := K1.out.cell 0
  have y1_1 : W0.cell? ⟨w.heap.size + 1, 1, none⟩ = some (.slice none 0 0) := K1.out.cell 1
  have y1_2 : W0.cell? ⟨w.heap.size + 1, 2, none⟩ = some (.slice none 0 0) := K1.out.cell 2
  have HSZ := Lib.hid (show W0.heap.size = w.heap.size + 2 by rw [hW0]; simp)
  go_enter Try.func84, Try.ntmps84
  go_wp2
  rw [← hW0]
  clear hW0
  go_wp2
  refine wp_region_free [.op, .op, .op, .op, .op, .op, .op, .op, .new, .store] [9] [5, 15] [5] [some 8, some 9, some 10, some 11, some 12, some 13, some 14, some 15, some 5, none] [[2], [8], [9], [2], [11], [12], [13], [10, 14], [], [5, 15]]
    [Is (.pointer (some ⟨w.heap.size, 0, none⟩)), Is (.pointer (some ⟨w.heap.size, 0, none⟩)), Is (.int .i64 (L)), Is (.pointer (some ⟨w.heap.size, 0, none⟩)), Is (.pointer (some ⟨w.heap.size, 1, none⟩)), Is (.slice J n cj), CloC (w.heap.size + 2) js n, BldC (w.heap.size + 2) L js n, NewP W0.heap.size 25 #[.int .i64 0, .slice none 0 0, .slice none 0 0], fun _ _ => True]
    (by kernel_rfl) (by kernel_rfl) (by kernel_rfl) (by kernel_rfl) (by kernel_rfl) (by kernel_rfl) (by kernel_rfl) (by kernel_rfl) (by kernel_rfl) Ext (fun W => Ext W0 W)
    (fun W _ => Ext.refl W) (fun W W' h k => h.trans k) (fun W W' h => h.size) ?_ (Ext.drew _) ?_ ?_
  · repeat (refine ⟨fun _ _ _ _ k h => (by first | exact h | exact (by first | exact IntsAt.ext h k | exact NewP.ext h k | exact CloC.ext h k | exact BldC.ext h k)), ?_⟩)
    exact trivial
  · refine ⟨?_, ?_, ?_, ?_, ?_, ?_, ?_, ?_, ?_, trivial⟩
    · intro ρ W ⟨kc, kg, kf⟩ hF hs
      obtain ⟨h0, -⟩ := hs
      replace h0 : ρ (.tmp 2) = .pointer (some ⟨w.heap.size, 0, none⟩) := h0
      go_simp
      exact ⟨Ext.refl _, rfl⟩
    · intro ρ W ⟨kc, kg, kf⟩ hF hs
      obtain ⟨h0, -⟩ := hs
      replace h0 : ρ (.tmp 8) = .pointer (some ⟨w.heap.size, 0, none⟩) := h0
      go_simp
      exact ⟨Ext.refl _, rfl⟩
    · intro ρ W ⟨kc, kg, kf⟩ hF hs
      obtain ⟨h0, -⟩ := hs
      replace h0 : ρ (.tmp 9) = .pointer (some ⟨w.heap.size, 0, none⟩) := h0
      have hc0 : W.cell? ⟨w.heap.size, 0, none⟩ = some (.int .i64 (L)) := hF.cell (by assumption)
      go_simp
      exact ⟨Ext.refl _, rfl⟩
    · intro ρ W ⟨kc, kg, kf⟩ hF hs
      obtain ⟨h0, -⟩ := hs
      replace h0 : ρ (.tmp 2) = .pointer (some ⟨w.heap.size, 0, none⟩) := h0
      go_simp
      exact ⟨Ext.refl _, rfl⟩
    · intro ρ W ⟨kc, kg, kf⟩ hF hs
      obtain ⟨h0, -⟩ := hs
      replace h0 : ρ (.tmp 11) = .pointer (some ⟨w.heap.size, 0, none⟩) := h0
      go_simp
      exact ⟨Ext.refl _, rfl⟩
    · intro ρ W ⟨kc, kg, kf⟩ hF hs
      obtain ⟨h0, -⟩ := hs
      replace h0 : ρ (.tmp 12) = .pointer (some ⟨w.heap.size, 1, none⟩) := h0
      have hc0 : W.cell? ⟨w.heap.size, 1, none⟩ = some (.slice J n cj) := hF.cell (by assumption)
      go_simp
      exact ⟨Ext.refl _, rfl⟩
    · intro ρ W ⟨kc, kg, kf⟩ hF hs
      obtain ⟨h0, -⟩ := hs
      replace h0 : ρ (.tmp 13) = .slice J n cj := h0
      go_simp
      refine (HCL.out _ (E0.out.trans hF)).mono ?_; rintro e w' ⟨A', c', rfl, hr, hn1, hl1, hx⟩; exact ⟨_, rfl, hx, A', c', rfl, hr, hn1, fun b o hb => ⟨by have := HSZ.out; have := hF.size; have := (hl1 b o hb).1; omega, (hl1 b o hb).2⟩⟩
    · intro ρ W ⟨kc, kg, kf⟩ hF hs
      obtain ⟨h0, h1, -⟩ := hs
      replace h0 : ρ (.tmp 10) = .int .i64 (L) := h0
      replace h1 : (CloC (w.heap.size + 2) js n) (ρ (.tmp 14)) W := h1
      obtain ⟨A1, c1, e1, r1, n1, b1⟩ := h1
      replace e1 : ρ (.tmp 14) = .slice A1 n c1 := e1
      go_simp
      exact ⟨Ext.refl _, A1, c1, rfl, r1, n1, b1⟩
    · intro ρ W ⟨kc, kg, kf⟩ hF hs
      exact ⟨W.alloc (.cells #[.int .i64 0, .slice none 0 0, .slice none 0 0] 25), (by go_simp), by simp, Ext.alloc _ _, _, rfl, hF.size, Blk.new _ _ _⟩
  · intro fv U hF hs hap σ hσ ρ ⟨kc, kg, kf⟩ hr
    obtain ⟨-, -, -, -, -, -, -, h15, h5, -⟩ := hs
    replace h15 : (BldC (w.heap.size + 2) L js n) (fv 15) U := h15
    replace h5 : (NewP W0.heap.size 25 #[.int .i64 0, .slice none 0 0, .slice none 0 0]) (fv 5) U := h5
    obtain ⟨r0, r1, -⟩ := hr
    replace r0 : ρ (.tmp 5) = fv 5 := r0
    replace r1 : ρ (.tmp 15) = fv 15 := r1
    obtain ⟨J2, c2, hv15, hr15, hn15, hb15⟩ := h15
    rw [hv15] at r1
    obtain ⟨q5, hq5, hqs5, hb5⟩ := h5
    rw [hq5] at r0
    have f5_0 := hb5.free 0
    have c5_0 : U.cell? ⟨q5, 0, none⟩ = some (.int .i64 0) := hb5.cell 0
    have f5_1 := hb5.free 1
    have c5_1 : U.cell? ⟨q5, 1, none⟩ = some (.slice none 0 0) := hb5.cell 1
    have f5_2 := hb5.free 2
    have c5_2 : U.cell? ⟨q5, 2, none⟩ = some (.slice none 0 0) := hb5.cell 2
    refine stores_one _ rfl hσ (((U.setCell ⟨q5, 0, none⟩ (.int .i64 L)).setCell ⟨q5, 1, none⟩ (.slice J2 n c2)).setCell ⟨q5, 2, none⟩ (.slice none 0 0)) (by go_simp) ?_
    obtain ⟨V, hV⟩ : ∃ Vx, Vx = ((U.setCell ⟨q5, 0, none⟩ (.int .i64 L)).setCell ⟨q5, 1, none⟩ (.slice J2 n c2)).setCell ⟨q5, 2, none⟩ (.slice none 0 0) := ⟨_, rfl⟩
    rw [← hV]
    have K5 := Lib.hid (show Blk V q5 25 #[.int .i64 L, .slice J2 n c2, .slice none 0 0] by rw [hV]; exact ((hb5.setSame 0 _).setSame 1 _).setSame 2 _)
    have XN := Lib.hid (show Ext W0 V by rw [hV]; exact Ext.set (Ext.set (Ext.set hF (by dsimp only; exact hqs5) _) (by dsimp only; exact hqs5) _) (by dsimp only; exact hqs5) _)
    have L5 := Lib.hid hqs5
    have hne15 : ∀ b o, J2 = some ⟨b, o, none⟩ → b ≠ q5 := fun b o hb he => by obtain ⟨_, cu, hcu⟩ := hb15 b o hb; rw [he] at hcu; unfold Blk at hcu; have h2 : U.heap[q5]? = _ := hb5; rw [h2] at hcu; simp at hcu
    have HJ2 := Lib.hid (show RowsAt 1 I1 V J2 js by rw [hV]; exact rows_setOther (rows_setOther (rows_setOther hr15 hne15 _) hne15 _) hne15 _)
    have HJN := Lib.hid hn15
    have HJB := Lib.hid (fun b o hb => (hb15 b o hb).1)
    have HTY := Lib.hid (show ∀ b o, J2 = some ⟨b, o, none⟩ → ∃ cu, Blk V b 3 cu from fun b o hb => by obtain ⟨_, cu, hcu⟩ := hb15 b o hb; exact ⟨cu, by rw [hV]; exact ((hcu.setOther (hne15 b o hb) _).setOther (hne15 b o hb) _).setOther (hne15 b o hb) _⟩)
    clear hr15 hn15 hb15 hv15 hne15
    clear f5_0 c5_0 f5_1 c5_1 f5_2 c5_2
    clear hV hF hap hσ r0 r1 kc kg kf hb5 hqs5
    simp only [fin, List.filterMap]
    go_simp
    try rw [hq5]
    clear hq5
    clear ρ σ 
    have X := Lib.hid (E0.out.trans XN.out)
    replace K0 := Lib.hid (K0.out.ext XN.out)
    replace K1 := Lib.hid (K1.out.ext XN.out)
    clear y0_0 y0_1 y0_2 y1_0 y1_1 y1_2 E0
    obtain ⟨base, hbase⟩ : ∃ b, b = V.heap.size := ⟨_, rfl⟩
    have NB := Lib.hid (show q5 < base ∧ w.heap.size + 1 < base ∧ w.heap.size + 2 ≤ q5 by have := K5.out.lt; have := K1.out.lt; have := L5.out; have := HSZ.out; omega)
    obtain ⟨cu0, hcu0⟩ : ∃ cu0, ∀ b o, J2 = some ⟨b, o, none⟩ → Blk V b 3 cu0 := by
      by_cases h : ∃ b o, J2 = some ⟨b, o, none⟩
      · obtain ⟨b, o, h⟩ := h
        obtain ⟨cu, hcu⟩ := HTY.out b o h
        exact ⟨cu, fun b' o' h' => by rw [h] at h'; obtain ⟨rfl, rfl⟩ := (by simpa using h' : b = b' ∧ o = o'); exact hcu⟩
      · exact ⟨#[], fun b o hb => absurd ⟨b, o, hb⟩ h⟩
    have HCV := Lib.hid hcu0
    clear hcu0 HTY XN
    have z2 : V.cell? ⟨w.heap.size, 2, none⟩ = some (.slice K n ck) := K0.out.cell 2
    go_wp2
    clear z2
    go_loopw [20] (fun i wr => ∃ (k c : Nat) (R : Option Addr), k ≤ n ∧ i = .int .i64 (k : Int) ∧ Ext w wr ∧ base ≤ wr.heap.size ∧ Blk wr w.heap.size 130 #[.int .i64 L, .slice J n cj, .slice K n ck] ∧ Blk wr (w.heap.size + 1) 130 #[.int .i64 0, .slice none 0 0, .slice none 0 0] ∧ Blk wr q5 25 #[.int .i64 L, .slice J2 n c2, .slice R k c] ∧ (∀ b o, J2 = some ⟨b, o, none⟩ → Blk wr b 3 cu0) ∧ wr.ownsRow base 33 2 (.slice R k c) k (growF F ks k)) (fun i _ => n - (intOf i).toNat)
    case atStart => exact ⟨0, 0, none, by omega, rfl, X.out, by omega, K0.out, K1.out, K5.out, HCV.out, own_none _ _ _ _⟩
    case round =>
      clear X K0 K1 K5
      obtain ⟨k, c, R, hk, rfl, hx, hsz, k0, k1, k5, hcr, hown⟩ := hrel
      have X := Lib.hid hx
      have SZ := Lib.hid hsz
      have K0 := Lib.hid k0
      have K1 := Lib.hid k1
      have KB := Lib.hid k5
      have CR := Lib.hid hcr
      have O := Lib.hid hown
      clear hx hsz k0 k1 k5 hcr hown
      by_cases hlt : k < n
      · obtain ⟨kb, ko, rfl, hkb, hc0, hc1⟩ := row_Rg (HK.out.ext X.out) (i := k) (by have := HM.out; omega)
        have HC := Lib.hid (fun W (e : Ext w W) => HG.out k _ W hlt rfl e)
        have HS := Lib.hid (show growF F ks (k + 1) = growF F ks k ++ Rg.enc (F k (ks.getD k default)) from rfl)
        generalize ks.getD k default = x at *
        have hki : (k : Int) < (n : Int) := by omega
        have hnb : n ≤ 1152921504606846976 := by omega
        obtain ⟨q7, hq⟩ : ∃ q, q = wr.heap.size := ⟨_, rfl⟩
        obtain ⟨W1, hW1⟩ : ∃ W, W = wr.alloc (.cells #[.int .i64 x.1, .int .i64 x.2] 33) := ⟨_, rfl⟩
        have E1 := Lib.hid (show Ext wr W1 by rw [hW1]; exact Ext.alloc _ _)
        have K7 := Lib.hid (show Blk W1 q7 33 #[.int .i64 x.1, .int .i64 x.2] by rw [hW1, hq]; exact Blk.new _ _ _)
        have y2 : wr.cell? ⟨w.heap.size, 2, none⟩ = some (.slice (some ⟨kb, ko, none⟩) n ck) := K0.out.cell 2
        go_upto_region 5 with (fail)
        rw [← hW1, ← hq]
        clear y2 hc0 hc1
        have X1 := Lib.hid (X.out.trans E1.out)
        have NQ5 := Lib.hid (own_notBlk O.out KB.out (by decide))
        have NQ7 := Lib.hid (show some q7 ≠ (Value.slice R k c).ownBlock from fun h => by
          rcases O.out.2 with ⟨h2, _⟩ | ⟨g, cap, cu, h2, _, hh, _⟩
          · rw [h2] at h; simp [Value.ownBlock] at h
          · rw [h2] at h; simp [Value.ownBlock] at h; have := (show Blk wr g 33 cu from hh).lt; omega)
        have N0 := Lib.hid (own_notBlk O.out K0.out (by decide))
        have N1 := Lib.hid (own_notBlk O.out K1.out (by decide))
        have NC := Lib.hid (fun b o hb => own_notBlk O.out (CR.out b o hb) (by decide))
        have NC5 := Lib.hid (show ∀ b o, J2 = some ⟨b, o, none⟩ → b ≠ q5 from fun b o hb he => by have h1 := CR.out b o hb; rw [he] at h1; have h2 := KB.out; unfold Blk at h1 h2; rw [h2] at h1; simp at h1)
        clear hW1 hq
        replace O := Lib.hid (own_ext O.out E1.out)
        replace KB := Lib.hid (KB.out.ext E1.out)
        have SZ1 := Lib.hid (show base ≤ W1.heap.size by have := E1.out.size; have := SZ.out; omega)
        have y5 : W1.cell? ⟨q5, 2, none⟩ = some (.slice R k c) := KB.out.cell 2
        have y7 : W1.cell? ⟨q7, 0, none⟩ = some (.int .i64 x.1) := K7.out.cell 0
        have y8 : W1.cell? ⟨q7, 1, none⟩ = some (.int .i64 x.2) := K7.out.cell 1
        go_region_law
          (first
            | (refine step_call (by rfl) 85 (#[.int .i64 (k : Int), .agg #[.int .i64 x.1, .int .i64 x.2]] ++ cp) (by go_simp) ?_; refine (HC.out _ (by first | exact X1.out | exact X1.out.trans (Ext.drew _))).mono ?_; rintro e wc ⟨rfl, hxc0⟩; refine ⟨_, rfl, ?_⟩; have hxc : Ext W1 wc := (by first | exact hxc0 | exact (Ext.drew _).trans hxc0); have zc : wc.cell? ⟨q5, 2, none⟩ = some (.slice R k c) := (KB.out.ext hxc).cell 2; have zca : ∀ o, (wc.alloc o).cell? ⟨q5, 2, none⟩ = some (.slice R k c) := fun o => ((KB.out.ext hxc).alloc o).cell 2; have zx0 : wc.cell? ⟨q7, 0, none⟩ = some (.int .i64 x.1) := hxc.cell y7; have zx1 : wc.cell? ⟨q7, 1, none⟩ = some (.int .i64 x.2) := hxc.cell y8)
            | (refine step_append_lies _ (by rfl) _ _ _ (by rfl) base 33 i33 _ 2 16 Try.underlying23 hi33 HZ33.out hy33 hw33 rfl (by omega) (.slice R k c) k (growF F ks k) (by rfl) (own_ext O.out (hxc.trans (Ext.alloc _ _))) ⟨wc.heap.size, 0, none⟩ 1 1 [.int .i64 (F k x).1, .int .i64 (F k x).2] (by rfl) (by rfl) (World.news_of_block (cs := #[.int .i64 (F k x).1, .int .i64 (F k x).2]) (t := 33) (fr := (0, 0)) (heap_alloc_new wc _)) (by simp [Value.oneCell']) (by omega) (by unfold maxLen; omega) (by omega) (by have := hxc.size; have := SZ1.out; simp; omega) (wc.heap.size + 1) (by simp) ?_; intro g54 c54 w54 hown54 hg54 hat54 hlt54; have k5' : Blk w54 q5 25 #[.int .i64 L, .slice J2 n c2, .slice R k c] := (hg54.block _ (((KB.out.ext hxc).alloc _).lt) NQ5.out).trans ((KB.out.ext hxc).alloc _); have f5 := k5'.free 2; have z5 : w54.cell? ⟨q5, 2, none⟩ = some (.slice R k c) := k5'.cell 2; have k7' : Blk w54 q7 33 #[.int .i64 x.1, .int .i64 x.2] := (hg54.block _ (((K7.out.ext hxc).alloc _).lt) NQ7.out).trans ((K7.out.ext hxc).alloc _)))
        all_goals
          have X54 := Lib.hid (show Ext w w54 from Ext.grownBy (X1.out.trans (hxc.trans (Ext.alloc _ _))) hg54 (fun g hg => by have := own_base O.out hg; have := NB.out; omega))
          have K054 := Lib.hid (show Blk w54 w.heap.size 130 #[.int .i64 L, .slice J n cj, .slice (some ⟨kb, ko, none⟩) n ck] from (hg54.block _ (((K0.out.ext (E1.out.trans hxc)).alloc _).lt) N0.out).trans ((K0.out.ext (E1.out.trans hxc)).alloc _))
          have K154 := Lib.hid (show Blk w54 (w.heap.size + 1) 130 #[.int .i64 0, .slice none 0 0, .slice none 0 0] from (hg54.block _ (((K1.out.ext (E1.out.trans hxc)).alloc _).lt) N1.out).trans ((K1.out.ext (E1.out.trans hxc)).alloc _))
          have CR54 := Lib.hid (show ∀ b o, J2 = some ⟨b, o, none⟩ → Blk w54 b 3 cu0 from fun b o hb => (hg54.block _ ((((CR.out b o hb).ext (E1.out.trans hxc)).alloc _).lt) (NC.out b o hb)).trans (((CR.out b o hb).ext (E1.out.trans hxc)).alloc _))
          have S54 := Lib.hid (show base ≤ w54.heap.size by have := hg54.size; have := hxc.size; have := SZ1.out; simp at *; omega)
          have O54 := Lib.hid hown54
          have Q54 := Lib.hid (own_not hown54 (show q5 < base from NB.out.1))
          have K554 := Lib.hid k5'
          clear hown54 hg54 hat54 hlt54 f5 z5 k7' k5'
          go_wp2
          go_roundw
          case rel => exact ⟨k + 1, c54, some ⟨g54, 0, none⟩, by omega, by go_num, Ext.set X54.out (by have := NB.out; dsimp only; omega) _, by simpa using S54.out, K054.out.setOther (by have := NB.out; dsimp only; omega) _, K154.out.setOther (by have := NB.out; dsimp only; omega) _, K554.out.setSame 2 _, fun b o hb => (CR54.out b o hb).setOther (by have := NC5.out b o hb; exact this) _, by rw [HS.out]; exact own_set (p := ⟨q5, 2, none⟩) O54.out Q54.out _⟩
          case measure => simp [intOf]; omega
      · obtain rfl : k = n := by omega
        have hkn : ¬ (k : Int) < (k : Int) := by omega
        have l0 : wr.cell? ⟨q5, 0, none⟩ = some (.int .i64 L) := KB.out.cell 0
        have l1 : wr.cell? ⟨q5, 1, none⟩ = some (.slice J2 k c2) := KB.out.cell 1
        have l2 : wr.cell? ⟨q5, 2, none⟩ = some (.slice R k c) := KB.out.cell 2
        have u0 : wr.cell? ⟨w.heap.size + 1, 0, none⟩ = some (.int .i64 0) := K1.out.cell 0
        have u1 : wr.cell? ⟨w.heap.size + 1, 1, none⟩ = some (.slice none 0 0) := K1.out.cell 1
        have u2 : wr.cell? ⟨w.heap.size + 1, 2, none⟩ = some (.slice none 0 0) := K1.out.cell 2
        have f0 := K1.out.free 0
        have f1 := K1.out.free 1
        have f2 := K1.out.free 2
        have R1 := Lib.hid (rows_blk HJ2.out HCV.out CR.out)
        have R2 := Lib.hid (show RowsAt 2 Rg.enc wr R (kinkL F ks k) from by
          have := O.out
          rw [growF_eq] at this
          exact rows_own (by simp [kinkL]) (fun _ => rfl) this (by omega))
        have B2 := Lib.hid (show ∀ b o, R = some ⟨b, o, none⟩ → base ≤ b from fun b o hb => own_base O.out (by rw [hb]; rfl))
        have N2 := Lib.hid (show R = none → c = 0 from fun hr => by
          rcases O.out.2 with ⟨h2, _⟩ | ⟨g, cap, cu, h2, _⟩
          · simpa using congrArg (fun v => match v with | Value.slice _ _ c => c | _ => 0) h2
          · rw [hr] at h2; simp at h2)
        go_wp2
        exact bodyPost_ret (v := .agg #[.int .i64 L, .slice J2 k c2, .slice R k c]) (by simp [results, Try.f84, go_sem, u0, u1, u2]) rfl ⟨_, rfl, ⟨_, _, _, _, rfl, (rows_setOther (rows_setOther (rows_setOther R1.out (fun b o hb => by have := HJB.out b o hb; dsimp only; omega) _) (fun b o hb => by have := HJB.out b o hb; dsimp only; omega) _) (fun b o hb => by have := HJB.out b o hb; dsimp only; omega) _), (rows_setOther (rows_setOther (rows_setOther R2.out (fun b o hb => by have := B2.out b o hb; have := NB.out; dsimp only; omega) _) (fun b o hb => by have := B2.out b o hb; have := NB.out; dsimp only; omega) _) (fun b o hb => by have := B2.out b o hb; have := NB.out; dsimp only; omega) _), HJN.out, N2.out, fun b o hb => by have := HJB.out b o hb; omega, fun b o hb => by have := B2.out b o hb; have := NB.out; omega⟩, (Ext.set (Ext.set (Ext.set X.out (by dsimp only; omega) _) (by dsimp only; omega) _) (by dsimp only; omega) _)⟩

def relL (ks : List Rg) (p : Rg) (n : Nat) : List Rg := kinkL (fun _ x => relV x p) ks n
def rlE (L : Int) (js : List Int) (ks : List Rg) (p : Rg) : Int := if (checkS L js ks).2 ≠ 0 then (checkS L js ks).2 else endsE 0 1000 p
theorem endsE_ok {p : Rg} (h : endsE 0 1000 p = 0) : 0 ≤ p.1 ∧ p.1 ≤ p.2 ∧ p.2 ≤ 1000 := by
  rw [endsE_if] at h
  by_cases h1 : 0 ≤ p.1 ∧ p.1 ≤ 1000 <;> by_cases h2 : 0 ≤ p.2 ∧ p.2 ≤ 1000 <;> by_cases h3 : p.2 < p.1 <;> simp [h1, h2, h3] at h <;> omega
set_option maxRecDepth 100000 in
set_option maxHeartbeats 4000000 in
theorem relieved29_any {L : Int} {J K : Option Addr} {n m cj ck : Nat} {js : List Int} {ks : List Rg} {w : World} (hn : js.length = n) (hJ : RowsAt 1 I1 w J js) (hm : ks.length = m) (hK : RowsAt 2 Rg.enc w K ks) {p1 p2 : Int} (hjn : J = none → cj = 0) :
    Calls Try.prog 29 #[.agg #[.int .i64 L, .slice J n cj, .slice K m ck], .agg #[.int .i64 p1, .int .i64 p2]] w fun e w' => ∃ v, e = .returned (.tuple #[v, .int .i64 (rlE L js ks (p1, p2))]) ∧ AftV L js (relL ks (p1, p2) n) n (rlE L js ks (p1, p2)) v w' ∧ Ext w w' := by
  have HSE := Lib.hid (fun W (e : Ext w W) => shaftError_any (cj := cj) (ck := ck) (L := L) hn (hJ.ext e) hm (hK.ext e))
  have HEN := Lib.hid (fun W => endsError_any 0 1000 (p1, p2) W)
  have HKI := Lib.hid (fun (hz : (checkS L js ks).2 = 0) (he : endsE 0 1000 (p1, p2) = 0) W (e : Ext w W) (c0 : W.cell? ⟨w.heap.size + 1, 0, none⟩ = some (.int .i64 p1)) (c1 : W.cell? ⟨w.heap.size + 1, 1, none⟩ = some (.int .i64 p2)) => show Calls Try.prog 84 #[.agg #[.int .i64 L, .slice J n cj, .slice K m ck], (.func (.func 85) #[] #[.pointer (some ⟨w.heap.size + 1, 0, none⟩)])] W fun e w' => n = m ∧ ∃ v, e = .returned v ∧ ShC W.heap.size L js (relL ks (p1, p2) n) n n v w' ∧ Ext W w' from by
    have hs := checkS_ok hz
    have hp := endsE_ok he
    obtain rfl : n = m := by have := hs.same; omega
    refine (kinked85_any (F := fun _ x => relV x (p1, p2)) (cp := #[.pointer (some ⟨w.heap.size + 1, 0, none⟩)]) hn (hJ.ext e) hm (hK.ext e) hjn (by have := hs.four; omega) (fun k x W' hk hx e' => ?_)).mono ?_
    · subst hx
      exact rel85_any k _ p1 p2 _ (by have := hs.kink k (by omega); omega) hp (e'.cell c0) (e'.cell c1)
    · rintro e w' ⟨v, h1, h2, h3⟩
      exact ⟨rfl, v, h1, h2, h3⟩)
  have HV0 := Lib.hid (show rlE L js ks (p1, p2) = firstE [(checkS L js ks).2, endsE 0 1000 (p1, p2)] by
    rw [firstE_two]
    rfl)
  have HZ1 := Lib.hid (fun (h : firstE [(checkS L js ks).2, endsE 0 1000 (p1, p2)] = 0) => (⟨firstE_zero h _ (by simp), firstE_zero h _ (by simp)⟩ : (checkS L js ks).2 = 0 ∧ endsE 0 1000 (p1, p2) = 0))
  generalize rlE L js ks (p1, p2) = cv at *
  generalize relL ks (p1, p2) n = ak at *
  clear hn hJ hm hK hjn
  generalize (checkS L js ks).2 = z1 at *
  generalize endsE 0 1000 (p1, p2) = z2 at *
  generalize hf1 : firstE [z1, z2] = f1 at *
  have F1 := Lib.hid hf1
  clear hf1
  obtain ⟨W0, hW0⟩ : ∃ W0, W0 = ((w.alloc (.cells #[.int .i64 L, .slice J n cj, .slice K m ck] 25)).alloc (.cells #[.int .i64 p1, .int .i64 p2] 33)).alloc (.cells #[.int .i64 0, .slice none 0 0, .slice none 0 0] 25) := ⟨_, rfl⟩
  have K0 := Lib.hid (show Blk W0 (w.heap.size) 25 #[.int .i64 L, .slice J n cj, .slice K m ck] by rw [hW0]; exact ((Blk.new _ _ _).alloc _).alloc _)
  have K1 := Lib.hid (show Blk W0 (w.heap.size + 1) 33 #[.int .i64 p1, .int .i64 p2] by rw [hW0]; exact (Blk.newAt _ _ _ (by simp)).alloc _)
  have K2 := Lib.hid (show Blk W0 (w.heap.size + 1 + 1) 25 #[.int .i64 0, .slice none 0 0, .slice none 0 0] by rw [hW0]; exact Blk.newAt _ _ _ (by simp))
  have E0 := Lib.hid (show Ext w W0 by rw [hW0]; exact ((Ext.alloc _ _).trans (Ext.alloc _ _)).trans (Ext.alloc _ _))
  have y0_0 : W0.cell? ⟨w.heap.size, 0, none⟩ = some (.int .i64 L) := K0.out.cell 0
  have y0_1 : W0.cell? ⟨w.heap.size, 1, none⟩ = some (.slice J n cj) := K0.out.cell 1
  have y0_2 : W0.cell? ⟨w.heap.size, 2, none⟩ = some (.slice K m ck) := K0.out.cell 2
  have y1_0 : W0.cell? ⟨w.heap.size + 1, 0, none⟩ = some (.int .i64 p1) := K1.out.cell 0
  have y1_1 : W0.cell? ⟨w.heap.size + 1, 1, none⟩ = some (.int .i64 p2) := K1.out.cell 1
  have y2_0 : W0.cell? ⟨w.heap.size + 1 + 1, 0, none⟩ = some (.int .i64 0) := K2.out.cell 0
  have y2_1 : W0.cell? ⟨w.heap.size + 1 + 1, 1, none⟩ = some (.slice none 0 0) := K2.out.cell 1
  have y2_2 : W0.cell? ⟨w.heap.size + 1 + 1, 2, none⟩ = some (.slice none 0 0) := K2.out.cell 2
  go_enter Try.func29, Try.ntmps29
  go_upto_region 1 with (fail)
  rw [← hW0]
  clear hW0
  refine wp_region_each [some 8, some 9, some 10, some 11, some 12, some 13, some 6] [[2], [8], [3], [10], [9, 11], [12], [13]]
    [Is (.agg #[.int .i64 L, .slice J n cj, .slice K m ck]), Is (.int .i64 (z1)), Is (.agg #[.int .i64 (p1), .int .i64 (p2)]), Is (.int .i64 (z2)), Ints [z1, z2], Is (.int .i64 (firstE [z1, z2])), Is (.int .i64 (firstE [z1, z2]))]
    (by kernel_rfl) (by kernel_rfl) (by kernel_rfl) (by kernel_rfl) (by kernel_rfl) Ext (fun W => Ext W0 W)
    (fun W _ => Ext.refl W) (fun W W' h k => h.trans k) ?_ (Ext.drew _) ?_ ?_
  · repeat (refine ⟨fun _ _ _ _ k h => (by first | exact h | exact (IntsAt.ext h k)), ?_⟩)
    exact trivial
  · refine ⟨?_, ?_, ?_, ?_, ?_, ?_, ?_, trivial⟩
    all_goals intro ρ W ⟨kc, kg, kf⟩ hF hs
    · obtain ⟨h0, -⟩ := hs
      replace h0 : ρ (.tmp 2) = .pointer (some ⟨w.heap.size, 0, none⟩) := h0
      have hc0 : W.cell? ⟨w.heap.size, 0, none⟩ = some (.int .i64 L) := hF.cell (by assumption)
      have hc1 : W.cell? ⟨w.heap.size, 1, none⟩ = some (.slice J n cj) := hF.cell (by assumption)
      have hc2 : W.cell? ⟨w.heap.size, 2, none⟩ = some (.slice K m ck) := hF.cell (by assumption)
      go_simp
      exact ⟨Ext.refl _, rfl⟩
    · obtain ⟨h0, -⟩ := hs
      replace h0 : ρ (.tmp 8) = .agg #[.int .i64 L, .slice J n cj, .slice K m ck] := h0
      go_simp
      refine (HSE.out _ (E0.out.trans hF)).mono ?_; rintro e w' ⟨rfl, hx⟩; exact ⟨_, rfl, hx, rfl⟩
    · obtain ⟨h0, -⟩ := hs
      replace h0 : ρ (.tmp 3) = .pointer (some ⟨w.heap.size + 1, 0, none⟩) := h0
      have hc0 : W.cell? ⟨w.heap.size + 1, 0, none⟩ = some (.int .i64 (p1)) := hF.cell (by assumption)
      have hc1 : W.cell? ⟨w.heap.size + 1, 1, none⟩ = some (.int .i64 (p2)) := hF.cell (by assumption)
      go_simp
      exact ⟨Ext.refl _, rfl⟩
    · obtain ⟨h0, -⟩ := hs
      replace h0 : ρ (.tmp 10) = .agg #[.int .i64 (p1), .int .i64 (p2)] := h0
      go_simp
      refine (HEN.out _).mono ?_; rintro e w' ⟨rfl, hx⟩; exact ⟨_, rfl, hx, rfl⟩
    · obtain ⟨h0, h1, -⟩ := hs
      replace h0 : ρ (.tmp 9) = .int .i64 (z1) := h0
      replace h1 : ρ (.tmp 11) = .int .i64 (z2) := h1
      go_simp
      exact ⟨Ext.alloc _ _, ints_new _ [z1, z2] _ (by simp)⟩
    · obtain ⟨h0, -⟩ := hs
      replace h0 : (Ints [z1, z2]) (ρ (.tmp 12)) W := h0
      go_simp
      refine (firstOf_any _ _ _ h0).mono ?_; rintro e w' ⟨rfl, rfl⟩; exact ⟨_, rfl, Ext.refl _, rfl⟩
    · obtain ⟨h0, -⟩ := hs
      replace h0 : ρ (.tmp 13) = .int .i64 (firstE [z1, z2]) := h0
      go_simp
      exact ⟨Ext.refl _, rfl⟩
  · intro fv W1 hF hs
    obtain ⟨-, -, -, -, -, -, h6, -⟩ := hs
    replace h6 : fv 6 = .int .i64 (firstE [z1, z2]) := h6
    simp only [fin, List.filterMap]
    go_simp
    rw [F1.out]
    have X := Lib.hid (E0.out.trans hF)
    replace K0 := Lib.hid (K0.out.ext hF)
    replace K1 := Lib.hid (K1.out.ext hF)
    replace K2 := Lib.hid (K2.out.ext hF)
    clear hF y0_0 y0_1 y0_2 y1_0 y1_1 y2_0 y2_1 y2_2 E0 HSE HEN
    obtain ⟨W2, hW2⟩ : ∃ W, W = W1 := ⟨_, rfl⟩
    rw [← hW2] at X K0 K1 K2 ⊢
    clear hW2
    by_cases hz : f1 = 0
    · have hz2 : (f1 != 0) = false := by simp [hz]
      obtain ⟨a1, a2⟩ := HZ1.out hz
      replace HKI := Lib.hid (HKI.out a1 a2 _ X.out (K1.out.cell 0) (K1.out.cell 1))
      have HV := Lib.hid (HV0.out.trans hz)
      have LQ := Lib.hid K2.out.lt
      clear a1 a2 hz HZ1 F1 HV0
      have y0_0 : W2.cell? ⟨w.heap.size, 0, none⟩ = some (.int .i64 L) := K0.out.cell 0
      have y0_1 : W2.cell? ⟨w.heap.size, 1, none⟩ = some (.slice J n cj) := K0.out.cell 1
      have y0_2 : W2.cell? ⟨w.heap.size, 2, none⟩ = some (.slice K m ck) := K0.out.cell 2
      go_wp2_with (go_at_call 84; refine HKI.out.mono ?_; rintro e W4 ⟨rfl, v, rfl, hc, hx⟩; have HC := Lib.hid hc; replace X := Lib.hid (X.out.trans hx); replace K2 := Lib.hid (K2.out.ext hx); clear hx hc y0_0 y0_1 y0_2; refine Hid.out ?_)
      refine Lib.hid ?_
      clear K0 K1 HKI
      obtain ⟨J', cj', K', ck', rfl, hr1, hr2, hn1, hn2, hb1, hb2⟩ := HC.out
      have NB1 := Lib.hid (fun b o (hb : J' = some ⟨b, o, none⟩) => show b ≠ w.heap.size + 1 + 1 by have := hb1 b o hb; have := LQ.out; omega)
      have NB2 := Lib.hid (fun b o (hb : K' = some ⟨b, o, none⟩) => show b ≠ w.heap.size + 1 + 1 by have := hb2 b o hb; have := LQ.out; omega)
      have R1 := Lib.hid hr1
      have R2 := Lib.hid hr2
      have N1 := Lib.hid hn1
      have N2 := Lib.hid hn2
      clear hr1 hr2 hn1 hn2 hb1 hb2 HC
      obtain ⟨q9, hq9⟩ : ∃ q9, q9 = W4.heap.size := ⟨_, rfl⟩
      obtain ⟨W5, hW5⟩ : ∃ W, W = W4.alloc (.cells #[.int .i64 L, .slice J' n cj', .slice K' n ck'] 130) := ⟨_, rfl⟩
      have hx4 : Ext W4 W5 := by rw [hW5]; exact Ext.alloc _ _
      have K9 := Lib.hid (show Blk W5 q9 130 #[.int .i64 L, .slice J' n cj', .slice K' n ck'] by rw [hW5, hq9]; exact Blk.new _ _ _)
      replace X := Lib.hid (X.out.trans hx4)
      replace K2 := Lib.hid (K2.out.ext hx4)
      replace R1 := Lib.hid (R1.out.ext hx4)
      replace R2 := Lib.hid (R2.out.ext hx4)
      go_upto_region 5 with (fail)
      rw [← hW5, ← hq9]
      clear hW5 hq9 hx4
      have l0 : W5.cell? ⟨q9, 0, none⟩ = some (.int .i64 L) := K9.out.cell 0
      have l1 : W5.cell? ⟨q9, 1, none⟩ = some (.slice J' n cj') := K9.out.cell 1
      have l2 : W5.cell? ⟨q9, 2, none⟩ = some (.slice K' n ck') := K9.out.cell 2
      have fr0 := K2.out.free 0
      have fr1 := K2.out.free 1
      have fr2 := K2.out.free 2
      have u0 : W5.cell? ⟨w.heap.size + 1 + 1, 0, none⟩ = some (.int .i64 0) := K2.out.cell 0
      have u1 : W5.cell? ⟨w.heap.size + 1 + 1, 1, none⟩ = some (.slice none 0 0) := K2.out.cell 1
      have u2 : W5.cell? ⟨w.heap.size + 1 + 1, 2, none⟩ = some (.slice none 0 0) := K2.out.cell 2
      go_wp2
      exact bodyPost_ret (v := .tuple #[.agg #[.int .i64 L, .slice J' n cj', .slice K' n ck'], .int .i64 0]) (by simp [results, Try.f29, go_sem, u0, u1, u2]) rfl ⟨_, by rw [HV.out], by rw [AftV, if_pos HV.out]; exact ⟨J', cj', K', ck', rfl, rows_setOther (rows_setOther (rows_setOther R1.out NB1.out _) NB1.out _) NB1.out _, rows_setOther (rows_setOther (rows_setOther R2.out NB2.out _) NB2.out _) NB2.out _, N1.out, N2.out⟩, Ext.set (Ext.set (Ext.set X.out (by dsimp only; omega) _) (by dsimp only; omega) _) (by dsimp only; omega) _⟩
    · have hz2 : (f1 != 0) = true := by simp [hz]
      have HNZ := Lib.hid (show ¬ cv = 0 by rw [HV0.out]; exact hz)
      clear hz HZ1 HKI
      have fr0 := K2.out.free 0
      have fr1 := K2.out.free 1
      have fr2 := K2.out.free 2
      have u0 : W2.cell? ⟨w.heap.size + 1 + 1, 0, none⟩ = some (.int .i64 0) := K2.out.cell 0
      have u1 : W2.cell? ⟨w.heap.size + 1 + 1, 1, none⟩ = some (.slice none 0 0) := K2.out.cell 1
      have u2 : W2.cell? ⟨w.heap.size + 1 + 1, 2, none⟩ = some (.slice none 0 0) := K2.out.cell 2
      go_wp2
      exact bodyPost_ret (v := .tuple #[.agg #[.int .i64 0, .slice none 0 0, .slice none 0 0], .int .i64 f1]) (by simp [results, Try.f29, go_sem, u0, u1, u2]) rfl ⟨_, by rw [HV0.out], by rw [AftV, if_neg HNZ.out], Ext.set (Ext.set (Ext.set X.out (by dsimp only; omega) _) (by dsimp only; omega) _) (by dsimp only; omega) _⟩
theorem partsErr_any (p1 p2 : Int) (w : World) : Calls Try.prog 30 #[.agg #[.int .i64 p1, .int .i64 p2]] w fun e w' => e = .returned (.int .i64 (endsE 0 1000 (p1, p2))) ∧ Ext w w' := by
  have HV := Lib.hid (endsE_if 0 1000 (p1, p2))
  dsimp only at HV
  generalize endsE 0 1000 (p1, p2) = z at *
  obtain ⟨W0, hW0⟩ : ∃ W0, W0 = w.alloc (.cells #[.int .i64 p1, .int .i64 p2] 33) := ⟨_, rfl⟩
  have K0 := Lib.hid (show Blk W0 (w.heap.size) 33 #[.int .i64 p1, .int .i64 p2] by rw [hW0]; exact Blk.new _ _ _)
  have E0 := Lib.hid (show Ext w W0 by rw [hW0]; exact Ext.alloc _ _)
  have y0_0 : W0.cell? ⟨w.heap.size, 0, none⟩ = some (.int .i64 p1) := K0.out.cell 0
  have y0_1 : W0.cell? ⟨w.heap.size, 1, none⟩ = some (.int .i64 p2) := K0.out.cell 1
  by_cases h1 : 0 ≤ p1 ∧ p1 ≤ 1000
  · have HW1 := Lib.hid (withinB_t h1)
    by_cases h2 : 0 ≤ p2 ∧ p2 ≤ 1000
    · have HW2 := Lib.hid (withinB_t h2)
      by_cases h3 : p2 < p1
      all_goals
        have hv := HV.out
        rw [if_pos h1, if_pos h2] at hv
        first | rw [if_pos h3] at hv | rw [if_neg h3] at hv
        replace HV := Lib.hid hv
        clear hv
        clear h1 h2
        go_enter Try.func30, Try.ntmps30
        go_upto_region 1 with (fail)
        rw [← hW0]
        clear hW0
        go_wp2_with (go_at_call 21; refine (within_any _ _ _ _).mono ?_; rintro e w' ⟨rfl, rfl⟩; first | rw [HW1.out] | rw [HW2.out])
        go_ret
        exact ⟨by rw [HV.out]; try rfl, E0.out⟩
    · have HW2 := Lib.hid (withinB_f h2)
      have hv := HV.out
      rw [if_pos h1, if_neg h2] at hv
      replace HV := Lib.hid hv
      clear hv
      clear h1 h2
      go_enter Try.func30, Try.ntmps30
      go_upto_region 1 with (fail)
      rw [← hW0]
      clear hW0
      go_wp2_with (go_at_call 21; refine (within_any _ _ _ _).mono ?_; rintro e w' ⟨rfl, rfl⟩; first | rw [HW1.out] | rw [HW2.out])
      go_ret
      exact ⟨by rw [HV.out]; try rfl, E0.out⟩
  · have HW1 := Lib.hid (withinB_f h1)
    have HW2 := HW1
    have hv := HV.out
    rw [if_neg h1] at hv
    replace HV := Lib.hid hv
    clear hv
    clear h1
    go_enter Try.func30, Try.ntmps30
    go_upto_region 1 with (fail)
    rw [← hW0]
    clear hW0
    go_wp2_with (go_at_call 21; refine (within_any _ _ _ _).mono ?_; rintro e w' ⟨rfl, rfl⟩; first | rw [HW1.out] | rw [HW2.out])
    go_ret
    exact ⟨by rw [HV.out]; try rfl, E0.out⟩

end Go.Proofs.Ytjdilmmpdlcimaa
