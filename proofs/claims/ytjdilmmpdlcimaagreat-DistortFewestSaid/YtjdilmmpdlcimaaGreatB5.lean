/- DeflectionAt. -/
import Derived.Test.YtjdilmmpdlcimaaGreatB4
import Derived.Lib.MinMax
import Derived.Deep.DeepCutAuto

namespace Go.Proofs.YtjdilmmpdlcimaaGreat
open Go.RowKit Go.Shelf Go.Mem Go.RegInv
attribute [local go_sem] RelUpon_value RelUpon_skip RelUpon_enter BigFrame.eval_const BigFrame.eval_global BigFrame.eval_func


theorem ret_agg2 {a b c d : Int} (h : a = c) (k : b = d) : Ending.returned (.agg #[.int .i64 a, .int .i64 b]) = .returned (.agg #[.int .i64 c, .int .i64 d]) := by rw [h, k]
theorem shaftError_any {L : Int} {J K : Option Addr} {n m cj ck : Nat} {js : List Int} {ks : List Rg} {w : World} (hn : js.length = n) (hJ : RowsAt 1 I1 w J js) (hm : ks.length = m) (hK : RowsAt 2 Rg.enc w K ks) :
    Calls Tryz.prog 25 #[.agg #[.int .i64 L, .slice J n cj, .slice K m ck]] w fun e w' => e = .returned (.int .i64 (checkS L js ks).2) ∧ Ext w w' := by
  have HC := Lib.hid (fun W (e : Ext w W) => checkShaft_any (cj := cj) (ck := ck) (L := L) hn (hJ.ext e) hm (hK.ext e))
  clear hn hJ hm hK
  go_enter Tryz.func25, Tryz.ntmps25
  go_wp2_with (go_at_call 48; refine (HC.out _ (Ext.alloc _ _)).mono ?_; rintro e W1 ⟨rfl, hx⟩; have X1 := Lib.hid ((Ext.alloc _ _).trans hx); clear hx)
  go_ret
  exact ⟨rfl, X1.out⟩
def deflE (L : Int) (js : List Int) (ks : List Rg) (p : Int) : Int := firstE [(checkS L js ks).2, rangeE 0 L [p]]
theorem checkS_ok {L : Int} {js : List Int} {ks : List Rg} (h : (checkS L js ks).2 = 0) : ShOK L js ks := by
  unfold checkS at h
  by_cases hz : headK L js.length ks.length = 0
  · rw [if_neg (by simpa using hz)] at h
    obtain ⟨h1, h2, h3, h4⟩ := headK_ok hz
    have hj : ∀ i, i < js.length → jointK L js ks i = 0 := fun i hi => firstAt_zero h i (by omega) (by omega)
    have hA : ∀ i, i < js.length → 1 ≤ js.getD i 0 ∧ js.getD i 0 ≤ L - 1 := fun i hi => rangeE_zeros (firstE_zero (hj i hi) (rangeE 1 (L - 1) [js.getD i 0]) (by simp)) _ (by simp)
    refine ⟨h1, h2, h3, h4, hA, fun i hi => ?_, fun i hi => ?_⟩
    · have := errIf_zero (by decide) (firstE_zero (hj (i + 1) hi) (errIf (if i + 1 = 0 then false else decide (js.getD (i + 1) 0 ≤ js.getD (i + 1 - 1) 0)) 9) (by simp))
      rw [if_neg (by omega), show i + 1 - 1 = i by omega] at this
      simpa using this
    · have := firstE_zero (hj i hi) (endsE (-100000) 100000 (ks.getD i default)) (by simp)
      unfold endsE at this
      have a := rangeE_zeros (firstE_zero this (rangeE (-100000) 100000 [(ks.getD i default).1, (ks.getD i default).2]) (by simp))
      have b := errIf_zero (by decide) (firstE_zero this (errIf (decide ((ks.getD i default).2 < (ks.getD i default).1)) 9) (by simp))
      have a1 := a (ks.getD i default).1 (by simp)
      have a2 := a (ks.getD i default).2 (by simp)
      have b2 := of_decide_eq_false b
      omega
  · rw [if_pos hz] at h
    exact absurd h hz
theorem checkS_fst {L : Int} {js : List Int} {ks : List Rg} (h : (checkS L js ks).2 = 0) : (checkS L js ks).1 = 0 := by
  unfold checkS at h ⊢
  by_cases hz : headK L js.length ks.length = 0
  · rw [if_neg (by simpa using hz)] at h ⊢
    exact firstAt_fst h
  · rw [if_pos hz] at h
    exact absurd h hz
/-- What DeflectionAt answers. -/
def deflV (L : Int) (js : List Int) (ks : List Rg) (p : Int) : Rg := if deflE L js ks p = 0 then defl L js ks p else (0, 0)
set_option maxRecDepth 100000 in
set_option maxHeartbeats 1000000 in
theorem deflectionAt_any {L : Int} {J K : Option Addr} {n m cj ck : Nat} {js : List Int} {ks : List Rg} {w : World} (hn : js.length = n) (hJ : RowsAt 1 I1 w J js) (hm : ks.length = m) (hK : RowsAt 2 Rg.enc w K ks) {p : Int} :
    Calls Tryz.prog 17 #[.agg #[.int .i64 L, .slice J n cj, .slice K m ck], .int .i64 p] w fun e w' => e = .returned (.tuple #[.agg #[.int .i64 (deflV L js ks p).1, .int .i64 (deflV L js ks p).2], .int .i64 (deflE L js ks p)]) ∧ Ext w w' := by
  have HSE := Lib.hid (fun W (e : Ext w W) => shaftError_any (cj := cj) (ck := ck) (L := L) hn (hJ.ext e) hm (hK.ext e))
  have HT := Lib.hid (show deflE L js ks p = firstE [(checkS L js ks).2, rangeE 0 L [p]] from rfl)
  have HV := Lib.hid (show deflV L js ks p = if deflE L js ks p = 0 then defl L js ks p else (0, 0) from rfl)
  have HD := Lib.hid (fun (hz : deflE L js ks p = 0) W (e : Ext w W) => show Calls Tryz.prog 41 #[.agg #[.int .i64 L, .slice J n cj, .slice K m ck], .int .i64 p] W fun e w' => e = .returned (.agg #[.int .i64 (defl L js ks p).1, .int .i64 (defl L js ks p).2]) ∧ Ext W w' from by
    have h1 := firstE_zero hz
    have hs := checkS_ok (h1 (checkS L js ks).2 (by simp))
    obtain rfl : n = m := by have := hs.same; omega
    exact deflection_any (cj := cj) (ck := ck) hn (hJ.ext e) hm (hK.ext e) hs (rangeE_zeros (h1 (rangeE 0 L [p]) (by simp)) p (by simp)))
  generalize deflV L js ks p = dv at *
  generalize defl L js ks p = df at *
  generalize deflE L js ks p = z at *
  generalize (checkS L js ks).2 = z1 at *
  clear hn hJ hm hK
  obtain ⟨W0, hW0⟩ : ∃ W0, W0 = (w.alloc (.cells #[.int .i64 L, .slice J n cj, .slice K m ck] 25)).alloc (.cells #[.int .i64 0, .int .i64 0] 49) := ⟨_, rfl⟩
  have K0 := Lib.hid (show Blk W0 (w.heap.size) 25 #[.int .i64 L, .slice J n cj, .slice K m ck] by rw [hW0]; exact (Blk.new _ _ _).alloc _)
  have K1 := Lib.hid (show Blk W0 (w.heap.size + 1) 49 #[.int .i64 0, .int .i64 0] by rw [hW0]; exact Blk.newAt _ _ _ (by simp))
  have E0 := Lib.hid (show Ext w W0 by rw [hW0]; exact (Ext.alloc _ _).trans (Ext.alloc _ _))
  have y0_0 : W0.cell? ⟨w.heap.size, 0, none⟩ = some (.int .i64 L) := K0.out.cell 0
  have y0_1 : W0.cell? ⟨w.heap.size, 1, none⟩ = some (.slice J n cj) := K0.out.cell 1
  have y0_2 : W0.cell? ⟨w.heap.size, 2, none⟩ = some (.slice K m ck) := K0.out.cell 2
  have y1_0 : W0.cell? ⟨w.heap.size + 1, 0, none⟩ = some (.int .i64 0) := K1.out.cell 0
  have y1_1 : W0.cell? ⟨w.heap.size + 1, 1, none⟩ = some (.int .i64 0) := K1.out.cell 1
  go_enter Tryz.func17, Tryz.ntmps17
  go_wp2
  rw [← hW0]
  clear hW0
  go_wp2
  refine wp_region_each [some 7, some 8, some 9, some 10, some 11, some 12, some 13, some 14, some 15, some 6] [[2], [7], [2], [9], [1], [11], [10, 12], [8, 13], [14], [15]]
    [Is (.agg #[.int .i64 (L), .slice J n cj, .slice K m ck]), Is (.int .i64 (z1)), Is (.pointer (some ⟨w.heap.size, 0, none⟩)), Is (.int .i64 (L)), Is (.int .i64 (p)), Ints [p], Is (.int .i64 (rangeE (0) (L) [p])), Ints [z1, rangeE (0) (L) [p]], Is (.int .i64 (firstE [z1, rangeE (0) (L) [p]])), Is (.int .i64 (firstE [z1, rangeE (0) (L) [p]]))]
    (by kernel_rfl) (by kernel_rfl) (by kernel_rfl) (by kernel_rfl) (by kernel_rfl) Ext (fun W => Ext W0 W)
    (fun W _ => Ext.refl W) (fun W W' h k => h.trans k) ?_ (Ext.drew _) ?_ ?_
  · repeat (refine ⟨fun _ _ _ _ k h => (by first | exact h | exact (IntsAt.ext h k)), ?_⟩)
    exact trivial
  · refine ⟨?_, ?_, ?_, ?_, ?_, ?_, ?_, ?_, ?_, ?_, trivial⟩
    all_goals intro ρ W ⟨kc, kg, kf⟩ hF hs
    · obtain ⟨h0, -⟩ := hs
      replace h0 : ρ (.tmp 2) = .pointer (some ⟨w.heap.size, 0, none⟩) := h0
      have hc0 : W.cell? ⟨w.heap.size, 0, none⟩ = some (.int .i64 (L)) := hF.cell (by assumption)
      have hc1 : W.cell? ⟨w.heap.size, 1, none⟩ = some (.slice J n cj) := hF.cell (by assumption)
      have hc2 : W.cell? ⟨w.heap.size, 2, none⟩ = some (.slice K m ck) := hF.cell (by assumption)
      go_simp
      exact ⟨Ext.refl _, rfl⟩
    · obtain ⟨h0, -⟩ := hs
      replace h0 : ρ (.tmp 7) = .agg #[.int .i64 (L), .slice J n cj, .slice K m ck] := h0
      go_simp
      refine (HSE.out _ (E0.out.trans hF)).mono ?_; rintro e w' ⟨rfl, hx⟩; exact ⟨_, rfl, hx, rfl⟩
    · obtain ⟨h0, -⟩ := hs
      replace h0 : ρ (.tmp 2) = .pointer (some ⟨w.heap.size, 0, none⟩) := h0
      go_simp
      exact ⟨Ext.refl _, rfl⟩
    · obtain ⟨h0, -⟩ := hs
      replace h0 : ρ (.tmp 9) = .pointer (some ⟨w.heap.size, 0, none⟩) := h0
      have hc0 : W.cell? ⟨w.heap.size, 0, none⟩ = some (.int .i64 (L)) := hF.cell (by assumption)
      go_simp
      exact ⟨Ext.refl _, rfl⟩
    · obtain ⟨h0, -⟩ := hs
      replace h0 : ρ (.tmp 1) = .int .i64 (p) := h0
      go_simp
      exact ⟨Ext.refl _, rfl⟩
    · obtain ⟨h0, -⟩ := hs
      replace h0 : ρ (.tmp 11) = .int .i64 (p) := h0
      go_simp
      exact ⟨Ext.alloc _ _, ints_new _ [p] _ (by simp)⟩
    · obtain ⟨h0, h1, -⟩ := hs
      replace h0 : ρ (.tmp 10) = .int .i64 (L) := h0
      replace h1 : (Ints [p]) (ρ (.tmp 12)) W := h1
      go_simp
      refine (rangeError_any _ _ _ _ _ h1).mono ?_; rintro e w' ⟨rfl, hx⟩; exact ⟨_, rfl, hx, rfl⟩
    · obtain ⟨h0, h1, -⟩ := hs
      replace h0 : ρ (.tmp 8) = .int .i64 (z1) := h0
      replace h1 : ρ (.tmp 13) = .int .i64 (rangeE (0) (L) [p]) := h1
      go_simp
      exact ⟨Ext.alloc _ _, ints_new _ [z1, rangeE (0) (L) [p]] _ (by simp)⟩
    · obtain ⟨h0, -⟩ := hs
      replace h0 : (Ints [z1, rangeE (0) (L) [p]]) (ρ (.tmp 14)) W := h0
      go_simp
      refine (firstOf_any _ _ _ h0).mono ?_; rintro e w' ⟨rfl, rfl⟩; exact ⟨_, rfl, Ext.refl _, rfl⟩
    · obtain ⟨h0, -⟩ := hs
      replace h0 : ρ (.tmp 15) = .int .i64 (firstE [z1, rangeE (0) (L) [p]]) := h0
      go_simp
      exact ⟨Ext.refl _, rfl⟩
  · intro fv W hF hs
    obtain ⟨-, -, -, -, -, -, -, -, -, h6, -⟩ := hs
    replace h6 : fv 6 = .int .i64 (firstE [z1, rangeE (0) (L) [p]]) := h6
    simp only [fin, List.filterMap]
    go_simp
    rw [← HT.out]
    clear HT
    replace K0 := Lib.hid (K0.out.ext hF)
    replace K1 := Lib.hid (K1.out.ext hF)
    have X := Lib.hid (E0.out.trans hF)
    clear hF y0_0 y0_1 y0_2 y1_0 y1_1 E0 HSE
    by_cases hz : z = 0
    · have hz2 : (z != 0) = false := by simp [hz]
      have HC := Lib.hid (fun W (e : Ext w W) => HD.out hz W e)
      have HE := Lib.hid (show dv = df by rw [HV.out, if_pos hz])
      have HZ := Lib.hid hz
      clear hz HD HV
      have z0 : W.cell? ⟨w.heap.size, 0, none⟩ = some (.int .i64 L) := K0.out.cell 0
      have z1 : W.cell? ⟨w.heap.size, 1, none⟩ = some (.slice J n cj) := K0.out.cell 1
      have z2 : W.cell? ⟨w.heap.size, 2, none⟩ = some (.slice K m ck) := K0.out.cell 2
      go_wp2_with (go_at_call 41; refine (HC.out _ X.out).mono ?_; rintro e W2 ⟨rfl, hx⟩; have X2 := Lib.hid (X.out.trans hx); replace K1 := Lib.hid (K1.out.ext hx); have f0 := K1.out.free 0; have f1 := K1.out.free 1; have u0 : W2.cell? ⟨w.heap.size + 1, 0, none⟩ = some (.int .i64 0) := K1.out.cell 0; have u1 : W2.cell? ⟨w.heap.size + 1, 1, none⟩ = some (.int .i64 0) := K1.out.cell 1; clear hx z0 z1 z2)
      exact bodyPost_ret (v := .tuple #[.agg #[.int .i64 df.1, .int .i64 df.2], .int .i64 0]) (by simp [results, Tryz.f17, go_sem, u0, u1]) rfl ⟨by rw [HE.out, HZ.out], Ext.set (Ext.set X2.out (by dsimp only; omega) _) (by dsimp only; omega) _⟩
    · have hz2 : (z != 0) = true := by simp [hz]
      have HE := Lib.hid (show dv = (0, 0) by rw [HV.out, if_neg hz])
      clear hz HD HV
      have f0 := K1.out.free 0
      have f1 := K1.out.free 1
      have u0 : W.cell? ⟨w.heap.size + 1, 0, none⟩ = some (.int .i64 0) := K1.out.cell 0
      have u1 : W.cell? ⟨w.heap.size + 1, 1, none⟩ = some (.int .i64 0) := K1.out.cell 1
      go_wp2
      exact bodyPost_ret (v := .tuple #[.agg #[.int .i64 0, .int .i64 0], .int .i64 z]) (by simp [results, Tryz.f17, go_sem, u0, u1]) rfl ⟨by rw [HE.out], Ext.set (Ext.set X.out (by dsimp only; omega) _) (by dsimp only; omega) _⟩

end Go.Proofs.YtjdilmmpdlcimaaGreat
