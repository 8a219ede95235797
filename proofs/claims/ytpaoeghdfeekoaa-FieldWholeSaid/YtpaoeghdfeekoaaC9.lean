/- The impedance at the input. By regen.py. -/
import Derived.Test.YtpaoeghdfeekoaaC8
namespace Go.Proofs.Ytpaoeghdfeekoaa
open Go.RowKit Go.Mem Go.RegInv
attribute [local go_sem] RelUpon_value RelUpon_skip RelUpon_enter BigFrame.eval_const BigFrame.eval_global BigFrame.eval_func

def Fresh (q : Nat) : Value → World → Prop := fun u W => ∃ b, q ≤ b ∧ u = .pointer (some ⟨b, 0, none⟩) ∧ Blk W b 65 #[.int .i64 0, .int .i64 0]
theorem Fresh.ext {q : Nat} {u : Value} {W W' : World} (h : Fresh q u W) (e : Ext W W') : Fresh q u W' := by
  obtain ⟨b, h1, h2, h3⟩ := h; exact ⟨b, h1, h2, h3.ext e⟩
def CuS (m : Nat) (zs : List G) : Value → World → Prop := fun u W => ∃ g c, u = .slice (some ⟨g, 0, none⟩) m c ∧ RowsAt 2 G.enc W (some ⟨g, 0, none⟩) zs
theorem CuS.ext {m : Nat} {zs : List G} {u : Value} {W W' : World} (h : CuS m zs u W) (e : Ext W W') : CuS m zs u W' := by
  obtain ⟨g, c, h1, h2⟩ := h; exact ⟨g, c, h1, h2.ext e⟩
def CuP (zs : List G) : Value → World → Prop := fun u W => ∃ g, u = .pointer (some ⟨g, 0, none⟩) ∧ RowsAt 2 G.enc W (some ⟨g, 0, none⟩) zs
theorem CuP.ext {zs : List G} {u : Value} {W W' : World} (h : CuP zs u W) (e : Ext W W') : CuP zs u W' := by
  obtain ⟨g, h1, h2⟩ := h; exact ⟨g, h1, h2.ext e⟩

/-- The current at the input. -/
def curIn (f : Int) (hot : List Bool) (l : List Sh) : G := curAt l (volts f hot l).tail 0
def impN (t f : Int) (hot : List Bool) (l : List Sh) : G := ⟨t * t * (volt f hot l 0).re, t * t * (volt f hot l 0).im⟩

theorem big_T {t : Int} (h : 1 ≤ t ∧ t ≤ 20) : 1 ≤ t * t ∧ t * t ≤ 400 := by
  have h1 := Int.mul_le_mul h.2 h.2 (by omega) (by decide)
  have h2 := Int.mul_le_mul h.1 h.1 (by decide) (by omega)
  omega

set_option maxRecDepth 100000 in
set_option maxHeartbeats 2000000 in
theorem impedanceOf_any (t : Int) (A : Option Addr) (n cap : Nat) (l : List Sh) (hn : l.length = n) (f : Int) (B : Option Addr) (m cap' : Nat) (hot : List Bool) (hm : hot.length = m) (w : World)
    (hS : RowsAt 3 Sh.enc w A l) (hH : RowsAt 1 boolEnc w B hot) (hD : driveE t l f m = 0 → (curIn f hot l).re ≠ 0 ∨ (curIn f hot l).im ≠ 0) :
    Calls Try.prog 53 #[.agg #[.int .i64 t, .slice A n cap], .agg #[.int .i64 f, .slice B m cap']] w fun e w' => Ext w w' ∧
      ((driveE t l f m ≠ 0 ∧ e = .returned (.tuple #[.agg #[.int .i64 0, .int .i64 0, .int .i64 0, .int .i64 0], .int .i64 (driveE t l f m)])) ∨
       (driveE t l f m = 0 ∧ e = .returned (.tuple #[.agg (redV (impN t f hot l) (curIn f hot l)), .int .i64 0]))) := by
  have HC := Lib.hid (fun W (e : Ext w W) => checkDrive_any t A n cap l hn f B m cap' W (hS.ext e))
  have e0 : Ext w (((w.alloc (.cells #[.int .i64 t, .slice A n cap] 24)).alloc (.cells #[.int .i64 f, .slice B m cap'] 27)).alloc (.cells #[.int .i64 0, .int .i64 0, .int .i64 0, .int .i64 0] 84)) := (Ext.alloc _ _).trans ((Ext.alloc _ _).trans (Ext.alloc _ _))
  have k0 : Blk (((w.alloc (.cells #[.int .i64 t, .slice A n cap] 24)).alloc (.cells #[.int .i64 f, .slice B m cap'] 27)).alloc (.cells #[.int .i64 0, .int .i64 0, .int .i64 0, .int .i64 0] 84)) w.heap.size 24 #[.int .i64 t, .slice A n cap] := ((Blk.newAt _ _ _ rfl).alloc _).alloc _
  have k1 : Blk (((w.alloc (.cells #[.int .i64 t, .slice A n cap] 24)).alloc (.cells #[.int .i64 f, .slice B m cap'] 27)).alloc (.cells #[.int .i64 0, .int .i64 0, .int .i64 0, .int .i64 0] 84)) (w.heap.size + 1) 27 #[.int .i64 f, .slice B m cap'] := (Blk.newAt _ _ _ (by simp)).alloc _
  have k3 : Blk (((w.alloc (.cells #[.int .i64 t, .slice A n cap] 24)).alloc (.cells #[.int .i64 f, .slice B m cap'] 27)).alloc (.cells #[.int .i64 0, .int .i64 0, .int .i64 0, .int .i64 0] 84)) (w.heap.size + 1 + 1) 84 #[.int .i64 0, .int .i64 0, .int .i64 0, .int .i64 0] := Blk.newAt _ _ _ (by simp)
  have HS := Lib.hid hS
  have HH := Lib.hid hH
  have HN := Lib.hid hn
  have HM := Lib.hid hm
  have HD := Lib.hid hD
  clear hn hS hm hH hD
  generalize hW0 : (((w.alloc (.cells #[.int .i64 t, .slice A n cap] 24)).alloc (.cells #[.int .i64 f, .slice B m cap'] 27)).alloc (.cells #[.int .i64 0, .int .i64 0, .int .i64 0, .int .i64 0] 84)) = W0 at e0 k0 k1 k3
  by_cases hr : driveE t l f m = 0
  · obtain ⟨⟨ht, ⟨h1, h4⟩, hok⟩, hf, hml⟩ := (driveE_zero t l f m).1 hr
    obtain rfl : n = m := by rw [hml, ← HN.out]
    rw [HN.out] at h1 h4
    have hl1 := HN.out
    have HV := Lib.hid (fun W (e : Ext w W) => callsIn_wide.1 (voltagesOf_in t A n cap l HN.out f B cap' hot HM.out W (HS.out.ext e) (HH.out.ext e) hok hf h1 h4))
    have hvb := volts_small (hot := hot) hok hf (by omega)
    have hvl := volts_len f hot l
    have HCU0 := Lib.hid (fun g cp (W : World) (e : Ext w W) hV hcp => currentsOf_in t A n cap l HN.out g cp (volts f hot l) (by rw [hvl, HN.out]) W (HS.out.ext e) hV hcp hok (fun z hz => by
      obtain ⟨i, hi⟩ := List.mem_iff_getElem?.1 hz
      exact hvb (i + 1) z (by simpa using hi)) h1 h4)
    have hlz : l.length = (volts f hot l).tail.length := by simp [hvl]
    have hcb := curAt_bd (ls := l) (zs := (volts f hot l).tail) hlz hok (fun z hz => by
      obtain ⟨i, hi⟩ := List.mem_iff_getElem?.1 hz
      exact hvb (i + 1) z (by simpa using hi)) n 0 (by omega)
    have hclen := curr_len l (volts f hot l).tail hlz
    obtain ⟨⟨d1, d2⟩, hdz⟩ : ∃ z : G, z = volt f hot l 0 := ⟨_, rfl⟩
    obtain ⟨⟨c1, c2⟩, hcz⟩ : ∃ z : G, z = curIn f hot l := ⟨_, rfl⟩
    have hv0 : (volts f hot l)[0]? = some ⟨d1, d2⟩ := by rw [hdz]; simp [volt, List.getElem?_eq_getElem (show 0 < (volts f hot l).length by omega)]
    have hc0 : (curr l (volts f hot l).tail)[0]? = some ⟨c1, c2⟩ := by rw [hcz]; simp [curIn, curAt, List.getElem?_eq_getElem (show 0 < (curr l (volts f hot l).tail).length by omega)]
    have hvb0 := hvb _ _ hv0
    rw [show curAt l (volts f hot l).tail 0 = ⟨c1, c2⟩ from hcz.symm] at hcb
    simp only [Bd] at hvb0 hcb
    obtain ⟨T, hT⟩ : ∃ T, T = t * t := ⟨_, rfl⟩
    have hTb := big_T ht
    rw [← hT] at hTb
    have hTw : IntKind.i64.wrap (t * t) = T := by rw [← hT]; exact IntWalk.i64_in _ (by omega)
    have m1 := mul_bd (n := T) (x := d1) (N := 400) (B := 300000000) (by omega) hTb.2 (by omega) (by omega)
    have m2 := mul_bd (n := T) (x := d2) (N := 400) (B := 300000000) (by omega) hTb.2 (by omega) (by omega)
    have HP := Lib.hid (fun W => show Calls Try.prog 108 #[.agg #[.int .i64 0, .int .i64 0], .int .i64 T, .agg #[.int .i64 d1, .int .i64 d2]] W fun e w' => e = .returned (.agg #[.int .i64 (T * d1), .int .i64 (T * d2)]) ∧ Ext W w' by
      have := plus_any 0 0 T d1 d2 (by unfold Mid; omega) (by unfold Mid; omega) (by unfold Mid; omega) (by unfold Mid; omega) W
      rw [Int.zero_add, Int.zero_add] at this
      exact this)
    have hdn := HD.out hr
    rw [← hcz] at hdn
    obtain ⟨a1, a2, a3, a4, hrv⟩ : ∃ a1 a2 a3 a4, redV ⟨T * d1, T * d2⟩ ⟨c1, c2⟩ = #[.int .i64 a1, .int .i64 a2, .int .i64 a3, .int .i64 a4] := ⟨_, _, _, _, rfl⟩
    have HRD := Lib.hid (fun W => show Calls Try.prog 109 #[.agg #[.int .i64 (T * d1), .int .i64 (T * d2)], .agg #[.int .i64 c1, .int .i64 c2]] W fun e w' => e = .returned (.agg #[.int .i64 a1, .int .i64 a2, .int .i64 a3, .int .i64 a4]) ∧ Ext W w' by
      rw [← hrv]
      exact reduced_any (T * d1) (T * d2) c1 c2 (by unfold Big; omega) (by unfold Big; omega) (by unfold Big; omega) (by unfold Big; omega) hdn W)
    have HRV := Lib.hid (show redV (impN t f hot l) (curIn f hot l) = #[.int .i64 a1, .int .i64 a2, .int .i64 a3, .int .i64 a4] by rw [← hrv, ← hcz, hT]; unfold impN; rw [← hdz])
    have HV0 := Lib.hid hv0
    have HC0 := Lib.hid hc0
    have HR := Lib.hid hr
    clear ht hok hf hml hvb hvl hlz hcb hclen hdz hcz hv0 hc0 hvb0 hT m1 m2 hdn hrv HD
    have hr' : (driveE t l f n != 0) = false := by simp [hr]
    rw [hr] at HC
    have z0 : W0.cell? ⟨w.heap.size, 0, none⟩ = some (.int .i64 t) := k0.cell 0
    have z1 : W0.cell? ⟨w.heap.size, 1, none⟩ = some (.slice A n cap) := k0.cell 1
    have z2 : W0.cell? ⟨w.heap.size + 1, 0, none⟩ = some (.int .i64 f) := k1.cell 0
    have z3 : W0.cell? ⟨w.heap.size + 1, 1, none⟩ = some (.slice B n cap') := k1.cell 1
    have K0 := Lib.hid k0
    have K1 := Lib.hid k1
    have K3 := Lib.hid k3
    clear hr k0 k1 k3 hl1 hTb
    go_enter Try.func53, Try.ntmps53
    go_wp2_with (first
      | (go_at_call 20; refine (HC.out _ e0).mono ?_; rintro e W1 ⟨rfl, hx1⟩; clear z0 z1 z2 z3; have z0 : W1.cell? ⟨w.heap.size, 0, none⟩ = some (.int .i64 t) := (K0.out.ext hx1).cell 0; have z1 : W1.cell? ⟨w.heap.size, 1, none⟩ = some (.slice A n cap) := (K0.out.ext hx1).cell 1; have z2 : W1.cell? ⟨w.heap.size + 1, 0, none⟩ = some (.int .i64 f) := (K1.out.ext hx1).cell 0; have z3 : W1.cell? ⟨w.heap.size + 1, 1, none⟩ = some (.slice B n cap') := (K1.out.ext hx1).cell 1)
      | (go_at_call 89; refine (HV.out _ (e0.trans hx1)).mono ?_; rintro e W4 ⟨g, cp, rfl, hrw, hx4, _, hcp, _⟩))
    have e4 := e0.trans (hx1.trans hx4)
    have E4 := Lib.hid (hx1.trans hx4)
    clear z0 z1 z2 z3
    have z0 : W4.cell? ⟨w.heap.size, 0, none⟩ = some (.int .i64 t) := (K0.out.ext E4.out).cell 0
    have z1 : W4.cell? ⟨w.heap.size, 1, none⟩ = some (.slice A n cap) := (K0.out.ext E4.out).cell 1
    have z2 : W4.cell? ⟨w.heap.size + 1, 0, none⟩ = some (.int .i64 f) := (K1.out.ext E4.out).cell 0
    have z3 : W4.cell? ⟨w.heap.size + 1, 1, none⟩ = some (.slice B n cap') := (K1.out.ext E4.out).cell 1
    obtain ⟨b0, o0, ee0, _, hc0⟩ := hrw.2 _ _ HV0.out
    obtain ⟨rfl, rfl⟩ : g = b0 ∧ 0 = o0 := by simpa using ee0
    have x3 : W4.cell? ⟨g, 0, none⟩ = some (.int .i64 d1) := by have := hc0 0 _ rfl; simpa using this
    have x4 : W4.cell? ⟨g, 1, none⟩ = some (.int .i64 d2) := by have := hc0 1 _ rfl; simpa using this
    have HCU := Lib.hid (fun W (e : Ext W4 W) => HCU0.out g cp W (e4.trans e) (hrw.ext e) hcp)
    have hk3l := K3.out.lt
    have hs4 := E4.out.size
    clear hc0 ee0
    refine wp_region_part 11 [some 19, some 20, some 21, some 22, some 23, some 24, some 25, some 26, some 27, some 28, some 8] [[], [2], [20], [2], [22], [21, 23], [7], [25], [26], [19, 24, 27], []]
      [Is (.agg #[.int .i64 0, .int .i64 0]), Is (.pointer (some ⟨w.heap.size, 0, none⟩)), Is (.int .i64 (t)), Is (.pointer (some ⟨w.heap.size, 0, none⟩)), Is (.int .i64 (t)), Is (.int .i64 (T)), Is (.slice (some ⟨g, 0, none⟩) (n + 1) cp), Is (.pointer (some ⟨g, 0, none⟩)), Is (.agg #[.int .i64 (d1), .int .i64 (d2)]), Is (.agg #[.int .i64 (T * d1), .int .i64 (T * d2)]), Fresh W4.heap.size]
      (by kernel_rfl) (by kernel_rfl) (by kernel_rfl) (by kernel_rfl) (by kernel_rfl) (by kernel_rfl) (by kernel_rfl) Ext (fun W => Ext W4 W)
      (fun W _ => Ext.refl W) (fun W W' h k => h.trans k) ?_ (Ext.drew _) ?_ ?_
    · repeat (refine ⟨fun _ _ _ _ k h => (by first | exact h | exact Fresh.ext h k), ?_⟩)
      exact trivial
    · refine ⟨?_, ?_, ?_, ?_, ?_, ?_, ?_, ?_, ?_, ?_, ?_, trivial⟩
      all_goals intro ρ W ⟨kc, kg, kf⟩ hF hs
      · go_simp
        exact ⟨Ext.refl _, rfl⟩
      · obtain ⟨h0, -⟩ := hs
        replace h0 : ρ (.tmp 2) = .pointer (some ⟨w.heap.size, 0, none⟩) := h0
        go_simp
        exact ⟨Ext.refl _, rfl⟩
      · obtain ⟨h0, -⟩ := hs
        replace h0 : ρ (.tmp 20) = .pointer (some ⟨w.heap.size, 0, none⟩) := h0
        have hc0 : W.cell? ⟨w.heap.size, 0, none⟩ = some (.int .i64 (t)) := hF.cell (by assumption)
        go_simp
        exact ⟨Ext.refl _, rfl⟩
      · obtain ⟨h0, -⟩ := hs
        replace h0 : ρ (.tmp 2) = .pointer (some ⟨w.heap.size, 0, none⟩) := h0
        go_simp
        exact ⟨Ext.refl _, rfl⟩
      · obtain ⟨h0, -⟩ := hs
        replace h0 : ρ (.tmp 22) = .pointer (some ⟨w.heap.size, 0, none⟩) := h0
        have hc0 : W.cell? ⟨w.heap.size, 0, none⟩ = some (.int .i64 (t)) := hF.cell (by assumption)
        go_simp
        exact ⟨Ext.refl _, rfl⟩
      · obtain ⟨h0, h1, -⟩ := hs
        replace h0 : ρ (.tmp 21) = .int .i64 (t) := h0
        replace h1 : ρ (.tmp 23) = .int .i64 (t) := h1
        have hw : IntKind.i64.wrap (t * t) = T := hTw
        go_simp
        exact ⟨Ext.refl _, rfl⟩
      · obtain ⟨h0, -⟩ := hs
        replace h0 : ρ (.tmp 7) = .slice (some ⟨g, 0, none⟩) (n + 1) cp := h0
        go_simp
        exact ⟨Ext.refl _, rfl⟩
      · obtain ⟨h0, -⟩ := hs
        replace h0 : ρ (.tmp 25) = .slice (some ⟨g, 0, none⟩) (n + 1) cp := h0
        have hn0 : (0 : Int) < (n : Int) + 1 := by omega
        go_simp
        exact ⟨Ext.refl _, rfl⟩
      · obtain ⟨h0, -⟩ := hs
        replace h0 : ρ (.tmp 26) = .pointer (some ⟨g, 0, none⟩) := h0
        have hc0 : W.cell? ⟨g, 0, none⟩ = some (.int .i64 (d1)) := hF.cell (by assumption)
        have hc1 : W.cell? ⟨g, 1, none⟩ = some (.int .i64 (d2)) := hF.cell (by assumption)
        go_simp
        exact ⟨Ext.refl _, rfl⟩
      · obtain ⟨h0, h1, h2, -⟩ := hs
        replace h0 : ρ (.tmp 19) = .agg #[.int .i64 0, .int .i64 0] := h0
        replace h1 : ρ (.tmp 24) = .int .i64 (T) := h1
        replace h2 : ρ (.tmp 27) = .agg #[.int .i64 (d1), .int .i64 (d2)] := h2
        go_simp
        refine (HP.out W).mono ?_; rintro e w' ⟨rfl, hx⟩; exact ⟨_, rfl, hx, rfl⟩
      · go_simp
        exact ⟨Ext.alloc _ _, W.heap.size, hF.size, rfl, Blk.new _ _ _⟩
    · intro fv W hF hs
      obtain ⟨-, -, -, -, -, -, -, -, -, h28, h8, -⟩ := hs
      replace h28 : fv 28 = .agg #[.int .i64 (T * d1), .int .i64 (T * d2)] := h28
      replace h8 : (Fresh W4.heap.size) (fv 8) W := h8
      simp only [fin, List.filterMap]
      go_simp
      obtain ⟨B0, hB0, e8, bB⟩ := h8
      have e8' : fv 8 = .pointer (some ⟨B0, 0, none⟩) := e8
      rw [e8']
      have d0 := bB.cell 0
      have dd1 := bB.cell 1
      have f0 := bB.free 0
      have f1 := bB.free 1
      simp only [List.getElem?_toArray, List.getElem?_cons_zero, List.getElem?_cons_succ] at d0 dd1
      have hE6 : Ext W4 ((W.setCell ⟨B0, 0, none⟩ (.int .i64 (T * d1))).setCell ⟨B0, 1, none⟩ (.int .i64 (T * d2))) := Ext.set (Ext.set hF hB0 _) hB0 _
      have hB6 := (bB.setSame 0 (.int .i64 (T * d1))).setSame 1 (.int .i64 (T * d2))
      have hB6' : Blk ((W.setCell ⟨B0, 0, none⟩ (.int .i64 (T * d1))).setCell ⟨B0, 1, none⟩ (.int .i64 (T * d2))) B0 65 #[.int .i64 (T * d1), .int .i64 (T * d2)] := by simpa using hB6
      have HE6 := Lib.hid hE6
      have HB6 := Lib.hid hB6'
      clear e8 e8' bB hE6 hB6 hB6' hF h28
      go_wp2
      generalize ((W.setCell ⟨B0, 0, none⟩ (.int .i64 (T * d1))).setCell ⟨B0, 1, none⟩ (.int .i64 (T * d2))) = W6 at HE6 HB6 ⊢
      clear d0 dd1 f0 f1
      have k3 := (K3.out.ext E4.out).ext HE6.out
      have x5 : W6.cell? ⟨B0, 0, none⟩ = some (.int .i64 (T * d1)) := HB6.out.cell 0
      have x6 : W6.cell? ⟨B0, 1, none⟩ = some (.int .i64 (T * d2)) := HB6.out.cell 1
      replace z0 := HE6.out.cell z0
      replace z1 := HE6.out.cell z1
      have HCU1 := Lib.hid (fun W (e : Ext W6 W) => HCU.out W (HE6.out.trans e))
      clear HCU z2 z3 x3 x4
      have HCU := HCU1
      clear HCU1
      refine wp_region_part 7 [some 29, some 30, some 31, some 32, some 33, some 34, some 35] [[8], [2], [7], [30, 31], [32], [33], [29, 34]]
        [Is (.agg #[.int .i64 (T * d1), .int .i64 (T * d2)]), Is (.agg #[.int .i64 (t), .slice A n cap]), Is (.slice (some ⟨g, 0, none⟩) (n + 1) cp), CuS n (curr l (volts f hot l).tail), CuP (curr l (volts f hot l).tail), Is (.agg #[.int .i64 c1, .int .i64 c2]), Is (.agg #[.int .i64 a1, .int .i64 a2, .int .i64 a3, .int .i64 a4])]
        (by kernel_rfl) (by kernel_rfl) (by kernel_rfl) (by kernel_rfl) (by kernel_rfl) (by kernel_rfl) (by kernel_rfl) Ext (fun W => Ext W6 W)
        (fun W _ => Ext.refl W) (fun W W' h k => h.trans k) ?_ (Ext.drew _) ?_ ?_
      · repeat (refine ⟨fun _ _ _ _ k h => (by first | exact h | exact (by first | exact CuS.ext h k | exact CuP.ext h k)), ?_⟩)
        exact trivial
      · refine ⟨?_, ?_, ?_, ?_, ?_, ?_, ?_, trivial⟩
        all_goals intro ρ W ⟨kc, kg, kf⟩ hF hs
        · obtain ⟨h0, -⟩ := hs
          replace h0 : ρ (.tmp 8) = .pointer (some ⟨B0, 0, none⟩) := h0
          have hc0 : W.cell? ⟨B0, 0, none⟩ = some (.int .i64 (T * d1)) := hF.cell (by assumption)
          have hc1 : W.cell? ⟨B0, 1, none⟩ = some (.int .i64 (T * d2)) := hF.cell (by assumption)
          go_simp
          exact ⟨Ext.refl _, rfl⟩
        · obtain ⟨h0, -⟩ := hs
          replace h0 : ρ (.tmp 2) = .pointer (some ⟨w.heap.size, 0, none⟩) := h0
          have hc0 : W.cell? ⟨w.heap.size, 0, none⟩ = some (.int .i64 (t)) := hF.cell (by assumption)
          have hc1 : W.cell? ⟨w.heap.size, 1, none⟩ = some (.slice A n cap) := hF.cell (by assumption)
          go_simp
          exact ⟨Ext.refl _, rfl⟩
        · obtain ⟨h0, -⟩ := hs
          replace h0 : ρ (.tmp 7) = .slice (some ⟨g, 0, none⟩) (n + 1) cp := h0
          go_simp
          exact ⟨Ext.refl _, rfl⟩
        · obtain ⟨h0, h1, -⟩ := hs
          replace h0 : ρ (.tmp 30) = .agg #[.int .i64 (t), .slice A n cap] := h0
          replace h1 : ρ (.tmp 31) = .slice (some ⟨g, 0, none⟩) (n + 1) cp := h1
          go_simp
          refine (callsIn_wide.1 (HCU.out W hF)).mono ?_
          rintro e w' ⟨g', c', cu, rfl, hr, _, hx⟩
          exact ⟨_, rfl, hx, g', c', rfl, hr⟩
        · obtain ⟨h0, -⟩ := hs
          replace h0 : (CuS n (curr l (volts f hot l).tail)) (ρ (.tmp 32)) W := h0
          obtain ⟨g', c', e, hr⟩ := h0
          have hn0 : 0 < n := by omega
          go_simp
          exact ⟨Ext.refl _, g', rfl, hr⟩
        · obtain ⟨h0, -⟩ := hs
          replace h0 : (CuP (curr l (volts f hot l).tail)) (ρ (.tmp 33)) W := h0
          obtain ⟨g', e, hr⟩ := h0
          obtain ⟨b1, o1, e1, _, hc⟩ := hr.2 0 _ HC0.out
          obtain ⟨rfl, rfl⟩ : g' = b1 ∧ 0 = o1 := by simpa using e1
          have x1 : W.cell? ⟨g', 0, none⟩ = some (.int .i64 c1) := by have := hc 0 _ rfl; simpa using this
          have x2 : W.cell? ⟨g', 1, none⟩ = some (.int .i64 c2) := by have := hc 1 _ rfl; simpa using this
          go_simp
          exact ⟨Ext.refl _, rfl⟩
        · obtain ⟨h0, h1, -⟩ := hs
          replace h0 : ρ (.tmp 29) = .agg #[.int .i64 (T * d1), .int .i64 (T * d2)] := h0
          replace h1 : ρ (.tmp 34) = .agg #[.int .i64 c1, .int .i64 c2] := h1
          go_simp
          refine (HRD.out W).mono ?_; rintro e w' ⟨rfl, hx⟩; exact ⟨_, rfl, hx, rfl⟩
      · intro fv W hF hs
        obtain ⟨-, -, -, -, -, -, h35, -⟩ := hs
        replace h35 : fv 35 = .agg #[.int .i64 a1, .int .i64 a2, .int .i64 a3, .int .i64 a4] := h35
        simp only [fin, List.filterMap]
        go_simp
        have k4 := k3.ext hF
        have f0 := k4.free 0
        have f1 := k4.free 1
        have f2 := k4.free 2
        have f3 := k4.free 3
        have y0 := k4.cell 0
        have y1 := k4.cell 1
        have y2 := k4.cell 2
        have y3 := k4.cell 3
        simp only [List.getElem?_toArray, List.getElem?_cons_zero, List.getElem?_cons_succ] at y0 y1 y2 y3
        have HE7 := Lib.hid (e4.trans (HE6.out.trans hF))
        clear hF h35 z0 z1 x5 x6 k3 k4
        go_wp2
        refine bodyPost_ret (v := .tuple #[.agg #[.int .i64 a1, .int .i64 a2, .int .i64 a3, .int .i64 a4], .int .i64 0]) (by simp [results, Try.f53, go_sem, y0, y1, y2, y3]) rfl ⟨Ext.set (Ext.set (Ext.set (Ext.set HE7.out (by dsimp only; omega) _) (by dsimp only; omega) _) (by dsimp only; omega) _) (by dsimp only; omega) _, .inr ⟨HR.out, ?_⟩⟩
        rw [HRV.out]
  · have HR := Lib.hid hr
    have hr' : (driveE t l f m != 0) = true := by simp [hr]
    have K3 := Lib.hid k3
    clear hr HD
    obtain ⟨r, hrr⟩ : ∃ r, r = driveE t l f m := ⟨_, rfl⟩
    rw [← hrr] at hr' HC
    have HRR := Lib.hid hrr
    have z0 : W0.cell? ⟨w.heap.size, 0, none⟩ = some (.int .i64 t) := k0.cell 0
    have z1 : W0.cell? ⟨w.heap.size, 1, none⟩ = some (.slice A n cap) := k0.cell 1
    have z2 : W0.cell? ⟨w.heap.size + 1, 0, none⟩ = some (.int .i64 f) := k1.cell 0
    have z3 : W0.cell? ⟨w.heap.size + 1, 1, none⟩ = some (.slice B m cap') := k1.cell 1
    clear hrr k0 k1 k3
    go_enter Try.func53, Try.ntmps53
    go_wp2_with (go_at_call 20; refine (HC.out _ e0).mono ?_; rintro e W1 ⟨rfl, hx1⟩; have f0 := (K3.out.ext hx1).free 0; have f1 := (K3.out.ext hx1).free 1; have f2 := (K3.out.ext hx1).free 2; have f3 := (K3.out.ext hx1).free 3; have y0 := (K3.out.ext hx1).cell 0; have y1 := (K3.out.ext hx1).cell 1; have y2 := (K3.out.ext hx1).cell 2; have y3 := (K3.out.ext hx1).cell 3; simp only [List.getElem?_toArray, List.getElem?_cons_zero, List.getElem?_cons_succ] at y0 y1 y2 y3)
    refine bodyPost_ret (v := .tuple #[.agg #[.int .i64 0, .int .i64 0, .int .i64 0, .int .i64 0], .int .i64 r]) (by simp [results, Try.f53, go_sem, y0, y1, y2, y3]) rfl ⟨Ext.set (Ext.set (Ext.set (Ext.set (e0.trans hx1) (by dsimp only; omega) _) (by dsimp only; omega) _) (by dsimp only; omega) _) (by dsimp only; omega) _, .inl ⟨HR.out, by rw [HRR.out]⟩⟩

end Go.Proofs.Ytpaoeghdfeekoaa
