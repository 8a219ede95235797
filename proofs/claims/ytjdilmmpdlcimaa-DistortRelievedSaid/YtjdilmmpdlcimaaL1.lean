/- Tempered kinks. -/
import Derived.Test.YtjdilmmpdlcimaaJ1
import Derived.Test.YtjdilmmpdlcimaaC10
import Derived.Lib.MinMax
import Derived.Deep.DeepCutAuto
import Derived.BigQuiet

namespace Go.Proofs.Ytjdilmmpdlcimaa
open Go.RowKit Go.Shelf Go.Mem Go.RegInv
attribute [local go_sem] RelUpon_value RelUpon_skip RelUpon_enter BigFrame.eval_const BigFrame.eval_global BigFrame.eval_func

def relMin (r p : Rg) : Int := min (min (min (r.1 * (1000 - p.1)) (r.1 * (1000 - p.2))) (r.2 * (1000 - p.1))) (r.2 * (1000 - p.2))
def relMax (r p : Rg) : Int := max (max (max (r.1 * (1000 - p.1)) (r.1 * (1000 - p.2))) (r.2 * (1000 - p.1))) (r.2 * (1000 - p.2))
def relV (r p : Rg) : Rg := (relMin r p / 1000, ceilD (relMax r p) 1000)
theorem scale_bd {x u : Int} (hu : 0 ≤ u ∧ u ≤ 1000) : min 0 x * 1000 ≤ x * u ∧ x * u ≤ max 0 x * 1000 := by
  rcases Int.lt_or_le x 0 with h | h
  · have h1 : -x * u ≤ -x * 1000 := Int.mul_le_mul_of_nonneg_left hu.2 (by omega)
    have h2 : 0 ≤ -x * u := Int.mul_nonneg (by omega) hu.1
    rw [Int.neg_mul] at h1 h2
    rw [Int.neg_mul] at h1
    rw [show min 0 x = x by omega, show max 0 x = 0 by omega]
    omega
  · have h1 : x * u ≤ x * 1000 := Int.mul_le_mul_of_nonneg_left hu.2 h
    have h2 : 0 ≤ x * u := Int.mul_nonneg h hu.1
    rw [show min 0 x = 0 by omega, show max 0 x = x by omega]
    omega
theorem relV_in {r p : Rg} (hr : r.1 ≤ r.2) (hp : 0 ≤ p.1 ∧ p.1 ≤ p.2 ∧ p.2 ≤ 1000) : min 0 r.1 ≤ (relV r p).1 ∧ (relV r p).2 ≤ max 0 r.2 ∧ (relV r p).1 ≤ (relV r p).2 := by
  have a := scale_bd (x := r.1) (u := 1000 - p.1) (by omega)
  have b := scale_bd (x := r.1) (u := 1000 - p.2) (by omega)
  have c := scale_bd (x := r.2) (u := 1000 - p.1) (by omega)
  have d := scale_bd (x := r.2) (u := 1000 - p.2) (by omega)
  have h1 : min 0 r.1 * 1000 ≤ relMin r p := by unfold relMin; omega
  have h2 : relMax r p ≤ max 0 r.2 * 1000 := by unfold relMax; omega
  have h3 : relMin r p ≤ relMax r p := by unfold relMin relMax; omega
  refine ⟨Int.le_ediv_of_mul_le (by decide) h1, ceilD_le (by decide) h2, ?_⟩
  exact Int.le_trans (ceil_floor (by decide)).1 (ceilD_mono (by decide) h3)
theorem relV_same {r : Rg} (hr : r.1 ≤ r.2) : relV r (0, 0) = r := by
  unfold relV relMin relMax
  dsimp only
  rw [show min (min (min (r.1 * (1000 - 0)) (r.1 * (1000 - 0))) (r.2 * (1000 - 0))) (r.2 * (1000 - 0)) = r.1 * 1000 by omega, show max (max (max (r.1 * (1000 - 0)) (r.1 * (1000 - 0))) (r.2 * (1000 - 0))) (r.2 * (1000 - 0)) = r.2 * 1000 by omega]
  refine Prod.ext ?_ ?_
  · show r.1 * 1000 / 1000 = r.1
    omega
  · show ceilD (r.2 * 1000) 1000 = r.2
    unfold ceilD
    omega
theorem relV_none (r : Rg) : relV r (1000, 1000) = (0, 0) := by
  unfold relV relMin relMax
  dsimp only
  simp [ceilD]
theorem relV_bd {r p : Rg} (hr : -100000 ≤ r.1 ∧ r.1 ≤ r.2 ∧ r.2 ≤ 100000) (hp : 0 ≤ p.1 ∧ p.1 ≤ p.2 ∧ p.2 ≤ 1000) : (-100000000 ≤ relMin r p ∧ relMin r p ≤ 100000000) ∧ -100000000 ≤ relMax r p ∧ relMax r p ≤ 100000000 := by
  have a := scale_bd (x := r.1) (u := 1000 - p.1) (by omega)
  have b := scale_bd (x := r.1) (u := 1000 - p.2) (by omega)
  have c := scale_bd (x := r.2) (u := 1000 - p.1) (by omega)
  have d := scale_bd (x := r.2) (u := 1000 - p.2) (by omega)
  unfold relMin relMax
  omega

def mnF (am : List Int) : Nat → Int
  | 0 => am.getD 0 0
  | k + 1 => min (mnF am k) (am.getD (k + 1) 0)
theorem minI_any {P : Option Addr} {np cp : Nat} {am : List Int} {w : World} (hnp : am.length = np) (hP : RowsAt 1 I1 w P am) (h1 : 1 ≤ np) :
    Calls Try.prog 120 #[.slice P np cp] w fun e w' => e = .returned (.int .i64 (mnF am (np - 1))) ∧ Ext w w' := by
  have HN := Lib.hid hnp
  have HP := Lib.hid hP
  obtain ⟨jb, jo, rfl, hjb, hj0⟩ := row_I1 hP (i := 0) (by omega)
  have hj1 : w.cell? ⟨jb, jo, none⟩ = some (.int .i64 (am.getD 0 0)) := by simpa using hj0
  have hnb : np ≤ 1152921504606846976 := by have := hP.1; omega
  have hd : decide (np < 1) = false := by simp; omega
  have hd' : decide ((np : Int) < (1 : Int)) = false := by simp; omega
  have hlt0 : (0 : Int) < (np : Int) := by omega
  have hlt1 : 0 < np := by omega
  clear hnp hP hj0
  go_enter Try.func120, Try.ntmps120
  go_wp2
  go_loopw [3, 4] (fun m i wr => ∃ k : Nat, 1 ≤ k ∧ k ≤ np ∧ i = .int .i64 (k : Int) ∧ m = .int .i64 (mnF am (k - 1)) ∧ Hid (w = wr)) (fun _ i _ => np - (intOf i).toNat)
  case atStart => exact ⟨1, by omega, by omega, rfl, rfl, Lib.hid rfl⟩
  case round =>
    obtain ⟨k, hk1, hk, rfl, rfl, hw⟩ := hrel
    obtain rfl := hw.out
    clear hw
    by_cases hlt : k < np
    · obtain ⟨b2, o2, he, hb2, hjc⟩ := row_I1 HP.out (i := k) (by have := HN.out; omega)
      obtain ⟨rfl, rfl⟩ : jb = b2 ∧ jo = o2 := by simpa using he
      have HK := Lib.hid (show mnF am (k + 1 - 1) = min (mnF am (k - 1)) (am.getD k 0) by
        obtain ⟨j, rfl⟩ : ∃ j, k = j + 1 := ⟨k - 1, by omega⟩
        rfl)
      generalize mnF am (k - 1) = a at *
      generalize am.getD k 0 = b at *
      have hki : (k : Int) < (np : Int) := by omega
      clear he hb2
      go_wp2
      go_roundw
      case rel => exact ⟨k + 1, by omega, by omega, by go_num, by rw [HK.out], Lib.hid trivial⟩
      case measure => simp [intOf]; omega
    · obtain rfl : k = np := by omega
      have hkn : ¬ (k : Int) < (k : Int) := by omega
      go_wp2
      go_ret
      exact ⟨rfl, Ext.refl _⟩

def mxF (am : List Int) : Nat → Int
  | 0 => am.getD 0 0
  | k + 1 => max (mxF am k) (am.getD (k + 1) 0)
theorem maxI_any {P : Option Addr} {np cp : Nat} {am : List Int} {w : World} (hnp : am.length = np) (hP : RowsAt 1 I1 w P am) (h1 : 1 ≤ np) :
    Calls Try.prog 121 #[.slice P np cp] w fun e w' => e = .returned (.int .i64 (mxF am (np - 1))) ∧ Ext w w' := by
  have HN := Lib.hid hnp
  have HP := Lib.hid hP
  obtain ⟨jb, jo, rfl, hjb, hj0⟩ := row_I1 hP (i := 0) (by omega)
  have hj1 : w.cell? ⟨jb, jo, none⟩ = some (.int .i64 (am.getD 0 0)) := by simpa using hj0
  have hnb : np ≤ 1152921504606846976 := by have := hP.1; omega
  have hd : decide (np < 1) = false := by simp; omega
  have hd' : decide ((np : Int) < (1 : Int)) = false := by simp; omega
  have hlt0 : (0 : Int) < (np : Int) := by omega
  have hlt1 : 0 < np := by omega
  clear hnp hP hj0
  go_enter Try.func121, Try.ntmps121
  go_wp2
  go_loopw [3, 4] (fun m i wr => ∃ k : Nat, 1 ≤ k ∧ k ≤ np ∧ i = .int .i64 (k : Int) ∧ m = .int .i64 (mxF am (k - 1)) ∧ Hid (w = wr)) (fun _ i _ => np - (intOf i).toNat)
  case atStart => exact ⟨1, by omega, by omega, rfl, rfl, Lib.hid rfl⟩
  case round =>
    obtain ⟨k, hk1, hk, rfl, rfl, hw⟩ := hrel
    obtain rfl := hw.out
    clear hw
    by_cases hlt : k < np
    · obtain ⟨b2, o2, he, hb2, hjc⟩ := row_I1 HP.out (i := k) (by have := HN.out; omega)
      obtain ⟨rfl, rfl⟩ : jb = b2 ∧ jo = o2 := by simpa using he
      have HK := Lib.hid (show mxF am (k + 1 - 1) = max (mxF am (k - 1)) (am.getD k 0) by
        obtain ⟨j, rfl⟩ : ∃ j, k = j + 1 := ⟨k - 1, by omega⟩
        rfl)
      generalize mxF am (k - 1) = a at *
      generalize am.getD k 0 = b at *
      have hki : (k : Int) < (np : Int) := by omega
      clear he hb2
      go_wp2
      go_roundw
      case rel => exact ⟨k + 1, by omega, by omega, by go_num, by rw [HK.out], Lib.hid trivial⟩
      case measure => simp [intOf]; omega
    · obtain rfl : k = np := by omega
      have hkn : ¬ (k : Int) < (k : Int) := by omega
      go_wp2
      go_ret
      exact ⟨rfl, Ext.refl _⟩

theorem mn_rel (x1 x2 p1 p2 : Int) : mnF [x1 * (1000 - p2), x1 * (1000 - p1), x2 * (1000 - p2), x2 * (1000 - p1)] 3 = relMin (x1, x2) (p1, p2) := by
  simp only [mnF, relMin, List.getD_eq_getElem?_getD, List.getElem?_cons_zero, List.getElem?_cons_succ, Option.getD_some]
  omega
theorem mx_rel (x1 x2 p1 p2 : Int) : mxF [x1 * (1000 - p2), x1 * (1000 - p1), x2 * (1000 - p2), x2 * (1000 - p1)] 3 = relMax (x1, x2) (p1, p2) := by
  simp only [mxF, relMax, List.getD_eq_getElem?_getD, List.getElem?_cons_zero, List.getElem?_cons_succ, Option.getD_some]
  omega
set_option maxRecDepth 100000 in
set_option maxHeartbeats 4000000 in
theorem relieved86_any (x1 x2 p1 p2 : Int) (hx : -100000 ≤ x1 ∧ x1 ≤ x2 ∧ x2 ≤ 100000) (hp : 0 ≤ p1 ∧ p1 ≤ p2 ∧ p2 ≤ 1000) (w : World) :
    Calls Try.prog 86 #[.agg #[.int .i64 x1, .int .i64 x2], .agg #[.int .i64 p1, .int .i64 p2]] w fun e w' => e = .returned (.agg #[.int .i64 (relV (x1, x2) (p1, p2)).1, .int .i64 (relV (x1, x2) (p1, p2)).2]) ∧ Ext w w' := by
  have hbd := relV_bd (r := (x1, x2)) (p := (p1, p2)) hx hp
  have HRV := Lib.hid (show relV (x1, x2) (p1, p2) = (relMin (x1, x2) (p1, p2) / 1000, ceilD (relMax (x1, x2) (p1, p2)) 1000) from rfl)
  have HM := Lib.hid (mn_rel x1 x2 p1 p2)
  have HX := Lib.hid (mx_rel x1 x2 p1 p2)
  have hc1 := scale_bd (x := x1) (u := 1000 - p1) (by omega)
  have hc2 := scale_bd (x := x1) (u := 1000 - p2) (by omega)
  have hc3 := scale_bd (x := x2) (u := 1000 - p1) (by omega)
  have hc4 := scale_bd (x := x2) (u := 1000 - p2) (by omega)
  have hb1 : -100000000 ≤ x1 * (1000 - p1) ∧ x1 * (1000 - p1) ≤ 100000000 := by omega
  have hb2 : -100000000 ≤ x1 * (1000 - p2) ∧ x1 * (1000 - p2) ≤ 100000000 := by omega
  have hb3 : -100000000 ≤ x2 * (1000 - p1) ∧ x2 * (1000 - p1) ≤ 100000000 := by omega
  have hb4 : -100000000 ≤ x2 * (1000 - p2) ∧ x2 * (1000 - p2) ≤ 100000000 := by omega
  generalize relV (x1, x2) (p1, p2) = rv at *
  generalize relMin (x1, x2) (p1, p2) = mn at *
  generalize relMax (x1, x2) (p1, p2) = mx at *
  have HFL := Lib.hid (fun W => floorP_any mn 1000 (by decide) (by omega) W)
  have HCE := Lib.hid (fun W => ceilP_any mx 1000 (by decide) (by omega) W)
  clear hc1 hc2 hc3 hc4 hbd
  obtain ⟨W0, hW0⟩ : ∃ W0, W0 = ((w.alloc (.cells #[.int .i64 x1, .int .i64 x2] 33)).alloc (.cells #[.int .i64 p1, .int .i64 p2] 33)).alloc (.cells #[.int .i64 0, .int .i64 0] 33) := ⟨_, rfl⟩
  have K0 := Lib.hid (show Blk W0 (w.heap.size) 33 #[.int .i64 x1, .int .i64 x2] by rw [hW0]; exact ((Blk.new _ _ _).alloc _).alloc _)
  have K1 := Lib.hid (show Blk W0 (w.heap.size + 1) 33 #[.int .i64 p1, .int .i64 p2] by rw [hW0]; exact (Blk.newAt _ _ _ (by simp)).alloc _)
  have K2 := Lib.hid (show Blk W0 (w.heap.size + 1 + 1) 33 #[.int .i64 0, .int .i64 0] by rw [hW0]; exact Blk.newAt _ _ _ (by simp))
  have E0 := Lib.hid (show Ext w W0 by rw [hW0]; exact ((Ext.alloc _ _).trans (Ext.alloc _ _)).trans (Ext.alloc _ _))
  have y0_0 : W0.cell? ⟨w.heap.size, 0, none⟩ = some (.int .i64 x1) := K0.out.cell 0
  have y0_1 : W0.cell? ⟨w.heap.size, 1, none⟩ = some (.int .i64 x2) := K0.out.cell 1
  have y1_0 : W0.cell? ⟨w.heap.size + 1, 0, none⟩ = some (.int .i64 p1) := K1.out.cell 0
  have y1_1 : W0.cell? ⟨w.heap.size + 1, 1, none⟩ = some (.int .i64 p2) := K1.out.cell 1
  have y2_0 : W0.cell? ⟨w.heap.size + 1 + 1, 0, none⟩ = some (.int .i64 0) := K2.out.cell 0
  have y2_1 : W0.cell? ⟨w.heap.size + 1 + 1, 1, none⟩ = some (.int .i64 0) := K2.out.cell 1
  go_enter Try.func86, Try.ntmps86
  go_upto_region 1 with (fail)
  rw [← hW0]
  clear hW0
  obtain ⟨q5, hq5⟩ : ∃ q, q = W0.heap.size := ⟨_, rfl⟩
  obtain ⟨W1, hW1⟩ : ∃ W, W = W0.alloc (.cells #[.int .i64 (1000 - p2), .int .i64 (1000 - p1)] 33) := ⟨_, rfl⟩
  have E1 := Lib.hid (show Ext W0 W1 by rw [hW1]; exact Ext.alloc _ _)
  have K5 := Lib.hid (show Blk W1 q5 33 #[.int .i64 (1000 - p2), .int .i64 (1000 - p1)] by rw [hW1, hq5]; exact Blk.new _ _ _)
  go_upto_region 2 with (fail)
  rw [← hW1, ← hq5]
  clear hW1 hq5
  replace K0 := Lib.hid (K0.out.ext E1.out)
  replace K1 := Lib.hid (K1.out.ext E1.out)
  replace K2 := Lib.hid (K2.out.ext E1.out)
  have X := Lib.hid (E0.out.trans E1.out)
  clear y0_0 y0_1 y1_0 y1_1 y2_0 y2_1
  have y0_0 : W1.cell? ⟨w.heap.size, 0, none⟩ = some (.int .i64 x1) := K0.out.cell 0
  have y0_1 : W1.cell? ⟨w.heap.size, 1, none⟩ = some (.int .i64 x2) := K0.out.cell 1
  have y5_0 : W1.cell? ⟨q5, 0, none⟩ = some (.int .i64 (1000 - p2)) := K5.out.cell 0
  have y5_1 : W1.cell? ⟨q5, 1, none⟩ = some (.int .i64 (1000 - p1)) := K5.out.cell 1
  obtain ⟨q6, hq6⟩ : ∃ q, q = W1.heap.size := ⟨_, rfl⟩
  obtain ⟨W2, hW2⟩ : ∃ W, W = W1.alloc (.cells #[.int .i64 (x1 * (1000 - p2)), .int .i64 (x1 * (1000 - p1)), .int .i64 (x2 * (1000 - p2)), .int .i64 (x2 * (1000 - p1))] 87) := ⟨_, rfl⟩
  have E2 := Lib.hid (show Ext W1 W2 by rw [hW2]; exact Ext.alloc _ _)
  have K6 := Lib.hid (show Blk W2 q6 87 #[.int .i64 (x1 * (1000 - p2)), .int .i64 (x1 * (1000 - p1)), .int .i64 (x2 * (1000 - p2)), .int .i64 (x2 * (1000 - p1))] by rw [hW2, hq6]; exact Blk.new _ _ _)
  go_upto_region 3 with (fail)
  rw [← hW2, ← hq6]
  clear hW2 hq6
  replace X := Lib.hid (X.out.trans E2.out)
  replace K2 := Lib.hid (K2.out.ext E2.out)
  clear y0_0 y0_1 y5_0 y5_1 K0 K1 K5 E0 E1 E2
  have HR := Lib.hid (show RowsAt 1 I1 W2 (some ⟨q6, 0, none⟩) [x1 * (1000 - p2), x1 * (1000 - p1), x2 * (1000 - p2), x2 * (1000 - p1)] from ⟨by simp, fun i y hy => ⟨q6, 0, rfl, K6.out.lt, fun u v hu => by
    rcases i with _ | _ | _ | _ | i
    all_goals first | (simp at hy; done) | (obtain rfl := Option.some.inj hy; rcases u with _ | u <;> first | (obtain rfl := Option.some.inj hu; first | exact K6.out.cell 0 | exact K6.out.cell 1 | exact K6.out.cell 2 | exact K6.out.cell 3) | (simp [I1] at hu; done))⟩⟩)
  have HMN := Lib.hid (fun W (e : Ext W2 W) => show Calls Try.prog 120 #[.slice (some ⟨q6, 0, none⟩) 4 4] W fun e w' => e = .returned (.int .i64 mn) ∧ Ext W w' from by have := minI_any (np := 4) (cp := 4) rfl (HR.out.ext e) (by decide); rw [show 4 - 1 = 3 from rfl, HM.out] at this; exact this)
  have HMX := Lib.hid (fun W (e : Ext W2 W) => show Calls Try.prog 121 #[.slice (some ⟨q6, 0, none⟩) 4 4] W fun e w' => e = .returned (.int .i64 mx) ∧ Ext W w' from by have := maxI_any (np := 4) (cp := 4) rfl (HR.out.ext e) (by decide); rw [show 4 - 1 = 3 from rfl, HX.out] at this; exact this)
  clear HM HX HR
  refine wp_region_partR 7 [some 35, some 36, some 37, some 38, some 39, some 40, some 41] [[6], [35], [36], [6], [38], [39], [37, 40]]
    [Is (.slice (some ⟨q6, 0, none⟩) 4 4), Is (.int .i64 (mn)), Is (.int .i64 (mn / 1000)), Is (.slice (some ⟨q6, 0, none⟩) 4 4), Is (.int .i64 (mx)), Is (.int .i64 (ceilD mx 1000)), Is (.agg #[.int .i64 (mn / 1000), .int .i64 (ceilD mx 1000)])]
    (by kernel_rfl) (by kernel_rfl) (by kernel_rfl) (by kernel_rfl) (by kernel_rfl) (by kernel_rfl) (by kernel_rfl) Ext (fun W => Ext W2 W)
    (fun W _ => Ext.refl W) (fun W W' h k => h.trans k) ?_ (Ext.drew _) ?_ ?_
  · repeat (refine ⟨fun _ _ _ _ k h => (by first | exact h | exact (IntsAt.ext h k)), ?_⟩)
    exact trivial
  · refine ⟨?_, ?_, ?_, ?_, ?_, ?_, ?_, trivial⟩
    all_goals intro ρ W ⟨kc, kg, kf⟩ hF hs
    · obtain ⟨h0, -⟩ := hs
      replace h0 : ρ (.tmp 6) = .pointer (some ⟨q6, 0, none⟩) := h0
      go_simp
      exact ⟨Ext.refl _, rfl⟩
    · obtain ⟨h0, -⟩ := hs
      replace h0 : ρ (.tmp 35) = .slice (some ⟨q6, 0, none⟩) 4 4 := h0
      go_simp
      refine (HMN.out _ hF).mono ?_; rintro e w' ⟨rfl, hx⟩; exact ⟨_, rfl, hx, rfl⟩
    · obtain ⟨h0, -⟩ := hs
      replace h0 : ρ (.tmp 36) = .int .i64 (mn) := h0
      go_simp
      refine (HFL.out _).mono ?_; rintro e w' ⟨rfl, rfl⟩; exact ⟨_, rfl, Ext.refl _, rfl⟩
    · obtain ⟨h0, -⟩ := hs
      replace h0 : ρ (.tmp 6) = .pointer (some ⟨q6, 0, none⟩) := h0
      go_simp
      exact ⟨Ext.refl _, rfl⟩
    · obtain ⟨h0, -⟩ := hs
      replace h0 : ρ (.tmp 38) = .slice (some ⟨q6, 0, none⟩) 4 4 := h0
      go_simp
      refine (HMX.out _ hF).mono ?_; rintro e w' ⟨rfl, hx⟩; exact ⟨_, rfl, hx, rfl⟩
    · obtain ⟨h0, -⟩ := hs
      replace h0 : ρ (.tmp 39) = .int .i64 (mx) := h0
      go_simp
      refine (HCE.out _).mono ?_; rintro e w' ⟨rfl, rfl⟩; exact ⟨_, rfl, Ext.refl _, rfl⟩
    · obtain ⟨h0, h1, -⟩ := hs
      replace h0 : ρ (.tmp 37) = .int .i64 (mn / 1000) := h0
      replace h1 : ρ (.tmp 40) = .int .i64 (ceilD mx 1000) := h1
      go_simp
      exact ⟨Ext.refl _, rfl⟩
  · intro fv W3 hF hs
    obtain ⟨-, -, -, -, -, -, h41, -⟩ := hs
    replace h41 : fv 41 = .agg #[.int .i64 (mn / 1000), .int .i64 (ceilD mx 1000)] := h41
    simp only [fin, List.filterMap]
    go_simp
    replace X := Lib.hid (X.out.trans hF)
    replace K2 := Lib.hid (K2.out.ext hF)
    have f0 := K2.out.free 0
    have f1 := K2.out.free 1
    have y2_0 : W3.cell? ⟨w.heap.size + 1 + 1, 0, none⟩ = some (.int .i64 0) := K2.out.cell 0
    have y2_1 : W3.cell? ⟨w.heap.size + 1 + 1, 1, none⟩ = some (.int .i64 0) := K2.out.cell 1
    clear hF HMN HMX HFL HCE K6
    go_wp2
    exact bodyPost_ret (v := .agg #[.int .i64 (mn / 1000), .int .i64 (ceilD mx 1000)]) (by simp [results, Try.f86, go_sem, y2_0, y2_1]) rfl ⟨by rw [HRV.out], Ext.set (Ext.set X.out (by dsimp only; omega) _) (by dsimp only; omega) _⟩

end Go.Proofs.Ytjdilmmpdlcimaa
