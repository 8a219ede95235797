/- The reference of tempered shafts. -/
import Derived.Test.YtjdilmmpdlcimaaL2
import Derived.Test.YtjdilmmpdlcimaaF5
import Derived.Lib.MinMax
import Derived.Deep.DeepCutAuto
import Derived.BigQuiet

namespace Go.Proofs.Ytjdilmmpdlcimaa
open Go.RowKit Go.Shelf Go.Mem Go.RegInv
attribute [local go_sem] RelUpon_value RelUpon_skip RelUpon_enter BigFrame.eval_const BigFrame.eval_global BigFrame.eval_func


theorem ite_min (x y : Int) : (if y < x then y else x) = min x y := by split <;> omega
theorem ite_max (x y : Int) : (if x < y then y else x) = max x y := by split <;> omega
def relU (ks : List Rg) (p : Rg) (n k : Nat) : List Rg := (List.range n).map fun i => if i < k then relV (ks.getD i default) p else ks.getD i default
theorem relU_len (ks : List Rg) (p : Rg) (n k : Nat) : (relU ks p n k).length = n := by simp [relU]
theorem relU_at {ks : List Rg} {p : Rg} {n k i : Nat} (h : i < n) : (relU ks p n k)[i]? = some (if i < k then relV (ks.getD i default) p else ks.getD i default) := by simp [relU, h]
theorem relU_zero {ks : List Rg} {p : Rg} {n : Nat} (h : ks.length = n) : relU ks p n 0 = ks := by
  apply List.ext_getElem?
  intro i
  by_cases hi : i < n
  · rw [relU_at hi]
    simp [show i < ks.length by omega]
  · rw [List.getElem?_eq_none (by rw [relU_len]; omega), List.getElem?_eq_none (by omega)]
theorem relU_all (ks : List Rg) (p : Rg) (n : Nat) : relU ks p n n = relL ks p n := by
  unfold relU relL kinkL
  apply List.map_congr_left
  intro i hi
  rw [if_pos (by simpa using hi)]
theorem relU_next {ks : List Rg} {p : Rg} {n k : Nat} (hk : k < n) : relU ks p n (k + 1) = (relU ks p n k).set k (relV (ks.getD k default) p) := by
  apply List.ext_getElem?
  intro i
  rw [List.getElem?_set]
  by_cases hi : i < n
  · rw [relU_at hi, relU_at hi]
    by_cases he : k = i
    · subst he
      rw [if_pos rfl, if_pos (show k < k + 1 by omega), if_pos (show k < (relU ks p n k).length by rw [relU_len]; exact hi)]
    · rw [if_neg he]
      by_cases h : i < k
      · rw [if_pos (by omega), if_pos h]
      · rw [if_neg (by omega), if_neg h]
  · rw [List.getElem?_eq_none (by rw [relU_len]; omega), if_neg (by omega), List.getElem?_eq_none (by rw [relU_len]; omega)]
set_option maxRecDepth 100000 in
set_option maxHeartbeats 4000000 in
theorem refRel_any {L : Int} {J K : Option Addr} {n cj ck : Nat} {js : List Int} {ks : List Rg} {w : World} (hn : js.length = n) (hJ : RowsAt 1 I1 w J js) (hm : ks.length = n) (hK : RowsAt 2 Rg.enc w K ks) {p1 p2 : Int} (hjn : J = none → cj = 0) (hkn : K = none → ck = 0) (hs : ShOK L js ks) (hp : 0 ≤ p1 ∧ p1 ≤ p2 ∧ p2 ≤ 1000) :
    Calls Try.prog 32 #[.agg #[.int .i64 L, .slice J n cj, .slice K n ck], .agg #[.int .i64 p1, .int .i64 p2]] w fun e w' => ∃ v, e = .returned v ∧ CopS L js (relL ks (p1, p2) n) n n v w' ∧ Ext w w' := by
  have hn4 : n ≤ 4 := by have := hs.four; omega
  have HCW := Lib.hid (fun W (e : Ext w W) => copyShaftW_any (L := L) (cj := cj) (ck := ck) hn (hJ.ext e) hm (hK.ext e) hjn hkn (by omega) (by omega))
  have HNJ := Lib.hid hn
  have HMK := Lib.hid hm
  have HK := Lib.hid hK
  have HKI := Lib.hid hs.kink
  clear hn hJ hm hK hjn hkn hs
  have HRL := Lib.hid (relU_all ks (p1, p2) n)
  generalize relL ks (p1, p2) n = rl at *
  obtain ⟨W0, hW0⟩ : ∃ W0, W0 = ((w.alloc (.cells #[.int .i64 L, .slice J n cj, .slice K n ck] 25)).alloc (.cells #[.int .i64 p1, .int .i64 p2] 33)).alloc (.cells #[.int .i64 0, .slice none 0 0, .slice none 0 0] 25) := ⟨_, rfl⟩
  have K0 := Lib.hid (show Blk W0 (w.heap.size) 25 #[.int .i64 L, .slice J n cj, .slice K n ck] by rw [hW0]; exact ((Blk.new _ _ _).alloc _).alloc _)
  have K1 := Lib.hid (show Blk W0 (w.heap.size + 1) 33 #[.int .i64 p1, .int .i64 p2] by rw [hW0]; exact (Blk.newAt _ _ _ (by simp)).alloc _)
  have K2 := Lib.hid (show Blk W0 (w.heap.size + 1 + 1) 25 #[.int .i64 0, .slice none 0 0, .slice none 0 0] by rw [hW0]; exact Blk.newAt _ _ _ (by simp))
  have E0 := Lib.hid (show Ext w W0 by rw [hW0]; exact ((Ext.alloc _ _).trans (Ext.alloc _ _)).trans (Ext.alloc _ _))
  have y0_0 : W0.cell? ⟨w.heap.size, 0, none⟩ = some (.int .i64 L) := K0.out.cell 0
  have y0_1 : W0.cell? ⟨w.heap.size, 1, none⟩ = some (.slice J n cj) := K0.out.cell 1
  have y0_2 : W0.cell? ⟨w.heap.size, 2, none⟩ = some (.slice K n ck) := K0.out.cell 2
  have y1_0 : W0.cell? ⟨w.heap.size + 1, 0, none⟩ = some (.int .i64 p1) := K1.out.cell 0
  have y1_1 : W0.cell? ⟨w.heap.size + 1, 1, none⟩ = some (.int .i64 p2) := K1.out.cell 1
  have y2_0 : W0.cell? ⟨w.heap.size + 1 + 1, 0, none⟩ = some (.int .i64 0) := K2.out.cell 0
  have y2_1 : W0.cell? ⟨w.heap.size + 1 + 1, 1, none⟩ = some (.slice none 0 0) := K2.out.cell 1
  have y2_2 : W0.cell? ⟨w.heap.size + 1 + 1, 2, none⟩ = some (.slice none 0 0) := K2.out.cell 2
  have HSZ := Lib.hid (show w.heap.size + 3 ≤ W0.heap.size by rw [hW0]; simp)
  go_enter Try.func32, Try.ntmps32
  go_upto_region 1 with (fail)
  rw [← hW0]
  clear hW0
  go_wp2_with (go_at_call 16; refine (HCW.out _ E0.out).mono ?_; rintro e W1 ⟨J1, cj1, Kx, ck1, rfl, oj, ok, hx⟩; have OJ := Lib.hid (own_low oj E0.out.size); have OK := Lib.hid (own_low ok HSZ.out); have X := Lib.hid (E0.out.trans hx); replace K0 := Lib.hid (K0.out.ext hx); replace K1 := Lib.hid (K1.out.ext hx); replace K2 := Lib.hid (K2.out.ext hx); clear hx oj ok E0 y0_0 y0_1 y0_2 y1_0 y1_1 y2_0 y2_1 y2_2; refine Hid.out ?_)
  refine Lib.hid ?_
  clear HCW
  obtain ⟨q8, hq⟩ : ∃ q, q = W1.heap.size := ⟨_, rfl⟩
  obtain ⟨W2, hW2⟩ : ∃ W, W = W1.alloc (.cells #[.int .i64 L, .slice J1 n cj1, .slice Kx n ck1] 25) := ⟨_, rfl⟩
  have hx : Ext W1 W2 := by rw [hW2]; exact Ext.alloc _ _
  have K8 := Lib.hid (show Blk W2 q8 25 #[.int .i64 L, .slice J1 n cj1, .slice Kx n ck1] by rw [hW2, hq]; exact Blk.new _ _ _)
  replace X := Lib.hid (X.out.trans hx)
  replace K0 := Lib.hid (K0.out.ext hx)
  replace K1 := Lib.hid (K1.out.ext hx)
  replace K2 := Lib.hid (K2.out.ext hx)
  replace OJ := Lib.hid (own_ext OJ.out hx)
  replace OK := Lib.hid (own_ext OK.out hx)
  go_upto_region 2 with (fail)
  rw [← hW2, ← hq]
  clear hx hW2 hq
  go_wp2
  go_loopw [6] (fun i wr => ∃ k : Nat, k ≤ n ∧ i = .int .i64 (k : Int) ∧ Ext w wr ∧ Blk wr (w.heap.size) 25 #[.int .i64 L, .slice J n cj, .slice K n ck] ∧ Blk wr (w.heap.size + 1) 33 #[.int .i64 p1, .int .i64 p2] ∧ Blk wr (w.heap.size + 1 + 1) 25 #[.int .i64 0, .slice none 0 0, .slice none 0 0] ∧ Blk wr (q8) 25 #[.int .i64 L, .slice J1 n cj1, .slice Kx n ck1] ∧ wr.ownsRow w.heap.size 3 1 (.slice J1 n cj1) n (js.flatMap I1) ∧ wr.ownsRow (w.heap.size + 3) 33 2 (.slice Kx n ck1) n ((relU ks (p1, p2) n k).flatMap Rg.enc)) (fun i _ => n - (intOf i).toNat)
  case atStart => exact ⟨0, by omega, rfl, X.out, K0.out, K1.out, K2.out, K8.out, OJ.out, by rw [relU_zero HMK.out]; exact OK.out⟩
  case round =>
    clear X K0 K1 K2 K8 OJ OK
    obtain ⟨k, hk, rfl, h1, h0, h2, h3, h4, h5, h6⟩ := hrel
    have X := Lib.hid h1
    have K0 := Lib.hid h0
    have K1 := Lib.hid h2
    have K2 := Lib.hid h3
    have K8 := Lib.hid h4
    have OJ := Lib.hid h5
    have OK := Lib.hid h6
    clear h0 h1 h2 h3 h4 h5 h6
    by_cases hlt : k < n
    · have hra := relU_at (ks := ks) (p := (p1, p2)) (k := k) hlt
      rw [if_neg (by omega)] at hra
      have hki2 := HKI.out k (by have := HNJ.out; omega)
      have HNX := Lib.hid (relU_next (ks := ks) (p := (p1, p2)) hlt)
      obtain ⟨kb, ko, rfl, hb, hc0, hc1⟩ := row_Rg (HK.out.ext X.out) (i := k) (by have := HMK.out; omega)
      generalize ks.getD k default = x at *
      obtain ⟨x1, x2⟩ := x
      dsimp only at hki2 hc0 hc1
      have HRV := Lib.hid (show relV (x1, x2) (p1, p2) = (relMin (x1, x2) (p1, p2) / 1000, ceilD (relMax (x1, x2) (p1, p2)) 1000) from rfl)
      have hbd := relV_bd (r := (x1, x2)) (p := (p1, p2)) (by dsimp only; omega) hp
      have HFL := Lib.hid (fun W => floor_any (relMin (x1, x2) (p1, p2)) 1000 (by decide) (by omega) W)
      have HCE := Lib.hid (fun W => ceil_any (relMax (x1, x2) (p1, p2)) 1000 (by decide) (by omega) W)
      have hq1 := scale_bd (x := x1) (u := 1000 - p1) (by omega)
      have hq2 := scale_bd (x := x1) (u := 1000 - p2) (by omega)
      have hq3 := scale_bd (x := x2) (u := 1000 - p1) (by omega)
      have hq4 := scale_bd (x := x2) (u := 1000 - p2) (by omega)
      rw [show relMin (x1, x2) (p1, p2) = min (min (min (x1 * (1000 - p1)) (x1 * (1000 - p2))) (x2 * (1000 - p1))) (x2 * (1000 - p2)) from rfl, show relMax (x1, x2) (p1, p2) = max (max (max (x1 * (1000 - p1)) (x1 * (1000 - p2))) (x2 * (1000 - p1))) (x2 * (1000 - p2)) from rfl] at HRV
      rw [show relMin (x1, x2) (p1, p2) = min (min (min (x1 * (1000 - p1)) (x1 * (1000 - p2))) (x2 * (1000 - p1))) (x2 * (1000 - p2)) from rfl] at HFL
      rw [show relMax (x1, x2) (p1, p2) = max (max (max (x1 * (1000 - p1)) (x1 * (1000 - p2))) (x2 * (1000 - p1))) (x2 * (1000 - p2)) from rfl] at HCE
      have hb1 : -100000000 ≤ x1 * (1000 - p1) ∧ x1 * (1000 - p1) ≤ 100000000 := by omega
      have hb2 : -100000000 ≤ x1 * (1000 - p2) ∧ x1 * (1000 - p2) ≤ 100000000 := by omega
      have hb3 : -100000000 ≤ x2 * (1000 - p1) ∧ x2 * (1000 - p1) ≤ 100000000 := by omega
      have hb4 : -100000000 ≤ x2 * (1000 - p2) ∧ x2 * (1000 - p2) ≤ 100000000 := by omega
      rw [HRV.out] at HNX
      clear hq1 hq2 hq3 hq4 hbd HRV hb
      obtain ⟨g, rfl, hg⟩ := own_at OK.out (by omega)
      have hki : (k : Int) < (n : Int) := by omega
      obtain ⟨V, hV⟩ : ∃ V, V = wr := ⟨_, rfl⟩
      rw [← hV] at X K0 K1 K2 K8 OJ OK hc0 hc1 ⊢
      clear hV
      have y0_0 : V.cell? ⟨w.heap.size, 0, none⟩ = some (.int .i64 L) := K0.out.cell 0
      have y0_1 : V.cell? ⟨w.heap.size, 1, none⟩ = some (.slice J n cj) := K0.out.cell 1
      have y0_2 : V.cell? ⟨w.heap.size, 2, none⟩ = some (.slice (some ⟨kb, ko, none⟩) n ck) := K0.out.cell 2
      have y1_0 : V.cell? ⟨w.heap.size + 1, 0, none⟩ = some (.int .i64 p1) := K1.out.cell 0
      have y1_1 : V.cell? ⟨w.heap.size + 1, 1, none⟩ = some (.int .i64 p2) := K1.out.cell 1
      go_upto_region 5 with (fail)
      refine wp_region_each [some 20, some 21, some 22, some 23, some 24, some 25, some 26, some 27, some 28, some 29, some 30, some 31, some 32, some 33, some 34, some 35, some 36, some 37, some 38, some 39, some 7, some 8] [[2], [20], [6], [21, 22], [23], [24], [3], [26], [27], [25, 28], [2], [30], [6], [31, 32], [33], [34], [3], [36], [37], [35, 38], [29], [39]]
        [Is (.pointer (some ⟨w.heap.size, 2, none⟩)), Is (.slice (some ⟨kb, ko, none⟩) n ck), Is (.int .i64 ((k : Int))), Is (.pointer (some ⟨kb, ko + k * 2, none⟩)), Is (.pointer (some ⟨kb, ko + k * 2, none⟩)), Is (.int .i64 (x1)), Is (.pointer (some ⟨w.heap.size + 1, 0, none⟩)), Is (.int .i64 (p1)), Is (.int .i64 (1000 - p1)), Is (.int .i64 (x1 * (1000 - p1))), Is (.pointer (some ⟨w.heap.size, 2, none⟩)), Is (.slice (some ⟨kb, ko, none⟩) n ck), Is (.int .i64 ((k : Int))), Is (.pointer (some ⟨kb, ko + k * 2, none⟩)), Is (.pointer (some ⟨kb, ko + k * 2, none⟩)), Is (.int .i64 (x1)), Is (.pointer (some ⟨w.heap.size + 1, 1, none⟩)), Is (.int .i64 (p2)), Is (.int .i64 (1000 - p2)), Is (.int .i64 (x1 * (1000 - p2))), Is (.int .i64 (x1 * (1000 - p1))), Is (.int .i64 (x1 * (1000 - p2)))]
        (by kernel_rfl) (by kernel_rfl) (by kernel_rfl) (by kernel_rfl) (by kernel_rfl) Ext (fun W => Ext V W)
        (fun W _ => Ext.refl W) (fun W W' h k => h.trans k) ?_ (Ext.drew _) ?_ ?_
      · repeat (refine ⟨fun _ _ _ _ k h => (by first | exact h | exact (IntsAt.ext h k)), ?_⟩)
        exact trivial
      · refine ⟨?_, ?_, ?_, ?_, ?_, ?_, ?_, ?_, ?_, ?_, ?_, ?_, ?_, ?_, ?_, ?_, ?_, ?_, ?_, ?_, ?_, ?_, trivial⟩
        all_goals intro ρ W ⟨kc, kg, kf⟩ hF hs
        · obtain ⟨h0, -⟩ := hs
          replace h0 : ρ (.tmp 2) = .pointer (some ⟨w.heap.size, 0, none⟩) := h0
          go_simp
          exact ⟨Ext.refl _, rfl⟩
        · obtain ⟨h0, -⟩ := hs
          replace h0 : ρ (.tmp 20) = .pointer (some ⟨w.heap.size, 2, none⟩) := h0
          have hc0 : W.cell? ⟨w.heap.size, 2, none⟩ = some (.slice (some ⟨kb, ko, none⟩) n ck) := hF.cell (by assumption)
          go_simp
          exact ⟨Ext.refl _, rfl⟩
        · obtain ⟨h0, -⟩ := hs
          replace h0 : ρ (.tmp 6) = .int .i64 ((k : Int)) := h0
          go_simp
          exact ⟨Ext.refl _, rfl⟩
        · obtain ⟨h0, h1, -⟩ := hs
          replace h0 : ρ (.tmp 21) = .slice (some ⟨kb, ko, none⟩) n ck := h0
          replace h1 : ρ (.tmp 22) = .int .i64 ((k : Int)) := h1
          have hb1 : (k : Int) < (n : Int) := by omega
          have hb3 : (0 : Int) ≤ (k : Int) := by omega
          have hb4 : ((k : Int)).toNat = k := by omega
          have hb8 : k < n := by omega
          go_simp
          exact ⟨Ext.refl _, rfl⟩
        · obtain ⟨h0, -⟩ := hs
          replace h0 : ρ (.tmp 23) = .pointer (some ⟨kb, ko + k * 2, none⟩) := h0
          go_simp
          exact ⟨Ext.refl _, rfl⟩
        · obtain ⟨h0, -⟩ := hs
          replace h0 : ρ (.tmp 24) = .pointer (some ⟨kb, ko + k * 2, none⟩) := h0
          have hc0 : W.cell? ⟨kb, ko + k * 2, none⟩ = some (.int .i64 (x1)) := hF.cell (by assumption)
          go_simp
          exact ⟨Ext.refl _, rfl⟩
        · obtain ⟨h0, -⟩ := hs
          replace h0 : ρ (.tmp 3) = .pointer (some ⟨w.heap.size + 1, 0, none⟩) := h0
          go_simp
          exact ⟨Ext.refl _, rfl⟩
        · obtain ⟨h0, -⟩ := hs
          replace h0 : ρ (.tmp 26) = .pointer (some ⟨w.heap.size + 1, 0, none⟩) := h0
          have hc0 : W.cell? ⟨w.heap.size + 1, 0, none⟩ = some (.int .i64 (p1)) := hF.cell (by assumption)
          go_simp
          exact ⟨Ext.refl _, rfl⟩
        · obtain ⟨h0, -⟩ := hs
          replace h0 : ρ (.tmp 27) = .int .i64 (p1) := h0
          have hw : IntKind.i64.wrap (1000 - p1) = 1000 - p1 := wrap_id _ (by omega) (by omega)
          go_simp
          exact ⟨Ext.refl _, rfl⟩
        · obtain ⟨h0, h1, -⟩ := hs
          replace h0 : ρ (.tmp 25) = .int .i64 (x1) := h0
          replace h1 : ρ (.tmp 28) = .int .i64 (1000 - p1) := h1
          have hw : IntKind.i64.wrap (x1 * (1000 - p1)) = x1 * (1000 - p1) := wrap_id _ (by omega) (by omega)
          go_simp
          exact ⟨Ext.refl _, rfl⟩
        · obtain ⟨h0, -⟩ := hs
          replace h0 : ρ (.tmp 2) = .pointer (some ⟨w.heap.size, 0, none⟩) := h0
          go_simp
          exact ⟨Ext.refl _, rfl⟩
        · obtain ⟨h0, -⟩ := hs
          replace h0 : ρ (.tmp 30) = .pointer (some ⟨w.heap.size, 2, none⟩) := h0
          have hc0 : W.cell? ⟨w.heap.size, 2, none⟩ = some (.slice (some ⟨kb, ko, none⟩) n ck) := hF.cell (by assumption)
          go_simp
          exact ⟨Ext.refl _, rfl⟩
        · obtain ⟨h0, -⟩ := hs
          replace h0 : ρ (.tmp 6) = .int .i64 ((k : Int)) := h0
          go_simp
          exact ⟨Ext.refl _, rfl⟩
        · obtain ⟨h0, h1, -⟩ := hs
          replace h0 : ρ (.tmp 31) = .slice (some ⟨kb, ko, none⟩) n ck := h0
          replace h1 : ρ (.tmp 32) = .int .i64 ((k : Int)) := h1
          have hb1 : (k : Int) < (n : Int) := by omega
          have hb3 : (0 : Int) ≤ (k : Int) := by omega
          have hb4 : ((k : Int)).toNat = k := by omega
          have hb8 : k < n := by omega
          go_simp
          exact ⟨Ext.refl _, rfl⟩
        · obtain ⟨h0, -⟩ := hs
          replace h0 : ρ (.tmp 33) = .pointer (some ⟨kb, ko + k * 2, none⟩) := h0
          go_simp
          exact ⟨Ext.refl _, rfl⟩
        · obtain ⟨h0, -⟩ := hs
          replace h0 : ρ (.tmp 34) = .pointer (some ⟨kb, ko + k * 2, none⟩) := h0
          have hc0 : W.cell? ⟨kb, ko + k * 2, none⟩ = some (.int .i64 (x1)) := hF.cell (by assumption)
          go_simp
          exact ⟨Ext.refl _, rfl⟩
        · obtain ⟨h0, -⟩ := hs
          replace h0 : ρ (.tmp 3) = .pointer (some ⟨w.heap.size + 1, 0, none⟩) := h0
          go_simp
          exact ⟨Ext.refl _, rfl⟩
        · obtain ⟨h0, -⟩ := hs
          replace h0 : ρ (.tmp 36) = .pointer (some ⟨w.heap.size + 1, 1, none⟩) := h0
          have hc0 : W.cell? ⟨w.heap.size + 1, 1, none⟩ = some (.int .i64 (p2)) := hF.cell (by assumption)
          go_simp
          exact ⟨Ext.refl _, rfl⟩
        · obtain ⟨h0, -⟩ := hs
          replace h0 : ρ (.tmp 37) = .int .i64 (p2) := h0
          have hw : IntKind.i64.wrap (1000 - p2) = 1000 - p2 := wrap_id _ (by omega) (by omega)
          go_simp
          exact ⟨Ext.refl _, rfl⟩
        · obtain ⟨h0, h1, -⟩ := hs
          replace h0 : ρ (.tmp 35) = .int .i64 (x1) := h0
          replace h1 : ρ (.tmp 38) = .int .i64 (1000 - p2) := h1
          have hw : IntKind.i64.wrap (x1 * (1000 - p2)) = x1 * (1000 - p2) := wrap_id _ (by omega) (by omega)
          go_simp
          exact ⟨Ext.refl _, rfl⟩
        · obtain ⟨h0, -⟩ := hs
          replace h0 : ρ (.tmp 29) = .int .i64 (x1 * (1000 - p1)) := h0
          go_simp
          exact ⟨Ext.refl _, rfl⟩
        · obtain ⟨h0, -⟩ := hs
          replace h0 : ρ (.tmp 39) = .int .i64 (x1 * (1000 - p2)) := h0
          go_simp
          exact ⟨Ext.refl _, rfl⟩
      · intro fv V1 hF hs
        obtain ⟨-, -, -, -, -, -, -, -, -, -, -, -, -, -, -, -, -, -, -, -, h7, h8, -⟩ := hs
        replace h7 : fv 7 = .int .i64 (x1 * (1000 - p1)) := h7
        replace h8 : fv 8 = .int .i64 (x1 * (1000 - p2)) := h8
        simp only [fin, List.filterMap]
        go_simp
        replace X := Lib.hid (X.out.trans hF)
        replace K0 := Lib.hid (K0.out.ext hF)
        replace K1 := Lib.hid (K1.out.ext hF)
        replace K2 := Lib.hid (K2.out.ext hF)
        replace K8 := Lib.hid (K8.out.ext hF)
        replace OJ := Lib.hid (own_ext OJ.out hF)
        replace OK := Lib.hid (own_ext OK.out hF)
        replace hc0 := hF.cell hc0
        replace hc1 := hF.cell hc1
        clear hF y0_0 y0_1 y0_2 y1_0 y1_1
        have y0_0 : V1.cell? ⟨w.heap.size, 0, none⟩ = some (.int .i64 L) := K0.out.cell 0
        have y0_1 : V1.cell? ⟨w.heap.size, 1, none⟩ = some (.slice J n cj) := K0.out.cell 1
        have y0_2 : V1.cell? ⟨w.heap.size, 2, none⟩ = some (.slice (some ⟨kb, ko, none⟩) n ck) := K0.out.cell 2
        have y1_0 : V1.cell? ⟨w.heap.size + 1, 0, none⟩ = some (.int .i64 p1) := K1.out.cell 0
        have y1_1 : V1.cell? ⟨w.heap.size + 1, 1, none⟩ = some (.int .i64 p2) := K1.out.cell 1
        go_upto_region 6 with (fail)
        refine wp_region_each [some 40, some 41, some 42, some 43, some 44, some 45, some 46, some 47, some 48, some 49, some 50, some 51, some 52, some 53, some 54, some 55, some 56, some 57, some 58, some 59, some 9, some 10] [[2], [40], [6], [41, 42], [43], [44], [3], [46], [47], [45, 48], [2], [50], [6], [51, 52], [53], [54], [3], [56], [57], [55, 58], [49], [59]]
          [Is (.pointer (some ⟨w.heap.size, 2, none⟩)), Is (.slice (some ⟨kb, ko, none⟩) n ck), Is (.int .i64 ((k : Int))), Is (.pointer (some ⟨kb, ko + k * 2, none⟩)), Is (.pointer (some ⟨kb, ko + k * 2 + 1, none⟩)), Is (.int .i64 (x2)), Is (.pointer (some ⟨w.heap.size + 1, 0, none⟩)), Is (.int .i64 (p1)), Is (.int .i64 (1000 - p1)), Is (.int .i64 (x2 * (1000 - p1))), Is (.pointer (some ⟨w.heap.size, 2, none⟩)), Is (.slice (some ⟨kb, ko, none⟩) n ck), Is (.int .i64 ((k : Int))), Is (.pointer (some ⟨kb, ko + k * 2, none⟩)), Is (.pointer (some ⟨kb, ko + k * 2 + 1, none⟩)), Is (.int .i64 (x2)), Is (.pointer (some ⟨w.heap.size + 1, 1, none⟩)), Is (.int .i64 (p2)), Is (.int .i64 (1000 - p2)), Is (.int .i64 (x2 * (1000 - p2))), Is (.int .i64 (x2 * (1000 - p1))), Is (.int .i64 (x2 * (1000 - p2)))]
          (by kernel_rfl) (by kernel_rfl) (by kernel_rfl) (by kernel_rfl) (by kernel_rfl) Ext (fun W => Ext V1 W)
          (fun W _ => Ext.refl W) (fun W W' h k => h.trans k) ?_ (Ext.drew _) ?_ ?_
        · repeat (refine ⟨fun _ _ _ _ k h => (by first | exact h | exact (IntsAt.ext h k)), ?_⟩)
          exact trivial
        · refine ⟨?_, ?_, ?_, ?_, ?_, ?_, ?_, ?_, ?_, ?_, ?_, ?_, ?_, ?_, ?_, ?_, ?_, ?_, ?_, ?_, ?_, ?_, trivial⟩
          all_goals intro ρ W ⟨kc, kg, kf⟩ hF hs
          · obtain ⟨h0, -⟩ := hs
            replace h0 : ρ (.tmp 2) = .pointer (some ⟨w.heap.size, 0, none⟩) := h0
            go_simp
            exact ⟨Ext.refl _, rfl⟩
          · obtain ⟨h0, -⟩ := hs
            replace h0 : ρ (.tmp 40) = .pointer (some ⟨w.heap.size, 2, none⟩) := h0
            have hc0 : W.cell? ⟨w.heap.size, 2, none⟩ = some (.slice (some ⟨kb, ko, none⟩) n ck) := hF.cell (by assumption)
            go_simp
            exact ⟨Ext.refl _, rfl⟩
          · obtain ⟨h0, -⟩ := hs
            replace h0 : ρ (.tmp 6) = .int .i64 ((k : Int)) := h0
            go_simp
            exact ⟨Ext.refl _, rfl⟩
          · obtain ⟨h0, h1, -⟩ := hs
            replace h0 : ρ (.tmp 41) = .slice (some ⟨kb, ko, none⟩) n ck := h0
            replace h1 : ρ (.tmp 42) = .int .i64 ((k : Int)) := h1
            have hb1 : (k : Int) < (n : Int) := by omega
            have hb3 : (0 : Int) ≤ (k : Int) := by omega
            have hb4 : ((k : Int)).toNat = k := by omega
            have hb8 : k < n := by omega
            go_simp
            exact ⟨Ext.refl _, rfl⟩
          · obtain ⟨h0, -⟩ := hs
            replace h0 : ρ (.tmp 43) = .pointer (some ⟨kb, ko + k * 2, none⟩) := h0
            go_simp
            exact ⟨Ext.refl _, rfl⟩
          · obtain ⟨h0, -⟩ := hs
            replace h0 : ρ (.tmp 44) = .pointer (some ⟨kb, ko + k * 2 + 1, none⟩) := h0
            have hc0 : W.cell? ⟨kb, ko + k * 2 + 1, none⟩ = some (.int .i64 (x2)) := hF.cell (by assumption)
            go_simp
            exact ⟨Ext.refl _, rfl⟩
          · obtain ⟨h0, -⟩ := hs
            replace h0 : ρ (.tmp 3) = .pointer (some ⟨w.heap.size + 1, 0, none⟩) := h0
            go_simp
            exact ⟨Ext.refl _, rfl⟩
          · obtain ⟨h0, -⟩ := hs
            replace h0 : ρ (.tmp 46) = .pointer (some ⟨w.heap.size + 1, 0, none⟩) := h0
            have hc0 : W.cell? ⟨w.heap.size + 1, 0, none⟩ = some (.int .i64 (p1)) := hF.cell (by assumption)
            go_simp
            exact ⟨Ext.refl _, rfl⟩
          · obtain ⟨h0, -⟩ := hs
            replace h0 : ρ (.tmp 47) = .int .i64 (p1) := h0
            have hw : IntKind.i64.wrap (1000 - p1) = 1000 - p1 := wrap_id _ (by omega) (by omega)
            go_simp
            exact ⟨Ext.refl _, rfl⟩
          · obtain ⟨h0, h1, -⟩ := hs
            replace h0 : ρ (.tmp 45) = .int .i64 (x2) := h0
            replace h1 : ρ (.tmp 48) = .int .i64 (1000 - p1) := h1
            have hw : IntKind.i64.wrap (x2 * (1000 - p1)) = x2 * (1000 - p1) := wrap_id _ (by omega) (by omega)
            go_simp
            exact ⟨Ext.refl _, rfl⟩
          · obtain ⟨h0, -⟩ := hs
            replace h0 : ρ (.tmp 2) = .pointer (some ⟨w.heap.size, 0, none⟩) := h0
            go_simp
            exact ⟨Ext.refl _, rfl⟩
          · obtain ⟨h0, -⟩ := hs
            replace h0 : ρ (.tmp 50) = .pointer (some ⟨w.heap.size, 2, none⟩) := h0
            have hc0 : W.cell? ⟨w.heap.size, 2, none⟩ = some (.slice (some ⟨kb, ko, none⟩) n ck) := hF.cell (by assumption)
            go_simp
            exact ⟨Ext.refl _, rfl⟩
          · obtain ⟨h0, -⟩ := hs
            replace h0 : ρ (.tmp 6) = .int .i64 ((k : Int)) := h0
            go_simp
            exact ⟨Ext.refl _, rfl⟩
          · obtain ⟨h0, h1, -⟩ := hs
            replace h0 : ρ (.tmp 51) = .slice (some ⟨kb, ko, none⟩) n ck := h0
            replace h1 : ρ (.tmp 52) = .int .i64 ((k : Int)) := h1
            have hb1 : (k : Int) < (n : Int) := by omega
            have hb3 : (0 : Int) ≤ (k : Int) := by omega
            have hb4 : ((k : Int)).toNat = k := by omega
            have hb8 : k < n := by omega
            go_simp
            exact ⟨Ext.refl _, rfl⟩
          · obtain ⟨h0, -⟩ := hs
            replace h0 : ρ (.tmp 53) = .pointer (some ⟨kb, ko + k * 2, none⟩) := h0
            go_simp
            exact ⟨Ext.refl _, rfl⟩
          · obtain ⟨h0, -⟩ := hs
            replace h0 : ρ (.tmp 54) = .pointer (some ⟨kb, ko + k * 2 + 1, none⟩) := h0
            have hc0 : W.cell? ⟨kb, ko + k * 2 + 1, none⟩ = some (.int .i64 (x2)) := hF.cell (by assumption)
            go_simp
            exact ⟨Ext.refl _, rfl⟩
          · obtain ⟨h0, -⟩ := hs
            replace h0 : ρ (.tmp 3) = .pointer (some ⟨w.heap.size + 1, 0, none⟩) := h0
            go_simp
            exact ⟨Ext.refl _, rfl⟩
          · obtain ⟨h0, -⟩ := hs
            replace h0 : ρ (.tmp 56) = .pointer (some ⟨w.heap.size + 1, 1, none⟩) := h0
            have hc0 : W.cell? ⟨w.heap.size + 1, 1, none⟩ = some (.int .i64 (p2)) := hF.cell (by assumption)
            go_simp
            exact ⟨Ext.refl _, rfl⟩
          · obtain ⟨h0, -⟩ := hs
            replace h0 : ρ (.tmp 57) = .int .i64 (p2) := h0
            have hw : IntKind.i64.wrap (1000 - p2) = 1000 - p2 := wrap_id _ (by omega) (by omega)
            go_simp
            exact ⟨Ext.refl _, rfl⟩
          · obtain ⟨h0, h1, -⟩ := hs
            replace h0 : ρ (.tmp 55) = .int .i64 (x2) := h0
            replace h1 : ρ (.tmp 58) = .int .i64 (1000 - p2) := h1
            have hw : IntKind.i64.wrap (x2 * (1000 - p2)) = x2 * (1000 - p2) := wrap_id _ (by omega) (by omega)
            go_simp
            exact ⟨Ext.refl _, rfl⟩
          · obtain ⟨h0, -⟩ := hs
            replace h0 : ρ (.tmp 49) = .int .i64 (x2 * (1000 - p1)) := h0
            go_simp
            exact ⟨Ext.refl _, rfl⟩
          · obtain ⟨h0, -⟩ := hs
            replace h0 : ρ (.tmp 59) = .int .i64 (x2 * (1000 - p2)) := h0
            go_simp
            exact ⟨Ext.refl _, rfl⟩
        · intro fv V2 hF hs
          obtain ⟨-, -, -, -, -, -, -, -, -, -, -, -, -, -, -, -, -, -, -, -, h9, h10, -⟩ := hs
          replace h9 : fv 9 = .int .i64 (x2 * (1000 - p1)) := h9
          replace h10 : fv 10 = .int .i64 (x2 * (1000 - p2)) := h10
          simp only [fin, List.filterMap]
          go_simp
          replace X := Lib.hid (X.out.trans hF)
          replace K0 := Lib.hid (K0.out.ext hF)
          replace K1 := Lib.hid (K1.out.ext hF)
          replace K2 := Lib.hid (K2.out.ext hF)
          replace K8 := Lib.hid (K8.out.ext hF)
          replace OJ := Lib.hid (own_ext OJ.out hF)
          replace OK := Lib.hid (own_ext OK.out hF)
          clear hF y0_0 y0_1 y0_2 y1_0 y1_1 hc0 hc1
          obtain ⟨V3, hV3⟩ : ∃ V, V = V2 := ⟨_, rfl⟩
          rw [← hV3] at X K0 K1 K2 K8 OJ OK ⊢
          clear hV3
          generalize x1 * (1000 - p1) = a at *
          generalize x1 * (1000 - p2) = b at *
          generalize x2 * (1000 - p1) = c at *
          generalize x2 * (1000 - p2) = d at *
          generalize hmn : min (min (min a b) c) d = mn at *
          generalize hmx : max (max (max a b) c) d = mx at *
          have HMN := Lib.hid hmn
          have HMX := Lib.hid hmx
          clear hmn hmx
          generalize mn / 1000 = r1 at *
          generalize ceilD mx 1000 = r2 at *
          have y8_0 : V3.cell? ⟨q8, 0, none⟩ = some (.int .i64 L) := K8.out.cell 0
          have y8_1 : V3.cell? ⟨q8, 1, none⟩ = some (.slice J1 n cj1) := K8.out.cell 1
          have y8_2 : V3.cell? ⟨q8, 2, none⟩ = some (.slice (some ⟨g, 0, none⟩) n ck1) := K8.out.cell 2
          go_upto_region 7 with (fail)
          refine wp_region_partR 17 [some 60, some 61, some 62, some 63, some 64, some 65, some 66, some 67, some 68, some 69, some 70, some 71, some 72, some 73, some 74, some 75, some 76] [[5], [60], [6], [7], [8], [9], [10], [63, 64, 65, 66], [67], [7], [8], [9], [10], [69, 70, 71, 72], [73], [68, 74], [61, 62]]
            [Is (.pointer (some ⟨q8, 2, none⟩)), Is (.slice (some ⟨g, 0, none⟩) n ck1), Is (.int .i64 ((k : Int))), Is (.int .i64 (a)), Is (.int .i64 (b)), Is (.int .i64 (c)), Is (.int .i64 (d)), Is (.int .i64 (mn)), Is (.int .i64 (r1)), Is (.int .i64 (a)), Is (.int .i64 (b)), Is (.int .i64 (c)), Is (.int .i64 (d)), Is (.int .i64 (mx)), Is (.int .i64 (r2)), Is (.agg #[.int .i64 r1, .int .i64 r2]), Is (.pointer (some ⟨g, k * 2, none⟩))]
            (by kernel_rfl) (by kernel_rfl) (by kernel_rfl) (by kernel_rfl) (by kernel_rfl) (by kernel_rfl) (by kernel_rfl) Ext (fun W => Ext V3 W)
            (fun W _ => Ext.refl W) (fun W W' h k => h.trans k) ?_ (Ext.drew _) ?_ ?_
          · repeat (refine ⟨fun _ _ _ _ k h => (by first | exact h | exact (IntsAt.ext h k)), ?_⟩)
            exact trivial
          · refine ⟨?_, ?_, ?_, ?_, ?_, ?_, ?_, ?_, ?_, ?_, ?_, ?_, ?_, ?_, ?_, ?_, ?_, trivial⟩
            all_goals intro ρ W ⟨kc, kg, kf⟩ hF hs
            · obtain ⟨h0, -⟩ := hs
              replace h0 : ρ (.tmp 5) = .pointer (some ⟨q8, 0, none⟩) := h0
              go_simp
              exact ⟨Ext.refl _, rfl⟩
            · obtain ⟨h0, -⟩ := hs
              replace h0 : ρ (.tmp 60) = .pointer (some ⟨q8, 2, none⟩) := h0
              have hc0 : W.cell? ⟨q8, 2, none⟩ = some (.slice (some ⟨g, 0, none⟩) n ck1) := hF.cell (by assumption)
              go_simp
              exact ⟨Ext.refl _, rfl⟩
            · obtain ⟨h0, -⟩ := hs
              replace h0 : ρ (.tmp 6) = .int .i64 ((k : Int)) := h0
              go_simp
              exact ⟨Ext.refl _, rfl⟩
            · obtain ⟨h0, -⟩ := hs
              replace h0 : ρ (.tmp 7) = .int .i64 (a) := h0
              go_simp
              exact ⟨Ext.refl _, rfl⟩
            · obtain ⟨h0, -⟩ := hs
              replace h0 : ρ (.tmp 8) = .int .i64 (b) := h0
              go_simp
              exact ⟨Ext.refl _, rfl⟩
            · obtain ⟨h0, -⟩ := hs
              replace h0 : ρ (.tmp 9) = .int .i64 (c) := h0
              go_simp
              exact ⟨Ext.refl _, rfl⟩
            · obtain ⟨h0, -⟩ := hs
              replace h0 : ρ (.tmp 10) = .int .i64 (d) := h0
              go_simp
              exact ⟨Ext.refl _, rfl⟩
            · obtain ⟨h0, h1, h2, h3, -⟩ := hs
              replace h0 : ρ (.tmp 63) = .int .i64 (a) := h0
              replace h1 : ρ (.tmp 64) = .int .i64 (b) := h1
              replace h2 : ρ (.tmp 65) = .int .i64 (c) := h2
              replace h3 : ρ (.tmp 66) = .int .i64 (d) := h3
              go_simp
              exact ⟨Ext.refl _, congrArg (Value.int .i64) (by rw [← HMN.out]; simp only [ite_min])⟩
            · obtain ⟨h0, -⟩ := hs
              replace h0 : ρ (.tmp 67) = .int .i64 (mn) := h0
              go_simp
              refine (HFL.out _).mono ?_; rintro e w' ⟨rfl, rfl⟩; exact ⟨_, rfl, Ext.refl _, rfl⟩
            · obtain ⟨h0, -⟩ := hs
              replace h0 : ρ (.tmp 7) = .int .i64 (a) := h0
              go_simp
              exact ⟨Ext.refl _, rfl⟩
            · obtain ⟨h0, -⟩ := hs
              replace h0 : ρ (.tmp 8) = .int .i64 (b) := h0
              go_simp
              exact ⟨Ext.refl _, rfl⟩
            · obtain ⟨h0, -⟩ := hs
              replace h0 : ρ (.tmp 9) = .int .i64 (c) := h0
              go_simp
              exact ⟨Ext.refl _, rfl⟩
            · obtain ⟨h0, -⟩ := hs
              replace h0 : ρ (.tmp 10) = .int .i64 (d) := h0
              go_simp
              exact ⟨Ext.refl _, rfl⟩
            · obtain ⟨h0, h1, h2, h3, -⟩ := hs
              replace h0 : ρ (.tmp 69) = .int .i64 (a) := h0
              replace h1 : ρ (.tmp 70) = .int .i64 (b) := h1
              replace h2 : ρ (.tmp 71) = .int .i64 (c) := h2
              replace h3 : ρ (.tmp 72) = .int .i64 (d) := h3
              go_simp
              exact ⟨Ext.refl _, congrArg (Value.int .i64) (by rw [← HMX.out]; simp only [ite_max])⟩
            · obtain ⟨h0, -⟩ := hs
              replace h0 : ρ (.tmp 73) = .int .i64 (mx) := h0
              go_simp
              refine (HCE.out _).mono ?_; rintro e w' ⟨rfl, rfl⟩; exact ⟨_, rfl, Ext.refl _, rfl⟩
            · obtain ⟨h0, h1, -⟩ := hs
              replace h0 : ρ (.tmp 68) = .int .i64 (r1) := h0
              replace h1 : ρ (.tmp 74) = .int .i64 (r2) := h1
              go_simp
              exact ⟨Ext.refl _, rfl⟩
            · obtain ⟨h0, h1, -⟩ := hs
              replace h0 : ρ (.tmp 61) = .slice (some ⟨g, 0, none⟩) n ck1 := h0
              replace h1 : ρ (.tmp 62) = .int .i64 ((k : Int)) := h1
              have hb1 : (k : Int) < (n : Int) := by omega
              have hb3 : (0 : Int) ≤ (k : Int) := by omega
              have hb4 : ((k : Int)).toNat = k := by omega
              have hb8 : k < n := by omega
              go_simp
              exact ⟨Ext.refl _, rfl⟩
          · intro fv V4 hF hs
            obtain ⟨-, -, -, -, -, -, -, -, -, -, -, -, -, -, -, h75, h76, -⟩ := hs
            replace h75 : fv 75 = .agg #[.int .i64 r1, .int .i64 r2] := h75
            replace h76 : fv 76 = .pointer (some ⟨g, k * 2, none⟩) := h76
            simp only [fin, List.filterMap]
            go_simp
            replace X := Lib.hid (X.out.trans hF)
            replace K0 := Lib.hid (K0.out.ext hF)
            replace K1 := Lib.hid (K1.out.ext hF)
            replace K2 := Lib.hid (K2.out.ext hF)
            replace K8 := Lib.hid (K8.out.ext hF)
            replace OJ := Lib.hid (own_ext OJ.out hF)
            replace OK := Lib.hid (own_ext OK.out hF)
            clear hF y8_0 y8_1 y8_2
            have fr0 : V4.frozen? ⟨g, k * 2, none⟩ = false := (own_cell OK.out (flat_atG (k := 2) (enc := Rg.enc) (fun _ => rfl) (relU ks (p1, p2) n k) k (x1, x2) 0 _ hra rfl)).2
            have fr1 : V4.frozen? ⟨g, k * 2 + 1, none⟩ = false := (own_cell OK.out (flat_atG (k := 2) (enc := Rg.enc) (fun _ => rfl) (relU ks (p1, p2) n k) k (x1, x2) 1 _ hra rfl)).2
            have c0 : V4.cell? ⟨g, k * 2, none⟩ = some (.int .i64 x1) := (own_cell OK.out (flat_atG (k := 2) (enc := Rg.enc) (fun _ => rfl) (relU ks (p1, p2) n k) k (x1, x2) 0 _ hra rfl)).1
            have c1 : V4.cell? ⟨g, k * 2 + 1, none⟩ = some (.int .i64 x2) := (own_cell OK.out (flat_atG (k := 2) (enc := Rg.enc) (fun _ => rfl) (relU ks (p1, p2) n k) k (x1, x2) 1 _ hra rfl)).1
            have HG := Lib.hid (show w.heap.size ≤ g by omega)
            have HTY := Lib.hid (show ∀ q T cs, Blk V4 q T cs → T ≠ 33 → q ≠ g from fun q T cs h hT he => own_notBlk OK.out h hT (by rw [he]; rfl))
            have HP1 := Lib.hid (show w.heap.size + 1 ≠ g by omega)
            have HOJ := Lib.hid (show ∀ u : Unit, some g ≠ (Value.slice J1 n cj1).ownBlock from fun _ he => by
              obtain ⟨cu, hcu, _⟩ := own_blk OK.out
              exact own_notBlk OJ.out hcu (by decide) he)
            clear hg hb1 hb2 hb3 hb4 hki2 hra HFL HCE
            go_wp2
            go_roundw
            case rel => exact ⟨k + 1, by omega, by go_num, Ext.set (Ext.set X.out HG.out _) HG.out _, (K0.out.setOther (HTY.out _ _ _ K0.out (by decide)) _).setOther (HTY.out _ _ _ K0.out (by decide)) _, (K1.out.setOther HP1.out _).setOther HP1.out _, (K2.out.setOther (HTY.out _ _ _ K2.out (by decide)) _).setOther (HTY.out _ _ _ K2.out (by decide)) _, (K8.out.setOther (HTY.out _ _ _ K8.out (by decide)) _).setOther (HTY.out _ _ _ K8.out (by decide)) _, own_set (own_set OJ.out (HOJ.out ()) _) (HOJ.out ()) _, by rw [HNX.out, ← flat_setRg _ _ _ _ (by rw [relU_len]; exact hlt)]; exact own_setCell (own_setCell OK.out _ _) _ _⟩
            case measure => simp [intOf]; omega
    · obtain rfl : k = n := by omega
      have hkn : ¬ (k : Int) < (k : Int) := by omega
      rw [HRL.out] at OK
      have HAL := Lib.hid (show rl.length = k by rw [← HRL.out]; exact relU_len _ _ _ _)
      have y0_2 : wr.cell? ⟨w.heap.size, 2, none⟩ = some (.slice K k ck) := K0.out.cell 2
      have y8_0 : wr.cell? ⟨q8, 0, none⟩ = some (.int .i64 L) := K8.out.cell 0
      have y8_1 : wr.cell? ⟨q8, 1, none⟩ = some (.slice J1 k cj1) := K8.out.cell 1
      have y8_2 : wr.cell? ⟨q8, 2, none⟩ = some (.slice (Kx) k ck1) := K8.out.cell 2
      have f0 := K2.out.free 0
      have f1 := K2.out.free 1
      have f2 := K2.out.free 2
      have u0 : wr.cell? ⟨w.heap.size + 1 + 1, 0, none⟩ = some (.int .i64 0) := K2.out.cell 0
      have u1 : wr.cell? ⟨w.heap.size + 1 + 1, 1, none⟩ = some (.slice none 0 0) := K2.out.cell 1
      have u2 : wr.cell? ⟨w.heap.size + 1 + 1, 2, none⟩ = some (.slice none 0 0) := K2.out.cell 2
      have HD : Hid (∀ W', W'.ownsRow w.heap.size 3 1 (.slice J1 k cj1) k (js.flatMap I1) → W'.ownsRow (w.heap.size + 3) 33 2 (.slice Kx k ck1) k (rl.flatMap Rg.enc) → CopS L js rl k k (.agg #[.int .i64 L, .slice J1 k cj1, .slice Kx k ck1]) W') := Lib.hid (fun W' a1 a2 => ⟨J1, cj1, Kx, ck1, rfl, rows_own (enc := I1) (k := 1) HNJ.out (fun _ => rfl) a1 (by omega), rows_own (enc := Rg.enc) (k := 2) HAL.out (fun _ => rfl) a2 (by omega), own_nil a1, own_nil a2⟩)
      have NB1 := Lib.hid (own_notBlk OJ.out K2.out (by decide))
      have NB2 := Lib.hid (own_notBlk OK.out K2.out (by decide))
      go_wp2
      exact bodyPost_ret (v := .agg #[.int .i64 L, .slice J1 k cj1, .slice Kx k ck1]) (by simp [results, Try.f32, go_sem, u0, u1, u2]) rfl ⟨_, rfl, HD.out _ (own_set (own_set (own_set OJ.out NB1.out _) NB1.out _) NB1.out _) (own_set (own_set (own_set OK.out NB2.out _) NB2.out _) NB2.out _), Ext.set (Ext.set (Ext.set X.out (by dsimp only; omega) _) (by dsimp only; omega) _) (by dsimp only; omega) _⟩

end Go.Proofs.Ytjdilmmpdlcimaa
