/- Bounds from a joint. BoundOf. The strokes that a press can make. No plan has fewer strokes; the bound holds for each. -/
import Derived.Test.YtjdilmmpdlcimaaGreatJ1
import Derived.Test.YtjdilmmpdlcimaaGreatC10
import Derived.Test.YtjdilmmpdlcimaaGreatEA
import Derived.Test.YtjdilmmpdlcimaaGreatFA
import Derived.Test.YtjdilmmpdlcimaaGreatFB
import Derived.Lib.MinMax
import Derived.Deep.DeepCutAuto
import Derived.BigQuiet
import Derived.Laws.AppendOwn
import Derived.Laws.AppendOwnNone

namespace Go.Proofs.YtjdilmmpdlcimaaGreat
open Go.RowKit Go.Shelf Go.Mem Go.RegInv
attribute [local go_sem] RelUpon_value RelUpon_skip RelUpon_enter BigFrame.eval_const BigFrame.eval_global BigFrame.eval_func


theorem max121_any {P : Option Addr} {np cp : Nat} {am : List Int} {w : World} (hnp : am.length = np) (hP : RowsAt 1 I1 w P am) (h1 : 1 ≤ np) (hup : ∀ i, i + 1 < am.length → am.getD i 0 < am.getD (i + 1) 0) :
    Calls Tryz.prog 85 #[.slice P np cp] w fun e w' => e = .returned (.int .i64 (am.getD (np - 1) 0)) ∧ Ext w w' := by
  have HN := Lib.hid hnp
  have HP := Lib.hid hP
  have HU := Lib.hid hup
  obtain ⟨jb, jo, rfl, hjb, hj0⟩ := row_I1 hP (i := 0) (by omega)
  have hj1 : w.cell? ⟨jb, jo, none⟩ = some (.int .i64 (am.getD 0 0)) := by simpa using hj0
  have hnb : np ≤ 1152921504606846976 := by have := hP.1; omega
  have hd : decide (np < 1) = false := by simp; omega
  have hd' : decide ((np : Int) < (1 : Int)) = false := by simp; omega
  have hlt0 : (0 : Int) < (np : Int) := by omega
  have hlt1 : 0 < np := by omega
  clear hnp hP hup hj0
  go_enter Tryz.func85, Tryz.ntmps85
  go_wp2
  go_loopw [3, 4] (fun m i wr => ∃ k : Nat, 1 ≤ k ∧ k ≤ np ∧ i = .int .i64 (k : Int) ∧ m = .int .i64 (am.getD (k - 1) 0) ∧ Hid (w = wr)) (fun _ i _ => np - (intOf i).toNat)
  case atStart => exact ⟨1, by omega, by omega, rfl, rfl, Lib.hid rfl⟩
  case round =>
    obtain ⟨k, hk1, hk, rfl, rfl, hw⟩ := hrel
    obtain rfl := hw.out
    clear hw
    by_cases hlt : k < np
    · obtain ⟨b2, o2, he, hb2, hjc⟩ := row_I1 HP.out (i := k) (by have := HN.out; omega)
      obtain ⟨rfl, rfl⟩ : jb = b2 ∧ jo = o2 := by simpa using he
      have hup2 := HU.out (k - 1) (by have := HN.out; omega)
      rw [show k - 1 + 1 = k by omega] at hup2
      have HK := Lib.hid (show am.getD (k + 1 - 1) 0 = am.getD k 0 by rw [show k + 1 - 1 = k by omega])
      generalize am.getD (k - 1) 0 = a at *
      generalize am.getD k 0 = b at *
      have hmx : max a b = b := by omega
      have hki : (k : Int) < (np : Int) := by omega
      clear he hb2
      go_wp2
      go_roundw
      case rel => exact ⟨k + 1, by omega, by omega, by go_num, by rw [HK.out], Lib.hid trivial⟩
      case measure => simp [intOf]; omega
    · obtain rfl : k = np := by omega
      have hkn : ¬ (k : Int) < (k : Int) := by omega
      go_wp2
      go_ret
      exact ⟨rfl, Ext.refl _⟩
theorem excess_any (t : Int) (d : Rg) (ht : 0 ≤ t ∧ t ≤ 1000000000000) (hd : (-1000000000000 ≤ d.1 ∧ d.1 ≤ 1000000000000) ∧ -1000000000000 ≤ d.2 ∧ d.2 ≤ 1000000000000) (w : World) :
    Calls Tryz.prog 53 #[.agg #[.int .i64 d.1, .int .i64 d.2], .int .i64 t] w fun e w' => e = .returned (.int .i64 (excV t d)) ∧ Ext w w' := by
  obtain ⟨⟨h1, h2⟩, h3, h4⟩ := hd
  obtain ⟨h5, h6⟩ := ht
  have HV := Lib.hid (show excV t d = max (max (d.2 - t) (-t - d.1)) 0 from rfl)
  generalize excV t d = z at *
  obtain ⟨W0, hW0⟩ : ∃ W0, W0 = w.alloc (.cells #[.int .i64 d.1, .int .i64 d.2] 49) := ⟨_, rfl⟩
  have K0 := Lib.hid (show Blk W0 (w.heap.size) 49 #[.int .i64 d.1, .int .i64 d.2] by rw [hW0]; exact Blk.new _ _ _)
  have E0 := Lib.hid (show Ext w W0 by rw [hW0]; exact Ext.alloc _ _)
  have y0_0 : W0.cell? ⟨w.heap.size, 0, none⟩ = some (.int .i64 d.1) := K0.out.cell 0
  have y0_1 : W0.cell? ⟨w.heap.size, 1, none⟩ = some (.int .i64 d.2) := K0.out.cell 1
  go_enter Tryz.func53, Tryz.ntmps53
  go_upto_region 1 with (fail)
  rw [← hW0]
  clear hW0
  go_wp2
  all_goals go_ret
  all_goals exact ⟨ret_int (by have := HV.out; omega), E0.out⟩
def amG (am : List Int) : Int := am.getD (am.length - 1) 0
set_option maxRecDepth 100000 in
set_option maxHeartbeats 1000000 in
theorem reach_any {L : Int} {J K : Option Addr} {n cj ck : Nat} {js : List Int} {ks : List Rg} {w : World} (hn : js.length = n) (hJ : RowsAt 1 I1 w J js) (hm : ks.length = n) (_hK : RowsAt 2 Rg.enc w K ks) {P : Option Addr} {np cp : Nat} {am : List Int} {sp ga li : Int} (hnp : am.length = np) (hP : RowsAt 1 I1 w P am) {k : Nat} (hs : ShOK L js ks) (hp : PrOK am sp ga li) (hk : k < n) :
    Calls Tryz.prog 54 #[.agg #[.int .i64 L, .slice J n cj, .slice K n ck], .agg #[.slice P np cp, .int .i64 sp, .int .i64 ga, .int .i64 li], .int .i64 (k : Int)] w fun e w' => e = .returned (.int .i64 (reachV ga sp (amG am) L js k n)) ∧ Ext w w' := by
  have hn4 : n ≤ 4 := by have := hs.four; omega
  have HMX := Lib.hid (fun W (e : Ext w W) => max121_any (cp := cp) hnp (hP.ext e) (by have := hp.one; omega) hp.up)
  have ham : 1 ≤ amG am ∧ amG am ≤ 10000 := hp.am1 _ (by have := hp.one; omega)
  have hag : am.getD (np - 1) 0 = amG am := by unfold amG; rw [hnp]
  rw [hag] at HMX
  have HKB := Lib.hid (fun W => kinkBy_any (P := P) (np := np) (cp := cp) (li := li) (a := amG am) W hp.sp1 hp.ga1 (by omega))
  have hkb := kinkV_bd hp.sp1 hp.ga1 (show 0 ≤ amG am ∧ amG am ≤ 10000 by omega)
  have HIN := Lib.hid (fun (i : Nat) (hi : i < n) W (e : Ext w W) => influence_any (K := K) (m := n) (cj := cj) (ck := ck) (L := L) (i := i) (p := js.getD k 0) hn (hJ.ext e) hi hs.l2 (by have := hs.at' i (by omega); omega) (by have := hs.at' k (by omega); omega))
  have HIB := Lib.hid (fun (i : Nat) (hi : i < n) => infl_bd hs.l2 (j := js.getD i 0) (p := js.getD k 0) (by have := hs.at' i (by omega); omega) (by have := hs.at' k (by omega); omega))
  obtain ⟨jb, jo, rfl, hjb, hjc⟩ := row_I1 hJ (i := k) (by omega)
  have HJC := Lib.hid hjc
  have HRV := Lib.hid (show reachV ga sp (amG am) L js k n = maxF (fun i => kinkV ga sp (amG am) * infl L (js.getD i 0) (js.getD k 0)) n from rfl)
  generalize reachV ga sp (amG am) L js k n = rv at *
  generalize kinkV ga sp (amG am) = kv at *
  generalize hjk : js.getD k 0 = jk at *
  obtain ⟨F, hF0⟩ : ∃ F : Nat → Int, F = fun i => kv * infl L (js.getD i 0) jk := ⟨_, rfl⟩
  have HFF := Lib.hid (fun i => show F i = kv * infl L (js.getD i 0) jk by rw [hF0])
  rw [← hF0] at HRV
  clear hF0 hjk hn hJ hm hnp hP hs hp hjc ham hjb
  generalize amG am = ag at *
  obtain ⟨W0, hW0⟩ : ∃ W0, W0 = (w.alloc (.cells #[.int .i64 L, .slice (some ⟨jb, jo, none⟩) n cj, .slice K n ck] 75)).alloc (.cells #[.slice P np cp, .int .i64 sp, .int .i64 ga, .int .i64 li] 27) := ⟨_, rfl⟩
  have K0 := Lib.hid (show Blk W0 (w.heap.size) 75 #[.int .i64 L, .slice (some ⟨jb, jo, none⟩) n cj, .slice K n ck] by rw [hW0]; exact (Blk.new _ _ _).alloc _)
  have K1 := Lib.hid (show Blk W0 (w.heap.size + 1) 27 #[.slice P np cp, .int .i64 sp, .int .i64 ga, .int .i64 li] by rw [hW0]; exact Blk.newAt _ _ _ (by simp))
  have E0 := Lib.hid (show Ext w W0 by rw [hW0]; exact (Ext.alloc _ _).trans (Ext.alloc _ _))
  have y0_0 : W0.cell? ⟨w.heap.size, 0, none⟩ = some (.int .i64 L) := K0.out.cell 0
  have y0_1 : W0.cell? ⟨w.heap.size, 1, none⟩ = some (.slice (some ⟨jb, jo, none⟩) n cj) := K0.out.cell 1
  have y0_2 : W0.cell? ⟨w.heap.size, 2, none⟩ = some (.slice K n ck) := K0.out.cell 2
  have y1_0 : W0.cell? ⟨w.heap.size + 1, 0, none⟩ = some (.slice P np cp) := K1.out.cell 0
  have y1_1 : W0.cell? ⟨w.heap.size + 1, 1, none⟩ = some (.int .i64 sp) := K1.out.cell 1
  have y1_2 : W0.cell? ⟨w.heap.size + 1, 2, none⟩ = some (.int .i64 ga) := K1.out.cell 2
  have y1_3 : W0.cell? ⟨w.heap.size + 1, 3, none⟩ = some (.int .i64 li) := K1.out.cell 3
  go_enter Tryz.func54, Tryz.ntmps54
  go_upto_region 1 with (fail)
  rw [← hW0]
  clear hW0
  refine wp_region_each [some 10, some 11, some 12, some 13, some 14, some 7] [[4], [4], [11], [12], [10, 13], [14]]
    [Is (.agg #[.slice P np cp, .int .i64 sp, .int .i64 ga, .int .i64 li]), Is (.pointer (some ⟨w.heap.size + 1, 0, none⟩)), Is (.slice P np cp), Is (.int .i64 (ag)), Is (.int .i64 (kv)), Is (.int .i64 (kv))]
    (by kernel_rfl) (by kernel_rfl) (by kernel_rfl) (by kernel_rfl) (by kernel_rfl) Ext (fun W => Ext W0 W)
    (fun W _ => Ext.refl W) (fun W W' h k => h.trans k) ?_ (Ext.drew _) ?_ ?_
  · repeat (refine ⟨fun _ _ _ _ k h => (by first | exact h | exact (IntsAt.ext h k)), ?_⟩)
    exact trivial
  · refine ⟨?_, ?_, ?_, ?_, ?_, ?_, trivial⟩
    all_goals intro ρ W ⟨kc, kg, kf⟩ hF hs
    · obtain ⟨h0, -⟩ := hs
      replace h0 : ρ (.tmp 4) = .pointer (some ⟨w.heap.size + 1, 0, none⟩) := h0
      have hc0 : W.cell? ⟨w.heap.size + 1, 0, none⟩ = some (.slice P np cp) := hF.cell (by assumption)
      have hc1 : W.cell? ⟨w.heap.size + 1, 1, none⟩ = some (.int .i64 sp) := hF.cell (by assumption)
      have hc2 : W.cell? ⟨w.heap.size + 1, 2, none⟩ = some (.int .i64 ga) := hF.cell (by assumption)
      have hc3 : W.cell? ⟨w.heap.size + 1, 3, none⟩ = some (.int .i64 li) := hF.cell (by assumption)
      go_simp
      exact ⟨Ext.refl _, rfl⟩
    · obtain ⟨h0, -⟩ := hs
      replace h0 : ρ (.tmp 4) = .pointer (some ⟨w.heap.size + 1, 0, none⟩) := h0
      go_simp
      exact ⟨Ext.refl _, rfl⟩
    · obtain ⟨h0, -⟩ := hs
      replace h0 : ρ (.tmp 11) = .pointer (some ⟨w.heap.size + 1, 0, none⟩) := h0
      have hc0 : W.cell? ⟨w.heap.size + 1, 0, none⟩ = some (.slice P np cp) := hF.cell (by assumption)
      go_simp
      exact ⟨Ext.refl _, rfl⟩
    · obtain ⟨h0, -⟩ := hs
      replace h0 : ρ (.tmp 12) = .slice P np cp := h0
      go_simp
      refine (HMX.out _ (E0.out.trans hF)).mono ?_; rintro e w' ⟨rfl, hx⟩; exact ⟨_, rfl, hx, rfl⟩
    · obtain ⟨h0, h1, -⟩ := hs
      replace h0 : ρ (.tmp 10) = .agg #[.slice P np cp, .int .i64 sp, .int .i64 ga, .int .i64 li] := h0
      replace h1 : ρ (.tmp 13) = .int .i64 (ag) := h1
      go_simp
      refine (HKB.out _).mono ?_; rintro e w' ⟨rfl, hx⟩; exact ⟨_, rfl, hx, rfl⟩
    · obtain ⟨h0, -⟩ := hs
      replace h0 : ρ (.tmp 14) = .int .i64 (kv) := h0
      go_simp
      exact ⟨Ext.refl _, rfl⟩
  · intro fv W1 hF hs
    obtain ⟨-, -, -, -, -, h7, -⟩ := hs
    replace h7 : fv 7 = .int .i64 (kv) := h7
    simp only [fin, List.filterMap]
    go_simp
    have X := Lib.hid (E0.out.trans hF)
    replace K0 := Lib.hid (K0.out.ext hF)
    clear hF E0 HMX HKB K1 y0_0 y0_1 y0_2 y1_0 y1_1 y1_2 y1_3
    go_upto_region 3 with (fail)
    have y0_1 : W1.cell? ⟨w.heap.size, 1, none⟩ = some (.slice (some ⟨jb, jo, none⟩) n cj) := K0.out.cell 1
    go_wp2
    clear y0_1
    go_loopw [8, 19] (fun m i wr => ∃ i2 : Nat, i2 ≤ n ∧ i = .int .i64 (i2 : Int) ∧ m = .int .i64 (maxF F i2) ∧ Ext w wr ∧ Blk wr w.heap.size 75 #[.int .i64 L, .slice (some ⟨jb, jo, none⟩) n cj, .slice K n ck]) (fun _ i _ => n - (intOf i).toNat)
    case atStart => exact ⟨0, by omega, rfl, rfl, X.out, K0.out⟩
    case round =>
      clear X K0
      obtain ⟨i, hi, rfl, rfl, hx, k0⟩ := hrel
      have X := Lib.hid hx
      have K0 := Lib.hid k0
      clear hx k0
      by_cases hlt : i < n
      · have HIF := Lib.hid (fun W (e : Ext w W) => HIN.out i hlt W e)
        have hib := HIB.out i hlt
        have HNX := Lib.hid (show maxF F (i + 1) = max (maxF F i) (F i) from rfl)
        have HFI := Lib.hid (HFF.out i)
        generalize infl L (js.getD i 0) jk = f at *
        generalize maxF F i = mx at *
        generalize F i = fi at *
        have hm2 := mul_bd (a := kv) (b := f) (A := 10000000) (B := 100000000) (by omega) (by omega)
        have hki : (i : Int) < (n : Int) := by omega
        obtain ⟨V, hV⟩ : ∃ V, V = wr := ⟨_, rfl⟩
        rw [← hV] at X K0 ⊢
        clear hV
        have y0_0 : V.cell? ⟨w.heap.size, 0, none⟩ = some (.int .i64 L) := K0.out.cell 0
        have y0_1 : V.cell? ⟨w.heap.size, 1, none⟩ = some (.slice (some ⟨jb, jo, none⟩) n cj) := K0.out.cell 1
        have y0_2 : V.cell? ⟨w.heap.size, 2, none⟩ = some (.slice K n ck) := K0.out.cell 2
        have hjc : V.cell? ⟨jb, jo + k, none⟩ = some (.int .i64 jk) := X.out.cell HJC.out
        go_upto_region 6 with (fail)
        refine wp_region_partR 13 [some 22, some 23, some 24, some 25, some 26, some 27, some 28, some 29, some 30, some 31, some 32, some 33, some 34] [[8], [7], [3], [9], [3], [26], [27], [2], [28, 29], [30], [24, 25, 31], [23, 32], [22, 33]]
          [Is (.int .i64 (mx)), Is (.int .i64 (kv)), Is (.agg #[.int .i64 L, .slice (some ⟨jb, jo, none⟩) n cj, .slice K n ck]), Is (.int .i64 ((i : Int))), Is (.pointer (some ⟨w.heap.size, 0, none⟩)), Is (.pointer (some ⟨w.heap.size, 1, none⟩)), Is (.slice (some ⟨jb, jo, none⟩) n cj), Is (.int .i64 ((k : Int))), Is (.pointer (some ⟨jb, jo + k, none⟩)), Is (.int .i64 (jk)), Is (.int .i64 (f)), Is (.int .i64 (kv * f)), Is (.int .i64 (max mx (kv * f)))]
          (by kernel_rfl) (by kernel_rfl) (by kernel_rfl) (by kernel_rfl) (by kernel_rfl) (by kernel_rfl) (by kernel_rfl) Ext (fun W => Ext V W)
          (fun W _ => Ext.refl W) (fun W W' h k => h.trans k) ?_ (Ext.drew _) ?_ ?_
        · repeat (refine ⟨fun _ _ _ _ k h => (by first | exact h | exact (IntsAt.ext h k)), ?_⟩)
          exact trivial
        · refine ⟨?_, ?_, ?_, ?_, ?_, ?_, ?_, ?_, ?_, ?_, ?_, ?_, ?_, trivial⟩
          all_goals intro ρ W ⟨kc, kg, kf⟩ hF hs
          · obtain ⟨h0, -⟩ := hs
            replace h0 : ρ (.tmp 8) = .int .i64 (mx) := h0
            go_simp
            exact ⟨Ext.refl _, rfl⟩
          · obtain ⟨h0, -⟩ := hs
            replace h0 : ρ (.tmp 7) = .int .i64 (kv) := h0
            go_simp
            exact ⟨Ext.refl _, rfl⟩
          · obtain ⟨h0, -⟩ := hs
            replace h0 : ρ (.tmp 3) = .pointer (some ⟨w.heap.size, 0, none⟩) := h0
            have hc0 : W.cell? ⟨w.heap.size, 0, none⟩ = some (.int .i64 L) := hF.cell (by assumption)
            have hc1 : W.cell? ⟨w.heap.size, 1, none⟩ = some (.slice (some ⟨jb, jo, none⟩) n cj) := hF.cell (by assumption)
            have hc2 : W.cell? ⟨w.heap.size, 2, none⟩ = some (.slice K n ck) := hF.cell (by assumption)
            go_simp
            exact ⟨Ext.refl _, rfl⟩
          · obtain ⟨h0, -⟩ := hs
            replace h0 : ρ (.tmp 9) = .int .i64 ((i : Int)) := h0
            go_simp
            exact ⟨Ext.refl _, rfl⟩
          · obtain ⟨h0, -⟩ := hs
            replace h0 : ρ (.tmp 3) = .pointer (some ⟨w.heap.size, 0, none⟩) := h0
            go_simp
            exact ⟨Ext.refl _, rfl⟩
          · obtain ⟨h0, -⟩ := hs
            replace h0 : ρ (.tmp 26) = .pointer (some ⟨w.heap.size, 0, none⟩) := h0
            go_simp
            exact ⟨Ext.refl _, rfl⟩
          · obtain ⟨h0, -⟩ := hs
            replace h0 : ρ (.tmp 27) = .pointer (some ⟨w.heap.size, 1, none⟩) := h0
            have hc0 : W.cell? ⟨w.heap.size, 1, none⟩ = some (.slice (some ⟨jb, jo, none⟩) n cj) := hF.cell (by assumption)
            go_simp
            exact ⟨Ext.refl _, rfl⟩
          · obtain ⟨h0, -⟩ := hs
            replace h0 : ρ (.tmp 2) = .int .i64 ((k : Int)) := h0
            go_simp
            exact ⟨Ext.refl _, rfl⟩
          · obtain ⟨h0, h1, -⟩ := hs
            replace h0 : ρ (.tmp 28) = .slice (some ⟨jb, jo, none⟩) n cj := h0
            replace h1 : ρ (.tmp 29) = .int .i64 ((k : Int)) := h1
            have hb1 : (k : Int) < (n : Int) := by omega
            have hb3 : (0 : Int) ≤ (k : Int) := by omega
            have hb4 : ((k : Int)).toNat = k := by omega
            have hb8 : k < n := by omega
            go_simp
            exact ⟨Ext.refl _, rfl⟩
          · obtain ⟨h0, -⟩ := hs
            replace h0 : ρ (.tmp 30) = .pointer (some ⟨jb, jo + k, none⟩) := h0
            have hc0 : W.cell? ⟨jb, jo + k, none⟩ = some (.int .i64 (jk)) := hF.cell (by assumption)
            go_simp
            exact ⟨Ext.refl _, rfl⟩
          · obtain ⟨h0, h1, h2, -⟩ := hs
            replace h0 : ρ (.tmp 24) = .agg #[.int .i64 L, .slice (some ⟨jb, jo, none⟩) n cj, .slice K n ck] := h0
            replace h1 : ρ (.tmp 25) = .int .i64 ((i : Int)) := h1
            replace h2 : ρ (.tmp 31) = .int .i64 (jk) := h2
            go_simp
            refine (HIF.out _ (X.out.trans hF)).mono ?_; rintro e w' ⟨rfl, hx⟩; exact ⟨_, rfl, hx, rfl⟩
          · obtain ⟨h0, h1, -⟩ := hs
            replace h0 : ρ (.tmp 23) = .int .i64 (kv) := h0
            replace h1 : ρ (.tmp 32) = .int .i64 (f) := h1
            have hw : IntKind.i64.wrap (kv * f) = kv * f := wrap_id _ (by omega) (by omega)
            go_simp
            exact ⟨Ext.refl _, rfl⟩
          · obtain ⟨h0, h1, -⟩ := hs
            replace h0 : ρ (.tmp 22) = .int .i64 (mx) := h0
            replace h1 : ρ (.tmp 33) = .int .i64 (kv * f) := h1
            go_simp
            exact ⟨Ext.refl _, rfl⟩
        · intro fv V1 hF hs
          obtain ⟨-, -, -, -, -, -, -, -, -, -, -, -, h34, -⟩ := hs
          replace h34 : fv 34 = .int .i64 (max mx (kv * f)) := h34
          simp only [fin, List.filterMap]
          go_simp
          replace X := Lib.hid (X.out.trans hF)
          replace K0 := Lib.hid (K0.out.ext hF)
          clear hF y0_0 y0_1 y0_2 hjc hm2
          go_wp2
          go_roundw
          case rel => exact ⟨i + 1, by omega, by go_num, by rw [HNX.out, HFI.out], X.out, K0.out⟩
          case measure => simp [intOf]; omega
      · obtain rfl : i = n := by omega
        have hkn : ¬ (i : Int) < (i : Int) := by omega
        go_wp2
        go_ret
        exact ⟨ret_int HRV.out.symm, X.out⟩
/-- The bound from a joint, with its error. -/
def bndF (ga sp t L A : Int) (js : List Int) (ks : List Rg) (n k : Nat) : Int × Int := if excV t (deflAt L js ks k) ≤ 2 then (0, 0) else if reachV ga sp A L js k n = 0 then (0, 12) else (ceilD ((excV t (deflAt L js ks k) - 2) * L) (reachV ga sp A L js k n), 0)
theorem maxF_bd {F : Nat → Int} {B : Int} (hB : 0 ≤ B) : ∀ {k : Nat}, (∀ i, i < k → F i ≤ B) → maxF F k ≤ B
  | 0, _ => by simpa [maxF] using hB
  | k + 1, h => by
    have h1 := maxF_bd hB (k := k) (fun i hi => h i (by omega))
    have h2 := h k (by omega)
    rw [maxF]; omega
set_option maxRecDepth 100000 in
set_option maxHeartbeats 1000000 in
theorem boundFrom_any {L : Int} {J K : Option Addr} {n cj ck : Nat} {js : List Int} {ks : List Rg} {w : World} (hn : js.length = n) (hJ : RowsAt 1 I1 w J js) (hm : ks.length = n) (hK : RowsAt 2 Rg.enc w K ks) {P : Option Addr} {np cp : Nat} {am : List Int} {sp ga li : Int} (hnp : am.length = np) (hP : RowsAt 1 I1 w P am) {k : Nat} {t : Int} (hs : ShOK L js ks) (hp : PrOK am sp ga li) (hk : k < n) (ht : 0 ≤ t ∧ t ≤ 1000000000000) :
    Calls Tryz.prog 32 #[.agg #[.int .i64 L, .slice J n cj, .slice K n ck], .agg #[.slice P np cp, .int .i64 sp, .int .i64 ga, .int .i64 li], .int .i64 t, .int .i64 (k : Int)] w fun e w' => e = .returned (.tuple #[.int .i64 (bndF ga sp t L (amG am) js ks n k).1, .int .i64 (bndF ga sp t L (amG am) js ks n k).2]) ∧ Ext w w' := by
  have hjk := hs.at' k (by omega)
  have hdb := defl_big hs.l1 hs.l2 hs.four (p := js.getD k 0) (ks := ks) (js := js) (by omega) (fun i hi => by have := hs.at' i hi; omega) hs.kink
  have HDF := Lib.hid (fun W (e : Ext w W) => deflection_any (cj := cj) (ck := ck) (p := js.getD k 0) hn (hJ.ext e) hm (hK.ext e) hs (by omega))
  have HEX := Lib.hid (fun W => excess_any t (defl L js ks (js.getD k 0)) ht (by omega) W)
  have HRE := Lib.hid (fun W (e : Ext w W) => reach_any (k := k) (cj := cj) (ck := ck) (cp := cp) (li := li) hn (hJ.ext e) hm (hK.ext e) hnp (hP.ext e) hs hp hk)
  have HV := Lib.hid (show bndF ga sp t L (amG am) js ks n k = if excV t (defl L js ks (js.getD k 0)) ≤ 2 then (0, 0) else if reachV ga sp (amG am) L js k n = 0 then (0, 12) else (ceilD ((excV t (defl L js ks (js.getD k 0)) - 2) * L) (reachV ga sp (amG am) L js k n), 0) from rfl)
  have heb : excV t (defl L js ks (js.getD k 0)) ≤ 2000000000000 := by unfold excV; omega
  have ham : 1 ≤ amG am ∧ amG am ≤ 10000 := hp.am1 _ (by have := hp.one; omega)
  have hkb := kinkV_bd hp.sp1 hp.ga1 (show 0 ≤ amG am ∧ amG am ≤ 10000 by omega)
  have hrb : 0 ≤ reachV ga sp (amG am) L js k n ∧ reachV ga sp (amG am) L js k n ≤ 1000000000000000 := by
    refine ⟨maxF_nn _ _, maxF_bd (by omega) (fun i hi => ?_)⟩
    have hib := infl_bd hs.l2 (j := js.getD i 0) (p := js.getD k 0) (by have := hs.at' i (by omega); omega) (by omega)
    have := mul_bd (a := kinkV ga sp (amG am)) (b := infl L (js.getD i 0) (js.getD k 0)) (A := 10000000) (B := 100000000) (by omega) (by omega)
    omega
  have hl1 := hs.l1
  have hl2 := hs.l2
  have hn4 : n ≤ 4 := by have := hs.four; omega
  obtain ⟨jb, jo, rfl, hjb, hjc⟩ := row_I1 hJ (i := k) (by omega)
  generalize bndF ga sp t L (amG am) js ks n k = bf at *
  generalize excV t (defl L js ks (js.getD k 0)) = ev at *
  generalize defl L js ks (js.getD k 0) = d at *
  generalize reachV ga sp (amG am) L js k n = rv at *
  generalize js.getD k 0 = jk at *
  have hjw := hjc
  clear hn hJ hm hK hnp hP hs hp hjb hdb hjk ham hkb
  obtain ⟨W0, hW0⟩ : ∃ W0, W0 = (w.alloc (.cells #[.int .i64 L, .slice (some ⟨jb, jo, none⟩) n cj, .slice K n ck] 75)).alloc (.cells #[.slice P np cp, .int .i64 sp, .int .i64 ga, .int .i64 li] 27) := ⟨_, rfl⟩
  have K0 := Lib.hid (show Blk W0 (w.heap.size) 75 #[.int .i64 L, .slice (some ⟨jb, jo, none⟩) n cj, .slice K n ck] by rw [hW0]; exact (Blk.new _ _ _).alloc _)
  have K1 := Lib.hid (show Blk W0 (w.heap.size + 1) 27 #[.slice P np cp, .int .i64 sp, .int .i64 ga, .int .i64 li] by rw [hW0]; exact Blk.newAt _ _ _ (by simp))
  have E0 := Lib.hid (show Ext w W0 by rw [hW0]; exact (Ext.alloc _ _).trans (Ext.alloc _ _))
  have y0_0 : W0.cell? ⟨w.heap.size, 0, none⟩ = some (.int .i64 L) := K0.out.cell 0
  have y0_1 : W0.cell? ⟨w.heap.size, 1, none⟩ = some (.slice (some ⟨jb, jo, none⟩) n cj) := K0.out.cell 1
  have y0_2 : W0.cell? ⟨w.heap.size, 2, none⟩ = some (.slice K n ck) := K0.out.cell 2
  have y1_0 : W0.cell? ⟨w.heap.size + 1, 0, none⟩ = some (.slice P np cp) := K1.out.cell 0
  have y1_1 : W0.cell? ⟨w.heap.size + 1, 1, none⟩ = some (.int .i64 sp) := K1.out.cell 1
  have y1_2 : W0.cell? ⟨w.heap.size + 1, 2, none⟩ = some (.int .i64 ga) := K1.out.cell 2
  have y1_3 : W0.cell? ⟨w.heap.size + 1, 3, none⟩ = some (.int .i64 li) := K1.out.cell 3
  replace hjc := E0.out.cell hjc
  clear hjw
  go_enter Tryz.func32, Tryz.ntmps32
  go_upto_region 1 with (fail)
  rw [← hW0]
  clear hW0
  refine wp_region_each [some 12, some 13, some 14, some 15, some 16, some 17, some 18, some 19, some 20, some 21, some 10] [[4], [4], [13], [14], [3], [15, 16], [17], [12, 18], [2], [19, 20], [21]]
    [Is (.agg #[.int .i64 L, .slice (some ⟨jb, jo, none⟩) n cj, .slice K n ck]), Is (.pointer (some ⟨w.heap.size, 0, none⟩)), Is (.pointer (some ⟨w.heap.size, 1, none⟩)), Is (.slice (some ⟨jb, jo, none⟩) n cj), Is (.int .i64 ((k : Int))), Is (.pointer (some ⟨jb, jo + k, none⟩)), Is (.int .i64 (jk)), Is (.agg #[.int .i64 d.1, .int .i64 d.2]), Is (.int .i64 (t)), Is (.int .i64 (ev)), Is (.int .i64 (ev))]
    (by kernel_rfl) (by kernel_rfl) (by kernel_rfl) (by kernel_rfl) (by kernel_rfl) Ext (fun W => Ext W0 W)
    (fun W _ => Ext.refl W) (fun W W' h k => h.trans k) ?_ (Ext.drew _) ?_ ?_
  · repeat (refine ⟨fun _ _ _ _ k h => (by first | exact h | exact (IntsAt.ext h k)), ?_⟩)
    exact trivial
  · refine ⟨?_, ?_, ?_, ?_, ?_, ?_, ?_, ?_, ?_, ?_, ?_, trivial⟩
    all_goals intro ρ W ⟨kc, kg, kf⟩ hF hs
    · obtain ⟨h0, -⟩ := hs
      replace h0 : ρ (.tmp 4) = .pointer (some ⟨w.heap.size, 0, none⟩) := h0
      have hc0 : W.cell? ⟨w.heap.size, 0, none⟩ = some (.int .i64 L) := hF.cell (by assumption)
      have hc1 : W.cell? ⟨w.heap.size, 1, none⟩ = some (.slice (some ⟨jb, jo, none⟩) n cj) := hF.cell (by assumption)
      have hc2 : W.cell? ⟨w.heap.size, 2, none⟩ = some (.slice K n ck) := hF.cell (by assumption)
      go_simp
      exact ⟨Ext.refl _, rfl⟩
    · obtain ⟨h0, -⟩ := hs
      replace h0 : ρ (.tmp 4) = .pointer (some ⟨w.heap.size, 0, none⟩) := h0
      go_simp
      exact ⟨Ext.refl _, rfl⟩
    · obtain ⟨h0, -⟩ := hs
      replace h0 : ρ (.tmp 13) = .pointer (some ⟨w.heap.size, 0, none⟩) := h0
      go_simp
      exact ⟨Ext.refl _, rfl⟩
    · obtain ⟨h0, -⟩ := hs
      replace h0 : ρ (.tmp 14) = .pointer (some ⟨w.heap.size, 1, none⟩) := h0
      have hc0 : W.cell? ⟨w.heap.size, 1, none⟩ = some (.slice (some ⟨jb, jo, none⟩) n cj) := hF.cell (by assumption)
      go_simp
      exact ⟨Ext.refl _, rfl⟩
    · obtain ⟨h0, -⟩ := hs
      replace h0 : ρ (.tmp 3) = .int .i64 ((k : Int)) := h0
      go_simp
      exact ⟨Ext.refl _, rfl⟩
    · obtain ⟨h0, h1, -⟩ := hs
      replace h0 : ρ (.tmp 15) = .slice (some ⟨jb, jo, none⟩) n cj := h0
      replace h1 : ρ (.tmp 16) = .int .i64 ((k : Int)) := h1
      have hb1 : (k : Int) < (n : Int) := by omega
      have hb3 : (0 : Int) ≤ (k : Int) := by omega
      have hb4 : ((k : Int)).toNat = k := by omega
      have hb8 : k < n := by omega
      go_simp
      exact ⟨Ext.refl _, rfl⟩
    · obtain ⟨h0, -⟩ := hs
      replace h0 : ρ (.tmp 17) = .pointer (some ⟨jb, jo + k, none⟩) := h0
      have hc0 : W.cell? ⟨jb, jo + k, none⟩ = some (.int .i64 (jk)) := hF.cell (by assumption)
      go_simp
      exact ⟨Ext.refl _, rfl⟩
    · obtain ⟨h0, h1, -⟩ := hs
      replace h0 : ρ (.tmp 12) = .agg #[.int .i64 L, .slice (some ⟨jb, jo, none⟩) n cj, .slice K n ck] := h0
      replace h1 : ρ (.tmp 18) = .int .i64 (jk) := h1
      go_simp
      refine (HDF.out _ (E0.out.trans hF)).mono ?_; rintro e w' ⟨rfl, hx⟩; exact ⟨_, rfl, hx, rfl⟩
    · obtain ⟨h0, -⟩ := hs
      replace h0 : ρ (.tmp 2) = .int .i64 (t) := h0
      go_simp
      exact ⟨Ext.refl _, rfl⟩
    · obtain ⟨h0, h1, -⟩ := hs
      replace h0 : ρ (.tmp 19) = .agg #[.int .i64 d.1, .int .i64 d.2] := h0
      replace h1 : ρ (.tmp 20) = .int .i64 (t) := h1
      go_simp
      refine (HEX.out _).mono ?_; rintro e w' ⟨rfl, hx⟩; exact ⟨_, rfl, hx, rfl⟩
    · obtain ⟨h0, -⟩ := hs
      replace h0 : ρ (.tmp 21) = .int .i64 (ev) := h0
      go_simp
      exact ⟨Ext.refl _, rfl⟩
  · intro fv W1 hF hs
    obtain ⟨-, -, -, -, -, -, -, -, -, -, h10, -⟩ := hs
    replace h10 : fv 10 = .int .i64 (ev) := h10
    simp only [fin, List.filterMap]
    go_simp
    have X := Lib.hid (E0.out.trans hF)
    replace K0 := Lib.hid (K0.out.ext hF)
    replace K1 := Lib.hid (K1.out.ext hF)
    clear hF E0 HDF HEX y0_0 y0_1 y0_2 y1_0 y1_1 y1_2 y1_3 hjc
    obtain ⟨V, hV⟩ : ∃ V, V = W1 := ⟨_, rfl⟩
    rw [← hV] at X K0 K1 ⊢
    clear hV
    by_cases h2 : ev ≤ 2
    · have hd : decide (ev ≤ 2) = true := by simp [h2]
      have HB := Lib.hid (HV.out.trans (if_pos h2))
      clear h2 HV
      go_wp2
      go_ret2
      exact ⟨ret_two (by rw [HB.out]) (by rw [HB.out]), X.out⟩
    · have hd : decide (ev ≤ 2) = false := by simp; omega
      have HV2 := Lib.hid (HV.out.trans (if_neg h2))
      clear HV
      have y0_0 : V.cell? ⟨w.heap.size, 0, none⟩ = some (.int .i64 L) := K0.out.cell 0
      have y0_1 : V.cell? ⟨w.heap.size, 1, none⟩ = some (.slice (some ⟨jb, jo, none⟩) n cj) := K0.out.cell 1
      have y0_2 : V.cell? ⟨w.heap.size, 2, none⟩ = some (.slice K n ck) := K0.out.cell 2
      have y1_0 : V.cell? ⟨w.heap.size + 1, 0, none⟩ = some (.slice P np cp) := K1.out.cell 0
      have y1_1 : V.cell? ⟨w.heap.size + 1, 1, none⟩ = some (.int .i64 sp) := K1.out.cell 1
      have y1_2 : V.cell? ⟨w.heap.size + 1, 2, none⟩ = some (.int .i64 ga) := K1.out.cell 2
      have y1_3 : V.cell? ⟨w.heap.size + 1, 3, none⟩ = some (.int .i64 li) := K1.out.cell 3
      go_wp2_with (go_at_call 54; refine (HRE.out _ X.out).mono ?_; rintro e V2 ⟨rfl, hx⟩; replace X := Lib.hid (X.out.trans hx); replace K0 := Lib.hid (K0.out.ext hx); clear hx y0_0 y0_1 y0_2 y1_0 y1_1 y1_2 y1_3 K1; refine Hid.out ?_)
      refine Lib.hid ?_
      clear HRE
      by_cases hr : rv = 0
      · have hd2 : (rv == 0) = true := by simp [hr]
        have HB := Lib.hid (HV2.out.trans (if_pos hr))
        clear hr HV2
        go_wp2
        go_ret2
        exact ⟨ret_two (by rw [HB.out]) (by rw [HB.out]), X.out⟩
      · have hd2 : (rv == 0) = false := by simp [hr]
        have HB := Lib.hid (HV2.out.trans (if_neg hr))
        have hm1 := mul_bd (a := ev - 2) (b := L) (A := 2000000000000) (B := 10000) (by omega) (by omega)
        have HCE := Lib.hid (fun W => ceilP_any ((ev - 2) * L) rv ⟨by omega, by omega⟩ ⟨by omega, by omega⟩ W)
        have y0_0 : V2.cell? ⟨w.heap.size, 0, none⟩ = some (.int .i64 L) := K0.out.cell 0
        clear HV2
        go_wp2_with (go_at_call 55; refine (HCE.out _).mono ?_; rintro e w' ⟨rfl, rfl⟩)
        go_ret2
        exact ⟨ret_two (by rw [HB.out]) (by rw [HB.out]), X.out⟩



theorem ret_three {a b c d e f : Int} (h : a = d) (k : b = e) (l : c = f) : Ending.returned (.tuple #[.int .i64 a, .int .i64 b, .int .i64 c]) = .returned (.tuple #[.int .i64 d, .int .i64 e, .int .i64 f]) := by rw [h, k, l]

def bndL (B : Nat → Int × Int) : Nat → Nat → Int → Int → Int × Int × Int
  | 0, _, m, f => (m, f, 0)
  | q + 1, k, m, f => if (B k).2 ≠ 0 then (0, 0, (B k).2) else if m < (B k).1 then bndL B q (k + 1) (B k).1 (k : Int) else bndL B q (k + 1) m f
theorem bndL_step (B : Nat → Int × Int) {n k : Nat} (h : k < n) (m f : Int) : bndL B (n - k) k m f = if (B k).2 ≠ 0 then (0, 0, (B k).2) else if m < (B k).1 then bndL B (n - (k + 1)) (k + 1) (B k).1 (k : Int) else bndL B (n - (k + 1)) (k + 1) m f := by
  obtain ⟨q, hq⟩ : ∃ q, n - k = q + 1 := ⟨n - k - 1, by omega⟩
  rw [hq, bndL, show n - (k + 1) = q by omega]
def bndE (L : Int) (js : List Int) (ks : List Rg) (am : List Int) (sp ga li t : Int) : Int := firstE [(checkS L js ks).2, (checkP am sp ga li).2, tolE t]
def bndV (L : Int) (js : List Int) (ks : List Rg) (am : List Int) (sp ga t : Int) : Int × Int × Int := bndL (bndF ga sp t L (amG am) js ks js.length) js.length 0 0 0
set_option maxRecDepth 100000 in
set_option maxHeartbeats 1000000 in
theorem boundOf_ok {L : Int} {J K : Option Addr} {n cj ck : Nat} {js : List Int} {ks : List Rg} {w : World} (hn : js.length = n) (hJ : RowsAt 1 I1 w J js) (hm : ks.length = n) (hK : RowsAt 2 Rg.enc w K ks) {P : Option Addr} {np cp : Nat} {am : List Int} {sp ga li : Int} (hnp : am.length = np) (hP : RowsAt 1 I1 w P am) {t : Int} (hz : bndE L js ks am sp ga li t = 0) :
    Calls Tryz.prog 11 #[.agg #[.int .i64 L, .slice J n cj, .slice K n ck], .agg #[.slice P np cp, .int .i64 sp, .int .i64 ga, .int .i64 li], .int .i64 t] w fun e w' => e = .returned (.tuple #[.int .i64 (bndV L js ks am sp ga t).1, .int .i64 (bndV L js ks am sp ga t).2.1, .int .i64 (bndV L js ks am sp ga t).2.2]) ∧ Ext w w' := by
  have h1 := firstE_zero hz
  have hcs := h1 (checkS L js ks).2 (by simp)
  have hcp := h1 (checkP am sp ga li).2 (by simp)
  have hto := h1 (tolE t) (by simp)
  have hs := checkS_ok hcs
  have hp := checkP_ok hcp
  have ht := rangeE_zeros hto t (by simp)
  have HSE := Lib.hid (fun W (e : Ext w W) => shaftError_any (cj := cj) (ck := ck) (L := L) hn (hJ.ext e) hm (hK.ext e))
  have HPE := Lib.hid (fun W (e : Ext w W) => pressError_any (cp := cp) (sp := sp) (ga := ga) (li := li) hnp (hP.ext e))
  have HBF := Lib.hid (fun (k : Nat) (hk : k < n) W (e : Ext w W) => boundFrom_any (cj := cj) (ck := ck) (cp := cp) (li := li) hn (hJ.ext e) hm (hK.ext e) hnp (hP.ext e) hs hp hk ht)
  have HV := Lib.hid (show bndV L js ks am sp ga t = bndL (bndF ga sp t L (amG am) js ks n) n 0 0 0 by rw [← hn]; rfl)
  have hn4 : n ≤ 4 := by have := hs.four; omega
  have HT : firstE [0, 0, tolE t] = 0 := by rw [hto]; rfl
  rw [hcs] at HSE
  rw [hcp] at HPE
  have HT2 := Lib.hid HT
  generalize bndV L js ks am sp ga t = bv at *
  generalize bndF ga sp t L (amG am) js ks n = B at *
  clear hn hJ hm hK hnp hP hs hp hz h1 hcs hcp HT hto ht
  obtain ⟨W0, hW0⟩ : ∃ W0, W0 = (w.alloc (.cells #[.int .i64 L, .slice J n cj, .slice K n ck] 25)).alloc (.cells #[.slice P np cp, .int .i64 sp, .int .i64 ga, .int .i64 li] 27) := ⟨_, rfl⟩
  have K0 := Lib.hid (show Blk W0 (w.heap.size) 25 #[.int .i64 L, .slice J n cj, .slice K n ck] by rw [hW0]; exact (Blk.new _ _ _).alloc _)
  have K1 := Lib.hid (show Blk W0 (w.heap.size + 1) 27 #[.slice P np cp, .int .i64 sp, .int .i64 ga, .int .i64 li] by rw [hW0]; exact Blk.newAt _ _ _ (by simp))
  have E0 := Lib.hid (show Ext w W0 by rw [hW0]; exact (Ext.alloc _ _).trans (Ext.alloc _ _))
  have y0_0 : W0.cell? ⟨w.heap.size, 0, none⟩ = some (.int .i64 L) := K0.out.cell 0
  have y0_1 : W0.cell? ⟨w.heap.size, 1, none⟩ = some (.slice J n cj) := K0.out.cell 1
  have y0_2 : W0.cell? ⟨w.heap.size, 2, none⟩ = some (.slice K n ck) := K0.out.cell 2
  have y1_0 : W0.cell? ⟨w.heap.size + 1, 0, none⟩ = some (.slice P np cp) := K1.out.cell 0
  have y1_1 : W0.cell? ⟨w.heap.size + 1, 1, none⟩ = some (.int .i64 sp) := K1.out.cell 1
  have y1_2 : W0.cell? ⟨w.heap.size + 1, 2, none⟩ = some (.int .i64 ga) := K1.out.cell 2
  have y1_3 : W0.cell? ⟨w.heap.size + 1, 3, none⟩ = some (.int .i64 li) := K1.out.cell 3
  go_enter Tryz.func11, Tryz.ntmps11
  go_upto_region 1 with (fail)
  rw [← hW0]
  clear hW0
  refine wp_region_each [some 15, some 16, some 17, some 18, some 19, some 20, some 21, some 22, some 9] [[3], [15], [4], [17], [2], [19], [16, 18, 20], [21], [22]]
    [Is (.agg #[.int .i64 L, .slice J n cj, .slice K n ck]), Is (.int .i64 (0)), Is (.agg #[.slice P np cp, .int .i64 sp, .int .i64 ga, .int .i64 li]), Is (.int .i64 (0)), Is (.int .i64 (t)), Is (.int .i64 (tolE (t))), Ints [0, 0, tolE (t)], Is (.int .i64 (firstE [0, 0, tolE (t)])), Is (.int .i64 (firstE [0, 0, tolE (t)]))]
    (by kernel_rfl) (by kernel_rfl) (by kernel_rfl) (by kernel_rfl) (by kernel_rfl) Ext (fun W => Ext W0 W)
    (fun W _ => Ext.refl W) (fun W W' h k => h.trans k) ?_ (Ext.drew _) ?_ ?_
  · repeat (refine ⟨fun _ _ _ _ k h => (by first | exact h | exact (IntsAt.ext h k)), ?_⟩)
    exact trivial
  · refine ⟨?_, ?_, ?_, ?_, ?_, ?_, ?_, ?_, ?_, trivial⟩
    all_goals intro ρ W ⟨kc, kg, kf⟩ hF hs
    · obtain ⟨h0, -⟩ := hs
      replace h0 : ρ (.tmp 3) = .pointer (some ⟨w.heap.size, 0, none⟩) := h0
      have hc0 : W.cell? ⟨w.heap.size, 0, none⟩ = some (.int .i64 L) := hF.cell (by assumption)
      have hc1 : W.cell? ⟨w.heap.size, 1, none⟩ = some (.slice J n cj) := hF.cell (by assumption)
      have hc2 : W.cell? ⟨w.heap.size, 2, none⟩ = some (.slice K n ck) := hF.cell (by assumption)
      go_simp
      exact ⟨Ext.refl _, rfl⟩
    · obtain ⟨h0, -⟩ := hs
      replace h0 : ρ (.tmp 15) = .agg #[.int .i64 L, .slice J n cj, .slice K n ck] := h0
      go_simp
      refine (HSE.out _ (E0.out.trans hF)).mono ?_; rintro e w' ⟨rfl, hx⟩; exact ⟨_, rfl, hx, rfl⟩
    · obtain ⟨h0, -⟩ := hs
      replace h0 : ρ (.tmp 4) = .pointer (some ⟨w.heap.size + 1, 0, none⟩) := h0
      have hc0 : W.cell? ⟨w.heap.size + 1, 0, none⟩ = some (.slice P np cp) := hF.cell (by assumption)
      have hc1 : W.cell? ⟨w.heap.size + 1, 1, none⟩ = some (.int .i64 sp) := hF.cell (by assumption)
      have hc2 : W.cell? ⟨w.heap.size + 1, 2, none⟩ = some (.int .i64 ga) := hF.cell (by assumption)
      have hc3 : W.cell? ⟨w.heap.size + 1, 3, none⟩ = some (.int .i64 li) := hF.cell (by assumption)
      go_simp
      exact ⟨Ext.refl _, rfl⟩
    · obtain ⟨h0, -⟩ := hs
      replace h0 : ρ (.tmp 17) = .agg #[.slice P np cp, .int .i64 sp, .int .i64 ga, .int .i64 li] := h0
      go_simp
      refine (HPE.out _ (E0.out.trans hF)).mono ?_; rintro e w' ⟨rfl, hx⟩; exact ⟨_, rfl, hx, rfl⟩
    · obtain ⟨h0, -⟩ := hs
      replace h0 : ρ (.tmp 2) = .int .i64 (t) := h0
      go_simp
      exact ⟨Ext.refl _, rfl⟩
    · obtain ⟨h0, -⟩ := hs
      replace h0 : ρ (.tmp 19) = .int .i64 (t) := h0
      go_simp
      refine (toleranceError_any _ _).mono ?_; rintro e w' ⟨rfl, hx⟩; exact ⟨_, rfl, hx, rfl⟩
    · obtain ⟨h0, h1, h2, -⟩ := hs
      replace h0 : ρ (.tmp 16) = .int .i64 (0) := h0
      replace h1 : ρ (.tmp 18) = .int .i64 (0) := h1
      replace h2 : ρ (.tmp 20) = .int .i64 (tolE (t)) := h2
      go_simp
      exact ⟨Ext.alloc _ _, ints_new _ [0, 0, tolE (t)] _ (by simp)⟩
    · obtain ⟨h0, -⟩ := hs
      replace h0 : (Ints [0, 0, tolE (t)]) (ρ (.tmp 21)) W := h0
      go_simp
      refine (firstOf_any _ _ _ h0).mono ?_; rintro e w' ⟨rfl, rfl⟩; exact ⟨_, rfl, Ext.refl _, rfl⟩
    · obtain ⟨h0, -⟩ := hs
      replace h0 : ρ (.tmp 22) = .int .i64 (firstE [0, 0, tolE (t)]) := h0
      go_simp
      exact ⟨Ext.refl _, rfl⟩
  · intro fv W1 hF hs
    obtain ⟨-, -, -, -, -, -, -, -, h9, -⟩ := hs
    replace h9 : fv 9 = .int .i64 (firstE [0, 0, tolE (t)]) := h9
    simp only [fin, List.filterMap]
    go_simp
    rw [HT2.out]
    have X := Lib.hid (E0.out.trans hF)
    replace K0 := Lib.hid (K0.out.ext hF)
    replace K1 := Lib.hid (K1.out.ext hF)
    clear hF E0 HSE HPE y0_0 y0_1 y0_2 y1_0 y1_1 y1_2 y1_3 HT2
    go_upto_region 5 with (fail)
    have y0_1 : W1.cell? ⟨w.heap.size, 1, none⟩ = some (.slice J n cj) := K0.out.cell 1
    go_wp2
    clear y0_1
    go_loopw [10, 11, 29] (fun m f i wr => ∃ (k : Nat) (mv fv2 : Int), k ≤ n ∧ i = .int .i64 (k : Int) ∧ m = .int .i64 mv ∧ f = .int .i64 fv2 ∧ bv = bndL B (n - k) k mv fv2 ∧ Ext w wr ∧ Blk wr w.heap.size 25 #[.int .i64 L, .slice J n cj, .slice K n ck] ∧ Blk wr (w.heap.size + 1) 27 #[.slice P np cp, .int .i64 sp, .int .i64 ga, .int .i64 li]) (fun _ _ i _ => n - (intOf i).toNat)
    case atStart => exact ⟨0, 0, 0, by omega, rfl, rfl, rfl, HV.out, X.out, K0.out, K1.out⟩
    case round =>
      clear X K0 K1 HV
      obtain ⟨k, mv, fv2, hk, rfl, rfl, rfl, hr, hx, k0, k1⟩ := hrel
      have X := Lib.hid hx
      have K0 := Lib.hid k0
      have K1 := Lib.hid k1
      have R := Lib.hid hr
      clear hx k0 k1 hr
      by_cases hlt : k < n
      · have HB := Lib.hid (fun W (e : Ext w W) => HBF.out k hlt W e)
        have HR := Lib.hid (R.out.trans (bndL_step B hlt mv fv2))
        generalize B k = b at *
        have hki : (k : Int) < (n : Int) := by omega
        obtain ⟨V, hV⟩ : ∃ V, V = wr := ⟨_, rfl⟩
        rw [← hV] at X K0 K1 ⊢
        clear hV R
        have y0_0 : V.cell? ⟨w.heap.size, 0, none⟩ = some (.int .i64 L) := K0.out.cell 0
        have y0_1 : V.cell? ⟨w.heap.size, 1, none⟩ = some (.slice J n cj) := K0.out.cell 1
        have y0_2 : V.cell? ⟨w.heap.size, 2, none⟩ = some (.slice K n ck) := K0.out.cell 2
        have y1_0 : V.cell? ⟨w.heap.size + 1, 0, none⟩ = some (.slice P np cp) := K1.out.cell 0
        have y1_1 : V.cell? ⟨w.heap.size + 1, 1, none⟩ = some (.int .i64 sp) := K1.out.cell 1
        have y1_2 : V.cell? ⟨w.heap.size + 1, 2, none⟩ = some (.int .i64 ga) := K1.out.cell 2
        have y1_3 : V.cell? ⟨w.heap.size + 1, 3, none⟩ = some (.int .i64 li) := K1.out.cell 3
        go_wp2_with (go_at_call 32; refine (HB.out _ X.out).mono ?_; rintro e V2 ⟨rfl, hx⟩; replace X := Lib.hid (X.out.trans hx); replace K0 := Lib.hid (K0.out.ext hx); replace K1 := Lib.hid (K1.out.ext hx); clear hx y0_0 y0_1 y0_2 y1_0 y1_1 y1_2 y1_3; refine Hid.out ?_)
        refine Lib.hid ?_
        clear HB
        obtain ⟨b1, b2⟩ := b
        dsimp only at *
        by_cases hb : b2 = 0
        · have hd : (b2 != 0) = false := by simp [hb]
          replace HR := Lib.hid (HR.out.trans (if_neg (by simpa using hb)))
          clear hb
          by_cases hm : mv < b1
          · have hd2 : decide (mv < b1) = true := by simp [hm]
            replace HR := Lib.hid (HR.out.trans (if_pos hm))
            clear hm
            go_wp2
            go_roundw
            case rel => exact ⟨k + 1, b1, k, by omega, by go_num, rfl, rfl, HR.out, X.out, K0.out, K1.out⟩
            case measure => simp [intOf]; omega
          · have hd2 : decide (mv < b1) = false := by simp; omega
            replace HR := Lib.hid (HR.out.trans (if_neg hm))
            clear hm
            go_wp2
            go_roundw
            case rel => exact ⟨k + 1, mv, fv2, by omega, by go_num, rfl, rfl, HR.out, X.out, K0.out, K1.out⟩
            case measure => simp [intOf]; omega
        · have hd : (b2 != 0) = true := by simp [hb]
          replace HR := Lib.hid (HR.out.trans (if_pos hb))
          clear hb
          go_wp2
          go_ret3
          exact ⟨ret_three (by rw [HR.out]) (by rw [HR.out]) (by rw [HR.out]), X.out⟩
      · obtain rfl : k = n := by omega
        have hkn : ¬ (k : Int) < (k : Int) := by omega
        have HR := Lib.hid (show bv = (mv, fv2, 0) by rw [R.out, Nat.sub_self]; rfl)
        clear R
        go_wp2
        go_ret3
        exact ⟨ret_three (by rw [HR.out]) (by rw [HR.out]) (by rw [HR.out]), X.out⟩



def SlQ (cs : Array Value) : Value → World → Prop := fun u W => ∃ q, u = .slice (some ⟨q, 0, none⟩) 2 2 ∧ Blk W q 68 cs
theorem SlQ.ext {cs : Array Value} {u : Value} {W W' : World} (h : SlQ cs u W) (k : Ext W W') : SlQ cs u W' := by
  obtain ⟨q, e, hb⟩ := h
  exact ⟨q, e, hb.ext k⟩
set_option maxRecDepth 100000 in
set_option maxHeartbeats 1000000 in
theorem options_any {L : Int} {J K : Option Addr} {n cj ck : Nat} {w : World} {P : Option Addr} {np cp : Nat} {am : List Int} {sp ga li : Int} (hnp : am.length = np) (hP : RowsAt 1 I1 w P am) (hn4 : n ≤ 4) (h3 : np ≤ 3) :
    Calls Tryz.prog 23 #[.agg #[.int .i64 L, .slice J n cj, .slice K n ck], .agg #[.slice P np cp, .int .i64 sp, .int .i64 ga, .int .i64 li]] w fun e w' => ∃ A c, e = .returned (.slice A (optL am n).length c) ∧ Ext w w' := by
  obtain ⟨i0, hi0, hz0, ha0, hb0⟩ := info_parts infoSkG
  have I0 := Lib.hid hz0
  have HP := Lib.hid hP
  have HNP := Lib.hid hnp
  have HLB := Lib.hid (fun k i (h : k ≤ 4) => optX_len (am := am) (i := i) (by omega) h)
  have HXN := Lib.hid (fun k i (h : i < np) => optX_next (am := am) (k := k) (i := i) (by omega))
  have HXR := Lib.hid (fun k => show optX am (k + 1) 0 = optX am k np by rw [← hnp]; exact optX_row am k)
  have HXL := Lib.hid (show optX am n 0 = optL am n from optX_zero am n)
  generalize optL am n = ol at *
  clear hP hz0 hnp
  obtain ⟨W0, hW0⟩ : ∃ W0, W0 = (w.alloc (.cells #[.int .i64 L, .slice J n cj, .slice K n ck] 25)).alloc (.cells #[.slice P np cp, .int .i64 sp, .int .i64 ga, .int .i64 li] 27) := ⟨_, rfl⟩
  have K0 := Lib.hid (show Blk W0 (w.heap.size) 25 #[.int .i64 L, .slice J n cj, .slice K n ck] by rw [hW0]; exact (Blk.new _ _ _).alloc _)
  have K1 := Lib.hid (show Blk W0 (w.heap.size + 1) 27 #[.slice P np cp, .int .i64 sp, .int .i64 ga, .int .i64 li] by rw [hW0]; exact Blk.newAt _ _ _ (by simp))
  have E0 := Lib.hid (show Ext w W0 by rw [hW0]; exact (Ext.alloc _ _).trans (Ext.alloc _ _))
  have y0_0 : W0.cell? ⟨w.heap.size, 0, none⟩ = some (.int .i64 L) := K0.out.cell 0
  have y0_1 : W0.cell? ⟨w.heap.size, 1, none⟩ = some (.slice J n cj) := K0.out.cell 1
  have y0_2 : W0.cell? ⟨w.heap.size, 2, none⟩ = some (.slice K n ck) := K0.out.cell 2
  have y1_0 : W0.cell? ⟨w.heap.size + 1, 0, none⟩ = some (.slice P np cp) := K1.out.cell 0
  have y1_1 : W0.cell? ⟨w.heap.size + 1, 1, none⟩ = some (.int .i64 sp) := K1.out.cell 1
  have y1_2 : W0.cell? ⟨w.heap.size + 1, 2, none⟩ = some (.int .i64 ga) := K1.out.cell 2
  have y1_3 : W0.cell? ⟨w.heap.size + 1, 3, none⟩ = some (.int .i64 li) := K1.out.cell 3
  go_enter Tryz.func23, Tryz.ntmps23
  go_upto_region 2 with (fail)
  rw [← hW0]
  clear hW0
  go_wp2
  clear y0_0 y0_1 y0_2 y1_0 y1_1 y1_2 y1_3
  go_loopw [5, 6] (fun s i wr => ∃ (k c : Nat) (R : Option Addr), k ≤ n ∧ i = .int .i64 (k : Int) ∧ s = .slice R (optX am k 0).length c ∧ wr.ownsRow W0.heap.size 68 3 (.slice R (optX am k 0).length c) (optX am k 0).length ((optX am k 0).flatMap Sk.enc) ∧ Ext W0 wr) (fun _ i _ => n - (intOf i).toNat)
  case atStart => exact ⟨0, 0, none, by omega, rfl, rfl, own_none _ _ _ _, Ext.refl _⟩
  case round =>
    obtain ⟨k, c, R, hk, rfl, rfl, ho, hx⟩ := hrel
    have X := Lib.hid hx
    have O := Lib.hid ho
    clear hx ho
    have z1 : wr.cell? ⟨w.heap.size, 1, none⟩ = some (.slice J n cj) := (K0.out.ext X.out).cell 1
    by_cases hlt : k < n
    · have hki : (k : Int) < (n : Int) := by omega
      have HL2 := Lib.hid (fun i => HLB.out k i (by omega))
      have HX2 := Lib.hid (fun i (h : i < np) => HXN.out k i h)
      have HXE := Lib.hid (HXR.out k)
      obtain ⟨wo, hwo⟩ : ∃ x, x = wr := ⟨_, rfl⟩
      subst hwo
      go_wp2
      clear z1
      go_loopw [5, 7] (fun s i wr => ∃ (j c : Nat) (R : Option Addr), j ≤ np ∧ i = .int .i64 (j : Int) ∧ s = .slice R (optX am k j).length c ∧ wr.ownsRow W0.heap.size 68 3 (.slice R (optX am k j).length c) (optX am k j).length ((optX am k j).flatMap Sk.enc) ∧ Ext W0 wr) (fun _ i _ => np - (intOf i).toNat)
      case atStart => exact ⟨0, c, R, by omega, rfl, rfl, O.out, X.out⟩
      case round =>
        clear X O
        obtain ⟨j, c, R, hj, rfl, rfl, ho, hx⟩ := hrel
        have X := Lib.hid hx
        have O := Lib.hid ho
        clear hx ho
        by_cases hlj : j < np
        · have hji : (j : Int) < (np : Int) := by omega
          obtain ⟨pb, po, rfl, hpb, hpc⟩ := row_I1 (HP.out.ext (E0.out.trans X.out)) (i := j) (by have := HNP.out; omega)
          have HXJ := Lib.hid (HX2.out j hlj)
          have hl := HL2.out j
          generalize am.getD j 0 = a at *
          generalize hxl : optX am k j = xl at *
          clear hxl
          generalize hM : xl.length = M at *
          have HM := Lib.hid hM
          clear hM
          obtain ⟨V, hV⟩ : ∃ V, V = wr := ⟨_, rfl⟩
          rw [← hV] at X O hpc ⊢
          clear hV hpb
          have z0 : V.cell? ⟨w.heap.size + 1, 0, none⟩ = some (.slice (some ⟨pb, po, none⟩) np cp) := (K1.out.ext X.out).cell 0
          go_upto_region 8 with (fail)
          refine wp_region_partR 16 [some 22, some 23, some 24, some 25, some 26, some 27, some 28, some 29, some 30, some 31, some 32, some 33, some 34, some 35, some 36, some 37] [[5], [6], [3], [24], [7], [25, 26], [27], [23, 28], [6], [3], [31], [7], [32, 33], [34], [30, 35], [29, 36]]
            [Is (.slice R M c), Is (.int .i64 ((k : Int))), Is (.pointer (some ⟨w.heap.size + 1, 0, none⟩)), Is (.slice (some ⟨pb, po, none⟩) np cp), Is (.int .i64 ((j : Int))), Is (.pointer (some ⟨pb, po + j, none⟩)), Is (.int .i64 (a)), Is (.agg #[.int .i64 (k : Int), .int .i64 a, .bool false]), Is (.int .i64 ((k : Int))), Is (.pointer (some ⟨w.heap.size + 1, 0, none⟩)), Is (.slice (some ⟨pb, po, none⟩) np cp), Is (.int .i64 ((j : Int))), Is (.pointer (some ⟨pb, po + j, none⟩)), Is (.int .i64 (a)), Is (.agg #[.int .i64 (k : Int), .int .i64 a, .bool true]), SlQ #[.int .i64 (k : Int), .int .i64 a, .bool false, .int .i64 (k : Int), .int .i64 a, .bool true]]
            (by kernel_rfl) (by kernel_rfl) (by kernel_rfl) (by kernel_rfl) (by kernel_rfl) (by kernel_rfl) (by kernel_rfl) Ext (fun W => Ext V W)
            (fun W _ => Ext.refl W) (fun W W' h k => h.trans k) ?_ (Ext.drew _) ?_ ?_
          · repeat (refine ⟨fun _ _ _ _ k h => (by first | exact h | exact (by first | exact IntsAt.ext h k | exact SlQ.ext h k)), ?_⟩)
            exact trivial
          · refine ⟨?_, ?_, ?_, ?_, ?_, ?_, ?_, ?_, ?_, ?_, ?_, ?_, ?_, ?_, ?_, ?_, trivial⟩
            all_goals intro ρ W ⟨kc, kg, kf⟩ hF hs
            · obtain ⟨h0, -⟩ := hs
              replace h0 : ρ (.tmp 5) = .slice R M c := h0
              go_simp
              exact ⟨Ext.refl _, rfl⟩
            · obtain ⟨h0, -⟩ := hs
              replace h0 : ρ (.tmp 6) = .int .i64 ((k : Int)) := h0
              go_simp
              exact ⟨Ext.refl _, rfl⟩
            · obtain ⟨h0, -⟩ := hs
              replace h0 : ρ (.tmp 3) = .pointer (some ⟨w.heap.size + 1, 0, none⟩) := h0
              go_simp
              exact ⟨Ext.refl _, rfl⟩
            · obtain ⟨h0, -⟩ := hs
              replace h0 : ρ (.tmp 24) = .pointer (some ⟨w.heap.size + 1, 0, none⟩) := h0
              have hc0 : W.cell? ⟨w.heap.size + 1, 0, none⟩ = some (.slice (some ⟨pb, po, none⟩) np cp) := hF.cell (by assumption)
              go_simp
              exact ⟨Ext.refl _, rfl⟩
            · obtain ⟨h0, -⟩ := hs
              replace h0 : ρ (.tmp 7) = .int .i64 ((j : Int)) := h0
              go_simp
              exact ⟨Ext.refl _, rfl⟩
            · obtain ⟨h0, h1, -⟩ := hs
              replace h0 : ρ (.tmp 25) = .slice (some ⟨pb, po, none⟩) np cp := h0
              replace h1 : ρ (.tmp 26) = .int .i64 ((j : Int)) := h1
              have hb1 : (j : Int) < (np : Int) := by omega
              have hb3 : (0 : Int) ≤ (j : Int) := by omega
              have hb4 : ((j : Int)).toNat = j := by omega
              have hb8 : j < np := by omega
              go_simp
              exact ⟨Ext.refl _, rfl⟩
            · obtain ⟨h0, -⟩ := hs
              replace h0 : ρ (.tmp 27) = .pointer (some ⟨pb, po + j, none⟩) := h0
              have hc0 : W.cell? ⟨pb, po + j, none⟩ = some (.int .i64 (a)) := hF.cell (by assumption)
              go_simp
              exact ⟨Ext.refl _, rfl⟩
            · obtain ⟨h0, h1, -⟩ := hs
              replace h0 : ρ (.tmp 23) = .int .i64 ((k : Int)) := h0
              replace h1 : ρ (.tmp 28) = .int .i64 (a) := h1
              go_simp
              exact ⟨Ext.refl _, rfl⟩
            · obtain ⟨h0, -⟩ := hs
              replace h0 : ρ (.tmp 6) = .int .i64 ((k : Int)) := h0
              go_simp
              exact ⟨Ext.refl _, rfl⟩
            · obtain ⟨h0, -⟩ := hs
              replace h0 : ρ (.tmp 3) = .pointer (some ⟨w.heap.size + 1, 0, none⟩) := h0
              go_simp
              exact ⟨Ext.refl _, rfl⟩
            · obtain ⟨h0, -⟩ := hs
              replace h0 : ρ (.tmp 31) = .pointer (some ⟨w.heap.size + 1, 0, none⟩) := h0
              have hc0 : W.cell? ⟨w.heap.size + 1, 0, none⟩ = some (.slice (some ⟨pb, po, none⟩) np cp) := hF.cell (by assumption)
              go_simp
              exact ⟨Ext.refl _, rfl⟩
            · obtain ⟨h0, -⟩ := hs
              replace h0 : ρ (.tmp 7) = .int .i64 ((j : Int)) := h0
              go_simp
              exact ⟨Ext.refl _, rfl⟩
            · obtain ⟨h0, h1, -⟩ := hs
              replace h0 : ρ (.tmp 32) = .slice (some ⟨pb, po, none⟩) np cp := h0
              replace h1 : ρ (.tmp 33) = .int .i64 ((j : Int)) := h1
              have hb1 : (j : Int) < (np : Int) := by omega
              have hb3 : (0 : Int) ≤ (j : Int) := by omega
              have hb4 : ((j : Int)).toNat = j := by omega
              have hb8 : j < np := by omega
              go_simp
              exact ⟨Ext.refl _, rfl⟩
            · obtain ⟨h0, -⟩ := hs
              replace h0 : ρ (.tmp 34) = .pointer (some ⟨pb, po + j, none⟩) := h0
              have hc0 : W.cell? ⟨pb, po + j, none⟩ = some (.int .i64 (a)) := hF.cell (by assumption)
              go_simp
              exact ⟨Ext.refl _, rfl⟩
            · obtain ⟨h0, h1, -⟩ := hs
              replace h0 : ρ (.tmp 30) = .int .i64 ((k : Int)) := h0
              replace h1 : ρ (.tmp 35) = .int .i64 (a) := h1
              go_simp
              exact ⟨Ext.refl _, rfl⟩
            · obtain ⟨h0, h1, -⟩ := hs
              replace h0 : ρ (.tmp 29) = .agg #[.int .i64 (k : Int), .int .i64 a, .bool false] := h0
              replace h1 : ρ (.tmp 36) = .agg #[.int .i64 (k : Int), .int .i64 a, .bool true] := h1
              go_simp
              exact ⟨Ext.alloc _ _, _, rfl, Blk.new _ _ _⟩
          · intro fv V1 hF hs
            obtain ⟨h22, -, -, -, -, -, -, -, -, -, -, -, -, -, -, h37, -⟩ := hs
            replace h22 : fv 22 = .slice R M c := h22
            replace h37 : (SlQ #[.int .i64 (k : Int), .int .i64 a, .bool false, .int .i64 (k : Int), .int .i64 a, .bool true]) (fv 37) V1 := h37
            simp only [fin, List.filterMap]
            go_simp
            obtain ⟨q2, hq2, hQ2⟩ := h37
            rw [hq2]
            replace O := Lib.hid (own_ext O.out hF)
            replace X := Lib.hid (X.out.trans hF)
            have SZW := Lib.hid (show W0.heap.size ≤ V1.heap.size from X.out.size)
            have HNW := Lib.hid (show ∀ j u, [Value.int .i64 (k : Int), .int .i64 a, .bool false, .int .i64 (k : Int), .int .i64 a, .bool true][j]? = some u → V1.cell? ((⟨q2, 0, none⟩ : Addr).add j) = some u from fun j u hu => by
              rw [WideShapes.add_plain, show 0 + j = j by omega, hQ2.cell j]
              match j, hu with
              | 0, hu => exact hu
              | 1, hu => exact hu
              | 2, hu => exact hu
              | 3, hu => exact hu
              | 4, hu => exact hu
              | 5, hu => exact hu
              | j + 6, hu => simp at hu)
            clear hq2 hQ2 hF z0 hpc
            go_wp2_with (at_builtin; refine wpList_append_own _ rfl _ _ 32 rfl W0.heap.size 68 i0 (Value.agg #[.int .i64 0, .int .i64 0, .bool false]) 3 24 Tryz.underlying32 hi0 I0.out ha0 hb0 rfl (by decide) _ _ _ rfl O.out ⟨q2, 0, none⟩ 2 2 [Value.int .i64 (k : Int), .int .i64 a, .bool false, .int .i64 (k : Int), .int .i64 a, .bool true] rfl rfl HNW.out (by simp [Value.oneCell']) (by unfold maxLen; omega) (by omega) SZW.out ?_; intro v' w1 hown' hgrow _; have E1 := Lib.hid (Ext.grownBy X.out hgrow (fun g hg => own_base O.out hg)); obtain ⟨A', c', hv'⟩ := own_slice hown'; subst hv'; have O1 := Lib.hid hown'; clear hown' hgrow)
            have HL3 := Lib.hid (show (optX am k (j + 1)).length = M + 2 by rw [HXJ.out, List.length_append, HM.out]; rfl)
            have HF3 := Lib.hid (show (optX am k (j + 1)).flatMap Sk.enc = xl.flatMap Sk.enc ++ [Value.int .i64 (k : Int), .int .i64 a, .bool false, .int .i64 (k : Int), .int .i64 a, .bool true] by rw [HXJ.out, List.flatMap_append]; rfl)
            go_roundw
            case rel => exact ⟨j + 1, c', A', by omega, by go_num, by rw [HL3.out], by rw [HL3.out, HF3.out]; exact O1.out, E1.out⟩
            case measure => simp [intOf]; omega
        · obtain rfl : j = np := by omega
          have hjn : ¬ (j : Int) < (j : Int) := by omega
          have z0 : wr.cell? ⟨w.heap.size + 1, 0, none⟩ = some (.slice P j cp) := (K1.out.ext X.out).cell 0
          go_wp2
          go_roundw
          case rel => exact ⟨k + 1, c, R, by omega, by go_num, by rw [HXE.out], by rw [HXE.out]; exact O.out, X.out⟩
          case measure => simp [intOf]; omega
    · obtain rfl : k = n := by omega
      have hkn : ¬ (k : Int) < (k : Int) := by omega
      rw [HXL.out] at O ⊢
      go_wp2
      go_ret
      exact ⟨⟨R, c, rfl⟩, E0.out.trans X.out⟩
set_option maxRecDepth 100000 in
set_option maxHeartbeats 1000000 in
theorem light_any {L : Int} {J K : Option Addr} {n cj ck : Nat} {js : List Int} {ks : List Rg} {w : World} (hn : js.length = n) (hJ : RowsAt 1 I1 w J js) (hm : ks.length = n) (hK : RowsAt 2 Rg.enc w K ks) {P : Option Addr} {np cp : Nat} {am : List Int} {sp ga li : Int} (hnp : am.length = np) (hP : RowsAt 1 I1 w P am) (hz1 : (checkS L js ks).2 = 0) (hz2 : (checkP am sp ga li).2 = 0) :
    Calls Tryz.prog 7 #[.agg #[.int .i64 L, .slice J n cj, .slice K n ck], .agg #[.slice P np cp, .int .i64 sp, .int .i64 ga, .int .i64 li]] w fun e w' => e = .returned (.bool (decide ((optL am n).length ≤ 8))) ∧ Ext w w' := by
  have HBE := Lib.hid (fun W (e : Ext w W) => show Calls Tryz.prog 12 #[.agg #[.int .i64 L, .slice J n cj, .slice K n ck], .agg #[.slice P np cp, .int .i64 sp, .int .i64 ga, .int .i64 li]] W fun e w' => e = .returned (.int .i64 0) ∧ Ext W w' from by have := bothErr_any (cj := cj) (ck := ck) (cp := cp) (L := L) (sp := sp) (ga := ga) (li := li) hn (hJ.ext e) hm (hK.ext e) hnp (hP.ext e); rw [if_neg (by simpa using hz1), hz2] at this; exact this)
  have hn4 : n ≤ 4 := by have := (checkS_ok hz1).four; omega
  have h3 : np ≤ 3 := by have := (checkP_ok hz2).three; omega
  have HOP := Lib.hid (fun W (e : Ext w W) => options_any (L := L) (J := J) (K := K) (cj := cj) (ck := ck) (cp := cp) (sp := sp) (ga := ga) (li := li) (n := n) hnp (hP.ext e) hn4 h3)
  generalize (optL am n).length = M at *
  have HB := Lib.hid (show decide ((M : Int) ≤ (8 : Int)) = decide (M ≤ 8) by by_cases h : M ≤ 8 <;> simp [h] <;> omega)
  clear hn hJ hm hK hnp hP hz1 hz2
  obtain ⟨W0, hW0⟩ : ∃ W0, W0 = (w.alloc (.cells #[.int .i64 L, .slice J n cj, .slice K n ck] 25)).alloc (.cells #[.slice P np cp, .int .i64 sp, .int .i64 ga, .int .i64 li] 27) := ⟨_, rfl⟩
  have K0 := Lib.hid (show Blk W0 (w.heap.size) 25 #[.int .i64 L, .slice J n cj, .slice K n ck] by rw [hW0]; exact (Blk.new _ _ _).alloc _)
  have K1 := Lib.hid (show Blk W0 (w.heap.size + 1) 27 #[.slice P np cp, .int .i64 sp, .int .i64 ga, .int .i64 li] by rw [hW0]; exact Blk.newAt _ _ _ (by simp))
  have E0 := Lib.hid (show Ext w W0 by rw [hW0]; exact (Ext.alloc _ _).trans (Ext.alloc _ _))
  have y0_0 : W0.cell? ⟨w.heap.size, 0, none⟩ = some (.int .i64 L) := K0.out.cell 0
  have y0_1 : W0.cell? ⟨w.heap.size, 1, none⟩ = some (.slice J n cj) := K0.out.cell 1
  have y0_2 : W0.cell? ⟨w.heap.size, 2, none⟩ = some (.slice K n ck) := K0.out.cell 2
  have y1_0 : W0.cell? ⟨w.heap.size + 1, 0, none⟩ = some (.slice P np cp) := K1.out.cell 0
  have y1_1 : W0.cell? ⟨w.heap.size + 1, 1, none⟩ = some (.int .i64 sp) := K1.out.cell 1
  have y1_2 : W0.cell? ⟨w.heap.size + 1, 2, none⟩ = some (.int .i64 ga) := K1.out.cell 2
  have y1_3 : W0.cell? ⟨w.heap.size + 1, 3, none⟩ = some (.int .i64 li) := K1.out.cell 3
  go_enter Tryz.func7, Tryz.ntmps7
  go_upto_region 1 with (fail)
  rw [← hW0]
  clear hW0
  go_wp2_with (go_at_call 12; refine (HBE.out _ E0.out).mono ?_; rintro e W1 ⟨rfl, hx⟩; replace E0 := Lib.hid (E0.out.trans hx); replace K0 := Lib.hid (K0.out.ext hx); replace K1 := Lib.hid (K1.out.ext hx); clear hx y0_0 y0_1 y0_2 y1_0 y1_1 y1_2 y1_3; refine Hid.out ?_)
  refine Lib.hid ?_
  have y0_0 : W1.cell? ⟨w.heap.size, 0, none⟩ = some (.int .i64 L) := K0.out.cell 0
  have y0_1 : W1.cell? ⟨w.heap.size, 1, none⟩ = some (.slice J n cj) := K0.out.cell 1
  have y0_2 : W1.cell? ⟨w.heap.size, 2, none⟩ = some (.slice K n ck) := K0.out.cell 2
  have y1_0 : W1.cell? ⟨w.heap.size + 1, 0, none⟩ = some (.slice P np cp) := K1.out.cell 0
  have y1_1 : W1.cell? ⟨w.heap.size + 1, 1, none⟩ = some (.int .i64 sp) := K1.out.cell 1
  have y1_2 : W1.cell? ⟨w.heap.size + 1, 2, none⟩ = some (.int .i64 ga) := K1.out.cell 2
  have y1_3 : W1.cell? ⟨w.heap.size + 1, 3, none⟩ = some (.int .i64 li) := K1.out.cell 3
  go_wp2_with (go_at_call 23; refine (HOP.out _ E0.out).mono ?_; rintro e W2 ⟨A, c, rfl, hx⟩; replace E0 := Lib.hid (E0.out.trans hx); clear hx)
  go_ret
  exact ⟨ret_bool HB.out, E0.out⟩



theorem amG_le {am : List Int} (hup : ∀ i, i + 1 < am.length → am.getD i 0 < am.getD (i + 1) 0) : ∀ d i, i + d + 1 = am.length → am.getD i 0 ≤ amG am
  | 0, i, h => by
    unfold amG
    rw [show am.length - 1 = i by omega]
    exact Int.le_refl _
  | d + 1, i, h => by
    have h1 := amG_le hup d (i + 1) (by omega)
    have h2 := hup i (by omega)
    omega
theorem amG_has {am : List Int} (hup : ∀ i, i + 1 < am.length → am.getD i 0 < am.getD (i + 1) 0) {a : Int} (h : hasB am a = true) : a ≤ amG am := by
  obtain ⟨i, hi, he⟩ := hasB_ok h
  have := amG_le hup (am.length - 1 - i) i (by omega)
  omega
theorem bndL_ok {B : Nat → Int × Int} {N : Int} : ∀ {q k : Nat} {m f : Int}, (∀ i, k ≤ i → i < k + q → (B i).2 = 0 ∧ (B i).1 ≤ N) → m ≤ N → (bndL B q k m f).1 ≤ N ∧ (bndL B q k m f).2.2 = 0
  | 0, k, m, f, _, hm => ⟨hm, rfl⟩
  | q + 1, k, m, f, h, hm => by
    have h1 := h k (by omega) (by omega)
    rw [bndL, if_neg (by simpa using h1.1)]
    split
    · exact bndL_ok (fun i hi hj => h i (by omega) (by omega)) h1.2
    · exact bndL_ok (fun i hi hj => h i (by omega) (by omega)) hm
theorem bndL_err {B : Nat → Int × Int} (h : ∀ i, (B i).2 = 0 ∨ (B i).2 = 12) : ∀ {q k : Nat} {m f : Int}, (bndL B q k m f).2.2 = 0 ∨ (bndL B q k m f).2.2 = 12
  | 0, k, m, f => .inl rfl
  | q + 1, k, m, f => by
    rw [bndL]
    rcases h k with h1 | h1
    · rw [if_neg (by simpa using h1)]
      split
      · exact bndL_err h
      · exact bndL_err h
    · rw [if_pos (by rw [h1]; decide)]
      exact .inr h1
theorem bndV_err (L : Int) (js : List Int) (ks : List Rg) (am : List Int) (sp ga t : Int) : (bndV L js ks am sp ga t).2.2 = 0 ∨ (bndV L js ks am sp ga t).2.2 = 12 := by
  refine bndL_err (fun i => ?_)
  unfold bndF
  split
  · exact .inl rfl
  · split
    · exact .inr rfl
    · exact .inl rfl
theorem proofE_parts {ga sp t L : Int} {js : List Int} {ks : List Rg} {l : List Sk} (h : proofE ga sp t L js ks l = 0) : aftE ga sp l ks js.length = 0 ∧ straightV t L js (aftK ga sp l ks js.length) = 2 := by
  unfold proofE at h
  by_cases hz : aftE ga sp l ks js.length = 0
  · rw [if_neg (by simpa using hz)] at h
    have := errIf_zero (by decide) h
    exact ⟨hz, by simpa using this⟩
  · rw [if_pos hz] at h
    exact absurd h hz
section
variable {L : Int} {js : List Int} {ks : List Rg} {am : List Int} {sp ga li t : Int}
theorem cplE_parts {l : List Sk} (h1 : (checkS L js ks).2 = 0) (h2 : (checkP am sp ga li).2 = 0) (ht : tolE t = 0) : cplE L js ks am sp ga li t l = 0 ↔ strokesE js.length am li l = 0 ∧ proofE ga sp t L js ks l = 0 := by
  unfold cplE planE
  rw [if_neg (by simpa using h1), if_neg (by simpa using h2)]
  by_cases h : strokesE js.length am li l = 0
  · rw [if_neg (by simpa using h), if_neg (by simpa using ht)]
    exact ⟨fun k => ⟨h, k⟩, fun k => k.2⟩
  · rw [if_pos h]
    exact ⟨fun k => absurd k h, fun k => k.1⟩
theorem few_sound (h1 : (checkS L js ks).2 = 0) (h2 : (checkP am sp ga li).2 = 0) (ht : tolE t = 0) {p : List Sk} (h : fewRk js.length li (pfB ga sp t L js ks) (optL am js.length) 0 = some p) : cplE L js ks am sp ga li t p = 0 ∧ p.length ≤ 4 := by
  obtain ⟨a1, a2, a3, a4⟩ := fewRk_sound (Q := StOK js.length am) (fun i hi => optL_StOK i hi) h
  refine ⟨(cplE_parts h1 h2 ht).2 ⟨strokesE_of ⟨a3, fun k hk => a4 _ ?_⟩ a1, by simpa [pfB] using a2⟩, a3⟩
  have : p.getD k default = p[k] := by simp [hk]
  rw [this]
  exact List.getElem_mem hk
theorem few_found (h1 : (checkS L js ks).2 = 0) (h2 : (checkP am sp ga li).2 = 0) (ht : tolE t = 0) {x : List Sk} (h : cplE L js ks am sp ga li t x = 0) : ∃ p, fewRk js.length li (pfB ga sp t L js ks) (optL am js.length) 0 = some p ∧ p.length ≤ x.length := by
  obtain ⟨hs, hp⟩ := (cplE_parts h1 h2 ht).1 h
  have hpl := strokesE_ok hs
  have hpo := checkP_ok h2
  refine fewRk_found hpl.1 (fun y hy => ?_) (fun y hy => ?_) (strokesE_full hs) (by simpa [pfB] using hp) (fun a b hab => by unfold pfB; rw [proofE_perm hab])
  · obtain ⟨i, hi, rfl⟩ := List.mem_iff_getElem.1 hy
    have := hpl.2 i hi
    rw [show x.getD i default = x[i] by simp [hi]] at this
    exact optL_mem this
  · obtain ⟨i, hi, rfl⟩ := List.mem_iff_getElem.1 hy
    have h3 := optL_StOK (am := am) (n := js.length) i hi
    rw [show (optL am js.length).getD i default = (optL am js.length)[i] by simp [hi]] at h3
    obtain ⟨q, hq, he⟩ := hasB_ok h3.2.2
    have := hpo.am1 q hq
    omega
theorem bound_found (h1 : (checkS L js ks).2 = 0) (h2 : (checkP am sp ga li).2 = 0) (ht : tolE t = 0) {x : List Sk} (h : cplE L js ks am sp ga li t x = 0) : (bndV L js ks am sp ga t).1 ≤ x.length ∧ (bndV L js ks am sp ga t).2.2 = 0 := by
  obtain ⟨hs, hp⟩ := (cplE_parts h1 h2 ht).1 h
  have hpl := strokesE_ok hs
  have hpo := checkP_ok h2
  have hso := checkS_ok h1
  obtain ⟨-, hst⟩ := proofE_parts hp
  refine bndL_ok (fun k _ hk => ?_) (by omega)
  have hk : k < js.length := by omega
  have hb := fun he => bound_ok (ga := ga) (sp := sp) (t := t) (A := amG am) (ks := ks) (l := x) hso.l1 hpo.ga1.1 (fun y hy => by
    obtain ⟨i, hi, rfl⟩ := List.mem_iff_getElem.1 hy
    have := hpl.2 i hi
    rw [show x.getD i default = x[i] by simp [hi]] at this
    exact amG_has hpo.up this.2.2) (fun i k hi hk => (infl_nn (by have := hso.at' i hi; omega) (by have := hso.at' k hk; omega)).1) hst hk he
  unfold bndF
  by_cases he : excV t (deflAt L js ks k) ≤ 2
  · rw [if_pos he]
    exact ⟨rfl, by show (0 : Int) ≤ _; omega⟩
  · obtain ⟨b1, b2⟩ := hb (by omega)
    rw [if_neg he, if_neg (by omega)]
    exact ⟨rfl, b2⟩
theorem few_none (h1 : (checkS L js ks).2 = 0) (h2 : (checkP am sp ga li).2 = 0) : straightV t L js ks = 2 ↔ ∃ p, fewRk js.length li (pfB ga sp t L js ks) (optL am js.length) 0 = some p ∧ p.length = 0 := by
  have hso := checkS_ok h1
  have hpo := checkP_ok h2
  have hf : fullB li [] js.length = false := fullB_none (fun j _ => by simpa [sumK] using hpo.li1.1)
  have hnn := aftE_none ga sp L hso hso.same
  have hpf : pfB ga sp t L js ks [] = decide (straightV t L js ks = 2) := by
    unfold pfB proofE
    rw [if_neg (by simpa using hnn.1), hnn.2]
    by_cases h : straightV t L js ks = 2
    · simp [h, errIf]
    · simp [h, errIf]
  have hstep := fewRk_step js.length li (pfB ga sp t L js ks) (optL am js.length) (k := 0) (by omega)
  have hs0 : srch js.length li (pfB ga sp t L js ks) (optL am js.length) 0 [] 0 = if straightV t L js ks = 2 then some [] else none := by
    rw [srch, hf, if_neg (by decide), hpf]
    by_cases h : straightV t L js ks = 2 <;> simp [h]
  rw [hs0] at hstep
  constructor
  · intro h
    rw [if_pos h] at hstep
    exact ⟨[], hstep, rfl⟩
  · rintro ⟨p, hp, hl⟩
    obtain rfl := List.length_eq_zero_iff.1 hl
    have := (fewRk_sound (Q := fun _ => True) (fun _ _ => trivial) hp).2.1
    rw [hpf] at this
    exact of_decide_eq_true this
end

end Go.Proofs.YtjdilmmpdlcimaaGreat
