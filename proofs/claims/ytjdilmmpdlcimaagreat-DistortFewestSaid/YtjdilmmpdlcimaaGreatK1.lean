/- The reference of the bound. -/
import Derived.Test.YtjdilmmpdlcimaaGreatOA
import Derived.Test.YtjdilmmpdlcimaaGreatJ1
import Derived.Lib.MinMax
import Derived.Deep.DeepCutAuto
import Derived.BigQuiet

namespace Go.Proofs.YtjdilmmpdlcimaaGreat
open Go.RowKit Go.Shelf Go.Mem Go.RegInv
attribute [local go_sem] RelUpon_value RelUpon_skip RelUpon_enter BigFrame.eval_const BigFrame.eval_global BigFrame.eval_func


set_option maxRecDepth 100000 in
set_option maxHeartbeats 4000000 in
theorem refBound_any {L : Int} {J K : Option Addr} {n cj ck : Nat} {js : List Int} {ks : List Rg} {w : World} (hn : js.length = n) (hJ : RowsAt 1 I1 w J js) (hm : ks.length = n) (hK : RowsAt 2 Rg.enc w K ks) {P : Option Addr} {np cp : Nat} {am : List Int} {sp ga li : Int} (hnp : am.length = np) (hP : RowsAt 1 I1 w P am) {t : Int} (hs : ShOK L js ks) (hp : PrOK am sp ga li) (ht : 0 ≤ t ∧ t ≤ 1000000000000) :
    Calls Tryz.prog 14 #[.agg #[.int .i64 L, .slice J n cj, .slice K n ck], .agg #[.slice P np cp, .int .i64 sp, .int .i64 ga, .int .i64 li], .int .i64 t] w fun e w' => e = .returned (.tuple #[.int .i64 (bndV L js ks am sp ga t).1, .int .i64 (bndV L js ks am sp ga t).2.1, .bool ((bndV L js ks am sp ga t).2.2 == 0)]) ∧ Ext w w' := by
  have hn4 : n ≤ 4 := by have := hs.four; omega
  have hnp3 : 1 ≤ np ∧ np ≤ 3 := by have := hp.one; have := hp.three; omega
  have ham : 1 ≤ amG am ∧ amG am ≤ 10000 := hp.am1 _ (by have := hp.one; omega)
  have hag : am.getD (np - 1) 0 = amG am := by unfold amG; rw [hnp]
  have hkb := kinkV_bd hp.sp1 hp.ga1 (show 0 ≤ amG am ∧ amG am ≤ 10000 by omega)
  have hsp := hp.sp1
  have hga := hp.ga1
  obtain ⟨pb, po, rfl, hpb, hpc⟩ := row_I1 hP (i := np - 1) (by omega)
  rw [hag] at hpc
  have HDE := Lib.hid (fun (k : Nat) (hk : k < n) W (e : Ext w W) => refDeflection_any (cj := cj) (ck := ck) (p := js.getD k 0) hn (hJ.ext e) hm (hK.ext e) hs (by have := hs.at' k (by omega); omega))
  have HDB := Lib.hid (fun (k : Nat) (hk : k < n) => defl_big hs.l1 hs.l2 hs.four (p := js.getD k 0) (ks := ks) (js := js) (by have := hs.at' k (by omega); omega) (fun i hi => by have := hs.at' i hi; omega) hs.kink)
  have HIN := Lib.hid (fun (i : Nat) (hi : i < n) (k : Nat) (hk : k < n) W => refInfl_any L (js.getD i 0) (js.getD k 0) hs.l2 (by have := hs.at' i (by omega); omega) (by have := hs.at' k (by omega); omega) W)
  have HIB := Lib.hid (fun (i : Nat) (hi : i < n) (k : Nat) (hk : k < n) => infl_bd hs.l2 (j := js.getD i 0) (p := js.getD k 0) (by have := hs.at' i (by omega); omega) (by have := hs.at' k (by omega); omega))
  have HSL := Lib.hid (show 1 ≤ L ∧ L ≤ 10000 from ⟨hs.l1, hs.l2⟩)
  have HV := Lib.hid (show bndV L js ks am sp ga t = bndL (bndF ga sp t L (amG am) js ks n) n 0 0 0 by rw [← hn]; rfl)
  generalize bndV L js ks am sp ga t = bv at *
  have HBF := Lib.hid (fun k => show bndF ga sp t L (amG am) js ks n k = if excV t (defl L js ks (js.getD k 0)) ≤ 2 then (0, 0) else if reachV ga sp (amG am) L js k n = 0 then (0, 12) else (ceilD ((excV t (defl L js ks (js.getD k 0)) - 2) * L) (reachV ga sp (amG am) L js k n), 0) from rfl)
  generalize bndF ga sp t L (amG am) js ks n = B at *
  have HRV := Lib.hid (fun k => show reachV ga sp (amG am) L js k n = maxF (fun i => kinkV ga sp (amG am) * infl L (js.getD i 0) (js.getD k 0)) n from rfl)
  obtain ⟨mz, hmz⟩ : ∃ z, z = max (amG am - sp) 0 := ⟨_, rfl⟩
  have HKV := Lib.hid (show ga * mz = kinkV ga sp (amG am) by rw [hmz]; rfl)
  have HMZ := Lib.hid hmz
  generalize kinkV ga sp (amG am) = kv at *
  generalize amG am = ag at *
  have HJ := Lib.hid hJ
  have HN := Lib.hid hn
  clear hn hm hK hJ hnp hP hs hp hag hmz hpb
  obtain ⟨W0, hW0⟩ : ∃ W0, W0 = (w.alloc (.cells #[.int .i64 L, .slice J n cj, .slice K n ck] 25)).alloc (.cells #[.slice (some ⟨pb, po, none⟩) np cp, .int .i64 sp, .int .i64 ga, .int .i64 li] 27) := ⟨_, rfl⟩
  have K0 := Lib.hid (show Blk W0 (w.heap.size) 25 #[.int .i64 L, .slice J n cj, .slice K n ck] by rw [hW0]; exact (Blk.new _ _ _).alloc _)
  have K1 := Lib.hid (show Blk W0 (w.heap.size + 1) 27 #[.slice (some ⟨pb, po, none⟩) np cp, .int .i64 sp, .int .i64 ga, .int .i64 li] by rw [hW0]; exact Blk.newAt _ _ _ (by simp))
  have E0 := Lib.hid (show Ext w W0 by rw [hW0]; exact (Ext.alloc _ _).trans (Ext.alloc _ _))
  have y0_0 : W0.cell? ⟨w.heap.size, 0, none⟩ = some (.int .i64 L) := K0.out.cell 0
  have y0_1 : W0.cell? ⟨w.heap.size, 1, none⟩ = some (.slice J n cj) := K0.out.cell 1
  have y0_2 : W0.cell? ⟨w.heap.size, 2, none⟩ = some (.slice K n ck) := K0.out.cell 2
  have y1_0 : W0.cell? ⟨w.heap.size + 1, 0, none⟩ = some (.slice (some ⟨pb, po, none⟩) np cp) := K1.out.cell 0
  have y1_1 : W0.cell? ⟨w.heap.size + 1, 1, none⟩ = some (.int .i64 sp) := K1.out.cell 1
  have y1_2 : W0.cell? ⟨w.heap.size + 1, 2, none⟩ = some (.int .i64 ga) := K1.out.cell 2
  have y1_3 : W0.cell? ⟨w.heap.size + 1, 3, none⟩ = some (.int .i64 li) := K1.out.cell 3
  have hpc0 := E0.out.cell hpc
  clear hpc
  go_enter Tryz.func14, Tryz.ntmps14
  go_upto_region 2 with (fail)
  rw [← hW0]
  clear hW0
  refine wp_region_each [some 18, some 19, some 20, some 21, some 22, some 23, some 24, some 25, some 26, some 27, some 28, some 29, some 30, some 31, some 32, some 11] [[4], [18], [4], [20], [4], [22], [23], [24], [21, 25], [26], [4], [28], [27, 29], [30], [19, 31], [32]]
    [Is (.pointer (some ⟨w.heap.size + 1, 2, none⟩)), Is (.int .i64 (ga)), Is (.pointer (some ⟨w.heap.size + 1, 0, none⟩)), Is (.slice (some ⟨pb, po, none⟩) np cp), Is (.pointer (some ⟨w.heap.size + 1, 0, none⟩)), Is (.slice (some ⟨pb, po, none⟩) np cp), Is (.int .i64 ((np : Int))), Is (.int .i64 ((np : Int) - 1)), Is (.pointer (some ⟨pb, po + (np - 1), none⟩)), Is (.int .i64 (ag)), Is (.pointer (some ⟨w.heap.size + 1, 1, none⟩)), Is (.int .i64 (sp)), Is (.int .i64 (ag - sp)), Is (.int .i64 (mz)), Is (.int .i64 (kv)), Is (.int .i64 (kv))]
    (by kernel_rfl) (by kernel_rfl) (by kernel_rfl) (by kernel_rfl) (by kernel_rfl) Ext (fun W => Ext W0 W)
    (fun W _ => Ext.refl W) (fun W W' h k => h.trans k) ?_ (Ext.drew _) ?_ ?_
  · repeat (refine ⟨fun _ _ _ _ k h => (by first | exact h | exact (IntsAt.ext h k)), ?_⟩)
    exact trivial
  · refine ⟨?_, ?_, ?_, ?_, ?_, ?_, ?_, ?_, ?_, ?_, ?_, ?_, ?_, ?_, ?_, ?_, trivial⟩
    all_goals intro ρ W ⟨kc, kg, kf⟩ hF hs
    · obtain ⟨h0, -⟩ := hs
      replace h0 : ρ (.tmp 4) = .pointer (some ⟨w.heap.size + 1, 0, none⟩) := h0
      go_simp
      exact ⟨Ext.refl _, rfl⟩
    · obtain ⟨h0, -⟩ := hs
      replace h0 : ρ (.tmp 18) = .pointer (some ⟨w.heap.size + 1, 2, none⟩) := h0
      have hc0 : W.cell? ⟨w.heap.size + 1, 2, none⟩ = some (.int .i64 (ga)) := hF.cell (by assumption)
      go_simp
      exact ⟨Ext.refl _, rfl⟩
    · obtain ⟨h0, -⟩ := hs
      replace h0 : ρ (.tmp 4) = .pointer (some ⟨w.heap.size + 1, 0, none⟩) := h0
      go_simp
      exact ⟨Ext.refl _, rfl⟩
    · obtain ⟨h0, -⟩ := hs
      replace h0 : ρ (.tmp 20) = .pointer (some ⟨w.heap.size + 1, 0, none⟩) := h0
      have hc0 : W.cell? ⟨w.heap.size + 1, 0, none⟩ = some (.slice (some ⟨pb, po, none⟩) np cp) := hF.cell (by assumption)
      go_simp
      exact ⟨Ext.refl _, rfl⟩
    · obtain ⟨h0, -⟩ := hs
      replace h0 : ρ (.tmp 4) = .pointer (some ⟨w.heap.size + 1, 0, none⟩) := h0
      go_simp
      exact ⟨Ext.refl _, rfl⟩
    · obtain ⟨h0, -⟩ := hs
      replace h0 : ρ (.tmp 22) = .pointer (some ⟨w.heap.size + 1, 0, none⟩) := h0
      have hc0 : W.cell? ⟨w.heap.size + 1, 0, none⟩ = some (.slice (some ⟨pb, po, none⟩) np cp) := hF.cell (by assumption)
      go_simp
      exact ⟨Ext.refl _, rfl⟩
    · obtain ⟨h0, -⟩ := hs
      replace h0 : ρ (.tmp 23) = .slice (some ⟨pb, po, none⟩) np cp := h0
      go_simp
      exact ⟨Ext.refl _, rfl⟩
    · obtain ⟨h0, -⟩ := hs
      replace h0 : ρ (.tmp 24) = .int .i64 ((np : Int)) := h0
      have hw : IntKind.i64.wrap ((np : Int) - 1) = (np : Int) - 1 := wrap_id _ (by omega) (by omega)
      go_simp
      exact ⟨Ext.refl _, rfl⟩
    · obtain ⟨h0, h1, -⟩ := hs
      replace h0 : ρ (.tmp 21) = .slice (some ⟨pb, po, none⟩) np cp := h0
      replace h1 : ρ (.tmp 25) = .int .i64 ((np : Int) - 1) := h1
      have hb1 : (np : Int) - 1 < (np : Int) := by omega
      have hb3 : (0 : Int) ≤ (np : Int) - 1 := by omega
      have hb4 : ((np : Int) - 1).toNat = np - 1 := by omega
      have hb5 : 1 ≤ np := by omega
      have hb6 : (1 : Int) ≤ (np : Int) := by omega
      have hb8 : np - 1 < np := by omega
      go_simp
      exact ⟨Ext.refl _, rfl⟩
    · obtain ⟨h0, -⟩ := hs
      replace h0 : ρ (.tmp 26) = .pointer (some ⟨pb, po + (np - 1), none⟩) := h0
      have hc0 : W.cell? ⟨pb, po + (np - 1), none⟩ = some (.int .i64 (ag)) := hF.cell (by assumption)
      go_simp
      exact ⟨Ext.refl _, rfl⟩
    · obtain ⟨h0, -⟩ := hs
      replace h0 : ρ (.tmp 4) = .pointer (some ⟨w.heap.size + 1, 0, none⟩) := h0
      go_simp
      exact ⟨Ext.refl _, rfl⟩
    · obtain ⟨h0, -⟩ := hs
      replace h0 : ρ (.tmp 28) = .pointer (some ⟨w.heap.size + 1, 1, none⟩) := h0
      have hc0 : W.cell? ⟨w.heap.size + 1, 1, none⟩ = some (.int .i64 (sp)) := hF.cell (by assumption)
      go_simp
      exact ⟨Ext.refl _, rfl⟩
    · obtain ⟨h0, h1, -⟩ := hs
      replace h0 : ρ (.tmp 27) = .int .i64 (ag) := h0
      replace h1 : ρ (.tmp 29) = .int .i64 (sp) := h1
      have hw : IntKind.i64.wrap (ag - sp) = ag - sp := wrap_id _ (by omega) (by omega)
      go_simp
      exact ⟨Ext.refl _, rfl⟩
    · obtain ⟨h0, -⟩ := hs
      replace h0 : ρ (.tmp 30) = .int .i64 (ag - sp) := h0
      go_simp
      exact ⟨Ext.refl _, congrArg (Value.int .i64) (by rw [HMZ.out]; omega)⟩
    · obtain ⟨h0, h1, -⟩ := hs
      replace h0 : ρ (.tmp 19) = .int .i64 (ga) := h0
      replace h1 : ρ (.tmp 31) = .int .i64 (mz) := h1
      have hw : IntKind.i64.wrap (ga * mz) = kv := by rw [HKV.out]; exact wrap_id _ (by omega) (by omega)
      go_simp
      exact ⟨Ext.refl _, rfl⟩
    · obtain ⟨h0, -⟩ := hs
      replace h0 : ρ (.tmp 32) = .int .i64 (kv) := h0
      go_simp
      exact ⟨Ext.refl _, rfl⟩
  · intro fv W1 hF hs
    obtain ⟨-, -, -, -, -, -, -, -, -, -, -, -, -, -, -, h11, -⟩ := hs
    replace h11 : fv 11 = .int .i64 (kv) := h11
    simp only [fin, List.filterMap]
    go_simp
    have X := Lib.hid (E0.out.trans hF)
    replace K0 := Lib.hid (K0.out.ext hF)
    clear hF E0 K1 y0_0 y0_1 y0_2 y1_0 y1_1 y1_2 y1_3 hpc0 HKV HMZ
    obtain ⟨r, hr⟩ : ∃ r, r = bndL B n 0 0 0 := ⟨_, rfl⟩
    have HR0 := Lib.hid hr
    have y0_1 : W1.cell? ⟨w.heap.size, 1, none⟩ = some (.slice J n cj) := K0.out.cell 1
    go_upto_region 3 with (fail)
    go_wp2
    clear y0_1
    go_loopw [9, 10, 12] (fun b a i wr => ∃ (k : Nat) (m f : Int), k ≤ n ∧ i = .int .i64 (k : Int) ∧ b = .int .i64 m ∧ a = .int .i64 f ∧ 0 ≤ m ∧ r = bndL B (n - k) k m f ∧ Ext w wr ∧ Blk wr w.heap.size 25 #[.int .i64 L, .slice J n cj, .slice K n ck]) (fun _ _ i _ => n - (intOf i).toNat)
    case atStart => exact ⟨0, 0, 0, by omega, rfl, rfl, rfl, by omega, hr, X.out, K0.out⟩
    case round =>
      clear X K0
      obtain ⟨k, m, f, hk, rfl, rfl, rfl, hm0, hr2, hx, k0⟩ := hrel
      have X := Lib.hid hx
      have K0 := Lib.hid k0
      have R := Lib.hid hr2
      clear hx k0 hr2
      by_cases hlt : k < n
      · obtain ⟨jb, jo, rfl, hjb, hjk⟩ := row_I1 (HJ.out.ext X.out) (i := k) (by have := HN.out; omega)
        have HD := Lib.hid (fun W e => HDE.out k hlt W e)
        have hdb := HDB.out k hlt
        have HINk := Lib.hid (fun i hi W => HIN.out i hi k hlt W)
        have HIBk := Lib.hid (fun i hi => HIB.out i hi k hlt)
        have HST := R.out
        rw [bndL_step B hlt m f, HBF.out k, HRV.out k] at HST
        obtain ⟨F, hF0⟩ : ∃ F : Nat → Int, F = fun i => kv * infl L (js.getD i 0) (js.getD k 0) := ⟨_, rfl⟩
        have HFF := Lib.hid (fun i => show F i = kv * infl L (js.getD i 0) (js.getD k 0) by rw [hF0])
        rw [← hF0] at HST
        clear hF0 R
        replace HST := Lib.hid HST
        generalize defl L js ks (js.getD k 0) = d at *
        obtain ⟨d1, d2⟩ := d
        dsimp only at hdb HD
        have HEX := Lib.hid (show excV t (d1, d2) = max (max (d2 - t) (-t - d1)) 0 from rfl)
        generalize excV t (d1, d2) = ex at *
        have HNC := Lib.hid (fun i (hi : i < n) => HIBk.out i hi)
        generalize hjke : js.getD k 0 = jk at *
        have HJK := Lib.hid hjke
        clear hjke hjb HIBk
        have hki : (k : Int) < (n : Int) := by omega
        obtain ⟨V, hV⟩ : ∃ V, V = wr := ⟨_, rfl⟩
        rw [← hV] at X K0 hjk ⊢
        clear hV
        have y0_0 : V.cell? ⟨w.heap.size, 0, none⟩ = some (.int .i64 L) := K0.out.cell 0
        have y0_1 : V.cell? ⟨w.heap.size, 1, none⟩ = some (.slice (some ⟨jb, jo, none⟩) n cj) := K0.out.cell 1
        have y0_2 : V.cell? ⟨w.heap.size, 2, none⟩ = some (.slice K n ck) := K0.out.cell 2
        go_upto_region 6 with (fail)
        refine wp_region_free [.op, .op, .op, .op, .op, .op, .op, .new, .store] [8] [13, 46] [13] [some 40, some 41, some 42, some 43, some 44, some 45, some 46, some 13, none] [[3], [3], [41], [12], [42, 43], [44], [40, 45], [], [13, 46]]
          [Is (.agg #[.int .i64 (L), .slice (some ⟨jb, jo, none⟩) n cj, .slice K n ck]), Is (.pointer (some ⟨w.heap.size, 1, none⟩)), Is (.slice (some ⟨jb, jo, none⟩) n cj), Is (.int .i64 ((k : Int))), Is (.pointer (some ⟨jb, jo + k, none⟩)), Is (.int .i64 (jk)), Is (.agg #[.int .i64 d1, .int .i64 d2]), NewP V.heap.size 49 #[.int .i64 0, .int .i64 0], fun _ _ => True]
          (by kernel_rfl) (by kernel_rfl) (by kernel_rfl) (by kernel_rfl) (by kernel_rfl) (by kernel_rfl) (by kernel_rfl) (by kernel_rfl) (by kernel_rfl) Ext (fun W => Ext V W)
          (fun W _ => Ext.refl W) (fun W W' h k => h.trans k) (fun W W' h => h.size) ?_ (Ext.drew _) ?_ ?_
        · repeat (refine ⟨fun _ _ _ _ k h => (by first | exact h | exact (by first | exact IntsAt.ext h k | exact NewP.ext h k)), ?_⟩)
          exact trivial
        · refine ⟨?_, ?_, ?_, ?_, ?_, ?_, ?_, ?_, trivial⟩
          · intro ρ W ⟨kc, kg, kf⟩ hF hs
            obtain ⟨h0, -⟩ := hs
            replace h0 : ρ (.tmp 3) = .pointer (some ⟨w.heap.size, 0, none⟩) := h0
            have hc0 : W.cell? ⟨w.heap.size, 0, none⟩ = some (.int .i64 (L)) := hF.cell (by assumption)
            have hc1 : W.cell? ⟨w.heap.size, 1, none⟩ = some (.slice (some ⟨jb, jo, none⟩) n cj) := hF.cell (by assumption)
            have hc2 : W.cell? ⟨w.heap.size, 2, none⟩ = some (.slice K n ck) := hF.cell (by assumption)
            go_simp
            exact ⟨Ext.refl _, rfl⟩
          · intro ρ W ⟨kc, kg, kf⟩ hF hs
            obtain ⟨h0, -⟩ := hs
            replace h0 : ρ (.tmp 3) = .pointer (some ⟨w.heap.size, 0, none⟩) := h0
            go_simp
            exact ⟨Ext.refl _, rfl⟩
          · intro ρ W ⟨kc, kg, kf⟩ hF hs
            obtain ⟨h0, -⟩ := hs
            replace h0 : ρ (.tmp 41) = .pointer (some ⟨w.heap.size, 1, none⟩) := h0
            have hc0 : W.cell? ⟨w.heap.size, 1, none⟩ = some (.slice (some ⟨jb, jo, none⟩) n cj) := hF.cell (by assumption)
            go_simp
            exact ⟨Ext.refl _, rfl⟩
          · intro ρ W ⟨kc, kg, kf⟩ hF hs
            obtain ⟨h0, -⟩ := hs
            replace h0 : ρ (.tmp 12) = .int .i64 ((k : Int)) := h0
            go_simp
            exact ⟨Ext.refl _, rfl⟩
          · intro ρ W ⟨kc, kg, kf⟩ hF hs
            obtain ⟨h0, h1, -⟩ := hs
            replace h0 : ρ (.tmp 42) = .slice (some ⟨jb, jo, none⟩) n cj := h0
            replace h1 : ρ (.tmp 43) = .int .i64 ((k : Int)) := h1
            have hb1 : (k : Int) < (n : Int) := by omega
            have hb3 : (0 : Int) ≤ (k : Int) := by omega
            have hb4 : ((k : Int)).toNat = k := by omega
            have hb8 : k < n := by omega
            go_simp
            exact ⟨Ext.refl _, rfl⟩
          · intro ρ W ⟨kc, kg, kf⟩ hF hs
            obtain ⟨h0, -⟩ := hs
            replace h0 : ρ (.tmp 44) = .pointer (some ⟨jb, jo + k, none⟩) := h0
            have hc0 : W.cell? ⟨jb, jo + k, none⟩ = some (.int .i64 (jk)) := hF.cell (by assumption)
            go_simp
            exact ⟨Ext.refl _, rfl⟩
          · intro ρ W ⟨kc, kg, kf⟩ hF hs
            obtain ⟨h0, h1, -⟩ := hs
            replace h0 : ρ (.tmp 40) = .agg #[.int .i64 (L), .slice (some ⟨jb, jo, none⟩) n cj, .slice K n ck] := h0
            replace h1 : ρ (.tmp 45) = .int .i64 (jk) := h1
            go_simp
            refine (HD.out _ (X.out.trans hF)).mono ?_; rintro e w' ⟨rfl, hx⟩; exact ⟨_, rfl, hx, rfl⟩
          · intro ρ W ⟨kc, kg, kf⟩ hF hs
            exact ⟨W.alloc (.cells #[.int .i64 0, .int .i64 0] 49), (by go_simp), by simp, Ext.alloc _ _, _, rfl, hF.size, Blk.new _ _ _⟩
        · intro fv U hF hs hap σ hσ ρ ⟨kc, kg, kf⟩ hr
          obtain ⟨-, -, -, -, -, -, h46, h13, -⟩ := hs
          replace h46 : fv 46 = .agg #[.int .i64 d1, .int .i64 d2] := h46
          replace h13 : (NewP V.heap.size 49 #[.int .i64 0, .int .i64 0]) (fv 13) U := h13
          obtain ⟨r0, r1, -⟩ := hr
          replace r0 : ρ (.tmp 13) = fv 13 := r0
          replace r1 : ρ (.tmp 46) = .agg #[.int .i64 d1, .int .i64 d2] := r1.trans h46
          obtain ⟨q13, hq13, hqs13, hb13⟩ := h13
          rw [hq13] at r0
          have f13_0 := hb13.free 0
          have c13_0 : U.cell? ⟨q13, 0, none⟩ = some (.int .i64 0) := hb13.cell 0
          have f13_1 := hb13.free 1
          have c13_1 : U.cell? ⟨q13, 1, none⟩ = some (.int .i64 0) := hb13.cell 1
          refine stores_one _ rfl hσ ((U.setCell ⟨q13, 0, none⟩ (.int .i64 d1)).setCell ⟨q13, 1, none⟩ (.int .i64 d2)) (by go_simp) ?_
          obtain ⟨V1, hV1⟩ : ∃ Vx, Vx = (U.setCell ⟨q13, 0, none⟩ (.int .i64 d1)).setCell ⟨q13, 1, none⟩ (.int .i64 d2) := ⟨_, rfl⟩
          rw [← hV1]
          have K13 := Lib.hid (show Blk V1 q13 49 #[.int .i64 d1, .int .i64 d2] by rw [hV1]; exact (hb13.setSame 0 _).setSame 1 _)
          have XN := Lib.hid (show Ext V V1 by rw [hV1]; exact Ext.set (Ext.set hF (by dsimp only; exact hqs13) _) (by dsimp only; exact hqs13) _)
          have L13 := Lib.hid hqs13
          clear f13_0 c13_0 f13_1 c13_1
          clear hV1 hF hap hσ r0 r1 kc kg kf hb13 hqs13
          simp only [fin, List.filterMap]
          go_simp
          try rw [hq13]
          clear hq13
          clear ρ σ h46
          replace X := Lib.hid (X.out.trans XN.out)
          replace K0 := Lib.hid (K0.out.ext XN.out)
          have hjk1 := XN.out.cell hjk
          clear XN L13 y0_0 y0_1 y0_2 hjk HD
          have q0 : V1.cell? ⟨q13, 0, none⟩ = some (.int .i64 d1) := K13.out.cell 0
          have q1 : V1.cell? ⟨q13, 1, none⟩ = some (.int .i64 d2) := K13.out.cell 1
          have w1 : IntKind.i64.wrap (d2 - t) = d2 - t := wrap_id _ (by omega) (by omega)
          have w2 : IntKind.i64.wrap (-t) = -t := wrap_id _ (by omega) (by omega)
          have w3 : IntKind.i64.wrap (-t - d1) = -t - d1 := wrap_id _ (by omega) (by omega)
          go_upto_region 8 with (fail)
          have HE1 : (if (if t < d2 then d2 - t else 0) < -t - d1 then -t - d1 else if t < d2 then d2 - t else 0) = ex := by
            rw [HEX.out]
            by_cases h1 : t < d2
            · rw [if_pos h1]
              by_cases h2 : d2 - t < -t - d1
              · rw [if_pos h2]; omega
              · rw [if_neg h2]; omega
            · rw [if_neg h1]
              by_cases h2 : 0 < -t - d1
              · rw [if_pos h2]; omega
              · rw [if_neg h2]; omega
          rw [HE1]
          have hex : 0 ≤ ex ∧ ex ≤ 2000000000000 := by rw [HEX.out]; omega
          clear HE1 HEX w1 w2 w3 q0 q1 K13 hdb hjk1
          obtain ⟨V2, hV2⟩ : ∃ V, V = V1 := ⟨_, rfl⟩
          rw [← hV2] at X K0 ⊢
          clear hV2
          have y0_1 : V2.cell? ⟨w.heap.size, 1, none⟩ = some (.slice (some ⟨jb, jo, none⟩) n cj) := K0.out.cell 1
          go_wp2
          clear y0_1
          go_loopw [15, 16] (fun mm i2 wr => ∃ i : Nat, i ≤ n ∧ i2 = .int .i64 (i : Int) ∧ mm = .int .i64 (maxF F i) ∧ Ext w wr ∧ Blk wr w.heap.size 25 #[.int .i64 L, .slice (some ⟨jb, jo, none⟩) n cj, .slice K n ck]) (fun _ i _ => n - (intOf i).toNat)
          case atStart => exact ⟨0, by omega, rfl, rfl, X.out, K0.out⟩
          case round =>
            clear X K0
            obtain ⟨i, hi, rfl, rfl, hx, k0⟩ := hrel
            have X := Lib.hid hx
            have K0 := Lib.hid k0
            clear hx k0
            obtain ⟨V3, hV3⟩ : ∃ V, V = wr := ⟨_, rfl⟩
            rw [← hV3] at X K0 ⊢
            clear hV3
            have y0_0 : V3.cell? ⟨w.heap.size, 0, none⟩ = some (.int .i64 L) := K0.out.cell 0
            have y0_1 : V3.cell? ⟨w.heap.size, 1, none⟩ = some (.slice (some ⟨jb, jo, none⟩) n cj) := K0.out.cell 1
            have y0_2 : V3.cell? ⟨w.heap.size, 2, none⟩ = some (.slice K n ck) := K0.out.cell 2
            by_cases hli : i < n
            · obtain ⟨b2, o2, he2, hb2, hck⟩ := row_I1 (HJ.out.ext X.out) (i := k) (by have := HN.out; omega)
              obtain ⟨rfl, rfl⟩ : jb = b2 ∧ jo = o2 := by simpa using he2
              obtain ⟨b3, o3, he3, hb3, hci⟩ := row_I1 (HJ.out.ext X.out) (i := i) (by have := HN.out; omega)
              obtain ⟨rfl, rfl⟩ : jb = b3 ∧ jo = o3 := by simpa using he3
              rw [HJK.out] at hck
              have HII := Lib.hid (fun W => HINk.out i hli W)
              have hnc := HNC.out i hli
              have HFI := Lib.hid (HFF.out i)
              have HNX := Lib.hid (show maxF F (i + 1) = max (maxF F i) (F i) from rfl)
              rw [HFI.out] at HNX
              generalize infl L (js.getD i 0) jk = fi at *
              generalize js.getD i 0 = ji at *
              generalize maxF F i = mx at *
              obtain ⟨mn, hmn⟩ : ∃ z, z = max mx (kv * fi) := ⟨_, rfl⟩
              rw [← hmn] at HNX
              have HMN := Lib.hid hmn
              have hm2 := mul_bd (a := kv) (b := fi) (A := 10000000) (B := 100000000) (by omega) (by omega)
              have hii : (i : Int) < (n : Int) := by omega
              clear hmn he2 he3 hb2 hb3
              go_upto_region 12 with (fail)
              refine wp_region_partR 17 [some 64, some 65, some 66, some 67, some 68, some 69, some 70, some 71, some 72, some 73, some 74, some 75, some 76, some 77, some 78, some 79, some 80] [[15], [11], [3], [66], [3], [68], [16], [69, 70], [71], [3], [73], [12], [74, 75], [76], [67, 72, 77], [65, 78], [64, 79]]
                [Is (.int .i64 (mx)), Is (.int .i64 (kv)), Is (.pointer (some ⟨w.heap.size, 0, none⟩)), Is (.int .i64 (L)), Is (.pointer (some ⟨w.heap.size, 1, none⟩)), Is (.slice (some ⟨jb, jo, none⟩) n cj), Is (.int .i64 ((i : Int))), Is (.pointer (some ⟨jb, jo + i, none⟩)), Is (.int .i64 (ji)), Is (.pointer (some ⟨w.heap.size, 1, none⟩)), Is (.slice (some ⟨jb, jo, none⟩) n cj), Is (.int .i64 ((k : Int))), Is (.pointer (some ⟨jb, jo + k, none⟩)), Is (.int .i64 (jk)), Is (.int .i64 (fi)), Is (.int .i64 (kv * fi)), Is (.int .i64 (mn))]
                (by kernel_rfl) (by kernel_rfl) (by kernel_rfl) (by kernel_rfl) (by kernel_rfl) (by kernel_rfl) (by kernel_rfl) Ext (fun W => Ext V3 W)
                (fun W _ => Ext.refl W) (fun W W' h k => h.trans k) ?_ (Ext.drew _) ?_ ?_
              · repeat (refine ⟨fun _ _ _ _ k h => (by first | exact h | exact (IntsAt.ext h k)), ?_⟩)
                exact trivial
              · refine ⟨?_, ?_, ?_, ?_, ?_, ?_, ?_, ?_, ?_, ?_, ?_, ?_, ?_, ?_, ?_, ?_, ?_, trivial⟩
                all_goals intro ρ W ⟨kc, kg, kf⟩ hF hs
                · obtain ⟨h0, -⟩ := hs
                  replace h0 : ρ (.tmp 15) = .int .i64 (mx) := h0
                  go_simp
                  exact ⟨Ext.refl _, rfl⟩
                · obtain ⟨h0, -⟩ := hs
                  replace h0 : ρ (.tmp 11) = .int .i64 (kv) := h0
                  go_simp
                  exact ⟨Ext.refl _, rfl⟩
                · obtain ⟨h0, -⟩ := hs
                  replace h0 : ρ (.tmp 3) = .pointer (some ⟨w.heap.size, 0, none⟩) := h0
                  go_simp
                  exact ⟨Ext.refl _, rfl⟩
                · obtain ⟨h0, -⟩ := hs
                  replace h0 : ρ (.tmp 66) = .pointer (some ⟨w.heap.size, 0, none⟩) := h0
                  have hc0 : W.cell? ⟨w.heap.size, 0, none⟩ = some (.int .i64 (L)) := hF.cell (by assumption)
                  go_simp
                  exact ⟨Ext.refl _, rfl⟩
                · obtain ⟨h0, -⟩ := hs
                  replace h0 : ρ (.tmp 3) = .pointer (some ⟨w.heap.size, 0, none⟩) := h0
                  go_simp
                  exact ⟨Ext.refl _, rfl⟩
                · obtain ⟨h0, -⟩ := hs
                  replace h0 : ρ (.tmp 68) = .pointer (some ⟨w.heap.size, 1, none⟩) := h0
                  have hc0 : W.cell? ⟨w.heap.size, 1, none⟩ = some (.slice (some ⟨jb, jo, none⟩) n cj) := hF.cell (by assumption)
                  go_simp
                  exact ⟨Ext.refl _, rfl⟩
                · obtain ⟨h0, -⟩ := hs
                  replace h0 : ρ (.tmp 16) = .int .i64 ((i : Int)) := h0
                  go_simp
                  exact ⟨Ext.refl _, rfl⟩
                · obtain ⟨h0, h1, -⟩ := hs
                  replace h0 : ρ (.tmp 69) = .slice (some ⟨jb, jo, none⟩) n cj := h0
                  replace h1 : ρ (.tmp 70) = .int .i64 ((i : Int)) := h1
                  have hb1 : (i : Int) < (n : Int) := by omega
                  have hb3 : (0 : Int) ≤ (i : Int) := by omega
                  have hb4 : ((i : Int)).toNat = i := by omega
                  have hb8 : i < n := by omega
                  go_simp
                  exact ⟨Ext.refl _, rfl⟩
                · obtain ⟨h0, -⟩ := hs
                  replace h0 : ρ (.tmp 71) = .pointer (some ⟨jb, jo + i, none⟩) := h0
                  have hc0 : W.cell? ⟨jb, jo + i, none⟩ = some (.int .i64 (ji)) := hF.cell (by assumption)
                  go_simp
                  exact ⟨Ext.refl _, rfl⟩
                · obtain ⟨h0, -⟩ := hs
                  replace h0 : ρ (.tmp 3) = .pointer (some ⟨w.heap.size, 0, none⟩) := h0
                  go_simp
                  exact ⟨Ext.refl _, rfl⟩
                · obtain ⟨h0, -⟩ := hs
                  replace h0 : ρ (.tmp 73) = .pointer (some ⟨w.heap.size, 1, none⟩) := h0
                  have hc0 : W.cell? ⟨w.heap.size, 1, none⟩ = some (.slice (some ⟨jb, jo, none⟩) n cj) := hF.cell (by assumption)
                  go_simp
                  exact ⟨Ext.refl _, rfl⟩
                · obtain ⟨h0, -⟩ := hs
                  replace h0 : ρ (.tmp 12) = .int .i64 ((k : Int)) := h0
                  go_simp
                  exact ⟨Ext.refl _, rfl⟩
                · obtain ⟨h0, h1, -⟩ := hs
                  replace h0 : ρ (.tmp 74) = .slice (some ⟨jb, jo, none⟩) n cj := h0
                  replace h1 : ρ (.tmp 75) = .int .i64 ((k : Int)) := h1
                  have hb1 : (k : Int) < (n : Int) := by omega
                  have hb3 : (0 : Int) ≤ (k : Int) := by omega
                  have hb4 : ((k : Int)).toNat = k := by omega
                  have hb8 : k < n := by omega
                  go_simp
                  exact ⟨Ext.refl _, rfl⟩
                · obtain ⟨h0, -⟩ := hs
                  replace h0 : ρ (.tmp 76) = .pointer (some ⟨jb, jo + k, none⟩) := h0
                  have hc0 : W.cell? ⟨jb, jo + k, none⟩ = some (.int .i64 (jk)) := hF.cell (by assumption)
                  go_simp
                  exact ⟨Ext.refl _, rfl⟩
                · obtain ⟨h0, h1, h2, -⟩ := hs
                  replace h0 : ρ (.tmp 67) = .int .i64 (L) := h0
                  replace h1 : ρ (.tmp 72) = .int .i64 (ji) := h1
                  replace h2 : ρ (.tmp 77) = .int .i64 (jk) := h2
                  go_simp
                  refine (HII.out _).mono ?_; rintro e w' ⟨rfl, rfl⟩; exact ⟨_, rfl, Ext.refl _, rfl⟩
                · obtain ⟨h0, h1, -⟩ := hs
                  replace h0 : ρ (.tmp 65) = .int .i64 (kv) := h0
                  replace h1 : ρ (.tmp 78) = .int .i64 (fi) := h1
                  have hw : IntKind.i64.wrap (kv * fi) = kv * fi := wrap_id _ (by omega) (by omega)
                  go_simp
                  exact ⟨Ext.refl _, rfl⟩
                · obtain ⟨h0, h1, -⟩ := hs
                  replace h0 : ρ (.tmp 64) = .int .i64 (mx) := h0
                  replace h1 : ρ (.tmp 79) = .int .i64 (kv * fi) := h1
                  go_simp
                  exact ⟨Ext.refl _, congrArg (Value.int .i64) (by rw [HMN.out]; try omega)⟩
              · intro fv V4 hF hs
                obtain ⟨-, -, -, -, -, -, -, -, -, -, -, -, -, -, -, -, h80, -⟩ := hs
                replace h80 : fv 80 = .int .i64 (mn) := h80
                simp only [fin, List.filterMap]
                go_simp
                replace X := Lib.hid (X.out.trans hF)
                replace K0 := Lib.hid (K0.out.ext hF)
                clear hF y0_0 y0_1 y0_2 hck hci hm2
                go_wp2
                go_roundw
                case rel => exact ⟨i + 1, by omega, by go_num, by rw [HNX.out], X.out, K0.out⟩
                case measure => simp [intOf]; omega
            · obtain rfl : n = i := by omega
              have hin : ¬ (n : Int) < (n : Int) := by omega
              have hrv : 0 ≤ maxF F n ∧ maxF F n ≤ 1000000000000000 := ⟨maxF_nn F n, maxF_bd (by decide) (fun i hi => by
                rw [HFF.out i]
                have := HNC.out i hi
                have hm2 := mul_bd (a := kv) (b := infl L (js.getD i 0) jk) (A := 10000000) (B := 100000000) (by omega) (by omega)
                omega)⟩
              generalize maxF F n = rv at *
              have HS := HST.out
              by_cases h2 : ex ≤ 2
              · rw [if_pos h2] at HS
                dsimp only at HS
                rw [if_neg (by decide), if_neg (by omega)] at HS
                replace HS := Lib.hid HS
                have hd2 : decide (ex ≤ 2) = true := by simp [h2]
                clear HST
                go_wp2
                go_roundw
                case rel => exact ⟨k + 1, m, f, by omega, by go_num, rfl, rfl, hm0, HS.out, X.out, K0.out⟩
                case measure => simp [intOf]; omega
              · rw [if_neg h2] at HS
                have hd2 : decide (ex ≤ 2) = false := by simp; omega
                by_cases h0 : rv = 0
                · rw [if_pos h0] at HS
                  dsimp only at HS
                  rw [if_pos (by decide)] at HS
                  have HS2 := Lib.hid HS
                  subst h0
                  clear HST HS
                  go_wp2
                  go_ret3
                  exact ⟨by rw [HV.out, ← HR0.out, HS2.out]; rfl, X.out⟩
                · rw [if_neg h0] at HS
                  dsimp only at HS
                  rw [if_neg (by decide)] at HS
                  have hm3 := mul_bd (a := ex - 2) (b := L) (A := 2000000000000) (B := 10000) (by omega) (by have := HSL.out; omega)
                  have HCE := Lib.hid (fun W => ceil_any ((ex - 2) * L) rv (by omega) (by omega) W)
                  have w4 : IntKind.i64.wrap (ex - 2) = ex - 2 := wrap_id _ (by omega) (by omega)
                  have w5 : IntKind.i64.wrap ((ex - 2) * L) = (ex - 2) * L := wrap_id _ (by omega) (by omega)
                  have h0b : (rv == 0) = false := by simp [h0]
                  generalize ceilD ((ex - 2) * L) rv = cv at *
                  by_cases h3 : m < cv
                  · rw [if_pos h3] at HS
                    have hd3 : decide (m < cv) = true := by simp [h3]
                    have HS2 := Lib.hid HS
                    clear HST HS
                    go_wp2_with (go_at_call 38; refine (HCE.out _).mono ?_; rintro e w' ⟨rfl, rfl⟩)
                    go_roundw
                    case rel => exact ⟨k + 1, cv, k, by omega, by go_num, rfl, rfl, by omega, HS2.out, X.out, K0.out⟩
                    case measure => simp [intOf]; omega
                  · rw [if_neg h3] at HS
                    have hd3 : decide (m < cv) = false := by simp; omega
                    have HS2 := Lib.hid HS
                    clear HST HS
                    go_wp2_with (go_at_call 38; refine (HCE.out _).mono ?_; rintro e w' ⟨rfl, rfl⟩)
                    go_roundw
                    case rel => exact ⟨k + 1, m, f, by omega, by go_num, rfl, rfl, hm0, HS2.out, X.out, K0.out⟩
                    case measure => simp [intOf]; omega
      · obtain rfl : n = k := by omega
        have hkn : ¬ (n : Int) < (n : Int) := by omega
        have y0_1 : wr.cell? ⟨w.heap.size, 1, none⟩ = some (.slice J n cj) := K0.out.cell 1
        have HS := Lib.hid (show r = (m, f, 0) by rw [R.out, Nat.sub_self]; rfl)
        go_wp2
        go_ret3
        exact ⟨by rw [HV.out, ← HR0.out, HS.out]; rfl, X.out⟩

end Go.Proofs.YtjdilmmpdlcimaaGreat
