/- The reference of deflections. -/
import Derived.Test.YtjdilmmpdlcimaaB2
import Derived.Lib.MinMax
import Derived.Deep.DeepCutAuto
import Derived.BigQuiet

namespace Go.Proofs.Ytjdilmmpdlcimaa
open Go.RowKit Go.Shelf Go.Mem Go.RegInv
attribute [local go_sem] RelUpon_value RelUpon_skip RelUpon_enter BigFrame.eval_const BigFrame.eval_global BigFrame.eval_func


set_option maxRecDepth 100000 in
set_option maxHeartbeats 1000000 in
theorem refDeflection_any {L : Int} {J K : Option Addr} {n cj ck : Nat} {js : List Int} {ks : List Rg} {w : World} (hn : js.length = n) (hJ : RowsAt 1 I1 w J js) (hm : ks.length = n) (hK : RowsAt 2 Rg.enc w K ks) {p : Int} (hs : ShOK L js ks) (hp : 0 ≤ p ∧ p ≤ L) :
    Calls Try.prog 22 #[.agg #[.int .i64 L, .slice J n cj, .slice K n ck], .int .i64 p] w fun e w' => e = .returned (.agg #[.int .i64 (defl L js ks p).1, .int .i64 (defl L js ks p).2]) ∧ Ext w w' := by
  have HI := Lib.hid (fun (i : Nat) (hi : i < n) W => refInfl_any L (js.getD i 0) p hs.l2 (by have := hs.at' i (by omega); omega) hp W)
  have HB := Lib.hid (fun k (hk : k ≤ n) => dsum_bd hs hp k (by omega))
  have HX := Lib.hid (fun (i : Nat) (hi : i < n) => infl_bd hs.l2 (j := js.getD i 0) (by have := hs.at' i (by omega); omega) hp)
  have HK := Lib.hid hs.kink
  have hl1 := hs.l1
  have hl2 := hs.l2
  have h4 : n ≤ 4 := by have := hs.four; omega
  have HKR := Lib.hid hK
  have HJR := Lib.hid hJ
  have HN := Lib.hid hn
  have HM := Lib.hid hm
  have HD := Lib.hid (show defl L js ks p = ((dsum L p js ks n).1 / L, ceilD (dsum L p js ks n).2 L) by rw [← hn]; rfl)
  generalize defl L js ks p = df at *
  clear hn hJ hm hK hs
  obtain ⟨W0, hW0⟩ : ∃ W0, W0 = (w.alloc (.cells #[.int .i64 L, .slice J n cj, .slice K n ck] 25)).alloc (.cells #[.int .i64 0, .int .i64 0] 33) := ⟨_, rfl⟩
  have K0 := Lib.hid (show Blk W0 (w.heap.size) 25 #[.int .i64 L, .slice J n cj, .slice K n ck] by rw [hW0]; exact (Blk.new _ _ _).alloc _)
  have K1 := Lib.hid (show Blk W0 (w.heap.size + 1) 33 #[.int .i64 0, .int .i64 0] by rw [hW0]; exact Blk.newAt _ _ _ (by simp))
  have E0 := Lib.hid (show Ext w W0 by rw [hW0]; exact (Ext.alloc _ _).trans (Ext.alloc _ _))
  have y0_0 : W0.cell? ⟨w.heap.size, 0, none⟩ = some (.int .i64 L) := K0.out.cell 0
  have y0_1 : W0.cell? ⟨w.heap.size, 1, none⟩ = some (.slice J n cj) := K0.out.cell 1
  have y0_2 : W0.cell? ⟨w.heap.size, 2, none⟩ = some (.slice K n ck) := K0.out.cell 2
  have y1_0 : W0.cell? ⟨w.heap.size + 1, 0, none⟩ = some (.int .i64 0) := K1.out.cell 0
  have y1_1 : W0.cell? ⟨w.heap.size + 1, 1, none⟩ = some (.int .i64 0) := K1.out.cell 1
  go_enter Try.func22, Try.ntmps22
  go_upto_region 2 with (fail)
  rw [← hW0]
  clear hW0
  go_wp2
  clear y0_0 y0_1 y0_2 y1_0 y1_1
  go_loopw [5, 6, 7] (fun a b i wr => ∃ k : Nat, k ≤ n ∧ i = .int .i64 k ∧ a = .int .i64 (dsum L p js ks k).1 ∧ b = .int .i64 (dsum L p js ks k).2 ∧ Ext w wr ∧ Blk wr w.heap.size 25 #[.int .i64 L, .slice J n cj, .slice K n ck] ∧ Blk wr (w.heap.size + 1) 33 #[.int .i64 0, .int .i64 0]) (fun _ _ i _ => n - (intOf i).toNat)
  case atStart => exact ⟨0, Nat.zero_le _, rfl, rfl, rfl, E0.out, K0.out, K1.out⟩
  case round =>
    clear E0 K0 K1
    obtain ⟨k, hk, rfl, rfl, rfl, hx, k0, k1⟩ := hrel
    have X := Lib.hid hx
    have K0 := Lib.hid k0
    have K1 := Lib.hid k1
    clear hx k0 k1
    by_cases hlt : k < n
    · obtain ⟨kb, ko, rfl, hkb, hc0, hc1⟩ := row_Rg (HKR.out.ext X.out) (i := k) (by have := HM.out; omega)
      obtain ⟨jb, jo, rfl, hjb, hjc⟩ := row_I1 (HJR.out.ext X.out) (i := k) (by have := HN.out; omega)
      have hb := HB.out k hk
      have hb2 := HB.out (k + 1) (by omega)
      have hkk := HK.out k (by have := HN.out; omega)
      have hix := HX.out k hlt
      have m1 := mul_bd (a := (ks.getD k default).1) (b := infl L (js.getD k 0) p) (A := 100000) (B := 100000000) (by omega) (by omega)
      have m2 := mul_bd (a := (ks.getD k default).2) (b := infl L (js.getD k 0) p) (A := 100000) (B := 100000000) (by omega) (by omega)
      have HI2 := Lib.hid (fun W => HI.out k hlt W)
      have HS := Lib.hid (dsum_succ L p js ks k)
      generalize infl L (js.getD k 0) p = f at *
      generalize js.getD k 0 = j at *
      generalize hks : ks.getD k default = x at *
      generalize hd : dsum L p js ks k = d at *
      generalize hd2 : dsum L p js ks (k + 1) = e2 at *
      clear hks hd
      have HE := Lib.hid hd2
      clear hd2
      have hki : (k : Int) < (n : Int) := by omega
      have hk4 : (k : Int) ≤ 3 := by omega
      have B1 : -9000000000000000000 ≤ d.1 + x.1 * f ∧ d.1 + x.1 * f ≤ 9000000000000000000 := by omega
      have B2 : -9000000000000000000 ≤ d.2 + x.2 * f ∧ d.2 + x.2 * f ≤ 9000000000000000000 := by omega
      clear hb hb2
      have z0 : wr.cell? ⟨w.heap.size, 0, none⟩ = some (.int .i64 L) := K0.out.cell 0
      have z1 : wr.cell? ⟨w.heap.size, 1, none⟩ = some (.slice (some ⟨jb, jo, none⟩) n cj) := K0.out.cell 1
      have z2 : wr.cell? ⟨w.heap.size, 2, none⟩ = some (.slice (some ⟨kb, ko, none⟩) n ck) := K0.out.cell 2
      go_upto_region 5 with (fail)
      go_quiet (first | (go_at_call 80; refine Calls.quiet_of_same ((HI2.out _).mono fun _ _ ⟨h1, h2⟩ => ⟨h1, h2.symm⟩)))
      go_upto_region 6 with (fail)
      go_quiet (fail)
      go_wp2
      go_roundw
      case rel => exact ⟨k + 1, by omega, by go_num, by rw [HE.out, HS.out], by rw [HE.out, HS.out], X.out.trans (Ext.drewN _ _), K0.out, K1.out⟩
      case measure => simp [intOf]; omega
    · obtain rfl : k = n := by omega
      have hkn : ¬ (k : Int) < (k : Int) := by omega
      have hb := HB.out k hk
      obtain ⟨d1, hd1⟩ : ∃ d, d = (dsum L p js ks k).1 := ⟨_, rfl⟩
      obtain ⟨d2, hd2⟩ : ∃ d, d = (dsum L p js ks k).2 := ⟨_, rfl⟩
      rw [← hd1, ← hd2] at HD hb
      rw [← hd1, ← hd2]
      clear hd1 hd2 HB HX HK HI HKR HJR
      obtain ⟨V, hV⟩ : ∃ V, V = wr := ⟨_, rfl⟩
      rw [← hV] at X K0 K1 ⊢
      clear hV
      have z0 : V.cell? ⟨w.heap.size, 0, none⟩ = some (.int .i64 L) := K0.out.cell 0
      have z1 : V.cell? ⟨w.heap.size, 1, none⟩ = some (.slice J k cj) := K0.out.cell 1
      go_upto_region 7 with (fail)
      refine wp_region_part 9 [some 45, some 46, some 47, some 48, some 49, some 50, some 51, some 52, some 53] [[5], [2], [46], [45, 47], [6], [2], [50], [49, 51], [48, 52]]
        [Is (.int .i64 (d1)), Is (.pointer (some ⟨w.heap.size, 0, none⟩)), Is (.int .i64 (L)), Is (.int .i64 (d1 / L)), Is (.int .i64 (d2)), Is (.pointer (some ⟨w.heap.size, 0, none⟩)), Is (.int .i64 (L)), Is (.int .i64 (ceilD d2 L)), Is (.agg #[.int .i64 (d1 / L), .int .i64 (ceilD d2 L)])]
        (by kernel_rfl) (by kernel_rfl) (by kernel_rfl) (by kernel_rfl) (by kernel_rfl) (by kernel_rfl) (by kernel_rfl) Ext (fun W => Ext V W)
        (fun W _ => Ext.refl W) (fun W W' h k => h.trans k) ?_ (Ext.drew _) ?_ ?_
      · repeat (refine ⟨fun _ _ _ _ k h => (by first | exact h | exact (IntsAt.ext h k)), ?_⟩)
        exact trivial
      · refine ⟨?_, ?_, ?_, ?_, ?_, ?_, ?_, ?_, ?_, trivial⟩
        all_goals intro ρ W ⟨kc, kg, kf⟩ hF hs
        · obtain ⟨h0, -⟩ := hs
          replace h0 : ρ (.tmp 5) = .int .i64 (d1) := h0
          go_simp
          exact ⟨Ext.refl _, rfl⟩
        · obtain ⟨h0, -⟩ := hs
          replace h0 : ρ (.tmp 2) = .pointer (some ⟨w.heap.size, 0, none⟩) := h0
          go_simp
          exact ⟨Ext.refl _, rfl⟩
        · obtain ⟨h0, -⟩ := hs
          replace h0 : ρ (.tmp 46) = .pointer (some ⟨w.heap.size, 0, none⟩) := h0
          have hc0 : W.cell? ⟨w.heap.size, 0, none⟩ = some (.int .i64 (L)) := hF.cell (by assumption)
          go_simp
          exact ⟨Ext.refl _, rfl⟩
        · obtain ⟨h0, h1, -⟩ := hs
          replace h0 : ρ (.tmp 45) = .int .i64 (d1) := h0
          replace h1 : ρ (.tmp 47) = .int .i64 (L) := h1
          go_simp
          refine (floor_any d1 L ⟨by omega, by omega⟩ ⟨by omega, by omega⟩ _).mono ?_; rintro e w' ⟨rfl, rfl⟩; exact ⟨_, rfl, Ext.refl _, rfl⟩
        · obtain ⟨h0, -⟩ := hs
          replace h0 : ρ (.tmp 6) = .int .i64 (d2) := h0
          go_simp
          exact ⟨Ext.refl _, rfl⟩
        · obtain ⟨h0, -⟩ := hs
          replace h0 : ρ (.tmp 2) = .pointer (some ⟨w.heap.size, 0, none⟩) := h0
          go_simp
          exact ⟨Ext.refl _, rfl⟩
        · obtain ⟨h0, -⟩ := hs
          replace h0 : ρ (.tmp 50) = .pointer (some ⟨w.heap.size, 0, none⟩) := h0
          have hc0 : W.cell? ⟨w.heap.size, 0, none⟩ = some (.int .i64 (L)) := hF.cell (by assumption)
          go_simp
          exact ⟨Ext.refl _, rfl⟩
        · obtain ⟨h0, h1, -⟩ := hs
          replace h0 : ρ (.tmp 49) = .int .i64 (d2) := h0
          replace h1 : ρ (.tmp 51) = .int .i64 (L) := h1
          go_simp
          refine (ceil_any d2 L ⟨by omega, by omega⟩ ⟨by omega, by omega⟩ _).mono ?_; rintro e w' ⟨rfl, rfl⟩; exact ⟨_, rfl, Ext.refl _, rfl⟩
        · obtain ⟨h0, h1, -⟩ := hs
          replace h0 : ρ (.tmp 48) = .int .i64 (d1 / L) := h0
          replace h1 : ρ (.tmp 52) = .int .i64 (ceilD d2 L) := h1
          go_simp
          exact ⟨Ext.refl _, rfl⟩
      · intro fv W1 hF hs
        obtain ⟨-, -, -, h48, -, -, -, h52, h53, -⟩ := hs
        replace h48 : fv 48 = .int .i64 (d1 / L) := h48
        replace h52 : fv 52 = .int .i64 (ceilD d2 L) := h52
        replace h53 : fv 53 = .agg #[.int .i64 (d1 / L), .int .i64 (ceilD d2 L)] := h53
        simp only [fin, List.filterMap]
        go_simp
        have u0 : W1.cell? ⟨w.heap.size + 1, 0, none⟩ = some (.int .i64 0) := (K1.out.ext hF).cell 0
        have u1 : W1.cell? ⟨w.heap.size + 1, 1, none⟩ = some (.int .i64 0) := (K1.out.ext hF).cell 1
        have f0 := (K1.out.ext hF).free 0
        have f1 := (K1.out.ext hF).free 1
        have hsz : w.heap.size ≤ w.heap.size + 1 := by omega
        go_wp2
        exact bodyPost_ret (v := .agg #[.int .i64 (d1 / L), .int .i64 (ceilD d2 L)]) (by simp [results, Try.f22, go_sem, u0, u1]) rfl ⟨by rw [HD.out], Ext.set (Ext.set (X.out.trans hF) hsz _) hsz _⟩

end Go.Proofs.Ytjdilmmpdlcimaa
