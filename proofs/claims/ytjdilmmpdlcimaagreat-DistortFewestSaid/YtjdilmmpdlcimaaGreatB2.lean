/- Deflections. -/
import Derived.Test.YtjdilmmpdlcimaaGreatB1
import Derived.Lib.MinMax
import Derived.Deep.DeepCutAuto

namespace Go.Proofs.YtjdilmmpdlcimaaGreat
open Go.RowKit Go.Shelf Go.Mem Go.RegInv
attribute [local go_sem] RelUpon_value RelUpon_skip RelUpon_enter BigFrame.eval_const BigFrame.eval_global BigFrame.eval_func


theorem dsum_succ (L p : Int) (js : List Int) (ks : List Rg) (k : Nat) : dsum L p js ks (k + 1) = ((dsum L p js ks k).1 + (ks.getD k default).1 * infl L (js.getD k 0) p, (dsum L p js ks k).2 + (ks.getD k default).2 * infl L (js.getD k 0) p) := rfl
set_option maxRecDepth 100000 in
set_option maxHeartbeats 1000000 in
theorem deflection_any {L : Int} {J K : Option Addr} {n cj ck : Nat} {js : List Int} {ks : List Rg} {w : World} (hn : js.length = n) (hJ : RowsAt 1 I1 w J js) (hm : ks.length = n) (hK : RowsAt 2 Rg.enc w K ks) {p : Int} (hs : ShOK L js ks) (hp : 0 ≤ p ∧ p ≤ L) :
    Calls Tryz.prog 41 #[.agg #[.int .i64 L, .slice J n cj, .slice K n ck], .int .i64 p] w fun e w' => e = .returned (.agg #[.int .i64 (defl L js ks p).1, .int .i64 (defl L js ks p).2]) ∧ Ext w w' := by
  have HI := Lib.hid (fun (i : Nat) (hi : i < n) W (e : Ext w W) => influence_any (K := K) (m := n) (cj := cj) (ck := ck) (L := L) (i := i) (p := p) hn (hJ.ext e) hi hs.l2 (by have := hs.at' i (by omega); omega) hp)
  have HB := Lib.hid (fun k (hk : k ≤ n) => dsum_bd hs hp k (by omega))
  have HX := Lib.hid (fun (i : Nat) (hi : i < n) => infl_bd hs.l2 (j := js.getD i 0) (by have := hs.at' i (by omega); omega) hp)
  have HK := Lib.hid hs.kink
  have hl1 := hs.l1
  have hl2 := hs.l2
  have h4 : n ≤ 4 := by have := hs.four; omega
  have HKR := Lib.hid hK
  have HN := Lib.hid hn
  have HM := Lib.hid hm
  have HD := Lib.hid (show defl L js ks p = ((dsum L p js ks n).1 / L, ceilD (dsum L p js ks n).2 L) by rw [← hn]; rfl)
  generalize defl L js ks p = df at *
  obtain ⟨W0, hW0⟩ : ∃ W0, W0 = ((w.alloc (.cells #[.int .i64 L, .slice J n cj, .slice K n ck] 75)).alloc (.cells #[.int .i64 0, .int .i64 0] 49)).alloc (.cells #[.int .i64 0, .int .i64 0] 49) := ⟨_, rfl⟩
  have k0 : Blk W0 w.heap.size 75 #[.int .i64 L, .slice J n cj, .slice K n ck] := by rw [hW0]; exact ((Blk.new _ _ _).alloc _).alloc _
  have k1 : Blk W0 (w.heap.size + 1) 49 #[.int .i64 0, .int .i64 0] := by rw [hW0]; exact (Blk.newAt _ _ _ (by simp)).alloc _
  have k2 : Blk W0 (w.heap.size + 1 + 1) 49 #[.int .i64 0, .int .i64 0] := by rw [hW0]; exact Blk.newAt _ _ _ (by simp)
  have E0 := Lib.hid (show Ext w W0 by rw [hW0]; exact ((Ext.alloc _ _).trans (Ext.alloc _ _)).trans (Ext.alloc _ _))
  have y2 : W0.cell? ⟨w.heap.size, 2, none⟩ = some (.slice K n ck) := k0.cell 2
  have K0 := Lib.hid k0
  have K1 := Lib.hid k1
  have K2 := Lib.hid k2
  clear k0 k1 k2 hn hJ hm hK hs
  go_enter Tryz.func41, Tryz.ntmps41
  go_upto_region 2 with (fail)
  rw [← hW0]
  clear hW0
  go_wp2
  clear y2
  go_loopw [13] (fun i wr => ∃ k : Nat, k ≤ n ∧ i = .int .i64 k ∧ Ext w wr ∧ Blk wr w.heap.size 75 #[.int .i64 L, .slice J n cj, .slice K n ck] ∧ Blk wr (w.heap.size + 1) 49 #[.int .i64 0, .int .i64 0] ∧ Blk wr (w.heap.size + 1 + 1) 49 #[.int .i64 (dsum L p js ks k).1, .int .i64 (dsum L p js ks k).2]) (fun i _ => n - (intOf i).toNat)
  case atStart => exact ⟨0, Nat.zero_le _, rfl, E0.out, K0.out, K1.out, K2.out⟩
  case round =>
    clear E0 K0 K1 K2
    obtain ⟨k, hk, rfl, hx, k0, k1, k2⟩ := hrel
    have X := Lib.hid hx
    have K0 := Lib.hid k0
    have K1 := Lib.hid k1
    have K2 := Lib.hid k2
    clear hx k0 k1 k2
    by_cases hlt : k < n
    · obtain ⟨kb, ko, rfl, hkb, hc0, hc1⟩ := row_Rg (HKR.out.ext X.out) (i := k) (by have := HM.out; omega)
      have hb := HB.out k hk
      have hb2 := HB.out (k + 1) (by omega)
      have hkk := HK.out k (by have := HN.out; omega)
      have hix := HX.out k hlt
      have m1 := mul_bd (a := (ks.getD k default).1) (b := infl L (js.getD k 0) p) (A := 100000) (B := 100000000) (by omega) (by omega)
      have m2 := mul_bd (a := (ks.getD k default).2) (b := infl L (js.getD k 0) p) (A := 100000) (B := 100000000) (by omega) (by omega)
      have HC := Lib.hid (fun W (e : Ext w W) => HI.out k hlt W e)
      have HS := Lib.hid (dsum_succ L p js ks k)
      generalize infl L (js.getD k 0) p = f at *
      generalize hks : ks.getD k default = x at *
      generalize hd : dsum L p js ks k = d at *
      generalize hd2 : dsum L p js ks (k + 1) = e2 at *
      clear hks hd
      have HE := Lib.hid hd2
      clear hd2
      have hki : (k : Int) < (n : Int) := by omega
      obtain ⟨q, hq⟩ : ∃ q, q = wr.heap.size := ⟨_, rfl⟩
      obtain ⟨W1, hW1⟩ : ∃ W, W = wr.alloc (.cells #[.int .i64 x.1, .int .i64 x.2] 49) := ⟨_, rfl⟩
      have E1 := Lib.hid (show Ext wr W1 by rw [hW1]; exact Ext.alloc _ _)
      have KQ := Lib.hid (show Blk W1 q 49 #[.int .i64 x.1, .int .i64 x.2] by rw [hW1, hq]; exact Blk.new _ _ _)
      have y2 : wr.cell? ⟨w.heap.size, 2, none⟩ = some (.slice (some ⟨kb, ko, none⟩) n ck) := K0.out.cell 2
      go_upto_region 5 with (fail)
      rw [← hW1, ← hq]
      clear y2 hc0 hc1
      have NQ := Lib.hid (show q ≠ w.heap.size + 1 + 1 by have := K2.out.lt; omega)
      replace X := Lib.hid (X.out.trans E1.out)
      replace K0 := Lib.hid (K0.out.ext E1.out)
      replace K1 := Lib.hid (K1.out.ext E1.out)
      replace K2 := Lib.hid (K2.out.ext E1.out)
      clear hW1 E1 hq
      have z0 : W1.cell? ⟨w.heap.size, 0, none⟩ = some (.int .i64 L) := K0.out.cell 0
      have z1 : W1.cell? ⟨w.heap.size, 1, none⟩ = some (.slice J n cj) := K0.out.cell 1
      have z2 : W1.cell? ⟨w.heap.size, 2, none⟩ = some (.slice (some ⟨kb, ko, none⟩) n ck) := K0.out.cell 2
      go_wp2_with (go_at_call 65; refine (HC.out _ X.out).mono ?_; rintro e W2 ⟨rfl, hx⟩; replace X := Lib.hid (X.out.trans hx); replace K0 := Lib.hid (K0.out.ext hx); replace K1 := Lib.hid (K1.out.ext hx); replace K2 := Lib.hid (K2.out.ext hx); replace KQ := Lib.hid (KQ.out.ext hx); clear hx z0 z1 z2; refine Hid.out ?_)
      refine Lib.hid ?_
      have s0 : W2.cell? ⟨w.heap.size + 1 + 1, 0, none⟩ = some (.int .i64 d.1) := K2.out.cell 0
      have s1 : W2.cell? ⟨w.heap.size + 1 + 1, 1, none⟩ = some (.int .i64 d.2) := K2.out.cell 1
      have f0 := K2.out.free 0
      have f1 := K2.out.free 1
      have q0 : W2.cell? ⟨q, 0, none⟩ = some (.int .i64 x.1) := KQ.out.cell 0
      have q1 : W2.cell? ⟨q, 1, none⟩ = some (.int .i64 x.2) := KQ.out.cell 1
      have n1 : ¬ (q = w.heap.size + 1 + 1) := NQ.out
      have n2 : ¬ (w.heap.size + 1 + 1 = q) := fun h => NQ.out h.symm
      have hk4 : (k : Int) ≤ 3 := by omega
      have B1 : -9000000000000000000 ≤ d.1 + x.1 * f ∧ d.1 + x.1 * f ≤ 9000000000000000000 := by omega
      have B2 : -9000000000000000000 ≤ d.2 + x.2 * f ∧ d.2 + x.2 * f ≤ 9000000000000000000 := by omega
      have hsz : w.heap.size ≤ w.heap.size + 1 + 1 := by omega
      clear hb hb2
      go_wp2
      go_roundw
      case rel => exact ⟨k + 1, by omega, by go_num, Ext.set (Ext.set X.out hsz _) hsz _, (K0.out.setOther (by dsimp only; omega) _).setOther (by dsimp only; omega) _, (K1.out.setOther (by dsimp only; omega) _).setOther (by dsimp only; omega) _, by rw [HE.out, HS.out]; exact (K2.out.setSame 0 _).setSame 1 _⟩
      case measure => simp [intOf]; omega
    · obtain rfl : k = n := by omega
      have hkn : ¬ (k : Int) < (k : Int) := by omega
      have hb := HB.out k hk
      obtain ⟨d1, hd1⟩ : ∃ d, d = (dsum L p js ks k).1 := ⟨_, rfl⟩
      obtain ⟨d2, hd2⟩ : ∃ d, d = (dsum L p js ks k).2 := ⟨_, rfl⟩
      rw [← hd1, ← hd2] at HD hb K2
      clear hd1 hd2 HB HX HK HI HKR
      have z0 : wr.cell? ⟨w.heap.size, 0, none⟩ = some (.int .i64 L) := K0.out.cell 0
      have z1 : wr.cell? ⟨w.heap.size + 1 + 1, 0, none⟩ = some (.int .i64 d1) := K2.out.cell 0
      have z2 : wr.cell? ⟨w.heap.size + 1 + 1, 1, none⟩ = some (.int .i64 d2) := K2.out.cell 1
      go_upto_region 9 with (fail)
      refine wp_region_part 13 [some 39, some 40, some 41, some 42, some 43, some 44, some 45, some 46, some 47, some 48, some 49, some 50, some 51] [[5], [39], [2], [41], [42], [40, 43], [5], [45], [2], [47], [48], [46, 49], [44, 50]]
        [Is (.pointer (some ⟨w.heap.size + 1 + 1, 0, none⟩)), Is (.int .i64 (d1)), Is (.pointer (some ⟨w.heap.size, 0, none⟩)), Is (.pointer (some ⟨w.heap.size, 0, none⟩)), Is (.int .i64 (L)), Is (.int .i64 (d1 / L)), Is (.pointer (some ⟨w.heap.size + 1 + 1, 1, none⟩)), Is (.int .i64 (d2)), Is (.pointer (some ⟨w.heap.size, 0, none⟩)), Is (.pointer (some ⟨w.heap.size, 0, none⟩)), Is (.int .i64 (L)), Is (.int .i64 (ceilD d2 L)), Is (.agg #[.int .i64 (d1 / L), .int .i64 (ceilD d2 L)])]
        (by kernel_rfl) (by kernel_rfl) (by kernel_rfl) (by kernel_rfl) (by kernel_rfl) (by kernel_rfl) (by kernel_rfl) Ext (fun W => Ext wr W)
        (fun W _ => Ext.refl W) (fun W W' h k => h.trans k) ?_ (Ext.drew _) ?_ ?_
      · repeat (refine ⟨fun _ _ _ _ k h => (by first | exact h | exact (IntsAt.ext h k)), ?_⟩)
        exact trivial
      · refine ⟨?_, ?_, ?_, ?_, ?_, ?_, ?_, ?_, ?_, ?_, ?_, ?_, ?_, trivial⟩
        all_goals intro ρ W ⟨kc, kg, kf⟩ hF hs
        · obtain ⟨h0, -⟩ := hs
          replace h0 : ρ (.tmp 5) = .pointer (some ⟨w.heap.size + 1 + 1, 0, none⟩) := h0
          go_simp
          exact ⟨Ext.refl _, rfl⟩
        · obtain ⟨h0, -⟩ := hs
          replace h0 : ρ (.tmp 39) = .pointer (some ⟨w.heap.size + 1 + 1, 0, none⟩) := h0
          have hc0 : W.cell? ⟨w.heap.size + 1 + 1, 0, none⟩ = some (.int .i64 (d1)) := hF.cell (by assumption)
          go_simp
          exact ⟨Ext.refl _, rfl⟩
        · obtain ⟨h0, -⟩ := hs
          replace h0 : ρ (.tmp 2) = .pointer (some ⟨w.heap.size, 0, none⟩) := h0
          go_simp
          exact ⟨Ext.refl _, rfl⟩
        · obtain ⟨h0, -⟩ := hs
          replace h0 : ρ (.tmp 41) = .pointer (some ⟨w.heap.size, 0, none⟩) := h0
          go_simp
          exact ⟨Ext.refl _, rfl⟩
        · obtain ⟨h0, -⟩ := hs
          replace h0 : ρ (.tmp 42) = .pointer (some ⟨w.heap.size, 0, none⟩) := h0
          have hc0 : W.cell? ⟨w.heap.size, 0, none⟩ = some (.int .i64 (L)) := hF.cell (by assumption)
          go_simp
          exact ⟨Ext.refl _, rfl⟩
        · obtain ⟨h0, h1, -⟩ := hs
          replace h0 : ρ (.tmp 40) = .int .i64 (d1) := h0
          replace h1 : ρ (.tmp 43) = .int .i64 (L) := h1
          go_simp
          refine (floorP_any d1 L ⟨by omega, by omega⟩ ⟨by omega, by omega⟩ _).mono ?_; rintro e w' ⟨rfl, rfl⟩; exact ⟨_, rfl, Ext.refl _, rfl⟩
        · obtain ⟨h0, -⟩ := hs
          replace h0 : ρ (.tmp 5) = .pointer (some ⟨w.heap.size + 1 + 1, 0, none⟩) := h0
          go_simp
          exact ⟨Ext.refl _, rfl⟩
        · obtain ⟨h0, -⟩ := hs
          replace h0 : ρ (.tmp 45) = .pointer (some ⟨w.heap.size + 1 + 1, 1, none⟩) := h0
          have hc0 : W.cell? ⟨w.heap.size + 1 + 1, 1, none⟩ = some (.int .i64 (d2)) := hF.cell (by assumption)
          go_simp
          exact ⟨Ext.refl _, rfl⟩
        · obtain ⟨h0, -⟩ := hs
          replace h0 : ρ (.tmp 2) = .pointer (some ⟨w.heap.size, 0, none⟩) := h0
          go_simp
          exact ⟨Ext.refl _, rfl⟩
        · obtain ⟨h0, -⟩ := hs
          replace h0 : ρ (.tmp 47) = .pointer (some ⟨w.heap.size, 0, none⟩) := h0
          go_simp
          exact ⟨Ext.refl _, rfl⟩
        · obtain ⟨h0, -⟩ := hs
          replace h0 : ρ (.tmp 48) = .pointer (some ⟨w.heap.size, 0, none⟩) := h0
          have hc0 : W.cell? ⟨w.heap.size, 0, none⟩ = some (.int .i64 (L)) := hF.cell (by assumption)
          go_simp
          exact ⟨Ext.refl _, rfl⟩
        · obtain ⟨h0, h1, -⟩ := hs
          replace h0 : ρ (.tmp 46) = .int .i64 (d2) := h0
          replace h1 : ρ (.tmp 49) = .int .i64 (L) := h1
          go_simp
          refine (ceilP_any d2 L ⟨by omega, by omega⟩ ⟨by omega, by omega⟩ _).mono ?_; rintro e w' ⟨rfl, rfl⟩; exact ⟨_, rfl, Ext.refl _, rfl⟩
        · obtain ⟨h0, h1, -⟩ := hs
          replace h0 : ρ (.tmp 44) = .int .i64 (d1 / L) := h0
          replace h1 : ρ (.tmp 50) = .int .i64 (ceilD d2 L) := h1
          go_simp
          exact ⟨Ext.refl _, rfl⟩
      · intro fv W hF hs
        obtain ⟨-, -, -, -, -, h44, -, -, -, -, -, h50, h51, -⟩ := hs
        replace h44 : fv 44 = .int .i64 (d1 / L) := h44
        replace h50 : fv 50 = .int .i64 (ceilD d2 L) := h50
        replace h51 : fv 51 = .agg #[.int .i64 (d1 / L), .int .i64 (ceilD d2 L)] := h51
        simp only [fin, List.filterMap]
        go_simp
        have u0 : W.cell? ⟨w.heap.size + 1, 0, none⟩ = some (.int .i64 0) := (K1.out.ext hF).cell 0
        have u1 : W.cell? ⟨w.heap.size + 1, 1, none⟩ = some (.int .i64 0) := (K1.out.ext hF).cell 1
        have f0 := (K1.out.ext hF).free 0
        have f1 := (K1.out.ext hF).free 1
        have hsz : w.heap.size ≤ w.heap.size + 1 := by omega
        go_wp2
        exact bodyPost_ret (v := .agg #[.int .i64 (d1 / L), .int .i64 (ceilD d2 L)]) (by simp [results, Tryz.f41, go_sem, u0, u1]) rfl ⟨by rw [HD.out], Ext.set (Ext.set (X.out.trans hF) hsz _) hsz _⟩

end Go.Proofs.YtjdilmmpdlcimaaGreat
