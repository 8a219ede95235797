/- Sections: their errors and their growth. -/
import Derived.Test.YtjdilmmpdlcimaaGreatB4
import Derived.Lib.MinMax
import Derived.Deep.DeepCutAuto

namespace Go.Proofs.YtjdilmmpdlcimaaGreat
open Go.RowKit Go.Shelf Go.Mem Go.RegInv
attribute [local go_sem] RelUpon_value RelUpon_skip RelUpon_enter BigFrame.eval_const BigFrame.eval_global BigFrame.eval_func


def sectE (x : Se) : Int := firstE [rangeE 0 10000 [x.l], endsE (-100000) 100000 (x.lo, x.hi)]
set_option maxRecDepth 100000 in
set_option maxHeartbeats 1000000 in
theorem sectionError_any (i : Int) (x : Se) (w : World) :
    Calls Tryz.prog 47 #[.int .i64 i, .agg #[.int .i64 x.l, .int .i64 x.lo, .int .i64 x.hi]] w fun e w' => e = .returned (.int .i64 (sectE x)) ∧ Ext w w' := by
  have HE := Lib.hid (show sectE x = firstE [rangeE 0 10000 [x.l], endsE (-100000) 100000 (x.lo, x.hi)] from rfl)
  obtain ⟨W0, hW0⟩ : ∃ W0, W0 = w.alloc (.cells #[.int .i64 x.l, .int .i64 x.lo, .int .i64 x.hi] 65) := ⟨_, rfl⟩
  have k0 : Blk W0 w.heap.size 65 #[.int .i64 x.l, .int .i64 x.lo, .int .i64 x.hi] := by rw [hW0]; exact Blk.new _ _ _
  have E0 := Lib.hid (show Ext w W0 by rw [hW0]; exact Ext.alloc _ _)
  have y0 : W0.cell? ⟨w.heap.size, 0, none⟩ = some (.int .i64 x.l) := k0.cell 0
  have y1 : W0.cell? ⟨w.heap.size, 1, none⟩ = some (.int .i64 x.lo) := k0.cell 1
  have y2 : W0.cell? ⟨w.heap.size, 2, none⟩ = some (.int .i64 x.hi) := k0.cell 2
  clear k0
  go_enter Tryz.func47, Tryz.ntmps47
  go_wp2
  rw [← hW0]
  clear hW0
  go_wp2
  refine wp_region_each [some 5, some 6, some 7, some 8, some 9, some 10, some 11, some 12, some 13, some 4] [[3], [5], [6], [7], [3], [9], [10], [8, 11], [12], [13]]
    [Is (.pointer (some ⟨w.heap.size, 0, none⟩)), Is (.int .i64 (x.l)), Ints [x.l], Is (.int .i64 (rangeE (0) (10000) [x.l])), Is (.pointer (some ⟨w.heap.size, 1, none⟩)), Is (.agg #[.int .i64 (x.lo), .int .i64 (x.hi)]), Is (.int .i64 (endsE (-100000) 100000 (x.lo, x.hi))), Ints [rangeE (0) (10000) [x.l], endsE (-100000) 100000 (x.lo, x.hi)], Is (.int .i64 (firstE [rangeE (0) (10000) [x.l], endsE (-100000) 100000 (x.lo, x.hi)])), Is (.int .i64 (firstE [rangeE (0) (10000) [x.l], endsE (-100000) 100000 (x.lo, x.hi)]))]
    (by kernel_rfl) (by kernel_rfl) (by kernel_rfl) (by kernel_rfl) (by kernel_rfl) Ext (fun W => Ext W0 W)
    (fun W _ => Ext.refl W) (fun W W' h k => h.trans k) ?_ (Ext.drew _) ?_ ?_
  · repeat (refine ⟨fun _ _ _ _ k h => (by first | exact h | exact (IntsAt.ext h k)), ?_⟩)
    exact trivial
  · refine ⟨?_, ?_, ?_, ?_, ?_, ?_, ?_, ?_, ?_, ?_, trivial⟩
    all_goals intro ρ W ⟨kc, kg, kf⟩ hF hs
    · obtain ⟨h0, -⟩ := hs
      replace h0 : ρ (.tmp 3) = .pointer (some ⟨w.heap.size, 0, none⟩) := h0
      go_simp
      exact ⟨Ext.refl _, rfl⟩
    · obtain ⟨h0, -⟩ := hs
      replace h0 : ρ (.tmp 5) = .pointer (some ⟨w.heap.size, 0, none⟩) := h0
      have hc0 : W.cell? ⟨w.heap.size, 0, none⟩ = some (.int .i64 (x.l)) := hF.cell (by assumption)
      go_simp
      exact ⟨Ext.refl _, rfl⟩
    · obtain ⟨h0, -⟩ := hs
      replace h0 : ρ (.tmp 6) = .int .i64 (x.l) := h0
      go_simp
      exact ⟨Ext.alloc _ _, ints_new _ [x.l] _ (by simp)⟩
    · obtain ⟨h0, -⟩ := hs
      replace h0 : (Ints [x.l]) (ρ (.tmp 7)) W := h0
      go_simp
      refine (rangeError_any _ _ _ _ _ h0).mono ?_; rintro e w' ⟨rfl, hx⟩; exact ⟨_, rfl, hx, rfl⟩
    · obtain ⟨h0, -⟩ := hs
      replace h0 : ρ (.tmp 3) = .pointer (some ⟨w.heap.size, 0, none⟩) := h0
      go_simp
      exact ⟨Ext.refl _, rfl⟩
    · obtain ⟨h0, -⟩ := hs
      replace h0 : ρ (.tmp 9) = .pointer (some ⟨w.heap.size, 1, none⟩) := h0
      have hc0 : W.cell? ⟨w.heap.size, 1, none⟩ = some (.int .i64 (x.lo)) := hF.cell (by assumption)
      have hc1 : W.cell? ⟨w.heap.size, 2, none⟩ = some (.int .i64 (x.hi)) := hF.cell (by assumption)
      go_simp
      exact ⟨Ext.refl _, rfl⟩
    · obtain ⟨h0, -⟩ := hs
      replace h0 : ρ (.tmp 10) = .agg #[.int .i64 (x.lo), .int .i64 (x.hi)] := h0
      go_simp
      refine (endsError_any _ _ (x.lo, x.hi) _).mono ?_; rintro e w' ⟨rfl, hx⟩; exact ⟨_, rfl, hx, rfl⟩
    · obtain ⟨h0, h1, -⟩ := hs
      replace h0 : ρ (.tmp 8) = .int .i64 (rangeE (0) (10000) [x.l]) := h0
      replace h1 : ρ (.tmp 11) = .int .i64 (endsE (-100000) 100000 (x.lo, x.hi)) := h1
      go_simp
      exact ⟨Ext.alloc _ _, ints_new _ [rangeE (0) (10000) [x.l], endsE (-100000) 100000 (x.lo, x.hi)] _ (by simp)⟩
    · obtain ⟨h0, -⟩ := hs
      replace h0 : (Ints [rangeE (0) (10000) [x.l], endsE (-100000) 100000 (x.lo, x.hi)]) (ρ (.tmp 12)) W := h0
      go_simp
      refine (firstOf_any _ _ _ h0).mono ?_; rintro e w' ⟨rfl, rfl⟩; exact ⟨_, rfl, Ext.refl _, rfl⟩
    · obtain ⟨h0, -⟩ := hs
      replace h0 : ρ (.tmp 13) = .int .i64 (firstE [rangeE (0) (10000) [x.l], endsE (-100000) 100000 (x.lo, x.hi)]) := h0
      go_simp
      exact ⟨Ext.refl _, rfl⟩
  · intro fv W hF hs
    obtain ⟨-, -, -, -, -, -, -, -, -, h4, -⟩ := hs
    replace h4 : fv 4 = .int .i64 (firstE [rangeE (0) (10000) [x.l], endsE (-100000) 100000 (x.lo, x.hi)]) := h4
    simp only [fin, List.filterMap]
    go_simp
    go_wp2
    go_ret
    exact ⟨ret_int HE.out.symm, E0.out.trans hF⟩
theorem sectE_ok {x : Se} (h : sectE x = 0) : 0 ≤ x.l ∧ x.l ≤ 10000 ∧ -100000 ≤ x.lo ∧ x.lo ≤ x.hi ∧ x.hi ≤ 100000 := by
  have h1 := firstE_zero h
  have a := rangeE_zeros (h1 (rangeE 0 10000 [x.l]) (by simp)) x.l (by simp)
  have b := h1 (endsE (-100000) 100000 (x.lo, x.hi)) (by simp)
  unfold endsE at b
  have c := rangeE_zeros (firstE_zero b (rangeE (-100000) 100000 [x.lo, x.hi]) (by simp))
  have d := errIf_zero (by decide) (firstE_zero b (errIf (decide (x.hi < x.lo)) 9) (by simp))
  have c1 := c x.lo (by simp)
  have c2 := c x.hi (by simp)
  have d2 := of_decide_eq_false d
  omega
def growS (xs : List Se) : Nat → Rg
  | 0 => (0, 0)
  | k + 1 => ((growS xs k).1 + (xs.getD k default).l * (xs.getD k default).lo, (growS xs k).2 + (xs.getD k default).l * (xs.getD k default).hi)
theorem growS_bd {xs : List Se} (h : ∀ i, i < xs.length → sectE (xs.getD i default) = 0) : ∀ k, k ≤ xs.length → (-1000000000 * (k : Int) ≤ (growS xs k).1 ∧ (growS xs k).1 ≤ 1000000000 * k) ∧ (-1000000000 * (k : Int) ≤ (growS xs k).2 ∧ (growS xs k).2 ≤ 1000000000 * k)
  | 0, _ => by simp [growS]
  | k + 1, hk => by
    have ih := growS_bd h k (by omega)
    have ho := sectE_ok (h k (by omega))
    have m1 := mul_bd (a := (xs.getD k default).l) (b := (xs.getD k default).lo) (A := 10000) (B := 100000) (by omega) (by omega)
    have m2 := mul_bd (a := (xs.getD k default).l) (b := (xs.getD k default).hi) (A := 10000) (B := 100000) (by omega) (by omega)
    rw [growS]
    dsimp only
    generalize (growS xs k).1 = d1 at *
    generalize (growS xs k).2 = d2 at *
    generalize (xs.getD k default).l * (xs.getD k default).lo = e1 at *
    generalize (xs.getD k default).l * (xs.getD k default).hi = e2 at *
    omega
def sectAt (xs : List Se) (i : Nat) : Int := sectE (xs.getD i default)
def sectsE (xs : List Se) : Int := if 20 < xs.length then 8 else (firstAt (sectAt xs) xs.length 0).2
def growV (xs : List Se) : Rg := if sectsE xs = 0 then growS xs xs.length else (0, 0)
set_option maxRecDepth 100000 in
set_option maxHeartbeats 1000000 in
theorem growthOf_any {A : Option Addr} {n ca : Nat} {xs : List Se} {w : World} (hn : xs.length = n) (hA : RowsAt 3 Se.enc w A xs) :
    Calls Tryz.prog 22 #[.slice A n ca] w fun e w' => e = .returned (.tuple #[.agg #[.int .i64 (growV xs).1, .int .i64 (growV xs).2], .int .i64 (sectsE xs)]) ∧ Ext w w' := by
  have HFE := Lib.hid (fun W (e : Ext w W) => firstError100_101 (ca := ca) (cp := #[]) (E := sectAt xs) hn (hA.ext e) (fun i x W2 hx _ => by
    have := sectionError_any (i : Int) x W2
    have hd : xs.getD i default = x := by simp [hx]
    unfold sectAt
    rw [hd]
    exact this))
  have HS := Lib.hid (show sectsE xs = if 20 < n then 8 else (firstAt (sectAt xs) n 0).2 by rw [← hn]; rfl)
  have HV := Lib.hid (show growV xs = if sectsE xs = 0 then growS xs n else (0, 0) by rw [← hn]; rfl)
  have HO := Lib.hid (fun (h : (firstAt (sectAt xs) n 0).2 = 0) => (⟨fun i hi => sectE_ok (firstAt_zero h i (by omega) (by omega)), fun k hk => growS_bd (fun i hi => firstAt_zero h i (by omega) (by omega)) k (by omega)⟩ : (∀ i, i < n → 0 ≤ (xs.getD i default).l ∧ (xs.getD i default).l ≤ 10000 ∧ -100000 ≤ (xs.getD i default).lo ∧ (xs.getD i default).lo ≤ (xs.getD i default).hi ∧ (xs.getD i default).hi ≤ 100000) ∧ ∀ k, k ≤ n → (-1000000000 * (k : Int) ≤ (growS xs k).1 ∧ (growS xs k).1 ≤ 1000000000 * k) ∧ (-1000000000 * (k : Int) ≤ (growS xs k).2 ∧ (growS xs k).2 ≤ 1000000000 * k)))
  have HA := Lib.hid hA
  have HN := Lib.hid hn
  have hnb : n ≤ 1152921504606846976 := by have := hA.1; omega
  generalize firstAt (sectAt xs) n 0 = fa at *
  generalize growV xs = gv at *
  generalize sectsE xs = sv at *
  clear hn hA
  obtain ⟨W0, hW0⟩ : ∃ W0, W0 = w.alloc (.cells #[.int .i64 0, .int .i64 0] 49) := ⟨_, rfl⟩
  have K0 := Lib.hid (show Blk W0 (w.heap.size) 49 #[.int .i64 0, .int .i64 0] by rw [hW0]; exact Blk.new _ _ _)
  have E0 := Lib.hid (show Ext w W0 by rw [hW0]; exact Ext.alloc _ _)
  have y0_0 : W0.cell? ⟨w.heap.size, 0, none⟩ = some (.int .i64 0) := K0.out.cell 0
  have y0_1 : W0.cell? ⟨w.heap.size, 1, none⟩ = some (.int .i64 0) := K0.out.cell 1
  by_cases h20 : 20 < n
  · have hd : decide ((20 : Int) < (n : Int)) = true := by simp; omega
    have HS2 := Lib.hid (show sv = 8 by rw [HS.out, if_pos h20])
    have HV2 := Lib.hid (show gv = (0, 0) by rw [HV.out, if_neg (by rw [HS2.out]; decide)])
    have f0 := K0.out.free 0
    have f1 := K0.out.free 1
    go_enter Tryz.func22, Tryz.ntmps22
    go_upto_region 1 with (fail)
    rw [← hW0]
    clear hW0 h20
    go_wp2
    exact bodyPost_ret (v := .tuple #[.agg #[.int .i64 0, .int .i64 0], .int .i64 8]) (by simp [results, Tryz.f22, go_sem, y0_0, y0_1]) rfl ⟨by rw [HV2.out, HS2.out], Ext.set (Ext.set E0.out (by dsimp only; omega) _) (by dsimp only; omega) _⟩
  · have hd : decide ((20 : Int) < (n : Int)) = false := by simp; omega
    have HS2 := Lib.hid (show sv = fa.2 by rw [HS.out, if_neg h20])
    have hn20 : n ≤ 20 := by omega
    clear h20
    go_enter Tryz.func22, Tryz.ntmps22
    go_upto_region 1 with (fail)
    rw [← hW0]
    clear hW0
    go_wp2_with (go_at_call 46; refine (HFE.out _ E0.out).mono ?_; rintro e W1 ⟨rfl, hx⟩; have X1 := Lib.hid (E0.out.trans hx); replace K0 := Lib.hid (K0.out.ext hx); clear hx y0_0 y0_1; refine Hid.out ?_)
    refine Lib.hid ?_
    clear E0 HFE
    obtain ⟨fa1, fa2⟩ := fa
    dsimp only at *
    by_cases hz : fa2 = 0
    · have hz2 : (fa2 != 0) = false := by simp [hz]
      obtain ⟨ho, hb⟩ := HO.out hz
      have HO1 := Lib.hid ho
      have HB := Lib.hid hb
      have HS3 := Lib.hid (show sv = 0 by rw [HS2.out, hz])
      have HV2 := Lib.hid (show gv = growS xs n by rw [HV.out, if_pos HS3.out])
      clear ho hb HO HS HS2 HV hz
      obtain ⟨q6, hq⟩ : ∃ q, q = W1.heap.size := ⟨_, rfl⟩
      obtain ⟨W2, hW2⟩ : ∃ W, W = W1.alloc (.cells #[.int .i64 0, .int .i64 0] 49) := ⟨_, rfl⟩
      have E2 := Lib.hid (show Ext W1 W2 by rw [hW2]; exact Ext.alloc _ _)
      have K6 := Lib.hid (show Blk W2 q6 49 #[.int .i64 0, .int .i64 0] by rw [hW2, hq]; exact Blk.new _ _ _)
      have N6 := Lib.hid (show w.heap.size < q6 by have := K0.out.lt; omega)
      go_upto_region 7 with (fail)
      rw [← hW2, ← hq]
      replace K0 := Lib.hid (K0.out.ext E2.out)
      replace X1 := Lib.hid (X1.out.trans E2.out)
      clear hW2 hq E2
      go_wp2
      go_loopw [24] (fun i wr => ∃ k : Nat, k ≤ n ∧ i = .int .i64 k ∧ Ext w wr ∧ Blk wr w.heap.size 49 #[.int .i64 0, .int .i64 0] ∧ Blk wr q6 49 #[.int .i64 (growS xs k).1, .int .i64 (growS xs k).2]) (fun i _ => n - (intOf i).toNat)
      case atStart => exact ⟨0, Nat.zero_le _, rfl, X1.out, K0.out, K6.out⟩
      case round =>
        clear X1 K0 K6
        obtain ⟨k, hk, rfl, hx, k0, k6⟩ := hrel
        have X := Lib.hid hx
        have K0 := Lib.hid k0
        have K6 := Lib.hid k6
        clear hx k0 k6
        by_cases hlt : k < n
        · obtain ⟨x, hx⟩ : ∃ x, xs[k]? = some x := ⟨_, List.getElem?_eq_getElem (by rw [HN.out]; exact hlt)⟩
          obtain ⟨b, o, rfl, hb, hc⟩ := row_at (HA.out.ext X.out) hx
          have p0 := hc 0 _ rfl
          have p1 := hc 1 _ rfl
          have p2 := hc 2 _ rfl
          simp only [Nat.add_zero] at p0
          have hd : xs.getD k default = x := by simp [hx]
          have ho := HO1.out k hlt
          have hb := HB.out k hk
          have HS := Lib.hid (show growS xs (k + 1) = ((growS xs k).1 + x.l * x.lo, (growS xs k).2 + x.l * x.hi) by rw [growS, hd])
          rw [hd] at ho
          have m1 := mul_bd (a := x.l) (b := x.lo) (A := 10000) (B := 100000) (by omega) (by omega)
          have m2 := mul_bd (a := x.l) (b := x.hi) (A := 10000) (B := 100000) (by omega) (by omega)
          clear hd hc hx
          generalize growS xs k = d at *
          have hki : (k : Int) < (n : Int) := by omega
          have hk20 : (k : Int) ≤ 20 := by omega
          have B1 : -9000000000000000000 ≤ d.1 + x.l * x.lo ∧ d.1 + x.l * x.lo ≤ 9000000000000000000 := by omega
          have B2 : -9000000000000000000 ≤ d.2 + x.l * x.hi ∧ d.2 + x.l * x.hi ≤ 9000000000000000000 := by omega
          clear hb
          obtain ⟨q, hq⟩ : ∃ q, q = wr.heap.size := ⟨_, rfl⟩
          obtain ⟨W3, hW3⟩ : ∃ W, W = wr.alloc (.cells #[.int .i64 x.l, .int .i64 x.lo, .int .i64 x.hi] 65) := ⟨_, rfl⟩
          have E3 := Lib.hid (show Ext wr W3 by rw [hW3]; exact Ext.alloc _ _)
          have KQ := Lib.hid (show Blk W3 q 65 #[.int .i64 x.l, .int .i64 x.lo, .int .i64 x.hi] by rw [hW3, hq]; exact Blk.new _ _ _)
          have NQ := Lib.hid (show q ≠ q6 by have := K6.out.lt; omega)
          go_upto_region 10 with (fail)
          rw [← hW3, ← hq]
          clear p0 p1 p2
          replace X := Lib.hid (X.out.trans E3.out)
          replace K0 := Lib.hid (K0.out.ext E3.out)
          replace K6 := Lib.hid (K6.out.ext E3.out)
          clear hW3 E3 hq
          have s0 : W3.cell? ⟨q6, 0, none⟩ = some (.int .i64 d.1) := K6.out.cell 0
          have s1 : W3.cell? ⟨q6, 1, none⟩ = some (.int .i64 d.2) := K6.out.cell 1
          have f0 := K6.out.free 0
          have f1 := K6.out.free 1
          have q0 : W3.cell? ⟨q, 0, none⟩ = some (.int .i64 x.l) := KQ.out.cell 0
          have q1 : W3.cell? ⟨q, 1, none⟩ = some (.int .i64 x.lo) := KQ.out.cell 1
          have q2 : W3.cell? ⟨q, 2, none⟩ = some (.int .i64 x.hi) := KQ.out.cell 2
          have n1 : ¬ (q = q6) := NQ.out
          have n2 : ¬ (q6 = q) := fun h => NQ.out h.symm
          have hsz : w.heap.size ≤ q6 := by have := N6.out; omega
          have hsz2 : w.heap.size ≠ q6 := by have := N6.out; omega
          have HSZ := Lib.hid hsz2
          clear hsz2
          go_wp2
          go_roundw
          case rel => exact ⟨k + 1, by omega, by go_num, Ext.set (Ext.set X.out hsz _) hsz _, (K0.out.setOther HSZ.out _).setOther HSZ.out _, by rw [HS.out]; exact (K6.out.setSame 0 _).setSame 1 _⟩
          case measure => simp [intOf]; omega
        · obtain rfl : k = n := by omega
          have hkn : ¬ (k : Int) < (k : Int) := by omega
          generalize growS xs k = d at *
          have s0 : wr.cell? ⟨q6, 0, none⟩ = some (.int .i64 d.1) := K6.out.cell 0
          have s1 : wr.cell? ⟨q6, 1, none⟩ = some (.int .i64 d.2) := K6.out.cell 1
          have f0 := K0.out.free 0
          have f1 := K0.out.free 1
          have u0 : wr.cell? ⟨w.heap.size, 0, none⟩ = some (.int .i64 0) := K0.out.cell 0
          have u1 : wr.cell? ⟨w.heap.size, 1, none⟩ = some (.int .i64 0) := K0.out.cell 1
          go_wp2
          exact bodyPost_ret (v := .tuple #[.agg #[.int .i64 d.1, .int .i64 d.2], .int .i64 0]) (by simp [results, Tryz.f22, go_sem, u0, u1]) rfl ⟨by rw [HV2.out, HS3.out], Ext.set (Ext.set X.out (by dsimp only; omega) _) (by dsimp only; omega) _⟩
    · have hz2 : (fa2 != 0) = true := by simp [hz]
      have HV2 := Lib.hid (show gv = (0, 0) by rw [HV.out, if_neg (by rw [HS2.out]; exact hz)])
      clear HO HS HV hz
      have f0 := K0.out.free 0
      have f1 := K0.out.free 1
      have u0 : W1.cell? ⟨w.heap.size, 0, none⟩ = some (.int .i64 0) := K0.out.cell 0
      have u1 : W1.cell? ⟨w.heap.size, 1, none⟩ = some (.int .i64 0) := K0.out.cell 1
      go_wp2
      exact bodyPost_ret (v := .tuple #[.agg #[.int .i64 0, .int .i64 0], .int .i64 fa2]) (by simp [results, Tryz.f22, go_sem, u0, u1]) rfl ⟨by rw [HV2.out, HS2.out], Ext.set (Ext.set X1.out (by dsimp only; omega) _) (by dsimp only; omega) _⟩

end Go.Proofs.YtjdilmmpdlcimaaGreat
