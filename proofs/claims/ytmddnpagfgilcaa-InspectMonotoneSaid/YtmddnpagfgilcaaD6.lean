/- InspectMonotone. -/
import Derived.Test.YtmddnpagfgilcaaG6
import Derived.Test.YtmddnpagfgilcaaR6
import Derived.Test.YtmddnpagfgilcaaR7
import Derived.Lib.MinMax

namespace Go.Proofs.Ytmddnpagfgilcaa
open Go.RowKit Go.Shelf Go.Mem Go.RegInv
attribute [local go_sem] RelUpon_value RelUpon_skip RelUpon_enter BigFrame.eval_const BigFrame.eval_global BigFrame.eval_func


def TabC (n : Nat) (xs : List Kn) : Value → World → Prop := fun u W => ∃ A' c', u = .agg #[.slice A' n c'] ∧ RowsAt 3 Kn.enc W A' xs
theorem TabC.ext {n : Nat} {xs : List Kn} {u : Value} {W W' : World} (h : TabC n xs u W) (k : Ext W W') : TabC n xs u W' := by
  obtain ⟨A', c', e, hr⟩ := h
  exact ⟨A', c', e, hr.ext k⟩
theorem conv_call {n : Nat} {xs : List Kn} (hn : xs.length = n) (hz : (checkX xs).2 = 0) {a b : Int} (he : endsE a b = 0) (ha : InT xs a) (hb : InT xs b) (W : World) (A : Option Addr) (c : Nat) (hr : RowsAt 3 Kn.enc W A xs) :
    Calls Try.prog 36 #[.agg #[.slice A n c], .agg #[.int .i64 a, .int .i64 b]] W fun e w' => e = .returned (.tuple #[.agg #[.int .i64 (convV xs a b).1, .int .i64 (convV xs a b).2], .int .i64 0]) ∧ Ext W w' :=
  convertedOf_ok a b hn hr (by unfold convE; rw [hz, he]; rfl) (by
    unfold missE
    rw [rangeE_ok (fun v hv => by
      subst hn
      simp only [List.mem_cons, List.not_mem_nil, or_false] at hv
      rcases hv with rfl | rfl
      · exact ha
      · exact hb)]
    rfl)
set_option maxRecDepth 100000 in
set_option maxHeartbeats 8000000 in
theorem monotone_bad {A : Option Addr} {n ca : Nat} {w : World} (a0 b0 a1 b1 kk z : Int) (hz : z ≠ 0)
    (HT : ∀ W, Ext w W → Calls Try.prog 41 #[.agg #[.slice A n ca]] W fun e w' => e = .returned (.int .i64 z) ∧ Ext W w') : Calls Try.prog 6 #[.agg #[.slice A n ca], .agg #[.int .i64 a0, .int .i64 b0, .int .i64 a1, .int .i64 b1], .int .i64 kk] w fun e w' => e = .returned (.bool true) ∧ Ext w w' := by
  have HT := Lib.hid HT
  have hz2 : (z != 0) = true := by simp [hz]
  clear hz
  go_enter Try.func6, Try.ntmps6
  go_wp2_with (go_at_call 13; refine (awake_any _).mono ?_; rintro e W1 ⟨rfl, hx⟩; have X1 := Lib.hid (((Ext.alloc _ _).trans (Ext.alloc _ _)).trans hx); have P := Lib.hid (((Blk.new w 64 #[.slice A n ca]).alloc _).ext hx); clear hx; refine Hid.out ?_)
  refine Lib.hid ?_
  have y0 : W1.cell? ⟨w.heap.size, 0, none⟩ = some (.slice A n ca) := P.out.cell 0
  go_wp2_with (go_at_call 41; refine (HT.out _ X1.out).mono ?_; rintro e W2 ⟨rfl, hx⟩; have X2 := Lib.hid (X1.out.trans hx); clear hx y0)
  go_ret
  exact ⟨rfl, X2.out⟩

def OKr (xs : List Kn) (a b : Int) : Prop := endsE a b = 0 ∧ InT xs a ∧ InT xs b
theorem inT_of {xs : List Kn} {n : Nat} {v : Int} (hn : xs.length = n) (h : withinB v (xs.getD 0 default).f (xs.getD (n - 1) default).f = true) : InT xs v := by
  rw [withinB_eq] at h
  have := of_decide_eq_true h
  subst hn
  exact this

theorem ends_zero {a b : Int} (h : endsE a b = 0) : 0 ≤ a ∧ a ≤ 10000 ∧ 0 ≤ b ∧ b ≤ 10000 ∧ a ≤ b := by
  rw [endsE_eq, withinB_eq, withinB_eq] at h
  by_cases h1 : 0 ≤ a ∧ a ≤ 10000
  · by_cases h2 : 0 ≤ b ∧ b ≤ 10000
    · by_cases h3 : b < a
      · simp [h1, h2, h3] at h
      · omega
    · simp [h1, h2] at h
  · simp [h1] at h
theorem ends_ok {a b : Int} (h1 : 0 ≤ a ∧ a ≤ 10000) (h2 : 0 ≤ b ∧ b ≤ 10000) (h3 : a ≤ b) : endsE a b = 0 := by
  have : ¬ b < a := by omega
  rw [endsE_eq, withinB_eq, withinB_eq]
  simp [h1, h2, this]
theorem wide_ok {xs : List Kn} (hz : (checkX xs).2 = 0) {a0 b0 a1 b1 : Int} (h0 : OKr xs a0 b0) (h1 : OKr xs a1 b1) :
    OKr xs (min a0 a1) (max b0 b1) ∧ (convV xs a0 b0).1 ≤ (convV xs a0 b0).2 ∧ (convV xs a1 b1).1 ≤ (convV xs a1 b1).2 ∧
    (convV xs (min a0 a1) (max b0 b1)).1 = min (convV xs a0 b0).1 (convV xs a1 b1).1 ∧ (convV xs (min a0 a1) (max b0 b1)).2 = max (convV xs a0 b0).2 (convV xs a1 b1).2 ∧
    (a0 ≤ a1 → (convV xs a0 b0).1 ≤ (convV xs a1 b1).1) := by
  obtain ⟨e0, u0, v0⟩ := h0
  obtain ⟨e1, u1, v1⟩ := h1
  have z0 := ends_zero e0
  have z1 := ends_zero e1
  refine ⟨⟨ends_ok (by omega) (by omega) (by omega), ?_, ?_⟩, conv_le hz u0 v0 (by omega), conv_le hz u1 v1 (by omega), ?_, ?_, fun h => conv_mono_lo hz _ _ u0 u1 h⟩
  · unfold InT at *; omega
  · unfold InT at *; omega
  · rcases Int.le_total a0 a1 with h | h
    · rw [Int.min_eq_left h]
      have := conv_mono_lo hz b0 b1 u0 u1 h
      have x1 := conv_mono_lo hz (max b0 b1) b0 u0 u0 (Int.le_refl _)
      have x2 := conv_mono_lo hz b0 (max b0 b1) u0 u0 (Int.le_refl _)
      omega
    · rw [Int.min_eq_right h]
      have := conv_mono_lo hz b1 b0 u1 u0 h
      have x1 := conv_mono_lo hz (max b0 b1) b1 u1 u1 (Int.le_refl _)
      have x2 := conv_mono_lo hz b1 (max b0 b1) u1 u1 (Int.le_refl _)
      omega
  · rcases Int.le_total b0 b1 with h | h
    · rw [Int.max_eq_right h]
      have := conv_mono_hi hz a0 a1 v0 v1 h
      have x1 := conv_mono_hi hz (min a0 a1) a1 v1 v1 (Int.le_refl _)
      have x2 := conv_mono_hi hz a1 (min a0 a1) v1 v1 (Int.le_refl _)
      omega
    · rw [Int.max_eq_left h]
      have := conv_mono_hi hz a1 a0 v1 v0 h
      have x1 := conv_mono_hi hz (min a0 a1) a0 v0 v0 (Int.le_refl _)
      have x2 := conv_mono_hi hz a0 (min a0 a1) v0 v0 (Int.le_refl _)
      omega

set_option maxRecDepth 100000 in
set_option maxHeartbeats 8000000 in
theorem monotone_ok {b o : Nat} {n ca : Nat} {xs : List Kn} {w : World} (a0 b0 a1 b1 kk : Int) (hn : xs.length = n) (hr : RowsAt 3 Kn.enc w (some ⟨b, o, none⟩) xs) (hz : (checkX xs).2 = 0) : Calls Try.prog 6 #[.agg #[.slice (some ⟨b, o, none⟩) n ca], .agg #[.int .i64 a0, .int .i64 b0, .int .i64 a1, .int .i64 b1], .int .i64 kk] w fun e w' => e = .returned (.bool true) ∧ Ext w w' := by
  obtain ⟨m2, m12, hok, hasc⟩ := checkX_ok hz
  rw [hn] at m2 m12
  have HTE := Lib.hid (fun W (e : Ext w W) => show Calls Try.prog 41 #[.agg #[.slice (some ⟨b, o, none⟩) n ca]] W fun e w' => e = .returned (.int .i64 0) ∧ Ext W w' from by
    have := refTableErr_any (ca := ca) hn (by omega) (hr.ext e)
    rw [hz] at this
    exact this)
  obtain ⟨j, hj⟩ : ∃ j : Nat, (j : Int) = kk % (n : Int) := ⟨(kk % (n : Int)).toNat, Int.toNat_of_nonneg (Int.emod_nonneg _ (by omega))⟩
  have hjn : j < n := by have := Int.emod_lt_of_pos kk (show 0 < (n : Int) by omega); omega
  have HMO := Lib.hid (fun W => show Calls Try.prog 26 #[.int .i64 kk, .int .i64 (n : Int)] W fun e w' => e = .returned (.int .i64 (j : Int)) ∧ W = w' from by
    rw [hj]; exact mod_any kk n ⟨by omega, by omega⟩ W)
  clear hj
  have HCP := Lib.hid (fun W (e : Ext w W) => copyTable_any (ca := ca) hn (hr.ext e) (by omega) (fun h => by cases h))
  obtain ⟨x, hx0⟩ : ∃ x, x = xs.getD j default := ⟨_, rfl⟩
  have hxj : xs[j]? = some x := by rw [hx0]; exact getK (by omega)
  have hxk := hok j x hxj
  have HCK := Lib.hid (fun W A c (h : RowsAt 3 Kn.enc W A xs) => show Calls Try.prog 36 #[.agg #[.slice A n c], .agg #[.int .i64 x.f, .int .i64 x.f]] W fun e w' => e = .returned (.tuple #[.agg #[.int .i64 x.lo, .int .i64 x.hi], .int .i64 0]) ∧ Ext W w' from by
    have hin : InT xs x.f := by
      rw [hx0]
      refine ⟨?_, ?_⟩
      · rcases Nat.eq_zero_or_pos j with h | h
        · rw [h]; exact Int.le_refl _
        · exact Int.le_of_lt (asc_all hasc 0 j h (by omega))
      · rcases Nat.lt_or_ge j (xs.length - 1) with h | h
        · exact Int.le_of_lt (asc_all hasc j (xs.length - 1) h (by omega))
        · rw [show xs.length - 1 = j by omega]; exact Int.le_refl _
    have := conv_call hn hz (a := x.f) (b := x.f) (by
      rw [endsE_eq, withinB_eq, if_pos (by simp only [decide_eq_true_eq]; omega), if_pos (by simp only [decide_eq_true_eq]; omega), if_neg (by omega)]) hin hin W A c h
    have hk := conv_knot hz (k := j) (by omega)
    rw [← hx0] at hk
    rw [hk] at this
    exact this)
  obtain ⟨b', o', he, _, hc⟩ := row_at hr hxj
  obtain ⟨rfl, rfl⟩ : b = b' ∧ o = o' := by simpa using he
  have G0 := Lib.hid (show w.cell? ⟨b, o + j * 3, none⟩ = some (.int .i64 x.f) from hc 0 _ rfl)
  have G1 := Lib.hid (show w.cell? ⟨b, o + j * 3 + 1, none⟩ = some (.int .i64 x.lo) from hc 1 _ rfl)
  have G2 := Lib.hid (show w.cell? ⟨b, o + j * 3 + 2, none⟩ = some (.int .i64 x.hi) from hc 2 _ rfl)
  have HRA := Lib.hid (fun W => refRangeErr_any a0 b0 W)
  have HRB := Lib.hid (fun W => refRangeErr_any a1 b1 W)
  have HIN := Lib.hid (fun v W (e : Ext w W) => refIsIn_any (ca := ca) v hn (hr.ext e) (getK (i := 0) (by omega)) (getK (i := n - 1) (by omega)))
  have HCV := Lib.hid (fun a b (he : endsE a b = 0) (ha : InT xs a) (hb : InT xs b) => conv_call hn hz he ha hb)
  have HNX := Lib.hid hn
  have HWO := Lib.hid (fun h0 h1 => wide_ok (a0 := a0) (b0 := b0) (a1 := a1) (b1 := b1) hz h0 h1)
  have HX := Lib.hid hxk
  clear hx0 hxj hxk hok hasc hz hn hr hc he
  have P0 := Lib.hid (show Blk ((w.alloc (.cells #[.slice (some ⟨b, o, none⟩) n ca] 64)).alloc (.cells #[.int .i64 a0, .int .i64 b0, .int .i64 a1, .int .i64 b1] 75)) w.heap.size 64 #[.slice (some ⟨b, o, none⟩) n ca] from (Blk.new _ _ _).alloc _)
  have P1 := Lib.hid (show Blk ((w.alloc (.cells #[.slice (some ⟨b, o, none⟩) n ca] 64)).alloc (.cells #[.int .i64 a0, .int .i64 b0, .int .i64 a1, .int .i64 b1] 75)) (w.heap.size + 1) 75 #[.int .i64 a0, .int .i64 b0, .int .i64 a1, .int .i64 b1] from Blk.newAt _ _ _ (by simp))
  go_enter Try.func6, Try.ntmps6
  go_wp2_with (go_at_call 13; refine (awake_any _).mono ?_; rintro e W0 ⟨rfl, hx⟩; have X0 := Lib.hid (((Ext.alloc _ _).trans (Ext.alloc _ _)).trans hx); have K0 := Lib.hid (P0.out.ext hx); have K1 := Lib.hid (P1.out.ext hx); clear hx; refine Hid.out ?_)
  refine Lib.hid ?_
  have y0 : W0.cell? ⟨w.heap.size, 0, none⟩ = some (.slice (some ⟨b, o, none⟩) n ca) := K0.out.cell 0
  go_wp2_with (go_at_call 41; refine (HTE.out _ X0.out).mono ?_; rintro e W1 ⟨rfl, hx⟩; have X := Lib.hid (X0.out.trans hx); have K0 := Lib.hid (K0.out.ext hx); have K1 := Lib.hid (K1.out.ext hx); clear hx y0; refine Hid.out ?_)
  refine Lib.hid ?_
  have y0 : W1.cell? ⟨w.heap.size, 0, none⟩ = some (.slice (some ⟨b, o, none⟩) n ca) := K0.out.cell 0
  have y1 : W1.cell? ⟨w.heap.size + 1, 0, none⟩ = some (.int .i64 a0) := K1.out.cell 0
  have y2 : W1.cell? ⟨w.heap.size + 1, 1, none⟩ = some (.int .i64 b0) := K1.out.cell 1
  have y3 : W1.cell? ⟨w.heap.size + 1, 2, none⟩ = some (.int .i64 a1) := K1.out.cell 2
  have y4 : W1.cell? ⟨w.heap.size + 1, 3, none⟩ = some (.int .i64 b1) := K1.out.cell 3
  have t2 := X.out.cell G0.out
  have t3 := X.out.cell G1.out
  have t4 := X.out.cell G2.out
  have KZ := Lib.hid (show w.heap.size + 1 < W1.heap.size from K1.out.lt)
  have hjn2 : (j : Int) < (n : Int) := by omega
  go_wp2
  refine wp_region_part 10 [some 23, some 24, some 25, some 26, some 27, some 28, some 29, some 30, some 31, some 7] [[3], [23], [2], [3], [26], [27], [25, 28], [24, 29], [30], []]
    [Is (.pointer (some ⟨w.heap.size, 0, none⟩)), Is (.slice (some ⟨b, o, none⟩) n ca), Is (.int .i64 (kk)), Is (.pointer (some ⟨w.heap.size, 0, none⟩)), Is (.slice (some ⟨b, o, none⟩) n ca), Is (.int .i64 ((n : Int))), Is (.int .i64 ((j : Int))), Is (.pointer (some ⟨b, o + j * 3, none⟩)), Is (.agg #[.int .i64 (x.f), .int .i64 (x.lo), .int .i64 (x.hi)]), NewP W1.heap.size 78 #[.int .i64 0, .int .i64 0, .int .i64 0]]
    (by kernel_rfl) (by kernel_rfl) (by kernel_rfl) (by kernel_rfl) (by kernel_rfl) (by kernel_rfl) (by kernel_rfl) Ext (fun W => Ext W1 W)
    (fun W _ => Ext.refl W) (fun W W' h k => h.trans k) ?_ (Ext.drew _) ?_ ?_
  · repeat (refine ⟨fun _ _ _ _ k h => (by first | exact h | exact (by first | exact IntsAt.ext h k | exact NewP.ext h k | exact TabC.ext h k)), ?_⟩)
    exact trivial
  · refine ⟨?_, ?_, ?_, ?_, ?_, ?_, ?_, ?_, ?_, ?_, trivial⟩
    all_goals intro ρ W ⟨kc, kg, kf⟩ hF hs
    · obtain ⟨h0, -⟩ := hs
      replace h0 : ρ (.tmp 3) = .pointer (some ⟨w.heap.size, 0, none⟩) := h0
      go_simp
      exact ⟨Ext.refl _, rfl⟩
    · obtain ⟨h0, -⟩ := hs
      replace h0 : ρ (.tmp 23) = .pointer (some ⟨w.heap.size, 0, none⟩) := h0
      have hc0 : W.cell? ⟨w.heap.size, 0, none⟩ = some (.slice (some ⟨b, o, none⟩) n ca) := hF.cell (by assumption)
      go_simp
      exact ⟨Ext.refl _, rfl⟩
    · obtain ⟨h0, -⟩ := hs
      replace h0 : ρ (.tmp 2) = .int .i64 (kk) := h0
      go_simp
      exact ⟨Ext.refl _, rfl⟩
    · obtain ⟨h0, -⟩ := hs
      replace h0 : ρ (.tmp 3) = .pointer (some ⟨w.heap.size, 0, none⟩) := h0
      go_simp
      exact ⟨Ext.refl _, rfl⟩
    · obtain ⟨h0, -⟩ := hs
      replace h0 : ρ (.tmp 26) = .pointer (some ⟨w.heap.size, 0, none⟩) := h0
      have hc0 : W.cell? ⟨w.heap.size, 0, none⟩ = some (.slice (some ⟨b, o, none⟩) n ca) := hF.cell (by assumption)
      go_simp
      exact ⟨Ext.refl _, rfl⟩
    · obtain ⟨h0, -⟩ := hs
      replace h0 : ρ (.tmp 27) = .slice (some ⟨b, o, none⟩) n ca := h0
      go_simp
      exact ⟨Ext.refl _, rfl⟩
    · obtain ⟨h0, h1, -⟩ := hs
      replace h0 : ρ (.tmp 25) = .int .i64 (kk) := h0
      replace h1 : ρ (.tmp 28) = .int .i64 ((n : Int)) := h1
      go_simp
      refine (HMO.out _).mono ?_; rintro e w' ⟨rfl, rfl⟩; exact ⟨_, rfl, Ext.refl _, rfl⟩
    · obtain ⟨h0, h1, -⟩ := hs
      replace h0 : ρ (.tmp 24) = .slice (some ⟨b, o, none⟩) n ca := h0
      replace h1 : ρ (.tmp 29) = .int .i64 ((j : Int)) := h1
      have hb1 : (j : Int) < (n : Int) := by omega
      have hb4 : ((j : Int)).toNat = j := by omega
      have hb3 : (0 : Int) ≤ (j : Int) := by omega
      go_simp
      exact ⟨Ext.refl _, rfl⟩
    · obtain ⟨h0, -⟩ := hs
      replace h0 : ρ (.tmp 30) = .pointer (some ⟨b, o + j * 3, none⟩) := h0
      have hc0 : W.cell? ⟨b, o + j * 3, none⟩ = some (.int .i64 (x.f)) := hF.cell (by assumption)
      have hc1 : W.cell? ⟨b, o + j * 3 + 1, none⟩ = some (.int .i64 (x.lo)) := hF.cell (by assumption)
      have hc2 : W.cell? ⟨b, o + j * 3 + 2, none⟩ = some (.int .i64 (x.hi)) := hF.cell (by assumption)
      go_simp
      exact ⟨Ext.refl _, rfl⟩
    · go_simp
      exact ⟨Ext.alloc _ _, _, rfl, hF.size, Blk.new _ _ _⟩
  · intro fv W hF hs
    obtain ⟨-, -, -, -, -, -, -, -, h31, h7, -⟩ := hs
    replace h31 : fv 31 = .agg #[.int .i64 (x.f), .int .i64 (x.lo), .int .i64 (x.hi)] := h31
    replace h7 : (NewP W1.heap.size 78 #[.int .i64 0, .int .i64 0, .int .i64 0]) (fv 7) W := h7
    simp only [fin, List.filterMap]
    go_simp
    obtain ⟨q7, hq, hqs, hbq⟩ := h7
    rw [hq]
    have L7 := Lib.hid (show W1.heap.size ≤ q7 from hqs)
    have X := Lib.hid (X.out.trans hF)
    have K0 := Lib.hid (K0.out.ext hF)
    have K1 := Lib.hid (K1.out.ext hF)
    have f0 := hbq.free 0
    have f1 := hbq.free 1
    have f2 := hbq.free 2
    have c0 : W.cell? ⟨q7, 0, none⟩ = some (.int .i64 0) := hbq.cell 0
    have c1 : W.cell? ⟨q7, 1, none⟩ = some (.int .i64 0) := hbq.cell 1
    have c2 : W.cell? ⟨q7, 2, none⟩ = some (.int .i64 0) := hbq.cell 2
    have HB := Lib.hid hbq
    have SZ1 := Lib.hid (show w.heap.size + 1 < W1.heap.size from KZ.out)
    clear hq hqs hbq hF y0 y1 y2 y3 y4 t2 t3 t4 KZ
    go_wp2
    obtain ⟨W2, hW2⟩ : ∃ W2, W2 = ((W.setCell ⟨q7, 0, none⟩ (.int .i64 x.f)).setCell ⟨q7, 1, none⟩ (.int .i64 x.lo)).setCell ⟨q7, 2, none⟩ (.int .i64 x.hi) := ⟨_, rfl⟩
    rw [← hW2]
    have K7 := Lib.hid (show Blk W2 q7 78 #[.int .i64 x.f, .int .i64 x.lo, .int .i64 x.hi] by rw [hW2]; exact ((HB.out.setSame 0 _).setSame 1 _).setSame 2 _)
    have K0 := Lib.hid (show Blk W2 w.heap.size 64 #[.slice (some ⟨b, o, none⟩) n ca] by rw [hW2]; exact ((K0.out.setOther (by dsimp only; have := L7.out; have := SZ1.out; omega) _).setOther (by dsimp only; have := L7.out; have := SZ1.out; omega) _).setOther (by dsimp only; have := L7.out; have := SZ1.out; omega) _)
    have K1 := Lib.hid (show Blk W2 (w.heap.size + 1) 75 #[.int .i64 a0, .int .i64 b0, .int .i64 a1, .int .i64 b1] by rw [hW2]; exact ((K1.out.setOther (by dsimp only; have := L7.out; have := SZ1.out; omega) _).setOther (by dsimp only; have := L7.out; have := SZ1.out; omega) _).setOther (by dsimp only; have := L7.out; have := SZ1.out; omega) _)
    have X := Lib.hid (show Ext w W2 by rw [hW2]; exact Ext.set (Ext.set (Ext.set X.out (by dsimp only; have := L7.out; have := SZ1.out; omega) _) (by dsimp only; have := L7.out; have := SZ1.out; omega) _) (by dsimp only; have := L7.out; have := SZ1.out; omega) _)
    clear hW2 HB
    clear f0 f1 f2 c0 c1 c2
    have y0 : W2.cell? ⟨w.heap.size, 0, none⟩ = some (.slice (some ⟨b, o, none⟩) n ca) := K0.out.cell 0
    have y1 : W2.cell? ⟨w.heap.size + 1, 0, none⟩ = some (.int .i64 a0) := K1.out.cell 0
    have y2 : W2.cell? ⟨w.heap.size + 1, 1, none⟩ = some (.int .i64 b0) := K1.out.cell 1
    have y3 : W2.cell? ⟨w.heap.size + 1, 2, none⟩ = some (.int .i64 a1) := K1.out.cell 2
    have y4 : W2.cell? ⟨w.heap.size + 1, 3, none⟩ = some (.int .i64 b1) := K1.out.cell 3
    have l0 : W2.cell? ⟨q7, 0, none⟩ = some (.int .i64 x.f) := K7.out.cell 0
    have l1 : W2.cell? ⟨q7, 1, none⟩ = some (.int .i64 x.lo) := K7.out.cell 1
    have l2 : W2.cell? ⟨q7, 2, none⟩ = some (.int .i64 x.hi) := K7.out.cell 2
    have S7 := Lib.hid (show q7 < W2.heap.size from K7.out.lt)
    have S1 := Lib.hid (show w.heap.size + 1 < W2.heap.size from K1.out.lt)
    clear h31 L7 SZ1
    refine wp_region_free [.op, .op, .op, .op, .op, .op, .op, .op, .op, .op, .late (.int .i64 (0)), .new, .store, .late (.int .i64 (0))] [12] [8, 41] [8] [some 33, some 34, some 35, some 36, some 37, some 38, some 39, some 40, some 32, some 41, some 42, some 8, none, some 9] [[3], [33], [7], [35], [7], [37], [36, 38], [34, 39], [40], [32], [32], [], [8, 41], [42]]
      [Is (.agg #[.slice (some ⟨b, o, none⟩) n ca]), TabC n xs, Is (.pointer (some ⟨q7, 0, none⟩)), Is (.int .i64 (x.f)), Is (.pointer (some ⟨q7, 0, none⟩)), Is (.int .i64 (x.f)), Is (.agg #[.int .i64 x.f, .int .i64 x.f]), Is (.tuple #[.agg #[.int .i64 x.lo, .int .i64 x.hi], .int .i64 0]), Is (.tuple #[.agg #[.int .i64 x.lo, .int .i64 x.hi], .int .i64 0]), Is (.agg #[.int .i64 x.lo, .int .i64 x.hi]), Is (.int .i64 (0)), NewP W2.heap.size 41 #[.int .i64 0, .int .i64 0], fun _ _ => True, Is (.int .i64 (0))]
      (by kernel_rfl) (by kernel_rfl) (by kernel_rfl) (by kernel_rfl) (by kernel_rfl) (by kernel_rfl) (by kernel_rfl) (by kernel_rfl) (by kernel_rfl) Ext (fun W => Ext W2 W)
      (fun W _ => Ext.refl W) (fun W W' h k => h.trans k) (fun W W' h => h.size) ?_ (Ext.drew _) ?_ ?_
    · repeat (refine ⟨fun _ _ _ _ k h => (by first | exact h | exact (by first | exact IntsAt.ext h k | exact NewP.ext h k | exact TabC.ext h k)), ?_⟩)
      exact trivial
    · refine ⟨?_, ?_, ?_, ?_, ?_, ?_, ?_, ?_, ?_, ?_, ?_, ?_, ?_, trivial⟩
      · intro ρ W ⟨kc, kg, kf⟩ hF hs
        obtain ⟨h0, -⟩ := hs
        replace h0 : ρ (.tmp 3) = .pointer (some ⟨w.heap.size, 0, none⟩) := h0
        have hc0 : W.cell? ⟨w.heap.size, 0, none⟩ = some (.slice (some ⟨b, o, none⟩) n ca) := hF.cell (by assumption)
        go_simp
        exact ⟨Ext.refl _, rfl⟩
      · intro ρ W ⟨kc, kg, kf⟩ hF hs
        obtain ⟨h0, -⟩ := hs
        replace h0 : ρ (.tmp 33) = .agg #[.slice (some ⟨b, o, none⟩) n ca] := h0
        go_simp
        refine (HCP.out _ (X.out.trans hF)).mono ?_; rintro e w' ⟨A2, c2, rfl, hr2, -, hx⟩; exact ⟨_, rfl, hx, A2, c2, rfl, hr2⟩
      · intro ρ W ⟨kc, kg, kf⟩ hF hs
        obtain ⟨h0, -⟩ := hs
        replace h0 : ρ (.tmp 7) = .pointer (some ⟨q7, 0, none⟩) := h0
        go_simp
        exact ⟨Ext.refl _, rfl⟩
      · intro ρ W ⟨kc, kg, kf⟩ hF hs
        obtain ⟨h0, -⟩ := hs
        replace h0 : ρ (.tmp 35) = .pointer (some ⟨q7, 0, none⟩) := h0
        have hc0 : W.cell? ⟨q7, 0, none⟩ = some (.int .i64 (x.f)) := hF.cell (by assumption)
        go_simp
        exact ⟨Ext.refl _, rfl⟩
      · intro ρ W ⟨kc, kg, kf⟩ hF hs
        obtain ⟨h0, -⟩ := hs
        replace h0 : ρ (.tmp 7) = .pointer (some ⟨q7, 0, none⟩) := h0
        go_simp
        exact ⟨Ext.refl _, rfl⟩
      · intro ρ W ⟨kc, kg, kf⟩ hF hs
        obtain ⟨h0, -⟩ := hs
        replace h0 : ρ (.tmp 37) = .pointer (some ⟨q7, 0, none⟩) := h0
        have hc0 : W.cell? ⟨q7, 0, none⟩ = some (.int .i64 (x.f)) := hF.cell (by assumption)
        go_simp
        exact ⟨Ext.refl _, rfl⟩
      · intro ρ W ⟨kc, kg, kf⟩ hF hs
        obtain ⟨h0, h1, -⟩ := hs
        replace h0 : ρ (.tmp 36) = .int .i64 (x.f) := h0
        replace h1 : ρ (.tmp 38) = .int .i64 (x.f) := h1
        go_simp
        exact ⟨Ext.refl _, rfl⟩
      · intro ρ W ⟨kc, kg, kf⟩ hF hs
        obtain ⟨h0, h1, -⟩ := hs
        replace h0 : (TabC n xs) (ρ (.tmp 34)) W := h0
        replace h1 : ρ (.tmp 39) = .agg #[.int .i64 x.f, .int .i64 x.f] := h1
        obtain ⟨A2, c2, hv, hr2⟩ := h0
        have hv2 : ρ (.tmp 34) = .agg #[.slice A2 n c2] := hv
        clear hv
        go_simp
        refine (HCK.out _ _ _ hr2).mono ?_; rintro e w' ⟨rfl, hx⟩; exact ⟨_, rfl, hx, rfl⟩
      · intro ρ W ⟨kc, kg, kf⟩ hF hs
        obtain ⟨h0, -⟩ := hs
        replace h0 : ρ (.tmp 40) = .tuple #[.agg #[.int .i64 x.lo, .int .i64 x.hi], .int .i64 0] := h0
        go_simp
        exact ⟨Ext.refl _, rfl⟩
      · intro ρ W ⟨kc, kg, kf⟩ hF hs
        obtain ⟨h0, -⟩ := hs
        replace h0 : ρ (.tmp 32) = .tuple #[.agg #[.int .i64 x.lo, .int .i64 x.hi], .int .i64 0] := h0
        go_simp
        exact ⟨Ext.refl _, rfl⟩
      · refine ⟨rfl, fun ρ W ⟨kc, kg, kf⟩ hF hs W' => ?_⟩
        obtain ⟨h0, -⟩ := hs
        replace h0 : ρ (.tmp 32) = .tuple #[.agg #[.int .i64 x.lo, .int .i64 x.hi], .int .i64 0] := h0
        go_simp
      · intro ρ W ⟨kc, kg, kf⟩ hF hs
        exact ⟨W.alloc (.cells #[.int .i64 0, .int .i64 0] 41), (by go_simp), by simp, Ext.alloc _ _, _, rfl, hF.size, Blk.new _ _ _⟩
      · refine ⟨rfl, fun ρ W ⟨kc, kg, kf⟩ hF hs W' => ?_⟩
        obtain ⟨h0, -⟩ := hs
        replace h0 : ρ (.tmp 42) = .int .i64 (0) := h0
        go_simp
    · intro fv W hF hs hap σ hσ ρ ⟨kc, kg, kf⟩ hr
      obtain ⟨-, -, -, -, -, -, -, -, -, h41, h42, h8, h9, -⟩ := hs
      replace h41 : fv 41 = .agg #[.int .i64 x.lo, .int .i64 x.hi] := h41
      replace h42 : fv 42 = .int .i64 (0) := h42
      replace h8 : (NewP W2.heap.size 41 #[.int .i64 0, .int .i64 0]) (fv 8) W := h8
      replace h9 : fv 9 = .int .i64 (0) := h9
      obtain ⟨r0, r1, -⟩ := hr
      replace r0 : ρ (.tmp 8) = fv 8 := r0
      replace r1 : ρ (.tmp 41) = .agg #[.int .i64 x.lo, .int .i64 x.hi] := r1.trans h41
      obtain ⟨q8, hq8, hqs8, hb8⟩ := h8
      rw [hq8] at r0
      have f8_0 := hb8.free 0
      have c8_0 : W.cell? ⟨q8, 0, none⟩ = some (.int .i64 0) := hb8.cell 0
      have f8_1 := hb8.free 1
      have c8_1 : W.cell? ⟨q8, 1, none⟩ = some (.int .i64 0) := hb8.cell 1
      refine stores_one _ rfl hσ ((W.setCell ⟨q8, 0, none⟩ (.int .i64 x.lo)).setCell ⟨q8, 1, none⟩ (.int .i64 x.hi)) (by go_simp) ?_
      obtain ⟨W3, hW3⟩ : ∃ Vx, Vx = (W.setCell ⟨q8, 0, none⟩ (.int .i64 x.lo)).setCell ⟨q8, 1, none⟩ (.int .i64 x.hi) := ⟨_, rfl⟩
      rw [← hW3]
      have K8 := Lib.hid (show Blk W3 q8 41 #[.int .i64 x.lo, .int .i64 x.hi] by rw [hW3]; exact (hb8.setSame 0 _).setSame 1 _)
      have XN := Lib.hid (show Ext W2 W3 by rw [hW3]; exact Ext.set (Ext.set hF (by dsimp only; exact hqs8) _) (by dsimp only; exact hqs8) _)
      have L8 := Lib.hid hqs8
      clear f8_0 c8_0 f8_1 c8_1
      clear hW3 hF hap hσ r0 r1 kc kg kf hb8 hqs8
      simp only [fin, List.filterMap]
      go_simp
      try rw [hq8]
      clear hq8
      clear ρ σ h41 h42 h9
      have X := Lib.hid (X.out.trans XN.out)
      have K0 := Lib.hid (K0.out.ext XN.out)
      have K1 := Lib.hid (K1.out.ext XN.out)
      have l1 := XN.out.cell l1
      have l2 := XN.out.cell l2
      have m1 : W3.cell? ⟨q8, 0, none⟩ = some (.int .i64 x.lo) := K8.out.cell 0
      have m2 : W3.cell? ⟨q8, 1, none⟩ = some (.int .i64 x.hi) := K8.out.cell 1
      clear XN L8 K8 K7 S7
      clear y0 y1 y2 y3 y4 l0
      go_wp2
      clear l1 l2 m1 m2 hjn2 hjn S1
      go_loopw [10] (fun i wr => ∃ k : Nat, k ≤ 2 ∧ i = .int .i64 k ∧ Ext W3 wr ∧ (1 ≤ k → OKr xs a0 b0) ∧ (2 ≤ k → OKr xs a1 b1)) (fun i _ => 2 - (intOf i).toNat)
      case atStart => exact ⟨0, by omega, rfl, Ext.refl _, fun h => by omega, fun h => by omega⟩
      case round =>
        obtain ⟨k, hk, rfl, hx, ho0, ho1⟩ := hrel
        have X := Lib.hid (X.out.trans hx)
        have XW := Lib.hid hx
        have K0 := Lib.hid (K0.out.ext hx)
        have K1 := Lib.hid (K1.out.ext hx)
        have O0 := Lib.hid ho0
        have O1 := Lib.hid ho1
        clear hx ho0 ho1
        have y0 : wr.cell? ⟨w.heap.size, 0, none⟩ = some (.slice (some ⟨b, o, none⟩) n ca) := K0.out.cell 0
        have y1 : wr.cell? ⟨w.heap.size + 1, 0, none⟩ = some (.int .i64 a0) := K1.out.cell 0
        have y2 : wr.cell? ⟨w.heap.size + 1, 1, none⟩ = some (.int .i64 b0) := K1.out.cell 1
        have y3 : wr.cell? ⟨w.heap.size + 1, 2, none⟩ = some (.int .i64 a1) := K1.out.cell 2
        have y4 : wr.cell? ⟨w.heap.size + 1, 3, none⟩ = some (.int .i64 b1) := K1.out.cell 3
        rcases (show k = 0 ∨ k = 1 ∨ k = 2 by omega) with rfl | rfl | rfl
        · obtain ⟨e, hE⟩ : ∃ e, e = endsE a0 b0 := ⟨_, rfl⟩
          have HE := Lib.hid hE
          by_cases he : e = 0
          · have HR := Lib.hid (fun W => show Calls Try.prog 38 #[.agg #[.int .i64 a0, .int .i64 b0]] W fun e w' => e = .returned (.int .i64 0) ∧ Ext W w' from by
              have := HRA.out W
              rw [← HE.out, he] at this
              exact this)
            have HE0 := Lib.hid (show endsE a0 b0 = 0 by rw [← HE.out, he])
            clear hE he
            cases h1 : withinB a0 (xs.getD 0 default).f (xs.getD (n - 1) default).f with
            | false =>
              have HI1 := Lib.hid (fun W (e : Ext w W) => show Calls Try.prog 39 #[.agg #[.slice (some ⟨b, o, none⟩) n ca], .int .i64 a0] W fun e w' => e = .returned (.bool false) ∧ Ext W w' from by
                have := HIN.out a0 W e
                rw [h1] at this
                exact this)
              have HI2 := HI1
              clear h1
              go_wp2
              refine wp_region_eachM [true, true, true, true, true, true, true, true, true, true, true, true, true, true, true, false, false, false, false, false, false, false, true] [(60, false, true), (60, false, true), (60, false, true), (60, false, true), (60, false, true), (60, false, true), (60, false, true), (69, false, false), (69, false, false), (69, false, false), (69, false, false), (69, false, false), (69, false, false), (69, false, false)] [some 55, some 56, some 57, some 58, some 59, some 60, some 61, some 62, some 63, some 64, some 65, some 66, some 67, some 68, some 69, some 70, some 71, some 72, some 73, some 74, some 75, some 76, some 77] [[10], [4, 55], [56], [57], [58], [59], [3, 60], [10, 60], [4, 62, 60], [63, 60], [64, 60], [61, 65, 60], [66, 60], [60, 67], [68], [3, 69], [10, 69], [4, 71, 69], [72, 69], [73, 69], [70, 74, 69], [75, 69], [69, 76]]
                [Is (.int .i64 (0)), Is (.pointer (some ⟨w.heap.size + 1, 0, none⟩)), Is (.agg #[.int .i64 (a0), .int .i64 (b0)]), Is (.int .i64 (0)), Is (.bool (false)), Is (.bool (false)), Is (.agg #[.slice (some ⟨b, o, none⟩) n ca]), Is (.int .i64 (0)), Is (.pointer (some ⟨w.heap.size + 1, 0, none⟩)), Is (.pointer (some ⟨w.heap.size + 1, 0, none⟩)), Is (.int .i64 (a0)), Is (.bool (false)), Is (.bool (true)), Is (.bool (true)), Is (.bool (true)), Is (undef), Is (undef), Is (undef), Is (undef), Is (undef), Is (undef), Is (undef), Is (.bool (true))]
                (by kernel_rfl) (by kernel_rfl) (by kernel_rfl) (by kernel_rfl) (by kernel_rfl) Ext (fun W => Ext wr W)
                (fun W _ => Ext.refl W) (fun W W' h k => h.trans k) ?_ (by intro p hp; simp only [List.mem_cons, List.not_mem_nil, or_false] at hp; rcases hp with rfl | rfl | rfl | rfl | rfl | rfl | rfl | rfl | rfl | rfl | rfl | rfl | rfl | rfl <;> exact ⟨_, rfl, fun v W h => by rw [show v = _ from h]; first | (simp; done) | (simp [undef]; done)⟩) (Ext.drew _) ?_ ?_
              · repeat (refine ⟨fun _ _ _ _ k h => (by first | exact h | exact (IntsAt.ext h k)), ?_⟩)
                exact trivial
              · refine ⟨?_, ?_, ?_, ?_, ?_, ?_, ?_, ?_, ?_, ?_, ?_, ?_, ?_, ?_, ?_, ?_, ?_, ?_, ?_, ?_, ?_, ?_, ?_, trivial⟩
                · intro ρ W ⟨kc, kg, kf⟩ hF hs
                  obtain ⟨h0, -⟩ := hs
                  replace h0 : ρ (.tmp 10) = .int .i64 (0) := h0
                  go_simp
                  exact ⟨Ext.refl _, rfl⟩
                · intro ρ W ⟨kc, kg, kf⟩ hF hs
                  obtain ⟨h0, h1, -⟩ := hs
                  replace h0 : ρ (.tmp 4) = .pointer (some ⟨w.heap.size + 1, 0, none⟩) := h0
                  replace h1 : ρ (.tmp 55) = .int .i64 (0) := h1
                  go_simp
                  exact ⟨Ext.refl _, rfl⟩
                · intro ρ W ⟨kc, kg, kf⟩ hF hs
                  obtain ⟨h0, -⟩ := hs
                  replace h0 : ρ (.tmp 56) = .pointer (some ⟨w.heap.size + 1, 0, none⟩) := h0
                  have hc0 : W.cell? ⟨w.heap.size + 1, 0, none⟩ = some (.int .i64 (a0)) := hF.cell (by assumption)
                  have hc1 : W.cell? ⟨w.heap.size + 1, 1, none⟩ = some (.int .i64 (b0)) := hF.cell (by assumption)
                  go_simp
                  exact ⟨Ext.refl _, rfl⟩
                · intro ρ W ⟨kc, kg, kf⟩ hF hs
                  obtain ⟨h0, -⟩ := hs
                  replace h0 : ρ (.tmp 57) = .agg #[.int .i64 (a0), .int .i64 (b0)] := h0
                  go_simp
                  refine (HR.out _).mono ?_; rintro e w' ⟨rfl, hx⟩; exact ⟨_, rfl, hx, rfl⟩
                · intro ρ W ⟨kc, kg, kf⟩ hF hs
                  obtain ⟨h0, -⟩ := hs
                  replace h0 : ρ (.tmp 58) = .int .i64 (0) := h0
                  go_simp
                  exact ⟨Ext.refl _, rfl⟩
                · intro ρ W ⟨kc, kg, kf⟩ hF hs
                  obtain ⟨h0, -⟩ := hs
                  replace h0 : ρ (.tmp 59) = .bool (false) := h0
                  go_simp
                  exact ⟨Ext.refl _, rfl⟩
                · intro ρ W ⟨kc, kg, kf⟩ hF hs
                  obtain ⟨h0, h1, -⟩ := hs
                  replace h0 : ρ (.tmp 3) = .pointer (some ⟨w.heap.size, 0, none⟩) := h0
                  replace h1 : ρ (.tmp 60) = .bool (false) := h1
                  have hc0 : W.cell? ⟨w.heap.size, 0, none⟩ = some (.slice (some ⟨b, o, none⟩) n ca) := hF.cell (by assumption)
                  go_simp
                  exact ⟨Ext.refl _, rfl⟩
                · intro ρ W ⟨kc, kg, kf⟩ hF hs
                  obtain ⟨h0, h1, -⟩ := hs
                  replace h0 : ρ (.tmp 10) = .int .i64 (0) := h0
                  replace h1 : ρ (.tmp 60) = .bool (false) := h1
                  go_simp
                  exact ⟨Ext.refl _, rfl⟩
                · intro ρ W ⟨kc, kg, kf⟩ hF hs
                  obtain ⟨h0, h1, h2, -⟩ := hs
                  replace h0 : ρ (.tmp 4) = .pointer (some ⟨w.heap.size + 1, 0, none⟩) := h0
                  replace h1 : ρ (.tmp 62) = .int .i64 (0) := h1
                  replace h2 : ρ (.tmp 60) = .bool (false) := h2
                  go_simp
                  exact ⟨Ext.refl _, rfl⟩
                · intro ρ W ⟨kc, kg, kf⟩ hF hs
                  obtain ⟨h0, h1, -⟩ := hs
                  replace h0 : ρ (.tmp 63) = .pointer (some ⟨w.heap.size + 1, 0, none⟩) := h0
                  replace h1 : ρ (.tmp 60) = .bool (false) := h1
                  go_simp
                  exact ⟨Ext.refl _, rfl⟩
                · intro ρ W ⟨kc, kg, kf⟩ hF hs
                  obtain ⟨h0, h1, -⟩ := hs
                  replace h0 : ρ (.tmp 64) = .pointer (some ⟨w.heap.size + 1, 0, none⟩) := h0
                  replace h1 : ρ (.tmp 60) = .bool (false) := h1
                  have hc0 : W.cell? ⟨w.heap.size + 1, 0, none⟩ = some (.int .i64 (a0)) := hF.cell (by assumption)
                  go_simp
                  exact ⟨Ext.refl _, rfl⟩
                · intro ρ W ⟨kc, kg, kf⟩ hF hs
                  obtain ⟨h0, h1, h2, -⟩ := hs
                  replace h0 : ρ (.tmp 61) = .agg #[.slice (some ⟨b, o, none⟩) n ca] := h0
                  replace h1 : ρ (.tmp 65) = .int .i64 (a0) := h1
                  replace h2 : ρ (.tmp 60) = .bool (false) := h2
                  go_simp
                  refine (HI1.out _ (X.out.trans hF)).mono ?_; rintro e w' ⟨rfl, hx⟩; exact ⟨_, rfl, hx, rfl⟩
                · intro ρ W ⟨kc, kg, kf⟩ hF hs
                  obtain ⟨h0, h1, -⟩ := hs
                  replace h0 : ρ (.tmp 66) = .bool (false) := h0
                  replace h1 : ρ (.tmp 60) = .bool (false) := h1
                  go_simp
                  exact ⟨Ext.refl _, rfl⟩
                · intro ρ W ⟨kc, kg, kf⟩ hF hs
                  obtain ⟨h0, h1, -⟩ := hs
                  replace h0 : ρ (.tmp 60) = .bool (false) := h0
                  replace h1 : ρ (.tmp 67) = .bool (true) := h1
                  go_simp
                  exact ⟨Ext.refl _, rfl⟩
                · intro ρ W ⟨kc, kg, kf⟩ hF hs
                  obtain ⟨h0, -⟩ := hs
                  replace h0 : ρ (.tmp 68) = .bool (true) := h0
                  go_simp
                  exact ⟨Ext.refl _, rfl⟩
                · exact fun _ => rfl
                · exact fun _ => rfl
                · exact fun _ => rfl
                · exact fun _ => rfl
                · exact fun _ => rfl
                · exact fun _ => rfl
                · exact fun _ => rfl
                · intro ρ W ⟨kc, kg, kf⟩ hF hs
                  obtain ⟨h0, h1, -⟩ := hs
                  replace h0 : ρ (.tmp 69) = .bool (true) := h0
                  replace h1 : ρ (.tmp 76) = undef := h1
                  go_simp
                  exact ⟨Ext.refl _, rfl⟩
              · intro fv W hF hs
                obtain ⟨-, -, -, -, -, -, -, -, -, -, -, -, -, -, -, -, -, -, -, -, -, -, h77, -⟩ := hs
                replace h77 : fv 77 = .bool (true) := h77
                simp only [fin, List.filterMap]
                go_simp
                have X6 := Lib.hid (X.out.trans hF)
                clear hF y0 y1 y2 y3 y4
                go_wp2
                go_ret
                exact ⟨rfl, X6.out⟩
            | true =>
              have HI1 := Lib.hid (fun W (e : Ext w W) => show Calls Try.prog 39 #[.agg #[.slice (some ⟨b, o, none⟩) n ca], .int .i64 a0] W fun e w' => e = .returned (.bool true) ∧ Ext W w' from by
                have := HIN.out a0 W e
                rw [h1] at this
                exact this)
              have HH1 := Lib.hid h1
              clear h1
              cases h2 : withinB b0 (xs.getD 0 default).f (xs.getD (n - 1) default).f with
              | false =>
                have HI2 := Lib.hid (fun W (e : Ext w W) => show Calls Try.prog 39 #[.agg #[.slice (some ⟨b, o, none⟩) n ca], .int .i64 b0] W fun e w' => e = .returned (.bool false) ∧ Ext W w' from by
                  have := HIN.out b0 W e
                  rw [h2] at this
                  exact this)
                clear h2
                go_wp2
                refine wp_region_eachG [(60, false), (60, false), (60, false), (60, false), (60, false), (60, false), (60, false), (69, false), (69, false), (69, false), (69, false), (69, false), (69, false), (69, false)] [some 55, some 56, some 57, some 58, some 59, some 60, some 61, some 62, some 63, some 64, some 65, some 66, some 67, some 68, some 69, some 70, some 71, some 72, some 73, some 74, some 75, some 76, some 77] [[10], [4, 55], [56], [57], [58], [59], [3, 60], [10, 60], [4, 62, 60], [63, 60], [64, 60], [61, 65, 60], [66, 60], [60, 67], [68], [3, 69], [10, 69], [4, 71, 69], [72, 69], [73, 69], [70, 74, 69], [75, 69], [69, 76]]
                  [Is (.int .i64 (0)), Is (.pointer (some ⟨w.heap.size + 1, 0, none⟩)), Is (.agg #[.int .i64 (a0), .int .i64 (b0)]), Is (.int .i64 (0)), Is (.bool (false)), Is (.bool (false)), Is (.agg #[.slice (some ⟨b, o, none⟩) n ca]), Is (.int .i64 (0)), Is (.pointer (some ⟨w.heap.size + 1, 0, none⟩)), Is (.pointer (some ⟨w.heap.size + 1, 0, none⟩)), Is (.int .i64 (a0)), Is (.bool (true)), Is (.bool (false)), Is (.bool (false)), Is (.bool (false)), Is (.agg #[.slice (some ⟨b, o, none⟩) n ca]), Is (.int .i64 (0)), Is (.pointer (some ⟨w.heap.size + 1, 0, none⟩)), Is (.pointer (some ⟨w.heap.size + 1, 1, none⟩)), Is (.int .i64 (b0)), Is (.bool (false)), Is (.bool (true)), Is (.bool (true))]
                  (by kernel_rfl) (by kernel_rfl) (by kernel_rfl) (by kernel_rfl) (by kernel_rfl) Ext (fun W => Ext wr W)
                  (fun W _ => Ext.refl W) (fun W W' h k => h.trans k) ?_ (by intro p hp; simp only [List.mem_cons, List.not_mem_nil, or_false] at hp; rcases hp with rfl | rfl | rfl | rfl | rfl | rfl | rfl | rfl | rfl | rfl | rfl | rfl | rfl | rfl <;> exact ⟨_, rfl, fun _ _ h => h⟩) (Ext.drew _) ?_ ?_
                · repeat (refine ⟨fun _ _ _ _ k h => (by first | exact h | exact (IntsAt.ext h k)), ?_⟩)
                  exact trivial
                · refine ⟨?_, ?_, ?_, ?_, ?_, ?_, ?_, ?_, ?_, ?_, ?_, ?_, ?_, ?_, ?_, ?_, ?_, ?_, ?_, ?_, ?_, ?_, ?_, trivial⟩
                  all_goals intro ρ W ⟨kc, kg, kf⟩ hF hs
                  · obtain ⟨h0, -⟩ := hs
                    replace h0 : ρ (.tmp 10) = .int .i64 (0) := h0
                    go_simp
                    exact ⟨Ext.refl _, rfl⟩
                  · obtain ⟨h0, h1, -⟩ := hs
                    replace h0 : ρ (.tmp 4) = .pointer (some ⟨w.heap.size + 1, 0, none⟩) := h0
                    replace h1 : ρ (.tmp 55) = .int .i64 (0) := h1
                    go_simp
                    exact ⟨Ext.refl _, rfl⟩
                  · obtain ⟨h0, -⟩ := hs
                    replace h0 : ρ (.tmp 56) = .pointer (some ⟨w.heap.size + 1, 0, none⟩) := h0
                    have hc0 : W.cell? ⟨w.heap.size + 1, 0, none⟩ = some (.int .i64 (a0)) := hF.cell (by assumption)
                    have hc1 : W.cell? ⟨w.heap.size + 1, 1, none⟩ = some (.int .i64 (b0)) := hF.cell (by assumption)
                    go_simp
                    exact ⟨Ext.refl _, rfl⟩
                  · obtain ⟨h0, -⟩ := hs
                    replace h0 : ρ (.tmp 57) = .agg #[.int .i64 (a0), .int .i64 (b0)] := h0
                    go_simp
                    refine (HR.out _).mono ?_; rintro e w' ⟨rfl, hx⟩; exact ⟨_, rfl, hx, rfl⟩
                  · obtain ⟨h0, -⟩ := hs
                    replace h0 : ρ (.tmp 58) = .int .i64 (0) := h0
                    go_simp
                    exact ⟨Ext.refl _, rfl⟩
                  · obtain ⟨h0, -⟩ := hs
                    replace h0 : ρ (.tmp 59) = .bool (false) := h0
                    go_simp
                    exact ⟨Ext.refl _, rfl⟩
                  · obtain ⟨h0, h1, -⟩ := hs
                    replace h0 : ρ (.tmp 3) = .pointer (some ⟨w.heap.size, 0, none⟩) := h0
                    replace h1 : ρ (.tmp 60) = .bool (false) := h1
                    have hc0 : W.cell? ⟨w.heap.size, 0, none⟩ = some (.slice (some ⟨b, o, none⟩) n ca) := hF.cell (by assumption)
                    go_simp
                    exact ⟨Ext.refl _, rfl⟩
                  · obtain ⟨h0, h1, -⟩ := hs
                    replace h0 : ρ (.tmp 10) = .int .i64 (0) := h0
                    replace h1 : ρ (.tmp 60) = .bool (false) := h1
                    go_simp
                    exact ⟨Ext.refl _, rfl⟩
                  · obtain ⟨h0, h1, h2, -⟩ := hs
                    replace h0 : ρ (.tmp 4) = .pointer (some ⟨w.heap.size + 1, 0, none⟩) := h0
                    replace h1 : ρ (.tmp 62) = .int .i64 (0) := h1
                    replace h2 : ρ (.tmp 60) = .bool (false) := h2
                    go_simp
                    exact ⟨Ext.refl _, rfl⟩
                  · obtain ⟨h0, h1, -⟩ := hs
                    replace h0 : ρ (.tmp 63) = .pointer (some ⟨w.heap.size + 1, 0, none⟩) := h0
                    replace h1 : ρ (.tmp 60) = .bool (false) := h1
                    go_simp
                    exact ⟨Ext.refl _, rfl⟩
                  · obtain ⟨h0, h1, -⟩ := hs
                    replace h0 : ρ (.tmp 64) = .pointer (some ⟨w.heap.size + 1, 0, none⟩) := h0
                    replace h1 : ρ (.tmp 60) = .bool (false) := h1
                    have hc0 : W.cell? ⟨w.heap.size + 1, 0, none⟩ = some (.int .i64 (a0)) := hF.cell (by assumption)
                    go_simp
                    exact ⟨Ext.refl _, rfl⟩
                  · obtain ⟨h0, h1, h2, -⟩ := hs
                    replace h0 : ρ (.tmp 61) = .agg #[.slice (some ⟨b, o, none⟩) n ca] := h0
                    replace h1 : ρ (.tmp 65) = .int .i64 (a0) := h1
                    replace h2 : ρ (.tmp 60) = .bool (false) := h2
                    go_simp
                    refine (HI1.out _ (X.out.trans hF)).mono ?_; rintro e w' ⟨rfl, hx⟩; exact ⟨_, rfl, hx, rfl⟩
                  · obtain ⟨h0, h1, -⟩ := hs
                    replace h0 : ρ (.tmp 66) = .bool (true) := h0
                    replace h1 : ρ (.tmp 60) = .bool (false) := h1
                    go_simp
                    exact ⟨Ext.refl _, rfl⟩
                  · obtain ⟨h0, h1, -⟩ := hs
                    replace h0 : ρ (.tmp 60) = .bool (false) := h0
                    replace h1 : ρ (.tmp 67) = .bool (false) := h1
                    go_simp
                    exact ⟨Ext.refl _, rfl⟩
                  · obtain ⟨h0, -⟩ := hs
                    replace h0 : ρ (.tmp 68) = .bool (false) := h0
                    go_simp
                    exact ⟨Ext.refl _, rfl⟩
                  · obtain ⟨h0, h1, -⟩ := hs
                    replace h0 : ρ (.tmp 3) = .pointer (some ⟨w.heap.size, 0, none⟩) := h0
                    replace h1 : ρ (.tmp 69) = .bool (false) := h1
                    have hc0 : W.cell? ⟨w.heap.size, 0, none⟩ = some (.slice (some ⟨b, o, none⟩) n ca) := hF.cell (by assumption)
                    go_simp
                    exact ⟨Ext.refl _, rfl⟩
                  · obtain ⟨h0, h1, -⟩ := hs
                    replace h0 : ρ (.tmp 10) = .int .i64 (0) := h0
                    replace h1 : ρ (.tmp 69) = .bool (false) := h1
                    go_simp
                    exact ⟨Ext.refl _, rfl⟩
                  · obtain ⟨h0, h1, h2, -⟩ := hs
                    replace h0 : ρ (.tmp 4) = .pointer (some ⟨w.heap.size + 1, 0, none⟩) := h0
                    replace h1 : ρ (.tmp 71) = .int .i64 (0) := h1
                    replace h2 : ρ (.tmp 69) = .bool (false) := h2
                    go_simp
                    exact ⟨Ext.refl _, rfl⟩
                  · obtain ⟨h0, h1, -⟩ := hs
                    replace h0 : ρ (.tmp 72) = .pointer (some ⟨w.heap.size + 1, 0, none⟩) := h0
                    replace h1 : ρ (.tmp 69) = .bool (false) := h1
                    go_simp
                    exact ⟨Ext.refl _, rfl⟩
                  · obtain ⟨h0, h1, -⟩ := hs
                    replace h0 : ρ (.tmp 73) = .pointer (some ⟨w.heap.size + 1, 1, none⟩) := h0
                    replace h1 : ρ (.tmp 69) = .bool (false) := h1
                    have hc0 : W.cell? ⟨w.heap.size + 1, 1, none⟩ = some (.int .i64 (b0)) := hF.cell (by assumption)
                    go_simp
                    exact ⟨Ext.refl _, rfl⟩
                  · obtain ⟨h0, h1, h2, -⟩ := hs
                    replace h0 : ρ (.tmp 70) = .agg #[.slice (some ⟨b, o, none⟩) n ca] := h0
                    replace h1 : ρ (.tmp 74) = .int .i64 (b0) := h1
                    replace h2 : ρ (.tmp 69) = .bool (false) := h2
                    go_simp
                    refine (HI2.out _ (X.out.trans hF)).mono ?_; rintro e w' ⟨rfl, hx⟩; exact ⟨_, rfl, hx, rfl⟩
                  · obtain ⟨h0, h1, -⟩ := hs
                    replace h0 : ρ (.tmp 75) = .bool (false) := h0
                    replace h1 : ρ (.tmp 69) = .bool (false) := h1
                    go_simp
                    exact ⟨Ext.refl _, rfl⟩
                  · obtain ⟨h0, h1, -⟩ := hs
                    replace h0 : ρ (.tmp 69) = .bool (false) := h0
                    replace h1 : ρ (.tmp 76) = .bool (true) := h1
                    go_simp
                    exact ⟨Ext.refl _, rfl⟩
                · intro fv W hF hs
                  obtain ⟨-, -, -, -, -, -, -, -, -, -, -, -, -, -, -, -, -, -, -, -, -, -, h77, -⟩ := hs
                  replace h77 : fv 77 = .bool (true) := h77
                  simp only [fin, List.filterMap]
                  go_simp
                  have X6 := Lib.hid (X.out.trans hF)
                  clear hF y0 y1 y2 y3 y4
                  go_wp2
                  go_ret
                  exact ⟨rfl, X6.out⟩
              | true =>
                have HI2 := Lib.hid (fun W (e : Ext w W) => show Calls Try.prog 39 #[.agg #[.slice (some ⟨b, o, none⟩) n ca], .int .i64 b0] W fun e w' => e = .returned (.bool true) ∧ Ext W w' from by
                  have := HIN.out b0 W e
                  rw [h2] at this
                  exact this)
                have OK := Lib.hid (show OKr xs a0 b0 from ⟨HE0.out, inT_of HNX.out HH1.out, inT_of HNX.out h2⟩)
                clear h2
                go_wp2
                refine wp_region_eachG [(60, false), (60, false), (60, false), (60, false), (60, false), (60, false), (60, false), (69, false), (69, false), (69, false), (69, false), (69, false), (69, false), (69, false)] [some 55, some 56, some 57, some 58, some 59, some 60, some 61, some 62, some 63, some 64, some 65, some 66, some 67, some 68, some 69, some 70, some 71, some 72, some 73, some 74, some 75, some 76, some 77] [[10], [4, 55], [56], [57], [58], [59], [3, 60], [10, 60], [4, 62, 60], [63, 60], [64, 60], [61, 65, 60], [66, 60], [60, 67], [68], [3, 69], [10, 69], [4, 71, 69], [72, 69], [73, 69], [70, 74, 69], [75, 69], [69, 76]]
                  [Is (.int .i64 (0)), Is (.pointer (some ⟨w.heap.size + 1, 0, none⟩)), Is (.agg #[.int .i64 (a0), .int .i64 (b0)]), Is (.int .i64 (0)), Is (.bool (false)), Is (.bool (false)), Is (.agg #[.slice (some ⟨b, o, none⟩) n ca]), Is (.int .i64 (0)), Is (.pointer (some ⟨w.heap.size + 1, 0, none⟩)), Is (.pointer (some ⟨w.heap.size + 1, 0, none⟩)), Is (.int .i64 (a0)), Is (.bool (true)), Is (.bool (false)), Is (.bool (false)), Is (.bool (false)), Is (.agg #[.slice (some ⟨b, o, none⟩) n ca]), Is (.int .i64 (0)), Is (.pointer (some ⟨w.heap.size + 1, 0, none⟩)), Is (.pointer (some ⟨w.heap.size + 1, 1, none⟩)), Is (.int .i64 (b0)), Is (.bool (true)), Is (.bool (false)), Is (.bool (false))]
                  (by kernel_rfl) (by kernel_rfl) (by kernel_rfl) (by kernel_rfl) (by kernel_rfl) Ext (fun W => Ext wr W)
                  (fun W _ => Ext.refl W) (fun W W' h k => h.trans k) ?_ (by intro p hp; simp only [List.mem_cons, List.not_mem_nil, or_false] at hp; rcases hp with rfl | rfl | rfl | rfl | rfl | rfl | rfl | rfl | rfl | rfl | rfl | rfl | rfl | rfl <;> exact ⟨_, rfl, fun _ _ h => h⟩) (Ext.drew _) ?_ ?_
                · repeat (refine ⟨fun _ _ _ _ k h => (by first | exact h | exact (IntsAt.ext h k)), ?_⟩)
                  exact trivial
                · refine ⟨?_, ?_, ?_, ?_, ?_, ?_, ?_, ?_, ?_, ?_, ?_, ?_, ?_, ?_, ?_, ?_, ?_, ?_, ?_, ?_, ?_, ?_, ?_, trivial⟩
                  all_goals intro ρ W ⟨kc, kg, kf⟩ hF hs
                  · obtain ⟨h0, -⟩ := hs
                    replace h0 : ρ (.tmp 10) = .int .i64 (0) := h0
                    go_simp
                    exact ⟨Ext.refl _, rfl⟩
                  · obtain ⟨h0, h1, -⟩ := hs
                    replace h0 : ρ (.tmp 4) = .pointer (some ⟨w.heap.size + 1, 0, none⟩) := h0
                    replace h1 : ρ (.tmp 55) = .int .i64 (0) := h1
                    go_simp
                    exact ⟨Ext.refl _, rfl⟩
                  · obtain ⟨h0, -⟩ := hs
                    replace h0 : ρ (.tmp 56) = .pointer (some ⟨w.heap.size + 1, 0, none⟩) := h0
                    have hc0 : W.cell? ⟨w.heap.size + 1, 0, none⟩ = some (.int .i64 (a0)) := hF.cell (by assumption)
                    have hc1 : W.cell? ⟨w.heap.size + 1, 1, none⟩ = some (.int .i64 (b0)) := hF.cell (by assumption)
                    go_simp
                    exact ⟨Ext.refl _, rfl⟩
                  · obtain ⟨h0, -⟩ := hs
                    replace h0 : ρ (.tmp 57) = .agg #[.int .i64 (a0), .int .i64 (b0)] := h0
                    go_simp
                    refine (HR.out _).mono ?_; rintro e w' ⟨rfl, hx⟩; exact ⟨_, rfl, hx, rfl⟩
                  · obtain ⟨h0, -⟩ := hs
                    replace h0 : ρ (.tmp 58) = .int .i64 (0) := h0
                    go_simp
                    exact ⟨Ext.refl _, rfl⟩
                  · obtain ⟨h0, -⟩ := hs
                    replace h0 : ρ (.tmp 59) = .bool (false) := h0
                    go_simp
                    exact ⟨Ext.refl _, rfl⟩
                  · obtain ⟨h0, h1, -⟩ := hs
                    replace h0 : ρ (.tmp 3) = .pointer (some ⟨w.heap.size, 0, none⟩) := h0
                    replace h1 : ρ (.tmp 60) = .bool (false) := h1
                    have hc0 : W.cell? ⟨w.heap.size, 0, none⟩ = some (.slice (some ⟨b, o, none⟩) n ca) := hF.cell (by assumption)
                    go_simp
                    exact ⟨Ext.refl _, rfl⟩
                  · obtain ⟨h0, h1, -⟩ := hs
                    replace h0 : ρ (.tmp 10) = .int .i64 (0) := h0
                    replace h1 : ρ (.tmp 60) = .bool (false) := h1
                    go_simp
                    exact ⟨Ext.refl _, rfl⟩
                  · obtain ⟨h0, h1, h2, -⟩ := hs
                    replace h0 : ρ (.tmp 4) = .pointer (some ⟨w.heap.size + 1, 0, none⟩) := h0
                    replace h1 : ρ (.tmp 62) = .int .i64 (0) := h1
                    replace h2 : ρ (.tmp 60) = .bool (false) := h2
                    go_simp
                    exact ⟨Ext.refl _, rfl⟩
                  · obtain ⟨h0, h1, -⟩ := hs
                    replace h0 : ρ (.tmp 63) = .pointer (some ⟨w.heap.size + 1, 0, none⟩) := h0
                    replace h1 : ρ (.tmp 60) = .bool (false) := h1
                    go_simp
                    exact ⟨Ext.refl _, rfl⟩
                  · obtain ⟨h0, h1, -⟩ := hs
                    replace h0 : ρ (.tmp 64) = .pointer (some ⟨w.heap.size + 1, 0, none⟩) := h0
                    replace h1 : ρ (.tmp 60) = .bool (false) := h1
                    have hc0 : W.cell? ⟨w.heap.size + 1, 0, none⟩ = some (.int .i64 (a0)) := hF.cell (by assumption)
                    go_simp
                    exact ⟨Ext.refl _, rfl⟩
                  · obtain ⟨h0, h1, h2, -⟩ := hs
                    replace h0 : ρ (.tmp 61) = .agg #[.slice (some ⟨b, o, none⟩) n ca] := h0
                    replace h1 : ρ (.tmp 65) = .int .i64 (a0) := h1
                    replace h2 : ρ (.tmp 60) = .bool (false) := h2
                    go_simp
                    refine (HI1.out _ (X.out.trans hF)).mono ?_; rintro e w' ⟨rfl, hx⟩; exact ⟨_, rfl, hx, rfl⟩
                  · obtain ⟨h0, h1, -⟩ := hs
                    replace h0 : ρ (.tmp 66) = .bool (true) := h0
                    replace h1 : ρ (.tmp 60) = .bool (false) := h1
                    go_simp
                    exact ⟨Ext.refl _, rfl⟩
                  · obtain ⟨h0, h1, -⟩ := hs
                    replace h0 : ρ (.tmp 60) = .bool (false) := h0
                    replace h1 : ρ (.tmp 67) = .bool (false) := h1
                    go_simp
                    exact ⟨Ext.refl _, rfl⟩
                  · obtain ⟨h0, -⟩ := hs
                    replace h0 : ρ (.tmp 68) = .bool (false) := h0
                    go_simp
                    exact ⟨Ext.refl _, rfl⟩
                  · obtain ⟨h0, h1, -⟩ := hs
                    replace h0 : ρ (.tmp 3) = .pointer (some ⟨w.heap.size, 0, none⟩) := h0
                    replace h1 : ρ (.tmp 69) = .bool (false) := h1
                    have hc0 : W.cell? ⟨w.heap.size, 0, none⟩ = some (.slice (some ⟨b, o, none⟩) n ca) := hF.cell (by assumption)
                    go_simp
                    exact ⟨Ext.refl _, rfl⟩
                  · obtain ⟨h0, h1, -⟩ := hs
                    replace h0 : ρ (.tmp 10) = .int .i64 (0) := h0
                    replace h1 : ρ (.tmp 69) = .bool (false) := h1
                    go_simp
                    exact ⟨Ext.refl _, rfl⟩
                  · obtain ⟨h0, h1, h2, -⟩ := hs
                    replace h0 : ρ (.tmp 4) = .pointer (some ⟨w.heap.size + 1, 0, none⟩) := h0
                    replace h1 : ρ (.tmp 71) = .int .i64 (0) := h1
                    replace h2 : ρ (.tmp 69) = .bool (false) := h2
                    go_simp
                    exact ⟨Ext.refl _, rfl⟩
                  · obtain ⟨h0, h1, -⟩ := hs
                    replace h0 : ρ (.tmp 72) = .pointer (some ⟨w.heap.size + 1, 0, none⟩) := h0
                    replace h1 : ρ (.tmp 69) = .bool (false) := h1
                    go_simp
                    exact ⟨Ext.refl _, rfl⟩
                  · obtain ⟨h0, h1, -⟩ := hs
                    replace h0 : ρ (.tmp 73) = .pointer (some ⟨w.heap.size + 1, 1, none⟩) := h0
                    replace h1 : ρ (.tmp 69) = .bool (false) := h1
                    have hc0 : W.cell? ⟨w.heap.size + 1, 1, none⟩ = some (.int .i64 (b0)) := hF.cell (by assumption)
                    go_simp
                    exact ⟨Ext.refl _, rfl⟩
                  · obtain ⟨h0, h1, h2, -⟩ := hs
                    replace h0 : ρ (.tmp 70) = .agg #[.slice (some ⟨b, o, none⟩) n ca] := h0
                    replace h1 : ρ (.tmp 74) = .int .i64 (b0) := h1
                    replace h2 : ρ (.tmp 69) = .bool (false) := h2
                    go_simp
                    refine (HI2.out _ (X.out.trans hF)).mono ?_; rintro e w' ⟨rfl, hx⟩; exact ⟨_, rfl, hx, rfl⟩
                  · obtain ⟨h0, h1, -⟩ := hs
                    replace h0 : ρ (.tmp 75) = .bool (true) := h0
                    replace h1 : ρ (.tmp 69) = .bool (false) := h1
                    go_simp
                    exact ⟨Ext.refl _, rfl⟩
                  · obtain ⟨h0, h1, -⟩ := hs
                    replace h0 : ρ (.tmp 69) = .bool (false) := h0
                    replace h1 : ρ (.tmp 76) = .bool (false) := h1
                    go_simp
                    exact ⟨Ext.refl _, rfl⟩
                · intro fv W hF hs
                  obtain ⟨-, -, -, -, -, -, -, -, -, -, -, -, -, -, -, -, -, -, -, -, -, -, h77, -⟩ := hs
                  replace h77 : fv 77 = .bool (false) := h77
                  simp only [fin, List.filterMap]
                  go_simp
                  have XW := Lib.hid (XW.out.trans hF)
                  clear hF y0 y1 y2 y3 y4
                  go_wp2
                  go_roundw
                  case rel => exact ⟨1, by omega, by go_num, XW.out, fun _ => OK.out, fun h => by omega⟩
                  case measure => simp [intOf]
          · have HR := Lib.hid (fun W => show Calls Try.prog 38 #[.agg #[.int .i64 a0, .int .i64 b0]] W fun e' w' => e' = .returned (.int .i64 e) ∧ Ext W w' from by
              have := HRA.out W
              rw [← HE.out] at this
              exact this)
            clear hE HE
            go_wp2
            refine wp_region_eachM [true, true, true, true, true, true, false, false, false, false, false, false, false, true, true, false, false, false, false, false, false, false, true] [(60, false, false), (60, false, false), (60, false, false), (60, false, false), (60, false, false), (60, false, false), (60, false, false), (69, false, false), (69, false, false), (69, false, false), (69, false, false), (69, false, false), (69, false, false), (69, false, false)] [some 55, some 56, some 57, some 58, some 59, some 60, some 61, some 62, some 63, some 64, some 65, some 66, some 67, some 68, some 69, some 70, some 71, some 72, some 73, some 74, some 75, some 76, some 77] [[10], [4, 55], [56], [57], [58], [59], [3, 60], [10, 60], [4, 62, 60], [63, 60], [64, 60], [61, 65, 60], [66, 60], [60, 67], [68], [3, 69], [10, 69], [4, 71, 69], [72, 69], [73, 69], [70, 74, 69], [75, 69], [69, 76]]
              [Is (.int .i64 (0)), Is (.pointer (some ⟨w.heap.size + 1, 0, none⟩)), Is (.agg #[.int .i64 (a0), .int .i64 (b0)]), Is (.int .i64 (e)), Is (.bool (true)), Is (.bool (true)), Is (undef), Is (undef), Is (undef), Is (undef), Is (undef), Is (undef), Is (undef), Is (.bool (true)), Is (.bool (true)), Is (undef), Is (undef), Is (undef), Is (undef), Is (undef), Is (undef), Is (undef), Is (.bool (true))]
              (by kernel_rfl) (by kernel_rfl) (by kernel_rfl) (by kernel_rfl) (by kernel_rfl) Ext (fun W => Ext wr W)
              (fun W _ => Ext.refl W) (fun W W' h k => h.trans k) ?_ (by intro p hp; simp only [List.mem_cons, List.not_mem_nil, or_false] at hp; rcases hp with rfl | rfl | rfl | rfl | rfl | rfl | rfl | rfl | rfl | rfl | rfl | rfl | rfl | rfl <;> exact ⟨_, rfl, fun v W h => by rw [show v = _ from h]; first | (simp; done) | (simp [undef]; done)⟩) (Ext.drew _) ?_ ?_
            · repeat (refine ⟨fun _ _ _ _ k h => (by first | exact h | exact (IntsAt.ext h k)), ?_⟩)
              exact trivial
            · refine ⟨?_, ?_, ?_, ?_, ?_, ?_, ?_, ?_, ?_, ?_, ?_, ?_, ?_, ?_, ?_, ?_, ?_, ?_, ?_, ?_, ?_, ?_, ?_, trivial⟩
              · intro ρ W ⟨kc, kg, kf⟩ hF hs
                obtain ⟨h0, -⟩ := hs
                replace h0 : ρ (.tmp 10) = .int .i64 (0) := h0
                go_simp
                exact ⟨Ext.refl _, rfl⟩
              · intro ρ W ⟨kc, kg, kf⟩ hF hs
                obtain ⟨h0, h1, -⟩ := hs
                replace h0 : ρ (.tmp 4) = .pointer (some ⟨w.heap.size + 1, 0, none⟩) := h0
                replace h1 : ρ (.tmp 55) = .int .i64 (0) := h1
                go_simp
                exact ⟨Ext.refl _, rfl⟩
              · intro ρ W ⟨kc, kg, kf⟩ hF hs
                obtain ⟨h0, -⟩ := hs
                replace h0 : ρ (.tmp 56) = .pointer (some ⟨w.heap.size + 1, 0, none⟩) := h0
                have hc0 : W.cell? ⟨w.heap.size + 1, 0, none⟩ = some (.int .i64 (a0)) := hF.cell (by assumption)
                have hc1 : W.cell? ⟨w.heap.size + 1, 1, none⟩ = some (.int .i64 (b0)) := hF.cell (by assumption)
                go_simp
                exact ⟨Ext.refl _, rfl⟩
              · intro ρ W ⟨kc, kg, kf⟩ hF hs
                obtain ⟨h0, -⟩ := hs
                replace h0 : ρ (.tmp 57) = .agg #[.int .i64 (a0), .int .i64 (b0)] := h0
                go_simp
                refine (HR.out _).mono ?_; rintro e w' ⟨rfl, hx⟩; exact ⟨_, rfl, hx, rfl⟩
              · intro ρ W ⟨kc, kg, kf⟩ hF hs
                obtain ⟨h0, -⟩ := hs
                replace h0 : ρ (.tmp 58) = .int .i64 (e) := h0
                have hd : (e != 0) = true := by simp [he]
                go_simp
                exact ⟨Ext.refl _, rfl⟩
              · intro ρ W ⟨kc, kg, kf⟩ hF hs
                obtain ⟨h0, -⟩ := hs
                replace h0 : ρ (.tmp 59) = .bool (true) := h0
                go_simp
                exact ⟨Ext.refl _, rfl⟩
              · exact fun _ => rfl
              · exact fun _ => rfl
              · exact fun _ => rfl
              · exact fun _ => rfl
              · exact fun _ => rfl
              · exact fun _ => rfl
              · exact fun _ => rfl
              · intro ρ W ⟨kc, kg, kf⟩ hF hs
                obtain ⟨h0, h1, -⟩ := hs
                replace h0 : ρ (.tmp 60) = .bool (true) := h0
                replace h1 : ρ (.tmp 67) = undef := h1
                go_simp
                exact ⟨Ext.refl _, rfl⟩
              · intro ρ W ⟨kc, kg, kf⟩ hF hs
                obtain ⟨h0, -⟩ := hs
                replace h0 : ρ (.tmp 68) = .bool (true) := h0
                go_simp
                exact ⟨Ext.refl _, rfl⟩
              · exact fun _ => rfl
              · exact fun _ => rfl
              · exact fun _ => rfl
              · exact fun _ => rfl
              · exact fun _ => rfl
              · exact fun _ => rfl
              · exact fun _ => rfl
              · intro ρ W ⟨kc, kg, kf⟩ hF hs
                obtain ⟨h0, h1, -⟩ := hs
                replace h0 : ρ (.tmp 69) = .bool (true) := h0
                replace h1 : ρ (.tmp 76) = undef := h1
                go_simp
                exact ⟨Ext.refl _, rfl⟩
            · intro fv W hF hs
              obtain ⟨-, -, -, -, -, -, -, -, -, -, -, -, -, -, -, -, -, -, -, -, -, -, h77, -⟩ := hs
              replace h77 : fv 77 = .bool (true) := h77
              simp only [fin, List.filterMap]
              go_simp
              have X6 := Lib.hid (X.out.trans hF)
              clear hF y0 y1 y2 y3 y4
              go_wp2
              go_ret
              exact ⟨rfl, X6.out⟩
        · obtain ⟨e, hE⟩ : ∃ e, e = endsE a1 b1 := ⟨_, rfl⟩
          have HE := Lib.hid hE
          by_cases he : e = 0
          · have HR := Lib.hid (fun W => show Calls Try.prog 38 #[.agg #[.int .i64 a1, .int .i64 b1]] W fun e w' => e = .returned (.int .i64 0) ∧ Ext W w' from by
              have := HRB.out W
              rw [← HE.out, he] at this
              exact this)
            have HE0 := Lib.hid (show endsE a1 b1 = 0 by rw [← HE.out, he])
            clear hE he
            cases h1 : withinB a1 (xs.getD 0 default).f (xs.getD (n - 1) default).f with
            | false =>
              have HI1 := Lib.hid (fun W (e : Ext w W) => show Calls Try.prog 39 #[.agg #[.slice (some ⟨b, o, none⟩) n ca], .int .i64 a1] W fun e w' => e = .returned (.bool false) ∧ Ext W w' from by
                have := HIN.out a1 W e
                rw [h1] at this
                exact this)
              have HI2 := HI1
              clear h1
              go_wp2
              refine wp_region_eachM [true, true, true, true, true, true, true, true, true, true, true, true, true, true, true, false, false, false, false, false, false, false, true] [(60, false, true), (60, false, true), (60, false, true), (60, false, true), (60, false, true), (60, false, true), (60, false, true), (69, false, false), (69, false, false), (69, false, false), (69, false, false), (69, false, false), (69, false, false), (69, false, false)] [some 55, some 56, some 57, some 58, some 59, some 60, some 61, some 62, some 63, some 64, some 65, some 66, some 67, some 68, some 69, some 70, some 71, some 72, some 73, some 74, some 75, some 76, some 77] [[10], [4, 55], [56], [57], [58], [59], [3, 60], [10, 60], [4, 62, 60], [63, 60], [64, 60], [61, 65, 60], [66, 60], [60, 67], [68], [3, 69], [10, 69], [4, 71, 69], [72, 69], [73, 69], [70, 74, 69], [75, 69], [69, 76]]
                [Is (.int .i64 (1)), Is (.pointer (some ⟨w.heap.size + 1, 2, none⟩)), Is (.agg #[.int .i64 (a1), .int .i64 (b1)]), Is (.int .i64 (0)), Is (.bool (false)), Is (.bool (false)), Is (.agg #[.slice (some ⟨b, o, none⟩) n ca]), Is (.int .i64 (1)), Is (.pointer (some ⟨w.heap.size + 1, 2, none⟩)), Is (.pointer (some ⟨w.heap.size + 1, 2, none⟩)), Is (.int .i64 (a1)), Is (.bool (false)), Is (.bool (true)), Is (.bool (true)), Is (.bool (true)), Is (undef), Is (undef), Is (undef), Is (undef), Is (undef), Is (undef), Is (undef), Is (.bool (true))]
                (by kernel_rfl) (by kernel_rfl) (by kernel_rfl) (by kernel_rfl) (by kernel_rfl) Ext (fun W => Ext wr W)
                (fun W _ => Ext.refl W) (fun W W' h k => h.trans k) ?_ (by intro p hp; simp only [List.mem_cons, List.not_mem_nil, or_false] at hp; rcases hp with rfl | rfl | rfl | rfl | rfl | rfl | rfl | rfl | rfl | rfl | rfl | rfl | rfl | rfl <;> exact ⟨_, rfl, fun v W h => by rw [show v = _ from h]; first | (simp; done) | (simp [undef]; done)⟩) (Ext.drew _) ?_ ?_
              · repeat (refine ⟨fun _ _ _ _ k h => (by first | exact h | exact (IntsAt.ext h k)), ?_⟩)
                exact trivial
              · refine ⟨?_, ?_, ?_, ?_, ?_, ?_, ?_, ?_, ?_, ?_, ?_, ?_, ?_, ?_, ?_, ?_, ?_, ?_, ?_, ?_, ?_, ?_, ?_, trivial⟩
                · intro ρ W ⟨kc, kg, kf⟩ hF hs
                  obtain ⟨h0, -⟩ := hs
                  replace h0 : ρ (.tmp 10) = .int .i64 (1) := h0
                  go_simp
                  exact ⟨Ext.refl _, rfl⟩
                · intro ρ W ⟨kc, kg, kf⟩ hF hs
                  obtain ⟨h0, h1, -⟩ := hs
                  replace h0 : ρ (.tmp 4) = .pointer (some ⟨w.heap.size + 1, 0, none⟩) := h0
                  replace h1 : ρ (.tmp 55) = .int .i64 (1) := h1
                  go_simp
                  exact ⟨Ext.refl _, rfl⟩
                · intro ρ W ⟨kc, kg, kf⟩ hF hs
                  obtain ⟨h0, -⟩ := hs
                  replace h0 : ρ (.tmp 56) = .pointer (some ⟨w.heap.size + 1, 2, none⟩) := h0
                  have hc0 : W.cell? ⟨w.heap.size + 1, 2, none⟩ = some (.int .i64 (a1)) := hF.cell (by assumption)
                  have hc1 : W.cell? ⟨w.heap.size + 1, 3, none⟩ = some (.int .i64 (b1)) := hF.cell (by assumption)
                  go_simp
                  exact ⟨Ext.refl _, rfl⟩
                · intro ρ W ⟨kc, kg, kf⟩ hF hs
                  obtain ⟨h0, -⟩ := hs
                  replace h0 : ρ (.tmp 57) = .agg #[.int .i64 (a1), .int .i64 (b1)] := h0
                  go_simp
                  refine (HR.out _).mono ?_; rintro e w' ⟨rfl, hx⟩; exact ⟨_, rfl, hx, rfl⟩
                · intro ρ W ⟨kc, kg, kf⟩ hF hs
                  obtain ⟨h0, -⟩ := hs
                  replace h0 : ρ (.tmp 58) = .int .i64 (0) := h0
                  go_simp
                  exact ⟨Ext.refl _, rfl⟩
                · intro ρ W ⟨kc, kg, kf⟩ hF hs
                  obtain ⟨h0, -⟩ := hs
                  replace h0 : ρ (.tmp 59) = .bool (false) := h0
                  go_simp
                  exact ⟨Ext.refl _, rfl⟩
                · intro ρ W ⟨kc, kg, kf⟩ hF hs
                  obtain ⟨h0, h1, -⟩ := hs
                  replace h0 : ρ (.tmp 3) = .pointer (some ⟨w.heap.size, 0, none⟩) := h0
                  replace h1 : ρ (.tmp 60) = .bool (false) := h1
                  have hc0 : W.cell? ⟨w.heap.size, 0, none⟩ = some (.slice (some ⟨b, o, none⟩) n ca) := hF.cell (by assumption)
                  go_simp
                  exact ⟨Ext.refl _, rfl⟩
                · intro ρ W ⟨kc, kg, kf⟩ hF hs
                  obtain ⟨h0, h1, -⟩ := hs
                  replace h0 : ρ (.tmp 10) = .int .i64 (1) := h0
                  replace h1 : ρ (.tmp 60) = .bool (false) := h1
                  go_simp
                  exact ⟨Ext.refl _, rfl⟩
                · intro ρ W ⟨kc, kg, kf⟩ hF hs
                  obtain ⟨h0, h1, h2, -⟩ := hs
                  replace h0 : ρ (.tmp 4) = .pointer (some ⟨w.heap.size + 1, 0, none⟩) := h0
                  replace h1 : ρ (.tmp 62) = .int .i64 (1) := h1
                  replace h2 : ρ (.tmp 60) = .bool (false) := h2
                  go_simp
                  exact ⟨Ext.refl _, rfl⟩
                · intro ρ W ⟨kc, kg, kf⟩ hF hs
                  obtain ⟨h0, h1, -⟩ := hs
                  replace h0 : ρ (.tmp 63) = .pointer (some ⟨w.heap.size + 1, 2, none⟩) := h0
                  replace h1 : ρ (.tmp 60) = .bool (false) := h1
                  go_simp
                  exact ⟨Ext.refl _, rfl⟩
                · intro ρ W ⟨kc, kg, kf⟩ hF hs
                  obtain ⟨h0, h1, -⟩ := hs
                  replace h0 : ρ (.tmp 64) = .pointer (some ⟨w.heap.size + 1, 2, none⟩) := h0
                  replace h1 : ρ (.tmp 60) = .bool (false) := h1
                  have hc0 : W.cell? ⟨w.heap.size + 1, 2, none⟩ = some (.int .i64 (a1)) := hF.cell (by assumption)
                  go_simp
                  exact ⟨Ext.refl _, rfl⟩
                · intro ρ W ⟨kc, kg, kf⟩ hF hs
                  obtain ⟨h0, h1, h2, -⟩ := hs
                  replace h0 : ρ (.tmp 61) = .agg #[.slice (some ⟨b, o, none⟩) n ca] := h0
                  replace h1 : ρ (.tmp 65) = .int .i64 (a1) := h1
                  replace h2 : ρ (.tmp 60) = .bool (false) := h2
                  go_simp
                  refine (HI1.out _ (X.out.trans hF)).mono ?_; rintro e w' ⟨rfl, hx⟩; exact ⟨_, rfl, hx, rfl⟩
                · intro ρ W ⟨kc, kg, kf⟩ hF hs
                  obtain ⟨h0, h1, -⟩ := hs
                  replace h0 : ρ (.tmp 66) = .bool (false) := h0
                  replace h1 : ρ (.tmp 60) = .bool (false) := h1
                  go_simp
                  exact ⟨Ext.refl _, rfl⟩
                · intro ρ W ⟨kc, kg, kf⟩ hF hs
                  obtain ⟨h0, h1, -⟩ := hs
                  replace h0 : ρ (.tmp 60) = .bool (false) := h0
                  replace h1 : ρ (.tmp 67) = .bool (true) := h1
                  go_simp
                  exact ⟨Ext.refl _, rfl⟩
                · intro ρ W ⟨kc, kg, kf⟩ hF hs
                  obtain ⟨h0, -⟩ := hs
                  replace h0 : ρ (.tmp 68) = .bool (true) := h0
                  go_simp
                  exact ⟨Ext.refl _, rfl⟩
                · exact fun _ => rfl
                · exact fun _ => rfl
                · exact fun _ => rfl
                · exact fun _ => rfl
                · exact fun _ => rfl
                · exact fun _ => rfl
                · exact fun _ => rfl
                · intro ρ W ⟨kc, kg, kf⟩ hF hs
                  obtain ⟨h0, h1, -⟩ := hs
                  replace h0 : ρ (.tmp 69) = .bool (true) := h0
                  replace h1 : ρ (.tmp 76) = undef := h1
                  go_simp
                  exact ⟨Ext.refl _, rfl⟩
              · intro fv W hF hs
                obtain ⟨-, -, -, -, -, -, -, -, -, -, -, -, -, -, -, -, -, -, -, -, -, -, h77, -⟩ := hs
                replace h77 : fv 77 = .bool (true) := h77
                simp only [fin, List.filterMap]
                go_simp
                have X6 := Lib.hid (X.out.trans hF)
                clear hF y0 y1 y2 y3 y4
                go_wp2
                go_ret
                exact ⟨rfl, X6.out⟩
            | true =>
              have HI1 := Lib.hid (fun W (e : Ext w W) => show Calls Try.prog 39 #[.agg #[.slice (some ⟨b, o, none⟩) n ca], .int .i64 a1] W fun e w' => e = .returned (.bool true) ∧ Ext W w' from by
                have := HIN.out a1 W e
                rw [h1] at this
                exact this)
              have HH1 := Lib.hid h1
              clear h1
              cases h2 : withinB b1 (xs.getD 0 default).f (xs.getD (n - 1) default).f with
              | false =>
                have HI2 := Lib.hid (fun W (e : Ext w W) => show Calls Try.prog 39 #[.agg #[.slice (some ⟨b, o, none⟩) n ca], .int .i64 b1] W fun e w' => e = .returned (.bool false) ∧ Ext W w' from by
                  have := HIN.out b1 W e
                  rw [h2] at this
                  exact this)
                clear h2
                go_wp2
                refine wp_region_eachG [(60, false), (60, false), (60, false), (60, false), (60, false), (60, false), (60, false), (69, false), (69, false), (69, false), (69, false), (69, false), (69, false), (69, false)] [some 55, some 56, some 57, some 58, some 59, some 60, some 61, some 62, some 63, some 64, some 65, some 66, some 67, some 68, some 69, some 70, some 71, some 72, some 73, some 74, some 75, some 76, some 77] [[10], [4, 55], [56], [57], [58], [59], [3, 60], [10, 60], [4, 62, 60], [63, 60], [64, 60], [61, 65, 60], [66, 60], [60, 67], [68], [3, 69], [10, 69], [4, 71, 69], [72, 69], [73, 69], [70, 74, 69], [75, 69], [69, 76]]
                  [Is (.int .i64 (1)), Is (.pointer (some ⟨w.heap.size + 1, 2, none⟩)), Is (.agg #[.int .i64 (a1), .int .i64 (b1)]), Is (.int .i64 (0)), Is (.bool (false)), Is (.bool (false)), Is (.agg #[.slice (some ⟨b, o, none⟩) n ca]), Is (.int .i64 (1)), Is (.pointer (some ⟨w.heap.size + 1, 2, none⟩)), Is (.pointer (some ⟨w.heap.size + 1, 2, none⟩)), Is (.int .i64 (a1)), Is (.bool (true)), Is (.bool (false)), Is (.bool (false)), Is (.bool (false)), Is (.agg #[.slice (some ⟨b, o, none⟩) n ca]), Is (.int .i64 (1)), Is (.pointer (some ⟨w.heap.size + 1, 2, none⟩)), Is (.pointer (some ⟨w.heap.size + 1, 3, none⟩)), Is (.int .i64 (b1)), Is (.bool (false)), Is (.bool (true)), Is (.bool (true))]
                  (by kernel_rfl) (by kernel_rfl) (by kernel_rfl) (by kernel_rfl) (by kernel_rfl) Ext (fun W => Ext wr W)
                  (fun W _ => Ext.refl W) (fun W W' h k => h.trans k) ?_ (by intro p hp; simp only [List.mem_cons, List.not_mem_nil, or_false] at hp; rcases hp with rfl | rfl | rfl | rfl | rfl | rfl | rfl | rfl | rfl | rfl | rfl | rfl | rfl | rfl <;> exact ⟨_, rfl, fun _ _ h => h⟩) (Ext.drew _) ?_ ?_
                · repeat (refine ⟨fun _ _ _ _ k h => (by first | exact h | exact (IntsAt.ext h k)), ?_⟩)
                  exact trivial
                · refine ⟨?_, ?_, ?_, ?_, ?_, ?_, ?_, ?_, ?_, ?_, ?_, ?_, ?_, ?_, ?_, ?_, ?_, ?_, ?_, ?_, ?_, ?_, ?_, trivial⟩
                  all_goals intro ρ W ⟨kc, kg, kf⟩ hF hs
                  · obtain ⟨h0, -⟩ := hs
                    replace h0 : ρ (.tmp 10) = .int .i64 (1) := h0
                    go_simp
                    exact ⟨Ext.refl _, rfl⟩
                  · obtain ⟨h0, h1, -⟩ := hs
                    replace h0 : ρ (.tmp 4) = .pointer (some ⟨w.heap.size + 1, 0, none⟩) := h0
                    replace h1 : ρ (.tmp 55) = .int .i64 (1) := h1
                    go_simp
                    exact ⟨Ext.refl _, rfl⟩
                  · obtain ⟨h0, -⟩ := hs
                    replace h0 : ρ (.tmp 56) = .pointer (some ⟨w.heap.size + 1, 2, none⟩) := h0
                    have hc0 : W.cell? ⟨w.heap.size + 1, 2, none⟩ = some (.int .i64 (a1)) := hF.cell (by assumption)
                    have hc1 : W.cell? ⟨w.heap.size + 1, 3, none⟩ = some (.int .i64 (b1)) := hF.cell (by assumption)
                    go_simp
                    exact ⟨Ext.refl _, rfl⟩
                  · obtain ⟨h0, -⟩ := hs
                    replace h0 : ρ (.tmp 57) = .agg #[.int .i64 (a1), .int .i64 (b1)] := h0
                    go_simp
                    refine (HR.out _).mono ?_; rintro e w' ⟨rfl, hx⟩; exact ⟨_, rfl, hx, rfl⟩
                  · obtain ⟨h0, -⟩ := hs
                    replace h0 : ρ (.tmp 58) = .int .i64 (0) := h0
                    go_simp
                    exact ⟨Ext.refl _, rfl⟩
                  · obtain ⟨h0, -⟩ := hs
                    replace h0 : ρ (.tmp 59) = .bool (false) := h0
                    go_simp
                    exact ⟨Ext.refl _, rfl⟩
                  · obtain ⟨h0, h1, -⟩ := hs
                    replace h0 : ρ (.tmp 3) = .pointer (some ⟨w.heap.size, 0, none⟩) := h0
                    replace h1 : ρ (.tmp 60) = .bool (false) := h1
                    have hc0 : W.cell? ⟨w.heap.size, 0, none⟩ = some (.slice (some ⟨b, o, none⟩) n ca) := hF.cell (by assumption)
                    go_simp
                    exact ⟨Ext.refl _, rfl⟩
                  · obtain ⟨h0, h1, -⟩ := hs
                    replace h0 : ρ (.tmp 10) = .int .i64 (1) := h0
                    replace h1 : ρ (.tmp 60) = .bool (false) := h1
                    go_simp
                    exact ⟨Ext.refl _, rfl⟩
                  · obtain ⟨h0, h1, h2, -⟩ := hs
                    replace h0 : ρ (.tmp 4) = .pointer (some ⟨w.heap.size + 1, 0, none⟩) := h0
                    replace h1 : ρ (.tmp 62) = .int .i64 (1) := h1
                    replace h2 : ρ (.tmp 60) = .bool (false) := h2
                    go_simp
                    exact ⟨Ext.refl _, rfl⟩
                  · obtain ⟨h0, h1, -⟩ := hs
                    replace h0 : ρ (.tmp 63) = .pointer (some ⟨w.heap.size + 1, 2, none⟩) := h0
                    replace h1 : ρ (.tmp 60) = .bool (false) := h1
                    go_simp
                    exact ⟨Ext.refl _, rfl⟩
                  · obtain ⟨h0, h1, -⟩ := hs
                    replace h0 : ρ (.tmp 64) = .pointer (some ⟨w.heap.size + 1, 2, none⟩) := h0
                    replace h1 : ρ (.tmp 60) = .bool (false) := h1
                    have hc0 : W.cell? ⟨w.heap.size + 1, 2, none⟩ = some (.int .i64 (a1)) := hF.cell (by assumption)
                    go_simp
                    exact ⟨Ext.refl _, rfl⟩
                  · obtain ⟨h0, h1, h2, -⟩ := hs
                    replace h0 : ρ (.tmp 61) = .agg #[.slice (some ⟨b, o, none⟩) n ca] := h0
                    replace h1 : ρ (.tmp 65) = .int .i64 (a1) := h1
                    replace h2 : ρ (.tmp 60) = .bool (false) := h2
                    go_simp
                    refine (HI1.out _ (X.out.trans hF)).mono ?_; rintro e w' ⟨rfl, hx⟩; exact ⟨_, rfl, hx, rfl⟩
                  · obtain ⟨h0, h1, -⟩ := hs
                    replace h0 : ρ (.tmp 66) = .bool (true) := h0
                    replace h1 : ρ (.tmp 60) = .bool (false) := h1
                    go_simp
                    exact ⟨Ext.refl _, rfl⟩
                  · obtain ⟨h0, h1, -⟩ := hs
                    replace h0 : ρ (.tmp 60) = .bool (false) := h0
                    replace h1 : ρ (.tmp 67) = .bool (false) := h1
                    go_simp
                    exact ⟨Ext.refl _, rfl⟩
                  · obtain ⟨h0, -⟩ := hs
                    replace h0 : ρ (.tmp 68) = .bool (false) := h0
                    go_simp
                    exact ⟨Ext.refl _, rfl⟩
                  · obtain ⟨h0, h1, -⟩ := hs
                    replace h0 : ρ (.tmp 3) = .pointer (some ⟨w.heap.size, 0, none⟩) := h0
                    replace h1 : ρ (.tmp 69) = .bool (false) := h1
                    have hc0 : W.cell? ⟨w.heap.size, 0, none⟩ = some (.slice (some ⟨b, o, none⟩) n ca) := hF.cell (by assumption)
                    go_simp
                    exact ⟨Ext.refl _, rfl⟩
                  · obtain ⟨h0, h1, -⟩ := hs
                    replace h0 : ρ (.tmp 10) = .int .i64 (1) := h0
                    replace h1 : ρ (.tmp 69) = .bool (false) := h1
                    go_simp
                    exact ⟨Ext.refl _, rfl⟩
                  · obtain ⟨h0, h1, h2, -⟩ := hs
                    replace h0 : ρ (.tmp 4) = .pointer (some ⟨w.heap.size + 1, 0, none⟩) := h0
                    replace h1 : ρ (.tmp 71) = .int .i64 (1) := h1
                    replace h2 : ρ (.tmp 69) = .bool (false) := h2
                    go_simp
                    exact ⟨Ext.refl _, rfl⟩
                  · obtain ⟨h0, h1, -⟩ := hs
                    replace h0 : ρ (.tmp 72) = .pointer (some ⟨w.heap.size + 1, 2, none⟩) := h0
                    replace h1 : ρ (.tmp 69) = .bool (false) := h1
                    go_simp
                    exact ⟨Ext.refl _, rfl⟩
                  · obtain ⟨h0, h1, -⟩ := hs
                    replace h0 : ρ (.tmp 73) = .pointer (some ⟨w.heap.size + 1, 3, none⟩) := h0
                    replace h1 : ρ (.tmp 69) = .bool (false) := h1
                    have hc0 : W.cell? ⟨w.heap.size + 1, 3, none⟩ = some (.int .i64 (b1)) := hF.cell (by assumption)
                    go_simp
                    exact ⟨Ext.refl _, rfl⟩
                  · obtain ⟨h0, h1, h2, -⟩ := hs
                    replace h0 : ρ (.tmp 70) = .agg #[.slice (some ⟨b, o, none⟩) n ca] := h0
                    replace h1 : ρ (.tmp 74) = .int .i64 (b1) := h1
                    replace h2 : ρ (.tmp 69) = .bool (false) := h2
                    go_simp
                    refine (HI2.out _ (X.out.trans hF)).mono ?_; rintro e w' ⟨rfl, hx⟩; exact ⟨_, rfl, hx, rfl⟩
                  · obtain ⟨h0, h1, -⟩ := hs
                    replace h0 : ρ (.tmp 75) = .bool (false) := h0
                    replace h1 : ρ (.tmp 69) = .bool (false) := h1
                    go_simp
                    exact ⟨Ext.refl _, rfl⟩
                  · obtain ⟨h0, h1, -⟩ := hs
                    replace h0 : ρ (.tmp 69) = .bool (false) := h0
                    replace h1 : ρ (.tmp 76) = .bool (true) := h1
                    go_simp
                    exact ⟨Ext.refl _, rfl⟩
                · intro fv W hF hs
                  obtain ⟨-, -, -, -, -, -, -, -, -, -, -, -, -, -, -, -, -, -, -, -, -, -, h77, -⟩ := hs
                  replace h77 : fv 77 = .bool (true) := h77
                  simp only [fin, List.filterMap]
                  go_simp
                  have X6 := Lib.hid (X.out.trans hF)
                  clear hF y0 y1 y2 y3 y4
                  go_wp2
                  go_ret
                  exact ⟨rfl, X6.out⟩
              | true =>
                have HI2 := Lib.hid (fun W (e : Ext w W) => show Calls Try.prog 39 #[.agg #[.slice (some ⟨b, o, none⟩) n ca], .int .i64 b1] W fun e w' => e = .returned (.bool true) ∧ Ext W w' from by
                  have := HIN.out b1 W e
                  rw [h2] at this
                  exact this)
                have OK := Lib.hid (show OKr xs a1 b1 from ⟨HE0.out, inT_of HNX.out HH1.out, inT_of HNX.out h2⟩)
                clear h2
                go_wp2
                refine wp_region_eachG [(60, false), (60, false), (60, false), (60, false), (60, false), (60, false), (60, false), (69, false), (69, false), (69, false), (69, false), (69, false), (69, false), (69, false)] [some 55, some 56, some 57, some 58, some 59, some 60, some 61, some 62, some 63, some 64, some 65, some 66, some 67, some 68, some 69, some 70, some 71, some 72, some 73, some 74, some 75, some 76, some 77] [[10], [4, 55], [56], [57], [58], [59], [3, 60], [10, 60], [4, 62, 60], [63, 60], [64, 60], [61, 65, 60], [66, 60], [60, 67], [68], [3, 69], [10, 69], [4, 71, 69], [72, 69], [73, 69], [70, 74, 69], [75, 69], [69, 76]]
                  [Is (.int .i64 (1)), Is (.pointer (some ⟨w.heap.size + 1, 2, none⟩)), Is (.agg #[.int .i64 (a1), .int .i64 (b1)]), Is (.int .i64 (0)), Is (.bool (false)), Is (.bool (false)), Is (.agg #[.slice (some ⟨b, o, none⟩) n ca]), Is (.int .i64 (1)), Is (.pointer (some ⟨w.heap.size + 1, 2, none⟩)), Is (.pointer (some ⟨w.heap.size + 1, 2, none⟩)), Is (.int .i64 (a1)), Is (.bool (true)), Is (.bool (false)), Is (.bool (false)), Is (.bool (false)), Is (.agg #[.slice (some ⟨b, o, none⟩) n ca]), Is (.int .i64 (1)), Is (.pointer (some ⟨w.heap.size + 1, 2, none⟩)), Is (.pointer (some ⟨w.heap.size + 1, 3, none⟩)), Is (.int .i64 (b1)), Is (.bool (true)), Is (.bool (false)), Is (.bool (false))]
                  (by kernel_rfl) (by kernel_rfl) (by kernel_rfl) (by kernel_rfl) (by kernel_rfl) Ext (fun W => Ext wr W)
                  (fun W _ => Ext.refl W) (fun W W' h k => h.trans k) ?_ (by intro p hp; simp only [List.mem_cons, List.not_mem_nil, or_false] at hp; rcases hp with rfl | rfl | rfl | rfl | rfl | rfl | rfl | rfl | rfl | rfl | rfl | rfl | rfl | rfl <;> exact ⟨_, rfl, fun _ _ h => h⟩) (Ext.drew _) ?_ ?_
                · repeat (refine ⟨fun _ _ _ _ k h => (by first | exact h | exact (IntsAt.ext h k)), ?_⟩)
                  exact trivial
                · refine ⟨?_, ?_, ?_, ?_, ?_, ?_, ?_, ?_, ?_, ?_, ?_, ?_, ?_, ?_, ?_, ?_, ?_, ?_, ?_, ?_, ?_, ?_, ?_, trivial⟩
                  all_goals intro ρ W ⟨kc, kg, kf⟩ hF hs
                  · obtain ⟨h0, -⟩ := hs
                    replace h0 : ρ (.tmp 10) = .int .i64 (1) := h0
                    go_simp
                    exact ⟨Ext.refl _, rfl⟩
                  · obtain ⟨h0, h1, -⟩ := hs
                    replace h0 : ρ (.tmp 4) = .pointer (some ⟨w.heap.size + 1, 0, none⟩) := h0
                    replace h1 : ρ (.tmp 55) = .int .i64 (1) := h1
                    go_simp
                    exact ⟨Ext.refl _, rfl⟩
                  · obtain ⟨h0, -⟩ := hs
                    replace h0 : ρ (.tmp 56) = .pointer (some ⟨w.heap.size + 1, 2, none⟩) := h0
                    have hc0 : W.cell? ⟨w.heap.size + 1, 2, none⟩ = some (.int .i64 (a1)) := hF.cell (by assumption)
                    have hc1 : W.cell? ⟨w.heap.size + 1, 3, none⟩ = some (.int .i64 (b1)) := hF.cell (by assumption)
                    go_simp
                    exact ⟨Ext.refl _, rfl⟩
                  · obtain ⟨h0, -⟩ := hs
                    replace h0 : ρ (.tmp 57) = .agg #[.int .i64 (a1), .int .i64 (b1)] := h0
                    go_simp
                    refine (HR.out _).mono ?_; rintro e w' ⟨rfl, hx⟩; exact ⟨_, rfl, hx, rfl⟩
                  · obtain ⟨h0, -⟩ := hs
                    replace h0 : ρ (.tmp 58) = .int .i64 (0) := h0
                    go_simp
                    exact ⟨Ext.refl _, rfl⟩
                  · obtain ⟨h0, -⟩ := hs
                    replace h0 : ρ (.tmp 59) = .bool (false) := h0
                    go_simp
                    exact ⟨Ext.refl _, rfl⟩
                  · obtain ⟨h0, h1, -⟩ := hs
                    replace h0 : ρ (.tmp 3) = .pointer (some ⟨w.heap.size, 0, none⟩) := h0
                    replace h1 : ρ (.tmp 60) = .bool (false) := h1
                    have hc0 : W.cell? ⟨w.heap.size, 0, none⟩ = some (.slice (some ⟨b, o, none⟩) n ca) := hF.cell (by assumption)
                    go_simp
                    exact ⟨Ext.refl _, rfl⟩
                  · obtain ⟨h0, h1, -⟩ := hs
                    replace h0 : ρ (.tmp 10) = .int .i64 (1) := h0
                    replace h1 : ρ (.tmp 60) = .bool (false) := h1
                    go_simp
                    exact ⟨Ext.refl _, rfl⟩
                  · obtain ⟨h0, h1, h2, -⟩ := hs
                    replace h0 : ρ (.tmp 4) = .pointer (some ⟨w.heap.size + 1, 0, none⟩) := h0
                    replace h1 : ρ (.tmp 62) = .int .i64 (1) := h1
                    replace h2 : ρ (.tmp 60) = .bool (false) := h2
                    go_simp
                    exact ⟨Ext.refl _, rfl⟩
                  · obtain ⟨h0, h1, -⟩ := hs
                    replace h0 : ρ (.tmp 63) = .pointer (some ⟨w.heap.size + 1, 2, none⟩) := h0
                    replace h1 : ρ (.tmp 60) = .bool (false) := h1
                    go_simp
                    exact ⟨Ext.refl _, rfl⟩
                  · obtain ⟨h0, h1, -⟩ := hs
                    replace h0 : ρ (.tmp 64) = .pointer (some ⟨w.heap.size + 1, 2, none⟩) := h0
                    replace h1 : ρ (.tmp 60) = .bool (false) := h1
                    have hc0 : W.cell? ⟨w.heap.size + 1, 2, none⟩ = some (.int .i64 (a1)) := hF.cell (by assumption)
                    go_simp
                    exact ⟨Ext.refl _, rfl⟩
                  · obtain ⟨h0, h1, h2, -⟩ := hs
                    replace h0 : ρ (.tmp 61) = .agg #[.slice (some ⟨b, o, none⟩) n ca] := h0
                    replace h1 : ρ (.tmp 65) = .int .i64 (a1) := h1
                    replace h2 : ρ (.tmp 60) = .bool (false) := h2
                    go_simp
                    refine (HI1.out _ (X.out.trans hF)).mono ?_; rintro e w' ⟨rfl, hx⟩; exact ⟨_, rfl, hx, rfl⟩
                  · obtain ⟨h0, h1, -⟩ := hs
                    replace h0 : ρ (.tmp 66) = .bool (true) := h0
                    replace h1 : ρ (.tmp 60) = .bool (false) := h1
                    go_simp
                    exact ⟨Ext.refl _, rfl⟩
                  · obtain ⟨h0, h1, -⟩ := hs
                    replace h0 : ρ (.tmp 60) = .bool (false) := h0
                    replace h1 : ρ (.tmp 67) = .bool (false) := h1
                    go_simp
                    exact ⟨Ext.refl _, rfl⟩
                  · obtain ⟨h0, -⟩ := hs
                    replace h0 : ρ (.tmp 68) = .bool (false) := h0
                    go_simp
                    exact ⟨Ext.refl _, rfl⟩
                  · obtain ⟨h0, h1, -⟩ := hs
                    replace h0 : ρ (.tmp 3) = .pointer (some ⟨w.heap.size, 0, none⟩) := h0
                    replace h1 : ρ (.tmp 69) = .bool (false) := h1
                    have hc0 : W.cell? ⟨w.heap.size, 0, none⟩ = some (.slice (some ⟨b, o, none⟩) n ca) := hF.cell (by assumption)
                    go_simp
                    exact ⟨Ext.refl _, rfl⟩
                  · obtain ⟨h0, h1, -⟩ := hs
                    replace h0 : ρ (.tmp 10) = .int .i64 (1) := h0
                    replace h1 : ρ (.tmp 69) = .bool (false) := h1
                    go_simp
                    exact ⟨Ext.refl _, rfl⟩
                  · obtain ⟨h0, h1, h2, -⟩ := hs
                    replace h0 : ρ (.tmp 4) = .pointer (some ⟨w.heap.size + 1, 0, none⟩) := h0
                    replace h1 : ρ (.tmp 71) = .int .i64 (1) := h1
                    replace h2 : ρ (.tmp 69) = .bool (false) := h2
                    go_simp
                    exact ⟨Ext.refl _, rfl⟩
                  · obtain ⟨h0, h1, -⟩ := hs
                    replace h0 : ρ (.tmp 72) = .pointer (some ⟨w.heap.size + 1, 2, none⟩) := h0
                    replace h1 : ρ (.tmp 69) = .bool (false) := h1
                    go_simp
                    exact ⟨Ext.refl _, rfl⟩
                  · obtain ⟨h0, h1, -⟩ := hs
                    replace h0 : ρ (.tmp 73) = .pointer (some ⟨w.heap.size + 1, 3, none⟩) := h0
                    replace h1 : ρ (.tmp 69) = .bool (false) := h1
                    have hc0 : W.cell? ⟨w.heap.size + 1, 3, none⟩ = some (.int .i64 (b1)) := hF.cell (by assumption)
                    go_simp
                    exact ⟨Ext.refl _, rfl⟩
                  · obtain ⟨h0, h1, h2, -⟩ := hs
                    replace h0 : ρ (.tmp 70) = .agg #[.slice (some ⟨b, o, none⟩) n ca] := h0
                    replace h1 : ρ (.tmp 74) = .int .i64 (b1) := h1
                    replace h2 : ρ (.tmp 69) = .bool (false) := h2
                    go_simp
                    refine (HI2.out _ (X.out.trans hF)).mono ?_; rintro e w' ⟨rfl, hx⟩; exact ⟨_, rfl, hx, rfl⟩
                  · obtain ⟨h0, h1, -⟩ := hs
                    replace h0 : ρ (.tmp 75) = .bool (true) := h0
                    replace h1 : ρ (.tmp 69) = .bool (false) := h1
                    go_simp
                    exact ⟨Ext.refl _, rfl⟩
                  · obtain ⟨h0, h1, -⟩ := hs
                    replace h0 : ρ (.tmp 69) = .bool (false) := h0
                    replace h1 : ρ (.tmp 76) = .bool (false) := h1
                    go_simp
                    exact ⟨Ext.refl _, rfl⟩
                · intro fv W hF hs
                  obtain ⟨-, -, -, -, -, -, -, -, -, -, -, -, -, -, -, -, -, -, -, -, -, -, h77, -⟩ := hs
                  replace h77 : fv 77 = .bool (false) := h77
                  simp only [fin, List.filterMap]
                  go_simp
                  have XW := Lib.hid (XW.out.trans hF)
                  clear hF y0 y1 y2 y3 y4
                  go_wp2
                  go_roundw
                  case rel => exact ⟨2, by omega, by go_num, XW.out, fun _ => O0.out (by omega), fun _ => OK.out⟩
                  case measure => simp [intOf]
          · have HR := Lib.hid (fun W => show Calls Try.prog 38 #[.agg #[.int .i64 a1, .int .i64 b1]] W fun e' w' => e' = .returned (.int .i64 e) ∧ Ext W w' from by
              have := HRB.out W
              rw [← HE.out] at this
              exact this)
            clear hE HE
            go_wp2
            refine wp_region_eachM [true, true, true, true, true, true, false, false, false, false, false, false, false, true, true, false, false, false, false, false, false, false, true] [(60, false, false), (60, false, false), (60, false, false), (60, false, false), (60, false, false), (60, false, false), (60, false, false), (69, false, false), (69, false, false), (69, false, false), (69, false, false), (69, false, false), (69, false, false), (69, false, false)] [some 55, some 56, some 57, some 58, some 59, some 60, some 61, some 62, some 63, some 64, some 65, some 66, some 67, some 68, some 69, some 70, some 71, some 72, some 73, some 74, some 75, some 76, some 77] [[10], [4, 55], [56], [57], [58], [59], [3, 60], [10, 60], [4, 62, 60], [63, 60], [64, 60], [61, 65, 60], [66, 60], [60, 67], [68], [3, 69], [10, 69], [4, 71, 69], [72, 69], [73, 69], [70, 74, 69], [75, 69], [69, 76]]
              [Is (.int .i64 (1)), Is (.pointer (some ⟨w.heap.size + 1, 2, none⟩)), Is (.agg #[.int .i64 (a1), .int .i64 (b1)]), Is (.int .i64 (e)), Is (.bool (true)), Is (.bool (true)), Is (undef), Is (undef), Is (undef), Is (undef), Is (undef), Is (undef), Is (undef), Is (.bool (true)), Is (.bool (true)), Is (undef), Is (undef), Is (undef), Is (undef), Is (undef), Is (undef), Is (undef), Is (.bool (true))]
              (by kernel_rfl) (by kernel_rfl) (by kernel_rfl) (by kernel_rfl) (by kernel_rfl) Ext (fun W => Ext wr W)
              (fun W _ => Ext.refl W) (fun W W' h k => h.trans k) ?_ (by intro p hp; simp only [List.mem_cons, List.not_mem_nil, or_false] at hp; rcases hp with rfl | rfl | rfl | rfl | rfl | rfl | rfl | rfl | rfl | rfl | rfl | rfl | rfl | rfl <;> exact ⟨_, rfl, fun v W h => by rw [show v = _ from h]; first | (simp; done) | (simp [undef]; done)⟩) (Ext.drew _) ?_ ?_
            · repeat (refine ⟨fun _ _ _ _ k h => (by first | exact h | exact (IntsAt.ext h k)), ?_⟩)
              exact trivial
            · refine ⟨?_, ?_, ?_, ?_, ?_, ?_, ?_, ?_, ?_, ?_, ?_, ?_, ?_, ?_, ?_, ?_, ?_, ?_, ?_, ?_, ?_, ?_, ?_, trivial⟩
              · intro ρ W ⟨kc, kg, kf⟩ hF hs
                obtain ⟨h0, -⟩ := hs
                replace h0 : ρ (.tmp 10) = .int .i64 (1) := h0
                go_simp
                exact ⟨Ext.refl _, rfl⟩
              · intro ρ W ⟨kc, kg, kf⟩ hF hs
                obtain ⟨h0, h1, -⟩ := hs
                replace h0 : ρ (.tmp 4) = .pointer (some ⟨w.heap.size + 1, 0, none⟩) := h0
                replace h1 : ρ (.tmp 55) = .int .i64 (1) := h1
                go_simp
                exact ⟨Ext.refl _, rfl⟩
              · intro ρ W ⟨kc, kg, kf⟩ hF hs
                obtain ⟨h0, -⟩ := hs
                replace h0 : ρ (.tmp 56) = .pointer (some ⟨w.heap.size + 1, 2, none⟩) := h0
                have hc0 : W.cell? ⟨w.heap.size + 1, 2, none⟩ = some (.int .i64 (a1)) := hF.cell (by assumption)
                have hc1 : W.cell? ⟨w.heap.size + 1, 3, none⟩ = some (.int .i64 (b1)) := hF.cell (by assumption)
                go_simp
                exact ⟨Ext.refl _, rfl⟩
              · intro ρ W ⟨kc, kg, kf⟩ hF hs
                obtain ⟨h0, -⟩ := hs
                replace h0 : ρ (.tmp 57) = .agg #[.int .i64 (a1), .int .i64 (b1)] := h0
                go_simp
                refine (HR.out _).mono ?_; rintro e w' ⟨rfl, hx⟩; exact ⟨_, rfl, hx, rfl⟩
              · intro ρ W ⟨kc, kg, kf⟩ hF hs
                obtain ⟨h0, -⟩ := hs
                replace h0 : ρ (.tmp 58) = .int .i64 (e) := h0
                have hd : (e != 0) = true := by simp [he]
                go_simp
                exact ⟨Ext.refl _, rfl⟩
              · intro ρ W ⟨kc, kg, kf⟩ hF hs
                obtain ⟨h0, -⟩ := hs
                replace h0 : ρ (.tmp 59) = .bool (true) := h0
                go_simp
                exact ⟨Ext.refl _, rfl⟩
              · exact fun _ => rfl
              · exact fun _ => rfl
              · exact fun _ => rfl
              · exact fun _ => rfl
              · exact fun _ => rfl
              · exact fun _ => rfl
              · exact fun _ => rfl
              · intro ρ W ⟨kc, kg, kf⟩ hF hs
                obtain ⟨h0, h1, -⟩ := hs
                replace h0 : ρ (.tmp 60) = .bool (true) := h0
                replace h1 : ρ (.tmp 67) = undef := h1
                go_simp
                exact ⟨Ext.refl _, rfl⟩
              · intro ρ W ⟨kc, kg, kf⟩ hF hs
                obtain ⟨h0, -⟩ := hs
                replace h0 : ρ (.tmp 68) = .bool (true) := h0
                go_simp
                exact ⟨Ext.refl _, rfl⟩
              · exact fun _ => rfl
              · exact fun _ => rfl
              · exact fun _ => rfl
              · exact fun _ => rfl
              · exact fun _ => rfl
              · exact fun _ => rfl
              · exact fun _ => rfl
              · intro ρ W ⟨kc, kg, kf⟩ hF hs
                obtain ⟨h0, h1, -⟩ := hs
                replace h0 : ρ (.tmp 69) = .bool (true) := h0
                replace h1 : ρ (.tmp 76) = undef := h1
                go_simp
                exact ⟨Ext.refl _, rfl⟩
            · intro fv W hF hs
              obtain ⟨-, -, -, -, -, -, -, -, -, -, -, -, -, -, -, -, -, -, -, -, -, -, h77, -⟩ := hs
              replace h77 : fv 77 = .bool (true) := h77
              simp only [fin, List.filterMap]
              go_simp
              have X6 := Lib.hid (X.out.trans hF)
              clear hF y0 y1 y2 y3 y4
              go_wp2
              go_ret
              exact ⟨rfl, X6.out⟩
        · obtain ⟨ow, le0, le1, mn, mx, mo⟩ := HWO.out (O0.out (by omega)) (O1.out (by omega))
          have HC0 := Lib.hid (fun W A c h => HCV.out a0 b0 (O0.out (by omega)).1 (O0.out (by omega)).2.1 (O0.out (by omega)).2.2 W A c h)
          have HC1 := Lib.hid (fun W A c h => HCV.out a1 b1 (O1.out (by omega)).1 (O1.out (by omega)).2.1 (O1.out (by omega)).2.2 W A c h)
          have HC2 := Lib.hid (fun W A c h => HCV.out (min a0 a1) (max b0 b1) ow.1 ow.2.1 ow.2.2 W A c h)
          rw [mn, mx] at HC2
          clear ow mn mx O0 O1
          generalize (convV xs a0 b0).1 = al at *
          generalize (convV xs a0 b0).2 = ah at *
          generalize (convV xs a1 b1).1 = bl at *
          generalize (convV xs a1 b1).2 = bh at *
          have d0 : decide (ah < al) = false := by simp; omega
          have d1 : decide (bh < bl) = false := by simp; omega
          have MO := Lib.hid mo
          clear le0 le1 mo HWO HIN HRA HRB XW HMO
          go_wp2
          obtain ⟨W4, hW4⟩ : ∃ W, W = wr.alloc (.cells #[.int .i64 (min a0 a1), .int .i64 (max b0 b1)] 41) := ⟨_, rfl⟩
          obtain ⟨q11, hq11⟩ : ∃ q, q = wr.heap.size := ⟨_, rfl⟩
          rw [← hW4, ← hq11]
          have XN := Lib.hid (show Ext wr W4 by rw [hW4]; exact Ext.alloc _ _)
          have K11 := Lib.hid (show Blk W4 q11 41 #[.int .i64 (min a0 a1), .int .i64 (max b0 b1)] by rw [hW4, hq11]; exact Blk.new _ _ _)
          clear hW4 hq11
          have X := Lib.hid (X.out.trans XN.out)
          have K0 := Lib.hid (K0.out.ext XN.out)
          have K1 := Lib.hid (K1.out.ext XN.out)
          clear XN y0 y1 y2 y3 y4
          have y0 : W4.cell? ⟨w.heap.size, 0, none⟩ = some (.slice (some ⟨b, o, none⟩) n ca) := K0.out.cell 0
          have y1 : W4.cell? ⟨w.heap.size + 1, 0, none⟩ = some (.int .i64 a0) := K1.out.cell 0
          have y2 : W4.cell? ⟨w.heap.size + 1, 1, none⟩ = some (.int .i64 b0) := K1.out.cell 1
          have y3 : W4.cell? ⟨w.heap.size + 1, 2, none⟩ = some (.int .i64 a1) := K1.out.cell 2
          have y4 : W4.cell? ⟨w.heap.size + 1, 3, none⟩ = some (.int .i64 b1) := K1.out.cell 3
          have z0 : W4.cell? ⟨q11, 0, none⟩ = some (.int .i64 (min a0 a1)) := K11.out.cell 0
          have z1 : W4.cell? ⟨q11, 1, none⟩ = some (.int .i64 (max b0 b1)) := K11.out.cell 1
          refine wp_region_free [.op, .op, .op, .op, .op, .op, .op, .late (.int .i64 (0)), .new, .store, .late (.int .i64 (0))] [9] [12, 99] [12] [some 94, some 95, some 96, some 97, some 98, some 93, some 99, some 100, some 12, none, some 13] [[3], [94], [4], [96], [95, 97], [98], [93], [93], [], [12, 99], [100]]
            [Is (.agg #[.slice (some ⟨b, o, none⟩) n ca]), TabC n xs, Is (.pointer (some ⟨w.heap.size + 1, 0, none⟩)), Is (.agg #[.int .i64 (a0), .int .i64 (b0)]), Is (.tuple #[.agg #[.int .i64 al, .int .i64 ah], .int .i64 0]), Is (.tuple #[.agg #[.int .i64 al, .int .i64 ah], .int .i64 0]), Is (.agg #[.int .i64 al, .int .i64 ah]), Is (.int .i64 (0)), NewP W4.heap.size 41 #[.int .i64 0, .int .i64 0], fun _ _ => True, Is (.int .i64 (0))]
            (by kernel_rfl) (by kernel_rfl) (by kernel_rfl) (by kernel_rfl) (by kernel_rfl) (by kernel_rfl) (by kernel_rfl) (by kernel_rfl) (by kernel_rfl) Ext (fun W => Ext W4 W)
            (fun W _ => Ext.refl W) (fun W W' h k => h.trans k) (fun W W' h => h.size) ?_ (Ext.drew _) ?_ ?_
          · repeat (refine ⟨fun _ _ _ _ k h => (by first | exact h | exact (by first | exact IntsAt.ext h k | exact NewP.ext h k | exact TabC.ext h k)), ?_⟩)
            exact trivial
          · refine ⟨?_, ?_, ?_, ?_, ?_, ?_, ?_, ?_, ?_, ?_, trivial⟩
            · intro ρ W ⟨kc, kg, kf⟩ hF hs
              obtain ⟨h0, -⟩ := hs
              replace h0 : ρ (.tmp 3) = .pointer (some ⟨w.heap.size, 0, none⟩) := h0
              have hc0 : W.cell? ⟨w.heap.size, 0, none⟩ = some (.slice (some ⟨b, o, none⟩) n ca) := hF.cell (by assumption)
              go_simp
              exact ⟨Ext.refl _, rfl⟩
            · intro ρ W ⟨kc, kg, kf⟩ hF hs
              obtain ⟨h0, -⟩ := hs
              replace h0 : ρ (.tmp 94) = .agg #[.slice (some ⟨b, o, none⟩) n ca] := h0
              go_simp
              refine (HCP.out _ (X.out.trans hF)).mono ?_; rintro e w' ⟨A2, c2, rfl, hr2, -, hx⟩; exact ⟨_, rfl, hx, A2, c2, rfl, hr2⟩
            · intro ρ W ⟨kc, kg, kf⟩ hF hs
              obtain ⟨h0, -⟩ := hs
              replace h0 : ρ (.tmp 4) = .pointer (some ⟨w.heap.size + 1, 0, none⟩) := h0
              go_simp
              exact ⟨Ext.refl _, rfl⟩
            · intro ρ W ⟨kc, kg, kf⟩ hF hs
              obtain ⟨h0, -⟩ := hs
              replace h0 : ρ (.tmp 96) = .pointer (some ⟨w.heap.size + 1, 0, none⟩) := h0
              have hc0 : W.cell? ⟨w.heap.size + 1, 0, none⟩ = some (.int .i64 (a0)) := hF.cell (by assumption)
              have hc1 : W.cell? ⟨w.heap.size + 1, 1, none⟩ = some (.int .i64 (b0)) := hF.cell (by assumption)
              go_simp
              exact ⟨Ext.refl _, rfl⟩
            · intro ρ W ⟨kc, kg, kf⟩ hF hs
              obtain ⟨h0, h1, -⟩ := hs
              replace h0 : (TabC n xs) (ρ (.tmp 95)) W := h0
              replace h1 : ρ (.tmp 97) = .agg #[.int .i64 (a0), .int .i64 (b0)] := h1
              obtain ⟨A2, c2, hv, hr2⟩ := h0
              have hv2 : ρ (.tmp 95) = .agg #[.slice A2 n c2] := hv
              clear hv
              go_simp
              refine (HC0.out _ _ _ hr2).mono ?_; rintro e w' ⟨rfl, hx⟩; exact ⟨_, rfl, hx, rfl⟩
            · intro ρ W ⟨kc, kg, kf⟩ hF hs
              obtain ⟨h0, -⟩ := hs
              replace h0 : ρ (.tmp 98) = .tuple #[.agg #[.int .i64 al, .int .i64 ah], .int .i64 0] := h0
              go_simp
              exact ⟨Ext.refl _, rfl⟩
            · intro ρ W ⟨kc, kg, kf⟩ hF hs
              obtain ⟨h0, -⟩ := hs
              replace h0 : ρ (.tmp 93) = .tuple #[.agg #[.int .i64 al, .int .i64 ah], .int .i64 0] := h0
              go_simp
              exact ⟨Ext.refl _, rfl⟩
            · refine ⟨rfl, fun ρ W ⟨kc, kg, kf⟩ hF hs W' => ?_⟩
              obtain ⟨h0, -⟩ := hs
              replace h0 : ρ (.tmp 93) = .tuple #[.agg #[.int .i64 al, .int .i64 ah], .int .i64 0] := h0
              go_simp
            · intro ρ W ⟨kc, kg, kf⟩ hF hs
              exact ⟨W.alloc (.cells #[.int .i64 0, .int .i64 0] 41), (by go_simp), by simp, Ext.alloc _ _, _, rfl, hF.size, Blk.new _ _ _⟩
            · refine ⟨rfl, fun ρ W ⟨kc, kg, kf⟩ hF hs W' => ?_⟩
              obtain ⟨h0, -⟩ := hs
              replace h0 : ρ (.tmp 100) = .int .i64 (0) := h0
              go_simp
          · intro fv U hF hs hap σ hσ ρ ⟨kc, kg, kf⟩ hr
            obtain ⟨-, -, -, -, -, -, h99, h100, h12, h13, -⟩ := hs
            replace h99 : fv 99 = .agg #[.int .i64 al, .int .i64 ah] := h99
            replace h100 : fv 100 = .int .i64 (0) := h100
            replace h12 : (NewP W4.heap.size 41 #[.int .i64 0, .int .i64 0]) (fv 12) U := h12
            replace h13 : fv 13 = .int .i64 (0) := h13
            obtain ⟨r0, r1, -⟩ := hr
            replace r0 : ρ (.tmp 12) = fv 12 := r0
            replace r1 : ρ (.tmp 99) = .agg #[.int .i64 al, .int .i64 ah] := r1.trans h99
            obtain ⟨q12, hq12, hqs12, hb12⟩ := h12
            rw [hq12] at r0
            have f12_0 := hb12.free 0
            have c12_0 : U.cell? ⟨q12, 0, none⟩ = some (.int .i64 0) := hb12.cell 0
            have f12_1 := hb12.free 1
            have c12_1 : U.cell? ⟨q12, 1, none⟩ = some (.int .i64 0) := hb12.cell 1
            refine stores_one _ rfl hσ ((U.setCell ⟨q12, 0, none⟩ (.int .i64 al)).setCell ⟨q12, 1, none⟩ (.int .i64 ah)) (by go_simp) ?_
            obtain ⟨W5, hW5⟩ : ∃ Vx, Vx = (U.setCell ⟨q12, 0, none⟩ (.int .i64 al)).setCell ⟨q12, 1, none⟩ (.int .i64 ah) := ⟨_, rfl⟩
            rw [← hW5]
            have K12 := Lib.hid (show Blk W5 q12 41 #[.int .i64 al, .int .i64 ah] by rw [hW5]; exact (hb12.setSame 0 _).setSame 1 _)
            have XN := Lib.hid (show Ext W4 W5 by rw [hW5]; exact Ext.set (Ext.set hF (by dsimp only; exact hqs12) _) (by dsimp only; exact hqs12) _)
            have L12 := Lib.hid hqs12
            clear f12_0 c12_0 f12_1 c12_1
            clear hW5 hF hap hσ r0 r1 kc kg kf hb12 hqs12
            simp only [fin, List.filterMap]
            go_simp
            try rw [hq12]
            clear hq12
            clear ρ σ h99 h100 h13
            have X := Lib.hid (X.out.trans XN.out)
            have K0 := Lib.hid (K0.out.ext XN.out)
            have K1 := Lib.hid (K1.out.ext XN.out)
            have K11 := Lib.hid (K11.out.ext XN.out)
            clear XN y0 y1 y2 y3 y4
            have y0 : W5.cell? ⟨w.heap.size, 0, none⟩ = some (.slice (some ⟨b, o, none⟩) n ca) := K0.out.cell 0
            have y1 : W5.cell? ⟨w.heap.size + 1, 0, none⟩ = some (.int .i64 a0) := K1.out.cell 0
            have y2 : W5.cell? ⟨w.heap.size + 1, 1, none⟩ = some (.int .i64 b0) := K1.out.cell 1
            have y3 : W5.cell? ⟨w.heap.size + 1, 2, none⟩ = some (.int .i64 a1) := K1.out.cell 2
            have y4 : W5.cell? ⟨w.heap.size + 1, 3, none⟩ = some (.int .i64 b1) := K1.out.cell 3
            have z0 := K11.out.cell 0
            have z1 := K11.out.cell 1
            clear z0 z1
            go_wp2
            refine wp_region_free [.op, .op, .op, .op, .op, .op, .op, .late (.int .i64 (0)), .new, .store, .late (.int .i64 (0))] [9] [14, 107] [14] [some 102, some 103, some 104, some 105, some 106, some 101, some 107, some 108, some 14, none, some 15] [[3], [102], [4], [104], [103, 105], [106], [101], [101], [], [14, 107], [108]]
              [Is (.agg #[.slice (some ⟨b, o, none⟩) n ca]), TabC n xs, Is (.pointer (some ⟨w.heap.size + 1, 2, none⟩)), Is (.agg #[.int .i64 (a1), .int .i64 (b1)]), Is (.tuple #[.agg #[.int .i64 bl, .int .i64 bh], .int .i64 0]), Is (.tuple #[.agg #[.int .i64 bl, .int .i64 bh], .int .i64 0]), Is (.agg #[.int .i64 bl, .int .i64 bh]), Is (.int .i64 (0)), NewP W5.heap.size 41 #[.int .i64 0, .int .i64 0], fun _ _ => True, Is (.int .i64 (0))]
              (by kernel_rfl) (by kernel_rfl) (by kernel_rfl) (by kernel_rfl) (by kernel_rfl) (by kernel_rfl) (by kernel_rfl) (by kernel_rfl) (by kernel_rfl) Ext (fun W => Ext W5 W)
              (fun W _ => Ext.refl W) (fun W W' h k => h.trans k) (fun W W' h => h.size) ?_ (Ext.drew _) ?_ ?_
            · repeat (refine ⟨fun _ _ _ _ k h => (by first | exact h | exact (by first | exact IntsAt.ext h k | exact NewP.ext h k | exact TabC.ext h k)), ?_⟩)
              exact trivial
            · refine ⟨?_, ?_, ?_, ?_, ?_, ?_, ?_, ?_, ?_, ?_, trivial⟩
              · intro ρ W ⟨kc, kg, kf⟩ hF hs
                obtain ⟨h0, -⟩ := hs
                replace h0 : ρ (.tmp 3) = .pointer (some ⟨w.heap.size, 0, none⟩) := h0
                have hc0 : W.cell? ⟨w.heap.size, 0, none⟩ = some (.slice (some ⟨b, o, none⟩) n ca) := hF.cell (by assumption)
                go_simp
                exact ⟨Ext.refl _, rfl⟩
              · intro ρ W ⟨kc, kg, kf⟩ hF hs
                obtain ⟨h0, -⟩ := hs
                replace h0 : ρ (.tmp 102) = .agg #[.slice (some ⟨b, o, none⟩) n ca] := h0
                go_simp
                refine (HCP.out _ (X.out.trans hF)).mono ?_; rintro e w' ⟨A2, c2, rfl, hr2, -, hx⟩; exact ⟨_, rfl, hx, A2, c2, rfl, hr2⟩
              · intro ρ W ⟨kc, kg, kf⟩ hF hs
                obtain ⟨h0, -⟩ := hs
                replace h0 : ρ (.tmp 4) = .pointer (some ⟨w.heap.size + 1, 0, none⟩) := h0
                go_simp
                exact ⟨Ext.refl _, rfl⟩
              · intro ρ W ⟨kc, kg, kf⟩ hF hs
                obtain ⟨h0, -⟩ := hs
                replace h0 : ρ (.tmp 104) = .pointer (some ⟨w.heap.size + 1, 2, none⟩) := h0
                have hc0 : W.cell? ⟨w.heap.size + 1, 2, none⟩ = some (.int .i64 (a1)) := hF.cell (by assumption)
                have hc1 : W.cell? ⟨w.heap.size + 1, 3, none⟩ = some (.int .i64 (b1)) := hF.cell (by assumption)
                go_simp
                exact ⟨Ext.refl _, rfl⟩
              · intro ρ W ⟨kc, kg, kf⟩ hF hs
                obtain ⟨h0, h1, -⟩ := hs
                replace h0 : (TabC n xs) (ρ (.tmp 103)) W := h0
                replace h1 : ρ (.tmp 105) = .agg #[.int .i64 (a1), .int .i64 (b1)] := h1
                obtain ⟨A2, c2, hv, hr2⟩ := h0
                have hv2 : ρ (.tmp 103) = .agg #[.slice A2 n c2] := hv
                clear hv
                go_simp
                refine (HC1.out _ _ _ hr2).mono ?_; rintro e w' ⟨rfl, hx⟩; exact ⟨_, rfl, hx, rfl⟩
              · intro ρ W ⟨kc, kg, kf⟩ hF hs
                obtain ⟨h0, -⟩ := hs
                replace h0 : ρ (.tmp 106) = .tuple #[.agg #[.int .i64 bl, .int .i64 bh], .int .i64 0] := h0
                go_simp
                exact ⟨Ext.refl _, rfl⟩
              · intro ρ W ⟨kc, kg, kf⟩ hF hs
                obtain ⟨h0, -⟩ := hs
                replace h0 : ρ (.tmp 101) = .tuple #[.agg #[.int .i64 bl, .int .i64 bh], .int .i64 0] := h0
                go_simp
                exact ⟨Ext.refl _, rfl⟩
              · refine ⟨rfl, fun ρ W ⟨kc, kg, kf⟩ hF hs W' => ?_⟩
                obtain ⟨h0, -⟩ := hs
                replace h0 : ρ (.tmp 101) = .tuple #[.agg #[.int .i64 bl, .int .i64 bh], .int .i64 0] := h0
                go_simp
              · intro ρ W ⟨kc, kg, kf⟩ hF hs
                exact ⟨W.alloc (.cells #[.int .i64 0, .int .i64 0] 41), (by go_simp), by simp, Ext.alloc _ _, _, rfl, hF.size, Blk.new _ _ _⟩
              · refine ⟨rfl, fun ρ W ⟨kc, kg, kf⟩ hF hs W' => ?_⟩
                obtain ⟨h0, -⟩ := hs
                replace h0 : ρ (.tmp 108) = .int .i64 (0) := h0
                go_simp
            · intro fv U hF hs hap σ hσ ρ ⟨kc, kg, kf⟩ hr
              obtain ⟨-, -, -, -, -, -, h107, h108, h14, h15, -⟩ := hs
              replace h107 : fv 107 = .agg #[.int .i64 bl, .int .i64 bh] := h107
              replace h108 : fv 108 = .int .i64 (0) := h108
              replace h14 : (NewP W5.heap.size 41 #[.int .i64 0, .int .i64 0]) (fv 14) U := h14
              replace h15 : fv 15 = .int .i64 (0) := h15
              obtain ⟨r0, r1, -⟩ := hr
              replace r0 : ρ (.tmp 14) = fv 14 := r0
              replace r1 : ρ (.tmp 107) = .agg #[.int .i64 bl, .int .i64 bh] := r1.trans h107
              obtain ⟨q14, hq14, hqs14, hb14⟩ := h14
              rw [hq14] at r0
              have f14_0 := hb14.free 0
              have c14_0 : U.cell? ⟨q14, 0, none⟩ = some (.int .i64 0) := hb14.cell 0
              have f14_1 := hb14.free 1
              have c14_1 : U.cell? ⟨q14, 1, none⟩ = some (.int .i64 0) := hb14.cell 1
              refine stores_one _ rfl hσ ((U.setCell ⟨q14, 0, none⟩ (.int .i64 bl)).setCell ⟨q14, 1, none⟩ (.int .i64 bh)) (by go_simp) ?_
              obtain ⟨W6, hW6⟩ : ∃ Vx, Vx = (U.setCell ⟨q14, 0, none⟩ (.int .i64 bl)).setCell ⟨q14, 1, none⟩ (.int .i64 bh) := ⟨_, rfl⟩
              rw [← hW6]
              have K14 := Lib.hid (show Blk W6 q14 41 #[.int .i64 bl, .int .i64 bh] by rw [hW6]; exact (hb14.setSame 0 _).setSame 1 _)
              have XN := Lib.hid (show Ext W5 W6 by rw [hW6]; exact Ext.set (Ext.set hF (by dsimp only; exact hqs14) _) (by dsimp only; exact hqs14) _)
              have L14 := Lib.hid hqs14
              clear f14_0 c14_0 f14_1 c14_1
              clear hW6 hF hap hσ r0 r1 kc kg kf hb14 hqs14
              simp only [fin, List.filterMap]
              go_simp
              try rw [hq14]
              clear hq14
              clear ρ σ h107 h108 h15
              have X := Lib.hid (X.out.trans XN.out)
              have K0 := Lib.hid (K0.out.ext XN.out)
              have K1 := Lib.hid (K1.out.ext XN.out)
              have K11 := Lib.hid (K11.out.ext XN.out)
              have K12 := Lib.hid (K12.out.ext XN.out)
              clear XN y0 y1 y2 y3 y4
              have y0 : W6.cell? ⟨w.heap.size, 0, none⟩ = some (.slice (some ⟨b, o, none⟩) n ca) := K0.out.cell 0
              have y1 : W6.cell? ⟨w.heap.size + 1, 0, none⟩ = some (.int .i64 a0) := K1.out.cell 0
              have y2 : W6.cell? ⟨w.heap.size + 1, 1, none⟩ = some (.int .i64 b0) := K1.out.cell 1
              have y3 : W6.cell? ⟨w.heap.size + 1, 2, none⟩ = some (.int .i64 a1) := K1.out.cell 2
              have y4 : W6.cell? ⟨w.heap.size + 1, 3, none⟩ = some (.int .i64 b1) := K1.out.cell 3
              have z0 : W6.cell? ⟨q11, 0, none⟩ = some (.int .i64 (min a0 a1)) := K11.out.cell 0
              have z1 : W6.cell? ⟨q11, 1, none⟩ = some (.int .i64 (max b0 b1)) := K11.out.cell 1
              go_wp2
              refine wp_region_free [.op, .op, .op, .op, .op, .op, .late (.int .i64 (0)), .new, .store, .late (.int .i64 (0))] [8] [16, 114] [16] [some 110, some 111, some 112, some 113, some 109, some 114, some 115, some 16, none, some 17] [[3], [110], [11], [111, 112], [113], [109], [109], [], [16, 114], [115]]
                [Is (.agg #[.slice (some ⟨b, o, none⟩) n ca]), TabC n xs, Is (.agg #[.int .i64 ((min a0 a1)), .int .i64 ((max b0 b1))]), Is (.tuple #[.agg #[.int .i64 (min al bl), .int .i64 (max ah bh)], .int .i64 0]), Is (.tuple #[.agg #[.int .i64 (min al bl), .int .i64 (max ah bh)], .int .i64 0]), Is (.agg #[.int .i64 (min al bl), .int .i64 (max ah bh)]), Is (.int .i64 (0)), NewP W6.heap.size 41 #[.int .i64 0, .int .i64 0], fun _ _ => True, Is (.int .i64 (0))]
                (by kernel_rfl) (by kernel_rfl) (by kernel_rfl) (by kernel_rfl) (by kernel_rfl) (by kernel_rfl) (by kernel_rfl) (by kernel_rfl) (by kernel_rfl) Ext (fun W => Ext W6 W)
                (fun W _ => Ext.refl W) (fun W W' h k => h.trans k) (fun W W' h => h.size) ?_ (Ext.drew _) ?_ ?_
              · repeat (refine ⟨fun _ _ _ _ k h => (by first | exact h | exact (by first | exact IntsAt.ext h k | exact NewP.ext h k | exact TabC.ext h k)), ?_⟩)
                exact trivial
              · refine ⟨?_, ?_, ?_, ?_, ?_, ?_, ?_, ?_, ?_, trivial⟩
                · intro ρ W ⟨kc, kg, kf⟩ hF hs
                  obtain ⟨h0, -⟩ := hs
                  replace h0 : ρ (.tmp 3) = .pointer (some ⟨w.heap.size, 0, none⟩) := h0
                  have hc0 : W.cell? ⟨w.heap.size, 0, none⟩ = some (.slice (some ⟨b, o, none⟩) n ca) := hF.cell (by assumption)
                  go_simp
                  exact ⟨Ext.refl _, rfl⟩
                · intro ρ W ⟨kc, kg, kf⟩ hF hs
                  obtain ⟨h0, -⟩ := hs
                  replace h0 : ρ (.tmp 110) = .agg #[.slice (some ⟨b, o, none⟩) n ca] := h0
                  go_simp
                  refine (HCP.out _ (X.out.trans hF)).mono ?_; rintro e w' ⟨A2, c2, rfl, hr2, -, hx⟩; exact ⟨_, rfl, hx, A2, c2, rfl, hr2⟩
                · intro ρ W ⟨kc, kg, kf⟩ hF hs
                  obtain ⟨h0, -⟩ := hs
                  replace h0 : ρ (.tmp 11) = .pointer (some ⟨q11, 0, none⟩) := h0
                  have hc0 : W.cell? ⟨q11, 0, none⟩ = some (.int .i64 ((min a0 a1))) := hF.cell (by assumption)
                  have hc1 : W.cell? ⟨q11, 1, none⟩ = some (.int .i64 ((max b0 b1))) := hF.cell (by assumption)
                  go_simp
                  exact ⟨Ext.refl _, rfl⟩
                · intro ρ W ⟨kc, kg, kf⟩ hF hs
                  obtain ⟨h0, h1, -⟩ := hs
                  replace h0 : (TabC n xs) (ρ (.tmp 111)) W := h0
                  replace h1 : ρ (.tmp 112) = .agg #[.int .i64 ((min a0 a1)), .int .i64 ((max b0 b1))] := h1
                  obtain ⟨A2, c2, hv, hr2⟩ := h0
                  have hv2 : ρ (.tmp 111) = .agg #[.slice A2 n c2] := hv
                  clear hv
                  go_simp
                  refine (HC2.out _ _ _ hr2).mono ?_; rintro e w' ⟨rfl, hx⟩; exact ⟨_, rfl, hx, rfl⟩
                · intro ρ W ⟨kc, kg, kf⟩ hF hs
                  obtain ⟨h0, -⟩ := hs
                  replace h0 : ρ (.tmp 113) = .tuple #[.agg #[.int .i64 (min al bl), .int .i64 (max ah bh)], .int .i64 0] := h0
                  go_simp
                  exact ⟨Ext.refl _, rfl⟩
                · intro ρ W ⟨kc, kg, kf⟩ hF hs
                  obtain ⟨h0, -⟩ := hs
                  replace h0 : ρ (.tmp 109) = .tuple #[.agg #[.int .i64 (min al bl), .int .i64 (max ah bh)], .int .i64 0] := h0
                  go_simp
                  exact ⟨Ext.refl _, rfl⟩
                · refine ⟨rfl, fun ρ W ⟨kc, kg, kf⟩ hF hs W' => ?_⟩
                  obtain ⟨h0, -⟩ := hs
                  replace h0 : ρ (.tmp 109) = .tuple #[.agg #[.int .i64 (min al bl), .int .i64 (max ah bh)], .int .i64 0] := h0
                  go_simp
                · intro ρ W ⟨kc, kg, kf⟩ hF hs
                  exact ⟨W.alloc (.cells #[.int .i64 0, .int .i64 0] 41), (by go_simp), by simp, Ext.alloc _ _, _, rfl, hF.size, Blk.new _ _ _⟩
                · refine ⟨rfl, fun ρ W ⟨kc, kg, kf⟩ hF hs W' => ?_⟩
                  obtain ⟨h0, -⟩ := hs
                  replace h0 : ρ (.tmp 115) = .int .i64 (0) := h0
                  go_simp
              · intro fv U hF hs hap σ hσ ρ ⟨kc, kg, kf⟩ hr
                obtain ⟨-, -, -, -, -, h114, h115, h16, h17, -⟩ := hs
                replace h114 : fv 114 = .agg #[.int .i64 (min al bl), .int .i64 (max ah bh)] := h114
                replace h115 : fv 115 = .int .i64 (0) := h115
                replace h16 : (NewP W6.heap.size 41 #[.int .i64 0, .int .i64 0]) (fv 16) U := h16
                replace h17 : fv 17 = .int .i64 (0) := h17
                obtain ⟨r0, r1, -⟩ := hr
                replace r0 : ρ (.tmp 16) = fv 16 := r0
                replace r1 : ρ (.tmp 114) = .agg #[.int .i64 (min al bl), .int .i64 (max ah bh)] := r1.trans h114
                obtain ⟨q16, hq16, hqs16, hb16⟩ := h16
                rw [hq16] at r0
                have f16_0 := hb16.free 0
                have c16_0 : U.cell? ⟨q16, 0, none⟩ = some (.int .i64 0) := hb16.cell 0
                have f16_1 := hb16.free 1
                have c16_1 : U.cell? ⟨q16, 1, none⟩ = some (.int .i64 0) := hb16.cell 1
                refine stores_one _ rfl hσ ((U.setCell ⟨q16, 0, none⟩ (.int .i64 (min al bl))).setCell ⟨q16, 1, none⟩ (.int .i64 (max ah bh))) (by go_simp) ?_
                obtain ⟨W7, hW7⟩ : ∃ Vx, Vx = (U.setCell ⟨q16, 0, none⟩ (.int .i64 (min al bl))).setCell ⟨q16, 1, none⟩ (.int .i64 (max ah bh)) := ⟨_, rfl⟩
                rw [← hW7]
                have K16 := Lib.hid (show Blk W7 q16 41 #[.int .i64 (min al bl), .int .i64 (max ah bh)] by rw [hW7]; exact (hb16.setSame 0 _).setSame 1 _)
                have XN := Lib.hid (show Ext W6 W7 by rw [hW7]; exact Ext.set (Ext.set hF (by dsimp only; exact hqs16) _) (by dsimp only; exact hqs16) _)
                have L16 := Lib.hid hqs16
                clear f16_0 c16_0 f16_1 c16_1
                clear hW7 hF hap hσ r0 r1 kc kg kf hb16 hqs16
                simp only [fin, List.filterMap]
                go_simp
                try rw [hq16]
                clear hq16
                clear ρ σ h114 h115 h17
                have X := Lib.hid (X.out.trans XN.out)
                have K0 := Lib.hid (K0.out.ext XN.out)
                have K1 := Lib.hid (K1.out.ext XN.out)
                have K12 := Lib.hid (K12.out.ext XN.out)
                have K14 := Lib.hid (K14.out.ext XN.out)
                clear XN y0 y1 y2 y3 y4
                have y0 : W7.cell? ⟨w.heap.size, 0, none⟩ = some (.slice (some ⟨b, o, none⟩) n ca) := K0.out.cell 0
                have y1 : W7.cell? ⟨w.heap.size + 1, 0, none⟩ = some (.int .i64 a0) := K1.out.cell 0
                have y2 : W7.cell? ⟨w.heap.size + 1, 1, none⟩ = some (.int .i64 b0) := K1.out.cell 1
                have y3 : W7.cell? ⟨w.heap.size + 1, 2, none⟩ = some (.int .i64 a1) := K1.out.cell 2
                have y4 : W7.cell? ⟨w.heap.size + 1, 3, none⟩ = some (.int .i64 b1) := K1.out.cell 3
                clear z0 z1
                have z0 : W7.cell? ⟨q12, 0, none⟩ = some (.int .i64 al) := K12.out.cell 0
                have z1 : W7.cell? ⟨q12, 1, none⟩ = some (.int .i64 ah) := K12.out.cell 1
                have z2 : W7.cell? ⟨q14, 0, none⟩ = some (.int .i64 bl) := K14.out.cell 0
                have z3 : W7.cell? ⟨q14, 1, none⟩ = some (.int .i64 bh) := K14.out.cell 1
                have z4 : W7.cell? ⟨q16, 0, none⟩ = some (.int .i64 (min al bl)) := K16.out.cell 0
                have z5 : W7.cell? ⟨q16, 1, none⟩ = some (.int .i64 (max ah bh)) := K16.out.cell 1
                by_cases hc : a1 < a0
                · have d2 : decide (a1 < a0) = true := by simp [hc]
                  clear hc
                  go_wp2
                  go_ret
                  exact ⟨rfl, X.out⟩
                · have d2 : decide (a1 < a0) = false := by simp [hc]
                  have d3 : decide (al ≤ bl) = true := by simp only [decide_eq_true_eq]; exact MO.out (by omega)
                  clear hc
                  go_wp2
                  go_ret
                  exact ⟨rfl, X.out⟩



end Go.Proofs.Ytmddnpagfgilcaa
