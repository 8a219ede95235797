/- Tables: the reference of their errors. -/
import Derived.Test.YtmddnpagfgilcaaG1
import Derived.Test.YtmddnpagfgilcaaR6
import Derived.Lib.MinMax

namespace Go.Proofs.Ytmddnpagfgilcaa
open Go.RowKit Go.Shelf Go.Mem Go.RegInv
attribute [local go_sem] RelUpon_value RelUpon_skip RelUpon_enter BigFrame.eval_const BigFrame.eval_global BigFrame.eval_func


def hardB (v : Int) : Bool := withinB v 0 2000
theorem isHard_any (v : Int) (w : World) : Calls Try.prog 87 #[.int .i64 v] w fun e w' => e = .returned (.bool (hardB v)) ∧ w = w' := by
  have H1 := Lib.hid (fun W => show Calls Try.prog 20 #[.int .i64 v, .int .i64 0, .int .i64 2000] W fun e w' => e = .returned (.bool (hardB v)) ∧ W = w' from within_any v 0 2000 W)
  generalize hardB v = b1 at *
  go_enter Try.func87, Try.ntmps87
  go_wp2_with (go_at_call 20; (with_reducible refine (H1.out _).mono ?_); rintro e w' ⟨rfl, rfl⟩)
  go_ret
  exact ⟨rfl, rfl⟩
theorem endsE_eq (a b : Int) : endsE a b = if withinB a 0 10000 = true then (if withinB b 0 10000 = true then (if b < a then 9 else 0) else 2) else 2 := by
  unfold endsE
  rw [show rangeE 0 10000 [a, b] = if withinB a 0 10000 = true then (if withinB b 0 10000 = true then 0 else 2) else 2 by
    unfold rangeE errIf withinB outB
    by_cases h1 : 0 ≤ a <;> by_cases h2 : a ≤ 10000 <;> by_cases h3 : 0 ≤ b <;> by_cases h4 : b ≤ 10000 <;> simp [h1, h2, h3, h4] <;> omega]
  cases withinB a 0 10000 <;> cases withinB b 0 10000 <;> by_cases h : b < a <;> simp [firstE, errIf, h]
set_option maxRecDepth 100000 in
set_option maxHeartbeats 4000000 in
theorem refRangeErr_any (a b : Int) (w : World) : Calls Try.prog 38 #[.agg #[.int .i64 a, .int .i64 b]] w fun e w' => e = .returned (.int .i64 (endsE a b)) ∧ Ext w w' := by
  have HE := Lib.hid (endsE_eq a b)
  have H1 := Lib.hid (fun W => within_any a 0 10000 W)
  have H2 := Lib.hid (fun W => within_any b 0 10000 W)
  generalize endsE a b = z at *
  generalize withinB a 0 10000 = b1 at *
  generalize withinB b 0 10000 = b2 at *
  cases b1 with
  | false =>
    go_enter Try.func38, Try.ntmps38
    go_wp2_with (go_at_call 20; (with_reducible refine (H1.out _).mono ?_); rintro e w' ⟨rfl, rfl⟩)
    go_ret
    exact ⟨ret_int (by rw [HE.out]; rfl), Ext.alloc _ _⟩
  | true =>
    cases b2 with
    | false =>
      go_enter Try.func38, Try.ntmps38
      go_wp2_with (first
        | (go_at_call 20; (with_reducible refine (H1.out _).mono ?_); rintro e w' ⟨rfl, rfl⟩)
        | (go_at_call 20; (with_reducible refine (H2.out _).mono ?_); rintro e w' ⟨rfl, rfl⟩))
      go_ret
      exact ⟨ret_int (by rw [HE.out]; rfl), Ext.alloc _ _⟩
    | true =>
      by_cases h : b < a
      · have HZ := Lib.hid (show z = 9 by rw [HE.out, if_pos rfl, if_pos rfl, if_pos h])
        clear HE
        go_enter Try.func38, Try.ntmps38
        go_wp2_with (first
          | (go_at_call 20; (with_reducible refine (H1.out _).mono ?_); rintro e w' ⟨rfl, rfl⟩)
          | (go_at_call 20; (with_reducible refine (H2.out _).mono ?_); rintro e w' ⟨rfl, rfl⟩))
        go_ret
        exact ⟨ret_int HZ.out.symm, Ext.alloc _ _⟩
      · have HZ := Lib.hid (show z = 0 by rw [HE.out, if_pos rfl, if_pos rfl, if_neg h])
        clear HE
        go_enter Try.func38, Try.ntmps38
        go_wp2_with (first
          | (go_at_call 20; (with_reducible refine (H1.out _).mono ?_); rintro e w' ⟨rfl, rfl⟩)
          | (go_at_call 20; (with_reducible refine (H2.out _).mono ?_); rintro e w' ⟨rfl, rfl⟩))
        go_ret
        exact ⟨ret_int HZ.out.symm, Ext.alloc _ _⟩
set_option maxRecDepth 100000 in
set_option maxHeartbeats 4000000 in
theorem refIsIn_any {A : Option Addr} {n ca : Nat} {xs : List Kn} {x0 x1 : Kn} {w : World} (a : Int) (hn : xs.length = n) (hA : RowsAt 3 Kn.enc w A xs) (h0 : xs[0]? = some x0) (h1 : xs[n - 1]? = some x1) :
    Calls Try.prog 39 #[.agg #[.slice A n ca], .int .i64 a] w fun e w' => e = .returned (.bool (withinB a x0.f x1.f)) ∧ Ext w w' := by
  have hl := hA.1
  have hn0 := (List.getElem?_eq_some_iff.1 h0).1
  rw [hn] at hn0 hl
  obtain ⟨b, o, rfl, hb, hc⟩ := row_at hA h0
  obtain ⟨b2, o2, he, _, hc2⟩ := row_at hA h1
  obtain ⟨rfl, rfl⟩ : b = b2 ∧ o = o2 := by simpa using he
  have p0 := hc 0 _ rfl
  have p1 := hc2 0 _ rfl
  simp only [Nat.zero_mul, Nat.add_zero] at p0 p1
  obtain ⟨W0, hW0⟩ : ∃ W0, W0 = w.alloc (.cells #[.slice (some ⟨b, o, none⟩) n ca] 64) := ⟨_, rfl⟩
  have k0 : Blk W0 w.heap.size 64 #[.slice (some ⟨b, o, none⟩) n ca] := by rw [hW0]; exact Blk.new _ _ _
  have E0 := Lib.hid (show Ext w W0 by rw [hW0]; exact Ext.alloc _ _)
  have y0 : W0.cell? ⟨w.heap.size, 0, none⟩ = some (.slice (some ⟨b, o, none⟩) n ca) := k0.cell 0
  have r0 := E0.out.cell p0
  have r1 := E0.out.cell p1
  clear k0 p0 p1 hc hc2 h0 h1 hA hn he
  go_enter Try.func39, Try.ntmps39
  go_wp2
  rw [← hW0]
  clear hW0
  go_wp2
  refine wp_region_each [some 5, some 6, some 7, some 8, some 9, some 10, some 11, some 12, some 13, some 14, some 15, some 16, some 17, some 18, some 19, some 20, some 4] [[1], [2], [6], [7], [8], [9], [2], [11], [2], [13], [14], [15], [12, 16], [17], [18], [5, 10, 19], [20]]
    [Is (.int .i64 (a)), Is (.pointer (some ⟨w.heap.size, 0, none⟩)), Is (.slice (some ⟨b, o, none⟩) n ca), Is (.pointer (some ⟨b, o, none⟩)), Is (.pointer (some ⟨b, o, none⟩)), Is (.int .i64 (x0.f)), Is (.pointer (some ⟨w.heap.size, 0, none⟩)), Is (.slice (some ⟨b, o, none⟩) n ca), Is (.pointer (some ⟨w.heap.size, 0, none⟩)), Is (.slice (some ⟨b, o, none⟩) n ca), Is (.int .i64 ((n : Int))), Is (.int .i64 ((n : Int) - 1)), Is (.pointer (some ⟨b, o + (n - 1) * 3, none⟩)), Is (.pointer (some ⟨b, o + (n - 1) * 3, none⟩)), Is (.int .i64 (x1.f)), Is (.bool (withinB a x0.f x1.f)), Is (.bool (withinB a x0.f x1.f))]
    (by kernel_rfl) (by kernel_rfl) (by kernel_rfl) (by kernel_rfl) (by kernel_rfl) Ext (fun W => Ext W0 W)
    (fun W _ => Ext.refl W) (fun W W' h k => h.trans k) ?_ (Ext.drew _) ?_ ?_
  · repeat (refine ⟨fun _ _ _ _ k h => (by first | exact h | exact (IntsAt.ext h k)), ?_⟩)
    exact trivial
  · refine ⟨?_, ?_, ?_, ?_, ?_, ?_, ?_, ?_, ?_, ?_, ?_, ?_, ?_, ?_, ?_, ?_, ?_, trivial⟩
    all_goals intro ρ W ⟨kc, kg, kf⟩ hF hs
    · obtain ⟨h0, -⟩ := hs
      replace h0 : ρ (.tmp 1) = .int .i64 (a) := h0
      go_simp
      exact ⟨Ext.refl _, rfl⟩
    · obtain ⟨h0, -⟩ := hs
      replace h0 : ρ (.tmp 2) = .pointer (some ⟨w.heap.size, 0, none⟩) := h0
      go_simp
      exact ⟨Ext.refl _, rfl⟩
    · obtain ⟨h0, -⟩ := hs
      replace h0 : ρ (.tmp 6) = .pointer (some ⟨w.heap.size, 0, none⟩) := h0
      have hc0 : W.cell? ⟨w.heap.size, 0, none⟩ = some (.slice (some ⟨b, o, none⟩) n ca) := hF.cell (by assumption)
      go_simp
      exact ⟨Ext.refl _, rfl⟩
    · obtain ⟨h0, -⟩ := hs
      replace h0 : ρ (.tmp 7) = .slice (some ⟨b, o, none⟩) n ca := h0
      have hb2 : (0 : Int) < (n : Int) := by omega
      have hb3 : 0 < n := by omega
      go_simp
      exact ⟨Ext.refl _, rfl⟩
    · obtain ⟨h0, -⟩ := hs
      replace h0 : ρ (.tmp 8) = .pointer (some ⟨b, o, none⟩) := h0
      go_simp
      exact ⟨Ext.refl _, rfl⟩
    · obtain ⟨h0, -⟩ := hs
      replace h0 : ρ (.tmp 9) = .pointer (some ⟨b, o, none⟩) := h0
      have hc0 : W.cell? ⟨b, o, none⟩ = some (.int .i64 (x0.f)) := hF.cell (by assumption)
      go_simp
      exact ⟨Ext.refl _, rfl⟩
    · obtain ⟨h0, -⟩ := hs
      replace h0 : ρ (.tmp 2) = .pointer (some ⟨w.heap.size, 0, none⟩) := h0
      go_simp
      exact ⟨Ext.refl _, rfl⟩
    · obtain ⟨h0, -⟩ := hs
      replace h0 : ρ (.tmp 11) = .pointer (some ⟨w.heap.size, 0, none⟩) := h0
      have hc0 : W.cell? ⟨w.heap.size, 0, none⟩ = some (.slice (some ⟨b, o, none⟩) n ca) := hF.cell (by assumption)
      go_simp
      exact ⟨Ext.refl _, rfl⟩
    · obtain ⟨h0, -⟩ := hs
      replace h0 : ρ (.tmp 2) = .pointer (some ⟨w.heap.size, 0, none⟩) := h0
      go_simp
      exact ⟨Ext.refl _, rfl⟩
    · obtain ⟨h0, -⟩ := hs
      replace h0 : ρ (.tmp 13) = .pointer (some ⟨w.heap.size, 0, none⟩) := h0
      have hc0 : W.cell? ⟨w.heap.size, 0, none⟩ = some (.slice (some ⟨b, o, none⟩) n ca) := hF.cell (by assumption)
      go_simp
      exact ⟨Ext.refl _, rfl⟩
    · obtain ⟨h0, -⟩ := hs
      replace h0 : ρ (.tmp 14) = .slice (some ⟨b, o, none⟩) n ca := h0
      go_simp
      exact ⟨Ext.refl _, rfl⟩
    · obtain ⟨h0, -⟩ := hs
      replace h0 : ρ (.tmp 15) = .int .i64 ((n : Int)) := h0
      have hw : IntKind.i64.wrap ((n : Int) - 1) = (n : Int) - 1 := wrap_id _ (by omega) (by omega)
      go_simp
      exact ⟨Ext.refl _, rfl⟩
    · obtain ⟨h0, h1, -⟩ := hs
      replace h0 : ρ (.tmp 12) = .slice (some ⟨b, o, none⟩) n ca := h0
      replace h1 : ρ (.tmp 16) = .int .i64 ((n : Int) - 1) := h1
      have hb6 : (1 : Int) ≤ (n : Int) := by omega
      have hb2 : (n : Int) - 1 < (n : Int) := by omega
      have hb3 : (0 : Int) ≤ (n : Int) - 1 := by omega
      have hb4 : ((n : Int) - 1).toNat = n - 1 := by omega
      have hb5 : n - 1 < n := by omega
      go_simp
      exact ⟨Ext.refl _, rfl⟩
    · obtain ⟨h0, -⟩ := hs
      replace h0 : ρ (.tmp 17) = .pointer (some ⟨b, o + (n - 1) * 3, none⟩) := h0
      go_simp
      exact ⟨Ext.refl _, rfl⟩
    · obtain ⟨h0, -⟩ := hs
      replace h0 : ρ (.tmp 18) = .pointer (some ⟨b, o + (n - 1) * 3, none⟩) := h0
      have hc0 : W.cell? ⟨b, o + (n - 1) * 3, none⟩ = some (.int .i64 (x1.f)) := hF.cell (by assumption)
      go_simp
      exact ⟨Ext.refl _, rfl⟩
    · obtain ⟨h0, h1, h2, -⟩ := hs
      replace h0 : ρ (.tmp 5) = .int .i64 (a) := h0
      replace h1 : ρ (.tmp 10) = .int .i64 (x0.f) := h1
      replace h2 : ρ (.tmp 19) = .int .i64 (x1.f) := h2
      go_simp
      refine (within_any _ _ _ _).mono ?_; rintro e w' ⟨rfl, rfl⟩; exact ⟨_, rfl, Ext.refl _, rfl⟩
    · obtain ⟨h0, -⟩ := hs
      replace h0 : ρ (.tmp 20) = .bool (withinB a x0.f x1.f) := h0
      go_simp
      exact ⟨Ext.refl _, rfl⟩
  · intro fv W hF hs
    obtain ⟨-, -, -, -, -, -, -, -, -, -, -, -, -, -, -, -, h4, -⟩ := hs
    replace h4 : fv 4 = .bool (withinB a x0.f x1.f) := h4
    simp only [fin, List.filterMap]
    go_simp
    go_wp2
    go_ret
    exact ⟨rfl, E0.out.trans hF⟩
theorem refCeil_any (n b : Int) (hb : 0 < b ∧ b ≤ 1000000000) (hn : -1000000000 ≤ n ∧ n ≤ 1000000000) (w : World) :
    Calls Try.prog 97 #[.int .i64 n, .int .i64 b] w fun e w' => e = .returned (.int .i64 (-(-n / b))) ∧ w = w' := by
  obtain ⟨hb1, hb2⟩ := hb
  obtain ⟨hn1, hn2⟩ := hn
  have HF := Lib.hid (fun W => floor_any (-n) b ⟨by omega, by omega⟩ ⟨by omega, by omega⟩ W)
  have q1 : -n / b ≤ 1000000000 := by
    have := Int.ediv_le_of_le_mul hb1 (show -n ≤ 1000000000 * b by
      have : 1000000000 * 1 ≤ 1000000000 * b := Int.mul_le_mul_of_nonneg_left (by omega) (by omega)
      omega)
    exact this
  have q2 : -1000000000 ≤ -n / b := by
    refine Int.le_ediv_of_mul_le hb1 ?_
    have : (-1000000000) * b ≤ (-1000000000) * 1 := Int.mul_le_mul_of_nonpos_left (by omega) (by omega)
    omega
  generalize -n / b = q at *
  go_enter Try.func97, Try.ntmps97
  go_wp2_with (go_at_call 30; refine (HF.out _).mono ?_; rintro e W1 ⟨rfl, rfl⟩)
  go_ret
  exact ⟨rfl, rfl⟩

theorem kntE_eq (b : Bool) (x : Kn) : kntE b x = if hardB x.f = true then (if hardB x.lo = true then (if hardB x.hi = true then (if x.hi < x.lo then 9 else if b = true then 9 else 0) else 2) else 2) else 2 := by
  unfold kntE
  rw [show rangeE 0 2000 [x.f, x.lo, x.hi] = if hardB x.f = true then (if hardB x.lo = true then (if hardB x.hi = true then 0 else 2) else 2) else 2 by
    unfold rangeE errIf hardB withinB outB
    by_cases h1 : 0 ≤ x.f <;> by_cases h2 : x.f ≤ 2000 <;> by_cases h3 : 0 ≤ x.lo <;> by_cases h4 : x.lo ≤ 2000 <;> by_cases h5 : 0 ≤ x.hi <;> by_cases h6 : x.hi ≤ 2000 <;> simp [h1, h2, h3, h4, h5, h6] <;> omega]
  cases hardB x.f <;> cases hardB x.lo <;> cases hardB x.hi <;> cases b <;> by_cases h : x.hi < x.lo <;> simp [firstE, errIf, h]
theorem befK_false {xs : List Kn} {k : Nat} {x y : Kn} (hx : xs[k + 1]? = some x) (hy : xs[k]? = some y) : befK xs (k + 1) = decide (x.f ≤ y.f ∨ x.lo < y.lo ∨ x.hi < y.hi) := by
  unfold befK aftB
  rw [if_neg (by omega), show xs.getD (k + 1) default = x by simp [hx], show xs.getD (k + 1 - 1) default = y by simp [hy]]
  by_cases h1 : y.f < x.f <;> by_cases h2 : y.lo ≤ x.lo <;> by_cases h3 : y.hi ≤ x.hi <;> simp [h1, h2, h3] <;> omega
theorem checkX_stop {xs : List Kn} {n k : Nat} {x : Kn} {v : Int} (hk : k < n) (hx : xs[k]? = some x) (hp : checkX xs = firstAt (tabAt xs) (n - k) k) (hv : kntE (befK xs k) x = v) (h : v ≠ 0) : checkX xs = ((k : Int), v) := by
  have e : tabAt xs k = v := by unfold tabAt; rw [show xs.getD k default = x by simp [hx]]; exact hv
  rw [hp, firstAt_step _ hk, e, if_pos h]
theorem checkX_next {xs : List Kn} {n k : Nat} {x : Kn} (hk : k < n) (hx : xs[k]? = some x) (hp : checkX xs = firstAt (tabAt xs) (n - k) k) (hv : kntE (befK xs k) x = 0) : checkX xs = firstAt (tabAt xs) (n - (k + 1)) (k + 1) := by
  have e : tabAt xs k = 0 := by unfold tabAt; rw [show xs.getD k default = x by simp [hx]]; exact hv
  rw [hp, firstAt_step _ hk, e, if_neg (by simp)]
theorem countE_lo {n : Nat} (h : n < 2) : countE n 2 12 = 10 := by
  unfold countE; simp [firstE, errIf]; omega
theorem countE_hi {n : Nat} (h : 12 < n) : countE n 2 12 = 8 := by
  unfold countE; simp [firstE, errIf]; omega
theorem countE_in {n : Nat} (h : 2 ≤ n) (h2 : n ≤ 12) : countE n 2 12 = 0 := by
  unfold countE; simp [firstE, errIf]; omega

set_option maxRecDepth 100000 in
set_option maxHeartbeats 4000000 in
theorem refTable_any {A : Option Addr} {n ca : Nat} {xs : List Kn} {w : World} (hn : xs.length = n) (hn2 : n ≤ 1000) (hA : RowsAt 3 Kn.enc w A xs) :
    Calls Try.prog 37 #[.agg #[.slice A n ca]] w fun e w' => e = .returned (.tuple #[.int .i64 (checkX xs).1, .int .i64 (checkX xs).2]) ∧ Ext w w' := by
  obtain ⟨W0, hW0⟩ : ∃ W0, W0 = w.alloc (.cells #[.slice A n ca] 64) := ⟨_, rfl⟩
  have K0 := Lib.hid (show Blk W0 w.heap.size 64 #[.slice A n ca] by rw [hW0]; exact Blk.new _ _ _)
  have E0 := Lib.hid (show Ext w W0 by rw [hW0]; exact Ext.alloc _ _)
  have y0 : W0.cell? ⟨w.heap.size, 0, none⟩ = some (.slice A n ca) := K0.out.cell 0
  rcases Nat.lt_or_ge n 2 with hlo | hlo
  · have HC := Lib.hid (show checkX xs = (0, 10) by unfold checkX; rw [hn, countE_lo hlo]; rfl)
    have hlo2 : (n : Int) < 2 := by omega
    clear hA
    go_enter Try.func37, Try.ntmps37
    go_wp2
    rw [← hW0]
    clear hW0
    go_wp2
    go_ret2
    exact ⟨by rw [HC.out]; rfl, E0.out⟩
  have hlo2 : ¬ (n : Int) < 2 := by omega
  rcases Nat.lt_or_ge 12 n with hhi | hhi
  · have HC := Lib.hid (show checkX xs = (0, 8) by unfold checkX; rw [hn, countE_hi hhi]; rfl)
    have hhi2 : (12 : Int) < n := by omega
    clear hA
    go_enter Try.func37, Try.ntmps37
    go_wp2
    rw [← hW0]
    clear hW0
    go_wp2
    go_ret2
    exact ⟨by rw [HC.out]; rfl, E0.out⟩
  have hhi2 : ¬ (12 : Int) < n := by omega
  have HC0 := Lib.hid (show checkX xs = firstAt (tabAt xs) n 0 by unfold checkX; rw [hn, countE_in hlo hhi]; rfl)
  have HA := Lib.hid hA
  have HN := Lib.hid hn
  clear hA hn
  go_enter Try.func37, Try.ntmps37
  go_wp2
  rw [← hW0]
  clear hW0
  go_wp2
  clear y0
  go_loopw [4] (fun i wr => ∃ k : Nat, k ≤ n ∧ i = .int .i64 k ∧ Ext W0 wr ∧ checkX xs = firstAt (tabAt xs) (n - k) k) (fun i _ => n - (intOf i).toNat)
  case atStart => exact ⟨0, Nat.zero_le _, rfl, Ext.refl _, HC0.out⟩
  case round =>
    obtain ⟨k, hk, rfl, hx, hcx⟩ := hrel
    have X := Lib.hid hx
    have HCX := Lib.hid hcx
    clear hx hcx
    have y0 : wr.cell? ⟨w.heap.size, 0, none⟩ = some (.slice A n ca) := (K0.out.ext X.out).cell 0
    by_cases hlt : k < n
    · obtain ⟨x, hxk⟩ : ∃ x, xs[k]? = some x := ⟨_, List.getElem?_eq_getElem (by have := HN.out; omega)⟩
      obtain ⟨b, o, rfl, hb, hc⟩ := row_at (HA.out.ext (E0.out.trans X.out)) hxk
      have p0 : wr.cell? ⟨b, o + k * 3, none⟩ = some (.int .i64 x.f) := hc 0 _ rfl
      have p1 : wr.cell? ⟨b, o + k * 3 + 1, none⟩ = some (.int .i64 x.lo) := hc 1 _ rfl
      have p2 : wr.cell? ⟨b, o + k * 3 + 2, none⟩ = some (.int .i64 x.hi) := hc 2 _ rfl
      have HX := Lib.hid hxk
      clear hb hc hxk
      have hlt2 : (k : Int) < (n : Int) := by omega
      have HKE := Lib.hid (kntE_eq (befK xs k) x)
      have H1 := Lib.hid (fun W => isHard_any x.f W)
      have H2 := Lib.hid (fun W => isHard_any x.lo W)
      have H3 := Lib.hid (fun W => isHard_any x.hi W)
      generalize hardB x.f = b1 at *
      generalize hardB x.lo = b2 at *
      generalize hardB x.hi = b3 at *
      cases b1 with
      | false =>
        have HC := Lib.hid (checkX_stop (v := 2) hlt HX.out HCX.out (by rw [HKE.out]; rfl) (by decide))
        clear HKE
        go_wp2_with (first
          | (go_at_call 87; (with_reducible refine (H1.out _).mono ?_); rintro e w' ⟨rfl, rfl⟩)
          | (go_at_call 87; (with_reducible refine (H2.out _).mono ?_); rintro e w' ⟨rfl, rfl⟩)
          | (go_at_call 87; (with_reducible refine (H3.out _).mono ?_); rintro e w' ⟨rfl, rfl⟩))
        go_ret2
        exact ⟨by rw [HC.out]; rfl, E0.out.trans (X.out.trans (Ext.alloc wr (.cells #[.int .i64 x.f, .int .i64 x.lo, .int .i64 x.hi] 78)))⟩
      | true =>
        cases b2 with
        | false =>
          have HC := Lib.hid (checkX_stop (v := 2) hlt HX.out HCX.out (by rw [HKE.out]; rfl) (by decide))
          clear HKE
          go_wp2_with (first
            | (go_at_call 87; (with_reducible refine (H1.out _).mono ?_); rintro e w' ⟨rfl, rfl⟩)
            | (go_at_call 87; (with_reducible refine (H2.out _).mono ?_); rintro e w' ⟨rfl, rfl⟩)
            | (go_at_call 87; (with_reducible refine (H3.out _).mono ?_); rintro e w' ⟨rfl, rfl⟩))
          go_ret2
          exact ⟨by rw [HC.out]; rfl, E0.out.trans (X.out.trans (Ext.alloc wr (.cells #[.int .i64 x.f, .int .i64 x.lo, .int .i64 x.hi] 78)))⟩
        | true =>
          cases b3 with
          | false =>
            have HC := Lib.hid (checkX_stop (v := 2) hlt HX.out HCX.out (by rw [HKE.out]; rfl) (by decide))
            clear HKE
            go_wp2_with (first
              | (go_at_call 87; (with_reducible refine (H1.out _).mono ?_); rintro e w' ⟨rfl, rfl⟩)
              | (go_at_call 87; (with_reducible refine (H2.out _).mono ?_); rintro e w' ⟨rfl, rfl⟩)
              | (go_at_call 87; (with_reducible refine (H3.out _).mono ?_); rintro e w' ⟨rfl, rfl⟩))
            go_ret2
            exact ⟨by rw [HC.out]; rfl, E0.out.trans (X.out.trans (Ext.alloc wr (.cells #[.int .i64 x.f, .int .i64 x.lo, .int .i64 x.hi] 78)))⟩
          | true =>
            have HK := Lib.hid (show kntE (befK xs k) x = if x.hi < x.lo then 9 else if befK xs k = true then 9 else 0 by rw [HKE.out]; rfl)
            clear HKE
            have hb1 : ((k : Int)).toNat = k := by omega
            go_wp2_with (first
              | (go_at_call 87; (with_reducible refine (H1.out _).mono ?_); rintro e w' ⟨rfl, rfl⟩)
              | (go_at_call 87; (with_reducible refine (H2.out _).mono ?_); rintro e w' ⟨rfl, rfl⟩)
              | (go_at_call 87; (with_reducible refine (H3.out _).mono ?_); rintro e w' ⟨rfl, rfl⟩))
            obtain ⟨W5, hW5⟩ : ∃ W5, W5 = wr.alloc (.cells #[.int .i64 x.f, .int .i64 x.lo, .int .i64 x.hi] 78) := ⟨_, rfl⟩
            rw [← hW5]
            have Q := Lib.hid (show Blk W5 wr.heap.size 78 #[.int .i64 x.f, .int .i64 x.lo, .int .i64 x.hi] by rw [hW5]; exact Blk.new _ _ _)
            have hx5 : Ext wr W5 := by rw [hW5]; exact Ext.alloc _ _
            have X5 := Lib.hid (X.out.trans hx5)
            have l0 : W5.cell? ⟨wr.heap.size, 0, none⟩ = some (.int .i64 x.f) := Q.out.cell 0
            have l1 : W5.cell? ⟨wr.heap.size, 1, none⟩ = some (.int .i64 x.lo) := Q.out.cell 1
            have l2 : W5.cell? ⟨wr.heap.size, 2, none⟩ = some (.int .i64 x.hi) := Q.out.cell 2
            clear y0 p0 p1 p2 hx5 hW5 Q hb1
            have y0 : W5.cell? ⟨w.heap.size, 0, none⟩ = some (.slice (some ⟨b, o, none⟩) n ca) := (K0.out.ext X5.out).cell 0
            generalize wr.heap.size = q at *
            by_cases hA : x.hi < x.lo
            · have HC := Lib.hid (checkX_stop (v := 9) hlt HX.out HCX.out (by rw [HK.out, if_pos hA]) (by decide))
              clear HK
              refine wp_region_eachM [true, true, true, true, true, true, true, true, false, false, false, false, false, false, false, false, false, false, false, false, false, false, false, false, false, false, false, false, false, false, false, false, false, false, false, false, false, false, false, false, false, false, false, false, false, false, false, false, false, false, true] [(52, false, false), (52, false, false), (52, false, false), (55, true, false), (55, true, false), (55, true, false), (55, true, false), (55, true, false), (55, true, false), (55, true, false), (55, true, false), (55, true, false), (55, true, false), (55, true, false), (66, false, false), (66, false, false), (66, false, false), (66, false, false), (66, false, false), (66, false, false), (66, false, false), (66, false, false), (66, false, false), (66, false, false), (66, false, false), (66, false, false), (55, true, false), (55, true, false), (80, false, false), (80, false, false), (80, false, false), (80, false, false), (80, false, false), (80, false, false), (80, false, false), (80, false, false), (80, false, false), (80, false, false), (80, false, false), (80, false, false), (55, true, false), (52, false, false)] [some 45, some 46, some 47, some 48, some 49, some 50, some 51, some 52, some 53, some 54, some 55, some 56, some 57, some 58, some 59, some 60, some 61, some 62, some 63, some 64, some 65, some 66, some 67, some 68, some 69, some 70, some 71, some 72, some 73, some 74, some 75, some 76, some 77, some 78, some 79, some 80, some 81, some 82, some 83, some 84, some 85, some 86, some 87, some 88, some 89, some 90, some 91, some 92, some 93, some 94, some 95] [[5], [45], [46], [5], [48], [49], [47, 50], [51], [4, 52], [53, 52], [54, 52], [5, 55], [56, 55], [1, 55], [58, 55], [4, 55], [60, 55], [59, 61, 55], [62, 55], [63, 55], [57, 64, 55], [65, 55], [5, 66], [67, 66], [68, 66], [1, 66], [70, 66], [4, 66], [72, 66], [71, 73, 66], [74, 66], [75, 66], [76, 66], [69, 77, 66], [66, 78, 55], [79, 55], [5, 80], [81, 80], [82, 80], [1, 80], [84, 80], [4, 80], [86, 80], [85, 87, 80], [88, 80], [89, 80], [90, 80], [83, 91, 80], [80, 92, 55], [55, 93, 52], [52, 94]]
                [Is (.pointer (some ⟨q, 1, none⟩)), Is (.pointer (some ⟨q, 1, none⟩)), Is (.int .i64 (x.lo)), Is (.pointer (some ⟨q, 1, none⟩)), Is (.pointer (some ⟨q, 2, none⟩)), Is (.int .i64 (x.hi)), Is (.bool (true)), Is (.bool (true)), Is (undef), Is (undef), Is (undef), Is (undef), Is (undef), Is (undef), Is (undef), Is (undef), Is (undef), Is (undef), Is (undef), Is (undef), Is (undef), Is (undef), Is (undef), Is (undef), Is (undef), Is (undef), Is (undef), Is (undef), Is (undef), Is (undef), Is (undef), Is (undef), Is (undef), Is (undef), Is (undef), Is (undef), Is (undef), Is (undef), Is (undef), Is (undef), Is (undef), Is (undef), Is (undef), Is (undef), Is (undef), Is (undef), Is (undef), Is (undef), Is (undef), Is (undef), Is (.bool (true))]
                (by kernel_rfl) (by kernel_rfl) (by kernel_rfl) (by kernel_rfl) (by kernel_rfl) Ext (fun W => Ext W5 W)
                (fun W _ => Ext.refl W) (fun W W' h k => h.trans k) ?_ (by intro p hp; simp only [List.mem_cons, List.not_mem_nil, or_false] at hp; rcases hp with rfl | rfl | rfl | rfl | rfl | rfl | rfl | rfl | rfl | rfl | rfl | rfl | rfl | rfl | rfl | rfl | rfl | rfl | rfl | rfl | rfl | rfl | rfl | rfl | rfl | rfl | rfl | rfl | rfl | rfl | rfl | rfl | rfl | rfl | rfl | rfl | rfl | rfl | rfl | rfl | rfl | rfl <;> exact ⟨_, rfl, fun v W h => by rw [show v = _ from h]; first | (simp; done) | (simp [undef]; done)⟩) (Ext.drew _) ?_ ?_
              · repeat (refine ⟨fun _ _ _ _ k h => (by first | exact h | exact (IntsAt.ext h k)), ?_⟩)
                exact trivial
              · refine ⟨?_, ?_, ?_, ?_, ?_, ?_, ?_, ?_, ?_, ?_, ?_, ?_, ?_, ?_, ?_, ?_, ?_, ?_, ?_, ?_, ?_, ?_, ?_, ?_, ?_, ?_, ?_, ?_, ?_, ?_, ?_, ?_, ?_, ?_, ?_, ?_, ?_, ?_, ?_, ?_, ?_, ?_, ?_, ?_, ?_, ?_, ?_, ?_, ?_, ?_, ?_, trivial⟩
                · intro ρ W ⟨kc, kg, kf⟩ hF hs
                  obtain ⟨h0, -⟩ := hs
                  replace h0 : ρ (.tmp 5) = .pointer (some ⟨q, 0, none⟩) := h0
                  go_simp
                  exact ⟨Ext.refl _, rfl⟩
                · intro ρ W ⟨kc, kg, kf⟩ hF hs
                  obtain ⟨h0, -⟩ := hs
                  replace h0 : ρ (.tmp 45) = .pointer (some ⟨q, 1, none⟩) := h0
                  go_simp
                  exact ⟨Ext.refl _, rfl⟩
                · intro ρ W ⟨kc, kg, kf⟩ hF hs
                  obtain ⟨h0, -⟩ := hs
                  replace h0 : ρ (.tmp 46) = .pointer (some ⟨q, 1, none⟩) := h0
                  have hc0 : W.cell? ⟨q, 1, none⟩ = some (.int .i64 (x.lo)) := hF.cell (by assumption)
                  go_simp
                  exact ⟨Ext.refl _, rfl⟩
                · intro ρ W ⟨kc, kg, kf⟩ hF hs
                  obtain ⟨h0, -⟩ := hs
                  replace h0 : ρ (.tmp 5) = .pointer (some ⟨q, 0, none⟩) := h0
                  go_simp
                  exact ⟨Ext.refl _, rfl⟩
                · intro ρ W ⟨kc, kg, kf⟩ hF hs
                  obtain ⟨h0, -⟩ := hs
                  replace h0 : ρ (.tmp 48) = .pointer (some ⟨q, 1, none⟩) := h0
                  go_simp
                  exact ⟨Ext.refl _, rfl⟩
                · intro ρ W ⟨kc, kg, kf⟩ hF hs
                  obtain ⟨h0, -⟩ := hs
                  replace h0 : ρ (.tmp 49) = .pointer (some ⟨q, 2, none⟩) := h0
                  have hc0 : W.cell? ⟨q, 2, none⟩ = some (.int .i64 (x.hi)) := hF.cell (by assumption)
                  go_simp
                  exact ⟨Ext.refl _, rfl⟩
                · intro ρ W ⟨kc, kg, kf⟩ hF hs
                  obtain ⟨h0, h1, -⟩ := hs
                  replace h0 : ρ (.tmp 47) = .int .i64 (x.lo) := h0
                  replace h1 : ρ (.tmp 50) = .int .i64 (x.hi) := h1
                  have hd : decide (x.hi < x.lo) = true := by simp; omega
                  go_simp
                  exact ⟨Ext.refl _, rfl⟩
                · intro ρ W ⟨kc, kg, kf⟩ hF hs
                  obtain ⟨h0, -⟩ := hs
                  replace h0 : ρ (.tmp 51) = .bool (true) := h0
                  go_simp
                  exact ⟨Ext.refl _, rfl⟩
                · exact fun _ => rfl
                · exact fun _ => rfl
                · exact fun _ => rfl
                · exact fun _ => rfl
                · exact fun _ => rfl
                · exact fun _ => rfl
                · exact fun _ => rfl
                · exact fun _ => rfl
                · exact fun _ => rfl
                · exact fun _ => rfl
                · exact fun _ => rfl
                · exact fun _ => rfl
                · exact fun _ => rfl
                · exact fun _ => rfl
                · exact fun _ => rfl
                · exact fun _ => rfl
                · exact fun _ => rfl
                · exact fun _ => rfl
                · exact fun _ => rfl
                · exact fun _ => rfl
                · exact fun _ => rfl
                · exact fun _ => rfl
                · exact fun _ => rfl
                · exact fun _ => rfl
                · exact fun _ => rfl
                · exact fun _ => rfl
                · exact fun _ => rfl
                · exact fun _ => rfl
                · exact fun _ => rfl
                · exact fun _ => rfl
                · exact fun _ => rfl
                · exact fun _ => rfl
                · exact fun _ => rfl
                · exact fun _ => rfl
                · exact fun _ => rfl
                · exact fun _ => rfl
                · exact fun _ => rfl
                · exact fun _ => rfl
                · exact fun _ => rfl
                · exact fun _ => rfl
                · exact fun _ => rfl
                · exact fun _ => rfl
                · intro ρ W ⟨kc, kg, kf⟩ hF hs
                  obtain ⟨h0, h1, -⟩ := hs
                  replace h0 : ρ (.tmp 52) = .bool (true) := h0
                  replace h1 : ρ (.tmp 94) = undef := h1
                  go_simp
                  exact ⟨Ext.refl _, rfl⟩
              · intro fv W hF hs
                obtain ⟨-, -, -, -, -, -, -, -, -, -, -, -, -, -, -, -, -, -, -, -, -, -, -, -, -, -, -, -, -, -, -, -, -, -, -, -, -, -, -, -, -, -, -, -, -, -, -, -, -, -, h95, -⟩ := hs
                replace h95 : fv 95 = .bool (true) := h95
                simp only [fin, List.filterMap]
                go_simp
                have X6 := Lib.hid (E0.out.trans (X5.out.trans hF))
                clear hF y0 l0 l1 l2
                go_wp2
                go_ret2
                exact ⟨by rw [HC.out]; rfl, X6.out⟩
            · have HK := Lib.hid (show kntE (befK xs k) x = if befK xs k = true then 9 else 0 by rw [HK.out, if_neg hA])
              rcases Nat.eq_zero_or_pos k with hk0 | hk0
              · have HC := Lib.hid (checkX_next hlt HX.out HCX.out (by rw [HK.out, hk0]; rfl))
                clear HK
                have hk1 : ¬ (0 : Int) < (k : Int) := by omega
                have HK0 := Lib.hid hk0
                clear hk0
                refine wp_region_eachM [true, true, true, true, true, true, true, true, true, true, true, false, false, false, false, false, false, false, false, false, false, false, false, false, false, false, false, false, false, false, false, false, false, false, false, false, false, false, false, false, false, false, false, false, false, false, false, false, false, true, true] [(52, false, true), (52, false, true), (52, false, true), (55, true, false), (55, true, false), (55, true, false), (55, true, false), (55, true, false), (55, true, false), (55, true, false), (55, true, false), (55, true, false), (55, true, false), (55, true, false), (66, false, false), (66, false, false), (66, false, false), (66, false, false), (66, false, false), (66, false, false), (66, false, false), (66, false, false), (66, false, false), (66, false, false), (66, false, false), (66, false, false), (55, true, false), (55, true, false), (80, false, false), (80, false, false), (80, false, false), (80, false, false), (80, false, false), (80, false, false), (80, false, false), (80, false, false), (80, false, false), (80, false, false), (80, false, false), (80, false, false), (55, true, false), (52, false, true)] [some 45, some 46, some 47, some 48, some 49, some 50, some 51, some 52, some 53, some 54, some 55, some 56, some 57, some 58, some 59, some 60, some 61, some 62, some 63, some 64, some 65, some 66, some 67, some 68, some 69, some 70, some 71, some 72, some 73, some 74, some 75, some 76, some 77, some 78, some 79, some 80, some 81, some 82, some 83, some 84, some 85, some 86, some 87, some 88, some 89, some 90, some 91, some 92, some 93, some 94, some 95] [[5], [45], [46], [5], [48], [49], [47, 50], [51], [4, 52], [53, 52], [54, 52], [5, 55], [56, 55], [1, 55], [58, 55], [4, 55], [60, 55], [59, 61, 55], [62, 55], [63, 55], [57, 64, 55], [65, 55], [5, 66], [67, 66], [68, 66], [1, 66], [70, 66], [4, 66], [72, 66], [71, 73, 66], [74, 66], [75, 66], [76, 66], [69, 77, 66], [66, 78, 55], [79, 55], [5, 80], [81, 80], [82, 80], [1, 80], [84, 80], [4, 80], [86, 80], [85, 87, 80], [88, 80], [89, 80], [90, 80], [83, 91, 80], [80, 92, 55], [55, 93, 52], [52, 94]]
                  [Is (.pointer (some ⟨q, 1, none⟩)), Is (.pointer (some ⟨q, 1, none⟩)), Is (.int .i64 (x.lo)), Is (.pointer (some ⟨q, 1, none⟩)), Is (.pointer (some ⟨q, 2, none⟩)), Is (.int .i64 (x.hi)), Is (.bool (false)), Is (.bool (false)), Is (.int .i64 ((k : Int))), Is (.bool (false)), Is (.bool (false)), Is (undef), Is (undef), Is (undef), Is (undef), Is (undef), Is (undef), Is (undef), Is (undef), Is (undef), Is (undef), Is (undef), Is (undef), Is (undef), Is (undef), Is (undef), Is (undef), Is (undef), Is (undef), Is (undef), Is (undef), Is (undef), Is (undef), Is (undef), Is (undef), Is (undef), Is (undef), Is (undef), Is (undef), Is (undef), Is (undef), Is (undef), Is (undef), Is (undef), Is (undef), Is (undef), Is (undef), Is (undef), Is (undef), Is (.bool (false)), Is (.bool (false))]
                  (by kernel_rfl) (by kernel_rfl) (by kernel_rfl) (by kernel_rfl) (by kernel_rfl) Ext (fun W => Ext W5 W)
                  (fun W _ => Ext.refl W) (fun W W' h k => h.trans k) ?_ (by intro p hp; simp only [List.mem_cons, List.not_mem_nil, or_false] at hp; rcases hp with rfl | rfl | rfl | rfl | rfl | rfl | rfl | rfl | rfl | rfl | rfl | rfl | rfl | rfl | rfl | rfl | rfl | rfl | rfl | rfl | rfl | rfl | rfl | rfl | rfl | rfl | rfl | rfl | rfl | rfl | rfl | rfl | rfl | rfl | rfl | rfl | rfl | rfl | rfl | rfl | rfl | rfl <;> exact ⟨_, rfl, fun v W h => by rw [show v = _ from h]; first | (simp; done) | (simp [undef]; done)⟩) (Ext.drew _) ?_ ?_
                · repeat (refine ⟨fun _ _ _ _ k h => (by first | exact h | exact (IntsAt.ext h k)), ?_⟩)
                  exact trivial
                · refine ⟨?_, ?_, ?_, ?_, ?_, ?_, ?_, ?_, ?_, ?_, ?_, ?_, ?_, ?_, ?_, ?_, ?_, ?_, ?_, ?_, ?_, ?_, ?_, ?_, ?_, ?_, ?_, ?_, ?_, ?_, ?_, ?_, ?_, ?_, ?_, ?_, ?_, ?_, ?_, ?_, ?_, ?_, ?_, ?_, ?_, ?_, ?_, ?_, ?_, ?_, ?_, trivial⟩
                  · intro ρ W ⟨kc, kg, kf⟩ hF hs
                    obtain ⟨h0, -⟩ := hs
                    replace h0 : ρ (.tmp 5) = .pointer (some ⟨q, 0, none⟩) := h0
                    go_simp
                    exact ⟨Ext.refl _, rfl⟩
                  · intro ρ W ⟨kc, kg, kf⟩ hF hs
                    obtain ⟨h0, -⟩ := hs
                    replace h0 : ρ (.tmp 45) = .pointer (some ⟨q, 1, none⟩) := h0
                    go_simp
                    exact ⟨Ext.refl _, rfl⟩
                  · intro ρ W ⟨kc, kg, kf⟩ hF hs
                    obtain ⟨h0, -⟩ := hs
                    replace h0 : ρ (.tmp 46) = .pointer (some ⟨q, 1, none⟩) := h0
                    have hc0 : W.cell? ⟨q, 1, none⟩ = some (.int .i64 (x.lo)) := hF.cell (by assumption)
                    go_simp
                    exact ⟨Ext.refl _, rfl⟩
                  · intro ρ W ⟨kc, kg, kf⟩ hF hs
                    obtain ⟨h0, -⟩ := hs
                    replace h0 : ρ (.tmp 5) = .pointer (some ⟨q, 0, none⟩) := h0
                    go_simp
                    exact ⟨Ext.refl _, rfl⟩
                  · intro ρ W ⟨kc, kg, kf⟩ hF hs
                    obtain ⟨h0, -⟩ := hs
                    replace h0 : ρ (.tmp 48) = .pointer (some ⟨q, 1, none⟩) := h0
                    go_simp
                    exact ⟨Ext.refl _, rfl⟩
                  · intro ρ W ⟨kc, kg, kf⟩ hF hs
                    obtain ⟨h0, -⟩ := hs
                    replace h0 : ρ (.tmp 49) = .pointer (some ⟨q, 2, none⟩) := h0
                    have hc0 : W.cell? ⟨q, 2, none⟩ = some (.int .i64 (x.hi)) := hF.cell (by assumption)
                    go_simp
                    exact ⟨Ext.refl _, rfl⟩
                  · intro ρ W ⟨kc, kg, kf⟩ hF hs
                    obtain ⟨h0, h1, -⟩ := hs
                    replace h0 : ρ (.tmp 47) = .int .i64 (x.lo) := h0
                    replace h1 : ρ (.tmp 50) = .int .i64 (x.hi) := h1
                    have hd : decide (x.hi < x.lo) = false := by simp; omega
                    go_simp
                    exact ⟨Ext.refl _, rfl⟩
                  · intro ρ W ⟨kc, kg, kf⟩ hF hs
                    obtain ⟨h0, -⟩ := hs
                    replace h0 : ρ (.tmp 51) = .bool (false) := h0
                    go_simp
                    exact ⟨Ext.refl _, rfl⟩
                  · intro ρ W ⟨kc, kg, kf⟩ hF hs
                    obtain ⟨h0, h1, -⟩ := hs
                    replace h0 : ρ (.tmp 4) = .int .i64 ((k : Int)) := h0
                    replace h1 : ρ (.tmp 52) = .bool (false) := h1
                    go_simp
                    exact ⟨Ext.refl _, rfl⟩
                  · intro ρ W ⟨kc, kg, kf⟩ hF hs
                    obtain ⟨h0, h1, -⟩ := hs
                    replace h0 : ρ (.tmp 53) = .int .i64 ((k : Int)) := h0
                    replace h1 : ρ (.tmp 52) = .bool (false) := h1
                    have hd2 : ¬ 0 < k := by have := HK0.out; omega
                    go_simp
                    exact ⟨Ext.refl _, rfl⟩
                  · intro ρ W ⟨kc, kg, kf⟩ hF hs
                    obtain ⟨h0, h1, -⟩ := hs
                    replace h0 : ρ (.tmp 54) = .bool (false) := h0
                    replace h1 : ρ (.tmp 52) = .bool (false) := h1
                    go_simp
                    exact ⟨Ext.refl _, rfl⟩
                  · exact fun _ => rfl
                  · exact fun _ => rfl
                  · exact fun _ => rfl
                  · exact fun _ => rfl
                  · exact fun _ => rfl
                  · exact fun _ => rfl
                  · exact fun _ => rfl
                  · exact fun _ => rfl
                  · exact fun _ => rfl
                  · exact fun _ => rfl
                  · exact fun _ => rfl
                  · exact fun _ => rfl
                  · exact fun _ => rfl
                  · exact fun _ => rfl
                  · exact fun _ => rfl
                  · exact fun _ => rfl
                  · exact fun _ => rfl
                  · exact fun _ => rfl
                  · exact fun _ => rfl
                  · exact fun _ => rfl
                  · exact fun _ => rfl
                  · exact fun _ => rfl
                  · exact fun _ => rfl
                  · exact fun _ => rfl
                  · exact fun _ => rfl
                  · exact fun _ => rfl
                  · exact fun _ => rfl
                  · exact fun _ => rfl
                  · exact fun _ => rfl
                  · exact fun _ => rfl
                  · exact fun _ => rfl
                  · exact fun _ => rfl
                  · exact fun _ => rfl
                  · exact fun _ => rfl
                  · exact fun _ => rfl
                  · exact fun _ => rfl
                  · exact fun _ => rfl
                  · exact fun _ => rfl
                  · intro ρ W ⟨kc, kg, kf⟩ hF hs
                    obtain ⟨h0, h1, h2, -⟩ := hs
                    replace h0 : ρ (.tmp 55) = .bool (false) := h0
                    replace h1 : ρ (.tmp 93) = undef := h1
                    replace h2 : ρ (.tmp 52) = .bool (false) := h2
                    go_simp
                    exact ⟨Ext.refl _, rfl⟩
                  · intro ρ W ⟨kc, kg, kf⟩ hF hs
                    obtain ⟨h0, h1, -⟩ := hs
                    replace h0 : ρ (.tmp 52) = .bool (false) := h0
                    replace h1 : ρ (.tmp 94) = .bool (false) := h1
                    go_simp
                    exact ⟨Ext.refl _, rfl⟩
                · intro fv W hF hs
                  obtain ⟨-, -, -, -, -, -, -, -, -, -, -, -, -, -, -, -, -, -, -, -, -, -, -, -, -, -, -, -, -, -, -, -, -, -, -, -, -, -, -, -, -, -, -, -, -, -, -, -, -, -, h95, -⟩ := hs
                  replace h95 : fv 95 = .bool (false) := h95
                  simp only [fin, List.filterMap]
                  go_simp
                  have X6 := Lib.hid (X5.out.trans hF)
                  clear hF y0 l0 l1 l2
                  go_wp2
                  go_roundw
                  case rel => exact ⟨k + 1, by omega, by go_num, X6.out, HC.out⟩
                  case measure => simp [intOf]; omega
              · obtain ⟨j, hj⟩ : ∃ j, k = j + 1 := ⟨k - 1, by omega⟩
                obtain ⟨y, hyj⟩ : ∃ y, xs[j]? = some y := ⟨_, List.getElem?_eq_getElem (by have := HN.out; omega)⟩
                obtain ⟨b2, o2, he, _, hc⟩ := row_at (HA.out.ext (E0.out.trans X5.out)) hyj
                obtain ⟨rfl, rfl⟩ : b = b2 ∧ o = o2 := by simpa using he
                have t2 : W5.cell? ⟨b, o + j * 3, none⟩ = some (.int .i64 y.f) := hc 0 _ rfl
                have t3 : W5.cell? ⟨b, o + j * 3 + 1, none⟩ = some (.int .i64 y.lo) := hc 1 _ rfl
                have t4 : W5.cell? ⟨b, o + j * 3 + 2, none⟩ = some (.int .i64 y.hi) := hc 2 _ rfl
                have HB := Lib.hid (show befK xs k = decide (x.f ≤ y.f ∨ x.lo < y.lo ∨ x.hi < y.hi) by
                  have := HX.out
                  rw [hj] at this ⊢
                  exact befK_false this hyj)
                have hj1 : j < k := by omega
                have hj2 : k ≤ j + 1 := by omega
                clear hj hc he hyj
                have HS := Lib.hid (fun (h : x.f ≤ y.f ∨ x.lo < y.lo ∨ x.hi < y.hi) => checkX_stop (v := 9) hlt HX.out HCX.out (by rw [HK.out, HB.out, if_pos (decide_eq_true h)]) (by decide))
                have HG := Lib.hid (fun (h : ¬ (x.f ≤ y.f ∨ x.lo < y.lo ∨ x.hi < y.hi)) => checkX_next hlt HX.out HCX.out (by rw [HK.out, HB.out, if_neg (by simpa using h)]))
                clear HK HB
                by_cases h1 : x.f ≤ y.f
                · have HC := Lib.hid (HS.out (Or.inl h1))
                  clear HS HG
                  refine wp_region_eachM [true, true, true, true, true, true, true, true, true, true, true, true, true, true, true, true, true, true, true, true, true, true, false, false, false, false, false, false, false, false, false, false, false, false, true, true, false, false, false, false, false, false, false, false, false, false, false, false, true, true, true] [(52, false, true), (52, false, true), (52, false, true), (55, true, true), (55, true, true), (55, true, true), (55, true, true), (55, true, true), (55, true, true), (55, true, true), (55, true, true), (55, true, true), (55, true, true), (55, true, true), (66, false, false), (66, false, false), (66, false, false), (66, false, false), (66, false, false), (66, false, false), (66, false, false), (66, false, false), (66, false, false), (66, false, false), (66, false, false), (66, false, false), (55, true, true), (55, true, true), (80, false, false), (80, false, false), (80, false, false), (80, false, false), (80, false, false), (80, false, false), (80, false, false), (80, false, false), (80, false, false), (80, false, false), (80, false, false), (80, false, false), (55, true, true), (52, false, true)] [some 45, some 46, some 47, some 48, some 49, some 50, some 51, some 52, some 53, some 54, some 55, some 56, some 57, some 58, some 59, some 60, some 61, some 62, some 63, some 64, some 65, some 66, some 67, some 68, some 69, some 70, some 71, some 72, some 73, some 74, some 75, some 76, some 77, some 78, some 79, some 80, some 81, some 82, some 83, some 84, some 85, some 86, some 87, some 88, some 89, some 90, some 91, some 92, some 93, some 94, some 95] [[5], [45], [46], [5], [48], [49], [47, 50], [51], [4, 52], [53, 52], [54, 52], [5, 55], [56, 55], [1, 55], [58, 55], [4, 55], [60, 55], [59, 61, 55], [62, 55], [63, 55], [57, 64, 55], [65, 55], [5, 66], [67, 66], [68, 66], [1, 66], [70, 66], [4, 66], [72, 66], [71, 73, 66], [74, 66], [75, 66], [76, 66], [69, 77, 66], [66, 78, 55], [79, 55], [5, 80], [81, 80], [82, 80], [1, 80], [84, 80], [4, 80], [86, 80], [85, 87, 80], [88, 80], [89, 80], [90, 80], [83, 91, 80], [80, 92, 55], [55, 93, 52], [52, 94]]
                    [Is (.pointer (some ⟨q, 1, none⟩)), Is (.pointer (some ⟨q, 1, none⟩)), Is (.int .i64 (x.lo)), Is (.pointer (some ⟨q, 1, none⟩)), Is (.pointer (some ⟨q, 2, none⟩)), Is (.int .i64 (x.hi)), Is (.bool (false)), Is (.bool (false)), Is (.int .i64 ((k : Int))), Is (.bool (true)), Is (.bool (true)), Is (.pointer (some ⟨q, 0, none⟩)), Is (.int .i64 (x.f)), Is (.pointer (some ⟨w.heap.size, 0, none⟩)), Is (.slice (some ⟨b, o, none⟩) n ca), Is (.int .i64 ((k : Int))), Is (.int .i64 ((k : Int) - 1)), Is (.pointer (some ⟨b, o + j * 3, none⟩)), Is (.pointer (some ⟨b, o + j * 3, none⟩)), Is (.int .i64 (y.f)), Is (.bool (true)), Is (.bool (true)), Is (undef), Is (undef), Is (undef), Is (undef), Is (undef), Is (undef), Is (undef), Is (undef), Is (undef), Is (undef), Is (undef), Is (undef), Is (.bool (true)), Is (.bool (true)), Is (undef), Is (undef), Is (undef), Is (undef), Is (undef), Is (undef), Is (undef), Is (undef), Is (undef), Is (undef), Is (undef), Is (undef), Is (.bool (true)), Is (.bool (true)), Is (.bool (true))]
                    (by kernel_rfl) (by kernel_rfl) (by kernel_rfl) (by kernel_rfl) (by kernel_rfl) Ext (fun W => Ext W5 W)
                    (fun W _ => Ext.refl W) (fun W W' h k => h.trans k) ?_ (by intro p hp; simp only [List.mem_cons, List.not_mem_nil, or_false] at hp; rcases hp with rfl | rfl | rfl | rfl | rfl | rfl | rfl | rfl | rfl | rfl | rfl | rfl | rfl | rfl | rfl | rfl | rfl | rfl | rfl | rfl | rfl | rfl | rfl | rfl | rfl | rfl | rfl | rfl | rfl | rfl | rfl | rfl | rfl | rfl | rfl | rfl | rfl | rfl | rfl | rfl | rfl | rfl <;> exact ⟨_, rfl, fun v W h => by rw [show v = _ from h]; first | (simp; done) | (simp [undef]; done)⟩) (Ext.drew _) ?_ ?_
                  · repeat (refine ⟨fun _ _ _ _ k h => (by first | exact h | exact (IntsAt.ext h k)), ?_⟩)
                    exact trivial
                  · refine ⟨?_, ?_, ?_, ?_, ?_, ?_, ?_, ?_, ?_, ?_, ?_, ?_, ?_, ?_, ?_, ?_, ?_, ?_, ?_, ?_, ?_, ?_, ?_, ?_, ?_, ?_, ?_, ?_, ?_, ?_, ?_, ?_, ?_, ?_, ?_, ?_, ?_, ?_, ?_, ?_, ?_, ?_, ?_, ?_, ?_, ?_, ?_, ?_, ?_, ?_, ?_, trivial⟩
                    · intro ρ W ⟨kc, kg, kf⟩ hF hs
                      obtain ⟨h0, -⟩ := hs
                      replace h0 : ρ (.tmp 5) = .pointer (some ⟨q, 0, none⟩) := h0
                      go_simp
                      exact ⟨Ext.refl _, rfl⟩
                    · intro ρ W ⟨kc, kg, kf⟩ hF hs
                      obtain ⟨h0, -⟩ := hs
                      replace h0 : ρ (.tmp 45) = .pointer (some ⟨q, 1, none⟩) := h0
                      go_simp
                      exact ⟨Ext.refl _, rfl⟩
                    · intro ρ W ⟨kc, kg, kf⟩ hF hs
                      obtain ⟨h0, -⟩ := hs
                      replace h0 : ρ (.tmp 46) = .pointer (some ⟨q, 1, none⟩) := h0
                      have hc0 : W.cell? ⟨q, 1, none⟩ = some (.int .i64 (x.lo)) := hF.cell (by assumption)
                      go_simp
                      exact ⟨Ext.refl _, rfl⟩
                    · intro ρ W ⟨kc, kg, kf⟩ hF hs
                      obtain ⟨h0, -⟩ := hs
                      replace h0 : ρ (.tmp 5) = .pointer (some ⟨q, 0, none⟩) := h0
                      go_simp
                      exact ⟨Ext.refl _, rfl⟩
                    · intro ρ W ⟨kc, kg, kf⟩ hF hs
                      obtain ⟨h0, -⟩ := hs
                      replace h0 : ρ (.tmp 48) = .pointer (some ⟨q, 1, none⟩) := h0
                      go_simp
                      exact ⟨Ext.refl _, rfl⟩
                    · intro ρ W ⟨kc, kg, kf⟩ hF hs
                      obtain ⟨h0, -⟩ := hs
                      replace h0 : ρ (.tmp 49) = .pointer (some ⟨q, 2, none⟩) := h0
                      have hc0 : W.cell? ⟨q, 2, none⟩ = some (.int .i64 (x.hi)) := hF.cell (by assumption)
                      go_simp
                      exact ⟨Ext.refl _, rfl⟩
                    · intro ρ W ⟨kc, kg, kf⟩ hF hs
                      obtain ⟨h0, h1, -⟩ := hs
                      replace h0 : ρ (.tmp 47) = .int .i64 (x.lo) := h0
                      replace h1 : ρ (.tmp 50) = .int .i64 (x.hi) := h1
                      have hd : decide (x.hi < x.lo) = false := by simp; omega
                      go_simp
                      exact ⟨Ext.refl _, rfl⟩
                    · intro ρ W ⟨kc, kg, kf⟩ hF hs
                      obtain ⟨h0, -⟩ := hs
                      replace h0 : ρ (.tmp 51) = .bool (false) := h0
                      go_simp
                      exact ⟨Ext.refl _, rfl⟩
                    · intro ρ W ⟨kc, kg, kf⟩ hF hs
                      obtain ⟨h0, h1, -⟩ := hs
                      replace h0 : ρ (.tmp 4) = .int .i64 ((k : Int)) := h0
                      replace h1 : ρ (.tmp 52) = .bool (false) := h1
                      go_simp
                      exact ⟨Ext.refl _, rfl⟩
                    · intro ρ W ⟨kc, kg, kf⟩ hF hs
                      obtain ⟨h0, h1, -⟩ := hs
                      replace h0 : ρ (.tmp 53) = .int .i64 ((k : Int)) := h0
                      replace h1 : ρ (.tmp 52) = .bool (false) := h1
                      have hd : decide ((0 : Int) < (k : Int)) = true := by simp; omega
                      go_simp
                      exact ⟨Ext.refl _, rfl⟩
                    · intro ρ W ⟨kc, kg, kf⟩ hF hs
                      obtain ⟨h0, h1, -⟩ := hs
                      replace h0 : ρ (.tmp 54) = .bool (true) := h0
                      replace h1 : ρ (.tmp 52) = .bool (false) := h1
                      go_simp
                      exact ⟨Ext.refl _, rfl⟩
                    · intro ρ W ⟨kc, kg, kf⟩ hF hs
                      obtain ⟨h0, h1, -⟩ := hs
                      replace h0 : ρ (.tmp 5) = .pointer (some ⟨q, 0, none⟩) := h0
                      replace h1 : ρ (.tmp 55) = .bool (true) := h1
                      go_simp
                      exact ⟨Ext.refl _, rfl⟩
                    · intro ρ W ⟨kc, kg, kf⟩ hF hs
                      obtain ⟨h0, h1, -⟩ := hs
                      replace h0 : ρ (.tmp 56) = .pointer (some ⟨q, 0, none⟩) := h0
                      replace h1 : ρ (.tmp 55) = .bool (true) := h1
                      have hc0 : W.cell? ⟨q, 0, none⟩ = some (.int .i64 (x.f)) := hF.cell (by assumption)
                      go_simp
                      exact ⟨Ext.refl _, rfl⟩
                    · intro ρ W ⟨kc, kg, kf⟩ hF hs
                      obtain ⟨h0, h1, -⟩ := hs
                      replace h0 : ρ (.tmp 1) = .pointer (some ⟨w.heap.size, 0, none⟩) := h0
                      replace h1 : ρ (.tmp 55) = .bool (true) := h1
                      go_simp
                      exact ⟨Ext.refl _, rfl⟩
                    · intro ρ W ⟨kc, kg, kf⟩ hF hs
                      obtain ⟨h0, h1, -⟩ := hs
                      replace h0 : ρ (.tmp 58) = .pointer (some ⟨w.heap.size, 0, none⟩) := h0
                      replace h1 : ρ (.tmp 55) = .bool (true) := h1
                      have hc0 : W.cell? ⟨w.heap.size, 0, none⟩ = some (.slice (some ⟨b, o, none⟩) n ca) := hF.cell (by assumption)
                      go_simp
                      exact ⟨Ext.refl _, rfl⟩
                    · intro ρ W ⟨kc, kg, kf⟩ hF hs
                      obtain ⟨h0, h1, -⟩ := hs
                      replace h0 : ρ (.tmp 4) = .int .i64 ((k : Int)) := h0
                      replace h1 : ρ (.tmp 55) = .bool (true) := h1
                      go_simp
                      exact ⟨Ext.refl _, rfl⟩
                    · intro ρ W ⟨kc, kg, kf⟩ hF hs
                      obtain ⟨h0, h1, -⟩ := hs
                      replace h0 : ρ (.tmp 60) = .int .i64 ((k : Int)) := h0
                      replace h1 : ρ (.tmp 55) = .bool (true) := h1
                      have hw : IntKind.i64.wrap ((k : Int) - 1) = (k : Int) - 1 := wrap_id _ (by omega) (by omega)
                      go_simp
                      exact ⟨Ext.refl _, rfl⟩
                    · intro ρ W ⟨kc, kg, kf⟩ hF hs
                      obtain ⟨h0, h1, h2, -⟩ := hs
                      replace h0 : ρ (.tmp 59) = .slice (some ⟨b, o, none⟩) n ca := h0
                      replace h1 : ρ (.tmp 61) = .int .i64 ((k : Int) - 1) := h1
                      replace h2 : ρ (.tmp 55) = .bool (true) := h2
                      have hb6 : (1 : Int) ≤ (k : Int) := by omega
                      have hb1 : (k : Int) - 1 < (n : Int) := by omega
                      have hb3 : (0 : Int) ≤ (k : Int) - 1 := by omega
                      have hb4 : ((k : Int) - 1).toNat = j := by omega
                      have hb7 : k - 1 = j := by omega
                      have hb5 : (k : Int) ≤ (n : Int) := by omega
                      have hb8 : j < n := by omega
                      go_simp
                      exact ⟨Ext.refl _, rfl⟩
                    · intro ρ W ⟨kc, kg, kf⟩ hF hs
                      obtain ⟨h0, h1, -⟩ := hs
                      replace h0 : ρ (.tmp 62) = .pointer (some ⟨b, o + j * 3, none⟩) := h0
                      replace h1 : ρ (.tmp 55) = .bool (true) := h1
                      go_simp
                      exact ⟨Ext.refl _, rfl⟩
                    · intro ρ W ⟨kc, kg, kf⟩ hF hs
                      obtain ⟨h0, h1, -⟩ := hs
                      replace h0 : ρ (.tmp 63) = .pointer (some ⟨b, o + j * 3, none⟩) := h0
                      replace h1 : ρ (.tmp 55) = .bool (true) := h1
                      have hc0 : W.cell? ⟨b, o + j * 3, none⟩ = some (.int .i64 (y.f)) := hF.cell (by assumption)
                      go_simp
                      exact ⟨Ext.refl _, rfl⟩
                    · intro ρ W ⟨kc, kg, kf⟩ hF hs
                      obtain ⟨h0, h1, h2, -⟩ := hs
                      replace h0 : ρ (.tmp 57) = .int .i64 (x.f) := h0
                      replace h1 : ρ (.tmp 64) = .int .i64 (y.f) := h1
                      replace h2 : ρ (.tmp 55) = .bool (true) := h2
                      have hd : decide (x.f ≤ y.f) = true := by simp; omega
                      go_simp
                      exact ⟨Ext.refl _, rfl⟩
                    · intro ρ W ⟨kc, kg, kf⟩ hF hs
                      obtain ⟨h0, h1, -⟩ := hs
                      replace h0 : ρ (.tmp 65) = .bool (true) := h0
                      replace h1 : ρ (.tmp 55) = .bool (true) := h1
                      go_simp
                      exact ⟨Ext.refl _, rfl⟩
                    · exact fun _ => rfl
                    · exact fun _ => rfl
                    · exact fun _ => rfl
                    · exact fun _ => rfl
                    · exact fun _ => rfl
                    · exact fun _ => rfl
                    · exact fun _ => rfl
                    · exact fun _ => rfl
                    · exact fun _ => rfl
                    · exact fun _ => rfl
                    · exact fun _ => rfl
                    · exact fun _ => rfl
                    · intro ρ W ⟨kc, kg, kf⟩ hF hs
                      obtain ⟨h0, h1, h2, -⟩ := hs
                      replace h0 : ρ (.tmp 66) = .bool (true) := h0
                      replace h1 : ρ (.tmp 78) = undef := h1
                      replace h2 : ρ (.tmp 55) = .bool (true) := h2
                      go_simp
                      exact ⟨Ext.refl _, rfl⟩
                    · intro ρ W ⟨kc, kg, kf⟩ hF hs
                      obtain ⟨h0, h1, -⟩ := hs
                      replace h0 : ρ (.tmp 79) = .bool (true) := h0
                      replace h1 : ρ (.tmp 55) = .bool (true) := h1
                      go_simp
                      exact ⟨Ext.refl _, rfl⟩
                    · exact fun _ => rfl
                    · exact fun _ => rfl
                    · exact fun _ => rfl
                    · exact fun _ => rfl
                    · exact fun _ => rfl
                    · exact fun _ => rfl
                    · exact fun _ => rfl
                    · exact fun _ => rfl
                    · exact fun _ => rfl
                    · exact fun _ => rfl
                    · exact fun _ => rfl
                    · exact fun _ => rfl
                    · intro ρ W ⟨kc, kg, kf⟩ hF hs
                      obtain ⟨h0, h1, h2, -⟩ := hs
                      replace h0 : ρ (.tmp 80) = .bool (true) := h0
                      replace h1 : ρ (.tmp 92) = undef := h1
                      replace h2 : ρ (.tmp 55) = .bool (true) := h2
                      go_simp
                      exact ⟨Ext.refl _, rfl⟩
                    · intro ρ W ⟨kc, kg, kf⟩ hF hs
                      obtain ⟨h0, h1, h2, -⟩ := hs
                      replace h0 : ρ (.tmp 55) = .bool (true) := h0
                      replace h1 : ρ (.tmp 93) = .bool (true) := h1
                      replace h2 : ρ (.tmp 52) = .bool (false) := h2
                      go_simp
                      exact ⟨Ext.refl _, rfl⟩
                    · intro ρ W ⟨kc, kg, kf⟩ hF hs
                      obtain ⟨h0, h1, -⟩ := hs
                      replace h0 : ρ (.tmp 52) = .bool (false) := h0
                      replace h1 : ρ (.tmp 94) = .bool (true) := h1
                      go_simp
                      exact ⟨Ext.refl _, rfl⟩
                  · intro fv W hF hs
                    obtain ⟨-, -, -, -, -, -, -, -, -, -, -, -, -, -, -, -, -, -, -, -, -, -, -, -, -, -, -, -, -, -, -, -, -, -, -, -, -, -, -, -, -, -, -, -, -, -, -, -, -, -, h95, -⟩ := hs
                    replace h95 : fv 95 = .bool (true) := h95
                    simp only [fin, List.filterMap]
                    go_simp
                    have X6 := Lib.hid (E0.out.trans (X5.out.trans hF))
                    clear hF y0 l0 l1 l2 t2 t3 t4
                    go_wp2
                    go_ret2
                    exact ⟨by rw [HC.out]; rfl, X6.out⟩
                · by_cases h2 : x.lo < y.lo
                  · have HC := Lib.hid (HS.out (Or.inr (Or.inl h2)))
                    clear HS HG
                    refine wp_region_eachM [true, true, true, true, true, true, true, true, true, true, true, true, true, true, true, true, true, true, true, true, true, true, true, true, true, true, true, true, true, true, true, true, true, true, true, true, false, false, false, false, false, false, false, false, false, false, false, false, true, true, true] [(52, false, true), (52, false, true), (52, false, true), (55, true, true), (55, true, true), (55, true, true), (55, true, true), (55, true, true), (55, true, true), (55, true, true), (55, true, true), (55, true, true), (55, true, true), (55, true, true), (66, false, true), (66, false, true), (66, false, true), (66, false, true), (66, false, true), (66, false, true), (66, false, true), (66, false, true), (66, false, true), (66, false, true), (66, false, true), (66, false, true), (55, true, true), (55, true, true), (80, false, false), (80, false, false), (80, false, false), (80, false, false), (80, false, false), (80, false, false), (80, false, false), (80, false, false), (80, false, false), (80, false, false), (80, false, false), (80, false, false), (55, true, true), (52, false, true)] [some 45, some 46, some 47, some 48, some 49, some 50, some 51, some 52, some 53, some 54, some 55, some 56, some 57, some 58, some 59, some 60, some 61, some 62, some 63, some 64, some 65, some 66, some 67, some 68, some 69, some 70, some 71, some 72, some 73, some 74, some 75, some 76, some 77, some 78, some 79, some 80, some 81, some 82, some 83, some 84, some 85, some 86, some 87, some 88, some 89, some 90, some 91, some 92, some 93, some 94, some 95] [[5], [45], [46], [5], [48], [49], [47, 50], [51], [4, 52], [53, 52], [54, 52], [5, 55], [56, 55], [1, 55], [58, 55], [4, 55], [60, 55], [59, 61, 55], [62, 55], [63, 55], [57, 64, 55], [65, 55], [5, 66], [67, 66], [68, 66], [1, 66], [70, 66], [4, 66], [72, 66], [71, 73, 66], [74, 66], [75, 66], [76, 66], [69, 77, 66], [66, 78, 55], [79, 55], [5, 80], [81, 80], [82, 80], [1, 80], [84, 80], [4, 80], [86, 80], [85, 87, 80], [88, 80], [89, 80], [90, 80], [83, 91, 80], [80, 92, 55], [55, 93, 52], [52, 94]]
                      [Is (.pointer (some ⟨q, 1, none⟩)), Is (.pointer (some ⟨q, 1, none⟩)), Is (.int .i64 (x.lo)), Is (.pointer (some ⟨q, 1, none⟩)), Is (.pointer (some ⟨q, 2, none⟩)), Is (.int .i64 (x.hi)), Is (.bool (false)), Is (.bool (false)), Is (.int .i64 ((k : Int))), Is (.bool (true)), Is (.bool (true)), Is (.pointer (some ⟨q, 0, none⟩)), Is (.int .i64 (x.f)), Is (.pointer (some ⟨w.heap.size, 0, none⟩)), Is (.slice (some ⟨b, o, none⟩) n ca), Is (.int .i64 ((k : Int))), Is (.int .i64 ((k : Int) - 1)), Is (.pointer (some ⟨b, o + j * 3, none⟩)), Is (.pointer (some ⟨b, o + j * 3, none⟩)), Is (.int .i64 (y.f)), Is (.bool (false)), Is (.bool (false)), Is (.pointer (some ⟨q, 1, none⟩)), Is (.pointer (some ⟨q, 1, none⟩)), Is (.int .i64 (x.lo)), Is (.pointer (some ⟨w.heap.size, 0, none⟩)), Is (.slice (some ⟨b, o, none⟩) n ca), Is (.int .i64 ((k : Int))), Is (.int .i64 ((k : Int) - 1)), Is (.pointer (some ⟨b, o + j * 3, none⟩)), Is (.pointer (some ⟨b, o + j * 3 + 1, none⟩)), Is (.pointer (some ⟨b, o + j * 3 + 1, none⟩)), Is (.int .i64 (y.lo)), Is (.bool (true)), Is (.bool (true)), Is (.bool (true)), Is (undef), Is (undef), Is (undef), Is (undef), Is (undef), Is (undef), Is (undef), Is (undef), Is (undef), Is (undef), Is (undef), Is (undef), Is (.bool (true)), Is (.bool (true)), Is (.bool (true))]
                      (by kernel_rfl) (by kernel_rfl) (by kernel_rfl) (by kernel_rfl) (by kernel_rfl) Ext (fun W => Ext W5 W)
                      (fun W _ => Ext.refl W) (fun W W' h k => h.trans k) ?_ (by intro p hp; simp only [List.mem_cons, List.not_mem_nil, or_false] at hp; rcases hp with rfl | rfl | rfl | rfl | rfl | rfl | rfl | rfl | rfl | rfl | rfl | rfl | rfl | rfl | rfl | rfl | rfl | rfl | rfl | rfl | rfl | rfl | rfl | rfl | rfl | rfl | rfl | rfl | rfl | rfl | rfl | rfl | rfl | rfl | rfl | rfl | rfl | rfl | rfl | rfl | rfl | rfl <;> exact ⟨_, rfl, fun v W h => by rw [show v = _ from h]; first | (simp; done) | (simp [undef]; done)⟩) (Ext.drew _) ?_ ?_
                    · repeat (refine ⟨fun _ _ _ _ k h => (by first | exact h | exact (IntsAt.ext h k)), ?_⟩)
                      exact trivial
                    · refine ⟨?_, ?_, ?_, ?_, ?_, ?_, ?_, ?_, ?_, ?_, ?_, ?_, ?_, ?_, ?_, ?_, ?_, ?_, ?_, ?_, ?_, ?_, ?_, ?_, ?_, ?_, ?_, ?_, ?_, ?_, ?_, ?_, ?_, ?_, ?_, ?_, ?_, ?_, ?_, ?_, ?_, ?_, ?_, ?_, ?_, ?_, ?_, ?_, ?_, ?_, ?_, trivial⟩
                      · intro ρ W ⟨kc, kg, kf⟩ hF hs
                        obtain ⟨h0, -⟩ := hs
                        replace h0 : ρ (.tmp 5) = .pointer (some ⟨q, 0, none⟩) := h0
                        go_simp
                        exact ⟨Ext.refl _, rfl⟩
                      · intro ρ W ⟨kc, kg, kf⟩ hF hs
                        obtain ⟨h0, -⟩ := hs
                        replace h0 : ρ (.tmp 45) = .pointer (some ⟨q, 1, none⟩) := h0
                        go_simp
                        exact ⟨Ext.refl _, rfl⟩
                      · intro ρ W ⟨kc, kg, kf⟩ hF hs
                        obtain ⟨h0, -⟩ := hs
                        replace h0 : ρ (.tmp 46) = .pointer (some ⟨q, 1, none⟩) := h0
                        have hc0 : W.cell? ⟨q, 1, none⟩ = some (.int .i64 (x.lo)) := hF.cell (by assumption)
                        go_simp
                        exact ⟨Ext.refl _, rfl⟩
                      · intro ρ W ⟨kc, kg, kf⟩ hF hs
                        obtain ⟨h0, -⟩ := hs
                        replace h0 : ρ (.tmp 5) = .pointer (some ⟨q, 0, none⟩) := h0
                        go_simp
                        exact ⟨Ext.refl _, rfl⟩
                      · intro ρ W ⟨kc, kg, kf⟩ hF hs
                        obtain ⟨h0, -⟩ := hs
                        replace h0 : ρ (.tmp 48) = .pointer (some ⟨q, 1, none⟩) := h0
                        go_simp
                        exact ⟨Ext.refl _, rfl⟩
                      · intro ρ W ⟨kc, kg, kf⟩ hF hs
                        obtain ⟨h0, -⟩ := hs
                        replace h0 : ρ (.tmp 49) = .pointer (some ⟨q, 2, none⟩) := h0
                        have hc0 : W.cell? ⟨q, 2, none⟩ = some (.int .i64 (x.hi)) := hF.cell (by assumption)
                        go_simp
                        exact ⟨Ext.refl _, rfl⟩
                      · intro ρ W ⟨kc, kg, kf⟩ hF hs
                        obtain ⟨h0, h1, -⟩ := hs
                        replace h0 : ρ (.tmp 47) = .int .i64 (x.lo) := h0
                        replace h1 : ρ (.tmp 50) = .int .i64 (x.hi) := h1
                        have hd : decide (x.hi < x.lo) = false := by simp; omega
                        go_simp
                        exact ⟨Ext.refl _, rfl⟩
                      · intro ρ W ⟨kc, kg, kf⟩ hF hs
                        obtain ⟨h0, -⟩ := hs
                        replace h0 : ρ (.tmp 51) = .bool (false) := h0
                        go_simp
                        exact ⟨Ext.refl _, rfl⟩
                      · intro ρ W ⟨kc, kg, kf⟩ hF hs
                        obtain ⟨h0, h1, -⟩ := hs
                        replace h0 : ρ (.tmp 4) = .int .i64 ((k : Int)) := h0
                        replace h1 : ρ (.tmp 52) = .bool (false) := h1
                        go_simp
                        exact ⟨Ext.refl _, rfl⟩
                      · intro ρ W ⟨kc, kg, kf⟩ hF hs
                        obtain ⟨h0, h1, -⟩ := hs
                        replace h0 : ρ (.tmp 53) = .int .i64 ((k : Int)) := h0
                        replace h1 : ρ (.tmp 52) = .bool (false) := h1
                        have hd : decide ((0 : Int) < (k : Int)) = true := by simp; omega
                        go_simp
                        exact ⟨Ext.refl _, rfl⟩
                      · intro ρ W ⟨kc, kg, kf⟩ hF hs
                        obtain ⟨h0, h1, -⟩ := hs
                        replace h0 : ρ (.tmp 54) = .bool (true) := h0
                        replace h1 : ρ (.tmp 52) = .bool (false) := h1
                        go_simp
                        exact ⟨Ext.refl _, rfl⟩
                      · intro ρ W ⟨kc, kg, kf⟩ hF hs
                        obtain ⟨h0, h1, -⟩ := hs
                        replace h0 : ρ (.tmp 5) = .pointer (some ⟨q, 0, none⟩) := h0
                        replace h1 : ρ (.tmp 55) = .bool (true) := h1
                        go_simp
                        exact ⟨Ext.refl _, rfl⟩
                      · intro ρ W ⟨kc, kg, kf⟩ hF hs
                        obtain ⟨h0, h1, -⟩ := hs
                        replace h0 : ρ (.tmp 56) = .pointer (some ⟨q, 0, none⟩) := h0
                        replace h1 : ρ (.tmp 55) = .bool (true) := h1
                        have hc0 : W.cell? ⟨q, 0, none⟩ = some (.int .i64 (x.f)) := hF.cell (by assumption)
                        go_simp
                        exact ⟨Ext.refl _, rfl⟩
                      · intro ρ W ⟨kc, kg, kf⟩ hF hs
                        obtain ⟨h0, h1, -⟩ := hs
                        replace h0 : ρ (.tmp 1) = .pointer (some ⟨w.heap.size, 0, none⟩) := h0
                        replace h1 : ρ (.tmp 55) = .bool (true) := h1
                        go_simp
                        exact ⟨Ext.refl _, rfl⟩
                      · intro ρ W ⟨kc, kg, kf⟩ hF hs
                        obtain ⟨h0, h1, -⟩ := hs
                        replace h0 : ρ (.tmp 58) = .pointer (some ⟨w.heap.size, 0, none⟩) := h0
                        replace h1 : ρ (.tmp 55) = .bool (true) := h1
                        have hc0 : W.cell? ⟨w.heap.size, 0, none⟩ = some (.slice (some ⟨b, o, none⟩) n ca) := hF.cell (by assumption)
                        go_simp
                        exact ⟨Ext.refl _, rfl⟩
                      · intro ρ W ⟨kc, kg, kf⟩ hF hs
                        obtain ⟨h0, h1, -⟩ := hs
                        replace h0 : ρ (.tmp 4) = .int .i64 ((k : Int)) := h0
                        replace h1 : ρ (.tmp 55) = .bool (true) := h1
                        go_simp
                        exact ⟨Ext.refl _, rfl⟩
                      · intro ρ W ⟨kc, kg, kf⟩ hF hs
                        obtain ⟨h0, h1, -⟩ := hs
                        replace h0 : ρ (.tmp 60) = .int .i64 ((k : Int)) := h0
                        replace h1 : ρ (.tmp 55) = .bool (true) := h1
                        have hw : IntKind.i64.wrap ((k : Int) - 1) = (k : Int) - 1 := wrap_id _ (by omega) (by omega)
                        go_simp
                        exact ⟨Ext.refl _, rfl⟩
                      · intro ρ W ⟨kc, kg, kf⟩ hF hs
                        obtain ⟨h0, h1, h2, -⟩ := hs
                        replace h0 : ρ (.tmp 59) = .slice (some ⟨b, o, none⟩) n ca := h0
                        replace h1 : ρ (.tmp 61) = .int .i64 ((k : Int) - 1) := h1
                        replace h2 : ρ (.tmp 55) = .bool (true) := h2
                        have hb6 : (1 : Int) ≤ (k : Int) := by omega
                        have hb1 : (k : Int) - 1 < (n : Int) := by omega
                        have hb3 : (0 : Int) ≤ (k : Int) - 1 := by omega
                        have hb4 : ((k : Int) - 1).toNat = j := by omega
                        have hb7 : k - 1 = j := by omega
                        have hb5 : (k : Int) ≤ (n : Int) := by omega
                        have hb8 : j < n := by omega
                        go_simp
                        exact ⟨Ext.refl _, rfl⟩
                      · intro ρ W ⟨kc, kg, kf⟩ hF hs
                        obtain ⟨h0, h1, -⟩ := hs
                        replace h0 : ρ (.tmp 62) = .pointer (some ⟨b, o + j * 3, none⟩) := h0
                        replace h1 : ρ (.tmp 55) = .bool (true) := h1
                        go_simp
                        exact ⟨Ext.refl _, rfl⟩
                      · intro ρ W ⟨kc, kg, kf⟩ hF hs
                        obtain ⟨h0, h1, -⟩ := hs
                        replace h0 : ρ (.tmp 63) = .pointer (some ⟨b, o + j * 3, none⟩) := h0
                        replace h1 : ρ (.tmp 55) = .bool (true) := h1
                        have hc0 : W.cell? ⟨b, o + j * 3, none⟩ = some (.int .i64 (y.f)) := hF.cell (by assumption)
                        go_simp
                        exact ⟨Ext.refl _, rfl⟩
                      · intro ρ W ⟨kc, kg, kf⟩ hF hs
                        obtain ⟨h0, h1, h2, -⟩ := hs
                        replace h0 : ρ (.tmp 57) = .int .i64 (x.f) := h0
                        replace h1 : ρ (.tmp 64) = .int .i64 (y.f) := h1
                        replace h2 : ρ (.tmp 55) = .bool (true) := h2
                        have hd : decide (x.f ≤ y.f) = false := by simp; omega
                        go_simp
                        exact ⟨Ext.refl _, rfl⟩
                      · intro ρ W ⟨kc, kg, kf⟩ hF hs
                        obtain ⟨h0, h1, -⟩ := hs
                        replace h0 : ρ (.tmp 65) = .bool (false) := h0
                        replace h1 : ρ (.tmp 55) = .bool (true) := h1
                        go_simp
                        exact ⟨Ext.refl _, rfl⟩
                      · intro ρ W ⟨kc, kg, kf⟩ hF hs
                        obtain ⟨h0, h1, -⟩ := hs
                        replace h0 : ρ (.tmp 5) = .pointer (some ⟨q, 0, none⟩) := h0
                        replace h1 : ρ (.tmp 66) = .bool (false) := h1
                        go_simp
                        exact ⟨Ext.refl _, rfl⟩
                      · intro ρ W ⟨kc, kg, kf⟩ hF hs
                        obtain ⟨h0, h1, -⟩ := hs
                        replace h0 : ρ (.tmp 67) = .pointer (some ⟨q, 1, none⟩) := h0
                        replace h1 : ρ (.tmp 66) = .bool (false) := h1
                        go_simp
                        exact ⟨Ext.refl _, rfl⟩
                      · intro ρ W ⟨kc, kg, kf⟩ hF hs
                        obtain ⟨h0, h1, -⟩ := hs
                        replace h0 : ρ (.tmp 68) = .pointer (some ⟨q, 1, none⟩) := h0
                        replace h1 : ρ (.tmp 66) = .bool (false) := h1
                        have hc0 : W.cell? ⟨q, 1, none⟩ = some (.int .i64 (x.lo)) := hF.cell (by assumption)
                        go_simp
                        exact ⟨Ext.refl _, rfl⟩
                      · intro ρ W ⟨kc, kg, kf⟩ hF hs
                        obtain ⟨h0, h1, -⟩ := hs
                        replace h0 : ρ (.tmp 1) = .pointer (some ⟨w.heap.size, 0, none⟩) := h0
                        replace h1 : ρ (.tmp 66) = .bool (false) := h1
                        go_simp
                        exact ⟨Ext.refl _, rfl⟩
                      · intro ρ W ⟨kc, kg, kf⟩ hF hs
                        obtain ⟨h0, h1, -⟩ := hs
                        replace h0 : ρ (.tmp 70) = .pointer (some ⟨w.heap.size, 0, none⟩) := h0
                        replace h1 : ρ (.tmp 66) = .bool (false) := h1
                        have hc0 : W.cell? ⟨w.heap.size, 0, none⟩ = some (.slice (some ⟨b, o, none⟩) n ca) := hF.cell (by assumption)
                        go_simp
                        exact ⟨Ext.refl _, rfl⟩
                      · intro ρ W ⟨kc, kg, kf⟩ hF hs
                        obtain ⟨h0, h1, -⟩ := hs
                        replace h0 : ρ (.tmp 4) = .int .i64 ((k : Int)) := h0
                        replace h1 : ρ (.tmp 66) = .bool (false) := h1
                        go_simp
                        exact ⟨Ext.refl _, rfl⟩
                      · intro ρ W ⟨kc, kg, kf⟩ hF hs
                        obtain ⟨h0, h1, -⟩ := hs
                        replace h0 : ρ (.tmp 72) = .int .i64 ((k : Int)) := h0
                        replace h1 : ρ (.tmp 66) = .bool (false) := h1
                        have hw : IntKind.i64.wrap ((k : Int) - 1) = (k : Int) - 1 := wrap_id _ (by omega) (by omega)
                        go_simp
                        exact ⟨Ext.refl _, rfl⟩
                      · intro ρ W ⟨kc, kg, kf⟩ hF hs
                        obtain ⟨h0, h1, h2, -⟩ := hs
                        replace h0 : ρ (.tmp 71) = .slice (some ⟨b, o, none⟩) n ca := h0
                        replace h1 : ρ (.tmp 73) = .int .i64 ((k : Int) - 1) := h1
                        replace h2 : ρ (.tmp 66) = .bool (false) := h2
                        have hb6 : (1 : Int) ≤ (k : Int) := by omega
                        have hb1 : (k : Int) - 1 < (n : Int) := by omega
                        have hb3 : (0 : Int) ≤ (k : Int) - 1 := by omega
                        have hb4 : ((k : Int) - 1).toNat = j := by omega
                        have hb7 : k - 1 = j := by omega
                        have hb5 : (k : Int) ≤ (n : Int) := by omega
                        have hb8 : j < n := by omega
                        go_simp
                        exact ⟨Ext.refl _, rfl⟩
                      · intro ρ W ⟨kc, kg, kf⟩ hF hs
                        obtain ⟨h0, h1, -⟩ := hs
                        replace h0 : ρ (.tmp 74) = .pointer (some ⟨b, o + j * 3, none⟩) := h0
                        replace h1 : ρ (.tmp 66) = .bool (false) := h1
                        go_simp
                        exact ⟨Ext.refl _, rfl⟩
                      · intro ρ W ⟨kc, kg, kf⟩ hF hs
                        obtain ⟨h0, h1, -⟩ := hs
                        replace h0 : ρ (.tmp 75) = .pointer (some ⟨b, o + j * 3 + 1, none⟩) := h0
                        replace h1 : ρ (.tmp 66) = .bool (false) := h1
                        go_simp
                        exact ⟨Ext.refl _, rfl⟩
                      · intro ρ W ⟨kc, kg, kf⟩ hF hs
                        obtain ⟨h0, h1, -⟩ := hs
                        replace h0 : ρ (.tmp 76) = .pointer (some ⟨b, o + j * 3 + 1, none⟩) := h0
                        replace h1 : ρ (.tmp 66) = .bool (false) := h1
                        have hc0 : W.cell? ⟨b, o + j * 3 + 1, none⟩ = some (.int .i64 (y.lo)) := hF.cell (by assumption)
                        go_simp
                        exact ⟨Ext.refl _, rfl⟩
                      · intro ρ W ⟨kc, kg, kf⟩ hF hs
                        obtain ⟨h0, h1, h2, -⟩ := hs
                        replace h0 : ρ (.tmp 69) = .int .i64 (x.lo) := h0
                        replace h1 : ρ (.tmp 77) = .int .i64 (y.lo) := h1
                        replace h2 : ρ (.tmp 66) = .bool (false) := h2
                        have hd : decide (x.lo < y.lo) = true := by simp; omega
                        go_simp
                        exact ⟨Ext.refl _, rfl⟩
                      · intro ρ W ⟨kc, kg, kf⟩ hF hs
                        obtain ⟨h0, h1, h2, -⟩ := hs
                        replace h0 : ρ (.tmp 66) = .bool (false) := h0
                        replace h1 : ρ (.tmp 78) = .bool (true) := h1
                        replace h2 : ρ (.tmp 55) = .bool (true) := h2
                        go_simp
                        exact ⟨Ext.refl _, rfl⟩
                      · intro ρ W ⟨kc, kg, kf⟩ hF hs
                        obtain ⟨h0, h1, -⟩ := hs
                        replace h0 : ρ (.tmp 79) = .bool (true) := h0
                        replace h1 : ρ (.tmp 55) = .bool (true) := h1
                        go_simp
                        exact ⟨Ext.refl _, rfl⟩
                      · exact fun _ => rfl
                      · exact fun _ => rfl
                      · exact fun _ => rfl
                      · exact fun _ => rfl
                      · exact fun _ => rfl
                      · exact fun _ => rfl
                      · exact fun _ => rfl
                      · exact fun _ => rfl
                      · exact fun _ => rfl
                      · exact fun _ => rfl
                      · exact fun _ => rfl
                      · exact fun _ => rfl
                      · intro ρ W ⟨kc, kg, kf⟩ hF hs
                        obtain ⟨h0, h1, h2, -⟩ := hs
                        replace h0 : ρ (.tmp 80) = .bool (true) := h0
                        replace h1 : ρ (.tmp 92) = undef := h1
                        replace h2 : ρ (.tmp 55) = .bool (true) := h2
                        go_simp
                        exact ⟨Ext.refl _, rfl⟩
                      · intro ρ W ⟨kc, kg, kf⟩ hF hs
                        obtain ⟨h0, h1, h2, -⟩ := hs
                        replace h0 : ρ (.tmp 55) = .bool (true) := h0
                        replace h1 : ρ (.tmp 93) = .bool (true) := h1
                        replace h2 : ρ (.tmp 52) = .bool (false) := h2
                        go_simp
                        exact ⟨Ext.refl _, rfl⟩
                      · intro ρ W ⟨kc, kg, kf⟩ hF hs
                        obtain ⟨h0, h1, -⟩ := hs
                        replace h0 : ρ (.tmp 52) = .bool (false) := h0
                        replace h1 : ρ (.tmp 94) = .bool (true) := h1
                        go_simp
                        exact ⟨Ext.refl _, rfl⟩
                    · intro fv W hF hs
                      obtain ⟨-, -, -, -, -, -, -, -, -, -, -, -, -, -, -, -, -, -, -, -, -, -, -, -, -, -, -, -, -, -, -, -, -, -, -, -, -, -, -, -, -, -, -, -, -, -, -, -, -, -, h95, -⟩ := hs
                      replace h95 : fv 95 = .bool (true) := h95
                      simp only [fin, List.filterMap]
                      go_simp
                      have X6 := Lib.hid (E0.out.trans (X5.out.trans hF))
                      clear hF y0 l0 l1 l2 t2 t3 t4
                      go_wp2
                      go_ret2
                      exact ⟨by rw [HC.out]; rfl, X6.out⟩
                  · by_cases h3 : x.hi < y.hi
                    · have HC := Lib.hid (HS.out (Or.inr (Or.inr h3)))
                      clear HS HG
                      refine wp_region_eachG [(52, false), (52, false), (52, false), (55, true), (55, true), (55, true), (55, true), (55, true), (55, true), (55, true), (55, true), (55, true), (55, true), (55, true), (66, false), (66, false), (66, false), (66, false), (66, false), (66, false), (66, false), (66, false), (66, false), (66, false), (66, false), (66, false), (55, true), (55, true), (80, false), (80, false), (80, false), (80, false), (80, false), (80, false), (80, false), (80, false), (80, false), (80, false), (80, false), (80, false), (55, true), (52, false)] [some 45, some 46, some 47, some 48, some 49, some 50, some 51, some 52, some 53, some 54, some 55, some 56, some 57, some 58, some 59, some 60, some 61, some 62, some 63, some 64, some 65, some 66, some 67, some 68, some 69, some 70, some 71, some 72, some 73, some 74, some 75, some 76, some 77, some 78, some 79, some 80, some 81, some 82, some 83, some 84, some 85, some 86, some 87, some 88, some 89, some 90, some 91, some 92, some 93, some 94, some 95] [[5], [45], [46], [5], [48], [49], [47, 50], [51], [4, 52], [53, 52], [54, 52], [5, 55], [56, 55], [1, 55], [58, 55], [4, 55], [60, 55], [59, 61, 55], [62, 55], [63, 55], [57, 64, 55], [65, 55], [5, 66], [67, 66], [68, 66], [1, 66], [70, 66], [4, 66], [72, 66], [71, 73, 66], [74, 66], [75, 66], [76, 66], [69, 77, 66], [66, 78, 55], [79, 55], [5, 80], [81, 80], [82, 80], [1, 80], [84, 80], [4, 80], [86, 80], [85, 87, 80], [88, 80], [89, 80], [90, 80], [83, 91, 80], [80, 92, 55], [55, 93, 52], [52, 94]]
                        [Is (.pointer (some ⟨q, 1, none⟩)), Is (.pointer (some ⟨q, 1, none⟩)), Is (.int .i64 (x.lo)), Is (.pointer (some ⟨q, 1, none⟩)), Is (.pointer (some ⟨q, 2, none⟩)), Is (.int .i64 (x.hi)), Is (.bool (false)), Is (.bool (false)), Is (.int .i64 ((k : Int))), Is (.bool (true)), Is (.bool (true)), Is (.pointer (some ⟨q, 0, none⟩)), Is (.int .i64 (x.f)), Is (.pointer (some ⟨w.heap.size, 0, none⟩)), Is (.slice (some ⟨b, o, none⟩) n ca), Is (.int .i64 ((k : Int))), Is (.int .i64 ((k : Int) - 1)), Is (.pointer (some ⟨b, o + j * 3, none⟩)), Is (.pointer (some ⟨b, o + j * 3, none⟩)), Is (.int .i64 (y.f)), Is (.bool (false)), Is (.bool (false)), Is (.pointer (some ⟨q, 1, none⟩)), Is (.pointer (some ⟨q, 1, none⟩)), Is (.int .i64 (x.lo)), Is (.pointer (some ⟨w.heap.size, 0, none⟩)), Is (.slice (some ⟨b, o, none⟩) n ca), Is (.int .i64 ((k : Int))), Is (.int .i64 ((k : Int) - 1)), Is (.pointer (some ⟨b, o + j * 3, none⟩)), Is (.pointer (some ⟨b, o + j * 3 + 1, none⟩)), Is (.pointer (some ⟨b, o + j * 3 + 1, none⟩)), Is (.int .i64 (y.lo)), Is (.bool (false)), Is (.bool (false)), Is (.bool (false)), Is (.pointer (some ⟨q, 1, none⟩)), Is (.pointer (some ⟨q, 2, none⟩)), Is (.int .i64 (x.hi)), Is (.pointer (some ⟨w.heap.size, 0, none⟩)), Is (.slice (some ⟨b, o, none⟩) n ca), Is (.int .i64 ((k : Int))), Is (.int .i64 ((k : Int) - 1)), Is (.pointer (some ⟨b, o + j * 3, none⟩)), Is (.pointer (some ⟨b, o + j * 3 + 1, none⟩)), Is (.pointer (some ⟨b, o + j * 3 + 1 + 1, none⟩)), Is (.int .i64 (y.hi)), Is (.bool (true)), Is (.bool (true)), Is (.bool (true)), Is (.bool (true))]
                        (by kernel_rfl) (by kernel_rfl) (by kernel_rfl) (by kernel_rfl) (by kernel_rfl) Ext (fun W => Ext W5 W)
                        (fun W _ => Ext.refl W) (fun W W' h k => h.trans k) ?_ (by intro p hp; simp only [List.mem_cons, List.not_mem_nil, or_false] at hp; rcases hp with rfl | rfl | rfl | rfl | rfl | rfl | rfl | rfl | rfl | rfl | rfl | rfl | rfl | rfl | rfl | rfl | rfl | rfl | rfl | rfl | rfl | rfl | rfl | rfl | rfl | rfl | rfl | rfl | rfl | rfl | rfl | rfl | rfl | rfl | rfl | rfl | rfl | rfl | rfl | rfl | rfl | rfl <;> exact ⟨_, rfl, fun _ _ h => h⟩) (Ext.drew _) ?_ ?_
                      · repeat (refine ⟨fun _ _ _ _ k h => (by first | exact h | exact (IntsAt.ext h k)), ?_⟩)
                        exact trivial
                      · refine ⟨?_, ?_, ?_, ?_, ?_, ?_, ?_, ?_, ?_, ?_, ?_, ?_, ?_, ?_, ?_, ?_, ?_, ?_, ?_, ?_, ?_, ?_, ?_, ?_, ?_, ?_, ?_, ?_, ?_, ?_, ?_, ?_, ?_, ?_, ?_, ?_, ?_, ?_, ?_, ?_, ?_, ?_, ?_, ?_, ?_, ?_, ?_, ?_, ?_, ?_, ?_, trivial⟩
                        all_goals intro ρ W ⟨kc, kg, kf⟩ hF hs
                        · obtain ⟨h0, -⟩ := hs
                          replace h0 : ρ (.tmp 5) = .pointer (some ⟨q, 0, none⟩) := h0
                          go_simp
                          exact ⟨Ext.refl _, rfl⟩
                        · obtain ⟨h0, -⟩ := hs
                          replace h0 : ρ (.tmp 45) = .pointer (some ⟨q, 1, none⟩) := h0
                          go_simp
                          exact ⟨Ext.refl _, rfl⟩
                        · obtain ⟨h0, -⟩ := hs
                          replace h0 : ρ (.tmp 46) = .pointer (some ⟨q, 1, none⟩) := h0
                          have hc0 : W.cell? ⟨q, 1, none⟩ = some (.int .i64 (x.lo)) := hF.cell (by assumption)
                          go_simp
                          exact ⟨Ext.refl _, rfl⟩
                        · obtain ⟨h0, -⟩ := hs
                          replace h0 : ρ (.tmp 5) = .pointer (some ⟨q, 0, none⟩) := h0
                          go_simp
                          exact ⟨Ext.refl _, rfl⟩
                        · obtain ⟨h0, -⟩ := hs
                          replace h0 : ρ (.tmp 48) = .pointer (some ⟨q, 1, none⟩) := h0
                          go_simp
                          exact ⟨Ext.refl _, rfl⟩
                        · obtain ⟨h0, -⟩ := hs
                          replace h0 : ρ (.tmp 49) = .pointer (some ⟨q, 2, none⟩) := h0
                          have hc0 : W.cell? ⟨q, 2, none⟩ = some (.int .i64 (x.hi)) := hF.cell (by assumption)
                          go_simp
                          exact ⟨Ext.refl _, rfl⟩
                        · obtain ⟨h0, h1, -⟩ := hs
                          replace h0 : ρ (.tmp 47) = .int .i64 (x.lo) := h0
                          replace h1 : ρ (.tmp 50) = .int .i64 (x.hi) := h1
                          have hd : decide (x.hi < x.lo) = false := by simp; omega
                          go_simp
                          exact ⟨Ext.refl _, rfl⟩
                        · obtain ⟨h0, -⟩ := hs
                          replace h0 : ρ (.tmp 51) = .bool (false) := h0
                          go_simp
                          exact ⟨Ext.refl _, rfl⟩
                        · obtain ⟨h0, h1, -⟩ := hs
                          replace h0 : ρ (.tmp 4) = .int .i64 ((k : Int)) := h0
                          replace h1 : ρ (.tmp 52) = .bool (false) := h1
                          go_simp
                          exact ⟨Ext.refl _, rfl⟩
                        · obtain ⟨h0, h1, -⟩ := hs
                          replace h0 : ρ (.tmp 53) = .int .i64 ((k : Int)) := h0
                          replace h1 : ρ (.tmp 52) = .bool (false) := h1
                          have hd : decide ((0 : Int) < (k : Int)) = true := by simp; omega
                          go_simp
                          exact ⟨Ext.refl _, rfl⟩
                        · obtain ⟨h0, h1, -⟩ := hs
                          replace h0 : ρ (.tmp 54) = .bool (true) := h0
                          replace h1 : ρ (.tmp 52) = .bool (false) := h1
                          go_simp
                          exact ⟨Ext.refl _, rfl⟩
                        · obtain ⟨h0, h1, -⟩ := hs
                          replace h0 : ρ (.tmp 5) = .pointer (some ⟨q, 0, none⟩) := h0
                          replace h1 : ρ (.tmp 55) = .bool (true) := h1
                          go_simp
                          exact ⟨Ext.refl _, rfl⟩
                        · obtain ⟨h0, h1, -⟩ := hs
                          replace h0 : ρ (.tmp 56) = .pointer (some ⟨q, 0, none⟩) := h0
                          replace h1 : ρ (.tmp 55) = .bool (true) := h1
                          have hc0 : W.cell? ⟨q, 0, none⟩ = some (.int .i64 (x.f)) := hF.cell (by assumption)
                          go_simp
                          exact ⟨Ext.refl _, rfl⟩
                        · obtain ⟨h0, h1, -⟩ := hs
                          replace h0 : ρ (.tmp 1) = .pointer (some ⟨w.heap.size, 0, none⟩) := h0
                          replace h1 : ρ (.tmp 55) = .bool (true) := h1
                          go_simp
                          exact ⟨Ext.refl _, rfl⟩
                        · obtain ⟨h0, h1, -⟩ := hs
                          replace h0 : ρ (.tmp 58) = .pointer (some ⟨w.heap.size, 0, none⟩) := h0
                          replace h1 : ρ (.tmp 55) = .bool (true) := h1
                          have hc0 : W.cell? ⟨w.heap.size, 0, none⟩ = some (.slice (some ⟨b, o, none⟩) n ca) := hF.cell (by assumption)
                          go_simp
                          exact ⟨Ext.refl _, rfl⟩
                        · obtain ⟨h0, h1, -⟩ := hs
                          replace h0 : ρ (.tmp 4) = .int .i64 ((k : Int)) := h0
                          replace h1 : ρ (.tmp 55) = .bool (true) := h1
                          go_simp
                          exact ⟨Ext.refl _, rfl⟩
                        · obtain ⟨h0, h1, -⟩ := hs
                          replace h0 : ρ (.tmp 60) = .int .i64 ((k : Int)) := h0
                          replace h1 : ρ (.tmp 55) = .bool (true) := h1
                          have hw : IntKind.i64.wrap ((k : Int) - 1) = (k : Int) - 1 := wrap_id _ (by omega) (by omega)
                          go_simp
                          exact ⟨Ext.refl _, rfl⟩
                        · obtain ⟨h0, h1, h2, -⟩ := hs
                          replace h0 : ρ (.tmp 59) = .slice (some ⟨b, o, none⟩) n ca := h0
                          replace h1 : ρ (.tmp 61) = .int .i64 ((k : Int) - 1) := h1
                          replace h2 : ρ (.tmp 55) = .bool (true) := h2
                          have hb6 : (1 : Int) ≤ (k : Int) := by omega
                          have hb1 : (k : Int) - 1 < (n : Int) := by omega
                          have hb3 : (0 : Int) ≤ (k : Int) - 1 := by omega
                          have hb4 : ((k : Int) - 1).toNat = j := by omega
                          have hb7 : k - 1 = j := by omega
                          have hb5 : (k : Int) ≤ (n : Int) := by omega
                          have hb8 : j < n := by omega
                          go_simp
                          exact ⟨Ext.refl _, rfl⟩
                        · obtain ⟨h0, h1, -⟩ := hs
                          replace h0 : ρ (.tmp 62) = .pointer (some ⟨b, o + j * 3, none⟩) := h0
                          replace h1 : ρ (.tmp 55) = .bool (true) := h1
                          go_simp
                          exact ⟨Ext.refl _, rfl⟩
                        · obtain ⟨h0, h1, -⟩ := hs
                          replace h0 : ρ (.tmp 63) = .pointer (some ⟨b, o + j * 3, none⟩) := h0
                          replace h1 : ρ (.tmp 55) = .bool (true) := h1
                          have hc0 : W.cell? ⟨b, o + j * 3, none⟩ = some (.int .i64 (y.f)) := hF.cell (by assumption)
                          go_simp
                          exact ⟨Ext.refl _, rfl⟩
                        · obtain ⟨h0, h1, h2, -⟩ := hs
                          replace h0 : ρ (.tmp 57) = .int .i64 (x.f) := h0
                          replace h1 : ρ (.tmp 64) = .int .i64 (y.f) := h1
                          replace h2 : ρ (.tmp 55) = .bool (true) := h2
                          have hd : decide (x.f ≤ y.f) = false := by simp; omega
                          go_simp
                          exact ⟨Ext.refl _, rfl⟩
                        · obtain ⟨h0, h1, -⟩ := hs
                          replace h0 : ρ (.tmp 65) = .bool (false) := h0
                          replace h1 : ρ (.tmp 55) = .bool (true) := h1
                          go_simp
                          exact ⟨Ext.refl _, rfl⟩
                        · obtain ⟨h0, h1, -⟩ := hs
                          replace h0 : ρ (.tmp 5) = .pointer (some ⟨q, 0, none⟩) := h0
                          replace h1 : ρ (.tmp 66) = .bool (false) := h1
                          go_simp
                          exact ⟨Ext.refl _, rfl⟩
                        · obtain ⟨h0, h1, -⟩ := hs
                          replace h0 : ρ (.tmp 67) = .pointer (some ⟨q, 1, none⟩) := h0
                          replace h1 : ρ (.tmp 66) = .bool (false) := h1
                          go_simp
                          exact ⟨Ext.refl _, rfl⟩
                        · obtain ⟨h0, h1, -⟩ := hs
                          replace h0 : ρ (.tmp 68) = .pointer (some ⟨q, 1, none⟩) := h0
                          replace h1 : ρ (.tmp 66) = .bool (false) := h1
                          have hc0 : W.cell? ⟨q, 1, none⟩ = some (.int .i64 (x.lo)) := hF.cell (by assumption)
                          go_simp
                          exact ⟨Ext.refl _, rfl⟩
                        · obtain ⟨h0, h1, -⟩ := hs
                          replace h0 : ρ (.tmp 1) = .pointer (some ⟨w.heap.size, 0, none⟩) := h0
                          replace h1 : ρ (.tmp 66) = .bool (false) := h1
                          go_simp
                          exact ⟨Ext.refl _, rfl⟩
                        · obtain ⟨h0, h1, -⟩ := hs
                          replace h0 : ρ (.tmp 70) = .pointer (some ⟨w.heap.size, 0, none⟩) := h0
                          replace h1 : ρ (.tmp 66) = .bool (false) := h1
                          have hc0 : W.cell? ⟨w.heap.size, 0, none⟩ = some (.slice (some ⟨b, o, none⟩) n ca) := hF.cell (by assumption)
                          go_simp
                          exact ⟨Ext.refl _, rfl⟩
                        · obtain ⟨h0, h1, -⟩ := hs
                          replace h0 : ρ (.tmp 4) = .int .i64 ((k : Int)) := h0
                          replace h1 : ρ (.tmp 66) = .bool (false) := h1
                          go_simp
                          exact ⟨Ext.refl _, rfl⟩
                        · obtain ⟨h0, h1, -⟩ := hs
                          replace h0 : ρ (.tmp 72) = .int .i64 ((k : Int)) := h0
                          replace h1 : ρ (.tmp 66) = .bool (false) := h1
                          have hw : IntKind.i64.wrap ((k : Int) - 1) = (k : Int) - 1 := wrap_id _ (by omega) (by omega)
                          go_simp
                          exact ⟨Ext.refl _, rfl⟩
                        · obtain ⟨h0, h1, h2, -⟩ := hs
                          replace h0 : ρ (.tmp 71) = .slice (some ⟨b, o, none⟩) n ca := h0
                          replace h1 : ρ (.tmp 73) = .int .i64 ((k : Int) - 1) := h1
                          replace h2 : ρ (.tmp 66) = .bool (false) := h2
                          have hb6 : (1 : Int) ≤ (k : Int) := by omega
                          have hb1 : (k : Int) - 1 < (n : Int) := by omega
                          have hb3 : (0 : Int) ≤ (k : Int) - 1 := by omega
                          have hb4 : ((k : Int) - 1).toNat = j := by omega
                          have hb7 : k - 1 = j := by omega
                          have hb5 : (k : Int) ≤ (n : Int) := by omega
                          have hb8 : j < n := by omega
                          go_simp
                          exact ⟨Ext.refl _, rfl⟩
                        · obtain ⟨h0, h1, -⟩ := hs
                          replace h0 : ρ (.tmp 74) = .pointer (some ⟨b, o + j * 3, none⟩) := h0
                          replace h1 : ρ (.tmp 66) = .bool (false) := h1
                          go_simp
                          exact ⟨Ext.refl _, rfl⟩
                        · obtain ⟨h0, h1, -⟩ := hs
                          replace h0 : ρ (.tmp 75) = .pointer (some ⟨b, o + j * 3 + 1, none⟩) := h0
                          replace h1 : ρ (.tmp 66) = .bool (false) := h1
                          go_simp
                          exact ⟨Ext.refl _, rfl⟩
                        · obtain ⟨h0, h1, -⟩ := hs
                          replace h0 : ρ (.tmp 76) = .pointer (some ⟨b, o + j * 3 + 1, none⟩) := h0
                          replace h1 : ρ (.tmp 66) = .bool (false) := h1
                          have hc0 : W.cell? ⟨b, o + j * 3 + 1, none⟩ = some (.int .i64 (y.lo)) := hF.cell (by assumption)
                          go_simp
                          exact ⟨Ext.refl _, rfl⟩
                        · obtain ⟨h0, h1, h2, -⟩ := hs
                          replace h0 : ρ (.tmp 69) = .int .i64 (x.lo) := h0
                          replace h1 : ρ (.tmp 77) = .int .i64 (y.lo) := h1
                          replace h2 : ρ (.tmp 66) = .bool (false) := h2
                          have hd : decide (x.lo < y.lo) = false := by simp; omega
                          go_simp
                          exact ⟨Ext.refl _, rfl⟩
                        · obtain ⟨h0, h1, h2, -⟩ := hs
                          replace h0 : ρ (.tmp 66) = .bool (false) := h0
                          replace h1 : ρ (.tmp 78) = .bool (false) := h1
                          replace h2 : ρ (.tmp 55) = .bool (true) := h2
                          go_simp
                          exact ⟨Ext.refl _, rfl⟩
                        · obtain ⟨h0, h1, -⟩ := hs
                          replace h0 : ρ (.tmp 79) = .bool (false) := h0
                          replace h1 : ρ (.tmp 55) = .bool (true) := h1
                          go_simp
                          exact ⟨Ext.refl _, rfl⟩
                        · obtain ⟨h0, h1, -⟩ := hs
                          replace h0 : ρ (.tmp 5) = .pointer (some ⟨q, 0, none⟩) := h0
                          replace h1 : ρ (.tmp 80) = .bool (false) := h1
                          go_simp
                          exact ⟨Ext.refl _, rfl⟩
                        · obtain ⟨h0, h1, -⟩ := hs
                          replace h0 : ρ (.tmp 81) = .pointer (some ⟨q, 1, none⟩) := h0
                          replace h1 : ρ (.tmp 80) = .bool (false) := h1
                          go_simp
                          exact ⟨Ext.refl _, rfl⟩
                        · obtain ⟨h0, h1, -⟩ := hs
                          replace h0 : ρ (.tmp 82) = .pointer (some ⟨q, 2, none⟩) := h0
                          replace h1 : ρ (.tmp 80) = .bool (false) := h1
                          have hc0 : W.cell? ⟨q, 2, none⟩ = some (.int .i64 (x.hi)) := hF.cell (by assumption)
                          go_simp
                          exact ⟨Ext.refl _, rfl⟩
                        · obtain ⟨h0, h1, -⟩ := hs
                          replace h0 : ρ (.tmp 1) = .pointer (some ⟨w.heap.size, 0, none⟩) := h0
                          replace h1 : ρ (.tmp 80) = .bool (false) := h1
                          go_simp
                          exact ⟨Ext.refl _, rfl⟩
                        · obtain ⟨h0, h1, -⟩ := hs
                          replace h0 : ρ (.tmp 84) = .pointer (some ⟨w.heap.size, 0, none⟩) := h0
                          replace h1 : ρ (.tmp 80) = .bool (false) := h1
                          have hc0 : W.cell? ⟨w.heap.size, 0, none⟩ = some (.slice (some ⟨b, o, none⟩) n ca) := hF.cell (by assumption)
                          go_simp
                          exact ⟨Ext.refl _, rfl⟩
                        · obtain ⟨h0, h1, -⟩ := hs
                          replace h0 : ρ (.tmp 4) = .int .i64 ((k : Int)) := h0
                          replace h1 : ρ (.tmp 80) = .bool (false) := h1
                          go_simp
                          exact ⟨Ext.refl _, rfl⟩
                        · obtain ⟨h0, h1, -⟩ := hs
                          replace h0 : ρ (.tmp 86) = .int .i64 ((k : Int)) := h0
                          replace h1 : ρ (.tmp 80) = .bool (false) := h1
                          have hw : IntKind.i64.wrap ((k : Int) - 1) = (k : Int) - 1 := wrap_id _ (by omega) (by omega)
                          go_simp
                          exact ⟨Ext.refl _, rfl⟩
                        · obtain ⟨h0, h1, h2, -⟩ := hs
                          replace h0 : ρ (.tmp 85) = .slice (some ⟨b, o, none⟩) n ca := h0
                          replace h1 : ρ (.tmp 87) = .int .i64 ((k : Int) - 1) := h1
                          replace h2 : ρ (.tmp 80) = .bool (false) := h2
                          have hb6 : (1 : Int) ≤ (k : Int) := by omega
                          have hb1 : (k : Int) - 1 < (n : Int) := by omega
                          have hb3 : (0 : Int) ≤ (k : Int) - 1 := by omega
                          have hb4 : ((k : Int) - 1).toNat = j := by omega
                          have hb7 : k - 1 = j := by omega
                          have hb5 : (k : Int) ≤ (n : Int) := by omega
                          have hb8 : j < n := by omega
                          go_simp
                          exact ⟨Ext.refl _, rfl⟩
                        · obtain ⟨h0, h1, -⟩ := hs
                          replace h0 : ρ (.tmp 88) = .pointer (some ⟨b, o + j * 3, none⟩) := h0
                          replace h1 : ρ (.tmp 80) = .bool (false) := h1
                          go_simp
                          exact ⟨Ext.refl _, rfl⟩
                        · obtain ⟨h0, h1, -⟩ := hs
                          replace h0 : ρ (.tmp 89) = .pointer (some ⟨b, o + j * 3 + 1, none⟩) := h0
                          replace h1 : ρ (.tmp 80) = .bool (false) := h1
                          go_simp
                          exact ⟨Ext.refl _, rfl⟩
                        · obtain ⟨h0, h1, -⟩ := hs
                          replace h0 : ρ (.tmp 90) = .pointer (some ⟨b, o + j * 3 + 1 + 1, none⟩) := h0
                          replace h1 : ρ (.tmp 80) = .bool (false) := h1
                          have hc0 : W.cell? ⟨b, o + j * 3 + 1 + 1, none⟩ = some (.int .i64 (y.hi)) := hF.cell (by assumption)
                          go_simp
                          exact ⟨Ext.refl _, rfl⟩
                        · obtain ⟨h0, h1, h2, -⟩ := hs
                          replace h0 : ρ (.tmp 83) = .int .i64 (x.hi) := h0
                          replace h1 : ρ (.tmp 91) = .int .i64 (y.hi) := h1
                          replace h2 : ρ (.tmp 80) = .bool (false) := h2
                          have hd : decide (x.hi < y.hi) = true := by simp; omega
                          go_simp
                          exact ⟨Ext.refl _, rfl⟩
                        · obtain ⟨h0, h1, h2, -⟩ := hs
                          replace h0 : ρ (.tmp 80) = .bool (false) := h0
                          replace h1 : ρ (.tmp 92) = .bool (true) := h1
                          replace h2 : ρ (.tmp 55) = .bool (true) := h2
                          go_simp
                          exact ⟨Ext.refl _, rfl⟩
                        · obtain ⟨h0, h1, h2, -⟩ := hs
                          replace h0 : ρ (.tmp 55) = .bool (true) := h0
                          replace h1 : ρ (.tmp 93) = .bool (true) := h1
                          replace h2 : ρ (.tmp 52) = .bool (false) := h2
                          go_simp
                          exact ⟨Ext.refl _, rfl⟩
                        · obtain ⟨h0, h1, -⟩ := hs
                          replace h0 : ρ (.tmp 52) = .bool (false) := h0
                          replace h1 : ρ (.tmp 94) = .bool (true) := h1
                          go_simp
                          exact ⟨Ext.refl _, rfl⟩
                      · intro fv W hF hs
                        obtain ⟨-, -, -, -, -, -, -, -, -, -, -, -, -, -, -, -, -, -, -, -, -, -, -, -, -, -, -, -, -, -, -, -, -, -, -, -, -, -, -, -, -, -, -, -, -, -, -, -, -, -, h95, -⟩ := hs
                        replace h95 : fv 95 = .bool (true) := h95
                        simp only [fin, List.filterMap]
                        go_simp
                        have X6 := Lib.hid (E0.out.trans (X5.out.trans hF))
                        clear hF y0 l0 l1 l2 t2 t3 t4
                        go_wp2
                        go_ret2
                        exact ⟨by rw [HC.out]; rfl, X6.out⟩
                    · have HC := Lib.hid (HG.out (by omega))
                      clear HS HG
                      refine wp_region_eachG [(52, false), (52, false), (52, false), (55, true), (55, true), (55, true), (55, true), (55, true), (55, true), (55, true), (55, true), (55, true), (55, true), (55, true), (66, false), (66, false), (66, false), (66, false), (66, false), (66, false), (66, false), (66, false), (66, false), (66, false), (66, false), (66, false), (55, true), (55, true), (80, false), (80, false), (80, false), (80, false), (80, false), (80, false), (80, false), (80, false), (80, false), (80, false), (80, false), (80, false), (55, true), (52, false)] [some 45, some 46, some 47, some 48, some 49, some 50, some 51, some 52, some 53, some 54, some 55, some 56, some 57, some 58, some 59, some 60, some 61, some 62, some 63, some 64, some 65, some 66, some 67, some 68, some 69, some 70, some 71, some 72, some 73, some 74, some 75, some 76, some 77, some 78, some 79, some 80, some 81, some 82, some 83, some 84, some 85, some 86, some 87, some 88, some 89, some 90, some 91, some 92, some 93, some 94, some 95] [[5], [45], [46], [5], [48], [49], [47, 50], [51], [4, 52], [53, 52], [54, 52], [5, 55], [56, 55], [1, 55], [58, 55], [4, 55], [60, 55], [59, 61, 55], [62, 55], [63, 55], [57, 64, 55], [65, 55], [5, 66], [67, 66], [68, 66], [1, 66], [70, 66], [4, 66], [72, 66], [71, 73, 66], [74, 66], [75, 66], [76, 66], [69, 77, 66], [66, 78, 55], [79, 55], [5, 80], [81, 80], [82, 80], [1, 80], [84, 80], [4, 80], [86, 80], [85, 87, 80], [88, 80], [89, 80], [90, 80], [83, 91, 80], [80, 92, 55], [55, 93, 52], [52, 94]]
                        [Is (.pointer (some ⟨q, 1, none⟩)), Is (.pointer (some ⟨q, 1, none⟩)), Is (.int .i64 (x.lo)), Is (.pointer (some ⟨q, 1, none⟩)), Is (.pointer (some ⟨q, 2, none⟩)), Is (.int .i64 (x.hi)), Is (.bool (false)), Is (.bool (false)), Is (.int .i64 ((k : Int))), Is (.bool (true)), Is (.bool (true)), Is (.pointer (some ⟨q, 0, none⟩)), Is (.int .i64 (x.f)), Is (.pointer (some ⟨w.heap.size, 0, none⟩)), Is (.slice (some ⟨b, o, none⟩) n ca), Is (.int .i64 ((k : Int))), Is (.int .i64 ((k : Int) - 1)), Is (.pointer (some ⟨b, o + j * 3, none⟩)), Is (.pointer (some ⟨b, o + j * 3, none⟩)), Is (.int .i64 (y.f)), Is (.bool (false)), Is (.bool (false)), Is (.pointer (some ⟨q, 1, none⟩)), Is (.pointer (some ⟨q, 1, none⟩)), Is (.int .i64 (x.lo)), Is (.pointer (some ⟨w.heap.size, 0, none⟩)), Is (.slice (some ⟨b, o, none⟩) n ca), Is (.int .i64 ((k : Int))), Is (.int .i64 ((k : Int) - 1)), Is (.pointer (some ⟨b, o + j * 3, none⟩)), Is (.pointer (some ⟨b, o + j * 3 + 1, none⟩)), Is (.pointer (some ⟨b, o + j * 3 + 1, none⟩)), Is (.int .i64 (y.lo)), Is (.bool (false)), Is (.bool (false)), Is (.bool (false)), Is (.pointer (some ⟨q, 1, none⟩)), Is (.pointer (some ⟨q, 2, none⟩)), Is (.int .i64 (x.hi)), Is (.pointer (some ⟨w.heap.size, 0, none⟩)), Is (.slice (some ⟨b, o, none⟩) n ca), Is (.int .i64 ((k : Int))), Is (.int .i64 ((k : Int) - 1)), Is (.pointer (some ⟨b, o + j * 3, none⟩)), Is (.pointer (some ⟨b, o + j * 3 + 1, none⟩)), Is (.pointer (some ⟨b, o + j * 3 + 1 + 1, none⟩)), Is (.int .i64 (y.hi)), Is (.bool (false)), Is (.bool (false)), Is (.bool (false)), Is (.bool (false))]
                        (by kernel_rfl) (by kernel_rfl) (by kernel_rfl) (by kernel_rfl) (by kernel_rfl) Ext (fun W => Ext W5 W)
                        (fun W _ => Ext.refl W) (fun W W' h k => h.trans k) ?_ (by intro p hp; simp only [List.mem_cons, List.not_mem_nil, or_false] at hp; rcases hp with rfl | rfl | rfl | rfl | rfl | rfl | rfl | rfl | rfl | rfl | rfl | rfl | rfl | rfl | rfl | rfl | rfl | rfl | rfl | rfl | rfl | rfl | rfl | rfl | rfl | rfl | rfl | rfl | rfl | rfl | rfl | rfl | rfl | rfl | rfl | rfl | rfl | rfl | rfl | rfl | rfl | rfl <;> exact ⟨_, rfl, fun _ _ h => h⟩) (Ext.drew _) ?_ ?_
                      · repeat (refine ⟨fun _ _ _ _ k h => (by first | exact h | exact (IntsAt.ext h k)), ?_⟩)
                        exact trivial
                      · refine ⟨?_, ?_, ?_, ?_, ?_, ?_, ?_, ?_, ?_, ?_, ?_, ?_, ?_, ?_, ?_, ?_, ?_, ?_, ?_, ?_, ?_, ?_, ?_, ?_, ?_, ?_, ?_, ?_, ?_, ?_, ?_, ?_, ?_, ?_, ?_, ?_, ?_, ?_, ?_, ?_, ?_, ?_, ?_, ?_, ?_, ?_, ?_, ?_, ?_, ?_, ?_, trivial⟩
                        all_goals intro ρ W ⟨kc, kg, kf⟩ hF hs
                        · obtain ⟨h0, -⟩ := hs
                          replace h0 : ρ (.tmp 5) = .pointer (some ⟨q, 0, none⟩) := h0
                          go_simp
                          exact ⟨Ext.refl _, rfl⟩
                        · obtain ⟨h0, -⟩ := hs
                          replace h0 : ρ (.tmp 45) = .pointer (some ⟨q, 1, none⟩) := h0
                          go_simp
                          exact ⟨Ext.refl _, rfl⟩
                        · obtain ⟨h0, -⟩ := hs
                          replace h0 : ρ (.tmp 46) = .pointer (some ⟨q, 1, none⟩) := h0
                          have hc0 : W.cell? ⟨q, 1, none⟩ = some (.int .i64 (x.lo)) := hF.cell (by assumption)
                          go_simp
                          exact ⟨Ext.refl _, rfl⟩
                        · obtain ⟨h0, -⟩ := hs
                          replace h0 : ρ (.tmp 5) = .pointer (some ⟨q, 0, none⟩) := h0
                          go_simp
                          exact ⟨Ext.refl _, rfl⟩
                        · obtain ⟨h0, -⟩ := hs
                          replace h0 : ρ (.tmp 48) = .pointer (some ⟨q, 1, none⟩) := h0
                          go_simp
                          exact ⟨Ext.refl _, rfl⟩
                        · obtain ⟨h0, -⟩ := hs
                          replace h0 : ρ (.tmp 49) = .pointer (some ⟨q, 2, none⟩) := h0
                          have hc0 : W.cell? ⟨q, 2, none⟩ = some (.int .i64 (x.hi)) := hF.cell (by assumption)
                          go_simp
                          exact ⟨Ext.refl _, rfl⟩
                        · obtain ⟨h0, h1, -⟩ := hs
                          replace h0 : ρ (.tmp 47) = .int .i64 (x.lo) := h0
                          replace h1 : ρ (.tmp 50) = .int .i64 (x.hi) := h1
                          have hd : decide (x.hi < x.lo) = false := by simp; omega
                          go_simp
                          exact ⟨Ext.refl _, rfl⟩
                        · obtain ⟨h0, -⟩ := hs
                          replace h0 : ρ (.tmp 51) = .bool (false) := h0
                          go_simp
                          exact ⟨Ext.refl _, rfl⟩
                        · obtain ⟨h0, h1, -⟩ := hs
                          replace h0 : ρ (.tmp 4) = .int .i64 ((k : Int)) := h0
                          replace h1 : ρ (.tmp 52) = .bool (false) := h1
                          go_simp
                          exact ⟨Ext.refl _, rfl⟩
                        · obtain ⟨h0, h1, -⟩ := hs
                          replace h0 : ρ (.tmp 53) = .int .i64 ((k : Int)) := h0
                          replace h1 : ρ (.tmp 52) = .bool (false) := h1
                          have hd : decide ((0 : Int) < (k : Int)) = true := by simp; omega
                          go_simp
                          exact ⟨Ext.refl _, rfl⟩
                        · obtain ⟨h0, h1, -⟩ := hs
                          replace h0 : ρ (.tmp 54) = .bool (true) := h0
                          replace h1 : ρ (.tmp 52) = .bool (false) := h1
                          go_simp
                          exact ⟨Ext.refl _, rfl⟩
                        · obtain ⟨h0, h1, -⟩ := hs
                          replace h0 : ρ (.tmp 5) = .pointer (some ⟨q, 0, none⟩) := h0
                          replace h1 : ρ (.tmp 55) = .bool (true) := h1
                          go_simp
                          exact ⟨Ext.refl _, rfl⟩
                        · obtain ⟨h0, h1, -⟩ := hs
                          replace h0 : ρ (.tmp 56) = .pointer (some ⟨q, 0, none⟩) := h0
                          replace h1 : ρ (.tmp 55) = .bool (true) := h1
                          have hc0 : W.cell? ⟨q, 0, none⟩ = some (.int .i64 (x.f)) := hF.cell (by assumption)
                          go_simp
                          exact ⟨Ext.refl _, rfl⟩
                        · obtain ⟨h0, h1, -⟩ := hs
                          replace h0 : ρ (.tmp 1) = .pointer (some ⟨w.heap.size, 0, none⟩) := h0
                          replace h1 : ρ (.tmp 55) = .bool (true) := h1
                          go_simp
                          exact ⟨Ext.refl _, rfl⟩
                        · obtain ⟨h0, h1, -⟩ := hs
                          replace h0 : ρ (.tmp 58) = .pointer (some ⟨w.heap.size, 0, none⟩) := h0
                          replace h1 : ρ (.tmp 55) = .bool (true) := h1
                          have hc0 : W.cell? ⟨w.heap.size, 0, none⟩ = some (.slice (some ⟨b, o, none⟩) n ca) := hF.cell (by assumption)
                          go_simp
                          exact ⟨Ext.refl _, rfl⟩
                        · obtain ⟨h0, h1, -⟩ := hs
                          replace h0 : ρ (.tmp 4) = .int .i64 ((k : Int)) := h0
                          replace h1 : ρ (.tmp 55) = .bool (true) := h1
                          go_simp
                          exact ⟨Ext.refl _, rfl⟩
                        · obtain ⟨h0, h1, -⟩ := hs
                          replace h0 : ρ (.tmp 60) = .int .i64 ((k : Int)) := h0
                          replace h1 : ρ (.tmp 55) = .bool (true) := h1
                          have hw : IntKind.i64.wrap ((k : Int) - 1) = (k : Int) - 1 := wrap_id _ (by omega) (by omega)
                          go_simp
                          exact ⟨Ext.refl _, rfl⟩
                        · obtain ⟨h0, h1, h2, -⟩ := hs
                          replace h0 : ρ (.tmp 59) = .slice (some ⟨b, o, none⟩) n ca := h0
                          replace h1 : ρ (.tmp 61) = .int .i64 ((k : Int) - 1) := h1
                          replace h2 : ρ (.tmp 55) = .bool (true) := h2
                          have hb6 : (1 : Int) ≤ (k : Int) := by omega
                          have hb1 : (k : Int) - 1 < (n : Int) := by omega
                          have hb3 : (0 : Int) ≤ (k : Int) - 1 := by omega
                          have hb4 : ((k : Int) - 1).toNat = j := by omega
                          have hb7 : k - 1 = j := by omega
                          have hb5 : (k : Int) ≤ (n : Int) := by omega
                          have hb8 : j < n := by omega
                          go_simp
                          exact ⟨Ext.refl _, rfl⟩
                        · obtain ⟨h0, h1, -⟩ := hs
                          replace h0 : ρ (.tmp 62) = .pointer (some ⟨b, o + j * 3, none⟩) := h0
                          replace h1 : ρ (.tmp 55) = .bool (true) := h1
                          go_simp
                          exact ⟨Ext.refl _, rfl⟩
                        · obtain ⟨h0, h1, -⟩ := hs
                          replace h0 : ρ (.tmp 63) = .pointer (some ⟨b, o + j * 3, none⟩) := h0
                          replace h1 : ρ (.tmp 55) = .bool (true) := h1
                          have hc0 : W.cell? ⟨b, o + j * 3, none⟩ = some (.int .i64 (y.f)) := hF.cell (by assumption)
                          go_simp
                          exact ⟨Ext.refl _, rfl⟩
                        · obtain ⟨h0, h1, h2, -⟩ := hs
                          replace h0 : ρ (.tmp 57) = .int .i64 (x.f) := h0
                          replace h1 : ρ (.tmp 64) = .int .i64 (y.f) := h1
                          replace h2 : ρ (.tmp 55) = .bool (true) := h2
                          have hd : decide (x.f ≤ y.f) = false := by simp; omega
                          go_simp
                          exact ⟨Ext.refl _, rfl⟩
                        · obtain ⟨h0, h1, -⟩ := hs
                          replace h0 : ρ (.tmp 65) = .bool (false) := h0
                          replace h1 : ρ (.tmp 55) = .bool (true) := h1
                          go_simp
                          exact ⟨Ext.refl _, rfl⟩
                        · obtain ⟨h0, h1, -⟩ := hs
                          replace h0 : ρ (.tmp 5) = .pointer (some ⟨q, 0, none⟩) := h0
                          replace h1 : ρ (.tmp 66) = .bool (false) := h1
                          go_simp
                          exact ⟨Ext.refl _, rfl⟩
                        · obtain ⟨h0, h1, -⟩ := hs
                          replace h0 : ρ (.tmp 67) = .pointer (some ⟨q, 1, none⟩) := h0
                          replace h1 : ρ (.tmp 66) = .bool (false) := h1
                          go_simp
                          exact ⟨Ext.refl _, rfl⟩
                        · obtain ⟨h0, h1, -⟩ := hs
                          replace h0 : ρ (.tmp 68) = .pointer (some ⟨q, 1, none⟩) := h0
                          replace h1 : ρ (.tmp 66) = .bool (false) := h1
                          have hc0 : W.cell? ⟨q, 1, none⟩ = some (.int .i64 (x.lo)) := hF.cell (by assumption)
                          go_simp
                          exact ⟨Ext.refl _, rfl⟩
                        · obtain ⟨h0, h1, -⟩ := hs
                          replace h0 : ρ (.tmp 1) = .pointer (some ⟨w.heap.size, 0, none⟩) := h0
                          replace h1 : ρ (.tmp 66) = .bool (false) := h1
                          go_simp
                          exact ⟨Ext.refl _, rfl⟩
                        · obtain ⟨h0, h1, -⟩ := hs
                          replace h0 : ρ (.tmp 70) = .pointer (some ⟨w.heap.size, 0, none⟩) := h0
                          replace h1 : ρ (.tmp 66) = .bool (false) := h1
                          have hc0 : W.cell? ⟨w.heap.size, 0, none⟩ = some (.slice (some ⟨b, o, none⟩) n ca) := hF.cell (by assumption)
                          go_simp
                          exact ⟨Ext.refl _, rfl⟩
                        · obtain ⟨h0, h1, -⟩ := hs
                          replace h0 : ρ (.tmp 4) = .int .i64 ((k : Int)) := h0
                          replace h1 : ρ (.tmp 66) = .bool (false) := h1
                          go_simp
                          exact ⟨Ext.refl _, rfl⟩
                        · obtain ⟨h0, h1, -⟩ := hs
                          replace h0 : ρ (.tmp 72) = .int .i64 ((k : Int)) := h0
                          replace h1 : ρ (.tmp 66) = .bool (false) := h1
                          have hw : IntKind.i64.wrap ((k : Int) - 1) = (k : Int) - 1 := wrap_id _ (by omega) (by omega)
                          go_simp
                          exact ⟨Ext.refl _, rfl⟩
                        · obtain ⟨h0, h1, h2, -⟩ := hs
                          replace h0 : ρ (.tmp 71) = .slice (some ⟨b, o, none⟩) n ca := h0
                          replace h1 : ρ (.tmp 73) = .int .i64 ((k : Int) - 1) := h1
                          replace h2 : ρ (.tmp 66) = .bool (false) := h2
                          have hb6 : (1 : Int) ≤ (k : Int) := by omega
                          have hb1 : (k : Int) - 1 < (n : Int) := by omega
                          have hb3 : (0 : Int) ≤ (k : Int) - 1 := by omega
                          have hb4 : ((k : Int) - 1).toNat = j := by omega
                          have hb7 : k - 1 = j := by omega
                          have hb5 : (k : Int) ≤ (n : Int) := by omega
                          have hb8 : j < n := by omega
                          go_simp
                          exact ⟨Ext.refl _, rfl⟩
                        · obtain ⟨h0, h1, -⟩ := hs
                          replace h0 : ρ (.tmp 74) = .pointer (some ⟨b, o + j * 3, none⟩) := h0
                          replace h1 : ρ (.tmp 66) = .bool (false) := h1
                          go_simp
                          exact ⟨Ext.refl _, rfl⟩
                        · obtain ⟨h0, h1, -⟩ := hs
                          replace h0 : ρ (.tmp 75) = .pointer (some ⟨b, o + j * 3 + 1, none⟩) := h0
                          replace h1 : ρ (.tmp 66) = .bool (false) := h1
                          go_simp
                          exact ⟨Ext.refl _, rfl⟩
                        · obtain ⟨h0, h1, -⟩ := hs
                          replace h0 : ρ (.tmp 76) = .pointer (some ⟨b, o + j * 3 + 1, none⟩) := h0
                          replace h1 : ρ (.tmp 66) = .bool (false) := h1
                          have hc0 : W.cell? ⟨b, o + j * 3 + 1, none⟩ = some (.int .i64 (y.lo)) := hF.cell (by assumption)
                          go_simp
                          exact ⟨Ext.refl _, rfl⟩
                        · obtain ⟨h0, h1, h2, -⟩ := hs
                          replace h0 : ρ (.tmp 69) = .int .i64 (x.lo) := h0
                          replace h1 : ρ (.tmp 77) = .int .i64 (y.lo) := h1
                          replace h2 : ρ (.tmp 66) = .bool (false) := h2
                          have hd : decide (x.lo < y.lo) = false := by simp; omega
                          go_simp
                          exact ⟨Ext.refl _, rfl⟩
                        · obtain ⟨h0, h1, h2, -⟩ := hs
                          replace h0 : ρ (.tmp 66) = .bool (false) := h0
                          replace h1 : ρ (.tmp 78) = .bool (false) := h1
                          replace h2 : ρ (.tmp 55) = .bool (true) := h2
                          go_simp
                          exact ⟨Ext.refl _, rfl⟩
                        · obtain ⟨h0, h1, -⟩ := hs
                          replace h0 : ρ (.tmp 79) = .bool (false) := h0
                          replace h1 : ρ (.tmp 55) = .bool (true) := h1
                          go_simp
                          exact ⟨Ext.refl _, rfl⟩
                        · obtain ⟨h0, h1, -⟩ := hs
                          replace h0 : ρ (.tmp 5) = .pointer (some ⟨q, 0, none⟩) := h0
                          replace h1 : ρ (.tmp 80) = .bool (false) := h1
                          go_simp
                          exact ⟨Ext.refl _, rfl⟩
                        · obtain ⟨h0, h1, -⟩ := hs
                          replace h0 : ρ (.tmp 81) = .pointer (some ⟨q, 1, none⟩) := h0
                          replace h1 : ρ (.tmp 80) = .bool (false) := h1
                          go_simp
                          exact ⟨Ext.refl _, rfl⟩
                        · obtain ⟨h0, h1, -⟩ := hs
                          replace h0 : ρ (.tmp 82) = .pointer (some ⟨q, 2, none⟩) := h0
                          replace h1 : ρ (.tmp 80) = .bool (false) := h1
                          have hc0 : W.cell? ⟨q, 2, none⟩ = some (.int .i64 (x.hi)) := hF.cell (by assumption)
                          go_simp
                          exact ⟨Ext.refl _, rfl⟩
                        · obtain ⟨h0, h1, -⟩ := hs
                          replace h0 : ρ (.tmp 1) = .pointer (some ⟨w.heap.size, 0, none⟩) := h0
                          replace h1 : ρ (.tmp 80) = .bool (false) := h1
                          go_simp
                          exact ⟨Ext.refl _, rfl⟩
                        · obtain ⟨h0, h1, -⟩ := hs
                          replace h0 : ρ (.tmp 84) = .pointer (some ⟨w.heap.size, 0, none⟩) := h0
                          replace h1 : ρ (.tmp 80) = .bool (false) := h1
                          have hc0 : W.cell? ⟨w.heap.size, 0, none⟩ = some (.slice (some ⟨b, o, none⟩) n ca) := hF.cell (by assumption)
                          go_simp
                          exact ⟨Ext.refl _, rfl⟩
                        · obtain ⟨h0, h1, -⟩ := hs
                          replace h0 : ρ (.tmp 4) = .int .i64 ((k : Int)) := h0
                          replace h1 : ρ (.tmp 80) = .bool (false) := h1
                          go_simp
                          exact ⟨Ext.refl _, rfl⟩
                        · obtain ⟨h0, h1, -⟩ := hs
                          replace h0 : ρ (.tmp 86) = .int .i64 ((k : Int)) := h0
                          replace h1 : ρ (.tmp 80) = .bool (false) := h1
                          have hw : IntKind.i64.wrap ((k : Int) - 1) = (k : Int) - 1 := wrap_id _ (by omega) (by omega)
                          go_simp
                          exact ⟨Ext.refl _, rfl⟩
                        · obtain ⟨h0, h1, h2, -⟩ := hs
                          replace h0 : ρ (.tmp 85) = .slice (some ⟨b, o, none⟩) n ca := h0
                          replace h1 : ρ (.tmp 87) = .int .i64 ((k : Int) - 1) := h1
                          replace h2 : ρ (.tmp 80) = .bool (false) := h2
                          have hb6 : (1 : Int) ≤ (k : Int) := by omega
                          have hb1 : (k : Int) - 1 < (n : Int) := by omega
                          have hb3 : (0 : Int) ≤ (k : Int) - 1 := by omega
                          have hb4 : ((k : Int) - 1).toNat = j := by omega
                          have hb7 : k - 1 = j := by omega
                          have hb5 : (k : Int) ≤ (n : Int) := by omega
                          have hb8 : j < n := by omega
                          go_simp
                          exact ⟨Ext.refl _, rfl⟩
                        · obtain ⟨h0, h1, -⟩ := hs
                          replace h0 : ρ (.tmp 88) = .pointer (some ⟨b, o + j * 3, none⟩) := h0
                          replace h1 : ρ (.tmp 80) = .bool (false) := h1
                          go_simp
                          exact ⟨Ext.refl _, rfl⟩
                        · obtain ⟨h0, h1, -⟩ := hs
                          replace h0 : ρ (.tmp 89) = .pointer (some ⟨b, o + j * 3 + 1, none⟩) := h0
                          replace h1 : ρ (.tmp 80) = .bool (false) := h1
                          go_simp
                          exact ⟨Ext.refl _, rfl⟩
                        · obtain ⟨h0, h1, -⟩ := hs
                          replace h0 : ρ (.tmp 90) = .pointer (some ⟨b, o + j * 3 + 1 + 1, none⟩) := h0
                          replace h1 : ρ (.tmp 80) = .bool (false) := h1
                          have hc0 : W.cell? ⟨b, o + j * 3 + 1 + 1, none⟩ = some (.int .i64 (y.hi)) := hF.cell (by assumption)
                          go_simp
                          exact ⟨Ext.refl _, rfl⟩
                        · obtain ⟨h0, h1, h2, -⟩ := hs
                          replace h0 : ρ (.tmp 83) = .int .i64 (x.hi) := h0
                          replace h1 : ρ (.tmp 91) = .int .i64 (y.hi) := h1
                          replace h2 : ρ (.tmp 80) = .bool (false) := h2
                          have hd : decide (x.hi < y.hi) = false := by simp; omega
                          go_simp
                          exact ⟨Ext.refl _, rfl⟩
                        · obtain ⟨h0, h1, h2, -⟩ := hs
                          replace h0 : ρ (.tmp 80) = .bool (false) := h0
                          replace h1 : ρ (.tmp 92) = .bool (false) := h1
                          replace h2 : ρ (.tmp 55) = .bool (true) := h2
                          go_simp
                          exact ⟨Ext.refl _, rfl⟩
                        · obtain ⟨h0, h1, h2, -⟩ := hs
                          replace h0 : ρ (.tmp 55) = .bool (true) := h0
                          replace h1 : ρ (.tmp 93) = .bool (false) := h1
                          replace h2 : ρ (.tmp 52) = .bool (false) := h2
                          go_simp
                          exact ⟨Ext.refl _, rfl⟩
                        · obtain ⟨h0, h1, -⟩ := hs
                          replace h0 : ρ (.tmp 52) = .bool (false) := h0
                          replace h1 : ρ (.tmp 94) = .bool (false) := h1
                          go_simp
                          exact ⟨Ext.refl _, rfl⟩
                      · intro fv W hF hs
                        obtain ⟨-, -, -, -, -, -, -, -, -, -, -, -, -, -, -, -, -, -, -, -, -, -, -, -, -, -, -, -, -, -, -, -, -, -, -, -, -, -, -, -, -, -, -, -, -, -, -, -, -, -, h95, -⟩ := hs
                        replace h95 : fv 95 = .bool (false) := h95
                        simp only [fin, List.filterMap]
                        go_simp
                        have X6 := Lib.hid (X5.out.trans hF)
                        clear hF y0 l0 l1 l2 t2 t3 t4
                        go_wp2
                        go_roundw
                        case rel => exact ⟨k + 1, by omega, by go_num, X6.out, HC.out⟩
                        case measure => simp [intOf]; omega
    · have hkn : k = n := by omega
      have hlt2 : ¬ (k : Int) < (n : Int) := by omega
      have HC := Lib.hid (show checkX xs = (0, 0) by rw [HCX.out, hkn, Nat.sub_self]; rfl)
      have X6 := Lib.hid (E0.out.trans X.out)
      clear hkn hlt
      go_wp2
      go_ret2
      exact ⟨by rw [HC.out]; rfl, X6.out⟩

set_option maxRecDepth 100000 in
set_option maxHeartbeats 4000000 in
theorem refTableErr_any {A : Option Addr} {n ca : Nat} {xs : List Kn} {w : World} (hn : xs.length = n) (hn2 : n ≤ 1000) (hA : RowsAt 3 Kn.enc w A xs) :
    Calls Try.prog 41 #[.agg #[.slice A n ca]] w fun e w' => e = .returned (.int .i64 (checkX xs).2) ∧ Ext w w' := by
  have HT := Lib.hid (fun W (e : Ext w W) => refTable_any (ca := ca) hn hn2 (hA.ext e))
  clear hA hn
  generalize checkX xs = ck at *
  go_enter Try.func41, Try.ntmps41
  go_wp2_with (go_at_call 37; refine (HT.out _ (Ext.alloc _ _)).mono ?_; rintro e W1 ⟨rfl, hx⟩; have X1 := Lib.hid ((Ext.alloc _ _).trans hx); clear hx)
  go_ret
  exact ⟨rfl, X1.out⟩

end Go.Proofs.Ytmddnpagfgilcaa
