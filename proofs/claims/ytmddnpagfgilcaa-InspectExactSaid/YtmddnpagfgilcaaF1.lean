/- Characteristics: mathematics; small readings. -/
import Derived.Test.YtmddnpagfgilcaaE3
import Derived.Lib.MinMax

namespace Go.Proofs.Ytmddnpagfgilcaa
open Go.RowKit Go.Shelf Go.Mem Go.RegInv
attribute [local go_sem] RelUpon_value RelUpon_skip RelUpon_enter BigFrame.eval_const BigFrame.eval_global BigFrame.eval_func


theorem lowT_nat (n d : Nat) : lowT (n : Int) (d : Int) = (((n / Nat.gcd n d : Nat) : Int), ((d / Nat.gcd n d : Nat) : Int)) := by
  unfold lowT
  simp only [Int.natAbs_natCast]
  rw [Int.tdiv_eq_ediv_of_nonneg (Int.natCast_nonneg _), Int.tdiv_eq_ediv_of_nonneg (Int.natCast_nonneg _)]
  rfl
theorem low_cross (n d : Nat) : n / Nat.gcd n d * d = n * (d / Nat.gcd n d) := by
  have h1 := Nat.div_mul_cancel (Nat.gcd_dvd_left n d)
  have h2 := Nat.div_mul_cancel (Nat.gcd_dvd_right n d)
  generalize Nat.gcd n d = g at *
  generalize n / g = x at *
  generalize d / g = y at *
  rw [← h1, ← h2]
  grind
theorem low_coprime {n d : Nat} (h : 0 < d) : Nat.gcd (n / Nat.gcd n d) (d / Nat.gcd n d) = 1 := by
  have := Nat.gcd_pos_of_pos_right n h
  rw [Nat.gcd_div (Nat.gcd_dvd_left n d) (Nat.gcd_dvd_right n d), Nat.div_self this]
theorem low_pos {n d : Nat} (h : 0 < d) : 0 < d / Nat.gcd n d := Nat.div_pos (Nat.le_of_dvd h (Nat.gcd_dvd_right n d)) (Nat.gcd_pos_of_pos_right n h)
theorem low_same {n d m k : Nat} (hd : 0 < d) (hk : 0 < k) (h : n * k = m * d) : lowT (n : Int) (d : Int) = lowT (m : Int) (k : Int) := by
  rw [lowT_nat, lowT_nat]
  have c1 := low_coprime (n := n) hd
  have c2 := low_coprime (n := m) hk
  have p1 := low_pos (n := n) hd
  have p2 := low_pos (n := m) hk
  have x1 := low_cross n d
  have x2 := low_cross m k
  generalize n / Nat.gcd n d = a at *
  generalize d / Nat.gcd n d = b at *
  generalize m / Nat.gcd m k = e at *
  generalize k / Nat.gcd m k = f at *
  have key : a * f = e * b := by
    have : a * f * (d * k) = e * b * (d * k) := by
      calc a * f * (d * k) = (a * d) * f * k := by grind
        _ = n * b * f * k := by rw [x1]
        _ = (n * k) * b * f := by grind
        _ = (m * d) * b * f := by rw [h]
        _ = (m * f) * b * d := by grind
        _ = (e * k) * b * d := by rw [x2]
        _ = e * b * (d * k) := by grind
    exact Nat.eq_of_mul_eq_mul_right (Nat.mul_pos hd hk) this
  have d1 : b ∣ f := by
    have : b ∣ a * f := by rw [key]; exact Nat.dvd_mul_left _ _
    exact (Nat.Coprime.symm c1).dvd_of_dvd_mul_left this
  have d2 : f ∣ b := by
    have : f ∣ e * b := by rw [← key]; exact Nat.dvd_mul_left _ _
    exact (Nat.Coprime.symm c2).dvd_of_dvd_mul_left this
  have e1 : b = f := Nat.dvd_antisymm d1 d2
  subst e1
  have e2 : a = e := Nat.eq_of_mul_eq_mul_right p1 key
  rw [e2]
theorem low_le {n d m k : Nat} (hd : 0 < d) (h : n ≤ m) : (lowT (n : Int) (d : Int)).1 * (lowT (m : Int) (d : Int)).2 ≤ (lowT (m : Int) (d : Int)).1 * (lowT (n : Int) (d : Int)).2 := by
  have _ := k
  rw [lowT_nat, lowT_nat]
  have x1 := low_cross n d
  have x2 := low_cross m d
  generalize n / Nat.gcd n d = a at *
  generalize d / Nat.gcd n d = b at *
  generalize m / Nat.gcd m d = e at *
  generalize d / Nat.gcd m d = f at *
  have key : a * f * d ≤ e * b * d := by
    calc a * f * d = (a * d) * f := by grind
      _ = n * b * f := by rw [x1]
      _ = n * (b * f) := by grind
      _ ≤ m * (b * f) := Nat.mul_le_mul_right _ h
      _ = (m * f) * b := by grind
      _ = (e * d) * b := by rw [x2]
      _ = e * b * d := by grind
  have := Nat.le_of_mul_le_mul_right key hd
  dsimp only
  rw [← Int.natCast_mul, ← Int.natCast_mul]
  omega
theorem low_one {d : Nat} (hd : 0 < d) : lowT (d : Int) (d : Int) = (1, 1) := by
  rw [lowT_nat, Nat.gcd_self, Nat.div_self hd]; rfl
theorem low_nil {d : Nat} (hd : 0 < d) : lowT ((0 : Nat) : Int) (d : Int) = (0, 1) := by
  rw [lowT_nat, Nat.gcd_zero_left, Nat.div_self hd, Nat.zero_div]; rfl
theorem low_le1 {n d : Nat} (hd : 0 < d) (h : n ≤ d) : (lowT (n : Int) (d : Int)).1 ≤ (lowT (n : Int) (d : Int)).2 := by
  have := low_le (k := 0) hd h
  rw [low_one hd] at this
  omega

/-- What the curve of a plan is. -/
theorem acc_first (L s a : Nat) (hs2 : s ≤ L) : accF L s a 0 = (1, 1) := by
  unfold accF
  rw [vs_none, Nat.sub_zero]
  exact low_one (pas_pos L s hs2)
theorem acc_last (L s a : Nat) (_hs : 1 ≤ s) (hs2 : s ≤ L) (ha : a < s) : accF L s a L = (0, 1) := by
  unfold accF
  rw [Nat.sub_self, vs_bad L s (a + 1) (by omega)]
  exact low_nil (pas_pos L s hs2)
theorem acc_all (L s : Nat) (hs : 1 ≤ s) (hs2 : s ≤ L) : accF L s s L = (1, 1) := by
  unfold accF
  rw [Nat.sub_self, vs_full s hs]
  exact low_one (pas_pos L s hs2)
theorem acc_le1 {L s a b : Nat} (hs : 1 ≤ s) (hs2 : s ≤ L) (ha : a ≤ s) (hb : b ≤ L) : (accF L s a b).1 ≤ (accF L s a b).2 := by
  have h1 := vs_le (b := b) (c := L - b) hs (show a + 1 ≤ s + 1 by omega)
  rw [show b + (L - b) = L by omega] at h1
  exact low_le1 (pas_pos L s hs2) h1
theorem acc_down {L s a b : Nat} (hs : 1 ≤ s) (hs2 : s ≤ L) (hb : b + 1 ≤ L) : (accF L s a (b + 1)).1 * (accF L s a b).2 ≤ (accF L s a b).1 * (accF L s a (b + 1)).2 := by
  obtain ⟨s, rfl⟩ : ∃ d, s = d + 1 := ⟨s - 1, by omega⟩
  have h := vs_down (b := b) (c := L - (b + 1)) (s := s) (a := a)
  rw [show L - (b + 1) + 1 = L - b by omega] at h
  exact low_le (k := 0) (pas_pos L (s + 1) hs2) h
theorem acc_more {L s a b : Nat} (hs2 : s ≤ L) : (accF L s a b).1 * (accF L s (a + 1) b).2 ≤ (accF L s (a + 1) b).1 * (accF L s a b).2 :=
  low_le (k := 0) (pas_pos L s hs2) (vs_mono b (L - b) s (a + 1) 1)
theorem acc_exch {L s a b : Nat} (hs2 : s ≤ L) (hb : b ≤ L) (ha : a ≤ s) (hab : a ≤ b) : accF L b a s = accF L s a b := by
  unfold accF
  exact low_same (pas_pos L b hb) (pas_pos L s hs2) (exch L s b hs2 hb (a + 1) (by omega) (by omega))
theorem acc_coprime {L s a b : Nat} (hs2 : s ≤ L) : Nat.gcd (accF L s a b).1.natAbs (accF L s a b).2.natAbs = 1 := by
  unfold accF
  rw [lowT_nat]
  exact low_coprime (pas_pos L s hs2)
theorem acc_none {L b : Nat} (hb : 1 ≤ b) (hb2 : b ≤ L) : accF L L 0 b = (0, 1) := by
  unfold accF
  rw [vs_in (Nat.zero_le _), Nat.sub_zero, pas_big (L - b) L (by omega)]
  simp only [vs, Nat.mul_zero, Nat.add_zero]
  exact low_nil (pas_pos L L (Nat.le_refl _))
theorem smp_some {L b r : Nat} : ∀ {f s n : Nat}, smp L b r f s = some n → s ≤ n ∧ n < s + f ∧ 1000 * (accF L n 0 b).1 ≤ (r : Int) * (accF L n 0 b).2 ∧ ∀ m, s ≤ m → m < n → ¬ 1000 * (accF L m 0 b).1 ≤ (r : Int) * (accF L m 0 b).2
  | 0, s, n, h => by cases h
  | f + 1, s, n, h => by
    rw [smp] at h
    split at h
    · rename_i hp
      obtain rfl : s = n := by simpa using h
      exact ⟨Nat.le_refl _, by omega, hp, fun m a b => by omega⟩
    · rename_i hp
      obtain ⟨h1, h2, h3, h4⟩ := smp_some h
      refine ⟨by omega, by omega, h3, fun m a b => ?_⟩
      rcases Nat.lt_or_ge s m with h5 | h5
      · exact h4 m h5 b
      · obtain rfl : m = s := by omega
        exact hp
theorem smp_none {L b r : Nat} : ∀ {f s : Nat}, smp L b r f s = none → ∀ m, s ≤ m → m < s + f → ¬ 1000 * (accF L m 0 b).1 ≤ (r : Int) * (accF L m 0 b).2
  | 0, s, _, m, h1, h2 => by omega
  | f + 1, s, h, m, h1, h2 => by
    rw [smp] at h
    split at h
    · cases h
    · rename_i hp
      rcases Nat.lt_or_ge s m with h5 | h5
      · exact smp_none h m h5 (by omega)
      · obtain rfl : m = s := by omega
        exact hp
theorem smp_bad {L b r : Nat} (h1 : 1 ≤ L) (hb2 : b ≤ L) (h : smp L b r L 1 = none) : b = 0 := by
  rcases Nat.eq_zero_or_pos b with h0 | h0
  · exact h0
  · have := smp_none h L h1 (by omega)
    rw [acc_none h0 hb2] at this
    exact absurd (by omega) this

/-- Cmp's answer. -/
def cmpV (x y : Int) : Int := if x < y then -1 else if y < x then 1 else 0
set_option maxRecDepth 100000 in
set_option maxHeartbeats 1000000 in
theorem cmp_any (a b c d : Int) (w : World) (h1 : -9000000000000000000 ≤ a * d ∧ a * d ≤ 9000000000000000000) (h2 : -9000000000000000000 ≤ c * b ∧ c * b ≤ 9000000000000000000) :
    Calls Try.prog 29 #[.agg #[.int .i64 a, .int .i64 b], .agg #[.int .i64 c, .int .i64 d]] w fun e w' => e = .returned (.int .i64 (cmpV (a * d) (c * b))) ∧ Ext w w' := by
  obtain ⟨W0, hW0⟩ : ∃ W0, W0 = (w.alloc (.cells #[.int .i64 a, .int .i64 b] 32)).alloc (.cells #[.int .i64 c, .int .i64 d] 32) := ⟨_, rfl⟩
  have k0 : Blk W0 w.heap.size 32 #[.int .i64 a, .int .i64 b] := by rw [hW0]; exact (Blk.new _ _ _).alloc _
  have k1 : Blk W0 (w.heap.size + 1) 32 #[.int .i64 c, .int .i64 d] := by rw [hW0]; exact Blk.newAt _ _ _ (by simp)
  have E0 := Lib.hid (show Ext w W0 by rw [hW0]; exact (Ext.alloc _ _).trans (Ext.alloc _ _))
  have y0 : W0.cell? ⟨w.heap.size, 0, none⟩ = some (.int .i64 (a)) := k0.cell 0
  have y1 : W0.cell? ⟨w.heap.size, 1, none⟩ = some (.int .i64 (b)) := k0.cell 1
  have y2 : W0.cell? ⟨w.heap.size + 1, 0, none⟩ = some (.int .i64 (c)) := k1.cell 0
  have y3 : W0.cell? ⟨w.heap.size + 1, 1, none⟩ = some (.int .i64 (d)) := k1.cell 1
  clear k0 k1
  obtain ⟨h3, h4⟩ := h1
  obtain ⟨h5, h6⟩ := h2
  go_enter Try.func29, Try.ntmps29
  go_wp2
  rw [← hW0]
  clear hW0
  go_wp2
  refine wp_region_each [some 7, some 8, some 9, some 10, some 11, some 12, some 13, some 14, some 15, some 16, some 5, some 6] [[2], [7], [3], [9], [8, 10], [3], [12], [2], [14], [13, 15], [11], [16]]
    [Is (.pointer (some ⟨w.heap.size, 0, none⟩)), Is (.int .i64 (a)), Is (.pointer (some ⟨w.heap.size + 1, 1, none⟩)), Is (.int .i64 (d)), Is (.int .i64 (a * d)), Is (.pointer (some ⟨w.heap.size + 1, 0, none⟩)), Is (.int .i64 (c)), Is (.pointer (some ⟨w.heap.size, 1, none⟩)), Is (.int .i64 (b)), Is (.int .i64 (c * b)), Is (.int .i64 (a * d)), Is (.int .i64 (c * b))]
    (by kernel_rfl) (by kernel_rfl) (by kernel_rfl) (by kernel_rfl) (by kernel_rfl) Ext (fun W => Ext W0 W)
    (fun W _ => Ext.refl W) (fun W W' h k => h.trans k) ?_ (Ext.drew _) ?_ ?_
  · repeat (refine ⟨fun _ _ _ _ k h => (by first | exact h | exact (IntsAt.ext h k)), ?_⟩)
    exact trivial
  · refine ⟨?_, ?_, ?_, ?_, ?_, ?_, ?_, ?_, ?_, ?_, ?_, ?_, trivial⟩
    all_goals intro ρ W ⟨kc, kg, kf⟩ hF hs
    · obtain ⟨h0, -⟩ := hs
      replace h0 : ρ (.tmp 2) = .pointer (some ⟨w.heap.size, 0, none⟩) := h0
      go_simp
      exact ⟨Ext.refl _, rfl⟩
    · obtain ⟨h0, -⟩ := hs
      replace h0 : ρ (.tmp 7) = .pointer (some ⟨w.heap.size, 0, none⟩) := h0
      have hc0 : W.cell? ⟨w.heap.size, 0, none⟩ = some (.int .i64 (a)) := hF.cell (by assumption)
      go_simp
      exact ⟨Ext.refl _, rfl⟩
    · obtain ⟨h0, -⟩ := hs
      replace h0 : ρ (.tmp 3) = .pointer (some ⟨w.heap.size + 1, 0, none⟩) := h0
      go_simp
      exact ⟨Ext.refl _, rfl⟩
    · obtain ⟨h0, -⟩ := hs
      replace h0 : ρ (.tmp 9) = .pointer (some ⟨w.heap.size + 1, 1, none⟩) := h0
      have hc0 : W.cell? ⟨w.heap.size + 1, 1, none⟩ = some (.int .i64 (d)) := hF.cell (by assumption)
      go_simp
      exact ⟨Ext.refl _, rfl⟩
    · obtain ⟨h0, h1, -⟩ := hs
      replace h0 : ρ (.tmp 8) = .int .i64 (a) := h0
      replace h1 : ρ (.tmp 10) = .int .i64 (d) := h1
      have hw : IntKind.i64.wrap (a * d) = a * d := wrap_id _ (by omega) (by omega)
      go_simp
      exact ⟨Ext.refl _, rfl⟩
    · obtain ⟨h0, -⟩ := hs
      replace h0 : ρ (.tmp 3) = .pointer (some ⟨w.heap.size + 1, 0, none⟩) := h0
      go_simp
      exact ⟨Ext.refl _, rfl⟩
    · obtain ⟨h0, -⟩ := hs
      replace h0 : ρ (.tmp 12) = .pointer (some ⟨w.heap.size + 1, 0, none⟩) := h0
      have hc0 : W.cell? ⟨w.heap.size + 1, 0, none⟩ = some (.int .i64 (c)) := hF.cell (by assumption)
      go_simp
      exact ⟨Ext.refl _, rfl⟩
    · obtain ⟨h0, -⟩ := hs
      replace h0 : ρ (.tmp 2) = .pointer (some ⟨w.heap.size, 0, none⟩) := h0
      go_simp
      exact ⟨Ext.refl _, rfl⟩
    · obtain ⟨h0, -⟩ := hs
      replace h0 : ρ (.tmp 14) = .pointer (some ⟨w.heap.size, 1, none⟩) := h0
      have hc0 : W.cell? ⟨w.heap.size, 1, none⟩ = some (.int .i64 (b)) := hF.cell (by assumption)
      go_simp
      exact ⟨Ext.refl _, rfl⟩
    · obtain ⟨h0, h1, -⟩ := hs
      replace h0 : ρ (.tmp 13) = .int .i64 (c) := h0
      replace h1 : ρ (.tmp 15) = .int .i64 (b) := h1
      have hw : IntKind.i64.wrap (c * b) = c * b := wrap_id _ (by omega) (by omega)
      go_simp
      exact ⟨Ext.refl _, rfl⟩
    · obtain ⟨h0, -⟩ := hs
      replace h0 : ρ (.tmp 11) = .int .i64 (a * d) := h0
      go_simp
      exact ⟨Ext.refl _, rfl⟩
    · obtain ⟨h0, -⟩ := hs
      replace h0 : ρ (.tmp 16) = .int .i64 (c * b) := h0
      go_simp
      exact ⟨Ext.refl _, rfl⟩
  · intro fv W hF hs
    obtain ⟨-, -, -, -, -, -, -, -, -, -, h5, h6, -⟩ := hs
    replace h5 : fv 5 = .int .i64 (a * d) := h5
    replace h6 : fv 6 = .int .i64 (c * b) := h6
    simp only [fin, List.filterMap]
    go_simp
    have X1 := Lib.hid (E0.out.trans hF)
    clear hF y0 y1 y2 y3
    have HV := Lib.hid (show cmpV (a * d) (c * b) = if a * d < c * b then -1 else if c * b < a * d then 1 else 0 from rfl)
    by_cases l1 : a * d < c * b
    · have Z := Lib.hid (HV.out.trans (if_pos l1))
      go_wp2
      go_ret
      exact ⟨ret_int Z.out.symm, X1.out⟩
    · by_cases l2 : c * b < a * d
      · have Z := Lib.hid ((HV.out.trans (if_neg l1)).trans (if_pos l2))
        go_wp2
        go_ret
        exact ⟨ret_int Z.out.symm, X1.out⟩
      · have Z := Lib.hid ((HV.out.trans (if_neg l1)).trans (if_neg l2))
        go_wp2
        go_ret
        exact ⟨ret_int Z.out.symm, X1.out⟩
set_option maxRecDepth 100000 in
set_option maxHeartbeats 1000000 in
theorem isSmall_ok (a b : Int) (w : World) (h1 : -1000000000 ≤ a ∧ a ≤ 1000000000) (h2 : 1 ≤ b ∧ b ≤ 1000000000) : Calls Try.prog 31 #[.agg #[.int .i64 a, .int .i64 b]] w fun e w' => e = .returned (.bool true) ∧ Ext w w' := by
  have H1 := Lib.hid (fun W => show Calls Try.prog 20 #[.int .i64 a, .int .i64 (-1000000000), .int .i64 1000000000] W fun e w' => e = .returned (.bool true) ∧ W = w' from by
    have := within_any a (-1000000000) 1000000000 W
    rw [withinB_eq, decide_eq_true h1] at this
    exact this)
  have H2 := Lib.hid (fun W => show Calls Try.prog 20 #[.int .i64 b, .int .i64 1, .int .i64 1000000000] W fun e w' => e = .returned (.bool true) ∧ W = w' from by
    have := within_any b 1 1000000000 W
    rw [withinB_eq, decide_eq_true h2] at this
    exact this)
  clear h1 h2
  go_enter Try.func31, Try.ntmps31
  go_wp2_with (first
    | (go_at_call 20; (with_reducible refine (H1.out _).mono ?_); rintro e w' ⟨rfl, rfl⟩)
    | (go_at_call 20; (with_reducible refine (H2.out _).mono ?_); rintro e w' ⟨rfl, rfl⟩))
  go_ret
  exact ⟨rfl, Ext.alloc _ _⟩
set_option maxRecDepth 100000 in
set_option maxHeartbeats 1000000 in
theorem isLowest_ok (a b : Int) (w : World) (h1 : -1000000000 ≤ a ∧ a ≤ 1000000000) (h2 : 1 ≤ b ∧ b ≤ 1000000000) (hg : Nat.gcd a.natAbs b.natAbs = 1) : Calls Try.prog 68 #[.agg #[.int .i64 a, .int .i64 b]] w fun e w' => e = .returned (.bool true) ∧ Ext w w' := by
  have H1 := Lib.hid (fun W => show Calls Try.prog 111 #[.int .i64 a, .int .i64 b] W fun e w' => e = .returned (.int .i64 1) ∧ Ext W w' from by
    have := gcd_any a b (by unfold Big; omega) (by unfold Big; omega) W
    rw [hg] at this
    exact this)
  have hb : 0 < b := by omega
  clear h1 h2 hg
  go_enter Try.func68, Try.ntmps68
  go_wp2_with (go_at_call 111; refine (H1.out _).mono ?_; rintro e W1 ⟨rfl, hx⟩; have X1 := Lib.hid ((Ext.alloc _ _).trans hx); clear hx)
  go_ret
  exact ⟨rfl, X1.out⟩

end Go.Proofs.Ytmddnpagfgilcaa
