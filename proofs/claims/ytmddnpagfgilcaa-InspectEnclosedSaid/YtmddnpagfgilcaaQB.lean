/- Part 2 of what the row builds on. -/
import Derived.Test.YtmddnpagfgilcaaQA


namespace Go.Proofs.Ytmddnpagfgilcaa
open Go.RowKit Go.Shelf Go.Mem Go.RegInv
attribute [local go_sem] RelUpon_value RelUpon_skip RelUpon_enter BigFrame.eval_const BigFrame.eval_global BigFrame.eval_func

def lotE (L : Int) : Int := rangeE 1 30 [L]
theorem lotError_any (L : Int) (w : World) : Calls Try.prog 109 #[.int .i64 L] w fun e w' => e = .returned (.int .i64 (lotE L)) ∧ Ext w w' := by
  go_enter Try.func109, Try.ntmps109
  go_wp2_with (go_at_call 79; refine (rangeError_any 1 30 _ [L] _ (ints_new _ [L] _ (by simp))).mono ?_; rintro e W1 ⟨rfl, hx⟩; have X1 := Lib.hid hx; clear hx)
  go_ret
  exact ⟨rfl, (Ext.alloc _ _).trans X1.out⟩
def badE (L b : Int) : Int := rangeE 0 L [b]
theorem badError_any (L b : Int) (w : World) : Calls Try.prog 107 #[.int .i64 L, .int .i64 b] w fun e w' => e = .returned (.int .i64 (badE L b)) ∧ Ext w w' := by
  go_enter Try.func107, Try.ntmps107
  go_wp2_with (go_at_call 79; refine (rangeError_any 0 L _ [b] _ (ints_new _ [b] _ (by simp))).mono ?_; rintro e W1 ⟨rfl, hx⟩; have X1 := Lib.hid hx; clear hx)
  go_ret
  exact ⟨rfl, (Ext.alloc _ _).trans X1.out⟩
def planE (L s a : Int) : Int := firstE [lotE L, rangeE 1 L [s], rangeE 0 s [a]]
set_option maxRecDepth 100000 in
theorem planError_any (L s a : Int) (w : World) : Calls Try.prog 106 #[.agg #[.int .i64 L, .int .i64 s, .int .i64 a]] w fun e w' => e = .returned (.int .i64 (planE L s a)) ∧ Ext w w' := by
  obtain ⟨W0, hW0⟩ : ∃ W0, W0 = w.alloc (.cells #[.int .i64 L, .int .i64 s, .int .i64 a] 104) := ⟨_, rfl⟩
  have k0 : Blk W0 w.heap.size 104 #[.int .i64 L, .int .i64 s, .int .i64 a] := by rw [hW0]; exact Blk.new _ _ _
  have E0 := Lib.hid (show Ext w W0 by rw [hW0]; exact Ext.alloc _ _)
  have y0 : W0.cell? ⟨w.heap.size, 0, none⟩ = some (.int .i64 (L)) := k0.cell 0
  have y1 : W0.cell? ⟨w.heap.size, 1, none⟩ = some (.int .i64 (s)) := k0.cell 1
  have y2 : W0.cell? ⟨w.heap.size, 2, none⟩ = some (.int .i64 (a)) := k0.cell 2
  have HE := Lib.hid (show planE L s a = firstE [lotE L, rangeE 1 L [s], rangeE 0 s [a]] from rfl)
  clear k0
  go_enter Try.func106, Try.ntmps106
  go_wp2
  rw [← hW0]
  clear hW0
  go_wp2
  refine wp_region_each [some 3, some 4, some 5, some 6, some 7, some 8, some 9, some 10, some 11, some 12, some 13, some 14, some 15, some 16, some 17, some 18, some 19, some 2] [[1], [3], [4], [1], [6], [1], [8], [9], [7, 10], [1], [12], [1], [14], [15], [13, 16], [5, 11, 17], [18], [19]]
    [Is (.pointer (some ⟨w.heap.size, 0, none⟩)), Is (.int .i64 (L)), Is (.int .i64 (lotE (L))), Is (.pointer (some ⟨w.heap.size, 0, none⟩)), Is (.int .i64 (L)), Is (.pointer (some ⟨w.heap.size, 1, none⟩)), Is (.int .i64 (s)), Ints [s], Is (.int .i64 (rangeE (1) (L) [s])), Is (.pointer (some ⟨w.heap.size, 1, none⟩)), Is (.int .i64 (s)), Is (.pointer (some ⟨w.heap.size, 2, none⟩)), Is (.int .i64 (a)), Ints [a], Is (.int .i64 (rangeE (0) (s) [a])), Ints [lotE (L), rangeE (1) (L) [s], rangeE (0) (s) [a]], Is (.int .i64 (firstE [lotE (L), rangeE (1) (L) [s], rangeE (0) (s) [a]])), Is (.int .i64 (firstE [lotE (L), rangeE (1) (L) [s], rangeE (0) (s) [a]]))]
    (by kernel_rfl) (by kernel_rfl) (by kernel_rfl) (by kernel_rfl) (by kernel_rfl) Ext (fun W => Ext W0 W)
    (fun W _ => Ext.refl W) (fun W W' h k => h.trans k) ?_ (Ext.drew _) ?_ ?_
  · repeat (refine ⟨fun _ _ _ _ k h => (by first | exact h | exact (IntsAt.ext h k)), ?_⟩)
    exact trivial
  · refine ⟨?_, ?_, ?_, ?_, ?_, ?_, ?_, ?_, ?_, ?_, ?_, ?_, ?_, ?_, ?_, ?_, ?_, ?_, trivial⟩
    all_goals intro ρ W ⟨kc, kg, kf⟩ hF hs
    · obtain ⟨h0, -⟩ := hs
      replace h0 : ρ (.tmp 1) = .pointer (some ⟨w.heap.size, 0, none⟩) := h0
      go_simp
      exact ⟨Ext.refl _, rfl⟩
    · obtain ⟨h0, -⟩ := hs
      replace h0 : ρ (.tmp 3) = .pointer (some ⟨w.heap.size, 0, none⟩) := h0
      have hc0 : W.cell? ⟨w.heap.size, 0, none⟩ = some (.int .i64 (L)) := hF.cell (by assumption)
      go_simp
      exact ⟨Ext.refl _, rfl⟩
    · obtain ⟨h0, -⟩ := hs
      replace h0 : ρ (.tmp 4) = .int .i64 (L) := h0
      go_simp
      refine (lotError_any _ _).mono ?_; rintro e w' ⟨rfl, hx⟩; exact ⟨_, rfl, hx, rfl⟩
    · obtain ⟨h0, -⟩ := hs
      replace h0 : ρ (.tmp 1) = .pointer (some ⟨w.heap.size, 0, none⟩) := h0
      go_simp
      exact ⟨Ext.refl _, rfl⟩
    · obtain ⟨h0, -⟩ := hs
      replace h0 : ρ (.tmp 6) = .pointer (some ⟨w.heap.size, 0, none⟩) := h0
      have hc0 : W.cell? ⟨w.heap.size, 0, none⟩ = some (.int .i64 (L)) := hF.cell (by assumption)
      go_simp
      exact ⟨Ext.refl _, rfl⟩
    · obtain ⟨h0, -⟩ := hs
      replace h0 : ρ (.tmp 1) = .pointer (some ⟨w.heap.size, 0, none⟩) := h0
      go_simp
      exact ⟨Ext.refl _, rfl⟩
    · obtain ⟨h0, -⟩ := hs
      replace h0 : ρ (.tmp 8) = .pointer (some ⟨w.heap.size, 1, none⟩) := h0
      have hc0 : W.cell? ⟨w.heap.size, 1, none⟩ = some (.int .i64 (s)) := hF.cell (by assumption)
      go_simp
      exact ⟨Ext.refl _, rfl⟩
    · obtain ⟨h0, -⟩ := hs
      replace h0 : ρ (.tmp 9) = .int .i64 (s) := h0
      go_simp
      exact ⟨Ext.alloc _ _, ints_new _ [s] _ (by simp)⟩
    · obtain ⟨h0, h1, -⟩ := hs
      replace h0 : ρ (.tmp 7) = .int .i64 (L) := h0
      replace h1 : (Ints [s]) (ρ (.tmp 10)) W := h1
      go_simp
      refine (rangeError_any _ _ _ _ _ h1).mono ?_; rintro e w' ⟨rfl, hx⟩; exact ⟨_, rfl, hx, rfl⟩
    · obtain ⟨h0, -⟩ := hs
      replace h0 : ρ (.tmp 1) = .pointer (some ⟨w.heap.size, 0, none⟩) := h0
      go_simp
      exact ⟨Ext.refl _, rfl⟩
    · obtain ⟨h0, -⟩ := hs
      replace h0 : ρ (.tmp 12) = .pointer (some ⟨w.heap.size, 1, none⟩) := h0
      have hc0 : W.cell? ⟨w.heap.size, 1, none⟩ = some (.int .i64 (s)) := hF.cell (by assumption)
      go_simp
      exact ⟨Ext.refl _, rfl⟩
    · obtain ⟨h0, -⟩ := hs
      replace h0 : ρ (.tmp 1) = .pointer (some ⟨w.heap.size, 0, none⟩) := h0
      go_simp
      exact ⟨Ext.refl _, rfl⟩
    · obtain ⟨h0, -⟩ := hs
      replace h0 : ρ (.tmp 14) = .pointer (some ⟨w.heap.size, 2, none⟩) := h0
      have hc0 : W.cell? ⟨w.heap.size, 2, none⟩ = some (.int .i64 (a)) := hF.cell (by assumption)
      go_simp
      exact ⟨Ext.refl _, rfl⟩
    · obtain ⟨h0, -⟩ := hs
      replace h0 : ρ (.tmp 15) = .int .i64 (a) := h0
      go_simp
      exact ⟨Ext.alloc _ _, ints_new _ [a] _ (by simp)⟩
    · obtain ⟨h0, h1, -⟩ := hs
      replace h0 : ρ (.tmp 13) = .int .i64 (s) := h0
      replace h1 : (Ints [a]) (ρ (.tmp 16)) W := h1
      go_simp
      refine (rangeError_any _ _ _ _ _ h1).mono ?_; rintro e w' ⟨rfl, hx⟩; exact ⟨_, rfl, hx, rfl⟩
    · obtain ⟨h0, h1, h2, -⟩ := hs
      replace h0 : ρ (.tmp 5) = .int .i64 (lotE (L)) := h0
      replace h1 : ρ (.tmp 11) = .int .i64 (rangeE (1) (L) [s]) := h1
      replace h2 : ρ (.tmp 17) = .int .i64 (rangeE (0) (s) [a]) := h2
      go_simp
      exact ⟨Ext.alloc _ _, ints_new _ [lotE (L), rangeE (1) (L) [s], rangeE (0) (s) [a]] _ (by simp)⟩
    · obtain ⟨h0, -⟩ := hs
      replace h0 : (Ints [lotE (L), rangeE (1) (L) [s], rangeE (0) (s) [a]]) (ρ (.tmp 18)) W := h0
      go_simp
      refine (firstOf_any _ _ _ h0).mono ?_; rintro e w' ⟨rfl, rfl⟩; exact ⟨_, rfl, Ext.refl _, rfl⟩
    · obtain ⟨h0, -⟩ := hs
      replace h0 : ρ (.tmp 19) = .int .i64 (firstE [lotE (L), rangeE (1) (L) [s], rangeE (0) (s) [a]]) := h0
      go_simp
      exact ⟨Ext.refl _, rfl⟩
  · intro fv W hF hs
    obtain ⟨-, -, -, -, -, -, -, -, -, -, -, -, -, -, -, -, -, h2, -⟩ := hs
    replace h2 : fv 2 = .int .i64 (firstE [lotE (L), rangeE (1) (L) [s], rangeE (0) (s) [a]]) := h2
    simp only [fin, List.filterMap]
    go_simp
    go_wp2
    go_ret
    exact ⟨ret_int HE.out.symm, E0.out.trans hF⟩

theorem bad_ok {L b : Int} (e : badE L b = 0) : 0 ≤ b ∧ b ≤ L := rangeE_zeros e b (by simp)
theorem plan_ok {L s a : Int} (e : planE L s a = 0) : 1 ≤ L ∧ L ≤ 30 ∧ 1 ≤ s ∧ s ≤ L ∧ 0 ≤ a ∧ a ≤ s := by
  have h1 := rangeE_zeros (firstE_zero e (lotE L) (by simp)) L (by simp)
  have h2 := rangeE_zeros (firstE_zero e (rangeE 1 L [s]) (by simp)) s (by simp)
  have h3 := rangeE_zeros (firstE_zero e (rangeE 0 s [a]) (by simp)) a (by simp)
  exact ⟨h1.1, h1.2, h2.1, h2.2, h3.1, h3.2⟩
/-- The acceptance. -/
def accF (L s a b : Nat) : Int × Int := lowT (vs b (L - b) s (a + 1) : Nat) (pas L s : Nat)
theorem vs_prod_le {L b s k : Nat} (hb : b ≤ L) (hk : k ≤ s) : pas b k * pas (L - b) (s - k) ≤ pas L s := by
  have := pas_mul_le (L - b) (s - k) b k
  rw [show b + (L - b) = L by omega, show k + (s - k) = s by omega] at this
  exact this
set_option maxRecDepth 100000 in
set_option maxHeartbeats 1000000 in
theorem acceptance_any (L s a b : Nat) (hL : L ≤ 30) (hs : 1 ≤ s) (hs2 : s ≤ L) (ha : a ≤ s) (hb : b ≤ L) (w : World) : Calls Try.prog 108 #[.agg #[.int .i64 L, .int .i64 s, .int .i64 a], .int .i64 b] w fun e w' => e = .returned (.agg #[.int .i64 (accF L s a b).1, .int .i64 (accF L s a b).2]) ∧ Ext w w' := by
  have pL := pas_small s hL
  have pp := pas_pos L s hs2
  have HLO := Lib.hid (fun W => lowestP_any (vs b (L - b) s (a + 1) : Nat) (pas L s : Nat) (by
    have := vs_le (b := b) (c := L - b) hs (show a + 1 ≤ s + 1 by omega)
    rw [show b + (L - b) = L by omega] at this
    unfold Big; omega) (by omega) (by unfold Big; omega) W)
  have HCH := Lib.hid (fun W => chosen_any L s hL (by omega) W)
  have HAC := Lib.hid (show accF L s a b = lowT (vs b (L - b) s (a + 1) : Nat) (pas L s : Nat) from rfl)
  generalize accF L s a b = ac at *
  have hq : ∃ q, q = w.heap.size := ⟨_, rfl⟩
  obtain ⟨W0, hW0⟩ : ∃ W0, W0 = (w.alloc (.cells #[.int .i64 L, .int .i64 s, .int .i64 a] 104)).alloc (.cells #[.int .i64 0, .int .i64 0] 32) := ⟨_, rfl⟩
  have k0 : Blk W0 w.heap.size 104 #[.int .i64 L, .int .i64 s, .int .i64 a] := by rw [hW0]; exact (Blk.new _ _ _).alloc _
  have k1 : Blk W0 (w.heap.size + 1) 32 #[.int .i64 0, .int .i64 0] := by rw [hW0]; exact Blk.newAt _ _ _ (by simp)
  have E0 := Lib.hid (show Ext w W0 by rw [hW0]; exact (Ext.alloc _ _).trans (Ext.alloc _ _))
  have y2 : W0.cell? ⟨w.heap.size, 2, none⟩ = some (.int .i64 (a : Int)) := k0.cell 2
  have K0 := Lib.hid k0
  have K1 := Lib.hid k1
  clear k0 k1 hq
  go_enter Try.func108, Try.ntmps108
  go_wp2
  rw [← hW0]
  clear hW0
  go_wp2
  go_loopw [5, 10] (fun u i wr => ∃ k : Nat, k ≤ a + 1 ∧ i = .int .i64 k ∧ u = .int .i64 (vs b (L - b) s k : Nat) ∧ Ext W0 wr) (fun _ i _ => a + 1 - (intOf i).toNat)
  case atStart => exact ⟨0, Nat.zero_le _, rfl, rfl, Ext.refl _⟩
  case round =>
    obtain ⟨k, hk, rfl, rfl, hx⟩ := hrel
    have X := Lib.hid hx
    clear hx y2
    by_cases hlt : k < a + 1
    · have HX := Lib.hid (fun W => chosen_any b k (by omega) (by omega) W)
      have HY := Lib.hid (fun W => show Calls Try.prog 130 #[.int .i64 ((L : Int) - (b : Int)), .int .i64 ((s : Int) - (k : Int))] W fun e w' => e = .returned (.int .i64 (pas (L - b) (s - k) : Nat)) ∧ W = w' from by
        have := chosen_any (L - b) (s - k) (by omega) (by omega) W
        rw [Int.natCast_sub (show b ≤ L by omega), Int.natCast_sub (show k ≤ s by omega)] at this
        exact this)
      have h1 := vs_prod_le (L := L) hb (show k ≤ s by omega)
      have h2 := vs_le (b := b) (c := L - b) hs (show k ≤ s + 1 by omega)
      rw [show b + (L - b) = L by omega] at h2
      have HV := Lib.hid (vs_in (b := b) (c := L - b) (s := s) (a := k) (by omega))
      have c0 : 0 ≤ ((pas b k : Nat) : Int) * ((pas (L - b) (s - k) : Nat) : Int) := Int.mul_nonneg (by omega) (by omega)
      have c1 : ((pas b k : Nat) : Int) * ((pas (L - b) (s - k) : Nat) : Int) ≤ 155117520 := by rw [← Int.natCast_mul]; omega
      have y0 : wr.cell? ⟨w.heap.size, 0, none⟩ = some (.int .i64 (L : Int)) := (K0.out.ext X.out).cell 0
      have y1 : wr.cell? ⟨w.heap.size, 1, none⟩ = some (.int .i64 (s : Int)) := (K0.out.ext X.out).cell 1
      clear h1
      generalize pas b k = x at *
      generalize pas (L - b) (s - k) = y at *
      generalize vs b (L - b) s k = z at *
      generalize w.heap.size = q at *
      go_wp2
      refine wp_region_part 15 [some 13, some 14, some 15, some 16, some 17, some 18, some 19, some 20, some 21, some 22, some 23, some 24, some 25, some 26, some 27] [[5], [1], [6], [14, 15], [2], [17], [1], [18, 19], [2], [21], [6], [22, 23], [20, 24], [16, 25], [13, 26]]
        [Is (.int .i64 ((z : Int))), Is (.int .i64 ((b : Int))), Is (.int .i64 ((k : Int))), Is (.int .i64 ((x : Int))), Is (.pointer (some ⟨q, 0, none⟩)), Is (.int .i64 ((L : Int))), Is (.int .i64 ((b : Int))), Is (.int .i64 ((L : Int) - (b : Int))), Is (.pointer (some ⟨q, 1, none⟩)), Is (.int .i64 ((s : Int))), Is (.int .i64 ((k : Int))), Is (.int .i64 ((s : Int) - (k : Int))), Is (.int .i64 ((y : Int))), Is (.int .i64 ((x : Int) * (y : Int))), Is (.int .i64 ((z : Int) + (x : Int) * (y : Int)))]
        (by kernel_rfl) (by kernel_rfl) (by kernel_rfl) (by kernel_rfl) (by kernel_rfl) (by kernel_rfl) (by kernel_rfl) Ext (fun W => Ext wr W)
        (fun W _ => Ext.refl W) (fun W W' h k => h.trans k) ?_ (Ext.drew _) ?_ ?_
      · repeat (refine ⟨fun _ _ _ _ k h => (by first | exact h | exact (IntsAt.ext h k)), ?_⟩)
        exact trivial
      · refine ⟨?_, ?_, ?_, ?_, ?_, ?_, ?_, ?_, ?_, ?_, ?_, ?_, ?_, ?_, ?_, trivial⟩
        all_goals intro ρ W ⟨kc, kg, kf⟩ hF hs
        · obtain ⟨h0, -⟩ := hs
          replace h0 : ρ (.tmp 5) = .int .i64 ((z : Int)) := h0
          go_simp
          exact ⟨Ext.refl _, rfl⟩
        · obtain ⟨h0, -⟩ := hs
          replace h0 : ρ (.tmp 1) = .int .i64 ((b : Int)) := h0
          go_simp
          exact ⟨Ext.refl _, rfl⟩
        · obtain ⟨h0, -⟩ := hs
          replace h0 : ρ (.tmp 6) = .int .i64 ((k : Int)) := h0
          go_simp
          exact ⟨Ext.refl _, rfl⟩
        · obtain ⟨h0, h1, -⟩ := hs
          replace h0 : ρ (.tmp 14) = .int .i64 ((b : Int)) := h0
          replace h1 : ρ (.tmp 15) = .int .i64 ((k : Int)) := h1
          go_simp
          refine (HX.out _).mono ?_; rintro e w' ⟨rfl, rfl⟩; exact ⟨_, rfl, Ext.refl _, rfl⟩
        · obtain ⟨h0, -⟩ := hs
          replace h0 : ρ (.tmp 2) = .pointer (some ⟨q, 0, none⟩) := h0
          go_simp
          exact ⟨Ext.refl _, rfl⟩
        · obtain ⟨h0, -⟩ := hs
          replace h0 : ρ (.tmp 17) = .pointer (some ⟨q, 0, none⟩) := h0
          have hc0 : W.cell? ⟨q, 0, none⟩ = some (.int .i64 ((L : Int))) := hF.cell (by assumption)
          go_simp
          exact ⟨Ext.refl _, rfl⟩
        · obtain ⟨h0, -⟩ := hs
          replace h0 : ρ (.tmp 1) = .int .i64 ((b : Int)) := h0
          go_simp
          exact ⟨Ext.refl _, rfl⟩
        · obtain ⟨h0, h1, -⟩ := hs
          replace h0 : ρ (.tmp 18) = .int .i64 ((L : Int)) := h0
          replace h1 : ρ (.tmp 19) = .int .i64 ((b : Int)) := h1
          have hw : IntKind.i64.wrap ((L : Int) - (b : Int)) = (L : Int) - (b : Int) := wrap_id _ (by omega) (by omega)
          go_simp
          exact ⟨Ext.refl _, rfl⟩
        · obtain ⟨h0, -⟩ := hs
          replace h0 : ρ (.tmp 2) = .pointer (some ⟨q, 0, none⟩) := h0
          go_simp
          exact ⟨Ext.refl _, rfl⟩
        · obtain ⟨h0, -⟩ := hs
          replace h0 : ρ (.tmp 21) = .pointer (some ⟨q, 1, none⟩) := h0
          have hc0 : W.cell? ⟨q, 1, none⟩ = some (.int .i64 ((s : Int))) := hF.cell (by assumption)
          go_simp
          exact ⟨Ext.refl _, rfl⟩
        · obtain ⟨h0, -⟩ := hs
          replace h0 : ρ (.tmp 6) = .int .i64 ((k : Int)) := h0
          go_simp
          exact ⟨Ext.refl _, rfl⟩
        · obtain ⟨h0, h1, -⟩ := hs
          replace h0 : ρ (.tmp 22) = .int .i64 ((s : Int)) := h0
          replace h1 : ρ (.tmp 23) = .int .i64 ((k : Int)) := h1
          have hw : IntKind.i64.wrap ((s : Int) - (k : Int)) = (s : Int) - (k : Int) := wrap_id _ (by omega) (by omega)
          go_simp
          exact ⟨Ext.refl _, rfl⟩
        · obtain ⟨h0, h1, -⟩ := hs
          replace h0 : ρ (.tmp 20) = .int .i64 ((L : Int) - (b : Int)) := h0
          replace h1 : ρ (.tmp 24) = .int .i64 ((s : Int) - (k : Int)) := h1
          go_simp
          refine (HY.out _).mono ?_; rintro e w' ⟨rfl, rfl⟩; exact ⟨_, rfl, Ext.refl _, rfl⟩
        · obtain ⟨h0, h1, -⟩ := hs
          replace h0 : ρ (.tmp 16) = .int .i64 ((x : Int)) := h0
          replace h1 : ρ (.tmp 25) = .int .i64 ((y : Int)) := h1
          have hw : IntKind.i64.wrap ((x : Int) * (y : Int)) = (x : Int) * (y : Int) := wrap_id _ (by omega) (by omega)
          go_simp
          exact ⟨Ext.refl _, rfl⟩
        · obtain ⟨h0, h1, -⟩ := hs
          replace h0 : ρ (.tmp 13) = .int .i64 ((z : Int)) := h0
          replace h1 : ρ (.tmp 26) = .int .i64 ((x : Int) * (y : Int)) := h1
          have hw : IntKind.i64.wrap ((z : Int) + (x : Int) * (y : Int)) = (z : Int) + (x : Int) * (y : Int) := wrap_id _ (by omega) (by omega)
          go_simp
          exact ⟨Ext.refl _, rfl⟩
      · intro fv W hF hs
        obtain ⟨-, -, -, -, -, -, -, -, -, -, -, -, -, -, h27, -⟩ := hs
        replace h27 : fv 27 = .int .i64 ((z : Int) + (x : Int) * (y : Int)) := h27
        simp only [fin, List.filterMap]
        go_simp
        have X2 := Lib.hid (X.out.trans hF)
        clear hF y0 y1
        go_wp2
        go_roundw
        case rel => exact ⟨k + 1, by omega, by go_num, by rw [HV.out, Int.natCast_add, Int.natCast_mul], X2.out⟩
        case measure => simp [intOf]; omega
    · have hka : k = a + 1 := by omega
      have hl := HLO.out
      rw [← HAC.out, ← hka] at hl
      have HL2 := Lib.hid hl
      have hgt : ¬ (k : Int) < (a : Int) + 1 := by omega
      clear hka hl HLO
      have y0 : wr.cell? ⟨w.heap.size, 0, none⟩ = some (.int .i64 (L : Int)) := (K0.out.ext X.out).cell 0
      have y1 : wr.cell? ⟨w.heap.size, 1, none⟩ = some (.int .i64 (s : Int)) := (K0.out.ext X.out).cell 1
      generalize vs b (L - b) s k = z at *
      generalize pas L s = p at *
      go_wp2_with (first
        | (go_at_call 130; refine (HCH.out _).mono ?_; rintro e w' ⟨rfl, rfl⟩)
        | (go_at_call 123; refine (HL2.out _).mono ?_; rintro e W2 ⟨rfl, hx⟩; have X2 := Lib.hid hx; clear hx; refine Hid.out ?_))
      refine Lib.hid ?_
      have B2 := K1.out.ext (X.out.trans X2.out)
      have f0 := B2.free 0
      have f1 := B2.free 1
      have c0 : W2.cell? ⟨w.heap.size + 1, 0, none⟩ = some (.int .i64 0) := B2.cell 0
      have c1 : W2.cell? ⟨w.heap.size + 1, 1, none⟩ = some (.int .i64 0) := B2.cell 1
      clear B2 y0 y1
      clear HAC HCH HL2
      go_wp2
      exact bodyPost_ret (v := .agg #[.int .i64 ac.1, .int .i64 ac.2]) (by simp [results, Try.f108, go_sem, c0, c1]) rfl ⟨rfl, Ext.set (Ext.set (E0.out.trans (X.out.trans X2.out)) (by dsimp only; omega) _) (by dsimp only; omega) _⟩

end Go.Proofs.Ytmddnpagfgilcaa

namespace Go.Proofs.Ytmddnpagfgilcaa
open Go.RowKit Go.Shelf Go.Mem Go.RegInv
attribute [local go_sem] RelUpon_value RelUpon_skip RelUpon_enter BigFrame.eval_const BigFrame.eval_global BigFrame.eval_func

def accE (L s a b : Int) : Int := firstE [planE L s a, badE L b]
theorem acc_ok {L s a b : Int} (e : accE L s a b = 0) : 1 ≤ L ∧ L ≤ 30 ∧ 1 ≤ s ∧ s ≤ L ∧ 0 ≤ a ∧ a ≤ s ∧ 0 ≤ b ∧ b ≤ L := by
  obtain ⟨h1, h2, h3, h4, h5, h6⟩ := plan_ok (firstE_zero e (planE L s a) (by simp))
  obtain ⟨h7, h8⟩ := bad_ok (firstE_zero e (badE L b) (by simp))
  exact ⟨h1, h2, h3, h4, h5, h6, h7, h8⟩
set_option maxRecDepth 100000 in
set_option maxHeartbeats 1000000 in
theorem accOf_bad (L s a b : Int) (hz : accE L s a b ≠ 0) (w : World) : Calls Try.prog 59 #[.agg #[.int .i64 L, .int .i64 s, .int .i64 a], .int .i64 b] w fun e w' => e = .returned (.tuple #[.agg #[.int .i64 0, .int .i64 0], .int .i64 (accE L s a b)]) ∧ Ext w w' := by
  have HZ := Lib.hid (show firstE [planE L s a, badE L b] = accE L s a b from rfl)
  have hz2 : (accE L s a b != 0) = true := by simp [hz]
  generalize accE L s a b = z at *
  obtain ⟨W0, hW0⟩ : ∃ W0, W0 = (w.alloc (.cells #[.int .i64 L, .int .i64 s, .int .i64 a] 104)).alloc (.cells #[.int .i64 0, .int .i64 0] 32) := ⟨_, rfl⟩
  have k0 : Blk W0 w.heap.size 104 #[.int .i64 L, .int .i64 s, .int .i64 a] := by rw [hW0]; exact (Blk.new _ _ _).alloc _
  have k1 : Blk W0 (w.heap.size + 1) 32 #[.int .i64 0, .int .i64 0] := by rw [hW0]; exact Blk.newAt _ _ _ (by simp)
  have E0 := Lib.hid (show Ext w W0 by rw [hW0]; exact (Ext.alloc _ _).trans (Ext.alloc _ _))
  have y0 : W0.cell? ⟨w.heap.size, 0, none⟩ = some (.int .i64 (L)) := k0.cell 0
  have y1 : W0.cell? ⟨w.heap.size, 1, none⟩ = some (.int .i64 (s)) := k0.cell 1
  have y2 : W0.cell? ⟨w.heap.size, 2, none⟩ = some (.int .i64 (a)) := k0.cell 2
  have K0 := Lib.hid k0
  have K1 := Lib.hid k1
  clear k0 k1
  go_enter Try.func59, Try.ntmps59
  go_wp2
  rw [← hW0]
  clear hW0
  go_wp2
  refine wp_region_each [some 7, some 8, some 9, some 10, some 11, some 12, some 13, some 14, some 6] [[2], [7], [2], [9], [1], [10, 11], [8, 12], [13], [14]]
    [Is (.agg #[.int .i64 (L), .int .i64 (s), .int .i64 (a)]), Is (.int .i64 (planE L s a)), Is (.pointer (some ⟨w.heap.size, 0, none⟩)), Is (.int .i64 (L)), Is (.int .i64 (b)), Is (.int .i64 (badE (L) (b))), Ints [planE L s a, badE (L) (b)], Is (.int .i64 (firstE [planE L s a, badE (L) (b)])), Is (.int .i64 (firstE [planE L s a, badE (L) (b)]))]
    (by kernel_rfl) (by kernel_rfl) (by kernel_rfl) (by kernel_rfl) (by kernel_rfl) Ext (fun W => Ext W0 W)
    (fun W _ => Ext.refl W) (fun W W' h k => h.trans k) ?_ (Ext.drew _) ?_ ?_
  · repeat (refine ⟨fun _ _ _ _ k h => (by first | exact h | exact (IntsAt.ext h k)), ?_⟩)
    exact trivial
  · refine ⟨?_, ?_, ?_, ?_, ?_, ?_, ?_, ?_, ?_, trivial⟩
    all_goals intro ρ W ⟨kc, kg, kf⟩ hF hs
    · obtain ⟨h0, -⟩ := hs
      replace h0 : ρ (.tmp 2) = .pointer (some ⟨w.heap.size, 0, none⟩) := h0
      have hc0 : W.cell? ⟨w.heap.size, 0, none⟩ = some (.int .i64 (L)) := hF.cell (by assumption)
      have hc1 : W.cell? ⟨w.heap.size, 1, none⟩ = some (.int .i64 (s)) := hF.cell (by assumption)
      have hc2 : W.cell? ⟨w.heap.size, 2, none⟩ = some (.int .i64 (a)) := hF.cell (by assumption)
      go_simp
      exact ⟨Ext.refl _, rfl⟩
    · obtain ⟨h0, -⟩ := hs
      replace h0 : ρ (.tmp 7) = .agg #[.int .i64 (L), .int .i64 (s), .int .i64 (a)] := h0
      go_simp
      refine (planError_any _ _ _ _).mono ?_; rintro e w' ⟨rfl, hx⟩; exact ⟨_, rfl, hx, rfl⟩
    · obtain ⟨h0, -⟩ := hs
      replace h0 : ρ (.tmp 2) = .pointer (some ⟨w.heap.size, 0, none⟩) := h0
      go_simp
      exact ⟨Ext.refl _, rfl⟩
    · obtain ⟨h0, -⟩ := hs
      replace h0 : ρ (.tmp 9) = .pointer (some ⟨w.heap.size, 0, none⟩) := h0
      have hc0 : W.cell? ⟨w.heap.size, 0, none⟩ = some (.int .i64 (L)) := hF.cell (by assumption)
      go_simp
      exact ⟨Ext.refl _, rfl⟩
    · obtain ⟨h0, -⟩ := hs
      replace h0 : ρ (.tmp 1) = .int .i64 (b) := h0
      go_simp
      exact ⟨Ext.refl _, rfl⟩
    · obtain ⟨h0, h1, -⟩ := hs
      replace h0 : ρ (.tmp 10) = .int .i64 (L) := h0
      replace h1 : ρ (.tmp 11) = .int .i64 (b) := h1
      go_simp
      refine (badError_any _ _ _).mono ?_; rintro e w' ⟨rfl, hx⟩; exact ⟨_, rfl, hx, rfl⟩
    · obtain ⟨h0, h1, -⟩ := hs
      replace h0 : ρ (.tmp 8) = .int .i64 (planE L s a) := h0
      replace h1 : ρ (.tmp 12) = .int .i64 (badE (L) (b)) := h1
      go_simp
      exact ⟨Ext.alloc _ _, ints_new _ [planE L s a, badE (L) (b)] _ (by simp)⟩
    · obtain ⟨h0, -⟩ := hs
      replace h0 : (Ints [planE L s a, badE (L) (b)]) (ρ (.tmp 13)) W := h0
      go_simp
      refine (firstOf_any _ _ _ h0).mono ?_; rintro e w' ⟨rfl, rfl⟩; exact ⟨_, rfl, Ext.refl _, rfl⟩
    · obtain ⟨h0, -⟩ := hs
      replace h0 : ρ (.tmp 14) = .int .i64 (firstE [planE L s a, badE (L) (b)]) := h0
      go_simp
      exact ⟨Ext.refl _, rfl⟩
  · intro fv W hF hs
    obtain ⟨-, -, -, -, -, -, -, -, h6, -⟩ := hs
    replace h6 : fv 6 = .int .i64 (firstE [planE L s a, badE (L) (b)]) := h6
    simp only [fin, List.filterMap]
    go_simp
    rw [HZ.out]
    clear h6
    have B0 := Lib.hid (K0.out.ext hF)
    have B1 := Lib.hid (K1.out.ext hF)
    have X1 := Lib.hid (E0.out.trans hF)
    clear hF y0 y1 y2 K0 K1 E0

    have f0 := B1.out.free 0
    have f1 := B1.out.free 1
    have c0 : W.cell? ⟨w.heap.size + 1, 0, none⟩ = some (.int .i64 0) := B1.out.cell 0
    have c1 : W.cell? ⟨w.heap.size + 1, 1, none⟩ = some (.int .i64 0) := B1.out.cell 1
    clear B0 B1 HZ hz
    go_wp2
    exact bodyPost_ret (v := .tuple #[.agg #[.int .i64 0, .int .i64 0], .int .i64 z]) (by simp [results, Try.f59, go_sem, c0, c1]) rfl ⟨rfl, Ext.set (Ext.set X1.out (by dsimp only; omega) _) (by dsimp only; omega) _⟩
set_option maxRecDepth 100000 in
set_option maxHeartbeats 1000000 in
theorem accOf_ok {L s a b : Int} {x y : Int} (hz : accE L s a b = 0) (hC : ∀ W, Calls Try.prog 108 #[.agg #[.int .i64 L, .int .i64 s, .int .i64 a], .int .i64 b] W fun e w' => e = .returned (.agg #[.int .i64 x, .int .i64 y]) ∧ Ext W w') (w : World) : Calls Try.prog 59 #[.agg #[.int .i64 L, .int .i64 s, .int .i64 a], .int .i64 b] w fun e w' => e = .returned (.tuple #[.agg #[.int .i64 x, .int .i64 y], .int .i64 0]) ∧ Ext w w' := by
  have HZ := Lib.hid (show firstE [planE L s a, badE L b] = 0 from hz)
  have HC := Lib.hid hC
  clear hz hC
  obtain ⟨W0, hW0⟩ : ∃ W0, W0 = (w.alloc (.cells #[.int .i64 L, .int .i64 s, .int .i64 a] 104)).alloc (.cells #[.int .i64 0, .int .i64 0] 32) := ⟨_, rfl⟩
  have k0 : Blk W0 w.heap.size 104 #[.int .i64 L, .int .i64 s, .int .i64 a] := by rw [hW0]; exact (Blk.new _ _ _).alloc _
  have k1 : Blk W0 (w.heap.size + 1) 32 #[.int .i64 0, .int .i64 0] := by rw [hW0]; exact Blk.newAt _ _ _ (by simp)
  have E0 := Lib.hid (show Ext w W0 by rw [hW0]; exact (Ext.alloc _ _).trans (Ext.alloc _ _))
  have y0 : W0.cell? ⟨w.heap.size, 0, none⟩ = some (.int .i64 (L)) := k0.cell 0
  have y1 : W0.cell? ⟨w.heap.size, 1, none⟩ = some (.int .i64 (s)) := k0.cell 1
  have y2 : W0.cell? ⟨w.heap.size, 2, none⟩ = some (.int .i64 (a)) := k0.cell 2
  have K0 := Lib.hid k0
  have K1 := Lib.hid k1
  clear k0 k1
  go_enter Try.func59, Try.ntmps59
  go_wp2
  rw [← hW0]
  clear hW0
  go_wp2
  refine wp_region_each [some 7, some 8, some 9, some 10, some 11, some 12, some 13, some 14, some 6] [[2], [7], [2], [9], [1], [10, 11], [8, 12], [13], [14]]
    [Is (.agg #[.int .i64 (L), .int .i64 (s), .int .i64 (a)]), Is (.int .i64 (planE L s a)), Is (.pointer (some ⟨w.heap.size, 0, none⟩)), Is (.int .i64 (L)), Is (.int .i64 (b)), Is (.int .i64 (badE (L) (b))), Ints [planE L s a, badE (L) (b)], Is (.int .i64 (firstE [planE L s a, badE (L) (b)])), Is (.int .i64 (firstE [planE L s a, badE (L) (b)]))]
    (by kernel_rfl) (by kernel_rfl) (by kernel_rfl) (by kernel_rfl) (by kernel_rfl) Ext (fun W => Ext W0 W)
    (fun W _ => Ext.refl W) (fun W W' h k => h.trans k) ?_ (Ext.drew _) ?_ ?_
  · repeat (refine ⟨fun _ _ _ _ k h => (by first | exact h | exact (IntsAt.ext h k)), ?_⟩)
    exact trivial
  · refine ⟨?_, ?_, ?_, ?_, ?_, ?_, ?_, ?_, ?_, trivial⟩
    all_goals intro ρ W ⟨kc, kg, kf⟩ hF hs
    · obtain ⟨h0, -⟩ := hs
      replace h0 : ρ (.tmp 2) = .pointer (some ⟨w.heap.size, 0, none⟩) := h0
      have hc0 : W.cell? ⟨w.heap.size, 0, none⟩ = some (.int .i64 (L)) := hF.cell (by assumption)
      have hc1 : W.cell? ⟨w.heap.size, 1, none⟩ = some (.int .i64 (s)) := hF.cell (by assumption)
      have hc2 : W.cell? ⟨w.heap.size, 2, none⟩ = some (.int .i64 (a)) := hF.cell (by assumption)
      go_simp
      exact ⟨Ext.refl _, rfl⟩
    · obtain ⟨h0, -⟩ := hs
      replace h0 : ρ (.tmp 7) = .agg #[.int .i64 (L), .int .i64 (s), .int .i64 (a)] := h0
      go_simp
      refine (planError_any _ _ _ _).mono ?_; rintro e w' ⟨rfl, hx⟩; exact ⟨_, rfl, hx, rfl⟩
    · obtain ⟨h0, -⟩ := hs
      replace h0 : ρ (.tmp 2) = .pointer (some ⟨w.heap.size, 0, none⟩) := h0
      go_simp
      exact ⟨Ext.refl _, rfl⟩
    · obtain ⟨h0, -⟩ := hs
      replace h0 : ρ (.tmp 9) = .pointer (some ⟨w.heap.size, 0, none⟩) := h0
      have hc0 : W.cell? ⟨w.heap.size, 0, none⟩ = some (.int .i64 (L)) := hF.cell (by assumption)
      go_simp
      exact ⟨Ext.refl _, rfl⟩
    · obtain ⟨h0, -⟩ := hs
      replace h0 : ρ (.tmp 1) = .int .i64 (b) := h0
      go_simp
      exact ⟨Ext.refl _, rfl⟩
    · obtain ⟨h0, h1, -⟩ := hs
      replace h0 : ρ (.tmp 10) = .int .i64 (L) := h0
      replace h1 : ρ (.tmp 11) = .int .i64 (b) := h1
      go_simp
      refine (badError_any _ _ _).mono ?_; rintro e w' ⟨rfl, hx⟩; exact ⟨_, rfl, hx, rfl⟩
    · obtain ⟨h0, h1, -⟩ := hs
      replace h0 : ρ (.tmp 8) = .int .i64 (planE L s a) := h0
      replace h1 : ρ (.tmp 12) = .int .i64 (badE (L) (b)) := h1
      go_simp
      exact ⟨Ext.alloc _ _, ints_new _ [planE L s a, badE (L) (b)] _ (by simp)⟩
    · obtain ⟨h0, -⟩ := hs
      replace h0 : (Ints [planE L s a, badE (L) (b)]) (ρ (.tmp 13)) W := h0
      go_simp
      refine (firstOf_any _ _ _ h0).mono ?_; rintro e w' ⟨rfl, rfl⟩; exact ⟨_, rfl, Ext.refl _, rfl⟩
    · obtain ⟨h0, -⟩ := hs
      replace h0 : ρ (.tmp 14) = .int .i64 (firstE [planE L s a, badE (L) (b)]) := h0
      go_simp
      exact ⟨Ext.refl _, rfl⟩
  · intro fv W hF hs
    obtain ⟨-, -, -, -, -, -, -, -, h6, -⟩ := hs
    replace h6 : fv 6 = .int .i64 (firstE [planE L s a, badE (L) (b)]) := h6
    simp only [fin, List.filterMap]
    go_simp
    rw [HZ.out]
    clear h6
    have B0 := Lib.hid (K0.out.ext hF)
    have B1 := Lib.hid (K1.out.ext hF)
    have X1 := Lib.hid (E0.out.trans hF)
    clear hF y0 y1 y2 K0 K1 E0

    have p0 : W.cell? ⟨w.heap.size, 0, none⟩ = some (.int .i64 L) := B0.out.cell 0
    have p1 : W.cell? ⟨w.heap.size, 1, none⟩ = some (.int .i64 s) := B0.out.cell 1
    have p2 : W.cell? ⟨w.heap.size, 2, none⟩ = some (.int .i64 a) := B0.out.cell 2
    clear HZ B0
    go_wp2_with (go_at_call 108; refine (HC.out _).mono ?_; rintro e W2 ⟨rfl, hx⟩; have B2 := Lib.hid (B1.out.ext hx); have X2 := Lib.hid (X1.out.trans hx); clear hx p0 p1 p2; refine Hid.out ?_)
    refine Lib.hid ?_
    have f0 := B2.out.free 0
    have f1 := B2.out.free 1
    have c0 : W2.cell? ⟨w.heap.size + 1, 0, none⟩ = some (.int .i64 0) := B2.out.cell 0
    have c1 : W2.cell? ⟨w.heap.size + 1, 1, none⟩ = some (.int .i64 0) := B2.out.cell 1
    clear B1 B2 HC
    go_wp2
    exact bodyPost_ret (v := .tuple #[.agg #[.int .i64 x, .int .i64 y], .int .i64 0]) (by simp [results, Try.f59, go_sem, c0, c1]) rfl ⟨rfl, Ext.set (Ext.set X2.out (by dsimp only; omega) _) (by dsimp only; omega) _⟩
/-- The answer of AcceptanceOf. -/
def accV (L s a b : Int) : Int × Int := if accE L s a b = 0 then accF L.toNat s.toNat a.toNat b.toNat else (0, 0)
theorem accOf_any (L s a b : Int) (w : World) : Calls Try.prog 59 #[.agg #[.int .i64 L, .int .i64 s, .int .i64 a], .int .i64 b] w fun e w' => e = .returned (.tuple #[.agg #[.int .i64 (accV L s a b).1, .int .i64 (accV L s a b).2], .int .i64 (accE L s a b)]) ∧ Ext w w' := by
  unfold accV
  by_cases hz : accE L s a b = 0
  · rw [if_pos hz]
    obtain ⟨h1, h2, h3, h4, h5, h6, h7, h8⟩ := acc_ok hz
    have := accOf_ok (x := (accF L.toNat s.toNat a.toNat b.toNat).1) (y := (accF L.toNat s.toNat a.toNat b.toNat).2) hz (fun W => by
      have := acceptance_any L.toNat s.toNat a.toNat b.toNat (by omega) (by omega) (by omega) (by omega) (by omega) W
      rw [Int.toNat_of_nonneg (by omega), Int.toNat_of_nonneg (by omega), Int.toNat_of_nonneg (by omega), Int.toNat_of_nonneg (by omega)] at this
      exact this) w
    rw [hz]
    exact this
  · rw [if_neg hz]
    exact accOf_bad L s a b hz w

end Go.Proofs.Ytmddnpagfgilcaa

namespace Go.Proofs.Ytmddnpagfgilcaa
open Go.RowKit Go.Shelf Go.Mem Go.RegInv
attribute [local go_sem] RelUpon_value RelUpon_skip RelUpon_enter BigFrame.eval_const BigFrame.eval_global BigFrame.eval_func

end Go.Proofs.Ytmddnpagfgilcaa

namespace Go.Proofs.Ytmddnpagfgilcaa
open Go.RowKit Go.Shelf Go.Mem Go.RegInv
attribute [local go_sem] RelUpon_value RelUpon_skip RelUpon_enter BigFrame.eval_const BigFrame.eval_global BigFrame.eval_func

end Go.Proofs.Ytmddnpagfgilcaa

namespace Go.Proofs.Ytmddnpagfgilcaa
open Go.RowKit Go.Shelf Go.Mem Go.RegInv
attribute [local go_sem] RelUpon_value RelUpon_skip RelUpon_enter BigFrame.eval_const BigFrame.eval_global BigFrame.eval_func

/-- An indent. -/
structure In where
  d : Int
  g : Int
  lo : Int
  hi : Int
deriving DecidableEq, Inhabited
def In.enc (x : In) : List Value := [.int .i64 x.d, .int .i64 x.g, .int .i64 x.lo, .int .i64 x.hi]
theorem orderError_any (a b : Int) (w : World) : Calls Try.prog 80 #[.agg #[.int .i64 a, .int .i64 b]] w fun e w' => e = .returned (.int .i64 (errIf (decide (b < a)) 9)) ∧ Ext w w' := by
  go_enter Try.func80, Try.ntmps80
  go_wp2_with (go_at_call 81; refine (errorIf_any _ _ _).mono ?_; rintro e w' ⟨rfl, rfl⟩)
  go_ret
  exact ⟨rfl, Ext.alloc _ _⟩
def countE (n lo hi : Int) : Int := firstE [errIf (decide (n < lo)) 10, errIf (decide (hi < n)) 8]
theorem countError_any (n lo hi : Int) (w : World) : Calls Try.prog 75 #[.int .i64 n, .int .i64 lo, .int .i64 hi] w fun e w' => e = .returned (.int .i64 (countE n lo hi)) ∧ Ext w w' := by
  go_enter Try.func75, Try.ntmps75
  go_wp2_with (first
    | (go_at_call 81; refine (errorIf_any _ _ _).mono ?_; rintro e w' ⟨rfl, rfl⟩)
    | (go_at_call 78; refine (firstOf_any _ [_, _] _ (ints_new _ [_, _] _ (by simp))).mono ?_; rintro e w' ⟨rfl, rfl⟩))
  go_ret
  exact ⟨rfl, Ext.alloc _ _⟩

/-- Whether an indent is disturbed, with Go's own arithmetic. -/
def dist0 (x : In) : Bool := decide (wrap64 (2 * x.d) < wrap64 (5 * x.g))
def dist1 (y x : In) : Bool := decide (wrap64 (x.d - y.d) < wrap64 (3 * max x.g y.g))
def distK (xs : List In) (i : Nat) : Bool := if i = 0 then dist0 (xs.getD 0 default) else dist1 (xs.getD (i - 1) default) (xs.getD i default)
theorem row_at {α : Type} {k : Nat} {enc : α → List Value} {W : World} {A : Option Addr} {xs : List α} (h : RowsAt k enc W A xs) {i : Nat} {x : α} (hx : xs[i]? = some x) : ∃ b o, A = some ⟨b, o, none⟩ ∧ b < W.heap.size ∧ ∀ j u, (enc x)[j]? = some u → W.cell? ⟨b, o + i * k + j, none⟩ = some u := h.2 i x hx
set_option maxRecDepth 100000 in
set_option maxHeartbeats 1000000 in
theorem dist_first {A : Option Addr} {n ca : Nat} {xs : List In} {w : World} (hn : xs.length = n) (hA : RowsAt 4 In.enc w A xs) (h1 : 0 < n) :
    Calls Try.prog 82 #[.slice A n ca, .int .i64 0] w fun e w' => e = .returned (.bool (distK xs 0)) ∧ Ext w w' := by
  have hx : xs[0]? = some (xs.getD 0 default) := by simp [hn, h1]
  have HD := Lib.hid (show distK xs 0 = dist0 (xs.getD 0 default) from rfl)
  generalize xs.getD 0 default = x at hx HD
  obtain ⟨b, o, rfl, hb, hc⟩ := row_at hA hx
  have p0 := hc 0 _ rfl
  have p1 := hc 1 _ rfl
  have p2 := hc 2 _ rfl
  have p3 := hc 3 _ rfl
  simp only [Nat.zero_mul, Nat.add_zero] at p0 p1 p2 p3
  have HN := Lib.hid hn
  clear hn hA hc hx
  go_enter Try.func82, Try.ntmps82
  go_wp2
  go_ret
  exact ⟨ret_bool (by rw [HD.out]; rfl), Ext.alloc _ _⟩
set_option maxRecDepth 100000 in
set_option maxHeartbeats 1000000 in
theorem dist_next {A : Option Addr} {n ca i : Nat} {xs : List In} {w : World} (hn : xs.length = n) (hA : RowsAt 4 In.enc w A xs) (h1 : i + 1 < n) :
    Calls Try.prog 82 #[.slice A n ca, .int .i64 ((i : Int) + 1)] w fun e w' => e = .returned (.bool (distK xs (i + 1))) ∧ Ext w w' := by
  have hx : xs[i + 1]? = some (xs.getD (i + 1) default) := by simp [hn, h1]
  have hy : xs[i]? = some (xs.getD i default) := by rw [List.getD_eq_getElem?_getD, List.getElem?_eq_getElem (by omega)]; rfl
  have HD := Lib.hid (show distK xs (i + 1) = dist1 (xs.getD i default) (xs.getD (i + 1) default) from rfl)
  generalize xs.getD (i + 1) default = x at hx HD
  generalize xs.getD i default = y at hy HD
  have hl := hA.1
  obtain ⟨b, o, rfl, hb, hc⟩ := row_at hA hx
  obtain ⟨b2, o2, he, _, hc2⟩ := row_at hA hy
  obtain ⟨rfl, rfl⟩ : b = b2 ∧ o = o2 := by simpa using he
  have p0 := hc 0 _ rfl
  have p1 := hc 1 _ rfl
  have p2 := hc 2 _ rfl
  have p3 := hc 3 _ rfl
  have q0 := hc2 0 _ rfl
  have q1 := hc2 1 _ rfl
  have q2 := hc2 2 _ rfl
  have q3 := hc2 3 _ rfl
  simp only [Nat.add_zero] at p0 q0
  have hnb : n ≤ 1152921504606846976 := by omega
  have hi : (i : Int) + 1 < (n : Int) := by omega
  clear hl
  have hi2 : (i : Int) < (n : Int) := by omega
  have hi0 : i < n := by omega
  have HN := Lib.hid hn
  clear hn hA hc hc2 hx hy he
  go_enter Try.func82, Try.ntmps82
  go_wp2
  go_ret
  exact ⟨ret_bool (by rw [HD.out]; rfl), (Ext.alloc _ _).trans (Ext.alloc _ _)⟩

end Go.Proofs.Ytmddnpagfgilcaa

namespace Go.Proofs.Ytmddnpagfgilcaa
open Go.RowKit Go.Shelf Go.Mem Go.RegInv
attribute [local go_sem] RelUpon_value RelUpon_skip RelUpon_enter BigFrame.eval_const BigFrame.eval_global BigFrame.eval_func

theorem ret_two {a b c d : Int} (h : a = c) (k : b = d) : Ending.returned (.tuple #[.int .i64 a, .int .i64 b]) = .returned (.tuple #[.int .i64 c, .int .i64 d]) := by rw [h, k]
/-- The first place of a list at which there is an error. -/
def firstAt (E : Nat → Int) : Nat → Nat → Int × Int
  | 0, _ => (0, 0)
  | f + 1, k => if E k ≠ 0 then ((k : Int), E k) else firstAt E f (k + 1)
theorem firstAt_step (E : Nat → Int) {n k : Nat} (h : k < n) : firstAt E (n - k) k = if E k ≠ 0 then ((k : Int), E k) else firstAt E (n - (k + 1)) (k + 1) := by
  obtain ⟨d, hd⟩ : ∃ d, n - k = d + 1 := ⟨n - k - 1, by omega⟩
  rw [hd, firstAt, show n - (k + 1) = d by omega]
theorem firstAt_zero {E : Nat → Int} : ∀ {n k : Nat}, (firstAt E n k).2 = 0 → ∀ i, k ≤ i → i < k + n → E i = 0
  | 0, k, _, i, h1, h2 => by omega
  | n + 1, k, h, i, h1, h2 => by
    rw [firstAt] at h
    by_cases hz : E k = 0
    · rw [if_neg (by simpa using hz)] at h
      rcases Nat.lt_or_ge k i with h3 | h3
      · exact firstAt_zero h i (by omega) (by omega)
      · obtain rfl : i = k := by omega
        exact hz
    · rw [if_pos hz] at h
      exact absurd h hz
set_option maxRecDepth 100000 in
set_option maxHeartbeats 1000000 in
theorem firstError76_any {A : Option Addr} {n ca : Nat} {xs : List In} {w : World} {E : Nat → Int} {cp : Array Value} (hn : xs.length = n) (hA : RowsAt 4 In.enc w A xs)
    (hF : ∀ (i : Nat) (x : In) (W : World), xs[i]? = some x → Ext w W → Calls Try.prog 77 (#[.int .i64 (i : Int), .agg #[.int .i64 x.d, .int .i64 x.g, .int .i64 x.lo, .int .i64 x.hi]] ++ cp) W fun e w' => e = .returned (.int .i64 (E i)) ∧ Ext W w') :
    Calls Try.prog 76 #[.slice A n ca, .func (.func 77) #[] cp] w fun e w' => e = .returned (.tuple #[.int .i64 (firstAt E n 0).1, .int .i64 (firstAt E n 0).2]) ∧ Ext w w' := by
  have HN := Lib.hid hn
  have HA := Lib.hid hA
  have HF := Lib.hid hF
  have hnb : n ≤ 1152921504606846976 := by have := hA.1; omega
  clear hn hA hF
  go_enter Try.func76, Try.ntmps76
  go_wp2
  go_loopw [11] (fun i wr => ∃ k : Nat, k ≤ n ∧ i = .int .i64 k ∧ firstAt E n 0 = firstAt E (n - k) k ∧ Ext w wr) (fun i _ => n - (intOf i).toNat)
  case atStart => exact ⟨0, Nat.zero_le _, rfl, by rw [Nat.sub_zero], Ext.refl _⟩
  case round =>
    obtain ⟨k, hk, rfl, hr, hx⟩ := hrel
    have X := Lib.hid hx
    have R := Lib.hid hr
    clear hx hr
    by_cases hlt : k < n
    · have R2 := Lib.hid (R.out.trans (firstAt_step E hlt))
      clear R
      obtain ⟨x, hx⟩ : ∃ x, xs[k]? = some x := ⟨_, List.getElem?_eq_getElem (by rw [HN.out]; exact hlt)⟩
      obtain ⟨b, o, rfl, hb, hc⟩ := row_at (HA.out.ext X.out) hx
      have HX := Lib.hid hx
      have p0 := hc 0 _ rfl
      have p1 := hc 1 _ rfl
      have p2 := hc 2 _ rfl
      have p3 := hc 3 _ rfl
      simp only [Nat.add_zero] at p0
      have HC := Lib.hid (fun W (e : Ext w W) => HF.out k x W HX.out e)
      clear hc hx
      have hki : (k : Int) < (n : Int) := by omega
      by_cases hz : E k = 0
      · have hz2 : (E k != 0) = false := by simp [hz]
        have HZ := Lib.hid hz
        clear hz
        generalize hE : E k = z at *
        have HE := Lib.hid hE
        clear hE
        go_wp2_with (go_at_call 77; refine (HC.out _ (X.out.trans (Ext.alloc _ _))).mono ?_; rintro e W1 ⟨rfl, hx⟩; have X1 := Lib.hid ((X.out.trans (Ext.alloc _ _)).trans hx); clear hx)
        go_roundw
        case rel => exact ⟨k + 1, by omega, by go_num, by rw [R2.out, if_neg (by simpa using HZ.out)], X1.out⟩
        case measure => simp [intOf]; omega
      · have hz2 : (E k != 0) = true := by simp [hz]
        have HZ := Lib.hid hz
        clear hz
        generalize hE : E k = z at *
        have HE := Lib.hid hE
        clear hE
        go_wp2_with (go_at_call 77; refine (HC.out _ (X.out.trans (Ext.alloc _ _))).mono ?_; rintro e W1 ⟨rfl, hx⟩; have X1 := Lib.hid ((X.out.trans (Ext.alloc _ _)).trans hx); clear hx)
        go_ret2
        exact ⟨ret_two (by rw [R2.out, if_pos HZ.out]) (by rw [R2.out, if_pos HZ.out]), X1.out⟩
    · have R2 := Lib.hid (show firstAt E n 0 = (0, 0) by rw [R.out, show n - k = 0 by omega]; rfl)
      have hkn : ¬ (k : Int) < (n : Int) := by omega
      go_wp2
      go_ret2
      exact ⟨ret_two (by rw [R2.out]) (by rw [R2.out]), X.out⟩

def indE (b : Bool) (x : In) : Int := firstE [rangeE 1 10000 [x.d, x.g], rangeE 0 2000 [x.lo, x.hi], errIf (decide (x.hi < x.lo)) 9, errIf b 17]
set_option maxRecDepth 100000 in
set_option maxHeartbeats 1000000 in
theorem indErr_any {A : Option Addr} {n ca i tb tO : Nat} {xs : List In} {x : In} {w : World} (hn : xs.length = n) (hA : RowsAt 4 In.enc w A xs) (ht : w.cell? ⟨tb, tO, none⟩ = some (.slice A n ca)) (hx : xs[i]? = some x) :
    Calls Try.prog 77 #[.int .i64 (i : Int), .agg #[.int .i64 x.d, .int .i64 x.g, .int .i64 x.lo, .int .i64 x.hi], .pointer (some ⟨tb, tO, none⟩)] w fun e w' => e = .returned (.int .i64 (indE (distK xs i) x)) ∧ Ext w w' := by
  have HD := Lib.hid (fun W (e : Ext w W) => show Calls Try.prog 82 #[.slice A n ca, .int .i64 (i : Int)] W fun e w' => e = .returned (.bool (distK xs i)) ∧ Ext W w' from by
    have hi : i < n := by have := (List.getElem?_eq_some_iff.1 hx).1; omega
    cases i with
    | zero => exact dist_first hn (hA.ext e) hi
    | succ i => exact dist_next hn (hA.ext e) hi)
  have HE := Lib.hid (show indE (distK xs i) x = firstE [rangeE 1 10000 [x.d, x.g], rangeE 0 2000 [x.lo, x.hi], errIf (decide (x.hi < x.lo)) 9, errIf (distK xs i) 17] from rfl)
  generalize distK xs i = bd at *
  clear hn hA hx
  obtain ⟨W0, hW0⟩ : ∃ W0, W0 = w.alloc (.cells #[.int .i64 x.d, .int .i64 x.g, .int .i64 x.lo, .int .i64 x.hi] 43) := ⟨_, rfl⟩
  have k0 : Blk W0 w.heap.size 43 #[.int .i64 x.d, .int .i64 x.g, .int .i64 x.lo, .int .i64 x.hi] := by rw [hW0]; exact Blk.new _ _ _
  have E0 := Lib.hid (show Ext w W0 by rw [hW0]; exact Ext.alloc _ _)
  have yt : W0.cell? ⟨tb, tO, none⟩ = some (.slice A n ca) := E0.out.cell ht
  have y0 : W0.cell? ⟨w.heap.size, 0, none⟩ = some (.int .i64 (x.d)) := k0.cell 0
  have y1 : W0.cell? ⟨w.heap.size, 1, none⟩ = some (.int .i64 (x.g)) := k0.cell 1
  have y2 : W0.cell? ⟨w.heap.size, 2, none⟩ = some (.int .i64 (x.lo)) := k0.cell 2
  have y3 : W0.cell? ⟨w.heap.size, 3, none⟩ = some (.int .i64 (x.hi)) := k0.cell 3
  clear k0 ht
  go_enter Try.func77, Try.ntmps77
  go_wp2
  rw [← hW0]
  clear hW0
  go_wp2
  refine wp_region_each [some 6, some 7, some 8, some 9, some 10, some 11, some 12, some 13, some 14, some 15, some 16, some 17, some 18, some 19, some 20, some 21, some 22, some 23, some 24, some 25, some 26, some 27, some 28, some 29, some 5] [[4], [6], [4], [8], [7, 9], [10], [4], [12], [13], [4], [15], [16], [14, 17], [18], [4], [20], [21], [2], [23], [0], [24, 25], [26], [11, 19, 22, 27], [28], [29]]
    [Is (.pointer (some ⟨w.heap.size, 0, none⟩)), Is (.int .i64 (x.d)), Is (.pointer (some ⟨w.heap.size, 1, none⟩)), Is (.int .i64 (x.g)), Ints [x.d, x.g], Is (.int .i64 (rangeE (1) (10000) [x.d, x.g])), Is (.pointer (some ⟨w.heap.size, 2, none⟩)), Is (.pointer (some ⟨w.heap.size, 2, none⟩)), Is (.int .i64 (x.lo)), Is (.pointer (some ⟨w.heap.size, 2, none⟩)), Is (.pointer (some ⟨w.heap.size, 3, none⟩)), Is (.int .i64 (x.hi)), Ints [x.lo, x.hi], Is (.int .i64 (rangeE (0) (2000) [x.lo, x.hi])), Is (.pointer (some ⟨w.heap.size, 2, none⟩)), Is (.agg #[.int .i64 (x.lo), .int .i64 (x.hi)]), Is (.int .i64 (errIf (decide (x.hi < x.lo)) 9)), Is (.pointer (some ⟨tb, tO, none⟩)), Is (.slice A n ca), Is (.int .i64 ((i : Int))), Is (.bool (bd)), Is (.int .i64 (errIf (bd) 17)), Ints [rangeE (1) (10000) [x.d, x.g], rangeE (0) (2000) [x.lo, x.hi], errIf (decide (x.hi < x.lo)) 9, errIf (bd) 17], Is (.int .i64 (firstE [rangeE (1) (10000) [x.d, x.g], rangeE (0) (2000) [x.lo, x.hi], errIf (decide (x.hi < x.lo)) 9, errIf (bd) 17])), Is (.int .i64 (firstE [rangeE (1) (10000) [x.d, x.g], rangeE (0) (2000) [x.lo, x.hi], errIf (decide (x.hi < x.lo)) 9, errIf (bd) 17]))]
    (by kernel_rfl) (by kernel_rfl) (by kernel_rfl) (by kernel_rfl) (by kernel_rfl) Ext (fun W => Ext W0 W)
    (fun W _ => Ext.refl W) (fun W W' h k => h.trans k) ?_ (Ext.drew _) ?_ ?_
  · repeat (refine ⟨fun _ _ _ _ k h => (by first | exact h | exact (IntsAt.ext h k)), ?_⟩)
    exact trivial
  · refine ⟨?_, ?_, ?_, ?_, ?_, ?_, ?_, ?_, ?_, ?_, ?_, ?_, ?_, ?_, ?_, ?_, ?_, ?_, ?_, ?_, ?_, ?_, ?_, ?_, ?_, trivial⟩
    all_goals intro ρ W ⟨kc, kg, kf⟩ hF hs
    · obtain ⟨h0, -⟩ := hs
      replace h0 : ρ (.tmp 4) = .pointer (some ⟨w.heap.size, 0, none⟩) := h0
      go_simp
      exact ⟨Ext.refl _, rfl⟩
    · obtain ⟨h0, -⟩ := hs
      replace h0 : ρ (.tmp 6) = .pointer (some ⟨w.heap.size, 0, none⟩) := h0
      have hc0 : W.cell? ⟨w.heap.size, 0, none⟩ = some (.int .i64 (x.d)) := hF.cell (by assumption)
      go_simp
      exact ⟨Ext.refl _, rfl⟩
    · obtain ⟨h0, -⟩ := hs
      replace h0 : ρ (.tmp 4) = .pointer (some ⟨w.heap.size, 0, none⟩) := h0
      go_simp
      exact ⟨Ext.refl _, rfl⟩
    · obtain ⟨h0, -⟩ := hs
      replace h0 : ρ (.tmp 8) = .pointer (some ⟨w.heap.size, 1, none⟩) := h0
      have hc0 : W.cell? ⟨w.heap.size, 1, none⟩ = some (.int .i64 (x.g)) := hF.cell (by assumption)
      go_simp
      exact ⟨Ext.refl _, rfl⟩
    · obtain ⟨h0, h1, -⟩ := hs
      replace h0 : ρ (.tmp 7) = .int .i64 (x.d) := h0
      replace h1 : ρ (.tmp 9) = .int .i64 (x.g) := h1
      go_simp
      exact ⟨Ext.alloc _ _, ints_new _ [x.d, x.g] _ (by simp)⟩
    · obtain ⟨h0, -⟩ := hs
      replace h0 : (Ints [x.d, x.g]) (ρ (.tmp 10)) W := h0
      go_simp
      refine (rangeError_any _ _ _ _ _ h0).mono ?_; rintro e w' ⟨rfl, hx⟩; exact ⟨_, rfl, hx, rfl⟩
    · obtain ⟨h0, -⟩ := hs
      replace h0 : ρ (.tmp 4) = .pointer (some ⟨w.heap.size, 0, none⟩) := h0
      go_simp
      exact ⟨Ext.refl _, rfl⟩
    · obtain ⟨h0, -⟩ := hs
      replace h0 : ρ (.tmp 12) = .pointer (some ⟨w.heap.size, 2, none⟩) := h0
      go_simp
      exact ⟨Ext.refl _, rfl⟩
    · obtain ⟨h0, -⟩ := hs
      replace h0 : ρ (.tmp 13) = .pointer (some ⟨w.heap.size, 2, none⟩) := h0
      have hc0 : W.cell? ⟨w.heap.size, 2, none⟩ = some (.int .i64 (x.lo)) := hF.cell (by assumption)
      go_simp
      exact ⟨Ext.refl _, rfl⟩
    · obtain ⟨h0, -⟩ := hs
      replace h0 : ρ (.tmp 4) = .pointer (some ⟨w.heap.size, 0, none⟩) := h0
      go_simp
      exact ⟨Ext.refl _, rfl⟩
    · obtain ⟨h0, -⟩ := hs
      replace h0 : ρ (.tmp 15) = .pointer (some ⟨w.heap.size, 2, none⟩) := h0
      go_simp
      exact ⟨Ext.refl _, rfl⟩
    · obtain ⟨h0, -⟩ := hs
      replace h0 : ρ (.tmp 16) = .pointer (some ⟨w.heap.size, 3, none⟩) := h0
      have hc0 : W.cell? ⟨w.heap.size, 3, none⟩ = some (.int .i64 (x.hi)) := hF.cell (by assumption)
      go_simp
      exact ⟨Ext.refl _, rfl⟩
    · obtain ⟨h0, h1, -⟩ := hs
      replace h0 : ρ (.tmp 14) = .int .i64 (x.lo) := h0
      replace h1 : ρ (.tmp 17) = .int .i64 (x.hi) := h1
      go_simp
      exact ⟨Ext.alloc _ _, ints_new _ [x.lo, x.hi] _ (by simp)⟩
    · obtain ⟨h0, -⟩ := hs
      replace h0 : (Ints [x.lo, x.hi]) (ρ (.tmp 18)) W := h0
      go_simp
      refine (rangeError_any _ _ _ _ _ h0).mono ?_; rintro e w' ⟨rfl, hx⟩; exact ⟨_, rfl, hx, rfl⟩
    · obtain ⟨h0, -⟩ := hs
      replace h0 : ρ (.tmp 4) = .pointer (some ⟨w.heap.size, 0, none⟩) := h0
      go_simp
      exact ⟨Ext.refl _, rfl⟩
    · obtain ⟨h0, -⟩ := hs
      replace h0 : ρ (.tmp 20) = .pointer (some ⟨w.heap.size, 2, none⟩) := h0
      have hc0 : W.cell? ⟨w.heap.size, 2, none⟩ = some (.int .i64 (x.lo)) := hF.cell (by assumption)
      have hc1 : W.cell? ⟨w.heap.size, 3, none⟩ = some (.int .i64 (x.hi)) := hF.cell (by assumption)
      go_simp
      exact ⟨Ext.refl _, rfl⟩
    · obtain ⟨h0, -⟩ := hs
      replace h0 : ρ (.tmp 21) = .agg #[.int .i64 (x.lo), .int .i64 (x.hi)] := h0
      go_simp
      refine (orderError_any _ _ _).mono ?_; rintro e w' ⟨rfl, hx⟩; exact ⟨_, rfl, hx, rfl⟩
    · obtain ⟨h0, -⟩ := hs
      replace h0 : ρ (.tmp 2) = .pointer (some ⟨tb, tO, none⟩) := h0
      go_simp
      exact ⟨Ext.refl _, rfl⟩
    · obtain ⟨h0, -⟩ := hs
      replace h0 : ρ (.tmp 23) = .pointer (some ⟨tb, tO, none⟩) := h0
      have hc0 : W.cell? ⟨tb, tO, none⟩ = some (.slice A n ca) := hF.cell (by assumption)
      go_simp
      exact ⟨Ext.refl _, rfl⟩
    · obtain ⟨h0, -⟩ := hs
      replace h0 : ρ (.tmp 0) = .int .i64 ((i : Int)) := h0
      go_simp
      exact ⟨Ext.refl _, rfl⟩
    · obtain ⟨h0, h1, -⟩ := hs
      replace h0 : ρ (.tmp 24) = .slice A n ca := h0
      replace h1 : ρ (.tmp 25) = .int .i64 ((i : Int)) := h1
      go_simp
      refine (HD.out _ (E0.out.trans hF)).mono ?_; rintro e w' ⟨rfl, hx⟩; exact ⟨_, rfl, hx, rfl⟩
    · obtain ⟨h0, -⟩ := hs
      replace h0 : ρ (.tmp 26) = .bool (bd) := h0
      go_simp
      refine (errorIf_any _ _ _).mono ?_; rintro e w' ⟨rfl, rfl⟩; exact ⟨_, rfl, Ext.refl _, rfl⟩
    · obtain ⟨h0, h1, h2, h3, -⟩ := hs
      replace h0 : ρ (.tmp 11) = .int .i64 (rangeE (1) (10000) [x.d, x.g]) := h0
      replace h1 : ρ (.tmp 19) = .int .i64 (rangeE (0) (2000) [x.lo, x.hi]) := h1
      replace h2 : ρ (.tmp 22) = .int .i64 (errIf (decide (x.hi < x.lo)) 9) := h2
      replace h3 : ρ (.tmp 27) = .int .i64 (errIf (bd) 17) := h3
      go_simp
      exact ⟨Ext.alloc _ _, ints_new _ [rangeE (1) (10000) [x.d, x.g], rangeE (0) (2000) [x.lo, x.hi], errIf (decide (x.hi < x.lo)) 9, errIf (bd) 17] _ (by simp)⟩
    · obtain ⟨h0, -⟩ := hs
      replace h0 : (Ints [rangeE (1) (10000) [x.d, x.g], rangeE (0) (2000) [x.lo, x.hi], errIf (decide (x.hi < x.lo)) 9, errIf (bd) 17]) (ρ (.tmp 28)) W := h0
      go_simp
      refine (firstOf_any _ _ _ h0).mono ?_; rintro e w' ⟨rfl, rfl⟩; exact ⟨_, rfl, Ext.refl _, rfl⟩
    · obtain ⟨h0, -⟩ := hs
      replace h0 : ρ (.tmp 29) = .int .i64 (firstE [rangeE (1) (10000) [x.d, x.g], rangeE (0) (2000) [x.lo, x.hi], errIf (decide (x.hi < x.lo)) 9, errIf (bd) 17]) := h0
      go_simp
      exact ⟨Ext.refl _, rfl⟩
  · intro fv W hF hs
    obtain ⟨-, -, -, -, -, -, -, -, -, -, -, -, -, -, -, -, -, -, -, -, -, -, -, -, h5, -⟩ := hs
    replace h5 : fv 5 = .int .i64 (firstE [rangeE (1) (10000) [x.d, x.g], rangeE (0) (2000) [x.lo, x.hi], errIf (decide (x.hi < x.lo)) 9, errIf (bd) 17]) := h5
    simp only [fin, List.filterMap]
    go_simp
    go_wp2
    go_ret
    exact ⟨ret_int HE.out.symm, E0.out.trans hF⟩
/-- The error of each indent, and of a traverse. -/
def indAt (xs : List In) (i : Nat) : Int := indE (distK xs i) (xs.getD i default)
def checkT (xs : List In) : Int × Int := if countE xs.length 2 20 ≠ 0 then (0, countE xs.length 2 20) else firstAt (indAt xs) xs.length 0
set_option maxRecDepth 100000 in
set_option maxHeartbeats 1000000 in
theorem checkTraverse_any {A : Option Addr} {n ca : Nat} {xs : List In} {w : World} (hn : xs.length = n) (hA : RowsAt 4 In.enc w A xs) :
    Calls Try.prog 15 #[.agg #[.slice A n ca]] w fun e w' => e = .returned (.tuple #[.int .i64 (checkT xs).1, .int .i64 (checkT xs).2]) ∧ Ext w w' := by
  have hnb : n ≤ 1152921504606846976 := by have := hA.1; omega
  have HT := Lib.hid (show checkT xs = if countE n 2 20 ≠ 0 then (0, countE n 2 20) else firstAt (indAt xs) n 0 by rw [← hn]; rfl)
  obtain ⟨W0, hW0⟩ : ∃ W0, W0 = w.alloc (.cells #[.slice A n ca] 24) := ⟨_, rfl⟩
  have k0 : Blk W0 w.heap.size 24 #[.slice A n ca] := by rw [hW0]; exact Blk.new _ _ _
  have E0 := Lib.hid (show Ext w W0 by rw [hW0]; exact Ext.alloc _ _)
  have y0 : W0.cell? ⟨w.heap.size, 0, none⟩ = some (.slice A n ca) := k0.cell 0
  have K0 := Lib.hid k0
  have HFE := Lib.hid (fun W (e : Ext W0 W) => firstError76_any (ca := ca) (E := indAt xs) (cp := #[.pointer (some ⟨w.heap.size, 0, none⟩)]) hn (hA.ext (E0.out.trans e)) (fun i x W2 hx e2 => by
    have := indErr_any (ca := ca) (i := i) (tb := w.heap.size) (tO := 0) hn (hA.ext (E0.out.trans (e.trans e2))) ((e.trans e2).cell (K0.out.cell 0)) hx
    have hd : xs.getD i default = x := by simp [hx]
    unfold indAt
    rw [hd]
    exact this))
  generalize firstAt (indAt xs) n 0 = fa at *
  clear k0 hA hn
  by_cases hz : countE n 2 20 = 0
  · have hz2 : (countE n 2 20 != 0) = false := by simp [hz]
    have HZ := Lib.hid hz
    clear hz
    have HC := Lib.hid (fun W => countError_any n 2 20 W)
    generalize countE n 2 20 = z at *
    go_enter Try.func15, Try.ntmps15
    go_wp2_with (fail)
    rw [← hW0]
    clear hW0
    go_wp2_with (go_at_call 75; refine (HC.out _).mono ?_; rintro e W1 ⟨rfl, hx⟩; have X1 := Lib.hid hx; have z0 := X1.out.cell y0; clear hx; refine Hid.out ?_)
    refine Lib.hid ?_
    go_wp2_with (go_at_call 76; refine (HFE.out _ X1.out).mono ?_; rintro e W2 ⟨rfl, hx⟩; have X2 := Lib.hid hx; clear hx)
    go_ret2
    exact ⟨ret_two (by rw [HT.out, if_neg (by simpa using HZ.out)]) (by rw [HT.out, if_neg (by simpa using HZ.out)]), E0.out.trans (X1.out.trans X2.out)⟩
  · have hz2 : (countE n 2 20 != 0) = true := by simp [hz]
    have HZ := Lib.hid hz
    clear hz
    have HC := Lib.hid (fun W => countError_any n 2 20 W)
    generalize countE n 2 20 = z at *
    go_enter Try.func15, Try.ntmps15
    go_wp2_with (fail)
    rw [← hW0]
    clear hW0
    go_wp2_with (go_at_call 75; refine (HC.out _).mono ?_; rintro e W1 ⟨rfl, hx⟩; have X1 := Lib.hid hx; have z0 := X1.out.cell y0; clear hx; refine Hid.out ?_)
    refine Lib.hid ?_
    go_wp2
    go_ret2
    exact ⟨ret_two (by rw [HT.out, if_pos HZ.out]) (by rw [HT.out, if_pos HZ.out]), E0.out.trans X1.out⟩
set_option maxRecDepth 100000 in
theorem traverseError_any {A : Option Addr} {n ca : Nat} {xs : List In} {w : World} (hn : xs.length = n) (hA : RowsAt 4 In.enc w A xs) :
    Calls Try.prog 83 #[.agg #[.slice A n ca]] w fun e w' => e = .returned (.int .i64 (checkT xs).2) ∧ Ext w w' := by
  have HC := Lib.hid (fun W (e : Ext w W) => checkTraverse_any (ca := ca) hn (hA.ext e))
  clear hn hA
  go_enter Try.func83, Try.ntmps83
  go_wp2_with (go_at_call 15; refine (HC.out _ (Ext.alloc _ _)).mono ?_; rintro e W1 ⟨rfl, hx⟩; have X1 := Lib.hid hx; clear hx)
  go_ret
  exact ⟨rfl, (Ext.alloc _ _).trans X1.out⟩

end Go.Proofs.Ytmddnpagfgilcaa

namespace Go.Proofs.Ytmddnpagfgilcaa
open Go.RowKit Go.Shelf Go.Mem Go.RegInv
attribute [local go_sem] RelUpon_value RelUpon_skip RelUpon_enter BigFrame.eval_const BigFrame.eval_global BigFrame.eval_func

/-- A knot of a table. -/
structure Kn where
  f : Int
  lo : Int
  hi : Int
deriving DecidableEq, Inhabited
def Kn.enc (x : Kn) : List Value := [.int .i64 x.f, .int .i64 x.lo, .int .i64 x.hi]

set_option maxRecDepth 100000 in
set_option maxHeartbeats 1000000 in
theorem clos119_any {A : Option Addr} {n ca i tb tO : Nat} {xs : List In} {x : In} {w : World} (hn : xs.length = n) (hA : RowsAt 4 In.enc w A xs) (ht : w.cell? ⟨tb, tO, none⟩ = some (.slice A n ca)) (hx : xs[i]? = some x) :
    Calls Try.prog 119 #[.int .i64 (i : Int), .pointer (some ⟨tb, tO, none⟩)] w fun e w' => e = .returned (.tuple #[.int .i64 (x.d), .int .i64 (x.lo)]) ∧ Ext w w' := by
  have hl := hA.1
  have hin := (List.getElem?_eq_some_iff.1 hx).1
  rw [hn] at hl hin
  obtain ⟨b, o, rfl, hb, hc⟩ := row_at hA hx
  have p0 : w.cell? ⟨b, o + i * 4, none⟩ = some (.int .i64 (x.d)) := hc 0 _ rfl
  have p1 : w.cell? ⟨b, o + i * 4 + 2, none⟩ = some (.int .i64 (x.lo)) := hc 2 _ rfl
  clear hA hx hn hc
  go_enter Try.func119, Try.ntmps119
  go_wp2
  refine wp_region_each [some 5, some 6, some 7, some 8, some 9, some 10, some 11, some 12, some 13, some 14, some 15, some 16, some 17, some 3, some 4] [[1], [5], [0], [6, 7], [8], [9], [1], [11], [0], [12, 13], [14], [15], [16], [10], [17]]
    [Is (.pointer (some ⟨tb, tO, none⟩)), Is (.slice (some ⟨b, o, none⟩) n ca), Is (.int .i64 ((i : Int))), Is (.pointer (some ⟨b, o + i * 4, none⟩)), Is (.pointer (some ⟨b, o + i * 4, none⟩)), Is (.int .i64 (x.d)), Is (.pointer (some ⟨tb, tO, none⟩)), Is (.slice (some ⟨b, o, none⟩) n ca), Is (.int .i64 ((i : Int))), Is (.pointer (some ⟨b, o + i * 4, none⟩)), Is (.pointer (some ⟨b, o + i * 4 + 2, none⟩)), Is (.pointer (some ⟨b, o + i * 4 + 2, none⟩)), Is (.int .i64 (x.lo)), Is (.int .i64 (x.d)), Is (.int .i64 (x.lo))]
    (by kernel_rfl) (by kernel_rfl) (by kernel_rfl) (by kernel_rfl) (by kernel_rfl) Ext (fun W => Ext w W)
    (fun W _ => Ext.refl W) (fun W W' h k => h.trans k) ?_ (Ext.drew _) ?_ ?_
  · repeat (refine ⟨fun _ _ _ _ k h => (by first | exact h | exact (IntsAt.ext h k)), ?_⟩)
    exact trivial
  · refine ⟨?_, ?_, ?_, ?_, ?_, ?_, ?_, ?_, ?_, ?_, ?_, ?_, ?_, ?_, ?_, trivial⟩
    all_goals intro ρ W ⟨kc, kg, kf⟩ hF hs
    · obtain ⟨h0, -⟩ := hs
      replace h0 : ρ (.tmp 1) = .pointer (some ⟨tb, tO, none⟩) := h0
      go_simp
      exact ⟨Ext.refl _, rfl⟩
    · obtain ⟨h0, -⟩ := hs
      replace h0 : ρ (.tmp 5) = .pointer (some ⟨tb, tO, none⟩) := h0
      have hc0 : W.cell? ⟨tb, tO, none⟩ = some (.slice (some ⟨b, o, none⟩) n ca) := hF.cell (by assumption)
      go_simp
      exact ⟨Ext.refl _, rfl⟩
    · obtain ⟨h0, -⟩ := hs
      replace h0 : ρ (.tmp 0) = .int .i64 ((i : Int)) := h0
      go_simp
      exact ⟨Ext.refl _, rfl⟩
    · obtain ⟨h0, h1, -⟩ := hs
      replace h0 : ρ (.tmp 6) = .slice (some ⟨b, o, none⟩) n ca := h0
      replace h1 : ρ (.tmp 7) = .int .i64 ((i : Int)) := h1
      have hb2 : (i : Int) < (n : Int) := by omega
      have hb3 : i < n := by omega
      go_simp
      exact ⟨Ext.refl _, rfl⟩
    · obtain ⟨h0, -⟩ := hs
      replace h0 : ρ (.tmp 8) = .pointer (some ⟨b, o + i * 4, none⟩) := h0
      go_simp
      exact ⟨Ext.refl _, rfl⟩
    · obtain ⟨h0, -⟩ := hs
      replace h0 : ρ (.tmp 9) = .pointer (some ⟨b, o + i * 4, none⟩) := h0
      have hc0 : W.cell? ⟨b, o + i * 4, none⟩ = some (.int .i64 (x.d)) := hF.cell (by assumption)
      go_simp
      exact ⟨Ext.refl _, rfl⟩
    · obtain ⟨h0, -⟩ := hs
      replace h0 : ρ (.tmp 1) = .pointer (some ⟨tb, tO, none⟩) := h0
      go_simp
      exact ⟨Ext.refl _, rfl⟩
    · obtain ⟨h0, -⟩ := hs
      replace h0 : ρ (.tmp 11) = .pointer (some ⟨tb, tO, none⟩) := h0
      have hc0 : W.cell? ⟨tb, tO, none⟩ = some (.slice (some ⟨b, o, none⟩) n ca) := hF.cell (by assumption)
      go_simp
      exact ⟨Ext.refl _, rfl⟩
    · obtain ⟨h0, -⟩ := hs
      replace h0 : ρ (.tmp 0) = .int .i64 ((i : Int)) := h0
      go_simp
      exact ⟨Ext.refl _, rfl⟩
    · obtain ⟨h0, h1, -⟩ := hs
      replace h0 : ρ (.tmp 12) = .slice (some ⟨b, o, none⟩) n ca := h0
      replace h1 : ρ (.tmp 13) = .int .i64 ((i : Int)) := h1
      have hb2 : (i : Int) < (n : Int) := by omega
      have hb3 : i < n := by omega
      go_simp
      exact ⟨Ext.refl _, rfl⟩
    · obtain ⟨h0, -⟩ := hs
      replace h0 : ρ (.tmp 14) = .pointer (some ⟨b, o + i * 4, none⟩) := h0
      go_simp
      exact ⟨Ext.refl _, rfl⟩
    · obtain ⟨h0, -⟩ := hs
      replace h0 : ρ (.tmp 15) = .pointer (some ⟨b, o + i * 4 + 2, none⟩) := h0
      go_simp
      exact ⟨Ext.refl _, rfl⟩
    · obtain ⟨h0, -⟩ := hs
      replace h0 : ρ (.tmp 16) = .pointer (some ⟨b, o + i * 4 + 2, none⟩) := h0
      have hc0 : W.cell? ⟨b, o + i * 4 + 2, none⟩ = some (.int .i64 (x.lo)) := hF.cell (by assumption)
      go_simp
      exact ⟨Ext.refl _, rfl⟩
    · obtain ⟨h0, -⟩ := hs
      replace h0 : ρ (.tmp 10) = .int .i64 (x.d) := h0
      go_simp
      exact ⟨Ext.refl _, rfl⟩
    · obtain ⟨h0, -⟩ := hs
      replace h0 : ρ (.tmp 17) = .int .i64 (x.lo) := h0
      go_simp
      exact ⟨Ext.refl _, rfl⟩
  · intro fv W hF hs
    obtain ⟨-, -, -, -, -, -, -, -, -, -, -, -, -, h3, h4, -⟩ := hs
    replace h3 : fv 3 = .int .i64 (x.d) := h3
    replace h4 : fv 4 = .int .i64 (x.lo) := h4
    simp only [fin, List.filterMap]
    go_simp
    go_wp2
    go_ret2
    exact ⟨ret_two rfl rfl, hF⟩

set_option maxRecDepth 100000 in
set_option maxHeartbeats 1000000 in
theorem clos120_any {A : Option Addr} {n ca i tb tO : Nat} {xs : List In} {x : In} {w : World} (hn : xs.length = n) (hA : RowsAt 4 In.enc w A xs) (ht : w.cell? ⟨tb, tO, none⟩ = some (.slice A n ca)) (hx : xs[i]? = some x) :
    Calls Try.prog 120 #[.int .i64 (i : Int), .pointer (some ⟨tb, tO, none⟩)] w fun e w' => e = .returned (.tuple #[.int .i64 (x.d), .int .i64 (x.hi)]) ∧ Ext w w' := by
  have hl := hA.1
  have hin := (List.getElem?_eq_some_iff.1 hx).1
  rw [hn] at hl hin
  obtain ⟨b, o, rfl, hb, hc⟩ := row_at hA hx
  have p0 : w.cell? ⟨b, o + i * 4, none⟩ = some (.int .i64 (x.d)) := hc 0 _ rfl
  have p1 : w.cell? ⟨b, o + i * 4 + 2 + 1, none⟩ = some (.int .i64 (x.hi)) := hc 3 _ rfl
  clear hA hx hn hc
  go_enter Try.func120, Try.ntmps120
  go_wp2
  refine wp_region_each [some 5, some 6, some 7, some 8, some 9, some 10, some 11, some 12, some 13, some 14, some 15, some 16, some 17, some 3, some 4] [[1], [5], [0], [6, 7], [8], [9], [1], [11], [0], [12, 13], [14], [15], [16], [10], [17]]
    [Is (.pointer (some ⟨tb, tO, none⟩)), Is (.slice (some ⟨b, o, none⟩) n ca), Is (.int .i64 ((i : Int))), Is (.pointer (some ⟨b, o + i * 4, none⟩)), Is (.pointer (some ⟨b, o + i * 4, none⟩)), Is (.int .i64 (x.d)), Is (.pointer (some ⟨tb, tO, none⟩)), Is (.slice (some ⟨b, o, none⟩) n ca), Is (.int .i64 ((i : Int))), Is (.pointer (some ⟨b, o + i * 4, none⟩)), Is (.pointer (some ⟨b, o + i * 4 + 2, none⟩)), Is (.pointer (some ⟨b, o + i * 4 + 2 + 1, none⟩)), Is (.int .i64 (x.hi)), Is (.int .i64 (x.d)), Is (.int .i64 (x.hi))]
    (by kernel_rfl) (by kernel_rfl) (by kernel_rfl) (by kernel_rfl) (by kernel_rfl) Ext (fun W => Ext w W)
    (fun W _ => Ext.refl W) (fun W W' h k => h.trans k) ?_ (Ext.drew _) ?_ ?_
  · repeat (refine ⟨fun _ _ _ _ k h => (by first | exact h | exact (IntsAt.ext h k)), ?_⟩)
    exact trivial
  · refine ⟨?_, ?_, ?_, ?_, ?_, ?_, ?_, ?_, ?_, ?_, ?_, ?_, ?_, ?_, ?_, trivial⟩
    all_goals intro ρ W ⟨kc, kg, kf⟩ hF hs
    · obtain ⟨h0, -⟩ := hs
      replace h0 : ρ (.tmp 1) = .pointer (some ⟨tb, tO, none⟩) := h0
      go_simp
      exact ⟨Ext.refl _, rfl⟩
    · obtain ⟨h0, -⟩ := hs
      replace h0 : ρ (.tmp 5) = .pointer (some ⟨tb, tO, none⟩) := h0
      have hc0 : W.cell? ⟨tb, tO, none⟩ = some (.slice (some ⟨b, o, none⟩) n ca) := hF.cell (by assumption)
      go_simp
      exact ⟨Ext.refl _, rfl⟩
    · obtain ⟨h0, -⟩ := hs
      replace h0 : ρ (.tmp 0) = .int .i64 ((i : Int)) := h0
      go_simp
      exact ⟨Ext.refl _, rfl⟩
    · obtain ⟨h0, h1, -⟩ := hs
      replace h0 : ρ (.tmp 6) = .slice (some ⟨b, o, none⟩) n ca := h0
      replace h1 : ρ (.tmp 7) = .int .i64 ((i : Int)) := h1
      have hb2 : (i : Int) < (n : Int) := by omega
      have hb3 : i < n := by omega
      go_simp
      exact ⟨Ext.refl _, rfl⟩
    · obtain ⟨h0, -⟩ := hs
      replace h0 : ρ (.tmp 8) = .pointer (some ⟨b, o + i * 4, none⟩) := h0
      go_simp
      exact ⟨Ext.refl _, rfl⟩
    · obtain ⟨h0, -⟩ := hs
      replace h0 : ρ (.tmp 9) = .pointer (some ⟨b, o + i * 4, none⟩) := h0
      have hc0 : W.cell? ⟨b, o + i * 4, none⟩ = some (.int .i64 (x.d)) := hF.cell (by assumption)
      go_simp
      exact ⟨Ext.refl _, rfl⟩
    · obtain ⟨h0, -⟩ := hs
      replace h0 : ρ (.tmp 1) = .pointer (some ⟨tb, tO, none⟩) := h0
      go_simp
      exact ⟨Ext.refl _, rfl⟩
    · obtain ⟨h0, -⟩ := hs
      replace h0 : ρ (.tmp 11) = .pointer (some ⟨tb, tO, none⟩) := h0
      have hc0 : W.cell? ⟨tb, tO, none⟩ = some (.slice (some ⟨b, o, none⟩) n ca) := hF.cell (by assumption)
      go_simp
      exact ⟨Ext.refl _, rfl⟩
    · obtain ⟨h0, -⟩ := hs
      replace h0 : ρ (.tmp 0) = .int .i64 ((i : Int)) := h0
      go_simp
      exact ⟨Ext.refl _, rfl⟩
    · obtain ⟨h0, h1, -⟩ := hs
      replace h0 : ρ (.tmp 12) = .slice (some ⟨b, o, none⟩) n ca := h0
      replace h1 : ρ (.tmp 13) = .int .i64 ((i : Int)) := h1
      have hb2 : (i : Int) < (n : Int) := by omega
      have hb3 : i < n := by omega
      go_simp
      exact ⟨Ext.refl _, rfl⟩
    · obtain ⟨h0, -⟩ := hs
      replace h0 : ρ (.tmp 14) = .pointer (some ⟨b, o + i * 4, none⟩) := h0
      go_simp
      exact ⟨Ext.refl _, rfl⟩
    · obtain ⟨h0, -⟩ := hs
      replace h0 : ρ (.tmp 15) = .pointer (some ⟨b, o + i * 4 + 2, none⟩) := h0
      go_simp
      exact ⟨Ext.refl _, rfl⟩
    · obtain ⟨h0, -⟩ := hs
      replace h0 : ρ (.tmp 16) = .pointer (some ⟨b, o + i * 4 + 2 + 1, none⟩) := h0
      have hc0 : W.cell? ⟨b, o + i * 4 + 2 + 1, none⟩ = some (.int .i64 (x.hi)) := hF.cell (by assumption)
      go_simp
      exact ⟨Ext.refl _, rfl⟩
    · obtain ⟨h0, -⟩ := hs
      replace h0 : ρ (.tmp 10) = .int .i64 (x.d) := h0
      go_simp
      exact ⟨Ext.refl _, rfl⟩
    · obtain ⟨h0, -⟩ := hs
      replace h0 : ρ (.tmp 17) = .int .i64 (x.hi) := h0
      go_simp
      exact ⟨Ext.refl _, rfl⟩
  · intro fv W hF hs
    obtain ⟨-, -, -, -, -, -, -, -, -, -, -, -, -, h3, h4, -⟩ := hs
    replace h3 : fv 3 = .int .i64 (x.d) := h3
    replace h4 : fv 4 = .int .i64 (x.hi) := h4
    simp only [fin, List.filterMap]
    go_simp
    go_wp2
    go_ret2
    exact ⟨ret_two rfl rfl, hF⟩

set_option maxRecDepth 100000 in
set_option maxHeartbeats 1000000 in
theorem clos124_any {A : Option Addr} {n ca i tb tO : Nat} {xs : List Kn} {x : Kn} {w : World} (hn : xs.length = n) (hA : RowsAt 3 Kn.enc w A xs) (ht : w.cell? ⟨tb, tO, none⟩ = some (.slice A n ca)) (hx : xs[i]? = some x) :
    Calls Try.prog 124 #[.int .i64 (i : Int), .pointer (some ⟨tb, tO, none⟩)] w fun e w' => e = .returned (.tuple #[.int .i64 (x.f), .int .i64 (x.lo)]) ∧ Ext w w' := by
  have hl := hA.1
  have hin := (List.getElem?_eq_some_iff.1 hx).1
  rw [hn] at hl hin
  obtain ⟨b, o, rfl, hb, hc⟩ := row_at hA hx
  have p0 : w.cell? ⟨b, o + i * 3, none⟩ = some (.int .i64 (x.f)) := hc 0 _ rfl
  have p1 : w.cell? ⟨b, o + i * 3 + 1, none⟩ = some (.int .i64 (x.lo)) := hc 1 _ rfl
  clear hA hx hn hc
  go_enter Try.func124, Try.ntmps124
  go_wp2
  refine wp_region_each [some 5, some 6, some 7, some 8, some 9, some 10, some 11, some 12, some 13, some 14, some 15, some 16, some 17, some 3, some 4] [[1], [5], [0], [6, 7], [8], [9], [1], [11], [0], [12, 13], [14], [15], [16], [10], [17]]
    [Is (.pointer (some ⟨tb, tO, none⟩)), Is (.slice (some ⟨b, o, none⟩) n ca), Is (.int .i64 ((i : Int))), Is (.pointer (some ⟨b, o + i * 3, none⟩)), Is (.pointer (some ⟨b, o + i * 3, none⟩)), Is (.int .i64 (x.f)), Is (.pointer (some ⟨tb, tO, none⟩)), Is (.slice (some ⟨b, o, none⟩) n ca), Is (.int .i64 ((i : Int))), Is (.pointer (some ⟨b, o + i * 3, none⟩)), Is (.pointer (some ⟨b, o + i * 3 + 1, none⟩)), Is (.pointer (some ⟨b, o + i * 3 + 1, none⟩)), Is (.int .i64 (x.lo)), Is (.int .i64 (x.f)), Is (.int .i64 (x.lo))]
    (by kernel_rfl) (by kernel_rfl) (by kernel_rfl) (by kernel_rfl) (by kernel_rfl) Ext (fun W => Ext w W)
    (fun W _ => Ext.refl W) (fun W W' h k => h.trans k) ?_ (Ext.drew _) ?_ ?_
  · repeat (refine ⟨fun _ _ _ _ k h => (by first | exact h | exact (IntsAt.ext h k)), ?_⟩)
    exact trivial
  · refine ⟨?_, ?_, ?_, ?_, ?_, ?_, ?_, ?_, ?_, ?_, ?_, ?_, ?_, ?_, ?_, trivial⟩
    all_goals intro ρ W ⟨kc, kg, kf⟩ hF hs
    · obtain ⟨h0, -⟩ := hs
      replace h0 : ρ (.tmp 1) = .pointer (some ⟨tb, tO, none⟩) := h0
      go_simp
      exact ⟨Ext.refl _, rfl⟩
    · obtain ⟨h0, -⟩ := hs
      replace h0 : ρ (.tmp 5) = .pointer (some ⟨tb, tO, none⟩) := h0
      have hc0 : W.cell? ⟨tb, tO, none⟩ = some (.slice (some ⟨b, o, none⟩) n ca) := hF.cell (by assumption)
      go_simp
      exact ⟨Ext.refl _, rfl⟩
    · obtain ⟨h0, -⟩ := hs
      replace h0 : ρ (.tmp 0) = .int .i64 ((i : Int)) := h0
      go_simp
      exact ⟨Ext.refl _, rfl⟩
    · obtain ⟨h0, h1, -⟩ := hs
      replace h0 : ρ (.tmp 6) = .slice (some ⟨b, o, none⟩) n ca := h0
      replace h1 : ρ (.tmp 7) = .int .i64 ((i : Int)) := h1
      have hb2 : (i : Int) < (n : Int) := by omega
      have hb3 : i < n := by omega
      go_simp
      exact ⟨Ext.refl _, rfl⟩
    · obtain ⟨h0, -⟩ := hs
      replace h0 : ρ (.tmp 8) = .pointer (some ⟨b, o + i * 3, none⟩) := h0
      go_simp
      exact ⟨Ext.refl _, rfl⟩
    · obtain ⟨h0, -⟩ := hs
      replace h0 : ρ (.tmp 9) = .pointer (some ⟨b, o + i * 3, none⟩) := h0
      have hc0 : W.cell? ⟨b, o + i * 3, none⟩ = some (.int .i64 (x.f)) := hF.cell (by assumption)
      go_simp
      exact ⟨Ext.refl _, rfl⟩
    · obtain ⟨h0, -⟩ := hs
      replace h0 : ρ (.tmp 1) = .pointer (some ⟨tb, tO, none⟩) := h0
      go_simp
      exact ⟨Ext.refl _, rfl⟩
    · obtain ⟨h0, -⟩ := hs
      replace h0 : ρ (.tmp 11) = .pointer (some ⟨tb, tO, none⟩) := h0
      have hc0 : W.cell? ⟨tb, tO, none⟩ = some (.slice (some ⟨b, o, none⟩) n ca) := hF.cell (by assumption)
      go_simp
      exact ⟨Ext.refl _, rfl⟩
    · obtain ⟨h0, -⟩ := hs
      replace h0 : ρ (.tmp 0) = .int .i64 ((i : Int)) := h0
      go_simp
      exact ⟨Ext.refl _, rfl⟩
    · obtain ⟨h0, h1, -⟩ := hs
      replace h0 : ρ (.tmp 12) = .slice (some ⟨b, o, none⟩) n ca := h0
      replace h1 : ρ (.tmp 13) = .int .i64 ((i : Int)) := h1
      have hb2 : (i : Int) < (n : Int) := by omega
      have hb3 : i < n := by omega
      go_simp
      exact ⟨Ext.refl _, rfl⟩
    · obtain ⟨h0, -⟩ := hs
      replace h0 : ρ (.tmp 14) = .pointer (some ⟨b, o + i * 3, none⟩) := h0
      go_simp
      exact ⟨Ext.refl _, rfl⟩
    · obtain ⟨h0, -⟩ := hs
      replace h0 : ρ (.tmp 15) = .pointer (some ⟨b, o + i * 3 + 1, none⟩) := h0
      go_simp
      exact ⟨Ext.refl _, rfl⟩
    · obtain ⟨h0, -⟩ := hs
      replace h0 : ρ (.tmp 16) = .pointer (some ⟨b, o + i * 3 + 1, none⟩) := h0
      have hc0 : W.cell? ⟨b, o + i * 3 + 1, none⟩ = some (.int .i64 (x.lo)) := hF.cell (by assumption)
      go_simp
      exact ⟨Ext.refl _, rfl⟩
    · obtain ⟨h0, -⟩ := hs
      replace h0 : ρ (.tmp 10) = .int .i64 (x.f) := h0
      go_simp
      exact ⟨Ext.refl _, rfl⟩
    · obtain ⟨h0, -⟩ := hs
      replace h0 : ρ (.tmp 17) = .int .i64 (x.lo) := h0
      go_simp
      exact ⟨Ext.refl _, rfl⟩
  · intro fv W hF hs
    obtain ⟨-, -, -, -, -, -, -, -, -, -, -, -, -, h3, h4, -⟩ := hs
    replace h3 : fv 3 = .int .i64 (x.f) := h3
    replace h4 : fv 4 = .int .i64 (x.lo) := h4
    simp only [fin, List.filterMap]
    go_simp
    go_wp2
    go_ret2
    exact ⟨ret_two rfl rfl, hF⟩

set_option maxRecDepth 100000 in
set_option maxHeartbeats 1000000 in
theorem clos125_any {A : Option Addr} {n ca i tb tO : Nat} {xs : List Kn} {x : Kn} {w : World} (hn : xs.length = n) (hA : RowsAt 3 Kn.enc w A xs) (ht : w.cell? ⟨tb, tO, none⟩ = some (.slice A n ca)) (hx : xs[i]? = some x) :
    Calls Try.prog 125 #[.int .i64 (i : Int), .pointer (some ⟨tb, tO, none⟩)] w fun e w' => e = .returned (.tuple #[.int .i64 (x.f), .int .i64 (x.hi)]) ∧ Ext w w' := by
  have hl := hA.1
  have hin := (List.getElem?_eq_some_iff.1 hx).1
  rw [hn] at hl hin
  obtain ⟨b, o, rfl, hb, hc⟩ := row_at hA hx
  have p0 : w.cell? ⟨b, o + i * 3, none⟩ = some (.int .i64 (x.f)) := hc 0 _ rfl
  have p1 : w.cell? ⟨b, o + i * 3 + 1 + 1, none⟩ = some (.int .i64 (x.hi)) := hc 2 _ rfl
  clear hA hx hn hc
  go_enter Try.func125, Try.ntmps125
  go_wp2
  refine wp_region_each [some 5, some 6, some 7, some 8, some 9, some 10, some 11, some 12, some 13, some 14, some 15, some 16, some 17, some 3, some 4] [[1], [5], [0], [6, 7], [8], [9], [1], [11], [0], [12, 13], [14], [15], [16], [10], [17]]
    [Is (.pointer (some ⟨tb, tO, none⟩)), Is (.slice (some ⟨b, o, none⟩) n ca), Is (.int .i64 ((i : Int))), Is (.pointer (some ⟨b, o + i * 3, none⟩)), Is (.pointer (some ⟨b, o + i * 3, none⟩)), Is (.int .i64 (x.f)), Is (.pointer (some ⟨tb, tO, none⟩)), Is (.slice (some ⟨b, o, none⟩) n ca), Is (.int .i64 ((i : Int))), Is (.pointer (some ⟨b, o + i * 3, none⟩)), Is (.pointer (some ⟨b, o + i * 3 + 1, none⟩)), Is (.pointer (some ⟨b, o + i * 3 + 1 + 1, none⟩)), Is (.int .i64 (x.hi)), Is (.int .i64 (x.f)), Is (.int .i64 (x.hi))]
    (by kernel_rfl) (by kernel_rfl) (by kernel_rfl) (by kernel_rfl) (by kernel_rfl) Ext (fun W => Ext w W)
    (fun W _ => Ext.refl W) (fun W W' h k => h.trans k) ?_ (Ext.drew _) ?_ ?_
  · repeat (refine ⟨fun _ _ _ _ k h => (by first | exact h | exact (IntsAt.ext h k)), ?_⟩)
    exact trivial
  · refine ⟨?_, ?_, ?_, ?_, ?_, ?_, ?_, ?_, ?_, ?_, ?_, ?_, ?_, ?_, ?_, trivial⟩
    all_goals intro ρ W ⟨kc, kg, kf⟩ hF hs
    · obtain ⟨h0, -⟩ := hs
      replace h0 : ρ (.tmp 1) = .pointer (some ⟨tb, tO, none⟩) := h0
      go_simp
      exact ⟨Ext.refl _, rfl⟩
    · obtain ⟨h0, -⟩ := hs
      replace h0 : ρ (.tmp 5) = .pointer (some ⟨tb, tO, none⟩) := h0
      have hc0 : W.cell? ⟨tb, tO, none⟩ = some (.slice (some ⟨b, o, none⟩) n ca) := hF.cell (by assumption)
      go_simp
      exact ⟨Ext.refl _, rfl⟩
    · obtain ⟨h0, -⟩ := hs
      replace h0 : ρ (.tmp 0) = .int .i64 ((i : Int)) := h0
      go_simp
      exact ⟨Ext.refl _, rfl⟩
    · obtain ⟨h0, h1, -⟩ := hs
      replace h0 : ρ (.tmp 6) = .slice (some ⟨b, o, none⟩) n ca := h0
      replace h1 : ρ (.tmp 7) = .int .i64 ((i : Int)) := h1
      have hb2 : (i : Int) < (n : Int) := by omega
      have hb3 : i < n := by omega
      go_simp
      exact ⟨Ext.refl _, rfl⟩
    · obtain ⟨h0, -⟩ := hs
      replace h0 : ρ (.tmp 8) = .pointer (some ⟨b, o + i * 3, none⟩) := h0
      go_simp
      exact ⟨Ext.refl _, rfl⟩
    · obtain ⟨h0, -⟩ := hs
      replace h0 : ρ (.tmp 9) = .pointer (some ⟨b, o + i * 3, none⟩) := h0
      have hc0 : W.cell? ⟨b, o + i * 3, none⟩ = some (.int .i64 (x.f)) := hF.cell (by assumption)
      go_simp
      exact ⟨Ext.refl _, rfl⟩
    · obtain ⟨h0, -⟩ := hs
      replace h0 : ρ (.tmp 1) = .pointer (some ⟨tb, tO, none⟩) := h0
      go_simp
      exact ⟨Ext.refl _, rfl⟩
    · obtain ⟨h0, -⟩ := hs
      replace h0 : ρ (.tmp 11) = .pointer (some ⟨tb, tO, none⟩) := h0
      have hc0 : W.cell? ⟨tb, tO, none⟩ = some (.slice (some ⟨b, o, none⟩) n ca) := hF.cell (by assumption)
      go_simp
      exact ⟨Ext.refl _, rfl⟩
    · obtain ⟨h0, -⟩ := hs
      replace h0 : ρ (.tmp 0) = .int .i64 ((i : Int)) := h0
      go_simp
      exact ⟨Ext.refl _, rfl⟩
    · obtain ⟨h0, h1, -⟩ := hs
      replace h0 : ρ (.tmp 12) = .slice (some ⟨b, o, none⟩) n ca := h0
      replace h1 : ρ (.tmp 13) = .int .i64 ((i : Int)) := h1
      have hb2 : (i : Int) < (n : Int) := by omega
      have hb3 : i < n := by omega
      go_simp
      exact ⟨Ext.refl _, rfl⟩
    · obtain ⟨h0, -⟩ := hs
      replace h0 : ρ (.tmp 14) = .pointer (some ⟨b, o + i * 3, none⟩) := h0
      go_simp
      exact ⟨Ext.refl _, rfl⟩
    · obtain ⟨h0, -⟩ := hs
      replace h0 : ρ (.tmp 15) = .pointer (some ⟨b, o + i * 3 + 1, none⟩) := h0
      go_simp
      exact ⟨Ext.refl _, rfl⟩
    · obtain ⟨h0, -⟩ := hs
      replace h0 : ρ (.tmp 16) = .pointer (some ⟨b, o + i * 3 + 1 + 1, none⟩) := h0
      have hc0 : W.cell? ⟨b, o + i * 3 + 1 + 1, none⟩ = some (.int .i64 (x.hi)) := hF.cell (by assumption)
      go_simp
      exact ⟨Ext.refl _, rfl⟩
    · obtain ⟨h0, -⟩ := hs
      replace h0 : ρ (.tmp 10) = .int .i64 (x.f) := h0
      go_simp
      exact ⟨Ext.refl _, rfl⟩
    · obtain ⟨h0, -⟩ := hs
      replace h0 : ρ (.tmp 17) = .int .i64 (x.hi) := h0
      go_simp
      exact ⟨Ext.refl _, rfl⟩
  · intro fv W hF hs
    obtain ⟨-, -, -, -, -, -, -, -, -, -, -, -, -, h3, h4, -⟩ := hs
    replace h3 : fv 3 = .int .i64 (x.f) := h3
    replace h4 : fv 4 = .int .i64 (x.hi) := h4
    simp only [fin, List.filterMap]
    go_simp
    go_wp2
    go_ret2
    exact ⟨ret_two rfl rfl, hF⟩

/-- Where a curve falls below a limit; from place k on. -/
def fallK (ps : List (Int × Int)) (l : Int) : Nat → Nat → Option (Int × Int)
  | 0, _ => none
  | f + 1, k =>
    if l ≤ (ps.getD k default).2 then fallK ps l f (k + 1)
    else if k = 0 then some (lowT (ps.getD k default).1 1)
    else some (lowT ((ps.getD (k - 1) default).1 * ((ps.getD (k - 1) default).2 - (ps.getD k default).2) + ((ps.getD (k - 1) default).2 - l) * ((ps.getD k default).1 - (ps.getD (k - 1) default).1)) ((ps.getD (k - 1) default).2 - (ps.getD k default).2))
theorem fallK_step {ps : List (Int × Int)} {l : Int} {n k : Nat} {p : Int × Int} (h : k < n) (hp : ps[k]? = some p) : fallK ps l (n - k) k = if l ≤ p.2 then fallK ps l (n - (k + 1)) (k + 1) else if k = 0 then some (lowT p.1 1) else some (lowT ((ps.getD (k - 1) default).1 * ((ps.getD (k - 1) default).2 - p.2) + ((ps.getD (k - 1) default).2 - l) * (p.1 - (ps.getD (k - 1) default).1)) ((ps.getD (k - 1) default).2 - p.2)) := by
  obtain ⟨d, hd⟩ : ∃ d, n - k = d + 1 := ⟨n - k - 1, by omega⟩
  have e : ps.getD k default = p := by simp [hp]
  rw [hd, fallK, show n - (k + 1) = d by omega, e]

set_option maxRecDepth 100000 in
set_option maxHeartbeats 1000000 in
theorem fall119_any {n : Nat} {ps : List (Int × Int)} {l : Int} {w : World} {cp : Array Value} (hn : ps.length = n) (hnb : n ≤ 1000) (hl : 0 ≤ l ∧ l ≤ 2000) (hp : ∀ (i : Nat) (p : Int × Int), ps[i]? = some p → 0 ≤ p.1 ∧ p.1 ≤ 10000 ∧ 0 ≤ p.2 ∧ p.2 ≤ 2000)
    (hF : ∀ (i : Nat) (p : Int × Int) (W : World), ps[i]? = some p → Ext w W → Calls Try.prog 119 (#[.int .i64 (i : Int)] ++ cp) W fun e w' => e = .returned (.tuple #[.int .i64 p.1, .int .i64 p.2]) ∧ Ext W w') :
    Calls Try.prog 86 #[.func (.func 119) #[] cp, .int .i64 l, .int .i64 (n : Int)] w fun e w' => e = .returned (.tuple #[.agg #[.int .i64 ((fallK ps l n 0).getD (0, 0)).1, .int .i64 ((fallK ps l n 0).getD (0, 0)).2], .bool (fallK ps l n 0).isSome]) ∧ Ext w w' := by
  have HN := Lib.hid hn
  have HP := Lib.hid hp
  have HF := Lib.hid hF
  obtain ⟨l0, l1⟩ := hl
  clear hn hp hF
  obtain ⟨W0, hW0⟩ : ∃ W0, W0 = w.alloc (.cells #[.int .i64 0, .int .i64 0] 32) := ⟨_, rfl⟩
  have K0 := Lib.hid (show Blk W0 w.heap.size 32 #[.int .i64 0, .int .i64 0] by rw [hW0]; exact Blk.new _ _ _)
  have E0 := Lib.hid (show Ext w W0 by rw [hW0]; exact Ext.alloc _ _)
  go_enter Try.func86, Try.ntmps86
  go_wp2
  rw [← hW0]
  clear hW0
  go_loopw [14] (fun i wr => ∃ k : Nat, k ≤ n ∧ i = .int .i64 k ∧ fallK ps l n 0 = fallK ps l (n - k) k ∧ (k = 0 ∨ ∃ p, ps[k - 1]? = some p ∧ l ≤ p.2) ∧ Ext W0 wr) (fun i _ => n - (intOf i).toNat)
  case atStart => exact ⟨0, Nat.zero_le _, rfl, by rw [Nat.sub_zero], .inl rfl, Ext.refl _⟩
  case round =>
    obtain ⟨k, hk, rfl, hr, hb, hx⟩ := hrel
    have X := Lib.hid hx
    have R := Lib.hid hr
    have HB := Lib.hid hb
    clear hx hr hb
    by_cases hlt : k < n
    · have hki : (k : Int) < (n : Int) := by omega
      obtain ⟨p, hp⟩ : ∃ p, ps[k]? = some p := ⟨_, List.getElem?_eq_getElem (by rw [HN.out]; exact hlt)⟩
      have R2 := Lib.hid (R.out.trans (fallK_step hlt hp))
      obtain ⟨q0, q1, q2, q3⟩ := HP.out k p hp
      have HC := Lib.hid (fun W (e : Ext w W) => HF.out k p W hp e)
      have HPK := Lib.hid hp
      clear R hp
      by_cases hz : l ≤ p.2
      · have HZ := Lib.hid hz
        go_wp2_with (go_at_call 119; refine (HC.out _ (E0.out.trans X.out)).mono ?_; rintro e W1 ⟨rfl, hx⟩; have X1 := Lib.hid (X.out.trans hx); clear hx)
        go_roundw
        case rel => exact ⟨k + 1, by omega, by go_num, by rw [R2.out, if_pos HZ.out], .inr ⟨p, by rw [Nat.add_sub_cancel]; exact HPK.out, HZ.out⟩, X1.out⟩
        case measure => simp [intOf]; omega
      · have HZ := Lib.hid hz
        by_cases hk0 : k = 0
        · subst hk0
          have HL := Lib.hid (fun W => lowestP_any p.1 1 (by unfold Big; omega) (by omega) (by unfold Big; omega) W)
          have R3 := Lib.hid (show fallK ps l n 0 = some (lowT p.1 1) by rw [R2.out, if_neg HZ.out, if_pos rfl])
          generalize lowT p.1 1 = lo at *
          go_wp2_with (first
            | (go_at_call 119; refine (HC.out _ (E0.out.trans X.out)).mono ?_; rintro e W1 ⟨rfl, hx⟩; have X1 := Lib.hid (X.out.trans hx); clear hx)
            | (go_at_call 123; refine (HL.out _).mono ?_; rintro e W2 ⟨rfl, hx⟩; have X2 := Lib.hid (X1.out.trans hx); clear hx; refine Hid.out ?_))
          refine Lib.hid ?_
          have B2 := K0.out.ext X2.out
          have f0 := B2.free 0
          have f1 := B2.free 1
          have c0 : W2.cell? ⟨w.heap.size, 0, none⟩ = some (.int .i64 0) := B2.cell 0
          have c1 : W2.cell? ⟨w.heap.size, 1, none⟩ = some (.int .i64 0) := B2.cell 1
          clear B2
          go_wp2
          exact bodyPost_ret (v := .tuple #[.agg #[.int .i64 lo.1, .int .i64 lo.2], .bool true]) (by simp [results, Try.f86, go_sem, c0, c1]) rfl ⟨by rw [R3.out]; rfl, Ext.set (Ext.set (E0.out.trans X2.out) (by dsimp only; omega) _) (by dsimp only; omega) _⟩
        · obtain ⟨p', hp', hlp⟩ : ∃ p', ps[k - 1]? = some p' ∧ l ≤ p'.2 := by
            rcases HB.out with h | ⟨p', h1, h2⟩
            · omega
            · exact ⟨p', h1, h2⟩
          obtain ⟨t0, t1, t2, t3⟩ := HP.out (k - 1) p' hp'
          have hj1 : (((k - 1 : Nat)) : Int) = (k : Int) - 1 := by omega
          have HC2 := Lib.hid (fun W (e : Ext w W) => show Calls Try.prog 119 (#[.int .i64 ((k : Int) - 1)] ++ cp) W fun e w' => e = .returned (.tuple #[.int .i64 p'.1, .int .i64 p'.2]) ∧ Ext W w' from by
            have := HF.out (k - 1) p' W hp' e
            rw [hj1] at this
            exact this)
          have hk1 : (1 : Int) ≤ (k : Int) := by omega
          clear hj1
          have a0 : 0 ≤ p'.1 * (p'.2 - p.2) := Int.mul_nonneg (by omega) (by omega)
          have a1 : p'.1 * (p'.2 - p.2) ≤ 10000 * 2000 := Int.mul_le_mul (by omega) (by omega) (by omega) (by omega)
          have a2 : (p'.2 - l) * (p.1 - p'.1) ≤ 2000 * 10000 := by
            have h1 : (p'.2 - l) * (p.1 - p'.1) ≤ (p'.2 - l) * 10000 := Int.mul_le_mul_of_nonneg_left (by omega) (by omega)
            omega
          have a3 : -(2000 * 10000) ≤ (p'.2 - l) * (p.1 - p'.1) := by
            have h1 : (p'.2 - l) * (-10000) ≤ (p'.2 - l) * (p.1 - p'.1) := Int.mul_le_mul_of_nonneg_left (by omega) (by omega)
            omega
          have HL := Lib.hid (fun W => lowestP_any (p'.1 * (p'.2 - p.2) + (p'.2 - l) * (p.1 - p'.1)) (p'.2 - p.2) (by unfold Big; omega) (by omega) (by unfold Big; omega) W)
          have R3 := Lib.hid (show fallK ps l n 0 = some (lowT (p'.1 * (p'.2 - p.2) + (p'.2 - l) * (p.1 - p'.1)) (p'.2 - p.2)) by
            rw [R2.out, if_neg HZ.out, if_neg hk0, List.getD_eq_getElem?_getD, hp']; rfl)
          have hk0' : ((k : Int) == 0) = false := by simp; omega
          clear R2 HB hk0 HZ hp'
          generalize lowT (p'.1 * (p'.2 - p.2) + (p'.2 - l) * (p.1 - p'.1)) (p'.2 - p.2) = lo at *
          go_wp2_with (first
            | (go_at_call 119; (with_reducible refine (HC.out _ (E0.out.trans X.out)).mono ?_); rintro e W1 ⟨rfl, hx⟩; have X1 := Lib.hid (X.out.trans hx); clear hx)
            | (go_at_call 119; (with_reducible refine (HC2.out _ (E0.out.trans X1.out)).mono ?_); rintro e W3 ⟨rfl, hx⟩; have X3 := Lib.hid (X1.out.trans hx); clear hx)
            | (go_at_call 123; refine (HL.out _).mono ?_; rintro e W2 ⟨rfl, hx⟩; have X2 := Lib.hid (X3.out.trans hx); clear hx; refine Hid.out ?_))
          refine Lib.hid ?_
          have B2 := K0.out.ext X2.out
          have f0 := B2.free 0
          have f1 := B2.free 1
          have c0 : W2.cell? ⟨w.heap.size, 0, none⟩ = some (.int .i64 0) := B2.cell 0
          have c1 : W2.cell? ⟨w.heap.size, 1, none⟩ = some (.int .i64 0) := B2.cell 1
          clear B2
          go_wp2
          exact bodyPost_ret (v := .tuple #[.agg #[.int .i64 lo.1, .int .i64 lo.2], .bool true]) (by simp [results, Try.f86, go_sem, c0, c1]) rfl ⟨by rw [R3.out]; rfl, Ext.set (Ext.set (E0.out.trans X2.out) (by dsimp only; omega) _) (by dsimp only; omega) _⟩
    · have R2 := Lib.hid (show fallK ps l n 0 = none by rw [R.out, show n - k = 0 by omega]; rfl)
      have hkn : ¬ (k : Int) < (n : Int) := by omega
      have B2 := K0.out.ext X.out
      have f0 := B2.free 0
      have f1 := B2.free 1
      have c0 : wr.cell? ⟨w.heap.size, 0, none⟩ = some (.int .i64 0) := B2.cell 0
      have c1 : wr.cell? ⟨w.heap.size, 1, none⟩ = some (.int .i64 0) := B2.cell 1
      clear B2 R
      go_wp2
      exact bodyPost_ret (v := .tuple #[.agg #[.int .i64 0, .int .i64 0], .bool false]) (by simp [results, Try.f86, go_sem, c0, c1]) rfl ⟨by rw [R2.out]; rfl, Ext.set (Ext.set (E0.out.trans X.out) (by dsimp only; omega) _) (by dsimp only; omega) _⟩

set_option maxRecDepth 100000 in
set_option maxHeartbeats 1000000 in
theorem fall120_any {n : Nat} {ps : List (Int × Int)} {l : Int} {w : World} {cp : Array Value} (hn : ps.length = n) (hnb : n ≤ 1000) (hl : 0 ≤ l ∧ l ≤ 2000) (hp : ∀ (i : Nat) (p : Int × Int), ps[i]? = some p → 0 ≤ p.1 ∧ p.1 ≤ 10000 ∧ 0 ≤ p.2 ∧ p.2 ≤ 2000)
    (hF : ∀ (i : Nat) (p : Int × Int) (W : World), ps[i]? = some p → Ext w W → Calls Try.prog 120 (#[.int .i64 (i : Int)] ++ cp) W fun e w' => e = .returned (.tuple #[.int .i64 p.1, .int .i64 p.2]) ∧ Ext W w') :
    Calls Try.prog 86 #[.func (.func 120) #[] cp, .int .i64 l, .int .i64 (n : Int)] w fun e w' => e = .returned (.tuple #[.agg #[.int .i64 ((fallK ps l n 0).getD (0, 0)).1, .int .i64 ((fallK ps l n 0).getD (0, 0)).2], .bool (fallK ps l n 0).isSome]) ∧ Ext w w' := by
  have HN := Lib.hid hn
  have HP := Lib.hid hp
  have HF := Lib.hid hF
  obtain ⟨l0, l1⟩ := hl
  clear hn hp hF
  obtain ⟨W0, hW0⟩ : ∃ W0, W0 = w.alloc (.cells #[.int .i64 0, .int .i64 0] 32) := ⟨_, rfl⟩
  have K0 := Lib.hid (show Blk W0 w.heap.size 32 #[.int .i64 0, .int .i64 0] by rw [hW0]; exact Blk.new _ _ _)
  have E0 := Lib.hid (show Ext w W0 by rw [hW0]; exact Ext.alloc _ _)
  go_enter Try.func86, Try.ntmps86
  go_wp2
  rw [← hW0]
  clear hW0
  go_loopw [14] (fun i wr => ∃ k : Nat, k ≤ n ∧ i = .int .i64 k ∧ fallK ps l n 0 = fallK ps l (n - k) k ∧ (k = 0 ∨ ∃ p, ps[k - 1]? = some p ∧ l ≤ p.2) ∧ Ext W0 wr) (fun i _ => n - (intOf i).toNat)
  case atStart => exact ⟨0, Nat.zero_le _, rfl, by rw [Nat.sub_zero], .inl rfl, Ext.refl _⟩
  case round =>
    obtain ⟨k, hk, rfl, hr, hb, hx⟩ := hrel
    have X := Lib.hid hx
    have R := Lib.hid hr
    have HB := Lib.hid hb
    clear hx hr hb
    by_cases hlt : k < n
    · have hki : (k : Int) < (n : Int) := by omega
      obtain ⟨p, hp⟩ : ∃ p, ps[k]? = some p := ⟨_, List.getElem?_eq_getElem (by rw [HN.out]; exact hlt)⟩
      have R2 := Lib.hid (R.out.trans (fallK_step hlt hp))
      obtain ⟨q0, q1, q2, q3⟩ := HP.out k p hp
      have HC := Lib.hid (fun W (e : Ext w W) => HF.out k p W hp e)
      have HPK := Lib.hid hp
      clear R hp
      by_cases hz : l ≤ p.2
      · have HZ := Lib.hid hz
        go_wp2_with (go_at_call 120; refine (HC.out _ (E0.out.trans X.out)).mono ?_; rintro e W1 ⟨rfl, hx⟩; have X1 := Lib.hid (X.out.trans hx); clear hx)
        go_roundw
        case rel => exact ⟨k + 1, by omega, by go_num, by rw [R2.out, if_pos HZ.out], .inr ⟨p, by rw [Nat.add_sub_cancel]; exact HPK.out, HZ.out⟩, X1.out⟩
        case measure => simp [intOf]; omega
      · have HZ := Lib.hid hz
        by_cases hk0 : k = 0
        · subst hk0
          have HL := Lib.hid (fun W => lowestP_any p.1 1 (by unfold Big; omega) (by omega) (by unfold Big; omega) W)
          have R3 := Lib.hid (show fallK ps l n 0 = some (lowT p.1 1) by rw [R2.out, if_neg HZ.out, if_pos rfl])
          generalize lowT p.1 1 = lo at *
          go_wp2_with (first
            | (go_at_call 120; refine (HC.out _ (E0.out.trans X.out)).mono ?_; rintro e W1 ⟨rfl, hx⟩; have X1 := Lib.hid (X.out.trans hx); clear hx)
            | (go_at_call 123; refine (HL.out _).mono ?_; rintro e W2 ⟨rfl, hx⟩; have X2 := Lib.hid (X1.out.trans hx); clear hx; refine Hid.out ?_))
          refine Lib.hid ?_
          have B2 := K0.out.ext X2.out
          have f0 := B2.free 0
          have f1 := B2.free 1
          have c0 : W2.cell? ⟨w.heap.size, 0, none⟩ = some (.int .i64 0) := B2.cell 0
          have c1 : W2.cell? ⟨w.heap.size, 1, none⟩ = some (.int .i64 0) := B2.cell 1
          clear B2
          go_wp2
          exact bodyPost_ret (v := .tuple #[.agg #[.int .i64 lo.1, .int .i64 lo.2], .bool true]) (by simp [results, Try.f86, go_sem, c0, c1]) rfl ⟨by rw [R3.out]; rfl, Ext.set (Ext.set (E0.out.trans X2.out) (by dsimp only; omega) _) (by dsimp only; omega) _⟩
        · obtain ⟨p', hp', hlp⟩ : ∃ p', ps[k - 1]? = some p' ∧ l ≤ p'.2 := by
            rcases HB.out with h | ⟨p', h1, h2⟩
            · omega
            · exact ⟨p', h1, h2⟩
          obtain ⟨t0, t1, t2, t3⟩ := HP.out (k - 1) p' hp'
          have hj1 : (((k - 1 : Nat)) : Int) = (k : Int) - 1 := by omega
          have HC2 := Lib.hid (fun W (e : Ext w W) => show Calls Try.prog 120 (#[.int .i64 ((k : Int) - 1)] ++ cp) W fun e w' => e = .returned (.tuple #[.int .i64 p'.1, .int .i64 p'.2]) ∧ Ext W w' from by
            have := HF.out (k - 1) p' W hp' e
            rw [hj1] at this
            exact this)
          have hk1 : (1 : Int) ≤ (k : Int) := by omega
          clear hj1
          have a0 : 0 ≤ p'.1 * (p'.2 - p.2) := Int.mul_nonneg (by omega) (by omega)
          have a1 : p'.1 * (p'.2 - p.2) ≤ 10000 * 2000 := Int.mul_le_mul (by omega) (by omega) (by omega) (by omega)
          have a2 : (p'.2 - l) * (p.1 - p'.1) ≤ 2000 * 10000 := by
            have h1 : (p'.2 - l) * (p.1 - p'.1) ≤ (p'.2 - l) * 10000 := Int.mul_le_mul_of_nonneg_left (by omega) (by omega)
            omega
          have a3 : -(2000 * 10000) ≤ (p'.2 - l) * (p.1 - p'.1) := by
            have h1 : (p'.2 - l) * (-10000) ≤ (p'.2 - l) * (p.1 - p'.1) := Int.mul_le_mul_of_nonneg_left (by omega) (by omega)
            omega
          have HL := Lib.hid (fun W => lowestP_any (p'.1 * (p'.2 - p.2) + (p'.2 - l) * (p.1 - p'.1)) (p'.2 - p.2) (by unfold Big; omega) (by omega) (by unfold Big; omega) W)
          have R3 := Lib.hid (show fallK ps l n 0 = some (lowT (p'.1 * (p'.2 - p.2) + (p'.2 - l) * (p.1 - p'.1)) (p'.2 - p.2)) by
            rw [R2.out, if_neg HZ.out, if_neg hk0, List.getD_eq_getElem?_getD, hp']; rfl)
          have hk0' : ((k : Int) == 0) = false := by simp; omega
          clear R2 HB hk0 HZ hp'
          generalize lowT (p'.1 * (p'.2 - p.2) + (p'.2 - l) * (p.1 - p'.1)) (p'.2 - p.2) = lo at *
          go_wp2_with (first
            | (go_at_call 120; (with_reducible refine (HC.out _ (E0.out.trans X.out)).mono ?_); rintro e W1 ⟨rfl, hx⟩; have X1 := Lib.hid (X.out.trans hx); clear hx)
            | (go_at_call 120; (with_reducible refine (HC2.out _ (E0.out.trans X1.out)).mono ?_); rintro e W3 ⟨rfl, hx⟩; have X3 := Lib.hid (X1.out.trans hx); clear hx)
            | (go_at_call 123; refine (HL.out _).mono ?_; rintro e W2 ⟨rfl, hx⟩; have X2 := Lib.hid (X3.out.trans hx); clear hx; refine Hid.out ?_))
          refine Lib.hid ?_
          have B2 := K0.out.ext X2.out
          have f0 := B2.free 0
          have f1 := B2.free 1
          have c0 : W2.cell? ⟨w.heap.size, 0, none⟩ = some (.int .i64 0) := B2.cell 0
          have c1 : W2.cell? ⟨w.heap.size, 1, none⟩ = some (.int .i64 0) := B2.cell 1
          clear B2
          go_wp2
          exact bodyPost_ret (v := .tuple #[.agg #[.int .i64 lo.1, .int .i64 lo.2], .bool true]) (by simp [results, Try.f86, go_sem, c0, c1]) rfl ⟨by rw [R3.out]; rfl, Ext.set (Ext.set (E0.out.trans X2.out) (by dsimp only; omega) _) (by dsimp only; omega) _⟩
    · have R2 := Lib.hid (show fallK ps l n 0 = none by rw [R.out, show n - k = 0 by omega]; rfl)
      have hkn : ¬ (k : Int) < (n : Int) := by omega
      have B2 := K0.out.ext X.out
      have f0 := B2.free 0
      have f1 := B2.free 1
      have c0 : wr.cell? ⟨w.heap.size, 0, none⟩ = some (.int .i64 0) := B2.cell 0
      have c1 : wr.cell? ⟨w.heap.size, 1, none⟩ = some (.int .i64 0) := B2.cell 1
      clear B2 R
      go_wp2
      exact bodyPost_ret (v := .tuple #[.agg #[.int .i64 0, .int .i64 0], .bool false]) (by simp [results, Try.f86, go_sem, c0, c1]) rfl ⟨by rw [R2.out]; rfl, Ext.set (Ext.set (E0.out.trans X.out) (by dsimp only; omega) _) (by dsimp only; omega) _⟩

end Go.Proofs.Ytmddnpagfgilcaa

namespace Go.Proofs.Ytmddnpagfgilcaa
open Go.RowKit Go.Shelf Go.Mem Go.RegInv
attribute [local go_sem] RelUpon_value RelUpon_skip RelUpon_enter BigFrame.eval_const BigFrame.eval_global BigFrame.eval_func

def loP (xs : List In) : List (Int × Int) := xs.map fun x => (x.d, x.lo)
def upP (xs : List In) : List (Int × Int) := xs.map fun x => (x.d, x.hi)
def caseE (xs : List In) (l : Int) : Int := firstE [(checkT xs).2, rangeE 0 2000 [l]]
theorem count_ok {n lo hi : Int} (h : countE n lo hi = 0) : lo ≤ n ∧ n ≤ hi := by
  have h1 := firstE_zero h (errIf (decide (n < lo)) 10) (by simp)
  have h2 := firstE_zero h (errIf (decide (hi < n)) 8) (by simp)
  simp [errIf] at h1 h2
  exact ⟨h1, h2⟩
theorem checkT_ok {xs : List In} (h : (checkT xs).2 = 0) : 2 ≤ xs.length ∧ xs.length ≤ 20 ∧ ∀ (i : Nat) (x : In), xs[i]? = some x → 1 ≤ x.d ∧ x.d ≤ 10000 ∧ 1 ≤ x.g ∧ x.g ≤ 10000 ∧ 0 ≤ x.lo ∧ x.lo ≤ x.hi ∧ x.hi ≤ 2000 ∧ distK xs i = false := by
  unfold checkT at h
  by_cases hz : countE xs.length 2 20 = 0
  · rw [if_neg (by simpa using hz)] at h
    obtain ⟨c1, c2⟩ := count_ok hz
    refine ⟨by omega, by omega, fun i x hx => ?_⟩
    have hi := (List.getElem?_eq_some_iff.1 hx).1
    have e := firstAt_zero h i (by omega) (by omega)
    unfold indAt at e
    rw [show xs.getD i default = x by simp [hx]] at e
    have e1 := rangeE_zeros (firstE_zero e (rangeE 1 10000 [x.d, x.g]) (by simp))
    have e2 := rangeE_zeros (firstE_zero e (rangeE 0 2000 [x.lo, x.hi]) (by simp))
    have e3 := firstE_zero e (errIf (decide (x.hi < x.lo)) 9) (by simp)
    have e4 := firstE_zero e (errIf (distK xs i) 17) (by simp)
    have a1 := e1 x.d (by simp)
    have a2 := e1 x.g (by simp)
    have a3 := e2 x.lo (by simp)
    have a4 := e2 x.hi (by simp)
    simp [errIf] at e3 e4
    exact ⟨a1.1, a1.2, a2.1, a2.2, a3.1, e3, a4.2, e4⟩
  · rw [if_pos hz] at h
    exact absurd h hz
theorem curvesOf_any {A : Option Addr} {n ca : Nat} (w : World) : Calls Try.prog 84 #[.agg #[.slice A n ca]] w fun e w' => ∃ tb, e = .returned (.tuple #[.func (.func 119) #[] #[.pointer (some ⟨tb, 0, none⟩)], .func (.func 120) #[] #[.pointer (some ⟨tb, 0, none⟩)]]) ∧ Blk w' tb 24 #[.slice A n ca] ∧ Ext w w' := by
  go_enter Try.func84, Try.ntmps84
  go_wp2
  go_ret2
  exact ⟨w.heap.size, rfl, Blk.new _ _ _, Ext.alloc _ _⟩
set_option maxRecDepth 100000 in
set_option maxHeartbeats 1000000 in
theorem caseOf_none {A : Option Addr} {n ca : Nat} {xs : List In} {w : World} (l : Int) (hn : xs.length = n) (hA : RowsAt 4 In.enc w A xs) (hz : caseE xs l = 0) (hh : (xs.getD 0 default).hi < l) :
    Calls Try.prog 18 #[.agg #[.slice A n ca], .int .i64 l] w fun e w' => e = .returned (.tuple #[.agg #[.int .i64 0, .int .i64 0, .int .i64 0, .int .i64 0], .int .i64 12]) ∧ Ext w w' := by
  have HTE := Lib.hid (fun W (e : Ext w W) => traverseError_any (ca := ca) hn (hA.ext e))
  have HZ := Lib.hid (show firstE [(checkT xs).2, rangeE 0 2000 [l]] = 0 from hz)
  obtain ⟨m2, m20, hok⟩ := checkT_ok (firstE_zero hz (checkT xs).2 (by simp))
  obtain ⟨l0, l1⟩ := rangeE_zeros (firstE_zero hz (rangeE 0 2000 [l]) (by simp)) l (by simp)
  rw [hn] at m2 m20
  have HA := Lib.hid hA
  have HN := Lib.hid hn
  have HOK := Lib.hid hok
  have hn0 : 0 < n := by omega
  obtain ⟨x, hx0⟩ : ∃ x, xs[0]? = some x := ⟨_, List.getElem?_eq_getElem (by omega)⟩
  have HX0 := Lib.hid hx0
  have hh2 : x.hi < l := by simpa [hx0] using hh
  clear hn hA hz hok hx0 hh
  obtain ⟨W0, hW0⟩ : ∃ W0, W0 = (w.alloc (.cells #[.slice A n ca] 24)).alloc (.cells #[.int .i64 0, .int .i64 0, .int .i64 0, .int .i64 0] 34) := ⟨_, rfl⟩
  have k0 : Blk W0 w.heap.size 24 #[.slice A n ca] := by rw [hW0]; exact (Blk.new _ _ _).alloc _
  have k1 : Blk W0 (w.heap.size + 1) 34 #[.int .i64 0, .int .i64 0, .int .i64 0, .int .i64 0] := by rw [hW0]; exact Blk.newAt _ _ _ (by simp)
  have E0 := Lib.hid (show Ext w W0 by rw [hW0]; exact (Ext.alloc _ _).trans (Ext.alloc _ _))
  have y0 : W0.cell? ⟨w.heap.size, 0, none⟩ = some (.slice A n ca) := k0.cell 0
  have K0 := Lib.hid k0
  have K1 := Lib.hid k1
  clear k0 k1
  go_enter Try.func18, Try.ntmps18
  go_wp2_with (fail)
  rw [← hW0]
  clear hW0
  go_wp2_with (go_at_call 83; refine (HTE.out _ E0.out).mono ?_; rintro e W1 ⟨rfl, hx⟩; have X1 := Lib.hid hx; clear hx y0; refine Hid.out ?_)
  refine Lib.hid ?_
  go_wp2_with (go_at_call 79; refine (rangeError_any 0 2000 _ [l] _ (ints_new _ [l] _ (by simp))).mono ?_; rintro e W2 ⟨rfl, hx⟩; have X2 := Lib.hid (X1.out.trans ((Ext.alloc _ _).trans hx)); clear hx X1; refine Hid.out ?_)
  refine Lib.hid ?_
  go_wp2_with (go_at_call 78; refine (firstOf_any _ [(checkT xs).2, rangeE 0 2000 [l]] _ (ints_new _ [_, _] _ (by simp))).mono ?_; rintro e W3 ⟨rfl, hw⟩; have X3 := Lib.hid (show Ext W0 W3 by rw [← hw]; exact X2.out.trans (Ext.alloc _ _)); clear hw X2; rw [HZ.out]; refine Hid.out ?_)
  refine Lib.hid ?_
  have BR := Lib.hid (K1.out.ext X3.out)
  have B0 := Lib.hid (K0.out.ext X3.out)
  clear K0 K1
  obtain ⟨b, o, rfl, hb, hc⟩ := row_at (HA.out.ext (E0.out.trans X3.out)) HX0.out
  have p3 := hc 3 _ rfl
  simp only [Nat.zero_mul, Nat.add_zero] at p3
  have y0 : W3.cell? ⟨w.heap.size, 0, none⟩ = some (.slice (some ⟨b, o, none⟩) n ca) := B0.out.cell 0
  clear hc hb
  have f0 := BR.out.free 0
  have c0 : W3.cell? ⟨w.heap.size + 1, 0, none⟩ = some (.int .i64 0) := BR.out.cell 0
  have f1 := BR.out.free 1
  have c1 : W3.cell? ⟨w.heap.size + 1, 1, none⟩ = some (.int .i64 0) := BR.out.cell 1
  have f2 := BR.out.free 2
  have c2 : W3.cell? ⟨w.heap.size + 1, 2, none⟩ = some (.int .i64 0) := BR.out.cell 2
  have f3 := BR.out.free 3
  have c3 : W3.cell? ⟨w.heap.size + 1, 3, none⟩ = some (.int .i64 0) := BR.out.cell 3
  clear BR B0
  go_wp2
  exact bodyPost_ret (v := .tuple #[.agg #[.int .i64 0, .int .i64 0, .int .i64 0, .int .i64 0], .int .i64 12]) (by simp [results, Try.f18, go_sem, c0, c1, c2, c3]) rfl ⟨rfl, (Ext.set (Ext.set (Ext.set (Ext.set (E0.out.trans X3.out) (by dsimp only; omega) _) (by dsimp only; omega) _) (by dsimp only; omega) _) (by dsimp only; omega) _)⟩

set_option maxRecDepth 100000 in
set_option maxHeartbeats 1000000 in
theorem caseOf_open {A : Option Addr} {n ca : Nat} {xs : List In} {w : World} (l : Int) (hn : xs.length = n) (hA : RowsAt 4 In.enc w A xs) (hz : caseE xs l = 0) (hh : ¬ (xs.getD 0 default).hi < l) (hf : fallK (upP xs) l n 0 = none) :
    Calls Try.prog 18 #[.agg #[.slice A n ca], .int .i64 l] w fun e w' => e = .returned (.tuple #[.agg #[.int .i64 0, .int .i64 0, .int .i64 0, .int .i64 0], .int .i64 21]) ∧ Ext w w' := by
  have HTE := Lib.hid (fun W (e : Ext w W) => traverseError_any (ca := ca) hn (hA.ext e))
  have HZ := Lib.hid (show firstE [(checkT xs).2, rangeE 0 2000 [l]] = 0 from hz)
  obtain ⟨m2, m20, hok⟩ := checkT_ok (firstE_zero hz (checkT xs).2 (by simp))
  obtain ⟨l0, l1⟩ := rangeE_zeros (firstE_zero hz (rangeE 0 2000 [l]) (by simp)) l (by simp)
  rw [hn] at m2 m20
  have HA := Lib.hid hA
  have HN := Lib.hid hn
  have HOK := Lib.hid hok
  have hn0 : 0 < n := by omega
  obtain ⟨x, hx0⟩ : ∃ x, xs[0]? = some x := ⟨_, List.getElem?_eq_getElem (by omega)⟩
  have HX0 := Lib.hid hx0
  have hh2 : ¬ x.hi < l := by simpa [hx0] using hh
  have hU : ∀ (i : Nat) (p : Int × Int), (upP xs)[i]? = some p → 0 ≤ p.1 ∧ p.1 ≤ 10000 ∧ 0 ≤ p.2 ∧ p.2 ≤ 2000 := fun i p h => by
    simp only [upP, List.getElem?_map, Option.map_eq_some_iff] at h
    obtain ⟨y, hy, rfl⟩ := h
    have := hok i y hy
    exact ⟨by dsimp only; omega, by dsimp only; omega, by dsimp only; omega, by dsimp only; omega⟩
  have hL : ∀ (i : Nat) (p : Int × Int), (loP xs)[i]? = some p → 0 ≤ p.1 ∧ p.1 ≤ 10000 ∧ 0 ≤ p.2 ∧ p.2 ≤ 2000 := fun i p h => by
    simp only [loP, List.getElem?_map, Option.map_eq_some_iff] at h
    obtain ⟨y, hy, rfl⟩ := h
    have := hok i y hy
    exact ⟨by dsimp only; omega, by dsimp only; omega, by dsimp only; omega, by dsimp only; omega⟩
  have HU := Lib.hid (fun (tb : Nat) (W : World) (e : Ext w W) (hb : Blk W tb 24 #[.slice A n ca]) => fall120_any (ps := upP xs) (l := l) (n := n) (w := W) (cp := #[.pointer (some ⟨tb, 0, none⟩)]) (by simp [upP, hn]) (by omega) ⟨l0, l1⟩ hU (fun i p W2 hp e2 => by
    simp only [upP, List.getElem?_map, Option.map_eq_some_iff] at hp
    obtain ⟨y, hy, rfl⟩ := hp
    exact clos120_any hn (hA.ext (e.trans e2)) ((hb.ext e2).cell 0) hy))
  have HL := Lib.hid (fun (tb : Nat) (W : World) (e : Ext w W) (hb : Blk W tb 24 #[.slice A n ca]) => fall119_any (ps := loP xs) (l := l) (n := n) (w := W) (cp := #[.pointer (some ⟨tb, 0, none⟩)]) (by simp [loP, hn]) (by omega) ⟨l0, l1⟩ hL (fun i p W2 hp e2 => by
    simp only [loP, List.getElem?_map, Option.map_eq_some_iff] at hp
    obtain ⟨y, hy, rfl⟩ := hp
    exact clos119_any hn (hA.ext (e.trans e2)) ((hb.ext e2).cell 0) hy))
  clear hU hL
  rw [hf] at HU
  clear hn hA hz hok hx0 hh hf HL
  obtain ⟨W0, hW0⟩ : ∃ W0, W0 = (w.alloc (.cells #[.slice A n ca] 24)).alloc (.cells #[.int .i64 0, .int .i64 0, .int .i64 0, .int .i64 0] 34) := ⟨_, rfl⟩
  have k0 : Blk W0 w.heap.size 24 #[.slice A n ca] := by rw [hW0]; exact (Blk.new _ _ _).alloc _
  have k1 : Blk W0 (w.heap.size + 1) 34 #[.int .i64 0, .int .i64 0, .int .i64 0, .int .i64 0] := by rw [hW0]; exact Blk.newAt _ _ _ (by simp)
  have E0 := Lib.hid (show Ext w W0 by rw [hW0]; exact (Ext.alloc _ _).trans (Ext.alloc _ _))
  have y0 : W0.cell? ⟨w.heap.size, 0, none⟩ = some (.slice A n ca) := k0.cell 0
  have K0 := Lib.hid k0
  have K1 := Lib.hid k1
  clear k0 k1
  go_enter Try.func18, Try.ntmps18
  go_wp2_with (fail)
  rw [← hW0]
  clear hW0
  go_wp2_with (go_at_call 83; refine (HTE.out _ E0.out).mono ?_; rintro e W1 ⟨rfl, hx⟩; have X1 := Lib.hid hx; clear hx y0; refine Hid.out ?_)
  refine Lib.hid ?_
  go_wp2_with (go_at_call 79; refine (rangeError_any 0 2000 _ [l] _ (ints_new _ [l] _ (by simp))).mono ?_; rintro e W2 ⟨rfl, hx⟩; have X2 := Lib.hid (X1.out.trans ((Ext.alloc _ _).trans hx)); clear hx X1; refine Hid.out ?_)
  refine Lib.hid ?_
  go_wp2_with (go_at_call 78; refine (firstOf_any _ [(checkT xs).2, rangeE 0 2000 [l]] _ (ints_new _ [_, _] _ (by simp))).mono ?_; rintro e W3 ⟨rfl, hw⟩; have X3 := Lib.hid (show Ext W0 W3 by rw [← hw]; exact X2.out.trans (Ext.alloc _ _)); clear hw X2; rw [HZ.out]; refine Hid.out ?_)
  refine Lib.hid ?_
  have BR := Lib.hid (K1.out.ext X3.out)
  have B0 := Lib.hid (K0.out.ext X3.out)
  clear K0 K1
  obtain ⟨b, o, rfl, hb, hc⟩ := row_at (HA.out.ext (E0.out.trans X3.out)) HX0.out
  have p3 := hc 3 _ rfl
  simp only [Nat.zero_mul, Nat.add_zero] at p3
  have y0 : W3.cell? ⟨w.heap.size, 0, none⟩ = some (.slice (some ⟨b, o, none⟩) n ca) := B0.out.cell 0
  clear hc hb
  have HCV := Lib.hid (fun W => curvesOf_any (A := some ⟨b, o, none⟩) (n := n) (ca := ca) W)
  go_wp2_with (go_at_call 84; refine (HCV.out _).mono ?_; rintro e W4 ⟨tb, rfl, hbt, hx⟩; have BT := Lib.hid hbt; have X4 := Lib.hid (X3.out.trans hx); have BR := Lib.hid (BR.out.ext hx); have B0 := Lib.hid (B0.out.ext hx); clear hx hbt p3 y0; refine Hid.out ?_)
  refine Lib.hid ?_
  have y0 : W4.cell? ⟨w.heap.size, 0, none⟩ = some (.slice (some ⟨b, o, none⟩) n ca) := B0.out.cell 0
  go_wp2_with (go_at_call 86; refine (HU.out tb _ (E0.out.trans X4.out) BT.out).mono ?_; rintro e W5 ⟨rfl, hx⟩; have X5 := Lib.hid (X4.out.trans (hx.trans (Ext.alloc W5 (.cells #[.int .i64 0, .int .i64 0] 32)))); have BR := Lib.hid ((BR.out.ext hx).alloc (.cells #[.int .i64 0, .int .i64 0] 32)); clear hx y0; refine Hid.out ?_)
  refine Lib.hid ?_
  have f0 := BR.out.free 0
  have c0 : (W5.alloc (.cells #[.int .i64 0, .int .i64 0] 32)).cell? ⟨w.heap.size + 1, 0, none⟩ = some (.int .i64 0) := BR.out.cell 0
  have f1 := BR.out.free 1
  have c1 : (W5.alloc (.cells #[.int .i64 0, .int .i64 0] 32)).cell? ⟨w.heap.size + 1, 1, none⟩ = some (.int .i64 0) := BR.out.cell 1
  have f2 := BR.out.free 2
  have c2 : (W5.alloc (.cells #[.int .i64 0, .int .i64 0] 32)).cell? ⟨w.heap.size + 1, 2, none⟩ = some (.int .i64 0) := BR.out.cell 2
  have f3 := BR.out.free 3
  have c3 : (W5.alloc (.cells #[.int .i64 0, .int .i64 0] 32)).cell? ⟨w.heap.size + 1, 3, none⟩ = some (.int .i64 0) := BR.out.cell 3
  clear BR B0 BT
  go_wp2
  exact bodyPost_ret (v := .tuple #[.agg #[.int .i64 0, .int .i64 0, .int .i64 0, .int .i64 0], .int .i64 21]) (by simp [results, Try.f18, go_sem, c0, c1, c2, c3]) rfl ⟨rfl, (Ext.set (Ext.set (Ext.set (Ext.set (E0.out.trans X5.out) (by dsimp only; omega) _) (by dsimp only; omega) _) (by dsimp only; omega) _) (by dsimp only; omega) _)⟩

set_option maxRecDepth 100000 in
set_option maxHeartbeats 1000000 in
theorem caseOf_ok {A : Option Addr} {n ca : Nat} {xs : List In} {w : World} (l : Int) (hn : xs.length = n) (hA : RowsAt 4 In.enc w A xs) {lo hi : Int × Int} (hz : caseE xs l = 0) (hh : ¬ (xs.getD 0 default).hi < l) (hf : fallK (upP xs) l n 0 = some hi) (hg : fallK (loP xs) l n 0 = some lo) :
    Calls Try.prog 18 #[.agg #[.slice A n ca], .int .i64 l] w fun e w' => e = .returned (.tuple #[.agg #[.int .i64 lo.1, .int .i64 lo.2, .int .i64 hi.1, .int .i64 hi.2], .int .i64 0]) ∧ Ext w w' := by
  have HTE := Lib.hid (fun W (e : Ext w W) => traverseError_any (ca := ca) hn (hA.ext e))
  have HZ := Lib.hid (show firstE [(checkT xs).2, rangeE 0 2000 [l]] = 0 from hz)
  obtain ⟨m2, m20, hok⟩ := checkT_ok (firstE_zero hz (checkT xs).2 (by simp))
  obtain ⟨l0, l1⟩ := rangeE_zeros (firstE_zero hz (rangeE 0 2000 [l]) (by simp)) l (by simp)
  rw [hn] at m2 m20
  have HA := Lib.hid hA
  have HN := Lib.hid hn
  have HOK := Lib.hid hok
  have hn0 : 0 < n := by omega
  obtain ⟨x, hx0⟩ : ∃ x, xs[0]? = some x := ⟨_, List.getElem?_eq_getElem (by omega)⟩
  have HX0 := Lib.hid hx0
  have hh2 : ¬ x.hi < l := by simpa [hx0] using hh
  have hU : ∀ (i : Nat) (p : Int × Int), (upP xs)[i]? = some p → 0 ≤ p.1 ∧ p.1 ≤ 10000 ∧ 0 ≤ p.2 ∧ p.2 ≤ 2000 := fun i p h => by
    simp only [upP, List.getElem?_map, Option.map_eq_some_iff] at h
    obtain ⟨y, hy, rfl⟩ := h
    have := hok i y hy
    exact ⟨by dsimp only; omega, by dsimp only; omega, by dsimp only; omega, by dsimp only; omega⟩
  have hL : ∀ (i : Nat) (p : Int × Int), (loP xs)[i]? = some p → 0 ≤ p.1 ∧ p.1 ≤ 10000 ∧ 0 ≤ p.2 ∧ p.2 ≤ 2000 := fun i p h => by
    simp only [loP, List.getElem?_map, Option.map_eq_some_iff] at h
    obtain ⟨y, hy, rfl⟩ := h
    have := hok i y hy
    exact ⟨by dsimp only; omega, by dsimp only; omega, by dsimp only; omega, by dsimp only; omega⟩
  have HU := Lib.hid (fun (tb : Nat) (W : World) (e : Ext w W) (hb : Blk W tb 24 #[.slice A n ca]) => fall120_any (ps := upP xs) (l := l) (n := n) (w := W) (cp := #[.pointer (some ⟨tb, 0, none⟩)]) (by simp [upP, hn]) (by omega) ⟨l0, l1⟩ hU (fun i p W2 hp e2 => by
    simp only [upP, List.getElem?_map, Option.map_eq_some_iff] at hp
    obtain ⟨y, hy, rfl⟩ := hp
    exact clos120_any hn (hA.ext (e.trans e2)) ((hb.ext e2).cell 0) hy))
  have HL := Lib.hid (fun (tb : Nat) (W : World) (e : Ext w W) (hb : Blk W tb 24 #[.slice A n ca]) => fall119_any (ps := loP xs) (l := l) (n := n) (w := W) (cp := #[.pointer (some ⟨tb, 0, none⟩)]) (by simp [loP, hn]) (by omega) ⟨l0, l1⟩ hL (fun i p W2 hp e2 => by
    simp only [loP, List.getElem?_map, Option.map_eq_some_iff] at hp
    obtain ⟨y, hy, rfl⟩ := hp
    exact clos119_any hn (hA.ext (e.trans e2)) ((hb.ext e2).cell 0) hy))
  clear hU hL
  rw [hf] at HU
  rw [hg] at HL
  clear hn hA hz hok hx0 hh hf hg
  obtain ⟨W0, hW0⟩ : ∃ W0, W0 = (w.alloc (.cells #[.slice A n ca] 24)).alloc (.cells #[.int .i64 0, .int .i64 0, .int .i64 0, .int .i64 0] 34) := ⟨_, rfl⟩
  have k0 : Blk W0 w.heap.size 24 #[.slice A n ca] := by rw [hW0]; exact (Blk.new _ _ _).alloc _
  have k1 : Blk W0 (w.heap.size + 1) 34 #[.int .i64 0, .int .i64 0, .int .i64 0, .int .i64 0] := by rw [hW0]; exact Blk.newAt _ _ _ (by simp)
  have E0 := Lib.hid (show Ext w W0 by rw [hW0]; exact (Ext.alloc _ _).trans (Ext.alloc _ _))
  have y0 : W0.cell? ⟨w.heap.size, 0, none⟩ = some (.slice A n ca) := k0.cell 0
  have K0 := Lib.hid k0
  have K1 := Lib.hid k1
  clear k0 k1
  go_enter Try.func18, Try.ntmps18
  go_wp2_with (fail)
  rw [← hW0]
  clear hW0
  go_wp2_with (go_at_call 83; refine (HTE.out _ E0.out).mono ?_; rintro e W1 ⟨rfl, hx⟩; have X1 := Lib.hid hx; clear hx y0; refine Hid.out ?_)
  refine Lib.hid ?_
  go_wp2_with (go_at_call 79; refine (rangeError_any 0 2000 _ [l] _ (ints_new _ [l] _ (by simp))).mono ?_; rintro e W2 ⟨rfl, hx⟩; have X2 := Lib.hid (X1.out.trans ((Ext.alloc _ _).trans hx)); clear hx X1; refine Hid.out ?_)
  refine Lib.hid ?_
  go_wp2_with (go_at_call 78; refine (firstOf_any _ [(checkT xs).2, rangeE 0 2000 [l]] _ (ints_new _ [_, _] _ (by simp))).mono ?_; rintro e W3 ⟨rfl, hw⟩; have X3 := Lib.hid (show Ext W0 W3 by rw [← hw]; exact X2.out.trans (Ext.alloc _ _)); clear hw X2; rw [HZ.out]; refine Hid.out ?_)
  refine Lib.hid ?_
  have BR := Lib.hid (K1.out.ext X3.out)
  have B0 := Lib.hid (K0.out.ext X3.out)
  clear K0 K1
  obtain ⟨b, o, rfl, hb, hc⟩ := row_at (HA.out.ext (E0.out.trans X3.out)) HX0.out
  have p3 := hc 3 _ rfl
  simp only [Nat.zero_mul, Nat.add_zero] at p3
  have y0 : W3.cell? ⟨w.heap.size, 0, none⟩ = some (.slice (some ⟨b, o, none⟩) n ca) := B0.out.cell 0
  clear hc hb
  have HCV := Lib.hid (fun W => curvesOf_any (A := some ⟨b, o, none⟩) (n := n) (ca := ca) W)
  go_wp2_with (go_at_call 84; refine (HCV.out _).mono ?_; rintro e W4 ⟨tb, rfl, hbt, hx⟩; have BT := Lib.hid hbt; have X4 := Lib.hid (X3.out.trans hx); have BR := Lib.hid (BR.out.ext hx); have B0 := Lib.hid (B0.out.ext hx); clear hx hbt p3 y0; refine Hid.out ?_)
  refine Lib.hid ?_
  have y0 : W4.cell? ⟨w.heap.size, 0, none⟩ = some (.slice (some ⟨b, o, none⟩) n ca) := B0.out.cell 0
  go_wp2_with (go_at_call 86; refine (HU.out tb _ (E0.out.trans X4.out) BT.out).mono ?_; rintro e W5 ⟨rfl, hx⟩; have X5 := Lib.hid (X4.out.trans (hx.trans (Ext.alloc W5 (.cells #[.int .i64 hi.1, .int .i64 hi.2] 32)))); have BR := Lib.hid ((BR.out.ext hx).alloc (.cells #[.int .i64 hi.1, .int .i64 hi.2] 32)); have B0 := Lib.hid ((B0.out.ext hx).alloc (.cells #[.int .i64 hi.1, .int .i64 hi.2] 32)); have BT := Lib.hid ((BT.out.ext hx).alloc (.cells #[.int .i64 hi.1, .int .i64 hi.2] 32)); have BH := Lib.hid (Blk.new W5 32 #[.int .i64 hi.1, .int .i64 hi.2]); clear hx y0; refine Hid.out ?_)
  refine Lib.hid ?_
  have y0 : (W5.alloc (.cells #[.int .i64 hi.1, .int .i64 hi.2] 32)).cell? ⟨w.heap.size, 0, none⟩ = some (.slice (some ⟨b, o, none⟩) n ca) := B0.out.cell 0
  go_wp2_with (go_at_call 86; refine (HL.out tb _ (E0.out.trans X5.out) BT.out).mono ?_; rintro e W6 ⟨rfl, hx⟩; have X6 := Lib.hid (X5.out.trans (hx.trans (Ext.alloc W6 (.cells #[.int .i64 lo.1, .int .i64 lo.2] 32)))); have BR := Lib.hid ((BR.out.ext hx).alloc (.cells #[.int .i64 lo.1, .int .i64 lo.2] 32)); have BH := Lib.hid ((BH.out.ext hx).alloc (.cells #[.int .i64 lo.1, .int .i64 lo.2] 32)); clear hx y0; refine Hid.out ?_)
  refine Lib.hid ?_
  have h0 : (W6.alloc (.cells #[.int .i64 lo.1, .int .i64 lo.2] 32)).cell? ⟨W5.heap.size, 0, none⟩ = some (.int .i64 hi.1) := BH.out.cell 0
  have h1 : (W6.alloc (.cells #[.int .i64 lo.1, .int .i64 lo.2] 32)).cell? ⟨W5.heap.size, 1, none⟩ = some (.int .i64 hi.2) := BH.out.cell 1
  have f0 := BR.out.free 0
  have c0 : (W6.alloc (.cells #[.int .i64 lo.1, .int .i64 lo.2] 32)).cell? ⟨w.heap.size + 1, 0, none⟩ = some (.int .i64 0) := BR.out.cell 0
  have f1 := BR.out.free 1
  have c1 : (W6.alloc (.cells #[.int .i64 lo.1, .int .i64 lo.2] 32)).cell? ⟨w.heap.size + 1, 1, none⟩ = some (.int .i64 0) := BR.out.cell 1
  have f2 := BR.out.free 2
  have c2 : (W6.alloc (.cells #[.int .i64 lo.1, .int .i64 lo.2] 32)).cell? ⟨w.heap.size + 1, 2, none⟩ = some (.int .i64 0) := BR.out.cell 2
  have f3 := BR.out.free 3
  have c3 : (W6.alloc (.cells #[.int .i64 lo.1, .int .i64 lo.2] 32)).cell? ⟨w.heap.size + 1, 3, none⟩ = some (.int .i64 0) := BR.out.cell 3
  clear BR B0 BT BH
  go_wp2
  exact bodyPost_ret (v := .tuple #[.agg #[.int .i64 lo.1, .int .i64 lo.2, .int .i64 hi.1, .int .i64 hi.2], .int .i64 0]) (by simp [results, Try.f18, go_sem, c0, c1, c2, c3]) rfl ⟨rfl, (Ext.set (Ext.set (Ext.set (Ext.set (E0.out.trans X6.out) (by dsimp only; omega) _) (by dsimp only; omega) _) (by dsimp only; omega) _) (by dsimp only; omega) _)⟩

end Go.Proofs.Ytmddnpagfgilcaa
namespace Go.RegInv

variable {P : Program} {Le : World → World → Prop} {F : World → Prop} {Ψ : Tmp → Value → World → Prop}
section
variable {n : Nat} {ops : Array Oper}

/-- What is asked of the operations: of a guarded one only that its slot may be empty. -/
def AsksN (P : Program) (Le : World → World → Prop) (F : World → Prop) (ds : List (Option Tmp)) (φs : List (Value → World → Prop)) (a0 : Act) : List Oper → List (Value → World → Prop) → List (List Tmp) → Prop
  | o :: l, φ :: rest, t :: ts => (match o.guard with | none => ∀ (ρ : Operand → Value) (W : World), Std ρ → F W → slotsAt ds φs a0 ρ W t → RelUpon P Le φ W ((execOp ρ o).run P W) | some _ => ∀ W, φ undef W) ∧ AsksN P Le F ds φs a0 l rest ts
  | [], _, _ => True
  | _, _, _ => False
theorem asksN_at {ds : List (Option Tmp)} {φs : List (Value → World → Prop)} {a0 : Act} : ∀ {l : List Oper} {rest : List (Value → World → Prop)} {ts : List (List Tmp)}, AsksN P Le F ds φs a0 l rest ts → ∀ {i : Nat} {o : Oper}, l[i]? = some o →
    ∃ φ t, rest[i]? = some φ ∧ ts[i]? = some t ∧ (o.guard = none → ∀ (ρ : Operand → Value) (W : World), Std ρ → F W → slotsAt ds φs a0 ρ W t → RelUpon P Le φ W ((execOp ρ o).run P W)) ∧ (o.guard.isSome = true → ∀ W, φ undef W)
  | o' :: _, φ :: _, t :: _, h, 0, o, hi => by
    obtain rfl : o' = o := by simpa using hi
    refine ⟨φ, t, rfl, rfl, fun hg => ?_, fun hg => ?_⟩
    · have := h.1
      rw [hg] at this
      exact this
    · have := h.1
      obtain ⟨p, hp⟩ := Option.isSome_iff_exists.1 hg
      rw [hp] at this
      exact this
  | _ :: _, _ :: _, _ :: _, h, i + 1, o, hi => by
    obtain ⟨φ, t, h1, h2, h3⟩ := asksN_at h.2 (i := i) (o := o) (by simpa using hi)
    exact ⟨φ, t, by simpa using h1, by simpa using h2, h3⟩
  | [], _, _, _, _, _, hi => by simp at hi
  | _ :: _, [], _, h, _, _, _ => h.elim
  | _ :: _, _ :: _, [], h, _, _, _ => h.elim

/-- **EVERY ORDER AT ONCE, each guard known tO refuse.** -/
theorem wp_region_eachN {id : Nat} {Q : Exit → Act → World → Prop} {a : Act} {w : World} {l : List Oper} (gs : List (Tmp × Bool)) (ds : List (Option Tmp)) (ts : List (List Tmp)) (φs : List (Value → World → Prop))
    (hm : P.follows .mixedOrders = true) (hB : depsB a.tmps.size l.toArray = true) (hg : guardsAt a.tmps.size l = some gs) (hds : l.map (·.dst) = ds) (hts : l.map (·.looksAt l.toArray) = ts)
    (Le : World → World → Prop) (F : World → Prop)
    (hrefl : ∀ W, F W → Le W W) (hF : ∀ W W', F W → Le W W' → F W') (hφ : Keeps Le F φs)
    (hG : ∀ p ∈ gs, ∃ φ, look ds φs p.1 = some φ ∧ ∀ v W, φ v W → v = .bool (!p.2))
    (h0 : F w.drew) (hO : AsksN P Le F ds φs a l φs ts)
    (hend : ∀ (f : Tmp → Value) (W : World), F W → Ends f W ds φs → Q .normal (fin a (ds.filterMap (fun d => d)) f) W) : (Code.region id l.toArray true).wp P Q a w := by
  have hdsts : dsts l.toArray = ds.filterMap (fun d => d) := by rw [← hds]; unfold dsts; rw [List.filterMap_map]; rfl
  have hat : ∀ {i : Nat} {o : Oper} {t : Tmp} {φ : Value → World → Prop}, l[i]? = some o → o.dst = some t → φs[i]? = some φ → look ds φs t = some φ := by
    intro i o t φ hi hd hp
    refine look_at (i := i) (by rw [← hds, List.getElem?_map, hi]; simp [hd]) hp fun j hj => ?_
    rw [← hds, List.getElem?_map] at hj
    cases hlj : l[j]? with
    | none => rw [hlj] at hj; cases hj
    | some oj =>
      rw [hlj] at hj
      exact ((depsB_at hB (i := i) (o := o) (by simpa using hi)).1 t hd).2 j oj (by simpa using hlj) (by simpa using hj)
  refine wp_region_inv (Ψ := fun t => (look ds φs t).getD (fun _ _ => True)) (ds.filterMap (fun d => d)) ts hm hB hdsts hts Le F hrefl hF ?_ h0 ?_ ?_
  · intro t v W W' h1 h2 h3
    cases hl : look ds φs t with
    | none => simp
    | some φ =>
      simp only [hl, Option.getD_some] at h3 ⊢
      exact look_keeps hφ hl v W W' h1 h2 h3
  · refine obls_of fun i o hi => ?_
    obtain ⟨φ, t, h1, h2, h3, hU⟩ := asksN_at hO hi
    have ht : ts.getD i [] = t := by simp [h2]
    rw [ht]
    intro A W hF' hs
    have hE : ∀ d, o.dst = some d → (dstPost (fun t => (look ds φs t).getD (fun _ _ => True)) o = φ) := by
      intro d hd
      funext v W
      simp [dstPost, hd, hat hi hd h1]
    cases hgo : o.guard with
    | some p =>
      refine ⟨fun hw => ?_, fun _ => ?_⟩
      · exfalso
        obtain ⟨j, want⟩ := p
        obtain ⟨t', h6, h7, h8⟩ := guardsAt_at hg hi hgo
        obtain ⟨φ', h9, h10⟩ := hG _ h8
        have hmem : t' ∈ t := by
          have h11 : o.looksAt l.toArray = t := by
            rw [← hts, List.getElem?_map, hi] at h2
            simpa using h2
          rw [← h11]
          unfold Oper.looksAt
          rw [hgo]
          simp [h6]
        have h11 := slots_mem hs t' hmem
        have h12 : t' ∈ ds.filterMap (fun d => d) := by
          rw [← hds, List.filterMap_map]
          cases hlj : l[j]? with
          | none => rw [hlj] at h6; cases h6
          | some oj =>
            rw [hlj] at h6
            exact List.mem_filterMap.2 ⟨oj, List.mem_of_getElem? hlj, by simpa using h6⟩
        unfold slot at h11
        rw [if_pos (by simpa using h12)] at h11
        simp only [h9, Option.getD_some] at h11
        have h13 := h10 _ _ h11
        dsimp only at h13
        have h14 : A.tmps[t']? = some (.bool (!want)) := by
          simp only [Act.eval] at h13
          cases hq : A.tmps[t']? with
          | none =>
            exfalso
            have : A.tmps.size ≤ t' := by simpa using hq
            simp [Array.getD, Nat.not_lt.2 this, undef] at h13
          | some u =>
            have hlt : t' < A.tmps.size := (Array.getElem?_eq_some_iff.1 hq).1
            have : A.tmps[t'] = u := (Array.getElem?_eq_some_iff.1 hq).2
            simp [Array.getD, hlt, this] at h13
            rw [h13]
        have h15 : yielded l.toArray A.tmps j = some (!want) := by
          unfold yielded
          have : (l.toArray[j]?).bind (·.dst) = some t' := by simpa using h6
          rw [this]
          simp [h14]
        simp [Region.wanted, hgo, h15] at hw
      · cases hd : o.dst with
        | none => simp [dstPost, hd]
        | some d => rw [hE d hd]; exact hU (by simp [hgo]) W
    | none =>
    refine ⟨fun _ => ?_, fun hw => by simp [Region.wanted, hgo] at hw⟩
    have h4 := h3 hgo A.eval W (Std.eval A) hF' (slotsAt_of fun u hu => by
      have h5 := slots_mem hs u hu
      unfold slot at h5
      unfold slotAt
      split at h5
      · rename_i hc
        cases hl : look ds φs u with
        | some φ' => simpa [hl] using h5
        | none =>
          exfalso
          have hmem : u ∈ dsts l.toArray := by rw [hdsts]; simpa using hc
          obtain ⟨j, oj, hj, hdj⟩ := mem_dsts.1 hmem
          obtain ⟨φj, _, hj1, _, _⟩ := asksN_at hO (i := j) (o := oj) (by simpa using hj)
          rw [hat (by simpa using hj) hdj hj1] at hl
          cases hl
      · rename_i hc
        cases hl : look ds φs u with
        | none => exact h5
        | some φ' =>
          exfalso
          refine hc ?_
          have : u ∈ ds.filterMap (fun d => d) := by
            clear hc h5
            have aux : ∀ {ds : List (Option Tmp)} {φs : List (Value → World → Prop)}, look ds φs u = some φ' → some u ∈ ds := by
              intro ds
              induction ds with
              | nil => intro φs h; cases φs <;> cases h
              | cons d ds ih =>
                intro φs h
                cases φs with
                | nil => cases d <;> cases h
                | cons φ φs =>
                  cases d with
                  | none => exact List.mem_cons_of_mem _ (ih h)
                  | some d =>
                    unfold look at h
                    cases hb : Nat.beq d u
                    · rw [hb] at h; exact List.mem_cons_of_mem _ (ih h)
                    · have e : d = u := Nat.eq_of_beq_eq_true hb
                      rw [e]; exact List.mem_cons_self
            exact List.mem_filterMap.2 ⟨some u, aux hl, rfl⟩
          simpa using this)
    cases hd : o.dst with
    | none =>
      have e : ∀ v W, dstPost (fun t => (look ds φs t).getD (fun _ _ => True)) o v W := fun v W => by simp [dstPost, hd]
      generalize (execOp A.eval o).run P W = r at h4
      cases r with
      | ok nx W' =>
        cases nx <;> simp only [RelUpon] at h4 ⊢
        case value v => exact ⟨h4.1, e _ _⟩
        case skip => exact ⟨h4.1, e _ _⟩
        case enter f args => exact h4.mono fun _ _ ⟨v, h5, h6, _⟩ => ⟨v, h5, h6, e _ _⟩
      | halt x W' => simp only [RelUpon] at h4
    | some d =>
      have e : dstPost (fun t => (look ds φs t).getD (fun _ _ => True)) o = φ := by
        funext v W
        simp [dstPost, hd, hat hi hd h1]
      rw [e]; exact h4
  · intro f W hFW hall
    refine hend f W hFW (ends_of fun i t φ h1 h2 => ?_)
    have h3 := hall t (List.mem_filterMap.2 ⟨some t, List.mem_of_getElem? h1, rfl⟩)
    rw [← hds, List.getElem?_map] at h1
    cases hli : l[i]? with
    | none => rw [hli] at h1; cases h1
    | some o =>
      rw [hli] at h1
      rw [hat hli (by simpa using h1) h2] at h3
      exact h3
end
end Go.RegInv
