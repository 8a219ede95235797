/- Samples: AcceptanceOf. -/
import Derived.Test.YtmddnpagfgilcaaA7

namespace Go.Proofs.Ytmddnpagfgilcaa
open Go.RowKit Go.Shelf Go.Mem Go.RegInv
attribute [local go_sem] RelUpon_value RelUpon_skip RelUpon_enter BigFrame.eval_const BigFrame.eval_global BigFrame.eval_func


def accE (L s a b : Int) : Int := firstE [planE L s a, badE L b]
theorem acc_ok {L s a b : Int} (e : accE L s a b = 0) : 1 ≤ L ∧ L ≤ 30 ∧ 1 ≤ s ∧ s ≤ L ∧ 0 ≤ a ∧ a ≤ s ∧ 0 ≤ b ∧ b ≤ L := by
  obtain ⟨h1, h2, h3, h4, h5, h6⟩ := plan_ok (firstE_zero e (planE L s a) (by simp))
  obtain ⟨h7, h8⟩ := bad_ok (firstE_zero e (badE L b) (by simp))
  exact ⟨h1, h2, h3, h4, h5, h6, h7, h8⟩
set_option maxRecDepth 100000 in
set_option maxHeartbeats 1000000 in
theorem accOf_bad (L s a b : Int) (hz : accE L s a b ≠ 0) (w : World) : Calls Try.prog 59 #[.agg #[.int .i64 L, .int .i64 s, .int .i64 a], .int .i64 b] w fun e w' => e = .returned (.tuple #[.agg #[.int .i64 0, .int .i64 0], .int .i64 (accE L s a b)]) ∧ Ext w w' := by
  have HZ := Lib.hid (show firstE [planE L s a, badE L b] = accE L s a b from rfl)
  have hz2 : (accE L s a b != 0) = true := by simp [hz]
  generalize accE L s a b = z at *
  obtain ⟨W0, hW0⟩ : ∃ W0, W0 = (w.alloc (.cells #[.int .i64 L, .int .i64 s, .int .i64 a] 104)).alloc (.cells #[.int .i64 0, .int .i64 0] 32) := ⟨_, rfl⟩
  have k0 : Blk W0 w.heap.size 104 #[.int .i64 L, .int .i64 s, .int .i64 a] := by rw [hW0]; exact (Blk.new _ _ _).alloc _
  have k1 : Blk W0 (w.heap.size + 1) 32 #[.int .i64 0, .int .i64 0] := by rw [hW0]; exact Blk.newAt _ _ _ (by simp)
  have E0 := Lib.hid (show Ext w W0 by rw [hW0]; exact (Ext.alloc _ _).trans (Ext.alloc _ _))
  have y0 : W0.cell? ⟨w.heap.size, 0, none⟩ = some (.int .i64 (L)) := k0.cell 0
  have y1 : W0.cell? ⟨w.heap.size, 1, none⟩ = some (.int .i64 (s)) := k0.cell 1
  have y2 : W0.cell? ⟨w.heap.size, 2, none⟩ = some (.int .i64 (a)) := k0.cell 2
  have K0 := Lib.hid k0
  have K1 := Lib.hid k1
  clear k0 k1
  go_enter Try.func59, Try.ntmps59
  go_wp2
  rw [← hW0]
  clear hW0
  go_wp2
  refine wp_region_each [some 7, some 8, some 9, some 10, some 11, some 12, some 13, some 14, some 6] [[2], [7], [2], [9], [1], [10, 11], [8, 12], [13], [14]]
    [Is (.agg #[.int .i64 (L), .int .i64 (s), .int .i64 (a)]), Is (.int .i64 (planE L s a)), Is (.pointer (some ⟨w.heap.size, 0, none⟩)), Is (.int .i64 (L)), Is (.int .i64 (b)), Is (.int .i64 (badE (L) (b))), Ints [planE L s a, badE (L) (b)], Is (.int .i64 (firstE [planE L s a, badE (L) (b)])), Is (.int .i64 (firstE [planE L s a, badE (L) (b)]))]
    (by kernel_rfl) (by kernel_rfl) (by kernel_rfl) (by kernel_rfl) (by kernel_rfl) Ext (fun W => Ext W0 W)
    (fun W _ => Ext.refl W) (fun W W' h k => h.trans k) ?_ (Ext.drew _) ?_ ?_
  · repeat (refine ⟨fun _ _ _ _ k h => (by first | exact h | exact (IntsAt.ext h k)), ?_⟩)
    exact trivial
  · refine ⟨?_, ?_, ?_, ?_, ?_, ?_, ?_, ?_, ?_, trivial⟩
    all_goals intro ρ W ⟨kc, kg, kf⟩ hF hs
    · obtain ⟨h0, -⟩ := hs
      replace h0 : ρ (.tmp 2) = .pointer (some ⟨w.heap.size, 0, none⟩) := h0
      have hc0 : W.cell? ⟨w.heap.size, 0, none⟩ = some (.int .i64 (L)) := hF.cell (by assumption)
      have hc1 : W.cell? ⟨w.heap.size, 1, none⟩ = some (.int .i64 (s)) := hF.cell (by assumption)
      have hc2 : W.cell? ⟨w.heap.size, 2, none⟩ = some (.int .i64 (a)) := hF.cell (by assumption)
      go_simp
      exact ⟨Ext.refl _, rfl⟩
    · obtain ⟨h0, -⟩ := hs
      replace h0 : ρ (.tmp 7) = .agg #[.int .i64 (L), .int .i64 (s), .int .i64 (a)] := h0
      go_simp
      refine (planError_any _ _ _ _).mono ?_; rintro e w' ⟨rfl, hx⟩; exact ⟨_, rfl, hx, rfl⟩
    · obtain ⟨h0, -⟩ := hs
      replace h0 : ρ (.tmp 2) = .pointer (some ⟨w.heap.size, 0, none⟩) := h0
      go_simp
      exact ⟨Ext.refl _, rfl⟩
    · obtain ⟨h0, -⟩ := hs
      replace h0 : ρ (.tmp 9) = .pointer (some ⟨w.heap.size, 0, none⟩) := h0
      have hc0 : W.cell? ⟨w.heap.size, 0, none⟩ = some (.int .i64 (L)) := hF.cell (by assumption)
      go_simp
      exact ⟨Ext.refl _, rfl⟩
    · obtain ⟨h0, -⟩ := hs
      replace h0 : ρ (.tmp 1) = .int .i64 (b) := h0
      go_simp
      exact ⟨Ext.refl _, rfl⟩
    · obtain ⟨h0, h1, -⟩ := hs
      replace h0 : ρ (.tmp 10) = .int .i64 (L) := h0
      replace h1 : ρ (.tmp 11) = .int .i64 (b) := h1
      go_simp
      refine (badError_any _ _ _).mono ?_; rintro e w' ⟨rfl, hx⟩; exact ⟨_, rfl, hx, rfl⟩
    · obtain ⟨h0, h1, -⟩ := hs
      replace h0 : ρ (.tmp 8) = .int .i64 (planE L s a) := h0
      replace h1 : ρ (.tmp 12) = .int .i64 (badE (L) (b)) := h1
      go_simp
      exact ⟨Ext.alloc _ _, ints_new _ [planE L s a, badE (L) (b)] _ (by simp)⟩
    · obtain ⟨h0, -⟩ := hs
      replace h0 : (Ints [planE L s a, badE (L) (b)]) (ρ (.tmp 13)) W := h0
      go_simp
      refine (firstOf_any _ _ _ h0).mono ?_; rintro e w' ⟨rfl, rfl⟩; exact ⟨_, rfl, Ext.refl _, rfl⟩
    · obtain ⟨h0, -⟩ := hs
      replace h0 : ρ (.tmp 14) = .int .i64 (firstE [planE L s a, badE (L) (b)]) := h0
      go_simp
      exact ⟨Ext.refl _, rfl⟩
  · intro fv W hF hs
    obtain ⟨-, -, -, -, -, -, -, -, h6, -⟩ := hs
    replace h6 : fv 6 = .int .i64 (firstE [planE L s a, badE (L) (b)]) := h6
    simp only [fin, List.filterMap]
    go_simp
    rw [HZ.out]
    clear h6
    have B0 := Lib.hid (K0.out.ext hF)
    have B1 := Lib.hid (K1.out.ext hF)
    have X1 := Lib.hid (E0.out.trans hF)
    clear hF y0 y1 y2 K0 K1 E0

    have f0 := B1.out.free 0
    have f1 := B1.out.free 1
    have c0 : W.cell? ⟨w.heap.size + 1, 0, none⟩ = some (.int .i64 0) := B1.out.cell 0
    have c1 : W.cell? ⟨w.heap.size + 1, 1, none⟩ = some (.int .i64 0) := B1.out.cell 1
    clear B0 B1 HZ hz
    go_wp2
    exact bodyPost_ret (v := .tuple #[.agg #[.int .i64 0, .int .i64 0], .int .i64 z]) (by simp [results, Try.f59, go_sem, c0, c1]) rfl ⟨rfl, Ext.set (Ext.set X1.out (by dsimp only; omega) _) (by dsimp only; omega) _⟩
set_option maxRecDepth 100000 in
set_option maxHeartbeats 1000000 in
theorem accOf_ok {L s a b : Int} {x y : Int} (hz : accE L s a b = 0) (hC : ∀ W, Calls Try.prog 108 #[.agg #[.int .i64 L, .int .i64 s, .int .i64 a], .int .i64 b] W fun e w' => e = .returned (.agg #[.int .i64 x, .int .i64 y]) ∧ Ext W w') (w : World) : Calls Try.prog 59 #[.agg #[.int .i64 L, .int .i64 s, .int .i64 a], .int .i64 b] w fun e w' => e = .returned (.tuple #[.agg #[.int .i64 x, .int .i64 y], .int .i64 0]) ∧ Ext w w' := by
  have HZ := Lib.hid (show firstE [planE L s a, badE L b] = 0 from hz)
  have HC := Lib.hid hC
  clear hz hC
  obtain ⟨W0, hW0⟩ : ∃ W0, W0 = (w.alloc (.cells #[.int .i64 L, .int .i64 s, .int .i64 a] 104)).alloc (.cells #[.int .i64 0, .int .i64 0] 32) := ⟨_, rfl⟩
  have k0 : Blk W0 w.heap.size 104 #[.int .i64 L, .int .i64 s, .int .i64 a] := by rw [hW0]; exact (Blk.new _ _ _).alloc _
  have k1 : Blk W0 (w.heap.size + 1) 32 #[.int .i64 0, .int .i64 0] := by rw [hW0]; exact Blk.newAt _ _ _ (by simp)
  have E0 := Lib.hid (show Ext w W0 by rw [hW0]; exact (Ext.alloc _ _).trans (Ext.alloc _ _))
  have y0 : W0.cell? ⟨w.heap.size, 0, none⟩ = some (.int .i64 (L)) := k0.cell 0
  have y1 : W0.cell? ⟨w.heap.size, 1, none⟩ = some (.int .i64 (s)) := k0.cell 1
  have y2 : W0.cell? ⟨w.heap.size, 2, none⟩ = some (.int .i64 (a)) := k0.cell 2
  have K0 := Lib.hid k0
  have K1 := Lib.hid k1
  clear k0 k1
  go_enter Try.func59, Try.ntmps59
  go_wp2
  rw [← hW0]
  clear hW0
  go_wp2
  refine wp_region_each [some 7, some 8, some 9, some 10, some 11, some 12, some 13, some 14, some 6] [[2], [7], [2], [9], [1], [10, 11], [8, 12], [13], [14]]
    [Is (.agg #[.int .i64 (L), .int .i64 (s), .int .i64 (a)]), Is (.int .i64 (planE L s a)), Is (.pointer (some ⟨w.heap.size, 0, none⟩)), Is (.int .i64 (L)), Is (.int .i64 (b)), Is (.int .i64 (badE (L) (b))), Ints [planE L s a, badE (L) (b)], Is (.int .i64 (firstE [planE L s a, badE (L) (b)])), Is (.int .i64 (firstE [planE L s a, badE (L) (b)]))]
    (by kernel_rfl) (by kernel_rfl) (by kernel_rfl) (by kernel_rfl) (by kernel_rfl) Ext (fun W => Ext W0 W)
    (fun W _ => Ext.refl W) (fun W W' h k => h.trans k) ?_ (Ext.drew _) ?_ ?_
  · repeat (refine ⟨fun _ _ _ _ k h => (by first | exact h | exact (IntsAt.ext h k)), ?_⟩)
    exact trivial
  · refine ⟨?_, ?_, ?_, ?_, ?_, ?_, ?_, ?_, ?_, trivial⟩
    all_goals intro ρ W ⟨kc, kg, kf⟩ hF hs
    · obtain ⟨h0, -⟩ := hs
      replace h0 : ρ (.tmp 2) = .pointer (some ⟨w.heap.size, 0, none⟩) := h0
      have hc0 : W.cell? ⟨w.heap.size, 0, none⟩ = some (.int .i64 (L)) := hF.cell (by assumption)
      have hc1 : W.cell? ⟨w.heap.size, 1, none⟩ = some (.int .i64 (s)) := hF.cell (by assumption)
      have hc2 : W.cell? ⟨w.heap.size, 2, none⟩ = some (.int .i64 (a)) := hF.cell (by assumption)
      go_simp
      exact ⟨Ext.refl _, rfl⟩
    · obtain ⟨h0, -⟩ := hs
      replace h0 : ρ (.tmp 7) = .agg #[.int .i64 (L), .int .i64 (s), .int .i64 (a)] := h0
      go_simp
      refine (planError_any _ _ _ _).mono ?_; rintro e w' ⟨rfl, hx⟩; exact ⟨_, rfl, hx, rfl⟩
    · obtain ⟨h0, -⟩ := hs
      replace h0 : ρ (.tmp 2) = .pointer (some ⟨w.heap.size, 0, none⟩) := h0
      go_simp
      exact ⟨Ext.refl _, rfl⟩
    · obtain ⟨h0, -⟩ := hs
      replace h0 : ρ (.tmp 9) = .pointer (some ⟨w.heap.size, 0, none⟩) := h0
      have hc0 : W.cell? ⟨w.heap.size, 0, none⟩ = some (.int .i64 (L)) := hF.cell (by assumption)
      go_simp
      exact ⟨Ext.refl _, rfl⟩
    · obtain ⟨h0, -⟩ := hs
      replace h0 : ρ (.tmp 1) = .int .i64 (b) := h0
      go_simp
      exact ⟨Ext.refl _, rfl⟩
    · obtain ⟨h0, h1, -⟩ := hs
      replace h0 : ρ (.tmp 10) = .int .i64 (L) := h0
      replace h1 : ρ (.tmp 11) = .int .i64 (b) := h1
      go_simp
      refine (badError_any _ _ _).mono ?_; rintro e w' ⟨rfl, hx⟩; exact ⟨_, rfl, hx, rfl⟩
    · obtain ⟨h0, h1, -⟩ := hs
      replace h0 : ρ (.tmp 8) = .int .i64 (planE L s a) := h0
      replace h1 : ρ (.tmp 12) = .int .i64 (badE (L) (b)) := h1
      go_simp
      exact ⟨Ext.alloc _ _, ints_new _ [planE L s a, badE (L) (b)] _ (by simp)⟩
    · obtain ⟨h0, -⟩ := hs
      replace h0 : (Ints [planE L s a, badE (L) (b)]) (ρ (.tmp 13)) W := h0
      go_simp
      refine (firstOf_any _ _ _ h0).mono ?_; rintro e w' ⟨rfl, rfl⟩; exact ⟨_, rfl, Ext.refl _, rfl⟩
    · obtain ⟨h0, -⟩ := hs
      replace h0 : ρ (.tmp 14) = .int .i64 (firstE [planE L s a, badE (L) (b)]) := h0
      go_simp
      exact ⟨Ext.refl _, rfl⟩
  · intro fv W hF hs
    obtain ⟨-, -, -, -, -, -, -, -, h6, -⟩ := hs
    replace h6 : fv 6 = .int .i64 (firstE [planE L s a, badE (L) (b)]) := h6
    simp only [fin, List.filterMap]
    go_simp
    rw [HZ.out]
    clear h6
    have B0 := Lib.hid (K0.out.ext hF)
    have B1 := Lib.hid (K1.out.ext hF)
    have X1 := Lib.hid (E0.out.trans hF)
    clear hF y0 y1 y2 K0 K1 E0

    have p0 : W.cell? ⟨w.heap.size, 0, none⟩ = some (.int .i64 L) := B0.out.cell 0
    have p1 : W.cell? ⟨w.heap.size, 1, none⟩ = some (.int .i64 s) := B0.out.cell 1
    have p2 : W.cell? ⟨w.heap.size, 2, none⟩ = some (.int .i64 a) := B0.out.cell 2
    clear HZ B0
    go_wp2_with (go_at_call 108; refine (HC.out _).mono ?_; rintro e W2 ⟨rfl, hx⟩; have B2 := Lib.hid (B1.out.ext hx); have X2 := Lib.hid (X1.out.trans hx); clear hx p0 p1 p2; refine Hid.out ?_)
    refine Lib.hid ?_
    have f0 := B2.out.free 0
    have f1 := B2.out.free 1
    have c0 : W2.cell? ⟨w.heap.size + 1, 0, none⟩ = some (.int .i64 0) := B2.out.cell 0
    have c1 : W2.cell? ⟨w.heap.size + 1, 1, none⟩ = some (.int .i64 0) := B2.out.cell 1
    clear B1 B2 HC
    go_wp2
    exact bodyPost_ret (v := .tuple #[.agg #[.int .i64 x, .int .i64 y], .int .i64 0]) (by simp [results, Try.f59, go_sem, c0, c1]) rfl ⟨rfl, Ext.set (Ext.set X2.out (by dsimp only; omega) _) (by dsimp only; omega) _⟩
/-- The answer of AcceptanceOf. -/
def accV (L s a b : Int) : Int × Int := if accE L s a b = 0 then accF L.toNat s.toNat a.toNat b.toNat else (0, 0)
theorem accOf_any (L s a b : Int) (w : World) : Calls Try.prog 59 #[.agg #[.int .i64 L, .int .i64 s, .int .i64 a], .int .i64 b] w fun e w' => e = .returned (.tuple #[.agg #[.int .i64 (accV L s a b).1, .int .i64 (accV L s a b).2], .int .i64 (accE L s a b)]) ∧ Ext w w' := by
  unfold accV
  by_cases hz : accE L s a b = 0
  · rw [if_pos hz]
    obtain ⟨h1, h2, h3, h4, h5, h6, h7, h8⟩ := acc_ok hz
    have := accOf_ok (x := (accF L.toNat s.toNat a.toNat b.toNat).1) (y := (accF L.toNat s.toNat a.toNat b.toNat).2) hz (fun W => by
      have := acceptance_any L.toNat s.toNat a.toNat b.toNat (by omega) (by omega) (by omega) (by omega) (by omega) W
      rw [Int.toNat_of_nonneg (by omega), Int.toNat_of_nonneg (by omega), Int.toNat_of_nonneg (by omega), Int.toNat_of_nonneg (by omega)] at this
      exact this) w
    rw [hz]
    exact this
  · rw [if_neg hz]
    exact accOf_bad L s a b hz w

end Go.Proofs.Ytmddnpagfgilcaa
