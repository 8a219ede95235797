/- The reference of plans and acceptances. -/
import Derived.Test.YtmddnpagfgilcaaE1
import Derived.Lib.MinMax

namespace Go.Proofs.Ytmddnpagfgilcaa
open Go.RowKit Go.Shelf Go.Mem Go.RegInv
attribute [local go_sem] RelUpon_value RelUpon_skip RelUpon_enter BigFrame.eval_const BigFrame.eval_global BigFrame.eval_func


theorem badE_eq (L b : Int) : badE L b = if withinB b 0 L = true then 0 else 2 := rangeE_one 0 L b
theorem refBadErr_any (b L : Int) (w : World) : Calls Try.prog 62 #[.int .i64 b, .int .i64 L] w fun e w' => e = .returned (.int .i64 (badE L b)) ∧ w = w' := by
  have HE := Lib.hid (badE_eq L b)
  have H1 := Lib.hid (fun W => within_any b 0 L W)
  generalize badE L b = z at *
  generalize withinB b 0 L = b1 at *
  cases b1
  all_goals
    go_enter Try.func62, Try.ntmps62
    go_wp2_with (go_at_call 20; (with_reducible refine (H1.out _).mono ?_); rintro e w' ⟨rfl, rfl⟩)
    go_ret
    exact ⟨ret_int (by rw [HE.out]; rfl), rfl⟩
theorem planE_eq (L s a : Int) : planE L s a = if withinB L 1 30 = true then (if withinB s 1 L = true then (if withinB a 0 s = true then 0 else 2) else 2) else 2 := by
  unfold planE lotE
  rw [rangeE_one, rangeE_one, rangeE_one]
  cases withinB L 1 30 <;> cases withinB s 1 L <;> cases withinB a 0 s <;> simp [firstE]
set_option maxRecDepth 100000 in
set_option maxHeartbeats 1000000 in
theorem refPlanErr_any (L s a : Int) (w : World) : Calls Try.prog 64 #[.agg #[.int .i64 L, .int .i64 s, .int .i64 a]] w fun e w' => e = .returned (.int .i64 (planE L s a)) ∧ Ext w w' := by
  have HE := Lib.hid (planE_eq L s a)
  have H1 := Lib.hid (fun W => within_any L 1 30 W)
  have H2 := Lib.hid (fun W => within_any s 1 L W)
  have H3 := Lib.hid (fun W => within_any a 0 s W)
  generalize planE L s a = z at *
  generalize withinB L 1 30 = b1 at *
  generalize withinB s 1 L = b2 at *
  generalize withinB a 0 s = b3 at *
  cases b1 with
  | false =>
    go_enter Try.func64, Try.ntmps64
    go_wp2_with (go_at_call 20; (with_reducible refine (H1.out _).mono ?_); rintro e w' ⟨rfl, rfl⟩)
    go_ret
    exact ⟨ret_int (by rw [HE.out]; rfl), Ext.alloc _ _⟩
  | true =>
    cases b2 with
    | false =>
      go_enter Try.func64, Try.ntmps64
      go_wp2_with (first
        | (go_at_call 20; (with_reducible refine (H1.out _).mono ?_); rintro e w' ⟨rfl, rfl⟩)
        | (go_at_call 20; (with_reducible refine (H2.out _).mono ?_); rintro e w' ⟨rfl, rfl⟩))
      go_ret
      exact ⟨ret_int (by rw [HE.out]; rfl), Ext.alloc _ _⟩
    | true =>
      cases b3
      all_goals
        go_enter Try.func64, Try.ntmps64
        go_wp2_with (first
          | (go_at_call 20; (with_reducible refine (H1.out _).mono ?_); rintro e w' ⟨rfl, rfl⟩)
          | (go_at_call 20; (with_reducible refine (H2.out _).mono ?_); rintro e w' ⟨rfl, rfl⟩)
          | (go_at_call 20; (with_reducible refine (H3.out _).mono ?_); rintro e w' ⟨rfl, rfl⟩))
        go_ret
        exact ⟨ret_int (by rw [HE.out]; rfl), Ext.alloc _ _⟩
set_option maxRecDepth 100000 in
set_option maxHeartbeats 1000000 in
theorem refAcceptance_any (L s a b : Nat) (hL : L ≤ 30) (hs : 1 ≤ s) (hs2 : s ≤ L) (ha : a ≤ s) (hb : b ≤ L) (w : World) : Calls Try.prog 67 #[.agg #[.int .i64 L, .int .i64 s, .int .i64 a], .int .i64 b] w fun e w' => e = .returned (.agg #[.int .i64 (accF L s a b).1, .int .i64 (accF L s a b).2]) ∧ Ext w w' := by
  have pL := pas_small s hL
  have pp := pas_pos L s hs2
  have HLO := Lib.hid (fun W => lowest_any (vs b (L - b) s (a + 1) : Nat) (pas L s : Nat) (by
    have := vs_le (b := b) (c := L - b) hs (show a + 1 ≤ s + 1 by omega)
    rw [show b + (L - b) = L by omega] at this
    unfold Big; omega) (by omega) (by unfold Big; omega) W)
  have HCH := Lib.hid (fun W => choose_any L s hL W)
  have HAC := Lib.hid (show accF L s a b = lowT (vs b (L - b) s (a + 1) : Nat) (pas L s : Nat) from rfl)
  generalize accF L s a b = ac at *
  have hq : ∃ q, q = w.heap.size := ⟨_, rfl⟩
  obtain ⟨W0, hW0⟩ : ∃ W0, W0 = (w.alloc (.cells #[.int .i64 L, .int .i64 s, .int .i64 a] 104)).alloc (.cells #[.int .i64 0, .int .i64 0] 32) := ⟨_, rfl⟩
  have k0 : Blk W0 w.heap.size 104 #[.int .i64 L, .int .i64 s, .int .i64 a] := by rw [hW0]; exact (Blk.new _ _ _).alloc _
  have k1 : Blk W0 (w.heap.size + 1) 32 #[.int .i64 0, .int .i64 0] := by rw [hW0]; exact Blk.newAt _ _ _ (by simp)
  have E0 := Lib.hid (show Ext w W0 by rw [hW0]; exact (Ext.alloc _ _).trans (Ext.alloc _ _))
  have y2 : W0.cell? ⟨w.heap.size, 2, none⟩ = some (.int .i64 (a : Int)) := k0.cell 2
  have K0 := Lib.hid k0
  have K1 := Lib.hid k1
  clear k0 k1 hq
  go_enter Try.func67, Try.ntmps67
  go_wp2
  rw [← hW0]
  clear hW0
  go_wp2
  go_loopw [5, 6] (fun u i wr => ∃ k : Nat, k ≤ a + 1 ∧ i = .int .i64 k ∧ u = .int .i64 (vs b (L - b) s k : Nat) ∧ Ext W0 wr) (fun _ i _ => a + 1 - (intOf i).toNat)
  case atStart => exact ⟨0, Nat.zero_le _, rfl, rfl, Ext.refl _⟩
  case round =>
    obtain ⟨k, hk, rfl, rfl, hx⟩ := hrel
    have X := Lib.hid hx
    clear hx y2
    by_cases hlt : k < a + 1
    · have HX := Lib.hid (fun W => choose_any b k (by omega) W)
      have HY := Lib.hid (fun W => show Calls Try.prog 110 #[.int .i64 ((L : Int) - (b : Int)), .int .i64 ((s : Int) - (k : Int))] W fun e w' => e = .returned (.int .i64 (pas (L - b) (s - k) : Nat)) ∧ Ext W w' from by
        have := choose_any (L - b) (s - k) (by omega) W
        rw [Int.natCast_sub (show b ≤ L by omega), Int.natCast_sub (show k ≤ s by omega)] at this
        exact this)
      have h1 := vs_prod_le (L := L) hb (show k ≤ s by omega)
      have h2 := vs_le (b := b) (c := L - b) hs (show k ≤ s + 1 by omega)
      rw [show b + (L - b) = L by omega] at h2
      have HV := Lib.hid (vs_in (b := b) (c := L - b) (s := s) (a := k) (by omega))
      have c0 : 0 ≤ ((pas b k : Nat) : Int) * ((pas (L - b) (s - k) : Nat) : Int) := Int.mul_nonneg (by omega) (by omega)
      have c1 : ((pas b k : Nat) : Int) * ((pas (L - b) (s - k) : Nat) : Int) ≤ 155117520 := by rw [← Int.natCast_mul]; omega
      have y0 : wr.cell? ⟨w.heap.size, 0, none⟩ = some (.int .i64 (L : Int)) := (K0.out.ext X.out).cell 0
      have y1 : wr.cell? ⟨w.heap.size, 1, none⟩ = some (.int .i64 (s : Int)) := (K0.out.ext X.out).cell 1
      have y2 : wr.cell? ⟨w.heap.size, 2, none⟩ = some (.int .i64 (a : Int)) := (K0.out.ext X.out).cell 2
      have hka2 : (k : Int) ≤ (a : Int) ∨ ¬ (k : Int) ≤ (a : Int) := by omega
      clear h1
      generalize pas b k = x at *
      generalize pas (L - b) (s - k) = y at *
      generalize vs b (L - b) s k = z at *
      generalize w.heap.size = q at *
      go_wp2
      refine wp_region_part 15 [some 13, some 14, some 15, some 16, some 17, some 18, some 19, some 20, some 21, some 22, some 23, some 24, some 25, some 26, some 27] [[5], [1], [6], [14, 15], [2], [17], [1], [18, 19], [2], [21], [6], [22, 23], [20, 24], [16, 25], [13, 26]]
        [Is (.int .i64 ((z : Int))), Is (.int .i64 ((b : Int))), Is (.int .i64 ((k : Int))), Is (.int .i64 ((x : Int))), Is (.pointer (some ⟨q, 0, none⟩)), Is (.int .i64 ((L : Int))), Is (.int .i64 ((b : Int))), Is (.int .i64 ((L : Int) - (b : Int))), Is (.pointer (some ⟨q, 1, none⟩)), Is (.int .i64 ((s : Int))), Is (.int .i64 ((k : Int))), Is (.int .i64 ((s : Int) - (k : Int))), Is (.int .i64 ((y : Int))), Is (.int .i64 ((x : Int) * (y : Int))), Is (.int .i64 ((z : Int) + (x : Int) * (y : Int)))]
        (by kernel_rfl) (by kernel_rfl) (by kernel_rfl) (by kernel_rfl) (by kernel_rfl) (by kernel_rfl) (by kernel_rfl) Ext (fun W => Ext wr W)
        (fun W _ => Ext.refl W) (fun W W' h k => h.trans k) ?_ (Ext.drew _) ?_ ?_
      · repeat (refine ⟨fun _ _ _ _ k h => (by first | exact h | exact (IntsAt.ext h k)), ?_⟩)
        exact trivial
      · refine ⟨?_, ?_, ?_, ?_, ?_, ?_, ?_, ?_, ?_, ?_, ?_, ?_, ?_, ?_, ?_, trivial⟩
        all_goals intro ρ W ⟨kc, kg, kf⟩ hF hs
        · obtain ⟨h0, -⟩ := hs
          replace h0 : ρ (.tmp 5) = .int .i64 ((z : Int)) := h0
          go_simp
          exact ⟨Ext.refl _, rfl⟩
        · obtain ⟨h0, -⟩ := hs
          replace h0 : ρ (.tmp 1) = .int .i64 ((b : Int)) := h0
          go_simp
          exact ⟨Ext.refl _, rfl⟩
        · obtain ⟨h0, -⟩ := hs
          replace h0 : ρ (.tmp 6) = .int .i64 ((k : Int)) := h0
          go_simp
          exact ⟨Ext.refl _, rfl⟩
        · obtain ⟨h0, h1, -⟩ := hs
          replace h0 : ρ (.tmp 14) = .int .i64 ((b : Int)) := h0
          replace h1 : ρ (.tmp 15) = .int .i64 ((k : Int)) := h1
          go_simp
          refine (HX.out _).mono ?_; rintro e w' ⟨rfl, hx⟩; exact ⟨_, rfl, hx, rfl⟩
        · obtain ⟨h0, -⟩ := hs
          replace h0 : ρ (.tmp 2) = .pointer (some ⟨q, 0, none⟩) := h0
          go_simp
          exact ⟨Ext.refl _, rfl⟩
        · obtain ⟨h0, -⟩ := hs
          replace h0 : ρ (.tmp 17) = .pointer (some ⟨q, 0, none⟩) := h0
          have hc0 : W.cell? ⟨q, 0, none⟩ = some (.int .i64 ((L : Int))) := hF.cell (by assumption)
          go_simp
          exact ⟨Ext.refl _, rfl⟩
        · obtain ⟨h0, -⟩ := hs
          replace h0 : ρ (.tmp 1) = .int .i64 ((b : Int)) := h0
          go_simp
          exact ⟨Ext.refl _, rfl⟩
        · obtain ⟨h0, h1, -⟩ := hs
          replace h0 : ρ (.tmp 18) = .int .i64 ((L : Int)) := h0
          replace h1 : ρ (.tmp 19) = .int .i64 ((b : Int)) := h1
          have hw : IntKind.i64.wrap ((L : Int) - (b : Int)) = (L : Int) - (b : Int) := wrap_id _ (by omega) (by omega)
          go_simp
          exact ⟨Ext.refl _, rfl⟩
        · obtain ⟨h0, -⟩ := hs
          replace h0 : ρ (.tmp 2) = .pointer (some ⟨q, 0, none⟩) := h0
          go_simp
          exact ⟨Ext.refl _, rfl⟩
        · obtain ⟨h0, -⟩ := hs
          replace h0 : ρ (.tmp 21) = .pointer (some ⟨q, 1, none⟩) := h0
          have hc0 : W.cell? ⟨q, 1, none⟩ = some (.int .i64 ((s : Int))) := hF.cell (by assumption)
          go_simp
          exact ⟨Ext.refl _, rfl⟩
        · obtain ⟨h0, -⟩ := hs
          replace h0 : ρ (.tmp 6) = .int .i64 ((k : Int)) := h0
          go_simp
          exact ⟨Ext.refl _, rfl⟩
        · obtain ⟨h0, h1, -⟩ := hs
          replace h0 : ρ (.tmp 22) = .int .i64 ((s : Int)) := h0
          replace h1 : ρ (.tmp 23) = .int .i64 ((k : Int)) := h1
          have hw : IntKind.i64.wrap ((s : Int) - (k : Int)) = (s : Int) - (k : Int) := wrap_id _ (by omega) (by omega)
          go_simp
          exact ⟨Ext.refl _, rfl⟩
        · obtain ⟨h0, h1, -⟩ := hs
          replace h0 : ρ (.tmp 20) = .int .i64 ((L : Int) - (b : Int)) := h0
          replace h1 : ρ (.tmp 24) = .int .i64 ((s : Int) - (k : Int)) := h1
          go_simp
          refine (HY.out _).mono ?_; rintro e w' ⟨rfl, hx⟩; exact ⟨_, rfl, hx, rfl⟩
        · obtain ⟨h0, h1, -⟩ := hs
          replace h0 : ρ (.tmp 16) = .int .i64 ((x : Int)) := h0
          replace h1 : ρ (.tmp 25) = .int .i64 ((y : Int)) := h1
          have hw : IntKind.i64.wrap ((x : Int) * (y : Int)) = (x : Int) * (y : Int) := wrap_id _ (by omega) (by omega)
          go_simp
          exact ⟨Ext.refl _, rfl⟩
        · obtain ⟨h0, h1, -⟩ := hs
          replace h0 : ρ (.tmp 13) = .int .i64 ((z : Int)) := h0
          replace h1 : ρ (.tmp 26) = .int .i64 ((x : Int) * (y : Int)) := h1
          have hw : IntKind.i64.wrap ((z : Int) + (x : Int) * (y : Int)) = (z : Int) + (x : Int) * (y : Int) := wrap_id _ (by omega) (by omega)
          go_simp
          exact ⟨Ext.refl _, rfl⟩
      · intro fv W hF hs
        obtain ⟨-, -, -, -, -, -, -, -, -, -, -, -, -, -, h27, -⟩ := hs
        replace h27 : fv 27 = .int .i64 ((z : Int) + (x : Int) * (y : Int)) := h27
        simp only [fin, List.filterMap]
        go_simp
        have X2 := Lib.hid (X.out.trans hF)
        clear hF y0 y1
        go_wp2
        go_roundw
        case rel => exact ⟨k + 1, by omega, by go_num, by rw [HV.out, Int.natCast_add, Int.natCast_mul], X2.out⟩
        case measure => simp [intOf]; omega
    · have hka : k = a + 1 := by omega
      have hl := HLO.out
      rw [← HAC.out, ← hka] at hl
      have HL2 := Lib.hid hl
      have hgt : ¬ (k : Int) ≤ (a : Int) := by omega
      clear hka hl HLO
      have y0 : wr.cell? ⟨w.heap.size, 0, none⟩ = some (.int .i64 (L : Int)) := (K0.out.ext X.out).cell 0
      have y1 : wr.cell? ⟨w.heap.size, 1, none⟩ = some (.int .i64 (s : Int)) := (K0.out.ext X.out).cell 1
      have y2 : wr.cell? ⟨w.heap.size, 2, none⟩ = some (.int .i64 (a : Int)) := (K0.out.ext X.out).cell 2
      have hka2 : (k : Int) ≤ (a : Int) ∨ ¬ (k : Int) ≤ (a : Int) := by omega
      generalize vs b (L - b) s k = z at *
      generalize pas L s = p at *
      go_wp2_with (first
        | (go_at_call 110; refine (HCH.out _).mono ?_; rintro e W5 ⟨rfl, hx⟩; have X5 := Lib.hid hx; clear hx)
        | (go_at_call 74; refine (HL2.out _).mono ?_; rintro e W2 ⟨rfl, hx⟩; have X2 := Lib.hid (X5.out.trans hx); clear hx; refine Hid.out ?_))
      refine Lib.hid ?_
      have B2 := K1.out.ext (X.out.trans X2.out)
      have f0 := B2.free 0
      have f1 := B2.free 1
      have c0 : W2.cell? ⟨w.heap.size + 1, 0, none⟩ = some (.int .i64 0) := B2.cell 0
      have c1 : W2.cell? ⟨w.heap.size + 1, 1, none⟩ = some (.int .i64 0) := B2.cell 1
      clear B2 y0 y1 y2 hka2
      clear HAC HCH HL2
      go_wp2
      exact bodyPost_ret (v := .agg #[.int .i64 ac.1, .int .i64 ac.2]) (by simp [results, Try.f67, go_sem, c0, c1]) rfl ⟨rfl, Ext.set (Ext.set (E0.out.trans (X.out.trans X2.out)) (by dsimp only; omega) _) (by dsimp only; omega) _⟩



end Go.Proofs.Ytmddnpagfgilcaa
