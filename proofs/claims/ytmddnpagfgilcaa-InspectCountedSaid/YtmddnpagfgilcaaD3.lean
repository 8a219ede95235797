/- InspectCounted. -/
import Derived.Test.YtmddnpagfgilcaaD1
import Derived.Lib.MinMax

namespace Go.Proofs.Ytmddnpagfgilcaa
open Go.RowKit Go.Shelf Go.Mem Go.RegInv
attribute [local go_sem] RelUpon_value RelUpon_skip RelUpon_enter BigFrame.eval_const BigFrame.eval_global BigFrame.eval_func


theorem waysOf_ok (T k t : Nat) (h1 : 1 ≤ T) (hT : T ≤ 15) (hk : k ≤ T) (ht : t ≤ 10) (w : World) : Calls Try.prog 53 #[.int .i64 T, .int .i64 k, .int .i64 t] w fun e w' => e = .returned (.tuple #[.int .i64 (fw t T k : Nat), .int .i64 0]) ∧ Ext w w' := by
  have h := waysOf_any T k t w
  have e1 : studyE T k = 0 := by
    rw [studyE_eq, withinB_eq, withinB_eq]
    simp only [decide_eq_true_eq]
    rw [if_pos (by omega), if_pos (by omega)]
  have e : waysE T k t = 0 := by
    rw [waysE_eq _ e1, withinB_eq, if_pos (by simp only [decide_eq_true_eq]; omega)]
  unfold orErr at h
  rw [e, if_pos rfl] at h
  exact h
set_option maxRecDepth 100000 in
set_option maxHeartbeats 4000000 in
theorem counted_bad (T h t r : Int) (w : World) (hb : studyE T h ≠ 0 ∨ withinB t 0 10 = false ∨ riskE r ≠ 0) :
    Calls Try.prog 10 #[.int .i64 T, .int .i64 h, .agg #[.int .i64 t, .int .i64 r]] w fun e w' => e = .returned (.bool true) ∧ Ext w w' := by
  have HS := Lib.hid (fun W => refStudyErr_any T h W)
  have HW := Lib.hid (fun W => within_any t 0 10 W)
  have HR := Lib.hid (fun W => refRiskErr_any r W)
  generalize studyE T h = z1 at *
  generalize withinB t 0 10 = b at *
  generalize riskE r = z2 at *
  go_enter Try.func10, Try.ntmps10
  go_wp2_with (go_at_call 13; refine (awake_any _).mono ?_; rintro e W1 ⟨rfl, hx⟩; have X1 := Lib.hid ((Ext.alloc _ _).trans hx); have y0 : W1.cell? ⟨w.heap.size, 0, none⟩ = some (.int .i64 t) := hx.cell ((Blk.new w 52 #[.int .i64 t, .int .i64 r]).cell 0); have y1 : W1.cell? ⟨w.heap.size, 1, none⟩ = some (.int .i64 r) := hx.cell ((Blk.new w 52 #[.int .i64 t, .int .i64 r]).cell 1); clear hx; refine Hid.out ?_)
  refine Lib.hid ?_
  go_wp2
  refine wp_region_each [some 25, some 26, some 27, some 28, some 7, some 8] [[5], [25], [5], [27], [26], [28]]
    [Is (.pointer (some ⟨w.heap.size, 0, none⟩)), Is (.int .i64 (t)), Is (.pointer (some ⟨w.heap.size, 1, none⟩)), Is (.int .i64 (r)), Is (.int .i64 (t)), Is (.int .i64 (r))]
    (by kernel_rfl) (by kernel_rfl) (by kernel_rfl) (by kernel_rfl) (by kernel_rfl) Ext (fun W => Ext W1 W)
    (fun W _ => Ext.refl W) (fun W W' h k => h.trans k) ?_ (Ext.drew _) ?_ ?_
  · repeat (refine ⟨fun _ _ _ _ k h => (by first | exact h | exact (IntsAt.ext h k)), ?_⟩)
    exact trivial
  · refine ⟨?_, ?_, ?_, ?_, ?_, ?_, trivial⟩
    all_goals intro ρ W ⟨kc, kg, kf⟩ hF hs
    · obtain ⟨h0, -⟩ := hs
      replace h0 : ρ (.tmp 5) = .pointer (some ⟨w.heap.size, 0, none⟩) := h0
      go_simp
      exact ⟨Ext.refl _, rfl⟩
    · obtain ⟨h0, -⟩ := hs
      replace h0 : ρ (.tmp 25) = .pointer (some ⟨w.heap.size, 0, none⟩) := h0
      have hc0 : W.cell? ⟨w.heap.size, 0, none⟩ = some (.int .i64 (t)) := hF.cell (by assumption)
      go_simp
      exact ⟨Ext.refl _, rfl⟩
    · obtain ⟨h0, -⟩ := hs
      replace h0 : ρ (.tmp 5) = .pointer (some ⟨w.heap.size, 0, none⟩) := h0
      go_simp
      exact ⟨Ext.refl _, rfl⟩
    · obtain ⟨h0, -⟩ := hs
      replace h0 : ρ (.tmp 27) = .pointer (some ⟨w.heap.size, 1, none⟩) := h0
      have hc0 : W.cell? ⟨w.heap.size, 1, none⟩ = some (.int .i64 (r)) := hF.cell (by assumption)
      go_simp
      exact ⟨Ext.refl _, rfl⟩
    · obtain ⟨h0, -⟩ := hs
      replace h0 : ρ (.tmp 26) = .int .i64 (t) := h0
      go_simp
      exact ⟨Ext.refl _, rfl⟩
    · obtain ⟨h0, -⟩ := hs
      replace h0 : ρ (.tmp 28) = .int .i64 (r) := h0
      go_simp
      exact ⟨Ext.refl _, rfl⟩
  · intro fv W hF hs
    obtain ⟨-, -, -, -, h7, h8, -⟩ := hs
    replace h7 : fv 7 = .int .i64 (t) := h7
    replace h8 : fv 8 = .int .i64 (r) := h8
    simp only [fin, List.filterMap]
    go_simp
    have X2 := Lib.hid (X1.out.trans hF)
    clear hF y0 y1
    by_cases h1 : z1 = 0
    · have h2 : (z1 != 0) = false := by simp [h1]
      have H1 := Lib.hid h1
      clear h1
      cases b with
      | false =>
        clear hb
        go_wp2_with (first
          | (go_at_call 55; refine (HS.out _).mono ?_; rintro e w' ⟨rfl, rfl⟩)
          | (go_at_call 20; refine (HW.out _).mono ?_; rintro e w' ⟨rfl, rfl⟩))
        go_ret
        exact ⟨rfl, X2.out⟩
      | true =>
        have h3 : (z2 != 0) = true := by
          rcases hb with hb | hb | hb
          · exact absurd H1.out hb
          · cases hb
          · simp [hb]
        clear hb
        go_wp2_with (first
          | (go_at_call 55; refine (HS.out _).mono ?_; rintro e w' ⟨rfl, rfl⟩)
          | (go_at_call 20; refine (HW.out _).mono ?_; rintro e w' ⟨rfl, rfl⟩)
          | (go_at_call 57; refine (HR.out _).mono ?_; rintro e w' ⟨rfl, rfl⟩))
        go_ret
        exact ⟨rfl, X2.out⟩
    · have h2 : (z1 != 0) = true := by simp [h1]
      clear hb h1
      go_wp2_with (go_at_call 55; refine (HS.out _).mono ?_; rintro e w' ⟨rfl, rfl⟩)
      go_ret
      exact ⟨rfl, X2.out⟩
set_option maxRecDepth 100000 in
set_option maxHeartbeats 4000000 in
theorem counted_zl (T h t r : Nat) (w : World) (T1 : 1 ≤ T) (hT : T ≤ 15) (hh : h ≤ T) (ht : t ≤ 10) (hr : r ≤ 999) (h1 : h = 0) (h2 : t < 10) :
    Calls Try.prog 10 #[.int .i64 (T : Int), .int .i64 (h : Int), .agg #[.int .i64 (t : Int), .int .i64 (r : Int)]] w fun e w' => e = .returned (.bool true) ∧ Ext w w' := by
  subst h1
  have e1 : studyE T 0 = 0 := by
    rw [studyE_eq, withinB_eq, withinB_eq]
    simp only [decide_eq_true_eq]
    rw [if_pos (by omega), if_pos (by omega)]
  have e2 : riskE r = 0 := by
    rw [riskE_eq, withinB_eq, if_pos (by simp only [decide_eq_true_eq]; omega)]
  have HS := Lib.hid (fun W => show Calls Try.prog 55 #[.int .i64 (T : Int), .int .i64 0] W fun e w' => e = .returned (.int .i64 0) ∧ W = w' from by
    have := refStudyErr_any T 0 W
    rw [e1] at this
    exact this)
  have HR := Lib.hid (fun W => show Calls Try.prog 57 #[.int .i64 (r : Int)] W fun e w' => e = .returned (.int .i64 0) ∧ W = w' from by
    have := refRiskErr_any r W
    rw [e2] at this
    exact this)
  have HWI := Lib.hid (fun (x lo hi : Int) (h : lo ≤ x ∧ x ≤ hi) W => show Calls Try.prog 20 #[.int .i64 x, .int .i64 lo, .int .i64 hi] W fun e w' => e = .returned (.bool true) ∧ W = w' from by
    have := within_any x lo hi W
    rw [withinB_eq, decide_eq_true h] at this
    exact this)
  have pT := pow15 hT
  have pp : 0 < 10 ^ T := Nat.pow_pos (by decide)
  have H0 := Lib.hid (fun W => show Calls Try.prog 53 #[.int .i64 (T : Int), .int .i64 0, .int .i64 (t : Int)] W fun e w' => e = .returned (.tuple #[.int .i64 (fw t T 0 : Nat), .int .i64 0]) ∧ Ext W w' from waysOf_ok T 0 t T1 hT hh ht W)
  have g0 := fw_le t ht T 0
  have HU := Lib.hid (fun W => show Calls Try.prog 53 #[.int .i64 (T : Int), .int .i64 0, .int .i64 ((t : Int) + 1)] W fun e w' => e = .returned (.tuple #[.int .i64 (fw (t + 1) T 0 : Nat), .int .i64 0]) ∧ Ext W w' from waysOf_ok T 0 (t + 1) T1 hT hh (by omega) W)
  have g4 := fw_mono t (by omega) T 0
  have HLS := Lib.hid (fun W => show Calls Try.prog 54 #[.int .i64 (T : Int), .int .i64 0, .int .i64 (r : Int)] W fun e w' => e = .returned (.tuple #[.int .i64 0, .int .i64 12]) ∧ Ext W w' from by
    have := lowerShare_any T 0 r W
    have el : lowE T 0 r = 0 := by rw [lowE_eq _ e1]; exact e2
    rw [lowF, lowG, el, if_pos rfl, if_pos rfl, show lowS T 0 r = none from (shr_none hr 10 (by decide)).2 rfl] at this
    exact this)
  have gz := fw_zero t ht T
  rw [gz] at H0
  rw [gz] at g4
  have HA := Lib.hid (show (10 ^ T : Nat) = 10 ^ T from rfl)
  clear e1 e2
  generalize fw (t + 1) T 0 = w3 at *
  have hall : ∀ k : Nat, k ≤ T → 10 ^ k ≤ 1000000000000000 := fun k hk => pow15 (by omega)
  have HALL := Lib.hid hall
  clear hall gz
  obtain ⟨al, hal⟩ : ∃ al, al = 10 ^ T := ⟨_, rfl⟩
  have HAL := Lib.hid hal
  rw [← hal] at H0 pT pp g0 g4
  clear hal HA
  have g8 : (t : Int) < 10 := by omega
  go_enter Try.func10, Try.ntmps10
  go_wp2_with (go_at_call 13; refine (awake_any _).mono ?_; rintro e W1 ⟨rfl, hx⟩; have X1 := Lib.hid ((Ext.alloc _ _).trans hx); have y0 : W1.cell? ⟨w.heap.size, 0, none⟩ = some (.int .i64 (t : Int)) := hx.cell ((Blk.new w 52 #[.int .i64 (t : Int), .int .i64 (r : Int)]).cell 0); have y1 : W1.cell? ⟨w.heap.size, 1, none⟩ = some (.int .i64 (r : Int)) := hx.cell ((Blk.new w 52 #[.int .i64 (t : Int), .int .i64 (r : Int)]).cell 1); clear hx; refine Hid.out ?_)
  refine Lib.hid ?_
  go_wp2
  refine wp_region_each [some 25, some 26, some 27, some 28, some 7, some 8] [[5], [25], [5], [27], [26], [28]]
    [Is (.pointer (some ⟨w.heap.size, 0, none⟩)), Is (.int .i64 ((t : Int))), Is (.pointer (some ⟨w.heap.size, 1, none⟩)), Is (.int .i64 ((r : Int))), Is (.int .i64 ((t : Int))), Is (.int .i64 ((r : Int)))]
    (by kernel_rfl) (by kernel_rfl) (by kernel_rfl) (by kernel_rfl) (by kernel_rfl) Ext (fun W => Ext W1 W)
    (fun W _ => Ext.refl W) (fun W W' h k => h.trans k) ?_ (Ext.drew _) ?_ ?_
  · repeat (refine ⟨fun _ _ _ _ k h => (by first | exact h | exact (IntsAt.ext h k)), ?_⟩)
    exact trivial
  · refine ⟨?_, ?_, ?_, ?_, ?_, ?_, trivial⟩
    all_goals intro ρ W ⟨kc, kg, kf⟩ hF hs
    · obtain ⟨h0, -⟩ := hs
      replace h0 : ρ (.tmp 5) = .pointer (some ⟨w.heap.size, 0, none⟩) := h0
      go_simp
      exact ⟨Ext.refl _, rfl⟩
    · obtain ⟨h0, -⟩ := hs
      replace h0 : ρ (.tmp 25) = .pointer (some ⟨w.heap.size, 0, none⟩) := h0
      have hc0 : W.cell? ⟨w.heap.size, 0, none⟩ = some (.int .i64 ((t : Int))) := hF.cell (by assumption)
      go_simp
      exact ⟨Ext.refl _, rfl⟩
    · obtain ⟨h0, -⟩ := hs
      replace h0 : ρ (.tmp 5) = .pointer (some ⟨w.heap.size, 0, none⟩) := h0
      go_simp
      exact ⟨Ext.refl _, rfl⟩
    · obtain ⟨h0, -⟩ := hs
      replace h0 : ρ (.tmp 27) = .pointer (some ⟨w.heap.size, 1, none⟩) := h0
      have hc0 : W.cell? ⟨w.heap.size, 1, none⟩ = some (.int .i64 ((r : Int))) := hF.cell (by assumption)
      go_simp
      exact ⟨Ext.refl _, rfl⟩
    · obtain ⟨h0, -⟩ := hs
      replace h0 : ρ (.tmp 26) = .int .i64 ((t : Int)) := h0
      go_simp
      exact ⟨Ext.refl _, rfl⟩
    · obtain ⟨h0, -⟩ := hs
      replace h0 : ρ (.tmp 28) = .int .i64 ((r : Int)) := h0
      go_simp
      exact ⟨Ext.refl _, rfl⟩
  · intro fv W hF hs
    obtain ⟨-, -, -, -, h7, h8, -⟩ := hs
    replace h7 : fv 7 = .int .i64 ((t : Int)) := h7
    replace h8 : fv 8 = .int .i64 ((r : Int)) := h8
    simp only [fin, List.filterMap]
    go_simp
    have X2 := Lib.hid (X1.out.trans hF)
    clear hF y0 y1
    go_wp2_with (first
      | (go_at_call 55; refine (HS.out _).mono ?_; rintro e w' ⟨rfl, rfl⟩)
      | (go_at_call 20; refine (HWI.out _ _ _ (by omega) _).mono ?_; rintro e w' ⟨rfl, rfl⟩)
      | (go_at_call 57; refine (HR.out _).mono ?_; rintro e w' ⟨rfl, rfl⟩))
    go_loop [9, 10] (fun u i => ∃ k : Nat, k ≤ T ∧ i = .int .i64 k ∧ u = .int .i64 (10 ^ k : Nat)) (fun _ i => T - (intOf i).toNat)
    case atStart => exact ⟨0, Nat.zero_le _, rfl, rfl⟩
    case round =>
      obtain ⟨k, hk, rfl, rfl⟩ := hrel
      have h3 := HALL.out k hk
      by_cases hlt : k < T
      · have H3 := Lib.hid (show ((10 ^ (k + 1) : Nat) : Int) = 10 * ((10 ^ k : Nat) : Int) by rw [Nat.pow_succ, Int.natCast_mul, Int.mul_comm]; rfl)
        generalize 10 ^ k = p at *
        go_wp2
        go_round
        case rel => exact ⟨k + 1, by omega, by go_num, by rw [H3.out]⟩
        case measure => simp [intOf]; omega
      · have hkT : k = T := by omega
        have hgt : ¬ (k : Int) < (T : Int) := by omega
        have HKA := Lib.hid (show (10 ^ k : Nat) = al by rw [hkT]; exact HAL.out.symm)
        clear hkT h3
        rw [HKA.out]
        go_wp2_with (first
          | (go_at_call 53; refine (H0.out _).mono ?_; rintro e W3 ⟨rfl, hx⟩; have X3 := Lib.hid (X2.out.trans hx); clear hx; refine Hid.out ?_))
        refine Lib.hid ?_
        go_wp2_with (first
          | (go_at_call 20; refine (HWI.out _ _ _ (by omega) _).mono ?_; rintro e w' ⟨rfl, rfl⟩)
          | (go_at_call 53; refine (H0.out _).mono ?_; rintro e W4 ⟨rfl, hx⟩; have X4 := Lib.hid (X3.out.trans hx); clear hx; refine Hid.out ?_))
        refine Lib.hid ?_
        go_wp2_with (first
          | (go_at_call 20; refine (HWI.out _ _ _ (by omega) _).mono ?_; rintro e w' ⟨rfl, rfl⟩)
          | (go_at_call 53; refine (HU.out _).mono ?_; rintro e W7 ⟨rfl, hx⟩; have X7 := Lib.hid (X4.out.trans hx); clear hx; refine Hid.out ?_))
        refine Lib.hid ?_
        go_wp2_with (first
          | (go_at_call 20; refine (HWI.out _ _ _ (by omega) _).mono ?_; rintro e w' ⟨rfl, rfl⟩)
          | (go_at_call 54; refine (HLS.out _).mono ?_; rintro e W8 ⟨rfl, hx⟩; have X8 := Lib.hid (X7.out.trans hx); clear hx; refine Hid.out ?_))
        refine Lib.hid ?_
        go_wp2
        go_ret
        exact ⟨rfl, X8.out⟩
set_option maxRecDepth 100000 in
set_option maxHeartbeats 4000000 in
theorem counted_ze (T h t r : Nat) (w : World) (T1 : 1 ≤ T) (hT : T ≤ 15) (hh : h ≤ T) (ht : t ≤ 10) (hr : r ≤ 999) (h1 : h = 0) (h2 : t = 10) :
    Calls Try.prog 10 #[.int .i64 (T : Int), .int .i64 (h : Int), .agg #[.int .i64 (t : Int), .int .i64 (r : Int)]] w fun e w' => e = .returned (.bool true) ∧ Ext w w' := by
  subst h1
  subst h2
  have e1 : studyE T 0 = 0 := by
    rw [studyE_eq, withinB_eq, withinB_eq]
    simp only [decide_eq_true_eq]
    rw [if_pos (by omega), if_pos (by omega)]
  have e2 : riskE r = 0 := by
    rw [riskE_eq, withinB_eq, if_pos (by simp only [decide_eq_true_eq]; omega)]
  have HS := Lib.hid (fun W => show Calls Try.prog 55 #[.int .i64 (T : Int), .int .i64 0] W fun e w' => e = .returned (.int .i64 0) ∧ W = w' from by
    have := refStudyErr_any T 0 W
    rw [e1] at this
    exact this)
  have HR := Lib.hid (fun W => show Calls Try.prog 57 #[.int .i64 (r : Int)] W fun e w' => e = .returned (.int .i64 0) ∧ W = w' from by
    have := refRiskErr_any r W
    rw [e2] at this
    exact this)
  have HWI := Lib.hid (fun (x lo hi : Int) (h : lo ≤ x ∧ x ≤ hi) W => show Calls Try.prog 20 #[.int .i64 x, .int .i64 lo, .int .i64 hi] W fun e w' => e = .returned (.bool true) ∧ W = w' from by
    have := within_any x lo hi W
    rw [withinB_eq, decide_eq_true h] at this
    exact this)
  have pT := pow15 hT
  have pp : 0 < 10 ^ T := Nat.pow_pos (by decide)
  have H0 := Lib.hid (fun W => show Calls Try.prog 53 #[.int .i64 (T : Int), .int .i64 0, .int .i64 10] W fun e w' => e = .returned (.tuple #[.int .i64 (fw 10 T 0 : Nat), .int .i64 0]) ∧ Ext W w' from waysOf_ok T 0 10 T1 hT hh (by decide) W)
  have g0 := fw_le 10 (by decide) T 0
  have HLS := Lib.hid (fun W => show Calls Try.prog 54 #[.int .i64 (T : Int), .int .i64 0, .int .i64 (r : Int)] W fun e w' => e = .returned (.tuple #[.int .i64 0, .int .i64 12]) ∧ Ext W w' from by
    have := lowerShare_any T 0 r W
    have el : lowE T 0 r = 0 := by rw [lowE_eq _ e1]; exact e2
    rw [lowF, lowG, el, if_pos rfl, if_pos rfl, show lowS T 0 r = none from (shr_none hr 10 (by decide)).2 rfl] at this
    exact this)
  have gz := fw_zero 10 (by decide) T
  rw [gz] at H0
  have HA := Lib.hid (show (10 ^ T : Nat) = 10 ^ T from rfl)
  clear e1 e2
  have hall : ∀ k : Nat, k ≤ T → 10 ^ k ≤ 1000000000000000 := fun k hk => pow15 (by omega)
  have HALL := Lib.hid hall
  clear hall gz
  obtain ⟨al, hal⟩ : ∃ al, al = 10 ^ T := ⟨_, rfl⟩
  have HAL := Lib.hid hal
  rw [← hal] at H0 pT pp g0
  clear hal HA
  go_enter Try.func10, Try.ntmps10
  go_wp2_with (go_at_call 13; refine (awake_any _).mono ?_; rintro e W1 ⟨rfl, hx⟩; have X1 := Lib.hid ((Ext.alloc _ _).trans hx); have y0 : W1.cell? ⟨w.heap.size, 0, none⟩ = some (.int .i64 10) := hx.cell ((Blk.new w 52 #[.int .i64 10, .int .i64 (r : Int)]).cell 0); have y1 : W1.cell? ⟨w.heap.size, 1, none⟩ = some (.int .i64 (r : Int)) := hx.cell ((Blk.new w 52 #[.int .i64 10, .int .i64 (r : Int)]).cell 1); clear hx; refine Hid.out ?_)
  refine Lib.hid ?_
  go_wp2
  refine wp_region_each [some 25, some 26, some 27, some 28, some 7, some 8] [[5], [25], [5], [27], [26], [28]]
    [Is (.pointer (some ⟨w.heap.size, 0, none⟩)), Is (.int .i64 (10)), Is (.pointer (some ⟨w.heap.size, 1, none⟩)), Is (.int .i64 ((r : Int))), Is (.int .i64 (10)), Is (.int .i64 ((r : Int)))]
    (by kernel_rfl) (by kernel_rfl) (by kernel_rfl) (by kernel_rfl) (by kernel_rfl) Ext (fun W => Ext W1 W)
    (fun W _ => Ext.refl W) (fun W W' h k => h.trans k) ?_ (Ext.drew _) ?_ ?_
  · repeat (refine ⟨fun _ _ _ _ k h => (by first | exact h | exact (IntsAt.ext h k)), ?_⟩)
    exact trivial
  · refine ⟨?_, ?_, ?_, ?_, ?_, ?_, trivial⟩
    all_goals intro ρ W ⟨kc, kg, kf⟩ hF hs
    · obtain ⟨h0, -⟩ := hs
      replace h0 : ρ (.tmp 5) = .pointer (some ⟨w.heap.size, 0, none⟩) := h0
      go_simp
      exact ⟨Ext.refl _, rfl⟩
    · obtain ⟨h0, -⟩ := hs
      replace h0 : ρ (.tmp 25) = .pointer (some ⟨w.heap.size, 0, none⟩) := h0
      have hc0 : W.cell? ⟨w.heap.size, 0, none⟩ = some (.int .i64 (10)) := hF.cell (by assumption)
      go_simp
      exact ⟨Ext.refl _, rfl⟩
    · obtain ⟨h0, -⟩ := hs
      replace h0 : ρ (.tmp 5) = .pointer (some ⟨w.heap.size, 0, none⟩) := h0
      go_simp
      exact ⟨Ext.refl _, rfl⟩
    · obtain ⟨h0, -⟩ := hs
      replace h0 : ρ (.tmp 27) = .pointer (some ⟨w.heap.size, 1, none⟩) := h0
      have hc0 : W.cell? ⟨w.heap.size, 1, none⟩ = some (.int .i64 ((r : Int))) := hF.cell (by assumption)
      go_simp
      exact ⟨Ext.refl _, rfl⟩
    · obtain ⟨h0, -⟩ := hs
      replace h0 : ρ (.tmp 26) = .int .i64 (10) := h0
      go_simp
      exact ⟨Ext.refl _, rfl⟩
    · obtain ⟨h0, -⟩ := hs
      replace h0 : ρ (.tmp 28) = .int .i64 ((r : Int)) := h0
      go_simp
      exact ⟨Ext.refl _, rfl⟩
  · intro fv W hF hs
    obtain ⟨-, -, -, -, h7, h8, -⟩ := hs
    replace h7 : fv 7 = .int .i64 (10) := h7
    replace h8 : fv 8 = .int .i64 ((r : Int)) := h8
    simp only [fin, List.filterMap]
    go_simp
    have X2 := Lib.hid (X1.out.trans hF)
    clear hF y0 y1
    go_wp2_with (first
      | (go_at_call 55; refine (HS.out _).mono ?_; rintro e w' ⟨rfl, rfl⟩)
      | (go_at_call 20; refine (HWI.out _ _ _ (by omega) _).mono ?_; rintro e w' ⟨rfl, rfl⟩)
      | (go_at_call 57; refine (HR.out _).mono ?_; rintro e w' ⟨rfl, rfl⟩))
    go_loop [9, 10] (fun u i => ∃ k : Nat, k ≤ T ∧ i = .int .i64 k ∧ u = .int .i64 (10 ^ k : Nat)) (fun _ i => T - (intOf i).toNat)
    case atStart => exact ⟨0, Nat.zero_le _, rfl, rfl⟩
    case round =>
      obtain ⟨k, hk, rfl, rfl⟩ := hrel
      have h3 := HALL.out k hk
      by_cases hlt : k < T
      · have H3 := Lib.hid (show ((10 ^ (k + 1) : Nat) : Int) = 10 * ((10 ^ k : Nat) : Int) by rw [Nat.pow_succ, Int.natCast_mul, Int.mul_comm]; rfl)
        generalize 10 ^ k = p at *
        go_wp2
        go_round
        case rel => exact ⟨k + 1, by omega, by go_num, by rw [H3.out]⟩
        case measure => simp [intOf]; omega
      · have hkT : k = T := by omega
        have hgt : ¬ (k : Int) < (T : Int) := by omega
        have HKA := Lib.hid (show (10 ^ k : Nat) = al by rw [hkT]; exact HAL.out.symm)
        clear hkT h3
        rw [HKA.out]
        go_wp2_with (first
          | (go_at_call 53; refine (H0.out _).mono ?_; rintro e W3 ⟨rfl, hx⟩; have X3 := Lib.hid (X2.out.trans hx); clear hx; refine Hid.out ?_))
        refine Lib.hid ?_
        go_wp2_with (first
          | (go_at_call 20; refine (HWI.out _ _ _ (by omega) _).mono ?_; rintro e w' ⟨rfl, rfl⟩)
          | (go_at_call 53; refine (H0.out _).mono ?_; rintro e W4 ⟨rfl, hx⟩; have X4 := Lib.hid (X3.out.trans hx); clear hx; refine Hid.out ?_))
        refine Lib.hid ?_
        go_wp2_with (first
          | (go_at_call 20; refine (HWI.out _ _ _ (by omega) _).mono ?_; rintro e w' ⟨rfl, rfl⟩)
          | (go_at_call 54; refine (HLS.out _).mono ?_; rintro e W8 ⟨rfl, hx⟩; have X8 := Lib.hid (X4.out.trans hx); clear hx; refine Hid.out ?_))
        refine Lib.hid ?_
        go_wp2
        go_ret
        exact ⟨rfl, X8.out⟩
set_option maxRecDepth 100000 in
set_option maxHeartbeats 4000000 in
theorem counted_pl (T h t r : Nat) (w : World) (T1 : 1 ≤ T) (hT : T ≤ 15) (hh : h ≤ T) (ht : t ≤ 10) (hr : r ≤ 999) (h1 : 1 ≤ h) (h2 : t < 10) :
    Calls Try.prog 10 #[.int .i64 (T : Int), .int .i64 (h : Int), .agg #[.int .i64 (t : Int), .int .i64 (r : Int)]] w fun e w' => e = .returned (.bool true) ∧ Ext w w' := by
  have e1 : studyE T (h : Int) = 0 := by
    rw [studyE_eq, withinB_eq, withinB_eq]
    simp only [decide_eq_true_eq]
    rw [if_pos (by omega), if_pos (by omega)]
  have e2 : riskE r = 0 := by
    rw [riskE_eq, withinB_eq, if_pos (by simp only [decide_eq_true_eq]; omega)]
  have HS := Lib.hid (fun W => show Calls Try.prog 55 #[.int .i64 (T : Int), .int .i64 (h : Int)] W fun e w' => e = .returned (.int .i64 0) ∧ W = w' from by
    have := refStudyErr_any T (h : Int) W
    rw [e1] at this
    exact this)
  have HR := Lib.hid (fun W => show Calls Try.prog 57 #[.int .i64 (r : Int)] W fun e w' => e = .returned (.int .i64 0) ∧ W = w' from by
    have := refRiskErr_any r W
    rw [e2] at this
    exact this)
  have HWI := Lib.hid (fun (x lo hi : Int) (h : lo ≤ x ∧ x ≤ hi) W => show Calls Try.prog 20 #[.int .i64 x, .int .i64 lo, .int .i64 hi] W fun e w' => e = .returned (.bool true) ∧ W = w' from by
    have := within_any x lo hi W
    rw [withinB_eq, decide_eq_true h] at this
    exact this)
  have pT := pow15 hT
  have pp : 0 < 10 ^ T := Nat.pow_pos (by decide)
  have H0 := Lib.hid (fun W => show Calls Try.prog 53 #[.int .i64 (T : Int), .int .i64 (h : Int), .int .i64 (t : Int)] W fun e w' => e = .returned (.tuple #[.int .i64 (fw t T h : Nat), .int .i64 0]) ∧ Ext W w' from waysOf_ok T h t T1 hT hh ht W)
  have g0 := fw_le t ht T h
  have HN := Lib.hid (fun W => show Calls Try.prog 53 #[.int .i64 (T : Int), .int .i64 0, .int .i64 (t : Int)] W fun e w' => e = .returned (.tuple #[.int .i64 (10 ^ T : Nat), .int .i64 0]) ∧ Ext W w' from by
    have := waysOf_ok T 0 t T1 hT (by omega) ht W
    rw [fw_zero t ht] at this
    exact this)
  have HF := Lib.hid (fun W => show Calls Try.prog 53 #[.int .i64 (T : Int), .int .i64 ((h : Int) - 1), .int .i64 (t : Int)] W fun e w' => e = .returned (.tuple #[.int .i64 (fw t T (h - 1) : Nat), .int .i64 0]) ∧ Ext W w' from by
    have := waysOf_ok T (h - 1) t T1 hT (by omega) ht W
    rw [show ((h - 1 : Nat) : Int) = (h : Int) - 1 by omega] at this
    exact this)
  have HM := Lib.hid (fun W => show Calls Try.prog 53 #[.int .i64 (T : Int), .int .i64 ((T : Int) - (h : Int) + 1), .int .i64 (10 - (t : Int))] W fun e w' => e = .returned (.tuple #[.int .i64 (fw (10 - t) T (T + 1 - h) : Nat), .int .i64 0]) ∧ Ext W w' from by
    have := waysOf_ok T (T + 1 - h) (10 - t) T1 hT (by omega) (by omega) W
    rw [show ((T + 1 - h : Nat) : Int) = (T : Int) - (h : Int) + 1 by omega, show ((10 - t : Nat) : Int) = 10 - (t : Int) by omega] at this
    exact this)
  have g1 : fw t T h ≤ fw t T (h - 1) := by
    have := fw_anti t T (h - 1)
    rwa [show h - 1 + 1 = h by omega] at this
  have g2 := fw_add t ht T h (by omega)
  have g3 := fw_le t ht T (h - 1)
  have HU := Lib.hid (fun W => show Calls Try.prog 53 #[.int .i64 (T : Int), .int .i64 (h : Int), .int .i64 ((t : Int) + 1)] W fun e w' => e = .returned (.tuple #[.int .i64 (fw (t + 1) T h : Nat), .int .i64 0]) ∧ Ext W w' from waysOf_ok T h (t + 1) T1 hT hh (by omega) W)
  have g4 := fw_mono t (by omega) T h
  obtain ⟨s, hs⟩ : ∃ s, shr T h r 10 = some s := by
    rcases hs : shr T h r 10 with _ | s
    · have := (shr_none (T := T) (h := h) hr 10 (by decide)).1 hs; omega
    · exact ⟨s, rfl⟩
  obtain ⟨s10, hsp⟩ := shr_some 10 (by decide) hs
  have HLS := Lib.hid (fun W => show Calls Try.prog 54 #[.int .i64 (T : Int), .int .i64 (h : Int), .int .i64 (r : Int)] W fun e w' => e = .returned (.tuple #[.int .i64 (s : Int), .int .i64 0]) ∧ Ext W w' from by
    have := lowerShare_any T h r W
    have el : lowE T h r = 0 := by rw [lowE_eq _ e1]; exact e2
    rw [lowF, lowG, el, if_pos rfl, if_pos rfl, show lowS T h r = some s from hs] at this
    exact this)
  have HP := Lib.hid (hsp t ht)
  have m1 : ((r : Int)) * ((10 ^ T : Nat) : Int) = ((r * 10 ^ T : Nat) : Int) := by rw [Int.natCast_mul]
  have m2 : r * 10 ^ T ≤ 999 * 1000000000000000 := Nat.mul_le_mul hr pT
  have M1 := Lib.hid m1
  have m3 : 0 ≤ (r : Int) * ((10 ^ T : Nat) : Int) := Int.mul_nonneg (by omega) (Int.natCast_nonneg _)
  have m4 : (r : Int) * ((10 ^ T : Nat) : Int) ≤ 999 * 1000000000000000 := by rw [m1]; omega
  clear m1 m2 hsp hs
  have HA := Lib.hid (show (10 ^ T : Nat) = 10 ^ T from rfl)
  clear e1 e2
  generalize fw t T h = w0 at *
  generalize fw t T (h - 1) = w1 at *
  generalize fw (10 - t) T (T + 1 - h) = w2 at *
  generalize fw (t + 1) T h = w3 at *
  have hall : ∀ k : Nat, k ≤ T → 10 ^ k ≤ 1000000000000000 := fun k hk => pow15 (by omega)
  have HALL := Lib.hid hall
  clear hall
  obtain ⟨al, hal⟩ : ∃ al, al = 10 ^ T := ⟨_, rfl⟩
  have HAL := Lib.hid hal
  rw [← hal] at pT pp HN g0 g2 g3 m3 m4 M1 HP
  clear hal HA
  have g5 : ((w0 : Int) + (w2 : Int) != (al : Int)) = false := by simp; omega
  have g6 : 0 < h := h1
  have g7 : ¬ w1 < w0 := by omega
  have g8 : (t : Int) < 10 := by omega
  go_enter Try.func10, Try.ntmps10
  go_wp2_with (go_at_call 13; refine (awake_any _).mono ?_; rintro e W1 ⟨rfl, hx⟩; have X1 := Lib.hid ((Ext.alloc _ _).trans hx); have y0 : W1.cell? ⟨w.heap.size, 0, none⟩ = some (.int .i64 (t : Int)) := hx.cell ((Blk.new w 52 #[.int .i64 (t : Int), .int .i64 (r : Int)]).cell 0); have y1 : W1.cell? ⟨w.heap.size, 1, none⟩ = some (.int .i64 (r : Int)) := hx.cell ((Blk.new w 52 #[.int .i64 (t : Int), .int .i64 (r : Int)]).cell 1); clear hx; refine Hid.out ?_)
  refine Lib.hid ?_
  go_wp2
  refine wp_region_each [some 25, some 26, some 27, some 28, some 7, some 8] [[5], [25], [5], [27], [26], [28]]
    [Is (.pointer (some ⟨w.heap.size, 0, none⟩)), Is (.int .i64 ((t : Int))), Is (.pointer (some ⟨w.heap.size, 1, none⟩)), Is (.int .i64 ((r : Int))), Is (.int .i64 ((t : Int))), Is (.int .i64 ((r : Int)))]
    (by kernel_rfl) (by kernel_rfl) (by kernel_rfl) (by kernel_rfl) (by kernel_rfl) Ext (fun W => Ext W1 W)
    (fun W _ => Ext.refl W) (fun W W' h k => h.trans k) ?_ (Ext.drew _) ?_ ?_
  · repeat (refine ⟨fun _ _ _ _ k h => (by first | exact h | exact (IntsAt.ext h k)), ?_⟩)
    exact trivial
  · refine ⟨?_, ?_, ?_, ?_, ?_, ?_, trivial⟩
    all_goals intro ρ W ⟨kc, kg, kf⟩ hF hs
    · obtain ⟨h0, -⟩ := hs
      replace h0 : ρ (.tmp 5) = .pointer (some ⟨w.heap.size, 0, none⟩) := h0
      go_simp
      exact ⟨Ext.refl _, rfl⟩
    · obtain ⟨h0, -⟩ := hs
      replace h0 : ρ (.tmp 25) = .pointer (some ⟨w.heap.size, 0, none⟩) := h0
      have hc0 : W.cell? ⟨w.heap.size, 0, none⟩ = some (.int .i64 ((t : Int))) := hF.cell (by assumption)
      go_simp
      exact ⟨Ext.refl _, rfl⟩
    · obtain ⟨h0, -⟩ := hs
      replace h0 : ρ (.tmp 5) = .pointer (some ⟨w.heap.size, 0, none⟩) := h0
      go_simp
      exact ⟨Ext.refl _, rfl⟩
    · obtain ⟨h0, -⟩ := hs
      replace h0 : ρ (.tmp 27) = .pointer (some ⟨w.heap.size, 1, none⟩) := h0
      have hc0 : W.cell? ⟨w.heap.size, 1, none⟩ = some (.int .i64 ((r : Int))) := hF.cell (by assumption)
      go_simp
      exact ⟨Ext.refl _, rfl⟩
    · obtain ⟨h0, -⟩ := hs
      replace h0 : ρ (.tmp 26) = .int .i64 ((t : Int)) := h0
      go_simp
      exact ⟨Ext.refl _, rfl⟩
    · obtain ⟨h0, -⟩ := hs
      replace h0 : ρ (.tmp 28) = .int .i64 ((r : Int)) := h0
      go_simp
      exact ⟨Ext.refl _, rfl⟩
  · intro fv W hF hs
    obtain ⟨-, -, -, -, h7, h8, -⟩ := hs
    replace h7 : fv 7 = .int .i64 ((t : Int)) := h7
    replace h8 : fv 8 = .int .i64 ((r : Int)) := h8
    simp only [fin, List.filterMap]
    go_simp
    have X2 := Lib.hid (X1.out.trans hF)
    clear hF y0 y1
    go_wp2_with (first
      | (go_at_call 55; refine (HS.out _).mono ?_; rintro e w' ⟨rfl, rfl⟩)
      | (go_at_call 20; refine (HWI.out _ _ _ (by omega) _).mono ?_; rintro e w' ⟨rfl, rfl⟩)
      | (go_at_call 57; refine (HR.out _).mono ?_; rintro e w' ⟨rfl, rfl⟩))
    go_loop [9, 10] (fun u i => ∃ k : Nat, k ≤ T ∧ i = .int .i64 k ∧ u = .int .i64 (10 ^ k : Nat)) (fun _ i => T - (intOf i).toNat)
    case atStart => exact ⟨0, Nat.zero_le _, rfl, rfl⟩
    case round =>
      obtain ⟨k, hk, rfl, rfl⟩ := hrel
      have h3 := HALL.out k hk
      by_cases hlt : k < T
      · have H3 := Lib.hid (show ((10 ^ (k + 1) : Nat) : Int) = 10 * ((10 ^ k : Nat) : Int) by rw [Nat.pow_succ, Int.natCast_mul, Int.mul_comm]; rfl)
        generalize 10 ^ k = p at *
        go_wp2
        go_round
        case rel => exact ⟨k + 1, by omega, by go_num, by rw [H3.out]⟩
        case measure => simp [intOf]; omega
      · have hkT : k = T := by omega
        have hgt : ¬ (k : Int) < (T : Int) := by omega
        have HKA := Lib.hid (show (10 ^ k : Nat) = al by rw [hkT]; exact HAL.out.symm)
        clear hkT h3
        rw [HKA.out]
        go_wp2_with (first
          | (go_at_call 53; refine (H0.out _).mono ?_; rintro e W3 ⟨rfl, hx⟩; have X3 := Lib.hid (X2.out.trans hx); clear hx; refine Hid.out ?_))
        refine Lib.hid ?_
        go_wp2_with (first
          | (go_at_call 20; refine (HWI.out _ _ _ (by omega) _).mono ?_; rintro e w' ⟨rfl, rfl⟩)
          | (go_at_call 53; refine (HN.out _).mono ?_; rintro e W4 ⟨rfl, hx⟩; have X4 := Lib.hid (X3.out.trans hx); clear hx; refine Hid.out ?_))
        refine Lib.hid ?_
        go_wp2_with (first
          | (go_at_call 20; refine (HWI.out _ _ _ (by omega) _).mono ?_; rintro e w' ⟨rfl, rfl⟩)
          | (go_at_call 53; refine (HF.out _).mono ?_; rintro e W5 ⟨rfl, hx⟩; have X5 := Lib.hid (X4.out.trans hx); clear hx; refine Hid.out ?_))
        refine Lib.hid ?_
        go_wp2_with (first
          | (go_at_call 20; refine (HWI.out _ _ _ (by omega) _).mono ?_; rintro e w' ⟨rfl, rfl⟩)
          | (go_at_call 53; refine (HM.out _).mono ?_; rintro e W6 ⟨rfl, hx⟩; have X6 := Lib.hid (X5.out.trans hx); clear hx; refine Hid.out ?_))
        refine Lib.hid ?_
        go_wp2_with (first
          | (go_at_call 20; refine (HWI.out _ _ _ (by omega) _).mono ?_; rintro e w' ⟨rfl, rfl⟩)
          | (go_at_call 53; refine (HU.out _).mono ?_; rintro e W7 ⟨rfl, hx⟩; have X7 := Lib.hid (X6.out.trans hx); clear hx; refine Hid.out ?_))
        refine Lib.hid ?_
        go_wp2_with (first
          | (go_at_call 20; refine (HWI.out _ _ _ (by omega) _).mono ?_; rintro e w' ⟨rfl, rfl⟩)
          | (go_at_call 54; refine (HLS.out _).mono ?_; rintro e W8 ⟨rfl, hx⟩; have X8 := Lib.hid (X7.out.trans hx); clear hx; refine Hid.out ?_))
        refine Lib.hid ?_
        by_cases hts : t ≤ s
        · have q1 : 1000 * (w0 : Int) ≤ (r : Int) * (al : Int) := by rw [M1.out]; have := HP.out.2 hts; omega
          have Q1 := Lib.hid (decide_eq_true q1)
          go_wp2_with (go_at_call 20; refine (HWI.out _ _ _ (by omega) _).mono ?_; rintro e w' ⟨rfl, rfl⟩)
          go_ret
          exact ⟨(by first | rfl | exact ret_bool (by rw [Q1.out]; rfl) | exact ret_bool (by rw [Q1.out]; simp; omega) | exact ret_bool (by simp; omega)), X8.out⟩
        · have q1 : ¬ 1000 * (w0 : Int) ≤ (r : Int) * (al : Int) := fun h => hts (HP.out.1 (by rw [M1.out] at h; omega))
          have Q1 := Lib.hid (decide_eq_false q1)
          go_wp2_with (go_at_call 20; refine (HWI.out _ _ _ (by omega) _).mono ?_; rintro e w' ⟨rfl, rfl⟩)
          go_ret
          exact ⟨(by first | rfl | exact ret_bool (by rw [Q1.out]; rfl) | exact ret_bool (by rw [Q1.out]; simp; omega) | exact ret_bool (by simp; omega)), X8.out⟩
set_option maxRecDepth 100000 in
set_option maxHeartbeats 4000000 in
theorem counted_pe (T h t r : Nat) (w : World) (T1 : 1 ≤ T) (hT : T ≤ 15) (hh : h ≤ T) (ht : t ≤ 10) (hr : r ≤ 999) (h1 : 1 ≤ h) (h2 : t = 10) :
    Calls Try.prog 10 #[.int .i64 (T : Int), .int .i64 (h : Int), .agg #[.int .i64 (t : Int), .int .i64 (r : Int)]] w fun e w' => e = .returned (.bool true) ∧ Ext w w' := by
  subst h2
  have e1 : studyE T (h : Int) = 0 := by
    rw [studyE_eq, withinB_eq, withinB_eq]
    simp only [decide_eq_true_eq]
    rw [if_pos (by omega), if_pos (by omega)]
  have e2 : riskE r = 0 := by
    rw [riskE_eq, withinB_eq, if_pos (by simp only [decide_eq_true_eq]; omega)]
  have HS := Lib.hid (fun W => show Calls Try.prog 55 #[.int .i64 (T : Int), .int .i64 (h : Int)] W fun e w' => e = .returned (.int .i64 0) ∧ W = w' from by
    have := refStudyErr_any T (h : Int) W
    rw [e1] at this
    exact this)
  have HR := Lib.hid (fun W => show Calls Try.prog 57 #[.int .i64 (r : Int)] W fun e w' => e = .returned (.int .i64 0) ∧ W = w' from by
    have := refRiskErr_any r W
    rw [e2] at this
    exact this)
  have HWI := Lib.hid (fun (x lo hi : Int) (h : lo ≤ x ∧ x ≤ hi) W => show Calls Try.prog 20 #[.int .i64 x, .int .i64 lo, .int .i64 hi] W fun e w' => e = .returned (.bool true) ∧ W = w' from by
    have := within_any x lo hi W
    rw [withinB_eq, decide_eq_true h] at this
    exact this)
  have pT := pow15 hT
  have pp : 0 < 10 ^ T := Nat.pow_pos (by decide)
  have H0 := Lib.hid (fun W => show Calls Try.prog 53 #[.int .i64 (T : Int), .int .i64 (h : Int), .int .i64 10] W fun e w' => e = .returned (.tuple #[.int .i64 (fw 10 T h : Nat), .int .i64 0]) ∧ Ext W w' from waysOf_ok T h 10 T1 hT hh (by decide) W)
  have g0 := fw_le 10 (by decide) T h
  have HN := Lib.hid (fun W => show Calls Try.prog 53 #[.int .i64 (T : Int), .int .i64 0, .int .i64 10] W fun e w' => e = .returned (.tuple #[.int .i64 (10 ^ T : Nat), .int .i64 0]) ∧ Ext W w' from by
    have := waysOf_ok T 0 10 T1 hT (by omega) (by decide) W
    rw [fw_zero 10 (by decide)] at this
    exact this)
  have HF := Lib.hid (fun W => show Calls Try.prog 53 #[.int .i64 (T : Int), .int .i64 ((h : Int) - 1), .int .i64 10] W fun e w' => e = .returned (.tuple #[.int .i64 (fw 10 T (h - 1) : Nat), .int .i64 0]) ∧ Ext W w' from by
    have := waysOf_ok T (h - 1) 10 T1 hT (by omega) (by decide) W
    rw [show ((h - 1 : Nat) : Int) = (h : Int) - 1 by omega] at this
    exact this)
  have HM := Lib.hid (fun W => show Calls Try.prog 53 #[.int .i64 (T : Int), .int .i64 ((T : Int) - (h : Int) + 1), .int .i64 (10 - 10)] W fun e w' => e = .returned (.tuple #[.int .i64 (fw (10 - 10) T (T + 1 - h) : Nat), .int .i64 0]) ∧ Ext W w' from by
    have := waysOf_ok T (T + 1 - h) (10 - 10) T1 hT (by omega) (by omega) W
    rw [show ((T + 1 - h : Nat) : Int) = (T : Int) - (h : Int) + 1 by omega, show ((10 - 10 : Nat) : Int) = 10 - 10 by omega] at this
    exact this)
  have g1 : fw 10 T h ≤ fw 10 T (h - 1) := by
    have := fw_anti 10 T (h - 1)
    rwa [show h - 1 + 1 = h by omega] at this
  have g2 := fw_add 10 (by decide) T h (by omega)
  have g3 := fw_le 10 (by decide) T (h - 1)
  obtain ⟨s, hs⟩ : ∃ s, shr T h r 10 = some s := by
    rcases hs : shr T h r 10 with _ | s
    · have := (shr_none (T := T) (h := h) hr 10 (by decide)).1 hs; omega
    · exact ⟨s, rfl⟩
  obtain ⟨s10, hsp⟩ := shr_some 10 (by decide) hs
  have HLS := Lib.hid (fun W => show Calls Try.prog 54 #[.int .i64 (T : Int), .int .i64 (h : Int), .int .i64 (r : Int)] W fun e w' => e = .returned (.tuple #[.int .i64 (s : Int), .int .i64 0]) ∧ Ext W w' from by
    have := lowerShare_any T h r W
    have el : lowE T h r = 0 := by rw [lowE_eq _ e1]; exact e2
    rw [lowF, lowG, el, if_pos rfl, if_pos rfl, show lowS T h r = some s from hs] at this
    exact this)
  have HP := Lib.hid (hsp 10 (by decide))
  have m1 : ((r : Int)) * ((10 ^ T : Nat) : Int) = ((r * 10 ^ T : Nat) : Int) := by rw [Int.natCast_mul]
  have m2 : r * 10 ^ T ≤ 999 * 1000000000000000 := Nat.mul_le_mul hr pT
  have M1 := Lib.hid m1
  have m3 : 0 ≤ (r : Int) * ((10 ^ T : Nat) : Int) := Int.mul_nonneg (by omega) (Int.natCast_nonneg _)
  have m4 : (r : Int) * ((10 ^ T : Nat) : Int) ≤ 999 * 1000000000000000 := by rw [m1]; omega
  clear m1 m2 hsp hs
  have HA := Lib.hid (show (10 ^ T : Nat) = 10 ^ T from rfl)
  clear e1 e2
  generalize fw 10 T h = w0 at *
  generalize fw 10 T (h - 1) = w1 at *
  generalize fw (10 - 10) T (T + 1 - h) = w2 at *
  have hall : ∀ k : Nat, k ≤ T → 10 ^ k ≤ 1000000000000000 := fun k hk => pow15 (by omega)
  have HALL := Lib.hid hall
  clear hall
  obtain ⟨al, hal⟩ : ∃ al, al = 10 ^ T := ⟨_, rfl⟩
  have HAL := Lib.hid hal
  rw [← hal] at pT pp HN g0 g2 g3 m3 m4 M1 HP
  clear hal HA
  have g5 : ((w0 : Int) + (w2 : Int) != (al : Int)) = false := by simp; omega
  have g6 : 0 < h := h1
  have g7 : ¬ w1 < w0 := by omega
  go_enter Try.func10, Try.ntmps10
  go_wp2_with (go_at_call 13; refine (awake_any _).mono ?_; rintro e W1 ⟨rfl, hx⟩; have X1 := Lib.hid ((Ext.alloc _ _).trans hx); have y0 : W1.cell? ⟨w.heap.size, 0, none⟩ = some (.int .i64 10) := hx.cell ((Blk.new w 52 #[.int .i64 10, .int .i64 (r : Int)]).cell 0); have y1 : W1.cell? ⟨w.heap.size, 1, none⟩ = some (.int .i64 (r : Int)) := hx.cell ((Blk.new w 52 #[.int .i64 10, .int .i64 (r : Int)]).cell 1); clear hx; refine Hid.out ?_)
  refine Lib.hid ?_
  go_wp2
  refine wp_region_each [some 25, some 26, some 27, some 28, some 7, some 8] [[5], [25], [5], [27], [26], [28]]
    [Is (.pointer (some ⟨w.heap.size, 0, none⟩)), Is (.int .i64 (10)), Is (.pointer (some ⟨w.heap.size, 1, none⟩)), Is (.int .i64 ((r : Int))), Is (.int .i64 (10)), Is (.int .i64 ((r : Int)))]
    (by kernel_rfl) (by kernel_rfl) (by kernel_rfl) (by kernel_rfl) (by kernel_rfl) Ext (fun W => Ext W1 W)
    (fun W _ => Ext.refl W) (fun W W' h k => h.trans k) ?_ (Ext.drew _) ?_ ?_
  · repeat (refine ⟨fun _ _ _ _ k h => (by first | exact h | exact (IntsAt.ext h k)), ?_⟩)
    exact trivial
  · refine ⟨?_, ?_, ?_, ?_, ?_, ?_, trivial⟩
    all_goals intro ρ W ⟨kc, kg, kf⟩ hF hs
    · obtain ⟨h0, -⟩ := hs
      replace h0 : ρ (.tmp 5) = .pointer (some ⟨w.heap.size, 0, none⟩) := h0
      go_simp
      exact ⟨Ext.refl _, rfl⟩
    · obtain ⟨h0, -⟩ := hs
      replace h0 : ρ (.tmp 25) = .pointer (some ⟨w.heap.size, 0, none⟩) := h0
      have hc0 : W.cell? ⟨w.heap.size, 0, none⟩ = some (.int .i64 (10)) := hF.cell (by assumption)
      go_simp
      exact ⟨Ext.refl _, rfl⟩
    · obtain ⟨h0, -⟩ := hs
      replace h0 : ρ (.tmp 5) = .pointer (some ⟨w.heap.size, 0, none⟩) := h0
      go_simp
      exact ⟨Ext.refl _, rfl⟩
    · obtain ⟨h0, -⟩ := hs
      replace h0 : ρ (.tmp 27) = .pointer (some ⟨w.heap.size, 1, none⟩) := h0
      have hc0 : W.cell? ⟨w.heap.size, 1, none⟩ = some (.int .i64 ((r : Int))) := hF.cell (by assumption)
      go_simp
      exact ⟨Ext.refl _, rfl⟩
    · obtain ⟨h0, -⟩ := hs
      replace h0 : ρ (.tmp 26) = .int .i64 (10) := h0
      go_simp
      exact ⟨Ext.refl _, rfl⟩
    · obtain ⟨h0, -⟩ := hs
      replace h0 : ρ (.tmp 28) = .int .i64 ((r : Int)) := h0
      go_simp
      exact ⟨Ext.refl _, rfl⟩
  · intro fv W hF hs
    obtain ⟨-, -, -, -, h7, h8, -⟩ := hs
    replace h7 : fv 7 = .int .i64 (10) := h7
    replace h8 : fv 8 = .int .i64 ((r : Int)) := h8
    simp only [fin, List.filterMap]
    go_simp
    have X2 := Lib.hid (X1.out.trans hF)
    clear hF y0 y1
    go_wp2_with (first
      | (go_at_call 55; refine (HS.out _).mono ?_; rintro e w' ⟨rfl, rfl⟩)
      | (go_at_call 20; refine (HWI.out _ _ _ (by omega) _).mono ?_; rintro e w' ⟨rfl, rfl⟩)
      | (go_at_call 57; refine (HR.out _).mono ?_; rintro e w' ⟨rfl, rfl⟩))
    go_loop [9, 10] (fun u i => ∃ k : Nat, k ≤ T ∧ i = .int .i64 k ∧ u = .int .i64 (10 ^ k : Nat)) (fun _ i => T - (intOf i).toNat)
    case atStart => exact ⟨0, Nat.zero_le _, rfl, rfl⟩
    case round =>
      obtain ⟨k, hk, rfl, rfl⟩ := hrel
      have h3 := HALL.out k hk
      by_cases hlt : k < T
      · have H3 := Lib.hid (show ((10 ^ (k + 1) : Nat) : Int) = 10 * ((10 ^ k : Nat) : Int) by rw [Nat.pow_succ, Int.natCast_mul, Int.mul_comm]; rfl)
        generalize 10 ^ k = p at *
        go_wp2
        go_round
        case rel => exact ⟨k + 1, by omega, by go_num, by rw [H3.out]⟩
        case measure => simp [intOf]; omega
      · have hkT : k = T := by omega
        have hgt : ¬ (k : Int) < (T : Int) := by omega
        have HKA := Lib.hid (show (10 ^ k : Nat) = al by rw [hkT]; exact HAL.out.symm)
        clear hkT h3
        rw [HKA.out]
        go_wp2_with (first
          | (go_at_call 53; refine (H0.out _).mono ?_; rintro e W3 ⟨rfl, hx⟩; have X3 := Lib.hid (X2.out.trans hx); clear hx; refine Hid.out ?_))
        refine Lib.hid ?_
        go_wp2_with (first
          | (go_at_call 20; refine (HWI.out _ _ _ (by omega) _).mono ?_; rintro e w' ⟨rfl, rfl⟩)
          | (go_at_call 53; refine (HN.out _).mono ?_; rintro e W4 ⟨rfl, hx⟩; have X4 := Lib.hid (X3.out.trans hx); clear hx; refine Hid.out ?_))
        refine Lib.hid ?_
        go_wp2_with (first
          | (go_at_call 20; refine (HWI.out _ _ _ (by omega) _).mono ?_; rintro e w' ⟨rfl, rfl⟩)
          | (go_at_call 53; refine (HF.out _).mono ?_; rintro e W5 ⟨rfl, hx⟩; have X5 := Lib.hid (X4.out.trans hx); clear hx; refine Hid.out ?_))
        refine Lib.hid ?_
        go_wp2_with (first
          | (go_at_call 20; refine (HWI.out _ _ _ (by omega) _).mono ?_; rintro e w' ⟨rfl, rfl⟩)
          | (go_at_call 53; refine (HM.out _).mono ?_; rintro e W6 ⟨rfl, hx⟩; have X6 := Lib.hid (X5.out.trans hx); clear hx; refine Hid.out ?_))
        refine Lib.hid ?_
        go_wp2_with (first
          | (go_at_call 20; refine (HWI.out _ _ _ (by omega) _).mono ?_; rintro e w' ⟨rfl, rfl⟩)
          | (go_at_call 54; refine (HLS.out _).mono ?_; rintro e W8 ⟨rfl, hx⟩; have X8 := Lib.hid (X6.out.trans hx); clear hx; refine Hid.out ?_))
        refine Lib.hid ?_
        by_cases hts : 10 ≤ s
        · have q1 : 1000 * (w0 : Int) ≤ (r : Int) * (al : Int) := by rw [M1.out]; have := HP.out.2 hts; omega
          have Q1 := Lib.hid (decide_eq_true q1)
          go_wp2_with (go_at_call 20; refine (HWI.out _ _ _ (by omega) _).mono ?_; rintro e w' ⟨rfl, rfl⟩)
          go_ret
          exact ⟨(by first | rfl | exact ret_bool (by rw [Q1.out]; rfl) | exact ret_bool (by rw [Q1.out]; simp; omega) | exact ret_bool (by simp; omega)), X8.out⟩
        · have q1 : ¬ 1000 * (w0 : Int) ≤ (r : Int) * (al : Int) := fun h => hts (HP.out.1 (by rw [M1.out] at h; omega))
          have Q1 := Lib.hid (decide_eq_false q1)
          go_wp2_with (go_at_call 20; refine (HWI.out _ _ _ (by omega) _).mono ?_; rintro e w' ⟨rfl, rfl⟩)
          go_ret
          exact ⟨(by first | rfl | exact ret_bool (by rw [Q1.out]; rfl) | exact ret_bool (by rw [Q1.out]; simp; omega) | exact ret_bool (by simp; omega)), X8.out⟩
theorem counted_any (T h t r : Int) (w : World) :
    Calls Try.prog 10 #[.int .i64 T, .int .i64 h, .agg #[.int .i64 t, .int .i64 r]] w fun e w' => e = .returned (.bool true) ∧ Ext w w' := by
  by_cases hz : studyE T h = 0
  · cases ht : withinB t 0 10
    · exact counted_bad T h t r w (.inr (.inl ht))
    · by_cases hr : riskE r = 0
      · obtain ⟨o1, o2, o3, o4⟩ := study_ok hz
        have o5 := rangeE_zeros (show rangeE 0 999 [r] = 0 from hr) r (by simp)
        rw [withinB_eq] at ht
        have o6 := of_decide_eq_true ht
        have e1 : ((T.toNat : Nat) : Int) = T := Int.toNat_of_nonneg (by omega)
        have e2 : ((h.toNat : Nat) : Int) = h := Int.toNat_of_nonneg (by omega)
        have e3 : ((t.toNat : Nat) : Int) = t := Int.toNat_of_nonneg (by omega)
        have e4 : ((r.toNat : Nat) : Int) = r := Int.toNat_of_nonneg (by omega)
        have key : ∀ a b c d : Nat, 1 ≤ a → a ≤ 15 → b ≤ a → c ≤ 10 → d ≤ 999 → Calls Try.prog 10 #[.int .i64 (a : Int), .int .i64 (b : Int), .agg #[.int .i64 (c : Int), .int .i64 (d : Int)]] w fun e w' => e = .returned (.bool true) ∧ Ext w w' := fun a b c d h1 h2 h3 h4 h5 => by
          rcases Nat.eq_zero_or_pos b with hb | hb <;> rcases Nat.lt_or_ge c 10 with hc | hc
          · exact counted_zl a b c d w h1 h2 h3 h4 h5 hb hc
          · exact counted_ze a b c d w h1 h2 h3 h4 h5 hb (by omega)
          · exact counted_pl a b c d w h1 h2 h3 h4 h5 hb hc
          · exact counted_pe a b c d w h1 h2 h3 h4 h5 hb (by omega)
        have := key T.toNat h.toNat t.toNat r.toNat (by omega) (by omega) (by omega) (by omega) (by omega)
        rw [e1, e2, e3, e4] at this
        exact this
      · exact counted_bad T h t r w (.inr (.inr hr))
  · exact counted_bad T h t r w (.inl hz)

end Go.Proofs.Ytmddnpagfgilcaa
