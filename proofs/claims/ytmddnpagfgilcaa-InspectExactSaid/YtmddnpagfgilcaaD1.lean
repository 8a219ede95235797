/- InspectStudies. -/
import Derived.Test.YtmddnpagfgilcaaC5
import Derived.Lib.MinMax

namespace Go.Proofs.Ytmddnpagfgilcaa
open Go.RowKit Go.Shelf Go.Mem Go.RegInv
attribute [local go_sem] RelUpon_value RelUpon_skip RelUpon_enter BigFrame.eval_const BigFrame.eval_global BigFrame.eval_func


theorem waysE_eq {T h : Int} (t : Int) (hz : studyE T h = 0) : waysE T h t = if withinB t 0 10 = true then 0 else 2 := by
  unfold waysE
  rw [hz, rangeE_one]
  cases withinB t 0 10 <;> rfl
theorem waysE_bad {T h : Int} (t : Int) (hz : studyE T h ≠ 0) : waysE T h t = studyE T h := by
  unfold waysE
  rw [firstE, if_pos hz]
theorem lowE_eq {T h : Int} (r : Int) (hz : studyE T h = 0) : lowE T h r = riskE r := by
  unfold lowE
  rw [hz, firstE, if_neg (by simp), firstE_one]
theorem lowE_bad {T h : Int} (r : Int) (hz : studyE T h ≠ 0) : lowE T h r = studyE T h := by
  unfold lowE
  rw [firstE, if_pos hz]
set_option maxRecDepth 100000 in
set_option maxHeartbeats 4000000 in
theorem studies_bad (T h t r : Int) (w : World) (hz : studyE T h ≠ 0) :
    Calls Try.prog 9 #[.int .i64 T, .int .i64 h, .agg #[.int .i64 t, .int .i64 r]] w fun e w' => e = .returned (.bool true) ∧ Ext w w' := by
  have HWA := Lib.hid (fun W => show Calls Try.prog 53 #[.int .i64 T, .int .i64 h, .int .i64 t] W fun e w' => e = .returned (.tuple #[.int .i64 0, .int .i64 (studyE T h)]) ∧ Ext W w' from by
    have := waysOf_any T h t W
    unfold orErr at this
    rw [waysE_bad t hz, if_neg hz] at this
    exact this)
  have HLO := Lib.hid (fun W => show Calls Try.prog 54 #[.int .i64 T, .int .i64 h, .int .i64 r] W fun e w' => e = .returned (.tuple #[.int .i64 0, .int .i64 (studyE T h)]) ∧ Ext W w' from by
    have := lowerShare_any T h r W
    rw [lowF, lowG, lowE_bad r hz, if_neg hz, if_neg hz] at this
    exact this)
  have HST := Lib.hid (fun W => refStudyErr_any T h W)
  have hz2 : (studyE T h != 0) = true := by simp [hz]
  generalize studyE T h = z at *
  clear hz
  go_enter Try.func9, Try.ntmps9
  go_wp2_with (go_at_call 13; refine (awake_any _).mono ?_; rintro e W1 ⟨rfl, hx⟩; have X1 := Lib.hid ((Ext.alloc _ _).trans hx); have y0 : W1.cell? ⟨w.heap.size, 0, none⟩ = some (.int .i64 t) := hx.cell ((Blk.new w 52 #[.int .i64 t, .int .i64 r]).cell 0); have y1 : W1.cell? ⟨w.heap.size, 1, none⟩ = some (.int .i64 r) := hx.cell ((Blk.new w 52 #[.int .i64 t, .int .i64 r]).cell 1); clear hx; refine Hid.out ?_)
  refine Lib.hid ?_
  go_wp2
  refine wp_region_each [some 19, some 20, some 21, some 22, some 7, some 8] [[5], [19], [5], [21], [20], [22]]
    [Is (.pointer (some ⟨w.heap.size, 0, none⟩)), Is (.int .i64 (t)), Is (.pointer (some ⟨w.heap.size, 1, none⟩)), Is (.int .i64 (r)), Is (.int .i64 (t)), Is (.int .i64 (r))]
    (by kernel_rfl) (by kernel_rfl) (by kernel_rfl) (by kernel_rfl) (by kernel_rfl) Ext (fun W => Ext W1 W)
    (fun W _ => Ext.refl W) (fun W W' h k => h.trans k) ?_ (Ext.drew _) ?_ ?_
  · repeat (refine ⟨fun _ _ _ _ k h => (by first | exact h | exact (IntsAt.ext h k)), ?_⟩)
    exact trivial
  · refine ⟨?_, ?_, ?_, ?_, ?_, ?_, trivial⟩
    all_goals intro ρ W ⟨kc, kg, kf⟩ hF hs
    · obtain ⟨h0, -⟩ := hs
      replace h0 : ρ (.tmp 5) = .pointer (some ⟨w.heap.size, 0, none⟩) := h0
      go_simp
      exact ⟨Ext.refl _, rfl⟩
    · obtain ⟨h0, -⟩ := hs
      replace h0 : ρ (.tmp 19) = .pointer (some ⟨w.heap.size, 0, none⟩) := h0
      have hc0 : W.cell? ⟨w.heap.size, 0, none⟩ = some (.int .i64 (t)) := hF.cell (by assumption)
      go_simp
      exact ⟨Ext.refl _, rfl⟩
    · obtain ⟨h0, -⟩ := hs
      replace h0 : ρ (.tmp 5) = .pointer (some ⟨w.heap.size, 0, none⟩) := h0
      go_simp
      exact ⟨Ext.refl _, rfl⟩
    · obtain ⟨h0, -⟩ := hs
      replace h0 : ρ (.tmp 21) = .pointer (some ⟨w.heap.size, 1, none⟩) := h0
      have hc0 : W.cell? ⟨w.heap.size, 1, none⟩ = some (.int .i64 (r)) := hF.cell (by assumption)
      go_simp
      exact ⟨Ext.refl _, rfl⟩
    · obtain ⟨h0, -⟩ := hs
      replace h0 : ρ (.tmp 20) = .int .i64 (t) := h0
      go_simp
      exact ⟨Ext.refl _, rfl⟩
    · obtain ⟨h0, -⟩ := hs
      replace h0 : ρ (.tmp 22) = .int .i64 (r) := h0
      go_simp
      exact ⟨Ext.refl _, rfl⟩
  · intro fv W hF hs
    obtain ⟨-, -, -, -, h7, h8, -⟩ := hs
    replace h7 : fv 7 = .int .i64 (t) := h7
    replace h8 : fv 8 = .int .i64 (r) := h8
    simp only [fin, List.filterMap]
    go_simp
    have X2 := Lib.hid (X1.out.trans hF)
    clear hF y0 y1
    go_wp2_with (go_at_call 53; refine (HWA.out _).mono ?_; rintro e W3 ⟨rfl, hx⟩; have X3 := Lib.hid (X2.out.trans hx); clear hx; refine Hid.out ?_)
    refine Lib.hid ?_
    go_wp2_with (go_at_call 54; refine (HLO.out _).mono ?_; rintro e W4 ⟨rfl, hx⟩; have X4 := Lib.hid (X3.out.trans hx); clear hx; refine Hid.out ?_)
    refine Lib.hid ?_
    go_wp2_with (go_at_call 55; refine (HST.out _).mono ?_; rintro e w' ⟨rfl, rfl⟩)
    go_ret
    exact ⟨rfl, X4.out⟩
set_option maxRecDepth 100000 in
set_option maxHeartbeats 4000000 in
theorem studies_tb (T h t r : Int) (w : World) (hz : studyE T h = 0) (ht : withinB t 0 10 = true) (hr : riskE r ≠ 0) :
    Calls Try.prog 9 #[.int .i64 T, .int .i64 h, .agg #[.int .i64 t, .int .i64 r]] w fun e w' => e = .returned (.bool true) ∧ Ext w w' := by
  have HWA := Lib.hid (fun W => show Calls Try.prog 53 #[.int .i64 T, .int .i64 h, .int .i64 t] W fun e w' => e = .returned (.tuple #[.int .i64 (waysV T h t), .int .i64 0]) ∧ Ext W w' from by
    have := waysOf_any T h t W
    unfold orErr at this
    rw [show waysE T h t = 0 by rw [waysE_eq t hz, ht]; rfl] at this; rw [if_pos rfl] at this
    exact this)
  have HLO := Lib.hid (fun W => show Calls Try.prog 54 #[.int .i64 T, .int .i64 h, .int .i64 r] W fun e w' => e = .returned (.tuple #[.int .i64 0, .int .i64 (riskE r)]) ∧ Ext W w' from by
    have := lowerShare_any T h r W
    rw [lowF, lowG, lowE_eq r hz, if_neg hr, if_neg hr] at this
    exact this)
  have HST := Lib.hid (fun W => show Calls Try.prog 55 #[.int .i64 T, .int .i64 h] W fun e w' => e = .returned (.int .i64 0) ∧ W = w' from by
    have := refStudyErr_any T h W
    rw [hz] at this
    exact this)
  have HRI := Lib.hid (fun W => refRiskErr_any r W)
  have HWI := Lib.hid (fun W => within_any t 0 10 W)
  rw [ht] at HWI
  obtain ⟨o1, o2, o3, o4⟩ := study_ok hz
  have HRW := Lib.hid (fun W => show Calls Try.prog 56 #[.int .i64 T, .int .i64 h, .int .i64 t] W fun e w' => e = .returned (.int .i64 (waysV T h t)) ∧ Ext W w' from by
    rw [withinB_eq] at ht
    have ht2 := of_decide_eq_true ht
    have := refWays_any T.toNat h.toNat t.toNat (by omega) (by omega) (by omega) W
    rw [Int.toNat_of_nonneg (by omega), Int.toNat_of_nonneg (by omega), Int.toNat_of_nonneg (by omega)] at this
    exact this)
  have hr2 : (riskE r != 0) = true := by simp [hr]
  generalize riskE r = z at *
  generalize waysV T h t = v at *
  clear hz ht hr o1 o2 o3 o4
  go_enter Try.func9, Try.ntmps9
  go_wp2_with (go_at_call 13; refine (awake_any _).mono ?_; rintro e W1 ⟨rfl, hx⟩; have X1 := Lib.hid ((Ext.alloc _ _).trans hx); have y0 : W1.cell? ⟨w.heap.size, 0, none⟩ = some (.int .i64 t) := hx.cell ((Blk.new w 52 #[.int .i64 t, .int .i64 r]).cell 0); have y1 : W1.cell? ⟨w.heap.size, 1, none⟩ = some (.int .i64 r) := hx.cell ((Blk.new w 52 #[.int .i64 t, .int .i64 r]).cell 1); clear hx; refine Hid.out ?_)
  refine Lib.hid ?_
  go_wp2
  refine wp_region_each [some 19, some 20, some 21, some 22, some 7, some 8] [[5], [19], [5], [21], [20], [22]]
    [Is (.pointer (some ⟨w.heap.size, 0, none⟩)), Is (.int .i64 (t)), Is (.pointer (some ⟨w.heap.size, 1, none⟩)), Is (.int .i64 (r)), Is (.int .i64 (t)), Is (.int .i64 (r))]
    (by kernel_rfl) (by kernel_rfl) (by kernel_rfl) (by kernel_rfl) (by kernel_rfl) Ext (fun W => Ext W1 W)
    (fun W _ => Ext.refl W) (fun W W' h k => h.trans k) ?_ (Ext.drew _) ?_ ?_
  · repeat (refine ⟨fun _ _ _ _ k h => (by first | exact h | exact (IntsAt.ext h k)), ?_⟩)
    exact trivial
  · refine ⟨?_, ?_, ?_, ?_, ?_, ?_, trivial⟩
    all_goals intro ρ W ⟨kc, kg, kf⟩ hF hs
    · obtain ⟨h0, -⟩ := hs
      replace h0 : ρ (.tmp 5) = .pointer (some ⟨w.heap.size, 0, none⟩) := h0
      go_simp
      exact ⟨Ext.refl _, rfl⟩
    · obtain ⟨h0, -⟩ := hs
      replace h0 : ρ (.tmp 19) = .pointer (some ⟨w.heap.size, 0, none⟩) := h0
      have hc0 : W.cell? ⟨w.heap.size, 0, none⟩ = some (.int .i64 (t)) := hF.cell (by assumption)
      go_simp
      exact ⟨Ext.refl _, rfl⟩
    · obtain ⟨h0, -⟩ := hs
      replace h0 : ρ (.tmp 5) = .pointer (some ⟨w.heap.size, 0, none⟩) := h0
      go_simp
      exact ⟨Ext.refl _, rfl⟩
    · obtain ⟨h0, -⟩ := hs
      replace h0 : ρ (.tmp 21) = .pointer (some ⟨w.heap.size, 1, none⟩) := h0
      have hc0 : W.cell? ⟨w.heap.size, 1, none⟩ = some (.int .i64 (r)) := hF.cell (by assumption)
      go_simp
      exact ⟨Ext.refl _, rfl⟩
    · obtain ⟨h0, -⟩ := hs
      replace h0 : ρ (.tmp 20) = .int .i64 (t) := h0
      go_simp
      exact ⟨Ext.refl _, rfl⟩
    · obtain ⟨h0, -⟩ := hs
      replace h0 : ρ (.tmp 22) = .int .i64 (r) := h0
      go_simp
      exact ⟨Ext.refl _, rfl⟩
  · intro fv W hF hs
    obtain ⟨-, -, -, -, h7, h8, -⟩ := hs
    replace h7 : fv 7 = .int .i64 (t) := h7
    replace h8 : fv 8 = .int .i64 (r) := h8
    simp only [fin, List.filterMap]
    go_simp
    have X2 := Lib.hid (X1.out.trans hF)
    clear hF y0 y1
    go_wp2_with (go_at_call 53; refine (HWA.out _).mono ?_; rintro e W3 ⟨rfl, hx⟩; have X3 := Lib.hid (X2.out.trans hx); clear hx; refine Hid.out ?_)
    refine Lib.hid ?_
    go_wp2_with (go_at_call 54; refine (HLO.out _).mono ?_; rintro e W4 ⟨rfl, hx⟩; have X4 := Lib.hid (X3.out.trans hx); clear hx; refine Hid.out ?_)
    refine Lib.hid ?_
    go_wp2_with (first
      | (go_at_call 55; refine (HST.out _).mono ?_; rintro e w' ⟨rfl, rfl⟩)
      | (go_at_call 20; refine (HWI.out _).mono ?_; rintro e w' ⟨rfl, rfl⟩)
      | (go_at_call 56; refine (HRW.out _).mono ?_; rintro e W5 ⟨rfl, hx⟩; have X5 := Lib.hid (X4.out.trans hx); clear hx; refine Hid.out ?_))
    refine Lib.hid ?_
    go_wp2_with (first
      | (go_at_call 57; refine (HRI.out _).mono ?_; rintro e w' ⟨rfl, rfl⟩))
    go_ret
    exact ⟨rfl, X5.out⟩
set_option maxRecDepth 100000 in
set_option maxHeartbeats 4000000 in
theorem studies_ts (T h t r : Int) (w : World) (hz : studyE T h = 0) (ht : withinB t 0 10 = true) (hr : riskE r = 0) (s : Nat) (hs : lowS T h r = some s) :
    Calls Try.prog 9 #[.int .i64 T, .int .i64 h, .agg #[.int .i64 t, .int .i64 r]] w fun e w' => e = .returned (.bool true) ∧ Ext w w' := by
  have HWA := Lib.hid (fun W => show Calls Try.prog 53 #[.int .i64 T, .int .i64 h, .int .i64 t] W fun e w' => e = .returned (.tuple #[.int .i64 (waysV T h t), .int .i64 0]) ∧ Ext W w' from by
    have := waysOf_any T h t W
    unfold orErr at this
    rw [show waysE T h t = 0 by rw [waysE_eq t hz, ht]; rfl] at this; rw [if_pos rfl] at this
    exact this)
  have HLO := Lib.hid (fun W => show Calls Try.prog 54 #[.int .i64 T, .int .i64 h, .int .i64 r] W fun e w' => e = .returned (.tuple #[.int .i64 (s : Int), .int .i64 0]) ∧ Ext W w' from by
    have := lowerShare_any T h r W
    rw [lowF, lowG, lowE_eq r hz, if_pos hr, if_pos hr, hs] at this
    exact this)
  have HST := Lib.hid (fun W => show Calls Try.prog 55 #[.int .i64 T, .int .i64 h] W fun e w' => e = .returned (.int .i64 0) ∧ W = w' from by
    have := refStudyErr_any T h W
    rw [hz] at this
    exact this)
  have HRI := Lib.hid (fun W => refRiskErr_any r W)
  have HWI := Lib.hid (fun W => within_any t 0 10 W)
  rw [ht] at HWI
  obtain ⟨o1, o2, o3, o4⟩ := study_ok hz
  have HRW := Lib.hid (fun W => show Calls Try.prog 56 #[.int .i64 T, .int .i64 h, .int .i64 t] W fun e w' => e = .returned (.int .i64 (waysV T h t)) ∧ Ext W w' from by
    rw [withinB_eq] at ht
    have ht2 := of_decide_eq_true ht
    have := refWays_any T.toNat h.toNat t.toNat (by omega) (by omega) (by omega) W
    rw [Int.toNat_of_nonneg (by omega), Int.toNat_of_nonneg (by omega), Int.toNat_of_nonneg (by omega)] at this
    exact this)
  have HSH := Lib.hid (fun W => show Calls Try.prog 58 #[.int .i64 T, .int .i64 h, .int .i64 r] W fun e w' => e = .returned (.tuple #[.int .i64 (s : Int), .bool true]) ∧ Ext W w' from by
    have o5 := rangeE_zeros (show rangeE 0 999 [r] = 0 from hr) r (by simp)
    have := refShare_any T.toNat h.toNat r.toNat (by omega) (by omega) (by omega) W
    rw [Int.toNat_of_nonneg (by omega), Int.toNat_of_nonneg (by omega), Int.toNat_of_nonneg (by omega)] at this
    rw [show shr T.toNat h.toNat r.toNat 10 = some s from hs] at this
    exact this)
  rw [hr] at HRI
  generalize waysV T h t = v at *
  clear hz ht hr hs o1 o2 o3 o4
  go_enter Try.func9, Try.ntmps9
  go_wp2_with (go_at_call 13; refine (awake_any _).mono ?_; rintro e W1 ⟨rfl, hx⟩; have X1 := Lib.hid ((Ext.alloc _ _).trans hx); have y0 : W1.cell? ⟨w.heap.size, 0, none⟩ = some (.int .i64 t) := hx.cell ((Blk.new w 52 #[.int .i64 t, .int .i64 r]).cell 0); have y1 : W1.cell? ⟨w.heap.size, 1, none⟩ = some (.int .i64 r) := hx.cell ((Blk.new w 52 #[.int .i64 t, .int .i64 r]).cell 1); clear hx; refine Hid.out ?_)
  refine Lib.hid ?_
  go_wp2
  refine wp_region_each [some 19, some 20, some 21, some 22, some 7, some 8] [[5], [19], [5], [21], [20], [22]]
    [Is (.pointer (some ⟨w.heap.size, 0, none⟩)), Is (.int .i64 (t)), Is (.pointer (some ⟨w.heap.size, 1, none⟩)), Is (.int .i64 (r)), Is (.int .i64 (t)), Is (.int .i64 (r))]
    (by kernel_rfl) (by kernel_rfl) (by kernel_rfl) (by kernel_rfl) (by kernel_rfl) Ext (fun W => Ext W1 W)
    (fun W _ => Ext.refl W) (fun W W' h k => h.trans k) ?_ (Ext.drew _) ?_ ?_
  · repeat (refine ⟨fun _ _ _ _ k h => (by first | exact h | exact (IntsAt.ext h k)), ?_⟩)
    exact trivial
  · refine ⟨?_, ?_, ?_, ?_, ?_, ?_, trivial⟩
    all_goals intro ρ W ⟨kc, kg, kf⟩ hF hs
    · obtain ⟨h0, -⟩ := hs
      replace h0 : ρ (.tmp 5) = .pointer (some ⟨w.heap.size, 0, none⟩) := h0
      go_simp
      exact ⟨Ext.refl _, rfl⟩
    · obtain ⟨h0, -⟩ := hs
      replace h0 : ρ (.tmp 19) = .pointer (some ⟨w.heap.size, 0, none⟩) := h0
      have hc0 : W.cell? ⟨w.heap.size, 0, none⟩ = some (.int .i64 (t)) := hF.cell (by assumption)
      go_simp
      exact ⟨Ext.refl _, rfl⟩
    · obtain ⟨h0, -⟩ := hs
      replace h0 : ρ (.tmp 5) = .pointer (some ⟨w.heap.size, 0, none⟩) := h0
      go_simp
      exact ⟨Ext.refl _, rfl⟩
    · obtain ⟨h0, -⟩ := hs
      replace h0 : ρ (.tmp 21) = .pointer (some ⟨w.heap.size, 1, none⟩) := h0
      have hc0 : W.cell? ⟨w.heap.size, 1, none⟩ = some (.int .i64 (r)) := hF.cell (by assumption)
      go_simp
      exact ⟨Ext.refl _, rfl⟩
    · obtain ⟨h0, -⟩ := hs
      replace h0 : ρ (.tmp 20) = .int .i64 (t) := h0
      go_simp
      exact ⟨Ext.refl _, rfl⟩
    · obtain ⟨h0, -⟩ := hs
      replace h0 : ρ (.tmp 22) = .int .i64 (r) := h0
      go_simp
      exact ⟨Ext.refl _, rfl⟩
  · intro fv W hF hs
    obtain ⟨-, -, -, -, h7, h8, -⟩ := hs
    replace h7 : fv 7 = .int .i64 (t) := h7
    replace h8 : fv 8 = .int .i64 (r) := h8
    simp only [fin, List.filterMap]
    go_simp
    have X2 := Lib.hid (X1.out.trans hF)
    clear hF y0 y1
    go_wp2_with (go_at_call 53; refine (HWA.out _).mono ?_; rintro e W3 ⟨rfl, hx⟩; have X3 := Lib.hid (X2.out.trans hx); clear hx; refine Hid.out ?_)
    refine Lib.hid ?_
    go_wp2_with (go_at_call 54; refine (HLO.out _).mono ?_; rintro e W4 ⟨rfl, hx⟩; have X4 := Lib.hid (X3.out.trans hx); clear hx; refine Hid.out ?_)
    refine Lib.hid ?_
    go_wp2_with (first
      | (go_at_call 55; refine (HST.out _).mono ?_; rintro e w' ⟨rfl, rfl⟩)
      | (go_at_call 20; refine (HWI.out _).mono ?_; rintro e w' ⟨rfl, rfl⟩)
      | (go_at_call 56; refine (HRW.out _).mono ?_; rintro e W5 ⟨rfl, hx⟩; have X5 := Lib.hid (X4.out.trans hx); clear hx; refine Hid.out ?_))
    refine Lib.hid ?_
    go_wp2_with (first
      | (go_at_call 57; refine (HRI.out _).mono ?_; rintro e w' ⟨rfl, rfl⟩)
      | (go_at_call 58; refine (HSH.out _).mono ?_; rintro e W6 ⟨rfl, hx⟩; have X6 := Lib.hid ((X5.out).trans hx); clear hx))
    go_ret
    exact ⟨rfl, X6.out⟩
set_option maxRecDepth 100000 in
set_option maxHeartbeats 4000000 in
theorem studies_tn (T h t r : Int) (w : World) (hz : studyE T h = 0) (ht : withinB t 0 10 = true) (hr : riskE r = 0) (hs : lowS T h r = none) :
    Calls Try.prog 9 #[.int .i64 T, .int .i64 h, .agg #[.int .i64 t, .int .i64 r]] w fun e w' => e = .returned (.bool true) ∧ Ext w w' := by
  have HWA := Lib.hid (fun W => show Calls Try.prog 53 #[.int .i64 T, .int .i64 h, .int .i64 t] W fun e w' => e = .returned (.tuple #[.int .i64 (waysV T h t), .int .i64 0]) ∧ Ext W w' from by
    have := waysOf_any T h t W
    unfold orErr at this
    rw [show waysE T h t = 0 by rw [waysE_eq t hz, ht]; rfl] at this; rw [if_pos rfl] at this
    exact this)
  have HLO := Lib.hid (fun W => show Calls Try.prog 54 #[.int .i64 T, .int .i64 h, .int .i64 r] W fun e w' => e = .returned (.tuple #[.int .i64 0, .int .i64 12]) ∧ Ext W w' from by
    have := lowerShare_any T h r W
    rw [lowF, lowG, lowE_eq r hz, if_pos hr, if_pos hr, hs] at this
    exact this)
  have HST := Lib.hid (fun W => show Calls Try.prog 55 #[.int .i64 T, .int .i64 h] W fun e w' => e = .returned (.int .i64 0) ∧ W = w' from by
    have := refStudyErr_any T h W
    rw [hz] at this
    exact this)
  have HRI := Lib.hid (fun W => refRiskErr_any r W)
  have HWI := Lib.hid (fun W => within_any t 0 10 W)
  rw [ht] at HWI
  obtain ⟨o1, o2, o3, o4⟩ := study_ok hz
  have HRW := Lib.hid (fun W => show Calls Try.prog 56 #[.int .i64 T, .int .i64 h, .int .i64 t] W fun e w' => e = .returned (.int .i64 (waysV T h t)) ∧ Ext W w' from by
    rw [withinB_eq] at ht
    have ht2 := of_decide_eq_true ht
    have := refWays_any T.toNat h.toNat t.toNat (by omega) (by omega) (by omega) W
    rw [Int.toNat_of_nonneg (by omega), Int.toNat_of_nonneg (by omega), Int.toNat_of_nonneg (by omega)] at this
    exact this)
  have HSH := Lib.hid (fun W => show Calls Try.prog 58 #[.int .i64 T, .int .i64 h, .int .i64 r] W fun e w' => e = .returned (.tuple #[.int .i64 0, .bool false]) ∧ Ext W w' from by
    have o5 := rangeE_zeros (show rangeE 0 999 [r] = 0 from hr) r (by simp)
    have := refShare_any T.toNat h.toNat r.toNat (by omega) (by omega) (by omega) W
    rw [Int.toNat_of_nonneg (by omega), Int.toNat_of_nonneg (by omega), Int.toNat_of_nonneg (by omega)] at this
    rw [show shr T.toNat h.toNat r.toNat 10 = none from hs] at this
    exact this)
  rw [hr] at HRI
  generalize waysV T h t = v at *
  clear hz ht hr hs o1 o2 o3 o4
  go_enter Try.func9, Try.ntmps9
  go_wp2_with (go_at_call 13; refine (awake_any _).mono ?_; rintro e W1 ⟨rfl, hx⟩; have X1 := Lib.hid ((Ext.alloc _ _).trans hx); have y0 : W1.cell? ⟨w.heap.size, 0, none⟩ = some (.int .i64 t) := hx.cell ((Blk.new w 52 #[.int .i64 t, .int .i64 r]).cell 0); have y1 : W1.cell? ⟨w.heap.size, 1, none⟩ = some (.int .i64 r) := hx.cell ((Blk.new w 52 #[.int .i64 t, .int .i64 r]).cell 1); clear hx; refine Hid.out ?_)
  refine Lib.hid ?_
  go_wp2
  refine wp_region_each [some 19, some 20, some 21, some 22, some 7, some 8] [[5], [19], [5], [21], [20], [22]]
    [Is (.pointer (some ⟨w.heap.size, 0, none⟩)), Is (.int .i64 (t)), Is (.pointer (some ⟨w.heap.size, 1, none⟩)), Is (.int .i64 (r)), Is (.int .i64 (t)), Is (.int .i64 (r))]
    (by kernel_rfl) (by kernel_rfl) (by kernel_rfl) (by kernel_rfl) (by kernel_rfl) Ext (fun W => Ext W1 W)
    (fun W _ => Ext.refl W) (fun W W' h k => h.trans k) ?_ (Ext.drew _) ?_ ?_
  · repeat (refine ⟨fun _ _ _ _ k h => (by first | exact h | exact (IntsAt.ext h k)), ?_⟩)
    exact trivial
  · refine ⟨?_, ?_, ?_, ?_, ?_, ?_, trivial⟩
    all_goals intro ρ W ⟨kc, kg, kf⟩ hF hs
    · obtain ⟨h0, -⟩ := hs
      replace h0 : ρ (.tmp 5) = .pointer (some ⟨w.heap.size, 0, none⟩) := h0
      go_simp
      exact ⟨Ext.refl _, rfl⟩
    · obtain ⟨h0, -⟩ := hs
      replace h0 : ρ (.tmp 19) = .pointer (some ⟨w.heap.size, 0, none⟩) := h0
      have hc0 : W.cell? ⟨w.heap.size, 0, none⟩ = some (.int .i64 (t)) := hF.cell (by assumption)
      go_simp
      exact ⟨Ext.refl _, rfl⟩
    · obtain ⟨h0, -⟩ := hs
      replace h0 : ρ (.tmp 5) = .pointer (some ⟨w.heap.size, 0, none⟩) := h0
      go_simp
      exact ⟨Ext.refl _, rfl⟩
    · obtain ⟨h0, -⟩ := hs
      replace h0 : ρ (.tmp 21) = .pointer (some ⟨w.heap.size, 1, none⟩) := h0
      have hc0 : W.cell? ⟨w.heap.size, 1, none⟩ = some (.int .i64 (r)) := hF.cell (by assumption)
      go_simp
      exact ⟨Ext.refl _, rfl⟩
    · obtain ⟨h0, -⟩ := hs
      replace h0 : ρ (.tmp 20) = .int .i64 (t) := h0
      go_simp
      exact ⟨Ext.refl _, rfl⟩
    · obtain ⟨h0, -⟩ := hs
      replace h0 : ρ (.tmp 22) = .int .i64 (r) := h0
      go_simp
      exact ⟨Ext.refl _, rfl⟩
  · intro fv W hF hs
    obtain ⟨-, -, -, -, h7, h8, -⟩ := hs
    replace h7 : fv 7 = .int .i64 (t) := h7
    replace h8 : fv 8 = .int .i64 (r) := h8
    simp only [fin, List.filterMap]
    go_simp
    have X2 := Lib.hid (X1.out.trans hF)
    clear hF y0 y1
    go_wp2_with (go_at_call 53; refine (HWA.out _).mono ?_; rintro e W3 ⟨rfl, hx⟩; have X3 := Lib.hid (X2.out.trans hx); clear hx; refine Hid.out ?_)
    refine Lib.hid ?_
    go_wp2_with (go_at_call 54; refine (HLO.out _).mono ?_; rintro e W4 ⟨rfl, hx⟩; have X4 := Lib.hid (X3.out.trans hx); clear hx; refine Hid.out ?_)
    refine Lib.hid ?_
    go_wp2_with (first
      | (go_at_call 55; refine (HST.out _).mono ?_; rintro e w' ⟨rfl, rfl⟩)
      | (go_at_call 20; refine (HWI.out _).mono ?_; rintro e w' ⟨rfl, rfl⟩)
      | (go_at_call 56; refine (HRW.out _).mono ?_; rintro e W5 ⟨rfl, hx⟩; have X5 := Lib.hid (X4.out.trans hx); clear hx; refine Hid.out ?_))
    refine Lib.hid ?_
    go_wp2_with (first
      | (go_at_call 57; refine (HRI.out _).mono ?_; rintro e w' ⟨rfl, rfl⟩)
      | (go_at_call 58; refine (HSH.out _).mono ?_; rintro e W6 ⟨rfl, hx⟩; have X6 := Lib.hid ((X5.out).trans hx); clear hx))
    go_ret
    exact ⟨rfl, X6.out⟩
set_option maxRecDepth 100000 in
set_option maxHeartbeats 4000000 in
theorem studies_fb (T h t r : Int) (w : World) (hz : studyE T h = 0) (ht : withinB t 0 10 = false) (hr : riskE r ≠ 0) :
    Calls Try.prog 9 #[.int .i64 T, .int .i64 h, .agg #[.int .i64 t, .int .i64 r]] w fun e w' => e = .returned (.bool true) ∧ Ext w w' := by
  have HWA := Lib.hid (fun W => show Calls Try.prog 53 #[.int .i64 T, .int .i64 h, .int .i64 t] W fun e w' => e = .returned (.tuple #[.int .i64 0, .int .i64 2]) ∧ Ext W w' from by
    have := waysOf_any T h t W
    unfold orErr at this
    rw [show waysE T h t = 2 by rw [waysE_eq t hz, ht]; rfl] at this; rw [if_neg (by decide)] at this
    exact this)
  have HLO := Lib.hid (fun W => show Calls Try.prog 54 #[.int .i64 T, .int .i64 h, .int .i64 r] W fun e w' => e = .returned (.tuple #[.int .i64 0, .int .i64 (riskE r)]) ∧ Ext W w' from by
    have := lowerShare_any T h r W
    rw [lowF, lowG, lowE_eq r hz, if_neg hr, if_neg hr] at this
    exact this)
  have HST := Lib.hid (fun W => show Calls Try.prog 55 #[.int .i64 T, .int .i64 h] W fun e w' => e = .returned (.int .i64 0) ∧ W = w' from by
    have := refStudyErr_any T h W
    rw [hz] at this
    exact this)
  have HRI := Lib.hid (fun W => refRiskErr_any r W)
  have HWI := Lib.hid (fun W => within_any t 0 10 W)
  rw [ht] at HWI
  obtain ⟨o1, o2, o3, o4⟩ := study_ok hz
  have hr2 : (riskE r != 0) = true := by simp [hr]
  generalize riskE r = z at *
  clear hz ht hr o1 o2 o3 o4
  go_enter Try.func9, Try.ntmps9
  go_wp2_with (go_at_call 13; refine (awake_any _).mono ?_; rintro e W1 ⟨rfl, hx⟩; have X1 := Lib.hid ((Ext.alloc _ _).trans hx); have y0 : W1.cell? ⟨w.heap.size, 0, none⟩ = some (.int .i64 t) := hx.cell ((Blk.new w 52 #[.int .i64 t, .int .i64 r]).cell 0); have y1 : W1.cell? ⟨w.heap.size, 1, none⟩ = some (.int .i64 r) := hx.cell ((Blk.new w 52 #[.int .i64 t, .int .i64 r]).cell 1); clear hx; refine Hid.out ?_)
  refine Lib.hid ?_
  go_wp2
  refine wp_region_each [some 19, some 20, some 21, some 22, some 7, some 8] [[5], [19], [5], [21], [20], [22]]
    [Is (.pointer (some ⟨w.heap.size, 0, none⟩)), Is (.int .i64 (t)), Is (.pointer (some ⟨w.heap.size, 1, none⟩)), Is (.int .i64 (r)), Is (.int .i64 (t)), Is (.int .i64 (r))]
    (by kernel_rfl) (by kernel_rfl) (by kernel_rfl) (by kernel_rfl) (by kernel_rfl) Ext (fun W => Ext W1 W)
    (fun W _ => Ext.refl W) (fun W W' h k => h.trans k) ?_ (Ext.drew _) ?_ ?_
  · repeat (refine ⟨fun _ _ _ _ k h => (by first | exact h | exact (IntsAt.ext h k)), ?_⟩)
    exact trivial
  · refine ⟨?_, ?_, ?_, ?_, ?_, ?_, trivial⟩
    all_goals intro ρ W ⟨kc, kg, kf⟩ hF hs
    · obtain ⟨h0, -⟩ := hs
      replace h0 : ρ (.tmp 5) = .pointer (some ⟨w.heap.size, 0, none⟩) := h0
      go_simp
      exact ⟨Ext.refl _, rfl⟩
    · obtain ⟨h0, -⟩ := hs
      replace h0 : ρ (.tmp 19) = .pointer (some ⟨w.heap.size, 0, none⟩) := h0
      have hc0 : W.cell? ⟨w.heap.size, 0, none⟩ = some (.int .i64 (t)) := hF.cell (by assumption)
      go_simp
      exact ⟨Ext.refl _, rfl⟩
    · obtain ⟨h0, -⟩ := hs
      replace h0 : ρ (.tmp 5) = .pointer (some ⟨w.heap.size, 0, none⟩) := h0
      go_simp
      exact ⟨Ext.refl _, rfl⟩
    · obtain ⟨h0, -⟩ := hs
      replace h0 : ρ (.tmp 21) = .pointer (some ⟨w.heap.size, 1, none⟩) := h0
      have hc0 : W.cell? ⟨w.heap.size, 1, none⟩ = some (.int .i64 (r)) := hF.cell (by assumption)
      go_simp
      exact ⟨Ext.refl _, rfl⟩
    · obtain ⟨h0, -⟩ := hs
      replace h0 : ρ (.tmp 20) = .int .i64 (t) := h0
      go_simp
      exact ⟨Ext.refl _, rfl⟩
    · obtain ⟨h0, -⟩ := hs
      replace h0 : ρ (.tmp 22) = .int .i64 (r) := h0
      go_simp
      exact ⟨Ext.refl _, rfl⟩
  · intro fv W hF hs
    obtain ⟨-, -, -, -, h7, h8, -⟩ := hs
    replace h7 : fv 7 = .int .i64 (t) := h7
    replace h8 : fv 8 = .int .i64 (r) := h8
    simp only [fin, List.filterMap]
    go_simp
    have X2 := Lib.hid (X1.out.trans hF)
    clear hF y0 y1
    go_wp2_with (go_at_call 53; refine (HWA.out _).mono ?_; rintro e W3 ⟨rfl, hx⟩; have X3 := Lib.hid (X2.out.trans hx); clear hx; refine Hid.out ?_)
    refine Lib.hid ?_
    go_wp2_with (go_at_call 54; refine (HLO.out _).mono ?_; rintro e W4 ⟨rfl, hx⟩; have X4 := Lib.hid (X3.out.trans hx); clear hx; refine Hid.out ?_)
    refine Lib.hid ?_
    go_wp2_with (first
      | (go_at_call 55; refine (HST.out _).mono ?_; rintro e w' ⟨rfl, rfl⟩)
      | (go_at_call 20; refine (HWI.out _).mono ?_; rintro e w' ⟨rfl, rfl⟩)
      | (go_at_call 57; refine (HRI.out _).mono ?_; rintro e w' ⟨rfl, rfl⟩))
    go_ret
    exact ⟨rfl, X4.out⟩
set_option maxRecDepth 100000 in
set_option maxHeartbeats 4000000 in
theorem studies_fs (T h t r : Int) (w : World) (hz : studyE T h = 0) (ht : withinB t 0 10 = false) (hr : riskE r = 0) (s : Nat) (hs : lowS T h r = some s) :
    Calls Try.prog 9 #[.int .i64 T, .int .i64 h, .agg #[.int .i64 t, .int .i64 r]] w fun e w' => e = .returned (.bool true) ∧ Ext w w' := by
  have HWA := Lib.hid (fun W => show Calls Try.prog 53 #[.int .i64 T, .int .i64 h, .int .i64 t] W fun e w' => e = .returned (.tuple #[.int .i64 0, .int .i64 2]) ∧ Ext W w' from by
    have := waysOf_any T h t W
    unfold orErr at this
    rw [show waysE T h t = 2 by rw [waysE_eq t hz, ht]; rfl] at this; rw [if_neg (by decide)] at this
    exact this)
  have HLO := Lib.hid (fun W => show Calls Try.prog 54 #[.int .i64 T, .int .i64 h, .int .i64 r] W fun e w' => e = .returned (.tuple #[.int .i64 (s : Int), .int .i64 0]) ∧ Ext W w' from by
    have := lowerShare_any T h r W
    rw [lowF, lowG, lowE_eq r hz, if_pos hr, if_pos hr, hs] at this
    exact this)
  have HST := Lib.hid (fun W => show Calls Try.prog 55 #[.int .i64 T, .int .i64 h] W fun e w' => e = .returned (.int .i64 0) ∧ W = w' from by
    have := refStudyErr_any T h W
    rw [hz] at this
    exact this)
  have HRI := Lib.hid (fun W => refRiskErr_any r W)
  have HWI := Lib.hid (fun W => within_any t 0 10 W)
  rw [ht] at HWI
  obtain ⟨o1, o2, o3, o4⟩ := study_ok hz
  have HSH := Lib.hid (fun W => show Calls Try.prog 58 #[.int .i64 T, .int .i64 h, .int .i64 r] W fun e w' => e = .returned (.tuple #[.int .i64 (s : Int), .bool true]) ∧ Ext W w' from by
    have o5 := rangeE_zeros (show rangeE 0 999 [r] = 0 from hr) r (by simp)
    have := refShare_any T.toNat h.toNat r.toNat (by omega) (by omega) (by omega) W
    rw [Int.toNat_of_nonneg (by omega), Int.toNat_of_nonneg (by omega), Int.toNat_of_nonneg (by omega)] at this
    rw [show shr T.toNat h.toNat r.toNat 10 = some s from hs] at this
    exact this)
  rw [hr] at HRI
  clear hz ht hr hs o1 o2 o3 o4
  go_enter Try.func9, Try.ntmps9
  go_wp2_with (go_at_call 13; refine (awake_any _).mono ?_; rintro e W1 ⟨rfl, hx⟩; have X1 := Lib.hid ((Ext.alloc _ _).trans hx); have y0 : W1.cell? ⟨w.heap.size, 0, none⟩ = some (.int .i64 t) := hx.cell ((Blk.new w 52 #[.int .i64 t, .int .i64 r]).cell 0); have y1 : W1.cell? ⟨w.heap.size, 1, none⟩ = some (.int .i64 r) := hx.cell ((Blk.new w 52 #[.int .i64 t, .int .i64 r]).cell 1); clear hx; refine Hid.out ?_)
  refine Lib.hid ?_
  go_wp2
  refine wp_region_each [some 19, some 20, some 21, some 22, some 7, some 8] [[5], [19], [5], [21], [20], [22]]
    [Is (.pointer (some ⟨w.heap.size, 0, none⟩)), Is (.int .i64 (t)), Is (.pointer (some ⟨w.heap.size, 1, none⟩)), Is (.int .i64 (r)), Is (.int .i64 (t)), Is (.int .i64 (r))]
    (by kernel_rfl) (by kernel_rfl) (by kernel_rfl) (by kernel_rfl) (by kernel_rfl) Ext (fun W => Ext W1 W)
    (fun W _ => Ext.refl W) (fun W W' h k => h.trans k) ?_ (Ext.drew _) ?_ ?_
  · repeat (refine ⟨fun _ _ _ _ k h => (by first | exact h | exact (IntsAt.ext h k)), ?_⟩)
    exact trivial
  · refine ⟨?_, ?_, ?_, ?_, ?_, ?_, trivial⟩
    all_goals intro ρ W ⟨kc, kg, kf⟩ hF hs
    · obtain ⟨h0, -⟩ := hs
      replace h0 : ρ (.tmp 5) = .pointer (some ⟨w.heap.size, 0, none⟩) := h0
      go_simp
      exact ⟨Ext.refl _, rfl⟩
    · obtain ⟨h0, -⟩ := hs
      replace h0 : ρ (.tmp 19) = .pointer (some ⟨w.heap.size, 0, none⟩) := h0
      have hc0 : W.cell? ⟨w.heap.size, 0, none⟩ = some (.int .i64 (t)) := hF.cell (by assumption)
      go_simp
      exact ⟨Ext.refl _, rfl⟩
    · obtain ⟨h0, -⟩ := hs
      replace h0 : ρ (.tmp 5) = .pointer (some ⟨w.heap.size, 0, none⟩) := h0
      go_simp
      exact ⟨Ext.refl _, rfl⟩
    · obtain ⟨h0, -⟩ := hs
      replace h0 : ρ (.tmp 21) = .pointer (some ⟨w.heap.size, 1, none⟩) := h0
      have hc0 : W.cell? ⟨w.heap.size, 1, none⟩ = some (.int .i64 (r)) := hF.cell (by assumption)
      go_simp
      exact ⟨Ext.refl _, rfl⟩
    · obtain ⟨h0, -⟩ := hs
      replace h0 : ρ (.tmp 20) = .int .i64 (t) := h0
      go_simp
      exact ⟨Ext.refl _, rfl⟩
    · obtain ⟨h0, -⟩ := hs
      replace h0 : ρ (.tmp 22) = .int .i64 (r) := h0
      go_simp
      exact ⟨Ext.refl _, rfl⟩
  · intro fv W hF hs
    obtain ⟨-, -, -, -, h7, h8, -⟩ := hs
    replace h7 : fv 7 = .int .i64 (t) := h7
    replace h8 : fv 8 = .int .i64 (r) := h8
    simp only [fin, List.filterMap]
    go_simp
    have X2 := Lib.hid (X1.out.trans hF)
    clear hF y0 y1
    go_wp2_with (go_at_call 53; refine (HWA.out _).mono ?_; rintro e W3 ⟨rfl, hx⟩; have X3 := Lib.hid (X2.out.trans hx); clear hx; refine Hid.out ?_)
    refine Lib.hid ?_
    go_wp2_with (go_at_call 54; refine (HLO.out _).mono ?_; rintro e W4 ⟨rfl, hx⟩; have X4 := Lib.hid (X3.out.trans hx); clear hx; refine Hid.out ?_)
    refine Lib.hid ?_
    go_wp2_with (first
      | (go_at_call 55; refine (HST.out _).mono ?_; rintro e w' ⟨rfl, rfl⟩)
      | (go_at_call 20; refine (HWI.out _).mono ?_; rintro e w' ⟨rfl, rfl⟩)
      | (go_at_call 57; refine (HRI.out _).mono ?_; rintro e w' ⟨rfl, rfl⟩)
      | (go_at_call 58; refine (HSH.out _).mono ?_; rintro e W6 ⟨rfl, hx⟩; have X6 := Lib.hid ((X4.out).trans hx); clear hx))
    go_ret
    exact ⟨rfl, X6.out⟩
set_option maxRecDepth 100000 in
set_option maxHeartbeats 4000000 in
theorem studies_fn (T h t r : Int) (w : World) (hz : studyE T h = 0) (ht : withinB t 0 10 = false) (hr : riskE r = 0) (hs : lowS T h r = none) :
    Calls Try.prog 9 #[.int .i64 T, .int .i64 h, .agg #[.int .i64 t, .int .i64 r]] w fun e w' => e = .returned (.bool true) ∧ Ext w w' := by
  have HWA := Lib.hid (fun W => show Calls Try.prog 53 #[.int .i64 T, .int .i64 h, .int .i64 t] W fun e w' => e = .returned (.tuple #[.int .i64 0, .int .i64 2]) ∧ Ext W w' from by
    have := waysOf_any T h t W
    unfold orErr at this
    rw [show waysE T h t = 2 by rw [waysE_eq t hz, ht]; rfl] at this; rw [if_neg (by decide)] at this
    exact this)
  have HLO := Lib.hid (fun W => show Calls Try.prog 54 #[.int .i64 T, .int .i64 h, .int .i64 r] W fun e w' => e = .returned (.tuple #[.int .i64 0, .int .i64 12]) ∧ Ext W w' from by
    have := lowerShare_any T h r W
    rw [lowF, lowG, lowE_eq r hz, if_pos hr, if_pos hr, hs] at this
    exact this)
  have HST := Lib.hid (fun W => show Calls Try.prog 55 #[.int .i64 T, .int .i64 h] W fun e w' => e = .returned (.int .i64 0) ∧ W = w' from by
    have := refStudyErr_any T h W
    rw [hz] at this
    exact this)
  have HRI := Lib.hid (fun W => refRiskErr_any r W)
  have HWI := Lib.hid (fun W => within_any t 0 10 W)
  rw [ht] at HWI
  obtain ⟨o1, o2, o3, o4⟩ := study_ok hz
  have HSH := Lib.hid (fun W => show Calls Try.prog 58 #[.int .i64 T, .int .i64 h, .int .i64 r] W fun e w' => e = .returned (.tuple #[.int .i64 0, .bool false]) ∧ Ext W w' from by
    have o5 := rangeE_zeros (show rangeE 0 999 [r] = 0 from hr) r (by simp)
    have := refShare_any T.toNat h.toNat r.toNat (by omega) (by omega) (by omega) W
    rw [Int.toNat_of_nonneg (by omega), Int.toNat_of_nonneg (by omega), Int.toNat_of_nonneg (by omega)] at this
    rw [show shr T.toNat h.toNat r.toNat 10 = none from hs] at this
    exact this)
  rw [hr] at HRI
  clear hz ht hr hs o1 o2 o3 o4
  go_enter Try.func9, Try.ntmps9
  go_wp2_with (go_at_call 13; refine (awake_any _).mono ?_; rintro e W1 ⟨rfl, hx⟩; have X1 := Lib.hid ((Ext.alloc _ _).trans hx); have y0 : W1.cell? ⟨w.heap.size, 0, none⟩ = some (.int .i64 t) := hx.cell ((Blk.new w 52 #[.int .i64 t, .int .i64 r]).cell 0); have y1 : W1.cell? ⟨w.heap.size, 1, none⟩ = some (.int .i64 r) := hx.cell ((Blk.new w 52 #[.int .i64 t, .int .i64 r]).cell 1); clear hx; refine Hid.out ?_)
  refine Lib.hid ?_
  go_wp2
  refine wp_region_each [some 19, some 20, some 21, some 22, some 7, some 8] [[5], [19], [5], [21], [20], [22]]
    [Is (.pointer (some ⟨w.heap.size, 0, none⟩)), Is (.int .i64 (t)), Is (.pointer (some ⟨w.heap.size, 1, none⟩)), Is (.int .i64 (r)), Is (.int .i64 (t)), Is (.int .i64 (r))]
    (by kernel_rfl) (by kernel_rfl) (by kernel_rfl) (by kernel_rfl) (by kernel_rfl) Ext (fun W => Ext W1 W)
    (fun W _ => Ext.refl W) (fun W W' h k => h.trans k) ?_ (Ext.drew _) ?_ ?_
  · repeat (refine ⟨fun _ _ _ _ k h => (by first | exact h | exact (IntsAt.ext h k)), ?_⟩)
    exact trivial
  · refine ⟨?_, ?_, ?_, ?_, ?_, ?_, trivial⟩
    all_goals intro ρ W ⟨kc, kg, kf⟩ hF hs
    · obtain ⟨h0, -⟩ := hs
      replace h0 : ρ (.tmp 5) = .pointer (some ⟨w.heap.size, 0, none⟩) := h0
      go_simp
      exact ⟨Ext.refl _, rfl⟩
    · obtain ⟨h0, -⟩ := hs
      replace h0 : ρ (.tmp 19) = .pointer (some ⟨w.heap.size, 0, none⟩) := h0
      have hc0 : W.cell? ⟨w.heap.size, 0, none⟩ = some (.int .i64 (t)) := hF.cell (by assumption)
      go_simp
      exact ⟨Ext.refl _, rfl⟩
    · obtain ⟨h0, -⟩ := hs
      replace h0 : ρ (.tmp 5) = .pointer (some ⟨w.heap.size, 0, none⟩) := h0
      go_simp
      exact ⟨Ext.refl _, rfl⟩
    · obtain ⟨h0, -⟩ := hs
      replace h0 : ρ (.tmp 21) = .pointer (some ⟨w.heap.size, 1, none⟩) := h0
      have hc0 : W.cell? ⟨w.heap.size, 1, none⟩ = some (.int .i64 (r)) := hF.cell (by assumption)
      go_simp
      exact ⟨Ext.refl _, rfl⟩
    · obtain ⟨h0, -⟩ := hs
      replace h0 : ρ (.tmp 20) = .int .i64 (t) := h0
      go_simp
      exact ⟨Ext.refl _, rfl⟩
    · obtain ⟨h0, -⟩ := hs
      replace h0 : ρ (.tmp 22) = .int .i64 (r) := h0
      go_simp
      exact ⟨Ext.refl _, rfl⟩
  · intro fv W hF hs
    obtain ⟨-, -, -, -, h7, h8, -⟩ := hs
    replace h7 : fv 7 = .int .i64 (t) := h7
    replace h8 : fv 8 = .int .i64 (r) := h8
    simp only [fin, List.filterMap]
    go_simp
    have X2 := Lib.hid (X1.out.trans hF)
    clear hF y0 y1
    go_wp2_with (go_at_call 53; refine (HWA.out _).mono ?_; rintro e W3 ⟨rfl, hx⟩; have X3 := Lib.hid (X2.out.trans hx); clear hx; refine Hid.out ?_)
    refine Lib.hid ?_
    go_wp2_with (go_at_call 54; refine (HLO.out _).mono ?_; rintro e W4 ⟨rfl, hx⟩; have X4 := Lib.hid (X3.out.trans hx); clear hx; refine Hid.out ?_)
    refine Lib.hid ?_
    go_wp2_with (first
      | (go_at_call 55; refine (HST.out _).mono ?_; rintro e w' ⟨rfl, rfl⟩)
      | (go_at_call 20; refine (HWI.out _).mono ?_; rintro e w' ⟨rfl, rfl⟩)
      | (go_at_call 57; refine (HRI.out _).mono ?_; rintro e w' ⟨rfl, rfl⟩)
      | (go_at_call 58; refine (HSH.out _).mono ?_; rintro e W6 ⟨rfl, hx⟩; have X6 := Lib.hid ((X4.out).trans hx); clear hx))
    go_ret
    exact ⟨rfl, X6.out⟩
theorem studies_any (T h t r : Int) (w : World) :
    Calls Try.prog 9 #[.int .i64 T, .int .i64 h, .agg #[.int .i64 t, .int .i64 r]] w fun e w' => e = .returned (.bool true) ∧ Ext w w' := by
  by_cases hz : studyE T h = 0
  · by_cases hr : riskE r = 0
    · cases ht : withinB t 0 10 <;> rcases hs : lowS T h r with _ | s
      · exact studies_fn T h t r w hz ht hr hs
      · exact studies_fs T h t r w hz ht hr s hs
      · exact studies_tn T h t r w hz ht hr hs
      · exact studies_ts T h t r w hz ht hr s hs
    · cases ht : withinB t 0 10
      · exact studies_fb T h t r w hz ht hr
      · exact studies_tb T h t r w hz ht hr
  · exact studies_bad T h t r w hz

end Go.Proofs.Ytmddnpagfgilcaa
