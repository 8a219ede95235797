/- Studies: shares. -/
import Derived.Test.YtmddnpagfgilcaaA4

namespace Go.Proofs.Ytmddnpagfgilcaa
open Go.RowKit Go.Shelf Go.Mem Go.RegInv
attribute [local go_sem] RelUpon_value RelUpon_skip RelUpon_enter BigFrame.eval_const BigFrame.eval_global BigFrame.eval_func


set_option maxHeartbeats 400000 in
theorem refAll_any (T : Nat) (hT : T ≤ 15) (w : World) : Calls Try.prog 105 #[.int .i64 T] w fun e w' => e = .returned (.int .i64 (10 ^ T : Nat)) ∧ w = w' := by
  go_enter Try.func105, Try.ntmps105
  go_wp2
  go_loop [3, 4] (fun u i => ∃ k : Nat, k ≤ T ∧ i = .int .i64 k ∧ u = .int .i64 (10 ^ k : Nat)) (fun _ i => T - (intOf i).toNat)
  case atStart => exact ⟨0, Nat.zero_le _, rfl, rfl⟩
  case round =>
    obtain ⟨k, hk, rfl, rfl⟩ := hrel
    by_cases hlt : k < T
    · have h1 : ((10 ^ (k + 1) : Nat) : Int) = ((10 ^ k : Nat) : Int) * 10 := by rw [Nat.pow_succ, Int.natCast_mul]; rfl
      have h2 : 10 ^ k ≤ 1000000000000000 := pow15 (by omega)
      have H1 := Lib.hid h1
      clear h1
      generalize 10 ^ k = p at *
      go_wp2
      go_round
      case rel => exact ⟨k + 1, by omega, by go_num, by rw [H1.out]⟩
      case measure => simp [intOf]; omega
    · obtain rfl : k = T := by omega
      go_wp2
      go_ret
      exact ⟨rfl, rfl⟩

theorem withinB_eq (x lo hi : Int) : withinB x lo hi = decide (lo ≤ x ∧ x ≤ hi) := by simp [withinB]
theorem rangeE_one (lo hi x : Int) : rangeE lo hi [x] = if withinB x lo hi = true then 0 else 2 := by
  unfold rangeE errIf withinB outB
  by_cases h1 : lo ≤ x <;> by_cases h2 : x ≤ hi <;> simp [h1, h2] <;> omega
theorem studyE_eq (T h : Int) : studyE T h = if withinB T 1 15 = true then (if withinB h 0 T = true then 0 else 2) else 2 := by
  unfold studyE
  rw [rangeE_one, rangeE_one]
  cases withinB T 1 15 <;> cases withinB h 0 T <;> simp [firstE]
theorem refStudyErr_any (T h : Int) (w : World) : Calls Try.prog 55 #[.int .i64 T, .int .i64 h] w fun e w' => e = .returned (.int .i64 (studyE T h)) ∧ w = w' := by
  have HE := Lib.hid (studyE_eq T h)
  have H1 := Lib.hid (fun W => within_any T 1 15 W)
  have H2 := Lib.hid (fun W => within_any h 0 T W)
  generalize studyE T h = z at *
  generalize withinB T 1 15 = b1 at *
  generalize withinB h 0 T = b2 at *
  cases b1 <;> cases b2
  all_goals
    go_enter Try.func55, Try.ntmps55
    go_wp2_with (first
      | (go_at_call 20; (with_reducible refine (H1.out _).mono ?_); rintro e w' ⟨rfl, rfl⟩)
      | (go_at_call 20; (with_reducible refine (H2.out _).mono ?_); rintro e w' ⟨rfl, rfl⟩))
    go_ret
    exact ⟨ret_int (by rw [HE.out]; rfl), rfl⟩
theorem riskE_eq (r : Int) : riskE r = if withinB r 0 999 = true then 0 else 2 := rangeE_one 0 999 r
theorem refRiskErr_any (r : Int) (w : World) : Calls Try.prog 57 #[.int .i64 r] w fun e w' => e = .returned (.int .i64 (riskE r)) ∧ w = w' := by
  have HE := Lib.hid (riskE_eq r)
  have H1 := Lib.hid (fun W => within_any r 0 999 W)
  generalize riskE r = z at *
  generalize withinB r 0 999 = b1 at *
  cases b1
  all_goals
    go_enter Try.func57, Try.ntmps57
    go_wp2_with (go_at_call 20; (with_reducible refine (H1.out _).mono ?_); rintro e w' ⟨rfl, rfl⟩)
    go_ret
    exact ⟨ret_int (by rw [HE.out]; rfl), rfl⟩

/-- A number that may be missing. -/
def optE (o : Option Nat) : Int := if o.isSome then 0 else 12
def optV (o : Option Nat) : Int := ((o.getD 0 : Nat) : Int)
theorem shr_step (T h r n : Nat) : shr T h r n = if 1000 * fw n T h ≤ r * 10 ^ T then some n else if n = 0 then none else shr T h r (n - 1) := by
  cases n with
  | zero => rfl
  | succ n => rw [shr]; simp

set_option maxRecDepth 100000 in
set_option maxHeartbeats 1000000 in
theorem refShare_any (T h r : Nat) (hT : T ≤ 15) (hh : h ≤ T) (hr : r ≤ 999) (w : World) :
    Calls Try.prog 58 #[.int .i64 T, .int .i64 h, .int .i64 r] w fun e w' => e = .returned (.tuple #[.int .i64 (optV (shr T h r 10)), .bool (shr T h r 10).isSome]) ∧ Ext w w' := by
  have HA := Lib.hid (fun W => refAll_any T hT W)
  have HF := Lib.hid (fun t (ht : t ≤ 10) W => refWays_any T h t hT hh ht W)
  have HS := Lib.hid (shr_step T h r)
  have HL := Lib.hid (fun t (ht : t ≤ 10) => Nat.le_trans (fw_le t ht T h) (pow15 hT))
  have a1 := pow15 hT
  have a2 : ((r : Int)) * ((10 ^ T : Nat) : Int) = ((r * 10 ^ T : Nat) : Int) := by rw [Int.natCast_mul]
  have a3 : r * 10 ^ T ≤ 999 * 1000000000000000 := Nat.mul_le_mul hr a1
  have A2 := Lib.hid a2
  have k0 : 0 ≤ (r : Int) * ((10 ^ T : Nat) : Int) := Int.mul_nonneg (by omega) (Int.natCast_nonneg _)
  have k1 : (r : Int) * ((10 ^ T : Nat) : Int) ≤ 999 * 1000000000000000 := by rw [a2]; omega
  clear a2 a3
  generalize 10 ^ T = p at *
  generalize hso : shr T h r 10 = so at *
  have HSO := Lib.hid hso
  clear hso
  go_enter Try.func58, Try.ntmps58
  go_wp2
  go_loopw [8] (fun i wr => ((∃ n : Nat, n ≤ 10 ∧ i = .int .i64 n ∧ so = shr T h r n) ∨ (i = .int .i64 (-1) ∧ so = none)) ∧ Ext w wr) (fun i _ => (intOf i + 1).toNat)
  case atStart => exact ⟨.inl ⟨10, Nat.le_refl _, rfl, HSO.out.symm⟩, Ext.refl _⟩
  case round =>
    obtain ⟨⟨n, hn, rfl, hs⟩ | ⟨rfl, hs⟩, hx⟩ := hrel
    · have S := Lib.hid (hs.trans (HS.out n))
      have X := Lib.hid hx
      have b1 := HL.out n hn
      have HW := Lib.hid (fun W => HF.out n hn W)
      clear hs hx
      generalize fw n T h = f at *
      by_cases hc : 1000 * f ≤ r * p
      · have hc2 : 1000 * (f : Int) ≤ (r : Int) * (p : Int) := by rw [← Int.natCast_mul]; omega
        have S2 := Lib.hid (S.out.trans (if_pos hc))
        clear hc S
        go_wp2_with (first
          | (go_at_call 56; refine (HW.out _).mono ?_; rintro e W1 ⟨rfl, hx⟩; have X1 := Lib.hid (X.out.trans hx); clear hx)
          | (go_at_call 105; refine (HA.out _).mono ?_; rintro e w' ⟨rfl, rfl⟩))
        go_ret2
        exact ⟨by rw [S2.out]; rfl, X1.out⟩
      · have hc2 : ¬ 1000 * (f : Int) ≤ (r : Int) * (p : Int) := by rw [← Int.natCast_mul]; omega
        have S2 := Lib.hid (S.out.trans (if_neg hc))
        clear hc S
        go_wp2_with (first
          | (go_at_call 56; refine (HW.out _).mono ?_; rintro e W1 ⟨rfl, hx⟩; have X1 := Lib.hid (X.out.trans hx); clear hx)
          | (go_at_call 105; refine (HA.out _).mono ?_; rintro e w' ⟨rfl, rfl⟩))
        go_roundw
        case rel =>
          refine ⟨?_, X1.out⟩
          rcases Nat.eq_zero_or_pos n with h0 | h0
          · exact .inr ⟨by rw [h0]; rfl, by rw [S2.out, if_pos h0]⟩
          · exact .inl ⟨n - 1, by omega, by congr 1; omega, by rw [S2.out, if_neg (by omega)]⟩
        case measure => simp [intOf]
    · have S := Lib.hid hs
      have X := Lib.hid hx
      clear hs hx
      go_wp2
      go_ret2
      exact ⟨by rw [S.out]; rfl, X.out⟩
def lowE (T h r : Int) : Int := firstE [studyE T h, riskE r]
def lowS (T h r : Int) : Option Nat := shr T.toNat h.toNat r.toNat 10
set_option maxRecDepth 100000 in
set_option maxHeartbeats 1000000 in
theorem lowerShare_loop (T h r : Nat) (hT : T ≤ 15) (hh : h ≤ T) (hr : r ≤ 999) (hz : lowE T h r = 0) (w : World) :
    Calls Try.prog 54 #[.int .i64 T, .int .i64 h, .int .i64 r] w fun e w' => e = .returned (.tuple #[.int .i64 (optV (shr T h r 10)), .int .i64 (optE (shr T h r 10))]) ∧ Ext w w' := by
  have HZ := Lib.hid (show firstE [studyE T h, riskE r] = 0 from hz)
  have HA := Lib.hid (fun W => power_any 10 T (by decide) hT W)
  have HF := Lib.hid (fun t (ht : t ≤ 10) W => ways_any T h t hT hh ht W)
  have HS := Lib.hid (shr_step T h r)
  have HL := Lib.hid (fun t (ht : t ≤ 10) => Nat.le_trans (fw_le t ht T h) (pow15 hT))
  have a1 := pow15 hT
  have a2 : ((r : Int)) * ((10 ^ T : Nat) : Int) = ((r * 10 ^ T : Nat) : Int) := by rw [Int.natCast_mul]
  have a3 : r * 10 ^ T ≤ 999 * 1000000000000000 := Nat.mul_le_mul hr a1
  have A2 := Lib.hid a2
  have k0 : 0 ≤ (r : Int) * ((10 ^ T : Nat) : Int) := Int.mul_nonneg (by omega) (Int.natCast_nonneg _)
  have k1 : (r : Int) * ((10 ^ T : Nat) : Int) ≤ 999 * 1000000000000000 := by rw [a2]; omega
  clear a2 a3 hz
  generalize 10 ^ T = p at *
  generalize hso : shr T h r 10 = so at *
  have HSO := Lib.hid hso
  clear hso
  go_enter Try.func54, Try.ntmps54
  go_wp2_with (go_at_call 101; refine (studyError_any T h _).mono ?_; rintro e W1 ⟨rfl, hx⟩; have X1 := Lib.hid hx; clear hx; refine Hid.out ?_)
  refine Lib.hid ?_
  go_wp2_with (go_at_call 103; refine (riskError_any r _).mono ?_; rintro e W2 ⟨rfl, hx⟩; have X2 := Lib.hid (X1.out.trans hx); clear hx X1; refine Hid.out ?_)
  refine Lib.hid ?_
  go_wp2_with (first
    | (go_at_call 78; refine (firstOf_any _ [studyE T h, riskE r] _ (ints_new _ [_, _] _ (by simp))).mono ?_; rintro e w' ⟨rfl, rfl⟩; rw [HZ.out])
    | (go_at_call 104; refine (HA.out _).mono ?_; rintro e w' ⟨rfl, rfl⟩))
  have X3 := Lib.hid (X2.out.trans (Ext.alloc W2 (.cells #[.int .i64 (studyE T h), .int .i64 (riskE r)] 27)))
  clear X2
  go_loopw [10] (fun i wr => ((∃ n : Nat, n ≤ 10 ∧ i = .int .i64 n ∧ so = shr T h r n) ∨ (i = .int .i64 (-1) ∧ so = none)) ∧ Ext w wr) (fun i _ => (intOf i + 1).toNat)
  case atStart => exact ⟨.inl ⟨10, Nat.le_refl _, rfl, HSO.out.symm⟩, X3.out⟩
  case round =>
    obtain ⟨⟨n, hn, rfl, hs⟩ | ⟨rfl, hs⟩, hx⟩ := hrel
    · have S := Lib.hid (hs.trans (HS.out n))
      have X := Lib.hid hx
      have b1 := HL.out n hn
      have HW := Lib.hid (fun W => HF.out n hn W)
      clear hs hx
      generalize fw n T h = f at *
      by_cases hc : 1000 * f ≤ r * p
      · have hc2 : 1000 * (f : Int) ≤ (r : Int) * (p : Int) := by rw [← Int.natCast_mul]; omega
        have S2 := Lib.hid (S.out.trans (if_pos hc))
        clear hc S
        go_wp2_with (go_at_call 102; refine (HW.out _).mono ?_; rintro e w' ⟨rfl, rfl⟩)
        go_ret2
        exact ⟨by rw [S2.out]; rfl, X.out⟩
      · have hc2 : ¬ 1000 * (f : Int) ≤ (r : Int) * (p : Int) := by rw [← Int.natCast_mul]; omega
        have S2 := Lib.hid (S.out.trans (if_neg hc))
        clear hc S
        go_wp2_with (go_at_call 102; refine (HW.out _).mono ?_; rintro e w' ⟨rfl, rfl⟩)
        go_roundw
        case rel =>
          refine ⟨?_, X.out⟩
          rcases Nat.eq_zero_or_pos n with h0 | h0
          · exact .inr ⟨by rw [h0]; rfl, by rw [S2.out, if_pos h0]⟩
          · exact .inl ⟨n - 1, by omega, by congr 1; omega, by rw [S2.out, if_neg (by omega)]⟩
        case measure => simp [intOf]
    · have S := Lib.hid hs
      have X := Lib.hid hx
      clear hs hx
      go_wp2
      go_ret2
      exact ⟨by rw [S.out]; rfl, X.out⟩
set_option maxRecDepth 100000 in
theorem lowerShare_bad (T h r : Int) (hz : lowE T h r ≠ 0) (w : World) :
    Calls Try.prog 54 #[.int .i64 T, .int .i64 h, .int .i64 r] w fun e w' => e = .returned (.tuple #[.int .i64 0, .int .i64 (lowE T h r)]) ∧ Ext w w' := by
  have HZ := Lib.hid (show firstE [studyE T h, riskE r] = lowE T h r from rfl)
  have hz2 : (lowE T h r != 0) = true := by simp [hz]
  generalize lowE T h r = z at *
  go_enter Try.func54, Try.ntmps54
  go_wp2_with (go_at_call 101; refine (studyError_any T h _).mono ?_; rintro e W1 ⟨rfl, hx⟩; have X1 := Lib.hid hx; clear hx; refine Hid.out ?_)
  refine Lib.hid ?_
  go_wp2_with (go_at_call 103; refine (riskError_any r _).mono ?_; rintro e W2 ⟨rfl, hx⟩; have X2 := Lib.hid (X1.out.trans hx); clear hx X1; refine Hid.out ?_)
  refine Lib.hid ?_
  go_wp2_with (go_at_call 78; refine (firstOf_any _ [studyE T h, riskE r] _ (ints_new _ [_, _] _ (by simp))).mono ?_; rintro e w' ⟨rfl, rfl⟩; rw [HZ.out])
  go_ret2
  exact ⟨rfl, X2.out.trans (Ext.alloc _ _)⟩
theorem low_ok {T h r : Int} (e : lowE T h r = 0) : 1 ≤ T ∧ T ≤ 15 ∧ 0 ≤ h ∧ h ≤ T ∧ 0 ≤ r ∧ r ≤ 999 := by
  obtain ⟨h1, h2, h3, h4⟩ := study_ok (firstE_zero e (studyE T h) (by simp))
  have h5 := rangeE_zeros (firstE_zero e (riskE r) (by simp)) r (by simp)
  exact ⟨h1, h2, h3, h4, h5.1, h5.2⟩
def lowF (T h r : Int) : Int := if lowE T h r = 0 then optV (lowS T h r) else 0
def lowG (T h r : Int) : Int := if lowE T h r = 0 then optE (lowS T h r) else lowE T h r
theorem lowerShare_any (T h r : Int) (w : World) :
    Calls Try.prog 54 #[.int .i64 T, .int .i64 h, .int .i64 r] w fun e w' => e = .returned (.tuple #[.int .i64 (lowF T h r), .int .i64 (lowG T h r)]) ∧ Ext w w' := by
  unfold lowF lowG
  by_cases hz : lowE T h r = 0
  · rw [if_pos hz, if_pos hz]
    obtain ⟨h1, h2, h3, h4, h5, h6⟩ := low_ok hz
    have e1 : ((T.toNat : Nat) : Int) = T := Int.toNat_of_nonneg (by omega)
    have e2 : ((h.toNat : Nat) : Int) = h := Int.toNat_of_nonneg (by omega)
    have e3 : ((r.toNat : Nat) : Int) = r := Int.toNat_of_nonneg (by omega)
    have := lowerShare_loop T.toNat h.toNat r.toNat (by omega) (by omega) (by omega) (by rw [e1, e2, e3]; exact hz) w
    rw [e1, e2, e3] at this
    exact this
  · rw [if_neg hz, if_neg hz]
    exact lowerShare_bad T h r hz w

end Go.Proofs.Ytmddnpagfgilcaa
