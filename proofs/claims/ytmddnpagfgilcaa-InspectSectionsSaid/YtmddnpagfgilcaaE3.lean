/- The sample for a lot. -/
import Derived.Test.YtmddnpagfgilcaaE2
import Derived.Test.YtmddnpagfgilcaaC3
import Derived.Lib.MinMax

namespace Go.Proofs.Ytmddnpagfgilcaa
open Go.RowKit Go.Shelf Go.Mem Go.RegInv
attribute [local go_sem] RelUpon_value RelUpon_skip RelUpon_enter BigFrame.eval_const BigFrame.eval_global BigFrame.eval_func


/-- The first sample, from s on, that is rare enough. -/
def smp (L b r : Nat) : Nat → Nat → Option Nat
  | 0, _ => none
  | f + 1, s => if 1000 * (accF L s 0 b).1 ≤ (r : Int) * (accF L s 0 b).2 then some s else smp L b r f (s + 1)
theorem smp_step {L b r n s : Nat} (h : s < n) : smp L b r (n - s) s = if 1000 * (accF L s 0 b).1 ≤ (r : Int) * (accF L s 0 b).2 then some s else smp L b r (n - (s + 1)) (s + 1) := by
  obtain ⟨d, hd⟩ : ∃ d, n - s = d + 1 := ⟨n - s - 1, by omega⟩
  rw [hd, smp, show n - (s + 1) = d by omega]
theorem lowT_bd2' {a b A B : Int} (ha : 0 ≤ a ∧ a ≤ A) (hb : 0 < b ∧ b ≤ B) : 0 ≤ (lowT a b).1 ∧ (lowT a b).1 ≤ A ∧ 1 ≤ (lowT a b).2 ∧ (lowT a b).2 ≤ B := by
  have h1 := lowT_bd2 (a := a) (A := A) ⟨by omega, ha.2⟩ hb
  have h2 : 0 ≤ (lowT a b).1 := by unfold lowT; exact Int.tdiv_nonneg ha.1 (Int.natCast_nonneg _)
  omega
theorem acc_bd {L s a b : Nat} (hL : L ≤ 30) (hs : 1 ≤ s) (hs2 : s ≤ L) (ha : a ≤ s) (hb : b ≤ L) : 0 ≤ (accF L s a b).1 ∧ (accF L s a b).1 ≤ 155117520 ∧ 1 ≤ (accF L s a b).2 ∧ (accF L s a b).2 ≤ 155117520 := by
  have h1 := vs_le (b := b) (c := L - b) hs (show a + 1 ≤ s + 1 by omega)
  rw [show b + (L - b) = L by omega] at h1
  have h2 := pas_small s hL
  have h3 := pas_pos L s hs2
  exact lowT_bd2' ⟨by omega, by omega⟩ ⟨by omega, by omega⟩
def smpE (L b r : Int) : Int := firstE [lotE L, badE L b, riskE r]
theorem smp_ok {L b r : Int} (e : smpE L b r = 0) : 1 ≤ L ∧ L ≤ 30 ∧ 0 ≤ b ∧ b ≤ L ∧ 0 ≤ r ∧ r ≤ 999 := by
  have h1 := rangeE_zeros (firstE_zero e (lotE L) (by simp)) L (by simp)
  have h2 := bad_ok (firstE_zero e (badE L b) (by simp))
  have h3 := rangeE_zeros (firstE_zero e (riskE r) (by simp)) r (by simp)
  exact ⟨h1.1, h1.2, h2.1, h2.2, h3.1, h3.2⟩
set_option maxRecDepth 100000 in
set_option maxHeartbeats 1000000 in
theorem sampleFor_loop (L b r : Nat) (h1 : 1 ≤ L) (hL : L ≤ 30) (hb : b ≤ L) (hr : r ≤ 999) (hz : smpE L b r = 0) (w : World) :
    Calls Try.prog 61 #[.int .i64 (L : Int), .int .i64 (b : Int), .int .i64 (r : Int)] w fun e w' => e = .returned (.tuple #[.int .i64 (optV (smp L b r L 1)), .int .i64 (optE (smp L b r L 1))]) ∧ Ext w w' := by
  have HZ := Lib.hid (show firstE [lotE L, badE L b, riskE r] = 0 from hz)
  have HAC := Lib.hid (fun s (s1 : 1 ≤ s) (s2 : s ≤ L) W => show Calls Try.prog 108 #[.agg #[.int .i64 (L : Int), .int .i64 (s : Int), .int .i64 0], .int .i64 (b : Int)] W fun e w' => e = .returned (.agg #[.int .i64 (accF L s 0 b).1, .int .i64 (accF L s 0 b).2]) ∧ Ext W w' from acceptance_any L s 0 b hL s1 s2 (Nat.zero_le _) hb W)
  have HB := Lib.hid (fun s (s1 : 1 ≤ s) (s2 : s ≤ L) => acc_bd hL s1 s2 (Nat.zero_le s) hb)
  clear hz
  go_enter Try.func61, Try.ntmps61
  go_wp2_with (go_at_call 109; refine (lotError_any L _).mono ?_; rintro e W1 ⟨rfl, hx⟩; have X1 := Lib.hid hx; clear hx; refine Hid.out ?_)
  refine Lib.hid ?_
  go_wp2_with (go_at_call 107; refine (badError_any L b _).mono ?_; rintro e W2 ⟨rfl, hx⟩; have X2 := Lib.hid (X1.out.trans hx); clear hx X1; refine Hid.out ?_)
  refine Lib.hid ?_
  go_wp2_with (go_at_call 103; refine (riskError_any r _).mono ?_; rintro e W4 ⟨rfl, hx⟩; have X4 := Lib.hid (X2.out.trans hx); clear hx X2; refine Hid.out ?_)
  refine Lib.hid ?_
  go_wp2_with (go_at_call 78; refine (firstOf_any _ [lotE L, badE L b, riskE r] _ (ints_new _ [_, _, _] _ (by simp))).mono ?_; rintro e W3 ⟨rfl, hw⟩; have X3 := Lib.hid (show Ext w W3 by rw [← hw]; exact X4.out.trans (Ext.alloc _ _)); clear hw X4; rw [HZ.out]; refine Hid.out ?_)
  refine Lib.hid ?_
  go_wp2
  go_loopw [9] (fun i wr => ∃ s : Nat, 1 ≤ s ∧ s ≤ L + 1 ∧ i = .int .i64 s ∧ smp L b r L 1 = smp L b r (L + 1 - s) s ∧ Ext w wr) (fun i _ => L + 1 - (intOf i).toNat)
  case atStart => exact ⟨1, Nat.le_refl _, by omega, rfl, by rw [Nat.add_sub_cancel], X3.out⟩
  case round =>
    obtain ⟨s, s1, s2, rfl, hs, hx⟩ := hrel
    have X := Lib.hid hx
    have R := Lib.hid hs
    clear hx hs X3
    by_cases hlt : s ≤ L
    · have hsL : (s : Int) ≤ (L : Int) := by omega
      have S := Lib.hid (R.out.trans (smp_step (by omega)))
      have HC := Lib.hid (fun W => HAC.out s s1 hlt W)
      obtain ⟨b1, b2, b3, b4⟩ := HB.out s s1 hlt
      have m1 := mul_bd (a := (r : Int)) (b := (accF L s 0 b).2) (A := 999) (B := 155117520) ⟨by omega, by omega⟩ ⟨by omega, by omega⟩
      obtain ⟨m2, m3⟩ := m1
      generalize accF L s 0 b = ac at *
      by_cases hc : 1000 * ac.1 ≤ (r : Int) * ac.2
      · have hc2 : 1000 * ac.1 ≤ (r : Int) * ac.2 := hc
        have S2 := Lib.hid (S.out.trans (if_pos hc))
        clear hc S
        go_wp2_with (go_at_call 108; refine (HC.out _).mono ?_; rintro e W1 ⟨rfl, hx⟩; have X1 := Lib.hid (X.out.trans (hx.trans (Ext.alloc W1 (.cells #[.int .i64 ac.1, .int .i64 ac.2] 32)))); clear hx)
        go_ret2
        exact ⟨ret_two (by rw [S2.out]; rfl) (by rw [S2.out]; rfl), X1.out⟩
      · have hc2 : ¬ 1000 * ac.1 ≤ (r : Int) * ac.2 := hc
        have S2 := Lib.hid (S.out.trans (if_neg hc))
        clear hc S
        go_wp2_with (go_at_call 108; refine (HC.out _).mono ?_; rintro e W1 ⟨rfl, hx⟩; have X1 := Lib.hid (X.out.trans (hx.trans (Ext.alloc W1 (.cells #[.int .i64 ac.1, .int .i64 ac.2] 32)))); clear hx)
        go_roundw
        case rel => exact ⟨s + 1, by omega, by omega, by go_num, by rw [S2.out], X1.out⟩
        case measure => simp [intOf]; omega
    · have S2 := Lib.hid (show smp L b r L 1 = none by rw [R.out, show L + 1 - s = 0 by omega]; rfl)
      have hsL : ¬ (s : Int) ≤ (L : Int) := by omega
      go_wp2
      go_ret2
      exact ⟨ret_two (by rw [S2.out]; rfl) (by rw [S2.out]; rfl), X.out⟩

set_option maxRecDepth 100000 in
set_option maxHeartbeats 1000000 in
theorem sampleFor_bad (L b r : Int) (hz : smpE L b r ≠ 0) (w : World) :
    Calls Try.prog 61 #[.int .i64 L, .int .i64 b, .int .i64 r] w fun e w' => e = .returned (.tuple #[.int .i64 0, .int .i64 (smpE L b r)]) ∧ Ext w w' := by
  have HZ := Lib.hid (show firstE [lotE L, badE L b, riskE r] = smpE L b r from rfl)
  have hz2 : (smpE L b r != 0) = true := by simp [hz]
  generalize smpE L b r = z at *
  go_enter Try.func61, Try.ntmps61
  go_wp2_with (go_at_call 109; refine (lotError_any L _).mono ?_; rintro e W1 ⟨rfl, hx⟩; have X1 := Lib.hid hx; clear hx; refine Hid.out ?_)
  refine Lib.hid ?_
  go_wp2_with (go_at_call 107; refine (badError_any L b _).mono ?_; rintro e W2 ⟨rfl, hx⟩; have X2 := Lib.hid (X1.out.trans hx); clear hx X1; refine Hid.out ?_)
  refine Lib.hid ?_
  go_wp2_with (go_at_call 103; refine (riskError_any r _).mono ?_; rintro e W4 ⟨rfl, hx⟩; have X4 := Lib.hid (X2.out.trans hx); clear hx X2; refine Hid.out ?_)
  refine Lib.hid ?_
  go_wp2_with (go_at_call 78; refine (firstOf_any _ [lotE L, badE L b, riskE r] _ (ints_new _ [_, _, _] _ (by simp))).mono ?_; rintro e W3 ⟨rfl, hw⟩; have X3 := Lib.hid (show Ext w W3 by rw [← hw]; exact X4.out.trans (Ext.alloc _ _)); clear hw X4; rw [HZ.out]; refine Hid.out ?_)
  refine Lib.hid ?_
  go_wp2
  go_ret2
  exact ⟨rfl, X3.out⟩
set_option maxRecDepth 100000 in
set_option maxHeartbeats 1000000 in
theorem refSample_any (L b r : Nat) (h1 : 1 ≤ L) (hL : L ≤ 30) (hb : b ≤ L) (hr : r ≤ 999) (w : World) :
    Calls Try.prog 63 #[.int .i64 (L : Int), .int .i64 (b : Int), .int .i64 (r : Int)] w fun e w' => e = .returned (.tuple #[.int .i64 (optV (smp L b r L 1)), .bool (smp L b r L 1).isSome]) ∧ Ext w w' := by
  have HAC := Lib.hid (fun s (s1 : 1 ≤ s) (s2 : s ≤ L) W => show Calls Try.prog 67 #[.agg #[.int .i64 (L : Int), .int .i64 (s : Int), .int .i64 0], .int .i64 (b : Int)] W fun e w' => e = .returned (.agg #[.int .i64 (accF L s 0 b).1, .int .i64 (accF L s 0 b).2]) ∧ Ext W w' from refAcceptance_any L s 0 b hL s1 s2 (Nat.zero_le _) hb W)
  have HB := Lib.hid (fun s (s1 : 1 ≤ s) (s2 : s ≤ L) => acc_bd hL s1 s2 (Nat.zero_le s) hb)
  go_enter Try.func63, Try.ntmps63
  go_wp2
  go_loopw [8] (fun i wr => ∃ s : Nat, 1 ≤ s ∧ s ≤ L + 1 ∧ i = .int .i64 s ∧ smp L b r L 1 = smp L b r (L + 1 - s) s ∧ Ext w wr) (fun i _ => L + 1 - (intOf i).toNat)
  case atStart => exact ⟨1, Nat.le_refl _, by omega, rfl, by rw [Nat.add_sub_cancel], Ext.refl _⟩
  case round =>
    obtain ⟨s, s1, s2, rfl, hs, hx⟩ := hrel
    have X := Lib.hid hx
    have R := Lib.hid hs
    clear hx hs
    by_cases hlt : s ≤ L
    · have hsL : (s : Int) ≤ (L : Int) := by omega
      have S := Lib.hid (R.out.trans (smp_step (by omega)))
      have HC := Lib.hid (fun W => HAC.out s s1 hlt W)
      obtain ⟨b1, b2, b3, b4⟩ := HB.out s s1 hlt
      have m1 := mul_bd (a := (r : Int)) (b := (accF L s 0 b).2) (A := 999) (B := 155117520) ⟨by omega, by omega⟩ ⟨by omega, by omega⟩
      obtain ⟨m2, m3⟩ := m1
      generalize accF L s 0 b = ac at *
      by_cases hc : 1000 * ac.1 ≤ (r : Int) * ac.2
      · have hc2 : 1000 * ac.1 ≤ (r : Int) * ac.2 := hc
        have S2 := Lib.hid (S.out.trans (if_pos hc))
        clear hc S
        go_wp2_with (go_at_call 67; refine (HC.out _).mono ?_; rintro e W1 ⟨rfl, hx⟩; have X1 := Lib.hid (X.out.trans (hx.trans (Ext.alloc W1 (.cells #[.int .i64 ac.1, .int .i64 ac.2] 32)))); clear hx)
        go_ret2
        exact ⟨by rw [S2.out]; rfl, X1.out⟩
      · have hc2 : ¬ 1000 * ac.1 ≤ (r : Int) * ac.2 := hc
        have S2 := Lib.hid (S.out.trans (if_neg hc))
        clear hc S
        go_wp2_with (go_at_call 67; refine (HC.out _).mono ?_; rintro e W1 ⟨rfl, hx⟩; have X1 := Lib.hid (X.out.trans (hx.trans (Ext.alloc W1 (.cells #[.int .i64 ac.1, .int .i64 ac.2] 32)))); clear hx)
        go_roundw
        case rel => exact ⟨s + 1, by omega, by omega, by go_num, by rw [S2.out], X1.out⟩
        case measure => simp [intOf]; omega
    · have S2 := Lib.hid (show smp L b r L 1 = none by rw [R.out, show L + 1 - s = 0 by omega]; rfl)
      have hsL : ¬ (s : Int) ≤ (L : Int) := by omega
      go_wp2
      go_ret2
      exact ⟨by rw [S2.out]; rfl, X.out⟩


end Go.Proofs.Ytmddnpagfgilcaa
