/- Studies: subsets and powers. -/
import Derived.Test.YtmddnpagfgilcaaA1
import Derived.Test.YtmddnpagfgilcaaJ1

namespace Go.Proofs.Ytmddnpagfgilcaa
open Go.RowKit Go.Shelf Go.Mem Go.RegInv
attribute [local go_sem] RelUpon_value RelUpon_skip RelUpon_enter BigFrame.eval_const BigFrame.eval_global BigFrame.eval_func


theorem wrap_id (x : Int) (h1 : -9223372036854775808 ≤ x) (h2 : x ≤ 9223372036854775807) : IntKind.i64.wrap x = x := IntWalk.i64_in x ⟨h1, h2⟩

set_option maxRecDepth 100000 in
set_option maxHeartbeats 400000 in
theorem chosen_any (n m : Nat) (hn : n ≤ 30) (hm : m ≤ 40) (w : World) :
    Calls Try.prog 130 #[.int .i64 n, .int .i64 m] w fun e w' => e = .returned (.int .i64 (pas n m : Nat)) ∧ w = w' := by
  go_enter Try.func130, Try.ntmps130
  go_wp2
  go_loop [5, 8] (fun u i => ∃ k : Nat, k ≤ m ∧ i = .int .i64 k ∧ u = .int .i64 (pas n k : Nat)) (fun _ i => m - (intOf i).toNat)
  case atStart => exact ⟨0, Nat.zero_le _, rfl, by rw [pas_zero]; rfl⟩
  case round =>
    obtain ⟨k, hk, rfl, rfl⟩ := hrel
    by_cases hlt : k < m
    · have h1 := pas_step n k
      have h2 := pas_div n k
      have b1 := pas_le30 k hn
      have b2 := pas_le30 (k + 1) hn
      rw [← h1] at h2
      have c0 : 0 ≤ ((pas n k : Nat) : Int) * ((n : Int) - (k : Int)) := by rw [h1]; exact Int.mul_nonneg (by omega) (by omega)
      have c1 : ((pas n k : Nat) : Int) * ((n : Int) - (k : Int)) ≤ 100 * 1073741824 := by rw [h1]; exact Int.mul_le_mul (by omega) (by omega) (by omega) (by omega)
      have H2 := Lib.hid h2
      clear h1 h2 b2
      generalize pas n k = p at *
      go_wp2
      go_round
      case rel => exact ⟨k + 1, by omega, by go_num, by rw [H2.out]⟩
      case measure => simp [intOf]; omega
    · obtain rfl : k = m := by omega
      go_wp2
      go_ret
      exact ⟨rfl, rfl⟩

set_option maxRecDepth 100000 in
set_option maxHeartbeats 400000 in
theorem power_any (b m : Nat) (hb : b ≤ 10) (hm : m ≤ 15) (w : World) :
    Calls Try.prog 104 #[.int .i64 b, .int .i64 m] w fun e w' => e = .returned (.int .i64 (b ^ m : Nat)) ∧ w = w' := by
  go_enter Try.func104, Try.ntmps104
  go_wp2
  go_loop [5, 7] (fun u i => ∃ k : Nat, k ≤ m ∧ i = .int .i64 k ∧ u = .int .i64 (b ^ k : Nat)) (fun _ i => m - (intOf i).toNat)
  case atStart => exact ⟨0, Nat.zero_le _, rfl, rfl⟩
  case round =>
    obtain ⟨k, hk, rfl, rfl⟩ := hrel
    by_cases hlt : k < m
    · have h1 : ((b ^ (k + 1) : Nat) : Int) = ((b ^ k : Nat) : Int) * (b : Int) := by rw [Nat.pow_succ, Int.natCast_mul]
      have h2 : b ^ (k + 1) ≤ 1000000000000000 := Nat.le_trans (Nat.pow_le_pow_left hb _) (pow15 (by omega))
      have c0 : 0 ≤ ((b ^ k : Nat) : Int) * (b : Int) := by rw [← h1]; omega
      have c1 : ((b ^ k : Nat) : Int) * (b : Int) ≤ 1000000000000000 := by rw [← h1]; omega
      have H1 := Lib.hid h1
      clear h1 h2
      generalize b ^ k = p at *
      go_wp2
      go_round
      case rel => exact ⟨k + 1, by omega, by go_num, by rw [H1.out]⟩
      case measure => simp [intOf]; omega
    · obtain rfl : k = m := by omega
      go_wp2
      go_ret
      exact ⟨rfl, rfl⟩

theorem term_cast (t T n : Nat) : ((term t T n : Nat) : Int) = ((pas T n : Nat) : Int) * ((t ^ n : Nat) : Int) * (((10 - t) ^ (T - n) : Nat) : Int) := by
  unfold term; rw [Int.natCast_mul, Int.natCast_mul]
set_option maxRecDepth 100000 in
set_option maxHeartbeats 400000 in
theorem ways_any (T h t : Nat) (hT : T ≤ 15) (hh : h ≤ T) (ht : t ≤ 10) (w : World) :
    Calls Try.prog 102 #[.int .i64 T, .int .i64 h, .int .i64 t] w fun e w' => e = .returned (.int .i64 (fw t T h : Nat)) ∧ w = w' := by
  have HE := Lib.hid (tl_fw t T h (T + 1 - h) (Nat.le_refl _))
  go_enter Try.func102, Try.ntmps102
  go_wp2
  go_loop [7, 8] (fun u i => ∃ n : Nat, h ≤ n ∧ n ≤ T + 1 ∧ i = .int .i64 n ∧ u = .int .i64 (tl t T h (n - h) : Nat)) (fun _ i => T + 1 - (intOf i).toNat)
  case atStart => exact ⟨h, Nat.le_refl _, by omega, rfl, by rw [Nat.sub_self]; rfl⟩
  case round =>
    obtain ⟨n, hn, hn1, rfl, rfl⟩ := hrel
    by_cases hlt : n ≤ T
    · have HP := Lib.hid (fun W => power_any t n ht (by omega) W)
      have HQ := Lib.hid (fun W => show Calls Try.prog 104 #[.int .i64 (10 - (t : Int)), .int .i64 ((T : Int) - (n : Int))] W fun e w' => e = .returned (.int .i64 ((10 - t) ^ (T - n) : Nat)) ∧ W = w' from by
        have := power_any (10 - t) (T - n) (by omega) (by omega) W
        rw [Int.natCast_sub ht, Int.natCast_sub hlt] at this
        exact this)
      have HC := Lib.hid (fun W => chosen_any T n (by omega) (by omega) W)
      have h1 := term_cast t T n
      have h2 := Nat.le_trans (term_le t ht T n) (pow15 hT)
      have h3 := Nat.le_trans (head_le t ht T n) (pow15b hT)
      have h4 := Nat.le_trans (tl_le t ht T h (n - h)) (pow15 hT)
      have h5 : tl t T h (n + 1 - h) = tl t T h (n - h) + term t T n := by rw [show n + 1 - h = (n - h) + 1 by omega, tl, show h + (n - h) = n by omega]
      have c0 : 0 ≤ ((pas T n : Nat) : Int) * ((t ^ n : Nat) : Int) := Int.mul_nonneg (by omega) (by omega)
      have c1 : ((pas T n : Nat) : Int) * ((t ^ n : Nat) : Int) ≤ 4177248169415651 := by rw [← Int.natCast_mul]; omega
      have c2 : 0 ≤ ((pas T n : Nat) : Int) * ((t ^ n : Nat) : Int) * (((10 - t) ^ (T - n) : Nat) : Int) := by rw [← h1]; omega
      have c3 : ((pas T n : Nat) : Int) * ((t ^ n : Nat) : Int) * (((10 - t) ^ (T - n) : Nat) : Int) ≤ 1000000000000000 := by rw [← h1]; omega
      have H5 : Hid (((tl t T h (n + 1 - h) : Nat) : Int) = ((tl t T h (n - h) : Nat) : Int) + ((pas T n : Nat) : Int) * ((t ^ n : Nat) : Int) * (((10 - t) ^ (T - n) : Nat) : Int)) := Lib.hid (by rw [h5, Int.natCast_add, h1])
      clear h1 h2 h3 h5
      generalize pas T n = c at *
      generalize t ^ n = p at *
      generalize (10 - t) ^ (T - n) = q at *
      generalize tl t T h (n - h) = z at *
      go_wp2_with (first
        | (go_at_call 130; refine (HC.out _).mono ?_; rintro e w' ⟨rfl, rfl⟩)
        | (go_at_call 104; (with_reducible refine (HP.out _).mono ?_); rintro e w' ⟨rfl, rfl⟩)
        | (go_at_call 104; (with_reducible refine (HQ.out _).mono ?_); rintro e w' ⟨rfl, rfl⟩))
      go_round
      case rel => exact ⟨n + 1, by omega, by omega, by go_num, by rw [H5.out]⟩
      case measure => simp [intOf]; omega
    · have hgt : T < n := by omega
      have hle : ¬ (n : Int) ≤ (T : Int) := by omega
      have HN := Lib.hid (show n - h = T + 1 - h by omega)
      go_wp2
      go_ret
      exact ⟨ret_int (by rw [HN.out, HE.out]), rfl⟩

end Go.Proofs.Ytmddnpagfgilcaa
