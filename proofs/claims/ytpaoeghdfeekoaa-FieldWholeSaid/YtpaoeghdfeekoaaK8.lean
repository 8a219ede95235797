/- Quotients compared by whole parts. -/
import Derived.Test.YtpaoeghdfeekoaaK7
namespace Go.Proofs.Ytpaoeghdfeekoaa
open Go.RowKit Go.Shelf Go.Mem Go.RegInv

/-- n / d against m / k. -/
def cmpS (n d m k : Int) : Int := (n * k - m * d).sign

theorem cmp_lt {n d m k : Int} (hd : 0 < d) (hk : 0 < k) (h : n / d < m / k) : cmpS n d m k = -1 := by
  have a := Int.lt_ediv_add_one_mul_self n hd
  have b := Int.ediv_mul_le m (show k ≠ 0 by omega)
  have c : n < m / k * d := by
    have : (n / d + 1) * d ≤ m / k * d := Int.mul_le_mul_of_nonneg_right (by omega) (by omega)
    omega
  have e : n * k < m / k * d * k := Int.mul_lt_mul_of_pos_right c hk
  have f : m / k * k * d ≤ m * d := Int.mul_le_mul_of_nonneg_right b (by omega)
  have g : m / k * d * k = m / k * k * d := by rw [Int.mul_assoc, Int.mul_comm d k, ← Int.mul_assoc]
  exact Int.sign_eq_neg_one_of_neg (by omega)
theorem cmp_neg (n d m k : Int) : cmpS m k n d = -cmpS n d m k := by
  unfold cmpS
  rw [← Int.sign_neg]
  congr 1
  omega
theorem cmp_gt {n d m k : Int} (hd : 0 < d) (hk : 0 < k) (h : m / k < n / d) : cmpS n d m k = 1 := by
  have := cmp_lt hk hd h
  rw [cmp_neg] at this
  omega
theorem cmp_eq {n d m k p r1 r2 : Int} (h1 : n = p * d + r1) (h2 : m = p * k + r2) : n * k - m * d = k * r1 - d * r2 := by
  subst h1 h2
  have e : p * d * k = p * k * d := by rw [Int.mul_assoc, Int.mul_comm d k, ← Int.mul_assoc]
  rw [Int.add_mul, Int.add_mul, Int.mul_comm r1 k, Int.mul_comm r2 d]
  omega

set_option maxRecDepth 100000 in
set_option maxHeartbeats 2000000 in
theorem compare_any (n d m k : Int) (hd : 0 < d ∧ d ≤ 4500000000000000000) (hk : 0 < k ∧ k ≤ 4500000000000000000) (hn : -4500000000000000000 ≤ n ∧ n ≤ 4500000000000000000) (hm : -4500000000000000000 ≤ m ∧ m ≤ 4500000000000000000) (w : World) :
    Calls Try.prog 52 #[.int .i64 n, .int .i64 d, .int .i64 m, .int .i64 k] w fun e w' => e = .returned (.int .i64 (cmpS n d m k)) ∧ w = w' := by
  obtain ⟨S, hS⟩ : ∃ S, S = cmpS n d m k := ⟨_, rfl⟩
  rw [← hS]
  have HS := Lib.hid hS
  have HD := Lib.hid hd
  have HK := Lib.hid hk
  have HNB := Lib.hid hn
  have HMB := Lib.hid hm
  clear hS hd hk hn hm
  go_enter Try.func52, Try.ntmps52
  go_wp2
  go_loop [0, 1, 2, 3] (fun a b c e => ∃ N D M K : Int, a = .int .i64 N ∧ b = .int .i64 D ∧ c = .int .i64 M ∧ e = .int .i64 K ∧ (0 < D ∧ D ≤ 4500000000000000000) ∧ (0 < K ∧ K ≤ 4500000000000000000) ∧ (-4500000000000000000 ≤ N ∧ N ≤ 4500000000000000000) ∧ (-4500000000000000000 ≤ M ∧ M ≤ 4500000000000000000) ∧ S = cmpS N D M K)
    (fun _ b _ e => (intOf b + intOf e).toNat)
  case atStart => exact ⟨n, d, m, k, rfl, rfl, rfl, rfl, HD.out, HK.out, HNB.out, HMB.out, HS.out⟩
  case round =>
    obtain ⟨N, D, M, K, rfl, rfl, rfl, rfl, hD, hK, hN, hM, hSe⟩ := hrel
    have HF1 := Lib.hid (floor_any N D ⟨hD.1, by omega⟩ ⟨by omega, by omega⟩ w)
    have HF2 := Lib.hid (floor_any M K ⟨hK.1, by omega⟩ ⟨by omega, by omega⟩ w)
    have HSE := Lib.hid hSe
    have r10 := Int.emod_nonneg N (show D ≠ 0 by omega)
    have r11 := Int.emod_lt_of_pos N hD.1
    have r20 := Int.emod_nonneg M (show K ≠ 0 by omega)
    have r21 := Int.emod_lt_of_pos M hK.1
    have e1 : N = N / D * D + N % D := by have := Int.emod_add_mul_ediv N D; rw [Int.mul_comm (N / D) D]; omega
    have e2 : M = M / K * K + M % K := by have := Int.emod_add_mul_ediv M K; rw [Int.mul_comm (M / K) K]; omega
    clear hSe
    rcases Int.lt_trichotomy (N / D) (M / K) with hpq | hpq | hpq
    · have HR := Lib.hid (show S = -1 by rw [HSE.out]; exact cmp_lt hD.1 hK.1 hpq)
      have b1 : decide (N / D < M / K) = true := by simp; omega
      generalize N / D = P at *
      generalize M / K = Q at *
      clear e1 e2 hpq
      go_wp2_with (first
        | (go_at_call 107; (with_reducible refine HF1.out.mono ?_); rintro e w' ⟨rfl, rfl⟩)
        | (go_at_call 107; (with_reducible refine HF2.out.mono ?_); rintro e w' ⟨rfl, rfl⟩))
      go_ret
      exact ⟨ret_int HR.out.symm, rfl⟩
    · have hx := cmp_eq (n := N) (d := D) (m := M) (k := K) (p := N / D) (r1 := N % D) (r2 := M % K) e1 (by rw [hpq]; exact e2)
      rw [← hpq] at HF2 e2
      obtain ⟨P, hP⟩ : ∃ P, P = N / D := ⟨_, rfl⟩
      obtain ⟨r1, hr1⟩ : ∃ r, r = N % D := ⟨_, rfl⟩
      obtain ⟨r2, hr2⟩ : ∃ r, r = M % K := ⟨_, rfl⟩
      rw [← hP] at HF1 HF2 e1 e2
      rw [← hr1] at r10 r11 e1 hx
      rw [← hr2] at r20 r21 e2 hx
      have q1 : N - P * D = r1 := by omega
      have q2 : M - P * K = r2 := by omega
      have b1 : -9100000000000000000 ≤ P * D ∧ P * D ≤ 9100000000000000000 := by omega
      have b2 : -9100000000000000000 ≤ P * K ∧ P * K ≤ 9100000000000000000 := by omega
      have hlt : decide (P < P) = false := by simp
      have rb1 : r1 ≤ 4500000000000000000 := by omega
      have rb2 : r2 ≤ 4500000000000000000 := by omega
      have HX := Lib.hid hx
      have HSS := Lib.hid (show S = (K * r1 - D * r2).sign by rw [HSE.out, cmpS, hx])
      clear hpq hP hr1 hr2 e1 e2 hx HSE
      by_cases h1 : r1 = 0
      · by_cases h2 : r2 = 0
        · have HR := Lib.hid (show S = 0 by rw [HSS.out, h1, h2]; simp)
          subst h1 h2
          clear r11 r21
          go_wp2_with (first
            | (go_at_call 107; (with_reducible refine HF1.out.mono ?_); rintro e w' ⟨rfl, rfl⟩)
            | (go_at_call 107; (with_reducible refine HF2.out.mono ?_); rintro e w' ⟨rfl, rfl⟩))
          go_ret
          exact ⟨ret_int HR.out.symm, rfl⟩
        · have HR := Lib.hid (show S = -1 by
            rw [HSS.out, h1]
            have := Int.mul_pos hD.1 (show 0 < r2 by omega)
            exact Int.sign_eq_neg_one_of_neg (by rw [Int.mul_zero]; omega))
          have c2 : (r2 == 0) = false := by simp [h2]
          subst h1
          clear h2 r11 r21
          go_wp2_with (first
            | (go_at_call 107; (with_reducible refine HF1.out.mono ?_); rintro e w' ⟨rfl, rfl⟩)
            | (go_at_call 107; (with_reducible refine HF2.out.mono ?_); rintro e w' ⟨rfl, rfl⟩))
          go_ret
          exact ⟨ret_int HR.out.symm, rfl⟩
      · have c1 : (r1 == 0) = false := by simp [h1]
        by_cases h2 : r2 = 0
        · have HR := Lib.hid (show S = 1 by
            rw [HSS.out, h2]
            have := Int.mul_pos hK.1 (show 0 < r1 by omega)
            exact Int.sign_eq_one_of_pos (by rw [Int.mul_zero]; omega))
          subst h2
          clear h1 r11 r21
          go_wp2_with (first
            | (go_at_call 107; (with_reducible refine HF1.out.mono ?_); rintro e w' ⟨rfl, rfl⟩)
            | (go_at_call 107; (with_reducible refine HF2.out.mono ?_); rintro e w' ⟨rfl, rfl⟩))
          go_ret
          exact ⟨ret_int HR.out.symm, rfl⟩
        · have c2 : (r2 == 0) = false := by simp [h2]
          have HB := Lib.hid (show (0 < r2 ∧ r2 ≤ 4500000000000000000) ∧ (0 < r1 ∧ r1 ≤ 4500000000000000000) ∧ (-4500000000000000000 ≤ K ∧ K ≤ 4500000000000000000) ∧ (-4500000000000000000 ≤ D ∧ D ≤ 4500000000000000000) from by omega)
          have HME := Lib.hid (show (r2 + r1).toNat < (D + K).toNat by omega)
          clear h1 h2 r11 r21
          go_wp2_with (first
            | (go_at_call 107; (with_reducible refine HF1.out.mono ?_); rintro e w' ⟨rfl, rfl⟩)
            | (go_at_call 107; (with_reducible refine HF2.out.mono ?_); rintro e w' ⟨rfl, rfl⟩))
          go_round
          case rel => exact ⟨K, r2, D, r1, rfl, rfl, rfl, rfl, HB.out.1, HB.out.2.1, HB.out.2.2.1, HB.out.2.2.2, HSS.out⟩
          case measure => exact HME.out
    · have HR := Lib.hid (show S = 1 by rw [HSE.out]; exact cmp_gt hD.1 hK.1 hpq)
      have b1 : decide (N / D < M / K) = false := by simp; omega
      have b2 : decide (M / K < N / D) = true := by simp; omega
      generalize N / D = P at *
      generalize M / K = Q at *
      clear e1 e2 hpq
      go_wp2_with (first
        | (go_at_call 107; (with_reducible refine HF1.out.mono ?_); rintro e w' ⟨rfl, rfl⟩)
        | (go_at_call 107; (with_reducible refine HF2.out.mono ?_); rintro e w' ⟨rfl, rfl⟩))
      go_ret
      exact ⟨ret_int HR.out.symm, rfl⟩

end Go.Proofs.Ytpaoeghdfeekoaa
