/- Quotients rounded down, and compared. -/
import Derived.Test.YtpaoeghdfeekoaaK6
namespace Go.Proofs.Ytpaoeghdfeekoaa
open Go.RowKit Go.Shelf Go.Mem Go.RegInv

theorem floor_unique {n b q : Int} (hb : 0 < b) (h1 : q * b ≤ n) (h2 : n < (q + 1) * b) : n / b = q := by
  have a := Int.le_ediv_of_mul_le hb h1
  have c := Int.ediv_lt_of_lt_mul hb h2
  omega

/-- Go's quotient of a negative number, and what is left of it. -/
theorem neg_parts {n b : Int} (hb : 0 < b) (hn : n < 0) : ∃ q r, n.tdiv b = q ∧ n.tmod b = r ∧ r ≤ 0 ∧ -b < r ∧ n = q * b + r ∧ n ≤ q ∧ q ≤ 0 := by
  obtain ⟨a, ha⟩ : ∃ a, n = -a := ⟨-n, by omega⟩
  have ha0 : 0 ≤ a := by omega
  subst ha
  refine ⟨-(a / b), -(a % b), ?_, ?_, ?_, ?_, ?_, ?_, ?_⟩
  · rw [Int.neg_tdiv, Int.tdiv_eq_ediv_of_nonneg ha0]
  · rw [Int.neg_tmod, Int.tmod_eq_emod_of_nonneg ha0]
  · have := Int.emod_nonneg a (show b ≠ 0 by omega); omega
  · have := Int.emod_lt_of_pos a hb; omega
  · have := Int.emod_add_mul_ediv a b
    rw [Int.neg_mul, Int.mul_comm (a / b) b]; omega
  · have := Int.ediv_le_self b ha0; omega
  · have := Int.ediv_nonneg ha0 (show 0 ≤ b by omega); omega

set_option maxHeartbeats 1000000 in
theorem floor_any (n b : Int) (hb : 0 < b ∧ b ≤ 5000000000000000000) (hn : -5000000000000000000 ≤ n ∧ n ≤ 5000000000000000000) (w : World) :
    Calls Try.prog 107 #[.int .i64 n, .int .i64 b] w fun e w' => e = .returned (.int .i64 (n / b)) ∧ w = w' := by
  obtain ⟨hb1, hb2⟩ := hb
  obtain ⟨hn1, hn2⟩ := hn
  by_cases h0 : 0 ≤ n
  · have h1 := Int.emod_nonneg n (show b ≠ 0 by omega)
    have h2 := Int.ediv_nonneg h0 (show 0 ≤ b by omega)
    have h3 := Int.ediv_le_self b h0
    have h4 : decide (n % b < 0) = false := by simp; omega
    go_enter Try.func107, Try.ntmps107
    go_wp2
    go_ret
    exact ⟨rfl, rfl⟩
  · obtain ⟨q, r, hq, hr, r0, rb, he, hnq, hq0⟩ := neg_parts hb1 (show n < 0 by omega)
    by_cases hrz : r = 0
    · have HF := Lib.hid (show n / b = q from floor_unique hb1 (by omega) (by rw [Int.add_mul, Int.one_mul]; omega))
      have hd : decide (r < 0) = false := by simp; omega
      generalize n / b = s at *
      clear he hrz
      go_enter Try.func107, Try.ntmps107
      go_wp2
      go_ret
      exact ⟨ret_int HF.out.symm, rfl⟩
    · have HF := Lib.hid (show n / b = q - 1 from floor_unique hb1 (by rw [Int.sub_mul, Int.one_mul]; omega) (by rw [show q - 1 + 1 = q by omega]; omega))
      have hd : decide (r < 0) = true := by simp; omega
      generalize n / b = s at *
      clear he hrz
      go_enter Try.func107, Try.ntmps107
      go_wp2
      go_ret
      exact ⟨ret_int HF.out.symm, rfl⟩

end Go.Proofs.Ytpaoeghdfeekoaa
