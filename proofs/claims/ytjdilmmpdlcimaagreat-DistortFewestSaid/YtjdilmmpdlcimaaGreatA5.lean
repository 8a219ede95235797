/- Divisors, lowest terms, rounding. -/
import Derived.Test.YtjdilmmpdlcimaaGreatA2
import Derived.Lib.MinMax

namespace Go.Proofs.YtjdilmmpdlcimaaGreat
open Go.RowKit Go.Shelf Go.Mem Go.RegInv
attribute [local go_sem] RelUpon_value RelUpon_skip RelUpon_enter BigFrame.eval_const BigFrame.eval_global BigFrame.eval_func

def Big (x : Int) : Prop := -1000000000000000000 ≤ x ∧ x ≤ 1000000000000000000
theorem gcd_step (d n : Int) (_hn : n ≠ 0) : Nat.gcd n.natAbs (d.tmod n).natAbs = Nat.gcd d.natAbs n.natAbs := by
  rw [Int.natAbs_tmod, Nat.gcd_comm, ← Nat.gcd_rec, Nat.gcd_comm]

theorem tmod_bd {d n : Int} (h : Big d) (hn : n ≠ 0) : -1000000000000000000 ≤ d.tmod n ∧ d.tmod n ≤ 1000000000000000000 ∧ (d.tmod n).natAbs < n.natAbs := by
  have h1 : (d.tmod n).natAbs < n.natAbs := by rw [Int.natAbs_tmod]; exact Nat.mod_lt _ (by omega)
  have h2 : (d.tmod n).natAbs ≤ d.natAbs := by rw [Int.natAbs_tmod]; exact Nat.mod_le _ _
  unfold Big at h
  omega

theorem wrap_tdiv {x m : Int} (h : Big x) : IntKind.i64.wrap (x.tdiv m) = x.tdiv m := by
  have := Int.natAbs_tdiv_le_natAbs x m
  unfold Big at h
  exact IntWalk.i64_in _ (by omega)

theorem divisor_any (a b : Int) (ha : Big a) (hb : Big b) (w : World) : Calls Tryz.prog 69 #[.int .i64 a, .int .i64 b] w fun e w' => e = .returned (.int .i64 (Nat.gcd a.natAbs b.natAbs : Int)) ∧ Ext w w' := by
  have HA := Lib.hid ha
  have HB := Lib.hid hb
  obtain ⟨g, hg⟩ : ∃ g, g = Nat.gcd a.natAbs b.natAbs := ⟨_, rfl⟩
  rw [← hg]
  have HG := Lib.hid hg
  clear ha hb hg
  go_enter Tryz.func69, Tryz.ntmps69
  go_wp2
  go_loopw [0, 1] (fun d m w2 => ∃ (d2 n2 : Int), d = .int .i64 d2 ∧ m = .int .i64 n2 ∧ Nat.gcd d2.natAbs n2.natAbs = g ∧ Big d2 ∧ Big n2 ∧ Ext w w2) (fun _ m _ => (intOf m).natAbs)
  case atStart => exact ⟨a, b, rfl, rfl, HG.out.symm, HA.out, HB.out, Ext.refl _⟩
  case round =>
    obtain ⟨d2, n2, rfl, rfl, hg2, hd2, hn2, he2⟩ := hrel
    by_cases hz : n2 = 0
    · subst hz
      have HG2 := Lib.hid (show d2.natAbs = g by rw [← hg2]; simp)
      have hd3 : -1000000000000000000 ≤ d2 ∧ d2 ≤ 1000000000000000000 := hd2
      obtain ⟨hd4, hd5⟩ := hd3
      clear hg2 hd2 hn2
      go_wp2
      all_goals go_ret
      all_goals exact ⟨ret_int (by rw [← HG2.out]; omega), he2⟩
    · have HG2 := Lib.hid ((gcd_step d2 n2 hz).trans hg2)
      have hm : -1000000000000000000 ≤ d2.tmod n2 ∧ d2.tmod n2 ≤ 1000000000000000000 ∧ (d2.tmod n2).natAbs < n2.natAbs := tmod_bd hd2 hz
      have hwr : IntKind.i64.wrap (d2.tmod n2) = d2.tmod n2 := IntWalk.i64_in _ (by omega)
      have hz' : (n2 == 0) = false := by simp [hz]
      have hz2 : (n2 != 0) = true := by simp [hz]
      have HN2 := Lib.hid hn2
      have HM := Lib.hid hm
      have HZ := Lib.hid hz
      clear hg2 hd2 hn2 hm
      go_wp2
      go_quiet (fail)
      go_wp2
      go_roundw
      case rel => exact ⟨n2, d2.tmod n2, rfl, rfl, HG2.out, HN2.out, ⟨HM.out.1, HM.out.2.1⟩, he2.trans (Ext.drewN _ _)⟩
      case measure => exact HM.out.2.2

theorem gcd_pos {a b : Int} (hb : 0 < b) (hB : b ≤ 1000000000000000000) : 1 ≤ Nat.gcd a.natAbs b.natAbs ∧ (Nat.gcd a.natAbs b.natAbs : Int) ≤ 1000000000000000000 := by
  have h1 : Nat.gcd a.natAbs b.natAbs ≠ 0 := by rw [Ne, Nat.gcd_eq_zero_iff]; omega
  have := Nat.le_of_dvd (by omega) (Nat.gcd_dvd_right a.natAbs b.natAbs)
  omega
def lowT (a b : Int) : Int × Int := (a.tdiv (Nat.gcd a.natAbs b.natAbs), b.tdiv (Nat.gcd a.natAbs b.natAbs))

theorem floor_unique {n b q : Int} (hb : 0 < b) (h1 : q * b ≤ n) (h2 : n < (q + 1) * b) : n / b = q := by
  have a := Int.le_ediv_of_mul_le hb h1
  have c := Int.ediv_lt_of_lt_mul hb h2
  omega

/-- Go's quotient of a negative number, and what is left of it. -/
theorem neg_parts {n b : Int} (hb : 0 < b) (hn : n < 0) : ∃ q r, n.tdiv b = q ∧ n.tmod b = r ∧ r ≤ 0 ∧ -b < r ∧ n = q * b + r ∧ n ≤ q ∧ q ≤ 0 := by
  obtain ⟨a, ha⟩ : ∃ a, n = -a := ⟨-n, by omega⟩
  have ha0 : 0 ≤ a := by omega
  subst ha
  refine ⟨-(a / b), -(a % b), ?_, ?_, ?_, ?_, ?_, ?_, ?_⟩
  · rw [Int.neg_tdiv, Int.tdiv_eq_ediv_of_nonneg ha0]
  · rw [Int.neg_tmod, Int.tmod_eq_emod_of_nonneg ha0]
  · have := Int.emod_nonneg a (show b ≠ 0 by omega); omega
  · have := Int.emod_lt_of_pos a hb; omega
  · have := Int.emod_add_mul_ediv a b
    rw [Int.neg_mul, Int.mul_comm (a / b) b]; omega
  · have := Int.ediv_le_self b ha0; omega
  · have := Int.ediv_nonneg ha0 (show 0 ≤ b by omega); omega

set_option maxHeartbeats 1000000 in
theorem floor_any (n b : Int) (hb : 0 < b ∧ b ≤ 5000000000000000000) (hn : -5000000000000000000 ≤ n ∧ n ≤ 5000000000000000000) (w : World) :
    Calls Tryz.prog 58 #[.int .i64 n, .int .i64 b] w fun e w' => e = .returned (.int .i64 (n / b)) ∧ w = w' := by
  obtain ⟨hb1, hb2⟩ := hb
  obtain ⟨hn1, hn2⟩ := hn
  by_cases h0 : 0 ≤ n
  · have h1 := Int.emod_nonneg n (show b ≠ 0 by omega)
    have h2 := Int.ediv_nonneg h0 (show 0 ≤ b by omega)
    have h3 := Int.ediv_le_self b h0
    have h4 : decide (n % b < 0) = false := by simp; omega
    go_enter Tryz.func58, Tryz.ntmps58
    go_wp2
    go_ret
    exact ⟨rfl, rfl⟩
  · obtain ⟨q, r, hq, hr, r0, rb, he, hnq, hq0⟩ := neg_parts hb1 (show n < 0 by omega)
    by_cases hrz : r = 0
    · have HF := Lib.hid (show n / b = q from floor_unique hb1 (by omega) (by rw [Int.add_mul, Int.one_mul]; omega))
      have hd : decide (r < 0) = false := by simp; omega
      generalize n / b = s at *
      clear he hrz
      go_enter Tryz.func58, Tryz.ntmps58
      go_wp2
      go_ret
      exact ⟨ret_int HF.out.symm, rfl⟩
    · have HF := Lib.hid (show n / b = q - 1 from floor_unique hb1 (by rw [Int.sub_mul, Int.one_mul]; omega) (by rw [show q - 1 + 1 = q by omega]; omega))
      have hd : decide (r < 0) = true := by simp; omega
      generalize n / b = s at *
      clear he hrz
      go_enter Tryz.func58, Tryz.ntmps58
      go_wp2
      go_ret
      exact ⟨ret_int HF.out.symm, rfl⟩


set_option maxHeartbeats 1000000 in
theorem floorP_any (n b : Int) (hb : 0 < b ∧ b ≤ 5000000000000000000) (hn : -5000000000000000000 ≤ n ∧ n ≤ 5000000000000000000) (w : World) :
    Calls Tryz.prog 66 #[.int .i64 n, .int .i64 b] w fun e w' => e = .returned (.int .i64 (n / b)) ∧ w = w' := by
  obtain ⟨hb1, hb2⟩ := hb
  obtain ⟨hn1, hn2⟩ := hn
  by_cases h0 : 0 ≤ n
  · have h1 := Int.emod_nonneg n (show b ≠ 0 by omega)
    have h2 := Int.ediv_nonneg h0 (show 0 ≤ b by omega)
    have h3 := Int.ediv_le_self b h0
    have h4 : decide (n % b < 0) = false := by simp; omega
    go_enter Tryz.func66, Tryz.ntmps66
    go_wp2
    go_ret
    exact ⟨rfl, rfl⟩
  · obtain ⟨q, r, hq, hr, r0, rb, he, hnq, hq0⟩ := neg_parts hb1 (show n < 0 by omega)
    by_cases hrz : r = 0
    · have HF := Lib.hid (show n / b = q from floor_unique hb1 (by omega) (by rw [Int.add_mul, Int.one_mul]; omega))
      have hd : decide (r < 0) = false := by simp; omega
      generalize n / b = s at *
      clear he hrz
      go_enter Tryz.func66, Tryz.ntmps66
      go_wp2
      go_ret
      exact ⟨ret_int HF.out.symm, rfl⟩
    · have HF := Lib.hid (show n / b = q - 1 from floor_unique hb1 (by rw [Int.sub_mul, Int.one_mul]; omega) (by rw [show q - 1 + 1 = q by omega]; omega))
      have hd : decide (r < 0) = true := by simp; omega
      generalize n / b = s at *
      clear he hrz
      go_enter Tryz.func66, Tryz.ntmps66
      go_wp2
      go_ret
      exact ⟨ret_int HF.out.symm, rfl⟩



theorem ceilP_any (n b : Int) (hb : 0 < b ∧ b ≤ 5000000000000000000) (hn : -5000000000000000000 ≤ n ∧ n ≤ 5000000000000000000) (w : World) :
    Calls Tryz.prog 55 #[.int .i64 n, .int .i64 b] w fun e w' => e = .returned (.int .i64 (ceilD n b)) ∧ w = w' := by
  have HF := Lib.hid (fun W => floorP_any (-n) b hb (by omega) W)
  have h1 : -5000000000000000000 ≤ (-n) / b ∧ (-n) / b ≤ 5000000000000000000 := by
    have h2 := Int.ediv_mul_le (-n) (show b ≠ 0 by omega)
    have h3 := Int.lt_ediv_add_one_mul_self (-n) hb.1
    constructor
    · rcases Int.lt_or_le ((-n) / b) (-5000000000000000000) with h | h
      · have h4 : ((-n) / b + 1) * b ≤ (-5000000000000000000) * b := Int.mul_le_mul_of_nonneg_right (by omega) (by omega)
        have h5 : (-5000000000000000000 : Int) * b ≤ -5000000000000000000 := by omega
        omega
      · exact h
    · rcases Int.lt_or_le 5000000000000000000 ((-n) / b) with h | h
      · have h4 : 5000000000000000001 * b ≤ ((-n) / b) * b := Int.mul_le_mul_of_nonneg_right (by omega) (by omega)
        omega
      · exact h
  unfold ceilD
  generalize (-n) / b = q at *
  go_enter Tryz.func55, Tryz.ntmps55
  go_wp2_with (go_at_call 66; refine (HF.out _).mono ?_; rintro e W1 ⟨rfl, rfl⟩)
  go_ret
  exact ⟨rfl, rfl⟩

theorem ceil_any (n b : Int) (hb : 0 < b ∧ b ≤ 5000000000000000000) (hn : -5000000000000000000 ≤ n ∧ n ≤ 5000000000000000000) (w : World) :
    Calls Tryz.prog 38 #[.int .i64 n, .int .i64 b] w fun e w' => e = .returned (.int .i64 (ceilD n b)) ∧ w = w' := by
  have HF := Lib.hid (fun W => floor_any (-n) b hb (by omega) W)
  have h1 : -5000000000000000000 ≤ (-n) / b ∧ (-n) / b ≤ 5000000000000000000 := by
    have h2 := Int.ediv_mul_le (-n) (show b ≠ 0 by omega)
    have h3 := Int.lt_ediv_add_one_mul_self (-n) hb.1
    constructor
    · rcases Int.lt_or_le ((-n) / b) (-5000000000000000000) with h | h
      · have h4 : ((-n) / b + 1) * b ≤ (-5000000000000000000) * b := Int.mul_le_mul_of_nonneg_right (by omega) (by omega)
        have h5 : (-5000000000000000000 : Int) * b ≤ -5000000000000000000 := by omega
        omega
      · exact h
    · rcases Int.lt_or_le 5000000000000000000 ((-n) / b) with h | h
      · have h4 : 5000000000000000001 * b ≤ ((-n) / b) * b := Int.mul_le_mul_of_nonneg_right (by omega) (by omega)
        omega
      · exact h
  unfold ceilD
  generalize (-n) / b = q at *
  go_enter Tryz.func38, Tryz.ntmps38
  go_wp2_with (go_at_call 58; refine (HF.out _).mono ?_; rintro e W1 ⟨rfl, rfl⟩)
  go_ret
  exact ⟨rfl, rfl⟩

end Go.Proofs.YtjdilmmpdlcimaaGreat
