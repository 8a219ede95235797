/- The remainder that is not negative. -/
import Derived.Test.YtjdilmmpdlcimaaA5
import Derived.Lib.MinMax

namespace Go.Proofs.Ytjdilmmpdlcimaa
open Go.RowKit Go.Shelf Go.Mem Go.RegInv
attribute [local go_sem] RelUpon_value RelUpon_skip RelUpon_enter BigFrame.eval_const BigFrame.eval_global BigFrame.eval_func


theorem tmod_lim {a m : Int} (hm : 0 < m) : a.tmod m < m ∧ -m < a.tmod m := by
  have := Nat.mod_lt a.natAbs (show 0 < m.natAbs by omega)
  rw [← Int.natAbs_tmod] at this
  omega
theorem emod_of {a m : Int} (hm : 0 < m) : a % m = if a.tmod m < 0 then a.tmod m + m else a.tmod m := by
  rw [Int.emod_eq_tmod]
  obtain ⟨h1, h2⟩ := tmod_lim (a := a) hm
  by_cases h : 0 ≤ a ∨ m ∣ a
  · rw [if_pos h]
    have : ¬ a.tmod m < 0 := by
      rcases h with h | h
      · have := Int.tmod_nonneg m h; omega
      · rw [Int.tmod_eq_zero_of_dvd h]; omega
    rw [if_neg this]; simp
  · rw [if_neg h]
    have h3 : a < 0 := by omega
    have h4 : a.tmod m ≤ 0 := by
      have := Int.tmod_nonneg m (show 0 ≤ -a by omega)
      rw [Int.neg_tmod] at this
      omega
    have h5 : a.tmod m ≠ 0 := fun e => h (Or.inr (Int.dvd_of_tmod_eq_zero e))
    rw [if_pos (by omega), show ((m.natAbs : Nat) : Int) = m by omega]
set_option maxRecDepth 100000 in
set_option maxHeartbeats 2000000 in
theorem mod_any (a m : Int) (hm : 0 < m ∧ m ≤ 1000000) (w : World) : Calls Try.prog 28 #[.int .i64 a, .int .i64 m] w fun e w' => e = .returned (.int .i64 (a % m)) ∧ w = w' := by
  obtain ⟨hm1, hm2⟩ := hm
  obtain ⟨h1, h2⟩ := tmod_lim (a := a) hm1
  have HE := Lib.hid (emod_of (a := a) hm1)
  have hm0 : m ≠ 0 := by omega
  by_cases h : a.tmod m < 0
  · have HZ := Lib.hid (show a % m = a.tmod m + m by rw [HE.out, if_pos h])
    clear HE
    generalize a % m = z at *
    go_enter Try.func28, Try.ntmps28
    go_wp2
    go_ret
    exact ⟨ret_int HZ.out.symm, rfl⟩
  · have HZ := Lib.hid (show a % m = a.tmod m by rw [HE.out, if_neg h])
    clear HE
    generalize a % m = z at *
    go_enter Try.func28, Try.ntmps28
    go_wp2
    go_ret
    exact ⟨ret_int HZ.out.symm, rfl⟩

end Go.Proofs.Ytjdilmmpdlcimaa
