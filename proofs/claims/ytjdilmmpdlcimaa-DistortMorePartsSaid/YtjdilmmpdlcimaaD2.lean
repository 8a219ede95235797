/- Mathematics of samples: more parts, a smaller cover. -/
import Derived.Test.YtjdilmmpdlcimaaN4
import Derived.Test.YtjdilmmpdlcimaaA5

namespace Go.Proofs.Ytjdilmmpdlcimaa
open Go.RowKit Go.Shelf Go.Mem Go.RegInv
attribute [local go_sem] RelUpon_value RelUpon_skip RelUpon_enter BigFrame.eval_const BigFrame.eval_global BigFrame.eval_func


theorem dou_form (k a m : Nat) : douN (k + 1) a (a + m) = a ^ k * (a + (k + 1) * m) := by
  unfold douN
  have h : (k + 1) * (a + m) = k * a + (a + (k + 1) * m) := by grind
  rw [h, Nat.add_sub_cancel, Nat.add_sub_cancel_left]
theorem dou_next {n a b : Nat} (hn : 1 ≤ n) (h : a ≤ b) : douN (n + 1) a b ≤ b * douN n a b := by
  obtain ⟨k, rfl⟩ : ∃ k, n = k + 1 := ⟨n - 1, by omega⟩
  obtain ⟨m, rfl⟩ : ∃ m, b = a + m := ⟨b - a, by omega⟩
  rw [dou_form, dou_form, Nat.pow_succ]
  generalize a ^ k = p
  have h : (a + m) * (p * (a + (k + 1) * m)) = p * a * (a + (k + 1 + 1) * m) + p * ((k + 1) * (m * m)) := by grind
  rw [h]
  exact Nat.le_add_right _ _
theorem bern (x : Nat) : ∀ k, x ^ (k + 1) + (k + 1) * x ^ k ≤ (x + 1) ^ (k + 1)
  | 0 => by simp
  | k + 1 => by
    have ih := bern x k
    rw [Nat.pow_succ (x + 1), Nat.pow_succ x (k + 1), Nat.pow_succ x k] at *
    have h2 := Nat.mul_le_mul_right (x + 1) ih
    generalize x ^ k = p at *
    have h3 : (p * x + (k + 1) * p) * (x + 1) = p * x * x + (k + 1 + 1) * (p * x) + (k + 1) * p := by grind
    rw [h3] at h2
    exact Nat.le_trans (Nat.le_add_right _ _) h2
theorem dou_mono {n x b : Nat} (hn : 1 ≤ n) (h : x + 1 ≤ b) : douN n x b ≤ douN n (x + 1) b := by
  obtain ⟨k, rfl⟩ : ∃ k, n = k + 1 := ⟨n - 1, by omega⟩
  obtain ⟨m, rfl⟩ : ∃ m, b = x + 1 + m := ⟨b - (x + 1), by omega⟩
  rw [dou_form k (x + 1) m, show x + 1 + m = x + (m + 1) by omega, dou_form k x (m + 1)]
  cases k with
  | zero => simp; omega
  | succ j =>
    have hb := bern x j
    rw [Nat.pow_succ x j] at *
    generalize x ^ j = p at *
    refine Nat.le_trans ?_ (Nat.mul_le_mul_right _ hb)
    have h3 : (p * x + (j + 1) * p) * (x + 1 + (j + 1 + 1) * m) = p * x * (x + (j + 1 + 1) * (m + 1)) + p * ((j + 1) + (j + 1) * ((j + 2) * m)) := by grind
    rw [h3]
    exact Nat.le_add_right _ _
theorem enB_iff {n a b c d : Nat} : enB n a b c d = true ↔ douN n a b * d ≤ b ^ n * (d - c) := by
  unfold enB
  simp
theorem en_next {n a b c d : Nat} (hn : 1 ≤ n) (h : a ≤ b) (he : enB n a b c d = true) : enB (n + 1) a b c d = true := by
  rw [enB_iff] at *
  have h1 := Nat.mul_le_mul_right d (dou_next hn h)
  have h2 := Nat.mul_le_mul_left b he
  rw [Nat.pow_succ, Nat.mul_comm (b ^ n) b, Nat.mul_assoc]
  rw [Nat.mul_assoc] at h1
  exact Nat.le_trans h1 h2
theorem en_up {a b c d : Nat} (h : a ≤ b) {n m : Nat} (hn : 1 ≤ n) (hm : n ≤ m) (he : enB n a b c d = true) : enB m a b c d = true := by
  induction hm with
  | refl => exact he
  | step hm ih => exact en_next (Nat.le_trans hn hm) h ih
theorem en_mono {n x b c d : Nat} (hn : 1 ≤ n) (h : x + 1 ≤ b) (he : enB n (x + 1) b c d = true) : enB n x b c d = true := by
  rw [enB_iff] at *
  exact Nat.le_trans (Nat.mul_le_mul_right d (dou_mono hn h)) he
theorem en_scale {n g a b c d : Nat} (hn : 1 ≤ n) (h : a ≤ b) (hg : 0 < g) (he : enB n (g * a) (g * b) c d = true) : enB n a b c d = true := by
  rw [enB_iff] at *
  obtain ⟨k, rfl⟩ : ∃ k, n = k + 1 := ⟨n - 1, by omega⟩
  obtain ⟨m, rfl⟩ : ∃ m, b = a + m := ⟨b - a, by omega⟩
  rw [Nat.mul_add g a m, dou_form, Nat.mul_pow, ← Nat.mul_add g a m, Nat.mul_pow] at he
  rw [dou_form]
  have hp : 0 < g ^ (k + 1) := Nat.pow_pos hg
  rw [Nat.pow_succ g k] at *
  generalize g ^ k = q at *
  refine Nat.le_of_mul_le_mul_left ?_ hp
  generalize a ^ k = p at *
  generalize (a + m) ^ (k + 1) = r at *
  have e1 : q * g * (p * (a + (k + 1) * m) * d) = q * p * (g * a + (k + 1) * (g * m)) * d := by grind
  rw [e1, ← Nat.mul_assoc (q * g) r (d - c)]
  exact he
theorem smpF_spec (a b c d : Nat) : ∀ f n, (∃ m : Nat, smpF a b c d f n = ((m : Int), 0) ∧ n ≤ m ∧ m < n + f ∧ enB m a b c d = true ∧ ∀ k, n ≤ k → k < m → enB k a b c d = false) ∨ (smpF a b c d f n = (0, 12) ∧ ∀ k, n ≤ k → k < n + f → enB k a b c d = false)
  | 0, n => .inr ⟨rfl, fun k h1 h2 => by omega⟩
  | f + 1, n => by
    by_cases he : enB n a b c d = true
    · exact .inl ⟨n, by rw [smpF, if_pos he], by omega, by omega, he, fun k h1 h2 => by omega⟩
    · have hs : smpF a b c d (f + 1) n = smpF a b c d f (n + 1) := by rw [smpF, if_neg he]
      rw [hs]
      rcases smpF_spec a b c d f (n + 1) with ⟨m, h1, h2, h3, h4, h5⟩ | ⟨h1, h2⟩
      · refine .inl ⟨m, h1, by omega, by omega, h4, fun k hk hm => ?_⟩
        rcases (show k = n ∨ n + 1 ≤ k by omega) with rfl | h
        · simpa using he
        · exact h5 k h hm
      · refine .inr ⟨h1, fun k hk hm => ?_⟩
        rcases (show k = n ∨ n + 1 ≤ k by omega) with rfl | h
        · simpa using he
        · exact h2 k h (by omega)
/-- A cover's smaller neighbour in lowest terms. -/
theorem low_FrOK {x b : Nat} (hb : 1 ≤ b) (hb2 : b ≤ 100) (h : x + 1 ≤ b) : ∃ g a' b', 0 < g ∧ x = g * a' ∧ b = g * b' ∧ FrOK a' b' ∧ lowT (x : Int) (b : Int) = ((a' : Int), (b' : Int)) := by
  have hg : 0 < Nat.gcd x b := Nat.gcd_pos_of_pos_right x hb
  obtain ⟨a', ha⟩ := Nat.gcd_dvd_left x b
  obtain ⟨b', hb'⟩ := Nat.gcd_dvd_right x b
  have hl : lowT (x : Int) (b : Int) = (((x / Nat.gcd x b : Nat) : Int), ((b / Nat.gcd x b : Nat) : Int)) := rfl
  have e1 : x / Nat.gcd x b = a' := Nat.div_eq_of_eq_mul_right hg ha
  have e2 : b / Nat.gcd x b = b' := Nat.div_eq_of_eq_mul_right hg hb'
  rw [e1, e2] at hl
  clear e1 e2
  generalize hgd : Nat.gcd x b = g at *
  have hc : Nat.gcd a' b' = 1 := by
    have h1 := Nat.gcd_mul_left g a' b'
    rw [← ha, ← hb', hgd] at h1
    exact Nat.eq_of_mul_eq_mul_left hg (by omega)
  have hb1 : 1 ≤ b' := by
    rcases Nat.eq_zero_or_pos b' with h0 | h0
    · subst h0; omega
    · exact h0
  have hab : a' ≤ b' := Nat.le_of_mul_le_mul_left (show g * a' ≤ g * b' by omega) hg
  have hbb : b' ≤ b := by rw [hb']; exact Nat.le_mul_of_pos_left _ hg
  exact ⟨g, a', b', hg, ha, hb', ⟨hb1, by omega, hab, hc⟩, hl⟩

end Go.Proofs.Ytjdilmmpdlcimaa
