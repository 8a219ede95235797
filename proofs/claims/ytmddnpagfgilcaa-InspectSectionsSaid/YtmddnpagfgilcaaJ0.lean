/- Mathematics of chapter 8: subsets, and the ways of a study. -/
import Derived.Lib.Hide

namespace Go.Proofs.Ytmddnpagfgilcaa

/-- Pascal's triangle. -/
def pas : Nat → Nat → Nat
  | _, 0 => 1
  | 0, _ + 1 => 0
  | n + 1, k + 1 => pas n k + pas n (k + 1)
theorem pas_zero (n : Nat) : pas n 0 = 1 := by cases n <;> rfl
theorem pas_succ (n k : Nat) : pas (n + 1) (k + 1) = pas n k + pas n (k + 1) := rfl
theorem pas_big : ∀ (n k : Nat), n < k → pas n k = 0
  | 0, 0, h => by omega
  | 0, _ + 1, _ => rfl
  | n + 1, 0, h => by omega
  | n + 1, k + 1, h => by rw [pas_succ, pas_big n k (by omega), pas_big n (k + 1) (by omega)]
theorem pas_mul : ∀ (n k : Nat), (k + 1) * pas n (k + 1) = (n - k) * pas n k
  | 0, 0 => by simp [pas]
  | 0, k + 1 => by simp [pas]
  | n + 1, 0 => by
    have h := pas_mul n 0
    rw [pas_zero] at h ⊢
    rw [pas_succ, pas_zero]
    omega
  | n + 1, k + 1 => by
    have h1 := pas_mul n k
    have h2 := pas_mul n (k + 1)
    rw [pas_succ, pas_succ]
    rcases Nat.lt_or_ge n (k + 1) with h | h
    · rw [pas_big n (k + 1) h, pas_big n (k + 1 + 1) (by omega)]
      rw [show n + 1 - (k + 1) = 0 by omega]
      simp
    · obtain ⟨d, rfl⟩ : ∃ d, n = k + 1 + d := ⟨n - (k + 1), by omega⟩
      rw [show k + 1 + d + 1 - (k + 1) = d + 1 by omega]
      rw [show k + 1 + d - k = d + 1 by omega] at h1
      rw [show k + 1 + d - (k + 1) = d by omega] at h2
      generalize pas (k + 1 + d) k = a at *
      generalize pas (k + 1 + d) (k + 1) = b at *
      generalize pas (k + 1 + d) (k + 1 + 1) = c at *
      grind
theorem pas_le : ∀ (n k : Nat), pas n k ≤ 2 ^ n
  | 0, 0 => by simp [pas]
  | 0, k + 1 => by simp [pas]
  | n + 1, 0 => by rw [pas_zero]; exact Nat.one_le_two_pow
  | n + 1, k + 1 => by
    have h1 := pas_le n k
    have h2 := pas_le n (k + 1)
    rw [pas_succ, Nat.pow_succ]
    omega
theorem pas_le30 {n : Nat} (k : Nat) (h : n ≤ 30) : pas n k ≤ 1073741824 :=
  Nat.le_trans (pas_le n k) (Nat.le_trans (Nat.pow_le_pow_right (by decide) h) (by decide))
/-- One step of the product formula. -/
theorem pas_step (n k : Nat) : ((pas n k : Nat) : Int) * ((n : Int) - (k : Int)) = ((k : Int) + 1) * ((pas n (k + 1) : Nat) : Int) := by
  rcases Nat.lt_or_ge n k with h | h
  · rw [pas_big n k h, pas_big n (k + 1) (by omega)]
    simp
  · have e := congrArg (Nat.cast (R := Int)) (pas_mul n k)
    rw [Int.natCast_mul, Int.natCast_mul, Int.natCast_add, Int.natCast_sub h] at e
    rw [Int.mul_comm, ← e]
    rfl
theorem pas_div (n k : Nat) : ((k : Int) + 1) * ((pas n (k + 1) : Nat) : Int) / ((k : Int) + 1) = ((pas n (k + 1) : Nat) : Int) :=
  Int.mul_ediv_cancel_left _ (by omega)

/-- So many ways with just n hits. -/
def term (t T n : Nat) : Nat := pas T n * t ^ n * (10 - t) ^ (T - n)
theorem term_succ (t T n : Nat) : term t (T + 1) (n + 1) = t * term t T n + (10 - t) * term t T (n + 1) := by
  unfold term
  rw [pas_succ, show T + 1 - (n + 1) = T - n by omega]
  rcases Nat.lt_or_ge T (n + 1) with h | h
  · rw [pas_big T (n + 1) h, Nat.pow_succ]
    generalize (10 - t) ^ (T - n) = a
    generalize t ^ n = b
    generalize pas T n = c
    grind
  · rw [show T - n = (T - (n + 1)) + 1 by omega, Nat.pow_succ, Nat.pow_succ]
    generalize (10 - t) ^ (T - (n + 1)) = a
    generalize t ^ n = b
    generalize pas T n = c
    generalize pas T (n + 1) = d
    generalize 10 - t = q
    grind
theorem term_zero (t T : Nat) : term t (T + 1) 0 = (10 - t) * term t T 0 := by
  unfold term
  rw [pas_zero, pas_zero, Nat.sub_zero, Nat.sub_zero, Nat.pow_succ, Nat.pow_zero]
  generalize (10 - t) ^ T = a
  generalize 10 - t = q
  grind
theorem term_big (t T n : Nat) (h : T < n) : term t T n = 0 := by unfold term; rw [pas_big T n h]; simp
/-- The sum of so many of them, from k hits on. -/
def tl (t T k : Nat) : Nat → Nat
  | 0 => 0
  | m + 1 => tl t T k m + term t T (k + m)
theorem tl_shift (t T k : Nat) : ∀ m, tl t T k (m + 1) = term t T k + tl t T (k + 1) m
  | 0 => by simp [tl]
  | m + 1 => by
    have := tl_shift t T k m
    rw [tl, this, tl, show k + 1 + m = k + (m + 1) by omega]
    omega
theorem tl_succ (t T k : Nat) : ∀ m, tl t (T + 1) (k + 1) m = t * tl t T k m + (10 - t) * tl t T (k + 1) m
  | 0 => by simp [tl]
  | m + 1 => by
    rw [tl, tl, tl, tl_succ t T k m, show k + 1 + m = (k + m) + 1 by omega, term_succ]
    generalize tl t T k m = a
    generalize tl t T (k + 1) m = b
    generalize term t T (k + m) = c
    generalize term t T (k + m + 1) = d
    generalize 10 - t = q
    grind
/-- The ways of at least k hits, trial by trial. -/
def fw (t : Nat) : Nat → Nat → Nat
  | 0, 0 => 1
  | 0, _ + 1 => 0
  | T + 1, k => t * fw t T (k - 1) + (10 - t) * fw t T k
theorem fw_succ (t T k : Nat) : fw t (T + 1) k = t * fw t T (k - 1) + (10 - t) * fw t T k := rfl
theorem tl_fw (t : Nat) : ∀ (T k m : Nat), T + 1 - k ≤ m → tl t T k m = fw t T k
  | 0, 0, m, h => by
    obtain ⟨m, rfl⟩ : ∃ d, m = d + 1 := ⟨m - 1, by omega⟩
    have z : ∀ m, tl t 0 1 m = 0 := by
      intro m
      induction m with
      | zero => rfl
      | succ m ih => rw [tl, ih, term_big _ _ _ (by omega)]
    rw [tl_shift, z]
    simp [term, pas, fw]
  | 0, k + 1, m, _ => by
    have z : ∀ m, tl t 0 (k + 1) m = 0 := by
      intro m
      induction m with
      | zero => rfl
      | succ m ih => rw [tl, ih, term_big _ _ _ (by omega)]
    rw [z]; rfl
  | T + 1, k + 1, m, h => by
    rw [tl_succ, tl_fw t T k m (by omega), tl_fw t T (k + 1) m (by omega), fw_succ]
    rfl
  | T + 1, 0, m, h => by
    obtain ⟨m, rfl⟩ : ∃ d, m = d + 1 := ⟨m - 1, by omega⟩
    have e1 := tl_fw t T 0 m (by omega)
    have e2 := tl_fw t T 0 (m + 1) (by omega)
    rw [tl_shift] at e2
    rw [tl_shift, tl_succ, term_zero, fw_succ, ← e2]
    rw [e1.trans e2.symm]
    generalize tl t T (0 + 1) m = b
    generalize term t T 0 = c
    generalize 10 - t = q
    grind
theorem fw_zero (t : Nat) (ht : t ≤ 10) : ∀ T, fw t T 0 = 10 ^ T
  | 0 => rfl
  | T + 1 => by
    rw [fw_succ, Nat.zero_sub, fw_zero t ht T, ← Nat.add_mul, show t + (10 - t) = 10 by omega, Nat.pow_succ, Nat.mul_comm]
theorem fw_big (t : Nat) : ∀ T k, T < k → fw t T k = 0
  | 0, 0, h => by omega
  | 0, _ + 1, _ => rfl
  | T + 1, k, h => by rw [fw_succ, fw_big t T (k - 1) (by omega), fw_big t T k (by omega)]; simp
theorem fw_anti (t : Nat) : ∀ T k, fw t T (k + 1) ≤ fw t T k
  | 0, k => by rw [fw_big t 0 (k + 1) (by omega)]; exact Nat.zero_le _
  | T + 1, k => by
    rw [fw_succ, fw_succ, Nat.add_sub_cancel]
    refine Nat.add_le_add (Nat.mul_le_mul_left _ ?_) (Nat.mul_le_mul_left _ (fw_anti t T k))
    cases k with
    | zero => exact Nat.le_refl _
    | succ k => exact fw_anti t T k
theorem fw_le (t : Nat) (ht : t ≤ 10) (T : Nat) : ∀ k, fw t T k ≤ 10 ^ T
  | 0 => by rw [fw_zero t ht]; exact Nat.le_refl _
  | k + 1 => Nat.le_trans (fw_anti t T k) (fw_le t ht T k)
theorem fw_add (t : Nat) (ht : t ≤ 10) : ∀ T k, k ≤ T + 1 → fw t T k + fw (10 - t) T (T + 1 - k) = 10 ^ T
  | T, 0, _ => by rw [fw_zero t ht, Nat.sub_zero, fw_big (10 - t) T (T + 1) (by omega)]; rfl
  | 0, k + 1, h => by
    obtain rfl : k = 0 := by omega
    rfl
  | T + 1, k + 1, h => by
    rcases Nat.lt_or_ge T k with h1 | h1
    · obtain rfl : k = T + 1 := by omega
      rw [fw_big t _ _ (by omega), show T + 1 + 1 - (T + 1 + 1) = 0 by omega, fw_zero (10 - t) (by omega)]
      omega
    · have e1 := fw_add t ht T k (by omega)
      have e2 := fw_add t ht T (k + 1) (by omega)
      rw [fw_succ, fw_succ, Nat.add_sub_cancel, show T + 1 + 1 - (k + 1) - 1 = T + 1 - (k + 1) by omega, show T + 1 + 1 - (k + 1) = T + 1 - k by omega, show 10 - (10 - t) = t by omega, Nat.pow_succ]
      obtain ⟨q, hq⟩ : ∃ q, t + q = 10 := ⟨10 - t, by omega⟩
      rw [show 10 - t = q by omega] at *
      generalize fw t T k = a at *
      generalize fw t T (k + 1) = b at *
      generalize fw q T (T + 1 - k) = c at *
      generalize fw q T (T + 1 - (k + 1)) = d at *
      generalize 10 ^ T = z at *
      have : t * z + q * z = z * 10 := by rw [← Nat.add_mul, hq, Nat.mul_comm]
      grind
theorem fw_mono (t : Nat) (ht : t + 1 ≤ 10) : ∀ T k, fw t T k ≤ fw (t + 1) T k
  | 0, 0 => Nat.le_refl _
  | 0, _ + 1 => Nat.le_refl _
  | T + 1, k => by
    have h1 := fw_mono t ht T (k - 1)
    have h2 := fw_mono t ht T k
    have h3 : fw t T k ≤ fw t T (k - 1) := by
      cases k with
      | zero => exact Nat.le_refl _
      | succ k => exact fw_anti t T k
    rw [fw_succ, fw_succ]
    have h4 : (10 - t) * fw t T k = fw t T k + (10 - (t + 1)) * fw t T k := by
      rw [show 10 - t = 1 + (10 - (t + 1)) by omega, Nat.add_mul, Nat.one_mul]
    have h5 := Nat.mul_le_mul_left (10 - (t + 1)) h2
    have h6 := Nat.mul_le_mul_left (t + 1) h1
    rw [Nat.add_mul, Nat.one_mul] at h6
    rw [h4]
    omega
theorem fw_none : ∀ T k, 1 ≤ k → fw 0 T k = 0
  | 0, 0, h => by omega
  | 0, _ + 1, _ => rfl
  | T + 1, k, h => by rw [fw_succ, fw_none T k h]; simp
theorem fw_mono_le {t s : Nat} (hs : s ≤ 10) (h : t ≤ s) (T k : Nat) : fw t T k ≤ fw s T k := by
  induction s with
  | zero => obtain rfl : t = 0 := by omega
            exact Nat.le_refl _
  | succ s ih =>
    rcases Nat.lt_or_ge s t with h1 | h1
    · obtain rfl : t = s + 1 := by omega
      exact Nat.le_refl _
    · exact Nat.le_trans (ih (by omega) h1) (fw_mono s hs T k)
/-- A term, and the product of its first two parts, are small. -/
theorem term_le (t : Nat) (ht : t ≤ 10) (T n : Nat) : term t T n ≤ 10 ^ T := by
  have h := tl_fw t T n (T + 1 - n + 1) (by omega)
  rw [tl_shift] at h
  exact Nat.le_trans (by omega) (fw_le t ht T n)
theorem head_le (t : Nat) (ht : t ≤ 10) : ∀ T n, pas T n * t ^ n ≤ 11 ^ T
  | T, 0 => by rw [pas_zero, Nat.pow_zero]; exact Nat.one_le_pow _ _ (by decide)
  | 0, n + 1 => by rw [pas_big 0 (n + 1) (by omega)]; simp
  | T + 1, n + 1 => by
    have h1 := head_le t ht T n
    have h2 := head_le t ht T (n + 1)
    rw [pas_succ, Nat.add_mul, Nat.pow_succ, Nat.pow_succ 11]
    rw [Nat.pow_succ] at h2
    have h3 : pas T n * (t ^ n * t) ≤ 11 ^ T * 10 := by rw [← Nat.mul_assoc]; exact Nat.mul_le_mul h1 ht
    omega
theorem tl_le (t : Nat) (ht : t ≤ 10) (T k m : Nat) : tl t T k m ≤ 10 ^ T := by
  have h : ∀ m j, tl t T k m ≤ tl t T k (m + j) := by
    intro m j
    induction j with
    | zero => exact Nat.le_refl _
    | succ j ih => exact Nat.le_trans ih (Nat.le_add_right _ _)
  have h1 := h m (T + 1)
  rw [tl_fw t T k (m + (T + 1)) (by omega)] at h1
  exact Nat.le_trans h1 (fw_le t ht T k)

/-- The greatest share of at most n tenths that is rare enough. -/
def shr (T h r : Nat) : Nat → Option Nat
  | 0 => if 1000 * fw 0 T h ≤ r * 10 ^ T then some 0 else none
  | n + 1 => if 1000 * fw (n + 1) T h ≤ r * 10 ^ T then some (n + 1) else shr T h r n
theorem shr_none {T h r : Nat} (hr : r ≤ 999) : ∀ n, n ≤ 10 → (shr T h r n = none ↔ h = 0)
  | 0, _ => by
    cases h with
    | zero =>
      have : 0 < 10 ^ T := Nat.pow_pos (by decide)
      rw [shr, fw_zero 0 (by decide), if_neg (by
        have := Nat.mul_le_mul_right (10 ^ T) hr
        omega)]
      simp
    | succ h => rw [shr, fw_none T (h + 1) (by omega), if_pos (by omega)]; simp
  | n + 1, hn => by
    have ih := shr_none (T := T) (h := h) hr n (by omega)
    cases h with
    | zero =>
      have : 0 < 10 ^ T := Nat.pow_pos (by decide)
      rw [shr, fw_zero (n + 1) hn, if_neg (by
        have := Nat.mul_le_mul_right (10 ^ T) hr
        omega)]
      exact ih
    | succ h =>
      rw [shr]
      split
      · simp
      · exact ih
theorem shr_some {T h r s : Nat} : ∀ n, n ≤ 10 → shr T h r n = some s → s ≤ n ∧ ∀ t, t ≤ n → (1000 * fw t T h ≤ r * 10 ^ T ↔ t ≤ s)
  | 0, _, e => by
    rw [shr] at e
    split at e
    · obtain rfl : 0 = s := by simpa using e
      refine ⟨Nat.le_refl _, fun t ht => ?_⟩
      obtain rfl : t = 0 := by omega
      simpa
    · cases e
  | n + 1, hn, e => by
    rw [shr] at e
    split at e
    · rename_i hp
      obtain rfl : n + 1 = s := by simpa using e
      refine ⟨Nat.le_refl _, fun t ht => ⟨fun _ => ht, fun _ => ?_⟩⟩
      exact Nat.le_trans (Nat.mul_le_mul_left _ (fw_mono_le hn ht T h)) hp
    · rename_i hp
      obtain ⟨h1, h2⟩ := shr_some n (by omega) e
      refine ⟨by omega, fun t ht => ?_⟩
      rcases Nat.lt_or_ge n t with h3 | h3
      · obtain rfl : t = n + 1 := by omega
        exact ⟨fun h => absurd h hp, fun h => by omega⟩
      · exact h2 t h3
theorem pow15 {T : Nat} (h : T ≤ 15) : 10 ^ T ≤ 1000000000000000 := Nat.le_trans (Nat.pow_le_pow_right (by decide) h) (by decide)
theorem pow15b {T : Nat} (h : T ≤ 15) : 11 ^ T ≤ 4177248169415651 := Nat.le_trans (Nat.pow_le_pow_right (by decide) h) (by decide)

end Go.Proofs.Ytmddnpagfgilcaa
