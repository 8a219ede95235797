/- Mathematics of chapter 8: samples. -/
import Derived.Test.YtmddnpagfgilcaaJ0

namespace Go.Proofs.Ytmddnpagfgilcaa

theorem pas_mono (n k : Nat) : pas n k ≤ pas (n + 1) k := by
  cases k with
  | zero => rw [pas_zero, pas_zero]; exact Nat.le_refl _
  | succ k => rw [pas_succ]; exact Nat.le_add_left _ _
theorem pas_mul_le (c j : Nat) : ∀ (b k : Nat), pas b k * pas c j ≤ pas (b + c) (k + j)
  | 0, 0 => by simp [pas_zero]
  | 0, k + 1 => by rw [pas_big 0 (k + 1) (by omega)]; simp
  | b + 1, 0 => by
    have h := pas_mul_le c j b 0
    rw [pas_zero] at h ⊢
    rw [show b + 1 + c = b + c + 1 by omega]
    exact Nat.le_trans h (pas_mono _ _)
  | b + 1, k + 1 => by
    have h1 := pas_mul_le c j b k
    have h2 := pas_mul_le c j b (k + 1)
    rw [show b + 1 + c = b + c + 1 by omega, show k + 1 + j = k + j + 1 by omega, pas_succ, pas_succ, Nat.add_mul]
    rw [show k + 1 + j = k + j + 1 by omega] at h2
    omega
theorem pas_self : ∀ n, pas n n = 1
  | 0 => rfl
  | n + 1 => by rw [pas_succ, pas_self n, pas_big n (n + 1) (by omega)]
theorem pas_pos : ∀ (n k : Nat), k ≤ n → 1 ≤ pas n k
  | n, 0, _ => by rw [pas_zero]; exact Nat.le_refl _
  | 0, k + 1, h => by omega
  | n + 1, k + 1, h => by rw [pas_succ]; have := pas_pos n k (by omega); omega

/-- How many samples of s parts have at most a bad ones; b of b + c parts are bad. -/
def vs (b c s : Nat) : Nat → Nat
  | 0 => 0
  | a + 1 => vs b c s a + pas b a * (if a ≤ s then pas c (s - a) else 0)
theorem vs_succ (b c s a : Nat) : vs b c s (a + 1) = vs b c s a + pas b a * (if a ≤ s then pas c (s - a) else 0) := rfl
theorem vs_in {b c s a : Nat} (h : a ≤ s) : vs b c s (a + 1) = vs b c s a + pas b a * pas c (s - a) := by rw [vs_succ, if_pos h]
/-- One bad part less: the difference. -/
theorem vs_diff (b c s : Nat) : ∀ a, vs b (c + 1) (s + 1) (a + 1) = vs (b + 1) c (s + 1) (a + 1) + (if a ≤ s then pas b a * pas c (s - a) else 0)
  | 0 => by
    rw [vs_in (Nat.zero_le _), vs_in (Nat.zero_le _), pas_zero, pas_zero, Nat.sub_zero, pas_succ, if_pos (Nat.zero_le _), Nat.sub_zero]
    simp only [vs]
    omega
  | a + 1 => by
    have ih := vs_diff b c s a
    rw [vs_succ _ _ _ (a + 1), vs_succ _ _ _ (a + 1), ih]
    rcases Nat.lt_or_ge s a with h | h
    · rw [if_neg (by omega), if_neg (by omega), if_neg (by omega), if_neg (by omega)]; omega
    · rw [if_pos h, if_pos (by omega), if_pos (by omega), pas_succ]
      rw [show s + 1 - (a + 1) = s - a by omega]
      rcases Nat.lt_or_ge s (a + 1) with h1 | h1
      · obtain rfl : a = s := by omega
        rw [if_neg (by omega), Nat.sub_self, pas_zero, pas_zero, Nat.add_mul]
        omega
      · rw [if_pos h1, show s - a = s - (a + 1) + 1 by omega, pas_succ]
        generalize pas c (s - (a + 1)) = x
        generalize pas c (s - (a + 1) + 1) = y
        generalize pas b a = u
        generalize pas b (a + 1) = v
        grind
theorem vs_none (c s : Nat) : ∀ a, vs 0 c s (a + 1) = pas c s
  | 0 => by rw [vs_in (Nat.zero_le _), pas_zero]; simp [vs]
  | a + 1 => by rw [vs_succ, vs_none c s a, pas_big 0 (a + 1) (by omega)]; simp
theorem vs_full (s : Nat) (hs : 1 ≤ s) : ∀ (b c : Nat), vs b c s (s + 1) = pas (b + c) s
  | 0, c => by rw [vs_none, Nat.zero_add]
  | b + 1, c => by
    obtain ⟨s, rfl⟩ : ∃ d, s = d + 1 := ⟨s - 1, by omega⟩
    have h := vs_diff b c s (s + 1)
    rw [if_neg (by omega), vs_full (s + 1) hs b (c + 1)] at h
    rw [show b + 1 + c = b + (c + 1) by omega]
    omega
theorem vs_mono (b c s a : Nat) : ∀ d, vs b c s a ≤ vs b c s (a + d)
  | 0 => Nat.le_refl _
  | d + 1 => Nat.le_trans (vs_mono b c s a d) (Nat.le_add_right _ _)
theorem vs_le {b c s a : Nat} (hs : 1 ≤ s) (h : a ≤ s + 1) : vs b c s a ≤ pas (b + c) s := by
  obtain ⟨d, hd⟩ : ∃ d, a + d = s + 1 := ⟨s + 1 - a, by omega⟩
  rw [← vs_full s hs, ← hd]
  exact vs_mono b c s a d
/-- Bad parts alone: accepted just if they are permitted. -/
theorem vs_bad (L s : Nat) : ∀ a, a ≤ s → vs L 0 s a = 0
  | 0, _ => rfl
  | a + 1, h => by
    rw [vs_in (by omega), vs_bad L s a (by omega), pas_big 0 (s - a) (by omega)]; simp
theorem vs_down {b c s a : Nat} : vs (b + 1) c (s + 1) (a + 1) ≤ vs b (c + 1) (s + 1) (a + 1) := by
  rw [vs_diff]; exact Nat.le_add_right _ _

/-- n! -/
def fct : Nat → Nat
  | 0 => 1
  | n + 1 => (n + 1) * fct n
theorem fct_pos : ∀ n, 0 < fct n
  | 0 => by decide
  | n + 1 => Nat.mul_pos (by omega) (fct_pos n)
theorem pas_fct (j : Nat) : ∀ k, pas (k + j) k * (fct k * fct j) = fct (k + j)
  | 0 => by rw [pas_zero, Nat.zero_add]; simp [fct]
  | k + 1 => by
    have ih := pas_fct (j + 1) k
    have h := pas_mul (k + 1 + j) k
    rw [show k + 1 + j - k = j + 1 by omega] at h
    rw [show k + (j + 1) = k + 1 + j by omega] at ih
    rw [← ih]
    show pas (k + 1 + j) (k + 1) * (((k + 1) * fct k) * fct j) = pas (k + 1 + j) k * (fct k * ((j + 1) * fct j))
    generalize pas (k + 1 + j) (k + 1) = x at *
    generalize pas (k + 1 + j) k = y at *
    generalize fct k = u at *
    generalize fct j = v at *
    have e : (k + 1) * x * (u * v) = (j + 1) * y * (u * v) := by rw [h]
    grind
/-- The four parts of a lot: bad and in the sample, good and in it, bad and not in it, neither. -/
theorem four (k p q r : Nat) : pas (k + q) k * pas (p + r) p * pas (k + q + (p + r)) (k + q) = pas (k + p) k * pas (q + r) q * pas (k + q + (p + r)) (k + p) := by
  have a1 := pas_fct q k
  have a2 := pas_fct r p
  have a3 := pas_fct (p + r) (k + q)
  have b1 := pas_fct p k
  have b2 := pas_fct r q
  have b3 := pas_fct (q + r) (k + p)
  rw [show k + p + (q + r) = k + q + (p + r) by omega] at b3
  have hk := fct_pos k
  have hp := fct_pos p
  have hq := fct_pos q
  have hr := fct_pos r
  have hpos : 0 < fct k * fct q * fct p * fct r := Nat.mul_pos (Nat.mul_pos (Nat.mul_pos hk hq) hp) hr
  refine Nat.eq_of_mul_eq_mul_right hpos ?_
  rw [← a1, ← a2] at a3
  rw [← b1, ← b2] at b3
  rw [← a3] at b3
  generalize fct k = fk at *
  generalize fct p = fp at *
  generalize fct q = fq at *
  generalize fct r = fr at *
  grind
theorem exch_at (L b s k : Nat) (hb : b ≤ L) (hs : s ≤ L) (hkb : k ≤ b) (hks : k ≤ s) : pas b k * pas (L - b) (s - k) * pas L b = pas s k * pas (L - s) (b - k) * pas L s := by
  rcases Nat.lt_or_ge L (b + (s - k)) with h | h
  · rw [pas_big (L - b) (s - k) (by omega), pas_big (L - s) (b - k) (by omega)]; simp
  · have := four k (s - k) (b - k) (L - b - (s - k))
    rw [show k + (b - k) = b by omega, show s - k + (L - b - (s - k)) = L - b by omega, show b + (L - b) = L by omega, show k + (s - k) = s by omega, show b - k + (L - b - (s - k)) = L - s by omega] at this
    exact this
theorem exch (L b s : Nat) (hb : b ≤ L) (hs : s ≤ L) : ∀ a, a ≤ b + 1 → a ≤ s + 1 → vs b (L - b) s a * pas L b = vs s (L - s) b a * pas L s
  | 0, _, _ => by simp [vs]
  | a + 1, h1, h2 => by
    rw [vs_in (by omega), vs_in (by omega), Nat.add_mul, Nat.add_mul, exch L b s hb hs a (by omega) (by omega), exch_at L b s a hb hs (by omega) (by omega)]

/-- The rows of Pascal's triangle, and that none of the first 31 is great. -/
def rowOf : Nat → List Nat
  | 0 => [1]
  | n + 1 => let r := rowOf n; List.zipWith (· + ·) (0 :: r) (r ++ [0])
theorem pas_row : ∀ n k, (rowOf n).getD k 0 = pas n k ∧ (rowOf n).length = n + 1
  | 0, 0 => ⟨rfl, rfl⟩
  | 0, k + 1 => ⟨rfl, rfl⟩
  | n + 1, k => by
    have hl : (rowOf (n + 1)).length = n + 1 + 1 := by
      have := (pas_row n 0).2
      simp [rowOf, this]
    refine ⟨?_, hl⟩
    have l0 := (pas_row n 0).2
    have h1 : ∀ k, (rowOf n ++ [0]).getD k 0 = pas n k := by
      intro k
      rw [← (pas_row n k).1]
      simp only [List.getD_eq_getElem?_getD, List.getElem?_append]
      split
      · rfl
      · rename_i h
        rw [List.getElem?_eq_none (l := rowOf n) (by omega)]
        rcases Nat.eq_zero_or_pos (k - (rowOf n).length) with h2 | h2
        · rw [h2]; rfl
        · rw [List.getElem?_eq_none (l := [0]) (by simp; omega)]
    rcases Nat.lt_or_ge k (n + 2) with h | h
    · have e : (rowOf (n + 1)).getD k 0 = (0 :: rowOf n).getD k 0 + (rowOf n ++ [0]).getD k 0 := by
        rw [rowOf]
        simp only [List.getD_eq_getElem?_getD, List.getElem?_zipWith]
        rw [List.getElem?_eq_getElem (show k < (0 :: rowOf n).length by simp; omega), List.getElem?_eq_getElem (show k < (rowOf n ++ [0]).length by simp; omega)]
        rfl
      rw [e, h1]
      cases k with
      | zero => simp [pas_zero]
      | succ k =>
        rw [pas_succ, ← (pas_row n k).1]
        rfl
    · rw [List.getD_eq_getElem?_getD, List.getElem?_eq_none (by omega), pas_big _ _ (by omega)]
      rfl
theorem rows_small : ∀ n, n < 31 → ∀ x ∈ rowOf n, x ≤ 155117520 := by decide +kernel
theorem pas_small {n : Nat} (k : Nat) (h : n ≤ 30) : pas n k ≤ 155117520 := by
  rcases Nat.lt_or_ge n k with h1 | h1
  · rw [pas_big n k h1]; exact Nat.zero_le _
  · obtain ⟨e, l⟩ := pas_row n k
    rw [← e, List.getD_eq_getElem?_getD, List.getElem?_eq_getElem (by omega)]
    exact rows_small n (by omega) _ (List.getElem_mem _)

end Go.Proofs.Ytmddnpagfgilcaa
