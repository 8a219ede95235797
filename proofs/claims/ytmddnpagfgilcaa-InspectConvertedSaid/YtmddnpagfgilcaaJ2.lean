/- Monotone values of curves. -/
import Derived.Test.YtmddnpagfgilcaaG4

namespace Go.Proofs.Ytmddnpagfgilcaa
open Go.RowKit Go.Shelf Go.Mem Go.RegInv
attribute [local go_sem] RelUpon_value RelUpon_skip RelUpon_enter BigFrame.eval_const BigFrame.eval_global BigFrame.eval_func


def flo (p : Int × Int) : Int := p.1 / p.2
def cei (p : Int × Int) : Int := -(-p.1 / p.2)
theorem low_parts {a b : Int} (hb : 0 < b) : ∃ g : Int, 0 < g ∧ a = g * (lowT a b).1 ∧ b = g * (lowT a b).2 := by
  have h3 : 0 < Nat.gcd a.natAbs b.natAbs := Nat.gcd_pos_of_pos_right _ (by omega)
  have h4 : ((Nat.gcd a.natAbs b.natAbs : Nat) : Int) ∣ b := Int.ofNat_dvd_left.2 (Nat.gcd_dvd_right _ _)
  have h5 : ((Nat.gcd a.natAbs b.natAbs : Nat) : Int) ∣ a := Int.ofNat_dvd_left.2 (Nat.gcd_dvd_left _ _)
  exact ⟨(Nat.gcd a.natAbs b.natAbs : Nat), by omega, (Int.mul_tdiv_cancel' h5).symm, (Int.mul_tdiv_cancel' h4).symm⟩
theorem flo_low {a b : Int} (hb : 0 < b) : flo (lowT a b) = a / b := by
  obtain ⟨g, hg, h1, h2⟩ := low_parts (a := a) hb
  unfold flo
  generalize lowT a b = p at *
  rw [h1, h2, Int.mul_ediv_mul_of_pos _ _ hg]
theorem cei_low {a b : Int} (hb : 0 < b) : cei (lowT a b) = -(-a / b) := by
  obtain ⟨g, hg, h1, h2⟩ := low_parts (a := a) hb
  unfold cei
  generalize lowT a b = p at *
  rw [h1, h2, ← Int.mul_neg, Int.mul_ediv_mul_of_pos _ _ hg]
def linN (y z : Int × Int) (d : Int) : Int := y.2 * (z.1 - d) + z.2 * (d - y.1)
theorem flo_line {y z : Int × Int} {d : Int} (h : y.1 < z.1) : flo (lineV y z d) = linN y z d / (z.1 - y.1) := by
  rw [lineV_alt, flo_low (by omega)]; rfl
theorem cei_line {y z : Int × Int} {d : Int} (h : y.1 < z.1) : cei (lineV y z d) = -(-linN y z d / (z.1 - y.1)) := by
  rw [lineV_alt, cei_low (by omega)]; rfl
theorem linN_lo {y z : Int × Int} {d : Int} (h1 : y.2 ≤ z.2) (h2 : y.1 ≤ d) : y.2 * (z.1 - y.1) ≤ linN y z d := by
  have := Int.mul_nonneg (show 0 ≤ z.2 - y.2 by omega) (show 0 ≤ d - y.1 by omega)
  unfold linN
  simp only [Int.mul_sub, Int.sub_mul] at *
  omega
theorem linN_hi {y z : Int × Int} {d : Int} (h1 : y.2 ≤ z.2) (h2 : d ≤ z.1) : linN y z d ≤ z.2 * (z.1 - y.1) := by
  have := Int.mul_nonneg (show 0 ≤ z.2 - y.2 by omega) (show 0 ≤ z.1 - d by omega)
  unfold linN
  simp only [Int.mul_sub, Int.sub_mul] at *
  omega
theorem linN_mono {y z : Int × Int} {d e : Int} (h1 : y.2 ≤ z.2) (h2 : d ≤ e) : linN y z d ≤ linN y z e := by
  have := Int.mul_nonneg (show 0 ≤ z.2 - y.2 by omega) (show 0 ≤ e - d by omega)
  unfold linN
  simp only [Int.mul_sub, Int.sub_mul] at *
  omega
theorem flo_bds {y z : Int × Int} {d : Int} (h : y.1 < z.1) (h1 : y.2 ≤ z.2) (h2 : y.1 ≤ d) (h3 : d ≤ z.1) : y.2 ≤ flo (lineV y z d) ∧ flo (lineV y z d) ≤ z.2 := by
  rw [flo_line h]
  have a := Int.ediv_le_ediv (show 0 < z.1 - y.1 by omega) (linN_lo (z := z) h1 h2)
  have b := Int.ediv_le_ediv (show 0 < z.1 - y.1 by omega) (linN_hi (y := y) h1 h3)
  rw [Int.mul_ediv_cancel _ (by omega)] at a b
  exact ⟨a, b⟩
theorem cei_bds {y z : Int × Int} {d : Int} (h : y.1 < z.1) (h1 : y.2 ≤ z.2) (h2 : y.1 ≤ d) (h3 : d ≤ z.1) : y.2 ≤ cei (lineV y z d) ∧ cei (lineV y z d) ≤ z.2 := by
  rw [cei_line h]
  have a := Int.ediv_le_ediv (show 0 < z.1 - y.1 by omega) (Int.neg_le_neg (linN_lo (z := z) h1 h2))
  have b := Int.ediv_le_ediv (show 0 < z.1 - y.1 by omega) (Int.neg_le_neg (linN_hi (y := y) h1 h3))
  rw [← Int.neg_mul, Int.mul_ediv_cancel _ (by omega)] at a b
  omega
/-- Where a number lies between the points of a curve. -/
theorem seg_at {ps : List (Int × Int)} {d : Int} {n : Nat} (hn2 : 2 ≤ n) (hin : (ps.getD 0 default).1 ≤ d ∧ d ≤ (ps.getD (n - 1) default).1) :
    ∃ j, j + 1 < n ∧ (ps.getD j default).1 ≤ d ∧ d ≤ (ps.getD (j + 1) default).1 ∧ (∀ i, 1 ≤ i → i < j + 1 → (ps.getD i default).1 < d) ∧ atV ps d n = lineV (ps.getD j default) (ps.getD (j + 1) default) d := by
  obtain ⟨h1, h2, h3, h4⟩ := atJ_bd (ps := ps) (d := d) (n - 2) 1
  obtain ⟨j, hj⟩ : ∃ j, atJ ps d (n - 2) 1 = j + 1 := ⟨atJ ps d (n - 2) 1 - 1, by omega⟩
  rw [hj] at h1 h2 h3 h4
  have hd : d ≤ (ps.getD (j + 1) default).1 := by
    rcases Nat.lt_or_ge (j + 1) (1 + (n - 2)) with h | h
    · exact h4 h
    · rw [show j + 1 = n - 1 by omega]; exact hin.2
  refine ⟨j, by omega, ?_, hd, h3, atV_at (by omega) h3 hd⟩
  rcases Nat.eq_zero_or_pos j with h | h
  · rw [h]; exact hin.1
  · have := h3 j h (by omega); omega
structure Cv (ps : List (Int × Int)) (n : Nat) : Prop where
  n2 : 2 ≤ n
  u : ∀ i j, i < j → j < n → (ps.getD i default).1 < (ps.getD j default).1
  m : ∀ i j, i ≤ j → j < n → (ps.getD i default).2 ≤ (ps.getD j default).2
def InC (ps : List (Int × Int)) (n : Nat) (d : Int) : Prop := (ps.getD 0 default).1 ≤ d ∧ d ≤ (ps.getD (n - 1) default).1
theorem val_mono {ps : List (Int × Int)} {n : Nat} (C : Cv ps n) {d e : Int} (hd : InC ps n d) (he : InC ps n e) (hde : d ≤ e) : flo (atV ps d n) ≤ flo (atV ps e n) ∧ cei (atV ps d n) ≤ cei (atV ps e n) := by
  obtain ⟨j, j1, j2, j3, j4, j5⟩ := seg_at C.n2 hd
  obtain ⟨k, k1, k2, k3, k4, k5⟩ := seg_at C.n2 he
  have hjk : j ≤ k := by
    rcases Nat.lt_or_ge k j with h | h
    · have := j4 (k + 1) (by omega) (by omega); omega
    · exact h
  rw [j5, k5]
  have ju := C.u j (j + 1) (by omega) j1
  have ku := C.u k (k + 1) (by omega) k1
  have jm := C.m j (j + 1) (by omega) j1
  have km := C.m k (k + 1) (by omega) k1
  rcases Nat.lt_or_ge j k with h | h
  · have a := flo_bds ju jm j2 j3
    have b := flo_bds ku km k2 k3
    have c := cei_bds ju jm j2 j3
    have e := cei_bds ku km k2 k3
    have := C.m (j + 1) k (by omega) (by omega)
    omega
  · obtain rfl : j = k := by omega
    rw [flo_line ju, flo_line ju, cei_line ju, cei_line ju]
    have l := linN_mono (y := ps.getD j default) (z := ps.getD (j + 1) default) jm hde
    have a := Int.ediv_le_ediv (show 0 < (ps.getD (j + 1) default).1 - (ps.getD j default).1 by omega) l
    have b := Int.ediv_le_ediv (show 0 < (ps.getD (j + 1) default).1 - (ps.getD j default).1 by omega) (Int.neg_le_neg l)
    omega
theorem val_knot {ps : List (Int × Int)} {n k : Nat} (C : Cv ps n) (hk : k < n) : flo (atV ps (ps.getD k default).1 n) = (ps.getD k default).2 ∧ cei (atV ps (ps.getD k default).1 n) = (ps.getD k default).2 := by
  have hin : InC ps n (ps.getD k default).1 := by
    refine ⟨?_, ?_⟩
    · rcases Nat.eq_zero_or_pos k with h | h
      · rw [h]; exact Int.le_refl _
      · exact Int.le_of_lt (C.u 0 k h hk)
    · rcases Nat.lt_or_ge k (n - 1) with h | h
      · exact Int.le_of_lt (C.u k (n - 1) h (by have := C.n2; omega))
      · rw [show n - 1 = k by omega]; exact Int.le_refl _
  obtain ⟨j, j1, j2, j3, j4, j5⟩ := seg_at C.n2 hin
  have ju := C.u j (j + 1) (by omega) j1
  rw [j5, flo_line ju, cei_line ju]
  have hjk : k = j ∨ k = j + 1 := by
    rcases Nat.lt_or_ge k j with h | h
    · have := C.u k j h (by omega); omega
    · rcases Nat.lt_or_ge (j + 1) k with h' | h'
      · have := C.u (j + 1) k h' hk; omega
      · omega
  have hL : linN (ps.getD j default) (ps.getD (j + 1) default) (ps.getD k default).1 = (ps.getD k default).2 * ((ps.getD (j + 1) default).1 - (ps.getD j default).1) := by
    unfold linN
    rcases hjk with h | h
    · rw [h]; simp
    · rw [h]; simp
  rw [hL, ← Int.neg_mul, Int.mul_ediv_cancel _ (by omega), Int.mul_ediv_cancel _ (by omega)]
  omega
theorem val_le {ps qs : List (Int × Int)} {n : Nat} (C : Cv ps n) (hf : ∀ i, i < n → (ps.getD i default).1 = (qs.getD i default).1) (hv : ∀ i, i < n → (ps.getD i default).2 ≤ (qs.getD i default).2) {d : Int} (hd : InC ps n d) : flo (atV ps d n) ≤ cei (atV qs d n) := by
  obtain ⟨j, j1, j2, j3, j4, j5⟩ := seg_at C.n2 hd
  have hq := atV_at (ps := qs) (d := d) j1 (fun i h1 h2 => by rw [← hf i (by omega)]; exact j4 i h1 h2) (by rw [← hf (j + 1) j1]; exact j3)
  have ju := C.u j (j + 1) (by omega) j1
  have f0 := hf j (by omega)
  have f1 := hf (j + 1) j1
  have v0 := hv j (by omega)
  have v1 := hv (j + 1) j1
  rw [j5, hq]
  generalize ps.getD j default = y at *
  generalize ps.getD (j + 1) default = z at *
  generalize qs.getD j default = s at *
  generalize qs.getD (j + 1) default = t at *
  rw [flo_line ju, cei_line (by omega), ← f0, ← f1]
  have l : linN y z d ≤ linN s t d := by
    unfold linN
    rw [← f0, ← f1]
    have a := Int.mul_le_mul_of_nonneg_right v0 (show 0 ≤ z.1 - d by omega)
    have b := Int.mul_le_mul_of_nonneg_right v1 (show 0 ≤ d - y.1 by omega)
    omega
  have hD : 0 < z.1 - y.1 := by omega
  generalize z.1 - y.1 = D at *
  generalize linN y z d = N at *
  generalize linN s t d = M at *
  have a := Int.ediv_le_ediv hD l
  have e1 := Int.mul_ediv_add_emod M D
  have e2 := Int.mul_ediv_add_emod (-M) D
  have r1 := Int.emod_nonneg M (show D ≠ 0 by omega)
  have r2 := Int.emod_nonneg (-M) (show D ≠ 0 by omega)
  have key : D * (M / D) ≤ D * (-(-M / D)) := by rw [Int.mul_neg]; omega
  have := Int.le_of_mul_le_mul_left key hD
  omega

end Go.Proofs.Ytmddnpagfgilcaa
