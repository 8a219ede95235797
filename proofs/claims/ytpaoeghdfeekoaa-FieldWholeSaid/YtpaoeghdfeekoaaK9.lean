/- Whole watts: the mathematics. -/
import Derived.Test.YtpaoeghdfeekoaaK8
namespace Go.Proofs.Ytpaoeghdfeekoaa
open Go.RowKit Go.Mem

theorem sq_le_abs {x y : Int} (hy : 0 ≤ y) (h : x * x ≤ y * y) : x ≤ y := by
  refine Int.le_of_not_gt fun hlt => ?_
  have a : y * y ≤ y * x := Int.mul_le_mul_of_nonneg_left (by omega) hy
  have b : y * x < x * x := Int.mul_lt_mul_of_pos_right (by omega) (by omega)
  omega
/-- The squares of both parts of the power add up to the product of both norms. -/
theorem norm_prod (v c : G) : realP v c * realP v c + turnQ v c * turnQ v c = normG v * normG c := by
  have e1 : v.re * c.re * (v.im * c.im) = v.re * v.im * (c.re * c.im) := mul_four _ _ _ _
  have e2 : v.im * c.im * (v.re * c.re) = v.re * v.im * (c.re * c.im) := by rw [mul_four, Int.mul_comm v.im, Int.mul_comm c.im]
  have e3 : v.im * c.re * (v.re * c.im) = v.re * v.im * (c.re * c.im) := by rw [mul_four, Int.mul_comm v.im]
  have e4 : v.re * c.im * (v.im * c.re) = v.re * v.im * (c.re * c.im) := by rw [mul_four, Int.mul_comm c.im]
  have f1 : v.re * c.re * (v.re * c.re) = v.re * v.re * (c.re * c.re) := mul_four _ _ _ _
  have f2 : v.im * c.im * (v.im * c.im) = v.im * v.im * (c.im * c.im) := mul_four _ _ _ _
  have f3 : v.im * c.re * (v.im * c.re) = v.im * v.im * (c.re * c.re) := mul_four _ _ _ _
  have f4 : v.re * c.im * (v.re * c.im) = v.re * v.re * (c.im * c.im) := mul_four _ _ _ _
  simp only [realP, turnQ, normG, Int.mul_add, Int.add_mul, Int.mul_sub, Int.sub_mul]
  omega
theorem parts_le {v c : G} {a b : Int} (ha : 0 ≤ a) (hb : 0 ≤ b) (hv : normG v ≤ a * a) (hc : normG c ≤ b * b) : realP v c ≤ a * b ∧ turnQ v c ≤ a * b := by
  have h := norm_prod v c
  have h1 := sq_nonneg (realP v c)
  have h2 := sq_nonneg (turnQ v c)
  have h3 : normG v * normG c ≤ a * a * (b * b) := Int.mul_le_mul hv hc (norm_nonneg c) (Int.mul_nonneg ha ha)
  have h4 : a * a * (b * b) = a * b * (a * b) := mul_four _ _ _ _
  have hab := Int.mul_nonneg ha hb
  exact ⟨sq_le_abs hab (by omega), sq_le_abs hab (by omega)⟩
theorem norm_plus_le {v c : G} {g a b : Int} (hg : 0 ≤ g ∧ g ≤ 4) (ha : 0 ≤ a) (hb : 0 ≤ b) (hv : normG v ≤ a * a) (hc : normG c ≤ b * b) : normG (plusG c g v) ≤ (b + 4 * a) * (b + 4 * a) := by
  have e : normG (plusG c g v) = normG c + 2 * (g * realP v c) + g * g * normG v := by
    have a1 : g * v.re * (g * v.re) = g * g * (v.re * v.re) := mul_four _ _ _ _
    have a2 : g * v.im * (g * v.im) = g * g * (v.im * v.im) := mul_four _ _ _ _
    have a3 : c.re * (g * v.re) = g * (v.re * c.re) := by rw [Int.mul_left_comm, Int.mul_comm c.re]
    have a4 : g * v.re * c.re = g * (v.re * c.re) := Int.mul_assoc _ _ _
    have a5 : c.im * (g * v.im) = g * (v.im * c.im) := by rw [Int.mul_left_comm, Int.mul_comm c.im]
    have a6 : g * v.im * c.im = g * (v.im * c.im) := Int.mul_assoc _ _ _
    simp only [normG, plusG, realP, Int.mul_add, Int.add_mul]
    omega
  obtain ⟨h1, _⟩ := parts_le ha hb hv hc
  have hab := Int.mul_nonneg ha hb
  have h2 : g * realP v c ≤ g * (a * b) := Int.mul_le_mul_of_nonneg_left h1 hg.1
  have h3 : g * (a * b) ≤ 4 * (a * b) := Int.mul_le_mul_of_nonneg_right hg.2 hab
  have h4 : g * g * normG v ≤ g * g * (a * a) := Int.mul_le_mul_of_nonneg_left hv (sq_nonneg g)
  have h5 : g * g ≤ 4 * 4 := Int.mul_le_mul hg.2 hg.2 hg.1 (by decide)
  have h6 : g * g * (a * a) ≤ 16 * (a * a) := Int.mul_le_mul_of_nonneg_right (by omega) (Int.mul_nonneg ha ha)
  have h7 : (b + 4 * a) * (b + 4 * a) = b * b + 8 * (a * b) + 16 * (a * a) := by
    have i1 : b * (4 * a) = 4 * (a * b) := by rw [Int.mul_left_comm, Int.mul_comm b]
    have i2 : 4 * a * b = 4 * (a * b) := Int.mul_assoc _ _ _
    have i3 : 4 * a * (4 * a) = 16 * (a * a) := by rw [mul_four]; rfl
    simp only [Int.mul_add, Int.add_mul]
    omega
  omega
theorem norm_bef_le {v c : G} {x a b : Int} (hx : 0 ≤ x ∧ x ≤ 32) (ha : 0 ≤ a) (hb : 0 ≤ b) (hv : normG v ≤ a * a) (hc : normG c ≤ b * b) : normG (befG v x c) ≤ (a + 32 * b) * (a + 32 * b) := by
  rw [norm_bef]
  obtain ⟨_, h1⟩ := parts_le ha hb hv hc
  have hab := Int.mul_nonneg ha hb
  have h2 : x * turnQ v c ≤ x * (a * b) := Int.mul_le_mul_of_nonneg_left h1 hx.1
  have h3 : x * (a * b) ≤ 32 * (a * b) := Int.mul_le_mul_of_nonneg_right hx.2 hab
  have h4 : x * x * normG c ≤ x * x * (b * b) := Int.mul_le_mul_of_nonneg_left hc (sq_nonneg x)
  have h5 : x * x ≤ 32 * 32 := Int.mul_le_mul hx.2 hx.2 hx.1 (by decide)
  have h6 : x * x * (b * b) ≤ 1024 * (b * b) := Int.mul_le_mul_of_nonneg_right (by omega) (Int.mul_nonneg hb hb)
  have h7 : (a + 32 * b) * (a + 32 * b) = a * a + 64 * (a * b) + 1024 * (b * b) := by
    have i1 : a * (32 * b) = 32 * (a * b) := Int.mul_left_comm _ _ _
    have i2 : 32 * b * a = 32 * (a * b) := by rw [Int.mul_assoc, Int.mul_comm b]
    have i3 : 32 * b * (32 * b) = 1024 * (b * b) := by rw [mul_four]; rfl
    simp only [Int.mul_add, Int.add_mul]
    omega
  omega
theorem st_norm {f : Int} {hot : List Bool} {ls : List Sh} (hok : ∀ s ∈ ls, shOK s) (hf : 1 ≤ f ∧ f ≤ 8) : ∀ j k, j + k = ls.length → normG (st f hot ls k).last ≤ (bv j).1 * (bv j).1 ∧ normG (st f hot ls k).cur ≤ (bv j).2 * (bv j).2
  | 0, k, h => by
    obtain rfl : k = ls.length := by omega
    rw [st_end]; decide
  | j + 1, k, h => by
    have hk : k < ls.length := by omega
    have hs : ls[k]? = some ls[k] := List.getElem?_eq_getElem hk
    obtain ⟨h1, h2⟩ := st_norm hok hf (hot := hot) j (k + 1) (by omega)
    have hb := bv_mono j
    have hg := (hok _ (List.mem_of_getElem? hs)).1
    have hr := react_bd (h := hot.getD k false) hf (hok _ (List.mem_of_getElem? hs))
    rw [st_step hs]
    simp only [vstep, bv]
    have h3 := norm_plus_le (g := ls[k].g) ⟨by omega, hg.2⟩ hb.2.2.1 hb.2.2.2 h1 h2
    exact ⟨norm_bef_le ⟨by omega, hr.2⟩ hb.2.2.1 (by omega) h1 h3, h3⟩
theorem power_bd {f : Int} {hot : List Bool} {ls : List Sh} (hok : ∀ s ∈ ls, shOK s) (hf : 1 ≤ f ∧ f ≤ 8) (h4 : ls.length ≤ 4) (k : Nat) (x : Int) (h : (powers f hot ls)[k]? = some x) : 0 ≤ x ∧ x ≤ 20000000000000 := by
  have hk : k < ls.length := by have := (List.getElem?_eq_some_iff.1 h).1; rwa [powers_len] at this
  have hs : ls[k]? = some ls[k] := List.getElem?_eq_getElem hk
  rw [powers_get hs] at h
  obtain rfl := Option.some.inj h
  have hg := (hok _ (List.mem_of_getElem? hs)).1
  have h1 := (st_norm hok hf (hot := hot) (ls.length - (k + 1)) (k + 1) (by omega)).1
  have h0 := norm_nonneg (st f hot ls (k + 1)).last
  have h2 := bv_le (show ls.length - (k + 1) ≤ 3 by omega)
  have h3 : (bv (ls.length - (k + 1))).1 * (bv (ls.length - (k + 1))).1 ≤ 2179841 * 2179841 := Int.mul_le_mul h2.2 h2.2 h2.1 (by decide)
  have h5 : ls[k].g * normG (st f hot ls (k + 1)).last ≤ 4 * normG (st f hot ls (k + 1)).last := Int.mul_le_mul_of_nonneg_right hg.2 h0
  exact ⟨Int.mul_nonneg (by omega) h0, by omega⟩

/-- The last shell takes some power. -/
theorem power_last {f : Int} {hot : List Bool} {ls : List Sh} (hok : ∀ s ∈ ls, shOK s) (hf : 1 ≤ f ∧ f ≤ 8) (k : Nat) (hk : k < ls.length) : 1 ≤ (powers f hot ls).getD k 0 := by
  have hs : ls[k]? = some ls[k] := List.getElem?_eq_getElem hk
  rw [List.getD, powers_get hs]
  have hg := (hok _ (List.mem_of_getElem? hs)).1
  have h1 := norm_ge hok hf (hot := hot) (ls.length - (k + 1)) (k + 1) (by omega)
  have h2 : 1 * normG (st f hot ls (k + 1)).last ≤ ls[k].g * normG (st f hot ls (k + 1)).last := Int.mul_le_mul_of_nonneg_right hg.1 (by omega)
  simp only [Option.getD_some]
  omega
theorem take_lt {l : List Int} (h1 : ∀ k, k < l.length → 1 ≤ l.getD k 0) : ∀ k, k < l.length → (l.take k).sum < l.sum := by
  intro k hk
  have h : ∀ j, k + j ≤ l.length → (l.take k).sum + j ≤ (l.take (k + j)).sum := by
    intro j
    induction j with
    | zero => intro _; simp
    | succ j ih =>
      intro hj
      have hx : l[k + j]? = some l[k + j] := List.getElem?_eq_getElem (by omega)
      have := h1 (k + j) (by omega)
      rw [List.getD, hx] at this
      simp only [Option.getD_some] at this
      have a := ih (by omega)
      rw [show k + (j + 1) = k + j + 1 by omega, take_sum l (k + j) _ hx]
      omega
  have := h (l.length - k) (by omega)
  rw [show k + (l.length - k) = l.length by omega, List.take_length] at this
  omega

theorem watts_at {total : Int} {l : List Int} {n k : Nat} (hk : k < n) : (wattsL total l n)[k]? = some (upTo total l (k + 1) - upTo total l k) := by
  simp [wattsL, hk]
/-- Each share is met but for less than one watt. -/
theorem watts_near {total : Int} {l : List Int} {k : Nat} {p : Int} (hs : 0 < l.sum) (hp : l[k]? = some p) :
    cmpS (upTo total l (k + 1) - upTo total l k - 1) 1 (total * p) l.sum = -1 ∧ cmpS (upTo total l (k + 1) - upTo total l k + 1) 1 (total * p) l.sum = 1 := by
  have ht := take_sum l k p hp
  have e : total * (l.take (k + 1)).sum = total * (l.take k).sum + total * p := by rw [ht, Int.mul_add]
  have a1 := Int.ediv_mul_le (total * (l.take (k + 1)).sum) (show l.sum ≠ 0 by omega)
  have a2 := Int.lt_ediv_add_one_mul_self (total * (l.take (k + 1)).sum) hs
  have b1 := Int.ediv_mul_le (total * (l.take k).sum) (show l.sum ≠ 0 by omega)
  have b2 := Int.lt_ediv_add_one_mul_self (total * (l.take k).sum) hs
  unfold cmpS upTo
  rw [Int.add_mul, Int.one_mul] at a2 b2
  generalize total * (l.take (k + 1)).sum / l.sum = U at *
  generalize total * (l.take k).sum / l.sum = V at *
  constructor
  · exact Int.sign_eq_neg_one_of_neg (by rw [Int.sub_mul, Int.sub_mul, Int.one_mul, Int.mul_one]; omega)
  · exact Int.sign_eq_one_of_pos (by rw [Int.add_mul, Int.sub_mul, Int.one_mul, Int.mul_one]; omega)
theorem watts_bd {total : Int} {l : List Int} (ht : 0 ≤ total ∧ total ≤ 100000) (hok : PowersOK l) {k : Nat} {p : Int} (hp : l[k]? = some p) (hp0 : 0 ≤ p) :
    0 ≤ upTo total l (k + 1) - upTo total l k ∧ upTo total l (k + 1) - upTo total l k ≤ total := by
  have hs := take_sum l k p hp
  have a : upTo total l k ≤ upTo total l (k + 1) := Int.ediv_le_ediv hok.sum.1 (Int.mul_le_mul_of_nonneg_left (by omega) ht.1)
  have b : 0 ≤ upTo total l k := (upTo_bd ht hok.sum hok.part k).2.1
  have c : upTo total l (k + 1) ≤ total := by
    unfold upTo
    have := Int.mul_le_mul_of_nonneg_left (hok.part (k + 1)).2 ht.1
    exact Int.ediv_le_of_le_mul hok.sum.1 this
  omega

end Go.Proofs.Ytpaoeghdfeekoaa
