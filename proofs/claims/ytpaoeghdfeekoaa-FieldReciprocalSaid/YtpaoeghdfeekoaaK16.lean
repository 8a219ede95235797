/- Complex numbers of the reference; nothing that is divided by is 0. -/
import Derived.Test.YtpaoeghdfeekoaaK15
import Derived.Test.YtpaoeghdfeekoaaR4
namespace Go.Proofs.Ytpaoeghdfeekoaa
open Go.RowKit Go.Shelf Go.Mem Go.RegInv

theorem gsub_any (a b c d : Int) (ha : Mid a) (hb : Mid b) (hc : Mid c) (hd : Mid d) (w : World) :
    Calls Try.prog 58 #[.agg #[.int .i64 a, .int .i64 b], .agg #[.int .i64 c, .int .i64 d]] w fun e w' => e = .returned (.agg #[.int .i64 (a - c), .int .i64 (b - d)]) ∧ Ext w w' := by
  obtain ⟨ha1, ha2⟩ := ha
  obtain ⟨hb1, hb2⟩ := hb
  obtain ⟨hc1, hc2⟩ := hc
  obtain ⟨hd1, hd2⟩ := hd
  go_enter Try.func58, Try.ntmps58
  go_wp2
  exact bodyPost_ret (v := .agg #[.int .i64 (a - c), .int .i64 (b - d)]) (by simp [results, Try.f58, go_sem]) rfl ⟨rfl, (Ext.alloc _ _).trans ((Ext.alloc _ _).trans (Ext.alloc _ _))⟩
theorem gmul_any (a b c d : Int) (h1 : Big (a * c)) (h2 : Big (b * d)) (h3 : Big (a * d)) (h4 : Big (b * c)) (w : World) :
    Calls Try.prog 114 #[.agg #[.int .i64 a, .int .i64 b], .agg #[.int .i64 c, .int .i64 d]] w fun e w' => e = .returned (.agg #[.int .i64 (a * c - b * d), .int .i64 (a * d + b * c)]) ∧ Ext w w' := by
  obtain ⟨p1, p2⟩ := h1
  obtain ⟨p3, p4⟩ := h2
  obtain ⟨p5, p6⟩ := h3
  obtain ⟨p7, p8⟩ := h4
  go_enter Try.func114, Try.ntmps114
  go_wp2
  exact bodyPost_ret (v := .agg #[.int .i64 (a * c - b * d), .int .i64 (a * d + b * c)]) (by simp [results, Try.f114, go_sem]) rfl ⟨rfl, (Ext.alloc _ _).trans ((Ext.alloc _ _).trans (Ext.alloc _ _))⟩

theorem norm_times (a b : G) : normG (timesG a b) = normG a * normG b := by
  unfold normG timesG
  dsimp only
  grind
theorem ne_of_norm {z : G} (h : 1 ≤ normG z) : z.re ≠ 0 ∨ z.im ≠ 0 := by
  by_cases h1 : z.re = 0
  · by_cases h2 : z.im = 0
    · rw [norm_zero ⟨h1, h2⟩] at h; omega
    · exact .inr h2
  · exact .inl h1
section
variable {f : Int} {hot : List Bool} {ls : List Sh} (hok : ∀ s ∈ ls, shOK s) (hf : 1 ≤ f ∧ f ≤ 8)
include hok hf
theorem volt0_ne (h1 : 1 ≤ ls.length) : 1 ≤ normG (volt f hot ls 0) := by
  rw [volt_at f hot ls 0 (by omega)]
  exact norm_ge hok hf (hot := hot) ls.length 0 (by omega)
theorem volt_ne (k : Nat) (hk : k ≤ ls.length) : 1 ≤ normG (volt f hot ls k) := by
  rw [volt_at f hot ls k hk]
  exact norm_ge hok hf (hot := hot) (ls.length - k) k (by omega)
theorem curIn_ne (h1 : 1 ≤ ls.length) (h4 : ls.length ≤ 4) : (curIn f hot ls).re ≠ 0 ∨ (curIn f hot ls).im ≠ 0 := by
  have h := real_sum f hot ls ls.length 0 (by omega)
  have hp := (powers_ok (hot := hot) hok hf h1 h4).sum.1
  rw [List.drop_zero] at h
  unfold curIn
  rw [cur_at f hot ls ls.length 0 (by omega)]
  by_cases h2 : (st f hot ls 0).cur.re = 0
  · by_cases h3 : (st f hot ls 0).cur.im = 0
    · exfalso
      unfold realP at h
      rw [h2, h3] at h
      simp at h
      omega
    · exact .inr h3
  · exact .inl h2
theorem gfold_turn : ∀ k, k ≤ ls.length → 0 ≤ turnQ (gfold f hot ls k).1 (gfold f hot ls k).2 ∧ (1 ≤ k → 1 ≤ normG (gfold f hot ls k).1) ∧ (k = 0 → normG (gfold f hot ls k).2 = 1)
  | 0, _ => by simp [gfold, turnQ, normG]
  | k + 1, h => by
    obtain ⟨h1, h2, h3⟩ := gfold_turn k (by omega)
    have hs : ls[k]? = some ls[k] := List.getElem?_eq_getElem (by omega)
    have hx := hok _ (List.mem_of_getElem? hs)
    have hr := react_bd (h := hot.getD k false) hf hx
    simp only [gfold, hs, gstep]
    rw [turn_plus, turn_bef, norm_bef]
    have n1 := norm_nonneg (gfold f hot ls k).2
    have n2 := norm_nonneg (gfold f hot ls k).1
    have m1 := Int.mul_nonneg (show 0 ≤ react f (hot.getD k false) ls[k] by omega) n1
    have m2 := Int.mul_nonneg (show 0 ≤ react f (hot.getD k false) ls[k] by omega) h1
    have m3 := Int.mul_nonneg (sq_nonneg (react f (hot.getD k false) ls[k])) n1
    refine ⟨by omega, fun _ => ?_, fun h => by omega⟩
    rcases Nat.eq_zero_or_pos k with hk | hk
    · have h4 := h3 hk
      rw [h4, Int.mul_one]
      have m4 : 1 * 1 ≤ react f (hot.getD k false) ls[k] * react f (hot.getD k false) ls[k] := Int.mul_le_mul hr.1 hr.1 (by decide) (by omega)
      omega
    · have := h2 hk
      omega
theorem grounded_ne (k : Nat) (hk : k < ls.length) : 1 ≤ normG (grounded f hot ls k) := (gfold_turn hok hf (hot := hot) (k + 1) (by omega)).2.1 (by omega)
theorem trans_ne (i j : Nat) (hi : i < ls.length) (hj : j < ls.length) : 1 ≤ normG (timesG (grounded f hot ls i) (volt f hot ls (j + 1))) := by
  rw [norm_times]
  have a := grounded_ne hok hf (hot := hot) i hi
  have b := volt_ne hok hf (hot := hot) (j + 1) (by omega)
  have := Int.mul_le_mul a b (by decide) (by omega)
  omega
end
theorem impN_ne {t f : Int} {hot : List Bool} {ls : List Sh} (ht : 1 ≤ t ∧ t ≤ 20) (hok : ∀ s ∈ ls, shOK s) (hf : 1 ≤ f ∧ f ≤ 8) (h1 : 1 ≤ ls.length) : (impN t f hot ls).re ≠ 0 ∨ (impN t f hot ls).im ≠ 0 := by
  have hT := (big_T ht).1
  rcases ne_of_norm (volt0_ne hok hf (hot := hot) h1) with h | h
  · exact .inl (Int.mul_ne_zero (by omega) h)
  · exact .inr (Int.mul_ne_zero (by omega) h)

end Go.Proofs.Ytpaoeghdfeekoaa
