/- Shares, watts and depths with their errors. -/
import Derived.Test.YtpaoeghdfeekoaaK14
namespace Go.Proofs.Ytpaoeghdfeekoaa
open Go.RowKit Go.Shelf Go.Mem Go.RegInv

theorem firstE_two (q e : Int) : firstE [q, e] = if q ≠ 0 then q else e := by
  unfold firstE firstE firstE
  by_cases h : e = 0
  · subst h; simp
  · simp [h]
def shareA (t : Int) (xs : List Sh) (f : Int) (hot : List Bool) (m : Nat) (x : Int) : (Int × Int) × Int :=
  if shareE t xs f m x ≠ 0 then ((0, 0), shareE t xs f m x) else shareV (powers f hot xs) x.toNat
theorem shareOf_V {t : Int} {xs : List Sh} {f : Int} {hot : List Bool} {m : Nat} (hm : hot.length = m) (x : Int) (W : World) (u v : Value) (h : LadV t xs u W) (k : DrvV f hot v W) :
    Calls Try.prog 41 #[u, v, .int .i64 x] W (VPost W (Is (.tuple #[.agg #[.int .i64 (shareA t xs f hot m x).1.1, .int .i64 (shareA t xs f hot m x).1.2], .int .i64 (shareA t xs f hot m x).2]))) := by
  obtain ⟨A, n, c, hn, rfl, hl⟩ := h
  obtain ⟨B, m', d, hm', rfl, hd⟩ := k
  obtain rfl : m = m' := hm.symm.trans hm'.out
  refine (shareOf_any t A n c xs hn.out f B m d hot hm x W hl hd).mono ?_
  unfold shareA
  rintro e w' ⟨hx, ⟨h1, h2⟩ | ⟨h1, h2⟩⟩
  · rw [if_pos h1]; exact ⟨_, h2, hx, rfl⟩
  · rw [if_neg (by simp [h1])]; exact ⟨_, h2, hx, rfl⟩
theorem wattsIn_G {t : Int} {xs : List Sh} {f : Int} {hot : List Bool} {n m : Nat} (hn : xs.length = n) (hm : hot.length = m) (total : Int) (W : World) (u v : Value) (h : LadV t xs u W) (k : DrvV f hot v W) :
    Calls Try.prog 42 #[u, v, .int .i64 total] W (VPost W (TupV (Opt (wattsE t xs f m total) (.slice none 0 0) (Ints (wattsL total (powers f hot xs) n))) (wattsE t xs f m total))) := by
  obtain ⟨A, n', c, hn', rfl, hl⟩ := h
  obtain ⟨B, m', d, hm', rfl, hd⟩ := k
  obtain rfl : m = m' := hm.symm.trans hm'.out
  obtain rfl : n = n' := hn.symm.trans hn'.out
  refine (wattsIn_any t A n c xs hn f B m d hot hm total W hl hd).mono ?_
  rintro e w' ⟨hx, ⟨h1, h2⟩ | ⟨h1, v, h2, h3⟩⟩
  · exact ⟨_, h2, hx, _, rfl, fun _ => rfl, fun h => absurd h h1⟩
  · exact ⟨_, h2, hx, _, by rw [h1], fun h => absurd h1 h, fun _ => h3⟩
/-- The depth, or 0 beside an error. -/
def DepW (ps : List Int) (pc er : Int) : Value → World → Prop := fun u _ => ∃ d : Int, u = .int .i64 d ∧ (er ≠ 0 → d = 0) ∧ (er = 0 → ∃ k : Nat, d = (k : Int) ∧ IsDepth ps pc k)
theorem DepW.ext {ps : List Int} {pc er : Int} {u : Value} {W W' : World} (h : DepW ps pc er u W) (_e : Ext W W') : DepW ps pc er u W' := h
theorem depthFor_G {t : Int} {xs : List Sh} {f : Int} {hot : List Bool} {m : Nat} (hm : hot.length = m) (pc : Int) (W : World) (u v : Value) (h : LadV t xs u W) (k : DrvV f hot v W) :
    Calls Try.prog 43 #[u, v, .int .i64 pc] W (VPost W (TupV (DepW (powers f hot xs) pc (depE t xs f m pc)) (depE t xs f m pc))) := by
  obtain ⟨A, n, c, hn, rfl, hl⟩ := h
  obtain ⟨B, m', d, hm', rfl, hd⟩ := k
  obtain rfl : m = m' := hm.symm.trans hm'.out
  refine (depthFor_any t A n c xs hn.out f B m d hot hm pc W hl hd).mono ?_
  rintro e w' ⟨hx, ⟨h1, h2⟩ | ⟨h1, d, h2, h3⟩⟩
  · exact ⟨_, h2, hx, _, rfl, 0, rfl, fun _ => rfl, fun h => absurd h h1⟩
  · exact ⟨_, h2, hx, _, by rw [h1], (d : Int), rfl, fun h => absurd h1 h, fun _ => ⟨d, rfl, h3⟩⟩

/-- A share is small just where its denominator is. -/
theorem share_small {p s : Int} (h0 : 0 ≤ p) (h1 : p ≤ s) (h2 : 0 < s) : smallF (lowF p s).1 (lowF p s).2 = !decide (1000000000 < (lowF p s).2) := by
  have hg : 1 ≤ Nat.gcd p.natAbs s.natAbs := by
    have : Nat.gcd p.natAbs s.natAbs ≠ 0 := by rw [Ne, Nat.gcd_eq_zero_iff]; omega
    omega
  have hgs : Nat.gcd p.natAbs s.natAbs ≤ s.natAbs := Nat.le_of_dvd (by omega) (Nat.gcd_dvd_right _ _)
  unfold smallF lowF inB
  dsimp only
  generalize Nat.gcd p.natAbs s.natAbs = g at *
  rw [Int.tdiv_eq_ediv_of_nonneg h0, Int.tdiv_eq_ediv_of_nonneg (by omega : 0 ≤ s)]
  have a1 : 0 ≤ p / (g : Int) := Int.ediv_nonneg h0 (by omega)
  have a2 : p / (g : Int) ≤ s / (g : Int) := Int.ediv_le_ediv (by omega) h1
  have a3 : 1 ≤ s / (g : Int) := (Int.le_ediv_iff_mul_le (by omega)).2 (by omega)
  generalize p / (g : Int) = x at *
  generalize s / (g : Int) = y at *
  by_cases hy : 1000000000 < y
  · have : ¬ y ≤ 1000000000 := by omega
    simp [hy, this]
  · simp [hy]; omega
theorem own_ints {W : World} {g n c : Nat} {xs : List Int} (hl : xs.length = n) (h : OwnI W g n c xs) : IntsAt W (.slice (some ⟨g, 0, none⟩) n c) xs := by
  rcases Nat.eq_zero_or_pos n with h0 | h0
  · exact .inl ⟨_, c, by rw [h0], List.eq_nil_of_length_eq_zero (by omega)⟩
  · obtain ⟨b, o, e, hb, _⟩ := h.2.2 0 _ (List.getElem?_eq_getElem (by omega))
    obtain ⟨rfl, rfl⟩ : g = b ∧ 0 = o := by simpa using e
    refine .inr ⟨g, 0, c, by rw [hl], hb, h.2.1, fun i hi => ?_⟩
    obtain ⟨b, o, e, _, hc⟩ := h.2.2 i _ (List.getElem?_eq_getElem hi)
    obtain ⟨rfl, rfl⟩ : g = b ∧ 0 = o := by simpa using e
    have := hc 0 _ rfl
    simpa [hi] using this
theorem depth_eq2 {ps : List Int} {pc : Int} {a b : Nat} (h : IsDepth ps pc a) (k : IsDepth ps pc b) : a = b := depth_eq h k

end Go.Proofs.Ytpaoeghdfeekoaa
