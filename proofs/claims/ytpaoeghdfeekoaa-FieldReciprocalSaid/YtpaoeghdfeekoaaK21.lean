/- Reciprocity: the mathematics. -/
import Derived.Test.YtpaoeghdfeekoaaK20
namespace Go.Proofs.Ytpaoeghdfeekoaa
open Go.RowKit Go.Mem

def subG (a b : G) : G := ⟨a.re - b.re, a.im - b.im⟩
def addG (a b : G) : G := ⟨a.re + b.re, a.im + b.im⟩
theorem alg_gt (g : Int) (A I V : G) : timesG A (plusG I g V) = plusG (timesG A I) g (timesG A V) := by
  obtain ⟨a1, a2⟩ := A; obtain ⟨i1, i2⟩ := I; obtain ⟨v1, v2⟩ := V
  simp only [timesG, plusG, G.mk.injEq]
  constructor <;> grind
theorem alg_lt (g : Int) (c A V : G) : negG (timesG c V) = plusG (negG (timesG (plusG c g A) V)) g (timesG A V) := by
  obtain ⟨a1, a2⟩ := A; obtain ⟨i1, i2⟩ := c; obtain ⟨v1, v2⟩ := V
  simp only [timesG, plusG, negG, G.mk.injEq]
  constructor <;> grind
theorem alg_eq (g : Int) (A I c V V0 : G) (h : V0 = addG (timesG A (plusG I g V)) (timesG c V)) : negG (timesG c V) = subG (plusG (timesG A I) g (timesG A V)) V0 := by
  subst h
  obtain ⟨a1, a2⟩ := A; obtain ⟨i1, i2⟩ := I; obtain ⟨v1, v2⟩ := V; obtain ⟨c1, c2⟩ := c
  simp only [timesG, plusG, negG, subG, addG, G.mk.injEq]
  constructor <;> grind
theorem chk_gt (x : Int) (A V I : G) : subG (timesG A (befG V x I)) (timesG A V) = ⟨-x * (timesG A I).im, x * (timesG A I).re⟩ := by
  obtain ⟨a1, a2⟩ := A; obtain ⟨i1, i2⟩ := I; obtain ⟨v1, v2⟩ := V
  simp only [timesG, befG, subG, G.mk.injEq]
  constructor <;> grind
theorem chk_le (x : Int) (v c V : G) : subG (timesG v V) (timesG (befG v x c) V) = ⟨-x * (negG (timesG c V)).im, x * (negG (timesG c V)).re⟩ := by
  obtain ⟨a1, a2⟩ := v; obtain ⟨i1, i2⟩ := c; obtain ⟨v1, v2⟩ := V
  simp only [timesG, befG, subG, negG, G.mk.injEq]
  constructor <;> grind
theorem wron_step (g x : Int) (A c I V : G) : addG (timesG (befG A x (plusG c g A)) I) (timesG (plusG c g A) V) = addG (timesG A (plusG I g (befG V x I))) (timesG c (befG V x I)) := by
  obtain ⟨a1, a2⟩ := A; obtain ⟨i1, i2⟩ := I; obtain ⟨v1, v2⟩ := V; obtain ⟨c1, c2⟩ := c
  simp only [timesG, plusG, befG, addG, G.mk.injEq]
  constructor <;> grind

section
variable (f : Int) (hot : List Bool) (ls : List Sh)
/-- The voltage of node k, fed at i, times that of the input. -/
def nodeK (i k : Nat) : G := if k ≤ i then timesG (gfold f hot ls (k + 1)).1 (st f hot ls (i + 1)).last else timesG (gfold f hot ls (i + 1)).1 (st f hot ls (k + 1)).last
def befK (i k : Nat) : G := if k ≤ i then timesG (gfold f hot ls k).1 (st f hot ls (i + 1)).last else timesG (gfold f hot ls (i + 1)).1 (st f hot ls k).last
def curK (i k : Nat) : G := if k ≤ i then negG (timesG (gfold f hot ls k).2 (st f hot ls (i + 1)).last) else timesG (gfold f hot ls (i + 1)).1 (st f hot ls k).cur
theorem befK_zero (i : Nat) : befK f hot ls i 0 = ⟨0, 0⟩ := by simp [befK, gfold, timesG]
theorem befK_succ (i k : Nat) : befK f hot ls i (k + 1) = nodeK f hot ls i k := by
  unfold befK nodeK
  by_cases h : k + 1 ≤ i
  · rw [if_pos h, if_pos (by omega)]
  · rw [if_neg h]
    by_cases h2 : k ≤ i
    · obtain rfl : k = i := by omega
      rw [if_pos h2]
    · rw [if_neg h2]
theorem gfold_succ {k : Nat} {s : Sh} (hs : ls[k]? = some s) : gfold f hot ls (k + 1) = (befG (gfold f hot ls k).1 (react f (hot.getD k false) s) (gfold f hot ls k).2, plusG (gfold f hot ls k).2 s.g (gfold f hot ls (k + 1)).1) := by
  have h : gfold f hot ls (k + 1) = gstep f hot (gfold f hot ls k) k s := by rw [gfold, hs]
  rw [h]; rfl
theorem wron : ∀ i, i < ls.length → (st f hot ls 0).last = addG (timesG (gfold f hot ls (i + 1)).1 (st f hot ls i).cur) (timesG (gfold f hot ls i).2 (st f hot ls (i + 1)).last)
  | 0, h => by
    have hs : ls[0]? = some ls[0] := List.getElem?_eq_getElem h
    have e := st_step (f := f) (hot := hot) hs
    have e1 : (st f hot ls 0).last = befG (st f hot ls 1).last (react f (hot.getD 0 false) ls[0]) (st f hot ls 0).cur := by rw [e]; rfl
    rw [e1, gfold_succ f hot ls hs]
    generalize (st f hot ls 0).cur = I
    generalize (st f hot ls (0 + 1)).last = V
    obtain ⟨i1, i2⟩ := I; obtain ⟨v1, v2⟩ := V
    simp only [gfold, timesG, befG, addG, G.mk.injEq]
    constructor <;> grind
  | i + 1, h => by
    have hs : ls[i]? = some ls[i] := List.getElem?_eq_getElem (by omega)
    have hs1 : ls[i + 1]? = some ls[i + 1] := List.getElem?_eq_getElem h
    rw [wron i (by omega)]
    have e1 : (st f hot ls i).cur = plusG (st f hot ls (i + 1)).cur ls[i].g (st f hot ls (i + 1)).last := by rw [st_step hs]; rfl
    have e2 : (st f hot ls (i + 1)).last = befG (st f hot ls (i + 2)).last (react f (hot.getD (i + 1) false) ls[i + 1]) (st f hot ls (i + 1)).cur := by
      have := st_step (f := f) (hot := hot) hs1
      rw [this]; rfl
    have e3 : (gfold f hot ls (i + 1)).2 = plusG (gfold f hot ls i).2 ls[i].g (gfold f hot ls (i + 1)).1 := by
      have := gfold_succ f hot ls hs
      exact congrArg (·.2) this
    have e4 : (gfold f hot ls (i + 1 + 1)).1 = befG (gfold f hot ls (i + 1)).1 (react f (hot.getD (i + 1) false) ls[i + 1]) (gfold f hot ls (i + 1)).2 := by
      have := gfold_succ f hot ls hs1
      exact congrArg (·.1) this
    rw [e4, e3, e1]
    generalize react f (hot.getD (i + 1) false) ls[i + 1] = x at *
    rw [show (st f hot ls (i + 1 + 1)).last = (st f hot ls (i + 2)).last from rfl]
    rw [e2]
    exact (wron_step _ _ _ _ _ _).symm
theorem curK_step {i k : Nat} {s : Sh} (hs : ls[k]? = some s) (hi : i < ls.length) :
    curK f hot ls i k = if k = i then subG (plusG (curK f hot ls i (k + 1)) s.g (nodeK f hot ls i k)) (st f hot ls 0).last else plusG (curK f hot ls i (k + 1)) s.g (nodeK f hot ls i k) := by
  have e1 : (st f hot ls k).cur = plusG (st f hot ls (k + 1)).cur s.g (st f hot ls (k + 1)).last := by rw [st_step hs]; rfl
  unfold curK nodeK
  by_cases h : k = i
  · subst h
    rw [if_pos rfl, if_pos (Nat.le_refl _), if_neg (by omega), if_pos (Nat.le_refl _)]
    refine alg_eq s.g _ _ _ _ _ ?_
    rw [← e1]
    exact wron f hot ls k hi
  · rw [if_neg h]
    by_cases h2 : k ≤ i
    · rw [if_pos h2, if_pos (by omega), if_pos h2]
      have e3 : (gfold f hot ls (k + 1)).2 = plusG (gfold f hot ls k).2 s.g (gfold f hot ls (k + 1)).1 := congrArg (·.2) (gfold_succ f hot ls hs)
      rw [e3]
      exact alg_lt _ _ _ _
    · rw [if_neg h2, if_neg (by omega), if_neg h2, e1]
      exact alg_gt _ _ _ _
theorem node_chk {i k : Nat} {s : Sh} (hs : ls[k]? = some s) : subG (befK f hot ls i k) (nodeK f hot ls i k) = ⟨-(react f (hot.getD k false) s) * (curK f hot ls i k).im, react f (hot.getD k false) s * (curK f hot ls i k).re⟩ := by
  unfold befK nodeK curK
  by_cases h : k ≤ i
  · rw [if_pos h, if_pos h, if_pos h]
    have e4 : (gfold f hot ls (k + 1)).1 = befG (gfold f hot ls k).1 (react f (hot.getD k false) s) (gfold f hot ls k).2 := congrArg (·.1) (gfold_succ f hot ls hs)
    rw [e4]
    exact chk_le _ _ _ _
  · rw [if_neg h, if_neg h, if_neg h]
    have e2 : (st f hot ls k).last = befG (st f hot ls (k + 1)).last (react f (hot.getD k false) s) (st f hot ls k).cur := by
      have := st_step (f := f) (hot := hot) hs
      rw [this]; rfl
    rw [e2]
    exact chk_gt _ _ _ _
theorem curK_end {i : Nat} (hi : i < ls.length) : curK f hot ls i ls.length = ⟨0, 0⟩ := by
  unfold curK
  rw [if_neg (by omega), st_end]
  simp [timesG, vs0]
theorem nodeK_eq (i k : Nat) (hi : i < ls.length) (hk : k < ls.length) : timesG (grounded f hot ls (min (i : Int) (k : Int)).toNat) (volt f hot ls ((max (i : Int) (k : Int)).toNat + 1)) = nodeK f hot ls i k := by
  unfold nodeK grounded
  by_cases h : k ≤ i
  · rw [if_pos h, show (min (i : Int) (k : Int)).toNat = k by omega, show (max (i : Int) (k : Int)).toNat = i by omega, volt_at f hot ls _ (by omega)]
  · rw [if_neg h, show (min (i : Int) (k : Int)).toNat = i by omega, show (max (i : Int) (k : Int)).toNat = k by omega, volt_at f hot ls _ (by omega)]
end

theorem gb_bv : ∀ a b : Nat, a + b ≤ 4 → 0 ≤ (gbv a).1 * (bv b).1 ∧ (gbv a).1 * (bv b).1 ≤ 100000000 := by
  intro a b h
  have k : ∀ x y : Fin 5, x.1 + y.1 ≤ 4 → 0 ≤ (gbv x.1).1 * (bv y.1).1 ∧ (gbv x.1).1 * (bv y.1).1 ≤ 100000000 := by decide
  exact k ⟨a, by omega⟩ ⟨b, by omega⟩ h
theorem bd_times {a b : G} {A B : Int} (ha : Bd A a) (hb : Bd B b) (_hA : 0 ≤ A) (_hB : 0 ≤ B) : Bd (2 * (A * B)) (timesG a b) := by
  have m : ∀ {x y : Int}, -A ≤ x ∧ x ≤ A → -B ≤ y ∧ y ≤ B → -(A * B) ≤ x * y ∧ x * y ≤ A * B := by
    intro x y hx hy
    rcases Int.le_total 0 x with h | h
    · exact mul_bd h hx.2 hy.1 hy.2
    · have := mul_bd (n := -x) (x := y) (N := A) (B := B) (by omega) (by omega) hy.1 hy.2
      rw [Int.neg_mul] at this
      omega
  have p1 := m ha.1 hb.1
  have p2 := m ha.2 hb.2
  have p3 := m ha.1 hb.2
  have p4 := m ha.2 hb.1
  simp only [Bd, timesG]
  omega
section
variable {f : Int} {hot : List Bool} {ls : List Sh} (hok : ∀ s ∈ ls, shOK s) (hf : 1 ≤ f ∧ f ≤ 8) (h4 : ls.length ≤ 4)
include hok hf h4
omit h4 in
theorem st_bv (k : Nat) (hk : k ≤ ls.length) : Bd (bv (ls.length - k)).1 (st f hot ls k).last := by
  have h := vfold_bd (f := f) (hot := hot) hf ((bx ls).take (ls.length - k)) (fun y hy => by
    have := List.mem_of_mem_take hy
    unfold bx at this
    obtain ⟨q, _, rfl⟩ := List.mem_map.1 this
    exact hok _ (List.mem_of_getElem? q.2))
  rw [List.length_take, bx_len, Nat.min_eq_left (by omega)] at h
  exact h.1
theorem nodeK_bd (i k : Nat) (hi : i < ls.length) (hk : k < ls.length) : Bd 200000000 (nodeK f hot ls i k) := by
  have key : ∀ a b : Nat, a < ls.length → b < ls.length → a ≤ b → Bd 200000000 (timesG (gfold f hot ls (a + 1)).1 (st f hot ls (b + 1)).last) := by
    intro a b ha hb hab
    have g := (gfold_bd hok hf (hot := hot) (a + 1) (by omega)).1
    have v := st_bv hok hf (hot := hot) (b + 1) (by omega)
    have hg : 0 ≤ (gbv (a + 1)).1 := by
      have := g.1; omega
    have hv := (bv_mono (ls.length - (b + 1))).2.2.1
    have hb := bd_times g v hg hv
    have hp := gb_bv (a + 1) (ls.length - (b + 1)) (by omega)
    simp only [Bd] at hb ⊢
    omega
  unfold nodeK
  by_cases h : k ≤ i
  · rw [if_pos h]; exact key k i hk hi h
  · rw [if_neg h]; exact key i k hi hk (by omega)
theorem curK_bd (i k : Nat) (hi : i < ls.length) (hk : k ≤ ls.length) : Bd 180000000000000000 (curK f hot ls i k) := by
  unfold curK
  by_cases h : k ≤ i
  · rw [if_pos h]
    have := bd_times (gfold_small (hot := hot) hok hf h4 k hk).2 (st_small (hot := hot) hok hf h4 (i + 1)).1 (by decide) (by decide)
    simp only [Bd, negG] at this ⊢
    omega
  · rw [if_neg h]
    have := bd_times (gfold_small (hot := hot) hok hf h4 (i + 1) (by omega)).1 (st_small (hot := hot) hok hf h4 k).2 (by decide) (by decide)
    simp only [Bd] at this ⊢
    omega
end

/-- What a reduced quotient was divided by. -/
structure Red (n d : G) (r a1 a2 a3 a4 : Int) : Prop where
  n1 : r * a1 = n.re
  n2 : r * a2 = n.im
  d1 : r * a3 = d.re
  d2 : r * a4 = d.im
  q1 : a3 ≠ 0 → d.re.tdiv a3 = r
  q2 : a3 = 0 → a4 ≠ 0 ∧ d.im.tdiv a4 = r
  s1 : (a1.natAbs ≤ n.re.natAbs ∧ a2.natAbs ≤ n.im.natAbs) ∧ a3.natAbs ≤ d.re.natAbs ∧ a4.natAbs ≤ d.im.natAbs
  s2 : r.natAbs ≤ d.re.natAbs ∨ r.natAbs ≤ d.im.natAbs
theorem red_parts (n d : G) (hd : d.re ≠ 0 ∨ d.im ≠ 0) : ∃ r a1 a2 a3 a4, redV n d = #[.int .i64 a1, .int .i64 a2, .int .i64 a3, .int .i64 a4] ∧ Red n d r a1 a2 a3 a4 := by
  obtain ⟨r, hr⟩ : ∃ r, r = redN n.re n.im d.re d.im := ⟨_, rfl⟩
  have hg := gcdL4 n.re n.im d.re d.im hd
  have hrg : r.natAbs = gcdL [n.re, n.im, d.re, d.im] := by rw [hr]; unfold redN; split <;> simp
  have hr0 : r ≠ 0 := by omega
  have hdv : r ∣ n.re ∧ r ∣ n.im ∧ r ∣ d.re ∧ r ∣ d.im := by
    refine ⟨?_, ?_, ?_, ?_⟩ <;> (rw [← Int.natAbs_dvd_natAbs, hrg]; simp only [gcdL, List.foldl_cons, List.foldl_nil, Nat.gcd_zero_left])
    · exact Nat.dvd_trans (Nat.gcd_dvd_left _ _) (Nat.dvd_trans (Nat.gcd_dvd_left _ _) (Nat.gcd_dvd_left _ _))
    · exact Nat.dvd_trans (Nat.gcd_dvd_left _ _) (Nat.dvd_trans (Nat.gcd_dvd_left _ _) (Nat.gcd_dvd_right _ _))
    · exact Nat.dvd_trans (Nat.gcd_dvd_left _ _) (Nat.gcd_dvd_right _ _)
    · exact Nat.gcd_dvd_right _ _
  have e1 := Int.mul_tdiv_cancel' hdv.1
  have e2 := Int.mul_tdiv_cancel' hdv.2.1
  have e3 := Int.mul_tdiv_cancel' hdv.2.2.1
  have e4 := Int.mul_tdiv_cancel' hdv.2.2.2
  refine ⟨r, n.re.tdiv r, n.im.tdiv r, d.re.tdiv r, d.im.tdiv r, by rw [hr]; rfl, e1, e2, e3, e4, fun h => ?_, fun h => ?_, ⟨⟨Int.natAbs_tdiv_le_natAbs _ _, Int.natAbs_tdiv_le_natAbs _ _⟩, Int.natAbs_tdiv_le_natAbs _ _, Int.natAbs_tdiv_le_natAbs _ _⟩, ?_⟩
  · have := Int.mul_tdiv_cancel r h
    rwa [e3] at this
  · rw [h, Int.mul_zero] at e3
    have h2 : d.im ≠ 0 := by rcases hd with h3 | h3
                             · exact absurd e3.symm h3
                             · exact h3
    have h3 : d.im.tdiv r ≠ 0 := fun h4 => by rw [h4, Int.mul_zero] at e4; exact h2 e4.symm
    have := Int.mul_tdiv_cancel r h3
    rw [e4] at this
    exact ⟨h3, this⟩
  · rcases hd with h | h
    · exact .inl (Nat.le_of_dvd (by omega) (Int.natAbs_dvd_natAbs.2 hdv.2.2.1))
    · exact .inr (Nat.le_of_dvd (by omega) (Int.natAbs_dvd_natAbs.2 hdv.2.2.2))

theorem gaddB_any (a b c d : Int) (ha : Big a) (hb : Big b) (hc : Big c) (hd : Big d) (w : World) :
    Calls Try.prog 57 #[.agg #[.int .i64 a, .int .i64 b], .agg #[.int .i64 c, .int .i64 d]] w fun e w' => e = .returned (.agg #[.int .i64 (a + c), .int .i64 (b + d)]) ∧ Ext w w' := by
  obtain ⟨ha1, ha2⟩ := ha
  obtain ⟨hb1, hb2⟩ := hb
  obtain ⟨hc1, hc2⟩ := hc
  obtain ⟨hd1, hd2⟩ := hd
  go_enter Try.func57, Try.ntmps57
  go_wp2
  exact bodyPost_ret (v := .agg #[.int .i64 (a + c), .int .i64 (b + d)]) (by simp [results, Try.f57, go_sem]) rfl ⟨rfl, (Ext.alloc _ _).trans ((Ext.alloc _ _).trans (Ext.alloc _ _))⟩
theorem gsubB_any (a b c d : Int) (ha : Big a) (hb : Big b) (hc : Big c) (hd : Big d) (w : World) :
    Calls Try.prog 58 #[.agg #[.int .i64 a, .int .i64 b], .agg #[.int .i64 c, .int .i64 d]] w fun e w' => e = .returned (.agg #[.int .i64 (a - c), .int .i64 (b - d)]) ∧ Ext w w' := by
  obtain ⟨ha1, ha2⟩ := ha
  obtain ⟨hb1, hb2⟩ := hb
  obtain ⟨hc1, hc2⟩ := hc
  obtain ⟨hd1, hd2⟩ := hd
  go_enter Try.func58, Try.ntmps58
  go_wp2
  exact bodyPost_ret (v := .agg #[.int .i64 (a - c), .int .i64 (b - d)]) (by simp [results, Try.f58, go_sem]) rfl ⟨rfl, (Ext.alloc _ _).trans ((Ext.alloc _ _).trans (Ext.alloc _ _))⟩

end Go.Proofs.Ytpaoeghdfeekoaa
