/- Rules and states without an error; what a step does to shares. -/
import Derived.Test.YtkmekbafjnlfkaaGreatS40

namespace Go.Proofs.YtkmekbafjnlfkaaGreat
open Go.RowKit Go.Shelf Go.Mem Go.RegInv
attribute [local go_sem] RelUpon_value RelUpon_skip RelUpon_enter BigFrame.eval_const BigFrame.eval_global BigFrame.eval_func

theorem knots_ok {α : Type} {kn : α → Kn} {fol : Kn → Kn → Bool} {xs : List α} (h : (firstAt (knotE kn fol xs) xs.length 0).2 = 0) : ∀ x ∈ xs, (1 ≤ (kn x).k ∧ (kn x).k ≤ 3000) ∧ (∀ n ∈ (kn x).nums, 0 ≤ n ∧ n ≤ 1000000) ∧ (∀ g ∈ (kn x).rs, g.lo ≤ g.hi) := by
  intro x hx
  obtain ⟨i, hi, rfl⟩ := List.mem_iff_getElem.1 hx
  have h1 := firstAt_zero h i (by omega) (by omega)
  unfold knotE at h1
  rw [List.getElem?_eq_getElem hi] at h1
  have h2 : ownE (kn xs[i]) = 0 := firstE_zero h1 _ (by simp)
  unfold ownE at h2
  have h3 := firstE_zero h2 (kelE (kn xs[i]).k) (by simp)
  have h4 := firstE_zero h2 (rangeE 0 1000000 (kn xs[i]).nums) (by simp)
  have h5 := errIf_zero (firstE_zero h2 (errIf ((kn xs[i]).rs.any bwd) 3) (by simp)) (by decide)
  refine ⟨rangeE_zeros h3 _ (by simp), rangeE_zeros h4, fun g hg => ?_⟩
  have h6 : bwd g = false := by
    cases h7 : bwd g
    · rfl
    · rw [List.any_eq_true.2 ⟨g, hg, h7⟩] at h5; cases h5
  have : ¬ g.hi < g.lo := by simpa [bwd] using h6
  omega
/-- Rules without an error have what the steps need. -/
theorem rulesOK {r : Ru} (h : rulesE r = 0) : RuOK r := by
  have hz : ∀ p ∈ [(0, errIf (decide (8 < mostR r)) 8), firstAt (knotE HK.kn risingK r.hs) r.hs.length 0, firstAt (knotE CK.kn laterK r.cs) r.cs.length 0, firstAt (knotE DK.kn fallingK r.ds) r.ds.length 0, firstAt (knotE TK.kn laterK r.ts) r.ts.length 0, (0, clashK r), (0, hardE r.h0 r.h1 r.h2 r.h3)], p.2 = 0 := firstFlt_zero h
  have h1 := knots_ok (hz (firstAt (knotE HK.kn risingK r.hs) r.hs.length 0) (by simp))
  have h2 := knots_ok (hz (firstAt (knotE CK.kn laterK r.cs) r.cs.length 0) (by simp))
  have h3 := knots_ok (hz (firstAt (knotE DK.kn fallingK r.ds) r.ds.length 0) (by simp))
  have h4 := knots_ok (hz (firstAt (knotE TK.kn laterK r.ts) r.ts.length 0) (by simp))
  constructor
  · intro x hx
    obtain ⟨-, hn, hg⟩ := h1 x hx
    have a := hn x.lo (by simp [HK.kn, Kn.nums, flat])
    have b := hn x.hi (by simp [HK.kn, Kn.nums, flat])
    have c := hn x.g (by simp [HK.kn, Kn.nums, flat])
    have d := hg ⟨x.lo, x.hi⟩ (by simp [HK.kn])
    exact ⟨⟨a.1, d, b.2⟩, c.1, c.2⟩
  · intro x hx
    obtain ⟨-, hn, hg⟩ := h2 x hx
    have a := hn x.wlo (by simp [CK.kn, Kn.nums, flat])
    have b := hn x.whi (by simp [CK.kn, Kn.nums, flat])
    have a2 := hn x.rlo (by simp [CK.kn, Kn.nums, flat])
    have b2 := hn x.rhi (by simp [CK.kn, Kn.nums, flat])
    have d := hg ⟨x.wlo, x.whi⟩ (by simp [CK.kn])
    have d2 := hg ⟨x.rlo, x.rhi⟩ (by simp [CK.kn])
    exact ⟨⟨a.1, d, b.2⟩, a2.1, d2, b2.2⟩
  · intro x hx
    obtain ⟨-, hn, hg⟩ := h3 x hx
    have a := hn x.lo (by simp [DK.kn, Kn.nums, flat])
    have b := hn x.hi (by simp [DK.kn, Kn.nums, flat])
    have d := hg ⟨x.lo, x.hi⟩ (by simp [DK.kn])
    exact ⟨a.1, d, b.2⟩
  · intro x hx
    obtain ⟨-, hn, -⟩ := h4 x hx
    exact hn x.r (by simp [TK.kn, Kn.nums, flat])
theorem withinB_of {x lo hi : Int} (h : lo ≤ x ∧ x ≤ hi) : withinB x lo hi = true := by
  unfold withinB; simp [h.1, h.2]
theorem state_zero {z : St} (h : StK z) : stateE [z.p, z.a, z.b, z.m, z.wt, z.g, z.t] = 0 := by
  rw [stateE_eq]
  simp only [List.all_cons, List.all_nil, withinB_of h.hp, withinB_of h.ha, withinB_of h.hb, withinB_of h.hm, withinB_of h.hw, withinB_of h.hg, withinB_of h.ht, Bool.and_self, if_true, h.sum]
theorem firstE_none : ∀ {l : List Int}, (∀ x ∈ l, x = 0) → firstE l = 0
  | [], _ => rfl
  | y :: l, h => by
    rw [firstE, if_neg (by simp [h y (List.mem_cons_self)])]
    exact firstE_none (fun x hx => h x (List.mem_cons_of_mem _ hx))
/-- Whether a temperature is hot. -/
def hotB (r : Ru) (x : Int) : Bool := match r.hs with | [] => false | y :: _ => decide (y.k ≤ x)
theorem idxF_ge {α : Type} (p : α → Bool) : ∀ (xs : List α) (k : Nat), idxF p xs k = -1 ∨ (k : Int) ≤ idxF p xs k
  | [], _ => .inl rfl
  | x :: l, k => by
    rw [idxF]
    split
    · exact .inr (Int.le_refl _)
    · rcases idxF_ge p l (k + 1) with h | h
      · exact .inl h
      · exact .inr (by omega)
theorem hot_last {r : Ru} {x : Int} : hotB r x = true ↔ 0 ≤ lastK HK.k x r.hs := by
  unfold hotB lastK
  cases hh : r.hs with
  | nil => simp [idxF]
  | cons y l =>
    have hv : idxF (aboveP HK.k x) (y :: l) 0 = if aboveP HK.k x y = true then ((0 : Nat) : Int) else idxF (aboveP HK.k x) l (0 + 1) := by rw [idxF]
    have hg := idxF_ge (aboveP HK.k x) l (0 + 1)
    generalize idxF (aboveP HK.k x) (y :: l) 0 = v at hv ⊢
    simp only [decide_eq_true_eq, List.length_cons]
    by_cases h : x < y.k
    · rw [if_pos (by simp [aboveP, h])] at hv
      constructor
      · intro h2; omega
      · intro h2; rw [if_pos (by omega)] at h2; omega
    · rw [if_neg (by simp [aboveP, h])] at hv
      constructor
      · intro _
        by_cases h3 : 0 ≤ v
        · rw [if_pos h3]; omega
        · rw [if_neg h3]; omega
      · intro _; omega
theorem tick_hot {r : Ru} {x : Int} (h : hotB r x = true) : ∃ y ∈ r.hs, tickD r x = [.h y] := by
  have h0 := hot_last.1 h
  rcases lastK_at HK.k x r.hs with h1 | ⟨j, y, h1, h2⟩
  · omega
  · exact ⟨y, List.mem_of_getElem? h2, by unfold tickD deedsK; rw [if_pos h0, optD_pos h1 h2]⟩
def isH : Deed → Bool
  | .h _ => true
  | _ => false
theorem optD_not {α : Type} {i : Int} {l : List α} {f : α → Deed} (h : ∀ x, isH (f x) = false) : ∀ d ∈ optD i l f, isH d = false := by
  intro d hd
  unfold optD at hd
  split at hd
  · cases hx : l[i.toNat]? with
    | none => rw [hx] at hd; simp at hd
    | some x =>
      rw [hx] at hd
      obtain rfl : d = f x := by simpa using hd
      exact h x
  · simp at hd
theorem tick_cool {r : Ru} {x : Int} (h : hotB r x = false) : ∀ d ∈ tickD r x, isH d = false := by
  intro d hd
  have h0 : ¬ 0 ≤ lastK HK.k x r.hs := fun h1 => by rw [hot_last.2 h1] at h; cases h
  unfold tickD deedsK at hd
  rw [if_neg h0] at hd
  rcases List.mem_append.1 hd with hd | hd
  · exact optD_not (fun _ => rfl) d hd
  · rcases List.mem_append.1 hd with hd | hd
    · exact optD_not (fun _ => rfl) d hd
    · exact optD_not (fun _ => rfl) d hd
theorem fold_ok {k : Pk} (hk : PkOK k) : ∀ {ds : List Deed} {s : St}, (∀ d ∈ ds, deedOK d) → StK s → StK (ds.foldl (fun s d => stepD d k s) s)
  | [], _, _, hs => hs
  | d :: ds, _, h, hs => fold_ok hk (ds := ds) (fun d' hd => h d' (List.mem_cons_of_mem _ hd)) (step_ok (h d (List.mem_cons_self)) hk hs)
theorem tick_ok {r : Ru} (hr : RuOK r) {k : Pk} (hk : PkOK k) {s : St} (hs : StK s) (x : Int) : StK (tickK r k s x) := fold_ok hk (tickD_ok hr x) hs
/-- What a step that is not hot leaves as it is, or makes greater. -/
def Later (s z : St) : Prop := z.p = s.p ∧ s.m ≤ z.m ∧ s.b ≤ z.b ∧ z.g = s.g ∧ s.t ≤ z.t
theorem later_step {d : Deed} (hd : isH d = false) (h : deedOK d) {k : Pk} (hk : PkOK k) {s : St} (hs : StK s) : Later s (stepD d k s) := by
  obtain ⟨p0, p1, p2, p3, p4, p5⟩ := hk
  cases d with
  | h x => cases hd
  | c x =>
    obtain ⟨⟨a1, a2, a3⟩, b1, b2, b3⟩ := h
    obtain ⟨c1, c2⟩ := pick_bd (part := k.c) b1 b2 b3 p2 p3
    have := hs.ha
    refine ⟨rfl, Int.le_refl _, ?_, rfl, Int.le_refl _⟩
    show s.b ≤ s.b + min s.a (formedK _ (pickK x.rlo x.rhi k.c))
    unfold formedK
    split <;> omega
  | d x =>
    refine ⟨rfl, ?_, Int.le_refl _, rfl, Int.le_refl _⟩
    show s.m ≤ s.m + frozenK _ _ _
    unfold frozenK
    omega
  | t x =>
    obtain ⟨a1, a2⟩ := h
    have := hs.ht
    refine ⟨rfl, Int.le_refl _, Int.le_refl _, rfl, ?_⟩
    show s.t ≤ min 1000000 (s.t + x.r)
    omega
theorem later_fold {k : Pk} (hk : PkOK k) : ∀ {ds : List Deed} {s : St}, (∀ d ∈ ds, deedOK d) → (∀ d ∈ ds, isH d = false) → StK s → Later s (ds.foldl (fun s d => stepD d k s) s)
  | [], _, _, _, _ => ⟨rfl, Int.le_refl _, Int.le_refl _, rfl, Int.le_refl _⟩
  | d :: ds, s, h, hn, hs => by
    have h1 := later_step (hn d (List.mem_cons_self)) (h d (List.mem_cons_self)) hk hs
    have h2 := later_fold hk (ds := ds) (s := stepD d k s) (fun d' hd => h d' (List.mem_cons_of_mem _ hd)) (fun d' hd => hn d' (List.mem_cons_of_mem _ hd)) (step_ok (h d (List.mem_cons_self)) hk hs)
    obtain ⟨a1, a2, a3, a4, a5⟩ := h1
    obtain ⟨b1, b2, b3, b4, b5⟩ := h2
    exact ⟨b1.trans a1, Int.le_trans a2 b2, Int.le_trans a3 b3, b4.trans a4, Int.le_trans a5 b5⟩
theorem tick_later {r : Ru} (hr : RuOK r) {k : Pk} (hk : PkOK k) {s : St} (hs : StK s) {x : Int} (h : hotB r x = false) : Later s (tickK r k s x) := later_fold hk (tickD_ok hr x) (tick_cool h) hs
/-- What a hot step does. -/
theorem tick_hotter {r : Ru} (hr : RuOK r) {k : Pk} (hk : PkOK k) {s : St} (hs : StK s) {x : Int} (h : hotB r x = true) : s.a ≤ (tickK r k s x).a ∧ (tickK r k s x).b = 0 ∧ (tickK r k s x).m = 0 ∧ s.g ≤ (tickK r k s x).g := by
  obtain ⟨y, hy, e⟩ := tick_hot h
  obtain ⟨⟨a1, a2, a3⟩, b1, b2⟩ := hr.h y hy
  obtain ⟨p0, p1, p2, p3, p4, p5⟩ := hk
  obtain ⟨c1, c2⟩ := pick_bd (part := k.h) a1 a2 a3 p0 p1
  have ha := hs.ha
  have hg := hs.hg
  unfold tickK
  rw [e]
  refine ⟨?_, rfl, rfl, ?_⟩
  · show s.a ≤ 1000000 - max 0 (1000000 - s.a - pickK y.lo y.hi k.h)
    omega
  · show s.g ≤ grownK s.g y.g _
    unfold grownK
    split <;> omega
/-- The hardness of shares that add up lies between those of parent steel and martensite. -/
theorem hard_between {r : Ru} (h : rulesE r = 0) {z : St} (hz : StK z) : r.h0 ≤ hardK r.h0 r.h1 r.h2 r.h3 z.p z.a z.b z.m z.t ∧ hardK r.h0 r.h1 r.h2 r.h3 z.p z.a z.b z.m z.t ≤ r.h3 := by
  obtain ⟨q0, q1, q2, q3, q4⟩ := rules_hard h
  have hp := hz.hp
  have ha := hz.ha
  have hb := hz.hb
  have hm := hz.hm
  have ht := hz.ht
  have hs := hz.sum
  obtain ⟨M, hM⟩ : ∃ M, M = max (r.h3 - z.t) r.h2 := ⟨_, rfl⟩
  have m1 : r.h2 ≤ M := by omega
  have m2 : M ≤ r.h3 := by omega
  unfold hardK
  rw [← hM]
  have l1 := Int.mul_le_mul_of_nonneg_left q1 ha.1
  have l2 := Int.mul_le_mul_of_nonneg_left (show r.h0 ≤ r.h2 by omega) hb.1
  have l3 := Int.mul_le_mul_of_nonneg_left (show r.h0 ≤ M by omega) hm.1
  have u0 := Int.mul_le_mul_of_nonneg_left (show r.h0 ≤ r.h3 by omega) hp.1
  have u1 := Int.mul_le_mul_of_nonneg_left (show r.h1 ≤ r.h3 by omega) ha.1
  have u2 := Int.mul_le_mul_of_nonneg_left (show r.h2 ≤ r.h3 by omega) hb.1
  have u3 := Int.mul_le_mul_of_nonneg_left m2 hm.1
  have e0 : z.p * r.h0 + z.a * r.h0 + z.b * r.h0 + z.m * r.h0 = 1000000 * r.h0 := by rw [← hs, Int.add_mul, Int.add_mul, Int.add_mul]
  have e3 : z.p * r.h3 + z.a * r.h3 + z.b * r.h3 + z.m * r.h3 = 1000000 * r.h3 := by rw [← hs, Int.add_mul, Int.add_mul, Int.add_mul]
  generalize z.p * r.h0 = x0 at *
  generalize z.a * r.h0 = x1 at *
  generalize z.b * r.h0 = x2 at *
  generalize z.m * r.h0 = x3 at *
  generalize z.p * r.h3 = y0 at *
  generalize z.a * r.h3 = y1 at *
  generalize z.b * r.h3 = y2 at *
  generalize z.m * r.h3 = y3 at *
  generalize z.a * r.h1 = v1 at *
  generalize z.b * r.h2 = v2 at *
  generalize z.m * M = v3 at *
  omega

end Go.Proofs.YtkmekbafjnlfkaaGreat
