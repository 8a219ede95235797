/- Mathematics of strokes and of deflections. -/
import Derived.Test.YtjdilmmpdlcimaaGreatFA
import Derived.Test.YtjdilmmpdlcimaaGreatFB
import Derived.Test.YtjdilmmpdlcimaaGreatC12
import Derived.Lib.MinMax

namespace Go.Proofs.YtjdilmmpdlcimaaGreat
open Go.RowKit Go.Shelf Go.Mem Go.RegInv
attribute [local go_sem] RelUpon_value RelUpon_skip RelUpon_enter BigFrame.eval_const BigFrame.eval_global BigFrame.eval_func

def sumG (g : Sk → Int) : List Sk → Int
  | [] => 0
  | x :: l => g x + sumG g l
theorem sumG_append (g : Sk → Int) : ∀ (a b : List Sk), sumG g (a ++ b) = sumG g a + sumG g b
  | [], b => by simp [sumG]
  | x :: a, b => by rw [List.cons_append, sumG, sumG, sumG_append g a b]; omega
theorem sumG_perm (g : Sk → Int) {a b : List Sk} (h : a.Perm b) : sumG g a = sumG g b := by
  induction h with
  | nil => rfl
  | cons x _ ih => rw [sumG, sumG, ih]
  | swap x y l => simp only [sumG]; omega
  | trans _ _ ih1 ih2 => rw [ih1, ih2]
theorem sumK_take (f : Sk → Int) (l : List Sk) (j : Int) : ∀ k, k ≤ l.length → sumK f l j k = sumG (fun x => if x.j = j then f x else 0) (l.take k)
  | 0, _ => by simp [sumK, sumG]
  | k + 1, hk => by
    rw [sumK, sumK_take f l j k (by omega), List.take_add_one, List.getElem?_eq_getElem (by omega), sumG_append]
    have hd : l.getD k default = l[k]'(by omega) := by simp [show k < l.length by omega]
    rw [hd]
    simp only [Option.toList, sumG]
    split <;> omega
theorem sumK_sumG (f : Sk → Int) (l : List Sk) (j : Int) : sumK f l j l.length = sumG (fun x => if x.j = j then f x else 0) l := by
  rw [sumK_take f l j _ (Nat.le_refl _), List.take_length]
theorem sumK_perm (f : Sk → Int) {a b : List Sk} (h : a.Perm b) (j : Int) : sumK f a j a.length = sumK f b j b.length := by
  rw [sumK_sumG, sumK_sumG, sumG_perm _ h]
theorem sumL_perm (f : Sk → Int) {a b : List Sk} (h : a.Perm b) (n : Nat) : sumL f a n = sumL f b n := by
  unfold sumL
  exact List.map_congr_left fun j _ => sumK_perm f h _
theorem fullB_perm (li : Int) {a b : List Sk} (h : a.Perm b) (n : Nat) : fullB li a n = fullB li b n := by
  unfold fullB
  rw [sumL_perm _ h]
theorem sumG_nn {g : Sk → Int} : ∀ {l : List Sk}, (∀ x ∈ l, 0 ≤ g x) → 0 ≤ sumG g l
  | [], _ => by simp [sumG]
  | x :: l, h => by
    have h1 := h x (by simp)
    have h2 := sumG_nn (l := l) (fun y hy => h y (by simp [hy]))
    rw [sumG]; omega
/-- Fewer strokes are not full either. -/
theorem fullB_part {li : Int} {a b : List Sk} {n : Nat} (h : fullB li (a ++ b) n = false) (hb : ∀ x ∈ b, 0 ≤ x.a) : fullB li a n = false := by
  unfold fullB sumL at h ⊢
  rw [List.any_eq_false] at h ⊢
  intro v hv
  rw [List.mem_map] at hv
  obtain ⟨j, hj, rfl⟩ := hv
  have h1 := h _ (List.mem_map.2 ⟨j, hj, rfl⟩)
  simp only [overB, decide_eq_true_eq] at h1 ⊢
  rw [sumK_sumG, sumG_append] at h1
  rw [sumK_sumG]
  have h2 := sumG_nn (g := fun x => if x.j = (j : Int) then x.a else 0) (l := b) (fun x hx => by
    have := hb x hx
    split <;> omega)
  omega
theorem srch_found {n : Nat} {li : Int} {pf : List Sk → Bool} {os : List Sk} : ∀ {c : Nat} {b : List Sk} {f : Nat} {is : List Nat}, is.length = c → is.Pairwise (· ≤ ·) → (∀ i ∈ is, f ≤ i ∧ i < os.length) → (∀ i ∈ is, 0 ≤ (os.getD i default).a) →
    fullB li (b ++ is.map fun i => os.getD i default) n = false → pf (b ++ is.map fun i => os.getD i default) = true → (srch n li pf os c b f).isSome = true
  | 0, b, f, is, hl, _, _, _, hfu, hp => by
    obtain rfl := List.length_eq_zero_iff.1 hl
    simp only [List.map_nil, List.append_nil] at hfu hp
    rw [srch, hfu, hp]
    simp
  | c + 1, b, f, [], hl, _, _, _, _, _ => by simp at hl
  | c + 1, b, f, i :: is, hl, hs, hi, ha, hfu, hp => by
    have hb : fullB li b n = false := fullB_part hfu (by
      intro x hx
      obtain ⟨k, hk, rfl⟩ := List.mem_map.1 hx
      exact ha k hk)
    rw [srch, hb, if_neg (by decide)]
    rw [List.findSome?_isSome_iff]
    have h1 := hi i (by simp)
    refine ⟨i, List.mem_range'_1.2 ⟨h1.1, by omega⟩, ?_⟩
    obtain ⟨hs1, hs2⟩ := List.pairwise_cons.1 hs
    refine srch_found (is := is) (by simpa using hl) hs2 (fun k hk => ⟨hs1 k hk, (hi k (by simp [hk])).2⟩) (fun k hk => ha k (by simp [hk])) ?_ ?_
    · simpa using hfu
    · simpa using hp
theorem srch_sound {n : Nat} {li : Int} {pf : List Sk → Bool} {os : List Sk} {Q : Sk → Prop} (hQ : ∀ i, i < os.length → Q (os.getD i default)) : ∀ {c : Nat} {b : List Sk} {f : Nat} {p : List Sk}, srch n li pf os c b f = some p → (∀ x ∈ b, Q x) → fullB li p n = false ∧ pf p = true ∧ p.length = b.length + c ∧ ∀ x ∈ p, Q x
  | 0, b, f, p, h, hb => by
    rw [srch] at h
    by_cases h1 : fullB li b n = true
    · rw [if_pos h1] at h; cases h
    · rw [if_neg h1] at h
      by_cases h2 : pf b = true
      · rw [if_pos h2] at h
        obtain rfl := Option.some.inj h
        exact ⟨by simpa using h1, h2, rfl, hb⟩
      · rw [if_neg h2] at h; cases h
  | c + 1, b, f, p, h, hb => by
    rw [srch] at h
    by_cases h1 : fullB li b n = true
    · rw [if_pos h1] at h; cases h
    · rw [if_neg h1] at h
      obtain ⟨i, hi, hp⟩ := List.exists_of_findSome?_eq_some h
      have hi2 := List.mem_range'_1.1 hi
      obtain ⟨a1, a2, a3, a4⟩ := srch_sound hQ hp (by
        intro x hx
        rcases List.mem_append.1 hx with h3 | h3
        · exact hb x h3
        · obtain rfl : x = os.getD i default := by simpa using h3
          exact hQ i (by omega))
      exact ⟨a1, a2, by rw [a3, List.length_append]; simp; omega, a4⟩
/-- Every list is one of sorted indexes, but for its order. -/
def insN (i : Nat) : List Nat → List Nat
  | [] => [i]
  | k :: l => if i ≤ k then i :: k :: l else k :: insN i l
theorem insN_perm (i : Nat) : ∀ l, (insN i l).Perm (i :: l)
  | [] => .refl _
  | k :: l => by
    rw [insN]
    split
    · exact .refl _
    · exact ((insN_perm i l).cons k).trans (.swap _ _ _)
theorem insN_sorted {i : Nat} : ∀ {l : List Nat}, l.Pairwise (· ≤ ·) → (insN i l).Pairwise (· ≤ ·)
  | [], _ => by simp [insN]
  | k :: l, h => by
    obtain ⟨h1, h2⟩ := List.pairwise_cons.1 h
    rw [insN]
    split
    · rename_i hik
      refine List.pairwise_cons.2 ⟨fun x hx => ?_, h⟩
      rcases List.mem_cons.1 hx with rfl | hx
      · exact hik
      · have := h1 x hx; omega
    · refine List.pairwise_cons.2 ⟨fun x hx => ?_, insN_sorted h2⟩
      rcases List.mem_cons.1 ((insN_perm i l).mem_iff.1 hx) with rfl | hx
      · omega
      · exact h1 x hx
theorem sorted_idx {os : List Sk} : ∀ {xs : List Sk}, (∀ x ∈ xs, x ∈ os) → ∃ is : List Nat, is.length = xs.length ∧ is.Pairwise (· ≤ ·) ∧ (∀ i ∈ is, i < os.length) ∧ (is.map fun i => os.getD i default).Perm xs
  | [], _ => ⟨[], rfl, .nil, (fun i hi => by cases hi), .refl _⟩
  | x :: xs, h => by
    obtain ⟨is, h1, h2, h3, h4⟩ := sorted_idx (xs := xs) (fun y hy => h y (by simp [hy]))
    obtain ⟨i, hi, he⟩ := List.mem_iff_getElem.1 (h x (by simp))
    have hp := insN_perm i is
    refine ⟨insN i is, by rw [hp.length_eq]; simp [h1], insN_sorted h2, fun k hk => ?_, ?_⟩
    · rcases List.mem_cons.1 (hp.mem_iff.1 hk) with rfl | hk
      · exact hi
      · exact h3 k hk
    · refine (hp.map _).trans ?_
      rw [List.map_cons]
      have : os.getD i default = x := by simp [hi, he]
      rw [this]
      exact h4.cons x
theorem fewRk_found {n : Nat} {li : Int} {pf : List Sk → Bool} {os xs : List Sk} (h4 : xs.length ≤ 4) (hm : ∀ x ∈ xs, x ∈ os) (ha : ∀ x ∈ os, 0 ≤ x.a) (hf : fullB li xs n = false) (hp : pf xs = true) (hpp : ∀ a b : List Sk, a.Perm b → pf a = pf b) :
    ∃ p, fewRk n li pf os 0 = some p ∧ p.length ≤ xs.length := by
  obtain ⟨is, h1, h2, h3, h5⟩ := sorted_idx hm
  have hs : (srch n li pf os xs.length [] 0).isSome = true := srch_found (is := is) h1 h2 (fun i hi => ⟨Nat.zero_le _, h3 i hi⟩) (fun i hi => by
    have h := h3 i hi
    refine ha _ ?_
    have : os.getD i default = os[i] := by simp [h]
    rw [this]
    exact List.getElem_mem h) (by rw [List.nil_append, fullB_perm li h5 n]; exact hf) (by rw [List.nil_append, hpp _ _ h5]; exact hp)
  unfold fewRk
  -- the first count that has one
  have key : ∀ d k, k + d = xs.length → ∃ p, (List.range' k (5 - k)).findSome? (fun c => srch n li pf os c [] 0) = some p ∧ p.length ≤ xs.length := by
    intro d
    induction d with
    | zero =>
      intro k hk
      obtain ⟨e, he⟩ : ∃ e, 5 - k = e + 1 := ⟨5 - k - 1, by omega⟩
      rw [he, List.range'_succ, List.findSome?_cons]
      obtain ⟨p, hp2⟩ := Option.isSome_iff_exists.1 hs
      have hk2 : k = xs.length := by omega
      rw [hk2, hp2]
      obtain ⟨_, _, h7, _⟩ := srch_sound (Q := fun _ => True) (fun _ _ => trivial) hp2 (by simp)
      exact ⟨p, rfl, by simp at h7; omega⟩
    | succ d ih =>
      intro k hk
      obtain ⟨e, he⟩ : ∃ e, 5 - k = e + 1 := ⟨5 - k - 1, by omega⟩
      rw [he, List.range'_succ, List.findSome?_cons]
      cases hq : srch n li pf os k [] 0 with
      | some p =>
        obtain ⟨_, _, h7, _⟩ := srch_sound (Q := fun _ => True) (fun _ _ => trivial) hq (by simp)
        exact ⟨p, rfl, by simp at h7; omega⟩
      | none =>
        have := ih (k + 1) (by omega)
        rw [show 5 - (k + 1) = e by omega] at this
        exact this
  exact key xs.length 0 (by omega)
theorem fewRk_sound {n : Nat} {li : Int} {pf : List Sk → Bool} {os : List Sk} {Q : Sk → Prop} (hQ : ∀ i, i < os.length → Q (os.getD i default)) {p : List Sk} (h : fewRk n li pf os 0 = some p) : fullB li p n = false ∧ pf p = true ∧ p.length ≤ 4 ∧ ∀ x ∈ p, Q x := by
  unfold fewRk at h
  obtain ⟨c, hc, hp⟩ := List.exists_of_findSome?_eq_some h
  have hc2 := List.mem_range'_1.1 hc
  obtain ⟨a1, a2, a3, a4⟩ := srch_sound hQ hp (by simp)
  exact ⟨a1, a2, by simp at a3; omega, a4⟩
theorem strF_le {t : Int} {d : Nat → Rg} : ∀ {f k : Nat} {a : Int}, a ≤ 1 → strF t d f k a ≤ 1
  | 0, _, a, h => h
  | f + 1, k, a, h => by
    rw [strF]
    split
    · omega
    · exact strF_le (by split <;> omega)
theorem strF_two {t : Int} {d : Nat → Rg} : ∀ {f k : Nat}, strF t d f k 2 = 2 ↔ ∀ i, k ≤ i → i < k + f → -t ≤ (d i).1 ∧ (d i).2 ≤ t ∧ (d i).1 ≤ t ∧ -t ≤ (d i).2
  | 0, k => by
    rw [strF]
    exact ⟨fun _ i h1 h2 => by omega, fun _ => rfl⟩
  | f + 1, k => by
    rw [strF]
    by_cases h1 : t < (d k).1 ∨ (d k).2 < -t
    · rw [if_pos h1]
      exact ⟨fun h => by omega, fun h => by have := h k (by omega) (by omega); omega⟩
    · rw [if_neg h1]
      by_cases h2 : (d k).1 < -t ∨ t < (d k).2
      · rw [if_pos h2]
        exact ⟨fun h => by have := strF_le (t := t) (d := d) (f := f) (k := k + 1) (a := 1) (by omega); omega, fun h => by have := h k (by omega) (by omega); omega⟩
      · rw [if_neg h2, strF_two]
        refine ⟨fun h i hi1 hi2 => ?_, fun h i hi1 hi2 => h i (by omega) (by omega)⟩
        rcases (show i = k ∨ k + 1 ≤ i by omega) with rfl | h3
        · omega
        · exact h i h3 (by omega)
theorem straightV_two {t L : Int} {js : List Int} {ks : List Rg} : straightV t L js ks = 2 ↔ ∀ i, i < js.length → -t ≤ (deflAt L js ks i).1 ∧ (deflAt L js ks i).2 ≤ t ∧ (deflAt L js ks i).1 ≤ t ∧ -t ≤ (deflAt L js ks i).2 := by
  unfold straightV
  rw [strF_two]
  exact ⟨fun h i hi => h i (by omega) (by omega), fun h i _ hi => h i (by omega)⟩
/-- What strokes move a position by, times the length. -/
def moved (ga sp L p : Int) (js : List Int) (l : List Sk) : Nat → Int
  | 0 => 0
  | k + 1 => moved ga sp L p js l k + sumK (bentV ga sp) l (k : Int) l.length * infl L (js.getD k 0) p
theorem dsum_moved {ga sp L p : Int} {js : List Int} {ks : List Rg} {l : List Sk} {n : Nat} : ∀ k, k ≤ n → (dsum L p js (aftK ga sp l ks n) k).1 = (dsum L p js ks k).1 + moved ga sp L p js l k ∧ (dsum L p js (aftK ga sp l ks n) k).2 = (dsum L p js ks k).2 + moved ga sp L p js l k
  | 0, _ => by simp [dsum, moved]
  | k + 1, hk => by
    obtain ⟨h1, h2⟩ := dsum_moved (ga := ga) (sp := sp) (L := L) (p := p) (js := js) (ks := ks) (l := l) k (show k ≤ n by omega)
    have e : (aftK ga sp l ks n).getD k default = aftF ga sp l k (ks.getD k default) := by simp [aftK, kinkL, show k < n by omega]
    rw [dsum, dsum, moved, e]
    dsimp only [aftF]
    rw [h1, h2]
    constructor <;> grind
def hitG (g : Sk → Int) (F : Nat → Int) (l : List Sk) : Nat → Int
  | 0 => 0
  | k + 1 => hitG g F l k + sumG (fun x => if x.j = (k : Int) then g x else 0) l * F k
theorem moved_hit (ga sp L p : Int) (js : List Int) (l : List Sk) : ∀ k, moved ga sp L p js l k = hitG (bentV ga sp) (fun i => infl L (js.getD i 0) p) l k
  | 0 => rfl
  | k + 1 => by rw [moved, hitG, moved_hit ga sp L p js l k, sumK_sumG]
theorem hitG_nil (g : Sk → Int) (F : Nat → Int) : ∀ k, hitG g F [] k = 0
  | 0 => rfl
  | k + 1 => by rw [hitG, hitG_nil g F k]; simp [sumG]
theorem hitG_cons (g : Sk → Int) (F : Nat → Int) (x : Sk) (l : List Sk) : ∀ k, hitG g F (x :: l) k = hitG g F l k + (if 0 ≤ x.j ∧ x.j < (k : Int) then g x * F x.j.toNat else 0)
  | 0 => by
    rw [hitG, hitG, if_neg (by omega)]; rfl
  | k + 1 => by
    rw [hitG, hitG_cons g F x l k, hitG, sumG]
    by_cases h : x.j = (k : Int)
    · rw [if_pos h, if_neg (by omega), if_pos (by omega), show x.j.toNat = k by omega]
      grind
    · rw [if_neg h]
      by_cases h2 : 0 ≤ x.j ∧ x.j < (k : Int)
      · rw [if_pos h2, if_pos (by omega)]; grind
      · rw [if_neg h2, if_neg (by omega)]; grind
theorem hitG_bd {g : Sk → Int} {F : Nat → Int} {M : Int} {n : Nat} (hM : 0 ≤ M) : ∀ {l : List Sk}, (∀ x ∈ l, 0 ≤ x.j → x.j < (n : Int) → -M ≤ g x * F x.j.toNat ∧ g x * F x.j.toNat ≤ M) → -(M * (l.length : Int)) ≤ hitG g F l n ∧ hitG g F l n ≤ M * (l.length : Int)
  | [], _ => by rw [hitG_nil]; simp
  | x :: l, h => by
    have ih := hitG_bd (g := g) (F := F) (n := n) hM (l := l) (fun y hy => h y (by simp [hy]))
    rw [hitG_cons, List.length_cons]
    have e : M * ((l.length + 1 : Nat) : Int) = M * (l.length : Int) + M := by
      rw [Int.natCast_succ, Int.mul_add, Int.mul_one]
    rw [e]
    by_cases h2 : 0 ≤ x.j ∧ x.j < (n : Int)
    · rw [if_pos h2]
      have := h x (by simp) h2.1 h2.2
      omega
    · rw [if_neg h2]; omega
/-- The greatest of a function of the joints. -/
def maxF (F : Nat → Int) : Nat → Int
  | 0 => 0
  | k + 1 => max (maxF F k) (F k)
theorem maxF_le (F : Nat → Int) : ∀ {k i : Nat}, i < k → F i ≤ maxF F k
  | k + 1, i, h => by
    rw [maxF]
    rcases (show i < k ∨ i = k by omega) with h1 | rfl
    · have := maxF_le F h1; omega
    · omega
theorem maxF_nn (F : Nat → Int) : ∀ k, 0 ≤ maxF F k
  | 0 => by simp [maxF]
  | k + 1 => by rw [maxF]; have := maxF_nn F k; omega
theorem kinkV_mono {ga sp a b : Int} (hg : 0 ≤ ga) (h : a ≤ b) : kinkV ga sp a ≤ kinkV ga sp b ∧ 0 ≤ kinkV ga sp a := by
  unfold kinkV
  exact ⟨Int.mul_le_mul_of_nonneg_left (by omega) hg, Int.mul_nonneg hg (by omega)⟩
theorem bentV_size {ga sp : Int} {x : Sk} {A : Int} (hg : 0 ≤ ga) (h : x.a ≤ A) : -kinkV ga sp A ≤ bentV ga sp x ∧ bentV ga sp x ≤ kinkV ga sp A := by
  have := kinkV_mono (sp := sp) hg h
  unfold bentV
  split <;> omega
def excV (t : Int) (d : Rg) : Int := max (max (d.2 - t) (-t - d.1)) 0
def reachV (ga sp A L : Int) (js : List Int) (k n : Nat) : Int := maxF (fun i => kinkV ga sp A * infl L (js.getD i 0) (js.getD k 0)) n
theorem ceilD_le {a b q : Int} (hb : 0 < b) (h : a ≤ q * b) : ceilD a b ≤ q := by
  unfold ceilD
  have h1 : (-q) * b ≤ -a := by rw [Int.neg_mul]; omega
  have := Int.le_ediv_of_mul_le hb h1
  omega
theorem ceilD_ge {a b q : Int} (hb : 0 < b) (h : q < ceilD a b) : q * b < a := by
  unfold ceilD at h
  have h1 : (-a) / b < -q := by omega
  have := (Int.ediv_lt_iff_lt_mul hb).1 h1
  rw [Int.neg_mul] at this
  omega
theorem floor_lt {a b q : Int} (hb : 0 < b) (h : a / b < q) : a < q * b := (Int.ediv_lt_iff_lt_mul hb).1 h
theorem floor_ge {a b q : Int} (hb : 0 < b) (h : q ≤ a / b) : q * b ≤ a := (Int.le_ediv_iff_mul_le hb).1 h
theorem ceil_le {a b q : Int} (hb : 0 < b) (h : ceilD a b ≤ q) : a ≤ q * b := by
  unfold ceilD at h
  have h1 : -q ≤ (-a) / b := by omega
  have := (Int.le_ediv_iff_mul_le hb).1 h1
  rw [Int.neg_mul] at this
  omega
theorem bound_ok {ga sp t L A : Int} {js : List Int} {ks : List Rg} {l : List Sk} (hL : 1 ≤ L) (hg : 0 ≤ ga) (hA : ∀ x ∈ l, x.a ≤ A) (hinf : ∀ i k, i < js.length → k < js.length → 0 ≤ infl L (js.getD i 0) (js.getD k 0))
    (hst : straightV t L js (aftK ga sp l ks js.length) = 2) {k : Nat} (hk : k < js.length) (he : 2 < excV t (deflAt L js ks k)) :
    0 < reachV ga sp A L js k js.length ∧ ceilD ((excV t (deflAt L js ks k) - 2) * L) (reachV ga sp A L js k js.length) ≤ l.length := by
  have h1 := straightV_two.1 hst k hk
  have hM := maxF_nn (fun i => kinkV ga sp A * infl L (js.getD i 0) (js.getD k 0)) js.length
  have hb := hitG_bd (g := bentV ga sp) (F := fun i => infl L (js.getD i 0) (js.getD k 0)) (n := js.length) hM (l := l) (fun x hx h0 hn => by
    have h2 := bentV_size (sp := sp) hg (hA x hx)
    have h3 := hinf x.j.toNat k (by omega) hk
    have h4 := maxF_le (fun i => kinkV ga sp A * infl L (js.getD i 0) (js.getD k 0)) (show x.j.toNat < js.length by omega)
    have h5 := Int.mul_le_mul_of_nonneg_right h2.2 h3
    have h6 := Int.mul_le_mul_of_nonneg_right h2.1 h3
    rw [Int.neg_mul] at h6
    omega)
  rw [← moved_hit] at hb
  have hd := dsum_moved (ga := ga) (sp := sp) (L := L) (p := js.getD k 0) (js := js) (ks := ks) (l := l) (n := js.length) js.length (Nat.le_refl _)
  have hr : reachV ga sp A L js k js.length = maxF (fun i => kinkV ga sp A * infl L (js.getD i 0) (js.getD k 0)) js.length := rfl
  rw [hr]
  generalize maxF (fun i => kinkV ga sp A * infl L (js.getD i 0) (js.getD k 0)) js.length = M at *
  unfold excV at he ⊢
  unfold deflAt defl at h1 he ⊢
  dsimp only at h1 he ⊢
  rw [hd.1, hd.2] at h1
  generalize (dsum L (js.getD k 0) js ks js.length).1 = lo at *
  generalize (dsum L (js.getD k 0) js ks js.length).2 = hi at *
  generalize moved ga sp L (js.getD k 0) js l js.length = S at *
  have hL0 : 0 < L := by omega
  have a1 := floor_ge hL0 h1.1
  have a2 := ceil_le hL0 h1.2.1
  rw [Int.neg_mul] at a1
  -- the excess
  obtain ⟨e, hE⟩ : ∃ e, e = max (max (ceilD hi L - t) (-t - lo / L)) 0 := ⟨_, rfl⟩
  rw [← hE] at he ⊢
  have h3 : (e - 1) * L < M * l.length := by
    rcases (show ceilD hi L - t = e ∨ -t - lo / L = e by omega) with h4 | h4
    · have := ceilD_ge (a := hi) (q := t + e - 1) hL0 (by omega)
      grind
    · have := floor_lt (q := -t - e + 1) hL0 (a := lo) (by omega)
      grind
  have h4 : 0 ≤ (e - 1) * L := Int.mul_nonneg (by omega) (by omega)
  have h5 : 0 < M := by
    rcases Int.lt_or_le 0 M with h | h
    · exact h
    · have : M = 0 := by omega
      rw [this] at h3
      simp at h3
      omega
  refine ⟨h5, ceilD_le h5 ?_⟩
  rw [Int.mul_comm (l.length : Int)]
  have : (e - 2) * L ≤ (e - 1) * L := Int.mul_le_mul_of_nonneg_right (by omega) (by omega)
  omega
-- CONTAINED
theorem infl_nn {L j p : Int} (hj : 0 ≤ j ∧ j ≤ L) (hp : 0 ≤ p ∧ p ≤ L) : 0 ≤ infl L j p ∧ infl L j p ≤ p * L := by
  unfold infl
  have h1 : 0 ≤ min j p * (L - max j p) := Int.mul_nonneg (by omega) (by omega)
  have h2 : min j p * (L - max j p) ≤ min j p * L := Int.mul_le_mul_of_nonneg_left (by omega) (by omega)
  have h3 : min j p * L ≤ p * L := Int.mul_le_mul_of_nonneg_right (by omega) (by omega)
  omega
theorem infl_symm (L j p : Int) : infl L j p = infl L p j := by
  unfold infl
  rw [Int.min_comm, Int.max_comm]
theorem infl_zero {L j : Int} (hj : 0 ≤ j) : infl L j 0 = 0 := by
  unfold infl
  rw [show min j 0 = 0 by omega]; simp
theorem infl_end {L j : Int} (hj : j ≤ L) : infl L j L = 0 := by
  unfold infl
  rw [show max j L = L by omega]; simp
theorem dsum_mono {L p : Int} {js : List Int} {ks ms : List Rg} {n : Nat} (hi : ∀ i, i < n → 0 ≤ infl L (js.getD i 0) p) (hk : ∀ i, i < n → (ks.getD i default).1 ≤ (ms.getD i default).1 ∧ (ms.getD i default).2 ≤ (ks.getD i default).2) : ∀ k, k ≤ n → (dsum L p js ks k).1 ≤ (dsum L p js ms k).1 ∧ (dsum L p js ms k).2 ≤ (dsum L p js ks k).2
  | 0, _ => by simp [dsum]
  | k + 1, h => by
    have ih := dsum_mono hi hk k (by omega)
    have h1 := hi k (by omega)
    have h2 := hk k (by omega)
    have h3 := Int.mul_le_mul_of_nonneg_right h2.1 h1
    have h4 := Int.mul_le_mul_of_nonneg_right h2.2 h1
    rw [dsum, dsum]
    dsimp only
    omega
theorem dsum_neg {L p : Int} {js : List Int} {ks ms : List Rg} {n : Nat} (hk : ∀ i, i < n → ms.getD i default = (-(ks.getD i default).2, -(ks.getD i default).1)) : ∀ k, k ≤ n → dsum L p js ms k = (-(dsum L p js ks k).2, -(dsum L p js ks k).1)
  | 0, _ => by simp [dsum]
  | k + 1, h => by
    rw [dsum, dsum, dsum_neg hk k (by omega), hk k (by omega)]
    dsimp only
    rw [Int.neg_mul, Int.neg_mul, Int.neg_add, Int.neg_add]
theorem dsum_one {L p : Int} {js : List Int} {ms : List Rg} {n : Nat} (hk : ∀ i, i < n → (ms.getD i default).1 = (ms.getD i default).2) : ∀ k, k ≤ n → (dsum L p js ms k).1 = (dsum L p js ms k).2
  | 0, _ => by simp [dsum]
  | k + 1, h => by
    rw [dsum, dsum_one hk k (by omega), hk k (by omega)]
theorem dsum_none {L p : Int} {js : List Int} {ks : List Rg} {n : Nat} (hi : ∀ i, i < n → infl L (js.getD i 0) p = 0) : ∀ k, k ≤ n → dsum L p js ks k = (0, 0)
  | 0, _ => rfl
  | k + 1, h => by
    rw [dsum, dsum_none hi k (by omega), hi k (by omega)]
    simp
theorem floor_mono {a b L : Int} (hL : 0 < L) (h : a ≤ b) : a / L ≤ b / L := Int.ediv_le_ediv hL h
theorem ceilD_mono {a b L : Int} (hL : 0 < L) (h : a ≤ b) : ceilD a L ≤ ceilD b L := by
  unfold ceilD
  have := Int.ediv_le_ediv hL (show -b ≤ -a by omega)
  omega
theorem ceil_floor {a L : Int} (hL : 0 < L) : a / L ≤ ceilD a L ∧ ceilD a L ≤ a / L + 1 := by
  have h1 := ceil_le hL (Int.le_refl (ceilD a L))
  have h2 := floor_ge hL (Int.le_refl (a / L))
  constructor
  · refine Int.ediv_le_of_le_mul hL ?_
    exact h1
  · refine ceilD_le hL ?_
    have := Int.lt_ediv_add_one_mul_self a hL
    omega
theorem neg_floor (a L : Int) : (-a) / L = -ceilD a L := by unfold ceilD; omega
theorem neg_ceil (a L : Int) : ceilD (-a) L = -(a / L) := by unfold ceilD; rw [Int.neg_neg]
theorem defl_zero {L : Int} {js : List Int} {ks : List Rg} (hj : ∀ i, i < js.length → 0 ≤ js.getD i 0) : defl L js ks 0 = (0, 0) := by
  unfold defl
  rw [dsum_none (fun i hi => infl_zero (hj i hi)) _ (Nat.le_refl _)]
  simp [ceilD]
theorem defl_end {L : Int} {js : List Int} {ks : List Rg} (hj : ∀ i, i < js.length → js.getD i 0 ≤ L) : defl L js ks L = (0, 0) := by
  unfold defl
  rw [dsum_none (fun i hi => infl_end (hj i hi)) _ (Nat.le_refl _)]
  simp [ceilD]
theorem defl_in {L p : Int} {js : List Int} {ks ms : List Rg} (hL : 0 < L) (hi : ∀ i, i < js.length → 0 ≤ infl L (js.getD i 0) p) (hk : ∀ i, i < js.length → (ks.getD i default).1 ≤ (ms.getD i default).1 ∧ (ms.getD i default).2 ≤ (ks.getD i default).2) : (defl L js ks p).1 ≤ (defl L js ms p).1 ∧ (defl L js ms p).2 ≤ (defl L js ks p).2 := by
  have h := dsum_mono hi hk _ (Nat.le_refl _)
  exact ⟨floor_mono hL h.1, ceilD_mono hL h.2⟩
theorem defl_neg {L p : Int} {js : List Int} {ks ms : List Rg} (hk : ∀ i, i < js.length → ms.getD i default = (-(ks.getD i default).2, -(ks.getD i default).1)) : defl L js ms p = (-(defl L js ks p).2, -(defl L js ks p).1) := by
  unfold defl
  rw [dsum_neg hk _ (Nat.le_refl _)]
  dsimp only
  rw [neg_floor, neg_ceil]
theorem defl_one {L p : Int} {js : List Int} {ms : List Rg} (hL : 0 < L) (hk : ∀ i, i < js.length → (ms.getD i default).1 = (ms.getD i default).2) : (defl L js ms p).1 ≤ (defl L js ms p).2 ∧ (defl L js ms p).2 ≤ (defl L js ms p).1 + 1 := by
  unfold defl
  dsimp only
  rw [← dsum_one hk _ (Nat.le_refl _)]
  exact ceil_floor hL
theorem dsum_big {L p : Int} {js : List Int} {ks : List Rg} {n : Nat} (h1 : 1 ≤ L) (h2 : L ≤ 10000) (hp : 0 ≤ p ∧ p ≤ L) (hj : ∀ i, i < n → 0 ≤ js.getD i 0 ∧ js.getD i 0 ≤ L) (hk : ∀ i, i < n → -100000 ≤ (ks.getD i default).1 ∧ (ks.getD i default).1 ≤ (ks.getD i default).2 ∧ (ks.getD i default).2 ≤ 100000) : ∀ k, k ≤ n → -(1000000000 * (k : Int)) * L ≤ (dsum L p js ks k).1 ∧ (dsum L p js ks k).1 ≤ (dsum L p js ks k).2 ∧ (dsum L p js ks k).2 ≤ 1000000000 * (k : Int) * L
  | 0, _ => by simp [dsum]
  | k + 1, h => by
    have ih := dsum_big h1 h2 hp hj hk k (by omega)
    have hi := infl_nn (hj k (by omega)) hp
    have hk1 := hk k (by omega)
    have hpL : p * L ≤ 10000 * L := Int.mul_le_mul_of_nonneg_right (by omega) (by omega)
    rw [dsum]
    dsimp only
    generalize (dsum L p js ks k).1 = d1 at *
    generalize (dsum L p js ks k).2 = d2 at *
    generalize (ks.getD k default).1 = k1 at *
    generalize (ks.getD k default).2 = k2 at *
    generalize infl L (js.getD k 0) p = f at *
    have a1 : -100000 * f ≤ k1 * f := Int.mul_le_mul_of_nonneg_right (by omega) hi.1
    have a2 : k1 * f ≤ k2 * f := Int.mul_le_mul_of_nonneg_right (by omega) hi.1
    have a3 : k2 * f ≤ 100000 * f := Int.mul_le_mul_of_nonneg_right (by omega) hi.1
    have e1 : 1000000000 * ((k + 1 : Nat) : Int) * L = 1000000000 * (k : Int) * L + 1000000000 * L := by
      rw [Int.natCast_succ]; grind
    rw [Int.neg_mul] at ih ⊢
    rw [e1]
    omega
theorem defl_big {L p : Int} {js : List Int} {ks : List Rg} (h1 : 1 ≤ L) (h2 : L ≤ 10000) (h4 : js.length ≤ 4) (hp : 0 ≤ p ∧ p ≤ L) (hj : ∀ i, i < js.length → 0 ≤ js.getD i 0 ∧ js.getD i 0 ≤ L) (hk : ∀ i, i < js.length → -100000 ≤ (ks.getD i default).1 ∧ (ks.getD i default).1 ≤ (ks.getD i default).2 ∧ (ks.getD i default).2 ≤ 100000) : -1000000000000 ≤ (defl L js ks p).1 ∧ (defl L js ks p).1 ≤ (defl L js ks p).2 ∧ (defl L js ks p).2 ≤ 1000000000000 := by
  have h := dsum_big h1 h2 hp hj hk _ (Nat.le_refl _)
  unfold defl
  dsimp only
  have hL : 0 < L := by omega
  have b1 : 1000000000 * (js.length : Int) * L ≤ 4000000000 * L := Int.mul_le_mul_of_nonneg_right (by omega) (by omega)
  refine ⟨?_, ?_, ?_⟩
  · refine (Int.le_ediv_iff_mul_le hL).2 ?_
    rw [Int.neg_mul] at h
    omega
  · exact Int.le_trans (ceil_floor hL).1 (ceilD_mono hL h.2.1)
  · exact ceilD_le hL (by omega)

theorem strokesE_of {n : Nat} {am : List Int} {li : Int} {l : List Sk} (h : PlOK n am l) (hf : fullB li l n = false) : strokesE n am li l = 0 := by
  rw [strokesE_few (by have := h.1; omega), firstAt_ok (fun i _ hi => by
    have := h.2 i (by omega)
    show strokeE n am (l.getD i default) = 0
    rw [strokeE_if, if_pos (by omega), if_pos this.2.2]), hf]
  rfl
theorem strokesE_full {n : Nat} {am : List Int} {li : Int} {l : List Sk} (h : strokesE n am li l = 0) : fullB li l n = false := by
  have h1 := strokesE_ok h
  rw [strokesE_few (by have := h1.1; omega), firstAt_ok (fun i _ hi => by
    have := h1.2 i (by omega)
    show strokeE n am (l.getD i default) = 0
    rw [strokeE_if, if_pos (by omega), if_pos this.2.2])] at h
  rw [if_neg (by simp)] at h
  exact errIf_zero (by decide) h
theorem PlOK_perm {n : Nat} {am : List Int} {a b : List Sk} (h : a.Perm b) (ha : PlOK n am a) : PlOK n am b := by
  refine ⟨by rw [← h.length_eq]; exact ha.1, fun k hk => ?_⟩
  have hm : b.getD k default ∈ b := by
    have : b.getD k default = b[k] := by simp [hk]
    rw [this]; exact List.getElem_mem hk
  obtain ⟨i, hi, he⟩ := List.mem_iff_getElem.1 (h.mem_iff.2 hm)
  have := ha.2 i hi
  rw [show a.getD i default = b.getD k default by simp [hi, he]] at this
  exact this
theorem strokesE_perm {n : Nat} {am : List Int} {li : Int} {a b : List Sk} (h : a.Perm b) (ha : strokesE n am li a = 0) : strokesE n am li b = 0 :=
  strokesE_of (PlOK_perm h (strokesE_ok ha)) (by rw [← fullB_perm li h n]; exact strokesE_full ha)
theorem aftK_perm {ga sp : Int} {a b : List Sk} (h : a.Perm b) (ks : List Rg) (n : Nat) : aftK ga sp a ks n = aftK ga sp b ks n := by
  unfold aftK kinkL
  refine List.map_congr_left fun j _ => ?_
  unfold aftF
  rw [sumK_perm _ h]
theorem aftE_perm {ga sp : Int} {a b : List Sk} (h : a.Perm b) (ks : List Rg) (n : Nat) : aftE ga sp a ks n = aftE ga sp b ks n := by
  have : aftAt ga sp a ks n = aftAt ga sp b ks n := by
    funext i
    unfold aftAt
    rw [aftK_perm h]
  unfold aftE
  rw [this]
theorem kinkE_two (x : Rg) : kinkE x = 0 ∨ kinkE x = 2 := by
  rw [show kinkE x = _ from rangeE_pair _ _ _ _]
  split
  · split
    · exact .inl rfl
    · exact .inr rfl
  · exact .inr rfl
theorem firstAt_two {E : Nat → Int} (h : ∀ i, E i = 0 ∨ E i = 2) : ∀ {n k : Nat}, (firstAt E n k).2 = 0 ∨ (firstAt E n k).2 = 2
  | 0, k => .inl rfl
  | n + 1, k => by
    rw [firstAt]
    rcases h k with h1 | h1
    · rw [h1, if_neg (by decide)]; exact firstAt_two h
    · rw [h1, if_pos (by decide)]; exact .inr rfl
theorem aftE_two (ga sp : Int) (l : List Sk) (ks : List Rg) (n : Nat) : aftE ga sp l ks n = 0 ∨ aftE ga sp l ks n = 2 := firstAt_two (fun _ => kinkE_two _)
def opp (x : Sk) : Sk := ⟨x.j, x.a, !x.u⟩
theorem bentV_opp (ga sp : Int) (x : Sk) : bentV ga sp (opp x) = -bentV ga sp x := by
  unfold bentV opp
  dsimp only
  cases x.u
  · simp
  · simp
theorem sumK_both (ga sp : Int) (x : Sk) (j : Int) : sumK (bentV ga sp) [x, opp x] j 2 = 0 := by
  have h := sumK_sumG (bentV ga sp) [x, opp x] j
  rw [show [x, opp x].length = 2 from rfl] at h
  rw [h]
  simp only [sumG]
  rw [bentV_opp, show (opp x).j = x.j from rfl]
  split <;> omega
theorem aftK_both (ga sp : Int) (x : Sk) {ks : List Rg} {n : Nat} (hn : ks.length = n) : aftK ga sp [x, opp x] ks n = ks := by
  apply List.ext_getElem?
  intro i
  unfold aftK kinkL aftF
  rw [show [x, opp x].length = 2 from rfl]
  by_cases hi : i < n
  · rw [List.getElem?_map, List.getElem?_range hi]
    simp only [Option.map_some, sumK_both, Int.add_zero]
    simp [show i < ks.length by omega]
  · rw [List.getElem?_eq_none (by simp; omega), List.getElem?_eq_none (by omega)]
theorem aftE_both (ga sp L : Int) (x : Sk) {js : List Int} {ks : List Rg} {n : Nat} (hs : ShOK L js ks) (hn : ks.length = n) : aftE ga sp [x, opp x] ks n = 0 := by
  have h : ∀ i, 0 ≤ i → i < 0 + n → aftAt ga sp [x, opp x] ks n i = 0 := fun i _ hi => by
    unfold aftAt
    rw [aftK_both ga sp x hn, show kinkE (ks.getD i default) = _ from rangeE_pair _ _ _ _]
    have := hs.kink i (by have := hs.same; omega)
    rw [if_pos (by omega), if_pos (by omega)]
  unfold aftE
  rw [firstAt_ok h]
theorem aftE_none (ga sp L : Int) {js : List Int} {ks : List Rg} {n : Nat} (hs : ShOK L js ks) (hn : ks.length = n) : aftE ga sp [] ks n = 0 ∧ aftK ga sp [] ks n = ks := by
  have hk : aftK ga sp [] ks n = ks := by
    apply List.ext_getElem?
    intro i
    unfold aftK kinkL aftF
    by_cases hi : i < n
    · rw [List.getElem?_map, List.getElem?_range hi]
      simp [sumK, show i < ks.length by omega]
    · rw [List.getElem?_eq_none (by simp; omega), List.getElem?_eq_none (by omega)]
  refine ⟨?_, hk⟩
  have h : ∀ i, 0 ≤ i → i < 0 + n → aftAt ga sp [] ks n i = 0 := fun i _ hi => by
    unfold aftAt
    rw [hk, show kinkE (ks.getD i default) = _ from rangeE_pair _ _ _ _]
    have := hs.kink i (by have := hs.same; omega)
    rw [if_pos (by omega), if_pos (by omega)]
  unfold aftE
  rw [firstAt_ok h]
theorem proofE_perm {ga sp t L : Int} {js : List Int} {ks : List Rg} {a b : List Sk} (h : a.Perm b) : proofE ga sp t L js ks a = proofE ga sp t L js ks b := by
  unfold proofE
  rw [aftE_perm h, aftK_perm h]
theorem optL_mem {am : List Int} {n : Nat} {x : Sk} (h : StOK n am x) : x ∈ optL am n := by
  obtain ⟨h1, h2, h3⟩ := h
  unfold optL optO
  rw [List.mem_flatMap]
  refine ⟨x.j.toNat, List.mem_range.2 (by omega), ?_⟩
  unfold optI
  rw [List.mem_flatMap]
  unfold hasB at h3
  rw [List.any_eq_true] at h3
  obtain ⟨a, ha, he⟩ := h3
  have he : x.a = a := by simpa using he
  refine ⟨a, by rw [List.take_length]; exact ha, ?_⟩
  obtain ⟨j, a2, u⟩ := x
  dsimp only at h1 h2 he ⊢
  subst he
  cases u <;> simp [show ((j.toNat : Nat) : Int) = j by omega]

end Go.Proofs.YtjdilmmpdlcimaaGreat
