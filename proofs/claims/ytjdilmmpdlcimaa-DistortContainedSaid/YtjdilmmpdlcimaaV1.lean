/- What DistortContained asks; owned rows and the blocks of copies. -/
import Derived.Test.YtjdilmmpdlcimaaJ1
import Derived.Test.YtjdilmmpdlcimaaEA
import Derived.Test.YtjdilmmpdlcimaaR9
import Derived.Test.YtjdilmmpdlcimaaFA
import Derived.Test.YtjdilmmpdlcimaaE8

namespace Go.Proofs.Ytjdilmmpdlcimaa
open Go.RowKit Go.Shelf Go.Mem Go.RegInv
attribute [local go_sem] RelUpon_value RelUpon_skip RelUpon_enter BigFrame.eval_const BigFrame.eval_global BigFrame.eval_func


theorem checkS_of {L : Int} {js : List Int} {ks : List Rg} (h : ShOK L js ks) : (checkS L js ks).2 = 0 := by
  have h4 := h.four
  have hh : headK L js.length ks.length = 0 := by
    unfold headK
    rw [rangeE_one, if_pos ⟨h.l1, h.l2⟩, firstE_cons0, errIf_f _ _ (by simp; omega), firstE_cons0, errIf_f _ _ (by simp [h.same]), firstE_one]
  unfold checkS
  rw [if_neg (by simp [hh]), firstAt_ok (fun i _ hi => ?_)]
  have ha := h.at' i (by omega)
  have hk := h.kink i (by omega)
  unfold jointK
  rw [rangeE_one, if_pos ha, firstE_cons0, errIf_f _ _ (show (if i = 0 then false else decide (js.getD i 0 ≤ js.getD (i - 1) 0)) = false from by
    by_cases h0 : i = 0
    · rw [if_pos h0]
    · rw [if_neg h0]
      have := h.up (i - 1) (by omega)
      rw [show i - 1 + 1 = i by omega] at this
      exact decide_eq_false (by omega)), firstE_cons0, firstE_one, endsE_if, if_pos (by omega), if_pos (by omega), if_neg (by omega)]
def mapU (f : Nat → Rg) (ks : List Rg) (n k : Nat) : List Rg := (List.range n).map fun i => if i < k then f i else ks.getD i default
theorem mapU_len (f : Nat → Rg) (ks : List Rg) (n k : Nat) : (mapU f ks n k).length = n := by simp [mapU]
theorem mapU_at {f : Nat → Rg} {ks : List Rg} {n k i : Nat} (h : i < n) : (mapU f ks n k)[i]? = some (if i < k then f i else ks.getD i default) := by simp [mapU, h]
theorem mapU_zero {f : Nat → Rg} {ks : List Rg} {n : Nat} (h : ks.length = n) : mapU f ks n 0 = ks := by
  apply List.ext_getElem?
  intro i
  by_cases hi : i < n
  · rw [mapU_at hi]
    simp [show i < ks.length by omega]
  · rw [List.getElem?_eq_none (by rw [mapU_len]; omega), List.getElem?_eq_none (by omega)]
theorem mapU_next {f : Nat → Rg} {ks : List Rg} {n k : Nat} (hk : k < n) : mapU f ks n (k + 1) = (mapU f ks n k).set k (f k) := by
  apply List.ext_getElem?
  intro i
  rw [List.getElem?_set]
  by_cases hi : i < n
  · rw [mapU_at hi, mapU_at hi]
    by_cases he : k = i
    · subst he
      rw [if_pos rfl, if_pos (show k < k + 1 by omega), if_pos (show k < (mapU f ks n k).length by rw [mapU_len]; exact hi)]
    · rw [if_neg he]
      by_cases h : i < k
      · rw [if_pos (by omega), if_pos h]
      · rw [if_neg (by omega), if_neg h]
  · rw [List.getElem?_eq_none (by rw [mapU_len]; omega), if_neg (by omega), List.getElem?_eq_none (by rw [mapU_len]; omega)]
theorem mapU_get {f : Nat → Rg} {ks : List Rg} {n i : Nat} (h : i < n) : (mapU f ks n n).getD i default = f i := by
  have := mapU_at (f := f) (ks := ks) (k := n) h
  rw [if_pos h] at this
  simp [this]
/-- The kink that is drawn from a range, and the opposite range. -/
def oneN (ks : List Rg) (ps : List Int) (i : Nat) : Int := if i < ps.length then (ks.getD i default).1 + ps.getD i 0 % ((ks.getD i default).2 - (ks.getD i default).1 + 1) else (ks.getD i default).1
def oneF (ks : List Rg) (ps : List Int) (i : Nat) : Rg := (oneN ks ps i, oneN ks ps i)
def negF (ks : List Rg) (i : Nat) : Rg := (-(ks.getD i default).2, -(ks.getD i default).1)
theorem oneN_in {ks : List Rg} {ps : List Int} {i : Nat} (h : (ks.getD i default).1 ≤ (ks.getD i default).2) : (ks.getD i default).1 ≤ oneN ks ps i ∧ oneN ks ps i ≤ (ks.getD i default).2 := by
  unfold oneN
  by_cases hi : i < ps.length
  · rw [if_pos hi]
    have h1 := Int.emod_nonneg (ps.getD i 0) (show (ks.getD i default).2 - (ks.getD i default).1 + 1 ≠ 0 by omega)
    have h2 := Int.emod_lt_of_pos (ps.getD i 0) (show 0 < (ks.getD i default).2 - (ks.getD i default).1 + 1 by omega)
    omega
  · rw [if_neg hi]
    omega
theorem sh_ones {L : Int} {js : List Int} {ks : List Rg} {n : Nat} (ps : List Int) (h : ShOK L js ks) (hn : js.length = n) : ShOK L js (mapU (oneF ks ps) ks n n) := by
  refine ⟨h.l1, h.l2, h.four, by rw [mapU_len, hn], h.at', h.up, fun i hi => ?_⟩
  rw [mapU_get (by omega)]
  have hk := h.kink i hi
  have := oneN_in (ps := ps) hk.2.1
  unfold oneF
  dsimp only
  omega
theorem sh_negs {L : Int} {js : List Int} {ks : List Rg} {n : Nat} (h : ShOK L js ks) (hn : js.length = n) : ShOK L js (mapU (negF ks) ks n n) := by
  refine ⟨h.l1, h.l2, h.four, by rw [mapU_len, hn], h.at', h.up, fun i hi => ?_⟩
  rw [mapU_get (by omega)]
  have hk := h.kink i hi
  unfold negF
  dsimp only
  omega
theorem sh_one {L a : Int} {r : Rg} (h1 : 1 ≤ L ∧ L ≤ 10000) (ha : 1 ≤ a ∧ a ≤ L - 1) (hr : -100000 ≤ r.1 ∧ r.1 ≤ r.2 ∧ r.2 ≤ 100000) : ShOK L [a] [r] := by
  refine ⟨h1.1, h1.2, by simp, rfl, fun i hi => ?_, fun i hi => ?_, fun i hi => ?_⟩
  · obtain rfl : i = 0 := by simpa using hi
    exact ha
  · simp at hi
  · obtain rfl : i = 0 := by simpa using hi
    exact hr
theorem deflE_of {L p : Int} {js : List Int} {ks : List Rg} (h : ShOK L js ks) (hp : 0 ≤ p ∧ p ≤ L) : deflE L js ks p = 0 := by
  unfold deflE
  rw [checkS_of h, firstE_cons0, firstE_one, rangeE_one, if_pos hp]
theorem deflV_of {L p : Int} {js : List Int} {ks : List Rg} (h : ShOK L js ks) (hp : 0 ≤ p ∧ p ≤ L) : deflV L js ks p = defl L js ks p := by
  unfold deflV
  rw [if_pos (deflE_of h hp)]
theorem defl_swap (L a b : Int) (r : Rg) : defl L [a] [r] b = defl L [b] [r] a := by
  unfold defl
  show _ = ((dsum L a [b] [r] 1).1 / L, ceilD (dsum L a [b] [r] 1).2 L)
  show ((dsum L b [a] [r] 1).1 / L, ceilD (dsum L b [a] [r] 1).2 L) = _
  rw [show dsum L b [a] [r] 1 = dsum L a [b] [r] 1 from by
    simp only [dsum, List.getD_cons_zero]
    rw [infl_symm L a b]]
/-- All that DistortContained asks at a position. -/
theorem contained_all {L p : Int} {js : List Int} {ks : List Rg} {n : Nat} (ps : List Int) (h : ShOK L js ks) (hn : js.length = n) (hp : 0 ≤ p ∧ p ≤ L) :
    (defl L js ks p).1 ≤ (defl L js (mapU (oneF ks ps) ks n n) p).1 ∧ (defl L js (mapU (oneF ks ps) ks n n) p).2 ≤ (defl L js ks p).2 ∧
    (defl L js (mapU (oneF ks ps) ks n n) p).1 ≤ (defl L js (mapU (oneF ks ps) ks n n) p).2 ∧ (defl L js (mapU (oneF ks ps) ks n n) p).2 ≤ (defl L js (mapU (oneF ks ps) ks n n) p).1 + 1 ∧
    (-1000000000000 ≤ (defl L js ks p).1 ∧ (defl L js ks p).1 ≤ (defl L js ks p).2 ∧ (defl L js ks p).2 ≤ 1000000000000) ∧
    defl L js (mapU (negF ks) ks n n) p = (-(defl L js ks p).2, -(defl L js ks p).1) := by
  have hL : 0 < L := by have := h.l1; omega
  have hi : ∀ i, i < js.length → 0 ≤ infl L (js.getD i 0) p := fun i hi => (infl_bd h.l2 (by have := h.at' i hi; omega) hp).1
  have a := defl_in (p := p) hL hi (ks := ks) (ms := mapU (oneF ks ps) ks n n) (fun i hi => by
    rw [mapU_get (by omega)]
    exact oneN_in (h.kink i hi).2.1)
  have b := defl_one (p := p) (js := js) (ms := mapU (oneF ks ps) ks n n) hL (fun i hi => by rw [mapU_get (by omega)]; rfl)
  have c := defl_big (p := p) (js := js) (ks := ks) h.l1 h.l2 h.four hp (fun i hi => by have := h.at' i hi; omega) h.kink
  exact ⟨a.1, a.2, b.1, b.2, c, defl_neg (fun i hi => by rw [mapU_get (by omega)]; rfl)⟩

theorem own_in {W : World} {base n k c : Nat} {e : TypeId} {p : Addr} {xs : List Value} (h : W.ownsRow base e k (.slice (some p) n c) n xs) : base ≤ p.block ∧ p.block < W.heap.size := by
  rcases h.2 with ⟨hv, rfl⟩ | ⟨g, cap, cu, hv, hg, hh, r⟩
  · cases (Value.slice.inj hv).1
  · have e1 : p = ⟨g, 0, none⟩ := by simpa using (Value.slice.inj hv).1
    rw [e1]
    exact ⟨hg, Blk.lt hh⟩
theorem blkW_own {W' : World} {base T k n cj ck : Nat} {L : Int} {J K : Option Addr} {xs : List Value} (h : W'.ownsRow base T k (.slice K n ck) n xs) : ∀ q, blkW (.agg #[.int .i64 L, .slice J n cj, .slice K n ck]) = some q → base ≤ q ∧ q < W'.heap.size := by
  intro q hq
  cases K with
  | none => cases hq
  | some p =>
    obtain rfl : p.block = q := Option.some.inj hq
    exact own_in h

theorem set_rows {W : World} {base n c g : Nat} {zs : List Rg} (h : W.ownsRow base 33 2 (.slice (some ⟨g, 0, none⟩) n c) n (zs.flatMap Rg.enc)) {k : Nat} (hk : k < zs.length) (a b : Int) : ((W.setCell ⟨g, k * 2, none⟩ (.int .i64 a)).setCell ⟨g, k * 2 + 1, none⟩ (.int .i64 b)).ownsRow base 33 2 (.slice (some ⟨g, 0, none⟩) n c) n ((zs.set k (a, b)).flatMap Rg.enc) := by
  rw [← flat_setRg _ _ _ _ hk]
  exact own_setCell (own_setCell h _ _) _ _
def CopI (js : List Int) (n : Nat) (v : Value) (W : World) : Prop := ∃ A c, v = .slice A n c ∧ RowsAt 1 I1 W A js ∧ (A = none → c = 0)
theorem CopI.ext {js : List Int} {n : Nat} {v : Value} {W W' : World} (h : CopI js n v W) (e : Ext W W') : CopI js n v W' := by
  obtain ⟨A, c, h1, h2, h3⟩ := h
  exact ⟨A, c, h1, h2.ext e, h3⟩
def CopR (ks : List Rg) (n : Nat) (v : Value) (W : World) : Prop := ∃ A c, v = .slice A n c ∧ RowsAt 2 Rg.enc W A ks ∧ (A = none → c = 0)
theorem CopR.ext {ks : List Rg} {n : Nat} {v : Value} {W W' : World} (h : CopR ks n v W) (e : Ext W W') : CopR ks n v W' := by
  obtain ⟨A, c, h1, h2, h3⟩ := h
  exact ⟨A, c, h1, h2.ext e, h3⟩
theorem one_int {W : World} {q : Nat} {T : TypeId} {a : Int} (h : Blk W q T #[.int .i64 a]) : RowsAt 1 I1 W (some ⟨q, 0, none⟩) [a] := by
  refine ⟨by simp, fun i y hy => ?_⟩
  rcases (show i = 0 ∨ 1 ≤ i by omega) with rfl | hi
  · obtain rfl := Option.some.inj hy
    refine ⟨_, 0, rfl, h.lt, fun j u hu => ?_⟩
    rw [h.cell]
    match j, hu with
    | 0, hu => simpa [I1] using hu
    | j + 1, hu => simp [I1] at hu
  · rw [List.getElem?_eq_none (by simp; omega)] at hy; cases hy
theorem one_rg {W : World} {q : Nat} {T : TypeId} {a b : Int} (h : Blk W q T #[.int .i64 a, .int .i64 b]) : RowsAt 2 Rg.enc W (some ⟨q, 0, none⟩) [(a, b)] := by
  refine ⟨by simp, fun i y hy => ?_⟩
  rcases (show i = 0 ∨ 1 ≤ i by omega) with rfl | hi
  · obtain rfl := Option.some.inj hy
    refine ⟨_, 0, rfl, h.lt, fun j u hu => ?_⟩
    rw [h.cell]
    match j, hu with
    | 0, hu => simpa [Rg.enc] using hu
    | 1, hu => simpa [Rg.enc] using hu
    | j + 2, hu => simp [Rg.enc] at hu
  · rw [List.getElem?_eq_none (by simp; omega)] at hy; cases hy

end Go.Proofs.Ytjdilmmpdlcimaa
