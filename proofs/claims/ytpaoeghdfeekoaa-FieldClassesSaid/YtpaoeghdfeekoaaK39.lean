/- FieldEvery: what its loop holds. -/
import Derived.Test.YtpaoeghdfeekoaaK38
namespace Go.Proofs.Ytpaoeghdfeekoaa
open Go.RowKit Go.Shelf Go.Mem Go.RegInv
attribute [local go_sem] RelUpon_value RelUpon_skip RelUpon_enter BigFrame.eval_const BigFrame.eval_global BigFrame.eval_func

/-- A block that holds the ladder, its first k conductances given. -/
def MidSh (cu : Array Value) (ls : List Sh) (gs : List Int) (n k : Nat) : Prop := n * 3 ≤ cu.size ∧ ∀ (i : Nat) (s : Sh) (g : Int), ls[i]? = some s → gs[i]? = some g → cu[i * 3]? = some (Value.int .i64 (if i < k then g else s.g)) ∧ cu[i * 3 + 1]? = some (Value.int .i64 s.c) ∧ cu[i * 3 + 2]? = some (Value.int .i64 s.h)
theorem own_blk3 {W : World} {base n : Nat} {v : Value} {ls : List Sh} {gs : List Int} (hl : ls.length = n) (h1 : 1 ≤ n) (h6 : n ≤ 6) (h : W.ownsRow base 92 3 v n (ls.flatMap Sh.enc)) :
    ∃ (g c : Nat) (cu : Array Value), v = .slice (some ⟨g, 0, none⟩) n c ∧ base ≤ g ∧ Blk W g 92 cu ∧ MidSh cu ls gs n 0 := by
  rcases h.2 with ⟨rfl, h2⟩ | ⟨g, cap, cu, rfl, hb, hh, hc, _, hs, ht⟩
  · omega
  · have hla := lad_own hl (by omega) h
    refine ⟨g, cap, cu, rfl, hb, hh, ?_, fun i s x hi _ => ?_⟩
    · have : ∀ l : List Sh, (l.flatMap Sh.enc).length = l.length * 3 := by
        intro l; induction l with
        | nil => rfl
        | cons s l ih => rw [List.flatMap_cons, List.length_append, ih]; simp [Sh.enc]; omega
      have h2 := congrArg List.length ht
      rw [List.length_take, this, hl] at h2
      simp at h2
      omega
    · obtain ⟨b, o, e, _, hc'⟩ := hla.1.2 i s hi
      obtain ⟨rfl, rfl⟩ : g = b ∧ 0 = o := by simpa using e
      have a0 := hc' 0 _ rfl
      have a1 := hc' 1 _ rfl
      have a2 := hc' 2 _ rfl
      rw [Blk.cell hh] at a0 a1 a2
      rw [if_neg (by omega)]
      refine ⟨?_, ?_, ?_⟩
      · rw [show i * 3 = 0 + i * 3 + 0 by omega]; exact a0
      · rw [show i * 3 + 1 = 0 + i * 3 + 1 by omega]; exact a1
      · rw [show i * 3 + 2 = 0 + i * 3 + 2 by omega]; exact a2
theorem MidSh.step {cu : Array Value} {ls : List Sh} {gs : List Int} {n k : Nat} (h : MidSh cu ls gs n k) (hk : k < n) {g : Int} (hg : gs[k]? = some g) : MidSh (cu.setIfInBounds (k * 3) (.int .i64 g)) ls gs n (k + 1) := by
  refine ⟨by simpa using h.1, fun i s x hi hx => ?_⟩
  obtain ⟨a0, a1, a2⟩ := h.2 i s x hi hx
  have hs := h.1
  refine ⟨?_, by rw [Array.getElem?_setIfInBounds_ne (by omega)]; exact a1, by rw [Array.getElem?_setIfInBounds_ne (by omega)]; exact a2⟩
  by_cases hik : k = i
  · subst hik
    rw [Array.getElem?_setIfInBounds_self_of_lt (by omega), if_pos (by omega)]
    obtain rfl : g = x := by rw [hg] at hx; simpa using hx
    rfl
  · rw [Array.getElem?_setIfInBounds_ne (by omega), a0]
    by_cases h2 : i < k
    · rw [if_pos h2, if_pos (by omega)]
    · rw [if_neg h2, if_neg (by omega)]
theorem MidSh.rows {W : World} {b : Nat} {cu : Array Value} {ls xs : List Sh} {gs : List Int} {n k : Nat} (hb : Blk W b 92 cu) (h : MidSh cu ls gs n k) (hx : xs.length = n) (h6 : n ≤ 6)
    (hxs : ∀ (i : Nat) (x : Sh), xs[i]? = some x → ∃ (s : Sh) (g : Int), ls[i]? = some s ∧ gs[i]? = some g ∧ x = { s with g := if i < k then g else s.g }) : LadAt W (some ⟨b, 0, none⟩) xs := by
  refine ⟨⟨by omega, fun i x hi => ⟨b, 0, rfl, hb.lt, fun j u hu => ?_⟩⟩, fun b' o e => ?_⟩
  · obtain ⟨s, g, h1, h2, rfl⟩ := hxs i x hi
    obtain ⟨a0, a1, a2⟩ := h.2 i s g h1 h2
    rw [hb.cell]
    match j, hu with
    | 0, hu => obtain rfl := Option.some.inj hu; rw [show 0 + i * 3 + 0 = i * 3 by omega]; exact a0
    | 1, hu => obtain rfl := Option.some.inj hu; rw [show 0 + i * 3 + 1 = i * 3 + 1 by omega]; exact a1
    | 2, hu => obtain rfl := Option.some.inj hu; rw [show 0 + i * 3 + 2 = i * 3 + 2 by omega]; exact a2
    | j + 3, hu => simp [Sh.enc] at hu
  · obtain ⟨rfl, rfl⟩ : b = b' ∧ 0 = o := by simpa using e
    exact ⟨cu, hb⟩
theorem mid_pick {W : World} {b : Nat} {cu : Array Value} {ls : List Sh} {gs : List Int} {n : Nat} (hb : Blk W b 92 cu) (h : MidSh cu ls gs n n) (hl : ls.length = n) (hg : gs.length = n) (h6 : n ≤ 6) : LadAt W (some ⟨b, 0, none⟩) (pickL ls gs) :=
  h.rows hb (pick_len hl hg) h6 fun i x hi => by
    have hin : i < n := by have := (List.getElem?_eq_some_iff.1 hi).1; rwa [pick_len hl hg] at this
    have h1 : ls[i]? = some ls[i] := List.getElem?_eq_getElem (by omega)
    have h2 : gs[i]? = some gs[i] := List.getElem?_eq_getElem (by omega)
    rw [pick_at h1 h2] at hi
    obtain rfl := Option.some.inj hi
    exact ⟨_, _, h1, h2, by rw [if_pos hin]⟩
theorem mid_lad {W : World} {b : Nat} {cu : Array Value} {ls : List Sh} {gs : List Int} {n : Nat} (hb : Blk W b 92 cu) (h : MidSh cu ls gs n 0) (hl : ls.length = n) (hg : gs.length = n) (h6 : n ≤ 6) : LadAt W (some ⟨b, 0, none⟩) ls :=
  h.rows hb hl h6 fun i x hi => by
    have hin : i < n := by have := (List.getElem?_eq_some_iff.1 hi).1; rwa [hl] at this
    have h2 : gs[i]? = some gs[i] := List.getElem?_eq_getElem (by omega)
    exact ⟨x, _, hi, h2, by rw [if_neg (by omega)]⟩
/-- The rows of a class of one ladder. -/
def oneRows (gs : List Int) : List Value := (gs.map fun g => (⟨g, g⟩ : G)).flatMap G.enc
theorem oneRows_snoc (gs : List Int) (g : Int) : oneRows (gs ++ [g]) = oneRows gs ++ [.int .i64 g, .int .i64 g] := by simp [oneRows, G.enc]
theorem take_snoc {gs : List Int} {k : Nat} {g : Int} (h : gs[k]? = some g) : gs.take (k + 1) = gs.take k ++ [g] := by
  obtain ⟨hk, rfl⟩ := List.getElem?_eq_some_iff.1 h
  rw [List.take_succ_eq_append_getElem hk]

theorem append_pair {W : World} {base k c : Nat} {R : Option Addr} {xs : List Value} (hown : W.ownsRow base 132 2 (.slice R k c) k xs) (hk : k ≤ 100) (hbase : base ≤ W.heap.size) {b : Nat} {g : Int} (hb : Blk W b 132 #[.int .i64 g, .int .i64 g])
    {o : Oper} {ops : Array Oper} {rest : List Oper} {a : Act} {Q : Exit → Act → World → Prop} (hg : o.guard = none) (p q : Operand) (hop : o.op = .call { callee := .builtin .append, args := #[p, q], argTypes := #[99, 99] }) (_hty : o.type = 99) (he6 : a.eval p = .slice R k c) (he8 : a.eval q = .slice (some ⟨b, 0, none⟩) 1 1)
    (hK : ∀ R' c' w', w'.ownsRow base 132 2 (.slice R' (k + 1) c') (k + 1) (xs ++ [.int .i64 g, .int .i64 g]) → (∀ b' t' cs, Blk W b' t' cs → t' ≠ 132 → Blk w' b' t' cs) → (∀ w0, Ext w0 W → w0.heap.size ≤ base → Ext w0 w') → W.heap.size ≤ w'.heap.size → wpList Try.prog ops Q rest (a.put o.dst (.slice R' (k + 1) c')) w') : wpList Try.prog ops Q (o :: rest) a W := by
  obtain ⟨i0, hi, hz0, hz1, hz2⟩ := info_parts info132
  refine wpList_append_own _ hg _ _ 99 hop base 132 i0 (.agg #[.int .i64 0, .int .i64 0]) 2 16 Try.underlying99 hi hz0 hz1 hz2 rfl (by decide) _ _ _ he6 hown ⟨b, 0, none⟩ 1 1 [.int .i64 g, .int .i64 g] he8 rfl (fun j u hu => ?_) (by simp [Value.oneCell']) (by unfold maxLen; omega) (by omega) hbase ?_
  · have := hb.cell j
    rw [WideShapes.add_plain, show 0 + j = j by omega, this]
    match j, hu with
    | 0, hu => exact hu
    | 1, hu => exact hu
    | j + 2, hu => simp at hu
  · intro v' w1 hown' hgrow hx
    obtain ⟨A', c', hv'⟩ := own_slice hown'
    subst hv'
    exact hK _ _ _ hown' (fun g t' cs k ht => (hgrow.block _ k.lt (own_notBlk hown k ht)).trans k) (fun w0 e hw => Ext.grownBy e hgrow (fun g hg => by have := own_base hown hg; omega)) (by first | exact hgrow.size | exact hx.1 | omega)

end Go.Proofs.Ytpaoeghdfeekoaa
