/- FieldClasses: the reference's Ladders. -/
import Derived.Test.YtpaoeghdfeekoaaK39
namespace Go.Proofs.Ytpaoeghdfeekoaa
open Go.RowKit Go.Shelf Go.Mem Go.RegInv
attribute [local go_sem] RelUpon_value RelUpon_skip RelUpon_enter BigFrame.eval_const BigFrame.eval_global BigFrame.eval_func

/-- A block that holds this ladder. -/
def ShIs (cu : Array Value) (X : List Sh) (n : Nat) : Prop := n * 3 ≤ cu.size ∧ ∀ (i : Nat) (s : Sh), X[i]? = some s → cu[i * 3]? = some (Value.int .i64 s.g) ∧ cu[i * 3 + 1]? = some (Value.int .i64 s.c) ∧ cu[i * 3 + 2]? = some (Value.int .i64 s.h)
theorem shIs_of {cu : Array Value} {X : List Sh} {n : Nat} (h : MidSh cu X (X.map (·.g)) n 0) : ShIs cu X n := by
  refine ⟨h.1, fun i s hi => ?_⟩
  have := h.2 i s s.g hi (by rw [List.getElem?_map, hi]; rfl)
  rwa [if_neg (by omega)] at this
theorem ShIs.set {cu : Array Value} {X : List Sh} {n k : Nat} (h : ShIs cu X n) (hn : k < n) {s : Sh} (hk : X[k]? = some s) (g : Int) : ShIs (cu.setIfInBounds (k * 3) (.int .i64 g)) (X.set k { s with g := g }) n := by
  have hs := h.1
  have hkl := (List.getElem?_eq_some_iff.1 hk).1
  refine ⟨by simpa using h.1, fun i x hi => ?_⟩
  rw [List.getElem?_set] at hi
  by_cases hik : k = i
  · subst hik
    rw [if_pos rfl, if_pos hkl] at hi
    obtain rfl := Option.some.inj hi
    obtain ⟨a0, a1, a2⟩ := h.2 k s hk
    exact ⟨by rw [Array.getElem?_setIfInBounds_self_of_lt (by omega)], by rw [Array.getElem?_setIfInBounds_ne (by omega)]; exact a1, by rw [Array.getElem?_setIfInBounds_ne (by omega)]; exact a2⟩
  · rw [if_neg hik] at hi
    obtain ⟨a0, a1, a2⟩ := h.2 i x hi
    exact ⟨by rw [Array.getElem?_setIfInBounds_ne (by omega)]; exact a0, by rw [Array.getElem?_setIfInBounds_ne (by omega)]; exact a1, by rw [Array.getElem?_setIfInBounds_ne (by omega)]; exact a2⟩
theorem ShIs.lad {W : World} {b : Nat} {cu : Array Value} {X : List Sh} {n : Nat} (hb : Blk W b 92 cu) (h : ShIs cu X n) (hx : X.length = n) (h6 : n ≤ 6) : LadAt W (some ⟨b, 0, none⟩) X := by
  refine ⟨⟨by omega, fun i x hi => ⟨b, 0, rfl, hb.lt, fun j u hu => ?_⟩⟩, fun b' o e => ?_⟩
  · obtain ⟨a0, a1, a2⟩ := h.2 i x hi
    rw [hb.cell]
    match j, hu with
    | 0, hu => obtain rfl := Option.some.inj hu; rw [show 0 + i * 3 + 0 = i * 3 by omega]; exact a0
    | 1, hu => obtain rfl := Option.some.inj hu; rw [show 0 + i * 3 + 1 = i * 3 + 1 by omega]; exact a1
    | 2, hu => obtain rfl := Option.some.inj hu; rw [show 0 + i * 3 + 2 = i * 3 + 2 by omega]; exact a2
    | j + 3, hu => simp [Sh.enc] at hu
  · obtain ⟨rfl, rfl⟩ : b = b' ∧ 0 = o := by simpa using e
    exact ⟨cu, hb⟩
theorem set_mid {x : List Sh} {ls : List Sh} {k : Nat} {s s' : Sh} (hx : x.length = k) (hs : ls[k]? = some s) : (x ++ ls.drop k).set k s' = (x ++ [s']) ++ ls.drop (k + 1) := by
  obtain ⟨hk, rfl⟩ := List.getElem?_eq_some_iff.1 hs
  subst hx
  simp
  rw [List.drop_eq_getElem_cons hk]
  rfl
theorem mid_get {x : List Sh} {ls : List Sh} {k : Nat} {s : Sh} (hx : x.length = k) (hs : ls[k]? = some s) : (x ++ ls.drop k)[k]? = some s := by
  rw [List.getElem?_append_right (by omega), List.getElem?_drop, hx, show k + (k - k) = k by omega]; exact hs

/-- What is known of memory while a shell is given its conductances in all ladders: N is what has been made. -/
structure InL (wo : World) (t : Int) (all : List (List Sh)) (v3 : Value) (base : Nat) (N : List (List Sh)) (u : Value) (w2 : World) : Prop where
  own : ∃ xs, w2.ownsRow base 24 2 u N.length xs ∧ xs.length = N.length * 2 ∧ PairsAt (fun _ => True) w2 t (fun j => xs[j]?) N
  all : LadsB (fun _ => True) w2 t v3 all
  below : Ext wo w2
section
variable {wo w2 w3 : World} {t : Int} {all N : List (List Sh)} {v3 u u' : Value} {base : Nat}
theorem InL.ext (h : InL wo t all v3 base N u w2) (e : Ext w2 w3) : InL wo t all v3 base N u w3 := by
  obtain ⟨xs, h1, h2, h3⟩ := h.own
  exact ⟨⟨xs, own_ext h1 e, h2, h3.keep (fun _ _ => rfl) (fun _ _ _ b => b.ext e) (fun _ _ h _ => h)⟩, h.all.ext e, h.below.trans e⟩
theorem InL.push (h : InL wo t all v3 base N u w2) (hb3 : ∀ b o n c, v3 = .slice (some ⟨b, o, none⟩) n c → b < base) (hbase : wo.heap.size ≤ base) {xs : List Value} (hx : w2.ownsRow base 24 2 u N.length xs) (hxl : xs.length = N.length * 2) (hxp : PairsAt (fun _ => True) w2 t (fun j => xs[j]?) N)
    {y : List Sh} {A : Option Addr} {c : Nat} (hA : A = none → y.length = 0 ∧ c = 0) (hy : LadP (fun _ => True) w2 A y)
    (hown : w3.ownsRow base 24 2 u' (N.length + 1) (xs ++ [.int .i64 t, .slice A y.length c])) (hg : w2.grownBy w3 u.ownBlock) : InL wo t all v3 base (N ++ [y]) u' w3 := by
  have k92 : ∀ b cs, Blk w2 b 92 cs → Blk w3 b 92 cs := fun b cs k => (hg.block _ k.lt (own_notBlk hx k (by decide))).trans k
  refine ⟨⟨_, by rw [List.length_append, List.length_singleton]; exact hown, by simp [hxl]; omega, (hxp.snoc hxl hA hy).keep (fun _ _ => rfl) (fun b cs _ k => k92 b cs k) (fun _ _ h _ => h)⟩, ?_, Ext.grownBy h.below hg (fun g e => by have := own_base hx e; omega)⟩
  refine h.all.keep (fun b cs k ⟨o, c', e⟩ => (hg.block _ k.lt (own_not hx ?_)).trans k) (fun b cs _ k => k92 b cs k) (fun _ _ h _ => h)
  obtain ⟨b', c'', cu, e', _⟩ := h.all
  rw [e'] at e
  simp only [Value.slice.injEq, Option.some.injEq, Addr.mk.injEq] at e
  obtain ⟨⟨rfl, -, -⟩, -, -⟩ := e
  exact hb3 b' 0 _ _ e'
end
theorem append_lad {W : World} {base k m c : Nat} {u : Value} {A : Option Addr} {t : Int} {xs : List Value} (hown : W.ownsRow base 24 2 u k xs) (hk : k ≤ 4000) (hbase : base ≤ W.heap.size) {b : Nat} (hb : Blk W b 24 #[.int .i64 t, .slice A m c])
    {o : Oper} {ops : Array Oper} {rest : List Oper} {a : Act} {Q : Exit → Act → World → Prop} (hg : o.guard = none) (p q : Operand) (hop : o.op = .call { callee := .builtin .append, args := #[p, q], argTypes := #[172, 172] }) (he6 : a.eval p = u) (he8 : a.eval q = .slice (some ⟨b, 0, none⟩) 1 1)
    (hK : ∀ u' w', w'.ownsRow base 24 2 u' (k + 1) (xs ++ [.int .i64 t, .slice A m c]) → W.grownBy w' u.ownBlock → wpList Try.prog ops Q rest (a.put o.dst u') w') : wpList Try.prog ops Q (o :: rest) a W := by
  obtain ⟨i0, hi, hz0, hz1, hz2⟩ := info_parts (show (Try.prog.info? 24).map (fun i => (i.zero, i.size, i.bytes)) = some (some (.agg #[.int .i64 0, .slice none 0 0]), 2, 32) by kernel_rfl)
  refine wpList_append_own _ hg _ _ 172 hop base 24 i0 (.agg #[.int .i64 0, .slice none 0 0]) 2 32 Try.underlying172 hi hz0 hz1 hz2 rfl (by decide) _ _ _ he6 hown ⟨b, 0, none⟩ 1 1 [.int .i64 t, .slice A m c] he8 rfl (fun j u hu => ?_) (by simp [Value.oneCell']) (by unfold maxLen; omega) (by omega) hbase ?_
  · have := hb.cell j
    rw [WideShapes.add_plain, show 0 + j = j by omega, this]
    match j, hu with
    | 0, hu => exact hu
    | 1, hu => exact hu
    | j + 2, hu => simp at hu
  · intro v' w1 hown' hgrow _
    exact hK _ _ hown' hgrow
/-- The ladders behind k rounds. -/
def laddersK (ls : List Sh) (rs : List G) (k : Nat) : List (List Sh) := (membersK ls rs k).map (· ++ ls.drop k)

end Go.Proofs.Ytpaoeghdfeekoaa
