/- Rows, knots and their numbers. -/
import Derived.Test.YtkmekbafjnlfkaaGreatS1
import Derived.Laws.AppendOwn
import Derived.Laws.AppendOwnNone

namespace Go.Proofs.YtkmekbafjnlfkaaGreat
open Go.RowKit Go.Shelf Go.Mem Go.RegInv
attribute [local go_sem] RelUpon_value RelUpon_skip RelUpon_enter BigFrame.eval_const BigFrame.eval_global BigFrame.eval_func

/-- A range of two numbers. -/
structure Rg where
  lo : Int
  hi : Int
deriving DecidableEq, Inhabited
def Rg.enc (r : Rg) : List Value := [.int .i64 r.lo, .int .i64 r.hi]
def flat (l : List Rg) : List Int := l.flatMap fun r => [r.lo, r.hi]

/-- Whatever is returned, and what is known of it. -/
def VPost (w : World) (Φ : Value → World → Prop) : Ending → World → Prop := fun e w' => ∃ v, e = .returned v ∧ Ext w w' ∧ Φ v w'

/-- The first index from k on at which p holds, or -1. -/
def idxF {α : Type} (p : α → Bool) : List α → Nat → Int
  | [], _ => -1
  | x :: l, k => if p x then (k : Int) else idxF p l (k + 1)
theorem idxF_drop {α : Type} (p : α → Bool) (xs : List α) (k : Nat) (g : α) (h : xs[k]? = some g) : idxF p (xs.drop k) k = if p g = true then (k : Int) else idxF p (xs.drop (k + 1)) (k + 1) := by
  obtain ⟨hk, e⟩ := List.getElem?_eq_some_iff.1 h
  rw [List.drop_eq_getElem_cons hk, e]
  rfl
theorem idxF_any {α : Type} (p : α → Bool) : ∀ (xs : List α) (k : Nat), decide (0 ≤ idxF p xs k) = xs.any p
  | [], _ => rfl
  | x :: l, k => by
    rw [idxF, List.any_cons]
    by_cases h : p x = true
    · simp [h]
    · have h' : p x = false := by simpa using h
      simp [h', idxF_any p l (k + 1)]

theorem own_base {W : World} {base : Nat} {e : TypeId} {size : Nat} {v : Value} {n : Nat} {xs : List Value} (r : W.ownsRow base e size v n xs) {g : Nat} (h : v.ownBlock = some g) : base ≤ g := by
  rcases r.2 with ⟨rfl, _⟩ | ⟨g', cap, cur, rfl, h2, _⟩
  · simp [Value.ownBlock] at h
  · simp [Value.ownBlock] at h; omega
theorem own_slice {W : World} {base n k : Nat} {e : TypeId} {v : Value} {xs : List Value} (h : W.ownsRow base e k v n xs) : ∃ A c, v = .slice A n c := by
  rcases h.2 with ⟨rfl, rfl⟩ | ⟨g, cap, cu, rfl, _⟩
  · exact ⟨none, 0, by have := h.1; simp⟩
  · exact ⟨_, cap, rfl⟩
theorem own_ext {W W' : World} {base n k : Nat} {e : TypeId} {v : Value} {xs : List Value} (h : W.ownsRow base e k v n xs) (x : Ext W W') : W'.ownsRow base e k v n xs := by
  refine ⟨h.1, ?_⟩
  rcases h.2 with h2 | ⟨g, cap, cu, hv, hg, hh, r⟩
  · exact .inl h2
  · exact .inr ⟨g, cap, cu, hv, hg, (show Blk W' g e cu from (show Blk W g e cu from hh).ext x), r⟩
theorem own_new {W : World} {g : Nat} {e : TypeId} {cs : Array Value} (h : Blk W g e cs) {base : Nat} (hb : base ≤ g) (size n : Nat) (hs : cs.size = n * size) (hn : n ≤ maxLen) : W.ownsRow base e size (.slice (some ⟨g, 0, none⟩) n n) n cs.toList :=
  ⟨by simpa using hs, .inr ⟨g, n, cs, rfl, hb, h, Nat.le_refl _, hn, hs, by rw [List.take_of_length_le (by simp; omega)]⟩⟩
theorem own_none (W : World) (base : Nat) (e : TypeId) (size : Nat) : W.ownsRow base e size (.slice none 0 0) 0 [] := ⟨by simp, .inl ⟨rfl, rfl⟩⟩
/-- What an own row holds, cell by cell. -/
theorem own_cells {W : World} {base n k : Nat} {e : TypeId} {v : Value} {xs : List Value} (h : W.ownsRow base e k v n xs) (h1 : 1 ≤ n) : ∃ g c cu, v = .slice (some ⟨g, 0, none⟩) n c ∧ base ≤ g ∧ n ≤ c ∧ Blk W g e cu ∧ ∀ (i : Nat) (u : Value), xs[i]? = some u → cu[i]? = some u := by
  rcases h.2 with ⟨_, rfl⟩ | ⟨g, cap, cu, rfl, hb, hh, hc, _, hs, ht⟩
  · omega
  · refine ⟨g, cap, cu, rfl, hb, hc, hh, fun i u hi => ?_⟩
    rw [← ht] at hi
    have := (List.getElem?_eq_some_iff.1 hi).1
    rw [List.getElem?_take_of_lt (by simp at this; omega)] at hi
    simpa using hi
theorem ints_own {W : World} {base n : Nat} {e : TypeId} {v : Value} {xs : List Int} (h : W.ownsRow base e 1 v n (xs.map (Value.int .i64))) (hn : n ≤ 1152921504606846976) : IntsAt W v xs := by
  have hl : xs.length = n := by have := h.1; simpa using this
  rcases Nat.eq_zero_or_pos n with h0 | h1
  · obtain ⟨A, c, rfl⟩ := own_slice h
    subst h0
    exact .inl ⟨A, c, rfl, by simpa using hl⟩
  · obtain ⟨g, c, cu, rfl, _, _, hb, hc⟩ := own_cells h h1
    refine .inr ⟨g, 0, c, by rw [hl], hb.lt, by omega, fun i hi => ?_⟩
    rw [hb.cell]
    exact hc _ _ (by simp [hi])
theorem rows_own {α : Type} {W : World} {base n k : Nat} {e : TypeId} {A : Option Addr} {c : Nat} {enc : α → List Value} {xs : List α} (hl : xs.length = n) (hk : ∀ x, (enc x).length = k) (h : W.ownsRow base e k (.slice A n c) n (xs.flatMap enc)) (hn : n ≤ 1152921504606846976) : RowsAt k enc W A xs := by
  refine ⟨by omega, fun i x hx => ?_⟩
  have hi := (List.getElem?_eq_some_iff.1 hx).1
  obtain ⟨g, c', cu, he, _, _, hb, hc⟩ := own_cells h (by omega)
  obtain ⟨rfl, rfl⟩ : A = some ⟨g, 0, none⟩ ∧ c = c' := by simpa using he
  refine ⟨g, 0, rfl, hb.lt, fun j u hu => ?_⟩
  rw [hb.cell]
  have hj := (List.getElem?_eq_some_iff.1 hu).1
  rw [hk] at hj
  rw [show 0 + i * k + j = i * k + j by omega]
  refine hc _ _ ?_
  have key : ∀ (l : List α) (i : Nat), l[i]? = some x → (l.flatMap enc)[i * k + j]? = some u := by
    intro l
    induction l with
    | nil => intro i h; simp at h
    | cons y l ih =>
      intro i h
      cases i with
      | zero =>
        obtain rfl : y = x := by simpa using h
        rw [List.flatMap_cons, List.getElem?_append_left (by rw [hk]; omega)]
        simpa using hu
      | succ i =>
        rw [List.flatMap_cons, List.getElem?_append_right (by rw [hk, Nat.succ_mul]; omega), hk, show (i + 1) * k + j - k = i * k + j by rw [Nat.succ_mul]; omega]
        exact ih i (by simpa using h)
  exact key xs i hx
theorem rows_blk {α : Type} {W : World} {g n : Nat} {k : Nat} {e : TypeId} {cs : Array Value} {enc : α → List Value} {xs : List α} (h : Blk W g e cs) (hk : ∀ x, (enc x).length = k) (hl : xs.length = n) (hc : cs.toList = xs.flatMap enc) (hn : n ≤ 1152921504606846976) : RowsAt k enc W (some ⟨g, 0, none⟩) xs := by
  have hlen : ∀ l : List α, (l.flatMap enc).length = l.length * k := by
    intro l
    induction l with
    | nil => simp
    | cons s l ih => rw [List.flatMap_cons, List.length_append, ih, hk, List.length_cons, Nat.succ_mul]; omega
  have hs : cs.size = n * k := by rw [← hl, ← hlen, ← hc]; simp
  exact rows_own (base := 0) (c := n) hl hk (by rw [← hc]; exact own_new h (Nat.zero_le _) k n hs (by unfold maxLen; omega)) hn
theorem own_not {W : World} {base : Nat} {e : TypeId} {size : Nat} {v : Value} {n : Nat} {xs : List Value} (r : W.ownsRow base e size v n xs) {g : Nat} (hg : g < base) : some g ≠ v.ownBlock := by
  intro h
  have := own_base r h.symm
  omega
theorem wrap_id (x : Int) (h1 : -9223372036854775808 ≤ x) (h2 : x ≤ 9223372036854775807) : IntKind.i64.wrap x = x := IntWalk.i64_in x ⟨h1, h2⟩

/-- A knot: its temperature, its ranges, and its numbers beside them. -/
structure Kn where
  k : Int
  rs : List Rg
  am : List Int
/-- Its numbers but the temperature. -/
def Kn.nums (x : Kn) : List Int := flat x.rs ++ x.am
def AmV (w : World) (va : Value) (am : List Int) : Prop := (va = .slice none 0 0 ∧ am = []) ∨ ∃ b g, va = .slice (some ⟨b, 0, none⟩) 1 1 ∧ am = [g] ∧ Blk w b 3 #[.int .i64 g]
theorem AmV.ext {w w' : World} {va : Value} {am : List Int} (h : AmV w va am) (e : Ext w w') : AmV w' va am := by
  rcases h with h | ⟨b, g, h1, h2, h3⟩
  · exact .inl h
  · exact .inr ⟨b, g, h1, h2, h3.ext e⟩
/-- How a knot lies in memory. -/
def KnV (x : Kn) : Value → World → Prop := fun u W => ∃ A n c va, Hid (x.rs.length = n) ∧ n ≤ 2 ∧ 1 ≤ x.nums.length ∧ u = .agg #[.int .i64 x.k, .slice A n c, va] ∧ RowsAt 2 Rg.enc W A x.rs ∧ AmV W va x.am
theorem KnV.ext {x : Kn} {u : Value} {W W' : World} (h : KnV x u W) (e : Ext W W') : KnV x u W' := by
  obtain ⟨A, n, c, va, h1, h2, h3, h4, h5, h6⟩ := h; exact ⟨A, n, c, va, h1, h2, h3, h4, h5.ext e, h6.ext e⟩

theorem info3 : (Tryz.prog.info? 3).map (fun i => (i.zero, i.size, i.bytes)) = some (some (.int .i64 0), 1, 8) := by kernel_rfl

def NumsV (x : Kn) : Value → World → Prop := fun u W => ∃ g m c, u = .slice (some ⟨g, 0, none⟩) m c ∧ 2 ≤ m ∧ m ≤ c ∧ x.nums.length + 1 = m ∧ IntsAt W (.slice (some ⟨g, 0, none⟩) m c) (x.k :: x.nums)
theorem flat_len : ∀ l : List Rg, (flat l).length = l.length * 2
  | [] => rfl
  | r :: l => by have := flat_len l; simp only [flat, List.flatMap_cons, List.length_append, List.length_cons, List.length_nil] at this ⊢; omega
theorem flat_snoc {l : List Rg} {k : Nat} {r : Rg} (h : l[k]? = some r) : flat (l.take (k + 1)) = flat (l.take k) ++ [r.lo, r.hi] := by
  rw [List.take_add_one, h]; simp [flat]

theorem nums_end {w W' : World} {x : Kn} {base n m : Nat} {v' : Value} (hn : x.rs.length = n) (n2 : n ≤ 2) (h1 : 1 ≤ x.nums.length) (hm : m ≤ 1) (ha : x.am.length = m) (h : W'.ownsRow base 3 1 v' (1 + n * 2 + m) ((x.k :: flat x.rs).map (Value.int .i64) ++ x.am.map (Value.int .i64))) (e : Ext w W') : VPost w (NumsV x) (.returned v') W' := by
  have hl : x.nums.length + 1 = 1 + n * 2 + m := by rw [Kn.nums, List.length_append, flat_len, hn, ha]; omega
  have hq : W'.ownsRow base 3 1 v' (1 + n * 2 + m) ((x.k :: x.nums).map (Value.int .i64)) := by
    have e2 : (x.k :: x.nums).map (Value.int .i64) = (x.k :: flat x.rs).map (Value.int .i64) ++ x.am.map (Value.int .i64) := by simp [Kn.nums]
    rw [e2]; exact h
  obtain ⟨g, c, cu, rfl, _, hc, _, _⟩ := own_cells hq (by omega)
  exact ⟨_, rfl, e, g, _, c, rfl, by omega, hc, hl, ints_own hq (by omega)⟩

set_option maxRecDepth 100000 in
set_option maxHeartbeats 1000000 in
theorem numbers_any {x : Kn} {u : Value} {w : World} (hK : KnV x u w) : Calls Tryz.prog 146 #[u] w (VPost w (NumsV x)) := by
  obtain ⟨A, n, ca, va, HN, n2, h1, rfl, hA, hva⟩ := hK
  obtain ⟨i0, hi, hz0, hz1, hz2⟩ := info_parts info3
  have HI0 := Lib.hid hz0
  obtain ⟨W0, hW0⟩ : ∃ W0, W0 = (w.alloc (.cells #[.int .i64 x.k, .slice A n ca, va] 190)).alloc (.cells #[.int .i64 x.k] 3) := ⟨_, rfl⟩
  have k0 : Blk W0 w.heap.size 190 #[.int .i64 x.k, .slice A n ca, va] := by rw [hW0]; exact (Blk.new _ _ _).alloc _
  have k1 : Blk W0 (w.heap.size + 1) 3 #[.int .i64 x.k] := by rw [hW0]; exact Blk.newAt _ _ _ (by simp)
  have e0 : Ext w W0 := by rw [hW0]; exact (Ext.alloc _ _).trans (Ext.alloc _ _)
  have hsz : w.heap.size + 1 ≤ W0.heap.size := by rw [hW0]; simp
  have o0 : W0.ownsRow (w.heap.size + 1) 3 1 (.slice (some ⟨w.heap.size + 1, 0, none⟩) 1 1) 1 ((x.k :: flat (x.rs.take 0)).map (Value.int .i64)) := own_new k1 (Nat.le_refl _) 1 1 rfl (by decide)
  have K0 := Lib.hid k0
  have E0 := Lib.hid e0
  have HSZ := Lib.hid hsz
  have O0 := Lib.hid o0
  have HA := Lib.hid hA
  have HV := Lib.hid hva
  have H1 := Lib.hid h1
  have z1 : W0.cell? ⟨w.heap.size, 1, none⟩ = some (.slice A n ca) := k0.cell 1
  have hnb : n ≤ 1152921504606846976 := by omega
  clear hA hva h1 k0 k1 e0 o0 hz0 hsz
  go_enter Tryz.func146, Tryz.ntmps146
  go_wp2
  rw [← hW0]
  clear hW0
  go_wp2
  go_loopw [3, 12] (fun l i wr => ∃ k : Nat, k ≤ n ∧ i = .int .i64 k ∧ wr.ownsRow (w.heap.size + 1) 3 1 l (1 + k * 2) ((x.k :: flat (x.rs.take k)).map (Value.int .i64)) ∧ Ext w wr ∧ Blk wr w.heap.size 190 #[.int .i64 x.k, .slice A n ca, va]) (fun _ i _ => n - (intOf i).toNat)
  case atStart => exact ⟨0, Nat.zero_le _, rfl, O0.out, E0.out, K0.out⟩
  case round =>
    obtain ⟨k, hk, rfl, ho, hx, hb⟩ := hrel
    have HO := Lib.hid ho
    have HX := Lib.hid hx
    have HB := Lib.hid hb
    by_cases hlt : k < n
    · obtain ⟨r, hr⟩ : ∃ r, x.rs[k]? = some r := ⟨_, List.getElem?_eq_getElem (by rw [HN.out]; exact hlt)⟩
      have HFS := Lib.hid (flat_snoc hr)
      obtain ⟨b, o, hAe, hbl, hc⟩ := HA.out.2 k r hr
      subst hAe
      have c0 : wr.cell? ⟨b, o + k * 2, none⟩ = some (.int .i64 r.lo) := hx.cell (hc 0 _ rfl)
      have c1 : wr.cell? ⟨b, o + k * 2 + 1, none⟩ = some (.int .i64 r.hi) := hx.cell (hc 1 _ rfl)
      have HSW := Lib.hid (show w.heap.size + 1 ≤ wr.heap.size from hb.lt)
      have hki : (k : Int) < (n : Int) := by omega
      clear ho hx hb hr hc hbl
      obtain ⟨W2, hW2⟩ : ∃ W2, W2 = (wr.alloc (.cells #[.int .i64 r.lo, .int .i64 r.hi] 66)).alloc (.cells #[.int .i64 r.lo, .int .i64 r.hi] 3) := ⟨_, rfl⟩
      have E2 := Lib.hid (show Ext wr W2 by rw [hW2]; exact (Ext.alloc _ _).trans (Ext.alloc _ _))
      have N2 := Lib.hid (show ∀ j u, [Value.int .i64 r.lo, .int .i64 r.hi][j]? = some u → W2.cell? (Addr.add ⟨wr.heap.size + 1, 0, none⟩ j) = some u by rw [hW2]; exact news_of (Blk.newAt _ _ _ (by simp)))
      go_wp2_with (at_builtin; rw [← hW2]; clear hW2; refine wpList_append_own _ rfl _ _ 46 rfl (w.heap.size + 1) 3 i0 (.int .i64 0) 1 8 Tryz.underlying46 hi HI0.out hz1 hz2 rfl (by decide) _ _ _ rfl (own_ext HO.out E2.out) ⟨wr.heap.size + 1, 0, none⟩ 2 2 [.int .i64 r.lo, .int .i64 r.hi] rfl rfl N2.out (by simp [Value.oneCell']) (by unfold maxLen; omega) (by omega) (by have := HSW.out; have := E2.out.size; omega) ?_; intro v' w1 hown' hgrow _; have HO1 := Lib.hid hown'; have HE1 := Lib.hid (Ext.grownBy ((HX.out).trans E2.out) hgrow (fun g hg => by have := own_base HO.out hg; omega)); have HB1 := Lib.hid ((hgrow.block _ (HB.out.ext E2.out).lt (own_not HO.out (Nat.lt_succ_self _))).trans (HB.out.ext E2.out)); clear hown' hgrow)
      go_roundw
      case rel => exact ⟨k + 1, by omega, by go_num, by rw [HFS.out, show 1 + (k + 1) * 2 = 1 + k * 2 + 2 by omega]; simpa using HO1.out, HE1.out, HB1.out⟩
      case measure => simp [intOf]; omega
    · obtain rfl : k = n := by omega
      have y2 : wr.cell? ⟨w.heap.size, 2, none⟩ = some va := hb.cell 2
      have HT := Lib.hid (show x.rs.take k = x.rs from List.take_of_length_le (by rw [HN.out]; omega))
      rw [HT.out] at ho
      have HO := Lib.hid ho
      have HSW := Lib.hid (show w.heap.size + 1 ≤ wr.heap.size from hb.lt)
      clear ho hx hb HT z1
      rcases HV.out with ⟨rfl, ha⟩ | ⟨b, g, rfl, ha, hbk⟩
      · have HAM := Lib.hid ha
        clear ha HV
        obtain ⟨A', c', rfl⟩ := own_slice HO.out
        go_wp2_with (at_builtin; refine wpList_append_own_none rfl _ _ 46 rfl (w.heap.size + 1) 3 i0 1 Tryz.underlying46 hi _ _ _ rfl HO.out rfl ?_)
        go_ret
        exact nums_end HN.out n2 H1.out (Nat.zero_le 1) (by rw [HAM.out]; rfl) (by rw [HAM.out]; simpa using HO.out) HX.out
      · have HAM := Lib.hid ha
        have N2 := Lib.hid (show ∀ j u, [Value.int .i64 g][j]? = some u → wr.cell? (Addr.add ⟨b, 0, none⟩ j) = some u from news_of1 (hbk.ext HX.out))
        clear ha HV hbk
        go_wp2_with (at_builtin; refine wpList_append_own _ rfl _ _ 46 rfl (w.heap.size + 1) 3 i0 (.int .i64 0) 1 8 Tryz.underlying46 hi HI0.out hz1 hz2 rfl (by decide) _ _ _ rfl HO.out ⟨b, 0, none⟩ 1 1 [.int .i64 g] rfl rfl N2.out (by simp [Value.oneCell']) (by unfold maxLen; omega) (by omega) HSW.out ?_; intro v' w1 hown' hgrow _; have HO1 := Lib.hid hown'; have HE1 := Lib.hid (Ext.grownBy HX.out hgrow (fun g hg => by have := own_base HO.out hg; omega)); clear hown' hgrow)
        go_ret
        exact nums_end HN.out n2 H1.out (Nat.le_refl 1) (by rw [HAM.out]; rfl) (by rw [HAM.out]; simpa using HO1.out) HE1.out

end Go.Proofs.YtkmekbafjnlfkaaGreat
