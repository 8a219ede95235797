/- Classes: the ladders of a class in memory. -/
import Derived.Test.YtpaoeghdfeekoaaK29
import Derived.Deep.RegionHeld3
import Derived.Deep.AppendLies
import Derived.Deep.DrawnRows
import Derived.Deep.DeepCutAuto
namespace Go.Proofs.Ytpaoeghdfeekoaa
open Go.RowKit Go.Shelf Go.Mem Go.RegInv
attribute [local go_sem ↓] Go.wp_at_zero Go.wp_at_succ

/-- The shells of a ladder, in a block that fulfils p. -/
def LadP (p : Nat → Prop) (W : World) (A : Option Addr) (ls : List Sh) : Prop := LadAt W A ls ∧ (∀ b o, A = some ⟨b, o, none⟩ → p b) ∧ ∀ ad, A = some ad → ad.spot = none
theorem LadP.keep {p q : Nat → Prop} {W W' : World} {A : Option Addr} {ls : List Sh} (h : LadP p W A ls) (hk : ∀ b cs, p b → Blk W b 92 cs → Blk W' b 92 cs) (hq : ∀ b cs, p b → Blk W b 92 cs → q b) : LadP q W' A ls := by
  obtain ⟨⟨h1, h2⟩, h3, h4⟩ := h
  refine ⟨⟨⟨h1.1, fun i x hx => ?_⟩, fun b o e => ?_⟩, fun b o e => ?_, h4⟩
  · obtain ⟨b, o, e, _, hc⟩ := h1.2 i x hx
    obtain ⟨cs, hb⟩ := h2 b o e
    have hb' := hk b cs (h3 b o e) hb
    exact ⟨b, o, e, hb'.lt, fun j u hu => by rw [hb'.cell, ← hb.cell]; exact hc j u hu⟩
  · obtain ⟨cs, hb⟩ := h2 b o e
    exact ⟨cs, hk b cs (h3 b o e) hb⟩
  · obtain ⟨cs, hb⟩ := h2 b o e
    exact hq b cs (h3 b o e) hb
/-- Ladders, two cells each. -/
def PairsAt (p : Nat → Prop) (W : World) (t : Int) (at' : Nat → Option Value) (L : List (List Sh)) : Prop :=
  ∀ i x, L[i]? = some x → at' (i * 2) = some (.int .i64 t) ∧ ∃ Ai ci, at' (i * 2 + 1) = some (.slice Ai x.length ci) ∧ (Ai = none → x.length = 0 ∧ ci = 0) ∧ LadP p W Ai x
theorem PairsAt.keep {p q : Nat → Prop} {W W' : World} {t : Int} {at' at'' : Nat → Option Value} {L : List (List Sh)} (h : PairsAt p W t at' L) (ha : ∀ j, j < L.length * 2 → at'' j = at' j) (hk : ∀ b cs, p b → Blk W b 92 cs → Blk W' b 92 cs) (hq : ∀ b cs, p b → Blk W b 92 cs → q b) : PairsAt q W' t at'' L := fun i x hx => by
  obtain ⟨h1, Ai, ci, h2, h3, h4⟩ := h i x hx
  have hi := (List.getElem?_eq_some_iff.1 hx).1
  exact ⟨by rw [ha _ (by omega)]; exact h1, Ai, ci, by rw [ha _ (by omega)]; exact h2, h3, h4.keep hk hq⟩
theorem PairsAt.snoc {p : Nat → Prop} {W : World} {t : Int} {xs : List Value} {L : List (List Sh)} (h : PairsAt p W t (fun j => xs[j]?) L) (hl : xs.length = L.length * 2) {x : List Sh} {A : Option Addr} {c : Nat} (hA : A = none → x.length = 0 ∧ c = 0) (hx : LadP p W A x) :
    PairsAt p W t (fun j => (xs ++ [.int .i64 t, .slice A x.length c])[j]?) (L ++ [x]) := fun i y hy => by
  by_cases hi : i < L.length
  · rw [List.getElem?_append_left hi] at hy
    obtain ⟨h1, Ai, ci, h2, h3, h4⟩ := h i y hy
    exact ⟨by show (xs ++ _)[_]? = _; rw [List.getElem?_append_left (by omega)]; exact h1, Ai, ci, by show (xs ++ _)[_]? = _; rw [List.getElem?_append_left (by omega)]; exact h2, h3, h4⟩
  · have hlt := (List.getElem?_eq_some_iff.1 hy).1
    rw [List.length_append, List.length_singleton] at hlt
    obtain rfl : i = L.length := by omega
    obtain rfl : x = y := by simpa using hy
    refine ⟨?_, A, c, ?_, hA, hx⟩
    · show (xs ++ _)[_]? = _
      rw [List.getElem?_append_right (by omega), show L.length * 2 - xs.length = 0 by omega]; rfl
    · show (xs ++ _)[_]? = _
      rw [List.getElem?_append_right (by omega), show L.length * 2 + 1 - xs.length = 1 by omega]; rfl
/-- A slice of ladders. -/
def LadsB (p : Nat → Prop) (W : World) (t : Int) (v : Value) (L : List (List Sh)) : Prop := ∃ b c cu, v = .slice (some ⟨b, 0, none⟩) L.length c ∧ Blk W b 24 cu ∧ PairsAt p W t (fun j => cu[j]?) L
theorem LadsB.keep {p q : Nat → Prop} {W W' : World} {t : Int} {v : Value} {L : List (List Sh)} (h : LadsB p W t v L) (h24 : ∀ b cs, Blk W b 24 cs → (∃ o c, v = .slice (some ⟨b, o, none⟩) L.length c) → Blk W' b 24 cs) (hk : ∀ b cs, p b → Blk W b 92 cs → Blk W' b 92 cs) (hq : ∀ b cs, p b → Blk W b 92 cs → q b) : LadsB q W' t v L := by
  obtain ⟨b, c, cu, rfl, h1, h2⟩ := h
  exact ⟨b, c, cu, rfl, h24 b cu h1 ⟨0, c, rfl⟩, h2.keep (fun _ _ => rfl) hk hq⟩
theorem LadsB.ext {p : Nat → Prop} {W W' : World} {t : Int} {v : Value} {L : List (List Sh)} (h : LadsB p W t v L) (e : Ext W W') : LadsB p W' t v L :=
  h.keep (fun _ _ b _ => b.ext e) (fun _ _ _ b => b.ext e) (fun _ _ h _ => h)
/-- What a call owns, seen as ladders. -/
theorem lads_own {p : Nat → Prop} {W : World} {base m : Nat} {v : Value} {t : Int} {xs : List Value} {L : List (List Sh)} (hm : L.length = m) (h1 : 1 ≤ m) (h : W.ownsRow base 24 2 v m xs) (hp : PairsAt p W t (fun j => xs[j]?) L) : LadsB p W t v L := by
  rcases h.2 with ⟨rfl, h2⟩ | ⟨g, cap, cu, rfl, _, hh, hc, _, hs, ht⟩
  · omega
  · subst hm
    refine ⟨g, cap, cu, rfl, hh, hp.keep (fun j hj => ?_) (fun _ _ _ b => b) (fun _ _ h _ => h)⟩
    rw [← ht, List.getElem?_take, if_pos (by omega), Array.getElem?_toList]
theorem set_ne_type {W : World} {g : Nat} {t t' : TypeId} {cs cs' : Array Value} (h : Blk W g t cs) {g' : Nat} (h' : Blk W g' t' cs') (hne : t ≠ t') : g ≠ g' := by
  rintro rfl
  unfold Blk at h h'
  rw [h] at h'
  simp at h'
  exact hne h'.2

/-- What is known of memory while a shell is added to all ladders: M is what has been made. -/
structure InC (wr : World) (t : Int) (L : List (List Sh)) (s : Sh) (r : G) (v3 : Value) (base : Nat) (M : List (List Sh)) (u : Value) (w2 : World) : Prop where
  own : ∃ xs, w2.ownsRow base 24 2 u M.length xs ∧ xs.length = M.length * 2 ∧ PairsAt (fun b => wr.heap.size + 1 < b) w2 t (fun j => xs[j]?) M
  b5 : Blk w2 wr.heap.size 132 #[.int .i64 r.re, .int .i64 r.im]
  b6 : ∃ gg, Blk w2 (wr.heap.size + 1) 92 #[.int .i64 gg, .int .i64 s.c, .int .i64 s.h]
  all : LadsB (fun b => b < wr.heap.size + 1) w2 t v3 L
  below : Ext wr w2
section
variable {wr w2 w3 w4 : World} {t : Int} {L M : List (List Sh)} {s : Sh} {r : G} {v3 u u' : Value} {base : Nat}
theorem InC.ext (h : InC wr t L s r v3 base M u w2) (e : Ext w2 w3) : InC wr t L s r v3 base M u w3 := by
  obtain ⟨xs, h1, h2, h3⟩ := h.own
  obtain ⟨gg, h4⟩ := h.b6
  exact ⟨⟨xs, own_ext h1 e, h2, h3.keep (fun _ _ => rfl) (fun _ _ _ b => b.ext e) (fun _ _ h _ => h)⟩, h.b5.ext e, ⟨gg, h4.ext e⟩, h.all.ext e, h.below.trans e⟩
theorem InC.set6 (h : InC wr t L s r v3 base M u w2) (x : Int) : InC wr t L s r v3 base M u (w2.setCell ⟨wr.heap.size + 1, 0, none⟩ (.int .i64 x)) ∧ Blk (w2.setCell ⟨wr.heap.size + 1, 0, none⟩ (.int .i64 x)) (wr.heap.size + 1) 92 #[.int .i64 x, .int .i64 s.c, .int .i64 s.h] := by
  obtain ⟨xs, h1, h2, h3⟩ := h.own
  obtain ⟨gg, h4⟩ := h.b6
  have k6 : Blk (w2.setCell ⟨wr.heap.size + 1, 0, none⟩ (.int .i64 x)) (wr.heap.size + 1) 92 #[.int .i64 x, .int .i64 s.c, .int .i64 s.h] := h4.setSame 0 _
  refine ⟨⟨⟨xs, own_set h1 (own_notBlk h1 h4 (by decide)) _, h2, h3.keep (fun _ _ => rfl) (fun b cs hb k => k.setOther (by dsimp only; omega) _) (fun _ _ h _ => h)⟩, h.b5.setOther (by dsimp only; omega) _, ⟨x, k6⟩, ?_, Ext.set h.below (by dsimp only; omega) _⟩, k6⟩
  exact h.all.keep (fun b cs k _ => k.setOther (set_ne_type k h4 (by decide)) _) (fun b cs hb k => k.setOther (by dsimp only; omega) _) (fun _ _ h _ => h)
theorem InC.push (h : InC wr t L s r v3 base M u w2) (hb3 : ∀ b o n c, v3 = .slice (some ⟨b, o, none⟩) n c → b < base) (hbase : wr.heap.size ≤ base) {xs : List Value} (hx : w2.ownsRow base 24 2 u M.length xs) (hxl : xs.length = M.length * 2) (hxp : PairsAt (fun b => wr.heap.size + 1 < b) w2 t (fun j => xs[j]?) M)
    {y : List Sh} {A : Option Addr} {c : Nat} (hA : A = none → y.length = 0 ∧ c = 0) (hy : LadP (fun b => wr.heap.size + 1 < b) w2 A y)
    (hown : w3.ownsRow base 24 2 u' (M.length + 1) (xs ++ [.int .i64 t, .slice A y.length c])) (hg : w2.grownBy w3 u.ownBlock) : InC wr t L s r v3 base (M ++ [y]) u' w3 := by
  have k92 : ∀ b cs, Blk w2 b 92 cs → Blk w3 b 92 cs := fun b cs k => (hg.block _ k.lt (own_notBlk hx k (by decide))).trans k
  obtain ⟨gg, h4⟩ := h.b6
  refine ⟨⟨_, by rw [List.length_append, List.length_singleton]; exact hown, by simp [hxl]; omega, (hxp.snoc hxl hA hy).keep (fun _ _ => rfl) (fun b cs _ k => k92 b cs k) (fun _ _ h _ => h)⟩,
    (hg.block _ h.b5.lt (own_notBlk hx h.b5 (by decide))).trans h.b5, ⟨gg, k92 _ _ h4⟩, ?_, Ext.grownBy h.below hg (fun g e => by have := own_base hx e; omega)⟩
  refine h.all.keep (fun b cs k ⟨o, c', e⟩ => (hg.block _ k.lt (own_not hx ?_)).trans k) (fun b cs _ k => k92 b cs k) (fun _ _ h _ => h)
  obtain ⟨b', c'', cu, e', _⟩ := h.all
  rw [e'] at e
  simp only [Value.slice.injEq, Option.some.injEq, Addr.mk.injEq] at e
  obtain ⟨⟨rfl, -, -⟩, -, -⟩ := e
  exact hb3 b' 0 _ _ e'
end

set_option maxRecDepth 100000 in
set_option maxHeartbeats 8000000 in
theorem membersOf_any (t : Int) (A : Option Addr) (n ca : Nat) (ls : List Sh) (hn : ls.length = n) (R : Option Addr) (cr : Nat) (rs : List G) (hr : rs.length = n) (w : World)
    (hS : RowsAt 3 Sh.enc w A ls) (hR : RowsAt 2 G.enc w R rs) (h4 : n ≤ 4) (hrs : ∀ r ∈ rs, 1 ≤ r.re ∧ r.re ≤ r.im ∧ r.im ≤ 4) :
    Calls Try.prog 123 #[.agg #[.int .i64 t, .slice A n ca, .slice R n cr]] w fun e w' => ∃ v, e = .returned v ∧ LadsB (fun _ => True) w' t v (membersK ls rs n) ∧ Ext w w' := by
  have HMS := Lib.hid (membersK_size ls rs n hn hr h4 hrs)
  have HML := Lib.hid (membersK_len ls rs n hn hr)
  have HN := Lib.hid hn
  have HR := Lib.hid hr
  have HS := Lib.hid hS
  have HRR := Lib.hid hR
  have HRS := Lib.hid hrs
  have HM0 := Lib.hid (show membersK ls rs 0 = [[]] from rfl)
  have HMK := Lib.hid (fun k s r => membersK_succ (ls := ls) (rs := rs) (k := k) (s := s) (r := r))
  obtain ⟨i24, hi24, hz24, hy24, hw24⟩ := info_parts (show (Try.prog.info? 24).map (fun i => (i.zero, i.size, i.bytes)) = some (some (.agg #[.int .i64 0, .slice none 0 0]), 2, 32) by kernel_rfl)
  have HZ24 := Lib.hid hz24
  obtain ⟨i92, hi92, hz92, hy92, hw92⟩ := info_parts info92
  have HZ92 := Lib.hid hz92
  obtain ⟨W1, hW1⟩ : ∃ W1, W1 = (w.alloc (.cells #[.int .i64 t, .slice A n ca, .slice R n cr] 120)).alloc (.cells #[.int .i64 t, .slice none 0 0] 24) := ⟨_, rfl⟩
  have e1 : Ext w W1 := by rw [hW1]; exact (Ext.alloc _ _).trans (Ext.alloc _ _)
  have k0 : Blk W1 w.heap.size 120 #[.int .i64 t, .slice A n ca, .slice R n cr] := by rw [hW1]; exact (Blk.new _ _ _).alloc _
  have k1 : Blk W1 (w.heap.size + 1) 24 #[.int .i64 t, .slice none 0 0] := by rw [hW1]; exact Blk.newAt _ _ _ (by simp)
  have LB0 := Lib.hid (show LadsB (fun _ => True) W1 t (.slice (some ⟨w.heap.size + 1, 0, none⟩) 1 1) (membersK ls rs 0) from ⟨w.heap.size + 1, 1, _, rfl, k1, fun i x hx => by
    rw [HM0.out] at hx
    have hi := (List.getElem?_eq_some_iff.1 hx).1
    obtain rfl : i = 0 := by simpa using hi
    obtain rfl : ([] : List Sh) = x := by simpa using hx
    have hld : LadP (fun _ => True) W1 none [] := ⟨⟨⟨by simp, by simp⟩, (fun b o h => by cases h)⟩, (fun b o h => by cases h), (fun ad h => by cases h)⟩
    exact ⟨rfl, none, 0, rfl, (fun _ => ⟨rfl, rfl⟩), hld⟩⟩)
  have E1 := Lib.hid e1
  have K0 := Lib.hid k0
  clear hn hr hS hR hrs hz24 hz92 e1 k0 k1
  go_enter Try.func123, Try.ntmps123
  go_wp2
  rw [← hW1]
  clear hW1
  go_loopw [19, 3] (fun i v wr => ∃ (k : Nat) (u : Value), k ≤ n ∧ i = .int .i64 k ∧ u = v ∧ LadsB (fun _ => True) wr t u (membersK ls rs k) ∧ Ext W1 wr) (fun i _ _ => n - (intOf i).toNat)
  case atStart => exact ⟨0, _, Nat.zero_le _, rfl, rfl, LB0.out, Ext.refl _⟩
  case round =>
    obtain ⟨wo, hwo⟩ : ∃ x, x = wr := ⟨_, rfl⟩
    subst hwo
    obtain ⟨k, v3, hk, rfl, rfl, hlb, he⟩ := hrel
    have HLB := Lib.hid hlb
    have HE := Lib.hid he
    clear hlb he
    by_cases hlt : k < n
    · obtain ⟨s, hs⟩ : ∃ s, ls[k]? = some s := ⟨_, List.getElem?_eq_getElem (by rw [HN.out]; exact hlt)⟩
      obtain ⟨r, hr⟩ : ∃ r, rs[k]? = some r := ⟨_, List.getElem?_eq_getElem (by rw [HR.out]; exact hlt)⟩
      obtain ⟨hr1, hr2, hr3⟩ := HRS.out r (List.mem_of_getElem? hr)
      have HMN := Lib.hid (HMK.out k s r hs hr)
      obtain ⟨bA, oA, eA, _, hcA⟩ := HS.out.2 k s hs
      obtain ⟨bR, oR, eR, _, hcR⟩ := HRR.out.2 k r hr
      subst eA eR
      have EW := Lib.hid (E1.out.trans HE.out)
      obtain ⟨L, hL⟩ : ∃ L, L = membersK ls rs k := ⟨_, rfl⟩
      have HL := Lib.hid (show ∀ x ∈ L, x.length = k by rw [hL]; exact HML.out k hk)
      have hsz := HMS.out k hk
      rw [← hL] at HLB HMN hsz
      have hLc : L.length ≤ 256 := Nat.le_trans hsz.2 (Nat.le_trans (Nat.pow_le_pow_right (by decide) hk) (Nat.le_trans (Nat.pow_le_pow_right (by decide) h4) (by decide)))
      obtain ⟨b3, c3, cu3, hv3, hb3, hp3⟩ := HLB.out
      have hb3lt := hb3.lt
      subst hv3
      have HP3 := Lib.hid hp3
      have HB3 := Lib.hid hb3
      obtain ⟨m3, hm3⟩ : ∃ m, m = L.length := ⟨_, rfl⟩
      have HM3 := Lib.hid hm3
      rw [← hm3] at hsz hLc HLB
      have hki : (k : Int) < (n : Int) := by omega
      obtain ⟨Wq, hWq⟩ : ∃ Wq, Wq = wo.alloc (.cells #[.int .i64 r.re, .int .i64 r.im] 132) := ⟨_, rfl⟩
      have xq : Ext wo Wq := by rw [hWq]; exact Ext.alloc _ _
      obtain ⟨W2, hW2⟩ : ∃ W2, W2 = Wq.alloc (.cells #[.int .i64 s.g, .int .i64 s.c, .int .i64 s.h] 92) := ⟨_, rfl⟩
      have hq1 : Wq.heap.size = wo.heap.size + 1 := by rw [hWq]; simp
      have x2 : Ext wo W2 := by rw [hW2]; exact xq.trans (Ext.alloc _ _)
      have k5 : Blk W2 wo.heap.size 132 #[.int .i64 r.re, .int .i64 r.im] := by rw [hW2]; exact (by rw [hWq]; exact Blk.new _ _ _ : Blk Wq wo.heap.size 132 _).alloc _
      have k6 : Blk W2 (wo.heap.size + 1) 92 #[.int .i64 s.g, .int .i64 s.c, .int .i64 s.h] := by rw [hW2]; exact Blk.newAt _ _ _ hq1.symm
      have a0 : wo.cell? ⟨bR, oR + k * 2, none⟩ = some (.int .i64 r.re) := EW.out.cell (hcR 0 _ rfl)
      have a1 : wo.cell? ⟨bR, oR + k * 2 + 1, none⟩ = some (.int .i64 r.im) := EW.out.cell (hcR 1 _ rfl)
      have a2 : Wq.cell? ⟨bA, oA + k * 3, none⟩ = some (.int .i64 s.g) := xq.cell (EW.out.cell (hcA 0 _ rfl))
      have a3 : Wq.cell? ⟨bA, oA + k * 3 + 1, none⟩ = some (.int .i64 s.c) := xq.cell (EW.out.cell (hcA 1 _ rfl))
      have a4 : Wq.cell? ⟨bA, oA + k * 3 + 2, none⟩ = some (.int .i64 s.h) := xq.cell (EW.out.cell (hcA 2 _ rfl))
      have a5 : Wq.cell? ⟨w.heap.size, 1, none⟩ = some (.slice (some ⟨bA, oA, none⟩) n ca) := xq.cell ((K0.out.ext HE.out).cell 1)
      have hw1 : W2.heap.size = wo.heap.size + 1 + 1 := by rw [hW2]; simp [hq1]
      have INC := Lib.hid (show InC wo t L s r (.slice (some ⟨b3, 0, none⟩) L.length c3) W2.heap.size [] (.slice none 0 0) W2 from
        ⟨⟨[], World.ownsRow_nil _ _ _ _, rfl, fun i x hx => by simp at hx⟩, k5, ⟨_, k6⟩, (⟨b3, c3, cu3, rfl, HB3.out.ext x2, HP3.out.keep (fun _ _ => rfl) (fun _ _ _ b => b.ext x2) (fun b cs _ k => by have := k.lt; omega)⟩ : LadsB _ _ _ _ _), x2⟩)
      have HWQ := Lib.hid hWq
      have HW2 := Lib.hid hW2
      have hb3b : ∀ b o n c, (.slice (some ⟨b3, 0, none⟩) L.length c3 : Value) = .slice (some ⟨b, o, none⟩) n c → b < W2.heap.size := fun b o n c e => by
        simp only [Value.slice.injEq, Option.some.injEq, Addr.mk.injEq] at e
        omega
      have HB3B := Lib.hid hb3b
      have X2 := Lib.hid x2
      have hw1' : wo.heap.size ≤ W2.heap.size := by omega
      clear hs hr hL hcA hcR hp3 hb3 hm3 hWq hW2 x2 xq k5 k6 hb3b
      have HQ1 := Lib.hid hq1
      clear hq1
      rw [← HM3.out] at INC HB3B ⊢
      go_upto_region 5 with (fail)
      rw [← HWQ.out]
      go_wp2
      rw [← HW2.out, HQ1.out]
      clear a0 a1 a2 a3 a4 a5 HWQ HW2
      have HZ := Lib.hid (growAt_zero L s r)
      go_loopw [32, 7] (fun i v w2 => ∃ (i' : Nat) (u : Value), i' ≤ m3 ∧ i = .int .i64 i' ∧ u = v ∧ InC wo t L s r (.slice (some ⟨b3, 0, none⟩) m3 c3) W2.heap.size (growAt L s r i' 0) u w2) (fun i _ _ => m3 - (intOf i).toNat)
      case atStart => exact ⟨0, _, Nat.zero_le _, rfl, rfl, by rw [HZ.out]; exact INC.out⟩
      case round =>
        obtain ⟨w2, hwo2⟩ : ∃ x, x = wr := ⟨_, rfl⟩
        subst hwo2
        obtain ⟨i', v7, hi', rfl, rfl, hinc⟩ := hrel
        have HI := Lib.hid hinc
        clear hinc
        by_cases hlt2 : i' < m3
        · obtain ⟨x, hx⟩ : ∃ x, L[i']? = some x := ⟨_, List.getElem?_eq_getElem (by rw [← HM3.out]; exact hlt2)⟩
          obtain ⟨b3', c3', cu3', e3, hb3', hp3'⟩ := HI.out.all
          obtain ⟨rfl, rfl⟩ : b3 = b3' ∧ c3 = c3' := by simp only [Value.slice.injEq, Option.some.injEq, Addr.mk.injEq] at e3; omega
          obtain ⟨p1, Ax, cx, p2, p3, p4⟩ := hp3' i' x hx
          have hxk := HL.out x (List.mem_of_getElem? hx)
          have q0 : w2.cell? ⟨b3, i' * 2, none⟩ = some (.int .i64 t) := by rw [hb3'.cell]; exact p1
          have q1 : w2.cell? ⟨b3, i' * 2 + 1, none⟩ = some (.slice Ax k cx) := by rw [hb3'.cell, ← hxk]; exact p2
          have HG := Lib.hid (show L.getD i' [] = x by rw [List.getD, hx]; rfl)
          obtain ⟨W3, hW3⟩ : ∃ W3, W3 = w2.alloc (.cells #[.int .i64 t, .slice Ax k cx] 24) := ⟨_, rfl⟩
          have x3 : Ext w2 W3 := by rw [hW3]; exact Ext.alloc _ _
          have k9 : Blk W3 w2.heap.size 24 #[.int .i64 t, .slice Ax k cx] := by rw [hW3]; exact Blk.new _ _ _
          have HXK := Lib.hid hxk
          have HW3 := Lib.hid hW3
          have K9 := Lib.hid k9
          have PX := Lib.hid (p4.keep (q := fun b => b < wo.heap.size + 1) (fun b cs _ kk => kk.ext x3) (fun b cs h _ => h))
          have PN := Lib.hid (show Ax = none → k = 0 ∧ cx = 0 by rw [← hxk]; exact p3)
          have HI3 := Lib.hid (HI.out.ext x3)
          have hkb5 : W3.cell? ⟨wo.heap.size, 0, none⟩ = some (.int .i64 r.re) := HI3.out.b5.cell 0
          have hown7 : ∃ xs, w2.ownsRow W2.heap.size 24 2 v7 (growAt L s r i' 0).length xs := by obtain ⟨xs, h, _⟩ := HI.out.own; exact ⟨xs, h⟩
          have hne9 : v7.ownBlock ≠ some w2.heap.size := by
            obtain ⟨xs, h⟩ := hown7
            intro e
            rcases h.2 with ⟨rfl, _⟩ | ⟨g, cap, cu, rfl, _, hh, _⟩
            · cases e
            · have : g < w2.heap.size := (show Blk w2 g 24 cu from hh).lt
              simp [Value.ownBlock] at e
              omega
          have HNE := Lib.hid hne9
          have hii : (i' : Int) < (m3 : Int) := by omega
          have hge2 : W2.heap.size ≤ w2.heap.size := by
            obtain ⟨gg, h6⟩ := HI.out.b6
            have := h6.lt
            omega
          clear hx e3 hb3' hp3' p1 p2 p3 p4 hW3 x3 k9 hown7 hne9 hxk
          go_upto_region 10 with (fail)
          rw [← HW3.out]
          clear q0 q1
          go_wp2
          go_loopw [10, 7] (fun nv v w3 => ∃ (j : Nat) (u : Value), (j : Int) ≤ r.im - r.re + 1 ∧ nv = .int .i64 (r.re + (j : Int)) ∧ u = v ∧ InC wo t L s r (.slice (some ⟨b3, 0, none⟩) m3 c3) W2.heap.size (growAt L s r i' j) u w3 ∧ Blk w3 w2.heap.size 24 #[.int .i64 t, .slice Ax k cx] ∧ u.ownBlock ≠ some w2.heap.size ∧ LadP (fun b => b < wo.heap.size + 1) w3 Ax x) (fun nv _ _ => (r.im + 1 - intOf nv).toNat)
          case atStart => exact ⟨0, _, by omega, by simp, rfl, HI3.out, K9.out, HNE.out, PX.out⟩
          case round =>
            obtain ⟨w3, hwo3⟩ : ∃ x, x = wr := ⟨_, rfl⟩
            subst hwo3
            obtain ⟨j, v8, hj, rfl, rfl, hi8, h98, hne8, hp8⟩ := hrel
            have z5 : w3.cell? ⟨wo.heap.size, 1, none⟩ = some (.int .i64 r.im) := hi8.b5.cell 1
            by_cases hlt3 : r.re + (j : Int) ≤ r.im
            · obtain ⟨gg, h6⟩ := hi8.b6
              have z6 : w3.cell? ⟨wo.heap.size + 1, 0, none⟩ = some (.int .i64 gg) := h6.cell 0
              have f6 := h6.free 0
              obtain ⟨is6, ks6⟩ := hi8.set6 (r.re + (j : Int))
              obtain ⟨Wa, hWa⟩ : ∃ Wa, Wa = w3.setCell ⟨wo.heap.size + 1, 0, none⟩ (.int .i64 (r.re + (j : Int))) := ⟨_, rfl⟩
              have k9a : Blk Wa w2.heap.size 24 #[.int .i64 t, .slice Ax k cx] := by rw [hWa]; exact h98.setOther (set_ne_type h98 h6 (by decide)) _
              have pxa : LadP (fun b => b < wo.heap.size + 1) Wa Ax x := by rw [hWa]; exact hp8.keep (fun b cs hb kk => kk.setOther (by dsimp only; omega) _) (fun b cs hb _ => hb)
              rw [← hWa] at is6 ks6
              have IA := Lib.hid is6
              have KA := Lib.hid ks6
              have K9A := Lib.hid k9a
              have PXA := Lib.hid pxa
              have HWA := Lib.hid hWa
              have HNE8 := Lib.hid hne8
              have HLA := Lib.hid (growAt_next (L := L) (s := s) (r := r) (i := i') (j := j) (by omega))
              have hg9lt : w2.heap.size < Wa.heap.size := k9a.lt
              have hg6lt : wo.heap.size + 1 < Wa.heap.size := ks6.lt
              have hbaseA : W2.heap.size ≤ Wa.heap.size := by omega
              clear hi8 h98 hne8 hp8 h6 is6 ks6 k9a pxa hWa
              go_upto_region 14 with (fail)
              rw [← HWA.out]
              clear z5 z6 f6
              have s0 : Wa.cell? ⟨w2.heap.size, 0, none⟩ = some (.int .i64 t) := K9A.out.cell 0
              have s1 : Wa.cell? ⟨w2.heap.size, 1, none⟩ = some (.slice Ax k cx) := K9A.out.cell 1
              have s2 : Wa.cell? ⟨wo.heap.size + 1, 0, none⟩ = some (.int .i64 (r.re + (j : Int))) := KA.out.cell 0
              have s3 : Wa.cell? ⟨wo.heap.size + 1, 1, none⟩ = some (.int .i64 s.c) := KA.out.cell 1
              have s4 : Wa.cell? ⟨wo.heap.size + 1, 2, none⟩ = some (.int .i64 s.h) := KA.out.cell 2
              have HCL := Lib.hid (fun W (e : Ext Wa W) => clone_any Ax k cx x HXK.out W (PXA.out.1.1.ext e) (by omega) PN.out)
              obtain ⟨xs8, o1, o2, o3⟩ := IA.out.own
              have HM8L := growAt_size (L := L) (s := s) (r := r) i' j
              have HMB : (growAt L s r i' j).length ≤ 4000 := by
                have h1 : (L.length + 1) * (r.im - r.re + 1).toNat ≤ (L.length + 1) * 4 := Nat.mul_le_mul_left _ (by omega)
                have h2 := HM3.out
                omega
              have O1 := Lib.hid o1
              have O2 := Lib.hid o2
              have O3 := Lib.hid o3
              have N6 := Lib.hid (own_notBlk o1 KA.out (by decide))
              clear o1 o2 o3 HM8L
              obtain ⟨M8, hM8⟩ : ∃ M, M = growAt L s r i' j := ⟨_, rfl⟩
              rw [← hM8] at HMB O1 O2 O3 HLA IA
              have HM8 := Lib.hid hM8
              clear hM8
              go_region_held3 (fun w' => w'.cell? ⟨w2.heap.size, 0, none⟩ = some (.int .i64 t) ∧ w'.cell? ⟨w2.heap.size, 1, none⟩ = some (.slice Ax k cx) ∧ w'.cell? ⟨wo.heap.size + 1, 0, none⟩ = some (.int .i64 (r.re + (j : Int))) ∧ w'.cell? ⟨wo.heap.size + 1, 1, none⟩ = some (.int .i64 s.c) ∧ w'.cell? ⟨wo.heap.size + 1, 2, none⟩ = some (.int .i64 s.h))
                (first | go_keep | (refine ⟨?_, ?_, ?_, ?_, ?_⟩ <;> (first | exact Ext.cell hx54 (by assumption) | exact Ext.cell hy51 (by assumption))) | (exact ⟨k9'.cell 0, k9'.cell 1, k6'.cell 0, k6'.cell 1, k6'.cell 2⟩))
                (first
                  | (go_at_call 134; refine (HCL.out _ (by first | exact Ext.refl _ | exact Ext.drew _ | exact (Ext.drew _).trans (Ext.alloc _ _) | exact Ext.alloc _ _)).mono ?_; rintro e w51 ⟨v51, rfl, hown51, hx51⟩; have hy51 : Ext Wa w51 := (by first | exact hx51 | exact (Ext.drew _).trans hx51 | exact ((Ext.drew _).trans (Ext.alloc _ _)).trans hx51))
                  | (refine step_append_lies _ (by rfl) _ _ _ (by rfl) Wa.heap.size 92 i92 _ 3 24 Try.underlying22 hi92 HZ92.out hy92 hw92 rfl (by omega) v51 k (x.flatMap Sh.enc) (by rfl) ((own_mono hown51 (by simp)).alloc _) ⟨w51.heap.size, 0, none⟩ 1 1 [.int .i64 (r.re + (j : Int)), .int .i64 s.c, .int .i64 s.h] (by rfl) (by rfl) (World.news_of_block (cs := #[.int .i64 (r.re + (j : Int)), .int .i64 s.c, .int .i64 s.h]) (t := 92) (fr := (0, 0)) (heap_alloc_new w51 _)) (by simp [Value.oneCell']) (by omega) (by unfold maxLen; omega) (by omega) (by have := hy51.size; simp; omega) (w51.heap.size + 1) (by simp) ?_; intro g54 c54 w54 hown54 hg54 hat54 hlt54; have hx54 : Ext Wa w54 := Ext.grownBy (hy51.trans (Ext.alloc _ _)) hg54 (fun g hg => by have := own_base hown51 hg; simp at this; omega))
                  | (refine step_append_lies _ (by rfl) _ _ _ (by rfl) Wa.heap.size 92 i92 _ 3 24 Try.underlying22 hi92 HZ92.out hy92 hw92 rfl (by omega) v51 k (x.flatMap Sh.enc) (by rfl) (own_mono hown51 (by simp)) ⟨Wa.heap.size, 0, none⟩ 1 1 [.int .i64 (r.re + (j : Int)), .int .i64 s.c, .int .i64 s.h] (by rfl) (by rfl) (World.news_of_block (cs := #[.int .i64 (r.re + (j : Int)), .int .i64 s.c, .int .i64 s.h]) (t := 92) (fr := (0, 0)) ((hx51.block _ (by simp)).trans (by first | exact heap_alloc_new Wa.drew (.cells #[.int .i64 (r.re + (j : Int)), .int .i64 s.c, .int .i64 s.h] 92) | exact heap_alloc_new Wa (.cells #[.int .i64 (r.re + (j : Int)), .int .i64 s.c, .int .i64 s.h] 92)))) (by simp [Value.oneCell']) (by omega) (by unfold maxLen; omega) (by omega) (by have := hy51.size; omega) w51.heap.size rfl ?_; intro g54 c54 w54 hown54 hg54 hat54 hlt54; have hx54 : Ext Wa w54 := Ext.grownBy hy51 hg54 (fun g hg => by have := own_base hown51 hg; simp at this; omega))
                  | (refine step_append_lies _ (by rfl) _ _ _ (by rfl) W2.heap.size 24 i24 _ 2 32 Try.underlying172 hi24 HZ24.out hy24 hw24 rfl (by omega) v8 M8.length xs8 (by rfl) (own_ext O1.out (hx54.trans (Ext.alloc _ _))) ⟨w54.heap.size, 0, none⟩ 1 1 [.int .i64 t, .slice (some ⟨g54, 0, none⟩) (k + 1) c54] (by rfl) (by rfl) (World.news_of_block (cs := #[.int .i64 t, .slice (some ⟨g54, 0, none⟩) (k + 1) c54]) (t := 24) (fr := (0, 0)) (heap_alloc_new w54 _)) (by simp [Value.oneCell']) (by omega) (by unfold maxLen; omega) (by omega) (by have := hx54.size; simp; omega) (w54.heap.size + 1) (by simp) ?_; intro g57 c57 w57 hown57 hg57 hat57 hlt57; have k9' : Blk w57 w2.heap.size 24 #[.int .i64 t, .slice Ax k cx] := (hg57.block _ (((K9A.out.ext hx54).alloc _).lt) (fun e => HNE8.out e.symm)).trans ((K9A.out.ext hx54).alloc _); have k6' : Blk w57 (wo.heap.size + 1) 92 #[.int .i64 (r.re + (j : Int)), .int .i64 s.c, .int .i64 s.h] := (hg57.block _ (((KA.out.ext hx54).alloc _).lt) N6.out).trans ((KA.out.ext hx54).alloc _)))
              all_goals
                have hyl : (x ++ [{ s with g := r.re + (j : Int) }]).length = k + 1 := by rw [List.length_append, List.length_singleton, HXK.out]
                have hge54 : Wa.heap.size ≤ g54 := own_base hown54 rfl
                have hrow : LadAt w54 (some ⟨g54, 0, none⟩) (x ++ [{ s with g := r.re + (j : Int) }]) := lad_own hyl (by omega) (by rw [List.flatMap_append]; exact hown54)
                have hladp : LadP (fun b => wo.heap.size + 1 < b) (w54.alloc (.cells #[.int .i64 t, .slice (some ⟨g54, 0, none⟩) (k + 1) c54] 24)) (some ⟨g54, 0, none⟩) (x ++ [{ s with g := r.re + (j : Int) }]) :=
                  ⟨hrow.ext (Ext.alloc _ _), (fun b o e => by simp only [Option.some.injEq, Addr.mk.injEq] at e; omega), (fun ad e => by simp only [Option.some.injEq] at e; rw [← e])⟩
                have e56 : Ext Wa (w54.alloc (.cells #[.int .i64 t, .slice (some ⟨g54, 0, none⟩) (k + 1) c54] 24)) := hx54.trans (Ext.alloc _ _)
                have hpush := (IA.out.ext e56).push HB3B.out hw1' (own_ext O1.out e56) O2.out (O3.out.keep (fun _ _ => rfl) (fun _ _ _ b => b.ext e56) (fun _ _ h _ => h)) (A := some ⟨g54, 0, none⟩) (c := c54) (fun e => by cases e) hladp (by rw [hyl]; exact hown57) hg57
                have HPUSH := Lib.hid (show InC wo t L s r (.slice (some ⟨b3, 0, none⟩) m3 c3) W2.heap.size (growAt L s r i' (j + 1)) (.slice (some ⟨g57, 0, none⟩) (M8.length + 1) c57) w57 by rw [HLA.out, HG.out]; exact hpush)
                have HK9 := Lib.hid k9'
                have HNX := Lib.hid (show (.slice (some ⟨g57, 0, none⟩) (M8.length + 1) c57 : Value).ownBlock ≠ some w2.heap.size from fun e => by
                  have hgn : g57 = w2.heap.size := by simpa [Value.ownBlock] using e
                  rcases hat57 with h | h
                  · exact HNE8.out (by rw [h, hgn])
                  · have := hx54.size; omega)
                have HPX := Lib.hid (PXA.out.keep (W' := w57) (q := fun b => b < wo.heap.size + 1) (fun b cs _ kk => (hg57.block _ (kk.ext e56).lt (own_notBlk (own_ext O1.out e56) (kk.ext e56) (by decide))).trans (kk.ext e56)) (fun b cs h _ => h))
                clear hyl hge54 hrow hladp e56 hpush k9' k6' hown57 hg57 hat57 hlt57 hown54 hg54 hat54 hlt54 hx54 hown51 hx51 hy51 s0 s1 s2 s3 s4
                go_wp2
                go_roundw
                case rel => exact ⟨j + 1, _, by omega, by rw [show r.re + ((j + 1 : Nat) : Int) = r.re + (j : Int) + 1 by omega], rfl, HPUSH.out, HK9.out, HNX.out, HPX.out⟩
                case measure => simp [intOf]; omega
            · have hje : j = (r.im - r.re + 1).toNat := by omega
              have HRW := Lib.hid (growAt_row (L := L) (s := s) (r := r) (i := i') (by rw [← HM3.out]; exact hlt2) (j := j) (by rw [irange_len]; omega))
              have HIN := Lib.hid (show InC wo t L s r (.slice (some ⟨b3, 0, none⟩) m3 c3) W2.heap.size (growAt L s r (i' + 1) 0) v8 w3 by rw [← HRW.out]; exact hi8)
              clear hi8 h98 hne8 hp8 hje
              go_wp2
              go_roundw
              case rel => exact ⟨i' + 1, _, by omega, by go_num, rfl, HIN.out⟩
              case measure => simp [intOf]; omega
        · obtain rfl : m3 = i' := by omega
          have HEN := Lib.hid (show growAt L s r m3 0 = membersK ls rs (k + 1) by rw [HMN.out]; exact growAt_end (by rw [← HM3.out]; omega))
          have HF := Lib.hid (show LadsB (fun _ => True) w2 t v7 (membersK ls rs (k + 1)) from by
            obtain ⟨xs, h1, h2, h3⟩ := HI.out.own
            rw [HEN.out] at h1 h3
            exact lads_own rfl (HMS.out (k + 1) (by omega)).1 h1 (h3.keep (fun _ _ => rfl) (fun _ _ _ b => b) (fun _ _ _ _ => trivial)))
          have HX := Lib.hid HI.out.below
          go_wp2
          go_roundw
          case rel => exact ⟨k + 1, _, by omega, by go_num, rfl, HF.out, HE.out.trans HX.out⟩
          case measure => simp [intOf]; omega
    · obtain rfl : n = k := by omega
      go_wp2
      go_ret
      exact ⟨_, rfl, HLB.out, E1.out.trans HE.out⟩

end Go.Proofs.Ytpaoeghdfeekoaa
