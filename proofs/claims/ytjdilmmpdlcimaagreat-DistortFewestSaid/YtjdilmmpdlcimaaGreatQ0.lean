/- Own rows: appends and copies. -/
import Derived.Test.YtjdilmmpdlcimaaGreatB5
import Derived.Lib.MinMax
import Derived.Laws.AppendOwn
import Derived.Laws.AppendOwnNone

namespace Go.Proofs.YtjdilmmpdlcimaaGreat
open Go.RowKit Go.Shelf Go.Mem Go.RegInv
attribute [local go_sem] RelUpon_value RelUpon_skip RelUpon_enter BigFrame.eval_const BigFrame.eval_global BigFrame.eval_func

theorem info_parts {P : Program} {T : TypeId} {z : Value} {s b : Nat} (h : (P.info? T).map (fun i => (i.zero, i.size, i.bytes)) = some (some z, s, b)) : ∃ i, P.info? T = some i ∧ i.zero = some z ∧ i.size = s ∧ i.bytes = b := by
  rcases hi : P.info? T with _ | i
  · rw [hi] at h; cases h
  · rw [hi] at h
    simp at h
    exact ⟨i, rfl, h.1, h.2.1, h.2.2⟩
theorem own_base {W : World} {base : Nat} {e : TypeId} {size : Nat} {v : Value} {n : Nat} {xs : List Value} (r : W.ownsRow base e size v n xs) {g : Nat} (h : v.ownBlock = some g) : base ≤ g := by
  rcases r.2 with ⟨rfl, _⟩ | ⟨g', cap, cur, rfl, h2, _⟩
  · simp [Value.ownBlock] at h
  · simp [Value.ownBlock] at h; omega
theorem own_slice {W : World} {base n k : Nat} {e : TypeId} {v : Value} {xs : List Value} (h : W.ownsRow base e k v n xs) : ∃ A c, v = .slice A n c := by
  rcases h.2 with ⟨rfl, rfl⟩ | ⟨g, cap, cu, rfl, _⟩
  · exact ⟨none, 0, by have := h.1; simp⟩
  · exact ⟨_, cap, rfl⟩
theorem own_ext {W W' : World} {base n k : Nat} {e : TypeId} {v : Value} {xs : List Value} (h : W.ownsRow base e k v n xs) (x : Ext W W') : W'.ownsRow base e k v n xs := by
  refine ⟨h.1, ?_⟩
  rcases h.2 with h2 | ⟨g, cap, cu, hv, hg, hh, r⟩
  · exact .inl h2
  · exact .inr ⟨g, cap, cu, hv, hg, (show Blk W' g e cu from (show Blk W g e cu from hh).ext x), r⟩
theorem own_none (W : World) (base : Nat) (e : TypeId) (size : Nat) : W.ownsRow base e size (.slice none 0 0) 0 [] := ⟨by simp, .inl ⟨rfl, rfl⟩⟩
theorem own_cells {W : World} {base n k : Nat} {e : TypeId} {v : Value} {xs : List Value} (h : W.ownsRow base e k v n xs) (h1 : 1 ≤ n) : ∃ g c cu, v = .slice (some ⟨g, 0, none⟩) n c ∧ base ≤ g ∧ n ≤ c ∧ Blk W g e cu ∧ ∀ (i : Nat) (u : Value), xs[i]? = some u → cu[i]? = some u := by
  rcases h.2 with ⟨_, rfl⟩ | ⟨g, cap, cu, rfl, hb, hh, hc, _, hs, ht⟩
  · omega
  · refine ⟨g, cap, cu, rfl, hb, hc, hh, fun i u hi => ?_⟩
    rw [← ht] at hi
    have := (List.getElem?_eq_some_iff.1 hi).1
    rw [List.getElem?_take_of_lt (by simp at this; omega)] at hi
    simpa using hi
theorem rows_own {α : Type} {W : World} {base n k : Nat} {e : TypeId} {A : Option Addr} {c : Nat} {enc : α → List Value} {xs : List α} (hl : xs.length = n) (hk : ∀ x, (enc x).length = k) (h : W.ownsRow base e k (.slice A n c) n (xs.flatMap enc)) (hn : n ≤ 1152921504606846976) : RowsAt k enc W A xs := by
  refine ⟨by omega, fun i x hx => ?_⟩
  have hi := (List.getElem?_eq_some_iff.1 hx).1
  obtain ⟨g, c', cu, he, _, _, hb, hc⟩ := own_cells h (by omega)
  obtain ⟨rfl, rfl⟩ : A = some ⟨g, 0, none⟩ ∧ c = c' := by simpa using he
  refine ⟨g, 0, rfl, hb.lt, fun j u hu => ?_⟩
  rw [hb.cell]
  have hj := (List.getElem?_eq_some_iff.1 hu).1
  rw [hk] at hj
  rw [show 0 + i * k + j = i * k + j by omega]
  refine hc _ _ ?_
  have key : ∀ (l : List α) (i : Nat), l[i]? = some x → (l.flatMap enc)[i * k + j]? = some u := by
    intro l
    induction l with
    | nil => intro i h; simp at h
    | cons y l ih =>
      intro i h
      cases i with
      | zero =>
        obtain rfl : y = x := by simpa using h
        rw [List.flatMap_cons, List.getElem?_append_left (by rw [hk]; omega)]
        simpa using hu
      | succ i =>
        rw [List.flatMap_cons, List.getElem?_append_right (by rw [hk, Nat.succ_mul]; omega), hk, show (i + 1) * k + j - k = i * k + j by rw [Nat.succ_mul]; omega]
        exact ih i (by simpa using h)
  exact key xs i hx

theorem own_notBlk {W : World} {base : Nat} {e : TypeId} {size : Nat} {v : Value} {n : Nat} {xs : List Value} (r : W.ownsRow base e size v n xs) {g : Nat} {t : TypeId} {cs : Array Value} (b : Blk W g t cs) (hne : t ≠ e) : some g ≠ v.ownBlock := by
  rcases r.2 with ⟨rfl, _⟩ | ⟨g', cap, cur, rfl, h2, h3, _⟩
  · simp [Value.ownBlock]
  · intro he
    obtain rfl : g = g' := by simpa [Value.ownBlock] using he
    unfold Blk at b
    rw [h3] at b
    simp at b
    exact hne b.2.symm
theorem flat_idx {α : Type} {k : Nat} {enc : α → List Value} (hp : 0 < k) (hk : ∀ x, (enc x).length = k) : ∀ (xs : List α) (j : Nat) (u : Value), (xs.flatMap enc)[j]? = some u → ∃ x, xs[j / k]? = some x ∧ (enc x)[j % k]? = some u
  | [], j, u, h => by simp at h
  | s :: l, j, u, h => by
    rw [List.flatMap_cons] at h
    by_cases hj : j < k
    · rw [List.getElem?_append_left (by rw [hk]; exact hj)] at h
      exact ⟨s, by rw [Nat.div_eq_of_lt hj]; rfl, by rw [Nat.mod_eq_of_lt hj]; exact h⟩
    · rw [List.getElem?_append_right (by rw [hk]; omega), hk] at h
      obtain ⟨x, h1, h2⟩ := flat_idx hp hk l (j - k) u h
      exact ⟨x, by rw [Nat.div_eq_sub_div hp (by omega)]; simpa using h1, by rw [Nat.mod_eq_sub_mod (by omega)]; exact h2⟩
theorem flat_lenG {α : Type} {k : Nat} {enc : α → List Value} (hk : ∀ x, (enc x).length = k) : ∀ (xs : List α), (xs.flatMap enc).length = xs.length * k
  | [] => by simp
  | s :: l => by rw [List.flatMap_cons, List.length_append, flat_lenG hk l, hk, List.length_cons, Nat.succ_mul]; omega
theorem flat_one {α : Type} {enc : α → List Value} (h : ∀ x, ∀ u ∈ enc x, u.oneCell' = true) (xs : List α) : ∀ u ∈ xs.flatMap enc, u.oneCell' = true := by
  intro u hu
  obtain ⟨x, _, hx⟩ := List.mem_flatMap.1 hu
  exact h x u hx

theorem rows_setOther {α : Type} {k : Nat} {enc : α → List Value} {W : World} {A : Option Addr} {xs : List α} (h : RowsAt k enc W A xs) {p : Addr} (hp : ∀ b o, A = some ⟨b, o, none⟩ → b ≠ p.block) (v : Value) : RowsAt k enc (W.setCell p v) A xs :=
  ⟨h.1, fun i x hx => by
    obtain ⟨b, o, hA, hb, hc⟩ := h.2 i x hx
    refine ⟨b, o, hA, by simpa using hb, fun j u hu => ?_⟩
    have hs : (W.setCell p v).heap[b]? = W.heap[b]? := Below.heap_setCell W p v b (hp b o hA)
    have := hc j u hu
    simpa [World.cell?, hs] using this⟩

theorem wpList_copyC {α : Type} {W : World} {ops : Array Oper} {rest : List Oper} {o : Oper} {a : Act} {Q : Exit → Act → World → Prop} (hgd : o.guard = none) (s x : Operand) (t : TypeId)
    (ho : o.op = .call { callee := .builtin .append, args := #[s, x], argTypes := #[t, t] })
    (e : TypeId) (i : TypeInfo) (z : Value) (size bytes : Nat) (ht : Tryz.prog.underlying t = some (.slice e)) (hi : Tryz.prog.info? e = some i) (hz : i.zero = some z)
    (hsize : i.size = size) (hby : i.bytes = bytes) (hzs : z.cells.size = size) (hsz : 0 < size) (hb1 : bytes ≤ 1000)
    (enc : α → List Value) (hk : ∀ x, (enc x).length = size) (h1 : ∀ x, ∀ u ∈ enc x, u.oneCell' = true)
    (hs : a.eval s = .slice (some ⟨W.heap.size, 0, none⟩) 0 0) (A : Option Addr) (n ca : Nat) (xs : List α) (hx : a.eval x = .slice A n ca) (hn : xs.length = n) (hA : RowsAt size enc W A xs) (h6 : n ≤ 1000) (hnil : A = none → ca = 0)
    (h : ∀ A' c' w', RowsAt size enc w' A' xs → Ext W w' → (∀ b o, A' = some ⟨b, o, none⟩ → W.heap.size ≤ b) → (A' = none → c' = 0) → n ≤ c' → wpList Tryz.prog ops Q rest (a.put o.dst (.slice A' n c')) w') :
    wpList Tryz.prog ops Q (o :: rest) a (W.alloc (.cells #[] e)) := by
  have hown : (W.alloc (.cells #[] e)).ownsRow W.heap.size e size (.slice (some ⟨W.heap.size, 0, none⟩) 0 0) 0 [] :=
    ⟨by simp, .inr ⟨W.heap.size, 0, #[], rfl, Nat.le_refl _, Blk.new W e #[], Nat.le_refl _, by unfold maxLen; omega, by simp, by simp⟩⟩
  cases A with
  | none =>
    obtain rfl : xs = [] := by
      cases xs with
      | nil => rfl
      | cons x l => obtain ⟨b, o, h, _⟩ := hA.2 0 x rfl; cases h
    obtain rfl := hnil rfl
    obtain rfl : n = 0 := by simpa using hn.symm
    refine wpList_append_own_none hgd s x t ho W.heap.size e i size ht hi _ _ _ hs hown hx ?_
    exact h _ _ _ ⟨by simp, fun i x hx => by simp at hx⟩ (Ext.alloc _ _) (fun b o hb => by simp at hb; omega) (fun h => by cases h) (Nat.zero_le _)
  | some ad =>
    have hnews : ∀ j u, (xs.flatMap enc)[j]? = some u → (W.alloc (.cells #[] e)).cell? (ad.add j) = some u := fun j u hu => by
      obtain ⟨s, hs, hj⟩ := flat_idx (k := size) (enc := enc) hsz hk xs j u hu
      obtain ⟨b, o, e', _, hc⟩ := hA.2 _ s hs
      obtain rfl : ad = ⟨b, o, none⟩ := by simpa using e'
      have := (Ext.alloc W (.cells #[] e)).cell (hc _ _ hj)
      have hdm := Nat.div_add_mod j size
      rw [Nat.mul_comm] at hdm
      rw [WideShapes.add_plain, show o + j = o + j / size * size + j % size by omega]; exact this
    refine wpList_append_own _ hgd s x t ho W.heap.size e i z size bytes ht hi hz hsize hby hzs hsz _ _ _ hs hown ad n ca (xs.flatMap enc) hx (by rw [flat_lenG hk, hn]) hnews (flat_one h1 xs) (by unfold maxLen; omega) (by
      have := Nat.mul_le_mul h6 hb1
      rw [Nat.zero_add]; omega) (by simp) ?_
    intro v' w1 hown' hgrow hnone
    have hE : Ext W w1 := Ext.grownBy (Ext.alloc W _) hgrow (fun g hg => own_base hown hg)
    obtain ⟨A', c', hv'⟩ := own_slice hown'
    rw [Nat.zero_add] at hv'
    subst hv'
    rw [Nat.zero_add, List.nil_append] at hown'
    refine h A' c' w1 (rows_own hn hk hown' (by omega)) hE (fun b o hb => own_base hown' (by rw [hb]; rfl)) (fun hA' => ?_) ?_
    · rcases hown'.2 with ⟨h2, _⟩ | ⟨g, cap, cu, h2, _⟩
      · exact (by simpa using h2 : A' = none ∧ n = 0 ∧ c' = 0).2.2
      · rw [hA'] at h2; simp at h2
    · rcases hown'.2 with ⟨_, h2⟩ | ⟨g, cap, cu, h2, _, _, h3, _⟩
      · omega
      · have : c' = cap := by
          have := congrArg (fun v => match v with | Value.slice _ _ c => c | _ => 0) h2
          simpa using this
        omega


theorem Rg_one : ∀ x, ∀ u ∈ Rg.enc x, u.oneCell' = true := by intro x u hu; simp [Rg.enc] at hu; rcases hu with rfl | rfl <;> rfl
theorem infoRgG : (Tryz.prog.info? 49).map (fun i => (i.zero, i.size, i.bytes)) = some (some (.agg #[.int .i64 0, .int .i64 0]), 2, 16) := by kernel_rfl

theorem Sk_one : ∀ x, ∀ u ∈ Sk.enc x, u.oneCell' = true := by intro x u hu; simp [Sk.enc] at hu; rcases hu with rfl | rfl | rfl <;> rfl
theorem infoSkG : (Tryz.prog.info? 68).map (fun i => (i.zero, i.size, i.bytes)) = some (some (.agg #[.int .i64 0, .int .i64 0, .bool false]), 3, 24) := by kernel_rfl

theorem I1_one : ∀ x, ∀ u ∈ I1 x, u.oneCell' = true := by intro x u hu; simp [I1] at hu; subst hu; rfl
theorem infoI1G : (Tryz.prog.info? 3).map (fun i => (i.zero, i.size, i.bytes)) = some (some (.int .i64 0), 1, 8) := by kernel_rfl

theorem append_Rg {W : World} {base k c : Nat} {R : Option Addr} {xs : List Value} (hown : W.ownsRow base 49 2 (.slice R k c) k xs) (hk : k ≤ 1000) (hbase : base ≤ W.heap.size) {b : Nat} {x : Rg} (hb : Blk W b 49 #[.int .i64 x.1, .int .i64 x.2])
    {o : Oper} {ops : Array Oper} {rest : List Oper} {a : Act} {Q : Exit → Act → World → Prop} (hg : o.guard = none) (p q : Operand) (hop : o.op = .call { callee := .builtin .append, args := #[p, q], argTypes := #[23, 23] }) (_hty : o.type = 23) (he6 : a.eval p = .slice R k c) (he8 : a.eval q = .slice (some ⟨b, 0, none⟩) 1 1)
    (hK : ∀ R' c' w', w'.ownsRow base 49 2 (.slice R' (k + 1) c') (k + 1) (xs ++ (Rg.enc x)) → (∀ b' t' cs, Blk W b' t' cs → t' ≠ 49 → Blk w' b' t' cs) → (∀ w0, Ext w0 W → w0.heap.size ≤ base → Ext w0 w') → W.heap.size ≤ w'.heap.size → wpList Tryz.prog ops Q rest (a.put o.dst (.slice R' (k + 1) c')) w') : wpList Tryz.prog ops Q (o :: rest) a W := by
  obtain ⟨i0, hi, hz0, hz1, hz2⟩ := info_parts infoRgG
  refine wpList_append_own _ hg _ _ 23 hop base 49 i0 (.agg #[.int .i64 0, .int .i64 0]) 2 16 (by kernel_rfl) hi hz0 hz1 hz2 rfl (by decide) _ _ _ he6 hown ⟨b, 0, none⟩ 1 1 (Rg.enc x) he8 rfl (fun j u hu => ?_) (Rg_one x) (by unfold maxLen; omega) (by omega) hbase ?_
  · have := hb.cell j
    rw [WideShapes.add_plain, show 0 + j = j by omega, this]
    match j, hu with
    | 0, hu => exact hu
    | 1, hu => exact hu
    | j + 2, hu => simp [Rg.enc] at hu
  · intro v' w1 hown' hgrow hx
    obtain ⟨A', c', hv'⟩ := own_slice hown'
    subst hv'
    exact hK _ _ _ hown' (fun g t' cs k ht => (hgrow.block _ k.lt (own_notBlk hown k ht)).trans k) (fun w0 e hw => Ext.grownBy e hgrow (fun g hg => by have := own_base hown hg; omega)) (by first | exact hgrow.size | exact hx.1 | omega)

theorem append_Sk {W : World} {base k c : Nat} {R : Option Addr} {xs : List Value} (hown : W.ownsRow base 68 3 (.slice R k c) k xs) (hk : k ≤ 1000) (hbase : base ≤ W.heap.size) {b : Nat} {x : Sk} (hb : Blk W b 68 #[.int .i64 x.j, .int .i64 x.a, .bool x.u])
    {o : Oper} {ops : Array Oper} {rest : List Oper} {a : Act} {Q : Exit → Act → World → Prop} (hg : o.guard = none) (p q : Operand) (hop : o.op = .call { callee := .builtin .append, args := #[p, q], argTypes := #[32, 32] }) (_hty : o.type = 32) (he6 : a.eval p = .slice R k c) (he8 : a.eval q = .slice (some ⟨b, 0, none⟩) 1 1)
    (hK : ∀ R' c' w', w'.ownsRow base 68 3 (.slice R' (k + 1) c') (k + 1) (xs ++ (Sk.enc x)) → (∀ b' t' cs, Blk W b' t' cs → t' ≠ 68 → Blk w' b' t' cs) → (∀ w0, Ext w0 W → w0.heap.size ≤ base → Ext w0 w') → W.heap.size ≤ w'.heap.size → wpList Tryz.prog ops Q rest (a.put o.dst (.slice R' (k + 1) c')) w') : wpList Tryz.prog ops Q (o :: rest) a W := by
  obtain ⟨i0, hi, hz0, hz1, hz2⟩ := info_parts infoSkG
  refine wpList_append_own _ hg _ _ 32 hop base 68 i0 (.agg #[.int .i64 0, .int .i64 0, .bool false]) 3 24 (by kernel_rfl) hi hz0 hz1 hz2 rfl (by decide) _ _ _ he6 hown ⟨b, 0, none⟩ 1 1 (Sk.enc x) he8 rfl (fun j u hu => ?_) (Sk_one x) (by unfold maxLen; omega) (by omega) hbase ?_
  · have := hb.cell j
    rw [WideShapes.add_plain, show 0 + j = j by omega, this]
    match j, hu with
    | 0, hu => exact hu
    | 1, hu => exact hu
    | 2, hu => exact hu
    | j + 3, hu => simp [Sk.enc] at hu
  · intro v' w1 hown' hgrow hx
    obtain ⟨A', c', hv'⟩ := own_slice hown'
    subst hv'
    exact hK _ _ _ hown' (fun g t' cs k ht => (hgrow.block _ k.lt (own_notBlk hown k ht)).trans k) (fun w0 e hw => Ext.grownBy e hgrow (fun g hg => by have := own_base hown hg; omega)) (by first | exact hgrow.size | exact hx.1 | omega)

theorem append_I1 {W : World} {base k c : Nat} {R : Option Addr} {xs : List Value} (hown : W.ownsRow base 3 1 (.slice R k c) k xs) (hk : k ≤ 1000) (hbase : base ≤ W.heap.size) {b : Nat} {x : Int} (hb : Blk W b 3 #[.int .i64 x])
    {o : Oper} {ops : Array Oper} {rest : List Oper} {a : Act} {Q : Exit → Act → World → Prop} (hg : o.guard = none) (p q : Operand) (hop : o.op = .call { callee := .builtin .append, args := #[p, q], argTypes := #[22, 22] }) (_hty : o.type = 22) (he6 : a.eval p = .slice R k c) (he8 : a.eval q = .slice (some ⟨b, 0, none⟩) 1 1)
    (hK : ∀ R' c' w', w'.ownsRow base 3 1 (.slice R' (k + 1) c') (k + 1) (xs ++ (I1 x)) → (∀ b' t' cs, Blk W b' t' cs → t' ≠ 3 → Blk w' b' t' cs) → (∀ w0, Ext w0 W → w0.heap.size ≤ base → Ext w0 w') → W.heap.size ≤ w'.heap.size → wpList Tryz.prog ops Q rest (a.put o.dst (.slice R' (k + 1) c')) w') : wpList Tryz.prog ops Q (o :: rest) a W := by
  obtain ⟨i0, hi, hz0, hz1, hz2⟩ := info_parts infoI1G
  refine wpList_append_own _ hg _ _ 22 hop base 3 i0 (.int .i64 0) 1 8 (by kernel_rfl) hi hz0 hz1 hz2 rfl (by decide) _ _ _ he6 hown ⟨b, 0, none⟩ 1 1 (I1 x) he8 rfl (fun j u hu => ?_) (I1_one x) (by unfold maxLen; omega) (by omega) hbase ?_
  · have := hb.cell j
    rw [WideShapes.add_plain, show 0 + j = j by omega, this]
    match j, hu with
    | 0, hu => exact hu
    | j + 1, hu => simp [I1] at hu
  · intro v' w1 hown' hgrow hx
    obtain ⟨A', c', hv'⟩ := own_slice hown'
    subst hv'
    exact hK _ _ _ hown' (fun g t' cs k ht => (hgrow.block _ k.lt (own_notBlk hown k ht)).trans k) (fun w0 e hw => Ext.grownBy e hgrow (fun g hg => by have := own_base hown hg; omega)) (by first | exact hgrow.size | exact hx.1 | omega)

set_option maxRecDepth 100000 in
set_option maxHeartbeats 1000000 in
theorem copyInts_any {A : Option Addr} {n ca : Nat} {xs : List Int} {w : World} (hn : xs.length = n) (hA : RowsAt 1 I1 w A xs) (h6 : n ≤ 1000) (hnil : A = none → ca = 0) :
    Calls Tryz.prog 30 #[.slice A n ca] w fun e w' => ∃ A' c', e = .returned (.slice A' n c') ∧ RowsAt 1 I1 w' A' xs ∧ (A' = none → c' = 0) ∧ n ≤ c' ∧ (∀ b o, A' = some ⟨b, o, none⟩ → w.heap.size ≤ b) ∧ Ext w w' := by
  obtain ⟨i0, hi0, hz0, ha0, hb0⟩ := info_parts infoI1G
  have I0 := Lib.hid hz0
  have HN := Lib.hid hn
  have HA := Lib.hid hA
  have HL := Lib.hid hnil
  clear hn hA hnil hz0
  go_enter Tryz.func30, Tryz.ntmps30
  go_wp2_with (at_builtin; refine wpList_copyC rfl _ _ 22 rfl 3 i0 (.int .i64 0) 1 8 (by kernel_rfl) hi0 I0.out ha0 hb0 rfl (by decide) (by decide) I1 (fun _ => rfl) I1_one rfl A n ca xs rfl HN.out HA.out (by omega) HL.out ?_; intro A' c' V0 hro hx hlo hnl hcn; have XR := Lib.hid hro; have XX := Lib.hid hx; have XL := Lib.hid hlo; have LN := Lib.hid hnl; have CN := Lib.hid hcn; clear hro hlo hnl hx hcn)
  go_ret
  exact ⟨A', c', rfl, XR.out, LN.out, CN.out, XL.out, XX.out⟩

set_option maxRecDepth 100000 in
set_option maxHeartbeats 1000000 in
theorem copyRanges_any {A : Option Addr} {n ca : Nat} {xs : List Rg} {w : World} (hn : xs.length = n) (hA : RowsAt 2 Rg.enc w A xs) (h6 : n ≤ 1000) (hnil : A = none → ca = 0) :
    Calls Tryz.prog 31 #[.slice A n ca] w fun e w' => ∃ A' c', e = .returned (.slice A' n c') ∧ RowsAt 2 Rg.enc w' A' xs ∧ (A' = none → c' = 0) ∧ n ≤ c' ∧ (∀ b o, A' = some ⟨b, o, none⟩ → w.heap.size ≤ b) ∧ Ext w w' := by
  obtain ⟨i0, hi0, hz0, ha0, hb0⟩ := info_parts infoRgG
  have I0 := Lib.hid hz0
  have HN := Lib.hid hn
  have HA := Lib.hid hA
  have HL := Lib.hid hnil
  clear hn hA hnil hz0
  go_enter Tryz.func31, Tryz.ntmps31
  go_wp2_with (at_builtin; refine wpList_copyC rfl _ _ 23 rfl 49 i0 (.agg #[.int .i64 0, .int .i64 0]) 2 16 (by kernel_rfl) hi0 I0.out ha0 hb0 rfl (by decide) (by decide) Rg.enc (fun _ => rfl) Rg_one rfl A n ca xs rfl HN.out HA.out (by omega) HL.out ?_; intro A' c' V0 hro hx hlo hnl hcn; have XR := Lib.hid hro; have XX := Lib.hid hx; have XL := Lib.hid hlo; have LN := Lib.hid hnl; have CN := Lib.hid hcn; clear hro hlo hnl hx hcn)
  go_ret
  exact ⟨A', c', rfl, XR.out, LN.out, CN.out, XL.out, XX.out⟩

set_option maxRecDepth 100000 in
set_option maxHeartbeats 1000000 in
theorem copyPlan_any {A : Option Addr} {n ca : Nat} {xs : List Sk} {w : World} (hn : xs.length = n) (hA : RowsAt 3 Sk.enc w A xs) (h6 : n ≤ 1000) (hnil : A = none → ca = 0) :
    Calls Tryz.prog 60 #[.slice A n ca] w fun e w' => ∃ A' c', e = .returned (.slice A' n c') ∧ RowsAt 3 Sk.enc w' A' xs ∧ (A' = none → c' = 0) ∧ n ≤ c' ∧ (∀ b o, A' = some ⟨b, o, none⟩ → w.heap.size ≤ b) ∧ Ext w w' := by
  obtain ⟨i0, hi0, hz0, ha0, hb0⟩ := info_parts infoSkG
  have I0 := Lib.hid hz0
  have HN := Lib.hid hn
  have HA := Lib.hid hA
  have HL := Lib.hid hnil
  clear hn hA hnil hz0
  go_enter Tryz.func60, Tryz.ntmps60
  go_wp2_with (at_builtin; refine wpList_copyC rfl _ _ 32 rfl 68 i0 (.agg #[.int .i64 0, .int .i64 0, .bool false]) 3 24 (by kernel_rfl) hi0 I0.out ha0 hb0 rfl (by decide) (by decide) Sk.enc (fun _ => rfl) Sk_one rfl A n ca xs rfl HN.out HA.out (by omega) HL.out ?_; intro A' c' V0 hro hx hlo hnl hcn; have XR := Lib.hid hro; have XX := Lib.hid hx; have XL := Lib.hid hlo; have LN := Lib.hid hnl; have CN := Lib.hid hcn; clear hro hlo hnl hx hcn)
  go_ret
  exact ⟨A', c', rfl, XR.out, LN.out, CN.out, XL.out, XX.out⟩

end Go.Proofs.YtjdilmmpdlcimaaGreat
