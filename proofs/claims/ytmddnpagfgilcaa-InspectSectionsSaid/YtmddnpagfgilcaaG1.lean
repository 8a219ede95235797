/- Copies of tables and of traverses. -/
import Derived.Test.YtmddnpagfgilcaaE4
import Derived.Test.YtmddnpagfgilcaaB7
import Derived.Lib.MinMax

namespace Go.Proofs.Ytmddnpagfgilcaa
open Go.RowKit Go.Shelf Go.Mem Go.RegInv
attribute [local go_sem] RelUpon_value RelUpon_skip RelUpon_enter BigFrame.eval_const BigFrame.eval_global BigFrame.eval_func


theorem flat_idx {α : Type} {k : Nat} {enc : α → List Value} (hp : 0 < k) (hk : ∀ x, (enc x).length = k) : ∀ (xs : List α) (j : Nat) (u : Value), (xs.flatMap enc)[j]? = some u → ∃ x, xs[j / k]? = some x ∧ (enc x)[j % k]? = some u
  | [], j, u, h => by simp at h
  | s :: l, j, u, h => by
    rw [List.flatMap_cons] at h
    by_cases hj : j < k
    · rw [List.getElem?_append_left (by rw [hk]; exact hj)] at h
      exact ⟨s, by rw [Nat.div_eq_of_lt hj]; rfl, by rw [Nat.mod_eq_of_lt hj]; exact h⟩
    · rw [List.getElem?_append_right (by rw [hk]; omega), hk] at h
      obtain ⟨x, h1, h2⟩ := flat_idx hp hk l (j - k) u h
      exact ⟨x, by rw [Nat.div_eq_sub_div hp (by omega)]; simpa using h1, by rw [Nat.mod_eq_sub_mod (by omega)]; exact h2⟩
theorem flat_lenG {α : Type} {k : Nat} {enc : α → List Value} (hk : ∀ x, (enc x).length = k) : ∀ (xs : List α), (xs.flatMap enc).length = xs.length * k
  | [] => by simp
  | s :: l => by rw [List.flatMap_cons, List.length_append, flat_lenG hk l, hk, List.length_cons, Nat.succ_mul]; omega
theorem flat_one {α : Type} {enc : α → List Value} (h : ∀ x, ∀ u ∈ enc x, u.oneCell' = true) (xs : List α) : ∀ u ∈ xs.flatMap enc, u.oneCell' = true := by
  intro u hu
  obtain ⟨x, _, hx⟩ := List.mem_flatMap.1 hu
  exact h x u hx

theorem wpList_copy {α : Type} {W : World} {ops : Array Oper} {rest : List Oper} {o : Oper} {a : Act} {Q : Exit → Act → World → Prop} (hgd : o.guard = none) (s x : Operand) (t : TypeId)
    (ho : o.op = .call { callee := .builtin .append, args := #[s, x], argTypes := #[t, t] })
    (e : TypeId) (i : TypeInfo) (z : Value) (size bytes : Nat) (ht : Try.prog.underlying t = some (.slice e)) (hi : Try.prog.info? e = some i) (hz : i.zero = some z)
    (hsize : i.size = size) (hby : i.bytes = bytes) (hzs : z.cells.size = size) (hsz : 0 < size) (hb1 : bytes ≤ 1000)
    (enc : α → List Value) (hk : ∀ x, (enc x).length = size) (h1 : ∀ x, ∀ u ∈ enc x, u.oneCell' = true)
    (hs : a.eval s = .slice (some ⟨W.heap.size, 0, none⟩) 0 0) (A : Option Addr) (n ca : Nat) (xs : List α) (hx : a.eval x = .slice A n ca) (hn : xs.length = n) (hA : RowsAt size enc W A xs) (h6 : n ≤ 1000) (hnil : A = none → ca = 0)
    (h : ∀ A' c' w', RowsAt size enc w' A' xs → Ext W w' → (∀ b o, A' = some ⟨b, o, none⟩ → W.heap.size ≤ b) → (A' = none → c' = 0) → wpList Try.prog ops Q rest (a.put o.dst (.slice A' n c')) w') :
    wpList Try.prog ops Q (o :: rest) a (W.alloc (.cells #[] e)) := by
  have hown : (W.alloc (.cells #[] e)).ownsRow W.heap.size e size (.slice (some ⟨W.heap.size, 0, none⟩) 0 0) 0 [] :=
    ⟨by simp, .inr ⟨W.heap.size, 0, #[], rfl, Nat.le_refl _, Blk.new W e #[], Nat.le_refl _, by unfold maxLen; omega, by simp, by simp⟩⟩
  cases A with
  | none =>
    obtain rfl : xs = [] := by
      cases xs with
      | nil => rfl
      | cons x l => obtain ⟨b, o, h, _⟩ := hA.2 0 x rfl; cases h
    obtain rfl := hnil rfl
    obtain rfl : n = 0 := by simpa using hn.symm
    refine wpList_append_own_none hgd s x t ho W.heap.size e i size ht hi _ _ _ hs hown hx ?_
    exact h _ _ _ ⟨by simp, fun i x hx => by simp at hx⟩ (Ext.alloc _ _) (fun b o hb => by simp at hb; omega) (fun h => by cases h)
  | some ad =>
    have hnews : ∀ j u, (xs.flatMap enc)[j]? = some u → (W.alloc (.cells #[] e)).cell? (ad.add j) = some u := fun j u hu => by
      obtain ⟨s, hs, hj⟩ := flat_idx (k := size) (enc := enc) hsz hk xs j u hu
      obtain ⟨b, o, e', _, hc⟩ := hA.2 _ s hs
      obtain rfl : ad = ⟨b, o, none⟩ := by simpa using e'
      have := (Ext.alloc W (.cells #[] e)).cell (hc _ _ hj)
      have hdm := Nat.div_add_mod j size
      rw [Nat.mul_comm] at hdm
      rw [WideShapes.add_plain, show o + j = o + j / size * size + j % size by omega]; exact this
    refine wpList_append_own _ hgd s x t ho W.heap.size e i z size bytes ht hi hz hsize hby hzs hsz _ _ _ hs hown ad n ca (xs.flatMap enc) hx (by rw [flat_lenG hk, hn]) hnews (flat_one h1 xs) (by unfold maxLen; omega) (by
      have := Nat.mul_le_mul h6 hb1
      rw [Nat.zero_add]; omega) (by simp) ?_
    intro v' w1 hown' hgrow hnone
    have hE : Ext W w1 := Ext.grownBy (Ext.alloc W _) hgrow (fun g hg => own_base hown hg)
    obtain ⟨A', c', hv'⟩ := own_slice hown'
    rw [Nat.zero_add] at hv'
    subst hv'
    rw [Nat.zero_add, List.nil_append] at hown'
    refine h A' c' w1 (rows_own hn hk hown' (by omega)) hE (fun b o hb => own_base hown' (by rw [hb]; rfl)) (fun hA' => ?_)
    rcases hown'.2 with ⟨h2, _⟩ | ⟨g, cap, cu, h2, _⟩
    · exact (by simpa using h2 : A' = none ∧ n = 0 ∧ c' = 0).2.2
    · rw [hA'] at h2; simp at h2
theorem rows_setOther {α : Type} {k : Nat} {enc : α → List Value} {W : World} {A : Option Addr} {xs : List α} (h : RowsAt k enc W A xs) {p : Addr} (hp : ∀ b o, A = some ⟨b, o, none⟩ → b ≠ p.block) (v : Value) : RowsAt k enc (W.setCell p v) A xs :=
  ⟨h.1, fun i x hx => by
    obtain ⟨b, o, hA, hb, hc⟩ := h.2 i x hx
    refine ⟨b, o, hA, by simpa using hb, fun j u hu => ?_⟩
    have hs : (W.setCell p v).heap[b]? = W.heap[b]? := Below.heap_setCell W p v b (hp b o hA)
    have := hc j u hu
    simpa [World.cell?, hs] using this⟩

theorem Kn_one : ∀ x, ∀ u ∈ Kn.enc x, u.oneCell' = true := by intro x u hu; simp [Kn.enc] at hu; rcases hu with rfl | rfl | rfl <;> rfl
theorem In_one : ∀ x, ∀ u ∈ In.enc x, u.oneCell' = true := by intro x u hu; simp [In.enc] at hu; rcases hu with rfl | rfl | rfl | rfl <;> rfl

theorem info78G : (Try.prog.info? 78).map (fun i => (i.zero, i.size, i.bytes)) = some (some (.agg #[.int .i64 0, .int .i64 0, .int .i64 0]), 3, 24) := by kernel_rfl
set_option maxRecDepth 100000 in
set_option maxHeartbeats 1000000 in
theorem copyTable_any {A : Option Addr} {n ca : Nat} {xs : List Kn} {w : World} (hn : xs.length = n) (hA : RowsAt 3 Kn.enc w A xs) (h6 : n ≤ 1000) (hnil : A = none → ca = 0) :
    Calls Try.prog 35 #[.agg #[.slice A n ca]] w fun e w' => ∃ A' c', e = .returned (.agg #[.slice A' n c']) ∧ RowsAt 3 Kn.enc w' A' xs ∧ (A' = none → c' = 0) ∧ Ext w w' := by
  obtain ⟨i0, hi0, hz0, ha0, hb0⟩ := info_parts info78G
  have I0 := Lib.hid hz0
  obtain ⟨W0, hW0⟩ : ∃ W0, W0 = (w.alloc (.cells #[.slice A n ca] 64)).alloc (.cells #[.slice none 0 0] 64) := ⟨_, rfl⟩
  have K1 := Lib.hid (show Blk W0 (w.heap.size + 1) 64 #[.slice none 0 0] by rw [hW0]; exact Blk.newAt _ _ _ (by simp))
  have E0 := Lib.hid (show Ext w W0 by rw [hW0]; exact (Ext.alloc _ _).trans (Ext.alloc _ _))
  have HSZ := Lib.hid (show W0.heap.size = w.heap.size + 1 + 1 by rw [hW0]; simp)
  have HN := Lib.hid hn
  have HA := Lib.hid (hA.ext E0.out)
  have HL := Lib.hid hnil
  clear hn hA hnil hz0
  go_enter Try.func35, Try.ntmps35
  refine Hid.out ?_
  refine Lib.hid ?_
  go_wp2_with (at_builtin; rw [← hW0]; refine wpList_copy rfl _ _ 62 rfl 78 i0 (.agg #[.int .i64 0, .int .i64 0, .int .i64 0]) 3 24 Try.underlying62 hi0 I0.out ha0 hb0 rfl (by decide) (by decide) Kn.enc (fun _ => rfl) Kn_one (by first | rfl | (rw [HSZ.out]; rfl)) A n ca xs rfl HN.out HA.out (by omega) HL.out ?_; intro A' c' V0 hro hx hlo hnl; have XR := Lib.hid hro; have XX := Lib.hid (E0.out.trans hx); have XL := Lib.hid hlo; have LN := Lib.hid hnl; have k0 := K1.out.ext hx; have f0 := k0.free 0; have x0 : V0.cell? ⟨w.heap.size + 1, 0, none⟩ = some (.slice none 0 0) := k0.cell 0; clear hro hlo hnl hx k0 hW0; refine Hid.out ?_)
  refine Lib.hid ?_
  go_wp2
  exact bodyPost_ret (v := .agg #[.slice A' n c']) (by simp [results, Try.f35, go_sem, x0]) rfl ⟨_, _, rfl, rows_setOther XR.out (fun b o hb => by have := XL.out b o hb; have := HSZ.out; dsimp only; omega) _, LN.out, Ext.set XX.out (by dsimp only; omega) _⟩


theorem info43G : (Try.prog.info? 43).map (fun i => (i.zero, i.size, i.bytes)) = some (some (.agg #[.int .i64 0, .int .i64 0, .int .i64 0, .int .i64 0]), 4, 32) := by kernel_rfl
set_option maxRecDepth 100000 in
set_option maxHeartbeats 1000000 in
theorem copyTraverse_any {A : Option Addr} {n ca : Nat} {xs : List In} {w : World} (hn : xs.length = n) (hA : RowsAt 4 In.enc w A xs) (h6 : n ≤ 1000) (hnil : A = none → ca = 0) :
    Calls Try.prog 16 #[.agg #[.slice A n ca]] w fun e w' => ∃ A' c', e = .returned (.agg #[.slice A' n c']) ∧ RowsAt 4 In.enc w' A' xs ∧ (A' = none → c' = 0) ∧ Ext w w' := by
  obtain ⟨i0, hi0, hz0, ha0, hb0⟩ := info_parts info43G
  have I0 := Lib.hid hz0
  obtain ⟨W0, hW0⟩ : ∃ W0, W0 = (w.alloc (.cells #[.slice A n ca] 24)).alloc (.cells #[.slice none 0 0] 24) := ⟨_, rfl⟩
  have K1 := Lib.hid (show Blk W0 (w.heap.size + 1) 24 #[.slice none 0 0] by rw [hW0]; exact Blk.newAt _ _ _ (by simp))
  have E0 := Lib.hid (show Ext w W0 by rw [hW0]; exact (Ext.alloc _ _).trans (Ext.alloc _ _))
  have HSZ := Lib.hid (show W0.heap.size = w.heap.size + 1 + 1 by rw [hW0]; simp)
  have HN := Lib.hid hn
  have HA := Lib.hid (hA.ext E0.out)
  have HL := Lib.hid hnil
  clear hn hA hnil hz0
  go_enter Try.func16, Try.ntmps16
  refine Hid.out ?_
  refine Lib.hid ?_
  go_wp2_with (at_builtin; rw [← hW0]; refine wpList_copy rfl _ _ 22 rfl 43 i0 (.agg #[.int .i64 0, .int .i64 0, .int .i64 0, .int .i64 0]) 4 32 Try.underlying22 hi0 I0.out ha0 hb0 rfl (by decide) (by decide) In.enc (fun _ => rfl) In_one (by first | rfl | (rw [HSZ.out]; rfl)) A n ca xs rfl HN.out HA.out (by omega) HL.out ?_; intro A' c' V0 hro hx hlo hnl; have XR := Lib.hid hro; have XX := Lib.hid (E0.out.trans hx); have XL := Lib.hid hlo; have LN := Lib.hid hnl; have k0 := K1.out.ext hx; have f0 := k0.free 0; have x0 : V0.cell? ⟨w.heap.size + 1, 0, none⟩ = some (.slice none 0 0) := k0.cell 0; clear hro hlo hnl hx k0 hW0; refine Hid.out ?_)
  refine Lib.hid ?_
  go_wp2
  exact bodyPost_ret (v := .agg #[.slice A' n c']) (by simp [results, Try.f16, go_sem, x0]) rfl ⟨_, _, rfl, rows_setOther XR.out (fun b o hb => by have := XL.out b o hb; have := HSZ.out; dsimp only; omega) _, LN.out, Ext.set XX.out (by dsimp only; omega) _⟩


end Go.Proofs.Ytmddnpagfgilcaa
