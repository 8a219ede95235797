/- A copy of rows. -/
import Derived.Test.YtkmekbafjnlfkaaGreatS31

namespace Go.Proofs.YtkmekbafjnlfkaaGreat
open Go.RowKit Go.Shelf Go.Mem Go.RegInv
attribute [local go_sem] RelUpon_value RelUpon_skip RelUpon_enter BigFrame.eval_const BigFrame.eval_global BigFrame.eval_func

theorem wpList_copy {α : Type} {W : World} {ops : Array Oper} {rest : List Oper} {o : Oper} {a : Act} {Q : Exit → Act → World → Prop} (hgd : o.guard = none) (s x : Operand) (t : TypeId)
    (ho : o.op = .call { callee := .builtin .append, args := #[s, x], argTypes := #[t, t] })
    (e : TypeId) (i : TypeInfo) (z : Value) (size bytes : Nat) (ht : Tryz.prog.underlying t = some (.slice e)) (hi : Tryz.prog.info? e = some i) (hz : i.zero = some z)
    (hsize : i.size = size) (hby : i.bytes = bytes) (hzs : z.cells.size = size) (hsz : 0 < size) (hb1 : bytes ≤ 1000)
    (enc : α → List Value) (hk : ∀ x, (enc x).length = size) (h1 : ∀ x, ∀ u ∈ enc x, u.oneCell' = true)
    (hs : a.eval s = .slice (some ⟨W.heap.size, 0, none⟩) 0 0) (A : Option Addr) (n ca : Nat) (xs : List α) (hx : a.eval x = .slice A n ca) (hn : xs.length = n) (hA : RowsAt size enc W A xs) (h6 : n ≤ 1000) (hnil : A = none → ca = 0)
    (h : ∀ A' c' w', RowsAt size enc w' A' xs → Ext W w' → (∀ b o, A' = some ⟨b, o, none⟩ → W.heap.size ≤ b) → (A' = none → c' = 0) → wpList Tryz.prog ops Q rest (a.put o.dst (.slice A' n c')) w') :
    wpList Tryz.prog ops Q (o :: rest) a (W.alloc (.cells #[] e)) := by
  have hown : (W.alloc (.cells #[] e)).ownsRow W.heap.size e size (.slice (some ⟨W.heap.size, 0, none⟩) 0 0) 0 [] :=
    ⟨by simp, .inr ⟨W.heap.size, 0, #[], rfl, Nat.le_refl _, Blk.new W e #[], Nat.le_refl _, by unfold maxLen; omega, by simp, by simp⟩⟩
  cases A with
  | none =>
    obtain rfl : xs = [] := by
      cases xs with
      | nil => rfl
      | cons x l => obtain ⟨b, o, h, _⟩ := hA.2 0 x rfl; cases h
    obtain rfl := hnil rfl
    obtain rfl : n = 0 := by simpa using hn.symm
    refine wpList_append_own_none hgd s x t ho W.heap.size e i size ht hi _ _ _ hs hown hx ?_
    exact h _ _ _ ⟨by simp, fun i x hx => by simp at hx⟩ (Ext.alloc _ _) (fun b o hb => by simp at hb; omega) (fun h => by cases h)
  | some ad =>
    have hnews : ∀ j u, (xs.flatMap enc)[j]? = some u → (W.alloc (.cells #[] e)).cell? (ad.add j) = some u := fun j u hu => by
      obtain ⟨s, hs, hj⟩ := flat_idx (k := size) (enc := enc) hsz hk xs j u hu
      obtain ⟨b, o, e', _, hc⟩ := hA.2 _ s hs
      obtain rfl : ad = ⟨b, o, none⟩ := by simpa using e'
      have := (Ext.alloc W (.cells #[] e)).cell (hc _ _ hj)
      have hdm := Nat.div_add_mod j size
      rw [Nat.mul_comm] at hdm
      rw [WideShapes.add_plain, show o + j = o + j / size * size + j % size by omega]; exact this
    refine wpList_append_own _ hgd s x t ho W.heap.size e i z size bytes ht hi hz hsize hby hzs hsz _ _ _ hs hown ad n ca (xs.flatMap enc) hx (by rw [flat_lenG hk, hn]) hnews (flat_one h1 xs) (by unfold maxLen; omega) (by
      have := Nat.mul_le_mul h6 hb1
      rw [Nat.zero_add]; omega) (by simp) ?_
    intro v' w1 hown' hgrow hnone
    have hE : Ext W w1 := Ext.grownBy (Ext.alloc W _) hgrow (fun g hg => own_base hown hg)
    obtain ⟨A', c', hv'⟩ := own_slice hown'
    rw [Nat.zero_add] at hv'
    subst hv'
    rw [Nat.zero_add, List.nil_append] at hown'
    refine h A' c' w1 (rows_own hn hk hown' (by omega)) hE (fun b o hb => own_base hown' (by rw [hb]; rfl)) (fun hA' => ?_)
    rcases hown'.2 with ⟨h2, _⟩ | ⟨g, cap, cu, h2, _⟩
    · exact (by simpa using h2 : A' = none ∧ n = 0 ∧ c' = 0).2.2
    · rw [hA'] at h2; simp at h2
theorem rows_setOther {α : Type} {k : Nat} {enc : α → List Value} {W : World} {A : Option Addr} {xs : List α} (h : RowsAt k enc W A xs) {p : Addr} (hp : ∀ b o, A = some ⟨b, o, none⟩ → b ≠ p.block) (v : Value) : RowsAt k enc (W.setCell p v) A xs :=
  ⟨h.1, fun i x hx => by
    obtain ⟨b, o, hA, hb, hc⟩ := h.2 i x hx
    refine ⟨b, o, hA, by simpa using hb, fun j u hu => ?_⟩
    have hs : (W.setCell p v).heap[b]? = W.heap[b]? := Below.heap_setCell W p v b (hp b o hA)
    have := hc j u hu
    simpa [World.cell?, hs] using this⟩

end Go.Proofs.YtkmekbafjnlfkaaGreat
