/- Slices of numbers in memory, kept by whatever only makes new blocks. -/
import Derived.WalkKit
import Derived.WalkLawsBesides
import Derived.WalkSpells
import Derived.Handy
import Derived.LoopTactic
import Derived.Lib.Hide
import Derived.BigQuiet
import Derived.Deep.QuietTactic
import Derived.Deep.Draws
namespace Go.Mem
open Go.RowKit

/-- Whatever lay in W lies in W'. -/
def Ext (W W' : World) : Prop := Below W.heap.size W W'
theorem Ext.refl (W : World) : Ext W W := Below.refl _ _
theorem Ext.trans {a b c : World} (h : Ext a b) (k : Ext b c) : Ext a c := Below.trans h (Below.mono k h.size)
theorem Ext.alloc (W : World) (o : Obj) : Ext W (W.alloc o) := (Below.refl _ _).alloc (Nat.le_refl _) _
theorem Ext.drew (W : World) : Ext W W.drew := (Below.refl _ _).drew
theorem Ext.drewN (W : World) (n : Nat) : Ext W (W.drewN n) := ⟨rfl, rfl, rfl, Nat.le_refl _, fun _ _ => rfl⟩
theorem Ext.of_eq {W W' : World} (h : W = W') : Ext W W' := h ▸ Ext.refl W
theorem Ext.cell {W W' : World} (h : Ext W W') {p : Addr} {v : Value} (hc : W.cell? p = some v) : W'.cell? p = some v := by
  refine (Below.cell h ?_).trans hc
  rcases Nat.lt_or_ge p.block W.heap.size with h1 | h1
  · exact h1
  · exfalso
    unfold World.cell? at hc
    rw [Array.getElem?_eq_none h1] at hc
    cases hc
theorem Ext.below {B : Nat} {a W W' : World} (h : Below B a W) (k : Ext W W') (hB : B ≤ W.heap.size) : Below B a W' := h.trans (Below.mono k hB)
theorem lt_of_cell {W : World} {p : Addr} {v : Value} (hc : W.cell? p = some v) : p.block < W.heap.size := by
  rcases Nat.lt_or_ge p.block W.heap.size with h1 | h1
  · exact h1
  · exfalso
    unfold World.cell? at hc
    rw [Array.getElem?_eq_none h1] at hc
    cases hc
theorem Ext.free {W W' : World} (h : Ext W W') {p : Addr} (hp : p.block < W.heap.size) (hf : W.frozen? p = false) : W'.frozen? p = false := (Below.frozen h hp).trans hf
theorem Ext.lt {W W' : World} (h : Ext W W') {k : Nat} (hk : k < W.heap.size) : k < W'.heap.size := Nat.lt_of_lt_of_le hk h.size
theorem Ext.grownBy {W a w' : World} {row : Option Nat} (h : Ext W a) (hg : a.grownBy w' row) (hr : ∀ g, row = some g → W.heap.size ≤ g) : Ext W w' := Below.grown h hg h.size hr
theorem Ext.set {W a : World} (h : Ext W a) {p : Addr} (hp : W.heap.size ≤ p.block) (u : Value) : Ext W (a.setCell p u) := Below.setCell h hp u

/-- Block g holds just these cells, all of them free. -/
def Blk (W : World) (g : Nat) (t : TypeId) (cs : Array Value) : Prop := W.heap[g]? = some (.cells cs t (0, 0))
theorem Blk.lt {W : World} {g : Nat} {t : TypeId} {cs : Array Value} (h : Blk W g t cs) : g < W.heap.size := (Array.getElem?_eq_some_iff.1 h).1
theorem Blk.new (W : World) (t : TypeId) (cs : Array Value) : Blk (W.alloc (.cells cs t)) W.heap.size t cs := heap_alloc_new W _
theorem Blk.newAt (W : World) (t : TypeId) (cs : Array Value) {g : Nat} (h : g = W.heap.size) : Blk (W.alloc (.cells cs t)) g t cs := h ▸ heap_alloc_new W _
theorem Blk.cell {W : World} {g : Nat} {t : TypeId} {cs : Array Value} (h : Blk W g t cs) (i : Nat) : W.cell? ⟨g, i, none⟩ = cs[i]? := cell_of_row W g i cs t (0, 0) h
theorem Blk.free {W : World} {g : Nat} {t : TypeId} {cs : Array Value} (h : Blk W g t cs) (i : Nat) : W.frozen? ⟨g, i, none⟩ = false := by
  unfold Blk at h
  simp [World.frozen?, h]
theorem Blk.alloc {W : World} {g : Nat} {t : TypeId} {cs : Array Value} (h : Blk W g t cs) (o : Obj) : Blk (W.alloc o) g t cs := (Below.heap_alloc W o g h.lt).trans h
theorem Blk.drew {W : World} {g : Nat} {t : TypeId} {cs : Array Value} (h : Blk W g t cs) : Blk W.drew g t cs := h
theorem Blk.ext {W W' : World} {g : Nat} {t : TypeId} {cs : Array Value} (h : Blk W g t cs) (e : Ext W W') : Blk W' g t cs := (e.block g h.lt).trans h
theorem Blk.setOther {W : World} {g : Nat} {t : TypeId} {cs : Array Value} (h : Blk W g t cs) {p : Addr} (hp : g ≠ p.block) (u : Value) : Blk (W.setCell p u) g t cs := (Below.heap_setCell W p u g hp).trans h
theorem Blk.setSame {W : World} {g : Nat} {t : TypeId} {cs : Array Value} (h : Blk W g t cs) (i : Nat) (u : Value) : Blk (W.setCell ⟨g, i, none⟩ u) g t (cs.setIfInBounds i u) := by
  unfold Blk at h ⊢
  simp [World.setCell, Array.getElem?_modify, h]
theorem Blk.of_same {W W' : World} {g : Nat} {t : TypeId} {cs : Array Value} (h : Blk W g t cs) (e : W'.heap[g]? = W.heap[g]?) : Blk W' g t cs := e.trans h

/-- A slice value that reads as a list of numbers. -/
def IntsAt (W : World) (v : Value) (xs : List Int) : Prop :=
  (∃ ao cap, v = .slice ao 0 cap ∧ xs = []) ∨
  ∃ b o cap, v = .slice (some ⟨b, o, none⟩) xs.length cap ∧ b < W.heap.size ∧ xs.length ≤ 1152921504606846976 ∧ ∀ i, i < xs.length → W.cell? ⟨b, o + i, none⟩ = some (.int .i64 (xs.getD i 0))
theorem IntsAt.ext {W W' : World} {v : Value} {xs : List Int} (h : IntsAt W v xs) (k : Ext W W') : IntsAt W' v xs := by
  rcases h with h | ⟨b, o, cap, hv, hb, hl, hc⟩
  · exact .inl h
  · exact .inr ⟨b, o, cap, hv, Nat.lt_of_lt_of_le hb k.size, hl, fun i hi => k.cell (hc i hi)⟩
theorem ints_new (W : World) (xs : List Int) (T : TypeId) (h : xs.length ≤ 1152921504606846976) : IntsAt (W.alloc (.cells (xs.map (Value.int .i64)).toArray T)) (.slice (some ⟨W.heap.size, 0, none⟩) xs.length xs.length) xs := by
  refine .inr ⟨W.heap.size, 0, xs.length, rfl, by simp, h, fun i hi => ?_⟩
  simp [hi]

/-- The slice at A of these rows, k cells each. -/
def RowsAt {α : Type} (k : Nat) (enc : α → List Value) (W : World) (A : Option Addr) (xs : List α) : Prop :=
  xs.length ≤ 1152921504606846976 ∧ ∀ i x, xs[i]? = some x → ∃ b o, A = some ⟨b, o, none⟩ ∧ b < W.heap.size ∧ ∀ j u, (enc x)[j]? = some u → W.cell? ⟨b, o + i * k + j, none⟩ = some u
theorem RowsAt.ext {α : Type} {k : Nat} {enc : α → List Value} {W W' : World} {A : Option Addr} {xs : List α} (h : RowsAt k enc W A xs) (e : Ext W W') : RowsAt k enc W' A xs :=
  ⟨h.1, fun i x hx => by
    obtain ⟨b, o, hA, hb, hc⟩ := h.2 i x hx
    exact ⟨b, o, hA, Nat.lt_of_lt_of_le hb e.size, fun j u hu => e.cell (hc j u hu)⟩⟩

end Go.Mem
