/- The boxes of the statements about steps. -/
import Derived.Test.YtkmekbafjnlfkaaGreatS44

namespace Go.Proofs.YtkmekbafjnlfkaaGreat
open Go.RowKit Go.Shelf Go.Mem Go.RegInv
attribute [local go_sem] RelUpon_value RelUpon_skip RelUpon_enter BigFrame.eval_const BigFrame.eval_global BigFrame.eval_func

theorem RuIn.ext {r : Ru} {u : Value} {w W : World} (h : RuIn r u w) (e : Ext w W) : RuIn r u W := by
  obtain ⟨B0, B1, B2, B3, m0, m1, m2, m3, d0, d1, d2, d3, q, hA, hrest⟩ := h
  exact ⟨B0, B1, B2, B3, m0, m1, m2, m3, d0, d1, d2, d3, q, hA.ext e, hrest⟩
/-- The boxes of a statement about rules, a state that changes, and something else. -/
structure BoxI (w W : World) (T : TypeId) (cs : Array Value) (z : St) (x2 : Array Value) : Prop where
  k0 : Blk W (w.heap.size) 28 cs
  k1 : Blk W (w.heap.size + 1) 30 #[.int .i64 z.p, .int .i64 z.a, .int .i64 z.b, .int .i64 z.m, .int .i64 z.wt, .int .i64 z.g, .int .i64 z.t]
  k2 : Blk W (w.heap.size + 1 + 1) T x2
  e : Ext w W
theorem BoxI.ext {w W W' : World} {T : TypeId} {cs : Array Value} {z : St} {x2 : Array Value} (h : BoxI w W T cs z x2) (e : Ext W W') : BoxI w W' T cs z x2 := ⟨h.k0.ext e, h.k1.ext e, h.k2.ext e, h.e.trans e⟩
theorem BoxI.new (w : World) (T : TypeId) (cs : Array Value) (z : St) (x2 : Array Value) : BoxI w (((w.alloc (.cells cs 28)).alloc (.cells #[.int .i64 z.p, .int .i64 z.a, .int .i64 z.b, .int .i64 z.m, .int .i64 z.wt, .int .i64 z.g, .int .i64 z.t] 30)).alloc (.cells x2 T)) T cs z x2 :=
  ⟨((Blk.new _ _ _).alloc _).alloc _, (Blk.newAt _ _ _ (by simp)).alloc _, Blk.newAt _ _ _ (by simp), ((Ext.alloc _ _).trans (Ext.alloc _ _)).trans (Ext.alloc _ _)⟩
/-- A new state in the box of states. -/
theorem BoxI.step {w W : World} {T : TypeId} {cs : Array Value} {z y : St} {x2 : Array Value} (h : BoxI w W T cs z x2) : BoxI w (((((((W.setCell ⟨w.heap.size + 1, 0, none⟩ (.int .i64 y.p)).setCell ⟨w.heap.size + 1, 1, none⟩ (.int .i64 y.a)).setCell ⟨w.heap.size + 1, 2, none⟩ (.int .i64 y.b)).setCell ⟨w.heap.size + 1, 3, none⟩ (.int .i64 y.m)).setCell ⟨w.heap.size + 1, 4, none⟩ (.int .i64 y.wt)).setCell ⟨w.heap.size + 1, 5, none⟩ (.int .i64 y.g)).setCell ⟨w.heap.size + 1, 6, none⟩ (.int .i64 y.t)) T cs y x2 := by
  have h7 := (((((((h.k1.setSame 0 (.int .i64 y.p)).setSame 1 (.int .i64 y.a)).setSame 2 (.int .i64 y.b)).setSame 3 (.int .i64 y.m)).setSame 4 (.int .i64 y.wt)).setSame 5 (.int .i64 y.g)).setSame 6 (.int .i64 y.t))
  simp only [List.setIfInBounds_toArray, List.set_cons_zero, List.set_cons_succ] at h7
  exact ⟨(((((((h.k0.setOther (by dsimp only; omega) _).setOther (by dsimp only; omega) _).setOther (by dsimp only; omega) _).setOther (by dsimp only; omega) _).setOther (by dsimp only; omega) _).setOther (by dsimp only; omega) _).setOther (by dsimp only; omega) _), h7, (((((((h.k2.setOther (by dsimp only; omega) _).setOther (by dsimp only; omega) _).setOther (by dsimp only; omega) _).setOther (by dsimp only; omega) _).setOther (by dsimp only; omega) _).setOther (by dsimp only; omega) _).setOther (by dsimp only; omega) _), Ext.set (Ext.set (Ext.set (Ext.set (Ext.set (Ext.set (Ext.set (h.e) (by dsimp only; omega) _) (by dsimp only; omega) _) (by dsimp only; omega) _) (by dsimp only; omega) _) (by dsimp only; omega) _) (by dsimp only; omega) _) (by dsimp only; omega) _⟩
/-- A store to another box. -/
theorem BoxI.store {w W : World} {T : TypeId} {cs : Array Value} {z : St} {x2 : Array Value} (h : BoxI w W T cs z x2) {q : Nat} (hq : w.heap.size + 1 + 1 < q) (y : St) : BoxI w (((((((W.setCell ⟨q, 0, none⟩ (.int .i64 y.p)).setCell ⟨q, 1, none⟩ (.int .i64 y.a)).setCell ⟨q, 2, none⟩ (.int .i64 y.b)).setCell ⟨q, 3, none⟩ (.int .i64 y.m)).setCell ⟨q, 4, none⟩ (.int .i64 y.wt)).setCell ⟨q, 5, none⟩ (.int .i64 y.g)).setCell ⟨q, 6, none⟩ (.int .i64 y.t)) T cs z x2 :=
  ⟨(((((((h.k0.setOther (by dsimp only; omega) _).setOther (by dsimp only; omega) _).setOther (by dsimp only; omega) _).setOther (by dsimp only; omega) _).setOther (by dsimp only; omega) _).setOther (by dsimp only; omega) _).setOther (by dsimp only; omega) _), (((((((h.k1.setOther (by dsimp only; omega) _).setOther (by dsimp only; omega) _).setOther (by dsimp only; omega) _).setOther (by dsimp only; omega) _).setOther (by dsimp only; omega) _).setOther (by dsimp only; omega) _).setOther (by dsimp only; omega) _), (((((((h.k2.setOther (by dsimp only; omega) _).setOther (by dsimp only; omega) _).setOther (by dsimp only; omega) _).setOther (by dsimp only; omega) _).setOther (by dsimp only; omega) _).setOther (by dsimp only; omega) _).setOther (by dsimp only; omega) _), Ext.set (Ext.set (Ext.set (Ext.set (Ext.set (Ext.set (Ext.set (h.e) (by dsimp only; omega) _) (by dsimp only; omega) _) (by dsimp only; omega) _) (by dsimp only; omega) _) (by dsimp only; omega) _) (by dsimp only; omega) _) (by dsimp only; omega) _⟩
theorem blk7 {W : World} {q : Nat} (h : Blk W q 30 #[.int .i64 0, .int .i64 0, .int .i64 0, .int .i64 0, .int .i64 0, .int .i64 0, .int .i64 0]) (y : St) : Blk (((((((W.setCell ⟨q, 0, none⟩ (.int .i64 y.p)).setCell ⟨q, 1, none⟩ (.int .i64 y.a)).setCell ⟨q, 2, none⟩ (.int .i64 y.b)).setCell ⟨q, 3, none⟩ (.int .i64 y.m)).setCell ⟨q, 4, none⟩ (.int .i64 y.wt)).setCell ⟨q, 5, none⟩ (.int .i64 y.g)).setCell ⟨q, 6, none⟩ (.int .i64 y.t)) q 30 #[.int .i64 y.p, .int .i64 y.a, .int .i64 y.b, .int .i64 y.m, .int .i64 y.wt, .int .i64 y.g, .int .i64 y.t] := by
  have h7 := (((((((h.setSame 0 (.int .i64 y.p)).setSame 1 (.int .i64 y.a)).setSame 2 (.int .i64 y.b)).setSame 3 (.int .i64 y.m)).setSame 4 (.int .i64 y.wt)).setSame 5 (.int .i64 y.g)).setSame 6 (.int .i64 y.t))
  simp only [List.setIfInBounds_toArray, List.set_cons_zero, List.set_cons_succ] at h7
  exact h7
theorem ext7 {w W : World} (h : Ext w W) {q : Nat} (hq : w.heap.size ≤ q) (y : St) : Ext w (((((((W.setCell ⟨q, 0, none⟩ (.int .i64 y.p)).setCell ⟨q, 1, none⟩ (.int .i64 y.a)).setCell ⟨q, 2, none⟩ (.int .i64 y.b)).setCell ⟨q, 3, none⟩ (.int .i64 y.m)).setCell ⟨q, 4, none⟩ (.int .i64 y.wt)).setCell ⟨q, 5, none⟩ (.int .i64 y.g)).setCell ⟨q, 6, none⟩ (.int .i64 y.t)) := Ext.set (Ext.set (Ext.set (Ext.set (Ext.set (Ext.set (Ext.set (h) hq _) hq _) hq _) hq _) hq _) hq _) hq _
theorem BoxI.size {w W : World} {T : TypeId} {cs : Array Value} {z : St} {x2 : Array Value} (h : BoxI w W T cs z x2) : w.heap.size + 1 + 1 < W.heap.size := h.k2.lt
def Fresh30 (q : Nat) : Value → World → Prop := fun u W => ∃ b, q ≤ b ∧ u = .pointer (some ⟨b, 0, none⟩) ∧ Blk W b 30 #[.int .i64 0, .int .i64 0, .int .i64 0, .int .i64 0, .int .i64 0, .int .i64 0, .int .i64 0]
theorem Fresh30.ext {q : Nat} {u : Value} {W W' : World} (h : Fresh30 q u W) (e : Ext W W') : Fresh30 q u W' := by
  obtain ⟨b, h1, h2, h3⟩ := h
  exact ⟨b, h1, h2, h3.ext e⟩

end Go.Proofs.YtkmekbafjnlfkaaGreat
