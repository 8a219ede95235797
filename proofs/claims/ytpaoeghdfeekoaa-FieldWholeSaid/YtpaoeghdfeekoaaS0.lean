/- The memory of voltagesOf between two rounds. -/
import Derived.Test.YtpaoeghdfeekoaaV0
import Derived.RangeFuncNested
import Derived.RangeFuncBox
import Derived.Test.YtpaoeghdfeekoaaL0
namespace Go.Proofs.Ytpaoeghdfeekoaa
open Go.RowKit Go.Mem

structure St (w : World) (t : Int) (A : Option Addr) (m cap : Nat) (f : Int) (B : Option Addr) (cap' : Nat) (W : World) (v : VS) : Prop where
  b2 : Blk W w.heap.size 24 #[.int .i64 t, .slice A m cap]
  b3 : Blk W (w.heap.size + 1) 27 #[.int .i64 f, .slice B m cap']
  b5 : Blk W (w.heap.size + 1 + 1) 65 #[.int .i64 v.last.re, .int .i64 v.last.im]
  b6 : Blk W (w.heap.size + 1 + 1 + 1) 65 #[.int .i64 v.cur.re, .int .i64 v.cur.im]
  bs : Blk W (w.heap.size + 1 + 1 + 1 + 1 + 1 + 1) 22 #[.slice A m cap]
  row : ∃ u, Blk W (w.heap.size + 1 + 1 + 1 + 1 + 1) 53 #[u] ∧ W.ownsRow (w.heap.size + 1 + 1 + 1 + 1) 65 2 u v.out.length (v.out.flatMap G.enc)
  below : Below w.heap.size w W

section
variable {w : World} {t : Int} {A : Option Addr} {m cap : Nat} {f : Int} {B : Option Addr} {cap' : Nat} {W W' : World} {v : VS}

theorem St.keep (h : St w t A m cap f B cap' W v) (hc : CellsKept W W') (hb : Below w.heap.size W W') : St w t A m cap f B cap' W' v :=
  ⟨hc.blk h.b2, hc.blk h.b3, hc.blk h.b5, hc.blk h.b6, hc.blk h.bs, by obtain ⟨u, h1, h2⟩ := h.row; exact ⟨u, hc.blk h1, hc.own h2⟩, h.below.trans hb⟩
theorem St.ext (h : St w t A m cap f B cap' W v) (e : Ext W W') : St w t A m cap f B cap' W' v := h.keep (CellsKept.ext e) (e.mono h.below.size)

theorem St.setCur (h : St w t A m cap f B cap' W v) (re im : Int) :
    St w t A m cap f B cap' ((W.setCell ⟨w.heap.size + 1 + 1 + 1, 0, none⟩ (.int .i64 re)).setCell ⟨w.heap.size + 1 + 1 + 1, 1, none⟩ (.int .i64 im)) { v with cur := ⟨re, im⟩ } := by
  refine ⟨(h.b2.setOther (by (try dsimp only); omega) _).setOther (by (try dsimp only); omega) _, (h.b3.setOther (by (try dsimp only); omega) _).setOther (by (try dsimp only); omega) _, (h.b5.setOther (by (try dsimp only); omega) _).setOther (by (try dsimp only); omega) _, ?_, (h.bs.setOther (by (try dsimp only); omega) _).setOther (by (try dsimp only); omega) _, ?_,
    (h.below.setCell (by (try dsimp only); omega) _).setCell (by (try dsimp only); omega) _⟩
  · exact (h.b6.setSame 0 _).setSame 1 _
  · obtain ⟨u, h1, h2⟩ := h.row
    exact ⟨u, (h1.setOther (by (try dsimp only); omega) _).setOther (by (try dsimp only); omega) _, own_set (own_set h2 (own_not h2 (by (try dsimp only); omega)) _) (own_not h2 (by (try dsimp only); omega)) _⟩
theorem St.setLast (h : St w t A m cap f B cap' W v) (re im : Int) :
    St w t A m cap f B cap' ((W.setCell ⟨w.heap.size + 1 + 1, 0, none⟩ (.int .i64 re)).setCell ⟨w.heap.size + 1 + 1, 1, none⟩ (.int .i64 im)) { v with last := ⟨re, im⟩ } := by
  refine ⟨(h.b2.setOther (by (try dsimp only); omega) _).setOther (by (try dsimp only); omega) _, (h.b3.setOther (by (try dsimp only); omega) _).setOther (by (try dsimp only); omega) _, ?_, (h.b6.setOther (by (try dsimp only); omega) _).setOther (by (try dsimp only); omega) _, (h.bs.setOther (by (try dsimp only); omega) _).setOther (by (try dsimp only); omega) _, ?_,
    (h.below.setCell (by (try dsimp only); omega) _).setCell (by (try dsimp only); omega) _⟩
  · exact (h.b5.setSame 0 _).setSame 1 _
  · obtain ⟨u, h1, h2⟩ := h.row
    exact ⟨u, (h1.setOther (by (try dsimp only); omega) _).setOther (by (try dsimp only); omega) _, own_set (own_set h2 (own_not h2 (by (try dsimp only); omega)) _) (own_not h2 (by (try dsimp only); omega)) _⟩
/-- Behind an append to the row and the store of the new value. -/
theorem St.append (h : St w t A m cap f B cap' W v) {u u' : Value} (b : Blk W (w.heap.size + 1 + 1 + 1 + 1 + 1) 53 #[u]) (r : W.ownsRow (w.heap.size + 1 + 1 + 1 + 1) 65 2 u v.out.length (v.out.flatMap G.enc)) {z : G}
    (hg : W.grownBy W' u.ownBlock) (hown : W'.ownsRow (w.heap.size + 1 + 1 + 1 + 1) 65 2 u' (v.out.length + 1) (v.out.flatMap G.enc ++ z.enc)) :
    Blk W' (w.heap.size + 1 + 1 + 1 + 1 + 1) 53 #[u] ∧ St w t A m cap f B cap' (W'.setCell ⟨w.heap.size + 1 + 1 + 1 + 1 + 1, 0, none⟩ u') { v with out := v.out ++ [z] } := by
  have k : ∀ {g : Nat} {t : TypeId} {cs : Array Value}, Blk W g t cs → some g ≠ u.ownBlock → Blk W' g t cs := fun b hne => (hg.block _ b.lt hne).trans b
  have b' := k b (own_notBlk r b (by decide))
  have hb : Below w.heap.size W W' := (Below.refl _ _).grown hg h.below.size (fun g hg' => by
    rcases r.2 with ⟨rfl, _⟩ | ⟨g', cap, cur, rfl, h2, _⟩
    · simp [Value.ownBlock] at hg'
    · simp [Value.ownBlock] at hg'; omega)
  refine ⟨b', (k h.b2 (own_not r (by omega))).setOther (by (try dsimp only); omega) _, (k h.b3 (own_not r (by omega))).setOther (by (try dsimp only); omega) _, (k h.b5 (own_not r (by omega))).setOther (by (try dsimp only); omega) _, (k h.b6 (own_not r (by omega))).setOther (by (try dsimp only); omega) _,
    (k h.bs (own_notBlk r h.bs (by decide))).setOther (by (try dsimp only); omega) _, ⟨u', b'.setSame 0 _, ?_⟩, (h.below.trans hb).setCell (by (try dsimp only); omega) _⟩
  have e1 : (v.out ++ [z]).length = v.out.length + 1 := by simp
  have e2 : (v.out ++ [z]).flatMap G.enc = v.out.flatMap G.enc ++ z.enc := by simp
  show (W'.setCell _ u').ownsRow _ 65 2 u' (v.out ++ [z]).length ((v.out ++ [z]).flatMap G.enc)
  rw [e1, e2]
  exact own_set hown (own_notBlk hown b' (by decide)) _
end
end Go.Proofs.Ytpaoeghdfeekoaa
