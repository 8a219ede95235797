/- The sum of what a function hands out. -/
import Derived.Test.YtpaoeghdfeekoaaB1
namespace Go.Proofs.Ytpaoeghdfeekoaa
open Go.RowKit Go.Shelf Go.Mem Go.RegInv
attribute [local go_sem] Oper.semAt_some

def encInt (p : Int) : Array Value := #[.int .i64 p]

/-- What a loop over numbers may do: turn the variable at B. -/
structure Fits (Kp : World → World → Prop) (s : Nat) : Prop where
  t : ∀ {A B C : World}, Kp A B → Kp B C → Kp A C
  kept : ∀ A B, CellsKept A B → Below s A B → Kp A B

theorem take_sum (l : List Int) (k : Nat) (x : Int) (h : l[k]? = some x) : (l.take (k + 1)).sum = (l.take k).sum + x := by
  obtain ⟨hk, hx⟩ := List.getElem?_eq_some_iff.1 h
  rw [List.take_succ_eq_append_getElem hk, hx, List.sum_append]; simp

set_option maxRecDepth 100000 in
set_option maxHeartbeats 2000000 in
theorem sumOf_in (gf : FuncId) (first lb : Array Value) (eg : ∀ args w, (callFunc gf args).run Try.prog w = .ok (.enter gf args) w) (full : List Int) (Kp : World → World → Prop) (w : World)
    (hK : Fits Kp w.heap.size) (hKs : ∀ W u v, Blk W w.heap.size 3 #[u] → Kp W (W.setCell ⟨w.heap.size, 0, none⟩ v)) (hit : IterAt Try.prog 4 gf first lb encInt full Kp (w.alloc (.cells #[.int .i64 0] 3)))
    (hb : ∀ k, Big (full.take k).sum) :
    CallsIn Fence.wide 5 Try.prog 98 #[.func (.func gf) first lb] w fun e w' => e = .returned (.int .i64 full.sum) ∧ Ext w w' := by
  have HB := Lib.hid hb
  have HIT := Lib.hid hit
  have HK := Lib.hid hKs
  have HEG := Lib.hid eg
  clear hb hit hKs eg
  refine callsIn_of_wp_marks Try.func98 rfl trivial ?_ rfl
  simp only [Try.ntmps98, List.size_toArray, List.length_cons, List.length_nil, Nat.reduceAdd, Nat.reduceSub, Array.replicate_succ, Array.replicate_zero, List.push_toArray, List.append_toArray, List.nil_append, List.cons_append]
  gi_wp2
  refine rangeFunc_list (by omega) (gf := gf) (first := first) (lb := lb) rfl HEG.out (encs := encInt) (full := full) (Kp := Kp) HIT.out hK.t (fun A B hc hb => hK.kept A B hc (hb.mono (by simp))) (fun _ => rfl)
    (fun k W => Blk W w.heap.size 3 #[.int .i64 (full.take k).sum] ∧ Ext w W) (fun _ _ => False)
    (fun k A B ⟨h1, h2⟩ hc hb => ⟨hc.blk h1, Below.trans h2 (hb.mono (by simp))⟩) (fun _ _ _ h _ _ => h) ⟨Blk.new _ _ _, Ext.alloc _ _⟩
    (fun x a' _ => a' =
      { tmps := #[.func (.func gf) first lb, undef, .int .i64 0, .pointer (some ⟨w.heap.size, 0, none⟩), .int .i64 x, .func (.func gf) first lb, .int .i64 x, undef, undef, undef, undef], defers := [] }) (fun _ _ _ _ h _ _ => h) ?assign ?body ?done ?stop
  case assign =>
    intro l k x W K hx hsz hI hK'
    unfold encInt
    gi_wp2
    exact hK' _ _ (KeepsOthers.refl _) (hK.kept _ _ (CellsKept.refl _) (Below.refl _ _)) hI rfl
  case body =>
    rintro l k x a' W hx hsz ⟨hb0, he⟩ rfl
    have HS := Lib.hid (take_sum full k x hx)
    obtain ⟨q1, q2⟩ := HB.out k
    have q3 := HB.out (k + 1)
    rw [HS.out] at q3
    obtain ⟨q3, q4⟩ := q3
    have HB0 := Lib.hid hb0
    have c0 : W.cell? ⟨w.heap.size, 0, none⟩ = some (.int .i64 (full.take k).sum) := hb0.cell 0
    have f0 := hb0.free 0
    clear hb0 hx
    generalize (full.take k).sum = z at *
    gi_wp2
    refine ⟨KeepsOthers.setCell _ _ _, HK.out _ _ _ HB0.out, ?_, Ext.set he (Nat.le_refl _) _⟩
    rw [HS.out]
    exact HB0.out.setSame 0 _
  case done =>
    rintro D W hD ⟨hb0, he⟩ hK'
    have c0 : W.cell? ⟨w.heap.size, 0, none⟩ = some (.int .i64 (full.take full.length).sum) := hb0.cell 0
    rw [List.take_length] at c0
    gi_wp2
    refine ⟨by simp, .inl ⟨_, _, rfl, run_takeDeferred hK', ?_⟩⟩
    exact ⟨_, results_tmp rfl _ _ _, rfl, Below.trans he (below_put _ hK' (by simp at hD; omega))⟩
  case stop =>
    rintro D c W _ h _
    exact h.elim

end Go.Proofs.Ytpaoeghdfeekoaa
