/- The shells from the last one to the first one: the contract of slices.Backward. -/
import Derived.RangeFuncNested
import Derived.RangeFuncBound
import Derived.RangeFuncCalls
import Derived.RangeFuncLeaves
import Derived.RangeFuncBox
import Derived.Shelf.Abstract
import Derived.Shelf.RegionOpen
import Derived.OwnWalkIn
import Derived.TacticsInMore
import Derived.LoopNIn
import Derived.LoopIn
import Derived.Test.YtpaoeghdfeekoaaA4
import Derived.Test.YtpaoeghdfeekoaaR1
namespace Go.Proofs.Ytpaoeghdfeekoaa
open Go.RowKit Go.Shelf Go.Mem Go.RegInv
attribute [local go_sem] Oper.semAt_some

/-- A shell with its index. -/
abbrev Ix (ls : List Sh) := { x : Nat × Sh // ls[x.1]? = some x.2 }
def backE (ls : List Sh) : List (Ix ls) := List.ofFn (n := ls.length) fun j => ⟨(ls.length - 1 - j, ls[ls.length - 1 - j]'(by omega)), List.getElem?_eq_getElem (by omega)⟩
theorem backE_length (ls : List Sh) : (backE ls).length = ls.length := by simp [backE]
theorem backE_at (ls : List Sh) (k : Nat) (s : Sh) (h : ls[k]? = some s) : (backE ls)[ls.length - 1 - k]? = some ⟨(k, s), h⟩ := by
  obtain ⟨hk, hs⟩ := List.getElem?_eq_some_iff.1 h
  have e : ls.length - 1 - (ls.length - 1 - k) = k := by omega
  rw [List.getElem?_eq_getElem (by simp [backE]; omega)]
  simp only [backE, List.getElem_ofFn]
  congr 1
  apply Subtype.ext
  simp only [e, hs]
theorem backE_take (ls : List Sh) (k : Nat) (s : Sh) (h : ls[k]? = some s) : (backE ls).take (ls.length - 1 - k) ++ [⟨(k, s), h⟩] = (backE ls).take (ls.length - 1 - k + 1) := by
  have h1 := backE_at ls k s h
  obtain ⟨hk, hs⟩ := List.getElem?_eq_some_iff.1 h1
  rw [List.take_succ_eq_append_getElem hk, hs]

def encIx {ls : List Sh} (x : Ix ls) : Array Value := #[.int .i64 (x.1.1 : Int), .agg #[.int .i64 x.1.2.g, .int .i64 x.1.2.c, .int .i64 x.1.2.h]]

/-- What a round keeps: what lay below n₀, and the box of the slice. -/
def KpB (n₀ Bs : Nat) (W W' : World) : Prop := Below n₀ W W' ∧ W'.heap[Bs]? = W.heap[Bs]?
theorem KpB.t {n₀ Bs : Nat} {A B C : World} (h : KpB n₀ Bs A B) (k : KpB n₀ Bs B C) : KpB n₀ Bs A C := ⟨h.1.trans k.1, k.2.trans h.2⟩
theorem KpB.refl (n₀ Bs : Nat) (A : World) : KpB n₀ Bs A A := ⟨Below.refl _ _, rfl⟩

set_option maxRecDepth 100000 in
set_option maxHeartbeats 2000000 in
theorem backward1 (n : Nat) (hn : 1 ≤ n) (l Bs n₀ : Nat) (A : Option Addr) (m cap : Nat) (ls : List Sh) (hm : ls.length = m) (J Jx : List (Ix ls) → World → Prop)
    (hY : ∀ pre x W, J pre W → pre.length < m → YieldAt Fence.wide (n - 1) Try.prog l (encIx x) W fun e W' =>
      (e = .returned (.bool true) ∧ J (pre ++ [x]) W' ∧ KpB n₀ Bs W W') ∨ (e = .returned (.bool false) ∧ Jx (pre ++ [x]) W'))
    (W : World) (hBs : W.cell? ⟨Bs, 0, none⟩ = some (.slice A m cap)) (hS : RowsAt 3 Sh.enc W A ls) (hA : ∀ b o, A = some ⟨b, o, none⟩ → b < n₀) (h0 : J [] W) :
    CallsIn Fence.wide n Try.prog 137 #[.func (.yield l) #[] #[], .pointer (some ⟨Bs, 0, none⟩)] W fun e W' => (∃ v, e = .returned v) ∧
      ((∃ ys, ys = backE ls ∧ J ys W') ∨ (∃ pre, True ∧ Jx pre W')) := by
  have hmb : m ≤ 1152921504606846976 := by have := hS.1; omega
  have HM := Lib.hid hm
  have HS := Lib.hid hS
  have HA := Lib.hid hA
  have HL := Lib.hid (backE_length ls)
  clear hS hm hA
  refine callsIn_of_wp Try.func137 rfl trivial ?_ rfl
  simp only [Try.ntmps137, List.size_toArray, List.length_cons, List.length_nil, Nat.reduceAdd, Nat.reduceSub, Array.replicate_succ, Array.replicate_zero, List.push_toArray, List.append_toArray, List.nil_append, List.cons_append]
  gi_wp2
  gi_loopw [3] (fun i wr => (i = .int .i64 (-1) ∧ J (backE ls) wr) ∨ (∃ k : Nat, k < m ∧ i = .int .i64 (k : Int) ∧ J ((backE ls).take (m - 1 - k)) wr ∧ KpB n₀ Bs W wr))
    (fun i _ => (intOf i + 1).toNat)
  case atStart =>
    rcases Nat.eq_zero_or_pos m with h | h
    · left
      subst h
      refine ⟨rfl, ?_⟩
      have : backE ls = [] := List.eq_nil_of_length_eq_zero (by rw [HL.out]; exact HM.out)
      rw [this]; exact h0
    · right
      exact ⟨m - 1, by omega, by go_num, by rw [Nat.sub_self]; exact h0, KpB.refl _ _ _⟩
  case round =>
    rcases hrel with ⟨rfl, hJ⟩ | ⟨k, hk, rfl, hJ, hkp⟩
    · gi_wp2
      go_end0
      exact ⟨⟨_, rfl⟩, .inl ⟨_, rfl, hJ⟩⟩
    · obtain ⟨s, hs⟩ : ∃ s, ls[k]? = some s := ⟨_, List.getElem?_eq_getElem (by rw [HM.out]; exact hk)⟩
      obtain ⟨b, o, hA', hb, hc⟩ := HS.out.2 k s hs
      have hbn := HA.out b o hA'
      subst hA'
      have hBs' : wr.cell? ⟨Bs, 0, none⟩ = some (.slice (some ⟨b, o, none⟩) m cap) := (World.cell?_of_block (w := W) hkp.2).trans hBs
      have hcg : wr.cell? ⟨b, o + k * 3, none⟩ = some (.int .i64 s.g) := (hkp.1.cell (p := ⟨b, o + k * 3, none⟩) hbn).trans (hc 0 _ rfl)
      have hcc : wr.cell? ⟨b, o + k * 3 + 1, none⟩ = some (.int .i64 s.c) := (hkp.1.cell (p := ⟨b, o + k * 3 + 1, none⟩) hbn).trans (hc 1 _ rfl)
      have hch : wr.cell? ⟨b, o + k * 3 + 2, none⟩ = some (.int .i64 s.h) := (hkp.1.cell (p := ⟨b, o + k * 3 + 2, none⟩) hbn).trans (hc 2 _ rfl)
      have hlen : ((backE ls).take (m - 1 - k)).length < m := by rw [List.length_take, HL.out, HM.out]; omega
      obtain ⟨fn, tmps, assign, body, hy, hR⟩ := hY _ ⟨(k, s), hs⟩ wr hJ hlen
      have HT := Lib.hid (backE_take ls k s hs)
      dsimp only [encIx] at hy
      clear hc
      gi_wp2
      refine hR.mono ?_
      rintro e W3 (⟨rfl, hJ3, hk3⟩ | ⟨rfl, hJx3⟩)
      · have hJ4 : J ((backE ls).take (m - 1 - k + 1)) W3 := by rw [← HM.out, ← HT.out, HM.out]; exact hJ3
        gi_wp2
        go_roundw
        case rel =>
          rcases Nat.eq_zero_or_pos k with h | h
          · left
            refine ⟨by subst h; go_num, ?_⟩
            rw [List.take_of_length_le (by rw [HL.out, HM.out]; omega)] at hJ4
            exact hJ4
          · right
            exact ⟨k - 1, by omega, by go_num, by rw [show m - 1 - (k - 1) = m - 1 - k + 1 by omega]; exact hJ4, hkp.t hk3⟩
        case measure => simp [intOf]
      · gi_wp2
        refine bodyPost_ret (results_none rfl _ _ _) rfl ?_
        exact ⟨⟨_, rfl⟩, .inr ⟨_, trivial, hJx3⟩⟩

theorem backward_any (A : Option Addr) (m cap : Nat) (w : World) :
    Calls Try.prog 127 #[.slice A m cap] w fun e w' => e = .returned (.func (.func 137) #[] #[.pointer (some ⟨w.heap.size, 0, none⟩)]) ∧ w' = w.alloc (.cells #[.slice A m cap] 22) := by
  go_enter Try.func127, Try.ntmps127
  go_wp2
  go_ret
  exact ⟨rfl, rfl⟩

/-- The value of slices.Backward: all of the shells, from the last one to the first one. -/
theorem backward_stops (n : Nat) (hn : 1 ≤ n) (Bs n₀ : Nat) (A : Option Addr) (m cap : Nat) (ls : List Sh) (hm : ls.length = m) (w : World)
    (hBs : w.cell? ⟨Bs, 0, none⟩ = some (.slice A m cap)) (hS : RowsAt 3 Sh.enc w A ls) (hA : ∀ b o, A = some ⟨b, o, none⟩ → b < n₀) :
    SeqStopsK Fence.wide n Try.prog 137 #[.pointer (some ⟨Bs, 0, none⟩)] (encIx (ls := ls)) (KpB n₀ Bs) (fun ys => ys = backE ls) (fun _ => True) m w := fun l J Jx W hW _ _ hY h0 =>
  backward1 n hn l Bs n₀ A m cap ls hm J Jx hY W (Ext.cell hW hBs) (hS.ext hW) hA h0

end Go.Proofs.Ytpaoeghdfeekoaa
