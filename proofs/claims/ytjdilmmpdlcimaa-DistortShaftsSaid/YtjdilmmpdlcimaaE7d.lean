/- DistortShafts. -/
import Derived.Test.YtjdilmmpdlcimaaE7b
import Derived.Test.YtjdilmmpdlcimaaE7c
import Derived.Lib.MinMax
import Derived.Deep.DeepCutAuto
import Derived.BigQuiet

namespace Go.Proofs.Ytjdilmmpdlcimaa
open Go.RowKit Go.Shelf Go.Mem Go.RegInv
attribute [local go_sem] RelUpon_value RelUpon_skip RelUpon_enter BigFrame.eval_const BigFrame.eval_global BigFrame.eval_func


theorem few2_false {n m : Nat} (h : ¬ (n ≤ 6 ∧ m ≤ 6)) : few2 n m = false := by
  unfold few2
  rcases (show 6 < n ∨ 6 < m by omega) with h1 | h1
  · simp [show ¬ n ≤ 6 by omega]
  · simp [show ¬ m ≤ 6 by omega]
theorem shafts_many {L : Int} {J K : Option Addr} {n m cj ck : Nat} {w : World} {p t : Int} (h : ¬ (n ≤ 6 ∧ m ≤ 6)) (hn : n ≤ maxLen) (hm : m ≤ maxLen) :
    Calls Try.prog 3 #[.agg #[.int .i64 L, .slice J n cj, .slice K m ck], .int .i64 p, .int .i64 t] w fun e w' => e = .returned (.bool true) ∧ Ext w w' := by
  have HFEW := Lib.hid (fun W => show Calls Try.prog 14 #[.agg #[.int .i64 L, .slice J n cj, .slice K m ck]] W fun e w' => e = .returned (.bool false) ∧ Ext W w' from by have := few_any (L := L) (J := J) (K := K) (n := n) (m := m) (cj := cj) (ck := ck) W hn hm; rw [few2_false h] at this; exact this)
  clear h
  obtain ⟨W0, hW0⟩ : ∃ W0, W0 = w.alloc (.cells #[.int .i64 L, .slice J n cj, .slice K m ck] 25) := ⟨_, rfl⟩
  have Ky := Lib.hid (show Blk W0 (w.heap.size) 25 #[.int .i64 L, .slice J n cj, .slice K m ck] by rw [hW0]; exact Blk.new _ _ _)
  have X := Lib.hid (show Ext w W0 by rw [hW0]; exact Ext.alloc _ _)
  have y_0 : W0.cell? ⟨w.heap.size, 0, none⟩ = some (.int .i64 L) := Ky.out.cell 0
  have y_1 : W0.cell? ⟨w.heap.size, 1, none⟩ = some (.slice J n cj) := Ky.out.cell 1
  have y_2 : W0.cell? ⟨w.heap.size, 2, none⟩ = some (.slice K m ck) := Ky.out.cell 2
  go_enter Try.func3, Try.ntmps3
  go_upto_region 1 with (fail)
  rw [← hW0]
  clear hW0
  go_wp2_with (go_at_call 13; refine (awake_any _).mono ?_; rintro e W1 ⟨rfl, hx⟩; replace X := Lib.hid (X.out.trans hx); replace Ky := Lib.hid (Ky.out.ext hx); clear hx y_0 y_1 y_2; refine Hid.out ?_)
  refine Lib.hid ?_
  have y_0 : W1.cell? ⟨w.heap.size, 0, none⟩ = some (.int .i64 L) := Ky.out.cell 0
  have y_1 : W1.cell? ⟨w.heap.size, 1, none⟩ = some (.slice J n cj) := Ky.out.cell 1
  have y_2 : W1.cell? ⟨w.heap.size, 2, none⟩ = some (.slice K m ck) := Ky.out.cell 2
  go_wp2_with (go_at_call 14; refine (HFEW.out _).mono ?_; rintro e W2 ⟨rfl, hx⟩; replace X := Lib.hid (X.out.trans hx); replace Ky := Lib.hid (Ky.out.ext hx); clear hx y_0 y_1 y_2; refine Hid.out ?_)
  refine Lib.hid ?_
  have y_0 : W2.cell? ⟨w.heap.size, 0, none⟩ = some (.int .i64 L) := Ky.out.cell 0
  have y_1 : W2.cell? ⟨w.heap.size, 1, none⟩ = some (.slice J n cj) := Ky.out.cell 1
  have y_2 : W2.cell? ⟨w.heap.size, 2, none⟩ = some (.slice K m ck) := Ky.out.cell 2
  go_wp2
  go_ret
  exact ⟨rfl, X.out⟩
theorem shafts_any {L : Int} {J K : Option Addr} {n m cj ck : Nat} {js : List Int} {ks : List Rg} (p t : Int) (hn : js.length = n) (hm : ks.length = m) (hjn : J = none → cj = 0) (hkn : K = none → ck = 0) (ln : n ≤ maxLen) (lm : m ≤ maxLen) {w : World} (hJ : n ≤ 1000 → RowsAt 1 I1 w J js) (hK : m ≤ 1000 → RowsAt 2 Rg.enc w K ks) :
    Calls Try.prog 3 #[.agg #[.int .i64 L, .slice J n cj, .slice K m ck], .int .i64 p, .int .i64 t] w fun e w' => e = .returned (.bool true) ∧ Ext w w' := by
  by_cases h : n ≤ 6 ∧ m ≤ 6
  · by_cases hz : (checkS L js ks).2 = 0
    · obtain rfl : n = m := by have := (checkS_ok hz).same; omega
      by_cases hp : 0 ≤ p ∧ p ≤ L
      · exact shafts_ok_true hn (hJ (by omega)) hm (hK (by omega)) hjn hkn h.1 hz hp
      · exact shafts_ok_false hn (hJ (by omega)) hm (hK (by omega)) hjn hkn h.1 hz hp
    · exact shafts_bad hn (hJ (by omega)) hm (hK (by omega)) hjn hkn h.1 h.2 hz
  · exact shafts_many h ln lm

end Go.Proofs.Ytjdilmmpdlcimaa
