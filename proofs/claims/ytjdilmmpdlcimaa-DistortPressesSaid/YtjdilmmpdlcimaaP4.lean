/- DistortPresses. -/
import Derived.Test.YtjdilmmpdlcimaaP2
import Derived.Test.YtjdilmmpdlcimaaP3
import Derived.Lib.MinMax
import Derived.Deep.DeepCutAuto
import Derived.BigQuiet

namespace Go.Proofs.Ytjdilmmpdlcimaa
open Go.RowKit Go.Shelf Go.Mem Go.RegInv
attribute [local go_sem] RelUpon_value RelUpon_skip RelUpon_enter BigFrame.eval_const BigFrame.eval_global BigFrame.eval_func


theorem press_many0 {L : Int} {J K : Option Addr} {n m cj ck : Nat} {P : Option Addr} {np cp : Nat} {sp ga li : Int} {A : Option Addr} {N ca : Nat} {w : World} (h : ¬ (n ≤ 6 ∧ m ≤ 6)) (ln : n ≤ maxLen) (lm : m ≤ maxLen) :
    Calls Try.prog 6 #[.agg #[.int .i64 L, .slice J n cj, .slice K m ck], .agg #[.slice P np cp, .int .i64 sp, .int .i64 ga, .int .i64 li], .slice A N ca] w fun e w' => e = .returned (.bool true) ∧ Ext w w' := by
  have HFEW := Lib.hid (fun W => show Calls Try.prog 14 #[.agg #[.int .i64 L, .slice J n cj, .slice K m ck]] W fun e w' => e = .returned (.bool false) ∧ Ext W w' from by have := few_any (L := L) (J := J) (K := K) (n := n) (m := m) (cj := cj) (ck := ck) W ln lm; rw [few2_false h] at this; exact this)
  clear h
  obtain ⟨W0, hW0⟩ : ∃ W0, W0 = (w.alloc (.cells #[.int .i64 L, .slice J n cj, .slice K m ck] 25)).alloc (.cells #[.slice P np cp, .int .i64 sp, .int .i64 ga, .int .i64 li] 58) := ⟨_, rfl⟩
  have Ky0 := Lib.hid (show Blk W0 (w.heap.size) 25 #[.int .i64 L, .slice J n cj, .slice K m ck] by rw [hW0]; exact (Blk.new _ _ _).alloc _)
  have Ky1 := Lib.hid (show Blk W0 (w.heap.size + 1) 58 #[.slice P np cp, .int .i64 sp, .int .i64 ga, .int .i64 li] by rw [hW0]; exact Blk.newAt _ _ _ (by simp))
  have X := Lib.hid (show Ext w W0 by rw [hW0]; exact (Ext.alloc _ _).trans (Ext.alloc _ _))
  have y0_0 : W0.cell? ⟨w.heap.size, 0, none⟩ = some (.int .i64 L) := Ky0.out.cell 0
  have y0_1 : W0.cell? ⟨w.heap.size, 1, none⟩ = some (.slice J n cj) := Ky0.out.cell 1
  have y0_2 : W0.cell? ⟨w.heap.size, 2, none⟩ = some (.slice K m ck) := Ky0.out.cell 2
  have y1_0 : W0.cell? ⟨w.heap.size + 1, 0, none⟩ = some (.slice P np cp) := Ky1.out.cell 0
  have y1_1 : W0.cell? ⟨w.heap.size + 1, 1, none⟩ = some (.int .i64 sp) := Ky1.out.cell 1
  have y1_2 : W0.cell? ⟨w.heap.size + 1, 2, none⟩ = some (.int .i64 ga) := Ky1.out.cell 2
  have y1_3 : W0.cell? ⟨w.heap.size + 1, 3, none⟩ = some (.int .i64 li) := Ky1.out.cell 3
  go_enter Try.func6, Try.ntmps6
  go_upto_region 1 with (fail)
  rw [← hW0]
  clear hW0
  go_wp2_with (go_at_call 13; refine (awake_any _).mono ?_; rintro e W1 ⟨rfl, hx⟩; replace X := Lib.hid (X.out.trans hx); replace Ky0 := Lib.hid (Ky0.out.ext hx); replace Ky1 := Lib.hid (Ky1.out.ext hx); clear hx y0_0 y0_1 y0_2 y1_0 y1_1 y1_2 y1_3; refine Hid.out ?_)
  refine Lib.hid ?_
  have y0_0 : W1.cell? ⟨w.heap.size, 0, none⟩ = some (.int .i64 L) := Ky0.out.cell 0
  have y0_1 : W1.cell? ⟨w.heap.size, 1, none⟩ = some (.slice J n cj) := Ky0.out.cell 1
  have y0_2 : W1.cell? ⟨w.heap.size, 2, none⟩ = some (.slice K m ck) := Ky0.out.cell 2
  have y1_0 : W1.cell? ⟨w.heap.size + 1, 0, none⟩ = some (.slice P np cp) := Ky1.out.cell 0
  have y1_1 : W1.cell? ⟨w.heap.size + 1, 1, none⟩ = some (.int .i64 sp) := Ky1.out.cell 1
  have y1_2 : W1.cell? ⟨w.heap.size + 1, 2, none⟩ = some (.int .i64 ga) := Ky1.out.cell 2
  have y1_3 : W1.cell? ⟨w.heap.size + 1, 3, none⟩ = some (.int .i64 li) := Ky1.out.cell 3
  go_wp2_with (go_at_call 14; refine (HFEW.out _).mono ?_; rintro e W2 ⟨rfl, hx⟩; replace X := Lib.hid (X.out.trans hx); replace Ky0 := Lib.hid (Ky0.out.ext hx); replace Ky1 := Lib.hid (Ky1.out.ext hx); clear hx y0_0 y0_1 y0_2 y1_0 y1_1 y1_2 y1_3; refine Hid.out ?_)
  refine Lib.hid ?_
  have y0_0 : W2.cell? ⟨w.heap.size, 0, none⟩ = some (.int .i64 L) := Ky0.out.cell 0
  have y0_1 : W2.cell? ⟨w.heap.size, 1, none⟩ = some (.slice J n cj) := Ky0.out.cell 1
  have y0_2 : W2.cell? ⟨w.heap.size, 2, none⟩ = some (.slice K m ck) := Ky0.out.cell 2
  have y1_0 : W2.cell? ⟨w.heap.size + 1, 0, none⟩ = some (.slice P np cp) := Ky1.out.cell 0
  have y1_1 : W2.cell? ⟨w.heap.size + 1, 1, none⟩ = some (.int .i64 sp) := Ky1.out.cell 1
  have y1_2 : W2.cell? ⟨w.heap.size + 1, 2, none⟩ = some (.int .i64 ga) := Ky1.out.cell 2
  have y1_3 : W2.cell? ⟨w.heap.size + 1, 3, none⟩ = some (.int .i64 li) := Ky1.out.cell 3
  go_wp2
  go_ret
  exact ⟨rfl, X.out⟩

theorem press_many1 {L : Int} {J K : Option Addr} {n m cj ck : Nat} {P : Option Addr} {np cp : Nat} {sp ga li : Int} {A : Option Addr} {N ca : Nat} {w : World} (h : n ≤ 6 ∧ m ≤ 6) (ln : n ≤ maxLen) (lm : m ≤ maxLen) (h5 : ¬ np ≤ 5) (lp : np ≤ maxLen) :
    Calls Try.prog 6 #[.agg #[.int .i64 L, .slice J n cj, .slice K m ck], .agg #[.slice P np cp, .int .i64 sp, .int .i64 ga, .int .i64 li], .slice A N ca] w fun e w' => e = .returned (.bool true) ∧ Ext w w' := by
  have HFEW := Lib.hid (fun W => show Calls Try.prog 14 #[.agg #[.int .i64 L, .slice J n cj, .slice K m ck]] W fun e w' => e = .returned (.bool true) ∧ Ext W w' from by have := few_any (L := L) (J := J) (K := K) (n := n) (m := m) (cj := cj) (ck := ck) W ln lm; rw [show few2 n m = true by simp [few2, h.1, h.2]] at this; exact this)
  have HFEA := Lib.hid (fun W => show Calls Try.prog 33 #[.agg #[.slice P np cp, .int .i64 sp, .int .i64 ga, .int .i64 li]] W fun e w' => e = .returned (.bool false) ∧ Ext W w' from by have := fewAmounts_any (P := P) (np := np) (cp := cp) (sp := sp) (ga := ga) (li := li) W lp; rw [show few1 np = false by simp [few1]; omega] at this; exact this)
  clear h h5
  obtain ⟨W0, hW0⟩ : ∃ W0, W0 = (w.alloc (.cells #[.int .i64 L, .slice J n cj, .slice K m ck] 25)).alloc (.cells #[.slice P np cp, .int .i64 sp, .int .i64 ga, .int .i64 li] 58) := ⟨_, rfl⟩
  have Ky0 := Lib.hid (show Blk W0 (w.heap.size) 25 #[.int .i64 L, .slice J n cj, .slice K m ck] by rw [hW0]; exact (Blk.new _ _ _).alloc _)
  have Ky1 := Lib.hid (show Blk W0 (w.heap.size + 1) 58 #[.slice P np cp, .int .i64 sp, .int .i64 ga, .int .i64 li] by rw [hW0]; exact Blk.newAt _ _ _ (by simp))
  have X := Lib.hid (show Ext w W0 by rw [hW0]; exact (Ext.alloc _ _).trans (Ext.alloc _ _))
  have y0_0 : W0.cell? ⟨w.heap.size, 0, none⟩ = some (.int .i64 L) := Ky0.out.cell 0
  have y0_1 : W0.cell? ⟨w.heap.size, 1, none⟩ = some (.slice J n cj) := Ky0.out.cell 1
  have y0_2 : W0.cell? ⟨w.heap.size, 2, none⟩ = some (.slice K m ck) := Ky0.out.cell 2
  have y1_0 : W0.cell? ⟨w.heap.size + 1, 0, none⟩ = some (.slice P np cp) := Ky1.out.cell 0
  have y1_1 : W0.cell? ⟨w.heap.size + 1, 1, none⟩ = some (.int .i64 sp) := Ky1.out.cell 1
  have y1_2 : W0.cell? ⟨w.heap.size + 1, 2, none⟩ = some (.int .i64 ga) := Ky1.out.cell 2
  have y1_3 : W0.cell? ⟨w.heap.size + 1, 3, none⟩ = some (.int .i64 li) := Ky1.out.cell 3
  go_enter Try.func6, Try.ntmps6
  go_upto_region 1 with (fail)
  rw [← hW0]
  clear hW0
  go_wp2_with (go_at_call 13; refine (awake_any _).mono ?_; rintro e W1 ⟨rfl, hx⟩; replace X := Lib.hid (X.out.trans hx); replace Ky0 := Lib.hid (Ky0.out.ext hx); replace Ky1 := Lib.hid (Ky1.out.ext hx); clear hx y0_0 y0_1 y0_2 y1_0 y1_1 y1_2 y1_3; refine Hid.out ?_)
  refine Lib.hid ?_
  have y0_0 : W1.cell? ⟨w.heap.size, 0, none⟩ = some (.int .i64 L) := Ky0.out.cell 0
  have y0_1 : W1.cell? ⟨w.heap.size, 1, none⟩ = some (.slice J n cj) := Ky0.out.cell 1
  have y0_2 : W1.cell? ⟨w.heap.size, 2, none⟩ = some (.slice K m ck) := Ky0.out.cell 2
  have y1_0 : W1.cell? ⟨w.heap.size + 1, 0, none⟩ = some (.slice P np cp) := Ky1.out.cell 0
  have y1_1 : W1.cell? ⟨w.heap.size + 1, 1, none⟩ = some (.int .i64 sp) := Ky1.out.cell 1
  have y1_2 : W1.cell? ⟨w.heap.size + 1, 2, none⟩ = some (.int .i64 ga) := Ky1.out.cell 2
  have y1_3 : W1.cell? ⟨w.heap.size + 1, 3, none⟩ = some (.int .i64 li) := Ky1.out.cell 3
  go_wp2_with (go_at_call 14; refine (HFEW.out _).mono ?_; rintro e W2 ⟨rfl, hx⟩; replace X := Lib.hid (X.out.trans hx); replace Ky0 := Lib.hid (Ky0.out.ext hx); replace Ky1 := Lib.hid (Ky1.out.ext hx); clear hx y0_0 y0_1 y0_2 y1_0 y1_1 y1_2 y1_3; refine Hid.out ?_)
  refine Lib.hid ?_
  have y0_0 : W2.cell? ⟨w.heap.size, 0, none⟩ = some (.int .i64 L) := Ky0.out.cell 0
  have y0_1 : W2.cell? ⟨w.heap.size, 1, none⟩ = some (.slice J n cj) := Ky0.out.cell 1
  have y0_2 : W2.cell? ⟨w.heap.size, 2, none⟩ = some (.slice K m ck) := Ky0.out.cell 2
  have y1_0 : W2.cell? ⟨w.heap.size + 1, 0, none⟩ = some (.slice P np cp) := Ky1.out.cell 0
  have y1_1 : W2.cell? ⟨w.heap.size + 1, 1, none⟩ = some (.int .i64 sp) := Ky1.out.cell 1
  have y1_2 : W2.cell? ⟨w.heap.size + 1, 2, none⟩ = some (.int .i64 ga) := Ky1.out.cell 2
  have y1_3 : W2.cell? ⟨w.heap.size + 1, 3, none⟩ = some (.int .i64 li) := Ky1.out.cell 3
  go_wp2_with (go_at_call 33; refine (HFEA.out _).mono ?_; rintro e W3 ⟨rfl, hx⟩; replace X := Lib.hid (X.out.trans hx); replace Ky0 := Lib.hid (Ky0.out.ext hx); replace Ky1 := Lib.hid (Ky1.out.ext hx); clear hx y0_0 y0_1 y0_2 y1_0 y1_1 y1_2 y1_3; refine Hid.out ?_)
  refine Lib.hid ?_
  have y0_0 : W3.cell? ⟨w.heap.size, 0, none⟩ = some (.int .i64 L) := Ky0.out.cell 0
  have y0_1 : W3.cell? ⟨w.heap.size, 1, none⟩ = some (.slice J n cj) := Ky0.out.cell 1
  have y0_2 : W3.cell? ⟨w.heap.size, 2, none⟩ = some (.slice K m ck) := Ky0.out.cell 2
  have y1_0 : W3.cell? ⟨w.heap.size + 1, 0, none⟩ = some (.slice P np cp) := Ky1.out.cell 0
  have y1_1 : W3.cell? ⟨w.heap.size + 1, 1, none⟩ = some (.int .i64 sp) := Ky1.out.cell 1
  have y1_2 : W3.cell? ⟨w.heap.size + 1, 2, none⟩ = some (.int .i64 ga) := Ky1.out.cell 2
  have y1_3 : W3.cell? ⟨w.heap.size + 1, 3, none⟩ = some (.int .i64 li) := Ky1.out.cell 3
  go_wp2
  go_ret
  exact ⟨rfl, X.out⟩

theorem press_many2 {L : Int} {J K : Option Addr} {n m cj ck : Nat} {P : Option Addr} {np cp : Nat} {sp ga li : Int} {A : Option Addr} {N ca : Nat} {w : World} (h : n ≤ 6 ∧ m ≤ 6) (ln : n ≤ maxLen) (lm : m ≤ maxLen) (h5 : np ≤ 5) (lp : np ≤ maxLen) (hN6 : ¬ N ≤ 6) (lN : N ≤ maxLen) :
    Calls Try.prog 6 #[.agg #[.int .i64 L, .slice J n cj, .slice K m ck], .agg #[.slice P np cp, .int .i64 sp, .int .i64 ga, .int .i64 li], .slice A N ca] w fun e w' => e = .returned (.bool true) ∧ Ext w w' := by
  have HFEW := Lib.hid (fun W => show Calls Try.prog 14 #[.agg #[.int .i64 L, .slice J n cj, .slice K m ck]] W fun e w' => e = .returned (.bool true) ∧ Ext W w' from by have := few_any (L := L) (J := J) (K := K) (n := n) (m := m) (cj := cj) (ck := ck) W ln lm; rw [show few2 n m = true by simp [few2, h.1, h.2]] at this; exact this)
  have HFEA := Lib.hid (fun W => show Calls Try.prog 33 #[.agg #[.slice P np cp, .int .i64 sp, .int .i64 ga, .int .i64 li]] W fun e w' => e = .returned (.bool true) ∧ Ext W w' from by have := fewAmounts_any (P := P) (np := np) (cp := cp) (sp := sp) (ga := ga) (li := li) W lp; rw [show few1 np = true by simp [few1, h5]] at this; exact this)
  have hdN : decide ((6 : Int) < (N : Int)) = true := by simp; omega
  have hNb : N ≤ 9223372036854775807 := lN
  clear h h5 lN
  obtain ⟨W0, hW0⟩ : ∃ W0, W0 = (w.alloc (.cells #[.int .i64 L, .slice J n cj, .slice K m ck] 25)).alloc (.cells #[.slice P np cp, .int .i64 sp, .int .i64 ga, .int .i64 li] 58) := ⟨_, rfl⟩
  have Ky0 := Lib.hid (show Blk W0 (w.heap.size) 25 #[.int .i64 L, .slice J n cj, .slice K m ck] by rw [hW0]; exact (Blk.new _ _ _).alloc _)
  have Ky1 := Lib.hid (show Blk W0 (w.heap.size + 1) 58 #[.slice P np cp, .int .i64 sp, .int .i64 ga, .int .i64 li] by rw [hW0]; exact Blk.newAt _ _ _ (by simp))
  have X := Lib.hid (show Ext w W0 by rw [hW0]; exact (Ext.alloc _ _).trans (Ext.alloc _ _))
  have y0_0 : W0.cell? ⟨w.heap.size, 0, none⟩ = some (.int .i64 L) := Ky0.out.cell 0
  have y0_1 : W0.cell? ⟨w.heap.size, 1, none⟩ = some (.slice J n cj) := Ky0.out.cell 1
  have y0_2 : W0.cell? ⟨w.heap.size, 2, none⟩ = some (.slice K m ck) := Ky0.out.cell 2
  have y1_0 : W0.cell? ⟨w.heap.size + 1, 0, none⟩ = some (.slice P np cp) := Ky1.out.cell 0
  have y1_1 : W0.cell? ⟨w.heap.size + 1, 1, none⟩ = some (.int .i64 sp) := Ky1.out.cell 1
  have y1_2 : W0.cell? ⟨w.heap.size + 1, 2, none⟩ = some (.int .i64 ga) := Ky1.out.cell 2
  have y1_3 : W0.cell? ⟨w.heap.size + 1, 3, none⟩ = some (.int .i64 li) := Ky1.out.cell 3
  go_enter Try.func6, Try.ntmps6
  go_upto_region 1 with (fail)
  rw [← hW0]
  clear hW0
  go_wp2_with (go_at_call 13; refine (awake_any _).mono ?_; rintro e W1 ⟨rfl, hx⟩; replace X := Lib.hid (X.out.trans hx); replace Ky0 := Lib.hid (Ky0.out.ext hx); replace Ky1 := Lib.hid (Ky1.out.ext hx); clear hx y0_0 y0_1 y0_2 y1_0 y1_1 y1_2 y1_3; refine Hid.out ?_)
  refine Lib.hid ?_
  have y0_0 : W1.cell? ⟨w.heap.size, 0, none⟩ = some (.int .i64 L) := Ky0.out.cell 0
  have y0_1 : W1.cell? ⟨w.heap.size, 1, none⟩ = some (.slice J n cj) := Ky0.out.cell 1
  have y0_2 : W1.cell? ⟨w.heap.size, 2, none⟩ = some (.slice K m ck) := Ky0.out.cell 2
  have y1_0 : W1.cell? ⟨w.heap.size + 1, 0, none⟩ = some (.slice P np cp) := Ky1.out.cell 0
  have y1_1 : W1.cell? ⟨w.heap.size + 1, 1, none⟩ = some (.int .i64 sp) := Ky1.out.cell 1
  have y1_2 : W1.cell? ⟨w.heap.size + 1, 2, none⟩ = some (.int .i64 ga) := Ky1.out.cell 2
  have y1_3 : W1.cell? ⟨w.heap.size + 1, 3, none⟩ = some (.int .i64 li) := Ky1.out.cell 3
  go_wp2_with (go_at_call 14; refine (HFEW.out _).mono ?_; rintro e W2 ⟨rfl, hx⟩; replace X := Lib.hid (X.out.trans hx); replace Ky0 := Lib.hid (Ky0.out.ext hx); replace Ky1 := Lib.hid (Ky1.out.ext hx); clear hx y0_0 y0_1 y0_2 y1_0 y1_1 y1_2 y1_3; refine Hid.out ?_)
  refine Lib.hid ?_
  have y0_0 : W2.cell? ⟨w.heap.size, 0, none⟩ = some (.int .i64 L) := Ky0.out.cell 0
  have y0_1 : W2.cell? ⟨w.heap.size, 1, none⟩ = some (.slice J n cj) := Ky0.out.cell 1
  have y0_2 : W2.cell? ⟨w.heap.size, 2, none⟩ = some (.slice K m ck) := Ky0.out.cell 2
  have y1_0 : W2.cell? ⟨w.heap.size + 1, 0, none⟩ = some (.slice P np cp) := Ky1.out.cell 0
  have y1_1 : W2.cell? ⟨w.heap.size + 1, 1, none⟩ = some (.int .i64 sp) := Ky1.out.cell 1
  have y1_2 : W2.cell? ⟨w.heap.size + 1, 2, none⟩ = some (.int .i64 ga) := Ky1.out.cell 2
  have y1_3 : W2.cell? ⟨w.heap.size + 1, 3, none⟩ = some (.int .i64 li) := Ky1.out.cell 3
  go_wp2_with (go_at_call 33; refine (HFEA.out _).mono ?_; rintro e W3 ⟨rfl, hx⟩; replace X := Lib.hid (X.out.trans hx); replace Ky0 := Lib.hid (Ky0.out.ext hx); replace Ky1 := Lib.hid (Ky1.out.ext hx); clear hx y0_0 y0_1 y0_2 y1_0 y1_1 y1_2 y1_3; refine Hid.out ?_)
  refine Lib.hid ?_
  have y0_0 : W3.cell? ⟨w.heap.size, 0, none⟩ = some (.int .i64 L) := Ky0.out.cell 0
  have y0_1 : W3.cell? ⟨w.heap.size, 1, none⟩ = some (.slice J n cj) := Ky0.out.cell 1
  have y0_2 : W3.cell? ⟨w.heap.size, 2, none⟩ = some (.slice K m ck) := Ky0.out.cell 2
  have y1_0 : W3.cell? ⟨w.heap.size + 1, 0, none⟩ = some (.slice P np cp) := Ky1.out.cell 0
  have y1_1 : W3.cell? ⟨w.heap.size + 1, 1, none⟩ = some (.int .i64 sp) := Ky1.out.cell 1
  have y1_2 : W3.cell? ⟨w.heap.size + 1, 2, none⟩ = some (.int .i64 ga) := Ky1.out.cell 2
  have y1_3 : W3.cell? ⟨w.heap.size + 1, 3, none⟩ = some (.int .i64 li) := Ky1.out.cell 3
  go_wp2
  go_ret
  exact ⟨rfl, X.out⟩

theorem presses_any {L : Int} {J K : Option Addr} {n m cj ck : Nat} {js : List Int} {ks : List Rg} {P : Option Addr} {np cp : Nat} {am : List Int} {sp ga li : Int} {A : Option Addr} {N ca : Nat} {l : List Sk} (hn : js.length = n) (hm : ks.length = m) (hjn : J = none → cj = 0) (hkn : K = none → ck = 0) (ln : n ≤ maxLen) (lm : m ≤ maxLen) (hnp : am.length = np) (hpn : P = none → cp = 0) (lp : np ≤ maxLen) (hN : l.length = N) (hln : A = none → ca = 0) (lN : N ≤ maxLen) {w : World} (hJ : n ≤ 1000 → RowsAt 1 I1 w J js) (hK : m ≤ 1000 → RowsAt 2 Rg.enc w K ks) (hP : np ≤ 1000 → RowsAt 1 I1 w P am) (hA : N ≤ 1000 → RowsAt 3 Sk.enc w A l) :
    Calls Try.prog 6 #[.agg #[.int .i64 L, .slice J n cj, .slice K m ck], .agg #[.slice P np cp, .int .i64 sp, .int .i64 ga, .int .i64 li], .slice A N ca] w fun e w' => e = .returned (.bool true) ∧ Ext w w' := by
  by_cases h : n ≤ 6 ∧ m ≤ 6
  · by_cases h5 : np ≤ 5
    · by_cases hN6 : N ≤ 6
      · by_cases hb : (if (checkS L js ks).2 ≠ 0 then (checkS L js ks).2 else (checkP am sp ga li).2) = 0
        · have hz : (checkS L js ks).2 = 0 ∧ (checkP am sp ga li).2 = 0 := by
            by_cases h1 : (checkS L js ks).2 = 0
            · rw [if_neg (by simpa using h1)] at hb; exact ⟨h1, hb⟩
            · rw [if_pos h1] at hb; exact absurd hb h1
          by_cases hs : strokesE n am li l = 0
          · obtain rfl : n = m := by have := (checkS_ok hz.1).same; omega
            rcases aftE_two ga sp l ks n with ha | ha
            · exact press_ok hn (hJ (by omega)) hm (hK (by omega)) hnp (hP (by omega)) hN (hA (by omega)) hjn hkn hpn hln h.1 h.2 h5 hN6 hz.1 hz.2 hs ha
            · exact press_no hn (hJ (by omega)) hm (hK (by omega)) hnp (hP (by omega)) hN (hA (by omega)) hjn hkn hpn hln h.1 h.2 h5 hN6 hz.1 hz.2 hs ha
          · exact press_zero hn (hJ (by omega)) hm (hK (by omega)) hnp (hP (by omega)) hN (hA (by omega)) hjn hkn hpn hln h.1 h.2 h5 hN6 (.inr ⟨hb, hs⟩)
        · exact press_zero hn (hJ (by omega)) hm (hK (by omega)) hnp (hP (by omega)) hN (hA (by omega)) hjn hkn hpn hln h.1 h.2 h5 hN6 (.inl hb)
      · exact press_many2 h ln lm h5 lp hN6 lN
    · exact press_many1 h ln lm h5 lp
  · exact press_many0 h ln lm

end Go.Proofs.Ytjdilmmpdlcimaa
