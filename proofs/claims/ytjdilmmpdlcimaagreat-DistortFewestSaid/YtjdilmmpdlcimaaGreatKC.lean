/- DistortFewest: where there are too many, or not valid ones. DistortFewest: where all is valid. DistortFewest. -/
import Derived.Test.YtjdilmmpdlcimaaGreatKB
import Derived.Test.YtjdilmmpdlcimaaGreatK1
import Derived.Test.YtjdilmmpdlcimaaGreatC13
import Derived.Test.YtjdilmmpdlcimaaGreatG0
import Derived.Test.YtjdilmmpdlcimaaGreatC15
import Derived.Test.YtjdilmmpdlcimaaGreatE8
import Derived.Lib.MinMax
import Derived.Deep.DeepCutAuto
import Derived.BigQuiet

namespace Go.Proofs.YtjdilmmpdlcimaaGreat
open Go.RowKit Go.Shelf Go.Mem Go.RegInv
attribute [local go_sem] RelUpon_value RelUpon_skip RelUpon_enter BigFrame.eval_const BigFrame.eval_global BigFrame.eval_func


def FewT (p : List Sk) (m : Nat) (v : Value) (W : World) : Prop := ∃ A c, v = .tuple #[.slice A m c, .int .i64 0] ∧ RowsAt 3 Sk.enc W A p ∧ (A = none → c = 0)
theorem FewT.ext {p : List Sk} {m : Nat} {v : Value} {W W' : World} (h : FewT p m v W) (e : Ext W W') : FewT p m v W' := by
  obtain ⟨A, c, h1, h2, h3⟩ := h
  exact ⟨A, c, h1, h2.ext e, h3⟩
set_option maxRecDepth 100000 in
set_option maxHeartbeats 4000000 in
theorem fw_many0 {L : Int} {J K : Option Addr} {n m cj ck : Nat} {P : Option Addr} {np cp : Nat} {sp ga li : Int} {t : Int} {w : World} (h : ¬ (n ≤ 6 ∧ m ≤ 6)) (ln : n ≤ maxLen) (lm : m ≤ maxLen) :
    Calls Tryz.prog 3 #[.agg #[.int .i64 L, .slice J n cj, .slice K m ck], .agg #[.slice P np cp, .int .i64 sp, .int .i64 ga, .int .i64 li], .int .i64 t] w fun e w' => e = .returned (.bool true) ∧ Ext w w' := by
  have HFEW := Lib.hid (fun W => show Calls Tryz.prog 5 #[.agg #[.int .i64 L, .slice J n cj, .slice K m ck]] W fun e w' => e = .returned (.bool false) ∧ Ext W w' from by have := few_any (L := L) (J := J) (K := K) (n := n) (m := m) (cj := cj) (ck := ck) W ln lm; rw [few2_false h] at this; exact this)
  clear h
  obtain ⟨W0, hW0⟩ : ∃ W0, W0 = (w.alloc (.cells #[.int .i64 L, .slice J n cj, .slice K m ck] 25)).alloc (.cells #[.slice P np cp, .int .i64 sp, .int .i64 ga, .int .i64 li] 27) := ⟨_, rfl⟩
  have Ky0 := Lib.hid (show Blk W0 (w.heap.size) 25 #[.int .i64 L, .slice J n cj, .slice K m ck] by rw [hW0]; exact (Blk.new _ _ _).alloc _)
  have Ky1 := Lib.hid (show Blk W0 (w.heap.size + 1) 27 #[.slice P np cp, .int .i64 sp, .int .i64 ga, .int .i64 li] by rw [hW0]; exact Blk.newAt _ _ _ (by simp))
  have X := Lib.hid (show Ext w W0 by rw [hW0]; exact (Ext.alloc _ _).trans (Ext.alloc _ _))
  have y0_0 : W0.cell? ⟨w.heap.size, 0, none⟩ = some (.int .i64 L) := Ky0.out.cell 0
  have y0_1 : W0.cell? ⟨w.heap.size, 1, none⟩ = some (.slice J n cj) := Ky0.out.cell 1
  have y0_2 : W0.cell? ⟨w.heap.size, 2, none⟩ = some (.slice K m ck) := Ky0.out.cell 2
  have y1_0 : W0.cell? ⟨w.heap.size + 1, 0, none⟩ = some (.slice P np cp) := Ky1.out.cell 0
  have y1_1 : W0.cell? ⟨w.heap.size + 1, 1, none⟩ = some (.int .i64 sp) := Ky1.out.cell 1
  have y1_2 : W0.cell? ⟨w.heap.size + 1, 2, none⟩ = some (.int .i64 ga) := Ky1.out.cell 2
  have y1_3 : W0.cell? ⟨w.heap.size + 1, 3, none⟩ = some (.int .i64 li) := Ky1.out.cell 3
  go_enter Tryz.func3, Tryz.ntmps3
  go_upto_region 1 with (fail)
  rw [← hW0]
  clear hW0
  go_wp2_with (go_at_call 4; refine (awake_any _).mono ?_; rintro e W1 ⟨rfl, hx⟩; replace X := Lib.hid (X.out.trans hx); replace Ky0 := Lib.hid (Ky0.out.ext hx); replace Ky1 := Lib.hid (Ky1.out.ext hx); clear hx y0_0 y0_1 y0_2 y1_0 y1_1 y1_2 y1_3; refine Hid.out ?_)
  refine Lib.hid ?_
  have y0_0 : W1.cell? ⟨w.heap.size, 0, none⟩ = some (.int .i64 L) := Ky0.out.cell 0
  have y0_1 : W1.cell? ⟨w.heap.size, 1, none⟩ = some (.slice J n cj) := Ky0.out.cell 1
  have y0_2 : W1.cell? ⟨w.heap.size, 2, none⟩ = some (.slice K m ck) := Ky0.out.cell 2
  have y1_0 : W1.cell? ⟨w.heap.size + 1, 0, none⟩ = some (.slice P np cp) := Ky1.out.cell 0
  have y1_1 : W1.cell? ⟨w.heap.size + 1, 1, none⟩ = some (.int .i64 sp) := Ky1.out.cell 1
  have y1_2 : W1.cell? ⟨w.heap.size + 1, 2, none⟩ = some (.int .i64 ga) := Ky1.out.cell 2
  have y1_3 : W1.cell? ⟨w.heap.size + 1, 3, none⟩ = some (.int .i64 li) := Ky1.out.cell 3
  go_wp2_with (go_at_call 5; refine (HFEW.out _).mono ?_; rintro e W2 ⟨rfl, hx⟩; replace X := Lib.hid (X.out.trans hx); replace Ky0 := Lib.hid (Ky0.out.ext hx); replace Ky1 := Lib.hid (Ky1.out.ext hx); clear hx y0_0 y0_1 y0_2 y1_0 y1_1 y1_2 y1_3; refine Hid.out ?_)
  refine Lib.hid ?_
  have y0_0 : W2.cell? ⟨w.heap.size, 0, none⟩ = some (.int .i64 L) := Ky0.out.cell 0
  have y0_1 : W2.cell? ⟨w.heap.size, 1, none⟩ = some (.slice J n cj) := Ky0.out.cell 1
  have y0_2 : W2.cell? ⟨w.heap.size, 2, none⟩ = some (.slice K m ck) := Ky0.out.cell 2
  have y1_0 : W2.cell? ⟨w.heap.size + 1, 0, none⟩ = some (.slice P np cp) := Ky1.out.cell 0
  have y1_1 : W2.cell? ⟨w.heap.size + 1, 1, none⟩ = some (.int .i64 sp) := Ky1.out.cell 1
  have y1_2 : W2.cell? ⟨w.heap.size + 1, 2, none⟩ = some (.int .i64 ga) := Ky1.out.cell 2
  have y1_3 : W2.cell? ⟨w.heap.size + 1, 3, none⟩ = some (.int .i64 li) := Ky1.out.cell 3
  go_wp2
  go_ret
  exact ⟨rfl, X.out⟩

set_option maxRecDepth 100000 in
set_option maxHeartbeats 4000000 in
theorem fw_many1 {L : Int} {J K : Option Addr} {n m cj ck : Nat} {P : Option Addr} {np cp : Nat} {sp ga li : Int} {t : Int} {w : World} (h : n ≤ 6 ∧ m ≤ 6) (ln : n ≤ maxLen) (lm : m ≤ maxLen) (h5 : ¬ np ≤ 5) (lp : np ≤ maxLen) :
    Calls Tryz.prog 3 #[.agg #[.int .i64 L, .slice J n cj, .slice K m ck], .agg #[.slice P np cp, .int .i64 sp, .int .i64 ga, .int .i64 li], .int .i64 t] w fun e w' => e = .returned (.bool true) ∧ Ext w w' := by
  have HFEW := Lib.hid (fun W => show Calls Tryz.prog 5 #[.agg #[.int .i64 L, .slice J n cj, .slice K m ck]] W fun e w' => e = .returned (.bool true) ∧ Ext W w' from by have := few_any (L := L) (J := J) (K := K) (n := n) (m := m) (cj := cj) (ck := ck) W ln lm; rw [show few2 n m = true by simp [few2, h.1, h.2]] at this; exact this)
  have HFEA := Lib.hid (fun W => show Calls Tryz.prog 6 #[.agg #[.slice P np cp, .int .i64 sp, .int .i64 ga, .int .i64 li]] W fun e w' => e = .returned (.bool false) ∧ Ext W w' from by have := fewAmounts_any (P := P) (np := np) (cp := cp) (sp := sp) (ga := ga) (li := li) W lp; rw [show few1 np = false by simp [few1]; omega] at this; exact this)
  clear h h5
  obtain ⟨W0, hW0⟩ : ∃ W0, W0 = (w.alloc (.cells #[.int .i64 L, .slice J n cj, .slice K m ck] 25)).alloc (.cells #[.slice P np cp, .int .i64 sp, .int .i64 ga, .int .i64 li] 27) := ⟨_, rfl⟩
  have Ky0 := Lib.hid (show Blk W0 (w.heap.size) 25 #[.int .i64 L, .slice J n cj, .slice K m ck] by rw [hW0]; exact (Blk.new _ _ _).alloc _)
  have Ky1 := Lib.hid (show Blk W0 (w.heap.size + 1) 27 #[.slice P np cp, .int .i64 sp, .int .i64 ga, .int .i64 li] by rw [hW0]; exact Blk.newAt _ _ _ (by simp))
  have X := Lib.hid (show Ext w W0 by rw [hW0]; exact (Ext.alloc _ _).trans (Ext.alloc _ _))
  have y0_0 : W0.cell? ⟨w.heap.size, 0, none⟩ = some (.int .i64 L) := Ky0.out.cell 0
  have y0_1 : W0.cell? ⟨w.heap.size, 1, none⟩ = some (.slice J n cj) := Ky0.out.cell 1
  have y0_2 : W0.cell? ⟨w.heap.size, 2, none⟩ = some (.slice K m ck) := Ky0.out.cell 2
  have y1_0 : W0.cell? ⟨w.heap.size + 1, 0, none⟩ = some (.slice P np cp) := Ky1.out.cell 0
  have y1_1 : W0.cell? ⟨w.heap.size + 1, 1, none⟩ = some (.int .i64 sp) := Ky1.out.cell 1
  have y1_2 : W0.cell? ⟨w.heap.size + 1, 2, none⟩ = some (.int .i64 ga) := Ky1.out.cell 2
  have y1_3 : W0.cell? ⟨w.heap.size + 1, 3, none⟩ = some (.int .i64 li) := Ky1.out.cell 3
  go_enter Tryz.func3, Tryz.ntmps3
  go_upto_region 1 with (fail)
  rw [← hW0]
  clear hW0
  go_wp2_with (go_at_call 4; refine (awake_any _).mono ?_; rintro e W1 ⟨rfl, hx⟩; replace X := Lib.hid (X.out.trans hx); replace Ky0 := Lib.hid (Ky0.out.ext hx); replace Ky1 := Lib.hid (Ky1.out.ext hx); clear hx y0_0 y0_1 y0_2 y1_0 y1_1 y1_2 y1_3; refine Hid.out ?_)
  refine Lib.hid ?_
  have y0_0 : W1.cell? ⟨w.heap.size, 0, none⟩ = some (.int .i64 L) := Ky0.out.cell 0
  have y0_1 : W1.cell? ⟨w.heap.size, 1, none⟩ = some (.slice J n cj) := Ky0.out.cell 1
  have y0_2 : W1.cell? ⟨w.heap.size, 2, none⟩ = some (.slice K m ck) := Ky0.out.cell 2
  have y1_0 : W1.cell? ⟨w.heap.size + 1, 0, none⟩ = some (.slice P np cp) := Ky1.out.cell 0
  have y1_1 : W1.cell? ⟨w.heap.size + 1, 1, none⟩ = some (.int .i64 sp) := Ky1.out.cell 1
  have y1_2 : W1.cell? ⟨w.heap.size + 1, 2, none⟩ = some (.int .i64 ga) := Ky1.out.cell 2
  have y1_3 : W1.cell? ⟨w.heap.size + 1, 3, none⟩ = some (.int .i64 li) := Ky1.out.cell 3
  go_wp2_with (go_at_call 5; refine (HFEW.out _).mono ?_; rintro e W2 ⟨rfl, hx⟩; replace X := Lib.hid (X.out.trans hx); replace Ky0 := Lib.hid (Ky0.out.ext hx); replace Ky1 := Lib.hid (Ky1.out.ext hx); clear hx y0_0 y0_1 y0_2 y1_0 y1_1 y1_2 y1_3; refine Hid.out ?_)
  refine Lib.hid ?_
  have y0_0 : W2.cell? ⟨w.heap.size, 0, none⟩ = some (.int .i64 L) := Ky0.out.cell 0
  have y0_1 : W2.cell? ⟨w.heap.size, 1, none⟩ = some (.slice J n cj) := Ky0.out.cell 1
  have y0_2 : W2.cell? ⟨w.heap.size, 2, none⟩ = some (.slice K m ck) := Ky0.out.cell 2
  have y1_0 : W2.cell? ⟨w.heap.size + 1, 0, none⟩ = some (.slice P np cp) := Ky1.out.cell 0
  have y1_1 : W2.cell? ⟨w.heap.size + 1, 1, none⟩ = some (.int .i64 sp) := Ky1.out.cell 1
  have y1_2 : W2.cell? ⟨w.heap.size + 1, 2, none⟩ = some (.int .i64 ga) := Ky1.out.cell 2
  have y1_3 : W2.cell? ⟨w.heap.size + 1, 3, none⟩ = some (.int .i64 li) := Ky1.out.cell 3
  go_wp2_with (go_at_call 6; refine (HFEA.out _).mono ?_; rintro e W3 ⟨rfl, hx⟩; replace X := Lib.hid (X.out.trans hx); replace Ky0 := Lib.hid (Ky0.out.ext hx); replace Ky1 := Lib.hid (Ky1.out.ext hx); clear hx y0_0 y0_1 y0_2 y1_0 y1_1 y1_2 y1_3; refine Hid.out ?_)
  refine Lib.hid ?_
  have y0_0 : W3.cell? ⟨w.heap.size, 0, none⟩ = some (.int .i64 L) := Ky0.out.cell 0
  have y0_1 : W3.cell? ⟨w.heap.size, 1, none⟩ = some (.slice J n cj) := Ky0.out.cell 1
  have y0_2 : W3.cell? ⟨w.heap.size, 2, none⟩ = some (.slice K m ck) := Ky0.out.cell 2
  have y1_0 : W3.cell? ⟨w.heap.size + 1, 0, none⟩ = some (.slice P np cp) := Ky1.out.cell 0
  have y1_1 : W3.cell? ⟨w.heap.size + 1, 1, none⟩ = some (.int .i64 sp) := Ky1.out.cell 1
  have y1_2 : W3.cell? ⟨w.heap.size + 1, 2, none⟩ = some (.int .i64 ga) := Ky1.out.cell 2
  have y1_3 : W3.cell? ⟨w.heap.size + 1, 3, none⟩ = some (.int .i64 li) := Ky1.out.cell 3
  go_wp2
  go_ret
  exact ⟨rfl, X.out⟩

set_option maxRecDepth 100000 in
set_option maxHeartbeats 4000000 in
theorem fw_light {L : Int} {J K : Option Addr} {n m cj ck : Nat} {js : List Int} {ks : List Rg} {w : World} (hn : js.length = n) (hJ : RowsAt 1 I1 w J js) (hm : ks.length = m) (hK : RowsAt 2 Rg.enc w K ks) {P : Option Addr} {np cp : Nat} {am : List Int} {sp ga li : Int} (hnp : am.length = np) (hP : RowsAt 1 I1 w P am) {t : Int} (h : n ≤ 6 ∧ m ≤ 6) (ln : n ≤ maxLen) (lm : m ≤ maxLen) (h5 : np ≤ 5) (lp : np ≤ maxLen) (hcz : (checkS L js ks).2 = 0) (hpz : (checkP am sp ga li).2 = 0) (hlt : ¬ (optL am n).length ≤ 8) :
    Calls Tryz.prog 3 #[.agg #[.int .i64 L, .slice J n cj, .slice K m ck], .agg #[.slice P np cp, .int .i64 sp, .int .i64 ga, .int .i64 li], .int .i64 t] w fun e w' => e = .returned (.bool true) ∧ Ext w w' := by
  have HLT := Lib.hid (fun W (e : Ext w W) => show Calls Tryz.prog 7 #[.agg #[.int .i64 L, .slice J n cj, .slice K m ck], .agg #[.slice P np cp, .int .i64 sp, .int .i64 ga, .int .i64 li]] W fun e w' => e = .returned (.bool false) ∧ Ext W w' from by
    obtain rfl : n = m := by have := (checkS_ok hcz).same; omega
    have := light_any (cj := cj) (ck := ck) (cp := cp) (L := L) (sp := sp) (ga := ga) (li := li) hn (hJ.ext e) hm (hK.ext e) hnp (hP.ext e) hcz hpz
    rw [show decide ((optL am n).length ≤ 8) = false by simp; omega] at this
    exact this)
  have HFEW := Lib.hid (fun W => show Calls Tryz.prog 5 #[.agg #[.int .i64 L, .slice J n cj, .slice K m ck]] W fun e w' => e = .returned (.bool true) ∧ Ext W w' from by have := few_any (L := L) (J := J) (K := K) (n := n) (m := m) (cj := cj) (ck := ck) W ln lm; rw [show few2 n m = true by simp [few2, h.1, h.2]] at this; exact this)
  have HFEA := Lib.hid (fun W => show Calls Tryz.prog 6 #[.agg #[.slice P np cp, .int .i64 sp, .int .i64 ga, .int .i64 li]] W fun e w' => e = .returned (.bool true) ∧ Ext W w' from by have := fewAmounts_any (P := P) (np := np) (cp := cp) (sp := sp) (ga := ga) (li := li) W lp; rw [show few1 np = true by simp [few1, h5]] at this; exact this)
  clear h h5 hn hJ hm hK hnp hP hcz hpz hlt
  obtain ⟨W0, hW0⟩ : ∃ W0, W0 = (w.alloc (.cells #[.int .i64 L, .slice J n cj, .slice K m ck] 25)).alloc (.cells #[.slice P np cp, .int .i64 sp, .int .i64 ga, .int .i64 li] 27) := ⟨_, rfl⟩
  have Ky0 := Lib.hid (show Blk W0 (w.heap.size) 25 #[.int .i64 L, .slice J n cj, .slice K m ck] by rw [hW0]; exact (Blk.new _ _ _).alloc _)
  have Ky1 := Lib.hid (show Blk W0 (w.heap.size + 1) 27 #[.slice P np cp, .int .i64 sp, .int .i64 ga, .int .i64 li] by rw [hW0]; exact Blk.newAt _ _ _ (by simp))
  have X := Lib.hid (show Ext w W0 by rw [hW0]; exact (Ext.alloc _ _).trans (Ext.alloc _ _))
  have y0_0 : W0.cell? ⟨w.heap.size, 0, none⟩ = some (.int .i64 L) := Ky0.out.cell 0
  have y0_1 : W0.cell? ⟨w.heap.size, 1, none⟩ = some (.slice J n cj) := Ky0.out.cell 1
  have y0_2 : W0.cell? ⟨w.heap.size, 2, none⟩ = some (.slice K m ck) := Ky0.out.cell 2
  have y1_0 : W0.cell? ⟨w.heap.size + 1, 0, none⟩ = some (.slice P np cp) := Ky1.out.cell 0
  have y1_1 : W0.cell? ⟨w.heap.size + 1, 1, none⟩ = some (.int .i64 sp) := Ky1.out.cell 1
  have y1_2 : W0.cell? ⟨w.heap.size + 1, 2, none⟩ = some (.int .i64 ga) := Ky1.out.cell 2
  have y1_3 : W0.cell? ⟨w.heap.size + 1, 3, none⟩ = some (.int .i64 li) := Ky1.out.cell 3
  go_enter Tryz.func3, Tryz.ntmps3
  go_upto_region 1 with (fail)
  rw [← hW0]
  clear hW0
  go_wp2_with (go_at_call 4; refine (awake_any _).mono ?_; rintro e W1 ⟨rfl, hx⟩; replace X := Lib.hid (X.out.trans hx); replace Ky0 := Lib.hid (Ky0.out.ext hx); replace Ky1 := Lib.hid (Ky1.out.ext hx); clear hx y0_0 y0_1 y0_2 y1_0 y1_1 y1_2 y1_3; refine Hid.out ?_)
  refine Lib.hid ?_
  have y0_0 : W1.cell? ⟨w.heap.size, 0, none⟩ = some (.int .i64 L) := Ky0.out.cell 0
  have y0_1 : W1.cell? ⟨w.heap.size, 1, none⟩ = some (.slice J n cj) := Ky0.out.cell 1
  have y0_2 : W1.cell? ⟨w.heap.size, 2, none⟩ = some (.slice K m ck) := Ky0.out.cell 2
  have y1_0 : W1.cell? ⟨w.heap.size + 1, 0, none⟩ = some (.slice P np cp) := Ky1.out.cell 0
  have y1_1 : W1.cell? ⟨w.heap.size + 1, 1, none⟩ = some (.int .i64 sp) := Ky1.out.cell 1
  have y1_2 : W1.cell? ⟨w.heap.size + 1, 2, none⟩ = some (.int .i64 ga) := Ky1.out.cell 2
  have y1_3 : W1.cell? ⟨w.heap.size + 1, 3, none⟩ = some (.int .i64 li) := Ky1.out.cell 3
  go_wp2_with (go_at_call 5; refine (HFEW.out _).mono ?_; rintro e W2 ⟨rfl, hx⟩; replace X := Lib.hid (X.out.trans hx); replace Ky0 := Lib.hid (Ky0.out.ext hx); replace Ky1 := Lib.hid (Ky1.out.ext hx); clear hx y0_0 y0_1 y0_2 y1_0 y1_1 y1_2 y1_3; refine Hid.out ?_)
  refine Lib.hid ?_
  have y0_0 : W2.cell? ⟨w.heap.size, 0, none⟩ = some (.int .i64 L) := Ky0.out.cell 0
  have y0_1 : W2.cell? ⟨w.heap.size, 1, none⟩ = some (.slice J n cj) := Ky0.out.cell 1
  have y0_2 : W2.cell? ⟨w.heap.size, 2, none⟩ = some (.slice K m ck) := Ky0.out.cell 2
  have y1_0 : W2.cell? ⟨w.heap.size + 1, 0, none⟩ = some (.slice P np cp) := Ky1.out.cell 0
  have y1_1 : W2.cell? ⟨w.heap.size + 1, 1, none⟩ = some (.int .i64 sp) := Ky1.out.cell 1
  have y1_2 : W2.cell? ⟨w.heap.size + 1, 2, none⟩ = some (.int .i64 ga) := Ky1.out.cell 2
  have y1_3 : W2.cell? ⟨w.heap.size + 1, 3, none⟩ = some (.int .i64 li) := Ky1.out.cell 3
  go_wp2_with (go_at_call 6; refine (HFEA.out _).mono ?_; rintro e W3 ⟨rfl, hx⟩; replace X := Lib.hid (X.out.trans hx); replace Ky0 := Lib.hid (Ky0.out.ext hx); replace Ky1 := Lib.hid (Ky1.out.ext hx); clear hx y0_0 y0_1 y0_2 y1_0 y1_1 y1_2 y1_3; refine Hid.out ?_)
  refine Lib.hid ?_
  have y0_0 : W3.cell? ⟨w.heap.size, 0, none⟩ = some (.int .i64 L) := Ky0.out.cell 0
  have y0_1 : W3.cell? ⟨w.heap.size, 1, none⟩ = some (.slice J n cj) := Ky0.out.cell 1
  have y0_2 : W3.cell? ⟨w.heap.size, 2, none⟩ = some (.slice K m ck) := Ky0.out.cell 2
  have y1_0 : W3.cell? ⟨w.heap.size + 1, 0, none⟩ = some (.slice P np cp) := Ky1.out.cell 0
  have y1_1 : W3.cell? ⟨w.heap.size + 1, 1, none⟩ = some (.int .i64 sp) := Ky1.out.cell 1
  have y1_2 : W3.cell? ⟨w.heap.size + 1, 2, none⟩ = some (.int .i64 ga) := Ky1.out.cell 2
  have y1_3 : W3.cell? ⟨w.heap.size + 1, 3, none⟩ = some (.int .i64 li) := Ky1.out.cell 3
  go_wp2_with (go_at_call 7; refine (HLT.out _ X.out).mono ?_; rintro e W4 ⟨rfl, hx⟩; replace X := Lib.hid (X.out.trans hx); replace Ky0 := Lib.hid (Ky0.out.ext hx); replace Ky1 := Lib.hid (Ky1.out.ext hx); clear hx y0_0 y0_1 y0_2 y1_0 y1_1 y1_2 y1_3; refine Hid.out ?_)
  refine Lib.hid ?_
  have y0_0 : W4.cell? ⟨w.heap.size, 0, none⟩ = some (.int .i64 L) := Ky0.out.cell 0
  have y0_1 : W4.cell? ⟨w.heap.size, 1, none⟩ = some (.slice J n cj) := Ky0.out.cell 1
  have y0_2 : W4.cell? ⟨w.heap.size, 2, none⟩ = some (.slice K m ck) := Ky0.out.cell 2
  have y1_0 : W4.cell? ⟨w.heap.size + 1, 0, none⟩ = some (.slice P np cp) := Ky1.out.cell 0
  have y1_1 : W4.cell? ⟨w.heap.size + 1, 1, none⟩ = some (.int .i64 sp) := Ky1.out.cell 1
  have y1_2 : W4.cell? ⟨w.heap.size + 1, 2, none⟩ = some (.int .i64 ga) := Ky1.out.cell 2
  have y1_3 : W4.cell? ⟨w.heap.size + 1, 3, none⟩ = some (.int .i64 li) := Ky1.out.cell 3
  go_wp2
  go_ret
  exact ⟨rfl, X.out⟩

set_option maxRecDepth 100000 in
set_option maxHeartbeats 4000000 in
theorem fw_bad1 {L : Int} {J K : Option Addr} {n m cj ck : Nat} {js : List Int} {ks : List Rg} {w : World} (hn : js.length = n) (hJ : RowsAt 1 I1 w J js) (hm : ks.length = m) (hK : RowsAt 2 Rg.enc w K ks) {P : Option Addr} {np cp : Nat} {am : List Int} {sp ga li : Int} (hnp : am.length = np) (hP : RowsAt 1 I1 w P am) {t z : Int} (hjn : J = none → cj = 0) (hkn : K = none → ck = 0) (hpn : P = none → cp = 0) (h : n ≤ 6 ∧ m ≤ 6) (ln : n ≤ maxLen) (lm : m ≤ maxLen) (h5 : np ≤ 5) (lp : np ≤ maxLen) (hbe : (if (checkS L js ks).2 ≠ 0 then (checkS L js ks).2 else (checkP am sp ga li).2) = z) (hbd : firstE [(checkS L js ks).2, (checkP am sp ga li).2, tolE t] = z) (hz : z ≠ 0) :
    Calls Tryz.prog 3 #[.agg #[.int .i64 L, .slice J n cj, .slice K m ck], .agg #[.slice P np cp, .int .i64 sp, .int .i64 ga, .int .i64 li], .int .i64 t] w fun e w' => e = .returned (.bool true) ∧ Ext w w' := by
  have HLT := Lib.hid (fun W (e : Ext w W) => light_bad (cj := cj) (ck := ck) (cp := cp) hn (hJ.ext e) hm (hK.ext e) hnp (hP.ext e) hbe hz)
  have HFEW := Lib.hid (fun W => show Calls Tryz.prog 5 #[.agg #[.int .i64 L, .slice J n cj, .slice K m ck]] W fun e w' => e = .returned (.bool true) ∧ Ext W w' from by have := few_any (L := L) (J := J) (K := K) (n := n) (m := m) (cj := cj) (ck := ck) W ln lm; rw [show few2 n m = true by simp [few2, h.1, h.2]] at this; exact this)
  have HFEA := Lib.hid (fun W => show Calls Tryz.prog 6 #[.agg #[.slice P np cp, .int .i64 sp, .int .i64 ga, .int .i64 li]] W fun e w' => e = .returned (.bool true) ∧ Ext W w' from by have := fewAmounts_any (P := P) (np := np) (cp := cp) (sp := sp) (ga := ga) (li := li) W lp; rw [show few1 np = true by simp [few1, h5]] at this; exact this)
  have hbz : bndE L js ks am sp ga li t = z := hbd
  have hfe : fewE L js ks am sp ga li t = z := hbd
  have hfv : fewV L js ks am sp ga li t = none := by unfold fewV; rw [hfe, if_neg hz]
  have hfc : fewC L js ks am sp ga li t = z := by unfold fewC; rw [hfe, if_neg hz]
  have HFW := Lib.hid (fun W J1 c1 K1 d1 P2 c2 (r1 : RowsAt 1 I1 W J1 js) (s1 : RowsAt 2 Rg.enc W K1 ks) (r2 : RowsAt 1 I1 W P2 am) (n1 : J1 = none → c1 = 0) => show Calls Tryz.prog 8 #[.agg #[.int .i64 L, .slice J1 n c1, .slice K1 m d1], .agg #[.slice P2 np c2, .int .i64 sp, .int .i64 ga, .int .i64 li], .int .i64 t] W fun e w' => e = .returned (.tuple #[.slice none 0 0, .int .i64 z]) ∧ Ext W w' from by
    have := fewestOf_any (ck := d1) (cp := c2) (L := L) (sp := sp) (ga := ga) (li := li) (t := t) hn r1 hm s1 n1 hnp r2
    rw [hfv, hfc] at this
    refine this.mono ?_
    rintro e w' ⟨A', m', c', rfl, h1, -, hx⟩
    obtain ⟨rfl, rfl, rfl⟩ := h1 rfl
    exact ⟨rfl, hx⟩)
  have HBO := Lib.hid (fun W J1 c1 K1 d1 P2 c2 (r1 : RowsAt 1 I1 W J1 js) (s1 : RowsAt 2 Rg.enc W K1 ks) (r2 : RowsAt 1 I1 W P2 am) => boundOf_bad (cj := c1) (ck := d1) (cp := c2) hn r1 hm s1 hnp r2 hbz hz)
  have hz2 : (z == 0) = false := by simp [hz]
  have hz3 : (z != 0) = true := by simp [hz]
  have HBE := Lib.hid (fun W (e : Ext w W) => show Calls Tryz.prog 12 #[.agg #[.int .i64 L, .slice J n cj, .slice K m ck], .agg #[.slice P np cp, .int .i64 sp, .int .i64 ga, .int .i64 li]] W fun e w' => e = .returned (.int .i64 z) ∧ Ext W w' from by have := bothErr_any (cj := cj) (ck := ck) (cp := cp) (L := L) (sp := sp) (ga := ga) (li := li) hn (hJ.ext e) hm (hK.ext e) hnp (hP.ext e); rw [hbe] at this; exact this)
  have HCP := Lib.hid (fun W (e : Ext w W) => copyShaft_any (L := L) (cj := cj) (ck := ck) hn (hJ.ext e) hm (hK.ext e) hjn hkn (by omega) (by omega))
  have HCQ := Lib.hid (fun W (e : Ext w W) => copyPress_any (sp := sp) (ga := ga) (li := li) hnp (hP.ext e) hpn (by omega))
  clear hn hJ hm hK hnp hP hjn hkn hpn h h5 hbe hbd hz hbz hfe hfv hfc
  obtain ⟨W0, hW0⟩ : ∃ W0, W0 = (w.alloc (.cells #[.int .i64 L, .slice J n cj, .slice K m ck] 25)).alloc (.cells #[.slice P np cp, .int .i64 sp, .int .i64 ga, .int .i64 li] 27) := ⟨_, rfl⟩
  have Ky0 := Lib.hid (show Blk W0 (w.heap.size) 25 #[.int .i64 L, .slice J n cj, .slice K m ck] by rw [hW0]; exact (Blk.new _ _ _).alloc _)
  have Ky1 := Lib.hid (show Blk W0 (w.heap.size + 1) 27 #[.slice P np cp, .int .i64 sp, .int .i64 ga, .int .i64 li] by rw [hW0]; exact Blk.newAt _ _ _ (by simp))
  have X := Lib.hid (show Ext w W0 by rw [hW0]; exact (Ext.alloc _ _).trans (Ext.alloc _ _))
  have y0_0 : W0.cell? ⟨w.heap.size, 0, none⟩ = some (.int .i64 L) := Ky0.out.cell 0
  have y0_1 : W0.cell? ⟨w.heap.size, 1, none⟩ = some (.slice J n cj) := Ky0.out.cell 1
  have y0_2 : W0.cell? ⟨w.heap.size, 2, none⟩ = some (.slice K m ck) := Ky0.out.cell 2
  have y1_0 : W0.cell? ⟨w.heap.size + 1, 0, none⟩ = some (.slice P np cp) := Ky1.out.cell 0
  have y1_1 : W0.cell? ⟨w.heap.size + 1, 1, none⟩ = some (.int .i64 sp) := Ky1.out.cell 1
  have y1_2 : W0.cell? ⟨w.heap.size + 1, 2, none⟩ = some (.int .i64 ga) := Ky1.out.cell 2
  have y1_3 : W0.cell? ⟨w.heap.size + 1, 3, none⟩ = some (.int .i64 li) := Ky1.out.cell 3
  go_enter Tryz.func3, Tryz.ntmps3
  go_upto_region 1 with (fail)
  rw [← hW0]
  clear hW0
  go_wp2_with (go_at_call 4; refine (awake_any _).mono ?_; rintro e W1 ⟨rfl, hx⟩; replace X := Lib.hid (X.out.trans hx); replace Ky0 := Lib.hid (Ky0.out.ext hx); replace Ky1 := Lib.hid (Ky1.out.ext hx); clear hx y0_0 y0_1 y0_2 y1_0 y1_1 y1_2 y1_3; refine Hid.out ?_)
  refine Lib.hid ?_
  have y0_0 : W1.cell? ⟨w.heap.size, 0, none⟩ = some (.int .i64 L) := Ky0.out.cell 0
  have y0_1 : W1.cell? ⟨w.heap.size, 1, none⟩ = some (.slice J n cj) := Ky0.out.cell 1
  have y0_2 : W1.cell? ⟨w.heap.size, 2, none⟩ = some (.slice K m ck) := Ky0.out.cell 2
  have y1_0 : W1.cell? ⟨w.heap.size + 1, 0, none⟩ = some (.slice P np cp) := Ky1.out.cell 0
  have y1_1 : W1.cell? ⟨w.heap.size + 1, 1, none⟩ = some (.int .i64 sp) := Ky1.out.cell 1
  have y1_2 : W1.cell? ⟨w.heap.size + 1, 2, none⟩ = some (.int .i64 ga) := Ky1.out.cell 2
  have y1_3 : W1.cell? ⟨w.heap.size + 1, 3, none⟩ = some (.int .i64 li) := Ky1.out.cell 3
  go_wp2_with (go_at_call 5; refine (HFEW.out _).mono ?_; rintro e W2 ⟨rfl, hx⟩; replace X := Lib.hid (X.out.trans hx); replace Ky0 := Lib.hid (Ky0.out.ext hx); replace Ky1 := Lib.hid (Ky1.out.ext hx); clear hx y0_0 y0_1 y0_2 y1_0 y1_1 y1_2 y1_3; refine Hid.out ?_)
  refine Lib.hid ?_
  have y0_0 : W2.cell? ⟨w.heap.size, 0, none⟩ = some (.int .i64 L) := Ky0.out.cell 0
  have y0_1 : W2.cell? ⟨w.heap.size, 1, none⟩ = some (.slice J n cj) := Ky0.out.cell 1
  have y0_2 : W2.cell? ⟨w.heap.size, 2, none⟩ = some (.slice K m ck) := Ky0.out.cell 2
  have y1_0 : W2.cell? ⟨w.heap.size + 1, 0, none⟩ = some (.slice P np cp) := Ky1.out.cell 0
  have y1_1 : W2.cell? ⟨w.heap.size + 1, 1, none⟩ = some (.int .i64 sp) := Ky1.out.cell 1
  have y1_2 : W2.cell? ⟨w.heap.size + 1, 2, none⟩ = some (.int .i64 ga) := Ky1.out.cell 2
  have y1_3 : W2.cell? ⟨w.heap.size + 1, 3, none⟩ = some (.int .i64 li) := Ky1.out.cell 3
  go_wp2_with (go_at_call 6; refine (HFEA.out _).mono ?_; rintro e W3 ⟨rfl, hx⟩; replace X := Lib.hid (X.out.trans hx); replace Ky0 := Lib.hid (Ky0.out.ext hx); replace Ky1 := Lib.hid (Ky1.out.ext hx); clear hx y0_0 y0_1 y0_2 y1_0 y1_1 y1_2 y1_3; refine Hid.out ?_)
  refine Lib.hid ?_
  have y0_0 : W3.cell? ⟨w.heap.size, 0, none⟩ = some (.int .i64 L) := Ky0.out.cell 0
  have y0_1 : W3.cell? ⟨w.heap.size, 1, none⟩ = some (.slice J n cj) := Ky0.out.cell 1
  have y0_2 : W3.cell? ⟨w.heap.size, 2, none⟩ = some (.slice K m ck) := Ky0.out.cell 2
  have y1_0 : W3.cell? ⟨w.heap.size + 1, 0, none⟩ = some (.slice P np cp) := Ky1.out.cell 0
  have y1_1 : W3.cell? ⟨w.heap.size + 1, 1, none⟩ = some (.int .i64 sp) := Ky1.out.cell 1
  have y1_2 : W3.cell? ⟨w.heap.size + 1, 2, none⟩ = some (.int .i64 ga) := Ky1.out.cell 2
  have y1_3 : W3.cell? ⟨w.heap.size + 1, 3, none⟩ = some (.int .i64 li) := Ky1.out.cell 3
  go_wp2_with (go_at_call 7; refine (HLT.out _ X.out).mono ?_; rintro e W4 ⟨rfl, hx⟩; replace X := Lib.hid (X.out.trans hx); replace Ky0 := Lib.hid (Ky0.out.ext hx); replace Ky1 := Lib.hid (Ky1.out.ext hx); clear hx y0_0 y0_1 y0_2 y1_0 y1_1 y1_2 y1_3; refine Hid.out ?_)
  refine Lib.hid ?_
  have y0_0 : W4.cell? ⟨w.heap.size, 0, none⟩ = some (.int .i64 L) := Ky0.out.cell 0
  have y0_1 : W4.cell? ⟨w.heap.size, 1, none⟩ = some (.slice J n cj) := Ky0.out.cell 1
  have y0_2 : W4.cell? ⟨w.heap.size, 2, none⟩ = some (.slice K m ck) := Ky0.out.cell 2
  have y1_0 : W4.cell? ⟨w.heap.size + 1, 0, none⟩ = some (.slice P np cp) := Ky1.out.cell 0
  have y1_1 : W4.cell? ⟨w.heap.size + 1, 1, none⟩ = some (.int .i64 sp) := Ky1.out.cell 1
  have y1_2 : W4.cell? ⟨w.heap.size + 1, 2, none⟩ = some (.int .i64 ga) := Ky1.out.cell 2
  have y1_3 : W4.cell? ⟨w.heap.size + 1, 3, none⟩ = some (.int .i64 li) := Ky1.out.cell 3
  clear HFEW HFEA HLT
  go_upto_region 5 with (fail)
  refine wp_region_each [some 35, some 36, some 37, some 38, some 39, some 40, some 34, some 41, some 42, some 7, some 8] [[3], [35], [4], [37], [2], [36, 38, 39], [40], [34], [34], [41], [42]]
    [Is (.agg #[.int .i64 L, .slice J n cj, .slice K m ck]), CopS L js ks n m, Is (.agg #[.slice P np cp, .int .i64 sp, .int .i64 ga, .int .i64 li]), CopP am sp ga li np, Is (.int .i64 (t)), Is (.tuple #[.slice none 0 0, .int .i64 z]), Is (.tuple #[.slice none 0 0, .int .i64 z]), Is (.slice none 0 0), Is (.int .i64 (z)), Is (.slice none 0 0), Is (.int .i64 (z))]
    (by kernel_rfl) (by kernel_rfl) (by kernel_rfl) (by kernel_rfl) (by kernel_rfl) Ext (fun W => Ext W4 W)
    (fun W _ => Ext.refl W) (fun W W' h k => h.trans k) ?_ (Ext.drew _) ?_ ?_
  · repeat (refine ⟨fun _ _ _ _ k h => (by first | exact h | exact (by first | exact IntsAt.ext h k | exact CopS.ext h k | exact CopP.ext h k | exact CopL.ext h k | exact FewT.ext h k)), ?_⟩)
    exact trivial
  · refine ⟨?_, ?_, ?_, ?_, ?_, ?_, ?_, ?_, ?_, ?_, ?_, trivial⟩
    all_goals intro ρ W ⟨kc, kg, kf⟩ hF hs
    · obtain ⟨h0, -⟩ := hs
      replace h0 : ρ (.tmp 3) = .pointer (some ⟨w.heap.size, 0, none⟩) := h0
      have hc0 : W.cell? ⟨w.heap.size, 0, none⟩ = some (.int .i64 L) := hF.cell (by assumption)
      have hc1 : W.cell? ⟨w.heap.size, 1, none⟩ = some (.slice J n cj) := hF.cell (by assumption)
      have hc2 : W.cell? ⟨w.heap.size, 2, none⟩ = some (.slice K m ck) := hF.cell (by assumption)
      go_simp
      exact ⟨Ext.refl _, rfl⟩
    · obtain ⟨h0, -⟩ := hs
      replace h0 : ρ (.tmp 35) = .agg #[.int .i64 L, .slice J n cj, .slice K m ck] := h0
      go_simp
      refine (HCP.out _ (X.out.trans hF)).mono ?_; rintro e w' ⟨v, rfl, hc, hx⟩; exact ⟨_, rfl, hx, CopS.of hc⟩
    · obtain ⟨h0, -⟩ := hs
      replace h0 : ρ (.tmp 4) = .pointer (some ⟨w.heap.size + 1, 0, none⟩) := h0
      have hc0 : W.cell? ⟨w.heap.size + 1, 0, none⟩ = some (.slice P np cp) := hF.cell (by assumption)
      have hc1 : W.cell? ⟨w.heap.size + 1, 1, none⟩ = some (.int .i64 sp) := hF.cell (by assumption)
      have hc2 : W.cell? ⟨w.heap.size + 1, 2, none⟩ = some (.int .i64 ga) := hF.cell (by assumption)
      have hc3 : W.cell? ⟨w.heap.size + 1, 3, none⟩ = some (.int .i64 li) := hF.cell (by assumption)
      go_simp
      exact ⟨Ext.refl _, rfl⟩
    · obtain ⟨h0, -⟩ := hs
      replace h0 : ρ (.tmp 37) = .agg #[.slice P np cp, .int .i64 sp, .int .i64 ga, .int .i64 li] := h0
      go_simp
      refine (HCQ.out _ (X.out.trans hF)).mono ?_; rintro e w' ⟨v, rfl, hc, hx⟩; exact ⟨_, rfl, hx, CopP.of hc⟩
    · obtain ⟨h0, -⟩ := hs
      replace h0 : ρ (.tmp 2) = .int .i64 (t) := h0
      go_simp
      exact ⟨Ext.refl _, rfl⟩
    · obtain ⟨h0, h1, h2, -⟩ := hs
      replace h0 : (CopS L js ks n m) (ρ (.tmp 36)) W := h0
      replace h1 : (CopP am sp ga li np) (ρ (.tmp 38)) W := h1
      replace h2 : ρ (.tmp 39) = .int .i64 (t) := h2
      obtain ⟨J1, c1, K1, d1, e1, r1, s1, n1, m1⟩ := h0
      replace e1 : ρ (.tmp 36) = .agg #[.int .i64 L, .slice J1 n c1, .slice K1 m d1] := e1
      obtain ⟨P2, c2, e2, r2, n2⟩ := h1
      replace e2 : ρ (.tmp 38) = .agg #[.slice P2 np c2, .int .i64 sp, .int .i64 ga, .int .i64 li] := e2
      go_simp
      refine (HFW.out _ J1 c1 K1 d1 P2 c2 r1 s1 r2 n1).mono ?_; rintro e w' ⟨rfl, hx⟩; exact ⟨_, rfl, hx, rfl⟩
    · obtain ⟨h0, -⟩ := hs
      replace h0 : ρ (.tmp 40) = .tuple #[.slice none 0 0, .int .i64 z] := h0
      go_simp
      exact ⟨Ext.refl _, rfl⟩
    · obtain ⟨h0, -⟩ := hs
      replace h0 : ρ (.tmp 34) = .tuple #[.slice none 0 0, .int .i64 z] := h0
      go_simp
      exact ⟨Ext.refl _, rfl⟩
    · obtain ⟨h0, -⟩ := hs
      replace h0 : ρ (.tmp 34) = .tuple #[.slice none 0 0, .int .i64 z] := h0
      go_simp
      exact ⟨Ext.refl _, rfl⟩
    · obtain ⟨h0, -⟩ := hs
      replace h0 : ρ (.tmp 41) = .slice none 0 0 := h0
      go_simp
      exact ⟨Ext.refl _, rfl⟩
    · obtain ⟨h0, -⟩ := hs
      replace h0 : ρ (.tmp 42) = .int .i64 (z) := h0
      go_simp
      exact ⟨Ext.refl _, rfl⟩
  · intro fv V1x hF hs
    obtain ⟨-, -, -, -, -, -, -, -, -, h7, h8, -⟩ := hs
    replace h7 : fv 7 = .slice none 0 0 := h7
    replace h8 : fv 8 = .int .i64 (z) := h8
    simp only [fin, List.filterMap]
    go_simp
    have hx := hF
    replace X := Lib.hid (X.out.trans hx)
    replace Ky0 := Lib.hid (Ky0.out.ext hx)
    replace Ky1 := Lib.hid (Ky1.out.ext hx)
    clear hx y0_0 y0_1 y0_2 y1_0 y1_1 y1_2 y1_3
    clear hF
    obtain ⟨V1, hV⟩ : ∃ V, V = V1x := ⟨_, rfl⟩
    rw [← hV] at X Ky0 Ky1  ⊢
    clear hV
    have y0_0 : V1.cell? ⟨w.heap.size, 0, none⟩ = some (.int .i64 L) := Ky0.out.cell 0
    have y0_1 : V1.cell? ⟨w.heap.size, 1, none⟩ = some (.slice J n cj) := Ky0.out.cell 1
    have y0_2 : V1.cell? ⟨w.heap.size, 2, none⟩ = some (.slice K m ck) := Ky0.out.cell 2
    have y1_0 : V1.cell? ⟨w.heap.size + 1, 0, none⟩ = some (.slice P np cp) := Ky1.out.cell 0
    have y1_1 : V1.cell? ⟨w.heap.size + 1, 1, none⟩ = some (.int .i64 sp) := Ky1.out.cell 1
    have y1_2 : V1.cell? ⟨w.heap.size + 1, 2, none⟩ = some (.int .i64 ga) := Ky1.out.cell 2
    have y1_3 : V1.cell? ⟨w.heap.size + 1, 3, none⟩ = some (.int .i64 li) := Ky1.out.cell 3
    go_upto_region 6 with (fail)
    refine wp_region_each [some 44, some 45, some 46, some 47, some 48, some 49, some 43, some 50, some 51, some 52, some 9, some 10, some 11] [[3], [44], [4], [46], [2], [45, 47, 48], [49], [43], [43], [43], [50], [51], [52]]
      [Is (.agg #[.int .i64 L, .slice J n cj, .slice K m ck]), CopS L js ks n m, Is (.agg #[.slice P np cp, .int .i64 sp, .int .i64 ga, .int .i64 li]), CopP am sp ga li np, Is (.int .i64 (t)), Is (.tuple #[.int .i64 0, .int .i64 0, .int .i64 z]), Is (.tuple #[.int .i64 0, .int .i64 0, .int .i64 z]), Is (.int .i64 (0)), Is (.int .i64 (0)), Is (.int .i64 (z)), Is (.int .i64 (0)), Is (.int .i64 (0)), Is (.int .i64 (z))]
      (by kernel_rfl) (by kernel_rfl) (by kernel_rfl) (by kernel_rfl) (by kernel_rfl) Ext (fun W => Ext V1 W)
      (fun W _ => Ext.refl W) (fun W W' h k => h.trans k) ?_ (Ext.drew _) ?_ ?_
    · repeat (refine ⟨fun _ _ _ _ k h => (by first | exact h | exact (by first | exact IntsAt.ext h k | exact CopS.ext h k | exact CopP.ext h k | exact CopL.ext h k | exact FewT.ext h k)), ?_⟩)
      exact trivial
    · refine ⟨?_, ?_, ?_, ?_, ?_, ?_, ?_, ?_, ?_, ?_, ?_, ?_, ?_, trivial⟩
      all_goals intro ρ W ⟨kc, kg, kf⟩ hF hs
      · obtain ⟨h0, -⟩ := hs
        replace h0 : ρ (.tmp 3) = .pointer (some ⟨w.heap.size, 0, none⟩) := h0
        have hc0 : W.cell? ⟨w.heap.size, 0, none⟩ = some (.int .i64 L) := hF.cell (by assumption)
        have hc1 : W.cell? ⟨w.heap.size, 1, none⟩ = some (.slice J n cj) := hF.cell (by assumption)
        have hc2 : W.cell? ⟨w.heap.size, 2, none⟩ = some (.slice K m ck) := hF.cell (by assumption)
        go_simp
        exact ⟨Ext.refl _, rfl⟩
      · obtain ⟨h0, -⟩ := hs
        replace h0 : ρ (.tmp 44) = .agg #[.int .i64 L, .slice J n cj, .slice K m ck] := h0
        go_simp
        refine (HCP.out _ (X.out.trans hF)).mono ?_; rintro e w' ⟨v, rfl, hc, hx⟩; exact ⟨_, rfl, hx, CopS.of hc⟩
      · obtain ⟨h0, -⟩ := hs
        replace h0 : ρ (.tmp 4) = .pointer (some ⟨w.heap.size + 1, 0, none⟩) := h0
        have hc0 : W.cell? ⟨w.heap.size + 1, 0, none⟩ = some (.slice P np cp) := hF.cell (by assumption)
        have hc1 : W.cell? ⟨w.heap.size + 1, 1, none⟩ = some (.int .i64 sp) := hF.cell (by assumption)
        have hc2 : W.cell? ⟨w.heap.size + 1, 2, none⟩ = some (.int .i64 ga) := hF.cell (by assumption)
        have hc3 : W.cell? ⟨w.heap.size + 1, 3, none⟩ = some (.int .i64 li) := hF.cell (by assumption)
        go_simp
        exact ⟨Ext.refl _, rfl⟩
      · obtain ⟨h0, -⟩ := hs
        replace h0 : ρ (.tmp 46) = .agg #[.slice P np cp, .int .i64 sp, .int .i64 ga, .int .i64 li] := h0
        go_simp
        refine (HCQ.out _ (X.out.trans hF)).mono ?_; rintro e w' ⟨v, rfl, hc, hx⟩; exact ⟨_, rfl, hx, CopP.of hc⟩
      · obtain ⟨h0, -⟩ := hs
        replace h0 : ρ (.tmp 2) = .int .i64 (t) := h0
        go_simp
        exact ⟨Ext.refl _, rfl⟩
      · obtain ⟨h0, h1, h2, -⟩ := hs
        replace h0 : (CopS L js ks n m) (ρ (.tmp 45)) W := h0
        replace h1 : (CopP am sp ga li np) (ρ (.tmp 47)) W := h1
        replace h2 : ρ (.tmp 48) = .int .i64 (t) := h2
        obtain ⟨J1, c1, K1, d1, e1, r1, s1, n1, m1⟩ := h0
        replace e1 : ρ (.tmp 45) = .agg #[.int .i64 L, .slice J1 n c1, .slice K1 m d1] := e1
        obtain ⟨P2, c2, e2, r2, n2⟩ := h1
        replace e2 : ρ (.tmp 47) = .agg #[.slice P2 np c2, .int .i64 sp, .int .i64 ga, .int .i64 li] := e2
        go_simp
        refine (HBO.out _ J1 c1 K1 d1 P2 c2 r1 s1 r2).mono ?_; rintro e w' ⟨rfl, hx⟩; exact ⟨_, rfl, hx, rfl⟩
      · obtain ⟨h0, -⟩ := hs
        replace h0 : ρ (.tmp 49) = .tuple #[.int .i64 0, .int .i64 0, .int .i64 z] := h0
        go_simp
        exact ⟨Ext.refl _, rfl⟩
      · obtain ⟨h0, -⟩ := hs
        replace h0 : ρ (.tmp 43) = .tuple #[.int .i64 0, .int .i64 0, .int .i64 z] := h0
        go_simp
        exact ⟨Ext.refl _, rfl⟩
      · obtain ⟨h0, -⟩ := hs
        replace h0 : ρ (.tmp 43) = .tuple #[.int .i64 0, .int .i64 0, .int .i64 z] := h0
        go_simp
        exact ⟨Ext.refl _, rfl⟩
      · obtain ⟨h0, -⟩ := hs
        replace h0 : ρ (.tmp 43) = .tuple #[.int .i64 0, .int .i64 0, .int .i64 z] := h0
        go_simp
        exact ⟨Ext.refl _, rfl⟩
      · obtain ⟨h0, -⟩ := hs
        replace h0 : ρ (.tmp 50) = .int .i64 (0) := h0
        go_simp
        exact ⟨Ext.refl _, rfl⟩
      · obtain ⟨h0, -⟩ := hs
        replace h0 : ρ (.tmp 51) = .int .i64 (0) := h0
        go_simp
        exact ⟨Ext.refl _, rfl⟩
      · obtain ⟨h0, -⟩ := hs
        replace h0 : ρ (.tmp 52) = .int .i64 (z) := h0
        go_simp
        exact ⟨Ext.refl _, rfl⟩
    · intro fv V2x hF hs
      obtain ⟨-, -, -, -, -, -, -, -, -, -, h9, h10, h11, -⟩ := hs
      replace h9 : fv 9 = .int .i64 (0) := h9
      replace h10 : fv 10 = .int .i64 (0) := h10
      replace h11 : fv 11 = .int .i64 (z) := h11
      simp only [fin, List.filterMap]
      go_simp
      have hx := hF
      replace X := Lib.hid (X.out.trans hx)
      replace Ky0 := Lib.hid (Ky0.out.ext hx)
      replace Ky1 := Lib.hid (Ky1.out.ext hx)
      clear hx y0_0 y0_1 y0_2 y1_0 y1_1 y1_2 y1_3
      clear hF
      obtain ⟨V2, hV⟩ : ∃ V, V = V2x := ⟨_, rfl⟩
      rw [← hV] at X Ky0 Ky1  ⊢
      clear hV
      have y0_0 : V2.cell? ⟨w.heap.size, 0, none⟩ = some (.int .i64 L) := Ky0.out.cell 0
      have y0_1 : V2.cell? ⟨w.heap.size, 1, none⟩ = some (.slice J n cj) := Ky0.out.cell 1
      have y0_2 : V2.cell? ⟨w.heap.size, 2, none⟩ = some (.slice K m ck) := Ky0.out.cell 2
      have y1_0 : V2.cell? ⟨w.heap.size + 1, 0, none⟩ = some (.slice P np cp) := Ky1.out.cell 0
      have y1_1 : V2.cell? ⟨w.heap.size + 1, 1, none⟩ = some (.int .i64 sp) := Ky1.out.cell 1
      have y1_2 : V2.cell? ⟨w.heap.size + 1, 2, none⟩ = some (.int .i64 ga) := Ky1.out.cell 2
      have y1_3 : V2.cell? ⟨w.heap.size + 1, 3, none⟩ = some (.int .i64 li) := Ky1.out.cell 3
      go_wp2_with (go_at_call 12; refine (HBE.out _ X.out).mono ?_; rintro e V3 ⟨rfl, hx⟩; replace X := Lib.hid (X.out.trans hx); replace Ky0 := Lib.hid (Ky0.out.ext hx); replace Ky1 := Lib.hid (Ky1.out.ext hx); clear hx y0_0 y0_1 y0_2 y1_0 y1_1 y1_2 y1_3; refine Hid.out ?_)
      refine Lib.hid ?_
      have y0_0 : V3.cell? ⟨w.heap.size, 0, none⟩ = some (.int .i64 L) := Ky0.out.cell 0
      have y0_1 : V3.cell? ⟨w.heap.size, 1, none⟩ = some (.slice J n cj) := Ky0.out.cell 1
      have y0_2 : V3.cell? ⟨w.heap.size, 2, none⟩ = some (.slice K m ck) := Ky0.out.cell 2
      have y1_0 : V3.cell? ⟨w.heap.size + 1, 0, none⟩ = some (.slice P np cp) := Ky1.out.cell 0
      have y1_1 : V3.cell? ⟨w.heap.size + 1, 1, none⟩ = some (.int .i64 sp) := Ky1.out.cell 1
      have y1_2 : V3.cell? ⟨w.heap.size + 1, 2, none⟩ = some (.int .i64 ga) := Ky1.out.cell 2
      have y1_3 : V3.cell? ⟨w.heap.size + 1, 3, none⟩ = some (.int .i64 li) := Ky1.out.cell 3
      go_wp2
      go_ret
      exact ⟨rfl, X.out⟩

set_option maxRecDepth 100000 in
set_option maxHeartbeats 4000000 in
theorem fw_bad2 {L : Int} {J K : Option Addr} {n m cj ck : Nat} {js : List Int} {ks : List Rg} {w : World} (hn : js.length = n) (hJ : RowsAt 1 I1 w J js) (hm : ks.length = m) (hK : RowsAt 2 Rg.enc w K ks) {P : Option Addr} {np cp : Nat} {am : List Int} {sp ga li : Int} (hnp : am.length = np) (hP : RowsAt 1 I1 w P am) {t z : Int} (hjn : J = none → cj = 0) (hkn : K = none → ck = 0) (hpn : P = none → cp = 0) (h : n ≤ 6 ∧ m ≤ 6) (ln : n ≤ maxLen) (lm : m ≤ maxLen) (h5 : np ≤ 5) (lp : np ≤ maxLen) (hcz : (checkS L js ks).2 = 0) (hpz : (checkP am sp ga li).2 = 0) (hlt : (optL am n).length ≤ 8) (hto : tolE t = z) (hz : z ≠ 0) :
    Calls Tryz.prog 3 #[.agg #[.int .i64 L, .slice J n cj, .slice K m ck], .agg #[.slice P np cp, .int .i64 sp, .int .i64 ga, .int .i64 li], .int .i64 t] w fun e w' => e = .returned (.bool true) ∧ Ext w w' := by
  have hbe : (if (checkS L js ks).2 ≠ 0 then (checkS L js ks).2 else (checkP am sp ga li).2) = 0 := by rw [if_neg (by simpa using hcz), hpz]
  have hbd : firstE [(checkS L js ks).2, (checkP am sp ga li).2, tolE t] = z := by rw [hcz, hpz, hto]; simp [firstE, hz]
  have HTO := Lib.hid (fun W => show Calls Tryz.prog 13 #[.int .i64 t] W fun e w' => e = .returned (.int .i64 z) ∧ Ext W w' from by have := refTolE_any t W; rw [hto] at this; exact this)
  have HLT := Lib.hid (fun W (e : Ext w W) => show Calls Tryz.prog 7 #[.agg #[.int .i64 L, .slice J n cj, .slice K m ck], .agg #[.slice P np cp, .int .i64 sp, .int .i64 ga, .int .i64 li]] W fun e w' => e = .returned (.bool true) ∧ Ext W w' from by
    obtain rfl : n = m := by have := (checkS_ok hcz).same; omega
    have := light_any (cj := cj) (ck := ck) (cp := cp) (L := L) (sp := sp) (ga := ga) (li := li) hn (hJ.ext e) hm (hK.ext e) hnp (hP.ext e) hcz hpz
    rw [show decide ((optL am n).length ≤ 8) = true by simp [hlt]] at this
    exact this)
  have HFEW := Lib.hid (fun W => show Calls Tryz.prog 5 #[.agg #[.int .i64 L, .slice J n cj, .slice K m ck]] W fun e w' => e = .returned (.bool true) ∧ Ext W w' from by have := few_any (L := L) (J := J) (K := K) (n := n) (m := m) (cj := cj) (ck := ck) W ln lm; rw [show few2 n m = true by simp [few2, h.1, h.2]] at this; exact this)
  have HFEA := Lib.hid (fun W => show Calls Tryz.prog 6 #[.agg #[.slice P np cp, .int .i64 sp, .int .i64 ga, .int .i64 li]] W fun e w' => e = .returned (.bool true) ∧ Ext W w' from by have := fewAmounts_any (P := P) (np := np) (cp := cp) (sp := sp) (ga := ga) (li := li) W lp; rw [show few1 np = true by simp [few1, h5]] at this; exact this)
  have hbz : bndE L js ks am sp ga li t = z := hbd
  have hfe : fewE L js ks am sp ga li t = z := hbd
  have hfv : fewV L js ks am sp ga li t = none := by unfold fewV; rw [hfe, if_neg hz]
  have hfc : fewC L js ks am sp ga li t = z := by unfold fewC; rw [hfe, if_neg hz]
  have HFW := Lib.hid (fun W J1 c1 K1 d1 P2 c2 (r1 : RowsAt 1 I1 W J1 js) (s1 : RowsAt 2 Rg.enc W K1 ks) (r2 : RowsAt 1 I1 W P2 am) (n1 : J1 = none → c1 = 0) => show Calls Tryz.prog 8 #[.agg #[.int .i64 L, .slice J1 n c1, .slice K1 m d1], .agg #[.slice P2 np c2, .int .i64 sp, .int .i64 ga, .int .i64 li], .int .i64 t] W fun e w' => e = .returned (.tuple #[.slice none 0 0, .int .i64 z]) ∧ Ext W w' from by
    have := fewestOf_any (ck := d1) (cp := c2) (L := L) (sp := sp) (ga := ga) (li := li) (t := t) hn r1 hm s1 n1 hnp r2
    rw [hfv, hfc] at this
    refine this.mono ?_
    rintro e w' ⟨A', m', c', rfl, h1, -, hx⟩
    obtain ⟨rfl, rfl, rfl⟩ := h1 rfl
    exact ⟨rfl, hx⟩)
  have HBO := Lib.hid (fun W J1 c1 K1 d1 P2 c2 (r1 : RowsAt 1 I1 W J1 js) (s1 : RowsAt 2 Rg.enc W K1 ks) (r2 : RowsAt 1 I1 W P2 am) => boundOf_bad (cj := c1) (ck := d1) (cp := c2) hn r1 hm s1 hnp r2 hbz hz)
  have hz2 : (z == 0) = false := by simp [hz]
  have hz3 : (z != 0) = true := by simp [hz]
  have HBE := Lib.hid (fun W (e : Ext w W) => show Calls Tryz.prog 12 #[.agg #[.int .i64 L, .slice J n cj, .slice K m ck], .agg #[.slice P np cp, .int .i64 sp, .int .i64 ga, .int .i64 li]] W fun e w' => e = .returned (.int .i64 0) ∧ Ext W w' from by have := bothErr_any (cj := cj) (ck := ck) (cp := cp) (L := L) (sp := sp) (ga := ga) (li := li) hn (hJ.ext e) hm (hK.ext e) hnp (hP.ext e); rw [hbe] at this; exact this)
  have HCP := Lib.hid (fun W (e : Ext w W) => copyShaft_any (L := L) (cj := cj) (ck := ck) hn (hJ.ext e) hm (hK.ext e) hjn hkn (by omega) (by omega))
  have HCQ := Lib.hid (fun W (e : Ext w W) => copyPress_any (sp := sp) (ga := ga) (li := li) hnp (hP.ext e) hpn (by omega))
  clear hn hJ hm hK hnp hP hjn hkn hpn h h5 hbe hbd hz hbz hfe hfv hfc hcz hpz hlt hto
  obtain ⟨W0, hW0⟩ : ∃ W0, W0 = (w.alloc (.cells #[.int .i64 L, .slice J n cj, .slice K m ck] 25)).alloc (.cells #[.slice P np cp, .int .i64 sp, .int .i64 ga, .int .i64 li] 27) := ⟨_, rfl⟩
  have Ky0 := Lib.hid (show Blk W0 (w.heap.size) 25 #[.int .i64 L, .slice J n cj, .slice K m ck] by rw [hW0]; exact (Blk.new _ _ _).alloc _)
  have Ky1 := Lib.hid (show Blk W0 (w.heap.size + 1) 27 #[.slice P np cp, .int .i64 sp, .int .i64 ga, .int .i64 li] by rw [hW0]; exact Blk.newAt _ _ _ (by simp))
  have X := Lib.hid (show Ext w W0 by rw [hW0]; exact (Ext.alloc _ _).trans (Ext.alloc _ _))
  have y0_0 : W0.cell? ⟨w.heap.size, 0, none⟩ = some (.int .i64 L) := Ky0.out.cell 0
  have y0_1 : W0.cell? ⟨w.heap.size, 1, none⟩ = some (.slice J n cj) := Ky0.out.cell 1
  have y0_2 : W0.cell? ⟨w.heap.size, 2, none⟩ = some (.slice K m ck) := Ky0.out.cell 2
  have y1_0 : W0.cell? ⟨w.heap.size + 1, 0, none⟩ = some (.slice P np cp) := Ky1.out.cell 0
  have y1_1 : W0.cell? ⟨w.heap.size + 1, 1, none⟩ = some (.int .i64 sp) := Ky1.out.cell 1
  have y1_2 : W0.cell? ⟨w.heap.size + 1, 2, none⟩ = some (.int .i64 ga) := Ky1.out.cell 2
  have y1_3 : W0.cell? ⟨w.heap.size + 1, 3, none⟩ = some (.int .i64 li) := Ky1.out.cell 3
  go_enter Tryz.func3, Tryz.ntmps3
  go_upto_region 1 with (fail)
  rw [← hW0]
  clear hW0
  go_wp2_with (go_at_call 4; refine (awake_any _).mono ?_; rintro e W1 ⟨rfl, hx⟩; replace X := Lib.hid (X.out.trans hx); replace Ky0 := Lib.hid (Ky0.out.ext hx); replace Ky1 := Lib.hid (Ky1.out.ext hx); clear hx y0_0 y0_1 y0_2 y1_0 y1_1 y1_2 y1_3; refine Hid.out ?_)
  refine Lib.hid ?_
  have y0_0 : W1.cell? ⟨w.heap.size, 0, none⟩ = some (.int .i64 L) := Ky0.out.cell 0
  have y0_1 : W1.cell? ⟨w.heap.size, 1, none⟩ = some (.slice J n cj) := Ky0.out.cell 1
  have y0_2 : W1.cell? ⟨w.heap.size, 2, none⟩ = some (.slice K m ck) := Ky0.out.cell 2
  have y1_0 : W1.cell? ⟨w.heap.size + 1, 0, none⟩ = some (.slice P np cp) := Ky1.out.cell 0
  have y1_1 : W1.cell? ⟨w.heap.size + 1, 1, none⟩ = some (.int .i64 sp) := Ky1.out.cell 1
  have y1_2 : W1.cell? ⟨w.heap.size + 1, 2, none⟩ = some (.int .i64 ga) := Ky1.out.cell 2
  have y1_3 : W1.cell? ⟨w.heap.size + 1, 3, none⟩ = some (.int .i64 li) := Ky1.out.cell 3
  go_wp2_with (go_at_call 5; refine (HFEW.out _).mono ?_; rintro e W2 ⟨rfl, hx⟩; replace X := Lib.hid (X.out.trans hx); replace Ky0 := Lib.hid (Ky0.out.ext hx); replace Ky1 := Lib.hid (Ky1.out.ext hx); clear hx y0_0 y0_1 y0_2 y1_0 y1_1 y1_2 y1_3; refine Hid.out ?_)
  refine Lib.hid ?_
  have y0_0 : W2.cell? ⟨w.heap.size, 0, none⟩ = some (.int .i64 L) := Ky0.out.cell 0
  have y0_1 : W2.cell? ⟨w.heap.size, 1, none⟩ = some (.slice J n cj) := Ky0.out.cell 1
  have y0_2 : W2.cell? ⟨w.heap.size, 2, none⟩ = some (.slice K m ck) := Ky0.out.cell 2
  have y1_0 : W2.cell? ⟨w.heap.size + 1, 0, none⟩ = some (.slice P np cp) := Ky1.out.cell 0
  have y1_1 : W2.cell? ⟨w.heap.size + 1, 1, none⟩ = some (.int .i64 sp) := Ky1.out.cell 1
  have y1_2 : W2.cell? ⟨w.heap.size + 1, 2, none⟩ = some (.int .i64 ga) := Ky1.out.cell 2
  have y1_3 : W2.cell? ⟨w.heap.size + 1, 3, none⟩ = some (.int .i64 li) := Ky1.out.cell 3
  go_wp2_with (go_at_call 6; refine (HFEA.out _).mono ?_; rintro e W3 ⟨rfl, hx⟩; replace X := Lib.hid (X.out.trans hx); replace Ky0 := Lib.hid (Ky0.out.ext hx); replace Ky1 := Lib.hid (Ky1.out.ext hx); clear hx y0_0 y0_1 y0_2 y1_0 y1_1 y1_2 y1_3; refine Hid.out ?_)
  refine Lib.hid ?_
  have y0_0 : W3.cell? ⟨w.heap.size, 0, none⟩ = some (.int .i64 L) := Ky0.out.cell 0
  have y0_1 : W3.cell? ⟨w.heap.size, 1, none⟩ = some (.slice J n cj) := Ky0.out.cell 1
  have y0_2 : W3.cell? ⟨w.heap.size, 2, none⟩ = some (.slice K m ck) := Ky0.out.cell 2
  have y1_0 : W3.cell? ⟨w.heap.size + 1, 0, none⟩ = some (.slice P np cp) := Ky1.out.cell 0
  have y1_1 : W3.cell? ⟨w.heap.size + 1, 1, none⟩ = some (.int .i64 sp) := Ky1.out.cell 1
  have y1_2 : W3.cell? ⟨w.heap.size + 1, 2, none⟩ = some (.int .i64 ga) := Ky1.out.cell 2
  have y1_3 : W3.cell? ⟨w.heap.size + 1, 3, none⟩ = some (.int .i64 li) := Ky1.out.cell 3
  go_wp2_with (go_at_call 7; refine (HLT.out _ X.out).mono ?_; rintro e W4 ⟨rfl, hx⟩; replace X := Lib.hid (X.out.trans hx); replace Ky0 := Lib.hid (Ky0.out.ext hx); replace Ky1 := Lib.hid (Ky1.out.ext hx); clear hx y0_0 y0_1 y0_2 y1_0 y1_1 y1_2 y1_3; refine Hid.out ?_)
  refine Lib.hid ?_
  have y0_0 : W4.cell? ⟨w.heap.size, 0, none⟩ = some (.int .i64 L) := Ky0.out.cell 0
  have y0_1 : W4.cell? ⟨w.heap.size, 1, none⟩ = some (.slice J n cj) := Ky0.out.cell 1
  have y0_2 : W4.cell? ⟨w.heap.size, 2, none⟩ = some (.slice K m ck) := Ky0.out.cell 2
  have y1_0 : W4.cell? ⟨w.heap.size + 1, 0, none⟩ = some (.slice P np cp) := Ky1.out.cell 0
  have y1_1 : W4.cell? ⟨w.heap.size + 1, 1, none⟩ = some (.int .i64 sp) := Ky1.out.cell 1
  have y1_2 : W4.cell? ⟨w.heap.size + 1, 2, none⟩ = some (.int .i64 ga) := Ky1.out.cell 2
  have y1_3 : W4.cell? ⟨w.heap.size + 1, 3, none⟩ = some (.int .i64 li) := Ky1.out.cell 3
  clear HFEW HFEA HLT
  go_upto_region 5 with (fail)
  refine wp_region_each [some 35, some 36, some 37, some 38, some 39, some 40, some 34, some 41, some 42, some 7, some 8] [[3], [35], [4], [37], [2], [36, 38, 39], [40], [34], [34], [41], [42]]
    [Is (.agg #[.int .i64 L, .slice J n cj, .slice K m ck]), CopS L js ks n m, Is (.agg #[.slice P np cp, .int .i64 sp, .int .i64 ga, .int .i64 li]), CopP am sp ga li np, Is (.int .i64 (t)), Is (.tuple #[.slice none 0 0, .int .i64 z]), Is (.tuple #[.slice none 0 0, .int .i64 z]), Is (.slice none 0 0), Is (.int .i64 (z)), Is (.slice none 0 0), Is (.int .i64 (z))]
    (by kernel_rfl) (by kernel_rfl) (by kernel_rfl) (by kernel_rfl) (by kernel_rfl) Ext (fun W => Ext W4 W)
    (fun W _ => Ext.refl W) (fun W W' h k => h.trans k) ?_ (Ext.drew _) ?_ ?_
  · repeat (refine ⟨fun _ _ _ _ k h => (by first | exact h | exact (by first | exact IntsAt.ext h k | exact CopS.ext h k | exact CopP.ext h k | exact CopL.ext h k | exact FewT.ext h k)), ?_⟩)
    exact trivial
  · refine ⟨?_, ?_, ?_, ?_, ?_, ?_, ?_, ?_, ?_, ?_, ?_, trivial⟩
    all_goals intro ρ W ⟨kc, kg, kf⟩ hF hs
    · obtain ⟨h0, -⟩ := hs
      replace h0 : ρ (.tmp 3) = .pointer (some ⟨w.heap.size, 0, none⟩) := h0
      have hc0 : W.cell? ⟨w.heap.size, 0, none⟩ = some (.int .i64 L) := hF.cell (by assumption)
      have hc1 : W.cell? ⟨w.heap.size, 1, none⟩ = some (.slice J n cj) := hF.cell (by assumption)
      have hc2 : W.cell? ⟨w.heap.size, 2, none⟩ = some (.slice K m ck) := hF.cell (by assumption)
      go_simp
      exact ⟨Ext.refl _, rfl⟩
    · obtain ⟨h0, -⟩ := hs
      replace h0 : ρ (.tmp 35) = .agg #[.int .i64 L, .slice J n cj, .slice K m ck] := h0
      go_simp
      refine (HCP.out _ (X.out.trans hF)).mono ?_; rintro e w' ⟨v, rfl, hc, hx⟩; exact ⟨_, rfl, hx, CopS.of hc⟩
    · obtain ⟨h0, -⟩ := hs
      replace h0 : ρ (.tmp 4) = .pointer (some ⟨w.heap.size + 1, 0, none⟩) := h0
      have hc0 : W.cell? ⟨w.heap.size + 1, 0, none⟩ = some (.slice P np cp) := hF.cell (by assumption)
      have hc1 : W.cell? ⟨w.heap.size + 1, 1, none⟩ = some (.int .i64 sp) := hF.cell (by assumption)
      have hc2 : W.cell? ⟨w.heap.size + 1, 2, none⟩ = some (.int .i64 ga) := hF.cell (by assumption)
      have hc3 : W.cell? ⟨w.heap.size + 1, 3, none⟩ = some (.int .i64 li) := hF.cell (by assumption)
      go_simp
      exact ⟨Ext.refl _, rfl⟩
    · obtain ⟨h0, -⟩ := hs
      replace h0 : ρ (.tmp 37) = .agg #[.slice P np cp, .int .i64 sp, .int .i64 ga, .int .i64 li] := h0
      go_simp
      refine (HCQ.out _ (X.out.trans hF)).mono ?_; rintro e w' ⟨v, rfl, hc, hx⟩; exact ⟨_, rfl, hx, CopP.of hc⟩
    · obtain ⟨h0, -⟩ := hs
      replace h0 : ρ (.tmp 2) = .int .i64 (t) := h0
      go_simp
      exact ⟨Ext.refl _, rfl⟩
    · obtain ⟨h0, h1, h2, -⟩ := hs
      replace h0 : (CopS L js ks n m) (ρ (.tmp 36)) W := h0
      replace h1 : (CopP am sp ga li np) (ρ (.tmp 38)) W := h1
      replace h2 : ρ (.tmp 39) = .int .i64 (t) := h2
      obtain ⟨J1, c1, K1, d1, e1, r1, s1, n1, m1⟩ := h0
      replace e1 : ρ (.tmp 36) = .agg #[.int .i64 L, .slice J1 n c1, .slice K1 m d1] := e1
      obtain ⟨P2, c2, e2, r2, n2⟩ := h1
      replace e2 : ρ (.tmp 38) = .agg #[.slice P2 np c2, .int .i64 sp, .int .i64 ga, .int .i64 li] := e2
      go_simp
      refine (HFW.out _ J1 c1 K1 d1 P2 c2 r1 s1 r2 n1).mono ?_; rintro e w' ⟨rfl, hx⟩; exact ⟨_, rfl, hx, rfl⟩
    · obtain ⟨h0, -⟩ := hs
      replace h0 : ρ (.tmp 40) = .tuple #[.slice none 0 0, .int .i64 z] := h0
      go_simp
      exact ⟨Ext.refl _, rfl⟩
    · obtain ⟨h0, -⟩ := hs
      replace h0 : ρ (.tmp 34) = .tuple #[.slice none 0 0, .int .i64 z] := h0
      go_simp
      exact ⟨Ext.refl _, rfl⟩
    · obtain ⟨h0, -⟩ := hs
      replace h0 : ρ (.tmp 34) = .tuple #[.slice none 0 0, .int .i64 z] := h0
      go_simp
      exact ⟨Ext.refl _, rfl⟩
    · obtain ⟨h0, -⟩ := hs
      replace h0 : ρ (.tmp 41) = .slice none 0 0 := h0
      go_simp
      exact ⟨Ext.refl _, rfl⟩
    · obtain ⟨h0, -⟩ := hs
      replace h0 : ρ (.tmp 42) = .int .i64 (z) := h0
      go_simp
      exact ⟨Ext.refl _, rfl⟩
  · intro fv V1x hF hs
    obtain ⟨-, -, -, -, -, -, -, -, -, h7, h8, -⟩ := hs
    replace h7 : fv 7 = .slice none 0 0 := h7
    replace h8 : fv 8 = .int .i64 (z) := h8
    simp only [fin, List.filterMap]
    go_simp
    have hx := hF
    replace X := Lib.hid (X.out.trans hx)
    replace Ky0 := Lib.hid (Ky0.out.ext hx)
    replace Ky1 := Lib.hid (Ky1.out.ext hx)
    clear hx y0_0 y0_1 y0_2 y1_0 y1_1 y1_2 y1_3
    clear hF
    obtain ⟨V1, hV⟩ : ∃ V, V = V1x := ⟨_, rfl⟩
    rw [← hV] at X Ky0 Ky1  ⊢
    clear hV
    have y0_0 : V1.cell? ⟨w.heap.size, 0, none⟩ = some (.int .i64 L) := Ky0.out.cell 0
    have y0_1 : V1.cell? ⟨w.heap.size, 1, none⟩ = some (.slice J n cj) := Ky0.out.cell 1
    have y0_2 : V1.cell? ⟨w.heap.size, 2, none⟩ = some (.slice K m ck) := Ky0.out.cell 2
    have y1_0 : V1.cell? ⟨w.heap.size + 1, 0, none⟩ = some (.slice P np cp) := Ky1.out.cell 0
    have y1_1 : V1.cell? ⟨w.heap.size + 1, 1, none⟩ = some (.int .i64 sp) := Ky1.out.cell 1
    have y1_2 : V1.cell? ⟨w.heap.size + 1, 2, none⟩ = some (.int .i64 ga) := Ky1.out.cell 2
    have y1_3 : V1.cell? ⟨w.heap.size + 1, 3, none⟩ = some (.int .i64 li) := Ky1.out.cell 3
    go_upto_region 6 with (fail)
    refine wp_region_each [some 44, some 45, some 46, some 47, some 48, some 49, some 43, some 50, some 51, some 52, some 9, some 10, some 11] [[3], [44], [4], [46], [2], [45, 47, 48], [49], [43], [43], [43], [50], [51], [52]]
      [Is (.agg #[.int .i64 L, .slice J n cj, .slice K m ck]), CopS L js ks n m, Is (.agg #[.slice P np cp, .int .i64 sp, .int .i64 ga, .int .i64 li]), CopP am sp ga li np, Is (.int .i64 (t)), Is (.tuple #[.int .i64 0, .int .i64 0, .int .i64 z]), Is (.tuple #[.int .i64 0, .int .i64 0, .int .i64 z]), Is (.int .i64 (0)), Is (.int .i64 (0)), Is (.int .i64 (z)), Is (.int .i64 (0)), Is (.int .i64 (0)), Is (.int .i64 (z))]
      (by kernel_rfl) (by kernel_rfl) (by kernel_rfl) (by kernel_rfl) (by kernel_rfl) Ext (fun W => Ext V1 W)
      (fun W _ => Ext.refl W) (fun W W' h k => h.trans k) ?_ (Ext.drew _) ?_ ?_
    · repeat (refine ⟨fun _ _ _ _ k h => (by first | exact h | exact (by first | exact IntsAt.ext h k | exact CopS.ext h k | exact CopP.ext h k | exact CopL.ext h k | exact FewT.ext h k)), ?_⟩)
      exact trivial
    · refine ⟨?_, ?_, ?_, ?_, ?_, ?_, ?_, ?_, ?_, ?_, ?_, ?_, ?_, trivial⟩
      all_goals intro ρ W ⟨kc, kg, kf⟩ hF hs
      · obtain ⟨h0, -⟩ := hs
        replace h0 : ρ (.tmp 3) = .pointer (some ⟨w.heap.size, 0, none⟩) := h0
        have hc0 : W.cell? ⟨w.heap.size, 0, none⟩ = some (.int .i64 L) := hF.cell (by assumption)
        have hc1 : W.cell? ⟨w.heap.size, 1, none⟩ = some (.slice J n cj) := hF.cell (by assumption)
        have hc2 : W.cell? ⟨w.heap.size, 2, none⟩ = some (.slice K m ck) := hF.cell (by assumption)
        go_simp
        exact ⟨Ext.refl _, rfl⟩
      · obtain ⟨h0, -⟩ := hs
        replace h0 : ρ (.tmp 44) = .agg #[.int .i64 L, .slice J n cj, .slice K m ck] := h0
        go_simp
        refine (HCP.out _ (X.out.trans hF)).mono ?_; rintro e w' ⟨v, rfl, hc, hx⟩; exact ⟨_, rfl, hx, CopS.of hc⟩
      · obtain ⟨h0, -⟩ := hs
        replace h0 : ρ (.tmp 4) = .pointer (some ⟨w.heap.size + 1, 0, none⟩) := h0
        have hc0 : W.cell? ⟨w.heap.size + 1, 0, none⟩ = some (.slice P np cp) := hF.cell (by assumption)
        have hc1 : W.cell? ⟨w.heap.size + 1, 1, none⟩ = some (.int .i64 sp) := hF.cell (by assumption)
        have hc2 : W.cell? ⟨w.heap.size + 1, 2, none⟩ = some (.int .i64 ga) := hF.cell (by assumption)
        have hc3 : W.cell? ⟨w.heap.size + 1, 3, none⟩ = some (.int .i64 li) := hF.cell (by assumption)
        go_simp
        exact ⟨Ext.refl _, rfl⟩
      · obtain ⟨h0, -⟩ := hs
        replace h0 : ρ (.tmp 46) = .agg #[.slice P np cp, .int .i64 sp, .int .i64 ga, .int .i64 li] := h0
        go_simp
        refine (HCQ.out _ (X.out.trans hF)).mono ?_; rintro e w' ⟨v, rfl, hc, hx⟩; exact ⟨_, rfl, hx, CopP.of hc⟩
      · obtain ⟨h0, -⟩ := hs
        replace h0 : ρ (.tmp 2) = .int .i64 (t) := h0
        go_simp
        exact ⟨Ext.refl _, rfl⟩
      · obtain ⟨h0, h1, h2, -⟩ := hs
        replace h0 : (CopS L js ks n m) (ρ (.tmp 45)) W := h0
        replace h1 : (CopP am sp ga li np) (ρ (.tmp 47)) W := h1
        replace h2 : ρ (.tmp 48) = .int .i64 (t) := h2
        obtain ⟨J1, c1, K1, d1, e1, r1, s1, n1, m1⟩ := h0
        replace e1 : ρ (.tmp 45) = .agg #[.int .i64 L, .slice J1 n c1, .slice K1 m d1] := e1
        obtain ⟨P2, c2, e2, r2, n2⟩ := h1
        replace e2 : ρ (.tmp 47) = .agg #[.slice P2 np c2, .int .i64 sp, .int .i64 ga, .int .i64 li] := e2
        go_simp
        refine (HBO.out _ J1 c1 K1 d1 P2 c2 r1 s1 r2).mono ?_; rintro e w' ⟨rfl, hx⟩; exact ⟨_, rfl, hx, rfl⟩
      · obtain ⟨h0, -⟩ := hs
        replace h0 : ρ (.tmp 49) = .tuple #[.int .i64 0, .int .i64 0, .int .i64 z] := h0
        go_simp
        exact ⟨Ext.refl _, rfl⟩
      · obtain ⟨h0, -⟩ := hs
        replace h0 : ρ (.tmp 43) = .tuple #[.int .i64 0, .int .i64 0, .int .i64 z] := h0
        go_simp
        exact ⟨Ext.refl _, rfl⟩
      · obtain ⟨h0, -⟩ := hs
        replace h0 : ρ (.tmp 43) = .tuple #[.int .i64 0, .int .i64 0, .int .i64 z] := h0
        go_simp
        exact ⟨Ext.refl _, rfl⟩
      · obtain ⟨h0, -⟩ := hs
        replace h0 : ρ (.tmp 43) = .tuple #[.int .i64 0, .int .i64 0, .int .i64 z] := h0
        go_simp
        exact ⟨Ext.refl _, rfl⟩
      · obtain ⟨h0, -⟩ := hs
        replace h0 : ρ (.tmp 50) = .int .i64 (0) := h0
        go_simp
        exact ⟨Ext.refl _, rfl⟩
      · obtain ⟨h0, -⟩ := hs
        replace h0 : ρ (.tmp 51) = .int .i64 (0) := h0
        go_simp
        exact ⟨Ext.refl _, rfl⟩
      · obtain ⟨h0, -⟩ := hs
        replace h0 : ρ (.tmp 52) = .int .i64 (z) := h0
        go_simp
        exact ⟨Ext.refl _, rfl⟩
    · intro fv V2x hF hs
      obtain ⟨-, -, -, -, -, -, -, -, -, -, h9, h10, h11, -⟩ := hs
      replace h9 : fv 9 = .int .i64 (0) := h9
      replace h10 : fv 10 = .int .i64 (0) := h10
      replace h11 : fv 11 = .int .i64 (z) := h11
      simp only [fin, List.filterMap]
      go_simp
      have hx := hF
      replace X := Lib.hid (X.out.trans hx)
      replace Ky0 := Lib.hid (Ky0.out.ext hx)
      replace Ky1 := Lib.hid (Ky1.out.ext hx)
      clear hx y0_0 y0_1 y0_2 y1_0 y1_1 y1_2 y1_3
      clear hF
      obtain ⟨V2, hV⟩ : ∃ V, V = V2x := ⟨_, rfl⟩
      rw [← hV] at X Ky0 Ky1  ⊢
      clear hV
      have y0_0 : V2.cell? ⟨w.heap.size, 0, none⟩ = some (.int .i64 L) := Ky0.out.cell 0
      have y0_1 : V2.cell? ⟨w.heap.size, 1, none⟩ = some (.slice J n cj) := Ky0.out.cell 1
      have y0_2 : V2.cell? ⟨w.heap.size, 2, none⟩ = some (.slice K m ck) := Ky0.out.cell 2
      have y1_0 : V2.cell? ⟨w.heap.size + 1, 0, none⟩ = some (.slice P np cp) := Ky1.out.cell 0
      have y1_1 : V2.cell? ⟨w.heap.size + 1, 1, none⟩ = some (.int .i64 sp) := Ky1.out.cell 1
      have y1_2 : V2.cell? ⟨w.heap.size + 1, 2, none⟩ = some (.int .i64 ga) := Ky1.out.cell 2
      have y1_3 : V2.cell? ⟨w.heap.size + 1, 3, none⟩ = some (.int .i64 li) := Ky1.out.cell 3
      go_wp2_with (go_at_call 12; refine (HBE.out _ X.out).mono ?_; rintro e V3 ⟨rfl, hx⟩; replace X := Lib.hid (X.out.trans hx); replace Ky0 := Lib.hid (Ky0.out.ext hx); replace Ky1 := Lib.hid (Ky1.out.ext hx); clear hx y0_0 y0_1 y0_2 y1_0 y1_1 y1_2 y1_3; refine Hid.out ?_)
      refine Lib.hid ?_
      have y0_0 : V3.cell? ⟨w.heap.size, 0, none⟩ = some (.int .i64 L) := Ky0.out.cell 0
      have y0_1 : V3.cell? ⟨w.heap.size, 1, none⟩ = some (.slice J n cj) := Ky0.out.cell 1
      have y0_2 : V3.cell? ⟨w.heap.size, 2, none⟩ = some (.slice K m ck) := Ky0.out.cell 2
      have y1_0 : V3.cell? ⟨w.heap.size + 1, 0, none⟩ = some (.slice P np cp) := Ky1.out.cell 0
      have y1_1 : V3.cell? ⟨w.heap.size + 1, 1, none⟩ = some (.int .i64 sp) := Ky1.out.cell 1
      have y1_2 : V3.cell? ⟨w.heap.size + 1, 2, none⟩ = some (.int .i64 ga) := Ky1.out.cell 2
      have y1_3 : V3.cell? ⟨w.heap.size + 1, 3, none⟩ = some (.int .i64 li) := Ky1.out.cell 3
      go_wp2_with (go_at_call 13; refine (HTO.out _).mono ?_; rintro e V4 ⟨rfl, hx⟩; replace X := Lib.hid (X.out.trans hx); replace Ky0 := Lib.hid (Ky0.out.ext hx); replace Ky1 := Lib.hid (Ky1.out.ext hx); clear hx y0_0 y0_1 y0_2 y1_0 y1_1 y1_2 y1_3; refine Hid.out ?_)
      refine Lib.hid ?_
      have y0_0 : V4.cell? ⟨w.heap.size, 0, none⟩ = some (.int .i64 L) := Ky0.out.cell 0
      have y0_1 : V4.cell? ⟨w.heap.size, 1, none⟩ = some (.slice J n cj) := Ky0.out.cell 1
      have y0_2 : V4.cell? ⟨w.heap.size, 2, none⟩ = some (.slice K m ck) := Ky0.out.cell 2
      have y1_0 : V4.cell? ⟨w.heap.size + 1, 0, none⟩ = some (.slice P np cp) := Ky1.out.cell 0
      have y1_1 : V4.cell? ⟨w.heap.size + 1, 1, none⟩ = some (.int .i64 sp) := Ky1.out.cell 1
      have y1_2 : V4.cell? ⟨w.heap.size + 1, 2, none⟩ = some (.int .i64 ga) := Ky1.out.cell 2
      have y1_3 : V4.cell? ⟨w.heap.size + 1, 3, none⟩ = some (.int .i64 li) := Ky1.out.cell 3
      go_wp2
      go_ret
      exact ⟨rfl, X.out⟩


end Go.Proofs.YtjdilmmpdlcimaaGreat

namespace Go.Proofs.YtjdilmmpdlcimaaGreat
open Go.RowKit Go.Shelf Go.Mem Go.RegInv
attribute [local go_sem] RelUpon_value RelUpon_skip RelUpon_enter BigFrame.eval_const BigFrame.eval_global BigFrame.eval_func

set_option maxRecDepth 100000 in
set_option maxHeartbeats 4000000 in
theorem fw_some {L : Int} {J K : Option Addr} {n cj ck : Nat} {js : List Int} {ks : List Rg} {w : World} (hn : js.length = n) (hJ : RowsAt 1 I1 w J js) (hm : ks.length = n) (hK : RowsAt 2 Rg.enc w K ks) {P : Option Addr} {np cp : Nat} {am : List Int} {sp ga li : Int} (hnp : am.length = np) (hP : RowsAt 1 I1 w P am) {t : Int} (hjn : J = none → cj = 0) (hkn : K = none → ck = 0) (hpn : P = none → cp = 0) (h : n ≤ 6 ∧ n ≤ 6) (ln : n ≤ maxLen) (h5 : np ≤ 5) (lp : np ≤ maxLen) (hcz : (checkS L js ks).2 = 0) (hpz : (checkP am sp ga li).2 = 0) (hto : tolE t = 0) (hlt : (optL am n).length ≤ 8) {p : List Sk} {mp : Nat} (hmp : p.length = mp) (hfv : fewV L js ks am sp ga li t = some p) {bn bj : Int} (hbv : bndV L js ks am sp ga t = (bn, bj, 0)) :
    Calls Tryz.prog 3 #[.agg #[.int .i64 L, .slice J n cj, .slice K n ck], .agg #[.slice P np cp, .int .i64 sp, .int .i64 ga, .int .i64 li], .int .i64 t] w fun e w' => e = .returned (.bool true) ∧ Ext w w' := by
  have lm := ln
  have HFEW := Lib.hid (fun W => show Calls Tryz.prog 5 #[.agg #[.int .i64 L, .slice J n cj, .slice K n ck]] W fun e w' => e = .returned (.bool true) ∧ Ext W w' from by have := few_any (L := L) (J := J) (K := K) (n := n) (m := n) (cj := cj) (ck := ck) W ln lm; rw [show few2 n n = true by simp [few2, h.1]] at this; exact this)
  have HFEA := Lib.hid (fun W => show Calls Tryz.prog 6 #[.agg #[.slice P np cp, .int .i64 sp, .int .i64 ga, .int .i64 li]] W fun e w' => e = .returned (.bool true) ∧ Ext W w' from by have := fewAmounts_any (P := P) (np := np) (cp := cp) (sp := sp) (ga := ga) (li := li) W lp; rw [show few1 np = true by simp [few1, h5]] at this; exact this)
  have hs := checkS_ok hcz
  have hp := checkP_ok hpz
  have hbe : (if (checkS L js ks).2 ≠ 0 then (checkS L js ks).2 else (checkP am sp ga li).2) = 0 := by rw [if_neg (by simpa using hcz), hpz]
  have hbz : bndE L js ks am sp ga li t = 0 := by unfold bndE; rw [hcz, hpz, hto]; rfl
  have hfe : fewE L js ks am sp ga li t = 0 := hbz
  have HTO := Lib.hid (fun W => show Calls Tryz.prog 13 #[.int .i64 t] W fun e w' => e = .returned (.int .i64 0) ∧ Ext W w' from by have := refTolE_any t W; rw [hto] at this; exact this)
  have HLT := Lib.hid (fun W (e : Ext w W) => show Calls Tryz.prog 7 #[.agg #[.int .i64 L, .slice J n cj, .slice K n ck], .agg #[.slice P np cp, .int .i64 sp, .int .i64 ga, .int .i64 li]] W fun e w' => e = .returned (.bool true) ∧ Ext W w' from by
    have := light_any (cj := cj) (ck := ck) (cp := cp) (L := L) (sp := sp) (ga := ga) (li := li) hn (hJ.ext e) hm (hK.ext e) hnp (hP.ext e) hcz hpz
    rw [show decide ((optL am n).length ≤ 8) = true by simp [hlt]] at this
    exact this)
  have HBO := Lib.hid (fun W J1 c1 K1 d1 P2 c2 (r1 : RowsAt 1 I1 W J1 js) (s1 : RowsAt 2 Rg.enc W K1 ks) (r2 : RowsAt 1 I1 W P2 am) => show Calls Tryz.prog 11 #[.agg #[.int .i64 L, .slice J1 n c1, .slice K1 n d1], .agg #[.slice P2 np c2, .int .i64 sp, .int .i64 ga, .int .i64 li], .int .i64 t] W fun e w' => e = .returned (.tuple #[.int .i64 bn, .int .i64 bj, .int .i64 0]) ∧ Ext W w' from by
    have := boundOf_ok (cj := c1) (ck := d1) (cp := c2) hn r1 hm s1 hnp r2 hbz
    rw [hbv] at this; exact this)
  have HRB := Lib.hid (fun W (e : Ext w W) => show Calls Tryz.prog 14 #[.agg #[.int .i64 L, .slice J n cj, .slice K n ck], .agg #[.slice P np cp, .int .i64 sp, .int .i64 ga, .int .i64 li], .int .i64 t] W fun e w' => e = .returned (.tuple #[.int .i64 bn, .int .i64 bj, .bool true]) ∧ Ext W w' from by
    have := refBound_any (cj := cj) (ck := ck) (cp := cp) (li := li) hn (hJ.ext e) hm (hK.ext e) hnp (hP.ext e) hs hp (rangeE_zeros hto t (by simp))
    rw [hbv] at this; exact this)
  have hfk : fewV L js ks am sp ga li t = fewRk n li (pfB ga sp t L js ks) (optL am n) 0 := by unfold fewV; rw [hfe, if_pos rfl, hn]
  have hfc : fewC L js ks am sp ga li t = 0 := by unfold fewC; rw [hfe, if_pos rfl, hfv]; rfl
  have HRF := Lib.hid (fun W (e : Ext w W) => show Calls Tryz.prog 15 #[.agg #[.int .i64 L, .slice J n cj, .slice K n ck], .agg #[.slice P np cp, .int .i64 sp, .int .i64 ga, .int .i64 li], .int .i64 t] W (FiP (some p) W) from by
    have := refFewest_any (cj := cj) (ck := ck) (cp := cp) hn (hJ.ext e) hm (hK.ext e) hnp (hP.ext e) hjn hkn hs hp hto (by omega)
    rw [← hfk, hfv] at this; exact this)
  have HSP := Lib.hid (fun W (A7 : Option Addr) (c7 : Nat) (A6 : Option Addr) (m6 c6 : Nat) (h1 : RowsAt 3 Sk.enc W A7 p) (h3 : p.length = m6) (h2 : RowsAt 3 Sk.enc W A6 p) => show Calls Tryz.prog 16 #[.slice A7 mp c7, .slice A6 m6 c6] W fun e w' => e = .returned (.bool true) ∧ Ext W w' from by
    refine (samePlan_any hmp h1 h3 h2).mono ?_
    rintro e w' ⟨b, rfl, hb, hx⟩
    obtain rfl : b = true := hb.2 rfl
    exact ⟨rfl, hx⟩)
  have HFW := Lib.hid (fun W J1 c1 K1 d1 P2 c2 (r1 : RowsAt 1 I1 W J1 js) (s1 : RowsAt 2 Rg.enc W K1 ks) (r2 : RowsAt 1 I1 W P2 am) (n1 : J1 = none → c1 = 0) => show Calls Tryz.prog 8 #[.agg #[.int .i64 L, .slice J1 n c1, .slice K1 n d1], .agg #[.slice P2 np c2, .int .i64 sp, .int .i64 ga, .int .i64 li], .int .i64 t] W fun e w' => ∃ A' c', e = .returned (.tuple #[.slice A' mp c', .int .i64 0]) ∧ RowsAt 3 Sk.enc w' A' p ∧ (A' = none → c' = 0) ∧ Ext W w' from by
    have := fewestOf_any (ck := d1) (cp := c2) (L := L) (sp := sp) (ga := ga) (li := li) (t := t) hn r1 hm s1 n1 hnp r2
    rw [hfv, hfc] at this
    refine this.mono ?_
    rintro e w' ⟨A', m', c', rfl, -, h1, hx⟩
    obtain ⟨h2, h3, h4⟩ := h1 p rfl
    obtain rfl : mp = m' := by rw [← hmp, h2]
    exact ⟨A', c', rfl, h3, h4, hx⟩)
  have HBE := Lib.hid (fun W (e : Ext w W) => show Calls Tryz.prog 12 #[.agg #[.int .i64 L, .slice J n cj, .slice K n ck], .agg #[.slice P np cp, .int .i64 sp, .int .i64 ga, .int .i64 li]] W fun e w' => e = .returned (.int .i64 0) ∧ Ext W w' from by have := bothErr_any (cj := cj) (ck := ck) (cp := cp) (L := L) (sp := sp) (ga := ga) (li := li) hn (hJ.ext e) hm (hK.ext e) hnp (hP.ext e); rw [hbe] at this; exact this)
  have HCP := Lib.hid (fun W (e : Ext w W) => copyShaft_any (L := L) (cj := cj) (ck := ck) hn (hJ.ext e) hm (hK.ext e) hjn hkn (by omega) (by omega))
  have HCQ := Lib.hid (fun W (e : Ext w W) => copyPress_any (sp := sp) (ga := ga) (li := li) hnp (hP.ext e) hpn (by omega))
  clear hn hJ hm hK hnp hP hjn hkn hpn h h5 hcz hpz hto hlt hfv hbv hs hp hbe hbz hfe hfk hfc hmp
  obtain ⟨W0, hW0⟩ : ∃ W0, W0 = (w.alloc (.cells #[.int .i64 L, .slice J n cj, .slice K n ck] 25)).alloc (.cells #[.slice P np cp, .int .i64 sp, .int .i64 ga, .int .i64 li] 27) := ⟨_, rfl⟩
  have Ky0 := Lib.hid (show Blk W0 (w.heap.size) 25 #[.int .i64 L, .slice J n cj, .slice K n ck] by rw [hW0]; exact (Blk.new _ _ _).alloc _)
  have Ky1 := Lib.hid (show Blk W0 (w.heap.size + 1) 27 #[.slice P np cp, .int .i64 sp, .int .i64 ga, .int .i64 li] by rw [hW0]; exact Blk.newAt _ _ _ (by simp))
  have X := Lib.hid (show Ext w W0 by rw [hW0]; exact (Ext.alloc _ _).trans (Ext.alloc _ _))
  have y0_0 : W0.cell? ⟨w.heap.size, 0, none⟩ = some (.int .i64 L) := Ky0.out.cell 0
  have y0_1 : W0.cell? ⟨w.heap.size, 1, none⟩ = some (.slice J n cj) := Ky0.out.cell 1
  have y0_2 : W0.cell? ⟨w.heap.size, 2, none⟩ = some (.slice K n ck) := Ky0.out.cell 2
  have y1_0 : W0.cell? ⟨w.heap.size + 1, 0, none⟩ = some (.slice P np cp) := Ky1.out.cell 0
  have y1_1 : W0.cell? ⟨w.heap.size + 1, 1, none⟩ = some (.int .i64 sp) := Ky1.out.cell 1
  have y1_2 : W0.cell? ⟨w.heap.size + 1, 2, none⟩ = some (.int .i64 ga) := Ky1.out.cell 2
  have y1_3 : W0.cell? ⟨w.heap.size + 1, 3, none⟩ = some (.int .i64 li) := Ky1.out.cell 3
  go_enter Tryz.func3, Tryz.ntmps3
  go_upto_region 1 with (fail)
  rw [← hW0]
  clear hW0
  go_wp2_with (go_at_call 4; refine (awake_any _).mono ?_; rintro e W1 ⟨rfl, hx⟩; replace X := Lib.hid (X.out.trans hx); replace Ky0 := Lib.hid (Ky0.out.ext hx); replace Ky1 := Lib.hid (Ky1.out.ext hx); clear hx y0_0 y0_1 y0_2 y1_0 y1_1 y1_2 y1_3; refine Hid.out ?_)
  refine Lib.hid ?_
  have y0_0 : W1.cell? ⟨w.heap.size, 0, none⟩ = some (.int .i64 L) := Ky0.out.cell 0
  have y0_1 : W1.cell? ⟨w.heap.size, 1, none⟩ = some (.slice J n cj) := Ky0.out.cell 1
  have y0_2 : W1.cell? ⟨w.heap.size, 2, none⟩ = some (.slice K n ck) := Ky0.out.cell 2
  have y1_0 : W1.cell? ⟨w.heap.size + 1, 0, none⟩ = some (.slice P np cp) := Ky1.out.cell 0
  have y1_1 : W1.cell? ⟨w.heap.size + 1, 1, none⟩ = some (.int .i64 sp) := Ky1.out.cell 1
  have y1_2 : W1.cell? ⟨w.heap.size + 1, 2, none⟩ = some (.int .i64 ga) := Ky1.out.cell 2
  have y1_3 : W1.cell? ⟨w.heap.size + 1, 3, none⟩ = some (.int .i64 li) := Ky1.out.cell 3
  go_wp2_with (go_at_call 5; refine (HFEW.out _).mono ?_; rintro e W2 ⟨rfl, hx⟩; replace X := Lib.hid (X.out.trans hx); replace Ky0 := Lib.hid (Ky0.out.ext hx); replace Ky1 := Lib.hid (Ky1.out.ext hx); clear hx y0_0 y0_1 y0_2 y1_0 y1_1 y1_2 y1_3; refine Hid.out ?_)
  refine Lib.hid ?_
  have y0_0 : W2.cell? ⟨w.heap.size, 0, none⟩ = some (.int .i64 L) := Ky0.out.cell 0
  have y0_1 : W2.cell? ⟨w.heap.size, 1, none⟩ = some (.slice J n cj) := Ky0.out.cell 1
  have y0_2 : W2.cell? ⟨w.heap.size, 2, none⟩ = some (.slice K n ck) := Ky0.out.cell 2
  have y1_0 : W2.cell? ⟨w.heap.size + 1, 0, none⟩ = some (.slice P np cp) := Ky1.out.cell 0
  have y1_1 : W2.cell? ⟨w.heap.size + 1, 1, none⟩ = some (.int .i64 sp) := Ky1.out.cell 1
  have y1_2 : W2.cell? ⟨w.heap.size + 1, 2, none⟩ = some (.int .i64 ga) := Ky1.out.cell 2
  have y1_3 : W2.cell? ⟨w.heap.size + 1, 3, none⟩ = some (.int .i64 li) := Ky1.out.cell 3
  go_wp2_with (go_at_call 6; refine (HFEA.out _).mono ?_; rintro e W3 ⟨rfl, hx⟩; replace X := Lib.hid (X.out.trans hx); replace Ky0 := Lib.hid (Ky0.out.ext hx); replace Ky1 := Lib.hid (Ky1.out.ext hx); clear hx y0_0 y0_1 y0_2 y1_0 y1_1 y1_2 y1_3; refine Hid.out ?_)
  refine Lib.hid ?_
  have y0_0 : W3.cell? ⟨w.heap.size, 0, none⟩ = some (.int .i64 L) := Ky0.out.cell 0
  have y0_1 : W3.cell? ⟨w.heap.size, 1, none⟩ = some (.slice J n cj) := Ky0.out.cell 1
  have y0_2 : W3.cell? ⟨w.heap.size, 2, none⟩ = some (.slice K n ck) := Ky0.out.cell 2
  have y1_0 : W3.cell? ⟨w.heap.size + 1, 0, none⟩ = some (.slice P np cp) := Ky1.out.cell 0
  have y1_1 : W3.cell? ⟨w.heap.size + 1, 1, none⟩ = some (.int .i64 sp) := Ky1.out.cell 1
  have y1_2 : W3.cell? ⟨w.heap.size + 1, 2, none⟩ = some (.int .i64 ga) := Ky1.out.cell 2
  have y1_3 : W3.cell? ⟨w.heap.size + 1, 3, none⟩ = some (.int .i64 li) := Ky1.out.cell 3
  go_wp2_with (go_at_call 7; refine (HLT.out _ X.out).mono ?_; rintro e W4 ⟨rfl, hx⟩; replace X := Lib.hid (X.out.trans hx); replace Ky0 := Lib.hid (Ky0.out.ext hx); replace Ky1 := Lib.hid (Ky1.out.ext hx); clear hx y0_0 y0_1 y0_2 y1_0 y1_1 y1_2 y1_3; refine Hid.out ?_)
  refine Lib.hid ?_
  have y0_0 : W4.cell? ⟨w.heap.size, 0, none⟩ = some (.int .i64 L) := Ky0.out.cell 0
  have y0_1 : W4.cell? ⟨w.heap.size, 1, none⟩ = some (.slice J n cj) := Ky0.out.cell 1
  have y0_2 : W4.cell? ⟨w.heap.size, 2, none⟩ = some (.slice K n ck) := Ky0.out.cell 2
  have y1_0 : W4.cell? ⟨w.heap.size + 1, 0, none⟩ = some (.slice P np cp) := Ky1.out.cell 0
  have y1_1 : W4.cell? ⟨w.heap.size + 1, 1, none⟩ = some (.int .i64 sp) := Ky1.out.cell 1
  have y1_2 : W4.cell? ⟨w.heap.size + 1, 2, none⟩ = some (.int .i64 ga) := Ky1.out.cell 2
  have y1_3 : W4.cell? ⟨w.heap.size + 1, 3, none⟩ = some (.int .i64 li) := Ky1.out.cell 3
  clear HFEW HFEA HLT
  go_upto_region 5 with (fail)
  refine wp_region_each [some 35, some 36, some 37, some 38, some 39, some 40, some 34, some 41, some 42, some 7, some 8] [[3], [35], [4], [37], [2], [36, 38, 39], [40], [34], [34], [41], [42]]
    [Is (.agg #[.int .i64 L, .slice J n cj, .slice K n ck]), CopS L js ks n n, Is (.agg #[.slice P np cp, .int .i64 sp, .int .i64 ga, .int .i64 li]), CopP am sp ga li np, Is (.int .i64 (t)), FewT p mp, FewT p mp, CopL p mp, Is (.int .i64 (0)), CopL p mp, Is (.int .i64 (0))]
    (by kernel_rfl) (by kernel_rfl) (by kernel_rfl) (by kernel_rfl) (by kernel_rfl) Ext (fun W => Ext W4 W)
    (fun W _ => Ext.refl W) (fun W W' h k => h.trans k) ?_ (Ext.drew _) ?_ ?_
  · repeat (refine ⟨fun _ _ _ _ k h => (by first | exact h | exact (by first | exact IntsAt.ext h k | exact CopS.ext h k | exact CopP.ext h k | exact CopL.ext h k | exact FewT.ext h k)), ?_⟩)
    exact trivial
  · refine ⟨?_, ?_, ?_, ?_, ?_, ?_, ?_, ?_, ?_, ?_, ?_, trivial⟩
    all_goals intro ρ W ⟨kc, kg, kf⟩ hF hs
    · obtain ⟨h0, -⟩ := hs
      replace h0 : ρ (.tmp 3) = .pointer (some ⟨w.heap.size, 0, none⟩) := h0
      have hc0 : W.cell? ⟨w.heap.size, 0, none⟩ = some (.int .i64 L) := hF.cell (by assumption)
      have hc1 : W.cell? ⟨w.heap.size, 1, none⟩ = some (.slice J n cj) := hF.cell (by assumption)
      have hc2 : W.cell? ⟨w.heap.size, 2, none⟩ = some (.slice K n ck) := hF.cell (by assumption)
      go_simp
      exact ⟨Ext.refl _, rfl⟩
    · obtain ⟨h0, -⟩ := hs
      replace h0 : ρ (.tmp 35) = .agg #[.int .i64 L, .slice J n cj, .slice K n ck] := h0
      go_simp
      refine (HCP.out _ (X.out.trans hF)).mono ?_; rintro e w' ⟨v, rfl, hc, hx⟩; exact ⟨_, rfl, hx, CopS.of hc⟩
    · obtain ⟨h0, -⟩ := hs
      replace h0 : ρ (.tmp 4) = .pointer (some ⟨w.heap.size + 1, 0, none⟩) := h0
      have hc0 : W.cell? ⟨w.heap.size + 1, 0, none⟩ = some (.slice P np cp) := hF.cell (by assumption)
      have hc1 : W.cell? ⟨w.heap.size + 1, 1, none⟩ = some (.int .i64 sp) := hF.cell (by assumption)
      have hc2 : W.cell? ⟨w.heap.size + 1, 2, none⟩ = some (.int .i64 ga) := hF.cell (by assumption)
      have hc3 : W.cell? ⟨w.heap.size + 1, 3, none⟩ = some (.int .i64 li) := hF.cell (by assumption)
      go_simp
      exact ⟨Ext.refl _, rfl⟩
    · obtain ⟨h0, -⟩ := hs
      replace h0 : ρ (.tmp 37) = .agg #[.slice P np cp, .int .i64 sp, .int .i64 ga, .int .i64 li] := h0
      go_simp
      refine (HCQ.out _ (X.out.trans hF)).mono ?_; rintro e w' ⟨v, rfl, hc, hx⟩; exact ⟨_, rfl, hx, CopP.of hc⟩
    · obtain ⟨h0, -⟩ := hs
      replace h0 : ρ (.tmp 2) = .int .i64 (t) := h0
      go_simp
      exact ⟨Ext.refl _, rfl⟩
    · obtain ⟨h0, h1, h2, -⟩ := hs
      replace h0 : (CopS L js ks n n) (ρ (.tmp 36)) W := h0
      replace h1 : (CopP am sp ga li np) (ρ (.tmp 38)) W := h1
      replace h2 : ρ (.tmp 39) = .int .i64 (t) := h2
      obtain ⟨J1, c1, K1, d1, e1, r1, s1, n1, m1⟩ := h0
      replace e1 : ρ (.tmp 36) = .agg #[.int .i64 L, .slice J1 n c1, .slice K1 n d1] := e1
      obtain ⟨P2, c2, e2, r2, n2⟩ := h1
      replace e2 : ρ (.tmp 38) = .agg #[.slice P2 np c2, .int .i64 sp, .int .i64 ga, .int .i64 li] := e2
      go_simp
      refine (HFW.out _ J1 c1 K1 d1 P2 c2 r1 s1 r2 n1).mono ?_; rintro e w' ⟨A', c', rfl, hr, hn, hx⟩; exact ⟨_, rfl, hx, A', c', rfl, hr, hn⟩
    · obtain ⟨h0, -⟩ := hs
      replace h0 : (FewT p mp) (ρ (.tmp 40)) W := h0
      go_simp
      first | exact ⟨Ext.refl _, h0⟩ | exact Ext.refl _
    · obtain ⟨h0, -⟩ := hs
      replace h0 : (FewT p mp) (ρ (.tmp 34)) W := h0
      obtain ⟨A9, c9, e9, r9, n9⟩ := h0
      replace e9 : ρ (.tmp 34) = .tuple #[.slice A9 mp c9, .int .i64 0] := e9
      go_simp
      exact ⟨Ext.refl _, A9, c9, rfl, r9, n9⟩
    · obtain ⟨h0, -⟩ := hs
      replace h0 : (FewT p mp) (ρ (.tmp 34)) W := h0
      obtain ⟨A9, c9, e9, r9, n9⟩ := h0
      replace e9 : ρ (.tmp 34) = .tuple #[.slice A9 mp c9, .int .i64 0] := e9
      go_simp
      exact ⟨Ext.refl _, rfl⟩
    · obtain ⟨h0, -⟩ := hs
      replace h0 : (CopL p mp) (ρ (.tmp 41)) W := h0
      go_simp
      first | exact ⟨Ext.refl _, h0⟩ | exact Ext.refl _
    · obtain ⟨h0, -⟩ := hs
      replace h0 : ρ (.tmp 42) = .int .i64 (0) := h0
      go_simp
      exact ⟨Ext.refl _, rfl⟩
  · intro fv V1x hF hs
    obtain ⟨-, -, -, -, -, -, -, -, -, h7, h8, -⟩ := hs
    replace h7 : (CopL p mp) (fv 7) V1x := h7
    replace h8 : fv 8 = .int .i64 (0) := h8
    simp only [fin, List.filterMap]
    go_simp
    obtain ⟨A7, c7, e7, r7, n7⟩ := h7
    rw [e7]
    have R7 := Lib.hid r7
    clear e7 r7 n7
    have hx := hF
    replace X := Lib.hid (X.out.trans hx)
    replace Ky0 := Lib.hid (Ky0.out.ext hx)
    replace Ky1 := Lib.hid (Ky1.out.ext hx)
    clear hx y0_0 y0_1 y0_2 y1_0 y1_1 y1_2 y1_3
    clear hF
    obtain ⟨V1, hV⟩ : ∃ V, V = V1x := ⟨_, rfl⟩
    rw [← hV] at X Ky0 Ky1 R7 ⊢
    clear hV
    have y0_0 : V1.cell? ⟨w.heap.size, 0, none⟩ = some (.int .i64 L) := Ky0.out.cell 0
    have y0_1 : V1.cell? ⟨w.heap.size, 1, none⟩ = some (.slice J n cj) := Ky0.out.cell 1
    have y0_2 : V1.cell? ⟨w.heap.size, 2, none⟩ = some (.slice K n ck) := Ky0.out.cell 2
    have y1_0 : V1.cell? ⟨w.heap.size + 1, 0, none⟩ = some (.slice P np cp) := Ky1.out.cell 0
    have y1_1 : V1.cell? ⟨w.heap.size + 1, 1, none⟩ = some (.int .i64 sp) := Ky1.out.cell 1
    have y1_2 : V1.cell? ⟨w.heap.size + 1, 2, none⟩ = some (.int .i64 ga) := Ky1.out.cell 2
    have y1_3 : V1.cell? ⟨w.heap.size + 1, 3, none⟩ = some (.int .i64 li) := Ky1.out.cell 3
    go_upto_region 6 with (fail)
    refine wp_region_each [some 44, some 45, some 46, some 47, some 48, some 49, some 43, some 50, some 51, some 52, some 9, some 10, some 11] [[3], [44], [4], [46], [2], [45, 47, 48], [49], [43], [43], [43], [50], [51], [52]]
      [Is (.agg #[.int .i64 L, .slice J n cj, .slice K n ck]), CopS L js ks n n, Is (.agg #[.slice P np cp, .int .i64 sp, .int .i64 ga, .int .i64 li]), CopP am sp ga li np, Is (.int .i64 (t)), Is (.tuple #[.int .i64 bn, .int .i64 bj, .int .i64 0]), Is (.tuple #[.int .i64 bn, .int .i64 bj, .int .i64 0]), Is (.int .i64 (bn)), Is (.int .i64 (bj)), Is (.int .i64 (0)), Is (.int .i64 (bn)), Is (.int .i64 (bj)), Is (.int .i64 (0))]
      (by kernel_rfl) (by kernel_rfl) (by kernel_rfl) (by kernel_rfl) (by kernel_rfl) Ext (fun W => Ext V1 W)
      (fun W _ => Ext.refl W) (fun W W' h k => h.trans k) ?_ (Ext.drew _) ?_ ?_
    · repeat (refine ⟨fun _ _ _ _ k h => (by first | exact h | exact (by first | exact IntsAt.ext h k | exact CopS.ext h k | exact CopP.ext h k | exact CopL.ext h k | exact FewT.ext h k)), ?_⟩)
      exact trivial
    · refine ⟨?_, ?_, ?_, ?_, ?_, ?_, ?_, ?_, ?_, ?_, ?_, ?_, ?_, trivial⟩
      all_goals intro ρ W ⟨kc, kg, kf⟩ hF hs
      · obtain ⟨h0, -⟩ := hs
        replace h0 : ρ (.tmp 3) = .pointer (some ⟨w.heap.size, 0, none⟩) := h0
        have hc0 : W.cell? ⟨w.heap.size, 0, none⟩ = some (.int .i64 L) := hF.cell (by assumption)
        have hc1 : W.cell? ⟨w.heap.size, 1, none⟩ = some (.slice J n cj) := hF.cell (by assumption)
        have hc2 : W.cell? ⟨w.heap.size, 2, none⟩ = some (.slice K n ck) := hF.cell (by assumption)
        go_simp
        exact ⟨Ext.refl _, rfl⟩
      · obtain ⟨h0, -⟩ := hs
        replace h0 : ρ (.tmp 44) = .agg #[.int .i64 L, .slice J n cj, .slice K n ck] := h0
        go_simp
        refine (HCP.out _ (X.out.trans hF)).mono ?_; rintro e w' ⟨v, rfl, hc, hx⟩; exact ⟨_, rfl, hx, CopS.of hc⟩
      · obtain ⟨h0, -⟩ := hs
        replace h0 : ρ (.tmp 4) = .pointer (some ⟨w.heap.size + 1, 0, none⟩) := h0
        have hc0 : W.cell? ⟨w.heap.size + 1, 0, none⟩ = some (.slice P np cp) := hF.cell (by assumption)
        have hc1 : W.cell? ⟨w.heap.size + 1, 1, none⟩ = some (.int .i64 sp) := hF.cell (by assumption)
        have hc2 : W.cell? ⟨w.heap.size + 1, 2, none⟩ = some (.int .i64 ga) := hF.cell (by assumption)
        have hc3 : W.cell? ⟨w.heap.size + 1, 3, none⟩ = some (.int .i64 li) := hF.cell (by assumption)
        go_simp
        exact ⟨Ext.refl _, rfl⟩
      · obtain ⟨h0, -⟩ := hs
        replace h0 : ρ (.tmp 46) = .agg #[.slice P np cp, .int .i64 sp, .int .i64 ga, .int .i64 li] := h0
        go_simp
        refine (HCQ.out _ (X.out.trans hF)).mono ?_; rintro e w' ⟨v, rfl, hc, hx⟩; exact ⟨_, rfl, hx, CopP.of hc⟩
      · obtain ⟨h0, -⟩ := hs
        replace h0 : ρ (.tmp 2) = .int .i64 (t) := h0
        go_simp
        exact ⟨Ext.refl _, rfl⟩
      · obtain ⟨h0, h1, h2, -⟩ := hs
        replace h0 : (CopS L js ks n n) (ρ (.tmp 45)) W := h0
        replace h1 : (CopP am sp ga li np) (ρ (.tmp 47)) W := h1
        replace h2 : ρ (.tmp 48) = .int .i64 (t) := h2
        obtain ⟨J1, c1, K1, d1, e1, r1, s1, n1, m1⟩ := h0
        replace e1 : ρ (.tmp 45) = .agg #[.int .i64 L, .slice J1 n c1, .slice K1 n d1] := e1
        obtain ⟨P2, c2, e2, r2, n2⟩ := h1
        replace e2 : ρ (.tmp 47) = .agg #[.slice P2 np c2, .int .i64 sp, .int .i64 ga, .int .i64 li] := e2
        go_simp
        refine (HBO.out _ J1 c1 K1 d1 P2 c2 r1 s1 r2).mono ?_; rintro e w' ⟨rfl, hx⟩; exact ⟨_, rfl, hx, rfl⟩
      · obtain ⟨h0, -⟩ := hs
        replace h0 : ρ (.tmp 49) = .tuple #[.int .i64 bn, .int .i64 bj, .int .i64 0] := h0
        go_simp
        exact ⟨Ext.refl _, rfl⟩
      · obtain ⟨h0, -⟩ := hs
        replace h0 : ρ (.tmp 43) = .tuple #[.int .i64 bn, .int .i64 bj, .int .i64 0] := h0
        go_simp
        exact ⟨Ext.refl _, rfl⟩
      · obtain ⟨h0, -⟩ := hs
        replace h0 : ρ (.tmp 43) = .tuple #[.int .i64 bn, .int .i64 bj, .int .i64 0] := h0
        go_simp
        exact ⟨Ext.refl _, rfl⟩
      · obtain ⟨h0, -⟩ := hs
        replace h0 : ρ (.tmp 43) = .tuple #[.int .i64 bn, .int .i64 bj, .int .i64 0] := h0
        go_simp
        exact ⟨Ext.refl _, rfl⟩
      · obtain ⟨h0, -⟩ := hs
        replace h0 : ρ (.tmp 50) = .int .i64 (bn) := h0
        go_simp
        exact ⟨Ext.refl _, rfl⟩
      · obtain ⟨h0, -⟩ := hs
        replace h0 : ρ (.tmp 51) = .int .i64 (bj) := h0
        go_simp
        exact ⟨Ext.refl _, rfl⟩
      · obtain ⟨h0, -⟩ := hs
        replace h0 : ρ (.tmp 52) = .int .i64 (0) := h0
        go_simp
        exact ⟨Ext.refl _, rfl⟩
    · intro fv V2x hF hs
      obtain ⟨-, -, -, -, -, -, -, -, -, -, h9, h10, h11, -⟩ := hs
      replace h9 : fv 9 = .int .i64 (bn) := h9
      replace h10 : fv 10 = .int .i64 (bj) := h10
      replace h11 : fv 11 = .int .i64 (0) := h11
      simp only [fin, List.filterMap]
      go_simp
      have hx := hF
      replace X := Lib.hid (X.out.trans hx)
      replace Ky0 := Lib.hid (Ky0.out.ext hx)
      replace Ky1 := Lib.hid (Ky1.out.ext hx)
      replace R7 := Lib.hid (R7.out.ext hx)
      clear hx y0_0 y0_1 y0_2 y1_0 y1_1 y1_2 y1_3
      clear hF
      obtain ⟨V2, hV⟩ : ∃ V, V = V2x := ⟨_, rfl⟩
      rw [← hV] at X Ky0 Ky1 R7 ⊢
      clear hV
      have y0_0 : V2.cell? ⟨w.heap.size, 0, none⟩ = some (.int .i64 L) := Ky0.out.cell 0
      have y0_1 : V2.cell? ⟨w.heap.size, 1, none⟩ = some (.slice J n cj) := Ky0.out.cell 1
      have y0_2 : V2.cell? ⟨w.heap.size, 2, none⟩ = some (.slice K n ck) := Ky0.out.cell 2
      have y1_0 : V2.cell? ⟨w.heap.size + 1, 0, none⟩ = some (.slice P np cp) := Ky1.out.cell 0
      have y1_1 : V2.cell? ⟨w.heap.size + 1, 1, none⟩ = some (.int .i64 sp) := Ky1.out.cell 1
      have y1_2 : V2.cell? ⟨w.heap.size + 1, 2, none⟩ = some (.int .i64 ga) := Ky1.out.cell 2
      have y1_3 : V2.cell? ⟨w.heap.size + 1, 3, none⟩ = some (.int .i64 li) := Ky1.out.cell 3
      go_wp2_with (go_at_call 12; refine (HBE.out _ X.out).mono ?_; rintro e V3 ⟨rfl, hx⟩; replace X := Lib.hid (X.out.trans hx); replace Ky0 := Lib.hid (Ky0.out.ext hx); replace Ky1 := Lib.hid (Ky1.out.ext hx); replace R7 := Lib.hid (R7.out.ext hx); clear hx y0_0 y0_1 y0_2 y1_0 y1_1 y1_2 y1_3; refine Hid.out ?_)
      refine Lib.hid ?_
      have y0_0 : V3.cell? ⟨w.heap.size, 0, none⟩ = some (.int .i64 L) := Ky0.out.cell 0
      have y0_1 : V3.cell? ⟨w.heap.size, 1, none⟩ = some (.slice J n cj) := Ky0.out.cell 1
      have y0_2 : V3.cell? ⟨w.heap.size, 2, none⟩ = some (.slice K n ck) := Ky0.out.cell 2
      have y1_0 : V3.cell? ⟨w.heap.size + 1, 0, none⟩ = some (.slice P np cp) := Ky1.out.cell 0
      have y1_1 : V3.cell? ⟨w.heap.size + 1, 1, none⟩ = some (.int .i64 sp) := Ky1.out.cell 1
      have y1_2 : V3.cell? ⟨w.heap.size + 1, 2, none⟩ = some (.int .i64 ga) := Ky1.out.cell 2
      have y1_3 : V3.cell? ⟨w.heap.size + 1, 3, none⟩ = some (.int .i64 li) := Ky1.out.cell 3
      go_wp2_with (go_at_call 13; refine (HTO.out _).mono ?_; rintro e V4 ⟨rfl, hx⟩; replace X := Lib.hid (X.out.trans hx); replace Ky0 := Lib.hid (Ky0.out.ext hx); replace Ky1 := Lib.hid (Ky1.out.ext hx); replace R7 := Lib.hid (R7.out.ext hx); clear hx y0_0 y0_1 y0_2 y1_0 y1_1 y1_2 y1_3; refine Hid.out ?_)
      refine Lib.hid ?_
      have y0_0 : V4.cell? ⟨w.heap.size, 0, none⟩ = some (.int .i64 L) := Ky0.out.cell 0
      have y0_1 : V4.cell? ⟨w.heap.size, 1, none⟩ = some (.slice J n cj) := Ky0.out.cell 1
      have y0_2 : V4.cell? ⟨w.heap.size, 2, none⟩ = some (.slice K n ck) := Ky0.out.cell 2
      have y1_0 : V4.cell? ⟨w.heap.size + 1, 0, none⟩ = some (.slice P np cp) := Ky1.out.cell 0
      have y1_1 : V4.cell? ⟨w.heap.size + 1, 1, none⟩ = some (.int .i64 sp) := Ky1.out.cell 1
      have y1_2 : V4.cell? ⟨w.heap.size + 1, 2, none⟩ = some (.int .i64 ga) := Ky1.out.cell 2
      have y1_3 : V4.cell? ⟨w.heap.size + 1, 3, none⟩ = some (.int .i64 li) := Ky1.out.cell 3
      go_wp2_with (go_at_call 14; refine (HRB.out _ X.out).mono ?_; rintro e V5 ⟨rfl, hx⟩; replace X := Lib.hid (X.out.trans hx); replace Ky0 := Lib.hid (Ky0.out.ext hx); replace Ky1 := Lib.hid (Ky1.out.ext hx); replace R7 := Lib.hid (R7.out.ext hx); clear hx y0_0 y0_1 y0_2 y1_0 y1_1 y1_2 y1_3; refine Hid.out ?_)
      refine Lib.hid ?_
      have y0_0 : V5.cell? ⟨w.heap.size, 0, none⟩ = some (.int .i64 L) := Ky0.out.cell 0
      have y0_1 : V5.cell? ⟨w.heap.size, 1, none⟩ = some (.slice J n cj) := Ky0.out.cell 1
      have y0_2 : V5.cell? ⟨w.heap.size, 2, none⟩ = some (.slice K n ck) := Ky0.out.cell 2
      have y1_0 : V5.cell? ⟨w.heap.size + 1, 0, none⟩ = some (.slice P np cp) := Ky1.out.cell 0
      have y1_1 : V5.cell? ⟨w.heap.size + 1, 1, none⟩ = some (.int .i64 sp) := Ky1.out.cell 1
      have y1_2 : V5.cell? ⟨w.heap.size + 1, 2, none⟩ = some (.int .i64 ga) := Ky1.out.cell 2
      have y1_3 : V5.cell? ⟨w.heap.size + 1, 3, none⟩ = some (.int .i64 li) := Ky1.out.cell 3
      go_wp2_with (go_at_call 15; refine (HRF.out _ X.out).mono ?_; rintro e V6 ⟨A6, m6, c6, rfl, hr6, hx⟩; replace X := Lib.hid (X.out.trans hx); replace Ky0 := Lib.hid (Ky0.out.ext hx); replace Ky1 := Lib.hid (Ky1.out.ext hx); replace R7 := Lib.hid (R7.out.ext hx); clear hx y0_0 y0_1 y0_2 y1_0 y1_1 y1_2 y1_3; obtain ⟨hm6, hr7, -⟩ := hr6 p rfl; have R6 := Lib.hid hr7; have N6 := Lib.hid hm6; clear hr6 hr7 hm6; refine Hid.out ?_)
      refine Lib.hid ?_
      have y0_0 : V6.cell? ⟨w.heap.size, 0, none⟩ = some (.int .i64 L) := Ky0.out.cell 0
      have y0_1 : V6.cell? ⟨w.heap.size, 1, none⟩ = some (.slice J n cj) := Ky0.out.cell 1
      have y0_2 : V6.cell? ⟨w.heap.size, 2, none⟩ = some (.slice K n ck) := Ky0.out.cell 2
      have y1_0 : V6.cell? ⟨w.heap.size + 1, 0, none⟩ = some (.slice P np cp) := Ky1.out.cell 0
      have y1_1 : V6.cell? ⟨w.heap.size + 1, 1, none⟩ = some (.int .i64 sp) := Ky1.out.cell 1
      have y1_2 : V6.cell? ⟨w.heap.size + 1, 2, none⟩ = some (.int .i64 ga) := Ky1.out.cell 2
      have y1_3 : V6.cell? ⟨w.heap.size + 1, 3, none⟩ = some (.int .i64 li) := Ky1.out.cell 3
      go_wp2_with (go_at_call 16; refine (HSP.out _ A7 c7 A6 m6 c6 R7.out N6.out R6.out).mono ?_; rintro e V7 ⟨rfl, hx⟩; replace X := Lib.hid (X.out.trans hx); replace Ky0 := Lib.hid (Ky0.out.ext hx); replace Ky1 := Lib.hid (Ky1.out.ext hx); replace R7 := Lib.hid (R7.out.ext hx); clear hx y0_0 y0_1 y0_2 y1_0 y1_1 y1_2 y1_3; refine Hid.out ?_)
      refine Lib.hid ?_
      have y0_0 : V7.cell? ⟨w.heap.size, 0, none⟩ = some (.int .i64 L) := Ky0.out.cell 0
      have y0_1 : V7.cell? ⟨w.heap.size, 1, none⟩ = some (.slice J n cj) := Ky0.out.cell 1
      have y0_2 : V7.cell? ⟨w.heap.size, 2, none⟩ = some (.slice K n ck) := Ky0.out.cell 2
      have y1_0 : V7.cell? ⟨w.heap.size + 1, 0, none⟩ = some (.slice P np cp) := Ky1.out.cell 0
      have y1_1 : V7.cell? ⟨w.heap.size + 1, 1, none⟩ = some (.int .i64 sp) := Ky1.out.cell 1
      have y1_2 : V7.cell? ⟨w.heap.size + 1, 2, none⟩ = some (.int .i64 ga) := Ky1.out.cell 2
      have y1_3 : V7.cell? ⟨w.heap.size + 1, 3, none⟩ = some (.int .i64 li) := Ky1.out.cell 3
      go_wp2
      go_ret
      exact ⟨rfl, X.out⟩
set_option maxRecDepth 100000 in
set_option maxHeartbeats 4000000 in
theorem fw_some_none {L : Int} {J K : Option Addr} {n cj ck : Nat} {js : List Int} {ks : List Rg} {w : World} (hn : js.length = n) (hJ : RowsAt 1 I1 w J js) (hm : ks.length = n) (hK : RowsAt 2 Rg.enc w K ks) {P : Option Addr} {np cp : Nat} {am : List Int} {sp ga li : Int} (hnp : am.length = np) (hP : RowsAt 1 I1 w P am) {t : Int} (hjn : J = none → cj = 0) (hkn : K = none → ck = 0) (hpn : P = none → cp = 0) (h : n ≤ 6 ∧ n ≤ 6) (ln : n ≤ maxLen) (h5 : np ≤ 5) (lp : np ≤ maxLen) (hcz : (checkS L js ks).2 = 0) (hpz : (checkP am sp ga li).2 = 0) (hto : tolE t = 0) (hlt : (optL am n).length ≤ 8) {p : List Sk} {mp : Nat} (hmp : p.length = mp) (hfv : fewV L js ks am sp ga li t = some p) (hbv : bndV L js ks am sp ga t = (0, 0, 12)) :
    Calls Tryz.prog 3 #[.agg #[.int .i64 L, .slice J n cj, .slice K n ck], .agg #[.slice P np cp, .int .i64 sp, .int .i64 ga, .int .i64 li], .int .i64 t] w fun e w' => e = .returned (.bool true) ∧ Ext w w' := by
  have lm := ln
  have HFEW := Lib.hid (fun W => show Calls Tryz.prog 5 #[.agg #[.int .i64 L, .slice J n cj, .slice K n ck]] W fun e w' => e = .returned (.bool true) ∧ Ext W w' from by have := few_any (L := L) (J := J) (K := K) (n := n) (m := n) (cj := cj) (ck := ck) W ln lm; rw [show few2 n n = true by simp [few2, h.1]] at this; exact this)
  have HFEA := Lib.hid (fun W => show Calls Tryz.prog 6 #[.agg #[.slice P np cp, .int .i64 sp, .int .i64 ga, .int .i64 li]] W fun e w' => e = .returned (.bool true) ∧ Ext W w' from by have := fewAmounts_any (P := P) (np := np) (cp := cp) (sp := sp) (ga := ga) (li := li) W lp; rw [show few1 np = true by simp [few1, h5]] at this; exact this)
  have hs := checkS_ok hcz
  have hp := checkP_ok hpz
  have hbe : (if (checkS L js ks).2 ≠ 0 then (checkS L js ks).2 else (checkP am sp ga li).2) = 0 := by rw [if_neg (by simpa using hcz), hpz]
  have hbz : bndE L js ks am sp ga li t = 0 := by unfold bndE; rw [hcz, hpz, hto]; rfl
  have hfe : fewE L js ks am sp ga li t = 0 := hbz
  have HTO := Lib.hid (fun W => show Calls Tryz.prog 13 #[.int .i64 t] W fun e w' => e = .returned (.int .i64 0) ∧ Ext W w' from by have := refTolE_any t W; rw [hto] at this; exact this)
  have HLT := Lib.hid (fun W (e : Ext w W) => show Calls Tryz.prog 7 #[.agg #[.int .i64 L, .slice J n cj, .slice K n ck], .agg #[.slice P np cp, .int .i64 sp, .int .i64 ga, .int .i64 li]] W fun e w' => e = .returned (.bool true) ∧ Ext W w' from by
    have := light_any (cj := cj) (ck := ck) (cp := cp) (L := L) (sp := sp) (ga := ga) (li := li) hn (hJ.ext e) hm (hK.ext e) hnp (hP.ext e) hcz hpz
    rw [show decide ((optL am n).length ≤ 8) = true by simp [hlt]] at this
    exact this)
  have HBO := Lib.hid (fun W J1 c1 K1 d1 P2 c2 (r1 : RowsAt 1 I1 W J1 js) (s1 : RowsAt 2 Rg.enc W K1 ks) (r2 : RowsAt 1 I1 W P2 am) => show Calls Tryz.prog 11 #[.agg #[.int .i64 L, .slice J1 n c1, .slice K1 n d1], .agg #[.slice P2 np c2, .int .i64 sp, .int .i64 ga, .int .i64 li], .int .i64 t] W fun e w' => e = .returned (.tuple #[.int .i64 0, .int .i64 0, .int .i64 12]) ∧ Ext W w' from by
    have := boundOf_ok (cj := c1) (ck := d1) (cp := c2) hn r1 hm s1 hnp r2 hbz
    rw [hbv] at this; exact this)
  have HRB := Lib.hid (fun W (e : Ext w W) => show Calls Tryz.prog 14 #[.agg #[.int .i64 L, .slice J n cj, .slice K n ck], .agg #[.slice P np cp, .int .i64 sp, .int .i64 ga, .int .i64 li], .int .i64 t] W fun e w' => e = .returned (.tuple #[.int .i64 0, .int .i64 0, .bool false]) ∧ Ext W w' from by
    have := refBound_any (cj := cj) (ck := ck) (cp := cp) (li := li) hn (hJ.ext e) hm (hK.ext e) hnp (hP.ext e) hs hp (rangeE_zeros hto t (by simp))
    rw [hbv] at this; exact this)
  have hfk : fewV L js ks am sp ga li t = fewRk n li (pfB ga sp t L js ks) (optL am n) 0 := by unfold fewV; rw [hfe, if_pos rfl, hn]
  have hfc : fewC L js ks am sp ga li t = 0 := by unfold fewC; rw [hfe, if_pos rfl, hfv]; rfl
  have HRF := Lib.hid (fun W (e : Ext w W) => show Calls Tryz.prog 15 #[.agg #[.int .i64 L, .slice J n cj, .slice K n ck], .agg #[.slice P np cp, .int .i64 sp, .int .i64 ga, .int .i64 li], .int .i64 t] W (FiP (some p) W) from by
    have := refFewest_any (cj := cj) (ck := ck) (cp := cp) hn (hJ.ext e) hm (hK.ext e) hnp (hP.ext e) hjn hkn hs hp hto (by omega)
    rw [← hfk, hfv] at this; exact this)
  have HSP := Lib.hid (fun W (A7 : Option Addr) (c7 : Nat) (A6 : Option Addr) (m6 c6 : Nat) (h1 : RowsAt 3 Sk.enc W A7 p) (h3 : p.length = m6) (h2 : RowsAt 3 Sk.enc W A6 p) => show Calls Tryz.prog 16 #[.slice A7 mp c7, .slice A6 m6 c6] W fun e w' => e = .returned (.bool true) ∧ Ext W w' from by
    refine (samePlan_any hmp h1 h3 h2).mono ?_
    rintro e w' ⟨b, rfl, hb, hx⟩
    obtain rfl : b = true := hb.2 rfl
    exact ⟨rfl, hx⟩)
  have HFW := Lib.hid (fun W J1 c1 K1 d1 P2 c2 (r1 : RowsAt 1 I1 W J1 js) (s1 : RowsAt 2 Rg.enc W K1 ks) (r2 : RowsAt 1 I1 W P2 am) (n1 : J1 = none → c1 = 0) => show Calls Tryz.prog 8 #[.agg #[.int .i64 L, .slice J1 n c1, .slice K1 n d1], .agg #[.slice P2 np c2, .int .i64 sp, .int .i64 ga, .int .i64 li], .int .i64 t] W fun e w' => ∃ A' c', e = .returned (.tuple #[.slice A' mp c', .int .i64 0]) ∧ RowsAt 3 Sk.enc w' A' p ∧ (A' = none → c' = 0) ∧ Ext W w' from by
    have := fewestOf_any (ck := d1) (cp := c2) (L := L) (sp := sp) (ga := ga) (li := li) (t := t) hn r1 hm s1 n1 hnp r2
    rw [hfv, hfc] at this
    refine this.mono ?_
    rintro e w' ⟨A', m', c', rfl, -, h1, hx⟩
    obtain ⟨h2, h3, h4⟩ := h1 p rfl
    obtain rfl : mp = m' := by rw [← hmp, h2]
    exact ⟨A', c', rfl, h3, h4, hx⟩)
  have HBE := Lib.hid (fun W (e : Ext w W) => show Calls Tryz.prog 12 #[.agg #[.int .i64 L, .slice J n cj, .slice K n ck], .agg #[.slice P np cp, .int .i64 sp, .int .i64 ga, .int .i64 li]] W fun e w' => e = .returned (.int .i64 0) ∧ Ext W w' from by have := bothErr_any (cj := cj) (ck := ck) (cp := cp) (L := L) (sp := sp) (ga := ga) (li := li) hn (hJ.ext e) hm (hK.ext e) hnp (hP.ext e); rw [hbe] at this; exact this)
  have HCP := Lib.hid (fun W (e : Ext w W) => copyShaft_any (L := L) (cj := cj) (ck := ck) hn (hJ.ext e) hm (hK.ext e) hjn hkn (by omega) (by omega))
  have HCQ := Lib.hid (fun W (e : Ext w W) => copyPress_any (sp := sp) (ga := ga) (li := li) hnp (hP.ext e) hpn (by omega))
  clear hn hJ hm hK hnp hP hjn hkn hpn h h5 hcz hpz hto hlt hfv hbv hs hp hbe hbz hfe hfk hfc hmp
  obtain ⟨W0, hW0⟩ : ∃ W0, W0 = (w.alloc (.cells #[.int .i64 L, .slice J n cj, .slice K n ck] 25)).alloc (.cells #[.slice P np cp, .int .i64 sp, .int .i64 ga, .int .i64 li] 27) := ⟨_, rfl⟩
  have Ky0 := Lib.hid (show Blk W0 (w.heap.size) 25 #[.int .i64 L, .slice J n cj, .slice K n ck] by rw [hW0]; exact (Blk.new _ _ _).alloc _)
  have Ky1 := Lib.hid (show Blk W0 (w.heap.size + 1) 27 #[.slice P np cp, .int .i64 sp, .int .i64 ga, .int .i64 li] by rw [hW0]; exact Blk.newAt _ _ _ (by simp))
  have X := Lib.hid (show Ext w W0 by rw [hW0]; exact (Ext.alloc _ _).trans (Ext.alloc _ _))
  have y0_0 : W0.cell? ⟨w.heap.size, 0, none⟩ = some (.int .i64 L) := Ky0.out.cell 0
  have y0_1 : W0.cell? ⟨w.heap.size, 1, none⟩ = some (.slice J n cj) := Ky0.out.cell 1
  have y0_2 : W0.cell? ⟨w.heap.size, 2, none⟩ = some (.slice K n ck) := Ky0.out.cell 2
  have y1_0 : W0.cell? ⟨w.heap.size + 1, 0, none⟩ = some (.slice P np cp) := Ky1.out.cell 0
  have y1_1 : W0.cell? ⟨w.heap.size + 1, 1, none⟩ = some (.int .i64 sp) := Ky1.out.cell 1
  have y1_2 : W0.cell? ⟨w.heap.size + 1, 2, none⟩ = some (.int .i64 ga) := Ky1.out.cell 2
  have y1_3 : W0.cell? ⟨w.heap.size + 1, 3, none⟩ = some (.int .i64 li) := Ky1.out.cell 3
  go_enter Tryz.func3, Tryz.ntmps3
  go_upto_region 1 with (fail)
  rw [← hW0]
  clear hW0
  go_wp2_with (go_at_call 4; refine (awake_any _).mono ?_; rintro e W1 ⟨rfl, hx⟩; replace X := Lib.hid (X.out.trans hx); replace Ky0 := Lib.hid (Ky0.out.ext hx); replace Ky1 := Lib.hid (Ky1.out.ext hx); clear hx y0_0 y0_1 y0_2 y1_0 y1_1 y1_2 y1_3; refine Hid.out ?_)
  refine Lib.hid ?_
  have y0_0 : W1.cell? ⟨w.heap.size, 0, none⟩ = some (.int .i64 L) := Ky0.out.cell 0
  have y0_1 : W1.cell? ⟨w.heap.size, 1, none⟩ = some (.slice J n cj) := Ky0.out.cell 1
  have y0_2 : W1.cell? ⟨w.heap.size, 2, none⟩ = some (.slice K n ck) := Ky0.out.cell 2
  have y1_0 : W1.cell? ⟨w.heap.size + 1, 0, none⟩ = some (.slice P np cp) := Ky1.out.cell 0
  have y1_1 : W1.cell? ⟨w.heap.size + 1, 1, none⟩ = some (.int .i64 sp) := Ky1.out.cell 1
  have y1_2 : W1.cell? ⟨w.heap.size + 1, 2, none⟩ = some (.int .i64 ga) := Ky1.out.cell 2
  have y1_3 : W1.cell? ⟨w.heap.size + 1, 3, none⟩ = some (.int .i64 li) := Ky1.out.cell 3
  go_wp2_with (go_at_call 5; refine (HFEW.out _).mono ?_; rintro e W2 ⟨rfl, hx⟩; replace X := Lib.hid (X.out.trans hx); replace Ky0 := Lib.hid (Ky0.out.ext hx); replace Ky1 := Lib.hid (Ky1.out.ext hx); clear hx y0_0 y0_1 y0_2 y1_0 y1_1 y1_2 y1_3; refine Hid.out ?_)
  refine Lib.hid ?_
  have y0_0 : W2.cell? ⟨w.heap.size, 0, none⟩ = some (.int .i64 L) := Ky0.out.cell 0
  have y0_1 : W2.cell? ⟨w.heap.size, 1, none⟩ = some (.slice J n cj) := Ky0.out.cell 1
  have y0_2 : W2.cell? ⟨w.heap.size, 2, none⟩ = some (.slice K n ck) := Ky0.out.cell 2
  have y1_0 : W2.cell? ⟨w.heap.size + 1, 0, none⟩ = some (.slice P np cp) := Ky1.out.cell 0
  have y1_1 : W2.cell? ⟨w.heap.size + 1, 1, none⟩ = some (.int .i64 sp) := Ky1.out.cell 1
  have y1_2 : W2.cell? ⟨w.heap.size + 1, 2, none⟩ = some (.int .i64 ga) := Ky1.out.cell 2
  have y1_3 : W2.cell? ⟨w.heap.size + 1, 3, none⟩ = some (.int .i64 li) := Ky1.out.cell 3
  go_wp2_with (go_at_call 6; refine (HFEA.out _).mono ?_; rintro e W3 ⟨rfl, hx⟩; replace X := Lib.hid (X.out.trans hx); replace Ky0 := Lib.hid (Ky0.out.ext hx); replace Ky1 := Lib.hid (Ky1.out.ext hx); clear hx y0_0 y0_1 y0_2 y1_0 y1_1 y1_2 y1_3; refine Hid.out ?_)
  refine Lib.hid ?_
  have y0_0 : W3.cell? ⟨w.heap.size, 0, none⟩ = some (.int .i64 L) := Ky0.out.cell 0
  have y0_1 : W3.cell? ⟨w.heap.size, 1, none⟩ = some (.slice J n cj) := Ky0.out.cell 1
  have y0_2 : W3.cell? ⟨w.heap.size, 2, none⟩ = some (.slice K n ck) := Ky0.out.cell 2
  have y1_0 : W3.cell? ⟨w.heap.size + 1, 0, none⟩ = some (.slice P np cp) := Ky1.out.cell 0
  have y1_1 : W3.cell? ⟨w.heap.size + 1, 1, none⟩ = some (.int .i64 sp) := Ky1.out.cell 1
  have y1_2 : W3.cell? ⟨w.heap.size + 1, 2, none⟩ = some (.int .i64 ga) := Ky1.out.cell 2
  have y1_3 : W3.cell? ⟨w.heap.size + 1, 3, none⟩ = some (.int .i64 li) := Ky1.out.cell 3
  go_wp2_with (go_at_call 7; refine (HLT.out _ X.out).mono ?_; rintro e W4 ⟨rfl, hx⟩; replace X := Lib.hid (X.out.trans hx); replace Ky0 := Lib.hid (Ky0.out.ext hx); replace Ky1 := Lib.hid (Ky1.out.ext hx); clear hx y0_0 y0_1 y0_2 y1_0 y1_1 y1_2 y1_3; refine Hid.out ?_)
  refine Lib.hid ?_
  have y0_0 : W4.cell? ⟨w.heap.size, 0, none⟩ = some (.int .i64 L) := Ky0.out.cell 0
  have y0_1 : W4.cell? ⟨w.heap.size, 1, none⟩ = some (.slice J n cj) := Ky0.out.cell 1
  have y0_2 : W4.cell? ⟨w.heap.size, 2, none⟩ = some (.slice K n ck) := Ky0.out.cell 2
  have y1_0 : W4.cell? ⟨w.heap.size + 1, 0, none⟩ = some (.slice P np cp) := Ky1.out.cell 0
  have y1_1 : W4.cell? ⟨w.heap.size + 1, 1, none⟩ = some (.int .i64 sp) := Ky1.out.cell 1
  have y1_2 : W4.cell? ⟨w.heap.size + 1, 2, none⟩ = some (.int .i64 ga) := Ky1.out.cell 2
  have y1_3 : W4.cell? ⟨w.heap.size + 1, 3, none⟩ = some (.int .i64 li) := Ky1.out.cell 3
  clear HFEW HFEA HLT
  go_upto_region 5 with (fail)
  refine wp_region_each [some 35, some 36, some 37, some 38, some 39, some 40, some 34, some 41, some 42, some 7, some 8] [[3], [35], [4], [37], [2], [36, 38, 39], [40], [34], [34], [41], [42]]
    [Is (.agg #[.int .i64 L, .slice J n cj, .slice K n ck]), CopS L js ks n n, Is (.agg #[.slice P np cp, .int .i64 sp, .int .i64 ga, .int .i64 li]), CopP am sp ga li np, Is (.int .i64 (t)), FewT p mp, FewT p mp, CopL p mp, Is (.int .i64 (0)), CopL p mp, Is (.int .i64 (0))]
    (by kernel_rfl) (by kernel_rfl) (by kernel_rfl) (by kernel_rfl) (by kernel_rfl) Ext (fun W => Ext W4 W)
    (fun W _ => Ext.refl W) (fun W W' h k => h.trans k) ?_ (Ext.drew _) ?_ ?_
  · repeat (refine ⟨fun _ _ _ _ k h => (by first | exact h | exact (by first | exact IntsAt.ext h k | exact CopS.ext h k | exact CopP.ext h k | exact CopL.ext h k | exact FewT.ext h k)), ?_⟩)
    exact trivial
  · refine ⟨?_, ?_, ?_, ?_, ?_, ?_, ?_, ?_, ?_, ?_, ?_, trivial⟩
    all_goals intro ρ W ⟨kc, kg, kf⟩ hF hs
    · obtain ⟨h0, -⟩ := hs
      replace h0 : ρ (.tmp 3) = .pointer (some ⟨w.heap.size, 0, none⟩) := h0
      have hc0 : W.cell? ⟨w.heap.size, 0, none⟩ = some (.int .i64 L) := hF.cell (by assumption)
      have hc1 : W.cell? ⟨w.heap.size, 1, none⟩ = some (.slice J n cj) := hF.cell (by assumption)
      have hc2 : W.cell? ⟨w.heap.size, 2, none⟩ = some (.slice K n ck) := hF.cell (by assumption)
      go_simp
      exact ⟨Ext.refl _, rfl⟩
    · obtain ⟨h0, -⟩ := hs
      replace h0 : ρ (.tmp 35) = .agg #[.int .i64 L, .slice J n cj, .slice K n ck] := h0
      go_simp
      refine (HCP.out _ (X.out.trans hF)).mono ?_; rintro e w' ⟨v, rfl, hc, hx⟩; exact ⟨_, rfl, hx, CopS.of hc⟩
    · obtain ⟨h0, -⟩ := hs
      replace h0 : ρ (.tmp 4) = .pointer (some ⟨w.heap.size + 1, 0, none⟩) := h0
      have hc0 : W.cell? ⟨w.heap.size + 1, 0, none⟩ = some (.slice P np cp) := hF.cell (by assumption)
      have hc1 : W.cell? ⟨w.heap.size + 1, 1, none⟩ = some (.int .i64 sp) := hF.cell (by assumption)
      have hc2 : W.cell? ⟨w.heap.size + 1, 2, none⟩ = some (.int .i64 ga) := hF.cell (by assumption)
      have hc3 : W.cell? ⟨w.heap.size + 1, 3, none⟩ = some (.int .i64 li) := hF.cell (by assumption)
      go_simp
      exact ⟨Ext.refl _, rfl⟩
    · obtain ⟨h0, -⟩ := hs
      replace h0 : ρ (.tmp 37) = .agg #[.slice P np cp, .int .i64 sp, .int .i64 ga, .int .i64 li] := h0
      go_simp
      refine (HCQ.out _ (X.out.trans hF)).mono ?_; rintro e w' ⟨v, rfl, hc, hx⟩; exact ⟨_, rfl, hx, CopP.of hc⟩
    · obtain ⟨h0, -⟩ := hs
      replace h0 : ρ (.tmp 2) = .int .i64 (t) := h0
      go_simp
      exact ⟨Ext.refl _, rfl⟩
    · obtain ⟨h0, h1, h2, -⟩ := hs
      replace h0 : (CopS L js ks n n) (ρ (.tmp 36)) W := h0
      replace h1 : (CopP am sp ga li np) (ρ (.tmp 38)) W := h1
      replace h2 : ρ (.tmp 39) = .int .i64 (t) := h2
      obtain ⟨J1, c1, K1, d1, e1, r1, s1, n1, m1⟩ := h0
      replace e1 : ρ (.tmp 36) = .agg #[.int .i64 L, .slice J1 n c1, .slice K1 n d1] := e1
      obtain ⟨P2, c2, e2, r2, n2⟩ := h1
      replace e2 : ρ (.tmp 38) = .agg #[.slice P2 np c2, .int .i64 sp, .int .i64 ga, .int .i64 li] := e2
      go_simp
      refine (HFW.out _ J1 c1 K1 d1 P2 c2 r1 s1 r2 n1).mono ?_; rintro e w' ⟨A', c', rfl, hr, hn, hx⟩; exact ⟨_, rfl, hx, A', c', rfl, hr, hn⟩
    · obtain ⟨h0, -⟩ := hs
      replace h0 : (FewT p mp) (ρ (.tmp 40)) W := h0
      go_simp
      first | exact ⟨Ext.refl _, h0⟩ | exact Ext.refl _
    · obtain ⟨h0, -⟩ := hs
      replace h0 : (FewT p mp) (ρ (.tmp 34)) W := h0
      obtain ⟨A9, c9, e9, r9, n9⟩ := h0
      replace e9 : ρ (.tmp 34) = .tuple #[.slice A9 mp c9, .int .i64 0] := e9
      go_simp
      exact ⟨Ext.refl _, A9, c9, rfl, r9, n9⟩
    · obtain ⟨h0, -⟩ := hs
      replace h0 : (FewT p mp) (ρ (.tmp 34)) W := h0
      obtain ⟨A9, c9, e9, r9, n9⟩ := h0
      replace e9 : ρ (.tmp 34) = .tuple #[.slice A9 mp c9, .int .i64 0] := e9
      go_simp
      exact ⟨Ext.refl _, rfl⟩
    · obtain ⟨h0, -⟩ := hs
      replace h0 : (CopL p mp) (ρ (.tmp 41)) W := h0
      go_simp
      first | exact ⟨Ext.refl _, h0⟩ | exact Ext.refl _
    · obtain ⟨h0, -⟩ := hs
      replace h0 : ρ (.tmp 42) = .int .i64 (0) := h0
      go_simp
      exact ⟨Ext.refl _, rfl⟩
  · intro fv V1x hF hs
    obtain ⟨-, -, -, -, -, -, -, -, -, h7, h8, -⟩ := hs
    replace h7 : (CopL p mp) (fv 7) V1x := h7
    replace h8 : fv 8 = .int .i64 (0) := h8
    simp only [fin, List.filterMap]
    go_simp
    obtain ⟨A7, c7, e7, r7, n7⟩ := h7
    rw [e7]
    have R7 := Lib.hid r7
    clear e7 r7 n7
    have hx := hF
    replace X := Lib.hid (X.out.trans hx)
    replace Ky0 := Lib.hid (Ky0.out.ext hx)
    replace Ky1 := Lib.hid (Ky1.out.ext hx)
    clear hx y0_0 y0_1 y0_2 y1_0 y1_1 y1_2 y1_3
    clear hF
    obtain ⟨V1, hV⟩ : ∃ V, V = V1x := ⟨_, rfl⟩
    rw [← hV] at X Ky0 Ky1 R7 ⊢
    clear hV
    have y0_0 : V1.cell? ⟨w.heap.size, 0, none⟩ = some (.int .i64 L) := Ky0.out.cell 0
    have y0_1 : V1.cell? ⟨w.heap.size, 1, none⟩ = some (.slice J n cj) := Ky0.out.cell 1
    have y0_2 : V1.cell? ⟨w.heap.size, 2, none⟩ = some (.slice K n ck) := Ky0.out.cell 2
    have y1_0 : V1.cell? ⟨w.heap.size + 1, 0, none⟩ = some (.slice P np cp) := Ky1.out.cell 0
    have y1_1 : V1.cell? ⟨w.heap.size + 1, 1, none⟩ = some (.int .i64 sp) := Ky1.out.cell 1
    have y1_2 : V1.cell? ⟨w.heap.size + 1, 2, none⟩ = some (.int .i64 ga) := Ky1.out.cell 2
    have y1_3 : V1.cell? ⟨w.heap.size + 1, 3, none⟩ = some (.int .i64 li) := Ky1.out.cell 3
    go_upto_region 6 with (fail)
    refine wp_region_each [some 44, some 45, some 46, some 47, some 48, some 49, some 43, some 50, some 51, some 52, some 9, some 10, some 11] [[3], [44], [4], [46], [2], [45, 47, 48], [49], [43], [43], [43], [50], [51], [52]]
      [Is (.agg #[.int .i64 L, .slice J n cj, .slice K n ck]), CopS L js ks n n, Is (.agg #[.slice P np cp, .int .i64 sp, .int .i64 ga, .int .i64 li]), CopP am sp ga li np, Is (.int .i64 (t)), Is (.tuple #[.int .i64 0, .int .i64 0, .int .i64 12]), Is (.tuple #[.int .i64 0, .int .i64 0, .int .i64 12]), Is (.int .i64 (0)), Is (.int .i64 (0)), Is (.int .i64 (12)), Is (.int .i64 (0)), Is (.int .i64 (0)), Is (.int .i64 (12))]
      (by kernel_rfl) (by kernel_rfl) (by kernel_rfl) (by kernel_rfl) (by kernel_rfl) Ext (fun W => Ext V1 W)
      (fun W _ => Ext.refl W) (fun W W' h k => h.trans k) ?_ (Ext.drew _) ?_ ?_
    · repeat (refine ⟨fun _ _ _ _ k h => (by first | exact h | exact (by first | exact IntsAt.ext h k | exact CopS.ext h k | exact CopP.ext h k | exact CopL.ext h k | exact FewT.ext h k)), ?_⟩)
      exact trivial
    · refine ⟨?_, ?_, ?_, ?_, ?_, ?_, ?_, ?_, ?_, ?_, ?_, ?_, ?_, trivial⟩
      all_goals intro ρ W ⟨kc, kg, kf⟩ hF hs
      · obtain ⟨h0, -⟩ := hs
        replace h0 : ρ (.tmp 3) = .pointer (some ⟨w.heap.size, 0, none⟩) := h0
        have hc0 : W.cell? ⟨w.heap.size, 0, none⟩ = some (.int .i64 L) := hF.cell (by assumption)
        have hc1 : W.cell? ⟨w.heap.size, 1, none⟩ = some (.slice J n cj) := hF.cell (by assumption)
        have hc2 : W.cell? ⟨w.heap.size, 2, none⟩ = some (.slice K n ck) := hF.cell (by assumption)
        go_simp
        exact ⟨Ext.refl _, rfl⟩
      · obtain ⟨h0, -⟩ := hs
        replace h0 : ρ (.tmp 44) = .agg #[.int .i64 L, .slice J n cj, .slice K n ck] := h0
        go_simp
        refine (HCP.out _ (X.out.trans hF)).mono ?_; rintro e w' ⟨v, rfl, hc, hx⟩; exact ⟨_, rfl, hx, CopS.of hc⟩
      · obtain ⟨h0, -⟩ := hs
        replace h0 : ρ (.tmp 4) = .pointer (some ⟨w.heap.size + 1, 0, none⟩) := h0
        have hc0 : W.cell? ⟨w.heap.size + 1, 0, none⟩ = some (.slice P np cp) := hF.cell (by assumption)
        have hc1 : W.cell? ⟨w.heap.size + 1, 1, none⟩ = some (.int .i64 sp) := hF.cell (by assumption)
        have hc2 : W.cell? ⟨w.heap.size + 1, 2, none⟩ = some (.int .i64 ga) := hF.cell (by assumption)
        have hc3 : W.cell? ⟨w.heap.size + 1, 3, none⟩ = some (.int .i64 li) := hF.cell (by assumption)
        go_simp
        exact ⟨Ext.refl _, rfl⟩
      · obtain ⟨h0, -⟩ := hs
        replace h0 : ρ (.tmp 46) = .agg #[.slice P np cp, .int .i64 sp, .int .i64 ga, .int .i64 li] := h0
        go_simp
        refine (HCQ.out _ (X.out.trans hF)).mono ?_; rintro e w' ⟨v, rfl, hc, hx⟩; exact ⟨_, rfl, hx, CopP.of hc⟩
      · obtain ⟨h0, -⟩ := hs
        replace h0 : ρ (.tmp 2) = .int .i64 (t) := h0
        go_simp
        exact ⟨Ext.refl _, rfl⟩
      · obtain ⟨h0, h1, h2, -⟩ := hs
        replace h0 : (CopS L js ks n n) (ρ (.tmp 45)) W := h0
        replace h1 : (CopP am sp ga li np) (ρ (.tmp 47)) W := h1
        replace h2 : ρ (.tmp 48) = .int .i64 (t) := h2
        obtain ⟨J1, c1, K1, d1, e1, r1, s1, n1, m1⟩ := h0
        replace e1 : ρ (.tmp 45) = .agg #[.int .i64 L, .slice J1 n c1, .slice K1 n d1] := e1
        obtain ⟨P2, c2, e2, r2, n2⟩ := h1
        replace e2 : ρ (.tmp 47) = .agg #[.slice P2 np c2, .int .i64 sp, .int .i64 ga, .int .i64 li] := e2
        go_simp
        refine (HBO.out _ J1 c1 K1 d1 P2 c2 r1 s1 r2).mono ?_; rintro e w' ⟨rfl, hx⟩; exact ⟨_, rfl, hx, rfl⟩
      · obtain ⟨h0, -⟩ := hs
        replace h0 : ρ (.tmp 49) = .tuple #[.int .i64 0, .int .i64 0, .int .i64 12] := h0
        go_simp
        exact ⟨Ext.refl _, rfl⟩
      · obtain ⟨h0, -⟩ := hs
        replace h0 : ρ (.tmp 43) = .tuple #[.int .i64 0, .int .i64 0, .int .i64 12] := h0
        go_simp
        exact ⟨Ext.refl _, rfl⟩
      · obtain ⟨h0, -⟩ := hs
        replace h0 : ρ (.tmp 43) = .tuple #[.int .i64 0, .int .i64 0, .int .i64 12] := h0
        go_simp
        exact ⟨Ext.refl _, rfl⟩
      · obtain ⟨h0, -⟩ := hs
        replace h0 : ρ (.tmp 43) = .tuple #[.int .i64 0, .int .i64 0, .int .i64 12] := h0
        go_simp
        exact ⟨Ext.refl _, rfl⟩
      · obtain ⟨h0, -⟩ := hs
        replace h0 : ρ (.tmp 50) = .int .i64 (0) := h0
        go_simp
        exact ⟨Ext.refl _, rfl⟩
      · obtain ⟨h0, -⟩ := hs
        replace h0 : ρ (.tmp 51) = .int .i64 (0) := h0
        go_simp
        exact ⟨Ext.refl _, rfl⟩
      · obtain ⟨h0, -⟩ := hs
        replace h0 : ρ (.tmp 52) = .int .i64 (12) := h0
        go_simp
        exact ⟨Ext.refl _, rfl⟩
    · intro fv V2x hF hs
      obtain ⟨-, -, -, -, -, -, -, -, -, -, h9, h10, h11, -⟩ := hs
      replace h9 : fv 9 = .int .i64 (0) := h9
      replace h10 : fv 10 = .int .i64 (0) := h10
      replace h11 : fv 11 = .int .i64 (12) := h11
      simp only [fin, List.filterMap]
      go_simp
      have hx := hF
      replace X := Lib.hid (X.out.trans hx)
      replace Ky0 := Lib.hid (Ky0.out.ext hx)
      replace Ky1 := Lib.hid (Ky1.out.ext hx)
      replace R7 := Lib.hid (R7.out.ext hx)
      clear hx y0_0 y0_1 y0_2 y1_0 y1_1 y1_2 y1_3
      clear hF
      obtain ⟨V2, hV⟩ : ∃ V, V = V2x := ⟨_, rfl⟩
      rw [← hV] at X Ky0 Ky1 R7 ⊢
      clear hV
      have y0_0 : V2.cell? ⟨w.heap.size, 0, none⟩ = some (.int .i64 L) := Ky0.out.cell 0
      have y0_1 : V2.cell? ⟨w.heap.size, 1, none⟩ = some (.slice J n cj) := Ky0.out.cell 1
      have y0_2 : V2.cell? ⟨w.heap.size, 2, none⟩ = some (.slice K n ck) := Ky0.out.cell 2
      have y1_0 : V2.cell? ⟨w.heap.size + 1, 0, none⟩ = some (.slice P np cp) := Ky1.out.cell 0
      have y1_1 : V2.cell? ⟨w.heap.size + 1, 1, none⟩ = some (.int .i64 sp) := Ky1.out.cell 1
      have y1_2 : V2.cell? ⟨w.heap.size + 1, 2, none⟩ = some (.int .i64 ga) := Ky1.out.cell 2
      have y1_3 : V2.cell? ⟨w.heap.size + 1, 3, none⟩ = some (.int .i64 li) := Ky1.out.cell 3
      go_wp2_with (go_at_call 12; refine (HBE.out _ X.out).mono ?_; rintro e V3 ⟨rfl, hx⟩; replace X := Lib.hid (X.out.trans hx); replace Ky0 := Lib.hid (Ky0.out.ext hx); replace Ky1 := Lib.hid (Ky1.out.ext hx); replace R7 := Lib.hid (R7.out.ext hx); clear hx y0_0 y0_1 y0_2 y1_0 y1_1 y1_2 y1_3; refine Hid.out ?_)
      refine Lib.hid ?_
      have y0_0 : V3.cell? ⟨w.heap.size, 0, none⟩ = some (.int .i64 L) := Ky0.out.cell 0
      have y0_1 : V3.cell? ⟨w.heap.size, 1, none⟩ = some (.slice J n cj) := Ky0.out.cell 1
      have y0_2 : V3.cell? ⟨w.heap.size, 2, none⟩ = some (.slice K n ck) := Ky0.out.cell 2
      have y1_0 : V3.cell? ⟨w.heap.size + 1, 0, none⟩ = some (.slice P np cp) := Ky1.out.cell 0
      have y1_1 : V3.cell? ⟨w.heap.size + 1, 1, none⟩ = some (.int .i64 sp) := Ky1.out.cell 1
      have y1_2 : V3.cell? ⟨w.heap.size + 1, 2, none⟩ = some (.int .i64 ga) := Ky1.out.cell 2
      have y1_3 : V3.cell? ⟨w.heap.size + 1, 3, none⟩ = some (.int .i64 li) := Ky1.out.cell 3
      go_wp2_with (go_at_call 13; refine (HTO.out _).mono ?_; rintro e V4 ⟨rfl, hx⟩; replace X := Lib.hid (X.out.trans hx); replace Ky0 := Lib.hid (Ky0.out.ext hx); replace Ky1 := Lib.hid (Ky1.out.ext hx); replace R7 := Lib.hid (R7.out.ext hx); clear hx y0_0 y0_1 y0_2 y1_0 y1_1 y1_2 y1_3; refine Hid.out ?_)
      refine Lib.hid ?_
      have y0_0 : V4.cell? ⟨w.heap.size, 0, none⟩ = some (.int .i64 L) := Ky0.out.cell 0
      have y0_1 : V4.cell? ⟨w.heap.size, 1, none⟩ = some (.slice J n cj) := Ky0.out.cell 1
      have y0_2 : V4.cell? ⟨w.heap.size, 2, none⟩ = some (.slice K n ck) := Ky0.out.cell 2
      have y1_0 : V4.cell? ⟨w.heap.size + 1, 0, none⟩ = some (.slice P np cp) := Ky1.out.cell 0
      have y1_1 : V4.cell? ⟨w.heap.size + 1, 1, none⟩ = some (.int .i64 sp) := Ky1.out.cell 1
      have y1_2 : V4.cell? ⟨w.heap.size + 1, 2, none⟩ = some (.int .i64 ga) := Ky1.out.cell 2
      have y1_3 : V4.cell? ⟨w.heap.size + 1, 3, none⟩ = some (.int .i64 li) := Ky1.out.cell 3
      go_wp2_with (go_at_call 14; refine (HRB.out _ X.out).mono ?_; rintro e V5 ⟨rfl, hx⟩; replace X := Lib.hid (X.out.trans hx); replace Ky0 := Lib.hid (Ky0.out.ext hx); replace Ky1 := Lib.hid (Ky1.out.ext hx); replace R7 := Lib.hid (R7.out.ext hx); clear hx y0_0 y0_1 y0_2 y1_0 y1_1 y1_2 y1_3; refine Hid.out ?_)
      refine Lib.hid ?_
      have y0_0 : V5.cell? ⟨w.heap.size, 0, none⟩ = some (.int .i64 L) := Ky0.out.cell 0
      have y0_1 : V5.cell? ⟨w.heap.size, 1, none⟩ = some (.slice J n cj) := Ky0.out.cell 1
      have y0_2 : V5.cell? ⟨w.heap.size, 2, none⟩ = some (.slice K n ck) := Ky0.out.cell 2
      have y1_0 : V5.cell? ⟨w.heap.size + 1, 0, none⟩ = some (.slice P np cp) := Ky1.out.cell 0
      have y1_1 : V5.cell? ⟨w.heap.size + 1, 1, none⟩ = some (.int .i64 sp) := Ky1.out.cell 1
      have y1_2 : V5.cell? ⟨w.heap.size + 1, 2, none⟩ = some (.int .i64 ga) := Ky1.out.cell 2
      have y1_3 : V5.cell? ⟨w.heap.size + 1, 3, none⟩ = some (.int .i64 li) := Ky1.out.cell 3
      go_wp2_with (go_at_call 15; refine (HRF.out _ X.out).mono ?_; rintro e V6 ⟨A6, m6, c6, rfl, hr6, hx⟩; replace X := Lib.hid (X.out.trans hx); replace Ky0 := Lib.hid (Ky0.out.ext hx); replace Ky1 := Lib.hid (Ky1.out.ext hx); replace R7 := Lib.hid (R7.out.ext hx); clear hx y0_0 y0_1 y0_2 y1_0 y1_1 y1_2 y1_3; obtain ⟨hm6, hr7, -⟩ := hr6 p rfl; have R6 := Lib.hid hr7; have N6 := Lib.hid hm6; clear hr6 hr7 hm6; refine Hid.out ?_)
      refine Lib.hid ?_
      have y0_0 : V6.cell? ⟨w.heap.size, 0, none⟩ = some (.int .i64 L) := Ky0.out.cell 0
      have y0_1 : V6.cell? ⟨w.heap.size, 1, none⟩ = some (.slice J n cj) := Ky0.out.cell 1
      have y0_2 : V6.cell? ⟨w.heap.size, 2, none⟩ = some (.slice K n ck) := Ky0.out.cell 2
      have y1_0 : V6.cell? ⟨w.heap.size + 1, 0, none⟩ = some (.slice P np cp) := Ky1.out.cell 0
      have y1_1 : V6.cell? ⟨w.heap.size + 1, 1, none⟩ = some (.int .i64 sp) := Ky1.out.cell 1
      have y1_2 : V6.cell? ⟨w.heap.size + 1, 2, none⟩ = some (.int .i64 ga) := Ky1.out.cell 2
      have y1_3 : V6.cell? ⟨w.heap.size + 1, 3, none⟩ = some (.int .i64 li) := Ky1.out.cell 3
      go_wp2_with (go_at_call 16; refine (HSP.out _ A7 c7 A6 m6 c6 R7.out N6.out R6.out).mono ?_; rintro e V7 ⟨rfl, hx⟩; replace X := Lib.hid (X.out.trans hx); replace Ky0 := Lib.hid (Ky0.out.ext hx); replace Ky1 := Lib.hid (Ky1.out.ext hx); replace R7 := Lib.hid (R7.out.ext hx); clear hx y0_0 y0_1 y0_2 y1_0 y1_1 y1_2 y1_3; refine Hid.out ?_)
      refine Lib.hid ?_
      have y0_0 : V7.cell? ⟨w.heap.size, 0, none⟩ = some (.int .i64 L) := Ky0.out.cell 0
      have y0_1 : V7.cell? ⟨w.heap.size, 1, none⟩ = some (.slice J n cj) := Ky0.out.cell 1
      have y0_2 : V7.cell? ⟨w.heap.size, 2, none⟩ = some (.slice K n ck) := Ky0.out.cell 2
      have y1_0 : V7.cell? ⟨w.heap.size + 1, 0, none⟩ = some (.slice P np cp) := Ky1.out.cell 0
      have y1_1 : V7.cell? ⟨w.heap.size + 1, 1, none⟩ = some (.int .i64 sp) := Ky1.out.cell 1
      have y1_2 : V7.cell? ⟨w.heap.size + 1, 2, none⟩ = some (.int .i64 ga) := Ky1.out.cell 2
      have y1_3 : V7.cell? ⟨w.heap.size + 1, 3, none⟩ = some (.int .i64 li) := Ky1.out.cell 3
      go_wp2
      go_ret
      exact ⟨rfl, X.out⟩
set_option maxRecDepth 100000 in
set_option maxHeartbeats 4000000 in
theorem fw_none {L : Int} {J K : Option Addr} {n cj ck : Nat} {js : List Int} {ks : List Rg} {w : World} (hn : js.length = n) (hJ : RowsAt 1 I1 w J js) (hm : ks.length = n) (hK : RowsAt 2 Rg.enc w K ks) {P : Option Addr} {np cp : Nat} {am : List Int} {sp ga li : Int} (hnp : am.length = np) (hP : RowsAt 1 I1 w P am) {t : Int} (hjn : J = none → cj = 0) (hkn : K = none → ck = 0) (hpn : P = none → cp = 0) (h : n ≤ 6 ∧ n ≤ 6) (ln : n ≤ maxLen) (h5 : np ≤ 5) (lp : np ≤ maxLen) (hcz : (checkS L js ks).2 = 0) (hpz : (checkP am sp ga li).2 = 0) (hto : tolE t = 0) (hlt : (optL am n).length ≤ 8) (hfv : fewV L js ks am sp ga li t = none) {bn bj : Int} (hbv : bndV L js ks am sp ga t = (bn, bj, 0)) :
    Calls Tryz.prog 3 #[.agg #[.int .i64 L, .slice J n cj, .slice K n ck], .agg #[.slice P np cp, .int .i64 sp, .int .i64 ga, .int .i64 li], .int .i64 t] w fun e w' => e = .returned (.bool true) ∧ Ext w w' := by
  have lm := ln
  have HFEW := Lib.hid (fun W => show Calls Tryz.prog 5 #[.agg #[.int .i64 L, .slice J n cj, .slice K n ck]] W fun e w' => e = .returned (.bool true) ∧ Ext W w' from by have := few_any (L := L) (J := J) (K := K) (n := n) (m := n) (cj := cj) (ck := ck) W ln lm; rw [show few2 n n = true by simp [few2, h.1]] at this; exact this)
  have HFEA := Lib.hid (fun W => show Calls Tryz.prog 6 #[.agg #[.slice P np cp, .int .i64 sp, .int .i64 ga, .int .i64 li]] W fun e w' => e = .returned (.bool true) ∧ Ext W w' from by have := fewAmounts_any (P := P) (np := np) (cp := cp) (sp := sp) (ga := ga) (li := li) W lp; rw [show few1 np = true by simp [few1, h5]] at this; exact this)
  have hs := checkS_ok hcz
  have hp := checkP_ok hpz
  have hbe : (if (checkS L js ks).2 ≠ 0 then (checkS L js ks).2 else (checkP am sp ga li).2) = 0 := by rw [if_neg (by simpa using hcz), hpz]
  have hbz : bndE L js ks am sp ga li t = 0 := by unfold bndE; rw [hcz, hpz, hto]; rfl
  have hfe : fewE L js ks am sp ga li t = 0 := hbz
  have HTO := Lib.hid (fun W => show Calls Tryz.prog 13 #[.int .i64 t] W fun e w' => e = .returned (.int .i64 0) ∧ Ext W w' from by have := refTolE_any t W; rw [hto] at this; exact this)
  have HLT := Lib.hid (fun W (e : Ext w W) => show Calls Tryz.prog 7 #[.agg #[.int .i64 L, .slice J n cj, .slice K n ck], .agg #[.slice P np cp, .int .i64 sp, .int .i64 ga, .int .i64 li]] W fun e w' => e = .returned (.bool true) ∧ Ext W w' from by
    have := light_any (cj := cj) (ck := ck) (cp := cp) (L := L) (sp := sp) (ga := ga) (li := li) hn (hJ.ext e) hm (hK.ext e) hnp (hP.ext e) hcz hpz
    rw [show decide ((optL am n).length ≤ 8) = true by simp [hlt]] at this
    exact this)
  have HBO := Lib.hid (fun W J1 c1 K1 d1 P2 c2 (r1 : RowsAt 1 I1 W J1 js) (s1 : RowsAt 2 Rg.enc W K1 ks) (r2 : RowsAt 1 I1 W P2 am) => show Calls Tryz.prog 11 #[.agg #[.int .i64 L, .slice J1 n c1, .slice K1 n d1], .agg #[.slice P2 np c2, .int .i64 sp, .int .i64 ga, .int .i64 li], .int .i64 t] W fun e w' => e = .returned (.tuple #[.int .i64 bn, .int .i64 bj, .int .i64 0]) ∧ Ext W w' from by
    have := boundOf_ok (cj := c1) (ck := d1) (cp := c2) hn r1 hm s1 hnp r2 hbz
    rw [hbv] at this; exact this)
  have HRB := Lib.hid (fun W (e : Ext w W) => show Calls Tryz.prog 14 #[.agg #[.int .i64 L, .slice J n cj, .slice K n ck], .agg #[.slice P np cp, .int .i64 sp, .int .i64 ga, .int .i64 li], .int .i64 t] W fun e w' => e = .returned (.tuple #[.int .i64 bn, .int .i64 bj, .bool true]) ∧ Ext W w' from by
    have := refBound_any (cj := cj) (ck := ck) (cp := cp) (li := li) hn (hJ.ext e) hm (hK.ext e) hnp (hP.ext e) hs hp (rangeE_zeros hto t (by simp))
    rw [hbv] at this; exact this)
  have hfk : fewV L js ks am sp ga li t = fewRk n li (pfB ga sp t L js ks) (optL am n) 0 := by unfold fewV; rw [hfe, if_pos rfl, hn]
  have hfc : fewC L js ks am sp ga li t = 12 := by unfold fewC; rw [hfe, if_pos rfl, hfv]; rfl
  have HRF := Lib.hid (fun W (e : Ext w W) => show Calls Tryz.prog 15 #[.agg #[.int .i64 L, .slice J n cj, .slice K n ck], .agg #[.slice P np cp, .int .i64 sp, .int .i64 ga, .int .i64 li], .int .i64 t] W (FiP none W) from by
    have := refFewest_any (cj := cj) (ck := ck) (cp := cp) hn (hJ.ext e) hm (hK.ext e) hnp (hP.ext e) hjn hkn hs hp hto (by omega)
    rw [← hfk, hfv] at this; exact this)
  have HFW := Lib.hid (fun W J1 c1 K1 d1 P2 c2 (r1 : RowsAt 1 I1 W J1 js) (s1 : RowsAt 2 Rg.enc W K1 ks) (r2 : RowsAt 1 I1 W P2 am) (n1 : J1 = none → c1 = 0) => show Calls Tryz.prog 8 #[.agg #[.int .i64 L, .slice J1 n c1, .slice K1 n d1], .agg #[.slice P2 np c2, .int .i64 sp, .int .i64 ga, .int .i64 li], .int .i64 t] W fun e w' => e = .returned (.tuple #[.slice none 0 0, .int .i64 12]) ∧ Ext W w' from by
    have := fewestOf_any (ck := d1) (cp := c2) (L := L) (sp := sp) (ga := ga) (li := li) (t := t) hn r1 hm s1 n1 hnp r2
    rw [hfv, hfc] at this
    refine this.mono ?_
    rintro e w' ⟨A', m', c', rfl, h1, -, hx⟩
    obtain ⟨rfl, rfl, rfl⟩ := h1 rfl
    exact ⟨rfl, hx⟩)
  have HBE := Lib.hid (fun W (e : Ext w W) => show Calls Tryz.prog 12 #[.agg #[.int .i64 L, .slice J n cj, .slice K n ck], .agg #[.slice P np cp, .int .i64 sp, .int .i64 ga, .int .i64 li]] W fun e w' => e = .returned (.int .i64 0) ∧ Ext W w' from by have := bothErr_any (cj := cj) (ck := ck) (cp := cp) (L := L) (sp := sp) (ga := ga) (li := li) hn (hJ.ext e) hm (hK.ext e) hnp (hP.ext e); rw [hbe] at this; exact this)
  have HCP := Lib.hid (fun W (e : Ext w W) => copyShaft_any (L := L) (cj := cj) (ck := ck) hn (hJ.ext e) hm (hK.ext e) hjn hkn (by omega) (by omega))
  have HCQ := Lib.hid (fun W (e : Ext w W) => copyPress_any (sp := sp) (ga := ga) (li := li) hnp (hP.ext e) hpn (by omega))
  clear hn hJ hm hK hnp hP hjn hkn hpn h h5 hcz hpz hto hlt hfv hbv hs hp hbe hbz hfe hfk hfc
  obtain ⟨W0, hW0⟩ : ∃ W0, W0 = (w.alloc (.cells #[.int .i64 L, .slice J n cj, .slice K n ck] 25)).alloc (.cells #[.slice P np cp, .int .i64 sp, .int .i64 ga, .int .i64 li] 27) := ⟨_, rfl⟩
  have Ky0 := Lib.hid (show Blk W0 (w.heap.size) 25 #[.int .i64 L, .slice J n cj, .slice K n ck] by rw [hW0]; exact (Blk.new _ _ _).alloc _)
  have Ky1 := Lib.hid (show Blk W0 (w.heap.size + 1) 27 #[.slice P np cp, .int .i64 sp, .int .i64 ga, .int .i64 li] by rw [hW0]; exact Blk.newAt _ _ _ (by simp))
  have X := Lib.hid (show Ext w W0 by rw [hW0]; exact (Ext.alloc _ _).trans (Ext.alloc _ _))
  have y0_0 : W0.cell? ⟨w.heap.size, 0, none⟩ = some (.int .i64 L) := Ky0.out.cell 0
  have y0_1 : W0.cell? ⟨w.heap.size, 1, none⟩ = some (.slice J n cj) := Ky0.out.cell 1
  have y0_2 : W0.cell? ⟨w.heap.size, 2, none⟩ = some (.slice K n ck) := Ky0.out.cell 2
  have y1_0 : W0.cell? ⟨w.heap.size + 1, 0, none⟩ = some (.slice P np cp) := Ky1.out.cell 0
  have y1_1 : W0.cell? ⟨w.heap.size + 1, 1, none⟩ = some (.int .i64 sp) := Ky1.out.cell 1
  have y1_2 : W0.cell? ⟨w.heap.size + 1, 2, none⟩ = some (.int .i64 ga) := Ky1.out.cell 2
  have y1_3 : W0.cell? ⟨w.heap.size + 1, 3, none⟩ = some (.int .i64 li) := Ky1.out.cell 3
  go_enter Tryz.func3, Tryz.ntmps3
  go_upto_region 1 with (fail)
  rw [← hW0]
  clear hW0
  go_wp2_with (go_at_call 4; refine (awake_any _).mono ?_; rintro e W1 ⟨rfl, hx⟩; replace X := Lib.hid (X.out.trans hx); replace Ky0 := Lib.hid (Ky0.out.ext hx); replace Ky1 := Lib.hid (Ky1.out.ext hx); clear hx y0_0 y0_1 y0_2 y1_0 y1_1 y1_2 y1_3; refine Hid.out ?_)
  refine Lib.hid ?_
  have y0_0 : W1.cell? ⟨w.heap.size, 0, none⟩ = some (.int .i64 L) := Ky0.out.cell 0
  have y0_1 : W1.cell? ⟨w.heap.size, 1, none⟩ = some (.slice J n cj) := Ky0.out.cell 1
  have y0_2 : W1.cell? ⟨w.heap.size, 2, none⟩ = some (.slice K n ck) := Ky0.out.cell 2
  have y1_0 : W1.cell? ⟨w.heap.size + 1, 0, none⟩ = some (.slice P np cp) := Ky1.out.cell 0
  have y1_1 : W1.cell? ⟨w.heap.size + 1, 1, none⟩ = some (.int .i64 sp) := Ky1.out.cell 1
  have y1_2 : W1.cell? ⟨w.heap.size + 1, 2, none⟩ = some (.int .i64 ga) := Ky1.out.cell 2
  have y1_3 : W1.cell? ⟨w.heap.size + 1, 3, none⟩ = some (.int .i64 li) := Ky1.out.cell 3
  go_wp2_with (go_at_call 5; refine (HFEW.out _).mono ?_; rintro e W2 ⟨rfl, hx⟩; replace X := Lib.hid (X.out.trans hx); replace Ky0 := Lib.hid (Ky0.out.ext hx); replace Ky1 := Lib.hid (Ky1.out.ext hx); clear hx y0_0 y0_1 y0_2 y1_0 y1_1 y1_2 y1_3; refine Hid.out ?_)
  refine Lib.hid ?_
  have y0_0 : W2.cell? ⟨w.heap.size, 0, none⟩ = some (.int .i64 L) := Ky0.out.cell 0
  have y0_1 : W2.cell? ⟨w.heap.size, 1, none⟩ = some (.slice J n cj) := Ky0.out.cell 1
  have y0_2 : W2.cell? ⟨w.heap.size, 2, none⟩ = some (.slice K n ck) := Ky0.out.cell 2
  have y1_0 : W2.cell? ⟨w.heap.size + 1, 0, none⟩ = some (.slice P np cp) := Ky1.out.cell 0
  have y1_1 : W2.cell? ⟨w.heap.size + 1, 1, none⟩ = some (.int .i64 sp) := Ky1.out.cell 1
  have y1_2 : W2.cell? ⟨w.heap.size + 1, 2, none⟩ = some (.int .i64 ga) := Ky1.out.cell 2
  have y1_3 : W2.cell? ⟨w.heap.size + 1, 3, none⟩ = some (.int .i64 li) := Ky1.out.cell 3
  go_wp2_with (go_at_call 6; refine (HFEA.out _).mono ?_; rintro e W3 ⟨rfl, hx⟩; replace X := Lib.hid (X.out.trans hx); replace Ky0 := Lib.hid (Ky0.out.ext hx); replace Ky1 := Lib.hid (Ky1.out.ext hx); clear hx y0_0 y0_1 y0_2 y1_0 y1_1 y1_2 y1_3; refine Hid.out ?_)
  refine Lib.hid ?_
  have y0_0 : W3.cell? ⟨w.heap.size, 0, none⟩ = some (.int .i64 L) := Ky0.out.cell 0
  have y0_1 : W3.cell? ⟨w.heap.size, 1, none⟩ = some (.slice J n cj) := Ky0.out.cell 1
  have y0_2 : W3.cell? ⟨w.heap.size, 2, none⟩ = some (.slice K n ck) := Ky0.out.cell 2
  have y1_0 : W3.cell? ⟨w.heap.size + 1, 0, none⟩ = some (.slice P np cp) := Ky1.out.cell 0
  have y1_1 : W3.cell? ⟨w.heap.size + 1, 1, none⟩ = some (.int .i64 sp) := Ky1.out.cell 1
  have y1_2 : W3.cell? ⟨w.heap.size + 1, 2, none⟩ = some (.int .i64 ga) := Ky1.out.cell 2
  have y1_3 : W3.cell? ⟨w.heap.size + 1, 3, none⟩ = some (.int .i64 li) := Ky1.out.cell 3
  go_wp2_with (go_at_call 7; refine (HLT.out _ X.out).mono ?_; rintro e W4 ⟨rfl, hx⟩; replace X := Lib.hid (X.out.trans hx); replace Ky0 := Lib.hid (Ky0.out.ext hx); replace Ky1 := Lib.hid (Ky1.out.ext hx); clear hx y0_0 y0_1 y0_2 y1_0 y1_1 y1_2 y1_3; refine Hid.out ?_)
  refine Lib.hid ?_
  have y0_0 : W4.cell? ⟨w.heap.size, 0, none⟩ = some (.int .i64 L) := Ky0.out.cell 0
  have y0_1 : W4.cell? ⟨w.heap.size, 1, none⟩ = some (.slice J n cj) := Ky0.out.cell 1
  have y0_2 : W4.cell? ⟨w.heap.size, 2, none⟩ = some (.slice K n ck) := Ky0.out.cell 2
  have y1_0 : W4.cell? ⟨w.heap.size + 1, 0, none⟩ = some (.slice P np cp) := Ky1.out.cell 0
  have y1_1 : W4.cell? ⟨w.heap.size + 1, 1, none⟩ = some (.int .i64 sp) := Ky1.out.cell 1
  have y1_2 : W4.cell? ⟨w.heap.size + 1, 2, none⟩ = some (.int .i64 ga) := Ky1.out.cell 2
  have y1_3 : W4.cell? ⟨w.heap.size + 1, 3, none⟩ = some (.int .i64 li) := Ky1.out.cell 3
  clear HFEW HFEA HLT
  go_upto_region 5 with (fail)
  refine wp_region_each [some 35, some 36, some 37, some 38, some 39, some 40, some 34, some 41, some 42, some 7, some 8] [[3], [35], [4], [37], [2], [36, 38, 39], [40], [34], [34], [41], [42]]
    [Is (.agg #[.int .i64 L, .slice J n cj, .slice K n ck]), CopS L js ks n n, Is (.agg #[.slice P np cp, .int .i64 sp, .int .i64 ga, .int .i64 li]), CopP am sp ga li np, Is (.int .i64 (t)), Is (.tuple #[.slice none 0 0, .int .i64 12]), Is (.tuple #[.slice none 0 0, .int .i64 12]), Is (.slice none 0 0), Is (.int .i64 (12)), Is (.slice none 0 0), Is (.int .i64 (12))]
    (by kernel_rfl) (by kernel_rfl) (by kernel_rfl) (by kernel_rfl) (by kernel_rfl) Ext (fun W => Ext W4 W)
    (fun W _ => Ext.refl W) (fun W W' h k => h.trans k) ?_ (Ext.drew _) ?_ ?_
  · repeat (refine ⟨fun _ _ _ _ k h => (by first | exact h | exact (by first | exact IntsAt.ext h k | exact CopS.ext h k | exact CopP.ext h k | exact CopL.ext h k | exact FewT.ext h k)), ?_⟩)
    exact trivial
  · refine ⟨?_, ?_, ?_, ?_, ?_, ?_, ?_, ?_, ?_, ?_, ?_, trivial⟩
    all_goals intro ρ W ⟨kc, kg, kf⟩ hF hs
    · obtain ⟨h0, -⟩ := hs
      replace h0 : ρ (.tmp 3) = .pointer (some ⟨w.heap.size, 0, none⟩) := h0
      have hc0 : W.cell? ⟨w.heap.size, 0, none⟩ = some (.int .i64 L) := hF.cell (by assumption)
      have hc1 : W.cell? ⟨w.heap.size, 1, none⟩ = some (.slice J n cj) := hF.cell (by assumption)
      have hc2 : W.cell? ⟨w.heap.size, 2, none⟩ = some (.slice K n ck) := hF.cell (by assumption)
      go_simp
      exact ⟨Ext.refl _, rfl⟩
    · obtain ⟨h0, -⟩ := hs
      replace h0 : ρ (.tmp 35) = .agg #[.int .i64 L, .slice J n cj, .slice K n ck] := h0
      go_simp
      refine (HCP.out _ (X.out.trans hF)).mono ?_; rintro e w' ⟨v, rfl, hc, hx⟩; exact ⟨_, rfl, hx, CopS.of hc⟩
    · obtain ⟨h0, -⟩ := hs
      replace h0 : ρ (.tmp 4) = .pointer (some ⟨w.heap.size + 1, 0, none⟩) := h0
      have hc0 : W.cell? ⟨w.heap.size + 1, 0, none⟩ = some (.slice P np cp) := hF.cell (by assumption)
      have hc1 : W.cell? ⟨w.heap.size + 1, 1, none⟩ = some (.int .i64 sp) := hF.cell (by assumption)
      have hc2 : W.cell? ⟨w.heap.size + 1, 2, none⟩ = some (.int .i64 ga) := hF.cell (by assumption)
      have hc3 : W.cell? ⟨w.heap.size + 1, 3, none⟩ = some (.int .i64 li) := hF.cell (by assumption)
      go_simp
      exact ⟨Ext.refl _, rfl⟩
    · obtain ⟨h0, -⟩ := hs
      replace h0 : ρ (.tmp 37) = .agg #[.slice P np cp, .int .i64 sp, .int .i64 ga, .int .i64 li] := h0
      go_simp
      refine (HCQ.out _ (X.out.trans hF)).mono ?_; rintro e w' ⟨v, rfl, hc, hx⟩; exact ⟨_, rfl, hx, CopP.of hc⟩
    · obtain ⟨h0, -⟩ := hs
      replace h0 : ρ (.tmp 2) = .int .i64 (t) := h0
      go_simp
      exact ⟨Ext.refl _, rfl⟩
    · obtain ⟨h0, h1, h2, -⟩ := hs
      replace h0 : (CopS L js ks n n) (ρ (.tmp 36)) W := h0
      replace h1 : (CopP am sp ga li np) (ρ (.tmp 38)) W := h1
      replace h2 : ρ (.tmp 39) = .int .i64 (t) := h2
      obtain ⟨J1, c1, K1, d1, e1, r1, s1, n1, m1⟩ := h0
      replace e1 : ρ (.tmp 36) = .agg #[.int .i64 L, .slice J1 n c1, .slice K1 n d1] := e1
      obtain ⟨P2, c2, e2, r2, n2⟩ := h1
      replace e2 : ρ (.tmp 38) = .agg #[.slice P2 np c2, .int .i64 sp, .int .i64 ga, .int .i64 li] := e2
      go_simp
      refine (HFW.out _ J1 c1 K1 d1 P2 c2 r1 s1 r2 n1).mono ?_; rintro e w' ⟨rfl, hx⟩; exact ⟨_, rfl, hx, rfl⟩
    · obtain ⟨h0, -⟩ := hs
      replace h0 : ρ (.tmp 40) = .tuple #[.slice none 0 0, .int .i64 12] := h0
      go_simp
      exact ⟨Ext.refl _, rfl⟩
    · obtain ⟨h0, -⟩ := hs
      replace h0 : ρ (.tmp 34) = .tuple #[.slice none 0 0, .int .i64 12] := h0
      go_simp
      exact ⟨Ext.refl _, rfl⟩
    · obtain ⟨h0, -⟩ := hs
      replace h0 : ρ (.tmp 34) = .tuple #[.slice none 0 0, .int .i64 12] := h0
      go_simp
      exact ⟨Ext.refl _, rfl⟩
    · obtain ⟨h0, -⟩ := hs
      replace h0 : ρ (.tmp 41) = .slice none 0 0 := h0
      go_simp
      exact ⟨Ext.refl _, rfl⟩
    · obtain ⟨h0, -⟩ := hs
      replace h0 : ρ (.tmp 42) = .int .i64 (12) := h0
      go_simp
      exact ⟨Ext.refl _, rfl⟩
  · intro fv V1x hF hs
    obtain ⟨-, -, -, -, -, -, -, -, -, h7, h8, -⟩ := hs
    replace h7 : fv 7 = .slice none 0 0 := h7
    replace h8 : fv 8 = .int .i64 (12) := h8
    simp only [fin, List.filterMap]
    go_simp
    have hx := hF
    replace X := Lib.hid (X.out.trans hx)
    replace Ky0 := Lib.hid (Ky0.out.ext hx)
    replace Ky1 := Lib.hid (Ky1.out.ext hx)
    clear hx y0_0 y0_1 y0_2 y1_0 y1_1 y1_2 y1_3
    clear hF
    obtain ⟨V1, hV⟩ : ∃ V, V = V1x := ⟨_, rfl⟩
    rw [← hV] at X Ky0 Ky1  ⊢
    clear hV
    have y0_0 : V1.cell? ⟨w.heap.size, 0, none⟩ = some (.int .i64 L) := Ky0.out.cell 0
    have y0_1 : V1.cell? ⟨w.heap.size, 1, none⟩ = some (.slice J n cj) := Ky0.out.cell 1
    have y0_2 : V1.cell? ⟨w.heap.size, 2, none⟩ = some (.slice K n ck) := Ky0.out.cell 2
    have y1_0 : V1.cell? ⟨w.heap.size + 1, 0, none⟩ = some (.slice P np cp) := Ky1.out.cell 0
    have y1_1 : V1.cell? ⟨w.heap.size + 1, 1, none⟩ = some (.int .i64 sp) := Ky1.out.cell 1
    have y1_2 : V1.cell? ⟨w.heap.size + 1, 2, none⟩ = some (.int .i64 ga) := Ky1.out.cell 2
    have y1_3 : V1.cell? ⟨w.heap.size + 1, 3, none⟩ = some (.int .i64 li) := Ky1.out.cell 3
    go_upto_region 6 with (fail)
    refine wp_region_each [some 44, some 45, some 46, some 47, some 48, some 49, some 43, some 50, some 51, some 52, some 9, some 10, some 11] [[3], [44], [4], [46], [2], [45, 47, 48], [49], [43], [43], [43], [50], [51], [52]]
      [Is (.agg #[.int .i64 L, .slice J n cj, .slice K n ck]), CopS L js ks n n, Is (.agg #[.slice P np cp, .int .i64 sp, .int .i64 ga, .int .i64 li]), CopP am sp ga li np, Is (.int .i64 (t)), Is (.tuple #[.int .i64 bn, .int .i64 bj, .int .i64 0]), Is (.tuple #[.int .i64 bn, .int .i64 bj, .int .i64 0]), Is (.int .i64 (bn)), Is (.int .i64 (bj)), Is (.int .i64 (0)), Is (.int .i64 (bn)), Is (.int .i64 (bj)), Is (.int .i64 (0))]
      (by kernel_rfl) (by kernel_rfl) (by kernel_rfl) (by kernel_rfl) (by kernel_rfl) Ext (fun W => Ext V1 W)
      (fun W _ => Ext.refl W) (fun W W' h k => h.trans k) ?_ (Ext.drew _) ?_ ?_
    · repeat (refine ⟨fun _ _ _ _ k h => (by first | exact h | exact (by first | exact IntsAt.ext h k | exact CopS.ext h k | exact CopP.ext h k | exact CopL.ext h k | exact FewT.ext h k)), ?_⟩)
      exact trivial
    · refine ⟨?_, ?_, ?_, ?_, ?_, ?_, ?_, ?_, ?_, ?_, ?_, ?_, ?_, trivial⟩
      all_goals intro ρ W ⟨kc, kg, kf⟩ hF hs
      · obtain ⟨h0, -⟩ := hs
        replace h0 : ρ (.tmp 3) = .pointer (some ⟨w.heap.size, 0, none⟩) := h0
        have hc0 : W.cell? ⟨w.heap.size, 0, none⟩ = some (.int .i64 L) := hF.cell (by assumption)
        have hc1 : W.cell? ⟨w.heap.size, 1, none⟩ = some (.slice J n cj) := hF.cell (by assumption)
        have hc2 : W.cell? ⟨w.heap.size, 2, none⟩ = some (.slice K n ck) := hF.cell (by assumption)
        go_simp
        exact ⟨Ext.refl _, rfl⟩
      · obtain ⟨h0, -⟩ := hs
        replace h0 : ρ (.tmp 44) = .agg #[.int .i64 L, .slice J n cj, .slice K n ck] := h0
        go_simp
        refine (HCP.out _ (X.out.trans hF)).mono ?_; rintro e w' ⟨v, rfl, hc, hx⟩; exact ⟨_, rfl, hx, CopS.of hc⟩
      · obtain ⟨h0, -⟩ := hs
        replace h0 : ρ (.tmp 4) = .pointer (some ⟨w.heap.size + 1, 0, none⟩) := h0
        have hc0 : W.cell? ⟨w.heap.size + 1, 0, none⟩ = some (.slice P np cp) := hF.cell (by assumption)
        have hc1 : W.cell? ⟨w.heap.size + 1, 1, none⟩ = some (.int .i64 sp) := hF.cell (by assumption)
        have hc2 : W.cell? ⟨w.heap.size + 1, 2, none⟩ = some (.int .i64 ga) := hF.cell (by assumption)
        have hc3 : W.cell? ⟨w.heap.size + 1, 3, none⟩ = some (.int .i64 li) := hF.cell (by assumption)
        go_simp
        exact ⟨Ext.refl _, rfl⟩
      · obtain ⟨h0, -⟩ := hs
        replace h0 : ρ (.tmp 46) = .agg #[.slice P np cp, .int .i64 sp, .int .i64 ga, .int .i64 li] := h0
        go_simp
        refine (HCQ.out _ (X.out.trans hF)).mono ?_; rintro e w' ⟨v, rfl, hc, hx⟩; exact ⟨_, rfl, hx, CopP.of hc⟩
      · obtain ⟨h0, -⟩ := hs
        replace h0 : ρ (.tmp 2) = .int .i64 (t) := h0
        go_simp
        exact ⟨Ext.refl _, rfl⟩
      · obtain ⟨h0, h1, h2, -⟩ := hs
        replace h0 : (CopS L js ks n n) (ρ (.tmp 45)) W := h0
        replace h1 : (CopP am sp ga li np) (ρ (.tmp 47)) W := h1
        replace h2 : ρ (.tmp 48) = .int .i64 (t) := h2
        obtain ⟨J1, c1, K1, d1, e1, r1, s1, n1, m1⟩ := h0
        replace e1 : ρ (.tmp 45) = .agg #[.int .i64 L, .slice J1 n c1, .slice K1 n d1] := e1
        obtain ⟨P2, c2, e2, r2, n2⟩ := h1
        replace e2 : ρ (.tmp 47) = .agg #[.slice P2 np c2, .int .i64 sp, .int .i64 ga, .int .i64 li] := e2
        go_simp
        refine (HBO.out _ J1 c1 K1 d1 P2 c2 r1 s1 r2).mono ?_; rintro e w' ⟨rfl, hx⟩; exact ⟨_, rfl, hx, rfl⟩
      · obtain ⟨h0, -⟩ := hs
        replace h0 : ρ (.tmp 49) = .tuple #[.int .i64 bn, .int .i64 bj, .int .i64 0] := h0
        go_simp
        exact ⟨Ext.refl _, rfl⟩
      · obtain ⟨h0, -⟩ := hs
        replace h0 : ρ (.tmp 43) = .tuple #[.int .i64 bn, .int .i64 bj, .int .i64 0] := h0
        go_simp
        exact ⟨Ext.refl _, rfl⟩
      · obtain ⟨h0, -⟩ := hs
        replace h0 : ρ (.tmp 43) = .tuple #[.int .i64 bn, .int .i64 bj, .int .i64 0] := h0
        go_simp
        exact ⟨Ext.refl _, rfl⟩
      · obtain ⟨h0, -⟩ := hs
        replace h0 : ρ (.tmp 43) = .tuple #[.int .i64 bn, .int .i64 bj, .int .i64 0] := h0
        go_simp
        exact ⟨Ext.refl _, rfl⟩
      · obtain ⟨h0, -⟩ := hs
        replace h0 : ρ (.tmp 50) = .int .i64 (bn) := h0
        go_simp
        exact ⟨Ext.refl _, rfl⟩
      · obtain ⟨h0, -⟩ := hs
        replace h0 : ρ (.tmp 51) = .int .i64 (bj) := h0
        go_simp
        exact ⟨Ext.refl _, rfl⟩
      · obtain ⟨h0, -⟩ := hs
        replace h0 : ρ (.tmp 52) = .int .i64 (0) := h0
        go_simp
        exact ⟨Ext.refl _, rfl⟩
    · intro fv V2x hF hs
      obtain ⟨-, -, -, -, -, -, -, -, -, -, h9, h10, h11, -⟩ := hs
      replace h9 : fv 9 = .int .i64 (bn) := h9
      replace h10 : fv 10 = .int .i64 (bj) := h10
      replace h11 : fv 11 = .int .i64 (0) := h11
      simp only [fin, List.filterMap]
      go_simp
      have hx := hF
      replace X := Lib.hid (X.out.trans hx)
      replace Ky0 := Lib.hid (Ky0.out.ext hx)
      replace Ky1 := Lib.hid (Ky1.out.ext hx)
      clear hx y0_0 y0_1 y0_2 y1_0 y1_1 y1_2 y1_3
      clear hF
      obtain ⟨V2, hV⟩ : ∃ V, V = V2x := ⟨_, rfl⟩
      rw [← hV] at X Ky0 Ky1  ⊢
      clear hV
      have y0_0 : V2.cell? ⟨w.heap.size, 0, none⟩ = some (.int .i64 L) := Ky0.out.cell 0
      have y0_1 : V2.cell? ⟨w.heap.size, 1, none⟩ = some (.slice J n cj) := Ky0.out.cell 1
      have y0_2 : V2.cell? ⟨w.heap.size, 2, none⟩ = some (.slice K n ck) := Ky0.out.cell 2
      have y1_0 : V2.cell? ⟨w.heap.size + 1, 0, none⟩ = some (.slice P np cp) := Ky1.out.cell 0
      have y1_1 : V2.cell? ⟨w.heap.size + 1, 1, none⟩ = some (.int .i64 sp) := Ky1.out.cell 1
      have y1_2 : V2.cell? ⟨w.heap.size + 1, 2, none⟩ = some (.int .i64 ga) := Ky1.out.cell 2
      have y1_3 : V2.cell? ⟨w.heap.size + 1, 3, none⟩ = some (.int .i64 li) := Ky1.out.cell 3
      go_wp2_with (go_at_call 12; refine (HBE.out _ X.out).mono ?_; rintro e V3 ⟨rfl, hx⟩; replace X := Lib.hid (X.out.trans hx); replace Ky0 := Lib.hid (Ky0.out.ext hx); replace Ky1 := Lib.hid (Ky1.out.ext hx); clear hx y0_0 y0_1 y0_2 y1_0 y1_1 y1_2 y1_3; refine Hid.out ?_)
      refine Lib.hid ?_
      have y0_0 : V3.cell? ⟨w.heap.size, 0, none⟩ = some (.int .i64 L) := Ky0.out.cell 0
      have y0_1 : V3.cell? ⟨w.heap.size, 1, none⟩ = some (.slice J n cj) := Ky0.out.cell 1
      have y0_2 : V3.cell? ⟨w.heap.size, 2, none⟩ = some (.slice K n ck) := Ky0.out.cell 2
      have y1_0 : V3.cell? ⟨w.heap.size + 1, 0, none⟩ = some (.slice P np cp) := Ky1.out.cell 0
      have y1_1 : V3.cell? ⟨w.heap.size + 1, 1, none⟩ = some (.int .i64 sp) := Ky1.out.cell 1
      have y1_2 : V3.cell? ⟨w.heap.size + 1, 2, none⟩ = some (.int .i64 ga) := Ky1.out.cell 2
      have y1_3 : V3.cell? ⟨w.heap.size + 1, 3, none⟩ = some (.int .i64 li) := Ky1.out.cell 3
      go_wp2_with (go_at_call 13; refine (HTO.out _).mono ?_; rintro e V4 ⟨rfl, hx⟩; replace X := Lib.hid (X.out.trans hx); replace Ky0 := Lib.hid (Ky0.out.ext hx); replace Ky1 := Lib.hid (Ky1.out.ext hx); clear hx y0_0 y0_1 y0_2 y1_0 y1_1 y1_2 y1_3; refine Hid.out ?_)
      refine Lib.hid ?_
      have y0_0 : V4.cell? ⟨w.heap.size, 0, none⟩ = some (.int .i64 L) := Ky0.out.cell 0
      have y0_1 : V4.cell? ⟨w.heap.size, 1, none⟩ = some (.slice J n cj) := Ky0.out.cell 1
      have y0_2 : V4.cell? ⟨w.heap.size, 2, none⟩ = some (.slice K n ck) := Ky0.out.cell 2
      have y1_0 : V4.cell? ⟨w.heap.size + 1, 0, none⟩ = some (.slice P np cp) := Ky1.out.cell 0
      have y1_1 : V4.cell? ⟨w.heap.size + 1, 1, none⟩ = some (.int .i64 sp) := Ky1.out.cell 1
      have y1_2 : V4.cell? ⟨w.heap.size + 1, 2, none⟩ = some (.int .i64 ga) := Ky1.out.cell 2
      have y1_3 : V4.cell? ⟨w.heap.size + 1, 3, none⟩ = some (.int .i64 li) := Ky1.out.cell 3
      go_wp2_with (go_at_call 14; refine (HRB.out _ X.out).mono ?_; rintro e V5 ⟨rfl, hx⟩; replace X := Lib.hid (X.out.trans hx); replace Ky0 := Lib.hid (Ky0.out.ext hx); replace Ky1 := Lib.hid (Ky1.out.ext hx); clear hx y0_0 y0_1 y0_2 y1_0 y1_1 y1_2 y1_3; refine Hid.out ?_)
      refine Lib.hid ?_
      have y0_0 : V5.cell? ⟨w.heap.size, 0, none⟩ = some (.int .i64 L) := Ky0.out.cell 0
      have y0_1 : V5.cell? ⟨w.heap.size, 1, none⟩ = some (.slice J n cj) := Ky0.out.cell 1
      have y0_2 : V5.cell? ⟨w.heap.size, 2, none⟩ = some (.slice K n ck) := Ky0.out.cell 2
      have y1_0 : V5.cell? ⟨w.heap.size + 1, 0, none⟩ = some (.slice P np cp) := Ky1.out.cell 0
      have y1_1 : V5.cell? ⟨w.heap.size + 1, 1, none⟩ = some (.int .i64 sp) := Ky1.out.cell 1
      have y1_2 : V5.cell? ⟨w.heap.size + 1, 2, none⟩ = some (.int .i64 ga) := Ky1.out.cell 2
      have y1_3 : V5.cell? ⟨w.heap.size + 1, 3, none⟩ = some (.int .i64 li) := Ky1.out.cell 3
      go_wp2_with (go_at_call 15; refine (HRF.out _ X.out).mono ?_; rintro e V6 ⟨A6, m6, c6, rfl, hr6, hx⟩; replace X := Lib.hid (X.out.trans hx); replace Ky0 := Lib.hid (Ky0.out.ext hx); replace Ky1 := Lib.hid (Ky1.out.ext hx); clear hx y0_0 y0_1 y0_2 y1_0 y1_1 y1_2 y1_3; clear hr6; refine Hid.out ?_)
      refine Lib.hid ?_
      have y0_0 : V6.cell? ⟨w.heap.size, 0, none⟩ = some (.int .i64 L) := Ky0.out.cell 0
      have y0_1 : V6.cell? ⟨w.heap.size, 1, none⟩ = some (.slice J n cj) := Ky0.out.cell 1
      have y0_2 : V6.cell? ⟨w.heap.size, 2, none⟩ = some (.slice K n ck) := Ky0.out.cell 2
      have y1_0 : V6.cell? ⟨w.heap.size + 1, 0, none⟩ = some (.slice P np cp) := Ky1.out.cell 0
      have y1_1 : V6.cell? ⟨w.heap.size + 1, 1, none⟩ = some (.int .i64 sp) := Ky1.out.cell 1
      have y1_2 : V6.cell? ⟨w.heap.size + 1, 2, none⟩ = some (.int .i64 ga) := Ky1.out.cell 2
      have y1_3 : V6.cell? ⟨w.heap.size + 1, 3, none⟩ = some (.int .i64 li) := Ky1.out.cell 3
      go_wp2
      go_ret
      exact ⟨rfl, X.out⟩
set_option maxRecDepth 100000 in
set_option maxHeartbeats 4000000 in
theorem fw_none_none {L : Int} {J K : Option Addr} {n cj ck : Nat} {js : List Int} {ks : List Rg} {w : World} (hn : js.length = n) (hJ : RowsAt 1 I1 w J js) (hm : ks.length = n) (hK : RowsAt 2 Rg.enc w K ks) {P : Option Addr} {np cp : Nat} {am : List Int} {sp ga li : Int} (hnp : am.length = np) (hP : RowsAt 1 I1 w P am) {t : Int} (hjn : J = none → cj = 0) (hkn : K = none → ck = 0) (hpn : P = none → cp = 0) (h : n ≤ 6 ∧ n ≤ 6) (ln : n ≤ maxLen) (h5 : np ≤ 5) (lp : np ≤ maxLen) (hcz : (checkS L js ks).2 = 0) (hpz : (checkP am sp ga li).2 = 0) (hto : tolE t = 0) (hlt : (optL am n).length ≤ 8) (hfv : fewV L js ks am sp ga li t = none) (hbv : bndV L js ks am sp ga t = (0, 0, 12)) :
    Calls Tryz.prog 3 #[.agg #[.int .i64 L, .slice J n cj, .slice K n ck], .agg #[.slice P np cp, .int .i64 sp, .int .i64 ga, .int .i64 li], .int .i64 t] w fun e w' => e = .returned (.bool true) ∧ Ext w w' := by
  have lm := ln
  have HFEW := Lib.hid (fun W => show Calls Tryz.prog 5 #[.agg #[.int .i64 L, .slice J n cj, .slice K n ck]] W fun e w' => e = .returned (.bool true) ∧ Ext W w' from by have := few_any (L := L) (J := J) (K := K) (n := n) (m := n) (cj := cj) (ck := ck) W ln lm; rw [show few2 n n = true by simp [few2, h.1]] at this; exact this)
  have HFEA := Lib.hid (fun W => show Calls Tryz.prog 6 #[.agg #[.slice P np cp, .int .i64 sp, .int .i64 ga, .int .i64 li]] W fun e w' => e = .returned (.bool true) ∧ Ext W w' from by have := fewAmounts_any (P := P) (np := np) (cp := cp) (sp := sp) (ga := ga) (li := li) W lp; rw [show few1 np = true by simp [few1, h5]] at this; exact this)
  have hs := checkS_ok hcz
  have hp := checkP_ok hpz
  have hbe : (if (checkS L js ks).2 ≠ 0 then (checkS L js ks).2 else (checkP am sp ga li).2) = 0 := by rw [if_neg (by simpa using hcz), hpz]
  have hbz : bndE L js ks am sp ga li t = 0 := by unfold bndE; rw [hcz, hpz, hto]; rfl
  have hfe : fewE L js ks am sp ga li t = 0 := hbz
  have HTO := Lib.hid (fun W => show Calls Tryz.prog 13 #[.int .i64 t] W fun e w' => e = .returned (.int .i64 0) ∧ Ext W w' from by have := refTolE_any t W; rw [hto] at this; exact this)
  have HLT := Lib.hid (fun W (e : Ext w W) => show Calls Tryz.prog 7 #[.agg #[.int .i64 L, .slice J n cj, .slice K n ck], .agg #[.slice P np cp, .int .i64 sp, .int .i64 ga, .int .i64 li]] W fun e w' => e = .returned (.bool true) ∧ Ext W w' from by
    have := light_any (cj := cj) (ck := ck) (cp := cp) (L := L) (sp := sp) (ga := ga) (li := li) hn (hJ.ext e) hm (hK.ext e) hnp (hP.ext e) hcz hpz
    rw [show decide ((optL am n).length ≤ 8) = true by simp [hlt]] at this
    exact this)
  have HBO := Lib.hid (fun W J1 c1 K1 d1 P2 c2 (r1 : RowsAt 1 I1 W J1 js) (s1 : RowsAt 2 Rg.enc W K1 ks) (r2 : RowsAt 1 I1 W P2 am) => show Calls Tryz.prog 11 #[.agg #[.int .i64 L, .slice J1 n c1, .slice K1 n d1], .agg #[.slice P2 np c2, .int .i64 sp, .int .i64 ga, .int .i64 li], .int .i64 t] W fun e w' => e = .returned (.tuple #[.int .i64 0, .int .i64 0, .int .i64 12]) ∧ Ext W w' from by
    have := boundOf_ok (cj := c1) (ck := d1) (cp := c2) hn r1 hm s1 hnp r2 hbz
    rw [hbv] at this; exact this)
  have HRB := Lib.hid (fun W (e : Ext w W) => show Calls Tryz.prog 14 #[.agg #[.int .i64 L, .slice J n cj, .slice K n ck], .agg #[.slice P np cp, .int .i64 sp, .int .i64 ga, .int .i64 li], .int .i64 t] W fun e w' => e = .returned (.tuple #[.int .i64 0, .int .i64 0, .bool false]) ∧ Ext W w' from by
    have := refBound_any (cj := cj) (ck := ck) (cp := cp) (li := li) hn (hJ.ext e) hm (hK.ext e) hnp (hP.ext e) hs hp (rangeE_zeros hto t (by simp))
    rw [hbv] at this; exact this)
  have hfk : fewV L js ks am sp ga li t = fewRk n li (pfB ga sp t L js ks) (optL am n) 0 := by unfold fewV; rw [hfe, if_pos rfl, hn]
  have hfc : fewC L js ks am sp ga li t = 12 := by unfold fewC; rw [hfe, if_pos rfl, hfv]; rfl
  have HRF := Lib.hid (fun W (e : Ext w W) => show Calls Tryz.prog 15 #[.agg #[.int .i64 L, .slice J n cj, .slice K n ck], .agg #[.slice P np cp, .int .i64 sp, .int .i64 ga, .int .i64 li], .int .i64 t] W (FiP none W) from by
    have := refFewest_any (cj := cj) (ck := ck) (cp := cp) hn (hJ.ext e) hm (hK.ext e) hnp (hP.ext e) hjn hkn hs hp hto (by omega)
    rw [← hfk, hfv] at this; exact this)
  have HFW := Lib.hid (fun W J1 c1 K1 d1 P2 c2 (r1 : RowsAt 1 I1 W J1 js) (s1 : RowsAt 2 Rg.enc W K1 ks) (r2 : RowsAt 1 I1 W P2 am) (n1 : J1 = none → c1 = 0) => show Calls Tryz.prog 8 #[.agg #[.int .i64 L, .slice J1 n c1, .slice K1 n d1], .agg #[.slice P2 np c2, .int .i64 sp, .int .i64 ga, .int .i64 li], .int .i64 t] W fun e w' => e = .returned (.tuple #[.slice none 0 0, .int .i64 12]) ∧ Ext W w' from by
    have := fewestOf_any (ck := d1) (cp := c2) (L := L) (sp := sp) (ga := ga) (li := li) (t := t) hn r1 hm s1 n1 hnp r2
    rw [hfv, hfc] at this
    refine this.mono ?_
    rintro e w' ⟨A', m', c', rfl, h1, -, hx⟩
    obtain ⟨rfl, rfl, rfl⟩ := h1 rfl
    exact ⟨rfl, hx⟩)
  have HBE := Lib.hid (fun W (e : Ext w W) => show Calls Tryz.prog 12 #[.agg #[.int .i64 L, .slice J n cj, .slice K n ck], .agg #[.slice P np cp, .int .i64 sp, .int .i64 ga, .int .i64 li]] W fun e w' => e = .returned (.int .i64 0) ∧ Ext W w' from by have := bothErr_any (cj := cj) (ck := ck) (cp := cp) (L := L) (sp := sp) (ga := ga) (li := li) hn (hJ.ext e) hm (hK.ext e) hnp (hP.ext e); rw [hbe] at this; exact this)
  have HCP := Lib.hid (fun W (e : Ext w W) => copyShaft_any (L := L) (cj := cj) (ck := ck) hn (hJ.ext e) hm (hK.ext e) hjn hkn (by omega) (by omega))
  have HCQ := Lib.hid (fun W (e : Ext w W) => copyPress_any (sp := sp) (ga := ga) (li := li) hnp (hP.ext e) hpn (by omega))
  clear hn hJ hm hK hnp hP hjn hkn hpn h h5 hcz hpz hto hlt hfv hbv hs hp hbe hbz hfe hfk hfc
  obtain ⟨W0, hW0⟩ : ∃ W0, W0 = (w.alloc (.cells #[.int .i64 L, .slice J n cj, .slice K n ck] 25)).alloc (.cells #[.slice P np cp, .int .i64 sp, .int .i64 ga, .int .i64 li] 27) := ⟨_, rfl⟩
  have Ky0 := Lib.hid (show Blk W0 (w.heap.size) 25 #[.int .i64 L, .slice J n cj, .slice K n ck] by rw [hW0]; exact (Blk.new _ _ _).alloc _)
  have Ky1 := Lib.hid (show Blk W0 (w.heap.size + 1) 27 #[.slice P np cp, .int .i64 sp, .int .i64 ga, .int .i64 li] by rw [hW0]; exact Blk.newAt _ _ _ (by simp))
  have X := Lib.hid (show Ext w W0 by rw [hW0]; exact (Ext.alloc _ _).trans (Ext.alloc _ _))
  have y0_0 : W0.cell? ⟨w.heap.size, 0, none⟩ = some (.int .i64 L) := Ky0.out.cell 0
  have y0_1 : W0.cell? ⟨w.heap.size, 1, none⟩ = some (.slice J n cj) := Ky0.out.cell 1
  have y0_2 : W0.cell? ⟨w.heap.size, 2, none⟩ = some (.slice K n ck) := Ky0.out.cell 2
  have y1_0 : W0.cell? ⟨w.heap.size + 1, 0, none⟩ = some (.slice P np cp) := Ky1.out.cell 0
  have y1_1 : W0.cell? ⟨w.heap.size + 1, 1, none⟩ = some (.int .i64 sp) := Ky1.out.cell 1
  have y1_2 : W0.cell? ⟨w.heap.size + 1, 2, none⟩ = some (.int .i64 ga) := Ky1.out.cell 2
  have y1_3 : W0.cell? ⟨w.heap.size + 1, 3, none⟩ = some (.int .i64 li) := Ky1.out.cell 3
  go_enter Tryz.func3, Tryz.ntmps3
  go_upto_region 1 with (fail)
  rw [← hW0]
  clear hW0
  go_wp2_with (go_at_call 4; refine (awake_any _).mono ?_; rintro e W1 ⟨rfl, hx⟩; replace X := Lib.hid (X.out.trans hx); replace Ky0 := Lib.hid (Ky0.out.ext hx); replace Ky1 := Lib.hid (Ky1.out.ext hx); clear hx y0_0 y0_1 y0_2 y1_0 y1_1 y1_2 y1_3; refine Hid.out ?_)
  refine Lib.hid ?_
  have y0_0 : W1.cell? ⟨w.heap.size, 0, none⟩ = some (.int .i64 L) := Ky0.out.cell 0
  have y0_1 : W1.cell? ⟨w.heap.size, 1, none⟩ = some (.slice J n cj) := Ky0.out.cell 1
  have y0_2 : W1.cell? ⟨w.heap.size, 2, none⟩ = some (.slice K n ck) := Ky0.out.cell 2
  have y1_0 : W1.cell? ⟨w.heap.size + 1, 0, none⟩ = some (.slice P np cp) := Ky1.out.cell 0
  have y1_1 : W1.cell? ⟨w.heap.size + 1, 1, none⟩ = some (.int .i64 sp) := Ky1.out.cell 1
  have y1_2 : W1.cell? ⟨w.heap.size + 1, 2, none⟩ = some (.int .i64 ga) := Ky1.out.cell 2
  have y1_3 : W1.cell? ⟨w.heap.size + 1, 3, none⟩ = some (.int .i64 li) := Ky1.out.cell 3
  go_wp2_with (go_at_call 5; refine (HFEW.out _).mono ?_; rintro e W2 ⟨rfl, hx⟩; replace X := Lib.hid (X.out.trans hx); replace Ky0 := Lib.hid (Ky0.out.ext hx); replace Ky1 := Lib.hid (Ky1.out.ext hx); clear hx y0_0 y0_1 y0_2 y1_0 y1_1 y1_2 y1_3; refine Hid.out ?_)
  refine Lib.hid ?_
  have y0_0 : W2.cell? ⟨w.heap.size, 0, none⟩ = some (.int .i64 L) := Ky0.out.cell 0
  have y0_1 : W2.cell? ⟨w.heap.size, 1, none⟩ = some (.slice J n cj) := Ky0.out.cell 1
  have y0_2 : W2.cell? ⟨w.heap.size, 2, none⟩ = some (.slice K n ck) := Ky0.out.cell 2
  have y1_0 : W2.cell? ⟨w.heap.size + 1, 0, none⟩ = some (.slice P np cp) := Ky1.out.cell 0
  have y1_1 : W2.cell? ⟨w.heap.size + 1, 1, none⟩ = some (.int .i64 sp) := Ky1.out.cell 1
  have y1_2 : W2.cell? ⟨w.heap.size + 1, 2, none⟩ = some (.int .i64 ga) := Ky1.out.cell 2
  have y1_3 : W2.cell? ⟨w.heap.size + 1, 3, none⟩ = some (.int .i64 li) := Ky1.out.cell 3
  go_wp2_with (go_at_call 6; refine (HFEA.out _).mono ?_; rintro e W3 ⟨rfl, hx⟩; replace X := Lib.hid (X.out.trans hx); replace Ky0 := Lib.hid (Ky0.out.ext hx); replace Ky1 := Lib.hid (Ky1.out.ext hx); clear hx y0_0 y0_1 y0_2 y1_0 y1_1 y1_2 y1_3; refine Hid.out ?_)
  refine Lib.hid ?_
  have y0_0 : W3.cell? ⟨w.heap.size, 0, none⟩ = some (.int .i64 L) := Ky0.out.cell 0
  have y0_1 : W3.cell? ⟨w.heap.size, 1, none⟩ = some (.slice J n cj) := Ky0.out.cell 1
  have y0_2 : W3.cell? ⟨w.heap.size, 2, none⟩ = some (.slice K n ck) := Ky0.out.cell 2
  have y1_0 : W3.cell? ⟨w.heap.size + 1, 0, none⟩ = some (.slice P np cp) := Ky1.out.cell 0
  have y1_1 : W3.cell? ⟨w.heap.size + 1, 1, none⟩ = some (.int .i64 sp) := Ky1.out.cell 1
  have y1_2 : W3.cell? ⟨w.heap.size + 1, 2, none⟩ = some (.int .i64 ga) := Ky1.out.cell 2
  have y1_3 : W3.cell? ⟨w.heap.size + 1, 3, none⟩ = some (.int .i64 li) := Ky1.out.cell 3
  go_wp2_with (go_at_call 7; refine (HLT.out _ X.out).mono ?_; rintro e W4 ⟨rfl, hx⟩; replace X := Lib.hid (X.out.trans hx); replace Ky0 := Lib.hid (Ky0.out.ext hx); replace Ky1 := Lib.hid (Ky1.out.ext hx); clear hx y0_0 y0_1 y0_2 y1_0 y1_1 y1_2 y1_3; refine Hid.out ?_)
  refine Lib.hid ?_
  have y0_0 : W4.cell? ⟨w.heap.size, 0, none⟩ = some (.int .i64 L) := Ky0.out.cell 0
  have y0_1 : W4.cell? ⟨w.heap.size, 1, none⟩ = some (.slice J n cj) := Ky0.out.cell 1
  have y0_2 : W4.cell? ⟨w.heap.size, 2, none⟩ = some (.slice K n ck) := Ky0.out.cell 2
  have y1_0 : W4.cell? ⟨w.heap.size + 1, 0, none⟩ = some (.slice P np cp) := Ky1.out.cell 0
  have y1_1 : W4.cell? ⟨w.heap.size + 1, 1, none⟩ = some (.int .i64 sp) := Ky1.out.cell 1
  have y1_2 : W4.cell? ⟨w.heap.size + 1, 2, none⟩ = some (.int .i64 ga) := Ky1.out.cell 2
  have y1_3 : W4.cell? ⟨w.heap.size + 1, 3, none⟩ = some (.int .i64 li) := Ky1.out.cell 3
  clear HFEW HFEA HLT
  go_upto_region 5 with (fail)
  refine wp_region_each [some 35, some 36, some 37, some 38, some 39, some 40, some 34, some 41, some 42, some 7, some 8] [[3], [35], [4], [37], [2], [36, 38, 39], [40], [34], [34], [41], [42]]
    [Is (.agg #[.int .i64 L, .slice J n cj, .slice K n ck]), CopS L js ks n n, Is (.agg #[.slice P np cp, .int .i64 sp, .int .i64 ga, .int .i64 li]), CopP am sp ga li np, Is (.int .i64 (t)), Is (.tuple #[.slice none 0 0, .int .i64 12]), Is (.tuple #[.slice none 0 0, .int .i64 12]), Is (.slice none 0 0), Is (.int .i64 (12)), Is (.slice none 0 0), Is (.int .i64 (12))]
    (by kernel_rfl) (by kernel_rfl) (by kernel_rfl) (by kernel_rfl) (by kernel_rfl) Ext (fun W => Ext W4 W)
    (fun W _ => Ext.refl W) (fun W W' h k => h.trans k) ?_ (Ext.drew _) ?_ ?_
  · repeat (refine ⟨fun _ _ _ _ k h => (by first | exact h | exact (by first | exact IntsAt.ext h k | exact CopS.ext h k | exact CopP.ext h k | exact CopL.ext h k | exact FewT.ext h k)), ?_⟩)
    exact trivial
  · refine ⟨?_, ?_, ?_, ?_, ?_, ?_, ?_, ?_, ?_, ?_, ?_, trivial⟩
    all_goals intro ρ W ⟨kc, kg, kf⟩ hF hs
    · obtain ⟨h0, -⟩ := hs
      replace h0 : ρ (.tmp 3) = .pointer (some ⟨w.heap.size, 0, none⟩) := h0
      have hc0 : W.cell? ⟨w.heap.size, 0, none⟩ = some (.int .i64 L) := hF.cell (by assumption)
      have hc1 : W.cell? ⟨w.heap.size, 1, none⟩ = some (.slice J n cj) := hF.cell (by assumption)
      have hc2 : W.cell? ⟨w.heap.size, 2, none⟩ = some (.slice K n ck) := hF.cell (by assumption)
      go_simp
      exact ⟨Ext.refl _, rfl⟩
    · obtain ⟨h0, -⟩ := hs
      replace h0 : ρ (.tmp 35) = .agg #[.int .i64 L, .slice J n cj, .slice K n ck] := h0
      go_simp
      refine (HCP.out _ (X.out.trans hF)).mono ?_; rintro e w' ⟨v, rfl, hc, hx⟩; exact ⟨_, rfl, hx, CopS.of hc⟩
    · obtain ⟨h0, -⟩ := hs
      replace h0 : ρ (.tmp 4) = .pointer (some ⟨w.heap.size + 1, 0, none⟩) := h0
      have hc0 : W.cell? ⟨w.heap.size + 1, 0, none⟩ = some (.slice P np cp) := hF.cell (by assumption)
      have hc1 : W.cell? ⟨w.heap.size + 1, 1, none⟩ = some (.int .i64 sp) := hF.cell (by assumption)
      have hc2 : W.cell? ⟨w.heap.size + 1, 2, none⟩ = some (.int .i64 ga) := hF.cell (by assumption)
      have hc3 : W.cell? ⟨w.heap.size + 1, 3, none⟩ = some (.int .i64 li) := hF.cell (by assumption)
      go_simp
      exact ⟨Ext.refl _, rfl⟩
    · obtain ⟨h0, -⟩ := hs
      replace h0 : ρ (.tmp 37) = .agg #[.slice P np cp, .int .i64 sp, .int .i64 ga, .int .i64 li] := h0
      go_simp
      refine (HCQ.out _ (X.out.trans hF)).mono ?_; rintro e w' ⟨v, rfl, hc, hx⟩; exact ⟨_, rfl, hx, CopP.of hc⟩
    · obtain ⟨h0, -⟩ := hs
      replace h0 : ρ (.tmp 2) = .int .i64 (t) := h0
      go_simp
      exact ⟨Ext.refl _, rfl⟩
    · obtain ⟨h0, h1, h2, -⟩ := hs
      replace h0 : (CopS L js ks n n) (ρ (.tmp 36)) W := h0
      replace h1 : (CopP am sp ga li np) (ρ (.tmp 38)) W := h1
      replace h2 : ρ (.tmp 39) = .int .i64 (t) := h2
      obtain ⟨J1, c1, K1, d1, e1, r1, s1, n1, m1⟩ := h0
      replace e1 : ρ (.tmp 36) = .agg #[.int .i64 L, .slice J1 n c1, .slice K1 n d1] := e1
      obtain ⟨P2, c2, e2, r2, n2⟩ := h1
      replace e2 : ρ (.tmp 38) = .agg #[.slice P2 np c2, .int .i64 sp, .int .i64 ga, .int .i64 li] := e2
      go_simp
      refine (HFW.out _ J1 c1 K1 d1 P2 c2 r1 s1 r2 n1).mono ?_; rintro e w' ⟨rfl, hx⟩; exact ⟨_, rfl, hx, rfl⟩
    · obtain ⟨h0, -⟩ := hs
      replace h0 : ρ (.tmp 40) = .tuple #[.slice none 0 0, .int .i64 12] := h0
      go_simp
      exact ⟨Ext.refl _, rfl⟩
    · obtain ⟨h0, -⟩ := hs
      replace h0 : ρ (.tmp 34) = .tuple #[.slice none 0 0, .int .i64 12] := h0
      go_simp
      exact ⟨Ext.refl _, rfl⟩
    · obtain ⟨h0, -⟩ := hs
      replace h0 : ρ (.tmp 34) = .tuple #[.slice none 0 0, .int .i64 12] := h0
      go_simp
      exact ⟨Ext.refl _, rfl⟩
    · obtain ⟨h0, -⟩ := hs
      replace h0 : ρ (.tmp 41) = .slice none 0 0 := h0
      go_simp
      exact ⟨Ext.refl _, rfl⟩
    · obtain ⟨h0, -⟩ := hs
      replace h0 : ρ (.tmp 42) = .int .i64 (12) := h0
      go_simp
      exact ⟨Ext.refl _, rfl⟩
  · intro fv V1x hF hs
    obtain ⟨-, -, -, -, -, -, -, -, -, h7, h8, -⟩ := hs
    replace h7 : fv 7 = .slice none 0 0 := h7
    replace h8 : fv 8 = .int .i64 (12) := h8
    simp only [fin, List.filterMap]
    go_simp
    have hx := hF
    replace X := Lib.hid (X.out.trans hx)
    replace Ky0 := Lib.hid (Ky0.out.ext hx)
    replace Ky1 := Lib.hid (Ky1.out.ext hx)
    clear hx y0_0 y0_1 y0_2 y1_0 y1_1 y1_2 y1_3
    clear hF
    obtain ⟨V1, hV⟩ : ∃ V, V = V1x := ⟨_, rfl⟩
    rw [← hV] at X Ky0 Ky1  ⊢
    clear hV
    have y0_0 : V1.cell? ⟨w.heap.size, 0, none⟩ = some (.int .i64 L) := Ky0.out.cell 0
    have y0_1 : V1.cell? ⟨w.heap.size, 1, none⟩ = some (.slice J n cj) := Ky0.out.cell 1
    have y0_2 : V1.cell? ⟨w.heap.size, 2, none⟩ = some (.slice K n ck) := Ky0.out.cell 2
    have y1_0 : V1.cell? ⟨w.heap.size + 1, 0, none⟩ = some (.slice P np cp) := Ky1.out.cell 0
    have y1_1 : V1.cell? ⟨w.heap.size + 1, 1, none⟩ = some (.int .i64 sp) := Ky1.out.cell 1
    have y1_2 : V1.cell? ⟨w.heap.size + 1, 2, none⟩ = some (.int .i64 ga) := Ky1.out.cell 2
    have y1_3 : V1.cell? ⟨w.heap.size + 1, 3, none⟩ = some (.int .i64 li) := Ky1.out.cell 3
    go_upto_region 6 with (fail)
    refine wp_region_each [some 44, some 45, some 46, some 47, some 48, some 49, some 43, some 50, some 51, some 52, some 9, some 10, some 11] [[3], [44], [4], [46], [2], [45, 47, 48], [49], [43], [43], [43], [50], [51], [52]]
      [Is (.agg #[.int .i64 L, .slice J n cj, .slice K n ck]), CopS L js ks n n, Is (.agg #[.slice P np cp, .int .i64 sp, .int .i64 ga, .int .i64 li]), CopP am sp ga li np, Is (.int .i64 (t)), Is (.tuple #[.int .i64 0, .int .i64 0, .int .i64 12]), Is (.tuple #[.int .i64 0, .int .i64 0, .int .i64 12]), Is (.int .i64 (0)), Is (.int .i64 (0)), Is (.int .i64 (12)), Is (.int .i64 (0)), Is (.int .i64 (0)), Is (.int .i64 (12))]
      (by kernel_rfl) (by kernel_rfl) (by kernel_rfl) (by kernel_rfl) (by kernel_rfl) Ext (fun W => Ext V1 W)
      (fun W _ => Ext.refl W) (fun W W' h k => h.trans k) ?_ (Ext.drew _) ?_ ?_
    · repeat (refine ⟨fun _ _ _ _ k h => (by first | exact h | exact (by first | exact IntsAt.ext h k | exact CopS.ext h k | exact CopP.ext h k | exact CopL.ext h k | exact FewT.ext h k)), ?_⟩)
      exact trivial
    · refine ⟨?_, ?_, ?_, ?_, ?_, ?_, ?_, ?_, ?_, ?_, ?_, ?_, ?_, trivial⟩
      all_goals intro ρ W ⟨kc, kg, kf⟩ hF hs
      · obtain ⟨h0, -⟩ := hs
        replace h0 : ρ (.tmp 3) = .pointer (some ⟨w.heap.size, 0, none⟩) := h0
        have hc0 : W.cell? ⟨w.heap.size, 0, none⟩ = some (.int .i64 L) := hF.cell (by assumption)
        have hc1 : W.cell? ⟨w.heap.size, 1, none⟩ = some (.slice J n cj) := hF.cell (by assumption)
        have hc2 : W.cell? ⟨w.heap.size, 2, none⟩ = some (.slice K n ck) := hF.cell (by assumption)
        go_simp
        exact ⟨Ext.refl _, rfl⟩
      · obtain ⟨h0, -⟩ := hs
        replace h0 : ρ (.tmp 44) = .agg #[.int .i64 L, .slice J n cj, .slice K n ck] := h0
        go_simp
        refine (HCP.out _ (X.out.trans hF)).mono ?_; rintro e w' ⟨v, rfl, hc, hx⟩; exact ⟨_, rfl, hx, CopS.of hc⟩
      · obtain ⟨h0, -⟩ := hs
        replace h0 : ρ (.tmp 4) = .pointer (some ⟨w.heap.size + 1, 0, none⟩) := h0
        have hc0 : W.cell? ⟨w.heap.size + 1, 0, none⟩ = some (.slice P np cp) := hF.cell (by assumption)
        have hc1 : W.cell? ⟨w.heap.size + 1, 1, none⟩ = some (.int .i64 sp) := hF.cell (by assumption)
        have hc2 : W.cell? ⟨w.heap.size + 1, 2, none⟩ = some (.int .i64 ga) := hF.cell (by assumption)
        have hc3 : W.cell? ⟨w.heap.size + 1, 3, none⟩ = some (.int .i64 li) := hF.cell (by assumption)
        go_simp
        exact ⟨Ext.refl _, rfl⟩
      · obtain ⟨h0, -⟩ := hs
        replace h0 : ρ (.tmp 46) = .agg #[.slice P np cp, .int .i64 sp, .int .i64 ga, .int .i64 li] := h0
        go_simp
        refine (HCQ.out _ (X.out.trans hF)).mono ?_; rintro e w' ⟨v, rfl, hc, hx⟩; exact ⟨_, rfl, hx, CopP.of hc⟩
      · obtain ⟨h0, -⟩ := hs
        replace h0 : ρ (.tmp 2) = .int .i64 (t) := h0
        go_simp
        exact ⟨Ext.refl _, rfl⟩
      · obtain ⟨h0, h1, h2, -⟩ := hs
        replace h0 : (CopS L js ks n n) (ρ (.tmp 45)) W := h0
        replace h1 : (CopP am sp ga li np) (ρ (.tmp 47)) W := h1
        replace h2 : ρ (.tmp 48) = .int .i64 (t) := h2
        obtain ⟨J1, c1, K1, d1, e1, r1, s1, n1, m1⟩ := h0
        replace e1 : ρ (.tmp 45) = .agg #[.int .i64 L, .slice J1 n c1, .slice K1 n d1] := e1
        obtain ⟨P2, c2, e2, r2, n2⟩ := h1
        replace e2 : ρ (.tmp 47) = .agg #[.slice P2 np c2, .int .i64 sp, .int .i64 ga, .int .i64 li] := e2
        go_simp
        refine (HBO.out _ J1 c1 K1 d1 P2 c2 r1 s1 r2).mono ?_; rintro e w' ⟨rfl, hx⟩; exact ⟨_, rfl, hx, rfl⟩
      · obtain ⟨h0, -⟩ := hs
        replace h0 : ρ (.tmp 49) = .tuple #[.int .i64 0, .int .i64 0, .int .i64 12] := h0
        go_simp
        exact ⟨Ext.refl _, rfl⟩
      · obtain ⟨h0, -⟩ := hs
        replace h0 : ρ (.tmp 43) = .tuple #[.int .i64 0, .int .i64 0, .int .i64 12] := h0
        go_simp
        exact ⟨Ext.refl _, rfl⟩
      · obtain ⟨h0, -⟩ := hs
        replace h0 : ρ (.tmp 43) = .tuple #[.int .i64 0, .int .i64 0, .int .i64 12] := h0
        go_simp
        exact ⟨Ext.refl _, rfl⟩
      · obtain ⟨h0, -⟩ := hs
        replace h0 : ρ (.tmp 43) = .tuple #[.int .i64 0, .int .i64 0, .int .i64 12] := h0
        go_simp
        exact ⟨Ext.refl _, rfl⟩
      · obtain ⟨h0, -⟩ := hs
        replace h0 : ρ (.tmp 50) = .int .i64 (0) := h0
        go_simp
        exact ⟨Ext.refl _, rfl⟩
      · obtain ⟨h0, -⟩ := hs
        replace h0 : ρ (.tmp 51) = .int .i64 (0) := h0
        go_simp
        exact ⟨Ext.refl _, rfl⟩
      · obtain ⟨h0, -⟩ := hs
        replace h0 : ρ (.tmp 52) = .int .i64 (12) := h0
        go_simp
        exact ⟨Ext.refl _, rfl⟩
    · intro fv V2x hF hs
      obtain ⟨-, -, -, -, -, -, -, -, -, -, h9, h10, h11, -⟩ := hs
      replace h9 : fv 9 = .int .i64 (0) := h9
      replace h10 : fv 10 = .int .i64 (0) := h10
      replace h11 : fv 11 = .int .i64 (12) := h11
      simp only [fin, List.filterMap]
      go_simp
      have hx := hF
      replace X := Lib.hid (X.out.trans hx)
      replace Ky0 := Lib.hid (Ky0.out.ext hx)
      replace Ky1 := Lib.hid (Ky1.out.ext hx)
      clear hx y0_0 y0_1 y0_2 y1_0 y1_1 y1_2 y1_3
      clear hF
      obtain ⟨V2, hV⟩ : ∃ V, V = V2x := ⟨_, rfl⟩
      rw [← hV] at X Ky0 Ky1  ⊢
      clear hV
      have y0_0 : V2.cell? ⟨w.heap.size, 0, none⟩ = some (.int .i64 L) := Ky0.out.cell 0
      have y0_1 : V2.cell? ⟨w.heap.size, 1, none⟩ = some (.slice J n cj) := Ky0.out.cell 1
      have y0_2 : V2.cell? ⟨w.heap.size, 2, none⟩ = some (.slice K n ck) := Ky0.out.cell 2
      have y1_0 : V2.cell? ⟨w.heap.size + 1, 0, none⟩ = some (.slice P np cp) := Ky1.out.cell 0
      have y1_1 : V2.cell? ⟨w.heap.size + 1, 1, none⟩ = some (.int .i64 sp) := Ky1.out.cell 1
      have y1_2 : V2.cell? ⟨w.heap.size + 1, 2, none⟩ = some (.int .i64 ga) := Ky1.out.cell 2
      have y1_3 : V2.cell? ⟨w.heap.size + 1, 3, none⟩ = some (.int .i64 li) := Ky1.out.cell 3
      go_wp2_with (go_at_call 12; refine (HBE.out _ X.out).mono ?_; rintro e V3 ⟨rfl, hx⟩; replace X := Lib.hid (X.out.trans hx); replace Ky0 := Lib.hid (Ky0.out.ext hx); replace Ky1 := Lib.hid (Ky1.out.ext hx); clear hx y0_0 y0_1 y0_2 y1_0 y1_1 y1_2 y1_3; refine Hid.out ?_)
      refine Lib.hid ?_
      have y0_0 : V3.cell? ⟨w.heap.size, 0, none⟩ = some (.int .i64 L) := Ky0.out.cell 0
      have y0_1 : V3.cell? ⟨w.heap.size, 1, none⟩ = some (.slice J n cj) := Ky0.out.cell 1
      have y0_2 : V3.cell? ⟨w.heap.size, 2, none⟩ = some (.slice K n ck) := Ky0.out.cell 2
      have y1_0 : V3.cell? ⟨w.heap.size + 1, 0, none⟩ = some (.slice P np cp) := Ky1.out.cell 0
      have y1_1 : V3.cell? ⟨w.heap.size + 1, 1, none⟩ = some (.int .i64 sp) := Ky1.out.cell 1
      have y1_2 : V3.cell? ⟨w.heap.size + 1, 2, none⟩ = some (.int .i64 ga) := Ky1.out.cell 2
      have y1_3 : V3.cell? ⟨w.heap.size + 1, 3, none⟩ = some (.int .i64 li) := Ky1.out.cell 3
      go_wp2_with (go_at_call 13; refine (HTO.out _).mono ?_; rintro e V4 ⟨rfl, hx⟩; replace X := Lib.hid (X.out.trans hx); replace Ky0 := Lib.hid (Ky0.out.ext hx); replace Ky1 := Lib.hid (Ky1.out.ext hx); clear hx y0_0 y0_1 y0_2 y1_0 y1_1 y1_2 y1_3; refine Hid.out ?_)
      refine Lib.hid ?_
      have y0_0 : V4.cell? ⟨w.heap.size, 0, none⟩ = some (.int .i64 L) := Ky0.out.cell 0
      have y0_1 : V4.cell? ⟨w.heap.size, 1, none⟩ = some (.slice J n cj) := Ky0.out.cell 1
      have y0_2 : V4.cell? ⟨w.heap.size, 2, none⟩ = some (.slice K n ck) := Ky0.out.cell 2
      have y1_0 : V4.cell? ⟨w.heap.size + 1, 0, none⟩ = some (.slice P np cp) := Ky1.out.cell 0
      have y1_1 : V4.cell? ⟨w.heap.size + 1, 1, none⟩ = some (.int .i64 sp) := Ky1.out.cell 1
      have y1_2 : V4.cell? ⟨w.heap.size + 1, 2, none⟩ = some (.int .i64 ga) := Ky1.out.cell 2
      have y1_3 : V4.cell? ⟨w.heap.size + 1, 3, none⟩ = some (.int .i64 li) := Ky1.out.cell 3
      go_wp2_with (go_at_call 14; refine (HRB.out _ X.out).mono ?_; rintro e V5 ⟨rfl, hx⟩; replace X := Lib.hid (X.out.trans hx); replace Ky0 := Lib.hid (Ky0.out.ext hx); replace Ky1 := Lib.hid (Ky1.out.ext hx); clear hx y0_0 y0_1 y0_2 y1_0 y1_1 y1_2 y1_3; refine Hid.out ?_)
      refine Lib.hid ?_
      have y0_0 : V5.cell? ⟨w.heap.size, 0, none⟩ = some (.int .i64 L) := Ky0.out.cell 0
      have y0_1 : V5.cell? ⟨w.heap.size, 1, none⟩ = some (.slice J n cj) := Ky0.out.cell 1
      have y0_2 : V5.cell? ⟨w.heap.size, 2, none⟩ = some (.slice K n ck) := Ky0.out.cell 2
      have y1_0 : V5.cell? ⟨w.heap.size + 1, 0, none⟩ = some (.slice P np cp) := Ky1.out.cell 0
      have y1_1 : V5.cell? ⟨w.heap.size + 1, 1, none⟩ = some (.int .i64 sp) := Ky1.out.cell 1
      have y1_2 : V5.cell? ⟨w.heap.size + 1, 2, none⟩ = some (.int .i64 ga) := Ky1.out.cell 2
      have y1_3 : V5.cell? ⟨w.heap.size + 1, 3, none⟩ = some (.int .i64 li) := Ky1.out.cell 3
      go_wp2_with (go_at_call 15; refine (HRF.out _ X.out).mono ?_; rintro e V6 ⟨A6, m6, c6, rfl, hr6, hx⟩; replace X := Lib.hid (X.out.trans hx); replace Ky0 := Lib.hid (Ky0.out.ext hx); replace Ky1 := Lib.hid (Ky1.out.ext hx); clear hx y0_0 y0_1 y0_2 y1_0 y1_1 y1_2 y1_3; clear hr6; refine Hid.out ?_)
      refine Lib.hid ?_
      have y0_0 : V6.cell? ⟨w.heap.size, 0, none⟩ = some (.int .i64 L) := Ky0.out.cell 0
      have y0_1 : V6.cell? ⟨w.heap.size, 1, none⟩ = some (.slice J n cj) := Ky0.out.cell 1
      have y0_2 : V6.cell? ⟨w.heap.size, 2, none⟩ = some (.slice K n ck) := Ky0.out.cell 2
      have y1_0 : V6.cell? ⟨w.heap.size + 1, 0, none⟩ = some (.slice P np cp) := Ky1.out.cell 0
      have y1_1 : V6.cell? ⟨w.heap.size + 1, 1, none⟩ = some (.int .i64 sp) := Ky1.out.cell 1
      have y1_2 : V6.cell? ⟨w.heap.size + 1, 2, none⟩ = some (.int .i64 ga) := Ky1.out.cell 2
      have y1_3 : V6.cell? ⟨w.heap.size + 1, 3, none⟩ = some (.int .i64 li) := Ky1.out.cell 3
      go_wp2
      go_ret
      exact ⟨rfl, X.out⟩

end Go.Proofs.YtjdilmmpdlcimaaGreat

namespace Go.Proofs.YtjdilmmpdlcimaaGreat
open Go.RowKit Go.Shelf Go.Mem Go.RegInv
attribute [local go_sem] RelUpon_value RelUpon_skip RelUpon_enter BigFrame.eval_const BigFrame.eval_global BigFrame.eval_func


theorem bndL_zero {B : Nat → Int × Int} (h : ∀ i, (B i).2 = 0 ∨ (B i).2 = 12) : ∀ {q k : Nat} {m f : Int}, (bndL B q k m f).2.2 = 12 → bndL B q k m f = (0, 0, 12)
  | 0, k, m, f, h2 => by unfold bndL at h2; simp at h2
  | q + 1, k, m, f, h2 => by
    unfold bndL at h2 ⊢
    split at h2
    · rename_i h3
      rw [if_pos h3]
      have : (B k).2 = 12 := h2
      rw [this]
    · rename_i h3
      rw [if_neg h3]
      split at h2
      · rename_i h4
        rw [if_pos h4]
        exact bndL_zero h h2
      · rename_i h4
        rw [if_neg h4]
        exact bndL_zero h h2
theorem bndV_none {L : Int} {js : List Int} {ks : List Rg} {am : List Int} {sp ga t : Int} (h : (bndV L js ks am sp ga t).2.2 = 12) : bndV L js ks am sp ga t = (0, 0, 12) := by
  refine bndL_zero (fun i => ?_) h
  unfold bndF
  split
  · exact .inl rfl
  · split
    · exact .inr rfl
    · exact .inl rfl

theorem fewest_any {L : Int} {J K : Option Addr} {n m cj ck : Nat} {js : List Int} {ks : List Rg} {P : Option Addr} {np cp : Nat} {am : List Int} {sp ga li : Int} {t : Int} (hn : js.length = n) (hm : ks.length = m) (hjn : J = none → cj = 0) (hkn : K = none → ck = 0) (hpn : P = none → cp = 0) (ln : n ≤ maxLen) (lm : m ≤ maxLen) (hnp : am.length = np) (lp : np ≤ maxLen) {w : World} (hJ : n ≤ 1000 → RowsAt 1 I1 w J js) (hK : m ≤ 1000 → RowsAt 2 Rg.enc w K ks) (hP : np ≤ 1000 → RowsAt 1 I1 w P am) :
    Calls Tryz.prog 3 #[.agg #[.int .i64 L, .slice J n cj, .slice K m ck], .agg #[.slice P np cp, .int .i64 sp, .int .i64 ga, .int .i64 li], .int .i64 t] w fun e w' => e = .returned (.bool true) ∧ Ext w w' := by
  by_cases h : n ≤ 6 ∧ m ≤ 6
  · by_cases h5 : np ≤ 5
    · have rJ := hJ (by omega)
      have rK := hK (by omega)
      have rP := hP (by omega)
      by_cases hb : (if (checkS L js ks).2 ≠ 0 then (checkS L js ks).2 else (checkP am sp ga li).2) = 0
      · have hz : (checkS L js ks).2 = 0 ∧ (checkP am sp ga li).2 = 0 := by
          by_cases h1 : (checkS L js ks).2 = 0
          · rw [if_neg (by simpa using h1)] at hb; exact ⟨h1, hb⟩
          · rw [if_pos h1] at hb; exact absurd hb h1
        by_cases hlt : (optL am n).length ≤ 8
        · by_cases ht : tolE t = 0
          · obtain rfl : n = m := by have := (checkS_ok hz.1).same; omega
            obtain ⟨bn, bj, be, hbv⟩ : ∃ bn bj be, bndV L js ks am sp ga t = (bn, bj, be) := ⟨_, _, _, rfl⟩
            rcases bndV_err L js ks am sp ga t with h2 | h2
            · have hbe : be = 0 := by rw [hbv] at h2; exact h2
              subst hbe
              cases hfv : fewV L js ks am sp ga li t with
              | some p => exact fw_some hn rJ hm rK hnp rP hjn hkn hpn h ln h5 lp hz.1 hz.2 ht hlt rfl hfv hbv
              | none => exact fw_none hn rJ hm rK hnp rP hjn hkn hpn h ln h5 lp hz.1 hz.2 ht hlt hfv hbv
            · have hbv2 := bndV_none h2
              cases hfv : fewV L js ks am sp ga li t with
              | some p => exact fw_some_none hn rJ hm rK hnp rP hjn hkn hpn h ln h5 lp hz.1 hz.2 ht hlt rfl hfv hbv2
              | none => exact fw_none_none hn rJ hm rK hnp rP hjn hkn hpn h ln h5 lp hz.1 hz.2 ht hlt hfv hbv2
          · exact fw_bad2 hn rJ hm rK hnp rP hjn hkn hpn h ln lm h5 lp hz.1 hz.2 hlt rfl ht
        · exact fw_light hn rJ hm rK hnp rP h ln lm h5 lp hz.1 hz.2 hlt
      · refine fw_bad1 hn rJ hm rK hnp rP hjn hkn hpn h ln lm h5 lp rfl ?_ hb
        by_cases h1 : (checkS L js ks).2 = 0
        · rw [if_neg (by simpa using h1)] at hb ⊢
          simp [firstE, h1, hb]
        · rw [if_pos h1] at hb ⊢
          simp [firstE, h1]
    · exact fw_many1 h ln lm h5 lp
  · exact fw_many0 h ln lm

end Go.Proofs.YtjdilmmpdlcimaaGreat
