/- DistortContained. -/
import Derived.Test.YtjdilmmpdlcimaaV4
import Derived.Lib.MinMax
import Derived.Deep.DeepCutAuto
import Derived.BigQuiet
import Derived.BigRegion

namespace Go.Proofs.Ytjdilmmpdlcimaa
open Go.RowKit Go.Shelf Go.Mem Go.RegInv
attribute [local go_sem] RelUpon_value RelUpon_skip RelUpon_enter BigFrame.eval_const BigFrame.eval_global BigFrame.eval_func


set_option maxRecDepth 100000 in
set_option maxHeartbeats 4000000 in
theorem cont_many {L : Int} {J K : Option Addr} {n m cj ck : Nat} {p : Int} {A : Option Addr} {np ca : Nat} {w : World} (h : ¬ (n ≤ 6 ∧ m ≤ 6)) (ln : n ≤ maxLen) (lm : m ≤ maxLen) :
    Calls Try.prog 4 #[.agg #[.int .i64 L, .slice J n cj, .slice K m ck], .int .i64 p, .slice A np ca] w fun e w' => e = .returned (.bool true) ∧ Ext w w' := by
  have HFEW := Lib.hid (fun W => show Calls Try.prog 14 #[.agg #[.int .i64 L, .slice J n cj, .slice K m ck]] W fun e w' => e = .returned (.bool false) ∧ Ext W w' from by have := few_any (L := L) (J := J) (K := K) (n := n) (m := m) (cj := cj) (ck := ck) W ln lm; rw [few2_false h] at this; exact this)
  clear h
  obtain ⟨W0, hW0⟩ : ∃ W0, W0 = w.alloc (.cells #[.int .i64 L, .slice J n cj, .slice K m ck] 25) := ⟨_, rfl⟩
  have Ky0 := Lib.hid (show Blk W0 (w.heap.size) 25 #[.int .i64 L, .slice J n cj, .slice K m ck] by rw [hW0]; exact Blk.new _ _ _)
  have X := Lib.hid (show Ext w W0 by rw [hW0]; exact Ext.alloc _ _)
  have y0_0 : W0.cell? ⟨w.heap.size, 0, none⟩ = some (.int .i64 L) := Ky0.out.cell 0
  have y0_1 : W0.cell? ⟨w.heap.size, 1, none⟩ = some (.slice J n cj) := Ky0.out.cell 1
  have y0_2 : W0.cell? ⟨w.heap.size, 2, none⟩ = some (.slice K m ck) := Ky0.out.cell 2
  go_enter Try.func4, Try.ntmps4
  go_upto_region 1 with (fail)
  rw [← hW0]
  clear hW0
  go_wp2_with (go_at_call 13; refine (awake_any _).mono ?_; rintro e W1 ⟨rfl, hx⟩; replace X := Lib.hid (X.out.trans hx); replace Ky0 := Lib.hid (Ky0.out.ext hx); clear hx y0_0 y0_1 y0_2; refine Hid.out ?_)
  refine Lib.hid ?_
  have y0_0 : W1.cell? ⟨w.heap.size, 0, none⟩ = some (.int .i64 L) := Ky0.out.cell 0
  have y0_1 : W1.cell? ⟨w.heap.size, 1, none⟩ = some (.slice J n cj) := Ky0.out.cell 1
  have y0_2 : W1.cell? ⟨w.heap.size, 2, none⟩ = some (.slice K m ck) := Ky0.out.cell 2
  go_wp2_with (go_at_call 14; refine (HFEW.out _).mono ?_; rintro e W2 ⟨rfl, hx⟩; replace X := Lib.hid (X.out.trans hx); replace Ky0 := Lib.hid (Ky0.out.ext hx); clear hx y0_0 y0_1 y0_2; refine Hid.out ?_)
  refine Lib.hid ?_
  have y0_0 : W2.cell? ⟨w.heap.size, 0, none⟩ = some (.int .i64 L) := Ky0.out.cell 0
  have y0_1 : W2.cell? ⟨w.heap.size, 1, none⟩ = some (.slice J n cj) := Ky0.out.cell 1
  have y0_2 : W2.cell? ⟨w.heap.size, 2, none⟩ = some (.slice K m ck) := Ky0.out.cell 2
  go_wp2
  go_ret
  exact ⟨rfl, X.out⟩

set_option maxRecDepth 100000 in
set_option maxHeartbeats 4000000 in
theorem cont_bad {L : Int} {J K : Option Addr} {n m cj ck : Nat} {js : List Int} {ks : List Rg} {w : World} (hn : js.length = n) (hJ : RowsAt 1 I1 w J js) (hm : ks.length = m) (hK : RowsAt 2 Rg.enc w K ks) {p : Int} {A : Option Addr} {np ca : Nat} (h : n ≤ 6 ∧ m ≤ 6) (ln : n ≤ maxLen) (lm : m ≤ maxLen) {z : Int} (hz : (checkS L js ks).2 = z) (hne : z ≠ 0) :
    Calls Try.prog 4 #[.agg #[.int .i64 L, .slice J n cj, .slice K m ck], .int .i64 p, .slice A np ca] w fun e w' => e = .returned (.bool true) ∧ Ext w w' := by
  have HFEW := Lib.hid (fun W => show Calls Try.prog 14 #[.agg #[.int .i64 L, .slice J n cj, .slice K m ck]] W fun e w' => e = .returned (.bool true) ∧ Ext W w' from by have := few_any (L := L) (J := J) (K := K) (n := n) (m := m) (cj := cj) (ck := ck) W ln lm; rw [show few2 n m = true by simp [few2, h.1, h.2]] at this; exact this)
  have HSE := Lib.hid (fun W (e : Ext w W) => show Calls Try.prog 27 #[.agg #[.int .i64 L, .slice J n cj, .slice K m ck]] W fun e w' => e = .returned (.int .i64 z) ∧ Ext W w' from by have := refShaftErr_any (cj := cj) (ck := ck) (L := L) hn (hJ.ext e) hm (hK.ext e); rw [hz] at this; exact this)
  have hz1 : (z == 0) = false := by simp [hne]
  have hz2 : (z != 0) = true := by simp [hne]
  clear h hn hJ hm hK hz hne ln lm
  obtain ⟨W0, hW0⟩ : ∃ W0, W0 = w.alloc (.cells #[.int .i64 L, .slice J n cj, .slice K m ck] 25) := ⟨_, rfl⟩
  have Ky0 := Lib.hid (show Blk W0 (w.heap.size) 25 #[.int .i64 L, .slice J n cj, .slice K m ck] by rw [hW0]; exact Blk.new _ _ _)
  have X := Lib.hid (show Ext w W0 by rw [hW0]; exact Ext.alloc _ _)
  have y0_0 : W0.cell? ⟨w.heap.size, 0, none⟩ = some (.int .i64 L) := Ky0.out.cell 0
  have y0_1 : W0.cell? ⟨w.heap.size, 1, none⟩ = some (.slice J n cj) := Ky0.out.cell 1
  have y0_2 : W0.cell? ⟨w.heap.size, 2, none⟩ = some (.slice K m ck) := Ky0.out.cell 2
  go_enter Try.func4, Try.ntmps4
  go_upto_region 1 with (fail)
  rw [← hW0]
  clear hW0
  go_wp2_with (go_at_call 13; refine (awake_any _).mono ?_; rintro e W1 ⟨rfl, hx⟩; replace X := Lib.hid (X.out.trans hx); replace Ky0 := Lib.hid (Ky0.out.ext hx); clear hx y0_0 y0_1 y0_2; refine Hid.out ?_)
  refine Lib.hid ?_
  have y0_0 : W1.cell? ⟨w.heap.size, 0, none⟩ = some (.int .i64 L) := Ky0.out.cell 0
  have y0_1 : W1.cell? ⟨w.heap.size, 1, none⟩ = some (.slice J n cj) := Ky0.out.cell 1
  have y0_2 : W1.cell? ⟨w.heap.size, 2, none⟩ = some (.slice K m ck) := Ky0.out.cell 2
  go_wp2_with (go_at_call 14; refine (HFEW.out _).mono ?_; rintro e W2 ⟨rfl, hx⟩; replace X := Lib.hid (X.out.trans hx); replace Ky0 := Lib.hid (Ky0.out.ext hx); clear hx y0_0 y0_1 y0_2; refine Hid.out ?_)
  refine Lib.hid ?_
  have y0_0 : W2.cell? ⟨w.heap.size, 0, none⟩ = some (.int .i64 L) := Ky0.out.cell 0
  have y0_1 : W2.cell? ⟨w.heap.size, 1, none⟩ = some (.slice J n cj) := Ky0.out.cell 1
  have y0_2 : W2.cell? ⟨w.heap.size, 2, none⟩ = some (.slice K m ck) := Ky0.out.cell 2
  go_wp2_with (go_at_call 27; refine (HSE.out _ X.out).mono ?_; rintro e W3 ⟨rfl, hx⟩; replace X := Lib.hid (X.out.trans hx); replace Ky0 := Lib.hid (Ky0.out.ext hx); clear hx y0_0 y0_1 y0_2; refine Hid.out ?_)
  refine Lib.hid ?_
  have y0_0 : W3.cell? ⟨w.heap.size, 0, none⟩ = some (.int .i64 L) := Ky0.out.cell 0
  have y0_1 : W3.cell? ⟨w.heap.size, 1, none⟩ = some (.slice J n cj) := Ky0.out.cell 1
  have y0_2 : W3.cell? ⟨w.heap.size, 2, none⟩ = some (.slice K m ck) := Ky0.out.cell 2
  go_wp2
  go_ret
  exact ⟨rfl, X.out⟩

set_option maxRecDepth 100000 in
set_option maxHeartbeats 4000000 in
theorem cont_out {L : Int} {J K : Option Addr} {n m cj ck : Nat} {js : List Int} {ks : List Rg} {w : World} (hn : js.length = n) (hJ : RowsAt 1 I1 w J js) (hm : ks.length = m) (hK : RowsAt 2 Rg.enc w K ks) {p : Int} {A : Option Addr} {np ca : Nat} (h : n ≤ 6 ∧ m ≤ 6) (ln : n ≤ maxLen) (lm : m ≤ maxLen) (hz : (checkS L js ks).2 = 0) (hp : ¬ (0 ≤ p ∧ p ≤ L)) :
    Calls Try.prog 4 #[.agg #[.int .i64 L, .slice J n cj, .slice K m ck], .int .i64 p, .slice A np ca] w fun e w' => e = .returned (.bool true) ∧ Ext w w' := by
  have HFEW := Lib.hid (fun W => show Calls Try.prog 14 #[.agg #[.int .i64 L, .slice J n cj, .slice K m ck]] W fun e w' => e = .returned (.bool true) ∧ Ext W w' from by have := few_any (L := L) (J := J) (K := K) (n := n) (m := m) (cj := cj) (ck := ck) W ln lm; rw [show few2 n m = true by simp [few2, h.1, h.2]] at this; exact this)
  have HSE := Lib.hid (fun W (e : Ext w W) => show Calls Try.prog 27 #[.agg #[.int .i64 L, .slice J n cj, .slice K m ck]] W fun e w' => e = .returned (.int .i64 0) ∧ Ext W w' from by have := refShaftErr_any (cj := cj) (ck := ck) (L := L) hn (hJ.ext e) hm (hK.ext e); rw [hz] at this; exact this)
  have HWP := Lib.hid (withinB_f hp)
  clear h hn hJ hm hK hz hp ln lm
  obtain ⟨W0, hW0⟩ : ∃ W0, W0 = w.alloc (.cells #[.int .i64 L, .slice J n cj, .slice K m ck] 25) := ⟨_, rfl⟩
  have Ky0 := Lib.hid (show Blk W0 (w.heap.size) 25 #[.int .i64 L, .slice J n cj, .slice K m ck] by rw [hW0]; exact Blk.new _ _ _)
  have X := Lib.hid (show Ext w W0 by rw [hW0]; exact Ext.alloc _ _)
  have y0_0 : W0.cell? ⟨w.heap.size, 0, none⟩ = some (.int .i64 L) := Ky0.out.cell 0
  have y0_1 : W0.cell? ⟨w.heap.size, 1, none⟩ = some (.slice J n cj) := Ky0.out.cell 1
  have y0_2 : W0.cell? ⟨w.heap.size, 2, none⟩ = some (.slice K m ck) := Ky0.out.cell 2
  go_enter Try.func4, Try.ntmps4
  go_upto_region 1 with (fail)
  rw [← hW0]
  clear hW0
  go_wp2_with (go_at_call 13; refine (awake_any _).mono ?_; rintro e W1 ⟨rfl, hx⟩; replace X := Lib.hid (X.out.trans hx); replace Ky0 := Lib.hid (Ky0.out.ext hx); clear hx y0_0 y0_1 y0_2; refine Hid.out ?_)
  refine Lib.hid ?_
  have y0_0 : W1.cell? ⟨w.heap.size, 0, none⟩ = some (.int .i64 L) := Ky0.out.cell 0
  have y0_1 : W1.cell? ⟨w.heap.size, 1, none⟩ = some (.slice J n cj) := Ky0.out.cell 1
  have y0_2 : W1.cell? ⟨w.heap.size, 2, none⟩ = some (.slice K m ck) := Ky0.out.cell 2
  go_wp2_with (go_at_call 14; refine (HFEW.out _).mono ?_; rintro e W2 ⟨rfl, hx⟩; replace X := Lib.hid (X.out.trans hx); replace Ky0 := Lib.hid (Ky0.out.ext hx); clear hx y0_0 y0_1 y0_2; refine Hid.out ?_)
  refine Lib.hid ?_
  have y0_0 : W2.cell? ⟨w.heap.size, 0, none⟩ = some (.int .i64 L) := Ky0.out.cell 0
  have y0_1 : W2.cell? ⟨w.heap.size, 1, none⟩ = some (.slice J n cj) := Ky0.out.cell 1
  have y0_2 : W2.cell? ⟨w.heap.size, 2, none⟩ = some (.slice K m ck) := Ky0.out.cell 2
  go_wp2_with (go_at_call 27; refine (HSE.out _ X.out).mono ?_; rintro e W3 ⟨rfl, hx⟩; replace X := Lib.hid (X.out.trans hx); replace Ky0 := Lib.hid (Ky0.out.ext hx); clear hx y0_0 y0_1 y0_2; refine Hid.out ?_)
  refine Lib.hid ?_
  have y0_0 : W3.cell? ⟨w.heap.size, 0, none⟩ = some (.int .i64 L) := Ky0.out.cell 0
  have y0_1 : W3.cell? ⟨w.heap.size, 1, none⟩ = some (.slice J n cj) := Ky0.out.cell 1
  have y0_2 : W3.cell? ⟨w.heap.size, 2, none⟩ = some (.slice K m ck) := Ky0.out.cell 2
  go_wp2_with (go_at_call 21; refine (within_any _ _ _ _).mono ?_; rintro e w' ⟨rfl, rfl⟩; rw [HWP.out])
  go_ret
  exact ⟨rfl, X.out⟩

set_option maxRecDepth 100000 in
set_option maxHeartbeats 4000000 in
theorem cont_long {L : Int} {J K : Option Addr} {n m cj ck : Nat} {js : List Int} {ks : List Rg} {w : World} (hn : js.length = n) (hJ : RowsAt 1 I1 w J js) (hm : ks.length = m) (hK : RowsAt 2 Rg.enc w K ks) {p : Int} {A : Option Addr} {np ca : Nat} (h : n ≤ 6 ∧ m ≤ 6) (ln : n ≤ maxLen) (lm : m ≤ maxLen) (hz : (checkS L js ks).2 = 0) (hp : 0 ≤ p ∧ p ≤ L) (h10 : ¬ np ≤ 10) (lp : np ≤ maxLen) :
    Calls Try.prog 4 #[.agg #[.int .i64 L, .slice J n cj, .slice K m ck], .int .i64 p, .slice A np ca] w fun e w' => e = .returned (.bool true) ∧ Ext w w' := by
  have HFEW := Lib.hid (fun W => show Calls Try.prog 14 #[.agg #[.int .i64 L, .slice J n cj, .slice K m ck]] W fun e w' => e = .returned (.bool true) ∧ Ext W w' from by have := few_any (L := L) (J := J) (K := K) (n := n) (m := m) (cj := cj) (ck := ck) W ln lm; rw [show few2 n m = true by simp [few2, h.1, h.2]] at this; exact this)
  have HSE := Lib.hid (fun W (e : Ext w W) => show Calls Try.prog 27 #[.agg #[.int .i64 L, .slice J n cj, .slice K m ck]] W fun e w' => e = .returned (.int .i64 0) ∧ Ext W w' from by have := refShaftErr_any (cj := cj) (ck := ck) (L := L) hn (hJ.ext e) hm (hK.ext e); rw [hz] at this; exact this)
  have HWP := Lib.hid (withinB_t hp)
  have hd10 : decide ((10 : Int) < (np : Int)) = true := by simp; omega
  have hNb : np ≤ 9223372036854775807 := lp
  clear h hn hJ hm hK hz hp ln lm lp
  obtain ⟨W0, hW0⟩ : ∃ W0, W0 = w.alloc (.cells #[.int .i64 L, .slice J n cj, .slice K m ck] 25) := ⟨_, rfl⟩
  have Ky0 := Lib.hid (show Blk W0 (w.heap.size) 25 #[.int .i64 L, .slice J n cj, .slice K m ck] by rw [hW0]; exact Blk.new _ _ _)
  have X := Lib.hid (show Ext w W0 by rw [hW0]; exact Ext.alloc _ _)
  have y0_0 : W0.cell? ⟨w.heap.size, 0, none⟩ = some (.int .i64 L) := Ky0.out.cell 0
  have y0_1 : W0.cell? ⟨w.heap.size, 1, none⟩ = some (.slice J n cj) := Ky0.out.cell 1
  have y0_2 : W0.cell? ⟨w.heap.size, 2, none⟩ = some (.slice K m ck) := Ky0.out.cell 2
  go_enter Try.func4, Try.ntmps4
  go_upto_region 1 with (fail)
  rw [← hW0]
  clear hW0
  go_wp2_with (go_at_call 13; refine (awake_any _).mono ?_; rintro e W1 ⟨rfl, hx⟩; replace X := Lib.hid (X.out.trans hx); replace Ky0 := Lib.hid (Ky0.out.ext hx); clear hx y0_0 y0_1 y0_2; refine Hid.out ?_)
  refine Lib.hid ?_
  have y0_0 : W1.cell? ⟨w.heap.size, 0, none⟩ = some (.int .i64 L) := Ky0.out.cell 0
  have y0_1 : W1.cell? ⟨w.heap.size, 1, none⟩ = some (.slice J n cj) := Ky0.out.cell 1
  have y0_2 : W1.cell? ⟨w.heap.size, 2, none⟩ = some (.slice K m ck) := Ky0.out.cell 2
  go_wp2_with (go_at_call 14; refine (HFEW.out _).mono ?_; rintro e W2 ⟨rfl, hx⟩; replace X := Lib.hid (X.out.trans hx); replace Ky0 := Lib.hid (Ky0.out.ext hx); clear hx y0_0 y0_1 y0_2; refine Hid.out ?_)
  refine Lib.hid ?_
  have y0_0 : W2.cell? ⟨w.heap.size, 0, none⟩ = some (.int .i64 L) := Ky0.out.cell 0
  have y0_1 : W2.cell? ⟨w.heap.size, 1, none⟩ = some (.slice J n cj) := Ky0.out.cell 1
  have y0_2 : W2.cell? ⟨w.heap.size, 2, none⟩ = some (.slice K m ck) := Ky0.out.cell 2
  go_wp2_with (go_at_call 27; refine (HSE.out _ X.out).mono ?_; rintro e W3 ⟨rfl, hx⟩; replace X := Lib.hid (X.out.trans hx); replace Ky0 := Lib.hid (Ky0.out.ext hx); clear hx y0_0 y0_1 y0_2; refine Hid.out ?_)
  refine Lib.hid ?_
  have y0_0 : W3.cell? ⟨w.heap.size, 0, none⟩ = some (.int .i64 L) := Ky0.out.cell 0
  have y0_1 : W3.cell? ⟨w.heap.size, 1, none⟩ = some (.slice J n cj) := Ky0.out.cell 1
  have y0_2 : W3.cell? ⟨w.heap.size, 2, none⟩ = some (.slice K m ck) := Ky0.out.cell 2
  go_wp2_with (go_at_call 21; refine (within_any _ _ _ _).mono ?_; rintro e w' ⟨rfl, rfl⟩; rw [HWP.out])
  go_ret
  exact ⟨rfl, X.out⟩

theorem contained_any {L : Int} {J K : Option Addr} {n m cj ck : Nat} {js : List Int} {ks : List Rg} (p : Int) {A : Option Addr} {np ca : Nat} {ps : List Int} (hn : js.length = n) (hm : ks.length = m) (hjn : J = none → cj = 0) (hkn : K = none → ck = 0) (ln : n ≤ maxLen) (lm : m ≤ maxLen) (hnp : ps.length = np) (lp : np ≤ maxLen) {w : World} (hJ : n ≤ 1000 → RowsAt 1 I1 w J js) (hK : m ≤ 1000 → RowsAt 2 Rg.enc w K ks) (hP : np ≤ 1000 → RowsAt 1 I1 w A ps) :
    Calls Try.prog 4 #[.agg #[.int .i64 L, .slice J n cj, .slice K m ck], .int .i64 p, .slice A np ca] w fun e w' => e = .returned (.bool true) ∧ Ext w w' := by
  by_cases h : n ≤ 6 ∧ m ≤ 6
  · by_cases hz : (checkS L js ks).2 = 0
    · by_cases hp : 0 ≤ p ∧ p ≤ L
      · by_cases h10 : np ≤ 10
        · obtain rfl : n = m := by have := (checkS_ok hz).same; omega
          exact cont_ok hn (hJ (by omega)) hm (hK (by omega)) hnp (hP (by omega)) hjn hkn (checkS_ok hz) hp h10
        · exact cont_long hn (hJ (by omega)) hm (hK (by omega)) h ln lm hz hp h10 lp
      · exact cont_out hn (hJ (by omega)) hm (hK (by omega)) h ln lm hz hp
    · exact cont_bad hn (hJ (by omega)) hm (hK (by omega)) h ln lm rfl hz
  · exact cont_many h ln lm

end Go.Proofs.Ytjdilmmpdlcimaa
