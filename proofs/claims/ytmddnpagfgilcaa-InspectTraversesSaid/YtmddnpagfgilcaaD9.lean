/- InspectTraverses. -/
import Derived.Test.YtmddnpagfgilcaaG11
import Derived.Test.YtmddnpagfgilcaaG7
import Derived.Lib.MinMax

namespace Go.Proofs.Ytmddnpagfgilcaa
open Go.RowKit Go.Shelf Go.Mem Go.RegInv
attribute [local go_sem] RelUpon_value RelUpon_skip RelUpon_enter BigFrame.eval_const BigFrame.eval_global BigFrame.eval_func


theorem case_both {xs : List In} {n : Nat} {l : Int} (hn : xs.length = n) (hz : (checkT xs).2 = 0) (hl : hardB l = true) : ∃ v1 v2 v3 v4 ge : Int,
    (∀ W A c, RowsAt 4 In.enc W A xs → Calls Try.prog 18 #[.agg #[.slice A n c], .int .i64 l] W fun e w' => e = .returned (.tuple #[.agg #[.int .i64 v1, .int .i64 v2, .int .i64 v3, .int .i64 v4], .int .i64 ge]) ∧ Ext W w') ∧
    (∀ W A c, RowsAt 4 In.enc W A xs → Calls Try.prog 24 #[.agg #[.slice A n c], .int .i64 l] W fun e w' => e = .returned (.tuple #[.agg #[.int .i64 v1, .int .i64 v2, .int .i64 v3, .int .i64 v4], .int .i64 ge]) ∧ Ext W w') := by
  have hc : caseE xs l = 0 := by unfold caseE; rw [hz, limE_eq, hl]; rfl
  have hl2 : 0 ≤ l ∧ l ≤ 2000 := by
    unfold hardB at hl; rw [withinB_eq] at hl; exact of_decide_eq_true hl
  by_cases hh : (xs.getD 0 default).hi < l
  · exact ⟨0, 0, 0, 0, 12, fun W A c h => caseOf_none l hn h hc hh, fun W A c h => refCase_none l hn h hz hl2 hh⟩
  · cases hf : fallK (upP xs) l n 0 with
    | none => exact ⟨0, 0, 0, 0, 21, fun W A c h => caseOf_open l hn h hc hh hf, fun W A c h => refCase_open l hn h hz hl2 hh hf⟩
    | some hi =>
      obtain ⟨lo, hg⟩ := fall_both hn hz hf
      exact ⟨lo.1, lo.2, hi.1, hi.2, 0, fun W A c h => caseOf_ok l hn h hc hh hf hg, fun W A c h => refCase_ok l hn h hz hl2 hh hf hg⟩

set_option maxRecDepth 100000 in
set_option maxHeartbeats 8000000 in
theorem trav_few {A : Option Addr} {n ca : Nat} {w : World} (d l : Int) (h22 : 22 < n) : Calls Try.prog 3 #[.agg #[.slice A n ca], .int .i64 d, .int .i64 l] w fun e w' => e = .returned (.bool true) ∧ Ext w w' := by
  have HFW := Lib.hid (fun W => show Calls Try.prog 14 #[.agg #[.slice A n ca]] W fun e w' => e = .returned (.bool false) ∧ Ext W w' from by
    have := few_any (A := A) (n := n) (ca := ca) W
    rw [show decide ((n : Int) ≤ 22) = false by simp; omega] at this
    exact this)
  clear h22
  have P0 := Lib.hid (show Blk (w.alloc (.cells #[.slice A n ca] 24)) w.heap.size 24 #[.slice A n ca] from Blk.new _ _ _)
  go_enter Try.func3, Try.ntmps3
  go_wp2_with (go_at_call 13; refine (awake_any _).mono ?_; rintro e W1 ⟨rfl, hx⟩; have X := Lib.hid ((Ext.alloc _ _).trans hx); have K0 := Lib.hid (P0.out.ext hx); clear hx; refine Hid.out ?_)
  refine Lib.hid ?_
  clear P0
  have y0 : W1.cell? ⟨w.heap.size, 0, none⟩ = some (.slice A n ca) := K0.out.cell 0
  go_wp2_with (go_at_call 14; refine (HFW.out _).mono ?_; rintro e W2 ⟨rfl, hx⟩; have X := Lib.hid (X.out.trans hx); have K0 := Lib.hid (K0.out.ext hx); clear hx y0; refine Hid.out ?_)
  refine Lib.hid ?_
  have y0 : W2.cell? ⟨w.heap.size, 0, none⟩ = some (.slice A n ca) := K0.out.cell 0
  go_wp2
  go_ret
  exact ⟨rfl, X.out⟩

set_option maxRecDepth 100000 in
set_option maxHeartbeats 8000000 in
theorem trav_bad {A : Option Addr} {n ca : Nat} {xs : List In} {w : World} (d l : Int) (hn : xs.length = n) (hr : RowsAt 4 In.enc w A xs) (hnil : A = none → ca = 0) (h22 : n ≤ 22) (hz : (checkT xs).2 ≠ 0) : Calls Try.prog 3 #[.agg #[.slice A n ca], .int .i64 d, .int .i64 l] w fun e w' => e = .returned (.bool true) ∧ Ext w w' := by
  have HFW := Lib.hid (fun W => show Calls Try.prog 14 #[.agg #[.slice A n ca]] W fun e w' => e = .returned (.bool true) ∧ Ext W w' from by
    have := few_any (A := A) (n := n) (ca := ca) W
    rw [show decide ((n : Int) ≤ 22) = true by simp; omega] at this
    exact this)
  have HCP := Lib.hid (fun W (e : Ext w W) => copyTraverse_any (ca := ca) hn (hr.ext e) (by omega) hnil)
  have HCT := Lib.hid (fun W A c (h : RowsAt 4 In.enc W A xs) => show Calls Try.prog 15 #[.agg #[.slice A n c]] W fun e w' => e = .returned (.tuple #[.int .i64 (checkT xs).1, .int .i64 (checkT xs).2]) ∧ Ext W w' from by
    have := checkTraverse_any (ca := c) hn h
  
    exact this)
  have HRT := Lib.hid (fun W (e : Ext w W) => show Calls Try.prog 19 #[.agg #[.slice A n ca]] W fun e w' => e = .returned (.tuple #[.int .i64 (checkT xs).1, .int .i64 (checkT xs).2]) ∧ Ext W w' from by
    have := refTraverse_any (ca := ca) hn (by omega) (hr.ext e)
  
    exact this)
  have HHA := Lib.hid (fun W A c (h : RowsAt 4 In.enc W A xs) => show Calls Try.prog 17 #[.agg #[.slice A n c], .int .i64 d] W fun e w' => e = .returned (.tuple #[.agg #[.int .i64 0, .int .i64 0, .int .i64 0, .int .i64 0], .int .i64 (checkT xs).2]) ∧ Ext W w' from hardAt_bad (ca := c) d hn h hz)
  have HCA := Lib.hid (fun W A c (h : RowsAt 4 In.enc W A xs) => show Calls Try.prog 18 #[.agg #[.slice A n c], .int .i64 l] W fun e w' => e = .returned (.tuple #[.agg #[.int .i64 0, .int .i64 0, .int .i64 0, .int .i64 0], .int .i64 (checkT xs).2]) ∧ Ext W w' from by
    have hc : caseE xs l = (checkT xs).2 := by simp [caseE, firstE, hz]
    have := caseOf_bad (ca := c) l hn h (by rw [hc]; exact hz)
    rw [hc] at this
    exact this)
  clear hr hn hnil h22
  generalize (checkT xs).1 = ei at *
  generalize (checkT xs).2 = ez at *
  have hz1 : (ez == 0) = false := by simp [hz]
  have hz2 : (ez != 0) = true := by simp [hz]
  clear hz
  have P0 := Lib.hid (show Blk (w.alloc (.cells #[.slice A n ca] 24)) w.heap.size 24 #[.slice A n ca] from Blk.new _ _ _)
  go_enter Try.func3, Try.ntmps3
  go_wp2_with (go_at_call 13; refine (awake_any _).mono ?_; rintro e W1 ⟨rfl, hx⟩; have X := Lib.hid ((Ext.alloc _ _).trans hx); have K0 := Lib.hid (P0.out.ext hx); clear hx; refine Hid.out ?_)
  refine Lib.hid ?_
  clear P0
  have y0 : W1.cell? ⟨w.heap.size, 0, none⟩ = some (.slice A n ca) := K0.out.cell 0
  go_wp2_with (go_at_call 14; refine (HFW.out _).mono ?_; rintro e W2 ⟨rfl, hx⟩; have X := Lib.hid (X.out.trans hx); have K0 := Lib.hid (K0.out.ext hx); clear hx y0; refine Hid.out ?_)
  refine Lib.hid ?_
  have y0 : W2.cell? ⟨w.heap.size, 0, none⟩ = some (.slice A n ca) := K0.out.cell 0
  go_wp2_with (go_at_call 16; refine (HCP.out _ X.out).mono ?_; rintro e W3 ⟨A2, c2, rfl, hr2, -, hx⟩; have X := Lib.hid (X.out.trans hx); have K0 := Lib.hid (K0.out.ext hx); have R2 := Lib.hid hr2; clear hr2; clear hx y0; refine Hid.out ?_)
  refine Lib.hid ?_
  have y0 : W3.cell? ⟨w.heap.size, 0, none⟩ = some (.slice A n ca) := K0.out.cell 0
  go_wp2_with (go_at_call 15; refine (HCT.out _ _ _ R2.out).mono ?_; rintro e W4 ⟨rfl, hx⟩; have X := Lib.hid (X.out.trans hx); have K0 := Lib.hid (K0.out.ext hx); clear R2; clear hx y0; refine Hid.out ?_)
  refine Lib.hid ?_
  have y0 : W4.cell? ⟨w.heap.size, 0, none⟩ = some (.slice A n ca) := K0.out.cell 0
  go_wp2_with (go_at_call 16; refine (HCP.out _ X.out).mono ?_; rintro e W5 ⟨A2, c2, rfl, hr2, -, hx⟩; have X := Lib.hid (X.out.trans hx); have K0 := Lib.hid (K0.out.ext hx); have R2 := Lib.hid hr2; clear hr2; clear hx y0; refine Hid.out ?_)
  refine Lib.hid ?_
  have y0 : W5.cell? ⟨w.heap.size, 0, none⟩ = some (.slice A n ca) := K0.out.cell 0
  go_wp2_with (go_at_call 17; refine (HHA.out _ _ _ R2.out).mono ?_; rintro e W6 ⟨rfl, hx⟩; have X := Lib.hid (X.out.trans hx); have K0 := Lib.hid (K0.out.ext hx); clear R2; clear hx y0; refine Hid.out ?_)
  refine Lib.hid ?_
  have y0 : ∀ o1, (W6.alloc o1).cell? ⟨w.heap.size, 0, none⟩ = some (.slice A n ca) := fun o1 => (K0.out.alloc o1).cell 0
  go_wp2_with (fail)
  obtain ⟨V6, hV⟩ : ∃ V1, V1 = W6.alloc (.cells #[.int .i64 0, .int .i64 0, .int .i64 0, .int .i64 0] 34) := ⟨_, rfl⟩
  obtain ⟨q9, hq⟩ : ∃ q, q = W6.heap.size := ⟨_, rfl⟩
  rw [← hV, ← hq]
  have K9 := Lib.hid (show Blk V6 q9 34 #[.int .i64 0, .int .i64 0, .int .i64 0, .int .i64 0] by rw [hV, hq]; exact Blk.new _ _ _)
  have hx : Ext W6 V6 := by rw [hV]; exact Ext.alloc _ _
  have X := Lib.hid (X.out.trans hx); have K0 := Lib.hid (K0.out.ext hx); 
  clear hx hV hq y0
  have y0 : V6.cell? ⟨w.heap.size, 0, none⟩ = some (.slice A n ca) := K0.out.cell 0
  go_wp2_with (go_at_call 16; refine (HCP.out _ X.out).mono ?_; rintro e W7 ⟨A2, c2, rfl, hr2, -, hx⟩; have X := Lib.hid (X.out.trans hx); have K0 := Lib.hid (K0.out.ext hx); have K9 := Lib.hid (K9.out.ext hx); have R2 := Lib.hid hr2; clear hr2; clear hx y0; refine Hid.out ?_)
  refine Lib.hid ?_
  have y0 : W7.cell? ⟨w.heap.size, 0, none⟩ = some (.slice A n ca) := K0.out.cell 0
  go_wp2_with (go_at_call 18; refine (HCA.out _ _ _ R2.out).mono ?_; rintro e W8 ⟨rfl, hx⟩; have X := Lib.hid (X.out.trans hx); have K0 := Lib.hid (K0.out.ext hx); have K9 := Lib.hid (K9.out.ext hx); clear R2; clear hx y0; refine Hid.out ?_)
  refine Lib.hid ?_
  have y0 : ∀ o1, (W8.alloc o1).cell? ⟨w.heap.size, 0, none⟩ = some (.slice A n ca) := fun o1 => (K0.out.alloc o1).cell 0
  go_wp2_with (fail)
  obtain ⟨V8, hV⟩ : ∃ V1, V1 = W8.alloc (.cells #[.int .i64 0, .int .i64 0, .int .i64 0, .int .i64 0] 34) := ⟨_, rfl⟩
  obtain ⟨q11, hq⟩ : ∃ q, q = W8.heap.size := ⟨_, rfl⟩
  rw [← hV, ← hq]
  have K11 := Lib.hid (show Blk V8 q11 34 #[.int .i64 0, .int .i64 0, .int .i64 0, .int .i64 0] by rw [hV, hq]; exact Blk.new _ _ _)
  have hx : Ext W8 V8 := by rw [hV]; exact Ext.alloc _ _
  have X := Lib.hid (X.out.trans hx); have K0 := Lib.hid (K0.out.ext hx); have K9 := Lib.hid (K9.out.ext hx); 
  clear hx hV hq y0
  have y0 : V8.cell? ⟨w.heap.size, 0, none⟩ = some (.slice A n ca) := K0.out.cell 0
  go_wp2_with (go_at_call 19; refine (HRT.out _ X.out).mono ?_; rintro e W9 ⟨rfl, hx⟩; have X := Lib.hid (X.out.trans hx); have K0 := Lib.hid (K0.out.ext hx); have K9 := Lib.hid (K9.out.ext hx); have K11 := Lib.hid (K11.out.ext hx); clear hx y0; refine Hid.out ?_)
  refine Lib.hid ?_
  have y0 : W9.cell? ⟨w.heap.size, 0, none⟩ = some (.slice A n ca) := K0.out.cell 0
  have z0 : W9.cell? ⟨q9, 0, none⟩ = some (.int .i64 0) := K9.out.cell 0
  have z1 : W9.cell? ⟨q9, 1, none⟩ = some (.int .i64 0) := K9.out.cell 1
  have z2 : W9.cell? ⟨q9, 2, none⟩ = some (.int .i64 0) := K9.out.cell 2
  have z3 : W9.cell? ⟨q9, 3, none⟩ = some (.int .i64 0) := K9.out.cell 3
  have u0 : W9.cell? ⟨q11, 0, none⟩ = some (.int .i64 0) := K11.out.cell 0
  have u1 : W9.cell? ⟨q11, 1, none⟩ = some (.int .i64 0) := K11.out.cell 1
  have u2 : W9.cell? ⟨q11, 2, none⟩ = some (.int .i64 0) := K11.out.cell 2
  have u3 : W9.cell? ⟨q11, 3, none⟩ = some (.int .i64 0) := K11.out.cell 3
  go_wp2
  go_ret
  exact ⟨rfl, X.out⟩

set_option maxRecDepth 100000 in
set_option maxHeartbeats 8000000 in
theorem trav_missBad {A : Option Addr} {n ca : Nat} {xs : List In} {w : World} (d l : Int) (hn : xs.length = n) (hr : RowsAt 4 In.enc w A xs) (hnil : A = none → ca = 0) (hz : (checkT xs).2 = 0) (hd : withinB d (xs.getD 0 default).d (xs.getD (n - 1) default).d = false) (hl : hardB l = false) : Calls Try.prog 3 #[.agg #[.slice A n ca], .int .i64 d, .int .i64 l] w fun e w' => e = .returned (.bool true) ∧ Ext w w' := by
  obtain ⟨m2, m20, hok⟩ := checkT_ok hz
  rw [hn] at m2 m20
  have HFW := Lib.hid (fun W => show Calls Try.prog 14 #[.agg #[.slice A n ca]] W fun e w' => e = .returned (.bool true) ∧ Ext W w' from by
    have := few_any (A := A) (n := n) (ca := ca) W
    rw [show decide ((n : Int) ≤ 22) = true by simp; omega] at this
    exact this)
  have HCP := Lib.hid (fun W (e : Ext w W) => copyTraverse_any (ca := ca) hn (hr.ext e) (by omega) hnil)
  have HCT := Lib.hid (fun W A c (h : RowsAt 4 In.enc W A xs) => show Calls Try.prog 15 #[.agg #[.slice A n c]] W fun e w' => e = .returned (.tuple #[.int .i64 (checkT xs).1, .int .i64 0]) ∧ Ext W w' from by
    have := checkTraverse_any (ca := c) hn h
    rw [hz] at this
    exact this)
  have HRT := Lib.hid (fun W (e : Ext w W) => show Calls Try.prog 19 #[.agg #[.slice A n ca]] W fun e w' => e = .returned (.tuple #[.int .i64 (checkT xs).1, .int .i64 0]) ∧ Ext W w' from by
    have := refTraverse_any (ca := ca) hn (by omega) (hr.ext e)
    rw [hz] at this
    exact this)
  have HHA := Lib.hid (fun W A c (h : RowsAt 4 In.enc W A xs) => show Calls Try.prog 17 #[.agg #[.slice A n c], .int .i64 d] W fun e w' => e = .returned (.tuple #[.agg #[.int .i64 0, .int .i64 0, .int .i64 0, .int .i64 0], .int .i64 2]) ∧ Ext W w' from hardAt_miss (ca := c) d hn h hz hd)
  have HCA := Lib.hid (fun W A c (h : RowsAt 4 In.enc W A xs) => show Calls Try.prog 18 #[.agg #[.slice A n c], .int .i64 l] W fun e w' => e = .returned (.tuple #[.agg #[.int .i64 0, .int .i64 0, .int .i64 0, .int .i64 0], .int .i64 2]) ∧ Ext W w' from by
    have hc : caseE xs l = 2 := by unfold caseE; rw [hz, limE_eq, hl]; rfl
    have := caseOf_bad (ca := c) l hn h (by rw [hc]; decide)
    rw [hc] at this
    exact this)
  have HLM := Lib.hid (fun W => show Calls Try.prog 23 #[.int .i64 l] W fun e w' => e = .returned (.int .i64 2) ∧ W = w' from by
    have := refLimit_any l W
    rw [hl] at this
    exact this)
  have HWI := Lib.hid (fun W => show Calls Try.prog 20 #[.int .i64 d, .int .i64 (xs.getD 0 default).d, .int .i64 (xs.getD (n - 1) default).d] W fun e w' => e = .returned (.bool false) ∧ W = w' from by
    have := within_any d (xs.getD 0 default).d (xs.getD (n - 1) default).d W
    rw [hd] at this
    exact this)
  obtain ⟨x0, hx0⟩ : ∃ x0, x0 = xs.getD 0 default := ⟨_, rfl⟩
  obtain ⟨x1, hx1⟩ : ∃ x1, x1 = xs.getD (n - 1) default := ⟨_, rfl⟩
  have g0 : xs[0]? = some x0 := by rw [hx0]; exact getI hn (by omega)
  have g1 : xs[n - 1]? = some x1 := by rw [hx1]; exact getI hn (by omega)
  obtain ⟨b, o, rfl, hb, hc⟩ := row_at hr g0
  obtain ⟨b2, o2, he, _, hc2⟩ := row_at hr g1
  obtain ⟨rfl, rfl⟩ : b = b2 ∧ o = o2 := by simpa using he
  have G0 := Lib.hid (show w.cell? ⟨b, o, none⟩ = some (.int .i64 x0.d) by have := hc 0 _ rfl; simpa using this)
  have G1 := Lib.hid (show w.cell? ⟨b, o + (n - 1) * 4, none⟩ = some (.int .i64 x1.d) from hc2 0 _ rfl)
  clear hc hc2 he g0 g1 hb
  rw [← hx0, ← hx1] at HWI
  clear hn hr hz hnil hok hx0 hx1 hd hl
  generalize (checkT xs).1 = ei at *
  have P0 := Lib.hid (show Blk (w.alloc (.cells #[.slice (some ⟨b, o, none⟩) n ca] 24)) w.heap.size 24 #[.slice (some ⟨b, o, none⟩) n ca] from Blk.new _ _ _)
  go_enter Try.func3, Try.ntmps3
  go_wp2_with (go_at_call 13; refine (awake_any _).mono ?_; rintro e W1 ⟨rfl, hx⟩; have X := Lib.hid ((Ext.alloc _ _).trans hx); have K0 := Lib.hid (P0.out.ext hx); clear hx; refine Hid.out ?_)
  refine Lib.hid ?_
  clear P0
  have y0 : W1.cell? ⟨w.heap.size, 0, none⟩ = some (.slice (some ⟨b, o, none⟩) n ca) := K0.out.cell 0
  go_wp2_with (go_at_call 14; refine (HFW.out _).mono ?_; rintro e W2 ⟨rfl, hx⟩; have X := Lib.hid (X.out.trans hx); have K0 := Lib.hid (K0.out.ext hx); clear hx y0; refine Hid.out ?_)
  refine Lib.hid ?_
  have y0 : W2.cell? ⟨w.heap.size, 0, none⟩ = some (.slice (some ⟨b, o, none⟩) n ca) := K0.out.cell 0
  go_wp2_with (go_at_call 16; refine (HCP.out _ X.out).mono ?_; rintro e W3 ⟨A2, c2, rfl, hr2, -, hx⟩; have X := Lib.hid (X.out.trans hx); have K0 := Lib.hid (K0.out.ext hx); have R2 := Lib.hid hr2; clear hr2; clear hx y0; refine Hid.out ?_)
  refine Lib.hid ?_
  have y0 : W3.cell? ⟨w.heap.size, 0, none⟩ = some (.slice (some ⟨b, o, none⟩) n ca) := K0.out.cell 0
  go_wp2_with (go_at_call 15; refine (HCT.out _ _ _ R2.out).mono ?_; rintro e W4 ⟨rfl, hx⟩; have X := Lib.hid (X.out.trans hx); have K0 := Lib.hid (K0.out.ext hx); clear R2; clear hx y0; refine Hid.out ?_)
  refine Lib.hid ?_
  have y0 : W4.cell? ⟨w.heap.size, 0, none⟩ = some (.slice (some ⟨b, o, none⟩) n ca) := K0.out.cell 0
  go_wp2_with (go_at_call 16; refine (HCP.out _ X.out).mono ?_; rintro e W5 ⟨A2, c2, rfl, hr2, -, hx⟩; have X := Lib.hid (X.out.trans hx); have K0 := Lib.hid (K0.out.ext hx); have R2 := Lib.hid hr2; clear hr2; clear hx y0; refine Hid.out ?_)
  refine Lib.hid ?_
  have y0 : W5.cell? ⟨w.heap.size, 0, none⟩ = some (.slice (some ⟨b, o, none⟩) n ca) := K0.out.cell 0
  go_wp2_with (go_at_call 17; refine (HHA.out _ _ _ R2.out).mono ?_; rintro e W6 ⟨rfl, hx⟩; have X := Lib.hid (X.out.trans hx); have K0 := Lib.hid (K0.out.ext hx); clear R2; clear hx y0; refine Hid.out ?_)
  refine Lib.hid ?_
  have y0 : ∀ o1, (W6.alloc o1).cell? ⟨w.heap.size, 0, none⟩ = some (.slice (some ⟨b, o, none⟩) n ca) := fun o1 => (K0.out.alloc o1).cell 0
  go_wp2_with (fail)
  obtain ⟨V6, hV⟩ : ∃ V1, V1 = W6.alloc (.cells #[.int .i64 0, .int .i64 0, .int .i64 0, .int .i64 0] 34) := ⟨_, rfl⟩
  obtain ⟨q9, hq⟩ : ∃ q, q = W6.heap.size := ⟨_, rfl⟩
  rw [← hV, ← hq]
  have K9 := Lib.hid (show Blk V6 q9 34 #[.int .i64 0, .int .i64 0, .int .i64 0, .int .i64 0] by rw [hV, hq]; exact Blk.new _ _ _)
  have hx : Ext W6 V6 := by rw [hV]; exact Ext.alloc _ _
  have X := Lib.hid (X.out.trans hx); have K0 := Lib.hid (K0.out.ext hx); 
  clear hx hV hq y0
  have y0 : V6.cell? ⟨w.heap.size, 0, none⟩ = some (.slice (some ⟨b, o, none⟩) n ca) := K0.out.cell 0
  go_wp2_with (go_at_call 16; refine (HCP.out _ X.out).mono ?_; rintro e W7 ⟨A2, c2, rfl, hr2, -, hx⟩; have X := Lib.hid (X.out.trans hx); have K0 := Lib.hid (K0.out.ext hx); have K9 := Lib.hid (K9.out.ext hx); have R2 := Lib.hid hr2; clear hr2; clear hx y0; refine Hid.out ?_)
  refine Lib.hid ?_
  have y0 : W7.cell? ⟨w.heap.size, 0, none⟩ = some (.slice (some ⟨b, o, none⟩) n ca) := K0.out.cell 0
  go_wp2_with (go_at_call 18; refine (HCA.out _ _ _ R2.out).mono ?_; rintro e W8 ⟨rfl, hx⟩; have X := Lib.hid (X.out.trans hx); have K0 := Lib.hid (K0.out.ext hx); have K9 := Lib.hid (K9.out.ext hx); clear R2; clear hx y0; refine Hid.out ?_)
  refine Lib.hid ?_
  have y0 : ∀ o1, (W8.alloc o1).cell? ⟨w.heap.size, 0, none⟩ = some (.slice (some ⟨b, o, none⟩) n ca) := fun o1 => (K0.out.alloc o1).cell 0
  go_wp2_with (fail)
  obtain ⟨V8, hV⟩ : ∃ V1, V1 = W8.alloc (.cells #[.int .i64 0, .int .i64 0, .int .i64 0, .int .i64 0] 34) := ⟨_, rfl⟩
  obtain ⟨q11, hq⟩ : ∃ q, q = W8.heap.size := ⟨_, rfl⟩
  rw [← hV, ← hq]
  have K11 := Lib.hid (show Blk V8 q11 34 #[.int .i64 0, .int .i64 0, .int .i64 0, .int .i64 0] by rw [hV, hq]; exact Blk.new _ _ _)
  have hx : Ext W8 V8 := by rw [hV]; exact Ext.alloc _ _
  have X := Lib.hid (X.out.trans hx); have K0 := Lib.hid (K0.out.ext hx); have K9 := Lib.hid (K9.out.ext hx); 
  clear hx hV hq y0
  have y0 : V8.cell? ⟨w.heap.size, 0, none⟩ = some (.slice (some ⟨b, o, none⟩) n ca) := K0.out.cell 0
  go_wp2_with (go_at_call 19; refine (HRT.out _ X.out).mono ?_; rintro e W9 ⟨rfl, hx⟩; have X := Lib.hid (X.out.trans hx); have K0 := Lib.hid (K0.out.ext hx); have K9 := Lib.hid (K9.out.ext hx); have K11 := Lib.hid (K11.out.ext hx); clear hx y0; refine Hid.out ?_)
  refine Lib.hid ?_
  have y0 : W9.cell? ⟨w.heap.size, 0, none⟩ = some (.slice (some ⟨b, o, none⟩) n ca) := K0.out.cell 0
  have g0 := X.out.cell G0.out
  have g1 := X.out.cell G1.out
  go_wp2
  refine wp_region_each [some 74, some 75, some 76, some 77, some 78, some 79, some 80, some 81, some 82, some 83, some 84, some 85, some 86, some 87, some 88, some 89, some 90] [[1], [3], [75], [76], [77], [78], [3], [80], [3], [82], [83], [84], [81, 85], [86], [87], [74, 79, 88], [89]]
    [Is (.int .i64 (d)), Is (.pointer (some ⟨w.heap.size, 0, none⟩)), Is (.slice (some ⟨b, o, none⟩) n ca), Is (.pointer (some ⟨b, o, none⟩)), Is (.pointer (some ⟨b, o, none⟩)), Is (.int .i64 (x0.d)), Is (.pointer (some ⟨w.heap.size, 0, none⟩)), Is (.slice (some ⟨b, o, none⟩) n ca), Is (.pointer (some ⟨w.heap.size, 0, none⟩)), Is (.slice (some ⟨b, o, none⟩) n ca), Is (.int .i64 ((n : Int))), Is (.int .i64 ((n : Int) - 1)), Is (.pointer (some ⟨b, o + (n - 1) * 4, none⟩)), Is (.pointer (some ⟨b, o + (n - 1) * 4, none⟩)), Is (.int .i64 (x1.d)), Is (.bool (false)), Is (.bool (true))]
    (by kernel_rfl) (by kernel_rfl) (by kernel_rfl) (by kernel_rfl) (by kernel_rfl) Ext (fun W => Ext W9 W)
    (fun W _ => Ext.refl W) (fun W W' h k => h.trans k) ?_ (Ext.drew _) ?_ ?_
  · repeat (refine ⟨fun _ _ _ _ k h => (by first | exact h | exact (IntsAt.ext h k)), ?_⟩)
    exact trivial
  · refine ⟨?_, ?_, ?_, ?_, ?_, ?_, ?_, ?_, ?_, ?_, ?_, ?_, ?_, ?_, ?_, ?_, ?_, trivial⟩
    all_goals intro ρ W ⟨kc, kg, kf⟩ hF hs
    · obtain ⟨h0, -⟩ := hs
      replace h0 : ρ (.tmp 1) = .int .i64 (d) := h0
      go_simp
      exact ⟨Ext.refl _, rfl⟩
    · obtain ⟨h0, -⟩ := hs
      replace h0 : ρ (.tmp 3) = .pointer (some ⟨w.heap.size, 0, none⟩) := h0
      go_simp
      exact ⟨Ext.refl _, rfl⟩
    · obtain ⟨h0, -⟩ := hs
      replace h0 : ρ (.tmp 75) = .pointer (some ⟨w.heap.size, 0, none⟩) := h0
      have hc0 : W.cell? ⟨w.heap.size, 0, none⟩ = some (.slice (some ⟨b, o, none⟩) n ca) := hF.cell (by assumption)
      go_simp
      exact ⟨Ext.refl _, rfl⟩
    · obtain ⟨h0, -⟩ := hs
      replace h0 : ρ (.tmp 76) = .slice (some ⟨b, o, none⟩) n ca := h0
      have hb2 : (0 : Int) < (n : Int) := by omega
      have hb3 : 0 < n := by omega
      go_simp
      exact ⟨Ext.refl _, rfl⟩
    · obtain ⟨h0, -⟩ := hs
      replace h0 : ρ (.tmp 77) = .pointer (some ⟨b, o, none⟩) := h0
      go_simp
      exact ⟨Ext.refl _, rfl⟩
    · obtain ⟨h0, -⟩ := hs
      replace h0 : ρ (.tmp 78) = .pointer (some ⟨b, o, none⟩) := h0
      have hc0 : W.cell? ⟨b, o, none⟩ = some (.int .i64 (x0.d)) := hF.cell (by assumption)
      go_simp
      exact ⟨Ext.refl _, rfl⟩
    · obtain ⟨h0, -⟩ := hs
      replace h0 : ρ (.tmp 3) = .pointer (some ⟨w.heap.size, 0, none⟩) := h0
      go_simp
      exact ⟨Ext.refl _, rfl⟩
    · obtain ⟨h0, -⟩ := hs
      replace h0 : ρ (.tmp 80) = .pointer (some ⟨w.heap.size, 0, none⟩) := h0
      have hc0 : W.cell? ⟨w.heap.size, 0, none⟩ = some (.slice (some ⟨b, o, none⟩) n ca) := hF.cell (by assumption)
      go_simp
      exact ⟨Ext.refl _, rfl⟩
    · obtain ⟨h0, -⟩ := hs
      replace h0 : ρ (.tmp 3) = .pointer (some ⟨w.heap.size, 0, none⟩) := h0
      go_simp
      exact ⟨Ext.refl _, rfl⟩
    · obtain ⟨h0, -⟩ := hs
      replace h0 : ρ (.tmp 82) = .pointer (some ⟨w.heap.size, 0, none⟩) := h0
      have hc0 : W.cell? ⟨w.heap.size, 0, none⟩ = some (.slice (some ⟨b, o, none⟩) n ca) := hF.cell (by assumption)
      go_simp
      exact ⟨Ext.refl _, rfl⟩
    · obtain ⟨h0, -⟩ := hs
      replace h0 : ρ (.tmp 83) = .slice (some ⟨b, o, none⟩) n ca := h0
      go_simp
      exact ⟨Ext.refl _, rfl⟩
    · obtain ⟨h0, -⟩ := hs
      replace h0 : ρ (.tmp 84) = .int .i64 ((n : Int)) := h0
      have hw : IntKind.i64.wrap ((n : Int) - 1) = (n : Int) - 1 := wrap_id _ (by omega) (by omega)
      go_simp
      exact ⟨Ext.refl _, rfl⟩
    · obtain ⟨h0, h1, -⟩ := hs
      replace h0 : ρ (.tmp 81) = .slice (some ⟨b, o, none⟩) n ca := h0
      replace h1 : ρ (.tmp 85) = .int .i64 ((n : Int) - 1) := h1
      have hb6 : (1 : Int) ≤ (n : Int) := by omega
      have hb2 : (n : Int) - 1 < (n : Int) := by omega
      have hb3 : (0 : Int) ≤ (n : Int) - 1 := by omega
      have hb4 : ((n : Int) - 1).toNat = n - 1 := by omega
      have hb5 : n - 1 < n := by omega
      go_simp
      exact ⟨Ext.refl _, rfl⟩
    · obtain ⟨h0, -⟩ := hs
      replace h0 : ρ (.tmp 86) = .pointer (some ⟨b, o + (n - 1) * 4, none⟩) := h0
      go_simp
      exact ⟨Ext.refl _, rfl⟩
    · obtain ⟨h0, -⟩ := hs
      replace h0 : ρ (.tmp 87) = .pointer (some ⟨b, o + (n - 1) * 4, none⟩) := h0
      have hc0 : W.cell? ⟨b, o + (n - 1) * 4, none⟩ = some (.int .i64 (x1.d)) := hF.cell (by assumption)
      go_simp
      exact ⟨Ext.refl _, rfl⟩
    · obtain ⟨h0, h1, h2, -⟩ := hs
      replace h0 : ρ (.tmp 74) = .int .i64 (d) := h0
      replace h1 : ρ (.tmp 79) = .int .i64 (x0.d) := h1
      replace h2 : ρ (.tmp 88) = .int .i64 (x1.d) := h2
      go_simp
      refine (HWI.out _).mono ?_; rintro e w' ⟨rfl, rfl⟩; exact ⟨_, rfl, Ext.refl _, rfl⟩
    · obtain ⟨h0, -⟩ := hs
      replace h0 : ρ (.tmp 89) = .bool (false) := h0
      go_simp
      exact ⟨Ext.refl _, rfl⟩
  · intro fv V9 hF hs
    obtain ⟨-, -, -, -, -, -, -, -, -, -, -, -, -, -, -, -, h90, -⟩ := hs
    replace h90 : fv 90 = .bool (true) := h90
    simp only [fin, List.filterMap]
    go_simp
    have X := Lib.hid (X.out.trans hF); have K0 := Lib.hid (K0.out.ext hF); have K9 := Lib.hid (K9.out.ext hF); have K11 := Lib.hid (K11.out.ext hF); 
    clear hF y0 g0 g1 h90
    have y0 : V9.cell? ⟨w.heap.size, 0, none⟩ = some (.slice (some ⟨b, o, none⟩) n ca) := K0.out.cell 0
    have z0 : V9.cell? ⟨q9, 0, none⟩ = some (.int .i64 0) := K9.out.cell 0
    have z1 : V9.cell? ⟨q9, 1, none⟩ = some (.int .i64 0) := K9.out.cell 1
    have z2 : V9.cell? ⟨q9, 2, none⟩ = some (.int .i64 0) := K9.out.cell 2
    have z3 : V9.cell? ⟨q9, 3, none⟩ = some (.int .i64 0) := K9.out.cell 3
    go_wp2_with (go_at_call 23; refine (HLM.out _).mono ?_; rintro e w2 ⟨rfl, rfl⟩; refine Hid.out ?_)
    refine Lib.hid ?_
    have u0 : V9.cell? ⟨q11, 0, none⟩ = some (.int .i64 0) := K11.out.cell 0
    have u1 : V9.cell? ⟨q11, 1, none⟩ = some (.int .i64 0) := K11.out.cell 1
    have u2 : V9.cell? ⟨q11, 2, none⟩ = some (.int .i64 0) := K11.out.cell 2
    have u3 : V9.cell? ⟨q11, 3, none⟩ = some (.int .i64 0) := K11.out.cell 3
    go_wp2
    go_ret
    exact ⟨rfl, X.out⟩

set_option maxRecDepth 100000 in
set_option maxHeartbeats 8000000 in
theorem trav_missFine {A : Option Addr} {n ca : Nat} {xs : List In} {w : World} (d l : Int) (hn : xs.length = n) (hr : RowsAt 4 In.enc w A xs) (hnil : A = none → ca = 0) (hz : (checkT xs).2 = 0) (hd : withinB d (xs.getD 0 default).d (xs.getD (n - 1) default).d = false) (hl : hardB l = true) : Calls Try.prog 3 #[.agg #[.slice A n ca], .int .i64 d, .int .i64 l] w fun e w' => e = .returned (.bool true) ∧ Ext w w' := by
  obtain ⟨m2, m20, hok⟩ := checkT_ok hz
  rw [hn] at m2 m20
  have HFW := Lib.hid (fun W => show Calls Try.prog 14 #[.agg #[.slice A n ca]] W fun e w' => e = .returned (.bool true) ∧ Ext W w' from by
    have := few_any (A := A) (n := n) (ca := ca) W
    rw [show decide ((n : Int) ≤ 22) = true by simp; omega] at this
    exact this)
  have HCP := Lib.hid (fun W (e : Ext w W) => copyTraverse_any (ca := ca) hn (hr.ext e) (by omega) hnil)
  have HCT := Lib.hid (fun W A c (h : RowsAt 4 In.enc W A xs) => show Calls Try.prog 15 #[.agg #[.slice A n c]] W fun e w' => e = .returned (.tuple #[.int .i64 (checkT xs).1, .int .i64 0]) ∧ Ext W w' from by
    have := checkTraverse_any (ca := c) hn h
    rw [hz] at this
    exact this)
  have HRT := Lib.hid (fun W (e : Ext w W) => show Calls Try.prog 19 #[.agg #[.slice A n ca]] W fun e w' => e = .returned (.tuple #[.int .i64 (checkT xs).1, .int .i64 0]) ∧ Ext W w' from by
    have := refTraverse_any (ca := ca) hn (by omega) (hr.ext e)
    rw [hz] at this
    exact this)
  have HHA := Lib.hid (fun W A c (h : RowsAt 4 In.enc W A xs) => show Calls Try.prog 17 #[.agg #[.slice A n c], .int .i64 d] W fun e w' => e = .returned (.tuple #[.agg #[.int .i64 0, .int .i64 0, .int .i64 0, .int .i64 0], .int .i64 2]) ∧ Ext W w' from hardAt_miss (ca := c) d hn h hz hd)
  obtain ⟨v1, v2, v3, v4, ge, hca, hcr⟩ := case_both hn hz hl
  have HCA := Lib.hid (fun W A c (h : RowsAt 4 In.enc W A xs) => show Calls Try.prog 18 #[.agg #[.slice A n c], .int .i64 l] W fun e w' => e = .returned (.tuple #[.agg #[.int .i64 v1, .int .i64 v2, .int .i64 v3, .int .i64 v4], .int .i64 ge]) ∧ Ext W w' from by
    exact hca W A c h)
  have HCR := Lib.hid (fun W (e : Ext w W) => hcr W A ca (hr.ext e))
  clear hca hcr
  have HLM := Lib.hid (fun W => show Calls Try.prog 23 #[.int .i64 l] W fun e w' => e = .returned (.int .i64 0) ∧ W = w' from by
    have := refLimit_any l W
    rw [hl] at this
    exact this)
  have HWI := Lib.hid (fun W => show Calls Try.prog 20 #[.int .i64 d, .int .i64 (xs.getD 0 default).d, .int .i64 (xs.getD (n - 1) default).d] W fun e w' => e = .returned (.bool false) ∧ W = w' from by
    have := within_any d (xs.getD 0 default).d (xs.getD (n - 1) default).d W
    rw [hd] at this
    exact this)
  obtain ⟨x0, hx0⟩ : ∃ x0, x0 = xs.getD 0 default := ⟨_, rfl⟩
  obtain ⟨x1, hx1⟩ : ∃ x1, x1 = xs.getD (n - 1) default := ⟨_, rfl⟩
  have g0 : xs[0]? = some x0 := by rw [hx0]; exact getI hn (by omega)
  have g1 : xs[n - 1]? = some x1 := by rw [hx1]; exact getI hn (by omega)
  obtain ⟨b, o, rfl, hb, hc⟩ := row_at hr g0
  obtain ⟨b2, o2, he, _, hc2⟩ := row_at hr g1
  obtain ⟨rfl, rfl⟩ : b = b2 ∧ o = o2 := by simpa using he
  have G0 := Lib.hid (show w.cell? ⟨b, o, none⟩ = some (.int .i64 x0.d) by have := hc 0 _ rfl; simpa using this)
  have G1 := Lib.hid (show w.cell? ⟨b, o + (n - 1) * 4, none⟩ = some (.int .i64 x1.d) from hc2 0 _ rfl)
  clear hc hc2 he g0 g1 hb
  rw [← hx0, ← hx1] at HWI
  clear hn hr hz hnil hok hx0 hx1 hd hl
  generalize (checkT xs).1 = ei at *
  have P0 := Lib.hid (show Blk (w.alloc (.cells #[.slice (some ⟨b, o, none⟩) n ca] 24)) w.heap.size 24 #[.slice (some ⟨b, o, none⟩) n ca] from Blk.new _ _ _)
  go_enter Try.func3, Try.ntmps3
  go_wp2_with (go_at_call 13; refine (awake_any _).mono ?_; rintro e W1 ⟨rfl, hx⟩; have X := Lib.hid ((Ext.alloc _ _).trans hx); have K0 := Lib.hid (P0.out.ext hx); clear hx; refine Hid.out ?_)
  refine Lib.hid ?_
  clear P0
  have y0 : W1.cell? ⟨w.heap.size, 0, none⟩ = some (.slice (some ⟨b, o, none⟩) n ca) := K0.out.cell 0
  go_wp2_with (go_at_call 14; refine (HFW.out _).mono ?_; rintro e W2 ⟨rfl, hx⟩; have X := Lib.hid (X.out.trans hx); have K0 := Lib.hid (K0.out.ext hx); clear hx y0; refine Hid.out ?_)
  refine Lib.hid ?_
  have y0 : W2.cell? ⟨w.heap.size, 0, none⟩ = some (.slice (some ⟨b, o, none⟩) n ca) := K0.out.cell 0
  go_wp2_with (go_at_call 16; refine (HCP.out _ X.out).mono ?_; rintro e W3 ⟨A2, c2, rfl, hr2, -, hx⟩; have X := Lib.hid (X.out.trans hx); have K0 := Lib.hid (K0.out.ext hx); have R2 := Lib.hid hr2; clear hr2; clear hx y0; refine Hid.out ?_)
  refine Lib.hid ?_
  have y0 : W3.cell? ⟨w.heap.size, 0, none⟩ = some (.slice (some ⟨b, o, none⟩) n ca) := K0.out.cell 0
  go_wp2_with (go_at_call 15; refine (HCT.out _ _ _ R2.out).mono ?_; rintro e W4 ⟨rfl, hx⟩; have X := Lib.hid (X.out.trans hx); have K0 := Lib.hid (K0.out.ext hx); clear R2; clear hx y0; refine Hid.out ?_)
  refine Lib.hid ?_
  have y0 : W4.cell? ⟨w.heap.size, 0, none⟩ = some (.slice (some ⟨b, o, none⟩) n ca) := K0.out.cell 0
  go_wp2_with (go_at_call 16; refine (HCP.out _ X.out).mono ?_; rintro e W5 ⟨A2, c2, rfl, hr2, -, hx⟩; have X := Lib.hid (X.out.trans hx); have K0 := Lib.hid (K0.out.ext hx); have R2 := Lib.hid hr2; clear hr2; clear hx y0; refine Hid.out ?_)
  refine Lib.hid ?_
  have y0 : W5.cell? ⟨w.heap.size, 0, none⟩ = some (.slice (some ⟨b, o, none⟩) n ca) := K0.out.cell 0
  go_wp2_with (go_at_call 17; refine (HHA.out _ _ _ R2.out).mono ?_; rintro e W6 ⟨rfl, hx⟩; have X := Lib.hid (X.out.trans hx); have K0 := Lib.hid (K0.out.ext hx); clear R2; clear hx y0; refine Hid.out ?_)
  refine Lib.hid ?_
  have y0 : ∀ o1, (W6.alloc o1).cell? ⟨w.heap.size, 0, none⟩ = some (.slice (some ⟨b, o, none⟩) n ca) := fun o1 => (K0.out.alloc o1).cell 0
  go_wp2_with (fail)
  obtain ⟨V6, hV⟩ : ∃ V1, V1 = W6.alloc (.cells #[.int .i64 0, .int .i64 0, .int .i64 0, .int .i64 0] 34) := ⟨_, rfl⟩
  obtain ⟨q9, hq⟩ : ∃ q, q = W6.heap.size := ⟨_, rfl⟩
  rw [← hV, ← hq]
  have K9 := Lib.hid (show Blk V6 q9 34 #[.int .i64 0, .int .i64 0, .int .i64 0, .int .i64 0] by rw [hV, hq]; exact Blk.new _ _ _)
  have hx : Ext W6 V6 := by rw [hV]; exact Ext.alloc _ _
  have X := Lib.hid (X.out.trans hx); have K0 := Lib.hid (K0.out.ext hx); 
  clear hx hV hq y0
  have y0 : V6.cell? ⟨w.heap.size, 0, none⟩ = some (.slice (some ⟨b, o, none⟩) n ca) := K0.out.cell 0
  go_wp2_with (go_at_call 16; refine (HCP.out _ X.out).mono ?_; rintro e W7 ⟨A2, c2, rfl, hr2, -, hx⟩; have X := Lib.hid (X.out.trans hx); have K0 := Lib.hid (K0.out.ext hx); have K9 := Lib.hid (K9.out.ext hx); have R2 := Lib.hid hr2; clear hr2; clear hx y0; refine Hid.out ?_)
  refine Lib.hid ?_
  have y0 : W7.cell? ⟨w.heap.size, 0, none⟩ = some (.slice (some ⟨b, o, none⟩) n ca) := K0.out.cell 0
  go_wp2_with (go_at_call 18; refine (HCA.out _ _ _ R2.out).mono ?_; rintro e W8 ⟨rfl, hx⟩; have X := Lib.hid (X.out.trans hx); have K0 := Lib.hid (K0.out.ext hx); have K9 := Lib.hid (K9.out.ext hx); clear R2; clear hx y0; refine Hid.out ?_)
  refine Lib.hid ?_
  have y0 : ∀ o1, (W8.alloc o1).cell? ⟨w.heap.size, 0, none⟩ = some (.slice (some ⟨b, o, none⟩) n ca) := fun o1 => (K0.out.alloc o1).cell 0
  go_wp2_with (fail)
  obtain ⟨V8, hV⟩ : ∃ V1, V1 = W8.alloc (.cells #[.int .i64 v1, .int .i64 v2, .int .i64 v3, .int .i64 v4] 34) := ⟨_, rfl⟩
  obtain ⟨q11, hq⟩ : ∃ q, q = W8.heap.size := ⟨_, rfl⟩
  rw [← hV, ← hq]
  have K11 := Lib.hid (show Blk V8 q11 34 #[.int .i64 v1, .int .i64 v2, .int .i64 v3, .int .i64 v4] by rw [hV, hq]; exact Blk.new _ _ _)
  have hx : Ext W8 V8 := by rw [hV]; exact Ext.alloc _ _
  have X := Lib.hid (X.out.trans hx); have K0 := Lib.hid (K0.out.ext hx); have K9 := Lib.hid (K9.out.ext hx); 
  clear hx hV hq y0
  have y0 : V8.cell? ⟨w.heap.size, 0, none⟩ = some (.slice (some ⟨b, o, none⟩) n ca) := K0.out.cell 0
  go_wp2_with (go_at_call 19; refine (HRT.out _ X.out).mono ?_; rintro e W9 ⟨rfl, hx⟩; have X := Lib.hid (X.out.trans hx); have K0 := Lib.hid (K0.out.ext hx); have K9 := Lib.hid (K9.out.ext hx); have K11 := Lib.hid (K11.out.ext hx); clear hx y0; refine Hid.out ?_)
  refine Lib.hid ?_
  have y0 : W9.cell? ⟨w.heap.size, 0, none⟩ = some (.slice (some ⟨b, o, none⟩) n ca) := K0.out.cell 0
  have g0 := X.out.cell G0.out
  have g1 := X.out.cell G1.out
  go_wp2
  refine wp_region_each [some 74, some 75, some 76, some 77, some 78, some 79, some 80, some 81, some 82, some 83, some 84, some 85, some 86, some 87, some 88, some 89, some 90] [[1], [3], [75], [76], [77], [78], [3], [80], [3], [82], [83], [84], [81, 85], [86], [87], [74, 79, 88], [89]]
    [Is (.int .i64 (d)), Is (.pointer (some ⟨w.heap.size, 0, none⟩)), Is (.slice (some ⟨b, o, none⟩) n ca), Is (.pointer (some ⟨b, o, none⟩)), Is (.pointer (some ⟨b, o, none⟩)), Is (.int .i64 (x0.d)), Is (.pointer (some ⟨w.heap.size, 0, none⟩)), Is (.slice (some ⟨b, o, none⟩) n ca), Is (.pointer (some ⟨w.heap.size, 0, none⟩)), Is (.slice (some ⟨b, o, none⟩) n ca), Is (.int .i64 ((n : Int))), Is (.int .i64 ((n : Int) - 1)), Is (.pointer (some ⟨b, o + (n - 1) * 4, none⟩)), Is (.pointer (some ⟨b, o + (n - 1) * 4, none⟩)), Is (.int .i64 (x1.d)), Is (.bool (false)), Is (.bool (true))]
    (by kernel_rfl) (by kernel_rfl) (by kernel_rfl) (by kernel_rfl) (by kernel_rfl) Ext (fun W => Ext W9 W)
    (fun W _ => Ext.refl W) (fun W W' h k => h.trans k) ?_ (Ext.drew _) ?_ ?_
  · repeat (refine ⟨fun _ _ _ _ k h => (by first | exact h | exact (IntsAt.ext h k)), ?_⟩)
    exact trivial
  · refine ⟨?_, ?_, ?_, ?_, ?_, ?_, ?_, ?_, ?_, ?_, ?_, ?_, ?_, ?_, ?_, ?_, ?_, trivial⟩
    all_goals intro ρ W ⟨kc, kg, kf⟩ hF hs
    · obtain ⟨h0, -⟩ := hs
      replace h0 : ρ (.tmp 1) = .int .i64 (d) := h0
      go_simp
      exact ⟨Ext.refl _, rfl⟩
    · obtain ⟨h0, -⟩ := hs
      replace h0 : ρ (.tmp 3) = .pointer (some ⟨w.heap.size, 0, none⟩) := h0
      go_simp
      exact ⟨Ext.refl _, rfl⟩
    · obtain ⟨h0, -⟩ := hs
      replace h0 : ρ (.tmp 75) = .pointer (some ⟨w.heap.size, 0, none⟩) := h0
      have hc0 : W.cell? ⟨w.heap.size, 0, none⟩ = some (.slice (some ⟨b, o, none⟩) n ca) := hF.cell (by assumption)
      go_simp
      exact ⟨Ext.refl _, rfl⟩
    · obtain ⟨h0, -⟩ := hs
      replace h0 : ρ (.tmp 76) = .slice (some ⟨b, o, none⟩) n ca := h0
      have hb2 : (0 : Int) < (n : Int) := by omega
      have hb3 : 0 < n := by omega
      go_simp
      exact ⟨Ext.refl _, rfl⟩
    · obtain ⟨h0, -⟩ := hs
      replace h0 : ρ (.tmp 77) = .pointer (some ⟨b, o, none⟩) := h0
      go_simp
      exact ⟨Ext.refl _, rfl⟩
    · obtain ⟨h0, -⟩ := hs
      replace h0 : ρ (.tmp 78) = .pointer (some ⟨b, o, none⟩) := h0
      have hc0 : W.cell? ⟨b, o, none⟩ = some (.int .i64 (x0.d)) := hF.cell (by assumption)
      go_simp
      exact ⟨Ext.refl _, rfl⟩
    · obtain ⟨h0, -⟩ := hs
      replace h0 : ρ (.tmp 3) = .pointer (some ⟨w.heap.size, 0, none⟩) := h0
      go_simp
      exact ⟨Ext.refl _, rfl⟩
    · obtain ⟨h0, -⟩ := hs
      replace h0 : ρ (.tmp 80) = .pointer (some ⟨w.heap.size, 0, none⟩) := h0
      have hc0 : W.cell? ⟨w.heap.size, 0, none⟩ = some (.slice (some ⟨b, o, none⟩) n ca) := hF.cell (by assumption)
      go_simp
      exact ⟨Ext.refl _, rfl⟩
    · obtain ⟨h0, -⟩ := hs
      replace h0 : ρ (.tmp 3) = .pointer (some ⟨w.heap.size, 0, none⟩) := h0
      go_simp
      exact ⟨Ext.refl _, rfl⟩
    · obtain ⟨h0, -⟩ := hs
      replace h0 : ρ (.tmp 82) = .pointer (some ⟨w.heap.size, 0, none⟩) := h0
      have hc0 : W.cell? ⟨w.heap.size, 0, none⟩ = some (.slice (some ⟨b, o, none⟩) n ca) := hF.cell (by assumption)
      go_simp
      exact ⟨Ext.refl _, rfl⟩
    · obtain ⟨h0, -⟩ := hs
      replace h0 : ρ (.tmp 83) = .slice (some ⟨b, o, none⟩) n ca := h0
      go_simp
      exact ⟨Ext.refl _, rfl⟩
    · obtain ⟨h0, -⟩ := hs
      replace h0 : ρ (.tmp 84) = .int .i64 ((n : Int)) := h0
      have hw : IntKind.i64.wrap ((n : Int) - 1) = (n : Int) - 1 := wrap_id _ (by omega) (by omega)
      go_simp
      exact ⟨Ext.refl _, rfl⟩
    · obtain ⟨h0, h1, -⟩ := hs
      replace h0 : ρ (.tmp 81) = .slice (some ⟨b, o, none⟩) n ca := h0
      replace h1 : ρ (.tmp 85) = .int .i64 ((n : Int) - 1) := h1
      have hb6 : (1 : Int) ≤ (n : Int) := by omega
      have hb2 : (n : Int) - 1 < (n : Int) := by omega
      have hb3 : (0 : Int) ≤ (n : Int) - 1 := by omega
      have hb4 : ((n : Int) - 1).toNat = n - 1 := by omega
      have hb5 : n - 1 < n := by omega
      go_simp
      exact ⟨Ext.refl _, rfl⟩
    · obtain ⟨h0, -⟩ := hs
      replace h0 : ρ (.tmp 86) = .pointer (some ⟨b, o + (n - 1) * 4, none⟩) := h0
      go_simp
      exact ⟨Ext.refl _, rfl⟩
    · obtain ⟨h0, -⟩ := hs
      replace h0 : ρ (.tmp 87) = .pointer (some ⟨b, o + (n - 1) * 4, none⟩) := h0
      have hc0 : W.cell? ⟨b, o + (n - 1) * 4, none⟩ = some (.int .i64 (x1.d)) := hF.cell (by assumption)
      go_simp
      exact ⟨Ext.refl _, rfl⟩
    · obtain ⟨h0, h1, h2, -⟩ := hs
      replace h0 : ρ (.tmp 74) = .int .i64 (d) := h0
      replace h1 : ρ (.tmp 79) = .int .i64 (x0.d) := h1
      replace h2 : ρ (.tmp 88) = .int .i64 (x1.d) := h2
      go_simp
      refine (HWI.out _).mono ?_; rintro e w' ⟨rfl, rfl⟩; exact ⟨_, rfl, Ext.refl _, rfl⟩
    · obtain ⟨h0, -⟩ := hs
      replace h0 : ρ (.tmp 89) = .bool (false) := h0
      go_simp
      exact ⟨Ext.refl _, rfl⟩
  · intro fv V9 hF hs
    obtain ⟨-, -, -, -, -, -, -, -, -, -, -, -, -, -, -, -, h90, -⟩ := hs
    replace h90 : fv 90 = .bool (true) := h90
    simp only [fin, List.filterMap]
    go_simp
    have X := Lib.hid (X.out.trans hF); have K0 := Lib.hid (K0.out.ext hF); have K9 := Lib.hid (K9.out.ext hF); have K11 := Lib.hid (K11.out.ext hF); 
    clear hF y0 g0 g1 h90
    have y0 : V9.cell? ⟨w.heap.size, 0, none⟩ = some (.slice (some ⟨b, o, none⟩) n ca) := K0.out.cell 0
    have z0 : V9.cell? ⟨q9, 0, none⟩ = some (.int .i64 0) := K9.out.cell 0
    have z1 : V9.cell? ⟨q9, 1, none⟩ = some (.int .i64 0) := K9.out.cell 1
    have z2 : V9.cell? ⟨q9, 2, none⟩ = some (.int .i64 0) := K9.out.cell 2
    have z3 : V9.cell? ⟨q9, 3, none⟩ = some (.int .i64 0) := K9.out.cell 3
    go_wp2_with (go_at_call 23; refine (HLM.out _).mono ?_; rintro e w2 ⟨rfl, rfl⟩; refine Hid.out ?_)
    refine Lib.hid ?_
    go_wp2_with (go_at_call 24; refine (HCR.out _ X.out).mono ?_; rintro e WA ⟨rfl, hx⟩; have X := Lib.hid (X.out.trans hx); have K0 := Lib.hid (K0.out.ext hx); have K11 := Lib.hid (K11.out.ext hx); clear hx y0; refine Hid.out ?_)
    refine Lib.hid ?_
    have u0 : ∀ o1, (WA.alloc o1).cell? ⟨q11, 0, none⟩ = some (.int .i64 v1) := fun o1 => (K11.out.alloc o1).cell 0
    have u1 : ∀ o1, (WA.alloc o1).cell? ⟨q11, 1, none⟩ = some (.int .i64 v2) := fun o1 => (K11.out.alloc o1).cell 1
    have u2 : ∀ o1, (WA.alloc o1).cell? ⟨q11, 2, none⟩ = some (.int .i64 v3) := fun o1 => (K11.out.alloc o1).cell 2
    have u3 : ∀ o1, (WA.alloc o1).cell? ⟨q11, 3, none⟩ = some (.int .i64 v4) := fun o1 => (K11.out.alloc o1).cell 3
    go_wp2
    go_ret
    exact ⟨rfl, X.out.trans (Ext.alloc _ _)⟩

set_option maxRecDepth 100000 in
set_option maxHeartbeats 8000000 in
theorem trav_inBad {A : Option Addr} {n ca : Nat} {xs : List In} {w : World} (d l : Int) (hn : xs.length = n) (hr : RowsAt 4 In.enc w A xs) (hnil : A = none → ca = 0) (hz : (checkT xs).2 = 0) (hd : withinB d (xs.getD 0 default).d (xs.getD (n - 1) default).d = true) (hl : hardB l = false) : Calls Try.prog 3 #[.agg #[.slice A n ca], .int .i64 d, .int .i64 l] w fun e w' => e = .returned (.bool true) ∧ Ext w w' := by
  obtain ⟨m2, m20, hok⟩ := checkT_ok hz
  rw [hn] at m2 m20
  have HFW := Lib.hid (fun W => show Calls Try.prog 14 #[.agg #[.slice A n ca]] W fun e w' => e = .returned (.bool true) ∧ Ext W w' from by
    have := few_any (A := A) (n := n) (ca := ca) W
    rw [show decide ((n : Int) ≤ 22) = true by simp; omega] at this
    exact this)
  have HCP := Lib.hid (fun W (e : Ext w W) => copyTraverse_any (ca := ca) hn (hr.ext e) (by omega) hnil)
  have HCT := Lib.hid (fun W A c (h : RowsAt 4 In.enc W A xs) => show Calls Try.prog 15 #[.agg #[.slice A n c]] W fun e w' => e = .returned (.tuple #[.int .i64 (checkT xs).1, .int .i64 0]) ∧ Ext W w' from by
    have := checkTraverse_any (ca := c) hn h
    rw [hz] at this
    exact this)
  have HRT := Lib.hid (fun W (e : Ext w W) => show Calls Try.prog 19 #[.agg #[.slice A n ca]] W fun e w' => e = .returned (.tuple #[.int .i64 (checkT xs).1, .int .i64 0]) ∧ Ext W w' from by
    have := refTraverse_any (ca := ca) hn (by omega) (hr.ext e)
    rw [hz] at this
    exact this)
  have HHA := Lib.hid (fun W A c (h : RowsAt 4 In.enc W A xs) => show Calls Try.prog 17 #[.agg #[.slice A n c], .int .i64 d] W fun e w' => e = .returned (.tuple #[.agg #[.int .i64 (atV (loP xs) d n).1, .int .i64 (atV (loP xs) d n).2, .int .i64 (atV (upP xs) d n).1, .int .i64 (atV (upP xs) d n).2], .int .i64 0]) ∧ Ext W w' from hardAt_ok (ca := c) d hn h hz hd)
  have HCA := Lib.hid (fun W A c (h : RowsAt 4 In.enc W A xs) => show Calls Try.prog 18 #[.agg #[.slice A n c], .int .i64 l] W fun e w' => e = .returned (.tuple #[.agg #[.int .i64 0, .int .i64 0, .int .i64 0, .int .i64 0], .int .i64 2]) ∧ Ext W w' from by
    have hc : caseE xs l = 2 := by unfold caseE; rw [hz, limE_eq, hl]; rfl
    have := caseOf_bad (ca := c) l hn h (by rw [hc]; decide)
    rw [hc] at this
    exact this)
  have HLM := Lib.hid (fun W => show Calls Try.prog 23 #[.int .i64 l] W fun e w' => e = .returned (.int .i64 2) ∧ W = w' from by
    have := refLimit_any l W
    rw [hl] at this
    exact this)
  have HWI := Lib.hid (fun W => show Calls Try.prog 20 #[.int .i64 d, .int .i64 (xs.getD 0 default).d, .int .i64 (xs.getD (n - 1) default).d] W fun e w' => e = .returned (.bool true) ∧ W = w' from by
    have := within_any d (xs.getD 0 default).d (xs.getD (n - 1) default).d W
    rw [hd] at this
    exact this)
  have HEL := Lib.hid (fun W (e : Ext w W) => curveLo_any (ca := ca) hn (by omega) (hr.ext e))
  have HEH := Lib.hid (fun W (e : Ext w W) => curveHi_any (ca := ca) hn (by omega) (hr.ext e))
  have CL := crv_lo hn hz (by rw [withinB_eq] at hd; exact of_decide_eq_true hd)
  have CU := crv_up hn hz (by rw [withinB_eq] at hd; exact of_decide_eq_true hd)
  have HAL := Lib.hid (fun W A c (h : RowsAt 2 frEnc W A (loP xs)) => refAt_any (ca := c) (d := d) CL.len CL.two (by have := CL.most; omega) CL.dep CL.bd CL.asc CL.inn h)
  have HAH := Lib.hid (fun W A c (h : RowsAt 2 frEnc W A (upP xs)) => refAt_any (ca := c) (d := d) CU.len CU.two (by have := CU.most; omega) CU.dep CU.bd CU.asc CU.inn h)
  clear CL CU
  obtain ⟨x0, hx0⟩ : ∃ x0, x0 = xs.getD 0 default := ⟨_, rfl⟩
  obtain ⟨x1, hx1⟩ : ∃ x1, x1 = xs.getD (n - 1) default := ⟨_, rfl⟩
  have g0 : xs[0]? = some x0 := by rw [hx0]; exact getI hn (by omega)
  have g1 : xs[n - 1]? = some x1 := by rw [hx1]; exact getI hn (by omega)
  obtain ⟨b, o, rfl, hb, hc⟩ := row_at hr g0
  obtain ⟨b2, o2, he, _, hc2⟩ := row_at hr g1
  obtain ⟨rfl, rfl⟩ : b = b2 ∧ o = o2 := by simpa using he
  have G0 := Lib.hid (show w.cell? ⟨b, o, none⟩ = some (.int .i64 x0.d) by have := hc 0 _ rfl; simpa using this)
  have G1 := Lib.hid (show w.cell? ⟨b, o + (n - 1) * 4, none⟩ = some (.int .i64 x1.d) from hc2 0 _ rfl)
  clear hc hc2 he g0 g1 hb
  rw [← hx0, ← hx1] at HWI
  clear hn hr hz hnil hok hx0 hx1 hd hl
  generalize (checkT xs).1 = ei at *
  generalize atV (loP xs) d n = lo at *
  generalize atV (upP xs) d n = hi at *
  have P0 := Lib.hid (show Blk (w.alloc (.cells #[.slice (some ⟨b, o, none⟩) n ca] 24)) w.heap.size 24 #[.slice (some ⟨b, o, none⟩) n ca] from Blk.new _ _ _)
  go_enter Try.func3, Try.ntmps3
  go_wp2_with (go_at_call 13; refine (awake_any _).mono ?_; rintro e W1 ⟨rfl, hx⟩; have X := Lib.hid ((Ext.alloc _ _).trans hx); have K0 := Lib.hid (P0.out.ext hx); clear hx; refine Hid.out ?_)
  refine Lib.hid ?_
  clear P0
  have y0 : W1.cell? ⟨w.heap.size, 0, none⟩ = some (.slice (some ⟨b, o, none⟩) n ca) := K0.out.cell 0
  go_wp2_with (go_at_call 14; refine (HFW.out _).mono ?_; rintro e W2 ⟨rfl, hx⟩; have X := Lib.hid (X.out.trans hx); have K0 := Lib.hid (K0.out.ext hx); clear hx y0; refine Hid.out ?_)
  refine Lib.hid ?_
  have y0 : W2.cell? ⟨w.heap.size, 0, none⟩ = some (.slice (some ⟨b, o, none⟩) n ca) := K0.out.cell 0
  go_wp2_with (go_at_call 16; refine (HCP.out _ X.out).mono ?_; rintro e W3 ⟨A2, c2, rfl, hr2, -, hx⟩; have X := Lib.hid (X.out.trans hx); have K0 := Lib.hid (K0.out.ext hx); have R2 := Lib.hid hr2; clear hr2; clear hx y0; refine Hid.out ?_)
  refine Lib.hid ?_
  have y0 : W3.cell? ⟨w.heap.size, 0, none⟩ = some (.slice (some ⟨b, o, none⟩) n ca) := K0.out.cell 0
  go_wp2_with (go_at_call 15; refine (HCT.out _ _ _ R2.out).mono ?_; rintro e W4 ⟨rfl, hx⟩; have X := Lib.hid (X.out.trans hx); have K0 := Lib.hid (K0.out.ext hx); clear R2; clear hx y0; refine Hid.out ?_)
  refine Lib.hid ?_
  have y0 : W4.cell? ⟨w.heap.size, 0, none⟩ = some (.slice (some ⟨b, o, none⟩) n ca) := K0.out.cell 0
  go_wp2_with (go_at_call 16; refine (HCP.out _ X.out).mono ?_; rintro e W5 ⟨A2, c2, rfl, hr2, -, hx⟩; have X := Lib.hid (X.out.trans hx); have K0 := Lib.hid (K0.out.ext hx); have R2 := Lib.hid hr2; clear hr2; clear hx y0; refine Hid.out ?_)
  refine Lib.hid ?_
  have y0 : W5.cell? ⟨w.heap.size, 0, none⟩ = some (.slice (some ⟨b, o, none⟩) n ca) := K0.out.cell 0
  go_wp2_with (go_at_call 17; refine (HHA.out _ _ _ R2.out).mono ?_; rintro e W6 ⟨rfl, hx⟩; have X := Lib.hid (X.out.trans hx); have K0 := Lib.hid (K0.out.ext hx); clear R2; clear hx y0; refine Hid.out ?_)
  refine Lib.hid ?_
  have y0 : ∀ o1, (W6.alloc o1).cell? ⟨w.heap.size, 0, none⟩ = some (.slice (some ⟨b, o, none⟩) n ca) := fun o1 => (K0.out.alloc o1).cell 0
  go_wp2_with (fail)
  obtain ⟨V6, hV⟩ : ∃ V1, V1 = W6.alloc (.cells #[.int .i64 lo.1, .int .i64 lo.2, .int .i64 hi.1, .int .i64 hi.2] 34) := ⟨_, rfl⟩
  obtain ⟨q9, hq⟩ : ∃ q, q = W6.heap.size := ⟨_, rfl⟩
  rw [← hV, ← hq]
  have K9 := Lib.hid (show Blk V6 q9 34 #[.int .i64 lo.1, .int .i64 lo.2, .int .i64 hi.1, .int .i64 hi.2] by rw [hV, hq]; exact Blk.new _ _ _)
  have hx : Ext W6 V6 := by rw [hV]; exact Ext.alloc _ _
  have X := Lib.hid (X.out.trans hx); have K0 := Lib.hid (K0.out.ext hx); 
  clear hx hV hq y0
  have y0 : V6.cell? ⟨w.heap.size, 0, none⟩ = some (.slice (some ⟨b, o, none⟩) n ca) := K0.out.cell 0
  go_wp2_with (go_at_call 16; refine (HCP.out _ X.out).mono ?_; rintro e W7 ⟨A2, c2, rfl, hr2, -, hx⟩; have X := Lib.hid (X.out.trans hx); have K0 := Lib.hid (K0.out.ext hx); have K9 := Lib.hid (K9.out.ext hx); have R2 := Lib.hid hr2; clear hr2; clear hx y0; refine Hid.out ?_)
  refine Lib.hid ?_
  have y0 : W7.cell? ⟨w.heap.size, 0, none⟩ = some (.slice (some ⟨b, o, none⟩) n ca) := K0.out.cell 0
  go_wp2_with (go_at_call 18; refine (HCA.out _ _ _ R2.out).mono ?_; rintro e W8 ⟨rfl, hx⟩; have X := Lib.hid (X.out.trans hx); have K0 := Lib.hid (K0.out.ext hx); have K9 := Lib.hid (K9.out.ext hx); clear R2; clear hx y0; refine Hid.out ?_)
  refine Lib.hid ?_
  have y0 : ∀ o1, (W8.alloc o1).cell? ⟨w.heap.size, 0, none⟩ = some (.slice (some ⟨b, o, none⟩) n ca) := fun o1 => (K0.out.alloc o1).cell 0
  go_wp2_with (fail)
  obtain ⟨V8, hV⟩ : ∃ V1, V1 = W8.alloc (.cells #[.int .i64 0, .int .i64 0, .int .i64 0, .int .i64 0] 34) := ⟨_, rfl⟩
  obtain ⟨q11, hq⟩ : ∃ q, q = W8.heap.size := ⟨_, rfl⟩
  rw [← hV, ← hq]
  have K11 := Lib.hid (show Blk V8 q11 34 #[.int .i64 0, .int .i64 0, .int .i64 0, .int .i64 0] by rw [hV, hq]; exact Blk.new _ _ _)
  have hx : Ext W8 V8 := by rw [hV]; exact Ext.alloc _ _
  have X := Lib.hid (X.out.trans hx); have K0 := Lib.hid (K0.out.ext hx); have K9 := Lib.hid (K9.out.ext hx); 
  clear hx hV hq y0
  have y0 : V8.cell? ⟨w.heap.size, 0, none⟩ = some (.slice (some ⟨b, o, none⟩) n ca) := K0.out.cell 0
  go_wp2_with (go_at_call 19; refine (HRT.out _ X.out).mono ?_; rintro e W9 ⟨rfl, hx⟩; have X := Lib.hid (X.out.trans hx); have K0 := Lib.hid (K0.out.ext hx); have K9 := Lib.hid (K9.out.ext hx); have K11 := Lib.hid (K11.out.ext hx); clear hx y0; refine Hid.out ?_)
  refine Lib.hid ?_
  have y0 : W9.cell? ⟨w.heap.size, 0, none⟩ = some (.slice (some ⟨b, o, none⟩) n ca) := K0.out.cell 0
  have g0 := X.out.cell G0.out
  have g1 := X.out.cell G1.out
  go_wp2
  refine wp_region_each [some 74, some 75, some 76, some 77, some 78, some 79, some 80, some 81, some 82, some 83, some 84, some 85, some 86, some 87, some 88, some 89, some 90] [[1], [3], [75], [76], [77], [78], [3], [80], [3], [82], [83], [84], [81, 85], [86], [87], [74, 79, 88], [89]]
    [Is (.int .i64 (d)), Is (.pointer (some ⟨w.heap.size, 0, none⟩)), Is (.slice (some ⟨b, o, none⟩) n ca), Is (.pointer (some ⟨b, o, none⟩)), Is (.pointer (some ⟨b, o, none⟩)), Is (.int .i64 (x0.d)), Is (.pointer (some ⟨w.heap.size, 0, none⟩)), Is (.slice (some ⟨b, o, none⟩) n ca), Is (.pointer (some ⟨w.heap.size, 0, none⟩)), Is (.slice (some ⟨b, o, none⟩) n ca), Is (.int .i64 ((n : Int))), Is (.int .i64 ((n : Int) - 1)), Is (.pointer (some ⟨b, o + (n - 1) * 4, none⟩)), Is (.pointer (some ⟨b, o + (n - 1) * 4, none⟩)), Is (.int .i64 (x1.d)), Is (.bool (true)), Is (.bool (false))]
    (by kernel_rfl) (by kernel_rfl) (by kernel_rfl) (by kernel_rfl) (by kernel_rfl) Ext (fun W => Ext W9 W)
    (fun W _ => Ext.refl W) (fun W W' h k => h.trans k) ?_ (Ext.drew _) ?_ ?_
  · repeat (refine ⟨fun _ _ _ _ k h => (by first | exact h | exact (IntsAt.ext h k)), ?_⟩)
    exact trivial
  · refine ⟨?_, ?_, ?_, ?_, ?_, ?_, ?_, ?_, ?_, ?_, ?_, ?_, ?_, ?_, ?_, ?_, ?_, trivial⟩
    all_goals intro ρ W ⟨kc, kg, kf⟩ hF hs
    · obtain ⟨h0, -⟩ := hs
      replace h0 : ρ (.tmp 1) = .int .i64 (d) := h0
      go_simp
      exact ⟨Ext.refl _, rfl⟩
    · obtain ⟨h0, -⟩ := hs
      replace h0 : ρ (.tmp 3) = .pointer (some ⟨w.heap.size, 0, none⟩) := h0
      go_simp
      exact ⟨Ext.refl _, rfl⟩
    · obtain ⟨h0, -⟩ := hs
      replace h0 : ρ (.tmp 75) = .pointer (some ⟨w.heap.size, 0, none⟩) := h0
      have hc0 : W.cell? ⟨w.heap.size, 0, none⟩ = some (.slice (some ⟨b, o, none⟩) n ca) := hF.cell (by assumption)
      go_simp
      exact ⟨Ext.refl _, rfl⟩
    · obtain ⟨h0, -⟩ := hs
      replace h0 : ρ (.tmp 76) = .slice (some ⟨b, o, none⟩) n ca := h0
      have hb2 : (0 : Int) < (n : Int) := by omega
      have hb3 : 0 < n := by omega
      go_simp
      exact ⟨Ext.refl _, rfl⟩
    · obtain ⟨h0, -⟩ := hs
      replace h0 : ρ (.tmp 77) = .pointer (some ⟨b, o, none⟩) := h0
      go_simp
      exact ⟨Ext.refl _, rfl⟩
    · obtain ⟨h0, -⟩ := hs
      replace h0 : ρ (.tmp 78) = .pointer (some ⟨b, o, none⟩) := h0
      have hc0 : W.cell? ⟨b, o, none⟩ = some (.int .i64 (x0.d)) := hF.cell (by assumption)
      go_simp
      exact ⟨Ext.refl _, rfl⟩
    · obtain ⟨h0, -⟩ := hs
      replace h0 : ρ (.tmp 3) = .pointer (some ⟨w.heap.size, 0, none⟩) := h0
      go_simp
      exact ⟨Ext.refl _, rfl⟩
    · obtain ⟨h0, -⟩ := hs
      replace h0 : ρ (.tmp 80) = .pointer (some ⟨w.heap.size, 0, none⟩) := h0
      have hc0 : W.cell? ⟨w.heap.size, 0, none⟩ = some (.slice (some ⟨b, o, none⟩) n ca) := hF.cell (by assumption)
      go_simp
      exact ⟨Ext.refl _, rfl⟩
    · obtain ⟨h0, -⟩ := hs
      replace h0 : ρ (.tmp 3) = .pointer (some ⟨w.heap.size, 0, none⟩) := h0
      go_simp
      exact ⟨Ext.refl _, rfl⟩
    · obtain ⟨h0, -⟩ := hs
      replace h0 : ρ (.tmp 82) = .pointer (some ⟨w.heap.size, 0, none⟩) := h0
      have hc0 : W.cell? ⟨w.heap.size, 0, none⟩ = some (.slice (some ⟨b, o, none⟩) n ca) := hF.cell (by assumption)
      go_simp
      exact ⟨Ext.refl _, rfl⟩
    · obtain ⟨h0, -⟩ := hs
      replace h0 : ρ (.tmp 83) = .slice (some ⟨b, o, none⟩) n ca := h0
      go_simp
      exact ⟨Ext.refl _, rfl⟩
    · obtain ⟨h0, -⟩ := hs
      replace h0 : ρ (.tmp 84) = .int .i64 ((n : Int)) := h0
      have hw : IntKind.i64.wrap ((n : Int) - 1) = (n : Int) - 1 := wrap_id _ (by omega) (by omega)
      go_simp
      exact ⟨Ext.refl _, rfl⟩
    · obtain ⟨h0, h1, -⟩ := hs
      replace h0 : ρ (.tmp 81) = .slice (some ⟨b, o, none⟩) n ca := h0
      replace h1 : ρ (.tmp 85) = .int .i64 ((n : Int) - 1) := h1
      have hb6 : (1 : Int) ≤ (n : Int) := by omega
      have hb2 : (n : Int) - 1 < (n : Int) := by omega
      have hb3 : (0 : Int) ≤ (n : Int) - 1 := by omega
      have hb4 : ((n : Int) - 1).toNat = n - 1 := by omega
      have hb5 : n - 1 < n := by omega
      go_simp
      exact ⟨Ext.refl _, rfl⟩
    · obtain ⟨h0, -⟩ := hs
      replace h0 : ρ (.tmp 86) = .pointer (some ⟨b, o + (n - 1) * 4, none⟩) := h0
      go_simp
      exact ⟨Ext.refl _, rfl⟩
    · obtain ⟨h0, -⟩ := hs
      replace h0 : ρ (.tmp 87) = .pointer (some ⟨b, o + (n - 1) * 4, none⟩) := h0
      have hc0 : W.cell? ⟨b, o + (n - 1) * 4, none⟩ = some (.int .i64 (x1.d)) := hF.cell (by assumption)
      go_simp
      exact ⟨Ext.refl _, rfl⟩
    · obtain ⟨h0, h1, h2, -⟩ := hs
      replace h0 : ρ (.tmp 74) = .int .i64 (d) := h0
      replace h1 : ρ (.tmp 79) = .int .i64 (x0.d) := h1
      replace h2 : ρ (.tmp 88) = .int .i64 (x1.d) := h2
      go_simp
      refine (HWI.out _).mono ?_; rintro e w' ⟨rfl, rfl⟩; exact ⟨_, rfl, Ext.refl _, rfl⟩
    · obtain ⟨h0, -⟩ := hs
      replace h0 : ρ (.tmp 89) = .bool (true) := h0
      go_simp
      exact ⟨Ext.refl _, rfl⟩
  · intro fv V9 hF hs
    obtain ⟨-, -, -, -, -, -, -, -, -, -, -, -, -, -, -, -, h90, -⟩ := hs
    replace h90 : fv 90 = .bool (false) := h90
    simp only [fin, List.filterMap]
    go_simp
    have X := Lib.hid (X.out.trans hF); have K0 := Lib.hid (K0.out.ext hF); have K9 := Lib.hid (K9.out.ext hF); have K11 := Lib.hid (K11.out.ext hF); 
    clear hF y0 g0 g1 h90
    have y0 : V9.cell? ⟨w.heap.size, 0, none⟩ = some (.slice (some ⟨b, o, none⟩) n ca) := K0.out.cell 0
    have z0 : V9.cell? ⟨q9, 0, none⟩ = some (.int .i64 lo.1) := K9.out.cell 0
    have z1 : V9.cell? ⟨q9, 1, none⟩ = some (.int .i64 lo.2) := K9.out.cell 1
    have z2 : V9.cell? ⟨q9, 2, none⟩ = some (.int .i64 hi.1) := K9.out.cell 2
    have z3 : V9.cell? ⟨q9, 3, none⟩ = some (.int .i64 hi.2) := K9.out.cell 3
    go_wp2
    refine wp_region_eachG [(100, false), (100, false), (100, false), (100, false), (100, false), (100, false), (100, false), (109, false), (109, false), (109, false), (109, false), (109, false), (109, false), (109, false)] [some 98, some 99, some 100, some 101, some 102, some 103, some 104, some 105, some 106, some 107, some 108, some 109, some 110, some 111, some 112, some 113, some 114, some 115, some 116, some 117] [[10], [98], [99], [9, 100], [101, 100], [3, 100], [103, 100], [1, 100], [104, 105, 100], [102, 106, 100], [100, 107], [108], [9, 109], [110, 109], [3, 109], [112, 109], [1, 109], [113, 114, 109], [111, 115, 109], [109, 116]]
      [Is (.int .i64 (0)), Is (.bool (false)), Is (.bool (false)), Is (.pointer (some ⟨q9, 0, none⟩)), Is (.agg #[.int .i64 (lo.1), .int .i64 (lo.2)]), Is (.agg #[.slice (some ⟨b, o, none⟩) n ca]), PtsC n (loP xs), Is (.int .i64 (d)), Is (.agg #[.int .i64 lo.1, .int .i64 lo.2]), Is (.bool (false)), Is (.bool (false)), Is (.bool (false)), Is (.pointer (some ⟨q9, 2, none⟩)), Is (.agg #[.int .i64 (hi.1), .int .i64 (hi.2)]), Is (.agg #[.slice (some ⟨b, o, none⟩) n ca]), PtsC n (upP xs), Is (.int .i64 (d)), Is (.agg #[.int .i64 hi.1, .int .i64 hi.2]), Is (.bool (false)), Is (.bool (false))]
      (by kernel_rfl) (by kernel_rfl) (by kernel_rfl) (by kernel_rfl) (by kernel_rfl) Ext (fun W => Ext V9 W)
      (fun W _ => Ext.refl W) (fun W W' h k => h.trans k) ?_ (by intro p hp; simp only [List.mem_cons, List.not_mem_nil, or_false] at hp; rcases hp with rfl | rfl | rfl | rfl | rfl | rfl | rfl | rfl | rfl | rfl | rfl | rfl | rfl | rfl <;> exact ⟨_, rfl, fun _ _ h => h⟩) (Ext.drew _) ?_ ?_
    · repeat (refine ⟨fun _ _ _ _ k h => (by first | exact h | exact (by first | exact IntsAt.ext h k | exact PtsC.ext h k)), ?_⟩)
      exact trivial
    · refine ⟨?_, ?_, ?_, ?_, ?_, ?_, ?_, ?_, ?_, ?_, ?_, ?_, ?_, ?_, ?_, ?_, ?_, ?_, ?_, ?_, trivial⟩
      all_goals intro ρ W ⟨kc, kg, kf⟩ hF hs
      · obtain ⟨h0, -⟩ := hs
        replace h0 : ρ (.tmp 10) = .int .i64 (0) := h0
        go_simp
        exact ⟨Ext.refl _, rfl⟩
      · obtain ⟨h0, -⟩ := hs
        replace h0 : ρ (.tmp 98) = .int .i64 (0) := h0
        go_simp
        exact ⟨Ext.refl _, rfl⟩
      · obtain ⟨h0, -⟩ := hs
        replace h0 : ρ (.tmp 99) = .bool (false) := h0
        go_simp
        exact ⟨Ext.refl _, rfl⟩
      · obtain ⟨h0, h1, -⟩ := hs
        replace h0 : ρ (.tmp 9) = .pointer (some ⟨q9, 0, none⟩) := h0
        replace h1 : ρ (.tmp 100) = .bool (false) := h1
        go_simp
        exact ⟨Ext.refl _, rfl⟩
      · obtain ⟨h0, h1, -⟩ := hs
        replace h0 : ρ (.tmp 101) = .pointer (some ⟨q9, 0, none⟩) := h0
        replace h1 : ρ (.tmp 100) = .bool (false) := h1
        have hc0 : W.cell? ⟨q9, 0, none⟩ = some (.int .i64 (lo.1)) := hF.cell (by assumption)
        have hc1 : W.cell? ⟨q9, 1, none⟩ = some (.int .i64 (lo.2)) := hF.cell (by assumption)
        go_simp
        exact ⟨Ext.refl _, rfl⟩
      · obtain ⟨h0, h1, -⟩ := hs
        replace h0 : ρ (.tmp 3) = .pointer (some ⟨w.heap.size, 0, none⟩) := h0
        replace h1 : ρ (.tmp 100) = .bool (false) := h1
        have hc0 : W.cell? ⟨w.heap.size, 0, none⟩ = some (.slice (some ⟨b, o, none⟩) n ca) := hF.cell (by assumption)
        go_simp
        exact ⟨Ext.refl _, rfl⟩
      · obtain ⟨h0, h1, -⟩ := hs
        replace h0 : ρ (.tmp 103) = .agg #[.slice (some ⟨b, o, none⟩) n ca] := h0
        replace h1 : ρ (.tmp 100) = .bool (false) := h1
        go_simp
        refine (HEL.out _ (X.out.trans hF)).mono ?_; rintro e w' ⟨A2, c2, rfl, hr2, hx⟩; exact ⟨_, rfl, hx, A2, c2, rfl, hr2⟩
      · obtain ⟨h0, h1, -⟩ := hs
        replace h0 : ρ (.tmp 1) = .int .i64 (d) := h0
        replace h1 : ρ (.tmp 100) = .bool (false) := h1
        go_simp
        exact ⟨Ext.refl _, rfl⟩
      · obtain ⟨h0, h1, h2, -⟩ := hs
        replace h0 : (PtsC n (loP xs)) (ρ (.tmp 104)) W := h0
        replace h1 : ρ (.tmp 105) = .int .i64 (d) := h1
        replace h2 : ρ (.tmp 100) = .bool (false) := h2
        obtain ⟨A2, c2, hv, hr2⟩ := h0
        have hv2 : ρ (.tmp 104) = .slice A2 n c2 := hv
        clear hv
        go_simp
        refine (HAL.out _ _ _ hr2).mono ?_; rintro e w' ⟨rfl, hx⟩; exact ⟨_, rfl, hx, rfl⟩
      · obtain ⟨h0, h1, h2, -⟩ := hs
        replace h0 : ρ (.tmp 102) = .agg #[.int .i64 (lo.1), .int .i64 (lo.2)] := h0
        replace h1 : ρ (.tmp 106) = .agg #[.int .i64 lo.1, .int .i64 lo.2] := h1
        replace h2 : ρ (.tmp 100) = .bool (false) := h2
        go_simp
        exact ⟨Ext.refl _, rfl⟩
      · obtain ⟨h0, h1, -⟩ := hs
        replace h0 : ρ (.tmp 100) = .bool (false) := h0
        replace h1 : ρ (.tmp 107) = .bool (false) := h1
        go_simp
        exact ⟨Ext.refl _, rfl⟩
      · obtain ⟨h0, -⟩ := hs
        replace h0 : ρ (.tmp 108) = .bool (false) := h0
        go_simp
        exact ⟨Ext.refl _, rfl⟩
      · obtain ⟨h0, h1, -⟩ := hs
        replace h0 : ρ (.tmp 9) = .pointer (some ⟨q9, 0, none⟩) := h0
        replace h1 : ρ (.tmp 109) = .bool (false) := h1
        go_simp
        exact ⟨Ext.refl _, rfl⟩
      · obtain ⟨h0, h1, -⟩ := hs
        replace h0 : ρ (.tmp 110) = .pointer (some ⟨q9, 2, none⟩) := h0
        replace h1 : ρ (.tmp 109) = .bool (false) := h1
        have hc0 : W.cell? ⟨q9, 2, none⟩ = some (.int .i64 (hi.1)) := hF.cell (by assumption)
        have hc1 : W.cell? ⟨q9, 3, none⟩ = some (.int .i64 (hi.2)) := hF.cell (by assumption)
        go_simp
        exact ⟨Ext.refl _, rfl⟩
      · obtain ⟨h0, h1, -⟩ := hs
        replace h0 : ρ (.tmp 3) = .pointer (some ⟨w.heap.size, 0, none⟩) := h0
        replace h1 : ρ (.tmp 109) = .bool (false) := h1
        have hc0 : W.cell? ⟨w.heap.size, 0, none⟩ = some (.slice (some ⟨b, o, none⟩) n ca) := hF.cell (by assumption)
        go_simp
        exact ⟨Ext.refl _, rfl⟩
      · obtain ⟨h0, h1, -⟩ := hs
        replace h0 : ρ (.tmp 112) = .agg #[.slice (some ⟨b, o, none⟩) n ca] := h0
        replace h1 : ρ (.tmp 109) = .bool (false) := h1
        go_simp
        refine (HEH.out _ (X.out.trans hF)).mono ?_; rintro e w' ⟨A2, c2, rfl, hr2, hx⟩; exact ⟨_, rfl, hx, A2, c2, rfl, hr2⟩
      · obtain ⟨h0, h1, -⟩ := hs
        replace h0 : ρ (.tmp 1) = .int .i64 (d) := h0
        replace h1 : ρ (.tmp 109) = .bool (false) := h1
        go_simp
        exact ⟨Ext.refl _, rfl⟩
      · obtain ⟨h0, h1, h2, -⟩ := hs
        replace h0 : (PtsC n (upP xs)) (ρ (.tmp 113)) W := h0
        replace h1 : ρ (.tmp 114) = .int .i64 (d) := h1
        replace h2 : ρ (.tmp 109) = .bool (false) := h2
        obtain ⟨A2, c2, hv, hr2⟩ := h0
        have hv2 : ρ (.tmp 113) = .slice A2 n c2 := hv
        clear hv
        go_simp
        refine (HAH.out _ _ _ hr2).mono ?_; rintro e w' ⟨rfl, hx⟩; exact ⟨_, rfl, hx, rfl⟩
      · obtain ⟨h0, h1, h2, -⟩ := hs
        replace h0 : ρ (.tmp 111) = .agg #[.int .i64 (hi.1), .int .i64 (hi.2)] := h0
        replace h1 : ρ (.tmp 115) = .agg #[.int .i64 hi.1, .int .i64 hi.2] := h1
        replace h2 : ρ (.tmp 109) = .bool (false) := h2
        go_simp
        exact ⟨Ext.refl _, rfl⟩
      · obtain ⟨h0, h1, -⟩ := hs
        replace h0 : ρ (.tmp 109) = .bool (false) := h0
        replace h1 : ρ (.tmp 116) = .bool (false) := h1
        go_simp
        exact ⟨Ext.refl _, rfl⟩
    · intro fv U9 hF hs
      obtain ⟨-, -, -, -, -, -, -, -, -, -, -, -, -, -, -, -, -, -, -, h117, -⟩ := hs
      replace h117 : fv 117 = .bool (false) := h117
      simp only [fin, List.filterMap]
      go_simp
      have X := Lib.hid (X.out.trans hF); have K0 := Lib.hid (K0.out.ext hF); have K9 := Lib.hid (K9.out.ext hF); have K11 := Lib.hid (K11.out.ext hF); 
      clear hF y0 z0 z1 z2 z3 h117
      have y0 : U9.cell? ⟨w.heap.size, 0, none⟩ = some (.slice (some ⟨b, o, none⟩) n ca) := K0.out.cell 0
      go_wp2_with (go_at_call 23; refine (HLM.out _).mono ?_; rintro e w2 ⟨rfl, rfl⟩; refine Hid.out ?_)
      refine Lib.hid ?_
      have u0 : U9.cell? ⟨q11, 0, none⟩ = some (.int .i64 0) := K11.out.cell 0
      have u1 : U9.cell? ⟨q11, 1, none⟩ = some (.int .i64 0) := K11.out.cell 1
      have u2 : U9.cell? ⟨q11, 2, none⟩ = some (.int .i64 0) := K11.out.cell 2
      have u3 : U9.cell? ⟨q11, 3, none⟩ = some (.int .i64 0) := K11.out.cell 3
      go_wp2
      go_ret
      exact ⟨rfl, X.out⟩

set_option maxRecDepth 100000 in
set_option maxHeartbeats 8000000 in
theorem trav_inFine {A : Option Addr} {n ca : Nat} {xs : List In} {w : World} (d l : Int) (hn : xs.length = n) (hr : RowsAt 4 In.enc w A xs) (hnil : A = none → ca = 0) (hz : (checkT xs).2 = 0) (hd : withinB d (xs.getD 0 default).d (xs.getD (n - 1) default).d = true) (hl : hardB l = true) : Calls Try.prog 3 #[.agg #[.slice A n ca], .int .i64 d, .int .i64 l] w fun e w' => e = .returned (.bool true) ∧ Ext w w' := by
  obtain ⟨m2, m20, hok⟩ := checkT_ok hz
  rw [hn] at m2 m20
  have HFW := Lib.hid (fun W => show Calls Try.prog 14 #[.agg #[.slice A n ca]] W fun e w' => e = .returned (.bool true) ∧ Ext W w' from by
    have := few_any (A := A) (n := n) (ca := ca) W
    rw [show decide ((n : Int) ≤ 22) = true by simp; omega] at this
    exact this)
  have HCP := Lib.hid (fun W (e : Ext w W) => copyTraverse_any (ca := ca) hn (hr.ext e) (by omega) hnil)
  have HCT := Lib.hid (fun W A c (h : RowsAt 4 In.enc W A xs) => show Calls Try.prog 15 #[.agg #[.slice A n c]] W fun e w' => e = .returned (.tuple #[.int .i64 (checkT xs).1, .int .i64 0]) ∧ Ext W w' from by
    have := checkTraverse_any (ca := c) hn h
    rw [hz] at this
    exact this)
  have HRT := Lib.hid (fun W (e : Ext w W) => show Calls Try.prog 19 #[.agg #[.slice A n ca]] W fun e w' => e = .returned (.tuple #[.int .i64 (checkT xs).1, .int .i64 0]) ∧ Ext W w' from by
    have := refTraverse_any (ca := ca) hn (by omega) (hr.ext e)
    rw [hz] at this
    exact this)
  have HHA := Lib.hid (fun W A c (h : RowsAt 4 In.enc W A xs) => show Calls Try.prog 17 #[.agg #[.slice A n c], .int .i64 d] W fun e w' => e = .returned (.tuple #[.agg #[.int .i64 (atV (loP xs) d n).1, .int .i64 (atV (loP xs) d n).2, .int .i64 (atV (upP xs) d n).1, .int .i64 (atV (upP xs) d n).2], .int .i64 0]) ∧ Ext W w' from hardAt_ok (ca := c) d hn h hz hd)
  obtain ⟨v1, v2, v3, v4, ge, hca, hcr⟩ := case_both hn hz hl
  have HCA := Lib.hid (fun W A c (h : RowsAt 4 In.enc W A xs) => show Calls Try.prog 18 #[.agg #[.slice A n c], .int .i64 l] W fun e w' => e = .returned (.tuple #[.agg #[.int .i64 v1, .int .i64 v2, .int .i64 v3, .int .i64 v4], .int .i64 ge]) ∧ Ext W w' from by
    exact hca W A c h)
  have HCR := Lib.hid (fun W (e : Ext w W) => hcr W A ca (hr.ext e))
  clear hca hcr
  have HLM := Lib.hid (fun W => show Calls Try.prog 23 #[.int .i64 l] W fun e w' => e = .returned (.int .i64 0) ∧ W = w' from by
    have := refLimit_any l W
    rw [hl] at this
    exact this)
  have HWI := Lib.hid (fun W => show Calls Try.prog 20 #[.int .i64 d, .int .i64 (xs.getD 0 default).d, .int .i64 (xs.getD (n - 1) default).d] W fun e w' => e = .returned (.bool true) ∧ W = w' from by
    have := within_any d (xs.getD 0 default).d (xs.getD (n - 1) default).d W
    rw [hd] at this
    exact this)
  have HEL := Lib.hid (fun W (e : Ext w W) => curveLo_any (ca := ca) hn (by omega) (hr.ext e))
  have HEH := Lib.hid (fun W (e : Ext w W) => curveHi_any (ca := ca) hn (by omega) (hr.ext e))
  have CL := crv_lo hn hz (by rw [withinB_eq] at hd; exact of_decide_eq_true hd)
  have CU := crv_up hn hz (by rw [withinB_eq] at hd; exact of_decide_eq_true hd)
  have HAL := Lib.hid (fun W A c (h : RowsAt 2 frEnc W A (loP xs)) => refAt_any (ca := c) (d := d) CL.len CL.two (by have := CL.most; omega) CL.dep CL.bd CL.asc CL.inn h)
  have HAH := Lib.hid (fun W A c (h : RowsAt 2 frEnc W A (upP xs)) => refAt_any (ca := c) (d := d) CU.len CU.two (by have := CU.most; omega) CU.dep CU.bd CU.asc CU.inn h)
  clear CL CU
  obtain ⟨x0, hx0⟩ : ∃ x0, x0 = xs.getD 0 default := ⟨_, rfl⟩
  obtain ⟨x1, hx1⟩ : ∃ x1, x1 = xs.getD (n - 1) default := ⟨_, rfl⟩
  have g0 : xs[0]? = some x0 := by rw [hx0]; exact getI hn (by omega)
  have g1 : xs[n - 1]? = some x1 := by rw [hx1]; exact getI hn (by omega)
  obtain ⟨b, o, rfl, hb, hc⟩ := row_at hr g0
  obtain ⟨b2, o2, he, _, hc2⟩ := row_at hr g1
  obtain ⟨rfl, rfl⟩ : b = b2 ∧ o = o2 := by simpa using he
  have G0 := Lib.hid (show w.cell? ⟨b, o, none⟩ = some (.int .i64 x0.d) by have := hc 0 _ rfl; simpa using this)
  have G1 := Lib.hid (show w.cell? ⟨b, o + (n - 1) * 4, none⟩ = some (.int .i64 x1.d) from hc2 0 _ rfl)
  clear hc hc2 he g0 g1 hb
  rw [← hx0, ← hx1] at HWI
  clear hn hr hz hnil hok hx0 hx1 hd hl
  generalize (checkT xs).1 = ei at *
  generalize atV (loP xs) d n = lo at *
  generalize atV (upP xs) d n = hi at *
  have P0 := Lib.hid (show Blk (w.alloc (.cells #[.slice (some ⟨b, o, none⟩) n ca] 24)) w.heap.size 24 #[.slice (some ⟨b, o, none⟩) n ca] from Blk.new _ _ _)
  go_enter Try.func3, Try.ntmps3
  go_wp2_with (go_at_call 13; refine (awake_any _).mono ?_; rintro e W1 ⟨rfl, hx⟩; have X := Lib.hid ((Ext.alloc _ _).trans hx); have K0 := Lib.hid (P0.out.ext hx); clear hx; refine Hid.out ?_)
  refine Lib.hid ?_
  clear P0
  have y0 : W1.cell? ⟨w.heap.size, 0, none⟩ = some (.slice (some ⟨b, o, none⟩) n ca) := K0.out.cell 0
  go_wp2_with (go_at_call 14; refine (HFW.out _).mono ?_; rintro e W2 ⟨rfl, hx⟩; have X := Lib.hid (X.out.trans hx); have K0 := Lib.hid (K0.out.ext hx); clear hx y0; refine Hid.out ?_)
  refine Lib.hid ?_
  have y0 : W2.cell? ⟨w.heap.size, 0, none⟩ = some (.slice (some ⟨b, o, none⟩) n ca) := K0.out.cell 0
  go_wp2_with (go_at_call 16; refine (HCP.out _ X.out).mono ?_; rintro e W3 ⟨A2, c2, rfl, hr2, -, hx⟩; have X := Lib.hid (X.out.trans hx); have K0 := Lib.hid (K0.out.ext hx); have R2 := Lib.hid hr2; clear hr2; clear hx y0; refine Hid.out ?_)
  refine Lib.hid ?_
  have y0 : W3.cell? ⟨w.heap.size, 0, none⟩ = some (.slice (some ⟨b, o, none⟩) n ca) := K0.out.cell 0
  go_wp2_with (go_at_call 15; refine (HCT.out _ _ _ R2.out).mono ?_; rintro e W4 ⟨rfl, hx⟩; have X := Lib.hid (X.out.trans hx); have K0 := Lib.hid (K0.out.ext hx); clear R2; clear hx y0; refine Hid.out ?_)
  refine Lib.hid ?_
  have y0 : W4.cell? ⟨w.heap.size, 0, none⟩ = some (.slice (some ⟨b, o, none⟩) n ca) := K0.out.cell 0
  go_wp2_with (go_at_call 16; refine (HCP.out _ X.out).mono ?_; rintro e W5 ⟨A2, c2, rfl, hr2, -, hx⟩; have X := Lib.hid (X.out.trans hx); have K0 := Lib.hid (K0.out.ext hx); have R2 := Lib.hid hr2; clear hr2; clear hx y0; refine Hid.out ?_)
  refine Lib.hid ?_
  have y0 : W5.cell? ⟨w.heap.size, 0, none⟩ = some (.slice (some ⟨b, o, none⟩) n ca) := K0.out.cell 0
  go_wp2_with (go_at_call 17; refine (HHA.out _ _ _ R2.out).mono ?_; rintro e W6 ⟨rfl, hx⟩; have X := Lib.hid (X.out.trans hx); have K0 := Lib.hid (K0.out.ext hx); clear R2; clear hx y0; refine Hid.out ?_)
  refine Lib.hid ?_
  have y0 : ∀ o1, (W6.alloc o1).cell? ⟨w.heap.size, 0, none⟩ = some (.slice (some ⟨b, o, none⟩) n ca) := fun o1 => (K0.out.alloc o1).cell 0
  go_wp2_with (fail)
  obtain ⟨V6, hV⟩ : ∃ V1, V1 = W6.alloc (.cells #[.int .i64 lo.1, .int .i64 lo.2, .int .i64 hi.1, .int .i64 hi.2] 34) := ⟨_, rfl⟩
  obtain ⟨q9, hq⟩ : ∃ q, q = W6.heap.size := ⟨_, rfl⟩
  rw [← hV, ← hq]
  have K9 := Lib.hid (show Blk V6 q9 34 #[.int .i64 lo.1, .int .i64 lo.2, .int .i64 hi.1, .int .i64 hi.2] by rw [hV, hq]; exact Blk.new _ _ _)
  have hx : Ext W6 V6 := by rw [hV]; exact Ext.alloc _ _
  have X := Lib.hid (X.out.trans hx); have K0 := Lib.hid (K0.out.ext hx); 
  clear hx hV hq y0
  have y0 : V6.cell? ⟨w.heap.size, 0, none⟩ = some (.slice (some ⟨b, o, none⟩) n ca) := K0.out.cell 0
  go_wp2_with (go_at_call 16; refine (HCP.out _ X.out).mono ?_; rintro e W7 ⟨A2, c2, rfl, hr2, -, hx⟩; have X := Lib.hid (X.out.trans hx); have K0 := Lib.hid (K0.out.ext hx); have K9 := Lib.hid (K9.out.ext hx); have R2 := Lib.hid hr2; clear hr2; clear hx y0; refine Hid.out ?_)
  refine Lib.hid ?_
  have y0 : W7.cell? ⟨w.heap.size, 0, none⟩ = some (.slice (some ⟨b, o, none⟩) n ca) := K0.out.cell 0
  go_wp2_with (go_at_call 18; refine (HCA.out _ _ _ R2.out).mono ?_; rintro e W8 ⟨rfl, hx⟩; have X := Lib.hid (X.out.trans hx); have K0 := Lib.hid (K0.out.ext hx); have K9 := Lib.hid (K9.out.ext hx); clear R2; clear hx y0; refine Hid.out ?_)
  refine Lib.hid ?_
  have y0 : ∀ o1, (W8.alloc o1).cell? ⟨w.heap.size, 0, none⟩ = some (.slice (some ⟨b, o, none⟩) n ca) := fun o1 => (K0.out.alloc o1).cell 0
  go_wp2_with (fail)
  obtain ⟨V8, hV⟩ : ∃ V1, V1 = W8.alloc (.cells #[.int .i64 v1, .int .i64 v2, .int .i64 v3, .int .i64 v4] 34) := ⟨_, rfl⟩
  obtain ⟨q11, hq⟩ : ∃ q, q = W8.heap.size := ⟨_, rfl⟩
  rw [← hV, ← hq]
  have K11 := Lib.hid (show Blk V8 q11 34 #[.int .i64 v1, .int .i64 v2, .int .i64 v3, .int .i64 v4] by rw [hV, hq]; exact Blk.new _ _ _)
  have hx : Ext W8 V8 := by rw [hV]; exact Ext.alloc _ _
  have X := Lib.hid (X.out.trans hx); have K0 := Lib.hid (K0.out.ext hx); have K9 := Lib.hid (K9.out.ext hx); 
  clear hx hV hq y0
  have y0 : V8.cell? ⟨w.heap.size, 0, none⟩ = some (.slice (some ⟨b, o, none⟩) n ca) := K0.out.cell 0
  go_wp2_with (go_at_call 19; refine (HRT.out _ X.out).mono ?_; rintro e W9 ⟨rfl, hx⟩; have X := Lib.hid (X.out.trans hx); have K0 := Lib.hid (K0.out.ext hx); have K9 := Lib.hid (K9.out.ext hx); have K11 := Lib.hid (K11.out.ext hx); clear hx y0; refine Hid.out ?_)
  refine Lib.hid ?_
  have y0 : W9.cell? ⟨w.heap.size, 0, none⟩ = some (.slice (some ⟨b, o, none⟩) n ca) := K0.out.cell 0
  have g0 := X.out.cell G0.out
  have g1 := X.out.cell G1.out
  go_wp2
  refine wp_region_each [some 74, some 75, some 76, some 77, some 78, some 79, some 80, some 81, some 82, some 83, some 84, some 85, some 86, some 87, some 88, some 89, some 90] [[1], [3], [75], [76], [77], [78], [3], [80], [3], [82], [83], [84], [81, 85], [86], [87], [74, 79, 88], [89]]
    [Is (.int .i64 (d)), Is (.pointer (some ⟨w.heap.size, 0, none⟩)), Is (.slice (some ⟨b, o, none⟩) n ca), Is (.pointer (some ⟨b, o, none⟩)), Is (.pointer (some ⟨b, o, none⟩)), Is (.int .i64 (x0.d)), Is (.pointer (some ⟨w.heap.size, 0, none⟩)), Is (.slice (some ⟨b, o, none⟩) n ca), Is (.pointer (some ⟨w.heap.size, 0, none⟩)), Is (.slice (some ⟨b, o, none⟩) n ca), Is (.int .i64 ((n : Int))), Is (.int .i64 ((n : Int) - 1)), Is (.pointer (some ⟨b, o + (n - 1) * 4, none⟩)), Is (.pointer (some ⟨b, o + (n - 1) * 4, none⟩)), Is (.int .i64 (x1.d)), Is (.bool (true)), Is (.bool (false))]
    (by kernel_rfl) (by kernel_rfl) (by kernel_rfl) (by kernel_rfl) (by kernel_rfl) Ext (fun W => Ext W9 W)
    (fun W _ => Ext.refl W) (fun W W' h k => h.trans k) ?_ (Ext.drew _) ?_ ?_
  · repeat (refine ⟨fun _ _ _ _ k h => (by first | exact h | exact (IntsAt.ext h k)), ?_⟩)
    exact trivial
  · refine ⟨?_, ?_, ?_, ?_, ?_, ?_, ?_, ?_, ?_, ?_, ?_, ?_, ?_, ?_, ?_, ?_, ?_, trivial⟩
    all_goals intro ρ W ⟨kc, kg, kf⟩ hF hs
    · obtain ⟨h0, -⟩ := hs
      replace h0 : ρ (.tmp 1) = .int .i64 (d) := h0
      go_simp
      exact ⟨Ext.refl _, rfl⟩
    · obtain ⟨h0, -⟩ := hs
      replace h0 : ρ (.tmp 3) = .pointer (some ⟨w.heap.size, 0, none⟩) := h0
      go_simp
      exact ⟨Ext.refl _, rfl⟩
    · obtain ⟨h0, -⟩ := hs
      replace h0 : ρ (.tmp 75) = .pointer (some ⟨w.heap.size, 0, none⟩) := h0
      have hc0 : W.cell? ⟨w.heap.size, 0, none⟩ = some (.slice (some ⟨b, o, none⟩) n ca) := hF.cell (by assumption)
      go_simp
      exact ⟨Ext.refl _, rfl⟩
    · obtain ⟨h0, -⟩ := hs
      replace h0 : ρ (.tmp 76) = .slice (some ⟨b, o, none⟩) n ca := h0
      have hb2 : (0 : Int) < (n : Int) := by omega
      have hb3 : 0 < n := by omega
      go_simp
      exact ⟨Ext.refl _, rfl⟩
    · obtain ⟨h0, -⟩ := hs
      replace h0 : ρ (.tmp 77) = .pointer (some ⟨b, o, none⟩) := h0
      go_simp
      exact ⟨Ext.refl _, rfl⟩
    · obtain ⟨h0, -⟩ := hs
      replace h0 : ρ (.tmp 78) = .pointer (some ⟨b, o, none⟩) := h0
      have hc0 : W.cell? ⟨b, o, none⟩ = some (.int .i64 (x0.d)) := hF.cell (by assumption)
      go_simp
      exact ⟨Ext.refl _, rfl⟩
    · obtain ⟨h0, -⟩ := hs
      replace h0 : ρ (.tmp 3) = .pointer (some ⟨w.heap.size, 0, none⟩) := h0
      go_simp
      exact ⟨Ext.refl _, rfl⟩
    · obtain ⟨h0, -⟩ := hs
      replace h0 : ρ (.tmp 80) = .pointer (some ⟨w.heap.size, 0, none⟩) := h0
      have hc0 : W.cell? ⟨w.heap.size, 0, none⟩ = some (.slice (some ⟨b, o, none⟩) n ca) := hF.cell (by assumption)
      go_simp
      exact ⟨Ext.refl _, rfl⟩
    · obtain ⟨h0, -⟩ := hs
      replace h0 : ρ (.tmp 3) = .pointer (some ⟨w.heap.size, 0, none⟩) := h0
      go_simp
      exact ⟨Ext.refl _, rfl⟩
    · obtain ⟨h0, -⟩ := hs
      replace h0 : ρ (.tmp 82) = .pointer (some ⟨w.heap.size, 0, none⟩) := h0
      have hc0 : W.cell? ⟨w.heap.size, 0, none⟩ = some (.slice (some ⟨b, o, none⟩) n ca) := hF.cell (by assumption)
      go_simp
      exact ⟨Ext.refl _, rfl⟩
    · obtain ⟨h0, -⟩ := hs
      replace h0 : ρ (.tmp 83) = .slice (some ⟨b, o, none⟩) n ca := h0
      go_simp
      exact ⟨Ext.refl _, rfl⟩
    · obtain ⟨h0, -⟩ := hs
      replace h0 : ρ (.tmp 84) = .int .i64 ((n : Int)) := h0
      have hw : IntKind.i64.wrap ((n : Int) - 1) = (n : Int) - 1 := wrap_id _ (by omega) (by omega)
      go_simp
      exact ⟨Ext.refl _, rfl⟩
    · obtain ⟨h0, h1, -⟩ := hs
      replace h0 : ρ (.tmp 81) = .slice (some ⟨b, o, none⟩) n ca := h0
      replace h1 : ρ (.tmp 85) = .int .i64 ((n : Int) - 1) := h1
      have hb6 : (1 : Int) ≤ (n : Int) := by omega
      have hb2 : (n : Int) - 1 < (n : Int) := by omega
      have hb3 : (0 : Int) ≤ (n : Int) - 1 := by omega
      have hb4 : ((n : Int) - 1).toNat = n - 1 := by omega
      have hb5 : n - 1 < n := by omega
      go_simp
      exact ⟨Ext.refl _, rfl⟩
    · obtain ⟨h0, -⟩ := hs
      replace h0 : ρ (.tmp 86) = .pointer (some ⟨b, o + (n - 1) * 4, none⟩) := h0
      go_simp
      exact ⟨Ext.refl _, rfl⟩
    · obtain ⟨h0, -⟩ := hs
      replace h0 : ρ (.tmp 87) = .pointer (some ⟨b, o + (n - 1) * 4, none⟩) := h0
      have hc0 : W.cell? ⟨b, o + (n - 1) * 4, none⟩ = some (.int .i64 (x1.d)) := hF.cell (by assumption)
      go_simp
      exact ⟨Ext.refl _, rfl⟩
    · obtain ⟨h0, h1, h2, -⟩ := hs
      replace h0 : ρ (.tmp 74) = .int .i64 (d) := h0
      replace h1 : ρ (.tmp 79) = .int .i64 (x0.d) := h1
      replace h2 : ρ (.tmp 88) = .int .i64 (x1.d) := h2
      go_simp
      refine (HWI.out _).mono ?_; rintro e w' ⟨rfl, rfl⟩; exact ⟨_, rfl, Ext.refl _, rfl⟩
    · obtain ⟨h0, -⟩ := hs
      replace h0 : ρ (.tmp 89) = .bool (true) := h0
      go_simp
      exact ⟨Ext.refl _, rfl⟩
  · intro fv V9 hF hs
    obtain ⟨-, -, -, -, -, -, -, -, -, -, -, -, -, -, -, -, h90, -⟩ := hs
    replace h90 : fv 90 = .bool (false) := h90
    simp only [fin, List.filterMap]
    go_simp
    have X := Lib.hid (X.out.trans hF); have K0 := Lib.hid (K0.out.ext hF); have K9 := Lib.hid (K9.out.ext hF); have K11 := Lib.hid (K11.out.ext hF); 
    clear hF y0 g0 g1 h90
    have y0 : V9.cell? ⟨w.heap.size, 0, none⟩ = some (.slice (some ⟨b, o, none⟩) n ca) := K0.out.cell 0
    have z0 : V9.cell? ⟨q9, 0, none⟩ = some (.int .i64 lo.1) := K9.out.cell 0
    have z1 : V9.cell? ⟨q9, 1, none⟩ = some (.int .i64 lo.2) := K9.out.cell 1
    have z2 : V9.cell? ⟨q9, 2, none⟩ = some (.int .i64 hi.1) := K9.out.cell 2
    have z3 : V9.cell? ⟨q9, 3, none⟩ = some (.int .i64 hi.2) := K9.out.cell 3
    go_wp2
    refine wp_region_eachG [(100, false), (100, false), (100, false), (100, false), (100, false), (100, false), (100, false), (109, false), (109, false), (109, false), (109, false), (109, false), (109, false), (109, false)] [some 98, some 99, some 100, some 101, some 102, some 103, some 104, some 105, some 106, some 107, some 108, some 109, some 110, some 111, some 112, some 113, some 114, some 115, some 116, some 117] [[10], [98], [99], [9, 100], [101, 100], [3, 100], [103, 100], [1, 100], [104, 105, 100], [102, 106, 100], [100, 107], [108], [9, 109], [110, 109], [3, 109], [112, 109], [1, 109], [113, 114, 109], [111, 115, 109], [109, 116]]
      [Is (.int .i64 (0)), Is (.bool (false)), Is (.bool (false)), Is (.pointer (some ⟨q9, 0, none⟩)), Is (.agg #[.int .i64 (lo.1), .int .i64 (lo.2)]), Is (.agg #[.slice (some ⟨b, o, none⟩) n ca]), PtsC n (loP xs), Is (.int .i64 (d)), Is (.agg #[.int .i64 lo.1, .int .i64 lo.2]), Is (.bool (false)), Is (.bool (false)), Is (.bool (false)), Is (.pointer (some ⟨q9, 2, none⟩)), Is (.agg #[.int .i64 (hi.1), .int .i64 (hi.2)]), Is (.agg #[.slice (some ⟨b, o, none⟩) n ca]), PtsC n (upP xs), Is (.int .i64 (d)), Is (.agg #[.int .i64 hi.1, .int .i64 hi.2]), Is (.bool (false)), Is (.bool (false))]
      (by kernel_rfl) (by kernel_rfl) (by kernel_rfl) (by kernel_rfl) (by kernel_rfl) Ext (fun W => Ext V9 W)
      (fun W _ => Ext.refl W) (fun W W' h k => h.trans k) ?_ (by intro p hp; simp only [List.mem_cons, List.not_mem_nil, or_false] at hp; rcases hp with rfl | rfl | rfl | rfl | rfl | rfl | rfl | rfl | rfl | rfl | rfl | rfl | rfl | rfl <;> exact ⟨_, rfl, fun _ _ h => h⟩) (Ext.drew _) ?_ ?_
    · repeat (refine ⟨fun _ _ _ _ k h => (by first | exact h | exact (by first | exact IntsAt.ext h k | exact PtsC.ext h k)), ?_⟩)
      exact trivial
    · refine ⟨?_, ?_, ?_, ?_, ?_, ?_, ?_, ?_, ?_, ?_, ?_, ?_, ?_, ?_, ?_, ?_, ?_, ?_, ?_, ?_, trivial⟩
      all_goals intro ρ W ⟨kc, kg, kf⟩ hF hs
      · obtain ⟨h0, -⟩ := hs
        replace h0 : ρ (.tmp 10) = .int .i64 (0) := h0
        go_simp
        exact ⟨Ext.refl _, rfl⟩
      · obtain ⟨h0, -⟩ := hs
        replace h0 : ρ (.tmp 98) = .int .i64 (0) := h0
        go_simp
        exact ⟨Ext.refl _, rfl⟩
      · obtain ⟨h0, -⟩ := hs
        replace h0 : ρ (.tmp 99) = .bool (false) := h0
        go_simp
        exact ⟨Ext.refl _, rfl⟩
      · obtain ⟨h0, h1, -⟩ := hs
        replace h0 : ρ (.tmp 9) = .pointer (some ⟨q9, 0, none⟩) := h0
        replace h1 : ρ (.tmp 100) = .bool (false) := h1
        go_simp
        exact ⟨Ext.refl _, rfl⟩
      · obtain ⟨h0, h1, -⟩ := hs
        replace h0 : ρ (.tmp 101) = .pointer (some ⟨q9, 0, none⟩) := h0
        replace h1 : ρ (.tmp 100) = .bool (false) := h1
        have hc0 : W.cell? ⟨q9, 0, none⟩ = some (.int .i64 (lo.1)) := hF.cell (by assumption)
        have hc1 : W.cell? ⟨q9, 1, none⟩ = some (.int .i64 (lo.2)) := hF.cell (by assumption)
        go_simp
        exact ⟨Ext.refl _, rfl⟩
      · obtain ⟨h0, h1, -⟩ := hs
        replace h0 : ρ (.tmp 3) = .pointer (some ⟨w.heap.size, 0, none⟩) := h0
        replace h1 : ρ (.tmp 100) = .bool (false) := h1
        have hc0 : W.cell? ⟨w.heap.size, 0, none⟩ = some (.slice (some ⟨b, o, none⟩) n ca) := hF.cell (by assumption)
        go_simp
        exact ⟨Ext.refl _, rfl⟩
      · obtain ⟨h0, h1, -⟩ := hs
        replace h0 : ρ (.tmp 103) = .agg #[.slice (some ⟨b, o, none⟩) n ca] := h0
        replace h1 : ρ (.tmp 100) = .bool (false) := h1
        go_simp
        refine (HEL.out _ (X.out.trans hF)).mono ?_; rintro e w' ⟨A2, c2, rfl, hr2, hx⟩; exact ⟨_, rfl, hx, A2, c2, rfl, hr2⟩
      · obtain ⟨h0, h1, -⟩ := hs
        replace h0 : ρ (.tmp 1) = .int .i64 (d) := h0
        replace h1 : ρ (.tmp 100) = .bool (false) := h1
        go_simp
        exact ⟨Ext.refl _, rfl⟩
      · obtain ⟨h0, h1, h2, -⟩ := hs
        replace h0 : (PtsC n (loP xs)) (ρ (.tmp 104)) W := h0
        replace h1 : ρ (.tmp 105) = .int .i64 (d) := h1
        replace h2 : ρ (.tmp 100) = .bool (false) := h2
        obtain ⟨A2, c2, hv, hr2⟩ := h0
        have hv2 : ρ (.tmp 104) = .slice A2 n c2 := hv
        clear hv
        go_simp
        refine (HAL.out _ _ _ hr2).mono ?_; rintro e w' ⟨rfl, hx⟩; exact ⟨_, rfl, hx, rfl⟩
      · obtain ⟨h0, h1, h2, -⟩ := hs
        replace h0 : ρ (.tmp 102) = .agg #[.int .i64 (lo.1), .int .i64 (lo.2)] := h0
        replace h1 : ρ (.tmp 106) = .agg #[.int .i64 lo.1, .int .i64 lo.2] := h1
        replace h2 : ρ (.tmp 100) = .bool (false) := h2
        go_simp
        exact ⟨Ext.refl _, rfl⟩
      · obtain ⟨h0, h1, -⟩ := hs
        replace h0 : ρ (.tmp 100) = .bool (false) := h0
        replace h1 : ρ (.tmp 107) = .bool (false) := h1
        go_simp
        exact ⟨Ext.refl _, rfl⟩
      · obtain ⟨h0, -⟩ := hs
        replace h0 : ρ (.tmp 108) = .bool (false) := h0
        go_simp
        exact ⟨Ext.refl _, rfl⟩
      · obtain ⟨h0, h1, -⟩ := hs
        replace h0 : ρ (.tmp 9) = .pointer (some ⟨q9, 0, none⟩) := h0
        replace h1 : ρ (.tmp 109) = .bool (false) := h1
        go_simp
        exact ⟨Ext.refl _, rfl⟩
      · obtain ⟨h0, h1, -⟩ := hs
        replace h0 : ρ (.tmp 110) = .pointer (some ⟨q9, 2, none⟩) := h0
        replace h1 : ρ (.tmp 109) = .bool (false) := h1
        have hc0 : W.cell? ⟨q9, 2, none⟩ = some (.int .i64 (hi.1)) := hF.cell (by assumption)
        have hc1 : W.cell? ⟨q9, 3, none⟩ = some (.int .i64 (hi.2)) := hF.cell (by assumption)
        go_simp
        exact ⟨Ext.refl _, rfl⟩
      · obtain ⟨h0, h1, -⟩ := hs
        replace h0 : ρ (.tmp 3) = .pointer (some ⟨w.heap.size, 0, none⟩) := h0
        replace h1 : ρ (.tmp 109) = .bool (false) := h1
        have hc0 : W.cell? ⟨w.heap.size, 0, none⟩ = some (.slice (some ⟨b, o, none⟩) n ca) := hF.cell (by assumption)
        go_simp
        exact ⟨Ext.refl _, rfl⟩
      · obtain ⟨h0, h1, -⟩ := hs
        replace h0 : ρ (.tmp 112) = .agg #[.slice (some ⟨b, o, none⟩) n ca] := h0
        replace h1 : ρ (.tmp 109) = .bool (false) := h1
        go_simp
        refine (HEH.out _ (X.out.trans hF)).mono ?_; rintro e w' ⟨A2, c2, rfl, hr2, hx⟩; exact ⟨_, rfl, hx, A2, c2, rfl, hr2⟩
      · obtain ⟨h0, h1, -⟩ := hs
        replace h0 : ρ (.tmp 1) = .int .i64 (d) := h0
        replace h1 : ρ (.tmp 109) = .bool (false) := h1
        go_simp
        exact ⟨Ext.refl _, rfl⟩
      · obtain ⟨h0, h1, h2, -⟩ := hs
        replace h0 : (PtsC n (upP xs)) (ρ (.tmp 113)) W := h0
        replace h1 : ρ (.tmp 114) = .int .i64 (d) := h1
        replace h2 : ρ (.tmp 109) = .bool (false) := h2
        obtain ⟨A2, c2, hv, hr2⟩ := h0
        have hv2 : ρ (.tmp 113) = .slice A2 n c2 := hv
        clear hv
        go_simp
        refine (HAH.out _ _ _ hr2).mono ?_; rintro e w' ⟨rfl, hx⟩; exact ⟨_, rfl, hx, rfl⟩
      · obtain ⟨h0, h1, h2, -⟩ := hs
        replace h0 : ρ (.tmp 111) = .agg #[.int .i64 (hi.1), .int .i64 (hi.2)] := h0
        replace h1 : ρ (.tmp 115) = .agg #[.int .i64 hi.1, .int .i64 hi.2] := h1
        replace h2 : ρ (.tmp 109) = .bool (false) := h2
        go_simp
        exact ⟨Ext.refl _, rfl⟩
      · obtain ⟨h0, h1, -⟩ := hs
        replace h0 : ρ (.tmp 109) = .bool (false) := h0
        replace h1 : ρ (.tmp 116) = .bool (false) := h1
        go_simp
        exact ⟨Ext.refl _, rfl⟩
    · intro fv U9 hF hs
      obtain ⟨-, -, -, -, -, -, -, -, -, -, -, -, -, -, -, -, -, -, -, h117, -⟩ := hs
      replace h117 : fv 117 = .bool (false) := h117
      simp only [fin, List.filterMap]
      go_simp
      have X := Lib.hid (X.out.trans hF); have K0 := Lib.hid (K0.out.ext hF); have K9 := Lib.hid (K9.out.ext hF); have K11 := Lib.hid (K11.out.ext hF); 
      clear hF y0 z0 z1 z2 z3 h117
      have y0 : U9.cell? ⟨w.heap.size, 0, none⟩ = some (.slice (some ⟨b, o, none⟩) n ca) := K0.out.cell 0
      go_wp2_with (go_at_call 23; refine (HLM.out _).mono ?_; rintro e w2 ⟨rfl, rfl⟩; refine Hid.out ?_)
      refine Lib.hid ?_
      go_wp2_with (go_at_call 24; refine (HCR.out _ X.out).mono ?_; rintro e WA ⟨rfl, hx⟩; have X := Lib.hid (X.out.trans hx); have K0 := Lib.hid (K0.out.ext hx); have K11 := Lib.hid (K11.out.ext hx); clear hx y0; refine Hid.out ?_)
      refine Lib.hid ?_
      have u0 : ∀ o1, (WA.alloc o1).cell? ⟨q11, 0, none⟩ = some (.int .i64 v1) := fun o1 => (K11.out.alloc o1).cell 0
      have u1 : ∀ o1, (WA.alloc o1).cell? ⟨q11, 1, none⟩ = some (.int .i64 v2) := fun o1 => (K11.out.alloc o1).cell 1
      have u2 : ∀ o1, (WA.alloc o1).cell? ⟨q11, 2, none⟩ = some (.int .i64 v3) := fun o1 => (K11.out.alloc o1).cell 2
      have u3 : ∀ o1, (WA.alloc o1).cell? ⟨q11, 3, none⟩ = some (.int .i64 v4) := fun o1 => (K11.out.alloc o1).cell 3
      go_wp2
      go_ret
      exact ⟨rfl, X.out.trans (Ext.alloc _ _)⟩

theorem trav_any {A : Option Addr} {n ca : Nat} {xs : List In} {w : World} (d l : Int) (hnil : A = none → ca = 0) (hn : xs.length = n) (hr : n ≤ 1000 → RowsAt 4 In.enc w A xs) : Calls Try.prog 3 #[.agg #[.slice A n ca], .int .i64 d, .int .i64 l] w fun e w' => e = .returned (.bool true) ∧ Ext w w' := by
  rcases Nat.lt_or_ge 22 n with h | h
  · exact trav_few d l h
  · have hr := hr (by omega)
    by_cases hz : (checkT xs).2 = 0
    · cases hd : withinB d (xs.getD 0 default).d (xs.getD (n - 1) default).d with
      | false =>
        cases hl : hardB l with
        | false => exact trav_missBad d l hn hr hnil hz hd hl
        | true => exact trav_missFine d l hn hr hnil hz hd hl
      | true =>
        cases hl : hardB l with
        | false => exact trav_inBad d l hn hr hnil hz hd hl
        | true => exact trav_inFine d l hn hr hnil hz hd hl
    · exact trav_bad d l hn hr hnil h hz

end Go.Proofs.Ytmddnpagfgilcaa
