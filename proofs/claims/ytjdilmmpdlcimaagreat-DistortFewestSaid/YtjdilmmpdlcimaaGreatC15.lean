/- The examples hold. -/
import Derived.Test.YtjdilmmpdlcimaaGreatC12
import Derived.Test.YtjdilmmpdlcimaaGreatC13
import Derived.Test.YtjdilmmpdlcimaaGreatC14
import Derived.Test.YtjdilmmpdlcimaaGreatB6
import Derived.Test.YtjdilmmpdlcimaaGreatB7
import Derived.Test.YtjdilmmpdlcimaaGreatN4
import Derived.Lib.MinMax
import Derived.Deep.DeepCutAuto
import Derived.Laws.StructEq

namespace Go.Proofs.YtjdilmmpdlcimaaGreat
open Go.RowKit Go.Shelf Go.Mem Go.RegInv
attribute [local go_sem] RelUpon_value RelUpon_skip RelUpon_enter BigFrame.eval_const BigFrame.eval_global BigFrame.eval_func


theorem rowSk_new {W : World} {b : Nat} (K : Hid (Blk W b 68 #[.int .i64 0, .int .i64 8, .bool true])) : RowsAt 3 Sk.enc W (some ⟨b, 0, none⟩) [⟨0, 8, true⟩] := by
  refine ⟨by simp, fun i x hx => ?_⟩
  rcases (show i = 0 ∨ 1 ≤ i by omega) with rfl | hi
  · obtain rfl := Option.some.inj hx
    refine ⟨_, 0, rfl, K.out.lt, fun j u hu => ?_⟩
    rcases (show j = 0 ∨ j = 1 ∨ j = 2 ∨ 3 ≤ j by omega) with rfl | rfl | rfl | hj
    · rw [← hu]; exact K.out.cell 0
    · rw [← hu]; exact K.out.cell 1
    · rw [← hu]; exact K.out.cell 2
    · rw [List.getElem?_eq_none (by simp [Sk.enc]; omega)] at hu; cases hu
  · rw [List.getElem?_eq_none (by simp; omega)] at hx; cases hx
theorem rowSe_new {W : World} {b : Nat} (K : Hid (Blk W b 65 #[.int .i64 50, .int .i64 10, .int .i64 20, .int .i64 30, .int .i64 (-5), .int .i64 5])) : RowsAt 3 Se.enc W (some ⟨b, 0, none⟩) [⟨50, 10, 20⟩, ⟨30, -5, 5⟩] := by
  refine ⟨by simp, fun i x hx => ?_⟩
  rcases (show i = 0 ∨ i = 1 ∨ 2 ≤ i by omega) with rfl | rfl | hi
  · obtain rfl := Option.some.inj hx
    refine ⟨_, 0, rfl, K.out.lt, fun j u hu => ?_⟩
    rcases (show j = 0 ∨ j = 1 ∨ j = 2 ∨ 3 ≤ j by omega) with rfl | rfl | rfl | hj
    · rw [← hu]; exact K.out.cell 0
    · rw [← hu]; exact K.out.cell 1
    · rw [← hu]; exact K.out.cell 2
    · rw [List.getElem?_eq_none (by simp [Se.enc]; omega)] at hu; cases hu
  · obtain rfl := Option.some.inj hx
    refine ⟨_, 0, rfl, K.out.lt, fun j u hu => ?_⟩
    rcases (show j = 0 ∨ j = 1 ∨ j = 2 ∨ 3 ≤ j by omega) with rfl | rfl | rfl | hj
    · rw [← hu]; exact K.out.cell 3
    · rw [← hu]; exact K.out.cell 4
    · rw [← hu]; exact K.out.cell 5
    · rw [List.getElem?_eq_none (by simp [Se.enc]; omega)] at hu; cases hu
  · rw [List.getElem?_eq_none (by simp; omega)] at hx; cases hx
theorem ex1 : deflV 100 [40] [(10, 12)] 70 = (120, 144) ∧ deflE 100 [40] [(10, 12)] 70 = 0 := ⟨by kernel_rfl, by kernel_rfl⟩
theorem ex2 : fewV 100 [40] [(10, 12)] [5, 8] 3 2 12 50 = some [⟨0, 8, true⟩] ∧ fewC 100 [40] [(10, 12)] [5, 8] 3 2 12 50 = 0 := ⟨by kernel_rfl, by kernel_rfl⟩
theorem ex3 : readE 5 2 1 2 = 0 ∧ runV 5 2 1 2 = (4, 0, 2, (4, 4)) := ⟨by kernel_rfl, by kernel_rfl⟩
theorem ex4 : smpF 1 2 1 2 39 2 = (3, 0) := by kernel_rfl
theorem ex5 : growV [⟨50, 10, 20⟩, ⟨30, -5, 5⟩] = (350, 1150) ∧ sectsE [⟨50, 10, 20⟩, ⟨30, -5, 5⟩] = 0 := ⟨by kernel_rfl, by kernel_rfl⟩
set_option maxRecDepth 100000 in
set_option maxHeartbeats 1000000 in
theorem awake_any (w : World) : Calls Tryz.prog 4 #[] w fun e w' => e = .returned (.bool true) ∧ Ext w w' := by
  have HDE := Lib.hid (fun W J K (hJ : RowsAt 1 I1 W (some J) [40]) (hK : RowsAt 2 Rg.enc W (some K) [(10, 12)]) => show Calls Tryz.prog 17 #[.agg #[.int .i64 100, .slice (some J) 1 1, .slice (some K) 1 1], .int .i64 70] W fun e w' => e = .returned (.tuple #[.agg #[.int .i64 120, .int .i64 144], .int .i64 0]) ∧ Ext W w' from by
    have := deflectionAt_any (L := 100) (cj := 1) (ck := 1) (n := 1) (m := 1) rfl hJ rfl hK (p := 70)
    rw [ex1.1, ex1.2] at this
    exact this)
  have HFE := Lib.hid (fun W J K P (hJ : RowsAt 1 I1 W (some J) [40]) (hK : RowsAt 2 Rg.enc W (some K) [(10, 12)]) (hP : RowsAt 1 I1 W (some P) [5, 8]) => show Calls Tryz.prog 8 #[.agg #[.int .i64 100, .slice (some J) 1 1, .slice (some K) 1 1], .agg #[.slice (some P) 2 2, .int .i64 3, .int .i64 2, .int .i64 12], .int .i64 50] W fun e w' => ∃ A c, e = .returned (.tuple #[.slice A 1 c, .int .i64 0]) ∧ RowsAt 3 Sk.enc w' A [⟨0, 8, true⟩] ∧ Ext W w' from by
    have := fewestOf_any (L := 100) (cj := 1) (ck := 1) (cp := 2) (n := 1) (m := 1) (np := 2) (sp := 3) (ga := 2) (li := 12) (t := 50) rfl hJ rfl hK (fun h => by cases h) rfl hP
    rw [ex2.1, ex2.2] at this
    refine this.mono ?_
    rintro e w' ⟨A, m, c, rfl, -, h, hx⟩
    obtain ⟨h1, h2, -⟩ := h _ rfl
    subst h1
    exact ⟨A, c, rfl, h2, hx⟩)
  have HRU := Lib.hid (fun W => show Calls Tryz.prog 20 #[.agg #[.int .i64 5, .int .i64 2, .int .i64 1, .int .i64 2]] W fun e w' => e = .returned (.tuple #[.agg #[.int .i64 4, .int .i64 0, .int .i64 2, .int .i64 4, .int .i64 4], .int .i64 0]) ∧ Ext W w' from by
    have := runOutOf_ok ex3.1 W
    rw [ex3.2] at this
    exact this)
  have HSA := Lib.hid (fun W => show Calls Tryz.prog 21 #[.agg #[.int .i64 1, .int .i64 2], .agg #[.int .i64 1, .int .i64 2]] W fun e w' => e = .returned (.tuple #[.int .i64 3, .int .i64 0]) ∧ Ext W w' from by
    have := sampleFor_ok (a := 1) (b := 2) (c := 1) (d := 2) ⟨by decide, by decide, by decide, by decide⟩ ⟨by decide, by decide, by decide, by decide⟩ W
    rw [ex4] at this
    exact this)
  have HGR := Lib.hid (fun W b (h : RowsAt 3 Se.enc W (some ⟨b, 0, none⟩) [⟨50, 10, 20⟩, ⟨30, -5, 5⟩]) => show Calls Tryz.prog 22 #[.slice (some ⟨b, 0, none⟩) 2 2] W fun e w' => e = .returned (.tuple #[.agg #[.int .i64 350, .int .i64 1150], .int .i64 0]) ∧ Ext W w' from by
    have := growthOf_any (ca := 2) (n := 2) rfl h
    rw [ex5.1, ex5.2] at this
    exact this)
  go_enter Tryz.func4, Tryz.ntmps4
  go_wp2_with (go_at_call 18; refine (shaft_any _).mono ?_; rintro e W1 ⟨J, K, rfl, hr, hr2, hx⟩; have X1 := Lib.hid hx; have RJ := Lib.hid hr; have RK := Lib.hid hr2; clear hx hr hr2; refine Hid.out ?_)
  refine Lib.hid ?_
  go_wp2_with (go_at_call 17; refine (HDE.out _ J K RJ.out RK.out).mono ?_; rintro e W2 ⟨rfl, hx⟩; have X2 := Lib.hid (X1.out.trans (hx.trans (Ext.alloc W2 (.cells #[.int .i64 120, .int .i64 144] 49)))); have B1 := Lib.hid (Blk.new W2 49 #[.int .i64 120, .int .i64 144]); clear hx X1 RJ RK; refine Hid.out ?_)
  refine Lib.hid ?_
  go_wp2_with (go_at_call 18; refine (shaft_any _).mono ?_; rintro e W3 ⟨J2, K2, rfl, hr, hr2, hx⟩; have X3 := Lib.hid (X2.out.trans hx); replace B1 := Lib.hid (B1.out.ext hx); have RJ := Lib.hid hr; have RK := Lib.hid hr2; clear hx hr hr2 X2; refine Hid.out ?_)
  refine Lib.hid ?_
  go_wp2_with (go_at_call 19; refine (press_any _).mono ?_; rintro e W4 ⟨P, rfl, hr, hx⟩; have X4 := Lib.hid (X3.out.trans hx); replace B1 := Lib.hid (B1.out.ext hx); replace RJ := Lib.hid (RJ.out.ext hx); replace RK := Lib.hid (RK.out.ext hx); have RP := Lib.hid hr; clear hx hr X3; refine Hid.out ?_)
  refine Lib.hid ?_
  go_wp2_with (go_at_call 8; refine (HFE.out _ J2 K2 P RJ.out RK.out RP.out).mono ?_; rintro e W5 ⟨A, c, rfl, hr, hx⟩; have X5 := Lib.hid (X4.out.trans hx); replace B1 := Lib.hid (B1.out.ext hx); have RA := Lib.hid hr; clear hx hr X4 RJ RK RP; refine Hid.out ?_)
  refine Lib.hid ?_
  go_wp2_with (go_at_call 20; refine (HRU.out _).mono ?_; rintro e W6 ⟨rfl, hx⟩; have X6 := Lib.hid (X5.out.trans (hx.trans (Ext.alloc W6 (.cells #[.int .i64 4, .int .i64 0, .int .i64 2, .int .i64 4, .int .i64 4] 55)))); replace B1 := Lib.hid ((B1.out.ext hx).alloc (.cells #[.int .i64 4, .int .i64 0, .int .i64 2, .int .i64 4, .int .i64 4] 55)); replace RA := Lib.hid (RA.out.ext (hx.trans (Ext.alloc W6 (.cells #[.int .i64 4, .int .i64 0, .int .i64 2, .int .i64 4, .int .i64 4] 55)))); have B2 := Lib.hid (Blk.new W6 55 #[.int .i64 4, .int .i64 0, .int .i64 2, .int .i64 4, .int .i64 4]); clear hx X5; refine Hid.out ?_)
  refine Lib.hid ?_
  go_wp2_with (go_at_call 21; refine (HSA.out _).mono ?_; rintro e W7 ⟨rfl, hx⟩; have X7 := Lib.hid (X6.out.trans (hx.trans (Ext.alloc W7 (.cells #[.int .i64 50, .int .i64 10, .int .i64 20, .int .i64 30, .int .i64 (-5), .int .i64 5] 65)))); replace B1 := Lib.hid ((B1.out.ext hx).alloc (.cells #[.int .i64 50, .int .i64 10, .int .i64 20, .int .i64 30, .int .i64 (-5), .int .i64 5] 65)); replace B2 := Lib.hid ((B2.out.ext hx).alloc (.cells #[.int .i64 50, .int .i64 10, .int .i64 20, .int .i64 30, .int .i64 (-5), .int .i64 5] 65)); replace RA := Lib.hid (RA.out.ext (hx.trans (Ext.alloc W7 (.cells #[.int .i64 50, .int .i64 10, .int .i64 20, .int .i64 30, .int .i64 (-5), .int .i64 5] 65)))); have B3 := Lib.hid (Blk.new W7 65 #[.int .i64 50, .int .i64 10, .int .i64 20, .int .i64 30, .int .i64 (-5), .int .i64 5]); clear hx X6; refine Hid.out ?_)
  refine Lib.hid ?_
  go_wp2_with (go_at_call 22; refine (HGR.out _ _ (rowSe_new B3)).mono ?_; rintro e W8 ⟨rfl, hx⟩; have X8 := Lib.hid (X7.out.trans (hx.trans (Ext.alloc W8 (.cells #[.int .i64 350, .int .i64 1150] 49)))); replace B1 := Lib.hid ((B1.out.ext hx).alloc (.cells #[.int .i64 350, .int .i64 1150] 49)); replace B2 := Lib.hid ((B2.out.ext hx).alloc (.cells #[.int .i64 350, .int .i64 1150] 49)); replace RA := Lib.hid (RA.out.ext (hx.trans (Ext.alloc W8 (.cells #[.int .i64 350, .int .i64 1150] 49)))); have B4 := Lib.hid (Blk.new W8 49 #[.int .i64 350, .int .i64 1150]); clear hx X7 B3; refine Hid.out ?_)
  refine Lib.hid ?_
  obtain ⟨W9, hW9⟩ : ∃ W9, W9 = W8.alloc (.cells #[.int .i64 350, .int .i64 1150] 49) := ⟨_, rfl⟩
  obtain ⟨q1, hq1⟩ : ∃ q, q = W2.heap.size := ⟨_, rfl⟩
  obtain ⟨q2, hq2⟩ : ∃ q, q = W6.heap.size := ⟨_, rfl⟩
  obtain ⟨q4, hq4⟩ : ∃ q, q = W8.heap.size := ⟨_, rfl⟩
  rw [← hW9] at B1 B2 B4 X8 RA
  rw [← hq1] at B1
  rw [← hq2] at B2
  rw [← hq4] at B4
  go_upto_region 6 with (fail)
  rw [← hW9, ← hq1, ← hq2, ← hq4]
  clear hW9 hq1 hq2 hq4 HDE HFE HRU HSA HGR
  have yq1_0 : W9.cell? ⟨q1, 0, none⟩ = some (.int .i64 120) := B1.out.cell 0
  have yq1_1 : W9.cell? ⟨q1, 1, none⟩ = some (.int .i64 144) := B1.out.cell 1
  have yq2_0 : W9.cell? ⟨q2, 0, none⟩ = some (.int .i64 4) := B2.out.cell 0
  have yq2_1 : W9.cell? ⟨q2, 1, none⟩ = some (.int .i64 0) := B2.out.cell 1
  have yq2_2 : W9.cell? ⟨q2, 2, none⟩ = some (.int .i64 2) := B2.out.cell 2
  have yq2_3 : W9.cell? ⟨q2, 3, none⟩ = some (.int .i64 4) := B2.out.cell 3
  have yq2_4 : W9.cell? ⟨q2, 4, none⟩ = some (.int .i64 4) := B2.out.cell 4
  have yq4_0 : W9.cell? ⟨q4, 0, none⟩ = some (.int .i64 350) := B4.out.cell 0
  have yq4_1 : W9.cell? ⟨q4, 1, none⟩ = some (.int .i64 1150) := B4.out.cell 1
  have SK := Lib.hid (rowSk_new (Lib.hid (Blk.new W9 68 #[.int .i64 0, .int .i64 8, .bool true])))
  have E1 := Lib.hid (Ext.alloc W9 (.cells #[.int .i64 0, .int .i64 8, .bool true] 68))
  go_wp2_with (go_at_call 16; refine (samePlan_any (ca := c) (cb := 1) rfl (RA.out.ext E1.out) rfl SK.out).mono ?_; rintro e Wa ⟨b, rfl, hb, hx⟩; have XA := Lib.hid (E1.out.trans hx); obtain rfl : b = true := hb.2 rfl; clear hb hx yq1_0 yq1_1 yq2_0 yq2_1 yq2_2 yq2_3 yq2_4 yq4_0 yq4_1; refine Hid.out ?_)
  refine Lib.hid ?_
  have yq1_0 : Wa.cell? ⟨q1, 0, none⟩ = some (.int .i64 120) := (B1.out.ext XA.out).cell 0
  have yq1_1 : Wa.cell? ⟨q1, 1, none⟩ = some (.int .i64 144) := (B1.out.ext XA.out).cell 1
  have yq2_0 : Wa.cell? ⟨q2, 0, none⟩ = some (.int .i64 4) := (B2.out.ext XA.out).cell 0
  have yq2_1 : Wa.cell? ⟨q2, 1, none⟩ = some (.int .i64 0) := (B2.out.ext XA.out).cell 1
  have yq2_2 : Wa.cell? ⟨q2, 2, none⟩ = some (.int .i64 2) := (B2.out.ext XA.out).cell 2
  have yq2_3 : Wa.cell? ⟨q2, 3, none⟩ = some (.int .i64 4) := (B2.out.ext XA.out).cell 3
  have yq2_4 : Wa.cell? ⟨q2, 4, none⟩ = some (.int .i64 4) := (B2.out.ext XA.out).cell 4
  have yq4_0 : Wa.cell? ⟨q4, 0, none⟩ = some (.int .i64 350) := (B4.out.ext XA.out).cell 0
  have yq4_1 : Wa.cell? ⟨q4, 1, none⟩ = some (.int .i64 1150) := (B4.out.ext XA.out).cell 1
  go_wp2
  go_ret
  exact ⟨rfl, X8.out.trans XA.out⟩

end Go.Proofs.YtjdilmmpdlcimaaGreat
