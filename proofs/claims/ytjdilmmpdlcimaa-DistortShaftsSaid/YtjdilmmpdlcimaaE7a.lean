/- DistortShafts where the shaft is not valid. -/
import Derived.Test.YtjdilmmpdlcimaaE4
import Derived.Test.YtjdilmmpdlcimaaE5
import Derived.Test.YtjdilmmpdlcimaaD6
import Derived.Test.YtjdilmmpdlcimaaC15
import Derived.Lib.MinMax
import Derived.Deep.DeepCutAuto
import Derived.BigQuiet

namespace Go.Proofs.Ytjdilmmpdlcimaa
open Go.RowKit Go.Shelf Go.Mem Go.RegInv
attribute [local go_sem] RelUpon_value RelUpon_skip RelUpon_enter BigFrame.eval_const BigFrame.eval_global BigFrame.eval_func


set_option maxRecDepth 100000 in
set_option maxHeartbeats 1000000 in
theorem shafts_bad {L : Int} {J K : Option Addr} {n m cj ck : Nat} {js : List Int} {ks : List Rg} {w : World} (hn : js.length = n) (hJ : RowsAt 1 I1 w J js) (hm : ks.length = m) (hK : RowsAt 2 Rg.enc w K ks) {p t : Int} (hjn : J = none → cj = 0) (hkn : K = none → ck = 0) (h6 : n ≤ 6) (hm6 : m ≤ 6) (hz : (checkS L js ks).2 ≠ 0) :
    Calls Try.prog 3 #[.agg #[.int .i64 L, .slice J n cj, .slice K m ck], .int .i64 p, .int .i64 t] w fun e w' => e = .returned (.bool true) ∧ Ext w w' := by
  obtain ⟨ci, hci⟩ : ∃ i, (checkS L js ks).1 = i := ⟨_, rfl⟩
  obtain ⟨z, hcz⟩ : ∃ i, (checkS L js ks).2 = i := ⟨_, rfl⟩
  have hde : deflE L js ks p = z := by unfold deflE; rw [firstE_consN _ hz, hcz]
  have hdv : deflV L js ks p = (0, 0) := by unfold deflV; rw [if_neg (by rw [hde, ← hcz]; exact hz)]
  have hie : isE L js ks t = z := by unfold isE; rw [firstE_consN _ hz, hcz]
  have hiv : isV L js ks t = 0 := by unfold isV; rw [if_neg (by rw [hie, ← hcz]; exact hz)]
  rw [hcz] at hz
  have H15 := Lib.hid (fun W J1 cj1 K1 ck1 (h1 : RowsAt 1 I1 W J1 js) (h2 : RowsAt 2 Rg.enc W K1 ks) => show Calls Try.prog 15 #[.agg #[.int .i64 L, .slice J1 n cj1, .slice K1 m ck1]] W fun e w' => e = .returned (.tuple #[.int .i64 ci, .int .i64 z]) ∧ Ext W w' from by have := checkShaft_any (cj := cj1) (ck := ck1) (L := L) hn h1 hm h2; rw [hci, hcz] at this; exact this)
  have H17 := Lib.hid (fun W J1 cj1 K1 ck1 (h1 : RowsAt 1 I1 W J1 js) (h2 : RowsAt 2 Rg.enc W K1 ks) => show Calls Try.prog 17 #[.agg #[.int .i64 L, .slice J1 n cj1, .slice K1 m ck1], .int .i64 p] W fun e w' => e = .returned (.tuple #[.agg #[.int .i64 0, .int .i64 0], .int .i64 z]) ∧ Ext W w' from by have := deflectionAt_any (cj := cj1) (ck := ck1) (L := L) (p := p) hn h1 hm h2; rw [hdv, hde] at this; exact this)
  have H18 := Lib.hid (fun W J1 cj1 K1 ck1 (h1 : RowsAt 1 I1 W J1 js) (h2 : RowsAt 2 Rg.enc W K1 ks) => show Calls Try.prog 18 #[.agg #[.int .i64 L, .slice J1 n cj1, .slice K1 m ck1]] W fun e w' => e = .returned (.tuple #[.slice none 0 0, .int .i64 z]) ∧ Ext W w' from by have := deflectionsOf_bad (cj := cj1) (ck := ck1) (L := L) hn h1 hm h2 (by rw [hcz]; exact hz); rw [hcz] at this; exact this)
  have H19 := Lib.hid (fun W J1 cj1 K1 ck1 (h1 : RowsAt 1 I1 W J1 js) (h2 : RowsAt 2 Rg.enc W K1 ks) => show Calls Try.prog 19 #[.agg #[.int .i64 L, .slice J1 n cj1, .slice K1 m ck1], .int .i64 t] W fun e w' => e = .returned (.tuple #[.int .i64 0, .int .i64 z]) ∧ Ext W w' from by have := isStraight_any (cj := cj1) (ck := ck1) (L := L) (t := t) hn h1 hm h2; rw [hiv, hie] at this; exact this)
  have H20 := Lib.hid (fun W (e : Ext w W) => show Calls Try.prog 20 #[.agg #[.int .i64 L, .slice J n cj, .slice K m ck]] W fun e w' => e = .returned (.tuple #[.int .i64 ci, .int .i64 z]) ∧ Ext W w' from by have := refCheckShaft_any (cj := cj) (ck := ck) (L := L) hn (hJ.ext e) hm (hK.ext e); rw [hci, hcz] at this; exact this)
  have HFEW := Lib.hid (fun W => show Calls Try.prog 14 #[.agg #[.int .i64 L, .slice J n cj, .slice K m ck]] W fun e w' => e = .returned (.bool true) ∧ Ext W w' from by have := few_any (L := L) (J := J) (K := K) (n := n) (m := m) (cj := cj) (ck := ck) W (by unfold maxLen; omega) (by unfold maxLen; omega); rw [show few2 n m = true by simp [few2, h6, hm6]] at this; exact this)
  have HCP := Lib.hid (fun W (e : Ext w W) => copyShaft_any (L := L) (cj := cj) (ck := ck) hn (hJ.ext e) hm (hK.ext e) hjn hkn (by omega) (by omega))
  have HN := Lib.hid hn
  have HM := Lib.hid hm
  clear hde hdv hie hiv hcz hci hn hJ hm hK hjn hkn
  obtain ⟨W0, hW0⟩ : ∃ W0, W0 = w.alloc (.cells #[.int .i64 L, .slice J n cj, .slice K m ck] 25) := ⟨_, rfl⟩
  have Ky := Lib.hid (show Blk W0 (w.heap.size) 25 #[.int .i64 L, .slice J n cj, .slice K m ck] by rw [hW0]; exact Blk.new _ _ _)
  have X := Lib.hid (show Ext w W0 by rw [hW0]; exact Ext.alloc _ _)
  have y_0 : W0.cell? ⟨w.heap.size, 0, none⟩ = some (.int .i64 L) := Ky.out.cell 0
  have y_1 : W0.cell? ⟨w.heap.size, 1, none⟩ = some (.slice J n cj) := Ky.out.cell 1
  have y_2 : W0.cell? ⟨w.heap.size, 2, none⟩ = some (.slice K m ck) := Ky.out.cell 2
  go_enter Try.func3, Try.ntmps3
  go_upto_region 1 with (fail)
  rw [← hW0]
  clear hW0
  go_wp2_with (go_at_call 13; refine (awake_any _).mono ?_; rintro e W1 ⟨rfl, hx⟩; replace X := Lib.hid (X.out.trans hx); replace Ky := Lib.hid (Ky.out.ext hx); clear hx y_0 y_1 y_2; refine Hid.out ?_)
  refine Lib.hid ?_
  have y_0 : W1.cell? ⟨w.heap.size, 0, none⟩ = some (.int .i64 L) := Ky.out.cell 0
  have y_1 : W1.cell? ⟨w.heap.size, 1, none⟩ = some (.slice J n cj) := Ky.out.cell 1
  have y_2 : W1.cell? ⟨w.heap.size, 2, none⟩ = some (.slice K m ck) := Ky.out.cell 2
  go_wp2_with (go_at_call 14; refine (HFEW.out _).mono ?_; rintro e W2 ⟨rfl, hx⟩; replace X := Lib.hid (X.out.trans hx); replace Ky := Lib.hid (Ky.out.ext hx); clear hx y_0 y_1 y_2; refine Hid.out ?_)
  refine Lib.hid ?_
  have y_0 : W2.cell? ⟨w.heap.size, 0, none⟩ = some (.int .i64 L) := Ky.out.cell 0
  have y_1 : W2.cell? ⟨w.heap.size, 1, none⟩ = some (.slice J n cj) := Ky.out.cell 1
  have y_2 : W2.cell? ⟨w.heap.size, 2, none⟩ = some (.slice K m ck) := Ky.out.cell 2
  go_wp2_with (go_at_call 16; refine (HCP.out _ X.out).mono ?_; rintro e W3 ⟨v, rfl, hc, hx⟩; obtain ⟨J1, cj1, K1, ck1, rfl, hr1, hr2, hn1, hn2, -⟩ := hc; have RJ1 := Lib.hid hr1; have RK1 := Lib.hid hr2; have NJ1 := Lib.hid hn1; have NK1 := Lib.hid hn2; clear hr1 hr2 hn1 hn2; replace X := Lib.hid (X.out.trans hx); replace Ky := Lib.hid (Ky.out.ext hx); clear hx y_0 y_1 y_2; refine Hid.out ?_)
  refine Lib.hid ?_
  have y_0 : W3.cell? ⟨w.heap.size, 0, none⟩ = some (.int .i64 L) := Ky.out.cell 0
  have y_1 : W3.cell? ⟨w.heap.size, 1, none⟩ = some (.slice J n cj) := Ky.out.cell 1
  have y_2 : W3.cell? ⟨w.heap.size, 2, none⟩ = some (.slice K m ck) := Ky.out.cell 2
  go_wp2_with (go_at_call 15; refine (H15.out _ _ _ _ _ RJ1.out RK1.out).mono ?_; rintro e W4 ⟨rfl, hx⟩; replace X := Lib.hid (X.out.trans hx); replace Ky := Lib.hid (Ky.out.ext hx); clear hx y_0 y_1 y_2; refine Hid.out ?_)
  refine Lib.hid ?_
  have y_0 : W4.cell? ⟨w.heap.size, 0, none⟩ = some (.int .i64 L) := Ky.out.cell 0
  have y_1 : W4.cell? ⟨w.heap.size, 1, none⟩ = some (.slice J n cj) := Ky.out.cell 1
  have y_2 : W4.cell? ⟨w.heap.size, 2, none⟩ = some (.slice K m ck) := Ky.out.cell 2
  go_wp2_with (go_at_call 16; refine (HCP.out _ X.out).mono ?_; rintro e W5 ⟨v, rfl, hc, hx⟩; obtain ⟨J2, cj2, K2, ck2, rfl, hr1, hr2, hn1, hn2, -⟩ := hc; have RJ2 := Lib.hid hr1; have RK2 := Lib.hid hr2; have NJ2 := Lib.hid hn1; have NK2 := Lib.hid hn2; clear hr1 hr2 hn1 hn2; replace X := Lib.hid (X.out.trans hx); replace Ky := Lib.hid (Ky.out.ext hx); clear hx y_0 y_1 y_2; refine Hid.out ?_)
  refine Lib.hid ?_
  have y_0 : W5.cell? ⟨w.heap.size, 0, none⟩ = some (.int .i64 L) := Ky.out.cell 0
  have y_1 : W5.cell? ⟨w.heap.size, 1, none⟩ = some (.slice J n cj) := Ky.out.cell 1
  have y_2 : W5.cell? ⟨w.heap.size, 2, none⟩ = some (.slice K m ck) := Ky.out.cell 2
  go_wp2_with (go_at_call 17; refine (H17.out _ _ _ _ _ RJ2.out RK2.out).mono ?_; rintro e W6 ⟨rfl, hx⟩; replace X := Lib.hid (X.out.trans hx); replace Ky := Lib.hid (Ky.out.ext hx); clear hx y_0 y_1 y_2; refine Hid.out ?_)
  refine Lib.hid ?_
  have y_0 : W6.cell? ⟨w.heap.size, 0, none⟩ = some (.int .i64 L) := Ky.out.cell 0
  have y_1 : W6.cell? ⟨w.heap.size, 1, none⟩ = some (.slice J n cj) := Ky.out.cell 1
  have y_2 : W6.cell? ⟨w.heap.size, 2, none⟩ = some (.slice K m ck) := Ky.out.cell 2
  obtain ⟨qd, hq⟩ : ∃ q, q = W6.heap.size := ⟨_, rfl⟩
  obtain ⟨W7, hV⟩ : ∃ V, V = W6.alloc (.cells #[.int .i64 0, .int .i64 0] 33) := ⟨_, rfl⟩
  have hx : Ext W6 W7 := by rw [hV]; exact Ext.alloc _ _
  have Kd := Lib.hid (show Blk W7 qd 33 #[.int .i64 0, .int .i64 0] by rw [hV, hq]; exact Blk.new _ _ _)
  go_upto_region 7 with (fail)
  rw [← hV, ← hq]
  replace X := Lib.hid (X.out.trans hx)
  replace Ky := Lib.hid (Ky.out.ext hx)
  clear hx y_0 y_1 y_2
  clear hV hq
  have y_0 : W7.cell? ⟨w.heap.size, 0, none⟩ = some (.int .i64 L) := Ky.out.cell 0
  have y_1 : W7.cell? ⟨w.heap.size, 1, none⟩ = some (.slice J n cj) := Ky.out.cell 1
  have y_2 : W7.cell? ⟨w.heap.size, 2, none⟩ = some (.slice K m ck) := Ky.out.cell 2
  have d_0 : W7.cell? ⟨qd, 0, none⟩ = some (.int .i64 0) := Kd.out.cell 0
  have d_1 : W7.cell? ⟨qd, 1, none⟩ = some (.int .i64 0) := Kd.out.cell 1
  go_wp2_with (go_at_call 16; refine (HCP.out _ X.out).mono ?_; rintro e W8 ⟨v, rfl, hc, hx⟩; obtain ⟨J3, cj3, K3, ck3, rfl, hr1, hr2, hn1, hn2, -⟩ := hc; have RJ3 := Lib.hid hr1; have RK3 := Lib.hid hr2; have NJ3 := Lib.hid hn1; have NK3 := Lib.hid hn2; clear hr1 hr2 hn1 hn2; replace X := Lib.hid (X.out.trans hx); replace Ky := Lib.hid (Ky.out.ext hx); replace Kd := Lib.hid (Kd.out.ext hx); clear hx y_0 y_1 y_2 d_0 d_1; refine Hid.out ?_)
  refine Lib.hid ?_
  have y_0 : W8.cell? ⟨w.heap.size, 0, none⟩ = some (.int .i64 L) := Ky.out.cell 0
  have y_1 : W8.cell? ⟨w.heap.size, 1, none⟩ = some (.slice J n cj) := Ky.out.cell 1
  have y_2 : W8.cell? ⟨w.heap.size, 2, none⟩ = some (.slice K m ck) := Ky.out.cell 2
  have d_0 : W8.cell? ⟨qd, 0, none⟩ = some (.int .i64 0) := Kd.out.cell 0
  have d_1 : W8.cell? ⟨qd, 1, none⟩ = some (.int .i64 0) := Kd.out.cell 1
  go_wp2_with (go_at_call 18; refine (H18.out _ _ _ _ _ RJ3.out RK3.out).mono ?_; rintro e W9 ⟨rfl, hx⟩; replace X := Lib.hid (X.out.trans hx); replace Ky := Lib.hid (Ky.out.ext hx); replace Kd := Lib.hid (Kd.out.ext hx); clear hx y_0 y_1 y_2 d_0 d_1; refine Hid.out ?_)
  refine Lib.hid ?_
  have y_0 : W9.cell? ⟨w.heap.size, 0, none⟩ = some (.int .i64 L) := Ky.out.cell 0
  have y_1 : W9.cell? ⟨w.heap.size, 1, none⟩ = some (.slice J n cj) := Ky.out.cell 1
  have y_2 : W9.cell? ⟨w.heap.size, 2, none⟩ = some (.slice K m ck) := Ky.out.cell 2
  have d_0 : W9.cell? ⟨qd, 0, none⟩ = some (.int .i64 0) := Kd.out.cell 0
  have d_1 : W9.cell? ⟨qd, 1, none⟩ = some (.int .i64 0) := Kd.out.cell 1
  go_wp2_with (go_at_call 16; refine (HCP.out _ X.out).mono ?_; rintro e W10 ⟨v, rfl, hc, hx⟩; obtain ⟨J4, cj4, K4, ck4, rfl, hr1, hr2, hn1, hn2, -⟩ := hc; have RJ4 := Lib.hid hr1; have RK4 := Lib.hid hr2; have NJ4 := Lib.hid hn1; have NK4 := Lib.hid hn2; clear hr1 hr2 hn1 hn2; replace X := Lib.hid (X.out.trans hx); replace Ky := Lib.hid (Ky.out.ext hx); replace Kd := Lib.hid (Kd.out.ext hx); clear hx y_0 y_1 y_2 d_0 d_1; refine Hid.out ?_)
  refine Lib.hid ?_
  have y_0 : W10.cell? ⟨w.heap.size, 0, none⟩ = some (.int .i64 L) := Ky.out.cell 0
  have y_1 : W10.cell? ⟨w.heap.size, 1, none⟩ = some (.slice J n cj) := Ky.out.cell 1
  have y_2 : W10.cell? ⟨w.heap.size, 2, none⟩ = some (.slice K m ck) := Ky.out.cell 2
  have d_0 : W10.cell? ⟨qd, 0, none⟩ = some (.int .i64 0) := Kd.out.cell 0
  have d_1 : W10.cell? ⟨qd, 1, none⟩ = some (.int .i64 0) := Kd.out.cell 1
  go_wp2_with (go_at_call 19; refine (H19.out _ _ _ _ _ RJ4.out RK4.out).mono ?_; rintro e W11 ⟨rfl, hx⟩; replace X := Lib.hid (X.out.trans hx); replace Ky := Lib.hid (Ky.out.ext hx); replace Kd := Lib.hid (Kd.out.ext hx); clear hx y_0 y_1 y_2 d_0 d_1; refine Hid.out ?_)
  refine Lib.hid ?_
  have y_0 : W11.cell? ⟨w.heap.size, 0, none⟩ = some (.int .i64 L) := Ky.out.cell 0
  have y_1 : W11.cell? ⟨w.heap.size, 1, none⟩ = some (.slice J n cj) := Ky.out.cell 1
  have y_2 : W11.cell? ⟨w.heap.size, 2, none⟩ = some (.slice K m ck) := Ky.out.cell 2
  have d_0 : W11.cell? ⟨qd, 0, none⟩ = some (.int .i64 0) := Kd.out.cell 0
  have d_1 : W11.cell? ⟨qd, 1, none⟩ = some (.int .i64 0) := Kd.out.cell 1
  go_wp2_with (go_at_call 20; refine (H20.out _ X.out).mono ?_; rintro e W12 ⟨rfl, hx⟩; replace X := Lib.hid (X.out.trans hx); replace Ky := Lib.hid (Ky.out.ext hx); replace Kd := Lib.hid (Kd.out.ext hx); clear hx y_0 y_1 y_2 d_0 d_1; refine Hid.out ?_)
  refine Lib.hid ?_
  have y_0 : W12.cell? ⟨w.heap.size, 0, none⟩ = some (.int .i64 L) := Ky.out.cell 0
  have y_1 : W12.cell? ⟨w.heap.size, 1, none⟩ = some (.slice J n cj) := Ky.out.cell 1
  have y_2 : W12.cell? ⟨w.heap.size, 2, none⟩ = some (.slice K m ck) := Ky.out.cell 2
  have d_0 : W12.cell? ⟨qd, 0, none⟩ = some (.int .i64 0) := Kd.out.cell 0
  have d_1 : W12.cell? ⟨qd, 1, none⟩ = some (.int .i64 0) := Kd.out.cell 1
  have hz2 : (z != 0) = true := by simp [hz]
  go_wp2
  go_ret
  exact ⟨rfl, X.out⟩

end Go.Proofs.Ytjdilmmpdlcimaa
