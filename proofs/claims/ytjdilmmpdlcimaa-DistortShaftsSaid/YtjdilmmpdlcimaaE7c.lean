/- DistortShafts where the shaft is valid, and the position does not lie on it. -/
import Derived.Test.YtjdilmmpdlcimaaE7a
import Derived.Lib.MinMax
import Derived.Deep.DeepCutAuto
import Derived.BigQuiet

namespace Go.Proofs.Ytjdilmmpdlcimaa
open Go.RowKit Go.Shelf Go.Mem Go.RegInv
attribute [local go_sem] RelUpon_value RelUpon_skip RelUpon_enter BigFrame.eval_const BigFrame.eval_global BigFrame.eval_func


set_option maxRecDepth 100000 in
set_option maxHeartbeats 1000000 in
theorem shafts_ok_false {L : Int} {J K : Option Addr} {n cj ck : Nat} {js : List Int} {ks : List Rg} {w : World} (hn : js.length = n) (hJ : RowsAt 1 I1 w J js) (hm : ks.length = n) (hK : RowsAt 2 Rg.enc w K ks) {p t : Int} (hjn : J = none → cj = 0) (hkn : K = none → ck = 0) (h6 : n ≤ 6) (hcz : (checkS L js ks).2 = 0) (hp : ¬ (0 ≤ p ∧ p ≤ L)) :
    Calls Try.prog 3 #[.agg #[.int .i64 L, .slice J n cj, .slice K n ck], .int .i64 p, .int .i64 t] w fun e w' => e = .returned (.bool true) ∧ Ext w w' := by
  have hs := checkS_ok hcz
  have hci : (checkS L js ks).1 = 0 := checkS_fst hcz
  obtain ⟨df, hdf⟩ : ∃ i, defl L js ks p = i := ⟨_, rfl⟩
  have hde : deflE L js ks p = 2 := by unfold deflE; rw [hcz, firstE_cons0, firstE_one, rangeE_one, if_neg hp]
  have hdv : deflV L js ks p = (0, 0) := by unfold deflV; rw [if_neg (by rw [hde]; decide)]
  have hiE : isE L js ks t = tolE t := by unfold isE; rw [hcz, firstE_cons0, firstE_one]
  have hiV : isV L js ks t = if isE L js ks t = 0 then straightV t L js ks else 0 := rfl
  obtain ⟨ie, hie⟩ : ∃ i, isE L js ks t = i := ⟨_, rfl⟩
  obtain ⟨iv, hiv⟩ : ∃ i, isV L js ks t = i := ⟨_, rfl⟩
  obtain ⟨sv, hsv⟩ : ∃ i, straightV t L js ks = i := ⟨_, rfl⟩
  obtain ⟨dl, hdl⟩ : ∃ i, deflL L js ks n = i := ⟨_, rfl⟩
  have HI0 := Lib.hid (fun (h : tolE t = 0) => (⟨by rw [← hie, hiE, h], by rw [← hiv, hiV, if_pos (by rw [hiE]; exact h), hsv]⟩ : ie = 0 ∧ iv = sv))
  have HI1 := Lib.hid (fun (h : ¬ tolE t = 0) => (⟨by rw [← hie, hiE], by rw [← hiv, hiV, if_neg (by rw [hiE]; exact h)]⟩ : ie = tolE t ∧ iv = 0))
  have HDL := Lib.hid (show dl.length = n by rw [← hdl]; exact deflL_len _ _ _ _)
  have H15 := Lib.hid (fun W J1 cj1 K1 ck1 (h1 : RowsAt 1 I1 W J1 js) (h2 : RowsAt 2 Rg.enc W K1 ks) => show Calls Try.prog 15 #[.agg #[.int .i64 L, .slice J1 n cj1, .slice K1 n ck1]] W fun e w' => e = .returned (.tuple #[.int .i64 0, .int .i64 0]) ∧ Ext W w' from by have := checkShaft_any (cj := cj1) (ck := ck1) (L := L) hn h1 hm h2; rw [hci, hcz] at this; exact this)
  have H17 := Lib.hid (fun W J1 cj1 K1 ck1 (h1 : RowsAt 1 I1 W J1 js) (h2 : RowsAt 2 Rg.enc W K1 ks) => show Calls Try.prog 17 #[.agg #[.int .i64 L, .slice J1 n cj1, .slice K1 n ck1], .int .i64 p] W fun e w' => e = .returned (.tuple #[.agg #[.int .i64 0, .int .i64 0], .int .i64 2]) ∧ Ext W w' from by have := deflectionAt_any (cj := cj1) (ck := ck1) (L := L) (p := p) hn h1 hm h2; rw [hdv, hde] at this; exact this)
  have H18 := Lib.hid (fun W J1 cj1 K1 ck1 (h1 : RowsAt 1 I1 W J1 js) (h2 : RowsAt 2 Rg.enc W K1 ks) => show Calls Try.prog 18 #[.agg #[.int .i64 L, .slice J1 n cj1, .slice K1 n ck1]] W fun e w' => ∃ D cd, e = .returned (.tuple #[.slice D n cd, .int .i64 0]) ∧ RowsAt 2 Rg.enc w' D dl ∧ Ext W w' from hdl ▸ deflectionsOf_ok (cj := cj1) (ck := ck1) (L := L) hn h1 hm h2 hcz)
  have H19 := Lib.hid (fun W J1 cj1 K1 ck1 (h1 : RowsAt 1 I1 W J1 js) (h2 : RowsAt 2 Rg.enc W K1 ks) => show Calls Try.prog 19 #[.agg #[.int .i64 L, .slice J1 n cj1, .slice K1 n ck1], .int .i64 t] W fun e w' => e = .returned (.tuple #[.int .i64 iv, .int .i64 ie]) ∧ Ext W w' from by have := isStraight_any (cj := cj1) (ck := ck1) (L := L) (t := t) hn h1 hm h2; rw [hiv, hie] at this; exact this)
  have H20 := Lib.hid (fun W (e : Ext w W) => show Calls Try.prog 20 #[.agg #[.int .i64 L, .slice J n cj, .slice K n ck]] W fun e w' => e = .returned (.tuple #[.int .i64 0, .int .i64 0]) ∧ Ext W w' from by have := refCheckShaft_any (cj := cj) (ck := ck) (L := L) hn (hJ.ext e) hm (hK.ext e); rw [hci, hcz] at this; exact this)
  have H22 := Lib.hid (fun W (e : Ext w W) (hp : 0 ≤ p ∧ p ≤ L) => show Calls Try.prog 22 #[.agg #[.int .i64 L, .slice J n cj, .slice K n ck], .int .i64 p] W fun e w' => e = .returned (.agg #[.int .i64 df.1, .int .i64 df.2]) ∧ Ext W w' from by have := refDeflection_any (cj := cj) (ck := ck) (L := L) (p := p) hn (hJ.ext e) hm (hK.ext e) hs hp; rw [hdf] at this; exact this)
  have H24 := Lib.hid (fun W (e : Ext w W) => hdl ▸ refDeflections_any (cj := cj) (ck := ck) (L := L) hn (hJ.ext e) hm (hK.ext e) hs)
  have H26 := Lib.hid (fun (ht : tolE t = 0) W (e : Ext w W) => show Calls Try.prog 26 #[.agg #[.int .i64 L, .slice J n cj, .slice K n ck], .int .i64 t] W fun e w' => e = .returned (.int .i64 sv) ∧ Ext W w' from by have := refStraight_any (cj := cj) (ck := ck) (L := L) (t := t) hn (hJ.ext e) hm (hK.ext e) hs (rangeE_zeros ht t (by simp)); rw [hsv] at this; exact this)
  have HFEW := Lib.hid (fun W => show Calls Try.prog 14 #[.agg #[.int .i64 L, .slice J n cj, .slice K n ck]] W fun e w' => e = .returned (.bool true) ∧ Ext W w' from by have := few_any (L := L) (J := J) (K := K) (n := n) (m := n) (cj := cj) (ck := ck) W (by unfold maxLen; omega) (by unfold maxLen; omega); rw [show few2 n n = true by simp [few2, h6]] at this; exact this)
  have HWI := Lib.hid (fun W => show Calls Try.prog 21 #[.int .i64 p, .int .i64 0, .int .i64 L] W fun e w' => e = .returned (.bool false) ∧ W = w' from by have := within_any p 0 L W; rw [withinB_f hp] at this; exact this)
  have HCP := Lib.hid (fun W (e : Ext w W) => copyShaft_any (L := L) (cj := cj) (ck := ck) hn (hJ.ext e) hm (hK.ext e) hjn hkn (by omega) (by omega))
  have HN := Lib.hid hn
  have HM := Lib.hid hm
  clear H22
  clear hde hdv hie hiv hiE hiV hcz hci hn hJ hm hK hjn hkn hdf hdl hsv hs hp
  obtain ⟨W0, hW0⟩ : ∃ W0, W0 = w.alloc (.cells #[.int .i64 L, .slice J n cj, .slice K n ck] 25) := ⟨_, rfl⟩
  have Ky := Lib.hid (show Blk W0 (w.heap.size) 25 #[.int .i64 L, .slice J n cj, .slice K n ck] by rw [hW0]; exact Blk.new _ _ _)
  have X := Lib.hid (show Ext w W0 by rw [hW0]; exact Ext.alloc _ _)
  have y_0 : W0.cell? ⟨w.heap.size, 0, none⟩ = some (.int .i64 L) := Ky.out.cell 0
  have y_1 : W0.cell? ⟨w.heap.size, 1, none⟩ = some (.slice J n cj) := Ky.out.cell 1
  have y_2 : W0.cell? ⟨w.heap.size, 2, none⟩ = some (.slice K n ck) := Ky.out.cell 2
  go_enter Try.func3, Try.ntmps3
  go_upto_region 1 with (fail)
  rw [← hW0]
  clear hW0
  go_wp2_with (go_at_call 13; refine (awake_any _).mono ?_; rintro e W1 ⟨rfl, hx⟩; replace X := Lib.hid (X.out.trans hx); replace Ky := Lib.hid (Ky.out.ext hx); clear hx y_0 y_1 y_2; refine Hid.out ?_)
  refine Lib.hid ?_
  have y_0 : W1.cell? ⟨w.heap.size, 0, none⟩ = some (.int .i64 L) := Ky.out.cell 0
  have y_1 : W1.cell? ⟨w.heap.size, 1, none⟩ = some (.slice J n cj) := Ky.out.cell 1
  have y_2 : W1.cell? ⟨w.heap.size, 2, none⟩ = some (.slice K n ck) := Ky.out.cell 2
  go_wp2_with (go_at_call 14; refine (HFEW.out _).mono ?_; rintro e W2 ⟨rfl, hx⟩; replace X := Lib.hid (X.out.trans hx); replace Ky := Lib.hid (Ky.out.ext hx); clear hx y_0 y_1 y_2; refine Hid.out ?_)
  refine Lib.hid ?_
  have y_0 : W2.cell? ⟨w.heap.size, 0, none⟩ = some (.int .i64 L) := Ky.out.cell 0
  have y_1 : W2.cell? ⟨w.heap.size, 1, none⟩ = some (.slice J n cj) := Ky.out.cell 1
  have y_2 : W2.cell? ⟨w.heap.size, 2, none⟩ = some (.slice K n ck) := Ky.out.cell 2
  go_wp2_with (go_at_call 16; refine (HCP.out _ X.out).mono ?_; rintro e W3 ⟨v, rfl, hc, hx⟩; obtain ⟨J1, cj1, K1, ck1, rfl, hr1, hr2, hn1, hn2, -⟩ := hc; have RJ1 := Lib.hid hr1; have RK1 := Lib.hid hr2; have NJ1 := Lib.hid hn1; have NK1 := Lib.hid hn2; clear hr1 hr2 hn1 hn2; replace X := Lib.hid (X.out.trans hx); replace Ky := Lib.hid (Ky.out.ext hx); clear hx y_0 y_1 y_2; refine Hid.out ?_)
  refine Lib.hid ?_
  have y_0 : W3.cell? ⟨w.heap.size, 0, none⟩ = some (.int .i64 L) := Ky.out.cell 0
  have y_1 : W3.cell? ⟨w.heap.size, 1, none⟩ = some (.slice J n cj) := Ky.out.cell 1
  have y_2 : W3.cell? ⟨w.heap.size, 2, none⟩ = some (.slice K n ck) := Ky.out.cell 2
  go_wp2_with (go_at_call 15; refine (H15.out _ _ _ _ _ RJ1.out RK1.out).mono ?_; rintro e W4 ⟨rfl, hx⟩; replace X := Lib.hid (X.out.trans hx); replace Ky := Lib.hid (Ky.out.ext hx); clear hx y_0 y_1 y_2; refine Hid.out ?_)
  refine Lib.hid ?_
  have y_0 : W4.cell? ⟨w.heap.size, 0, none⟩ = some (.int .i64 L) := Ky.out.cell 0
  have y_1 : W4.cell? ⟨w.heap.size, 1, none⟩ = some (.slice J n cj) := Ky.out.cell 1
  have y_2 : W4.cell? ⟨w.heap.size, 2, none⟩ = some (.slice K n ck) := Ky.out.cell 2
  go_wp2_with (go_at_call 16; refine (HCP.out _ X.out).mono ?_; rintro e W5 ⟨v, rfl, hc, hx⟩; obtain ⟨J2, cj2, K2, ck2, rfl, hr1, hr2, hn1, hn2, -⟩ := hc; have RJ2 := Lib.hid hr1; have RK2 := Lib.hid hr2; have NJ2 := Lib.hid hn1; have NK2 := Lib.hid hn2; clear hr1 hr2 hn1 hn2; replace X := Lib.hid (X.out.trans hx); replace Ky := Lib.hid (Ky.out.ext hx); clear hx y_0 y_1 y_2; refine Hid.out ?_)
  refine Lib.hid ?_
  have y_0 : W5.cell? ⟨w.heap.size, 0, none⟩ = some (.int .i64 L) := Ky.out.cell 0
  have y_1 : W5.cell? ⟨w.heap.size, 1, none⟩ = some (.slice J n cj) := Ky.out.cell 1
  have y_2 : W5.cell? ⟨w.heap.size, 2, none⟩ = some (.slice K n ck) := Ky.out.cell 2
  go_wp2_with (go_at_call 17; refine (H17.out _ _ _ _ _ RJ2.out RK2.out).mono ?_; rintro e W6 ⟨rfl, hx⟩; replace X := Lib.hid (X.out.trans hx); replace Ky := Lib.hid (Ky.out.ext hx); clear hx y_0 y_1 y_2; refine Hid.out ?_)
  refine Lib.hid ?_
  have y_0 : W6.cell? ⟨w.heap.size, 0, none⟩ = some (.int .i64 L) := Ky.out.cell 0
  have y_1 : W6.cell? ⟨w.heap.size, 1, none⟩ = some (.slice J n cj) := Ky.out.cell 1
  have y_2 : W6.cell? ⟨w.heap.size, 2, none⟩ = some (.slice K n ck) := Ky.out.cell 2
  obtain ⟨qd, hq⟩ : ∃ q, q = W6.heap.size := ⟨_, rfl⟩
  obtain ⟨W7, hV⟩ : ∃ V, V = W6.alloc (.cells #[.int .i64 0, .int .i64 0] 33) := ⟨_, rfl⟩
  have hx : Ext W6 W7 := by rw [hV]; exact Ext.alloc _ _
  have Kd := Lib.hid (show Blk W7 qd 33 #[.int .i64 0, .int .i64 0] by rw [hV, hq]; exact Blk.new _ _ _)
  go_upto_region 7 with (fail)
  rw [← hV, ← hq]
  replace X := Lib.hid (X.out.trans hx)
  replace Ky := Lib.hid (Ky.out.ext hx)
  clear hx y_0 y_1 y_2
  clear hV hq
  have y_0 : W7.cell? ⟨w.heap.size, 0, none⟩ = some (.int .i64 L) := Ky.out.cell 0
  have y_1 : W7.cell? ⟨w.heap.size, 1, none⟩ = some (.slice J n cj) := Ky.out.cell 1
  have y_2 : W7.cell? ⟨w.heap.size, 2, none⟩ = some (.slice K n ck) := Ky.out.cell 2
  have d_0 : W7.cell? ⟨qd, 0, none⟩ = some (.int .i64 0) := Kd.out.cell 0
  have d_1 : W7.cell? ⟨qd, 1, none⟩ = some (.int .i64 0) := Kd.out.cell 1
  go_wp2_with (go_at_call 16; refine (HCP.out _ X.out).mono ?_; rintro e W8 ⟨v, rfl, hc, hx⟩; obtain ⟨J3, cj3, K3, ck3, rfl, hr1, hr2, hn1, hn2, -⟩ := hc; have RJ3 := Lib.hid hr1; have RK3 := Lib.hid hr2; have NJ3 := Lib.hid hn1; have NK3 := Lib.hid hn2; clear hr1 hr2 hn1 hn2; replace X := Lib.hid (X.out.trans hx); replace Ky := Lib.hid (Ky.out.ext hx); replace Kd := Lib.hid (Kd.out.ext hx); clear hx y_0 y_1 y_2 d_0 d_1; refine Hid.out ?_)
  refine Lib.hid ?_
  have y_0 : W8.cell? ⟨w.heap.size, 0, none⟩ = some (.int .i64 L) := Ky.out.cell 0
  have y_1 : W8.cell? ⟨w.heap.size, 1, none⟩ = some (.slice J n cj) := Ky.out.cell 1
  have y_2 : W8.cell? ⟨w.heap.size, 2, none⟩ = some (.slice K n ck) := Ky.out.cell 2
  have d_0 : W8.cell? ⟨qd, 0, none⟩ = some (.int .i64 0) := Kd.out.cell 0
  have d_1 : W8.cell? ⟨qd, 1, none⟩ = some (.int .i64 0) := Kd.out.cell 1
  go_wp2_with (go_at_call 18; refine (H18.out _ _ _ _ _ RJ3.out RK3.out).mono ?_; rintro e W9 ⟨D, cd, rfl, hd, hx⟩; replace X := Lib.hid (X.out.trans hx); replace Ky := Lib.hid (Ky.out.ext hx); replace Kd := Lib.hid (Kd.out.ext hx); clear hx y_0 y_1 y_2 d_0 d_1; have RD := Lib.hid hd; clear hd; refine Hid.out ?_)
  refine Lib.hid ?_
  have y_0 : W9.cell? ⟨w.heap.size, 0, none⟩ = some (.int .i64 L) := Ky.out.cell 0
  have y_1 : W9.cell? ⟨w.heap.size, 1, none⟩ = some (.slice J n cj) := Ky.out.cell 1
  have y_2 : W9.cell? ⟨w.heap.size, 2, none⟩ = some (.slice K n ck) := Ky.out.cell 2
  have d_0 : W9.cell? ⟨qd, 0, none⟩ = some (.int .i64 0) := Kd.out.cell 0
  have d_1 : W9.cell? ⟨qd, 1, none⟩ = some (.int .i64 0) := Kd.out.cell 1
  go_wp2_with (go_at_call 16; refine (HCP.out _ X.out).mono ?_; rintro e W10 ⟨v, rfl, hc, hx⟩; obtain ⟨J4, cj4, K4, ck4, rfl, hr1, hr2, hn1, hn2, -⟩ := hc; have RJ4 := Lib.hid hr1; have RK4 := Lib.hid hr2; have NJ4 := Lib.hid hn1; have NK4 := Lib.hid hn2; clear hr1 hr2 hn1 hn2; replace X := Lib.hid (X.out.trans hx); replace Ky := Lib.hid (Ky.out.ext hx); replace Kd := Lib.hid (Kd.out.ext hx); replace RD := Lib.hid (RD.out.ext hx); clear hx y_0 y_1 y_2 d_0 d_1; refine Hid.out ?_)
  refine Lib.hid ?_
  have y_0 : W10.cell? ⟨w.heap.size, 0, none⟩ = some (.int .i64 L) := Ky.out.cell 0
  have y_1 : W10.cell? ⟨w.heap.size, 1, none⟩ = some (.slice J n cj) := Ky.out.cell 1
  have y_2 : W10.cell? ⟨w.heap.size, 2, none⟩ = some (.slice K n ck) := Ky.out.cell 2
  have d_0 : W10.cell? ⟨qd, 0, none⟩ = some (.int .i64 0) := Kd.out.cell 0
  have d_1 : W10.cell? ⟨qd, 1, none⟩ = some (.int .i64 0) := Kd.out.cell 1
  go_wp2_with (go_at_call 19; refine (H19.out _ _ _ _ _ RJ4.out RK4.out).mono ?_; rintro e W11 ⟨rfl, hx⟩; replace X := Lib.hid (X.out.trans hx); replace Ky := Lib.hid (Ky.out.ext hx); replace Kd := Lib.hid (Kd.out.ext hx); replace RD := Lib.hid (RD.out.ext hx); clear hx y_0 y_1 y_2 d_0 d_1; refine Hid.out ?_)
  refine Lib.hid ?_
  have y_0 : W11.cell? ⟨w.heap.size, 0, none⟩ = some (.int .i64 L) := Ky.out.cell 0
  have y_1 : W11.cell? ⟨w.heap.size, 1, none⟩ = some (.slice J n cj) := Ky.out.cell 1
  have y_2 : W11.cell? ⟨w.heap.size, 2, none⟩ = some (.slice K n ck) := Ky.out.cell 2
  have d_0 : W11.cell? ⟨qd, 0, none⟩ = some (.int .i64 0) := Kd.out.cell 0
  have d_1 : W11.cell? ⟨qd, 1, none⟩ = some (.int .i64 0) := Kd.out.cell 1
  go_wp2_with (go_at_call 20; refine (H20.out _ X.out).mono ?_; rintro e W12 ⟨rfl, hx⟩; replace X := Lib.hid (X.out.trans hx); replace Ky := Lib.hid (Ky.out.ext hx); replace Kd := Lib.hid (Kd.out.ext hx); replace RD := Lib.hid (RD.out.ext hx); clear hx y_0 y_1 y_2 d_0 d_1; refine Hid.out ?_)
  refine Lib.hid ?_
  have y_0 : W12.cell? ⟨w.heap.size, 0, none⟩ = some (.int .i64 L) := Ky.out.cell 0
  have y_1 : W12.cell? ⟨w.heap.size, 1, none⟩ = some (.slice J n cj) := Ky.out.cell 1
  have y_2 : W12.cell? ⟨w.heap.size, 2, none⟩ = some (.slice K n ck) := Ky.out.cell 2
  have d_0 : W12.cell? ⟨qd, 0, none⟩ = some (.int .i64 0) := Kd.out.cell 0
  have d_1 : W12.cell? ⟨qd, 1, none⟩ = some (.int .i64 0) := Kd.out.cell 1
  go_wp2_with (go_at_call 21; refine (HWI.out _).mono ?_; rintro e W13 ⟨rfl, rfl⟩; refine Hid.out ?_)
  refine Lib.hid ?_
  go_upto_region 15 with (fail)
  go_quiet (fail)
  obtain ⟨W14, hV⟩ : ∃ V, V = World.drewN W12 nq := ⟨_, rfl⟩
  have hx : Ext W12 W14 := by rw [hV]; exact Ext.drewN _ _
  rw [← hV]
  replace X := Lib.hid (X.out.trans hx)
  replace Ky := Lib.hid (Ky.out.ext hx)
  replace Kd := Lib.hid (Kd.out.ext hx)
  replace RD := Lib.hid (RD.out.ext hx)
  clear hx y_0 y_1 y_2 d_0 d_1
  clear hV
  have y_0 : W14.cell? ⟨w.heap.size, 0, none⟩ = some (.int .i64 L) := Ky.out.cell 0
  have y_1 : W14.cell? ⟨w.heap.size, 1, none⟩ = some (.slice J n cj) := Ky.out.cell 1
  have y_2 : W14.cell? ⟨w.heap.size, 2, none⟩ = some (.slice K n ck) := Ky.out.cell 2
  have d_0 : W14.cell? ⟨qd, 0, none⟩ = some (.int .i64 0) := Kd.out.cell 0
  have d_1 : W14.cell? ⟨qd, 1, none⟩ = some (.int .i64 0) := Kd.out.cell 1
  go_wp2_with (go_at_call 24; refine (H24.out _ X.out).mono ?_; rintro e W15 ⟨D2, cd2, rfl, hd, hx⟩; have RD2 := Lib.hid hd; clear hd; replace X := Lib.hid (X.out.trans hx); replace Ky := Lib.hid (Ky.out.ext hx); replace Kd := Lib.hid (Kd.out.ext hx); replace RD := Lib.hid (RD.out.ext hx); clear hx y_0 y_1 y_2 d_0 d_1; refine Hid.out ?_)
  refine Lib.hid ?_
  have y_0 : W15.cell? ⟨w.heap.size, 0, none⟩ = some (.int .i64 L) := Ky.out.cell 0
  have y_1 : W15.cell? ⟨w.heap.size, 1, none⟩ = some (.slice J n cj) := Ky.out.cell 1
  have y_2 : W15.cell? ⟨w.heap.size, 2, none⟩ = some (.slice K n ck) := Ky.out.cell 2
  have d_0 : W15.cell? ⟨qd, 0, none⟩ = some (.int .i64 0) := Kd.out.cell 0
  have d_1 : W15.cell? ⟨qd, 1, none⟩ = some (.int .i64 0) := Kd.out.cell 1
  go_wp2_with (go_at_call 23; refine (ranges_any HDL.out RD.out HDL.out RD2.out).mono ?_; rintro e W16 ⟨b, rfl, hb, hx⟩; obtain rfl : b = true := hb.2 rfl; clear hb; replace X := Lib.hid (X.out.trans hx); replace Ky := Lib.hid (Ky.out.ext hx); replace Kd := Lib.hid (Kd.out.ext hx); replace RD := Lib.hid (RD.out.ext hx); clear hx y_0 y_1 y_2 d_0 d_1; refine Hid.out ?_)
  refine Lib.hid ?_
  have y_0 : W16.cell? ⟨w.heap.size, 0, none⟩ = some (.int .i64 L) := Ky.out.cell 0
  have y_1 : W16.cell? ⟨w.heap.size, 1, none⟩ = some (.slice J n cj) := Ky.out.cell 1
  have y_2 : W16.cell? ⟨w.heap.size, 2, none⟩ = some (.slice K n ck) := Ky.out.cell 2
  have d_0 : W16.cell? ⟨qd, 0, none⟩ = some (.int .i64 0) := Kd.out.cell 0
  have d_1 : W16.cell? ⟨qd, 1, none⟩ = some (.int .i64 0) := Kd.out.cell 1
  go_wp2_with (go_at_call 25; refine (refTolE_any _ _).mono ?_; rintro e W17 ⟨rfl, hx⟩; replace X := Lib.hid (X.out.trans hx); replace Ky := Lib.hid (Ky.out.ext hx); replace Kd := Lib.hid (Kd.out.ext hx); replace RD := Lib.hid (RD.out.ext hx); clear hx y_0 y_1 y_2 d_0 d_1; refine Hid.out ?_)
  refine Lib.hid ?_
  have y_0 : W17.cell? ⟨w.heap.size, 0, none⟩ = some (.int .i64 L) := Ky.out.cell 0
  have y_1 : W17.cell? ⟨w.heap.size, 1, none⟩ = some (.slice J n cj) := Ky.out.cell 1
  have y_2 : W17.cell? ⟨w.heap.size, 2, none⟩ = some (.slice K n ck) := Ky.out.cell 2
  have d_0 : W17.cell? ⟨qd, 0, none⟩ = some (.int .i64 0) := Kd.out.cell 0
  have d_1 : W17.cell? ⟨qd, 1, none⟩ = some (.int .i64 0) := Kd.out.cell 1
  by_cases ht : tolE t = 0
  · have HIE := Lib.hid (HI0.out ht)
    have HST := Lib.hid (H26.out ht)
    clear HI0 HI1 H26
    rw [HIE.out.1, HIE.out.2, ht]
    go_wp2_with (go_at_call 26; refine (HST.out _ X.out).mono ?_; rintro e W18 ⟨rfl, hx⟩; replace X := Lib.hid (X.out.trans hx); clear hx)
    go_ret
    exact ⟨ret_bool (by simp), X.out⟩
  · have HIE := Lib.hid (HI1.out ht)
    have ht2 : (tolE t != 0) = true := by simp [ht]
    clear HI0 HI1 H26
    rw [HIE.out.1, HIE.out.2]
    generalize tolE t = te at *
    go_wp2
    go_ret
    exact ⟨rfl, X.out⟩

end Go.Proofs.Ytjdilmmpdlcimaa
