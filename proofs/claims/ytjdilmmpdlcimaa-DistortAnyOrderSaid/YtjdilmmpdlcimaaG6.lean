/- DistortAnyOrder where the strokes bend a kink too far. -/
import Derived.Test.YtjdilmmpdlcimaaG5
import Derived.Lib.MinMax
import Derived.Deep.DeepCutAuto
import Derived.BigQuiet
import Derived.Laws.AppendOwn
import Derived.Laws.AppendOwnNone

namespace Go.Proofs.Ytjdilmmpdlcimaa
open Go.RowKit Go.Shelf Go.Mem Go.RegInv
attribute [local go_sem] RelUpon_value RelUpon_skip RelUpon_enter BigFrame.eval_const BigFrame.eval_global BigFrame.eval_func


set_option maxRecDepth 100000 in
set_option maxHeartbeats 8000000 in
theorem any_no {L : Int} {J K : Option Addr} {n cj ck : Nat} {js : List Int} {ks : List Rg} {w : World} (hn : js.length = n) (hJ : RowsAt 1 I1 w J js) (hm : ks.length = n) (hK : RowsAt 2 Rg.enc w K ks) {P : Option Addr} {np cp : Nat} {am : List Int} {sp ga li : Int} (hnp : am.length = np) (hP : RowsAt 1 I1 w P am) {A : Option Addr} {N ca : Nat} {l : List Sk} (hN : l.length = N) (hA : RowsAt 3 Sk.enc w A l) (hjn : J = none → cj = 0) (hkn : K = none → ck = 0) (hpn : P = none → cp = 0) (hln : A = none → ca = 0) (hcz : (checkS L js ks).2 = 0) (hpz : (checkP am sp ga li).2 = 0) (hse : strokesE n am li l = 0) (hae : aftE ga sp l ks n = 2) :
    Calls Try.prog 7 #[.agg #[.int .i64 L, .slice J n cj, .slice K n ck], .agg #[.slice P np cp, .int .i64 sp, .int .i64 ga, .int .i64 li], .slice A N ca] w fun e w' => e = .returned (.bool true) ∧ Ext w w' := by
  have hs := checkS_ok hcz
  have hpo := checkP_ok hpz
  have hpl := strokesE_ok hse
  have hN4 : N ≤ 4 := by have := hpl.1; omega
  have hn4 : n ≤ 4 := by have := hs.four; omega
  have h5 : np ≤ 5 := by have := hpo.three; omega
  have hdN : decide ((4 : Int) < (N : Int)) = false := by simp; omega
  have HT : ∀ l2, strokesE n am li l2 = 0 → aftT L js ks am sp ga li l2 = aftE ga sp l2 ks n := fun l2 h => by
    unfold aftT
    rw [if_neg (by simpa using hcz), if_neg (by simpa using hpz), hn, if_neg (by simpa using h)]
  have HREVP := (List.reverse_perm l)
  have HREVT : aftT L js ks am sp ga li l.reverse = 2 := by rw [HT _ (strokesE_perm HREVP.symm hse), aftE_perm HREVP, hae]
  have HREVK : aftK ga sp l.reverse ks n = aftK ga sp l ks n := aftK_perm HREVP ks n
  have HTL : aftT L js ks am sp ga li l = 2 := by rw [HT _ hse, hae]
  obtain ⟨ak, hak⟩ : ∃ a, aftK ga sp l ks n = a := ⟨_, rfl⟩
  have HAL := Lib.hid (show ak.length = n by rw [← hak]; simp [aftK, kinkL])
  have HAFT := Lib.hid (fun W J1 c1 K1 d1 P2 c2 A3 c3 (r1 : RowsAt 1 I1 W J1 js) (s1 : RowsAt 2 Rg.enc W K1 ks) (r2 : RowsAt 1 I1 W P2 am) (r3 : RowsAt 3 Sk.enc W A3 l) (n1 : J1 = none → c1 = 0) => show Calls Try.prog 36 #[.agg #[.int .i64 L, .slice J1 n c1, .slice K1 n d1], .agg #[.slice P2 np c2, .int .i64 sp, .int .i64 ga, .int .i64 li], .slice A3 N c3] W fun e w' => e = .returned (.tuple #[.agg #[.int .i64 0, .slice none 0 0, .slice none 0 0], .int .i64 2]) ∧ Ext W w' from by
    have h := after36_any (ck := d1) (cp := c2) (ca := c3) (L := L) (sp := sp) (ga := ga) (li := li) hn r1 hm s1 hnp r2 hN r3 n1
    rw [HTL] at h
    refine h.mono ?_
    rintro e w' ⟨v, h1, h2, h3⟩
    rw [AftV, if_neg (by decide)] at h2
    subst h2
    exact ⟨h1, h3⟩)
  have HREV := Lib.hid (fun W J1 c1 K1 d1 P2 c2 A3 c3 (r1 : RowsAt 1 I1 W J1 js) (s1 : RowsAt 2 Rg.enc W K1 ks) (r2 : RowsAt 1 I1 W P2 am) (r3 : RowsAt 3 Sk.enc W A3 l.reverse) (n1 : J1 = none → c1 = 0) => show Calls Try.prog 36 #[.agg #[.int .i64 L, .slice J1 n c1, .slice K1 n d1], .agg #[.slice P2 np c2, .int .i64 sp, .int .i64 ga, .int .i64 li], .slice A3 N c3] W fun e w' => e = .returned (.tuple #[.agg #[.int .i64 0, .slice none 0 0, .slice none 0 0], .int .i64 2]) ∧ Ext W w' from by
    have h := after36_any (ck := d1) (cp := c2) (ca := c3) (L := L) (sp := sp) (ga := ga) (li := li) hn r1 hm s1 hnp r2 (show l.reverse.length = N by rw [List.length_reverse]; exact hN) r3 n1
    rw [HREVT] at h
    refine h.mono ?_
    rintro e w' ⟨v, h1, h2, h3⟩
    rw [AftV, if_neg (by decide)] at h2
    subst h2
    exact ⟨h1, h3⟩)
  have HAF2 := Lib.hid (fun (x : Sk) (hz : strokesE n am li [x, opp x] = 0) W J1 c1 K1 d1 P2 c2 A3 c3 (r1 : RowsAt 1 I1 W J1 js) (s1 : RowsAt 2 Rg.enc W K1 ks) (r2 : RowsAt 1 I1 W P2 am) (r3 : RowsAt 3 Sk.enc W A3 [x, opp x]) (n1 : J1 = none → c1 = 0) => show Calls Try.prog 36 #[.agg #[.int .i64 L, .slice J1 n c1, .slice K1 n d1], .agg #[.slice P2 np c2, .int .i64 sp, .int .i64 ga, .int .i64 li], .slice A3 2 c3] W fun e w' => ∃ v, e = .returned (.tuple #[v, .int .i64 0]) ∧ CopS L js ks n n v w' ∧ Ext W w' from by
    have h := after36_any (ck := d1) (cp := c2) (ca := c3) (L := L) (sp := sp) (ga := ga) (li := li) hn r1 hm s1 hnp r2 (show [x, opp x].length = 2 from rfl) r3 n1
    rw [(HT _ hz).trans (aftE_both ga sp L x hs hm)] at h
    refine h.mono ?_
    rintro e w' ⟨v, h1, h2, h3⟩
    rw [AftV, if_pos rfl, aftK_both ga sp x hm] at h2
    exact ⟨v, h1, h2, h3⟩)
  have HSE := Lib.hid (fun W (e : Ext w W) => show Calls Try.prog 42 #[.agg #[.int .i64 L, .slice J n cj, .slice K n ck], .agg #[.slice P np cp, .int .i64 sp, .int .i64 ga, .int .i64 li], .slice A N ca] W fun e w' => e = .returned (.int .i64 0) ∧ Ext W w' from by have := refStrokesErr_any (L := L) (J := J) (K := K) (n := n) (m := n) (cj := cj) (ck := ck) (cp := cp) (sp := sp) (ga := ga) (li := li) (ca := ca) hnp (hP.ext e) (by omega) hpo.am1 hN (hA.ext e); rw [hse] at this; exact this)
  have HSE2 := Lib.hid (fun (x : Sk) W q (h : RowsAt 3 Sk.enc W (some ⟨q, 0, none⟩) [x, opp x]) (e : Ext w W) => refStrokesErr_any (L := L) (J := J) (K := K) (n := n) (m := n) (cj := cj) (ck := ck) (cp := cp) (sp := sp) (ga := ga) (li := li) (ca := 2) hnp (hP.ext e) (by omega) hpo.am1 (show [x, opp x].length = 2 from rfl) h)
  have HBE := Lib.hid (fun W (e : Ext w W) => show Calls Try.prog 44 #[.agg #[.int .i64 L, .slice J n cj, .slice K n ck], .agg #[.slice P np cp, .int .i64 sp, .int .i64 ga, .int .i64 li]] W fun e w' => e = .returned (.int .i64 0) ∧ Ext W w' from by have := bothErr_any (cj := cj) (ck := ck) (cp := cp) (L := L) (sp := sp) (ga := ga) (li := li) hn (hJ.ext e) hm (hK.ext e) hnp (hP.ext e); rw [if_neg (by simpa using hcz), hpz] at this; exact this)
  have h6 : n ≤ 6 := by omega
  have hm6 : n ≤ 6 := by omega
  have HCP := Lib.hid (fun W (e : Ext w W) => copyShaft_any (L := L) (cj := cj) (ck := ck) hn (hJ.ext e) hm (hK.ext e) hjn hkn (by omega) (by omega))
  have HCQ := Lib.hid (fun W (e : Ext w W) => copyPress_any (cp := cp) (sp := sp) (ga := ga) (li := li) hnp (hP.ext e) hpn (by omega))
  have HCL := Lib.hid (fun W (e : Ext w W) => copyPlan_any (ca := ca) hN (hA.ext e) (by omega) hln)
  have HFEW := Lib.hid (fun W => show Calls Try.prog 14 #[.agg #[.int .i64 L, .slice J n cj, .slice K n ck]] W fun e w' => e = .returned (.bool true) ∧ Ext W w' from by have := few_any (L := L) (J := J) (K := K) (n := n) (m := n) (cj := cj) (ck := ck) W (by unfold maxLen; omega) (by unfold maxLen; omega); rw [show few2 n n = true by simp [few2, h6]] at this; exact this)
  have HFEA := Lib.hid (fun W => show Calls Try.prog 33 #[.agg #[.slice P np cp, .int .i64 sp, .int .i64 ga, .int .i64 li]] W fun e w' => e = .returned (.bool true) ∧ Ext W w' from by have := fewAmounts_any (P := P) (np := np) (cp := cp) (sp := sp) (ga := ga) (li := li) W (by unfold maxLen; omega); rw [show few1 np = true by simp [few1, h5]] at this; exact this)
  have HN := Lib.hid hN
  have HN2 := Lib.hid hn
  have HM2 := Lib.hid hm
  have HA := Lib.hid hA
  have HJ := Lib.hid hJ
  have HK := Lib.hid hK
  have HJ1 := Lib.hid (fun i (hi : i < js.length) => (hs.at' i hi).1)
  clear hn hJ hm hK hnp hP hN hA hjn hkn hpn hln hcz hpz hse hae hs hpo hpl HT HREVP HREVT HREVK HTL hak h5 h6 hm6
  obtain ⟨W0, hW0⟩ : ∃ W0, W0 = (w.alloc (.cells #[.int .i64 L, .slice J n cj, .slice K n ck] 25)).alloc (.cells #[.slice P np cp, .int .i64 sp, .int .i64 ga, .int .i64 li] 58) := ⟨_, rfl⟩
  have Ky0 := Lib.hid (show Blk W0 (w.heap.size) 25 #[.int .i64 L, .slice J n cj, .slice K n ck] by rw [hW0]; exact (Blk.new _ _ _).alloc _)
  have Ky1 := Lib.hid (show Blk W0 (w.heap.size + 1) 58 #[.slice P np cp, .int .i64 sp, .int .i64 ga, .int .i64 li] by rw [hW0]; exact Blk.newAt _ _ _ (by simp))
  have X := Lib.hid (show Ext w W0 by rw [hW0]; exact (Ext.alloc _ _).trans (Ext.alloc _ _))
  have y0_0 : W0.cell? ⟨w.heap.size, 0, none⟩ = some (.int .i64 L) := Ky0.out.cell 0
  have y0_1 : W0.cell? ⟨w.heap.size, 1, none⟩ = some (.slice J n cj) := Ky0.out.cell 1
  have y0_2 : W0.cell? ⟨w.heap.size, 2, none⟩ = some (.slice K n ck) := Ky0.out.cell 2
  have y1_0 : W0.cell? ⟨w.heap.size + 1, 0, none⟩ = some (.slice P np cp) := Ky1.out.cell 0
  have y1_1 : W0.cell? ⟨w.heap.size + 1, 1, none⟩ = some (.int .i64 sp) := Ky1.out.cell 1
  have y1_2 : W0.cell? ⟨w.heap.size + 1, 2, none⟩ = some (.int .i64 ga) := Ky1.out.cell 2
  have y1_3 : W0.cell? ⟨w.heap.size + 1, 3, none⟩ = some (.int .i64 li) := Ky1.out.cell 3
  go_enter Try.func7, Try.ntmps7
  go_upto_region 1 with (fail)
  rw [← hW0]
  clear hW0
  go_wp2_with (go_at_call 13; refine (awake_any _).mono ?_; rintro e W1 ⟨rfl, hx⟩; replace X := Lib.hid (X.out.trans hx); replace Ky0 := Lib.hid (Ky0.out.ext hx); replace Ky1 := Lib.hid (Ky1.out.ext hx); clear hx y0_0 y0_1 y0_2 y1_0 y1_1 y1_2 y1_3; refine Hid.out ?_)
  refine Lib.hid ?_
  have y0_0 : W1.cell? ⟨w.heap.size, 0, none⟩ = some (.int .i64 L) := Ky0.out.cell 0
  have y0_1 : W1.cell? ⟨w.heap.size, 1, none⟩ = some (.slice J n cj) := Ky0.out.cell 1
  have y0_2 : W1.cell? ⟨w.heap.size, 2, none⟩ = some (.slice K n ck) := Ky0.out.cell 2
  have y1_0 : W1.cell? ⟨w.heap.size + 1, 0, none⟩ = some (.slice P np cp) := Ky1.out.cell 0
  have y1_1 : W1.cell? ⟨w.heap.size + 1, 1, none⟩ = some (.int .i64 sp) := Ky1.out.cell 1
  have y1_2 : W1.cell? ⟨w.heap.size + 1, 2, none⟩ = some (.int .i64 ga) := Ky1.out.cell 2
  have y1_3 : W1.cell? ⟨w.heap.size + 1, 3, none⟩ = some (.int .i64 li) := Ky1.out.cell 3
  go_wp2_with (go_at_call 14; refine (HFEW.out _).mono ?_; rintro e W2 ⟨rfl, hx⟩; replace X := Lib.hid (X.out.trans hx); replace Ky0 := Lib.hid (Ky0.out.ext hx); replace Ky1 := Lib.hid (Ky1.out.ext hx); clear hx y0_0 y0_1 y0_2 y1_0 y1_1 y1_2 y1_3; refine Hid.out ?_)
  refine Lib.hid ?_
  have y0_0 : W2.cell? ⟨w.heap.size, 0, none⟩ = some (.int .i64 L) := Ky0.out.cell 0
  have y0_1 : W2.cell? ⟨w.heap.size, 1, none⟩ = some (.slice J n cj) := Ky0.out.cell 1
  have y0_2 : W2.cell? ⟨w.heap.size, 2, none⟩ = some (.slice K n ck) := Ky0.out.cell 2
  have y1_0 : W2.cell? ⟨w.heap.size + 1, 0, none⟩ = some (.slice P np cp) := Ky1.out.cell 0
  have y1_1 : W2.cell? ⟨w.heap.size + 1, 1, none⟩ = some (.int .i64 sp) := Ky1.out.cell 1
  have y1_2 : W2.cell? ⟨w.heap.size + 1, 2, none⟩ = some (.int .i64 ga) := Ky1.out.cell 2
  have y1_3 : W2.cell? ⟨w.heap.size + 1, 3, none⟩ = some (.int .i64 li) := Ky1.out.cell 3
  go_wp2_with (go_at_call 33; refine (HFEA.out _).mono ?_; rintro e W3 ⟨rfl, hx⟩; replace X := Lib.hid (X.out.trans hx); replace Ky0 := Lib.hid (Ky0.out.ext hx); replace Ky1 := Lib.hid (Ky1.out.ext hx); clear hx y0_0 y0_1 y0_2 y1_0 y1_1 y1_2 y1_3; refine Hid.out ?_)
  refine Lib.hid ?_
  have y0_0 : W3.cell? ⟨w.heap.size, 0, none⟩ = some (.int .i64 L) := Ky0.out.cell 0
  have y0_1 : W3.cell? ⟨w.heap.size, 1, none⟩ = some (.slice J n cj) := Ky0.out.cell 1
  have y0_2 : W3.cell? ⟨w.heap.size, 2, none⟩ = some (.slice K n ck) := Ky0.out.cell 2
  have y1_0 : W3.cell? ⟨w.heap.size + 1, 0, none⟩ = some (.slice P np cp) := Ky1.out.cell 0
  have y1_1 : W3.cell? ⟨w.heap.size + 1, 1, none⟩ = some (.int .i64 sp) := Ky1.out.cell 1
  have y1_2 : W3.cell? ⟨w.heap.size + 1, 2, none⟩ = some (.int .i64 ga) := Ky1.out.cell 2
  have y1_3 : W3.cell? ⟨w.heap.size + 1, 3, none⟩ = some (.int .i64 li) := Ky1.out.cell 3
  go_wp2_with (go_at_call 44; refine (HBE.out _ X.out).mono ?_; rintro e W4 ⟨rfl, hx⟩; replace X := Lib.hid (X.out.trans hx); replace Ky0 := Lib.hid (Ky0.out.ext hx); replace Ky1 := Lib.hid (Ky1.out.ext hx); clear hx y0_0 y0_1 y0_2 y1_0 y1_1 y1_2 y1_3; refine Hid.out ?_)
  refine Lib.hid ?_
  have y0_0 : W4.cell? ⟨w.heap.size, 0, none⟩ = some (.int .i64 L) := Ky0.out.cell 0
  have y0_1 : W4.cell? ⟨w.heap.size, 1, none⟩ = some (.slice J n cj) := Ky0.out.cell 1
  have y0_2 : W4.cell? ⟨w.heap.size, 2, none⟩ = some (.slice K n ck) := Ky0.out.cell 2
  have y1_0 : W4.cell? ⟨w.heap.size + 1, 0, none⟩ = some (.slice P np cp) := Ky1.out.cell 0
  have y1_1 : W4.cell? ⟨w.heap.size + 1, 1, none⟩ = some (.int .i64 sp) := Ky1.out.cell 1
  have y1_2 : W4.cell? ⟨w.heap.size + 1, 2, none⟩ = some (.int .i64 ga) := Ky1.out.cell 2
  have y1_3 : W4.cell? ⟨w.heap.size + 1, 3, none⟩ = some (.int .i64 li) := Ky1.out.cell 3
  go_wp2_with (go_at_call 42; refine (HSE.out _ X.out).mono ?_; rintro e W5 ⟨rfl, hx⟩; replace X := Lib.hid (X.out.trans hx); replace Ky0 := Lib.hid (Ky0.out.ext hx); replace Ky1 := Lib.hid (Ky1.out.ext hx); clear hx y0_0 y0_1 y0_2 y1_0 y1_1 y1_2 y1_3; refine Hid.out ?_)
  refine Lib.hid ?_
  have y0_0 : W5.cell? ⟨w.heap.size, 0, none⟩ = some (.int .i64 L) := Ky0.out.cell 0
  have y0_1 : W5.cell? ⟨w.heap.size, 1, none⟩ = some (.slice J n cj) := Ky0.out.cell 1
  have y0_2 : W5.cell? ⟨w.heap.size, 2, none⟩ = some (.slice K n ck) := Ky0.out.cell 2
  have y1_0 : W5.cell? ⟨w.heap.size + 1, 0, none⟩ = some (.slice P np cp) := Ky1.out.cell 0
  have y1_1 : W5.cell? ⟨w.heap.size + 1, 1, none⟩ = some (.int .i64 sp) := Ky1.out.cell 1
  have y1_2 : W5.cell? ⟨w.heap.size + 1, 2, none⟩ = some (.int .i64 ga) := Ky1.out.cell 2
  have y1_3 : W5.cell? ⟨w.heap.size + 1, 3, none⟩ = some (.int .i64 li) := Ky1.out.cell 3
  clear HFEW HFEA HBE HSE
  go_upto_region 6 with (fail)
  go_wp2
  clear y0_0 y0_1 y0_2 y1_0 y1_1 y1_2 y1_3
  go_loopw [7, 8] (fun v i wr => ∃ (j c : Nat) (R : Option Addr), j ≤ N ∧ i = .int .i64 ((j : Int) - 1) ∧ v = .slice R (N - j) c ∧ wr.ownsRow W5.heap.size 68 3 (.slice R (N - j) c) (N - j) (((l.drop j).reverse).flatMap Sk.enc) ∧ Ext W5 wr) (fun _ i _ => (intOf i + 1).toNat)
  case atStart => exact ⟨N, 0, none, Nat.le_refl _, rfl, by rw [Nat.sub_self], by rw [Nat.sub_self, List.drop_of_length_le (by have := HN.out; omega)]; exact own_none _ _ _ _, Ext.refl _⟩
  case round =>
    obtain ⟨j, c, R, hj, rfl, rfl, ho, hx⟩ := hrel
    have XR := Lib.hid hx
    have O := Lib.hid ho
    have SZR := Lib.hid (show W5.heap.size ≤ wr.heap.size from hx.size)
    clear ho
    rcases (show j = 0 ∨ ∃ j', j = j' + 1 from by cases j with | zero => exact .inl rfl | succ j' => exact .inr ⟨j', rfl⟩) with rfl | ⟨j, rfl⟩
    · have RB := Lib.hid (show RowsAt 3 Sk.enc wr R l.reverse from rows_own (enc := Sk.enc) (k := 3) (by rw [List.length_reverse, HN.out]; rfl) (fun _ => rfl) O.out (by omega))
      replace X := Lib.hid (X.out.trans hx)
      replace Ky0 := Lib.hid (Ky0.out.ext hx)
      replace Ky1 := Lib.hid (Ky1.out.ext hx)
      have hd : ¬ (0 : Int) ≤ ((0 : Nat) : Int) - 1 := by omega
      have hd2 : decide ((0 : Int) ≤ ((0 : Nat) : Int) - 1) = false := by decide
      clear hx XR O SZR
      obtain ⟨V, hV⟩ : ∃ V, V = wr := ⟨_, rfl⟩
      rw [← hV] at X Ky0 Ky1 RB ⊢
      clear hV
      have y0_0 : V.cell? ⟨w.heap.size, 0, none⟩ = some (.int .i64 L) := Ky0.out.cell 0
      have y0_1 : V.cell? ⟨w.heap.size, 1, none⟩ = some (.slice J n cj) := Ky0.out.cell 1
      have y0_2 : V.cell? ⟨w.heap.size, 2, none⟩ = some (.slice K n ck) := Ky0.out.cell 2
      have y1_0 : V.cell? ⟨w.heap.size + 1, 0, none⟩ = some (.slice P np cp) := Ky1.out.cell 0
      have y1_1 : V.cell? ⟨w.heap.size + 1, 1, none⟩ = some (.int .i64 sp) := Ky1.out.cell 1
      have y1_2 : V.cell? ⟨w.heap.size + 1, 2, none⟩ = some (.int .i64 ga) := Ky1.out.cell 2
      have y1_3 : V.cell? ⟨w.heap.size + 1, 3, none⟩ = some (.int .i64 li) := Ky1.out.cell 3
      have HAFB := Lib.hid (fun W J1 c1 K1 d1 P2 c2 (r1 : RowsAt 1 I1 W J1 js) (s1 : RowsAt 2 Rg.enc W K1 ks) (r2 : RowsAt 1 I1 W P2 am) (e : Ext V W) (n1 : J1 = none → c1 = 0) => show Calls Try.prog 36 #[.agg #[.int .i64 L, .slice J1 n c1, .slice K1 n d1], .agg #[.slice P2 np c2, .int .i64 sp, .int .i64 ga, .int .i64 li], .slice R N c] W fun e w' => e = .returned (.tuple #[.agg #[.int .i64 0, .slice none 0 0, .slice none 0 0], .int .i64 2]) ∧ Ext W w' from HREV.out W J1 c1 K1 d1 P2 c2 R c r1 s1 r2 (RB.out.ext e) n1)
      go_upto_region 10 with (fail)
      refine wp_region_free [.op, .op, .op, .op, .op, .op, .op, .op, .op, .late (.int .i64 (2)), .new, .store, .late (.int .i64 (2))] [11] [9, 67] [9] [some 60, some 61, some 62, some 63, some 64, some 65, some 66, some 59, some 67, some 68, some 9, none, some 10] [[3], [60], [4], [62], [2], [64], [61, 63, 65], [66], [59], [59], [], [9, 67], [68]]
        [Is (.agg #[.int .i64 L, .slice J n cj, .slice K n ck]), CopS L js ks n n, Is (.agg #[.slice P np cp, .int .i64 sp, .int .i64 ga, .int .i64 li]), CopP am sp ga li np, Is (.slice A N ca), CopL l N, Is (.tuple #[.agg #[.int .i64 0, .slice none 0 0, .slice none 0 0], .int .i64 2]), Is (.tuple #[.agg #[.int .i64 0, .slice none 0 0, .slice none 0 0], .int .i64 2]), Is (.agg #[.int .i64 0, .slice none 0 0, .slice none 0 0]), Is (.int .i64 (2)), NewP V.heap.size 25 #[.int .i64 0, .slice none 0 0, .slice none 0 0], fun _ _ => True, Is (.int .i64 (2))]
        (by kernel_rfl) (by kernel_rfl) (by kernel_rfl) (by kernel_rfl) (by kernel_rfl) (by kernel_rfl) (by kernel_rfl) (by kernel_rfl) (by kernel_rfl) Ext (fun W => Ext V W)
        (fun W _ => Ext.refl W) (fun W W' h k => h.trans k) (fun W W' h => h.size) ?_ (Ext.drew _) ?_ ?_
      · repeat (refine ⟨fun _ _ _ _ k h => (by first | exact h | exact (by first | exact IntsAt.ext h k | exact NewP.ext h k | exact CopS.ext h k | exact CopP.ext h k | exact CopL.ext h k | exact AftT.ext h k)), ?_⟩)
        exact trivial
      · refine ⟨?_, ?_, ?_, ?_, ?_, ?_, ?_, ?_, ?_, ?_, ?_, ?_, trivial⟩
        · intro ρ W ⟨kc, kg, kf⟩ hF hs
          obtain ⟨h0, -⟩ := hs
          replace h0 : ρ (.tmp 3) = .pointer (some ⟨w.heap.size, 0, none⟩) := h0
          have hc0 : W.cell? ⟨w.heap.size, 0, none⟩ = some (.int .i64 L) := hF.cell (by assumption)
          have hc1 : W.cell? ⟨w.heap.size, 1, none⟩ = some (.slice J n cj) := hF.cell (by assumption)
          have hc2 : W.cell? ⟨w.heap.size, 2, none⟩ = some (.slice K n ck) := hF.cell (by assumption)
          go_simp
          exact ⟨Ext.refl _, rfl⟩
        · intro ρ W ⟨kc, kg, kf⟩ hF hs
          obtain ⟨h0, -⟩ := hs
          replace h0 : ρ (.tmp 60) = .agg #[.int .i64 L, .slice J n cj, .slice K n ck] := h0
          go_simp
          refine (HCP.out _ (X.out.trans hF)).mono ?_; rintro e w' ⟨v, rfl, hc, hx⟩; exact ⟨_, rfl, hx, CopS.of hc⟩
        · intro ρ W ⟨kc, kg, kf⟩ hF hs
          obtain ⟨h0, -⟩ := hs
          replace h0 : ρ (.tmp 4) = .pointer (some ⟨w.heap.size + 1, 0, none⟩) := h0
          have hc0 : W.cell? ⟨w.heap.size + 1, 0, none⟩ = some (.slice P np cp) := hF.cell (by assumption)
          have hc1 : W.cell? ⟨w.heap.size + 1, 1, none⟩ = some (.int .i64 sp) := hF.cell (by assumption)
          have hc2 : W.cell? ⟨w.heap.size + 1, 2, none⟩ = some (.int .i64 ga) := hF.cell (by assumption)
          have hc3 : W.cell? ⟨w.heap.size + 1, 3, none⟩ = some (.int .i64 li) := hF.cell (by assumption)
          go_simp
          exact ⟨Ext.refl _, rfl⟩
        · intro ρ W ⟨kc, kg, kf⟩ hF hs
          obtain ⟨h0, -⟩ := hs
          replace h0 : ρ (.tmp 62) = .agg #[.slice P np cp, .int .i64 sp, .int .i64 ga, .int .i64 li] := h0
          go_simp
          refine (HCQ.out _ (X.out.trans hF)).mono ?_; rintro e w' ⟨v, rfl, hc, hx⟩; exact ⟨_, rfl, hx, CopP.of hc⟩
        · intro ρ W ⟨kc, kg, kf⟩ hF hs
          obtain ⟨h0, -⟩ := hs
          replace h0 : ρ (.tmp 2) = .slice A N ca := h0
          go_simp
          exact ⟨Ext.refl _, rfl⟩
        · intro ρ W ⟨kc, kg, kf⟩ hF hs
          obtain ⟨h0, -⟩ := hs
          replace h0 : ρ (.tmp 64) = .slice A N ca := h0
          go_simp
          refine (HCL.out _ (X.out.trans hF)).mono ?_; rintro e w' ⟨A', c', rfl, hr, hn1, hc1, hl1, hx⟩; exact ⟨_, rfl, hx, A', c', rfl, hr, hn1⟩
        · intro ρ W ⟨kc, kg, kf⟩ hF hs
          obtain ⟨h0, h1, h2, -⟩ := hs
          replace h0 : (CopS L js ks n n) (ρ (.tmp 61)) W := h0
          replace h1 : (CopP am sp ga li np) (ρ (.tmp 63)) W := h1
          replace h2 : (CopL l N) (ρ (.tmp 65)) W := h2
          obtain ⟨J1, c1, K1, d1, e1, r1, s1, n1, m1⟩ := h0
          replace e1 : ρ (.tmp 61) = .agg #[.int .i64 L, .slice J1 n c1, .slice K1 n d1] := e1
          obtain ⟨P2, c2, e2, r2, n2⟩ := h1
          replace e2 : ρ (.tmp 63) = .agg #[.slice P2 np c2, .int .i64 sp, .int .i64 ga, .int .i64 li] := e2
          obtain ⟨A3, c3, e3, r3, n3⟩ := h2
          replace e3 : ρ (.tmp 65) = .slice A3 N c3 := e3
          go_simp
          refine (HAFT.out _ J1 c1 K1 d1 P2 c2 A3 c3 r1 s1 r2 r3 n1).mono ?_; rintro e w' ⟨rfl, hx⟩; exact ⟨_, rfl, hx, rfl⟩
        · intro ρ W ⟨kc, kg, kf⟩ hF hs
          obtain ⟨h0, -⟩ := hs
          replace h0 : ρ (.tmp 66) = .tuple #[.agg #[.int .i64 0, .slice none 0 0, .slice none 0 0], .int .i64 2] := h0
          go_simp
          exact ⟨Ext.refl _, rfl⟩
        · intro ρ W ⟨kc, kg, kf⟩ hF hs
          obtain ⟨h0, -⟩ := hs
          replace h0 : ρ (.tmp 59) = .tuple #[.agg #[.int .i64 0, .slice none 0 0, .slice none 0 0], .int .i64 2] := h0
          go_simp
          exact ⟨Ext.refl _, rfl⟩
        · refine ⟨rfl, fun ρ W ⟨kc, kg, kf⟩ hF hs W' => ?_⟩
          obtain ⟨h0, -⟩ := hs
          replace h0 : ρ (.tmp 59) = .tuple #[.agg #[.int .i64 0, .slice none 0 0, .slice none 0 0], .int .i64 2] := h0
          go_simp
        · intro ρ W ⟨kc, kg, kf⟩ hF hs
          exact ⟨W.alloc (.cells #[.int .i64 0, .slice none 0 0, .slice none 0 0] 25), (by go_simp), by simp, Ext.alloc _ _, _, rfl, hF.size, Blk.new _ _ _⟩
        · refine ⟨rfl, fun ρ W ⟨kc, kg, kf⟩ hF hs W' => ?_⟩
          obtain ⟨h0, -⟩ := hs
          replace h0 : ρ (.tmp 68) = .int .i64 (2) := h0
          go_simp
      · intro fv U hF hs hap σ hσ ρ ⟨kc, kg, kf⟩ hr
        obtain ⟨-, -, -, -, -, -, -, -, h67, h68, h9, h10, -⟩ := hs
        replace h67 : fv 67 = .agg #[.int .i64 0, .slice none 0 0, .slice none 0 0] := h67
        replace h68 : fv 68 = .int .i64 (2) := h68
        replace h9 : (NewP V.heap.size 25 #[.int .i64 0, .slice none 0 0, .slice none 0 0]) (fv 9) U := h9
        replace h10 : fv 10 = .int .i64 (2) := h10
        obtain ⟨r0, r1, -⟩ := hr
        replace r0 : ρ (.tmp 9) = fv 9 := r0
        replace r1 : ρ (.tmp 67) = .agg #[.int .i64 0, .slice none 0 0, .slice none 0 0] := r1.trans h67
        obtain ⟨q9, hq9, hqs9, hb9⟩ := h9
        rw [hq9] at r0
        have f9_0 := hb9.free 0
        have c9_0 : U.cell? ⟨q9, 0, none⟩ = some (.int .i64 0) := hb9.cell 0
        have f9_1 := hb9.free 1
        have c9_1 : U.cell? ⟨q9, 1, none⟩ = some (.slice none 0 0) := hb9.cell 1
        have f9_2 := hb9.free 2
        have c9_2 : U.cell? ⟨q9, 2, none⟩ = some (.slice none 0 0) := hb9.cell 2
        refine stores_one _ rfl hσ (((U.setCell ⟨q9, 0, none⟩ (.int .i64 0)).setCell ⟨q9, 1, none⟩ (.slice none 0 0)).setCell ⟨q9, 2, none⟩ (.slice none 0 0)) (by go_simp) ?_
        obtain ⟨V1, hV1⟩ : ∃ Vx, Vx = ((U.setCell ⟨q9, 0, none⟩ (.int .i64 0)).setCell ⟨q9, 1, none⟩ (.slice none 0 0)).setCell ⟨q9, 2, none⟩ (.slice none 0 0) := ⟨_, rfl⟩
        rw [← hV1]
        have K9 := Lib.hid (show Blk V1 q9 25 #[.int .i64 0, .slice none 0 0, .slice none 0 0] by rw [hV1]; exact ((hb9.setSame 0 _).setSame 1 _).setSame 2 _)
        have XN := Lib.hid (show Ext V V1 by rw [hV1]; exact Ext.set (Ext.set (Ext.set hF (by dsimp only; exact hqs9) _) (by dsimp only; exact hqs9) _) (by dsimp only; exact hqs9) _)
        have L9 := Lib.hid hqs9
        clear f9_0 c9_0 f9_1 c9_1 f9_2 c9_2
        clear hV1 hF hap hσ r0 r1 kc kg kf hb9 hqs9
        simp only [fin, List.filterMap]
        go_simp
        try rw [hq9]
        clear hq9
        clear ρ σ h67 h68 h10
        have hx := XN.out
        have EV := Lib.hid XN.out
        replace X := Lib.hid (X.out.trans hx)
        replace Ky0 := Lib.hid (Ky0.out.ext hx)
        replace Ky1 := Lib.hid (Ky1.out.ext hx)
        clear hx y0_0 y0_1 y0_2 y1_0 y1_1 y1_2 y1_3
        have Ky9 := K9
        clear K9 XN L9
        clear HAFT
        have y0_0 : V1.cell? ⟨w.heap.size, 0, none⟩ = some (.int .i64 L) := Ky0.out.cell 0
        have y0_1 : V1.cell? ⟨w.heap.size, 1, none⟩ = some (.slice J n cj) := Ky0.out.cell 1
        have y0_2 : V1.cell? ⟨w.heap.size, 2, none⟩ = some (.slice K n ck) := Ky0.out.cell 2
        have y1_0 : V1.cell? ⟨w.heap.size + 1, 0, none⟩ = some (.slice P np cp) := Ky1.out.cell 0
        have y1_1 : V1.cell? ⟨w.heap.size + 1, 1, none⟩ = some (.int .i64 sp) := Ky1.out.cell 1
        have y1_2 : V1.cell? ⟨w.heap.size + 1, 2, none⟩ = some (.int .i64 ga) := Ky1.out.cell 2
        have y1_3 : V1.cell? ⟨w.heap.size + 1, 3, none⟩ = some (.int .i64 li) := Ky1.out.cell 3
        have y9_0 : V1.cell? ⟨q9, 0, none⟩ = some (.int .i64 0) := Ky9.out.cell 0
        have y9_1 : V1.cell? ⟨q9, 1, none⟩ = some (.slice none 0 0) := Ky9.out.cell 1
        have y9_2 : V1.cell? ⟨q9, 2, none⟩ = some (.slice none 0 0) := Ky9.out.cell 2
        replace HAFB := Lib.hid (fun W J1 c1 K1 d1 P2 c2 (r1 : RowsAt 1 I1 W J1 js) (s1 : RowsAt 2 Rg.enc W K1 ks) (r2 : RowsAt 1 I1 W P2 am) (e : Ext V1 W) n1 => HAFB.out W J1 c1 K1 d1 P2 c2 r1 s1 r2 (EV.out.trans e) n1)
        go_upto_region 11 with (fail)
        refine wp_region_free [.op, .op, .op, .op, .op, .op, .op, .op, .late (.int .i64 (2)), .new, .store, .late (.int .i64 (2))] [10] [11, 76] [11] [some 70, some 71, some 72, some 73, some 74, some 75, some 69, some 76, some 77, some 11, none, some 12] [[3], [70], [4], [72], [7], [71, 73, 74], [75], [69], [69], [], [11, 76], [77]]
          [Is (.agg #[.int .i64 L, .slice J n cj, .slice K n ck]), CopS L js ks n n, Is (.agg #[.slice P np cp, .int .i64 sp, .int .i64 ga, .int .i64 li]), CopP am sp ga li np, Is (.slice R N c), Is (.tuple #[.agg #[.int .i64 0, .slice none 0 0, .slice none 0 0], .int .i64 2]), Is (.tuple #[.agg #[.int .i64 0, .slice none 0 0, .slice none 0 0], .int .i64 2]), Is (.agg #[.int .i64 0, .slice none 0 0, .slice none 0 0]), Is (.int .i64 (2)), NewP V1.heap.size 25 #[.int .i64 0, .slice none 0 0, .slice none 0 0], fun _ _ => True, Is (.int .i64 (2))]
          (by kernel_rfl) (by kernel_rfl) (by kernel_rfl) (by kernel_rfl) (by kernel_rfl) (by kernel_rfl) (by kernel_rfl) (by kernel_rfl) (by kernel_rfl) Ext (fun W => Ext V1 W)
          (fun W _ => Ext.refl W) (fun W W' h k => h.trans k) (fun W W' h => h.size) ?_ (Ext.drew _) ?_ ?_
        · repeat (refine ⟨fun _ _ _ _ k h => (by first | exact h | exact (by first | exact IntsAt.ext h k | exact NewP.ext h k | exact CopS.ext h k | exact CopP.ext h k | exact CopL.ext h k | exact AftT.ext h k)), ?_⟩)
          exact trivial
        · refine ⟨?_, ?_, ?_, ?_, ?_, ?_, ?_, ?_, ?_, ?_, ?_, trivial⟩
          · intro ρ W ⟨kc, kg, kf⟩ hF hs
            obtain ⟨h0, -⟩ := hs
            replace h0 : ρ (.tmp 3) = .pointer (some ⟨w.heap.size, 0, none⟩) := h0
            have hc0 : W.cell? ⟨w.heap.size, 0, none⟩ = some (.int .i64 L) := hF.cell (by assumption)
            have hc1 : W.cell? ⟨w.heap.size, 1, none⟩ = some (.slice J n cj) := hF.cell (by assumption)
            have hc2 : W.cell? ⟨w.heap.size, 2, none⟩ = some (.slice K n ck) := hF.cell (by assumption)
            go_simp
            exact ⟨Ext.refl _, rfl⟩
          · intro ρ W ⟨kc, kg, kf⟩ hF hs
            obtain ⟨h0, -⟩ := hs
            replace h0 : ρ (.tmp 70) = .agg #[.int .i64 L, .slice J n cj, .slice K n ck] := h0
            go_simp
            refine (HCP.out _ (X.out.trans hF)).mono ?_; rintro e w' ⟨v, rfl, hc, hx⟩; exact ⟨_, rfl, hx, CopS.of hc⟩
          · intro ρ W ⟨kc, kg, kf⟩ hF hs
            obtain ⟨h0, -⟩ := hs
            replace h0 : ρ (.tmp 4) = .pointer (some ⟨w.heap.size + 1, 0, none⟩) := h0
            have hc0 : W.cell? ⟨w.heap.size + 1, 0, none⟩ = some (.slice P np cp) := hF.cell (by assumption)
            have hc1 : W.cell? ⟨w.heap.size + 1, 1, none⟩ = some (.int .i64 sp) := hF.cell (by assumption)
            have hc2 : W.cell? ⟨w.heap.size + 1, 2, none⟩ = some (.int .i64 ga) := hF.cell (by assumption)
            have hc3 : W.cell? ⟨w.heap.size + 1, 3, none⟩ = some (.int .i64 li) := hF.cell (by assumption)
            go_simp
            exact ⟨Ext.refl _, rfl⟩
          · intro ρ W ⟨kc, kg, kf⟩ hF hs
            obtain ⟨h0, -⟩ := hs
            replace h0 : ρ (.tmp 72) = .agg #[.slice P np cp, .int .i64 sp, .int .i64 ga, .int .i64 li] := h0
            go_simp
            refine (HCQ.out _ (X.out.trans hF)).mono ?_; rintro e w' ⟨v, rfl, hc, hx⟩; exact ⟨_, rfl, hx, CopP.of hc⟩
          · intro ρ W ⟨kc, kg, kf⟩ hF hs
            obtain ⟨h0, -⟩ := hs
            replace h0 : ρ (.tmp 7) = .slice R N c := h0
            go_simp
            exact ⟨Ext.refl _, rfl⟩
          · intro ρ W ⟨kc, kg, kf⟩ hF hs
            obtain ⟨h0, h1, h2, -⟩ := hs
            replace h0 : (CopS L js ks n n) (ρ (.tmp 71)) W := h0
            replace h1 : (CopP am sp ga li np) (ρ (.tmp 73)) W := h1
            replace h2 : ρ (.tmp 74) = .slice R N c := h2
            obtain ⟨J1, c1, K1, d1, e1, r1, s1, n1, m1⟩ := h0
            replace e1 : ρ (.tmp 71) = .agg #[.int .i64 L, .slice J1 n c1, .slice K1 n d1] := e1
            obtain ⟨P2, c2, e2, r2, n2⟩ := h1
            replace e2 : ρ (.tmp 73) = .agg #[.slice P2 np c2, .int .i64 sp, .int .i64 ga, .int .i64 li] := e2
            go_simp
            refine (HAFB.out _ J1 c1 K1 d1 P2 c2 r1 s1 r2 hF n1).mono ?_; rintro e w' ⟨rfl, hx⟩; exact ⟨_, rfl, hx, rfl⟩
          · intro ρ W ⟨kc, kg, kf⟩ hF hs
            obtain ⟨h0, -⟩ := hs
            replace h0 : ρ (.tmp 75) = .tuple #[.agg #[.int .i64 0, .slice none 0 0, .slice none 0 0], .int .i64 2] := h0
            go_simp
            exact ⟨Ext.refl _, rfl⟩
          · intro ρ W ⟨kc, kg, kf⟩ hF hs
            obtain ⟨h0, -⟩ := hs
            replace h0 : ρ (.tmp 69) = .tuple #[.agg #[.int .i64 0, .slice none 0 0, .slice none 0 0], .int .i64 2] := h0
            go_simp
            exact ⟨Ext.refl _, rfl⟩
          · refine ⟨rfl, fun ρ W ⟨kc, kg, kf⟩ hF hs W' => ?_⟩
            obtain ⟨h0, -⟩ := hs
            replace h0 : ρ (.tmp 69) = .tuple #[.agg #[.int .i64 0, .slice none 0 0, .slice none 0 0], .int .i64 2] := h0
            go_simp
          · intro ρ W ⟨kc, kg, kf⟩ hF hs
            exact ⟨W.alloc (.cells #[.int .i64 0, .slice none 0 0, .slice none 0 0] 25), (by go_simp), by simp, Ext.alloc _ _, _, rfl, hF.size, Blk.new _ _ _⟩
          · refine ⟨rfl, fun ρ W ⟨kc, kg, kf⟩ hF hs W' => ?_⟩
            obtain ⟨h0, -⟩ := hs
            replace h0 : ρ (.tmp 77) = .int .i64 (2) := h0
            go_simp
        · intro fv U hF hs hap σ hσ ρ ⟨kc, kg, kf⟩ hr
          obtain ⟨-, -, -, -, -, -, -, h76, h77, h11, h12, -⟩ := hs
          replace h76 : fv 76 = .agg #[.int .i64 0, .slice none 0 0, .slice none 0 0] := h76
          replace h77 : fv 77 = .int .i64 (2) := h77
          replace h11 : (NewP V1.heap.size 25 #[.int .i64 0, .slice none 0 0, .slice none 0 0]) (fv 11) U := h11
          replace h12 : fv 12 = .int .i64 (2) := h12
          obtain ⟨r0, r1, -⟩ := hr
          replace r0 : ρ (.tmp 11) = fv 11 := r0
          replace r1 : ρ (.tmp 76) = .agg #[.int .i64 0, .slice none 0 0, .slice none 0 0] := r1.trans h76
          obtain ⟨q11, hq11, hqs11, hb11⟩ := h11
          rw [hq11] at r0
          have f11_0 := hb11.free 0
          have c11_0 : U.cell? ⟨q11, 0, none⟩ = some (.int .i64 0) := hb11.cell 0
          have f11_1 := hb11.free 1
          have c11_1 : U.cell? ⟨q11, 1, none⟩ = some (.slice none 0 0) := hb11.cell 1
          have f11_2 := hb11.free 2
          have c11_2 : U.cell? ⟨q11, 2, none⟩ = some (.slice none 0 0) := hb11.cell 2
          refine stores_one _ rfl hσ (((U.setCell ⟨q11, 0, none⟩ (.int .i64 0)).setCell ⟨q11, 1, none⟩ (.slice none 0 0)).setCell ⟨q11, 2, none⟩ (.slice none 0 0)) (by go_simp) ?_
          obtain ⟨V2, hV2⟩ : ∃ Vx, Vx = ((U.setCell ⟨q11, 0, none⟩ (.int .i64 0)).setCell ⟨q11, 1, none⟩ (.slice none 0 0)).setCell ⟨q11, 2, none⟩ (.slice none 0 0) := ⟨_, rfl⟩
          rw [← hV2]
          have K11 := Lib.hid (show Blk V2 q11 25 #[.int .i64 0, .slice none 0 0, .slice none 0 0] by rw [hV2]; exact ((hb11.setSame 0 _).setSame 1 _).setSame 2 _)
          have XN := Lib.hid (show Ext V1 V2 by rw [hV2]; exact Ext.set (Ext.set (Ext.set hF (by dsimp only; exact hqs11) _) (by dsimp only; exact hqs11) _) (by dsimp only; exact hqs11) _)
          have L11 := Lib.hid hqs11
          clear f11_0 c11_0 f11_1 c11_1 f11_2 c11_2
          clear hV2 hF hap hσ r0 r1 kc kg kf hb11 hqs11
          simp only [fin, List.filterMap]
          go_simp
          try rw [hq11]
          clear hq11
          clear ρ σ h76 h77 h12
          have hx := XN.out
          replace X := Lib.hid (X.out.trans hx)
          replace Ky0 := Lib.hid (Ky0.out.ext hx)
          replace Ky1 := Lib.hid (Ky1.out.ext hx)
          replace Ky9 := Lib.hid (Ky9.out.ext hx)
          clear hx y0_0 y0_1 y0_2 y1_0 y1_1 y1_2 y1_3 y9_0 y9_1 y9_2
          have Ky11 := K11
          clear K11 XN L11 HAFB
          have y0_0 : V2.cell? ⟨w.heap.size, 0, none⟩ = some (.int .i64 L) := Ky0.out.cell 0
          have y0_1 : V2.cell? ⟨w.heap.size, 1, none⟩ = some (.slice J n cj) := Ky0.out.cell 1
          have y0_2 : V2.cell? ⟨w.heap.size, 2, none⟩ = some (.slice K n ck) := Ky0.out.cell 2
          have y1_0 : V2.cell? ⟨w.heap.size + 1, 0, none⟩ = some (.slice P np cp) := Ky1.out.cell 0
          have y1_1 : V2.cell? ⟨w.heap.size + 1, 1, none⟩ = some (.int .i64 sp) := Ky1.out.cell 1
          have y1_2 : V2.cell? ⟨w.heap.size + 1, 2, none⟩ = some (.int .i64 ga) := Ky1.out.cell 2
          have y1_3 : V2.cell? ⟨w.heap.size + 1, 3, none⟩ = some (.int .i64 li) := Ky1.out.cell 3
          have y9_0 : V2.cell? ⟨q9, 0, none⟩ = some (.int .i64 0) := Ky9.out.cell 0
          have y9_1 : V2.cell? ⟨q9, 1, none⟩ = some (.slice none 0 0) := Ky9.out.cell 1
          have y9_2 : V2.cell? ⟨q9, 2, none⟩ = some (.slice none 0 0) := Ky9.out.cell 2
          have y11_0 : V2.cell? ⟨q11, 0, none⟩ = some (.int .i64 0) := Ky11.out.cell 0
          have y11_1 : V2.cell? ⟨q11, 1, none⟩ = some (.slice none 0 0) := Ky11.out.cell 1
          have y11_2 : V2.cell? ⟨q11, 2, none⟩ = some (.slice none 0 0) := Ky11.out.cell 2
          have HSM := Lib.hid (show ∀ W, Ext V2 W → Calls Try.prog 31 #[.agg #[.int .i64 0, .slice none 0 0, .slice none 0 0], .agg #[.int .i64 0, .slice none 0 0, .slice none 0 0]] W fun e w' => e = .returned (.bool true) ∧ Ext W w' from fun W e => (same_any (js := []) (ks := []) (js2 := []) (ks2 := []) (L := 0) (L2 := 0) (n := 0) (m := 0) (n2 := 0) (m2 := 0) rfl (rowsNil 1 I1 W) rfl (rowsNil 2 Rg.enc W) rfl (rowsNil 1 I1 W) rfl (rowsNil 2 Rg.enc W)).mono (by rintro e w' ⟨b, rfl, hb, hx⟩; exact ⟨by rw [hb.2 ⟨rfl, rfl, rfl⟩], hx⟩))
          go_wp2_with (go_at_call 31; refine (HSM.out _ (Ext.refl _)).mono ?_; rintro e V3 ⟨rfl, hx⟩; replace X := Lib.hid (X.out.trans hx); replace Ky0 := Lib.hid (Ky0.out.ext hx); replace Ky1 := Lib.hid (Ky1.out.ext hx); replace Ky9 := Lib.hid (Ky9.out.ext hx); replace Ky11 := Lib.hid (Ky11.out.ext hx); clear hx y0_0 y0_1 y0_2 y1_0 y1_1 y1_2 y1_3 y9_0 y9_1 y9_2 y11_0 y11_1 y11_2; refine Hid.out ?_)
          refine Lib.hid ?_
          have y0_0 : V3.cell? ⟨w.heap.size, 0, none⟩ = some (.int .i64 L) := Ky0.out.cell 0
          have y0_1 : V3.cell? ⟨w.heap.size, 1, none⟩ = some (.slice J n cj) := Ky0.out.cell 1
          have y0_2 : V3.cell? ⟨w.heap.size, 2, none⟩ = some (.slice K n ck) := Ky0.out.cell 2
          have y1_0 : V3.cell? ⟨w.heap.size + 1, 0, none⟩ = some (.slice P np cp) := Ky1.out.cell 0
          have y1_1 : V3.cell? ⟨w.heap.size + 1, 1, none⟩ = some (.int .i64 sp) := Ky1.out.cell 1
          have y1_2 : V3.cell? ⟨w.heap.size + 1, 2, none⟩ = some (.int .i64 ga) := Ky1.out.cell 2
          have y1_3 : V3.cell? ⟨w.heap.size + 1, 3, none⟩ = some (.int .i64 li) := Ky1.out.cell 3
          have y9_0 : V3.cell? ⟨q9, 0, none⟩ = some (.int .i64 0) := Ky9.out.cell 0
          have y9_1 : V3.cell? ⟨q9, 1, none⟩ = some (.slice none 0 0) := Ky9.out.cell 1
          have y9_2 : V3.cell? ⟨q9, 2, none⟩ = some (.slice none 0 0) := Ky9.out.cell 2
          have y11_0 : V3.cell? ⟨q11, 0, none⟩ = some (.int .i64 0) := Ky11.out.cell 0
          have y11_1 : V3.cell? ⟨q11, 1, none⟩ = some (.slice none 0 0) := Ky11.out.cell 1
          have y11_2 : V3.cell? ⟨q11, 2, none⟩ = some (.slice none 0 0) := Ky11.out.cell 2
          go_wp2
          clear y0_0 y0_1 y0_2 y1_0 y1_1 y1_2 y1_3 y9_0 y9_1 y9_2 y11_0 y11_1 y11_2 Ky9 Ky11 HSM
          go_loopw [13] (fun i wr => ∃ k : Nat, k ≤ N ∧ i = .int .i64 (k : Int) ∧ Ext w wr ∧ Blk wr w.heap.size 25 #[.int .i64 L, .slice J n cj, .slice K n ck] ∧ Blk wr (w.heap.size + 1) 58 #[.slice P np cp, .int .i64 sp, .int .i64 ga, .int .i64 li]) (fun i _ => N - (intOf i).toNat)
          case atStart => exact ⟨0, by omega, rfl, X.out, Ky0.out, Ky1.out⟩
          case round =>
            clear X Ky0 Ky1
            obtain ⟨k, hk, rfl, hx, k0, k1⟩ := hrel
            have X := Lib.hid hx
            have Ky0 := Lib.hid k0
            have Ky1 := Lib.hid k1
            clear hx k0 k1
            by_cases hlt : k < N
            · have hxk := getD_some (xs := l) (i := k) (by have := HN.out; omega)
              have HS2 := Lib.hid (fun W q (h : Blk W q 68 #[.int .i64 (l.getD k default).j, .int .i64 (l.getD k default).a, .bool (l.getD k default).u, .int .i64 (l.getD k default).j, .int .i64 (l.getD k default).a, .bool (!(l.getD k default).u)]) (e : Ext w W) => HSE2.out (l.getD k default) W q (two_rows h) e)
              have HA2 := Lib.hid (fun (hz : strokesE n am li [l.getD k default, opp (l.getD k default)] = 0) => HAF2.out (l.getD k default) hz)
              generalize strokesE n am li [l.getD k default, opp (l.getD k default)] = se2 at *
              generalize l.getD k default = x at *
              obtain ⟨b, o, rfl, hb, hc⟩ := row_at (HA.out.ext X.out) hxk
              have hki : (k : Int) < (N : Int) := by omega
              obtain ⟨V, hV⟩ : ∃ V, V = wr := ⟨_, rfl⟩
              rw [← hV] at X Ky0 Ky1 hc ⊢
              clear hV hb hxk
              have y0_0 : V.cell? ⟨w.heap.size, 0, none⟩ = some (.int .i64 L) := Ky0.out.cell 0
              have y0_1 : V.cell? ⟨w.heap.size, 1, none⟩ = some (.slice J n cj) := Ky0.out.cell 1
              have y0_2 : V.cell? ⟨w.heap.size, 2, none⟩ = some (.slice K n ck) := Ky0.out.cell 2
              have y1_0 : V.cell? ⟨w.heap.size + 1, 0, none⟩ = some (.slice P np cp) := Ky1.out.cell 0
              have y1_1 : V.cell? ⟨w.heap.size + 1, 1, none⟩ = some (.int .i64 sp) := Ky1.out.cell 1
              have y1_2 : V.cell? ⟨w.heap.size + 1, 2, none⟩ = some (.int .i64 ga) := Ky1.out.cell 2
              have y1_3 : V.cell? ⟨w.heap.size + 1, 3, none⟩ = some (.int .i64 li) := Ky1.out.cell 3
              have p0 : V.cell? ⟨b, o + k * 3, none⟩ = some (.int .i64 x.j) := hc 0 _ rfl
              have p1 : V.cell? ⟨b, o + k * 3 + 1, none⟩ = some (.int .i64 x.a) := hc 1 _ rfl
              have p2 : V.cell? ⟨b, o + k * 3 + 2, none⟩ = some (.bool x.u) := hc 2 _ rfl
              clear hc
              go_upto_region 17 with (fail)
              refine wp_region_each [some 101, some 102, some 103, some 104, some 105, some 106, some 107, some 108, some 109, some 110, some 111, some 112, some 113, some 114, some 115, some 116, some 117, some 118, some 119, some 120, some 121, some 122, some 14] [[2], [13], [101, 102], [103], [2], [13], [105, 106], [107], [108], [2], [13], [110, 111], [112], [113], [2], [13], [115, 116], [117], [118], [119], [109, 114, 120], [104, 121], [122]]
                [Is (.slice (some ⟨b, o, none⟩) N ca), Is (.int .i64 ((k : Int))), Is (.pointer (some ⟨b, o + k * 3, none⟩)), Is (.agg #[.int .i64 x.j, .int .i64 x.a, .bool x.u]), Is (.slice (some ⟨b, o, none⟩) N ca), Is (.int .i64 ((k : Int))), Is (.pointer (some ⟨b, o + k * 3, none⟩)), Is (.pointer (some ⟨b, o + k * 3, none⟩)), Is (.int .i64 (x.j)), Is (.slice (some ⟨b, o, none⟩) N ca), Is (.int .i64 ((k : Int))), Is (.pointer (some ⟨b, o + k * 3, none⟩)), Is (.pointer (some ⟨b, o + k * 3 + 1, none⟩)), Is (.int .i64 (x.a)), Is (.slice (some ⟨b, o, none⟩) N ca), Is (.int .i64 ((k : Int))), Is (.pointer (some ⟨b, o + k * 3, none⟩)), Is (.pointer (some ⟨b, o + k * 3 + 2, none⟩)), Is (.bool (x.u)), Is (.bool (!x.u)), Is (.agg #[.int .i64 x.j, .int .i64 x.a, .bool (!x.u)]), Two x, Two x]
                (by kernel_rfl) (by kernel_rfl) (by kernel_rfl) (by kernel_rfl) (by kernel_rfl) Ext (fun W => Ext V W)
                (fun W _ => Ext.refl W) (fun W W' h k => h.trans k) ?_ (Ext.drew _) ?_ ?_
              · repeat (refine ⟨fun _ _ _ _ k h => (by first | exact h | exact (by first | exact IntsAt.ext h k | exact Two.ext h k)), ?_⟩)
                exact trivial
              · refine ⟨?_, ?_, ?_, ?_, ?_, ?_, ?_, ?_, ?_, ?_, ?_, ?_, ?_, ?_, ?_, ?_, ?_, ?_, ?_, ?_, ?_, ?_, ?_, trivial⟩
                all_goals intro ρ W ⟨kc, kg, kf⟩ hF hs
                · obtain ⟨h0, -⟩ := hs
                  replace h0 : ρ (.tmp 2) = .slice (some ⟨b, o, none⟩) N ca := h0
                  go_simp
                  exact ⟨Ext.refl _, rfl⟩
                · obtain ⟨h0, -⟩ := hs
                  replace h0 : ρ (.tmp 13) = .int .i64 ((k : Int)) := h0
                  go_simp
                  exact ⟨Ext.refl _, rfl⟩
                · obtain ⟨h0, h1, -⟩ := hs
                  replace h0 : ρ (.tmp 101) = .slice (some ⟨b, o, none⟩) N ca := h0
                  replace h1 : ρ (.tmp 102) = .int .i64 ((k : Int)) := h1
                  have hb1 : (k : Int) < (N : Int) := by omega
                  have hb3 : (0 : Int) ≤ (k : Int) := by omega
                  have hb4 : ((k : Int)).toNat = k := by omega
                  have hb8 : k < N := by omega
                  go_simp
                  exact ⟨Ext.refl _, rfl⟩
                · obtain ⟨h0, -⟩ := hs
                  replace h0 : ρ (.tmp 103) = .pointer (some ⟨b, o + k * 3, none⟩) := h0
                  have hc0 : W.cell? ⟨b, o + k * 3, none⟩ = some (.int .i64 (x.j)) := hF.cell (by assumption)
                  have hc1 : W.cell? ⟨b, o + k * 3 + 1, none⟩ = some (.int .i64 (x.a)) := hF.cell (by assumption)
                  have hc2 : W.cell? ⟨b, o + k * 3 + 2, none⟩ = some (.bool (x.u)) := hF.cell (by assumption)
                  go_simp
                  exact ⟨Ext.refl _, rfl⟩
                · obtain ⟨h0, -⟩ := hs
                  replace h0 : ρ (.tmp 2) = .slice (some ⟨b, o, none⟩) N ca := h0
                  go_simp
                  exact ⟨Ext.refl _, rfl⟩
                · obtain ⟨h0, -⟩ := hs
                  replace h0 : ρ (.tmp 13) = .int .i64 ((k : Int)) := h0
                  go_simp
                  exact ⟨Ext.refl _, rfl⟩
                · obtain ⟨h0, h1, -⟩ := hs
                  replace h0 : ρ (.tmp 105) = .slice (some ⟨b, o, none⟩) N ca := h0
                  replace h1 : ρ (.tmp 106) = .int .i64 ((k : Int)) := h1
                  have hb1 : (k : Int) < (N : Int) := by omega
                  have hb3 : (0 : Int) ≤ (k : Int) := by omega
                  have hb4 : ((k : Int)).toNat = k := by omega
                  have hb8 : k < N := by omega
                  go_simp
                  exact ⟨Ext.refl _, rfl⟩
                · obtain ⟨h0, -⟩ := hs
                  replace h0 : ρ (.tmp 107) = .pointer (some ⟨b, o + k * 3, none⟩) := h0
                  go_simp
                  exact ⟨Ext.refl _, rfl⟩
                · obtain ⟨h0, -⟩ := hs
                  replace h0 : ρ (.tmp 108) = .pointer (some ⟨b, o + k * 3, none⟩) := h0
                  have hc0 : W.cell? ⟨b, o + k * 3, none⟩ = some (.int .i64 (x.j)) := hF.cell (by assumption)
                  go_simp
                  exact ⟨Ext.refl _, rfl⟩
                · obtain ⟨h0, -⟩ := hs
                  replace h0 : ρ (.tmp 2) = .slice (some ⟨b, o, none⟩) N ca := h0
                  go_simp
                  exact ⟨Ext.refl _, rfl⟩
                · obtain ⟨h0, -⟩ := hs
                  replace h0 : ρ (.tmp 13) = .int .i64 ((k : Int)) := h0
                  go_simp
                  exact ⟨Ext.refl _, rfl⟩
                · obtain ⟨h0, h1, -⟩ := hs
                  replace h0 : ρ (.tmp 110) = .slice (some ⟨b, o, none⟩) N ca := h0
                  replace h1 : ρ (.tmp 111) = .int .i64 ((k : Int)) := h1
                  have hb1 : (k : Int) < (N : Int) := by omega
                  have hb3 : (0 : Int) ≤ (k : Int) := by omega
                  have hb4 : ((k : Int)).toNat = k := by omega
                  have hb8 : k < N := by omega
                  go_simp
                  exact ⟨Ext.refl _, rfl⟩
                · obtain ⟨h0, -⟩ := hs
                  replace h0 : ρ (.tmp 112) = .pointer (some ⟨b, o + k * 3, none⟩) := h0
                  go_simp
                  exact ⟨Ext.refl _, rfl⟩
                · obtain ⟨h0, -⟩ := hs
                  replace h0 : ρ (.tmp 113) = .pointer (some ⟨b, o + k * 3 + 1, none⟩) := h0
                  have hc0 : W.cell? ⟨b, o + k * 3 + 1, none⟩ = some (.int .i64 (x.a)) := hF.cell (by assumption)
                  go_simp
                  exact ⟨Ext.refl _, rfl⟩
                · obtain ⟨h0, -⟩ := hs
                  replace h0 : ρ (.tmp 2) = .slice (some ⟨b, o, none⟩) N ca := h0
                  go_simp
                  exact ⟨Ext.refl _, rfl⟩
                · obtain ⟨h0, -⟩ := hs
                  replace h0 : ρ (.tmp 13) = .int .i64 ((k : Int)) := h0
                  go_simp
                  exact ⟨Ext.refl _, rfl⟩
                · obtain ⟨h0, h1, -⟩ := hs
                  replace h0 : ρ (.tmp 115) = .slice (some ⟨b, o, none⟩) N ca := h0
                  replace h1 : ρ (.tmp 116) = .int .i64 ((k : Int)) := h1
                  have hb1 : (k : Int) < (N : Int) := by omega
                  have hb3 : (0 : Int) ≤ (k : Int) := by omega
                  have hb4 : ((k : Int)).toNat = k := by omega
                  have hb8 : k < N := by omega
                  go_simp
                  exact ⟨Ext.refl _, rfl⟩
                · obtain ⟨h0, -⟩ := hs
                  replace h0 : ρ (.tmp 117) = .pointer (some ⟨b, o + k * 3, none⟩) := h0
                  go_simp
                  exact ⟨Ext.refl _, rfl⟩
                · obtain ⟨h0, -⟩ := hs
                  replace h0 : ρ (.tmp 118) = .pointer (some ⟨b, o + k * 3 + 2, none⟩) := h0
                  have hc0 : W.cell? ⟨b, o + k * 3 + 2, none⟩ = some (.bool (x.u)) := hF.cell (by assumption)
                  go_simp
                  exact ⟨Ext.refl _, rfl⟩
                · obtain ⟨h0, -⟩ := hs
                  replace h0 : ρ (.tmp 119) = .bool (x.u) := h0
                  go_simp
                  exact ⟨Ext.refl _, rfl⟩
                · obtain ⟨h0, h1, h2, -⟩ := hs
                  replace h0 : ρ (.tmp 109) = .int .i64 (x.j) := h0
                  replace h1 : ρ (.tmp 114) = .int .i64 (x.a) := h1
                  replace h2 : ρ (.tmp 120) = .bool (!x.u) := h2
                  go_simp
                  exact ⟨Ext.refl _, rfl⟩
                · obtain ⟨h0, h1, -⟩ := hs
                  replace h0 : ρ (.tmp 104) = .agg #[.int .i64 x.j, .int .i64 x.a, .bool x.u] := h0
                  replace h1 : ρ (.tmp 121) = .agg #[.int .i64 x.j, .int .i64 x.a, .bool (!x.u)] := h1
                  go_simp
                  exact ⟨Ext.alloc _ _, _, rfl, Blk.new _ _ _⟩
                · obtain ⟨h0, -⟩ := hs
                  replace h0 : (Two x) (ρ (.tmp 122)) W := h0
                  go_simp
                  first | exact ⟨Ext.refl _, h0⟩ | exact Ext.refl _
              · intro fv V1 hF hs
                obtain ⟨-, -, -, -, -, -, -, -, -, -, -, -, -, -, -, -, -, -, -, -, -, -, h14, -⟩ := hs
                replace h14 : (Two x) (fv 14) V1 := h14
                simp only [fin, List.filterMap]
                go_simp
                obtain ⟨q14, hq14, hb14⟩ := h14
                rw [hq14]
                have Ky14 := Lib.hid hb14
                have hx := hF
                clear hq14 hb14
                replace X := Lib.hid (X.out.trans hx)
                replace Ky0 := Lib.hid (Ky0.out.ext hx)
                replace Ky1 := Lib.hid (Ky1.out.ext hx)
                clear hx y0_0 y0_1 y0_2 y1_0 y1_1 y1_2 y1_3
                clear hF p0 p1 p2
                have y0_0 : V1.cell? ⟨w.heap.size, 0, none⟩ = some (.int .i64 L) := Ky0.out.cell 0
                have y0_1 : V1.cell? ⟨w.heap.size, 1, none⟩ = some (.slice J n cj) := Ky0.out.cell 1
                have y0_2 : V1.cell? ⟨w.heap.size, 2, none⟩ = some (.slice K n ck) := Ky0.out.cell 2
                have y1_0 : V1.cell? ⟨w.heap.size + 1, 0, none⟩ = some (.slice P np cp) := Ky1.out.cell 0
                have y1_1 : V1.cell? ⟨w.heap.size + 1, 1, none⟩ = some (.int .i64 sp) := Ky1.out.cell 1
                have y1_2 : V1.cell? ⟨w.heap.size + 1, 2, none⟩ = some (.int .i64 ga) := Ky1.out.cell 2
                have y1_3 : V1.cell? ⟨w.heap.size + 1, 3, none⟩ = some (.int .i64 li) := Ky1.out.cell 3
                go_wp2_with (go_at_call 42; refine (HS2.out _ q14 Ky14.out X.out).mono ?_; rintro e V2 ⟨rfl, hx⟩; replace Ky14 := Lib.hid (Ky14.out.ext hx); replace X := Lib.hid (X.out.trans hx); replace Ky0 := Lib.hid (Ky0.out.ext hx); replace Ky1 := Lib.hid (Ky1.out.ext hx); clear hx y0_0 y0_1 y0_2 y1_0 y1_1 y1_2 y1_3; refine Hid.out ?_)
                refine Lib.hid ?_
                clear HS2
                by_cases hz : se2 = 0
                · have hz2 : (se2 != 0) = false := by simp [hz]
                  have HA3 := Lib.hid (HA2.out hz)
                  clear HA2 hz
                  have y0_0 : V2.cell? ⟨w.heap.size, 0, none⟩ = some (.int .i64 L) := Ky0.out.cell 0
                  have y0_1 : V2.cell? ⟨w.heap.size, 1, none⟩ = some (.slice J n cj) := Ky0.out.cell 1
                  have y0_2 : V2.cell? ⟨w.heap.size, 2, none⟩ = some (.slice K n ck) := Ky0.out.cell 2
                  have y1_0 : V2.cell? ⟨w.heap.size + 1, 0, none⟩ = some (.slice P np cp) := Ky1.out.cell 0
                  have y1_1 : V2.cell? ⟨w.heap.size + 1, 1, none⟩ = some (.int .i64 sp) := Ky1.out.cell 1
                  have y1_2 : V2.cell? ⟨w.heap.size + 1, 2, none⟩ = some (.int .i64 ga) := Ky1.out.cell 2
                  have y1_3 : V2.cell? ⟨w.heap.size + 1, 3, none⟩ = some (.int .i64 li) := Ky1.out.cell 3
                  have HAFC := Lib.hid (fun W J1 c1 K1 d1 P2 c2 (r1 : RowsAt 1 I1 W J1 js) (s1 : RowsAt 2 Rg.enc W K1 ks) (r2 : RowsAt 1 I1 W P2 am) (e : Ext V2 W) (n1 : J1 = none → c1 = 0) => show Calls Try.prog 36 #[.agg #[.int .i64 L, .slice J1 n c1, .slice K1 n d1], .agg #[.slice P2 np c2, .int .i64 sp, .int .i64 ga, .int .i64 li], .slice (some ⟨q14, 0, none⟩) 2 2] W fun e w' => ∃ v, e = .returned (.tuple #[v, .int .i64 0]) ∧ CopS L js ks n n v w' ∧ Ext W w' from HA3.out W J1 c1 K1 d1 P2 c2 (some ⟨q14, 0, none⟩) 2 r1 s1 r2 (two_rows (Ky14.out.ext e)) n1)
                  clear HA3
                  go_upto_region 19 with (fail)
                  refine wp_region_free [.op, .op, .op, .op, .op, .op, .op, .op, .late (.int .i64 (0)), .new, .store, .late (.int .i64 (0))] [10] [15, 135] [15] [some 129, some 130, some 131, some 132, some 133, some 134, some 128, some 135, some 136, some 15, none, some 16] [[3], [129], [4], [131], [14], [130, 132, 133], [134], [128], [128], [], [15, 135], [136]]
                    [Is (.agg #[.int .i64 L, .slice J n cj, .slice K n ck]), CopS L js ks n n, Is (.agg #[.slice P np cp, .int .i64 sp, .int .i64 ga, .int .i64 li]), CopP am sp ga li np, Is (.slice (some ⟨q14, 0, none⟩) 2 2), AftT L js ks n, AftT L js ks n, CopS L js ks n n, Is (.int .i64 (0)), NewP V2.heap.size 25 #[.int .i64 0, .slice none 0 0, .slice none 0 0], fun _ _ => True, Is (.int .i64 (0))]
                    (by kernel_rfl) (by kernel_rfl) (by kernel_rfl) (by kernel_rfl) (by kernel_rfl) (by kernel_rfl) (by kernel_rfl) (by kernel_rfl) (by kernel_rfl) Ext (fun W => Ext V2 W)
                    (fun W _ => Ext.refl W) (fun W W' h k => h.trans k) (fun W W' h => h.size) ?_ (Ext.drew _) ?_ ?_
                  · repeat (refine ⟨fun _ _ _ _ k h => (by first | exact h | exact (by first | exact IntsAt.ext h k | exact NewP.ext h k | exact CopS.ext h k | exact CopP.ext h k | exact CopL.ext h k | exact AftT.ext h k)), ?_⟩)
                    exact trivial
                  · refine ⟨?_, ?_, ?_, ?_, ?_, ?_, ?_, ?_, ?_, ?_, ?_, trivial⟩
                    · intro ρ W ⟨kc, kg, kf⟩ hF hs
                      obtain ⟨h0, -⟩ := hs
                      replace h0 : ρ (.tmp 3) = .pointer (some ⟨w.heap.size, 0, none⟩) := h0
                      have hc0 : W.cell? ⟨w.heap.size, 0, none⟩ = some (.int .i64 L) := hF.cell (by assumption)
                      have hc1 : W.cell? ⟨w.heap.size, 1, none⟩ = some (.slice J n cj) := hF.cell (by assumption)
                      have hc2 : W.cell? ⟨w.heap.size, 2, none⟩ = some (.slice K n ck) := hF.cell (by assumption)
                      go_simp
                      exact ⟨Ext.refl _, rfl⟩
                    · intro ρ W ⟨kc, kg, kf⟩ hF hs
                      obtain ⟨h0, -⟩ := hs
                      replace h0 : ρ (.tmp 129) = .agg #[.int .i64 L, .slice J n cj, .slice K n ck] := h0
                      go_simp
                      refine (HCP.out _ (X.out.trans hF)).mono ?_; rintro e w' ⟨v, rfl, hc, hx⟩; exact ⟨_, rfl, hx, CopS.of hc⟩
                    · intro ρ W ⟨kc, kg, kf⟩ hF hs
                      obtain ⟨h0, -⟩ := hs
                      replace h0 : ρ (.tmp 4) = .pointer (some ⟨w.heap.size + 1, 0, none⟩) := h0
                      have hc0 : W.cell? ⟨w.heap.size + 1, 0, none⟩ = some (.slice P np cp) := hF.cell (by assumption)
                      have hc1 : W.cell? ⟨w.heap.size + 1, 1, none⟩ = some (.int .i64 sp) := hF.cell (by assumption)
                      have hc2 : W.cell? ⟨w.heap.size + 1, 2, none⟩ = some (.int .i64 ga) := hF.cell (by assumption)
                      have hc3 : W.cell? ⟨w.heap.size + 1, 3, none⟩ = some (.int .i64 li) := hF.cell (by assumption)
                      go_simp
                      exact ⟨Ext.refl _, rfl⟩
                    · intro ρ W ⟨kc, kg, kf⟩ hF hs
                      obtain ⟨h0, -⟩ := hs
                      replace h0 : ρ (.tmp 131) = .agg #[.slice P np cp, .int .i64 sp, .int .i64 ga, .int .i64 li] := h0
                      go_simp
                      refine (HCQ.out _ (X.out.trans hF)).mono ?_; rintro e w' ⟨v, rfl, hc, hx⟩; exact ⟨_, rfl, hx, CopP.of hc⟩
                    · intro ρ W ⟨kc, kg, kf⟩ hF hs
                      obtain ⟨h0, -⟩ := hs
                      replace h0 : ρ (.tmp 14) = .slice (some ⟨q14, 0, none⟩) 2 2 := h0
                      go_simp
                      exact ⟨Ext.refl _, rfl⟩
                    · intro ρ W ⟨kc, kg, kf⟩ hF hs
                      obtain ⟨h0, h1, h2, -⟩ := hs
                      replace h0 : (CopS L js ks n n) (ρ (.tmp 130)) W := h0
                      replace h1 : (CopP am sp ga li np) (ρ (.tmp 132)) W := h1
                      replace h2 : ρ (.tmp 133) = .slice (some ⟨q14, 0, none⟩) 2 2 := h2
                      obtain ⟨J1, c1, K1, d1, e1, r1, s1, n1, m1⟩ := h0
                      replace e1 : ρ (.tmp 130) = .agg #[.int .i64 L, .slice J1 n c1, .slice K1 n d1] := e1
                      obtain ⟨P2, c2, e2, r2, n2⟩ := h1
                      replace e2 : ρ (.tmp 132) = .agg #[.slice P2 np c2, .int .i64 sp, .int .i64 ga, .int .i64 li] := e2
                      go_simp
                      refine (HAFC.out _ J1 c1 K1 d1 P2 c2 r1 s1 r2 hF n1).mono ?_; rintro e w' ⟨v, rfl, hv, hx⟩; exact ⟨_, rfl, hx, v, rfl, hv⟩
                    · intro ρ W ⟨kc, kg, kf⟩ hF hs
                      obtain ⟨h0, -⟩ := hs
                      replace h0 : (AftT L js ks n) (ρ (.tmp 134)) W := h0
                      go_simp
                      first | exact ⟨Ext.refl _, h0⟩ | exact Ext.refl _
                    · intro ρ W ⟨kc, kg, kf⟩ hF hs
                      obtain ⟨h0, -⟩ := hs
                      replace h0 : (AftT L js ks n) (ρ (.tmp 128)) W := h0
                      obtain ⟨v, hv, hc⟩ := h0
                      replace hv : ρ (.tmp 128) = .tuple #[v, .int .i64 0] := hv
                      go_simp
                      first | exact ⟨Ext.refl _, hc⟩ | exact Ext.refl _
                    · refine ⟨rfl, fun ρ W ⟨kc, kg, kf⟩ hF hs W' => ?_⟩
                      obtain ⟨h0, -⟩ := hs
                      replace h0 : (AftT L js ks n) (ρ (.tmp 128)) W := h0
                      obtain ⟨v, hv, hc⟩ := h0
                      replace hv : ρ (.tmp 128) = .tuple #[v, .int .i64 0] := hv
                      go_simp
                    · intro ρ W ⟨kc, kg, kf⟩ hF hs
                      exact ⟨W.alloc (.cells #[.int .i64 0, .slice none 0 0, .slice none 0 0] 25), (by go_simp), by simp, Ext.alloc _ _, _, rfl, hF.size, Blk.new _ _ _⟩
                    · refine ⟨rfl, fun ρ W ⟨kc, kg, kf⟩ hF hs W' => ?_⟩
                      obtain ⟨h0, -⟩ := hs
                      replace h0 : ρ (.tmp 136) = .int .i64 (0) := h0
                      go_simp
                  · intro fv U hF hs hap σ hσ ρ ⟨kc, kg, kf⟩ hr
                    obtain ⟨-, -, -, -, -, -, -, h135, h136, h15, h16, -⟩ := hs
                    replace h135 : (CopS L js ks n n) (fv 135) U := h135
                    replace h136 : fv 136 = .int .i64 (0) := h136
                    replace h15 : (NewP V2.heap.size 25 #[.int .i64 0, .slice none 0 0, .slice none 0 0]) (fv 15) U := h15
                    replace h16 : fv 16 = .int .i64 (0) := h16
                    obtain ⟨r0, r1, -⟩ := hr
                    replace r0 : ρ (.tmp 15) = fv 15 := r0
                    replace r1 : ρ (.tmp 135) = fv 135 := r1
                    obtain ⟨Je, ce, Ke, de, hvx, hra, hrb, hna, hnb⟩ := h135
                    rw [hvx] at r1
                    obtain ⟨q15, hq15, hqs15, hb15⟩ := h15
                    rw [hq15] at r0
                    have f15_0 := hb15.free 0
                    have c15_0 : U.cell? ⟨q15, 0, none⟩ = some (.int .i64 0) := hb15.cell 0
                    have f15_1 := hb15.free 1
                    have c15_1 : U.cell? ⟨q15, 1, none⟩ = some (.slice none 0 0) := hb15.cell 1
                    have f15_2 := hb15.free 2
                    have c15_2 : U.cell? ⟨q15, 2, none⟩ = some (.slice none 0 0) := hb15.cell 2
                    refine stores_one _ rfl hσ (((U.setCell ⟨q15, 0, none⟩ (.int .i64 L)).setCell ⟨q15, 1, none⟩ (.slice Je n ce)).setCell ⟨q15, 2, none⟩ (.slice Ke n de)) (by go_simp) ?_
                    obtain ⟨V3, hV3⟩ : ∃ Vx, Vx = ((U.setCell ⟨q15, 0, none⟩ (.int .i64 L)).setCell ⟨q15, 1, none⟩ (.slice Je n ce)).setCell ⟨q15, 2, none⟩ (.slice Ke n de) := ⟨_, rfl⟩
                    rw [← hV3]
                    have K15 := Lib.hid (show Blk V3 q15 25 #[.int .i64 L, .slice Je n ce, .slice Ke n de] by rw [hV3]; exact ((hb15.setSame 0 _).setSame 1 _).setSame 2 _)
                    have XN := Lib.hid (show Ext V2 V3 by rw [hV3]; exact Ext.set (Ext.set (Ext.set hF (by dsimp only; exact hqs15) _) (by dsimp only; exact hqs15) _) (by dsimp only; exact hqs15) _)
                    have L15 := Lib.hid hqs15
                    have RJe := Lib.hid (show RowsAt 1 I1 V3 Je js by rw [hV3]; exact keepJ hra hb15 HJ1.out _ _ _)
                    have RKe := Lib.hid (show RowsAt 2 Rg.enc V3 Ke ks by rw [hV3]; exact keepK hrb hb15 _ _ _)
                    clear hra hrb hna hnb hvx
                    clear f15_0 c15_0 f15_1 c15_1 f15_2 c15_2
                    clear hV3 hF hap hσ r0 r1 kc kg kf hb15 hqs15
                    simp only [fin, List.filterMap]
                    go_simp
                    try rw [hq15]
                    clear hq15
                    clear ρ σ h136 h16
                    have hx := XN.out
                    replace X := Lib.hid (X.out.trans hx)
                    replace Ky0 := Lib.hid (Ky0.out.ext hx)
                    replace Ky1 := Lib.hid (Ky1.out.ext hx)
                    clear hx y0_0 y0_1 y0_2 y1_0 y1_1 y1_2 y1_3
                    have Ky15 := K15
                    clear K15 XN L15 HAFC Ky14
                    have y0_0 : V3.cell? ⟨w.heap.size, 0, none⟩ = some (.int .i64 L) := Ky0.out.cell 0
                    have y0_1 : V3.cell? ⟨w.heap.size, 1, none⟩ = some (.slice J n cj) := Ky0.out.cell 1
                    have y0_2 : V3.cell? ⟨w.heap.size, 2, none⟩ = some (.slice K n ck) := Ky0.out.cell 2
                    have y1_0 : V3.cell? ⟨w.heap.size + 1, 0, none⟩ = some (.slice P np cp) := Ky1.out.cell 0
                    have y1_1 : V3.cell? ⟨w.heap.size + 1, 1, none⟩ = some (.int .i64 sp) := Ky1.out.cell 1
                    have y1_2 : V3.cell? ⟨w.heap.size + 1, 2, none⟩ = some (.int .i64 ga) := Ky1.out.cell 2
                    have y1_3 : V3.cell? ⟨w.heap.size + 1, 3, none⟩ = some (.int .i64 li) := Ky1.out.cell 3
                    have y15_0 : V3.cell? ⟨q15, 0, none⟩ = some (.int .i64 L) := Ky15.out.cell 0
                    have y15_1 : V3.cell? ⟨q15, 1, none⟩ = some (.slice Je n ce) := Ky15.out.cell 1
                    have y15_2 : V3.cell? ⟨q15, 2, none⟩ = some (.slice Ke n de) := Ky15.out.cell 2
                    have HSM := Lib.hid (show ∀ W, Ext V3 W → Calls Try.prog 31 #[.agg #[.int .i64 L, .slice Je n ce, .slice Ke n de], .agg #[.int .i64 L, .slice J n cj, .slice K n ck]] W fun e w' => e = .returned (.bool true) ∧ Ext W w' from fun W e => (same_any HN2.out (RJe.out.ext e) HM2.out (RKe.out.ext e) HN2.out (HJ.out.ext (X.out.trans e)) HM2.out (HK.out.ext (X.out.trans e))).mono (by rintro e w' ⟨b, rfl, hb, hx⟩; exact ⟨by rw [hb.2 ⟨rfl, rfl, rfl⟩], hx⟩))
                    go_wp2_with (go_at_call 31; refine (HSM.out _ (Ext.refl _)).mono ?_; rintro e V4 ⟨rfl, hx⟩; replace X := Lib.hid (X.out.trans hx); replace Ky0 := Lib.hid (Ky0.out.ext hx); replace Ky1 := Lib.hid (Ky1.out.ext hx); replace Ky15 := Lib.hid (Ky15.out.ext hx); clear hx y0_0 y0_1 y0_2 y1_0 y1_1 y1_2 y1_3 y15_0 y15_1 y15_2; refine Hid.out ?_)
                    refine Lib.hid ?_
                    have y0_0 : V4.cell? ⟨w.heap.size, 0, none⟩ = some (.int .i64 L) := Ky0.out.cell 0
                    have y0_1 : V4.cell? ⟨w.heap.size, 1, none⟩ = some (.slice J n cj) := Ky0.out.cell 1
                    have y0_2 : V4.cell? ⟨w.heap.size, 2, none⟩ = some (.slice K n ck) := Ky0.out.cell 2
                    have y1_0 : V4.cell? ⟨w.heap.size + 1, 0, none⟩ = some (.slice P np cp) := Ky1.out.cell 0
                    have y1_1 : V4.cell? ⟨w.heap.size + 1, 1, none⟩ = some (.int .i64 sp) := Ky1.out.cell 1
                    have y1_2 : V4.cell? ⟨w.heap.size + 1, 2, none⟩ = some (.int .i64 ga) := Ky1.out.cell 2
                    have y1_3 : V4.cell? ⟨w.heap.size + 1, 3, none⟩ = some (.int .i64 li) := Ky1.out.cell 3
                    have y15_0 : V4.cell? ⟨q15, 0, none⟩ = some (.int .i64 L) := Ky15.out.cell 0
                    have y15_1 : V4.cell? ⟨q15, 1, none⟩ = some (.slice Je n ce) := Ky15.out.cell 1
                    have y15_2 : V4.cell? ⟨q15, 2, none⟩ = some (.slice Ke n de) := Ky15.out.cell 2
                    go_wp2
                    go_roundw
                    case rel => exact ⟨k + 1, by omega, by go_num, X.out, Ky0.out, Ky1.out⟩
                    case measure => simp [intOf]; omega
                · have hz2 : (se2 != 0) = true := by simp [hz]
                  clear HA2 hz
                  go_wp2
                  go_roundw
                  case rel => exact ⟨k + 1, by omega, by go_num, X.out, Ky0.out, Ky1.out⟩
                  case measure => simp [intOf]; omega
            · obtain rfl : k = N := by omega
              have hkn : ¬ (k : Int) < (k : Int) := by omega
              go_wp2
              go_ret
              exact ⟨rfl, X.out⟩
    · have hj2 : ((j + 1 : Nat) : Int) - 1 = (j : Int) := by omega
      rw [hj2]
      have hjN : j < N := by omega
      have hxk := getD_some (xs := l) (i := j) (by have := HN.out; omega)
      have HRN := Lib.hid (rev_next (l := l) (j := j) (by have := HN.out; omega))
      generalize hq : N - (j + 1) = q at *
      have HQQ := Lib.hid (show N - j = q + 1 by omega)
      have hqb : q ≤ 4 := by omega
      generalize l.getD j default = x at *
      obtain ⟨b, o, rfl, hb, hc⟩ := row_at (HA.out.ext (X.out.trans hx)) hxk
      have p0 : wr.cell? ⟨b, o + j * 3, none⟩ = some (.int .i64 x.j) := hc 0 _ rfl
      have p1 : wr.cell? ⟨b, o + j * 3 + 1, none⟩ = some (.int .i64 x.a) := hc 1 _ rfl
      have p2 : wr.cell? ⟨b, o + j * 3 + 2, none⟩ = some (.bool x.u) := hc 2 _ rfl
      have hji : (j : Int) < (N : Int) := by omega
      have hj0 : (0 : Int) ≤ (j : Int) := by omega
      clear hc hb hxk hq hj2 hj hjN
      obtain ⟨q9, hq9⟩ : ∃ q, q = wr.heap.size := ⟨_, rfl⟩
      obtain ⟨W3, hW3⟩ : ∃ W, W = wr.alloc (.cells #[.int .i64 x.j, .int .i64 x.a, .bool x.u] 68) := ⟨_, rfl⟩
      have K9 := Lib.hid (show Blk W3 q9 68 #[.int .i64 x.j, .int .i64 x.a, .bool x.u] by rw [hW3, hq9]; exact Blk.new _ _ _)
      have E3 := Lib.hid (show Ext wr W3 by rw [hW3]; exact Ext.alloc _ _)
      clear hx
      go_wp2_with
        (rw [← hW3, ← hq9]
         refine append_Sk (own_ext O.out E3.out) (by omega) (by have := SZR.out; have := E3.out.size; omega) K9.out rfl (.tmp 52) (.tmp 57) rfl rfl rfl rfl ?_
         intro R' c' w2 hown' hkb hxe hgs
         have O2 := Lib.hid hown'
         have X3 := Lib.hid (hxe W5 (XR.out.trans E3.out) (Nat.le_refl _))
         clear hown' hkb hxe hgs)
      go_roundw
      case rel => exact ⟨j, c', R', by omega, by go_num, by rw [HQQ.out], by rw [HQQ.out, HRN.out]; exact O2.out, X3.out⟩
      case measure => (simp [intOf])

end Go.Proofs.Ytjdilmmpdlcimaa
