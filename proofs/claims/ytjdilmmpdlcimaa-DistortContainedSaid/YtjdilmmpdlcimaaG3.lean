/- After and BentBy. -/
import Derived.Test.YtjdilmmpdlcimaaG0
import Derived.Lib.MinMax
import Derived.Deep.DeepCutAuto
import Derived.BigQuiet

namespace Go.Proofs.Ytjdilmmpdlcimaa
open Go.RowKit Go.Shelf Go.Mem Go.RegInv
attribute [local go_sem] RelUpon_value RelUpon_skip RelUpon_enter BigFrame.eval_const BigFrame.eval_global BigFrame.eval_func


def aftT (L : Int) (js : List Int) (ks : List Rg) (am : List Int) (sp ga li : Int) (l : List Sk) : Int := if (checkS L js ks).2 ≠ 0 then (checkS L js ks).2 else if (checkP am sp ga li).2 ≠ 0 then (checkP am sp ga li).2 else if strokesE js.length am li l ≠ 0 then strokesE js.length am li l else aftE ga sp l ks js.length
def AftV (L : Int) (js : List Int) (ks : List Rg) (n : Nat) (z : Int) (v : Value) (W : World) : Prop := if z = 0 then CopS L js ks n n v W else v = .agg #[.int .i64 0, .slice none 0 0, .slice none 0 0]
set_option maxRecDepth 100000 in
set_option maxHeartbeats 1000000 in
theorem after36_any {L : Int} {J K : Option Addr} {n m cj ck : Nat} {js : List Int} {ks : List Rg} {w : World} (hn : js.length = n) (hJ : RowsAt 1 I1 w J js) (hm : ks.length = m) (hK : RowsAt 2 Rg.enc w K ks) {P : Option Addr} {np cp : Nat} {am : List Int} {sp ga li : Int} (hnp : am.length = np) (hP : RowsAt 1 I1 w P am) {A : Option Addr} {N ca : Nat} {l : List Sk} (hN : l.length = N) (hA : RowsAt 3 Sk.enc w A l) (hjn : J = none → cj = 0) :
    Calls Try.prog 36 #[.agg #[.int .i64 L, .slice J n cj, .slice K m ck], .agg #[.slice P np cp, .int .i64 sp, .int .i64 ga, .int .i64 li], .slice A N ca] w fun e w' => ∃ v, e = .returned (.tuple #[v, .int .i64 (aftT L js ks am sp ga li l)]) ∧ AftV L js (aftK ga sp l ks n) n (aftT L js ks am sp ga li l) v w' ∧ Ext w w' := by
  have HSE := Lib.hid (fun W (e : Ext w W) => shaftError_any (cj := cj) (ck := ck) (L := L) hn (hJ.ext e) hm (hK.ext e))
  have HPE := Lib.hid (fun W (e : Ext w W) => pressError_any (cp := cp) (sp := sp) (ga := ga) (li := li) hnp (hP.ext e))
  have HST := Lib.hid (fun (h1 : (checkS L js ks).2 = 0) (h2 : (checkP am sp ga li).2 = 0) W (e : Ext w W) => show Calls Try.prog 90 #[.agg #[.int .i64 L, .slice J n cj, .slice K m ck], .agg #[.slice P np cp, .int .i64 sp, .int .i64 ga, .int .i64 li], .slice A N ca] W fun e w' => e = .returned (.int .i64 (strokesE n am li l)) ∧ Ext W w' from strokesError_any (cp := cp) (sp := sp) (ga := ga) (li := li) (ca := ca) hnp (hP.ext e) (by have := (checkS_ok h1).four; omega) (checkP_ok h2).am1 hN (hA.ext e))
  have HAF := Lib.hid (fun (h1 : (checkS L js ks).2 = 0) (h2 : (checkP am sp ga li).2 = 0) (h3 : strokesE n am li l = 0) W (e : Ext w W) => show Calls Try.prog 91 #[.agg #[.int .i64 L, .slice J n cj, .slice K m ck], .agg #[.slice P np cp, .int .i64 sp, .int .i64 ga, .int .i64 li], .slice A N ca] W fun e w' => n = m ∧ ∃ v, e = .returned (.tuple #[v, .int .i64 (aftE ga sp l ks n)]) ∧ AftC W.heap.size L js (aftK ga sp l ks n) n (aftE ga sp l ks n) v w' ∧ Ext W w' from by
    have hs := checkS_ok h1
    obtain rfl : n = m := by have := hs.same; omega
    refine (after_any (P := P) (np := np) (ck := ck) (cp := cp) (ca := ca) (li := li) hn (hJ.ext e) hm (hK.ext e) hjn hs (checkP_ok h2) hN (hA.ext e) (strokesE_ok h3)).mono ?_
    rintro e w' ⟨v, h4, h5, h6⟩
    exact ⟨rfl, v, h4, h5, h6⟩)
  have HV0 := Lib.hid (show aftT L js ks am sp ga li l = if firstE [(checkS L js ks).2, (checkP am sp ga li).2] ≠ 0 then firstE [(checkS L js ks).2, (checkP am sp ga li).2] else if strokesE n am li l ≠ 0 then strokesE n am li l else aftE ga sp l ks n by
    rw [firstE_two, ← hn]
    unfold aftT
    clear hn hJ hm hK hnp hP hN hA hjn HSE HPE HST HAF
    generalize (checkS L js ks).2 = a
    generalize (checkP am sp ga li).2 = b
    generalize strokesE js.length am li l = c
    generalize aftE ga sp l ks js.length = e
    by_cases h1 : a = 0 <;> by_cases h2 : b = 0 <;> by_cases h3 : c = 0 <;> simp [h1, h2, h3])
  have HZ1 := Lib.hid (fun (h : firstE [(checkS L js ks).2, (checkP am sp ga li).2] = 0) => (⟨firstE_zero h _ (by simp), firstE_zero h _ (by simp)⟩ : (checkS L js ks).2 = 0 ∧ (checkP am sp ga li).2 = 0))
  generalize aftT L js ks am sp ga li l = cv at *
  generalize aftK ga sp l ks n = ak at *
  generalize aftE ga sp l ks n = ae at *
  clear hn hJ hm hK hnp hP hN hA hjn
  generalize (checkS L js ks).2 = z1 at *
  generalize (checkP am sp ga li).2 = z2 at *
  generalize strokesE n am li l = z3 at *
  generalize hf1 : firstE [z1, z2] = f1 at *
  have F1 := Lib.hid hf1
  clear hf1
  obtain ⟨W0, hW0⟩ : ∃ W0, W0 = ((w.alloc (.cells #[.int .i64 L, .slice J n cj, .slice K m ck] 25)).alloc (.cells #[.slice P np cp, .int .i64 sp, .int .i64 ga, .int .i64 li] 58)).alloc (.cells #[.int .i64 0, .slice none 0 0, .slice none 0 0] 25) := ⟨_, rfl⟩
  have K0 := Lib.hid (show Blk W0 (w.heap.size) 25 #[.int .i64 L, .slice J n cj, .slice K m ck] by rw [hW0]; exact ((Blk.new _ _ _).alloc _).alloc _)
  have K1 := Lib.hid (show Blk W0 (w.heap.size + 1) 58 #[.slice P np cp, .int .i64 sp, .int .i64 ga, .int .i64 li] by rw [hW0]; exact (Blk.newAt _ _ _ (by simp)).alloc _)
  have K2 := Lib.hid (show Blk W0 (w.heap.size + 1 + 1) 25 #[.int .i64 0, .slice none 0 0, .slice none 0 0] by rw [hW0]; exact Blk.newAt _ _ _ (by simp))
  have E0 := Lib.hid (show Ext w W0 by rw [hW0]; exact ((Ext.alloc _ _).trans (Ext.alloc _ _)).trans (Ext.alloc _ _))
  have y0_0 : W0.cell? ⟨w.heap.size, 0, none⟩ = some (.int .i64 L) := K0.out.cell 0
  have y0_1 : W0.cell? ⟨w.heap.size, 1, none⟩ = some (.slice J n cj) := K0.out.cell 1
  have y0_2 : W0.cell? ⟨w.heap.size, 2, none⟩ = some (.slice K m ck) := K0.out.cell 2
  have y1_0 : W0.cell? ⟨w.heap.size + 1, 0, none⟩ = some (.slice P np cp) := K1.out.cell 0
  have y1_1 : W0.cell? ⟨w.heap.size + 1, 1, none⟩ = some (.int .i64 sp) := K1.out.cell 1
  have y1_2 : W0.cell? ⟨w.heap.size + 1, 2, none⟩ = some (.int .i64 ga) := K1.out.cell 2
  have y1_3 : W0.cell? ⟨w.heap.size + 1, 3, none⟩ = some (.int .i64 li) := K1.out.cell 3
  have y2_0 : W0.cell? ⟨w.heap.size + 1 + 1, 0, none⟩ = some (.int .i64 0) := K2.out.cell 0
  have y2_1 : W0.cell? ⟨w.heap.size + 1 + 1, 1, none⟩ = some (.slice none 0 0) := K2.out.cell 1
  have y2_2 : W0.cell? ⟨w.heap.size + 1 + 1, 2, none⟩ = some (.slice none 0 0) := K2.out.cell 2
  go_enter Try.func36, Try.ntmps36
  go_upto_region 1 with (fail)
  rw [← hW0]
  clear hW0
  refine wp_region_each [some 12, some 13, some 14, some 15, some 16, some 17, some 8] [[3], [12], [4], [14], [13, 15], [16], [17]]
    [Is (.agg #[.int .i64 (L), .slice J n cj, .slice K m ck]), Is (.int .i64 (z1)), Is (.agg #[.slice P np cp, .int .i64 (sp), .int .i64 (ga), .int .i64 (li)]), Is (.int .i64 (z2)), Ints [z1, z2], Is (.int .i64 (firstE [z1, z2])), Is (.int .i64 (firstE [z1, z2]))]
    (by kernel_rfl) (by kernel_rfl) (by kernel_rfl) (by kernel_rfl) (by kernel_rfl) Ext (fun W => Ext W0 W)
    (fun W _ => Ext.refl W) (fun W W' h k => h.trans k) ?_ (Ext.drew _) ?_ ?_
  · repeat (refine ⟨fun _ _ _ _ k h => (by first | exact h | exact (IntsAt.ext h k)), ?_⟩)
    exact trivial
  · refine ⟨?_, ?_, ?_, ?_, ?_, ?_, ?_, trivial⟩
    all_goals intro ρ W ⟨kc, kg, kf⟩ hF hs
    · obtain ⟨h0, -⟩ := hs
      replace h0 : ρ (.tmp 3) = .pointer (some ⟨w.heap.size, 0, none⟩) := h0
      have hc0 : W.cell? ⟨w.heap.size, 0, none⟩ = some (.int .i64 (L)) := hF.cell (by assumption)
      have hc1 : W.cell? ⟨w.heap.size, 1, none⟩ = some (.slice J n cj) := hF.cell (by assumption)
      have hc2 : W.cell? ⟨w.heap.size, 2, none⟩ = some (.slice K m ck) := hF.cell (by assumption)
      go_simp
      exact ⟨Ext.refl _, rfl⟩
    · obtain ⟨h0, -⟩ := hs
      replace h0 : ρ (.tmp 12) = .agg #[.int .i64 (L), .slice J n cj, .slice K m ck] := h0
      go_simp
      refine (HSE.out _ (E0.out.trans hF)).mono ?_; rintro e w' ⟨rfl, hx⟩; exact ⟨_, rfl, hx, rfl⟩
    · obtain ⟨h0, -⟩ := hs
      replace h0 : ρ (.tmp 4) = .pointer (some ⟨w.heap.size + 1, 0, none⟩) := h0
      have hc0 : W.cell? ⟨w.heap.size + 1, 0, none⟩ = some (.slice P np cp) := hF.cell (by assumption)
      have hc1 : W.cell? ⟨w.heap.size + 1, 1, none⟩ = some (.int .i64 (sp)) := hF.cell (by assumption)
      have hc2 : W.cell? ⟨w.heap.size + 1, 2, none⟩ = some (.int .i64 (ga)) := hF.cell (by assumption)
      have hc3 : W.cell? ⟨w.heap.size + 1, 3, none⟩ = some (.int .i64 (li)) := hF.cell (by assumption)
      go_simp
      exact ⟨Ext.refl _, rfl⟩
    · obtain ⟨h0, -⟩ := hs
      replace h0 : ρ (.tmp 14) = .agg #[.slice P np cp, .int .i64 (sp), .int .i64 (ga), .int .i64 (li)] := h0
      go_simp
      refine (HPE.out _ (E0.out.trans hF)).mono ?_; rintro e w' ⟨rfl, hx⟩; exact ⟨_, rfl, hx, rfl⟩
    · obtain ⟨h0, h1, -⟩ := hs
      replace h0 : ρ (.tmp 13) = .int .i64 (z1) := h0
      replace h1 : ρ (.tmp 15) = .int .i64 (z2) := h1
      go_simp
      exact ⟨Ext.alloc _ _, ints_new _ [z1, z2] _ (by simp)⟩
    · obtain ⟨h0, -⟩ := hs
      replace h0 : (Ints [z1, z2]) (ρ (.tmp 16)) W := h0
      go_simp
      refine (firstOf_any _ _ _ h0).mono ?_; rintro e w' ⟨rfl, rfl⟩; exact ⟨_, rfl, Ext.refl _, rfl⟩
    · obtain ⟨h0, -⟩ := hs
      replace h0 : ρ (.tmp 17) = .int .i64 (firstE [z1, z2]) := h0
      go_simp
      exact ⟨Ext.refl _, rfl⟩
  · intro fv W1 hF hs
    obtain ⟨-, -, -, -, -, -, h8, -⟩ := hs
    replace h8 : fv 8 = .int .i64 (firstE [z1, z2]) := h8
    simp only [fin, List.filterMap]
    go_simp
    rw [F1.out]
    have X := Lib.hid (E0.out.trans hF)
    replace K0 := Lib.hid (K0.out.ext hF)
    replace K1 := Lib.hid (K1.out.ext hF)
    replace K2 := Lib.hid (K2.out.ext hF)
    clear hF y0_0 y0_1 y0_2 y1_0 y1_1 y1_2 y1_3 y2_0 y2_1 y2_2 E0 HSE HPE
    obtain ⟨W2, hW2⟩ : ∃ W, W = W1 := ⟨_, rfl⟩
    rw [← hW2] at X K0 K1 K2 ⊢
    clear hW2
    by_cases hz : f1 = 0
    · have hz2 : (f1 != 0) = false := by simp [hz]
      obtain ⟨a1, a2⟩ := HZ1.out hz
      replace HST := Lib.hid (fun W (e : Ext w W) => HST.out a1 a2 W e)
      replace HAF := Lib.hid (fun h3 W (e : Ext w W) => HAF.out a1 a2 h3 W e)
      have HV1 := Lib.hid (HV0.out.trans (by rw [if_neg (by simpa using hz)]))
      clear a1 a2 hz HZ1 F1 HV0
      have y0_0 : W2.cell? ⟨w.heap.size, 0, none⟩ = some (.int .i64 L) := K0.out.cell 0
      have y0_1 : W2.cell? ⟨w.heap.size, 1, none⟩ = some (.slice J n cj) := K0.out.cell 1
      have y0_2 : W2.cell? ⟨w.heap.size, 2, none⟩ = some (.slice K m ck) := K0.out.cell 2
      have y1_0 : W2.cell? ⟨w.heap.size + 1, 0, none⟩ = some (.slice P np cp) := K1.out.cell 0
      have y1_1 : W2.cell? ⟨w.heap.size + 1, 1, none⟩ = some (.int .i64 sp) := K1.out.cell 1
      have y1_2 : W2.cell? ⟨w.heap.size + 1, 2, none⟩ = some (.int .i64 ga) := K1.out.cell 2
      have y1_3 : W2.cell? ⟨w.heap.size + 1, 3, none⟩ = some (.int .i64 li) := K1.out.cell 3
      go_wp2_with (go_at_call 90; refine (HST.out _ X.out).mono ?_; rintro e W3 ⟨rfl, hx⟩; replace X := Lib.hid (X.out.trans hx); replace K0 := Lib.hid (K0.out.ext hx); replace K1 := Lib.hid (K1.out.ext hx); replace K2 := Lib.hid (K2.out.ext hx); clear hx y0_0 y0_1 y0_2 y1_0 y1_1 y1_2 y1_3; refine Hid.out ?_)
      refine Lib.hid ?_
      clear HST
      by_cases hz : z3 = 0
      · have hz3 : (z3 != 0) = false := by simp [hz]
        replace HAF := Lib.hid (fun W (e : Ext w W) => HAF.out hz W e)
        have LQ := Lib.hid K2.out.lt
        have HV := Lib.hid (HV1.out.trans (by rw [if_neg (by simpa using hz)]) : cv = ae)
        clear HV1 hz
        have y0_0 : W3.cell? ⟨w.heap.size, 0, none⟩ = some (.int .i64 L) := K0.out.cell 0
        have y0_1 : W3.cell? ⟨w.heap.size, 1, none⟩ = some (.slice J n cj) := K0.out.cell 1
        have y0_2 : W3.cell? ⟨w.heap.size, 2, none⟩ = some (.slice K m ck) := K0.out.cell 2
        have y1_0 : W3.cell? ⟨w.heap.size + 1, 0, none⟩ = some (.slice P np cp) := K1.out.cell 0
        have y1_1 : W3.cell? ⟨w.heap.size + 1, 1, none⟩ = some (.int .i64 sp) := K1.out.cell 1
        have y1_2 : W3.cell? ⟨w.heap.size + 1, 2, none⟩ = some (.int .i64 ga) := K1.out.cell 2
        have y1_3 : W3.cell? ⟨w.heap.size + 1, 3, none⟩ = some (.int .i64 li) := K1.out.cell 3
        go_wp2_with (go_at_call 91; refine (HAF.out _ X.out).mono ?_; rintro e W4 ⟨rfl, v, rfl, hc, hx⟩; have HC := Lib.hid hc; replace X := Lib.hid (X.out.trans hx); replace K2 := Lib.hid (K2.out.ext hx); clear hx hc y0_0 y0_1 y0_2 y1_0 y1_1 y1_2 y1_3; refine Hid.out ?_)
        refine Lib.hid ?_
        clear K0 K1 HAF
        by_cases ha : ae = 0
        · have hc := HC.out
          rw [AftC, if_pos ha] at hc
          obtain ⟨J', cj', K', ck', rfl, hr1, hr2, hn1, hn2, hb1, hb2⟩ := hc
          have NB1 := Lib.hid (fun b o (hb : J' = some ⟨b, o, none⟩) => show b ≠ w.heap.size + 1 + 1 by have := hb1 b o hb; have := LQ.out; omega)
          have NB2 := Lib.hid (fun b o (hb : K' = some ⟨b, o, none⟩) => show b ≠ w.heap.size + 1 + 1 by have := hb2 b o hb; have := LQ.out; omega)
          have R1 := Lib.hid hr1
          have R2 := Lib.hid hr2
          have N1 := Lib.hid hn1
          have N2 := Lib.hid hn2
          have HV2 := Lib.hid (show cv = 0 by rw [HV.out, ha])
          clear hr1 hr2 hn1 hn2 hb1 hb2 HC ha
          obtain ⟨q9, hq9⟩ : ∃ q9, q9 = W4.heap.size := ⟨_, rfl⟩
          obtain ⟨W5, hW5⟩ : ∃ W, W = W4.alloc (.cells #[.int .i64 L, .slice J' n cj', .slice K' n ck'] 130) := ⟨_, rfl⟩
          have hx4 : Ext W4 W5 := by rw [hW5]; exact Ext.alloc _ _
          have K9 := Lib.hid (show Blk W5 q9 130 #[.int .i64 L, .slice J' n cj', .slice K' n ck'] by rw [hW5, hq9]; exact Blk.new _ _ _)
          replace X := Lib.hid (X.out.trans hx4)
          replace K2 := Lib.hid (K2.out.ext hx4)
          replace R1 := Lib.hid (R1.out.ext hx4)
          replace R2 := Lib.hid (R2.out.ext hx4)
          go_upto_region 8 with (fail)
          rw [← hW5, ← hq9]
          clear hW5 hq9 hx4
          have l0 : W5.cell? ⟨q9, 0, none⟩ = some (.int .i64 L) := K9.out.cell 0
          have l1 : W5.cell? ⟨q9, 1, none⟩ = some (.slice J' n cj') := K9.out.cell 1
          have l2 : W5.cell? ⟨q9, 2, none⟩ = some (.slice K' n ck') := K9.out.cell 2
          have fr0 := K2.out.free 0
          have fr1 := K2.out.free 1
          have fr2 := K2.out.free 2
          have u0 : W5.cell? ⟨w.heap.size + 1 + 1, 0, none⟩ = some (.int .i64 0) := K2.out.cell 0
          have u1 : W5.cell? ⟨w.heap.size + 1 + 1, 1, none⟩ = some (.slice none 0 0) := K2.out.cell 1
          have u2 : W5.cell? ⟨w.heap.size + 1 + 1, 2, none⟩ = some (.slice none 0 0) := K2.out.cell 2
          go_wp2
          exact bodyPost_ret (v := .tuple #[.agg #[.int .i64 L, .slice J' n cj', .slice K' n ck'], .int .i64 ae]) (by simp [results, Try.f36, go_sem, u0, u1, u2]) rfl ⟨_, by rw [HV.out], by rw [AftV, if_pos HV2.out]; exact ⟨J', cj', K', ck', rfl, rows_setOther (rows_setOther (rows_setOther R1.out NB1.out _) NB1.out _) NB1.out _, rows_setOther (rows_setOther (rows_setOther R2.out NB2.out _) NB2.out _) NB2.out _, N1.out, N2.out⟩, Ext.set (Ext.set (Ext.set X.out (by dsimp only; omega) _) (by dsimp only; omega) _) (by dsimp only; omega) _⟩
        · have hc := HC.out
          rw [AftC, if_neg ha] at hc
          obtain rfl := hc
          have HNZ := Lib.hid (show ¬ cv = 0 by rw [HV.out]; exact ha)
          clear HC ha
          obtain ⟨q9, hq9⟩ : ∃ q9, q9 = W4.heap.size := ⟨_, rfl⟩
          obtain ⟨W5, hW5⟩ : ∃ W, W = W4.alloc (.cells #[.int .i64 0, .slice none 0 0, .slice none 0 0] 130) := ⟨_, rfl⟩
          have hx4 : Ext W4 W5 := by rw [hW5]; exact Ext.alloc _ _
          have K9 := Lib.hid (show Blk W5 q9 130 #[.int .i64 0, .slice none 0 0, .slice none 0 0] by rw [hW5, hq9]; exact Blk.new _ _ _)
          replace X := Lib.hid (X.out.trans hx4)
          replace K2 := Lib.hid (K2.out.ext hx4)
          go_upto_region 8 with (fail)
          rw [← hW5, ← hq9]
          clear hW5 hq9 hx4
          have l0 : W5.cell? ⟨q9, 0, none⟩ = some (.int .i64 0) := K9.out.cell 0
          have l1 : W5.cell? ⟨q9, 1, none⟩ = some (.slice none 0 0) := K9.out.cell 1
          have l2 : W5.cell? ⟨q9, 2, none⟩ = some (.slice none 0 0) := K9.out.cell 2
          have fr0 := K2.out.free 0
          have fr1 := K2.out.free 1
          have fr2 := K2.out.free 2
          have u0 : W5.cell? ⟨w.heap.size + 1 + 1, 0, none⟩ = some (.int .i64 0) := K2.out.cell 0
          have u1 : W5.cell? ⟨w.heap.size + 1 + 1, 1, none⟩ = some (.slice none 0 0) := K2.out.cell 1
          have u2 : W5.cell? ⟨w.heap.size + 1 + 1, 2, none⟩ = some (.slice none 0 0) := K2.out.cell 2
          go_wp2
          exact bodyPost_ret (v := .tuple #[.agg #[.int .i64 0, .slice none 0 0, .slice none 0 0], .int .i64 ae]) (by simp [results, Try.f36, go_sem, u0, u1, u2]) rfl ⟨_, by rw [HV.out], by rw [AftV, if_neg HNZ.out], Ext.set (Ext.set (Ext.set X.out (by dsimp only; omega) _) (by dsimp only; omega) _) (by dsimp only; omega) _⟩
      · have hz3 : (z3 != 0) = true := by simp [hz]
        have HV := Lib.hid (HV1.out.trans (by rw [if_pos hz]) : cv = z3)
        have HNZ := Lib.hid (show ¬ cv = 0 by rw [HV.out]; exact hz)
        clear HV1 hz HAF
        have fr0 := K2.out.free 0
        have fr1 := K2.out.free 1
        have fr2 := K2.out.free 2
        have u0 : W3.cell? ⟨w.heap.size + 1 + 1, 0, none⟩ = some (.int .i64 0) := K2.out.cell 0
        have u1 : W3.cell? ⟨w.heap.size + 1 + 1, 1, none⟩ = some (.slice none 0 0) := K2.out.cell 1
        have u2 : W3.cell? ⟨w.heap.size + 1 + 1, 2, none⟩ = some (.slice none 0 0) := K2.out.cell 2
        go_wp2
        exact bodyPost_ret (v := .tuple #[.agg #[.int .i64 0, .slice none 0 0, .slice none 0 0], .int .i64 z3]) (by simp [results, Try.f36, go_sem, u0, u1, u2]) rfl ⟨_, by rw [HV.out], by rw [AftV, if_neg HNZ.out], Ext.set (Ext.set (Ext.set X.out (by dsimp only; omega) _) (by dsimp only; omega) _) (by dsimp only; omega) _⟩
    · have hz2 : (f1 != 0) = true := by simp [hz]
      have HV := Lib.hid (HV0.out.trans (by rw [if_pos hz]) : cv = f1)
      have HNZ := Lib.hid (show ¬ cv = 0 by rw [HV.out]; exact hz)
      clear HV0 hz HZ1 HST HAF
      have fr0 := K2.out.free 0
      have fr1 := K2.out.free 1
      have fr2 := K2.out.free 2
      have u0 : W2.cell? ⟨w.heap.size + 1 + 1, 0, none⟩ = some (.int .i64 0) := K2.out.cell 0
      have u1 : W2.cell? ⟨w.heap.size + 1 + 1, 1, none⟩ = some (.slice none 0 0) := K2.out.cell 1
      have u2 : W2.cell? ⟨w.heap.size + 1 + 1, 2, none⟩ = some (.slice none 0 0) := K2.out.cell 2
      go_wp2
      exact bodyPost_ret (v := .tuple #[.agg #[.int .i64 0, .slice none 0 0, .slice none 0 0], .int .i64 f1]) (by simp [results, Try.f36, go_sem, u0, u1, u2]) rfl ⟨_, by rw [HV.out], by rw [AftV, if_neg HNZ.out], Ext.set (Ext.set (Ext.set X.out (by dsimp only; omega) _) (by dsimp only; omega) _) (by dsimp only; omega) _⟩

def bbE (am : List Int) (sp ga li : Int) (x : Sk) : Int := if (checkP am sp ga li).2 ≠ 0 then (checkP am sp ga li).2 else errIf (!hasB am x.a) 6
set_option maxRecDepth 100000 in
set_option maxHeartbeats 1000000 in
theorem bentBy39_any {P : Option Addr} {np cp : Nat} {am : List Int} {sp ga li : Int} {w : World} (hnp : am.length = np) (hP : RowsAt 1 I1 w P am) {x : Sk} :
    Calls Try.prog 39 #[.agg #[.slice P np cp, .int .i64 sp, .int .i64 ga, .int .i64 li], .agg #[.int .i64 x.j, .int .i64 x.a, .bool x.u]] w fun e w' => e = .returned (.tuple #[.int .i64 (if bbE am sp ga li x = 0 then bentV ga sp x else 0), .int .i64 (bbE am sp ga li x)]) ∧ Ext w w' := by
  have HPE := Lib.hid (fun W (e : Ext w W) => pressError_any (cp := cp) (sp := sp) (ga := ga) (li := li) hnp (hP.ext e))
  have HAE := Lib.hid (fun W (e : Ext w W) => amountError_any (cp := cp) (sp := sp) (ga := ga) (li := li) (x := x) hnp (hP.ext e))
  have HB := Lib.hid (fun (h1 : (checkP am sp ga li).2 = 0) (h2 : errIf (!hasB am x.a) 6 = 0) W => bentBy_any (P := P) (np := np) (cp := cp) (li := li) (x := x) W (checkP_ok h1).sp1 (checkP_ok h1).ga1 (by
    have h3 := errIf_zero (by decide) h2
    obtain ⟨q, hq, he⟩ := hasB_ok (show hasB am x.a = true by simpa using h3)
    have := (checkP_ok h1).am1 q hq
    omega))
  have HV := Lib.hid (show bbE am sp ga li x = firstE [(checkP am sp ga li).2, errIf (!hasB am x.a) 6] by rw [firstE_two]; rfl)
  have HZ := Lib.hid (fun (h : firstE [(checkP am sp ga li).2, errIf (!hasB am x.a) 6] = 0) => (⟨firstE_zero h _ (by simp), firstE_zero h _ (by simp)⟩ : (checkP am sp ga li).2 = 0 ∧ errIf (!hasB am x.a) 6 = 0))
  generalize bbE am sp ga li x = bb at *
  obtain ⟨rv, hrv⟩ : ∃ v, v = (if bb = 0 then bentV ga sp x else 0) := ⟨_, rfl⟩
  rw [← hrv]
  have HRV := Lib.hid hrv
  generalize bentV ga sp x = bv at *
  generalize (checkP am sp ga li).2 = z1 at *
  generalize errIf (!hasB am x.a) 6 = z2 at *
  generalize hf1 : firstE [z1, z2] = f1 at *
  have F1 := Lib.hid hf1
  clear hf1 hnp hP hrv
  obtain ⟨W0, hW0⟩ : ∃ W0, W0 = (w.alloc (.cells #[.slice P np cp, .int .i64 sp, .int .i64 ga, .int .i64 li] 58)).alloc (.cells #[.int .i64 x.j, .int .i64 x.a, .bool x.u] 68) := ⟨_, rfl⟩
  have K0 := Lib.hid (show Blk W0 (w.heap.size) 58 #[.slice P np cp, .int .i64 sp, .int .i64 ga, .int .i64 li] by rw [hW0]; exact (Blk.new _ _ _).alloc _)
  have K1 := Lib.hid (show Blk W0 (w.heap.size + 1) 68 #[.int .i64 x.j, .int .i64 x.a, .bool x.u] by rw [hW0]; exact Blk.newAt _ _ _ (by simp))
  have E0 := Lib.hid (show Ext w W0 by rw [hW0]; exact (Ext.alloc _ _).trans (Ext.alloc _ _))
  have y0_0 : W0.cell? ⟨w.heap.size, 0, none⟩ = some (.slice P np cp) := K0.out.cell 0
  have y0_1 : W0.cell? ⟨w.heap.size, 1, none⟩ = some (.int .i64 sp) := K0.out.cell 1
  have y0_2 : W0.cell? ⟨w.heap.size, 2, none⟩ = some (.int .i64 ga) := K0.out.cell 2
  have y0_3 : W0.cell? ⟨w.heap.size, 3, none⟩ = some (.int .i64 li) := K0.out.cell 3
  have y1_0 : W0.cell? ⟨w.heap.size + 1, 0, none⟩ = some (.int .i64 x.j) := K1.out.cell 0
  have y1_1 : W0.cell? ⟨w.heap.size + 1, 1, none⟩ = some (.int .i64 x.a) := K1.out.cell 1
  have y1_2 : W0.cell? ⟨w.heap.size + 1, 2, none⟩ = some (.bool x.u) := K1.out.cell 2
  go_enter Try.func39, Try.ntmps39
  go_upto_region 1 with (fail)
  rw [← hW0]
  clear hW0
  refine wp_region_each [some 7, some 8, some 9, some 10, some 11, some 12, some 13, some 6] [[2], [7], [2], [3], [9, 10], [8, 11], [12], [13]]
    [Is (.agg #[.slice P np cp, .int .i64 (sp), .int .i64 (ga), .int .i64 (li)]), Is (.int .i64 (z1)), Is (.agg #[.slice P np cp, .int .i64 (sp), .int .i64 (ga), .int .i64 (li)]), Is (.agg #[.int .i64 (x.j), .int .i64 (x.a), .bool (x.u)]), Is (.int .i64 (z2)), Ints [z1, z2], Is (.int .i64 (firstE [z1, z2])), Is (.int .i64 (firstE [z1, z2]))]
    (by kernel_rfl) (by kernel_rfl) (by kernel_rfl) (by kernel_rfl) (by kernel_rfl) Ext (fun W => Ext W0 W)
    (fun W _ => Ext.refl W) (fun W W' h k => h.trans k) ?_ (Ext.drew _) ?_ ?_
  · repeat (refine ⟨fun _ _ _ _ k h => (by first | exact h | exact (IntsAt.ext h k)), ?_⟩)
    exact trivial
  · refine ⟨?_, ?_, ?_, ?_, ?_, ?_, ?_, ?_, trivial⟩
    all_goals intro ρ W ⟨kc, kg, kf⟩ hF hs
    · obtain ⟨h0, -⟩ := hs
      replace h0 : ρ (.tmp 2) = .pointer (some ⟨w.heap.size, 0, none⟩) := h0
      have hc0 : W.cell? ⟨w.heap.size, 0, none⟩ = some (.slice P np cp) := hF.cell (by assumption)
      have hc1 : W.cell? ⟨w.heap.size, 1, none⟩ = some (.int .i64 (sp)) := hF.cell (by assumption)
      have hc2 : W.cell? ⟨w.heap.size, 2, none⟩ = some (.int .i64 (ga)) := hF.cell (by assumption)
      have hc3 : W.cell? ⟨w.heap.size, 3, none⟩ = some (.int .i64 (li)) := hF.cell (by assumption)
      go_simp
      exact ⟨Ext.refl _, rfl⟩
    · obtain ⟨h0, -⟩ := hs
      replace h0 : ρ (.tmp 7) = .agg #[.slice P np cp, .int .i64 (sp), .int .i64 (ga), .int .i64 (li)] := h0
      go_simp
      refine (HPE.out _ (E0.out.trans hF)).mono ?_; rintro e w' ⟨rfl, hx⟩; exact ⟨_, rfl, hx, rfl⟩
    · obtain ⟨h0, -⟩ := hs
      replace h0 : ρ (.tmp 2) = .pointer (some ⟨w.heap.size, 0, none⟩) := h0
      have hc0 : W.cell? ⟨w.heap.size, 0, none⟩ = some (.slice P np cp) := hF.cell (by assumption)
      have hc1 : W.cell? ⟨w.heap.size, 1, none⟩ = some (.int .i64 (sp)) := hF.cell (by assumption)
      have hc2 : W.cell? ⟨w.heap.size, 2, none⟩ = some (.int .i64 (ga)) := hF.cell (by assumption)
      have hc3 : W.cell? ⟨w.heap.size, 3, none⟩ = some (.int .i64 (li)) := hF.cell (by assumption)
      go_simp
      exact ⟨Ext.refl _, rfl⟩
    · obtain ⟨h0, -⟩ := hs
      replace h0 : ρ (.tmp 3) = .pointer (some ⟨w.heap.size + 1, 0, none⟩) := h0
      have hc0 : W.cell? ⟨w.heap.size + 1, 0, none⟩ = some (.int .i64 (x.j)) := hF.cell (by assumption)
      have hc1 : W.cell? ⟨w.heap.size + 1, 1, none⟩ = some (.int .i64 (x.a)) := hF.cell (by assumption)
      have hc2 : W.cell? ⟨w.heap.size + 1, 2, none⟩ = some (.bool (x.u)) := hF.cell (by assumption)
      go_simp
      exact ⟨Ext.refl _, rfl⟩
    · obtain ⟨h0, h1, -⟩ := hs
      replace h0 : ρ (.tmp 9) = .agg #[.slice P np cp, .int .i64 (sp), .int .i64 (ga), .int .i64 (li)] := h0
      replace h1 : ρ (.tmp 10) = .agg #[.int .i64 (x.j), .int .i64 (x.a), .bool (x.u)] := h1
      go_simp
      refine (HAE.out _ (E0.out.trans hF)).mono ?_; rintro e w' ⟨rfl, hx⟩; exact ⟨_, rfl, hx, rfl⟩
    · obtain ⟨h0, h1, -⟩ := hs
      replace h0 : ρ (.tmp 8) = .int .i64 (z1) := h0
      replace h1 : ρ (.tmp 11) = .int .i64 (z2) := h1
      go_simp
      exact ⟨Ext.alloc _ _, ints_new _ [z1, z2] _ (by simp)⟩
    · obtain ⟨h0, -⟩ := hs
      replace h0 : (Ints [z1, z2]) (ρ (.tmp 12)) W := h0
      go_simp
      refine (firstOf_any _ _ _ h0).mono ?_; rintro e w' ⟨rfl, rfl⟩; exact ⟨_, rfl, Ext.refl _, rfl⟩
    · obtain ⟨h0, -⟩ := hs
      replace h0 : ρ (.tmp 13) = .int .i64 (firstE [z1, z2]) := h0
      go_simp
      exact ⟨Ext.refl _, rfl⟩
  · intro fv W1 hF hs
    obtain ⟨-, -, -, -, -, -, -, h6, -⟩ := hs
    replace h6 : fv 6 = .int .i64 (firstE [z1, z2]) := h6
    simp only [fin, List.filterMap]
    go_simp
    rw [F1.out]
    have X := Lib.hid (E0.out.trans hF)
    replace K0 := Lib.hid (K0.out.ext hF)
    replace K1 := Lib.hid (K1.out.ext hF)
    clear hF y0_0 y0_1 y0_2 y0_3 y1_0 y1_1 y1_2 E0 HPE HAE
    obtain ⟨W2, hW2⟩ : ∃ W, W = W1 := ⟨_, rfl⟩
    rw [← hW2] at X K0 K1 ⊢
    clear hW2
    by_cases hz : f1 = 0
    · have hz2 : (f1 != 0) = false := by simp [hz]
      obtain ⟨a1, a2⟩ := HZ.out hz
      replace HB := Lib.hid (fun W => HB.out a1 a2 W)
      have HV2 := Lib.hid (HV.out.trans hz)
      have HR := Lib.hid (show rv = bv by rw [HRV.out, if_pos HV2.out])
      clear a1 a2 hz HZ F1 HV
      have y0_0 : W2.cell? ⟨w.heap.size, 0, none⟩ = some (.slice P np cp) := K0.out.cell 0
      have y0_1 : W2.cell? ⟨w.heap.size, 1, none⟩ = some (.int .i64 sp) := K0.out.cell 1
      have y0_2 : W2.cell? ⟨w.heap.size, 2, none⟩ = some (.int .i64 ga) := K0.out.cell 2
      have y0_3 : W2.cell? ⟨w.heap.size, 3, none⟩ = some (.int .i64 li) := K0.out.cell 3
      have y1_0 : W2.cell? ⟨w.heap.size + 1, 0, none⟩ = some (.int .i64 x.j) := K1.out.cell 0
      have y1_1 : W2.cell? ⟨w.heap.size + 1, 1, none⟩ = some (.int .i64 x.a) := K1.out.cell 1
      have y1_2 : W2.cell? ⟨w.heap.size + 1, 2, none⟩ = some (.bool x.u) := K1.out.cell 2
      go_wp2_with (go_at_call 93; refine (HB.out _).mono ?_; rintro e W3 ⟨rfl, hx⟩; replace X := Lib.hid (X.out.trans hx); clear hx)
      go_ret2
      exact ⟨ret_two HR.out.symm HV2.out.symm, X.out⟩
    · have hz2 : (f1 != 0) = true := by simp [hz]
      have HR := Lib.hid (show rv = 0 by rw [HRV.out, HV.out, if_neg hz])
      clear hz HZ F1 HB
      go_wp2
      go_ret2
      exact ⟨ret_two HR.out.symm HV.out.symm, X.out⟩

end Go.Proofs.Ytjdilmmpdlcimaa
