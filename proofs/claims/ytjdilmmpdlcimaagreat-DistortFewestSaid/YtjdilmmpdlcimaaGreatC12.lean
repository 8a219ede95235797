/- The fewest strokes. -/
import Derived.Test.YtjdilmmpdlcimaaGreatC11
import Derived.Test.YtjdilmmpdlcimaaGreatN2
import Derived.Lib.MinMax
import Derived.Deep.DeepCutAuto

namespace Go.Proofs.YtjdilmmpdlcimaaGreat
open Go.RowKit Go.Shelf Go.Mem Go.RegInv
attribute [local go_sem] RelUpon_value RelUpon_skip RelUpon_enter BigFrame.eval_const BigFrame.eval_global BigFrame.eval_func


theorem optL_StOK {am : List Int} {n : Nat} : ∀ i, i < (optL am n).length → StOK n am ((optL am n).getD i default) := by
  intro i hi
  have hm : (optL am n).getD i default ∈ optL am n := by
    rw [List.getD_eq_getElem?_getD, List.getElem?_eq_getElem hi]
    exact List.getElem_mem hi
  generalize (optL am n).getD i default = x at *
  unfold optL optO at hm
  rw [List.mem_flatMap] at hm
  obtain ⟨k, hk, hm⟩ := hm
  have hk := List.mem_range.1 hk
  unfold optI at hm
  rw [List.mem_flatMap] at hm
  obtain ⟨a, ha, hm⟩ := hm
  rw [List.take_length] at ha
  have hb : hasB am a = true := by
    unfold hasB
    rw [List.any_eq_true]
    exact ⟨a, ha, by simp⟩
  simp only [List.mem_cons, List.not_mem_nil, or_false] at hm
  rcases hm with rfl | rfl
  · exact ⟨by dsimp only; omega, by dsimp only; omega, hb⟩
  · exact ⟨by dsimp only; omega, by dsimp only; omega, hb⟩
def fewE (L : Int) (js : List Int) (ks : List Rg) (am : List Int) (sp ga li t : Int) : Int := firstE [(checkS L js ks).2, (checkP am sp ga li).2, tolE t]
def fewRk (n : Nat) (li : Int) (pf : List Sk → Bool) (os : List Sk) (k : Nat) : Option (List Sk) := (List.range' k (5 - k)).findSome? fun c => srch n li pf os c [] 0
theorem fewRk_step (n : Nat) (li : Int) (pf : List Sk → Bool) (os : List Sk) {k : Nat} (h : k < 5) : fewRk n li pf os k = match srch n li pf os k [] 0 with | some p => some p | none => fewRk n li pf os (k + 1) := by
  unfold fewRk
  obtain ⟨d, hd⟩ : ∃ d, 5 - k = d + 1 := ⟨5 - k - 1, by omega⟩
  rw [hd, List.range'_succ, List.findSome?_cons, show 5 - (k + 1) = d by omega]
  cases srch n li pf os k [] 0 <;> rfl
/-- The plan that FewestOf answers. -/
def fewV (L : Int) (js : List Int) (ks : List Rg) (am : List Int) (sp ga li t : Int) : Option (List Sk) := if fewE L js ks am sp ga li t = 0 then fewRk js.length li (pfB ga sp t L js ks) (optL am js.length) 0 else none
def fewC (L : Int) (js : List Int) (ks : List Rg) (am : List Int) (sp ga li t : Int) : Int := if fewE L js ks am sp ga li t = 0 then (if (fewV L js ks am sp ga li t).isSome then 0 else 12) else fewE L js ks am sp ga li t
def OptC (os : List Sk) (v : Value) (W : World) : Prop := ∃ A c, v = .slice A os.length c ∧ RowsAt 3 Sk.enc W A os ∧ (A = none → c = 0) ∧ os.length ≤ c
theorem OptC.ext {os : List Sk} {v : Value} {W W' : World} (h : OptC os v W) (e : Ext W W') : OptC os v W' := by
  obtain ⟨A, c, h1, h2, h3⟩ := h
  exact ⟨A, c, h1, h2.ext e, h3⟩
def BldF (F : Option Addr → Nat → Value) (os : List Sk) (v : Value) (W : World) : Prop := ∃ A c, v = F A c ∧ RowsAt 3 Sk.enc W A os ∧ (A = none → c = 0) ∧ os.length ≤ c
theorem BldF.ext {F : Option Addr → Nat → Value} {os : List Sk} {v : Value} {W W' : World} (h : BldF F os v W) (e : Ext W W') : BldF F os v W' := by
  obtain ⟨A, c, h1, h2, h3⟩ := h
  exact ⟨A, c, h1, h2.ext e, h3⟩
theorem rows_nine {os : List Sk} {U : World} {A : Option Addr} {q : Nat} (h : RowsAt 3 Sk.enc U A os) (hb : Blk U q 77 #[.int .i64 0, .slice none 0 0, .slice none 0 0, .slice none 0 0, .int .i64 0, .int .i64 0, .int .i64 0, .int .i64 0, .slice none 0 0]) (v0 v1 v2 v3 v4 v5 v6 v7 v8 : Value) :
    RowsAt 3 Sk.enc (((((((((U.setCell ⟨q, 0, none⟩ v0).setCell ⟨q, 1, none⟩ v1).setCell ⟨q, 2, none⟩ v2).setCell ⟨q, 3, none⟩ v3).setCell ⟨q, 4, none⟩ v4).setCell ⟨q, 5, none⟩ v5).setCell ⟨q, 6, none⟩ v6).setCell ⟨q, 7, none⟩ v7).setCell ⟨q, 8, none⟩ v8) A os := by
  cases os with
  | nil => exact ⟨by simp, fun i x hx => by simp at hx⟩
  | cons x l =>
    have hne : ∀ b o, A = some ⟨b, o, none⟩ → b ≠ q := by
      rintro b o rfl rfl
      obtain ⟨b', o', e, -, hc⟩ := h.2 0 x rfl
      obtain ⟨rfl, rfl⟩ : b = b' ∧ o = o' := by simpa using e
      have h2 := hc 2 (.bool x.u) rfl
      rw [hb.cell] at h2
      rcases (show o = 0 ∨ o = 1 ∨ o = 2 ∨ o = 3 ∨ o = 4 ∨ o = 5 ∨ o = 6 ∨ 7 ≤ o by omega) with rfl | rfl | rfl | rfl | rfl | rfl | rfl | h7
      all_goals first | (simp at h2; done) | (rw [Array.getElem?_eq_none (by simp; omega)] at h2; cases h2)
    exact rows_setOther (rows_setOther (rows_setOther (rows_setOther (rows_setOther (rows_setOther (rows_setOther (rows_setOther (rows_setOther h hne _) hne _) hne _) hne _) hne _) hne _) hne _) hne _) hne _
def FewP (r : Option (List Sk)) (c : Int) (w : World) (e : Ending) (w' : World) : Prop := ∃ A' m' c', e = .returned (.tuple #[.slice A' m' c', .int .i64 c]) ∧ (r = none → A' = none ∧ m' = 0 ∧ c' = 0) ∧ (∀ p, r = some p → p.length = m' ∧ RowsAt 3 Sk.enc w' A' p ∧ (A' = none → c' = 0)) ∧ Ext w w'
set_option maxRecDepth 100000 in
set_option maxHeartbeats 2000000 in
theorem fewestOf_any {L : Int} {J K P : Option Addr} {n m cj ck np cp : Nat} {js : List Int} {ks : List Rg} {am : List Int} {sp ga li t : Int} {w : World} (hn : js.length = n) (hJ : RowsAt 1 I1 w J js) (hm : ks.length = m) (hK : RowsAt 2 Rg.enc w K ks) (hjn : J = none → cj = 0) (hnp : am.length = np) (hP : RowsAt 1 I1 w P am) :
    Calls Tryz.prog 8 #[.agg #[.int .i64 L, .slice J n cj, .slice K m ck], .agg #[.slice P np cp, .int .i64 sp, .int .i64 ga, .int .i64 li], .int .i64 t] w (FewP (fewV L js ks am sp ga li t) (fewC L js ks am sp ga li t) w) := by
  have HSE := Lib.hid (fun W (e : Ext w W) => shaftError_any (cj := cj) (ck := ck) (L := L) hn (hJ.ext e) hm (hK.ext e))
  have HPE := Lib.hid (fun W (e : Ext w W) => pressError_any (cp := cp) (sp := sp) (ga := ga) (li := li) hnp (hP.ext e))
  have HT := Lib.hid (show fewE L js ks am sp ga li t = firstE [(checkS L js ks).2, (checkP am sp ga li).2, tolE t] from rfl)
  have HV := Lib.hid (show fewV L js ks am sp ga li t = if fewE L js ks am sp ga li t = 0 then fewRk js.length li (pfB ga sp t L js ks) (optL am js.length) 0 else none from rfl)
  have HC := Lib.hid (show fewC L js ks am sp ga li t = if fewE L js ks am sp ga li t = 0 then (if (fewV L js ks am sp ga li t).isSome then 0 else 12) else fewE L js ks am sp ga li t from rfl)
  have HOK := Lib.hid (fun hz : fewE L js ks am sp ga li t = 0 => show ShOK L js ks ∧ PrOK am sp ga li ∧ (0 ≤ t ∧ t ≤ 1000000000000) ∧ n = m from by
    have h1 := firstE_zero hz
    have hs := checkS_ok (h1 (checkS L js ks).2 (by simp))
    have hp := checkP_ok (h1 (checkP am sp ga li).2 (by simp))
    have ht := h1 (tolE t) (by simp)
    refine ⟨hs, hp, ?_, by have := hs.same; omega⟩
    exact rangeE_zeros ht t (by simp))
  generalize fewC L js ks am sp ga li t = fc at *
  generalize fewV L js ks am sp ga li t = fv0 at *
  generalize fewE L js ks am sp ga li t = z at *
  generalize (checkS L js ks).2 = z1 at *
  generalize (checkP am sp ga li).2 = z2 at *
  have HJ := Lib.hid hJ
  have HK := Lib.hid hK
  have HP := Lib.hid hP
  have HN := Lib.hid hn
  have HM := Lib.hid hm
  have HJN := Lib.hid hjn
  have HNP := Lib.hid hnp
  clear hn hJ hm hK hjn hnp hP
  obtain ⟨W0, hW0⟩ : ∃ W0, W0 = (w.alloc (.cells #[.int .i64 L, .slice J n cj, .slice K m ck] 25)).alloc (.cells #[.slice P np cp, .int .i64 sp, .int .i64 ga, .int .i64 li] 27) := ⟨_, rfl⟩
  have K0 := Lib.hid (show Blk W0 (w.heap.size) 25 #[.int .i64 L, .slice J n cj, .slice K m ck] by rw [hW0]; exact (Blk.new _ _ _).alloc _)
  have K1 := Lib.hid (show Blk W0 (w.heap.size + 1) 27 #[.slice P np cp, .int .i64 sp, .int .i64 ga, .int .i64 li] by rw [hW0]; exact Blk.newAt _ _ _ (by simp))
  have E0 := Lib.hid (show Ext w W0 by rw [hW0]; exact (Ext.alloc _ _).trans (Ext.alloc _ _))
  have y0_0 : W0.cell? ⟨w.heap.size, 0, none⟩ = some (.int .i64 L) := K0.out.cell 0
  have y0_1 : W0.cell? ⟨w.heap.size, 1, none⟩ = some (.slice J n cj) := K0.out.cell 1
  have y0_2 : W0.cell? ⟨w.heap.size, 2, none⟩ = some (.slice K m ck) := K0.out.cell 2
  have y1_0 : W0.cell? ⟨w.heap.size + 1, 0, none⟩ = some (.slice P np cp) := K1.out.cell 0
  have y1_1 : W0.cell? ⟨w.heap.size + 1, 1, none⟩ = some (.int .i64 sp) := K1.out.cell 1
  have y1_2 : W0.cell? ⟨w.heap.size + 1, 2, none⟩ = some (.int .i64 ga) := K1.out.cell 2
  have y1_3 : W0.cell? ⟨w.heap.size + 1, 3, none⟩ = some (.int .i64 li) := K1.out.cell 3
  go_enter Tryz.func8, Tryz.ntmps8
  go_upto_region 1 with (fail)
  rw [← hW0]
  clear hW0
  refine wp_region_each [some 13, some 14, some 15, some 16, some 17, some 18, some 19, some 20, some 8] [[3], [13], [4], [15], [2], [17], [14, 16, 18], [19], [20]]
    [Is (.agg #[.int .i64 (L), .slice J n cj, .slice K m ck]), Is (.int .i64 (z1)), Is (.agg #[.slice P np cp, .int .i64 (sp), .int .i64 (ga), .int .i64 (li)]), Is (.int .i64 (z2)), Is (.int .i64 (t)), Is (.int .i64 (tolE (t))), Ints [z1, z2, tolE (t)], Is (.int .i64 (firstE [z1, z2, tolE (t)])), Is (.int .i64 (firstE [z1, z2, tolE (t)]))]
    (by kernel_rfl) (by kernel_rfl) (by kernel_rfl) (by kernel_rfl) (by kernel_rfl) Ext (fun W => Ext W0 W)
    (fun W _ => Ext.refl W) (fun W W' h k => h.trans k) ?_ (Ext.drew _) ?_ ?_
  · repeat (refine ⟨fun _ _ _ _ k h => (by first | exact h | exact (IntsAt.ext h k)), ?_⟩)
    exact trivial
  · refine ⟨?_, ?_, ?_, ?_, ?_, ?_, ?_, ?_, ?_, trivial⟩
    all_goals intro ρ W ⟨kc, kg, kf⟩ hF hs
    · obtain ⟨h0, -⟩ := hs
      replace h0 : ρ (.tmp 3) = .pointer (some ⟨w.heap.size, 0, none⟩) := h0
      have hc0 : W.cell? ⟨w.heap.size, 0, none⟩ = some (.int .i64 (L)) := hF.cell (by assumption)
      have hc1 : W.cell? ⟨w.heap.size, 1, none⟩ = some (.slice J n cj) := hF.cell (by assumption)
      have hc2 : W.cell? ⟨w.heap.size, 2, none⟩ = some (.slice K m ck) := hF.cell (by assumption)
      go_simp
      exact ⟨Ext.refl _, rfl⟩
    · obtain ⟨h0, -⟩ := hs
      replace h0 : ρ (.tmp 13) = .agg #[.int .i64 (L), .slice J n cj, .slice K m ck] := h0
      go_simp
      refine (HSE.out _ (E0.out.trans hF)).mono ?_; rintro e w' ⟨rfl, hx⟩; exact ⟨_, rfl, hx, rfl⟩
    · obtain ⟨h0, -⟩ := hs
      replace h0 : ρ (.tmp 4) = .pointer (some ⟨w.heap.size + 1, 0, none⟩) := h0
      have hc0 : W.cell? ⟨w.heap.size + 1, 0, none⟩ = some (.slice P np cp) := hF.cell (by assumption)
      have hc1 : W.cell? ⟨w.heap.size + 1, 1, none⟩ = some (.int .i64 (sp)) := hF.cell (by assumption)
      have hc2 : W.cell? ⟨w.heap.size + 1, 2, none⟩ = some (.int .i64 (ga)) := hF.cell (by assumption)
      have hc3 : W.cell? ⟨w.heap.size + 1, 3, none⟩ = some (.int .i64 (li)) := hF.cell (by assumption)
      go_simp
      exact ⟨Ext.refl _, rfl⟩
    · obtain ⟨h0, -⟩ := hs
      replace h0 : ρ (.tmp 15) = .agg #[.slice P np cp, .int .i64 (sp), .int .i64 (ga), .int .i64 (li)] := h0
      go_simp
      refine (HPE.out _ (E0.out.trans hF)).mono ?_; rintro e w' ⟨rfl, hx⟩; exact ⟨_, rfl, hx, rfl⟩
    · obtain ⟨h0, -⟩ := hs
      replace h0 : ρ (.tmp 2) = .int .i64 (t) := h0
      go_simp
      exact ⟨Ext.refl _, rfl⟩
    · obtain ⟨h0, -⟩ := hs
      replace h0 : ρ (.tmp 17) = .int .i64 (t) := h0
      go_simp
      refine (toleranceError_any _ _).mono ?_; rintro e w' ⟨rfl, hx⟩; exact ⟨_, rfl, hx, rfl⟩
    · obtain ⟨h0, h1, h2, -⟩ := hs
      replace h0 : ρ (.tmp 14) = .int .i64 (z1) := h0
      replace h1 : ρ (.tmp 16) = .int .i64 (z2) := h1
      replace h2 : ρ (.tmp 18) = .int .i64 (tolE (t)) := h2
      go_simp
      exact ⟨Ext.alloc _ _, ints_new _ [z1, z2, tolE (t)] _ (by simp)⟩
    · obtain ⟨h0, -⟩ := hs
      replace h0 : (Ints [z1, z2, tolE (t)]) (ρ (.tmp 19)) W := h0
      go_simp
      refine (firstOf_any _ _ _ h0).mono ?_; rintro e w' ⟨rfl, rfl⟩; exact ⟨_, rfl, Ext.refl _, rfl⟩
    · obtain ⟨h0, -⟩ := hs
      replace h0 : ρ (.tmp 20) = .int .i64 (firstE [z1, z2, tolE (t)]) := h0
      go_simp
      exact ⟨Ext.refl _, rfl⟩
  · intro fv W1 hF hs
    obtain ⟨-, -, -, -, -, -, -, -, h8, -⟩ := hs
    replace h8 : fv 8 = .int .i64 (firstE [z1, z2, tolE (t)]) := h8
    simp only [fin, List.filterMap]
    go_simp
    rw [← HT.out]
    clear HT
    replace K0 := Lib.hid (K0.out.ext hF)
    replace K1 := Lib.hid (K1.out.ext hF)
    have X := Lib.hid (E0.out.trans hF)
    clear hF y0_0 y0_1 y0_2 y1_0 y1_1 y1_2 y1_3 E0 HSE HPE
    by_cases hz : z = 0
    · have hz2 : (z != 0) = false := by simp [hz]
      obtain ⟨hs, hp, ht, hmn⟩ := HOK.out hz
      have HC2 := Lib.hid (show fc = if fv0.isSome then 0 else 12 by rw [HC.out, if_pos hz])
      have HV2 := HV.out
      rw [if_pos hz] at HV2
      clear hz HC HV HOK
      subst hmn
      obtain ⟨os, hos⟩ : ∃ os, os = optL am n := ⟨_, rfl⟩
      rw [HN.out, ← hos] at HV2
      replace HV2 := Lib.hid HV2
      have hn4 : n ≤ 4 := by have := hs.four; have := HN.out; omega
      have h3 : am.length ≤ 3 := hp.three
      have HOP := Lib.hid (fun W (e : Ext w W) => strokesOf_any (L := L) (J := J) (K := K) (n := n) (m := n) (cj := cj) (ck := ck) (cp := cp) (sp := sp) (ga := ga) (li := li) HNP.out (HP.out.ext e) hn4 (by have := HNP.out; omega))
      rw [← hos] at HOP
      have hlen : os.length ≤ 1000 := by
        have h1 := optO_len am n
        have h2 : n * (2 * am.length) ≤ 4 * 6 := Nat.mul_le_mul hn4 (by omega)
        rw [hos]
        unfold optL
        omega
      have HFI := Lib.hid (fun W O co (k : Nat) (e : Ext w W) (hO : RowsAt 3 Sk.enc W O os) (hco : os.length ≤ co) (hk : k ≤ 4) => show Calls Tryz.prog 29 #[.agg #[.int .i64 L, .slice J n cj, .slice K n ck, .slice P np cp, .int .i64 sp, .int .i64 ga, .int .i64 li, .int .i64 t, .slice O os.length co], .slice none 0 0, .int .i64 0, .int .i64 (k : Int)] W (FiP (srch n li (pfB ga sp t L js ks) os k [] 0) W) from first_any (P := P) (np := np) (cp := cp) (N := 0) (ca := 0) (f := 0) HN.out HM.out HJN.out hs hp ht rfl (hos ▸ optL_StOK) hco hlen k (HJ.out.ext e) (HK.out.ext e) hO rfl ⟨by simp, fun i x hx => by simp at hx⟩ (fun _ => rfl) (fun k hk => by omega) (by omega) (by omega))
      generalize pfB ga sp t L js ks = pf at *
      have HST := Lib.hid (fun k (h : k < 5) => fewRk_step n li pf os h)
      have HEN := Lib.hid (show fewRk n li pf os 5 = none from rfl)
      clear hos hs hp ht hn4 h3 hlen HJ HK HP HN HM HJN HNP
      have y0_0 : W1.cell? ⟨w.heap.size, 0, none⟩ = some (.int .i64 L) := K0.out.cell 0
      have y0_1 : W1.cell? ⟨w.heap.size, 1, none⟩ = some (.slice J n cj) := K0.out.cell 1
      have y0_2 : W1.cell? ⟨w.heap.size, 2, none⟩ = some (.slice K n ck) := K0.out.cell 2
      have y1_0 : W1.cell? ⟨w.heap.size + 1, 0, none⟩ = some (.slice P np cp) := K1.out.cell 0
      have y1_1 : W1.cell? ⟨w.heap.size + 1, 1, none⟩ = some (.int .i64 sp) := K1.out.cell 1
      have y1_2 : W1.cell? ⟨w.heap.size + 1, 2, none⟩ = some (.int .i64 ga) := K1.out.cell 2
      have y1_3 : W1.cell? ⟨w.heap.size + 1, 3, none⟩ = some (.int .i64 li) := K1.out.cell 3
      clear K0 K1
      go_upto_region 4 with (fail)
      refine wp_region_free [.op, .op, .op, .op, .op, .op, .op, .op, .new, .store] [9] [9, 31] [9] [some 24, some 25, some 26, some 27, some 28, some 29, some 30, some 31, some 9, none] [[3], [24], [4], [2], [3], [4], [28, 29], [25, 26, 27, 30], [], [9, 31]]
        [Is (.agg #[.int .i64 (L), .slice J n cj, .slice K n ck]), Is (.agg #[.int .i64 L, .slice J n cj, .slice K n ck]), Is (.agg #[.slice P np cp, .int .i64 (sp), .int .i64 (ga), .int .i64 (li)]), Is (.int .i64 (t)), Is (.agg #[.int .i64 (L), .slice J n cj, .slice K n ck]), Is (.agg #[.slice P np cp, .int .i64 (sp), .int .i64 (ga), .int .i64 (li)]), OptC os, BldF (fun O co => .agg #[.int .i64 L, .slice J n cj, .slice K n ck, .slice P np cp, .int .i64 sp, .int .i64 ga, .int .i64 li, .int .i64 t, .slice O os.length co]) os, NewP W1.heap.size 77 #[.int .i64 0, .slice none 0 0, .slice none 0 0, .slice none 0 0, .int .i64 0, .int .i64 0, .int .i64 0, .int .i64 0, .slice none 0 0], fun _ _ => True]
        (by kernel_rfl) (by kernel_rfl) (by kernel_rfl) (by kernel_rfl) (by kernel_rfl) (by kernel_rfl) (by kernel_rfl) (by kernel_rfl) (by kernel_rfl) Ext (fun W => Ext W1 W)
        (fun W _ => Ext.refl W) (fun W W' h k => h.trans k) (fun W W' h => h.size) ?_ (Ext.drew _) ?_ ?_
      · repeat (refine ⟨fun _ _ _ _ k h => (by first | exact h | exact (by first | exact IntsAt.ext h k | exact NewP.ext h k | exact OptC.ext h k | exact BldF.ext h k)), ?_⟩)
        exact trivial
      · refine ⟨?_, ?_, ?_, ?_, ?_, ?_, ?_, ?_, ?_, trivial⟩
        · intro ρ W ⟨kc, kg, kf⟩ hF hs
          obtain ⟨h0, -⟩ := hs
          replace h0 : ρ (.tmp 3) = .pointer (some ⟨w.heap.size, 0, none⟩) := h0
          have hc0 : W.cell? ⟨w.heap.size, 0, none⟩ = some (.int .i64 (L)) := hF.cell (by assumption)
          have hc1 : W.cell? ⟨w.heap.size, 1, none⟩ = some (.slice J n cj) := hF.cell (by assumption)
          have hc2 : W.cell? ⟨w.heap.size, 2, none⟩ = some (.slice K n ck) := hF.cell (by assumption)
          go_simp
          exact ⟨Ext.refl _, rfl⟩
        · intro ρ W ⟨kc, kg, kf⟩ hF hs
          obtain ⟨h0, -⟩ := hs
          replace h0 : ρ (.tmp 24) = .agg #[.int .i64 (L), .slice J n cj, .slice K n ck] := h0
          go_simp
          exact ⟨Ext.refl _, rfl⟩
        · intro ρ W ⟨kc, kg, kf⟩ hF hs
          obtain ⟨h0, -⟩ := hs
          replace h0 : ρ (.tmp 4) = .pointer (some ⟨w.heap.size + 1, 0, none⟩) := h0
          have hc0 : W.cell? ⟨w.heap.size + 1, 0, none⟩ = some (.slice P np cp) := hF.cell (by assumption)
          have hc1 : W.cell? ⟨w.heap.size + 1, 1, none⟩ = some (.int .i64 (sp)) := hF.cell (by assumption)
          have hc2 : W.cell? ⟨w.heap.size + 1, 2, none⟩ = some (.int .i64 (ga)) := hF.cell (by assumption)
          have hc3 : W.cell? ⟨w.heap.size + 1, 3, none⟩ = some (.int .i64 (li)) := hF.cell (by assumption)
          go_simp
          exact ⟨Ext.refl _, rfl⟩
        · intro ρ W ⟨kc, kg, kf⟩ hF hs
          obtain ⟨h0, -⟩ := hs
          replace h0 : ρ (.tmp 2) = .int .i64 (t) := h0
          go_simp
          exact ⟨Ext.refl _, rfl⟩
        · intro ρ W ⟨kc, kg, kf⟩ hF hs
          obtain ⟨h0, -⟩ := hs
          replace h0 : ρ (.tmp 3) = .pointer (some ⟨w.heap.size, 0, none⟩) := h0
          have hc0 : W.cell? ⟨w.heap.size, 0, none⟩ = some (.int .i64 (L)) := hF.cell (by assumption)
          have hc1 : W.cell? ⟨w.heap.size, 1, none⟩ = some (.slice J n cj) := hF.cell (by assumption)
          have hc2 : W.cell? ⟨w.heap.size, 2, none⟩ = some (.slice K n ck) := hF.cell (by assumption)
          go_simp
          exact ⟨Ext.refl _, rfl⟩
        · intro ρ W ⟨kc, kg, kf⟩ hF hs
          obtain ⟨h0, -⟩ := hs
          replace h0 : ρ (.tmp 4) = .pointer (some ⟨w.heap.size + 1, 0, none⟩) := h0
          have hc0 : W.cell? ⟨w.heap.size + 1, 0, none⟩ = some (.slice P np cp) := hF.cell (by assumption)
          have hc1 : W.cell? ⟨w.heap.size + 1, 1, none⟩ = some (.int .i64 (sp)) := hF.cell (by assumption)
          have hc2 : W.cell? ⟨w.heap.size + 1, 2, none⟩ = some (.int .i64 (ga)) := hF.cell (by assumption)
          have hc3 : W.cell? ⟨w.heap.size + 1, 3, none⟩ = some (.int .i64 (li)) := hF.cell (by assumption)
          go_simp
          exact ⟨Ext.refl _, rfl⟩
        · intro ρ W ⟨kc, kg, kf⟩ hF hs
          obtain ⟨h0, h1, -⟩ := hs
          replace h0 : ρ (.tmp 28) = .agg #[.int .i64 (L), .slice J n cj, .slice K n ck] := h0
          replace h1 : ρ (.tmp 29) = .agg #[.slice P np cp, .int .i64 (sp), .int .i64 (ga), .int .i64 (li)] := h1
          go_simp
          refine (HOP.out _ (X.out.trans hF)).mono ?_; rintro e w' ⟨A', c', rfl, hr, hn1, hl1, hx⟩; exact ⟨_, rfl, hx, A', c', rfl, hr, hn1, hl1⟩
        · intro ρ W ⟨kc, kg, kf⟩ hF hs
          obtain ⟨h0, h1, h2, h3, -⟩ := hs
          replace h0 : ρ (.tmp 25) = .agg #[.int .i64 L, .slice J n cj, .slice K n ck] := h0
          replace h1 : ρ (.tmp 26) = .agg #[.slice P np cp, .int .i64 (sp), .int .i64 (ga), .int .i64 (li)] := h1
          replace h2 : ρ (.tmp 27) = .int .i64 (t) := h2
          replace h3 : (OptC os) (ρ (.tmp 30)) W := h3
          obtain ⟨A1, c1, e1, r1, n1, b1⟩ := h3
          replace e1 : ρ (.tmp 30) = .slice A1 os.length c1 := e1
          go_simp
          exact ⟨Ext.refl _, A1, c1, rfl, r1, n1, b1⟩
        · intro ρ W ⟨kc, kg, kf⟩ hF hs
          exact ⟨W.alloc (.cells #[.int .i64 0, .slice none 0 0, .slice none 0 0, .slice none 0 0, .int .i64 0, .int .i64 0, .int .i64 0, .int .i64 0, .slice none 0 0] 77), (by go_simp), by simp, Ext.alloc _ _, _, rfl, hF.size, Blk.new _ _ _⟩
      · intro fv U hF hs hap σ hσ ρ ⟨kc, kg, kf⟩ hr
        obtain ⟨-, -, -, -, -, -, -, h31, h9, -⟩ := hs
        replace h31 : (BldF (fun O co => .agg #[.int .i64 L, .slice J n cj, .slice K n ck, .slice P np cp, .int .i64 sp, .int .i64 ga, .int .i64 li, .int .i64 t, .slice O os.length co]) os) (fv 31) U := h31
        replace h9 : (NewP W1.heap.size 77 #[.int .i64 0, .slice none 0 0, .slice none 0 0, .slice none 0 0, .int .i64 0, .int .i64 0, .int .i64 0, .int .i64 0, .slice none 0 0]) (fv 9) U := h9
        obtain ⟨r0, r1, -⟩ := hr
        replace r0 : ρ (.tmp 9) = fv 9 := r0
        replace r1 : ρ (.tmp 31) = fv 31 := r1
        obtain ⟨O, co, hv31, hr31, hn31, hl31⟩ := h31
        rw [hv31] at r1
        obtain ⟨q9, hq9, hqs9, hb9⟩ := h9
        rw [hq9] at r0
        have f9_0 := hb9.free 0
        have c9_0 : U.cell? ⟨q9, 0, none⟩ = some (.int .i64 0) := hb9.cell 0
        have f9_1 := hb9.free 1
        have c9_1 : U.cell? ⟨q9, 1, none⟩ = some (.slice none 0 0) := hb9.cell 1
        have f9_2 := hb9.free 2
        have c9_2 : U.cell? ⟨q9, 2, none⟩ = some (.slice none 0 0) := hb9.cell 2
        have f9_3 := hb9.free 3
        have c9_3 : U.cell? ⟨q9, 3, none⟩ = some (.slice none 0 0) := hb9.cell 3
        have f9_4 := hb9.free 4
        have c9_4 : U.cell? ⟨q9, 4, none⟩ = some (.int .i64 0) := hb9.cell 4
        have f9_5 := hb9.free 5
        have c9_5 : U.cell? ⟨q9, 5, none⟩ = some (.int .i64 0) := hb9.cell 5
        have f9_6 := hb9.free 6
        have c9_6 : U.cell? ⟨q9, 6, none⟩ = some (.int .i64 0) := hb9.cell 6
        have f9_7 := hb9.free 7
        have c9_7 : U.cell? ⟨q9, 7, none⟩ = some (.int .i64 0) := hb9.cell 7
        have f9_8 := hb9.free 8
        have c9_8 : U.cell? ⟨q9, 8, none⟩ = some (.slice none 0 0) := hb9.cell 8
        refine stores_one _ rfl hσ (((((((((U.setCell ⟨q9, 0, none⟩ (.int .i64 L)).setCell ⟨q9, 1, none⟩ (.slice J n cj)).setCell ⟨q9, 2, none⟩ (.slice K n ck)).setCell ⟨q9, 3, none⟩ (.slice P np cp)).setCell ⟨q9, 4, none⟩ (.int .i64 sp)).setCell ⟨q9, 5, none⟩ (.int .i64 ga)).setCell ⟨q9, 6, none⟩ (.int .i64 li)).setCell ⟨q9, 7, none⟩ (.int .i64 t)).setCell ⟨q9, 8, none⟩ (.slice O os.length co)) (by go_simp) ?_
        obtain ⟨V, hV⟩ : ∃ Vx, Vx = ((((((((U.setCell ⟨q9, 0, none⟩ (.int .i64 L)).setCell ⟨q9, 1, none⟩ (.slice J n cj)).setCell ⟨q9, 2, none⟩ (.slice K n ck)).setCell ⟨q9, 3, none⟩ (.slice P np cp)).setCell ⟨q9, 4, none⟩ (.int .i64 sp)).setCell ⟨q9, 5, none⟩ (.int .i64 ga)).setCell ⟨q9, 6, none⟩ (.int .i64 li)).setCell ⟨q9, 7, none⟩ (.int .i64 t)).setCell ⟨q9, 8, none⟩ (.slice O os.length co) := ⟨_, rfl⟩
        rw [← hV]
        have K9 := Lib.hid (show Blk V q9 77 #[.int .i64 L, .slice J n cj, .slice K n ck, .slice P np cp, .int .i64 sp, .int .i64 ga, .int .i64 li, .int .i64 t, .slice O os.length co] by rw [hV]; exact blk9_same hb9 _ _ _ _ _ _ _ _ _)
        have XN := Lib.hid (show Ext W1 V by rw [hV]; exact ext9 hF hqs9 _ _ _ _ _ _ _ _ _)
        have L9 := Lib.hid hqs9
        have HO := Lib.hid (show RowsAt 3 Sk.enc V O os by rw [hV]; exact rows_nine hr31 hb9 _ _ _ _ _ _ _ _ _)
        have HCO := Lib.hid hl31
        clear hr31 hn31 hl31 hv31
        clear f9_0 c9_0 f9_1 c9_1 f9_2 c9_2 f9_3 c9_3 f9_4 c9_4 f9_5 c9_5 f9_6 c9_6 f9_7 c9_7 f9_8 c9_8
        clear hV hF hap hσ r0 r1 kc kg kf hb9 hqs9
        simp only [fin, List.filterMap]
        go_simp
        try rw [hq9]
        clear hq9
        clear ρ σ 
        replace X := Lib.hid (X.out.trans XN.out)
        clear y0_0 y0_1 y0_2 y1_0 y1_1 y1_2 y1_3 XN L9 HOP
        go_wp2
        go_loopw [32] (fun i wr => ∃ k : Nat, k ≤ 5 ∧ i = .int .i64 (k : Int) ∧ fv0 = fewRk n li pf os k ∧ Ext w wr ∧ Ext V wr) (fun i _ => 5 - (intOf i).toNat)
        case atStart => exact ⟨0, by omega, rfl, HV2.out, X.out, Ext.refl _⟩
        case round =>
          clear X HV2
          obtain ⟨k, hk, rfl, hr, hx, hx2⟩ := hrel
          have X := Lib.hid hx
          have XV := Lib.hid hx2
          have R := Lib.hid hr
          clear hx hx2 hr
          by_cases hlt : k < 5
          · have HCA := Lib.hid (HFI.out wr O co k X.out (HO.out.ext XV.out) HCO.out (by omega))
            have HS := Lib.hid (R.out.trans (HST.out k hlt))
            have hki : (k : Int) < 5 := by omega
            clear R
            generalize srch n li pf os k [] 0 = r at HS HCA
            have s0 : wr.cell? ⟨q9, 0, none⟩ = some (.int .i64 L) := (K9.out.ext XV.out).cell 0
            have s1 : wr.cell? ⟨q9, 1, none⟩ = some (.slice J n cj) := (K9.out.ext XV.out).cell 1
            have s2 : wr.cell? ⟨q9, 2, none⟩ = some (.slice K n ck) := (K9.out.ext XV.out).cell 2
            have s3 : wr.cell? ⟨q9, 3, none⟩ = some (.slice P np cp) := (K9.out.ext XV.out).cell 3
            have s4 : wr.cell? ⟨q9, 4, none⟩ = some (.int .i64 sp) := (K9.out.ext XV.out).cell 4
            have s5 : wr.cell? ⟨q9, 5, none⟩ = some (.int .i64 ga) := (K9.out.ext XV.out).cell 5
            have s6 : wr.cell? ⟨q9, 6, none⟩ = some (.int .i64 li) := (K9.out.ext XV.out).cell 6
            have s7 : wr.cell? ⟨q9, 7, none⟩ = some (.int .i64 t) := (K9.out.ext XV.out).cell 7
            have s8 : wr.cell? ⟨q9, 8, none⟩ = some (.slice O os.length co) := (K9.out.ext XV.out).cell 8
            cases r with
            | none =>
              have HS2 := Lib.hid (show fv0 = fewRk n li pf os (k + 1) from HS.out)
              clear HS
              go_wp2_with (go_at_call 29; refine (HCA.out).mono ?_; rintro e W5 ⟨A2, m2, c2, rfl, -, hx⟩; replace X := Lib.hid (X.out.trans hx); replace XV := Lib.hid (XV.out.trans hx); clear hx)
              go_roundw
              case rel => exact ⟨k + 1, by omega, by go_num, HS2.out, X.out, XV.out⟩
              case measure => simp [intOf]; omega
            | some p =>
              have HS2 := Lib.hid (show fv0 = some p from HS.out)
              clear HS
              go_wp2_with (go_at_call 29; refine (HCA.out).mono ?_; rintro e W5 ⟨A2, m2, c2, rfl, hp, hx⟩; replace X := Lib.hid (X.out.trans hx); have HP := Lib.hid (hp p rfl); clear hx hp)
              go_ret2
              exact ⟨A2, m2, c2, by rw [HC2.out, HS2.out]; rfl, (fun h => by rw [HS2.out] at h; cases h), (fun p' h => by rw [HS2.out] at h; cases h; exact HP.out), X.out⟩
          · obtain rfl : k = 5 := by omega
            have HR := Lib.hid (R.out.trans HEN.out)
            go_wp2
            go_ret2
            exact ⟨none, 0, 0, by rw [HC2.out, HR.out]; rfl, fun _ => ⟨rfl, rfl, rfl⟩, (fun p h => by rw [HR.out] at h; cases h), X.out⟩
    · have hz2 : (z != 0) = true := by simp [hz]
      have HV2 := Lib.hid (show fv0 = none by rw [HV.out, if_neg hz])
      have HC2 := Lib.hid (show fc = z by rw [HC.out, if_neg hz])
      clear hz HV HC HOK
      go_wp2
      go_ret2
      exact ⟨none, 0, 0, by rw [HC2.out]; rfl, fun _ => ⟨rfl, rfl, rfl⟩, (fun p h => by rw [HV2.out] at h; cases h), X.out⟩

end Go.Proofs.YtjdilmmpdlcimaaGreat
