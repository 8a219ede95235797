/- The reference of presses. Copies of shafts that are owned. Small references of strokes. The reference of strokes. -/
import Derived.Test.YtjdilmmpdlcimaaGreatEA
import Derived.Test.YtjdilmmpdlcimaaGreatC2
import Derived.Test.YtjdilmmpdlcimaaGreatC6
import Derived.Test.YtjdilmmpdlcimaaGreatQ1
import Derived.Test.YtjdilmmpdlcimaaGreatC5
import Derived.Lib.MinMax
import Derived.Deep.DeepCutAuto
import Derived.BigQuiet
import Derived.Laws.AppendOwn
import Derived.Laws.AppendOwnNone

namespace Go.Proofs.YtjdilmmpdlcimaaGreat
open Go.RowKit Go.Shelf Go.Mem Go.RegInv
attribute [local go_sem] RelUpon_value RelUpon_skip RelUpon_enter BigFrame.eval_const BigFrame.eval_global BigFrame.eval_func


theorem checkP_head {am : List Int} {sp ga li z : Int} (h : headP am.length = z) (hz : z ≠ 0) : checkP am sp ga li = (0, z) := by
  unfold checkP
  rw [h, if_pos hz]
theorem checkP_loop {am : List Int} {sp ga li : Int} (h : headP am.length = 0) : checkP am sp ga li = if (firstAt (pressK am) am.length 0).2 ≠ 0 then firstAt (pressK am) am.length 0 else (0, tailP sp ga li) := by
  unfold checkP
  rw [h, if_neg (by decide)]
theorem headP_if (n : Nat) : headP n = if n = 0 then 10 else if 3 < n then 8 else 0 := by
  unfold headP
  by_cases h : n = 0
  · rw [if_pos h, errIf_t _ _ (by simp [h]), firstE_consN _ (by decide)]
  · rw [if_neg h, errIf_f _ _ (by simp; omega), firstE_cons0, firstE_one]
    by_cases h2 : 3 < n
    · rw [if_pos h2, errIf_t _ _ (by simp; omega)]
    · rw [if_neg h2, errIf_f _ _ (by simp; omega)]
theorem tailP_if (sp ga li : Int) : tailP sp ga li = if rangeE 0 10000 [sp] = 0 then (if rangeE 0 1000 [ga] = 0 then rangeE 0 40000 [li] else 2) else 2 := by
  unfold tailP
  rw [rangeE_one, rangeE_one, rangeE_one]
  by_cases h1 : 0 ≤ sp ∧ sp ≤ 10000
  · rw [if_pos h1, if_pos rfl, firstE_cons0]
    by_cases h2 : 0 ≤ ga ∧ ga ≤ 1000
    · rw [if_pos h2, if_pos rfl, firstE_cons0, firstE_one]
    · rw [if_neg h2, firstE_consN _ (by decide)]; simp
  · rw [if_neg h1, firstE_consN _ (by decide)]; simp
set_option maxRecDepth 100000 in
set_option maxHeartbeats 4000000 in
theorem refCheckPress_any {P : Option Addr} {np cp : Nat} {am : List Int} {sp ga li : Int} {w : World} (hnp : am.length = np) (hP : RowsAt 1 I1 w P am) :
    Calls Tryz.prog 57 #[.agg #[.slice P np cp, .int .i64 sp, .int .i64 ga, .int .i64 li]] w fun e w' => e = .returned (.tuple #[.int .i64 (checkP am sp ga li).1, .int .i64 (checkP am sp ga li).2]) ∧ Ext w w' := by
  have HN := Lib.hid hnp
  have HP := Lib.hid hP
  have HH := headP_if np
  have HC := Lib.hid (fun z (h : headP np = z) (hz : z ≠ 0) => checkP_head (am := am) (sp := sp) (ga := ga) (li := li) (z := z) (by rw [hnp]; exact h) hz)
  have HL := Lib.hid (fun (h : headP np = 0) => show checkP am sp ga li = if (firstAt (pressK am) np 0).2 ≠ 0 then firstAt (pressK am) np 0 else (0, tailP sp ga li) by rw [checkP_loop (by rw [hnp]; exact h), hnp])
  have HTP := tailP_if sp ga li
  have hnb : np ≤ 1152921504606846976 := by have := hP.1; omega
  generalize checkP am sp ga li = cs at *
  generalize tailP sp ga li = tp at *
  clear hnp hP
  obtain ⟨W0, hW0⟩ : ∃ W0, W0 = w.alloc (.cells #[.slice P np cp, .int .i64 sp, .int .i64 ga, .int .i64 li] 27) := ⟨_, rfl⟩
  have K0 := Lib.hid (show Blk W0 (w.heap.size) 27 #[.slice P np cp, .int .i64 sp, .int .i64 ga, .int .i64 li] by rw [hW0]; exact Blk.new _ _ _)
  have E0 := Lib.hid (show Ext w W0 by rw [hW0]; exact Ext.alloc _ _)
  have y0_0 : W0.cell? ⟨w.heap.size, 0, none⟩ = some (.slice P np cp) := K0.out.cell 0
  have y0_1 : W0.cell? ⟨w.heap.size, 1, none⟩ = some (.int .i64 sp) := K0.out.cell 1
  have y0_2 : W0.cell? ⟨w.heap.size, 2, none⟩ = some (.int .i64 ga) := K0.out.cell 2
  have y0_3 : W0.cell? ⟨w.heap.size, 3, none⟩ = some (.int .i64 li) := K0.out.cell 3
  by_cases h1 : np = 0
  · subst h1
    have HV := Lib.hid (HC.out 10 (by rw [HH, if_pos rfl]) (by decide))
    clear HC HL HH HTP
    go_enter Tryz.func57, Tryz.ntmps57
    go_upto_region 1 with (fail)
    rw [← hW0]
    clear hW0
    go_wp2
    go_ret2
    exact ⟨ret_two (by rw [HV.out]) (by rw [HV.out]), E0.out⟩
  · have hd : ((np : Int) == 0) = false := by simp; omega
    by_cases h2 : 3 < np
    · have hd2 : decide ((3 : Int) < (np : Int)) = true := by simp; omega
      have HV := Lib.hid (HC.out 8 (by rw [HH, if_neg h1, if_pos h2]) (by decide))
      clear HC HL HH HTP h1 h2
      go_enter Tryz.func57, Tryz.ntmps57
      go_upto_region 1 with (fail)
      rw [← hW0]
      clear hW0
      go_wp2
      go_ret2
      exact ⟨ret_two (by rw [HV.out]) (by rw [HV.out]), E0.out⟩
    · have hd2 : decide ((3 : Int) < (np : Int)) = false := by simp; omega
      have HV := Lib.hid (HL.out (by rw [HH, if_neg h1, if_neg h2]))
      clear HC HL HH h1 h2
      obtain ⟨fa, hfa⟩ : ∃ f, f = firstAt (pressK am) np 0 := ⟨_, rfl⟩
      rw [← hfa] at HV
      have HF := Lib.hid hfa
      clear hfa
      go_enter Tryz.func57, Tryz.ntmps57
      go_upto_region 1 with (fail)
      rw [← hW0]
      clear hW0
      go_wp2
      clear y0_0 y0_1 y0_2 y0_3 hd hd2
      go_loopw [4] (fun i wr => ∃ k : Nat, k ≤ np ∧ i = .int .i64 (k : Int) ∧ fa = firstAt (pressK am) (np - k) k ∧ Ext w wr ∧ Blk wr w.heap.size 27 #[.slice P np cp, .int .i64 sp, .int .i64 ga, .int .i64 li]) (fun i _ => np - (intOf i).toNat)
      case atStart => exact ⟨0, by omega, rfl, HF.out, E0.out, K0.out⟩
      case round =>
        clear E0 K0 HF
        obtain ⟨k, hk, rfl, hr, hx, k0⟩ := hrel
        have X := Lib.hid hx
        have K0 := Lib.hid k0
        have R := Lib.hid hr
        clear hx k0 hr
        by_cases hlt : k < np
        · obtain ⟨jb, jo, rfl, hjb, hjc⟩ := row_I1 (HP.out.ext X.out) (i := k) (by have := HN.out; omega)
          have HJI := pressK_if am k
          have HHE := Lib.hid (fun z (hz : pressK am k = z) (h0 : z ≠ 0) => R.out.trans (firstAt_here _ hlt hz h0))
          have HNX := Lib.hid (fun (hz : pressK am k = 0) => R.out.trans (firstAt_next _ hlt hz))
          have HPV := Lib.hid (fun (h : 0 < k) => row_I1 (HP.out.ext X.out) (i := k - 1) (by have := HN.out; omega))
          have hki : (k : Int) < (np : Int) := by omega
          generalize hjk : pressK am k = jk at *
          generalize am.getD k 0 = j at *
          have z0 : wr.cell? ⟨w.heap.size, 0, none⟩ = some (.slice (some ⟨jb, jo, none⟩) np cp) := K0.out.cell 0
          by_cases g1 : 1 ≤ j ∧ j ≤ 10000
          · rw [if_pos g1] at HJI
            have HWI := Lib.hid (fun W => show Calls Tryz.prog 35 #[.int .i64 j, .int .i64 1, .int .i64 10000] W fun e w' => e = .returned (.bool true) ∧ W = w' from by
              have := within_any j 1 10000 W
              rw [withinB_t g1] at this
              exact this)
            clear g1
            go_wp2_with (go_at_call 35; refine (HWI.out _).mono ?_; rintro e w' ⟨rfl, rfl⟩; refine Hid.out ?_)
            refine Lib.hid ?_
            clear HWI
            rcases (show k = 0 ∨ 0 < k by omega) with hk0 | hk0
            · rw [if_neg (by simp [hk0])] at HJI
              have hg : decide (0 < k) = false := by simp; omega
              have HV2 := Lib.hid (HNX.out HJI)
              clear HPV hk0 HHE HNX HJI
              go_upto_region 10 with (fail)
              go_quiet (fail)
              go_wp2
              go_roundw
              case rel => exact ⟨k + 1, by omega, by go_num, HV2.out, X.out.trans (Ext.drewN _ _), K0.out⟩
              case measure => simp [intOf]; omega
            · obtain ⟨jb2, jo2, hje, hjb2, hpc⟩ := HPV.out hk0
              obtain ⟨rfl, rfl⟩ : jb = jb2 ∧ jo = jo2 := by simpa using hje
              have hg : decide (0 < k) = true := by simp; omega
              have hb1 : (k : Int) - 1 < (np : Int) := by omega
              have hb3 : (0 : Int) ≤ (k : Int) - 1 := by omega
              have hb6 : (1 : Int) ≤ (k : Int) := by omega
              have hb7 : ((k : Int) - 1).toNat = k - 1 := by omega
              generalize am.getD (k - 1) 0 = j0 at *
              generalize hkm : k - 1 = km at *
              by_cases g2 : j ≤ j0
              · rw [if_pos ⟨by omega, g2⟩] at HJI
                have HV2 := Lib.hid (HV.out.trans (by rw [HHE.out 9 HJI (by decide), if_pos (by show (9 : Int) ≠ 0; decide)]) : cs = ((k : Int), 9))
                have hd : decide (j ≤ j0) = true := by simp [g2]
                clear HHE HNX HPV hje hjb2 g2 hkm HJI HV HTP R
                go_upto_region 10 with (fail)
                go_quiet (fail)
                go_wp2
                go_ret2
                exact ⟨ret_two (by rw [HV2.out]) (by rw [HV2.out]), X.out.trans (Ext.drewN _ _)⟩
              · rw [if_neg (fun h => g2 h.2)] at HJI
                have HV2 := Lib.hid (HNX.out HJI)
                have hd : decide (j ≤ j0) = false := by simp; omega
                clear HHE HNX HPV hje hjb2 g2 hkm HJI
                go_upto_region 10 with (fail)
                go_quiet (fail)
                go_wp2
                go_roundw
                case rel => exact ⟨k + 1, by omega, by go_num, HV2.out, X.out.trans (Ext.drewN _ _), K0.out⟩
                case measure => simp [intOf]; omega
          · rw [if_neg g1] at HJI
            have HWI := Lib.hid (fun W => show Calls Tryz.prog 35 #[.int .i64 j, .int .i64 1, .int .i64 10000] W fun e w' => e = .returned (.bool false) ∧ W = w' from by
              have := within_any j 1 10000 W
              rw [withinB_f g1] at this
              exact this)
            have HV2 := Lib.hid (HV.out.trans (by rw [HHE.out 2 HJI (by decide), if_pos (by show (2 : Int) ≠ 0; decide)]) : cs = ((k : Int), 2))
            clear g1 HHE HNX HPV HJI HV HTP R
            go_wp2_with (go_at_call 35; refine (HWI.out _).mono ?_; rintro e w' ⟨rfl, rfl⟩)
            go_ret2
            exact ⟨ret_two (by rw [HV2.out]) (by rw [HV2.out]), X.out⟩
        · obtain rfl : k = np := by omega
          have hkn : ¬ (k : Int) < (k : Int) := by omega
          replace HV := Lib.hid (HV.out.trans (by rw [R.out, Nat.sub_self, if_neg (by simp [firstAt])]) : cs = (0, tp))
          clear R
          obtain ⟨V, hV⟩ : ∃ V, V = wr := ⟨_, rfl⟩
          rw [← hV] at X K0 ⊢
          clear hV
          have z0 : V.cell? ⟨w.heap.size, 0, none⟩ = some (.slice P k cp) := K0.out.cell 0
          have z1 : V.cell? ⟨w.heap.size, 1, none⟩ = some (.int .i64 sp) := K0.out.cell 1
          have z2 : V.cell? ⟨w.heap.size, 2, none⟩ = some (.int .i64 ga) := K0.out.cell 2
          have z3 : V.cell? ⟨w.heap.size, 3, none⟩ = some (.int .i64 li) := K0.out.cell 3
          rw [rangeE_one, rangeE_one, rangeE_one] at HTP
          by_cases g1 : 0 ≤ sp ∧ sp ≤ 10000
          · rw [if_pos g1] at HTP
            have HA1 := Lib.hid (withinB_t g1)
            by_cases g2 : 0 ≤ ga ∧ ga ≤ 1000
            · rw [if_pos g2] at HTP
              have HA2 := Lib.hid (withinB_t g2)
              by_cases g3 : 0 ≤ li ∧ li ≤ 40000
              · rw [if_pos g3] at HTP
                have HA3 := Lib.hid (withinB_t g3)
                have HT := Lib.hid (show tp = 0 from by simpa using HTP)
                clear g1 g2 g3 HTP
                go_wp2_with (go_at_call 35; refine (within_any _ _ _ _).mono ?_; rintro e w' ⟨rfl, rfl⟩; first | rw [HA1.out] | rw [HA2.out] | rw [HA3.out])
                go_ret2
                exact ⟨ret_two (by rw [HV.out, HT.out]) (by rw [HV.out, HT.out]), X.out⟩
              · rw [if_neg g3] at HTP
                have HA3 := Lib.hid (withinB_f g3)
                have HT := Lib.hid (show tp = 2 from by simpa using HTP)
                clear g1 g2 g3 HTP
                go_wp2_with (go_at_call 35; refine (within_any _ _ _ _).mono ?_; rintro e w' ⟨rfl, rfl⟩; first | rw [HA1.out] | rw [HA2.out] | rw [HA3.out])
                go_ret2
                exact ⟨ret_two (by rw [HV.out, HT.out]) (by rw [HV.out, HT.out]), X.out⟩
            · rw [if_neg g2] at HTP
              have HA2 := Lib.hid (withinB_f g2)
              have HT := Lib.hid (show tp = 2 from by simpa using HTP)
              have HA3 := HA2
              clear g1 g2 HTP
              go_wp2_with (go_at_call 35; refine (within_any _ _ _ _).mono ?_; rintro e w' ⟨rfl, rfl⟩; first | rw [HA1.out] | rw [HA2.out] | rw [HA3.out])
              go_ret2
              exact ⟨ret_two (by rw [HV.out, HT.out]) (by rw [HV.out, HT.out]), X.out⟩
          · rw [if_neg g1] at HTP
            have HA1 := Lib.hid (withinB_f g1)
            have HT := Lib.hid (show tp = 2 from by simpa using HTP)
            have HA2 := HA1
            have HA3 := HA1
            clear g1 HTP
            go_wp2_with (go_at_call 35; refine (within_any _ _ _ _).mono ?_; rintro e w' ⟨rfl, rfl⟩; first | rw [HA1.out] | rw [HA2.out] | rw [HA3.out])
            go_ret2
            exact ⟨ret_two (by rw [HV.out, HT.out]) (by rw [HV.out, HT.out]), X.out⟩
theorem refPressErr_any {P : Option Addr} {np cp : Nat} {am : List Int} {sp ga li : Int} {w : World} (hnp : am.length = np) (hP : RowsAt 1 I1 w P am) :
    Calls Tryz.prog 34 #[.agg #[.slice P np cp, .int .i64 sp, .int .i64 ga, .int .i64 li]] w fun e w' => e = .returned (.int .i64 (checkP am sp ga li).2) ∧ Ext w w' := by
  have HC := Lib.hid (fun W (e : Ext w W) => refCheckPress_any (cp := cp) (sp := sp) (ga := ga) (li := li) hnp (hP.ext e))
  clear hnp hP
  go_enter Tryz.func34, Tryz.ntmps34
  go_wp2_with (go_at_call 57; refine (HC.out _ (Ext.alloc _ _)).mono ?_; rintro e W1 ⟨rfl, hx⟩; have X1 := Lib.hid ((Ext.alloc _ _).trans hx); clear hx)
  go_ret
  exact ⟨rfl, X1.out⟩


theorem wpList_copyW {α : Type} {W : World} {ops : Array Oper} {rest : List Oper} {o : Oper} {a : Act} {Q : Exit → Act → World → Prop} (hgd : o.guard = none) (s x : Operand) (t : TypeId)
    (ho : o.op = .call { callee := .builtin .append, args := #[s, x], argTypes := #[t, t] })
    (e : TypeId) (i : TypeInfo) (z : Value) (size bytes : Nat) (ht : Tryz.prog.underlying t = some (.slice e)) (hi : Tryz.prog.info? e = some i) (hz : i.zero = some z)
    (hsize : i.size = size) (hby : i.bytes = bytes) (hzs : z.cells.size = size) (hsz : 0 < size) (hb1 : bytes ≤ 1000)
    (enc : α → List Value) (hk : ∀ x, (enc x).length = size) (h1 : ∀ x, ∀ u ∈ enc x, u.oneCell' = true)
    (hs : a.eval s = .slice (some ⟨W.heap.size, 0, none⟩) 0 0) (A : Option Addr) (n ca : Nat) (xs : List α) (hx : a.eval x = .slice A n ca) (hn : xs.length = n) (hA : RowsAt size enc W A xs) (h6 : n ≤ 1000) (hnil : A = none → ca = 0)
    (h : ∀ A' c' w', w'.ownsRow W.heap.size e size (.slice A' n c') n (xs.flatMap enc) → Ext W w' → wpList Tryz.prog ops Q rest (a.put o.dst (.slice A' n c')) w') :
    wpList Tryz.prog ops Q (o :: rest) a (W.alloc (.cells #[] e)) := by
  have hown : (W.alloc (.cells #[] e)).ownsRow W.heap.size e size (.slice (some ⟨W.heap.size, 0, none⟩) 0 0) 0 [] :=
    ⟨by simp, .inr ⟨W.heap.size, 0, #[], rfl, Nat.le_refl _, Blk.new W e #[], Nat.le_refl _, by unfold maxLen; omega, by simp, by simp⟩⟩
  cases A with
  | none =>
    obtain rfl : xs = [] := by
      cases xs with
      | nil => rfl
      | cons x l => obtain ⟨b, o, h, _⟩ := hA.2 0 x rfl; cases h
    obtain rfl := hnil rfl
    obtain rfl : n = 0 := by simpa using hn.symm
    refine wpList_append_own_none hgd s x t ho W.heap.size e i size ht hi _ _ _ hs hown hx ?_
    exact h _ _ _ hown (Ext.alloc _ _)
  | some ad =>
    have hnews : ∀ j u, (xs.flatMap enc)[j]? = some u → (W.alloc (.cells #[] e)).cell? (ad.add j) = some u := fun j u hu => by
      obtain ⟨s, hs, hj⟩ := flat_idx (k := size) (enc := enc) hsz hk xs j u hu
      obtain ⟨b, o, e', _, hc⟩ := hA.2 _ s hs
      obtain rfl : ad = ⟨b, o, none⟩ := by simpa using e'
      have := (Ext.alloc W (.cells #[] e)).cell (hc _ _ hj)
      have hdm := Nat.div_add_mod j size
      rw [Nat.mul_comm] at hdm
      rw [WideShapes.add_plain, show o + j = o + j / size * size + j % size by omega]; exact this
    refine wpList_append_own _ hgd s x t ho W.heap.size e i z size bytes ht hi hz hsize hby hzs hsz _ _ _ hs hown ad n ca (xs.flatMap enc) hx (by rw [flat_lenG hk, hn]) hnews (flat_one h1 xs) (by unfold maxLen; omega) (by
      have := Nat.mul_le_mul h6 hb1
      rw [Nat.zero_add]; omega) (by simp) ?_
    intro v' w1 hown' hgrow hnone
    have hE : Ext W w1 := Ext.grownBy (Ext.alloc W _) hgrow (fun g hg => own_base hown hg)
    obtain ⟨A', c', hv'⟩ := own_slice hown'
    rw [Nat.zero_add] at hv'
    subst hv'
    rw [Nat.zero_add, List.nil_append] at hown'
    exact h A' c' w1 hown' hE

theorem own_low {W : World} {base base2 n k : Nat} {e : TypeId} {v : Value} {xs : List Value} (h : W.ownsRow base e k v n xs) (hb : base2 ≤ base) : W.ownsRow base2 e k v n xs := by
  refine ⟨h.1, ?_⟩
  rcases h.2 with h2 | ⟨g, cap, cu, hv, hg, r⟩
  · exact .inl h2
  · exact .inr ⟨g, cap, cu, hv, by omega, r⟩
theorem own_at {W : World} {base n k c : Nat} {e : TypeId} {R : Option Addr} {xs : List Value} (h : W.ownsRow base e k (.slice R n c) n xs) (hn : 1 ≤ n) : ∃ g, R = some ⟨g, 0, none⟩ ∧ base ≤ g := by
  rcases h.2 with ⟨_, rfl⟩ | ⟨g, cap, cu, hv, hg, r⟩
  · omega
  · exact ⟨g, by simpa using (Value.slice.inj hv).1, hg⟩
theorem own_nil {W : World} {base n k c : Nat} {e : TypeId} {R : Option Addr} {xs : List Value} (h : W.ownsRow base e k (.slice R n c) n xs) : R = none → c = 0 := by
  intro hR
  rcases h.2 with ⟨hv, rfl⟩ | ⟨g, cap, cu, hv, hg, r⟩
  · exact (Value.slice.inj hv).2.2
  · rw [hR] at hv; cases (Value.slice.inj hv).1
theorem own_cap {W : World} {base n k c : Nat} {e : TypeId} {R : Option Addr} {xs : List Value} (h : W.ownsRow base e k (.slice R n c) n xs) : n ≤ c := by
  rcases h.2 with ⟨hv, rfl⟩ | ⟨g, cap, cu, hv, hg, hh, hc, r⟩
  · omega
  · have := (Value.slice.inj hv).2.2; omega
theorem own_blk {W : World} {base n k c g : Nat} {e : TypeId} {xs : List Value} (h : W.ownsRow base e k (.slice (some ⟨g, 0, none⟩) n c) n xs) : ∃ cu, Blk W g e cu ∧ n * k ≤ cu.size ∧ cu.toList.take (n * k) = xs := by
  rcases h.2 with ⟨hv, _⟩ | ⟨g', cap, cu, hv, hg, hh, hc, hm, hs, ht⟩
  · cases (Value.slice.inj hv).1
  · obtain rfl : g = g' := by have := (Value.slice.inj hv).1; simpa using this
    exact ⟨cu, hh, by rw [hs]; exact Nat.mul_le_mul_right k hc, ht⟩
theorem own_cell {W : World} {base n k c g : Nat} {e : TypeId} {xs : List Value} (h : W.ownsRow base e k (.slice (some ⟨g, 0, none⟩) n c) n xs) {i : Nat} {u : Value} (hu : xs[i]? = some u) : W.cell? ⟨g, i, none⟩ = some u ∧ W.frozen? ⟨g, i, none⟩ = false := by
  obtain ⟨cu, hb, hs, ht⟩ := own_blk h
  refine ⟨?_, hb.free i⟩
  rw [hb.cell]
  have hi : i < n * k := by rw [← h.1]; exact (List.getElem?_eq_some_iff.1 hu).1
  rw [← ht, List.getElem?_take, if_pos hi] at hu
  simpa using hu
theorem own_setCell {W : World} {base n k c g : Nat} {e : TypeId} {xs : List Value} (h : W.ownsRow base e k (.slice (some ⟨g, 0, none⟩) n c) n xs) (i : Nat) (u : Value) : (W.setCell ⟨g, i, none⟩ u).ownsRow base e k (.slice (some ⟨g, 0, none⟩) n c) n (xs.set i u) := by
  refine ⟨by simpa using h.1, ?_⟩
  rcases h.2 with ⟨hv, _⟩ | ⟨g', cap, cu, hv, hg, hh, hc, hm, hs, ht⟩
  · cases (Value.slice.inj hv).1
  · obtain rfl : g = g' := by have := (Value.slice.inj hv).1; simpa using this
    refine .inr ⟨g, cap, cu.setIfInBounds i u, hv, hg, Blk.setSame hh i u, hc, hm, by simpa using hs, ?_⟩
    rw [Array.toList_setIfInBounds, List.take_set, ht]
theorem flat_atG {α : Type} {k : Nat} {enc : α → List Value} (hk : ∀ x, (enc x).length = k) : ∀ (zs : List α) (i : Nat) (x : α) (j : Nat) (u : Value), zs[i]? = some x → (enc x)[j]? = some u → (zs.flatMap enc)[i * k + j]? = some u
  | [], i, x, j, u, h, _ => by simp at h
  | y :: zs, 0, x, j, u, h, hu => by
    obtain rfl : y = x := by simpa using h
    have hj := (List.getElem?_eq_some_iff.1 hu).1
    rw [List.flatMap_cons, List.getElem?_append_left (by omega)]
    simpa using hu
  | y :: zs, i + 1, x, j, u, h, hu => by
    rw [List.flatMap_cons, List.getElem?_append_right (by rw [hk, Nat.succ_mul]; omega), hk, show (i + 1) * k + j - k = i * k + j by rw [Nat.succ_mul]; omega]
    exact flat_atG hk zs i x j u (by simpa using h) hu
theorem flat_setRg (a b : Int) : ∀ (zs : List Rg) (i : Nat), i < zs.length → ((zs.flatMap Rg.enc).set (i * 2) (.int .i64 a)).set (i * 2 + 1) (.int .i64 b) = (zs.set i (a, b)).flatMap Rg.enc
  | [], i, h => by simp at h
  | y :: zs, 0, h => by simp [Rg.enc]
  | y :: zs, i + 1, h => by
    have ih := flat_setRg a b zs i (by simpa using h)
    rw [List.set_cons_succ, List.flatMap_cons, List.flatMap_cons, ← ih, show (i + 1) * 2 = i * 2 + 1 + 1 by omega, show i * 2 + 1 + 1 + 1 = i * 2 + 1 + 1 + 1 from rfl]
    simp [Rg.enc]
/-- The first k rows new, the others old. -/
def mixR {α : Type} (ys xs : List α) (k : Nat) : List α := ys.take k ++ xs.drop k
theorem mixR_at {α : Type} {ys xs : List α} {k : Nat} {x : α} (hl : ys.length = xs.length) (hx : xs[k]? = some x) : (mixR ys xs k)[k]? = some x := by
  have hk := (List.getElem?_eq_some_iff.1 hx).1
  unfold mixR
  rw [List.getElem?_append_right (by simp; omega), List.length_take, show k - min k ys.length = 0 by omega, List.getElem?_drop]
  simpa using hx
theorem mixR_step {α : Type} {ys xs : List α} {k : Nat} {y : α} (hl : ys.length = xs.length) (hy : ys[k]? = some y) : (mixR ys xs k).set k y = mixR ys xs (k + 1) := by
  have hk := (List.getElem?_eq_some_iff.1 hy).1
  unfold mixR
  rw [List.set_append_right _ _ (by simp; omega), List.length_take, show k - min k ys.length = 0 by omega, List.drop_eq_getElem_cons (by omega), List.set_cons_zero, List.take_add_one, hy]
  simp
theorem mixR_len {α : Type} {ys xs : List α} {k : Nat} (hl : ys.length = xs.length) (hk : k ≤ xs.length) : (mixR ys xs k).length = xs.length := by
  unfold mixR; simp; omega
theorem mixR_zero {α : Type} (ys xs : List α) : mixR ys xs 0 = xs := by simp [mixR]
theorem mixR_all {α : Type} {ys xs : List α} {n : Nat} (hl : ys.length = n) (hn : xs.length = n) : mixR ys xs n = ys := by
  unfold mixR
  rw [List.drop_of_length_le (by omega), List.take_of_length_le (by omega)]; simp

set_option maxRecDepth 100000 in
set_option maxHeartbeats 1000000 in
theorem copyIntsW_any {A : Option Addr} {n ca : Nat} {xs : List Int} {w : World} (hn : xs.length = n) (hA : RowsAt 1 I1 w A xs) (h6 : n ≤ 1000) (hnil : A = none → ca = 0) :
    Calls Tryz.prog 30 #[.slice A n ca] w fun e w' => ∃ A' c', e = .returned (.slice A' n c') ∧ w'.ownsRow w.heap.size 3 1 (.slice A' n c') n (xs.flatMap I1) ∧ Ext w w' := by
  obtain ⟨i0, hi0, hz0, ha0, hb0⟩ := info_parts infoI1G
  have I0 := Lib.hid hz0
  have HN := Lib.hid hn
  have HA := Lib.hid hA
  have HL := Lib.hid hnil
  clear hn hA hnil hz0
  go_enter Tryz.func30, Tryz.ntmps30
  go_wp2_with (at_builtin; refine wpList_copyW rfl _ _ 22 rfl 3 i0 (.int .i64 0) 1 8 (by kernel_rfl) hi0 I0.out ha0 hb0 rfl (by decide) (by decide) I1 (fun _ => rfl) I1_one rfl A n ca xs rfl HN.out HA.out (by omega) HL.out ?_; intro A' c' V0 hro hx; have XR := Lib.hid hro; have XX := Lib.hid hx; clear hro hx)
  go_ret
  exact ⟨A', c', rfl, XR.out, XX.out⟩

set_option maxRecDepth 100000 in
set_option maxHeartbeats 1000000 in
theorem copyRangesW_any {A : Option Addr} {n ca : Nat} {xs : List Rg} {w : World} (hn : xs.length = n) (hA : RowsAt 2 Rg.enc w A xs) (h6 : n ≤ 1000) (hnil : A = none → ca = 0) :
    Calls Tryz.prog 31 #[.slice A n ca] w fun e w' => ∃ A' c', e = .returned (.slice A' n c') ∧ w'.ownsRow w.heap.size 49 2 (.slice A' n c') n (xs.flatMap Rg.enc) ∧ Ext w w' := by
  obtain ⟨i0, hi0, hz0, ha0, hb0⟩ := info_parts infoRgG
  have I0 := Lib.hid hz0
  have HN := Lib.hid hn
  have HA := Lib.hid hA
  have HL := Lib.hid hnil
  clear hn hA hnil hz0
  go_enter Tryz.func31, Tryz.ntmps31
  go_wp2_with (at_builtin; refine wpList_copyW rfl _ _ 23 rfl 49 i0 (.agg #[.int .i64 0, .int .i64 0]) 2 16 (by kernel_rfl) hi0 I0.out ha0 hb0 rfl (by decide) (by decide) Rg.enc (fun _ => rfl) Rg_one rfl A n ca xs rfl HN.out HA.out (by omega) HL.out ?_; intro A' c' V0 hro hx; have XR := Lib.hid hro; have XX := Lib.hid hx; clear hro hx)
  go_ret
  exact ⟨A', c', rfl, XR.out, XX.out⟩

def OwC (base T k : Nat) (xs : List Value) (n : Nat) (v : Value) (W : World) : Prop := ∃ A c, v = .slice A n c ∧ W.ownsRow base T k (.slice A n c) n xs
theorem OwC.ext {base T k : Nat} {xs : List Value} {n : Nat} {v : Value} {W W' : World} (h : OwC base T k xs n v W) (e : Ext W W') : OwC base T k xs n v W' := by
  obtain ⟨A, c, h1, h2⟩ := h
  exact ⟨A, c, h1, own_ext h2 e⟩
def OShC (base : Nat) (L : Int) (js ks : List Value) (n m : Nat) (v : Value) (W : World) : Prop := ∃ J cj K ck, v = .agg #[.int .i64 L, .slice J n cj, .slice K m ck] ∧ W.ownsRow base 3 1 (.slice J n cj) n js ∧ W.ownsRow base 49 2 (.slice K m ck) m ks
theorem OShC.ext {base : Nat} {L : Int} {js ks : List Value} {n m : Nat} {v : Value} {W W' : World} (h : OShC base L js ks n m v W) (e : Ext W W') : OShC base L js ks n m v W' := by
  obtain ⟨J, cj, K, ck, h1, h2, h3⟩ := h
  exact ⟨J, cj, K, ck, h1, own_ext h2 e, own_ext h3 e⟩
theorem own_far {W : World} {base n k q : Nat} {e : TypeId} {v : Value} {xs : List Value} (h : W.ownsRow base e k v n xs) (hq : q < base) : some q ≠ v.ownBlock := by
  intro he
  have := own_base h he.symm
  omega
set_option maxRecDepth 100000 in
set_option maxHeartbeats 1000000 in
theorem copyShaftW_any {L : Int} {J K : Option Addr} {n m cj ck : Nat} {js : List Int} {ks : List Rg} {w : World} (hn : js.length = n) (hJ : RowsAt 1 I1 w J js) (hm : ks.length = m) (hK : RowsAt 2 Rg.enc w K ks) (hjn : J = none → cj = 0) (hkn : K = none → ck = 0) (h1 : n ≤ 1000) (h2 : m ≤ 1000) :
    Calls Tryz.prog 9 #[.agg #[.int .i64 L, .slice J n cj, .slice K m ck]] w fun e w' => ∃ J' cj' K' ck', e = .returned (.agg #[.int .i64 L, .slice J' n cj', .slice K' m ck']) ∧ w'.ownsRow w.heap.size 3 1 (.slice J' n cj') n (js.flatMap I1) ∧ w'.ownsRow w.heap.size 49 2 (.slice K' m ck') m (ks.flatMap Rg.enc) ∧ Ext w w' := by
  have HCI := Lib.hid (fun W (e : Ext w W) => copyIntsW_any (ca := cj) hn (hJ.ext e) h1 hjn)
  have HCR := Lib.hid (fun W (e : Ext w W) => copyRangesW_any (ca := ck) hm (hK.ext e) h2 hkn)
  clear hn hJ hm hK hjn hkn
  obtain ⟨W0, hW0⟩ : ∃ W0, W0 = (w.alloc (.cells #[.int .i64 L, .slice J n cj, .slice K m ck] 25)).alloc (.cells #[.int .i64 0, .slice none 0 0, .slice none 0 0] 25) := ⟨_, rfl⟩
  have K0 := Lib.hid (show Blk W0 (w.heap.size) 25 #[.int .i64 L, .slice J n cj, .slice K m ck] by rw [hW0]; exact (Blk.new _ _ _).alloc _)
  have K1 := Lib.hid (show Blk W0 (w.heap.size + 1) 25 #[.int .i64 0, .slice none 0 0, .slice none 0 0] by rw [hW0]; exact Blk.newAt _ _ _ (by simp))
  have E0 := Lib.hid (show Ext w W0 by rw [hW0]; exact (Ext.alloc _ _).trans (Ext.alloc _ _))
  have y0_0 : W0.cell? ⟨w.heap.size, 0, none⟩ = some (.int .i64 L) := K0.out.cell 0
  have y0_1 : W0.cell? ⟨w.heap.size, 1, none⟩ = some (.slice J n cj) := K0.out.cell 1
  have y0_2 : W0.cell? ⟨w.heap.size, 2, none⟩ = some (.slice K m ck) := K0.out.cell 2
  have y1_0 : W0.cell? ⟨w.heap.size + 1, 0, none⟩ = some (.int .i64 0) := K1.out.cell 0
  have y1_1 : W0.cell? ⟨w.heap.size + 1, 1, none⟩ = some (.slice none 0 0) := K1.out.cell 1
  have y1_2 : W0.cell? ⟨w.heap.size + 1, 2, none⟩ = some (.slice none 0 0) := K1.out.cell 2
  have HSZ := Lib.hid (show W0.heap.size = w.heap.size + 2 by rw [hW0]; simp)
  go_enter Tryz.func9, Tryz.ntmps9
  go_wp2
  rw [← hW0]
  clear hW0
  go_wp2
  refine wp_region_part 9 [some 3, some 4, some 5, some 6, some 7, some 8, some 9, some 10, some 11] [[1], [3], [1], [5], [6], [1], [8], [9], [4, 7, 10]]
    [Is (.pointer (some ⟨w.heap.size, 0, none⟩)), Is (.int .i64 (L)), Is (.pointer (some ⟨w.heap.size, 1, none⟩)), Is (.slice J n cj), OwC (w.heap.size + 2) 3 1 (js.flatMap I1) n, Is (.pointer (some ⟨w.heap.size, 2, none⟩)), Is (.slice K m ck), OwC (w.heap.size + 2) 49 2 (ks.flatMap Rg.enc) m, OShC (w.heap.size + 2) L (js.flatMap I1) (ks.flatMap Rg.enc) n m]
    (by kernel_rfl) (by kernel_rfl) (by kernel_rfl) (by kernel_rfl) (by kernel_rfl) (by kernel_rfl) (by kernel_rfl) Ext (fun W => Ext W0 W)
    (fun W _ => Ext.refl W) (fun W W' h k => h.trans k) ?_ (Ext.drew _) ?_ ?_
  · repeat (refine ⟨fun _ _ _ _ k h => (by first | exact h | exact (by first | exact IntsAt.ext h k | exact OwC.ext h k | exact OShC.ext h k)), ?_⟩)
    exact trivial
  · refine ⟨?_, ?_, ?_, ?_, ?_, ?_, ?_, ?_, ?_, trivial⟩
    all_goals intro ρ W ⟨kc, kg, kf⟩ hF hs
    · obtain ⟨h0, -⟩ := hs
      replace h0 : ρ (.tmp 1) = .pointer (some ⟨w.heap.size, 0, none⟩) := h0
      go_simp
      exact ⟨Ext.refl _, rfl⟩
    · obtain ⟨h0, -⟩ := hs
      replace h0 : ρ (.tmp 3) = .pointer (some ⟨w.heap.size, 0, none⟩) := h0
      have hc0 : W.cell? ⟨w.heap.size, 0, none⟩ = some (.int .i64 (L)) := hF.cell (by assumption)
      go_simp
      exact ⟨Ext.refl _, rfl⟩
    · obtain ⟨h0, -⟩ := hs
      replace h0 : ρ (.tmp 1) = .pointer (some ⟨w.heap.size, 0, none⟩) := h0
      go_simp
      exact ⟨Ext.refl _, rfl⟩
    · obtain ⟨h0, -⟩ := hs
      replace h0 : ρ (.tmp 5) = .pointer (some ⟨w.heap.size, 1, none⟩) := h0
      have hc0 : W.cell? ⟨w.heap.size, 1, none⟩ = some (.slice J n cj) := hF.cell (by assumption)
      go_simp
      exact ⟨Ext.refl _, rfl⟩
    · obtain ⟨h0, -⟩ := hs
      replace h0 : ρ (.tmp 6) = .slice J n cj := h0
      go_simp
      refine (HCI.out _ (E0.out.trans hF)).mono ?_; rintro e w' ⟨A', c', rfl, hr, hx⟩; exact ⟨_, rfl, hx, A', c', rfl, own_low hr (by have := HSZ.out; have := hF.size; omega)⟩
    · obtain ⟨h0, -⟩ := hs
      replace h0 : ρ (.tmp 1) = .pointer (some ⟨w.heap.size, 0, none⟩) := h0
      go_simp
      exact ⟨Ext.refl _, rfl⟩
    · obtain ⟨h0, -⟩ := hs
      replace h0 : ρ (.tmp 8) = .pointer (some ⟨w.heap.size, 2, none⟩) := h0
      have hc0 : W.cell? ⟨w.heap.size, 2, none⟩ = some (.slice K m ck) := hF.cell (by assumption)
      go_simp
      exact ⟨Ext.refl _, rfl⟩
    · obtain ⟨h0, -⟩ := hs
      replace h0 : ρ (.tmp 9) = .slice K m ck := h0
      go_simp
      refine (HCR.out _ (E0.out.trans hF)).mono ?_; rintro e w' ⟨A', c', rfl, hr, hx⟩; exact ⟨_, rfl, hx, A', c', rfl, own_low hr (by have := HSZ.out; have := hF.size; omega)⟩
    · obtain ⟨h0, h1, h2, -⟩ := hs
      replace h0 : ρ (.tmp 4) = .int .i64 (L) := h0
      replace h1 : (OwC (w.heap.size + 2) 3 1 (js.flatMap I1) n) (ρ (.tmp 7)) W := h1
      replace h2 : (OwC (w.heap.size + 2) 49 2 (ks.flatMap Rg.enc) m) (ρ (.tmp 10)) W := h2
      obtain ⟨A1, c1, e1, r1⟩ := h1
      obtain ⟨A2, c2, e2, r2⟩ := h2
      replace e1 : ρ (.tmp 7) = .slice A1 n c1 := e1
      replace e2 : ρ (.tmp 10) = .slice A2 m c2 := e2
      go_simp
      exact ⟨Ext.refl _, A1, c1, A2, c2, rfl, r1, r2⟩
  · intro fv W hF hs
    obtain ⟨-, -, -, -, -, -, -, -, h11, -⟩ := hs
    replace h11 : (OShC (w.heap.size + 2) L (js.flatMap I1) (ks.flatMap Rg.enc) n m) (fv 11) W := h11
    simp only [fin, List.filterMap]
    go_simp
    replace K1 := Lib.hid (K1.out.ext hF)
    clear y1_0 y1_1 y1_2
    have u0 : W.cell? ⟨w.heap.size + 1, 0, none⟩ = some (.int .i64 0) := K1.out.cell 0
    have u1 : W.cell? ⟨w.heap.size + 1, 1, none⟩ = some (.slice none 0 0) := K1.out.cell 1
    have u2 : W.cell? ⟨w.heap.size + 1, 2, none⟩ = some (.slice none 0 0) := K1.out.cell 2
    have f0 := K1.out.free 0
    have f1 := K1.out.free 1
    have f2 := K1.out.free 2
    obtain ⟨J', cj', K', ck', hv, hr1, hr2⟩ := h11
    have HV := Lib.hid hv
    have R1 := Lib.hid hr1
    have R2 := Lib.hid hr2
    have X := Lib.hid (E0.out.trans hF)
    clear hr1 hr2 hF
    rw [HV.out]
    clear hv HV
    go_wp2
    exact bodyPost_ret (v := .agg #[.int .i64 L, .slice J' n cj', .slice K' m ck']) (by simp [results, Tryz.f9, go_sem, u0, u1, u2]) rfl ⟨_, _, _, _, rfl, own_low (own_set (own_set (own_set R1.out (own_far R1.out (by dsimp only; omega)) _) (own_far R1.out (by dsimp only; omega)) _) (own_far R1.out (by dsimp only; omega)) _) (by omega), own_low (own_set (own_set (own_set R2.out (own_far R2.out (by dsimp only; omega)) _) (own_far R2.out (by dsimp only; omega)) _) (own_far R2.out (by dsimp only; omega)) _) (by omega), (Ext.set (Ext.set (Ext.set X.out (by dsimp only; omega) _) (by dsimp only; omega) _) (by dsimp only; omega) _)⟩



theorem has_any {A : Option Addr} {n ca : Nat} {xs : List Int} {w : World} (c : Int) (hn : xs.length = n) (hA : RowsAt 1 I1 w A xs) :
    Calls Tryz.prog 89 #[.slice A n ca, .int .i64 c] w fun e w' => e = .returned (.bool (hasB xs c)) ∧ w = w' := by
  have HN := Lib.hid hn
  have HA := Lib.hid hA
  have hnb : n ≤ 1152921504606846976 := by have := hA.1; omega
  have HT := Lib.hid (fun i (h1 : i < n) (h2 : xs.getD i 0 = c) => show hasB xs c = true by
    unfold hasB
    rw [List.any_eq_true]
    refine ⟨xs.getD i 0, ?_, beq_iff_eq.2 h2.symm⟩
    have : xs.getD i 0 = xs[i]'(by omega) := by simp [show i < xs.length by omega]
    rw [this]; exact List.getElem_mem _)
  have HFA := Lib.hid (fun (h : ∀ i, i < n → xs.getD i 0 ≠ c) => show hasB xs c = false by
    unfold hasB
    rw [List.any_eq_false]
    intro x hx
    obtain ⟨i, hi, rfl⟩ := List.mem_iff_getElem.1 hx
    have := h i (by omega)
    simp [hi] at this ⊢
    exact fun h => this h.symm)
  generalize hasB xs c = b at *
  clear hn hA
  go_enter Tryz.func89, Tryz.ntmps89
  go_wp2
  go_loopw [5] (fun i wr => ∃ k : Nat, k ≤ n ∧ i = .int .i64 (k : Int) ∧ (∀ j, j < k → xs.getD j 0 ≠ c) ∧ Hid (w = wr)) (fun i _ => n - (intOf i).toNat)
  case atStart => exact ⟨0, by omega, rfl, (fun j hj => by omega), Lib.hid rfl⟩
  case round =>
    obtain ⟨k, hk, rfl, hr, hw⟩ := hrel
    obtain rfl := hw.out
    clear hw
    have R := Lib.hid hr
    clear hr
    by_cases hlt : k < n
    · obtain ⟨jb, jo, rfl, hjb, hjc⟩ := row_I1 HA.out (i := k) (by have := HN.out; omega)
      have HT2 := Lib.hid (fun h => HT.out k hlt h)
      have HR2 := Lib.hid (fun (h : ¬ xs.getD k 0 = c) j (hj : j < k + 1) => show xs.getD j 0 ≠ c from by
        rcases (show j < k ∨ j = k by omega) with h2 | rfl
        · exact R.out j h2
        · exact h)
      generalize xs.getD k 0 = x at *
      have hki : (k : Int) < (n : Int) := by omega
      by_cases he : x = c
      · have HV := Lib.hid (HT2.out he)
        have hd : (x == c) = true := by simp [he]
        clear he HT2 HR2 HT HFA
        go_wp2
        go_ret
        exact ⟨ret_bool HV.out.symm, rfl⟩
      · have R2 := Lib.hid (HR2.out he)
        have hd : (x == c) = false := by simp [he]
        clear he HT2 HR2 R
        go_wp2
        go_roundw
        case rel => exact ⟨k + 1, by omega, by go_num, R2.out, Lib.hid trivial⟩
        case measure => simp [intOf]; omega
    · obtain rfl : k = n := by omega
      have hkn : ¬ (k : Int) < (k : Int) := by omega
      have HV := Lib.hid (HFA.out R.out)
      go_wp2
      go_ret
      exact ⟨ret_bool HV.out.symm, rfl⟩
set_option maxRecDepth 100000 in
set_option maxHeartbeats 1000000 in
theorem refBent_any {P : Option Addr} {np cp : Nat} {sp ga li : Int} {x : Sk} (w : World) (h1 : 0 ≤ sp ∧ sp ≤ 10000) (h2 : 0 ≤ ga ∧ ga ≤ 1000) (h3 : 0 ≤ x.a ∧ x.a ≤ 10000) :
    Calls Tryz.prog 99 #[.agg #[.slice P np cp, .int .i64 sp, .int .i64 ga, .int .i64 li], .agg #[.int .i64 x.j, .int .i64 x.a, .bool x.u]] w fun e w' => e = .returned (.int .i64 (bentV ga sp x)) ∧ Ext w w' := by
  have hb := kinkV_bd h1 h2 h3
  have hk : kinkV ga sp x.a = ga * max 0 (x.a - sp) := by unfold kinkV; rw [Int.max_comm]
  rw [hk] at hb
  have HB := Lib.hid (show bentV ga sp x = if x.u then -(ga * max 0 (x.a - sp)) else ga * max 0 (x.a - sp) by unfold bentV; rw [hk])
  clear hk
  generalize bentV ga sp x = z at *
  obtain ⟨W0, hW0⟩ : ∃ W0, W0 = (w.alloc (.cells #[.slice P np cp, .int .i64 sp, .int .i64 ga, .int .i64 li] 27)).alloc (.cells #[.int .i64 x.j, .int .i64 x.a, .bool x.u] 68) := ⟨_, rfl⟩
  have K0 := Lib.hid (show Blk W0 (w.heap.size) 27 #[.slice P np cp, .int .i64 sp, .int .i64 ga, .int .i64 li] by rw [hW0]; exact (Blk.new _ _ _).alloc _)
  have K1 := Lib.hid (show Blk W0 (w.heap.size + 1) 68 #[.int .i64 x.j, .int .i64 x.a, .bool x.u] by rw [hW0]; exact Blk.newAt _ _ _ (by simp))
  have E0 := Lib.hid (show Ext w W0 by rw [hW0]; exact (Ext.alloc _ _).trans (Ext.alloc _ _))
  have y0_0 : W0.cell? ⟨w.heap.size, 0, none⟩ = some (.slice P np cp) := K0.out.cell 0
  have y0_1 : W0.cell? ⟨w.heap.size, 1, none⟩ = some (.int .i64 sp) := K0.out.cell 1
  have y0_2 : W0.cell? ⟨w.heap.size, 2, none⟩ = some (.int .i64 ga) := K0.out.cell 2
  have y0_3 : W0.cell? ⟨w.heap.size, 3, none⟩ = some (.int .i64 li) := K0.out.cell 3
  have y1_0 : W0.cell? ⟨w.heap.size + 1, 0, none⟩ = some (.int .i64 x.j) := K1.out.cell 0
  have y1_1 : W0.cell? ⟨w.heap.size + 1, 1, none⟩ = some (.int .i64 x.a) := K1.out.cell 1
  have y1_2 : W0.cell? ⟨w.heap.size + 1, 2, none⟩ = some (.bool x.u) := K1.out.cell 2
  cases hu : x.u with
  | true =>
    rw [hu] at y1_2 K1 HB
    rw [hu] at hW0
    go_enter Tryz.func99, Tryz.ntmps99
    go_upto_region 1 with (fail)
    rw [← hW0]
    clear hW0
    go_wp2
    go_ret
    exact ⟨ret_int (by rw [HB.out]; rfl), E0.out⟩
  | false =>
    rw [hu] at y1_2 K1 HB
    rw [hu] at hW0
    go_enter Tryz.func99, Tryz.ntmps99
    go_upto_region 1 with (fail)
    rw [← hW0]
    clear hW0
    go_wp2
    go_ret
    exact ⟨ret_int (by rw [HB.out]; rfl), E0.out⟩
def few1 (np : Nat) : Bool := decide (np ≤ 5)
theorem fewAmounts_any {P : Option Addr} {np cp : Nat} {sp ga li : Int} (w : World) (hn0 : np ≤ maxLen) :
    Calls Tryz.prog 6 #[.agg #[.slice P np cp, .int .i64 sp, .int .i64 ga, .int .i64 li]] w fun e w' => e = .returned (.bool (few1 np)) ∧ Ext w w' := by
  have hn : np ≤ 9223372036854775807 := hn0
  clear hn0
  have HV := Lib.hid (show decide ((np : Int) ≤ (5 : Int)) = few1 np by unfold few1; by_cases h : np ≤ 5 <;> simp [h] <;> omega)
  obtain ⟨W0, hW0⟩ : ∃ W0, W0 = w.alloc (.cells #[.slice P np cp, .int .i64 sp, .int .i64 ga, .int .i64 li] 27) := ⟨_, rfl⟩
  have K0 := Lib.hid (show Blk W0 (w.heap.size) 27 #[.slice P np cp, .int .i64 sp, .int .i64 ga, .int .i64 li] by rw [hW0]; exact Blk.new _ _ _)
  have E0 := Lib.hid (show Ext w W0 by rw [hW0]; exact Ext.alloc _ _)
  have y0_0 : W0.cell? ⟨w.heap.size, 0, none⟩ = some (.slice P np cp) := K0.out.cell 0
  have y0_1 : W0.cell? ⟨w.heap.size, 1, none⟩ = some (.int .i64 sp) := K0.out.cell 1
  have y0_2 : W0.cell? ⟨w.heap.size, 2, none⟩ = some (.int .i64 ga) := K0.out.cell 2
  have y0_3 : W0.cell? ⟨w.heap.size, 3, none⟩ = some (.int .i64 li) := K0.out.cell 3
  go_enter Tryz.func6, Tryz.ntmps6
  go_upto_region 1 with (fail)
  rw [← hW0]
  clear hW0
  go_wp2
  go_ret
  exact ⟨ret_bool HV.out, E0.out⟩
theorem bothErr_any {L : Int} {J K : Option Addr} {n m cj ck : Nat} {js : List Int} {ks : List Rg} {w : World} (hn : js.length = n) (hJ : RowsAt 1 I1 w J js) (hm : ks.length = m) (hK : RowsAt 2 Rg.enc w K ks) {P : Option Addr} {np cp : Nat} {am : List Int} {sp ga li : Int} (hnp : am.length = np) (hP : RowsAt 1 I1 w P am) :
    Calls Tryz.prog 12 #[.agg #[.int .i64 L, .slice J n cj, .slice K m ck], .agg #[.slice P np cp, .int .i64 sp, .int .i64 ga, .int .i64 li]] w fun e w' => e = .returned (.int .i64 (if (checkS L js ks).2 ≠ 0 then (checkS L js ks).2 else (checkP am sp ga li).2)) ∧ Ext w w' := by
  have H1 := Lib.hid (fun W (e : Ext w W) => refShaftErr_any (cj := cj) (ck := ck) (L := L) hn (hJ.ext e) hm (hK.ext e))
  have H2 := Lib.hid (fun W (e : Ext w W) => refPressErr_any (cp := cp) (sp := sp) (ga := ga) (li := li) hnp (hP.ext e))
  generalize (checkS L js ks).2 = z at *
  generalize (checkP am sp ga li).2 = z2 at *
  obtain ⟨zz, hzz⟩ : ∃ v, v = (if z ≠ 0 then z else z2) := ⟨_, rfl⟩
  rw [← hzz]
  have HZ := Lib.hid hzz
  clear hn hJ hm hK hnp hP hzz
  obtain ⟨W0, hW0⟩ : ∃ W0, W0 = (w.alloc (.cells #[.int .i64 L, .slice J n cj, .slice K m ck] 25)).alloc (.cells #[.slice P np cp, .int .i64 sp, .int .i64 ga, .int .i64 li] 27) := ⟨_, rfl⟩
  have K0 := Lib.hid (show Blk W0 (w.heap.size) 25 #[.int .i64 L, .slice J n cj, .slice K m ck] by rw [hW0]; exact (Blk.new _ _ _).alloc _)
  have K1 := Lib.hid (show Blk W0 (w.heap.size + 1) 27 #[.slice P np cp, .int .i64 sp, .int .i64 ga, .int .i64 li] by rw [hW0]; exact Blk.newAt _ _ _ (by simp))
  have E0 := Lib.hid (show Ext w W0 by rw [hW0]; exact (Ext.alloc _ _).trans (Ext.alloc _ _))
  have y0_0 : W0.cell? ⟨w.heap.size, 0, none⟩ = some (.int .i64 L) := K0.out.cell 0
  have y0_1 : W0.cell? ⟨w.heap.size, 1, none⟩ = some (.slice J n cj) := K0.out.cell 1
  have y0_2 : W0.cell? ⟨w.heap.size, 2, none⟩ = some (.slice K m ck) := K0.out.cell 2
  have y1_0 : W0.cell? ⟨w.heap.size + 1, 0, none⟩ = some (.slice P np cp) := K1.out.cell 0
  have y1_1 : W0.cell? ⟨w.heap.size + 1, 1, none⟩ = some (.int .i64 sp) := K1.out.cell 1
  have y1_2 : W0.cell? ⟨w.heap.size + 1, 2, none⟩ = some (.int .i64 ga) := K1.out.cell 2
  have y1_3 : W0.cell? ⟨w.heap.size + 1, 3, none⟩ = some (.int .i64 li) := K1.out.cell 3
  go_enter Tryz.func12, Tryz.ntmps12
  go_upto_region 1 with (fail)
  rw [← hW0]
  clear hW0
  go_wp2_with (go_at_call 33; refine (H1.out _ E0.out).mono ?_; rintro e W1 ⟨rfl, hx⟩; replace E0 := Lib.hid (E0.out.trans hx); replace K1 := Lib.hid (K1.out.ext hx); clear hx y0_0 y0_1 y0_2 y1_0 y1_1 y1_2 y1_3; refine Hid.out ?_)
  refine Lib.hid ?_
  by_cases hz : z = 0
  · have hz2 : (z != 0) = false := by simp [hz]
    have HV := Lib.hid (show zz = z2 by rw [HZ.out, if_neg (by simpa using hz)])
    clear HZ
    clear hz
    have y1_0 : W1.cell? ⟨w.heap.size + 1, 0, none⟩ = some (.slice P np cp) := K1.out.cell 0
    have y1_1 : W1.cell? ⟨w.heap.size + 1, 1, none⟩ = some (.int .i64 sp) := K1.out.cell 1
    have y1_2 : W1.cell? ⟨w.heap.size + 1, 2, none⟩ = some (.int .i64 ga) := K1.out.cell 2
    have y1_3 : W1.cell? ⟨w.heap.size + 1, 3, none⟩ = some (.int .i64 li) := K1.out.cell 3
    go_wp2_with (go_at_call 34; refine (H2.out _ E0.out).mono ?_; rintro e W2 ⟨rfl, hx⟩; replace E0 := Lib.hid (E0.out.trans hx); clear hx)
    go_ret
    exact ⟨ret_int HV.out.symm, E0.out⟩
  · have hz2 : (z != 0) = true := by simp [hz]
    have HV := Lib.hid (show zz = z by rw [HZ.out, if_pos hz])
    clear HZ
    clear hz
    go_wp2
    go_ret
    exact ⟨ret_int HV.out.symm, E0.out⟩
def SameS (L L2 : Int) (js js2 : List Int) (ks ks2 : List Rg) : Prop := L = L2 ∧ js = js2 ∧ ks = ks2
theorem strokeE_if (n : Nat) (am : List Int) (x : Sk) : strokeE n am x = if 0 ≤ x.j ∧ x.j ≤ (n : Int) - 1 then (if hasB am x.a = true then 0 else 6) else 6 := by
  unfold strokeE
  by_cases h : 0 ≤ x.j ∧ x.j ≤ (n : Int) - 1
  · rw [if_pos h, errIf_f _ _ (by simp; omega), firstE_cons0, firstE_one]
    by_cases h2 : hasB am x.a = true
    · rw [if_pos h2, errIf_f _ _ (by simp [h2])]
    · rw [if_neg h2, errIf_t _ _ (by simpa using h2)]
  · rw [if_neg h, errIf_t _ _ (by simp; omega), firstE_consN _ (by decide)]
theorem strokesE_many {n : Nat} {am : List Int} {li : Int} {xs : List Sk} (h : 4 < xs.length) : strokesE n am li xs = 8 := by
  unfold strokesE; rw [if_pos h]
theorem strokesE_few {n : Nat} {am : List Int} {li : Int} {xs : List Sk} (h : ¬ 4 < xs.length) : strokesE n am li xs = if (firstAt (strokeAt n am xs) xs.length 0).2 ≠ 0 then (firstAt (strokeAt n am xs) xs.length 0).2 else errIf (fullB li xs n) 16 := by
  unfold strokesE; rw [if_neg h]
theorem fullB_hit {li : Int} {xs : List Sk} {n j : Nat} (hj : j < n) (h : li < sumK (fun x => x.a) xs (j : Int) xs.length) : fullB li xs n = true := by
  unfold fullB sumL
  rw [List.any_eq_true]
  exact ⟨_, List.mem_map.2 ⟨j, List.mem_range.2 hj, rfl⟩, by simpa [overB] using h⟩
theorem fullB_none {li : Int} {xs : List Sk} {n : Nat} (h : ∀ j : Nat, j < n → sumK (fun x => x.a) xs (j : Int) xs.length ≤ li) : fullB li xs n = false := by
  unfold fullB sumL
  rw [List.any_eq_false]
  intro v hv
  obtain ⟨j, hj, rfl⟩ := List.mem_map.1 hv
  have := h j (List.mem_range.1 hj)
  simp [overB]
  omega
set_option maxRecDepth 100000 in
set_option maxHeartbeats 4000000 in
theorem refStrokesErr_any {L : Int} {J K : Option Addr} {n m cj ck : Nat} {P : Option Addr} {np cp : Nat} {am : List Int} {sp ga li : Int} {w : World} (hnp : am.length = np) (hP : RowsAt 1 I1 w P am) {A : Option Addr} {N ca : Nat} {xs : List Sk} (hn6 : n ≤ 1000) (hpr : ∀ i, i < am.length → 1 ≤ am.getD i 0 ∧ am.getD i 0 ≤ 10000) (hN : xs.length = N) (hA : RowsAt 3 Sk.enc w A xs) :
    Calls Tryz.prog 61 #[.agg #[.int .i64 L, .slice J n cj, .slice K m ck], .agg #[.slice P np cp, .int .i64 sp, .int .i64 ga, .int .i64 li], .slice A N ca] w fun e w' => e = .returned (.int .i64 (strokesE n am li xs)) ∧ Ext w w' := by
  have HN := Lib.hid hN
  have HA := Lib.hid hA
  have HP := Lib.hid hP
  have HNP := Lib.hid hnp
  have HPR := Lib.hid hpr
  have hNb : N ≤ 1152921504606846976 := by have := hA.1; omega
  have HSM := Lib.hid (fun (h : 4 < N) => strokesE_many (n := n) (am := am) (li := li) (xs := xs) (by rw [hN]; exact h))
  have HSF := Lib.hid (fun (h : ¬ 4 < N) => show strokesE n am li xs = if (firstAt (strokeAt n am xs) N 0).2 ≠ 0 then (firstAt (strokeAt n am xs) N 0).2 else errIf (fullB li xs n) 16 by have := strokesE_few (n := n) (am := am) (li := li) (xs := xs) (by rw [hN]; exact h); rw [hN] at this; exact this)
  have HFH := Lib.hid (fun j (hj : j < n) (h : li < sumK (fun x => x.a) xs (j : Int) N) => fullB_hit (li := li) hj (by rw [hN]; exact h))
  have HFN := Lib.hid (fun (h : ∀ j : Nat, j < n → sumK (fun x => x.a) xs (j : Int) N ≤ li) => fullB_none (li := li) (n := n) (by rw [hN]; exact h))
  generalize strokesE n am li xs = sv at *
  generalize fullB li xs n = fb at *
  clear hN hA hP hnp hpr
  obtain ⟨W0, hW0⟩ : ∃ W0, W0 = (w.alloc (.cells #[.int .i64 L, .slice J n cj, .slice K m ck] 25)).alloc (.cells #[.slice P np cp, .int .i64 sp, .int .i64 ga, .int .i64 li] 27) := ⟨_, rfl⟩
  have K0 := Lib.hid (show Blk W0 (w.heap.size) 25 #[.int .i64 L, .slice J n cj, .slice K m ck] by rw [hW0]; exact (Blk.new _ _ _).alloc _)
  have K1 := Lib.hid (show Blk W0 (w.heap.size + 1) 27 #[.slice P np cp, .int .i64 sp, .int .i64 ga, .int .i64 li] by rw [hW0]; exact Blk.newAt _ _ _ (by simp))
  have E0 := Lib.hid (show Ext w W0 by rw [hW0]; exact (Ext.alloc _ _).trans (Ext.alloc _ _))
  have y0_0 : W0.cell? ⟨w.heap.size, 0, none⟩ = some (.int .i64 L) := K0.out.cell 0
  have y0_1 : W0.cell? ⟨w.heap.size, 1, none⟩ = some (.slice J n cj) := K0.out.cell 1
  have y0_2 : W0.cell? ⟨w.heap.size, 2, none⟩ = some (.slice K m ck) := K0.out.cell 2
  have y1_0 : W0.cell? ⟨w.heap.size + 1, 0, none⟩ = some (.slice P np cp) := K1.out.cell 0
  have y1_1 : W0.cell? ⟨w.heap.size + 1, 1, none⟩ = some (.int .i64 sp) := K1.out.cell 1
  have y1_2 : W0.cell? ⟨w.heap.size + 1, 2, none⟩ = some (.int .i64 ga) := K1.out.cell 2
  have y1_3 : W0.cell? ⟨w.heap.size + 1, 3, none⟩ = some (.int .i64 li) := K1.out.cell 3
  by_cases h4 : 4 < N
  · have hd : decide ((4 : Int) < (N : Int)) = true := by simp; omega
    have HV := Lib.hid (HSM.out h4)
    clear HSM HSF h4
    go_enter Tryz.func61, Tryz.ntmps61
    go_upto_region 1 with (fail)
    rw [← hW0]
    clear hW0
    go_wp2
    go_ret
    exact ⟨ret_int HV.out.symm, E0.out⟩
  · have hd : decide ((4 : Int) < (N : Int)) = false := by simp; omega
    have HV := Lib.hid (HSF.out h4)
    have hN4 : N ≤ 4 := by omega
    clear HSM HSF h4
    obtain ⟨fa, hfa⟩ : ∃ f, f = firstAt (strokeAt n am xs) N 0 := ⟨_, rfl⟩
    have HF := Lib.hid hfa
    rw [← hfa] at HV
    clear hfa
    go_enter Tryz.func61, Tryz.ntmps61
    go_upto_region 1 with (fail)
    rw [← hW0]
    clear hW0
    go_wp2
    clear y0_0 y0_1 y0_2 y1_0 y1_1 y1_2 y1_3 hd
    go_loopw [7] (fun i wr => ∃ k : Nat, k ≤ N ∧ i = .int .i64 (k : Int) ∧ fa = firstAt (strokeAt n am xs) (N - k) k ∧ (∀ i, i < k → strokeE n am (xs.getD i default) = 0) ∧ Ext w wr ∧ Blk wr w.heap.size 25 #[.int .i64 L, .slice J n cj, .slice K m ck] ∧ Blk wr (w.heap.size + 1) 27 #[.slice P np cp, .int .i64 sp, .int .i64 ga, .int .i64 li]) (fun i _ => N - (intOf i).toNat)
    case atStart => exact ⟨0, by omega, rfl, HF.out, (fun i hi => by omega), E0.out, K0.out, K1.out⟩
    case round =>
      clear HF E0 K0 K1
      obtain ⟨k, hk, rfl, hf, ho, hx, k0, k1⟩ := hrel
      have XX := Lib.hid hx
      have K0 := Lib.hid k0
      have K1 := Lib.hid k1
      have R := Lib.hid hf
      have OK := Lib.hid ho
      clear hx k0 k1 hf ho
      by_cases hlt : k < N
      · have hxk := getD_some (xs := xs) (i := k) (by have := HN.out; omega)
        have HE : Hid (strokeAt n am xs k = strokeE n am (xs.getD k default)) := Lib.hid rfl
        have HHE := Lib.hid (fun (hz : strokeAt n am xs k = 6) => R.out.trans (firstAt_here _ hlt hz (by decide)))
        have HNX := Lib.hid (fun (hz : strokeAt n am xs k = 0) => R.out.trans (firstAt_next _ hlt hz))
        have HO2 := Lib.hid (fun (hz : strokeE n am (xs.getD k default) = 0) i (hi : i < k + 1) => show strokeE n am (xs.getD i default) = 0 from by
          rcases (show i < k ∨ i = k by omega) with h2 | rfl
          · exact OK.out i h2
          · exact hz)
        have HIF := Lib.hid (strokeE_if n am (xs.getD k default))
        generalize strokeAt n am xs k = sk at *
        generalize strokeE n am (xs.getD k default) = sk2 at *
        generalize xs.getD k default = x at *
        obtain ⟨b, o, rfl, hb, hc⟩ := row_at (HA.out.ext XX.out) hxk
        have p0 : wr.cell? ⟨b, o + k * 3, none⟩ = some (.int .i64 x.j) := hc 0 _ rfl
        have p1 : wr.cell? ⟨b, o + k * 3 + 1, none⟩ = some (.int .i64 x.a) := hc 1 _ rfl
        have hki : (k : Int) < (N : Int) := by omega
        clear hc hb hxk
        have HHAS := Lib.hid (fun W (e : Ext w W) => has_any (ca := cp) x.a HNP.out (HP.out.ext e))
        have y0_0 : wr.cell? ⟨w.heap.size, 0, none⟩ = some (.int .i64 L) := K0.out.cell 0
        have y0_1 : wr.cell? ⟨w.heap.size, 1, none⟩ = some (.slice J n cj) := K0.out.cell 1
        have y0_2 : wr.cell? ⟨w.heap.size, 2, none⟩ = some (.slice K m ck) := K0.out.cell 2
        have y1_0 : wr.cell? ⟨w.heap.size + 1, 0, none⟩ = some (.slice P np cp) := K1.out.cell 0
        have y1_1 : wr.cell? ⟨w.heap.size + 1, 1, none⟩ = some (.int .i64 sp) := K1.out.cell 1
        have y1_2 : wr.cell? ⟨w.heap.size + 1, 2, none⟩ = some (.int .i64 ga) := K1.out.cell 2
        have y1_3 : wr.cell? ⟨w.heap.size + 1, 3, none⟩ = some (.int .i64 li) := K1.out.cell 3
        by_cases g1 : 0 ≤ x.j ∧ x.j ≤ (n : Int) - 1
        · have HA1 := Lib.hid (withinB_t g1)
          replace HIF := Lib.hid (HIF.out.trans (if_pos g1))
          cases hh : hasB am x.a with
          | true =>
            rw [hh] at HHAS HIF
            have hz : sk2 = 0 := by rw [HIF.out]; simp
            have HV1 := Lib.hid (HNX.out (HE.out.trans hz))
            have HV2 := Lib.hid (HO2.out hz)
            clear g1 hz HHE HNX HO2 HIF HE
            go_upto_region 6 with (fail)
            go_quiet (first | (go_at_call 35; refine Calls.quiet_of_same ((within_any _ _ _ _).mono fun _ _ ⟨h1, h2⟩ => ⟨h1.trans (by rw [HA1.out]), h2.symm⟩)) | (go_at_call 89; refine Calls.quiet_of_same ((HHAS.out _ (by first | exact XX.out | exact XX.out.trans (Ext.drewN _ _))).mono fun _ _ ⟨h1, h2⟩ => ⟨h1, h2.symm⟩)))
            go_wp2
            go_roundw
            case rel => exact ⟨k + 1, by omega, by go_num, HV1.out, HV2.out, XX.out.trans (Ext.drewN _ _), K0.out, K1.out⟩
            case measure => simp [intOf]; omega
          | false =>
            rw [hh] at HHAS HIF
            have hz : sk2 = 6 := by rw [HIF.out]; simp
            have HV1 := Lib.hid (show sv = 6 by rw [HV.out, HHE.out (HE.out.trans hz), if_pos (by show (6 : Int) ≠ 0; decide)])
            clear g1 hz HHE HNX HO2 HIF HE HV R OK
            go_upto_region 6 with (fail)
            go_quiet (first | (go_at_call 35; refine Calls.quiet_of_same ((within_any _ _ _ _).mono fun _ _ ⟨h1, h2⟩ => ⟨h1.trans (by rw [HA1.out]), h2.symm⟩)) | (go_at_call 89; refine Calls.quiet_of_same ((HHAS.out _ (by first | exact XX.out | exact XX.out.trans (Ext.drewN _ _))).mono fun _ _ ⟨h1, h2⟩ => ⟨h1, h2.symm⟩)))
            go_wp2
            go_ret
            exact ⟨ret_int HV1.out.symm, XX.out.trans (Ext.drewN _ _)⟩
        · have HA1 := Lib.hid (withinB_f g1)
          have hz : sk2 = 6 := HIF.out.trans (if_neg g1)
          have HV1 := Lib.hid (show sv = 6 by rw [HV.out, HHE.out (HE.out.trans hz), if_pos (by show (6 : Int) ≠ 0; decide)])
          clear g1 hz HHE HNX HO2 HIF HE HV R OK
          go_upto_region 6 with (fail)
          go_quiet (first | (go_at_call 35; refine Calls.quiet_of_same ((within_any _ _ _ _).mono fun _ _ ⟨h1, h2⟩ => ⟨h1.trans (by rw [HA1.out]), h2.symm⟩)))
          go_wp2
          go_ret
          exact ⟨ret_int HV1.out.symm, XX.out.trans (Ext.drewN _ _)⟩
      · obtain rfl : k = N := by omega
        have hkn : ¬ (k : Int) < (k : Int) := by omega
        replace HV := Lib.hid (show sv = errIf fb 16 by rw [HV.out, R.out, Nat.sub_self, if_neg (by simp [firstAt])])
        have HAB := Lib.hid (fun i (hi : i < k) => show 0 ≤ (xs.getD i default).a ∧ (xs.getD i default).a ≤ 10000 from by
          obtain ⟨_, _, h3⟩ := strokeE_ok (OK.out i hi)
          obtain ⟨q, hq, he⟩ := hasB_ok h3
          have := HPR.out q hq
          omega)
        have HSB := Lib.hid (fun (j : Nat) i (hi : i ≤ k) => sumK_bd (f := fun x => x.a) (l := xs) (j := (j : Int)) (B := 10000) (by omega) (fun q hq => by have := HAB.out q (by have := HN.out; omega); omega) i (by have := HN.out; omega))
        clear R OK HPR
        go_wp2
        clear hkn hk hlt
        go_loopw [8] (fun i wr => ∃ j : Nat, j ≤ n ∧ i = .int .i64 (j : Int) ∧ (∀ i : Nat, i < j → sumK (fun x => x.a) xs (i : Int) k ≤ li) ∧ Ext w wr ∧ Blk wr w.heap.size 25 #[.int .i64 L, .slice J n cj, .slice K m ck] ∧ Blk wr (w.heap.size + 1) 27 #[.slice P np cp, .int .i64 sp, .int .i64 ga, .int .i64 li]) (fun i _ => n - (intOf i).toNat)
        case atStart => exact ⟨0, by omega, rfl, (fun i hi => by omega), XX.out, K0.out, K1.out⟩
        case round =>
          clear XX K0 K1
          obtain ⟨j, hj, rfl, hl, hx, k0, k1⟩ := hrel
          have XX := Lib.hid hx
          have K0 := Lib.hid k0
          have K1 := Lib.hid k1
          have LE := Lib.hid hl
          clear hx k0 k1 hl
          have y0_1 : wr.cell? ⟨w.heap.size, 1, none⟩ = some (.slice J n cj) := K0.out.cell 1
          by_cases hlj : j < n
          · have hji : (j : Int) < (n : Int) := by omega
            have HB := Lib.hid (fun i (hi : i ≤ k) => HSB.out j i hi)
            have HH := Lib.hid (fun h => HFH.out j hlj h)
            obtain ⟨wo, hwo⟩ : ∃ x, x = wr := ⟨_, rfl⟩
            subst hwo
            go_wp2
            clear y0_1
            go_loopw [9, 10] (fun s i wr => ∃ i2 : Nat, i2 ≤ k ∧ i = .int .i64 (i2 : Int) ∧ s = .int .i64 (sumK (fun x => x.a) xs (j : Int) i2) ∧ Hid (wo = wr)) (fun _ i _ => k - (intOf i).toNat)
            case atStart => exact ⟨0, by omega, rfl, rfl, Lib.hid rfl⟩
            case round =>
              obtain ⟨i2, hi2, rfl, rfl, hw⟩ := hrel
              obtain rfl := hw.out
              clear hw
              by_cases hli : i2 < k
              · have hxk := getD_some (xs := xs) (i := i2) (by have := HN.out; omega)
                have hb1 := HB.out i2 hi2
                have hab := HAB.out i2 hli
                have HSK := Lib.hid (show sumK (fun x => x.a) xs (j : Int) (i2 + 1) = if (xs.getD i2 default).j = (j : Int) then sumK (fun x => x.a) xs (j : Int) i2 + (xs.getD i2 default).a else sumK (fun x => x.a) xs (j : Int) i2 from rfl)
                generalize sumK (fun x => x.a) xs (j : Int) i2 = s at *
                generalize hs2 : sumK (fun x => x.a) xs (j : Int) (i2 + 1) = s2 at *
                have HS2 := Lib.hid hs2
                clear hs2
                generalize xs.getD i2 default = x at *
                obtain ⟨b, o, rfl, hb, hc⟩ := row_at (HA.out.ext XX.out) hxk
                have p0 : wo.cell? ⟨b, o + i2 * 3, none⟩ = some (.int .i64 x.j) := hc 0 _ rfl
                have p1 : wo.cell? ⟨b, o + i2 * 3 + 1, none⟩ = some (.int .i64 x.a) := hc 1 _ rfl
                have hki : (i2 : Int) < (k : Int) := by omega
                clear hc hb hxk
                by_cases hjx : x.j = (j : Int)
                · have hd : (x.j == (j : Int)) = true := by simp [hjx]
                  replace HSK := Lib.hid (HSK.out.trans (if_pos hjx))
                  clear hjx
                  have hs3 : -1000000 ≤ s ∧ s ≤ 1000000 := by omega
                  clear hb1
                  go_wp2
                  go_roundw
                  case rel => exact ⟨i2 + 1, by omega, by go_num, by rw [HS2.out, HSK.out], Lib.hid trivial⟩
                  case measure => simp [intOf]; omega
                · have hd : (x.j == (j : Int)) = false := by simp [hjx]
                  replace HSK := Lib.hid (HSK.out.trans (if_neg hjx))
                  clear hjx hb1
                  go_wp2
                  go_roundw
                  case rel => exact ⟨i2 + 1, by omega, by go_num, by rw [HS2.out, HSK.out], Lib.hid trivial⟩
                  case measure => simp [intOf]; omega
              · obtain rfl : i2 = k := by omega
                have hkn : ¬ (i2 : Int) < (i2 : Int) := by omega
                have HL2 := Lib.hid (fun (h : sumK (fun x => x.a) xs (j : Int) i2 ≤ li) i (hi : i < j + 1) => show sumK (fun x => x.a) xs (i : Int) i2 ≤ li from by
                  rcases (show i < j ∨ i = j by omega) with h2 | rfl
                  · exact LE.out i h2
                  · exact h)
                generalize sumK (fun x => x.a) xs (j : Int) i2 = s at *
                have y1_3 : wo.cell? ⟨w.heap.size + 1, 3, none⟩ = some (.int .i64 li) := K1.out.cell 3
                by_cases hs : li < s
                · have HV1 := Lib.hid (show sv = 16 by rw [HV.out, HH.out hs]; rfl)
                  have hd : decide (li < s) = true := by simp [hs]
                  clear hs HH HL2 HFN HFH
                  go_wp2
                  go_ret
                  exact ⟨ret_int HV1.out.symm, XX.out⟩
                · have HV1 := Lib.hid (HL2.out (by omega))
                  have hd : decide (li < s) = false := by simp; omega
                  clear hs HH HL2
                  go_wp2
                  go_roundw
                  case rel => exact ⟨j + 1, by omega, by go_num, HV1.out, XX.out, K0.out, K1.out⟩
                  case measure => simp [intOf]; omega
          · obtain rfl : j = n := by omega
            have hjn : ¬ (j : Int) < (j : Int) := by omega
            have HV1 := Lib.hid (show sv = 0 by rw [HV.out, HFN.out LE.out]; rfl)
            go_wp2
            go_ret
            exact ⟨ret_int HV1.out.symm, XX.out⟩

end Go.Proofs.YtjdilmmpdlcimaaGreat
