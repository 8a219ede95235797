/- What ref.grown finds is what the search finds. The reference of the fewest strokes, given what ref.grown finds. The reference of options, with its rows. ref.grown where no stroke is wanted any more. -/
import Derived.Test.YtjdilmmpdlcimaaGreatOA
import Derived.Test.YtjdilmmpdlcimaaGreatJ1
import Derived.Test.YtjdilmmpdlcimaaGreatC12
import Derived.Lib.MinMax
import Derived.Deep.DeepCutAuto
import Derived.BigQuiet
import Derived.Laws.AppendOwn
import Derived.Laws.AppendOwnNone
import Derived.Test.YtjdilmmpdlcimaaGreatFB
import Derived.Test.YtjdilmmpdlcimaaGreatC11

namespace Go.Proofs.YtjdilmmpdlcimaaGreat
open Go.RowKit Go.Shelf Go.Mem Go.RegInv
attribute [local go_sem] RelUpon_value RelUpon_skip RelUpon_enter BigFrame.eval_const BigFrame.eval_global BigFrame.eval_func


theorem findSome_congr {α β : Type} {f g : α → Option β} : ∀ {l : List α}, (∀ x ∈ l, f x = g x) → l.findSome? f = l.findSome? g
  | [], _ => rfl
  | x :: l, h => by
    rw [List.findSome?_cons, List.findSome?_cons, h x (by simp), findSome_congr (l := l) (fun y hy => h y (by simp [hy]))]
/-- The first plan that ref.grown finds. -/
def grnV (n : Nat) (am : List Int) (li : Int) (pl : List Sk → Int) (os : List Sk) : Nat → List Sk → Nat → Option (List Sk)
  | 0, b, _ => if pl b = 0 then some b else none
  | c + 1, b, f => (List.range' f (os.length - f)).findSome? fun i => if strokesE n am li (b ++ [os.getD i default]) ≠ 0 then none else grnV n am li pl os c (b ++ [os.getD i default]) i
theorem srch_full {n : Nat} {li : Int} {pf : List Sk → Bool} {os b : List Sk} (h : fullB li b n = true) : ∀ (c f : Nat), srch n li pf os c b f = none
  | 0, f => by unfold srch; rw [if_pos h]
  | c + 1, f => by unfold srch; rw [if_pos h]
theorem grn_srch {L t sp ga li : Int} {js : List Int} {ks : List Rg} {am : List Int} {os : List Sk} (ht : tolE t = 0) (hos : ∀ i, i < os.length → StOK js.length am (os.getD i default)) : ∀ (c : Nat) (b : List Sk) (f : Nat), b.length + c ≤ 4 → (∀ k, k < b.length → StOK js.length am (b.getD k default)) → fullB li b js.length = false →
    grnV js.length am li (planE L js ks am sp ga li t) os c b f = srch js.length li (pfB ga sp t L js ks) os c b f
  | 0, b, f, hl, hb, hf => by
    unfold grnV srch
    have hs : strokesE js.length am li b = 0 := strokesE_of ⟨by omega, hb⟩ hf
    have hp : planE L js ks am sp ga li t b = proofE ga sp t L js ks b := by
      unfold planE
      rw [if_neg (by simpa using hs), if_neg (by simpa using ht)]
    rw [hp, hf]
    unfold pfB
    by_cases h : proofE ga sp t L js ks b = 0
    · simp [h]
    · simp [h]
  | c + 1, b, f, hl, hb, hf => by
    unfold grnV srch
    rw [hf, if_neg (by decide)]
    refine findSome_congr fun i hi => ?_
    have hi2 : i < os.length := by
      have := List.mem_range'.1 hi
      omega
    have hb2 : ∀ k, k < (b ++ [os.getD i default]).length → StOK js.length am ((b ++ [os.getD i default]).getD k default) := fun k hk => by
      rw [List.length_append] at hk
      exact getD_append_last rfl hb (hos i hi2) hk
    cases hfl : fullB li (b ++ [os.getD i default]) js.length with
    | true =>
      rw [srch_full hfl]
      by_cases h : strokesE js.length am li (b ++ [os.getD i default]) = 0
      · rw [strokesE_full h] at hfl; cases hfl
      · rw [if_pos h]
    | false =>
      have hs : strokesE js.length am li (b ++ [os.getD i default]) = 0 := strokesE_of ⟨by rw [List.length_append]; simp; omega, hb2⟩ hfl
      rw [if_neg (by simpa using hs)]
      exact grn_srch ht hos c _ i (by rw [List.length_append]; simp; omega) hb2 hfl

end Go.Proofs.YtjdilmmpdlcimaaGreat

namespace Go.Proofs.YtjdilmmpdlcimaaGreat
open Go.RowKit Go.Shelf Go.Mem Go.RegInv
attribute [local go_sem] RelUpon_value RelUpon_skip RelUpon_enter BigFrame.eval_const BigFrame.eval_global BigFrame.eval_func


set_option maxRecDepth 100000 in
set_option maxHeartbeats 4000000 in
theorem refFewest_of {L t sp ga li : Int} {J K P : Option Addr} {n cj ck np cp nn : Nat} {pf : List Sk → Bool} {os : List Sk} {w : World} (hg : ∀ k : Nat, k ≤ 4 → ∀ W, Ext w W → Calls Tryz.prog 39 #[.agg #[.int .i64 L, .slice J n cj, .slice K n ck], .agg #[.slice P np cp, .int .i64 sp, .int .i64 ga, .int .i64 li], .agg #[.slice none 0 0, .int .i64 t], .int .i64 0, .int .i64 (k : Int)] W (FiP (srch nn li pf os k [] 0) W)) :
    Calls Tryz.prog 15 #[.agg #[.int .i64 L, .slice J n cj, .slice K n ck], .agg #[.slice P np cp, .int .i64 sp, .int .i64 ga, .int .i64 li], .int .i64 t] w (FiP (fewRk nn li pf os 0) w) := by
  have HG := Lib.hid hg
  have HST := Lib.hid (fun (k : Nat) (h : k < 5) => fewRk_step nn li pf os h)
  have HEN := Lib.hid (show fewRk nn li pf os 5 = none from rfl)
  obtain ⟨S0, hS0⟩ : ∃ S, S = srch nn li pf os := ⟨_, rfl⟩
  rw [← hS0] at HG HST
  obtain ⟨R, hR⟩ : ∃ R, R = fewRk nn li pf os := ⟨_, rfl⟩
  rw [← hR] at HST HEN ⊢
  clear hg hS0 hR
  obtain ⟨r0, hr0⟩ : ∃ r, r = R 0 := ⟨_, rfl⟩
  rw [← hr0]
  have HR0 := Lib.hid hr0
  clear hr0
  obtain ⟨W0, hW0⟩ : ∃ W0, W0 = (w.alloc (.cells #[.int .i64 L, .slice J n cj, .slice K n ck] 25)).alloc (.cells #[.slice P np cp, .int .i64 sp, .int .i64 ga, .int .i64 li] 27) := ⟨_, rfl⟩
  have K0 := Lib.hid (show Blk W0 (w.heap.size) 25 #[.int .i64 L, .slice J n cj, .slice K n ck] by rw [hW0]; exact (Blk.new _ _ _).alloc _)
  have K1 := Lib.hid (show Blk W0 (w.heap.size + 1) 27 #[.slice P np cp, .int .i64 sp, .int .i64 ga, .int .i64 li] by rw [hW0]; exact Blk.newAt _ _ _ (by simp))
  have E0 := Lib.hid (show Ext w W0 by rw [hW0]; exact (Ext.alloc _ _).trans (Ext.alloc _ _))
  have y0_0 : W0.cell? ⟨w.heap.size, 0, none⟩ = some (.int .i64 L) := K0.out.cell 0
  have y0_1 : W0.cell? ⟨w.heap.size, 1, none⟩ = some (.slice J n cj) := K0.out.cell 1
  have y0_2 : W0.cell? ⟨w.heap.size, 2, none⟩ = some (.slice K n ck) := K0.out.cell 2
  have y1_0 : W0.cell? ⟨w.heap.size + 1, 0, none⟩ = some (.slice P np cp) := K1.out.cell 0
  have y1_1 : W0.cell? ⟨w.heap.size + 1, 1, none⟩ = some (.int .i64 sp) := K1.out.cell 1
  have y1_2 : W0.cell? ⟨w.heap.size + 1, 2, none⟩ = some (.int .i64 ga) := K1.out.cell 2
  have y1_3 : W0.cell? ⟨w.heap.size + 1, 3, none⟩ = some (.int .i64 li) := K1.out.cell 3
  go_enter Tryz.func15, Tryz.ntmps15
  go_upto_region 1 with (fail)
  rw [← hW0]
  clear hW0 y0_0 y0_1 y0_2 y1_0 y1_1 y1_2 y1_3
  go_wp2
  go_loopw [8] (fun i wr => ∃ k : Nat, k ≤ 5 ∧ i = .int .i64 (k : Int) ∧ r0 = R k ∧ Ext w wr ∧ Blk wr w.heap.size 25 #[.int .i64 L, .slice J n cj, .slice K n ck] ∧ Blk wr (w.heap.size + 1) 27 #[.slice P np cp, .int .i64 sp, .int .i64 ga, .int .i64 li]) (fun i _ => 5 - (intOf i).toNat)
  case atStart => exact ⟨0, by omega, rfl, HR0.out, E0.out, K0.out, K1.out⟩
  case round =>
    clear E0 K0 K1 HR0
    obtain ⟨k, hk, rfl, hr, hx, k0, k1⟩ := hrel
    have X := Lib.hid hx
    have K0 := Lib.hid k0
    have K1 := Lib.hid k1
    have HR := Lib.hid hr
    clear hx k0 k1 hr
    by_cases hlt : k < 5
    · have hd : (k : Int) ≤ 4 := by omega
      have hd2 : decide (k ≤ 4) = true := by simp; omega
      have HS := Lib.hid (HR.out.trans (HST.out k hlt))
      have HGK := Lib.hid (fun W e => HG.out k (by omega) W e)
      generalize S0 k [] 0 = sv at *
      have y0_0 : wr.cell? ⟨w.heap.size, 0, none⟩ = some (.int .i64 L) := K0.out.cell 0
      have y0_1 : wr.cell? ⟨w.heap.size, 1, none⟩ = some (.slice J n cj) := K0.out.cell 1
      have y0_2 : wr.cell? ⟨w.heap.size, 2, none⟩ = some (.slice K n ck) := K0.out.cell 2
      have y1_0 : wr.cell? ⟨w.heap.size + 1, 0, none⟩ = some (.slice P np cp) := K1.out.cell 0
      have y1_1 : wr.cell? ⟨w.heap.size + 1, 1, none⟩ = some (.int .i64 sp) := K1.out.cell 1
      have y1_2 : wr.cell? ⟨w.heap.size + 1, 2, none⟩ = some (.int .i64 ga) := K1.out.cell 2
      have y1_3 : wr.cell? ⟨w.heap.size + 1, 3, none⟩ = some (.int .i64 li) := K1.out.cell 3
      go_wp2_with (go_at_call 39; refine (HGK.out _ X.out).mono ?_; rintro e W1 ⟨A1, m1, c1, rfl, hr1, hx1⟩; have HR1 := Lib.hid hr1; replace X := Lib.hid (X.out.trans hx1); replace K0 := Lib.hid (K0.out.ext hx1); replace K1 := Lib.hid (K1.out.ext hx1); clear hr1 hx1 y0_0 y0_1 y0_2 y1_0 y1_1 y1_2 y1_3; refine Hid.out ?_)
      refine Lib.hid ?_
      cases sv with
      | none =>
        have HS2 := Lib.hid (show r0 = R (k + 1) from HS.out)
        clear HS HR1 HR
        go_wp2
        go_roundw
        case rel => exact ⟨k + 1, by omega, by go_num, HS2.out, X.out, K0.out, K1.out⟩
        case measure => simp [intOf]; omega
      | some p =>
        have HS2 := Lib.hid (show r0 = some p from HS.out)
        have HR2 := Lib.hid (HR1.out p rfl)
        clear HS HR1 HR
        go_wp2
        go_ret2
        exact ⟨A1, m1, c1, by rw [HS2.out]; rfl, (fun q hq => by rw [HS2.out] at hq; obtain rfl := Option.some.inj hq; exact HR2.out), X.out⟩
    · obtain rfl : k = 5 := by omega
      have hd : ¬ ((5 : Nat) : Int) ≤ 4 := by omega
      have HS2 := Lib.hid (show r0 = none from HR.out.trans HEN.out)
      clear HR
      go_wp2
      go_ret2
      exact ⟨none, 0, 0, by rw [HS2.out]; rfl, (fun q hq => by rw [HS2.out] at hq; cases hq), X.out⟩

end Go.Proofs.YtjdilmmpdlcimaaGreat

namespace Go.Proofs.YtjdilmmpdlcimaaGreat
open Go.RowKit Go.Shelf Go.Mem Go.RegInv
attribute [local go_sem] RelUpon_value RelUpon_skip RelUpon_enter BigFrame.eval_const BigFrame.eval_global BigFrame.eval_func

set_option maxRecDepth 100000 in
set_option maxHeartbeats 4000000 in
theorem optionsR_any {L : Int} {J K : Option Addr} {n cj ck : Nat} {w : World} {P : Option Addr} {np cp : Nat} {am : List Int} {sp ga li : Int} (hnp : am.length = np) (hP : RowsAt 1 I1 w P am) (hn4 : n ≤ 4) (h3 : np ≤ 3) :
    Calls Tryz.prog 23 #[.agg #[.int .i64 L, .slice J n cj, .slice K n ck], .agg #[.slice P np cp, .int .i64 sp, .int .i64 ga, .int .i64 li]] w fun e w' => ∃ A, (∃ c, e = .returned (.slice A (optL am n).length c)) ∧ RowsAt 3 Sk.enc w' A (optL am n) ∧ Ext w w' := by
  obtain ⟨i0, hi0, hz0, ha0, hb0⟩ := info_parts infoSkG
  have I0 := Lib.hid hz0
  have HP := Lib.hid hP
  have HNP := Lib.hid hnp
  have HLB := Lib.hid (fun k i (h : k ≤ 4) => optX_len (am := am) (i := i) (by omega) h)
  have HXN := Lib.hid (fun k i (h : i < np) => optX_next (am := am) (k := k) (i := i) (by omega))
  have HXR := Lib.hid (fun k => show optX am (k + 1) 0 = optX am k np by rw [← hnp]; exact optX_row am k)
  have HXL := Lib.hid (show optX am n 0 = optL am n from optX_zero am n)
  generalize optL am n = ol at *
  clear hP hz0 hnp
  obtain ⟨W0, hW0⟩ : ∃ W0, W0 = (w.alloc (.cells #[.int .i64 L, .slice J n cj, .slice K n ck] 25)).alloc (.cells #[.slice P np cp, .int .i64 sp, .int .i64 ga, .int .i64 li] 27) := ⟨_, rfl⟩
  have K0 := Lib.hid (show Blk W0 (w.heap.size) 25 #[.int .i64 L, .slice J n cj, .slice K n ck] by rw [hW0]; exact (Blk.new _ _ _).alloc _)
  have K1 := Lib.hid (show Blk W0 (w.heap.size + 1) 27 #[.slice P np cp, .int .i64 sp, .int .i64 ga, .int .i64 li] by rw [hW0]; exact Blk.newAt _ _ _ (by simp))
  have E0 := Lib.hid (show Ext w W0 by rw [hW0]; exact (Ext.alloc _ _).trans (Ext.alloc _ _))
  have y0_0 : W0.cell? ⟨w.heap.size, 0, none⟩ = some (.int .i64 L) := K0.out.cell 0
  have y0_1 : W0.cell? ⟨w.heap.size, 1, none⟩ = some (.slice J n cj) := K0.out.cell 1
  have y0_2 : W0.cell? ⟨w.heap.size, 2, none⟩ = some (.slice K n ck) := K0.out.cell 2
  have y1_0 : W0.cell? ⟨w.heap.size + 1, 0, none⟩ = some (.slice P np cp) := K1.out.cell 0
  have y1_1 : W0.cell? ⟨w.heap.size + 1, 1, none⟩ = some (.int .i64 sp) := K1.out.cell 1
  have y1_2 : W0.cell? ⟨w.heap.size + 1, 2, none⟩ = some (.int .i64 ga) := K1.out.cell 2
  have y1_3 : W0.cell? ⟨w.heap.size + 1, 3, none⟩ = some (.int .i64 li) := K1.out.cell 3
  go_enter Tryz.func23, Tryz.ntmps23
  go_upto_region 2 with (fail)
  rw [← hW0]
  clear hW0
  go_wp2
  clear y0_0 y0_1 y0_2 y1_0 y1_1 y1_2 y1_3
  go_loopw [5, 6] (fun s i wr => ∃ (k c : Nat) (R : Option Addr), k ≤ n ∧ i = .int .i64 (k : Int) ∧ s = .slice R (optX am k 0).length c ∧ wr.ownsRow W0.heap.size 68 3 (.slice R (optX am k 0).length c) (optX am k 0).length ((optX am k 0).flatMap Sk.enc) ∧ Ext W0 wr) (fun _ i _ => n - (intOf i).toNat)
  case atStart => exact ⟨0, 0, none, by omega, rfl, rfl, own_none _ _ _ _, Ext.refl _⟩
  case round =>
    obtain ⟨k, c, R, hk, rfl, rfl, ho, hx⟩ := hrel
    have X := Lib.hid hx
    have O := Lib.hid ho
    clear hx ho
    have z1 : wr.cell? ⟨w.heap.size, 1, none⟩ = some (.slice J n cj) := (K0.out.ext X.out).cell 1
    by_cases hlt : k < n
    · have hki : (k : Int) < (n : Int) := by omega
      have HL2 := Lib.hid (fun i => HLB.out k i (by omega))
      have HX2 := Lib.hid (fun i (h : i < np) => HXN.out k i h)
      have HXE := Lib.hid (HXR.out k)
      obtain ⟨wo, hwo⟩ : ∃ x, x = wr := ⟨_, rfl⟩
      subst hwo
      go_wp2
      clear z1
      go_loopw [5, 7] (fun s i wr => ∃ (j c : Nat) (R : Option Addr), j ≤ np ∧ i = .int .i64 (j : Int) ∧ s = .slice R (optX am k j).length c ∧ wr.ownsRow W0.heap.size 68 3 (.slice R (optX am k j).length c) (optX am k j).length ((optX am k j).flatMap Sk.enc) ∧ Ext W0 wr) (fun _ i _ => np - (intOf i).toNat)
      case atStart => exact ⟨0, c, R, by omega, rfl, rfl, O.out, X.out⟩
      case round =>
        clear X O
        obtain ⟨j, c, R, hj, rfl, rfl, ho, hx⟩ := hrel
        have X := Lib.hid hx
        have O := Lib.hid ho
        clear hx ho
        by_cases hlj : j < np
        · have hji : (j : Int) < (np : Int) := by omega
          obtain ⟨pb, po, rfl, hpb, hpc⟩ := row_I1 (HP.out.ext (E0.out.trans X.out)) (i := j) (by have := HNP.out; omega)
          have HXJ := Lib.hid (HX2.out j hlj)
          have hl := HL2.out j
          generalize am.getD j 0 = a at *
          generalize hxl : optX am k j = xl at *
          clear hxl
          generalize hM : xl.length = M at *
          have HM := Lib.hid hM
          clear hM
          obtain ⟨V, hV⟩ : ∃ V, V = wr := ⟨_, rfl⟩
          rw [← hV] at X O hpc ⊢
          clear hV hpb
          have z0 : V.cell? ⟨w.heap.size + 1, 0, none⟩ = some (.slice (some ⟨pb, po, none⟩) np cp) := (K1.out.ext X.out).cell 0
          go_upto_region 8 with (fail)
          refine wp_region_partR 16 [some 22, some 23, some 24, some 25, some 26, some 27, some 28, some 29, some 30, some 31, some 32, some 33, some 34, some 35, some 36, some 37] [[5], [6], [3], [24], [7], [25, 26], [27], [23, 28], [6], [3], [31], [7], [32, 33], [34], [30, 35], [29, 36]]
            [Is (.slice R M c), Is (.int .i64 ((k : Int))), Is (.pointer (some ⟨w.heap.size + 1, 0, none⟩)), Is (.slice (some ⟨pb, po, none⟩) np cp), Is (.int .i64 ((j : Int))), Is (.pointer (some ⟨pb, po + j, none⟩)), Is (.int .i64 (a)), Is (.agg #[.int .i64 (k : Int), .int .i64 a, .bool false]), Is (.int .i64 ((k : Int))), Is (.pointer (some ⟨w.heap.size + 1, 0, none⟩)), Is (.slice (some ⟨pb, po, none⟩) np cp), Is (.int .i64 ((j : Int))), Is (.pointer (some ⟨pb, po + j, none⟩)), Is (.int .i64 (a)), Is (.agg #[.int .i64 (k : Int), .int .i64 a, .bool true]), SlQ #[.int .i64 (k : Int), .int .i64 a, .bool false, .int .i64 (k : Int), .int .i64 a, .bool true]]
            (by kernel_rfl) (by kernel_rfl) (by kernel_rfl) (by kernel_rfl) (by kernel_rfl) (by kernel_rfl) (by kernel_rfl) Ext (fun W => Ext V W)
            (fun W _ => Ext.refl W) (fun W W' h k => h.trans k) ?_ (Ext.drew _) ?_ ?_
          · repeat (refine ⟨fun _ _ _ _ k h => (by first | exact h | exact (by first | exact IntsAt.ext h k | exact SlQ.ext h k)), ?_⟩)
            exact trivial
          · refine ⟨?_, ?_, ?_, ?_, ?_, ?_, ?_, ?_, ?_, ?_, ?_, ?_, ?_, ?_, ?_, ?_, trivial⟩
            all_goals intro ρ W ⟨kc, kg, kf⟩ hF hs
            · obtain ⟨h0, -⟩ := hs
              replace h0 : ρ (.tmp 5) = .slice R M c := h0
              go_simp
              exact ⟨Ext.refl _, rfl⟩
            · obtain ⟨h0, -⟩ := hs
              replace h0 : ρ (.tmp 6) = .int .i64 ((k : Int)) := h0
              go_simp
              exact ⟨Ext.refl _, rfl⟩
            · obtain ⟨h0, -⟩ := hs
              replace h0 : ρ (.tmp 3) = .pointer (some ⟨w.heap.size + 1, 0, none⟩) := h0
              go_simp
              exact ⟨Ext.refl _, rfl⟩
            · obtain ⟨h0, -⟩ := hs
              replace h0 : ρ (.tmp 24) = .pointer (some ⟨w.heap.size + 1, 0, none⟩) := h0
              have hc0 : W.cell? ⟨w.heap.size + 1, 0, none⟩ = some (.slice (some ⟨pb, po, none⟩) np cp) := hF.cell (by assumption)
              go_simp
              exact ⟨Ext.refl _, rfl⟩
            · obtain ⟨h0, -⟩ := hs
              replace h0 : ρ (.tmp 7) = .int .i64 ((j : Int)) := h0
              go_simp
              exact ⟨Ext.refl _, rfl⟩
            · obtain ⟨h0, h1, -⟩ := hs
              replace h0 : ρ (.tmp 25) = .slice (some ⟨pb, po, none⟩) np cp := h0
              replace h1 : ρ (.tmp 26) = .int .i64 ((j : Int)) := h1
              have hb1 : (j : Int) < (np : Int) := by omega
              have hb3 : (0 : Int) ≤ (j : Int) := by omega
              have hb4 : ((j : Int)).toNat = j := by omega
              have hb8 : j < np := by omega
              go_simp
              exact ⟨Ext.refl _, rfl⟩
            · obtain ⟨h0, -⟩ := hs
              replace h0 : ρ (.tmp 27) = .pointer (some ⟨pb, po + j, none⟩) := h0
              have hc0 : W.cell? ⟨pb, po + j, none⟩ = some (.int .i64 (a)) := hF.cell (by assumption)
              go_simp
              exact ⟨Ext.refl _, rfl⟩
            · obtain ⟨h0, h1, -⟩ := hs
              replace h0 : ρ (.tmp 23) = .int .i64 ((k : Int)) := h0
              replace h1 : ρ (.tmp 28) = .int .i64 (a) := h1
              go_simp
              exact ⟨Ext.refl _, rfl⟩
            · obtain ⟨h0, -⟩ := hs
              replace h0 : ρ (.tmp 6) = .int .i64 ((k : Int)) := h0
              go_simp
              exact ⟨Ext.refl _, rfl⟩
            · obtain ⟨h0, -⟩ := hs
              replace h0 : ρ (.tmp 3) = .pointer (some ⟨w.heap.size + 1, 0, none⟩) := h0
              go_simp
              exact ⟨Ext.refl _, rfl⟩
            · obtain ⟨h0, -⟩ := hs
              replace h0 : ρ (.tmp 31) = .pointer (some ⟨w.heap.size + 1, 0, none⟩) := h0
              have hc0 : W.cell? ⟨w.heap.size + 1, 0, none⟩ = some (.slice (some ⟨pb, po, none⟩) np cp) := hF.cell (by assumption)
              go_simp
              exact ⟨Ext.refl _, rfl⟩
            · obtain ⟨h0, -⟩ := hs
              replace h0 : ρ (.tmp 7) = .int .i64 ((j : Int)) := h0
              go_simp
              exact ⟨Ext.refl _, rfl⟩
            · obtain ⟨h0, h1, -⟩ := hs
              replace h0 : ρ (.tmp 32) = .slice (some ⟨pb, po, none⟩) np cp := h0
              replace h1 : ρ (.tmp 33) = .int .i64 ((j : Int)) := h1
              have hb1 : (j : Int) < (np : Int) := by omega
              have hb3 : (0 : Int) ≤ (j : Int) := by omega
              have hb4 : ((j : Int)).toNat = j := by omega
              have hb8 : j < np := by omega
              go_simp
              exact ⟨Ext.refl _, rfl⟩
            · obtain ⟨h0, -⟩ := hs
              replace h0 : ρ (.tmp 34) = .pointer (some ⟨pb, po + j, none⟩) := h0
              have hc0 : W.cell? ⟨pb, po + j, none⟩ = some (.int .i64 (a)) := hF.cell (by assumption)
              go_simp
              exact ⟨Ext.refl _, rfl⟩
            · obtain ⟨h0, h1, -⟩ := hs
              replace h0 : ρ (.tmp 30) = .int .i64 ((k : Int)) := h0
              replace h1 : ρ (.tmp 35) = .int .i64 (a) := h1
              go_simp
              exact ⟨Ext.refl _, rfl⟩
            · obtain ⟨h0, h1, -⟩ := hs
              replace h0 : ρ (.tmp 29) = .agg #[.int .i64 (k : Int), .int .i64 a, .bool false] := h0
              replace h1 : ρ (.tmp 36) = .agg #[.int .i64 (k : Int), .int .i64 a, .bool true] := h1
              go_simp
              exact ⟨Ext.alloc _ _, _, rfl, Blk.new _ _ _⟩
          · intro fv V1 hF hs
            obtain ⟨h22, -, -, -, -, -, -, -, -, -, -, -, -, -, -, h37, -⟩ := hs
            replace h22 : fv 22 = .slice R M c := h22
            replace h37 : (SlQ #[.int .i64 (k : Int), .int .i64 a, .bool false, .int .i64 (k : Int), .int .i64 a, .bool true]) (fv 37) V1 := h37
            simp only [fin, List.filterMap]
            go_simp
            obtain ⟨q2, hq2, hQ2⟩ := h37
            rw [hq2]
            replace O := Lib.hid (own_ext O.out hF)
            replace X := Lib.hid (X.out.trans hF)
            have SZW := Lib.hid (show W0.heap.size ≤ V1.heap.size from X.out.size)
            have HNW := Lib.hid (show ∀ j u, [Value.int .i64 (k : Int), .int .i64 a, .bool false, .int .i64 (k : Int), .int .i64 a, .bool true][j]? = some u → V1.cell? ((⟨q2, 0, none⟩ : Addr).add j) = some u from fun j u hu => by
              rw [WideShapes.add_plain, show 0 + j = j by omega, hQ2.cell j]
              match j, hu with
              | 0, hu => exact hu
              | 1, hu => exact hu
              | 2, hu => exact hu
              | 3, hu => exact hu
              | 4, hu => exact hu
              | 5, hu => exact hu
              | j + 6, hu => simp at hu)
            clear hq2 hQ2 hF z0 hpc
            go_wp2_with (at_builtin; refine wpList_append_own _ rfl _ _ 32 rfl W0.heap.size 68 i0 (Value.agg #[.int .i64 0, .int .i64 0, .bool false]) 3 24 Tryz.underlying32 hi0 I0.out ha0 hb0 rfl (by decide) _ _ _ rfl O.out ⟨q2, 0, none⟩ 2 2 [Value.int .i64 (k : Int), .int .i64 a, .bool false, .int .i64 (k : Int), .int .i64 a, .bool true] rfl rfl HNW.out (by simp [Value.oneCell']) (by unfold maxLen; omega) (by omega) SZW.out ?_; intro v' w1 hown' hgrow _; have E1 := Lib.hid (Ext.grownBy X.out hgrow (fun g hg => own_base O.out hg)); obtain ⟨A', c', hv'⟩ := own_slice hown'; subst hv'; have O1 := Lib.hid hown'; clear hown' hgrow)
            have HL3 := Lib.hid (show (optX am k (j + 1)).length = M + 2 by rw [HXJ.out, List.length_append, HM.out]; rfl)
            have HF3 := Lib.hid (show (optX am k (j + 1)).flatMap Sk.enc = xl.flatMap Sk.enc ++ [Value.int .i64 (k : Int), .int .i64 a, .bool false, .int .i64 (k : Int), .int .i64 a, .bool true] by rw [HXJ.out, List.flatMap_append]; rfl)
            go_roundw
            case rel => exact ⟨j + 1, c', A', by omega, by go_num, by rw [HL3.out], by rw [HL3.out, HF3.out]; exact O1.out, E1.out⟩
            case measure => simp [intOf]; omega
        · obtain rfl : j = np := by omega
          have hjn : ¬ (j : Int) < (j : Int) := by omega
          have z0 : wr.cell? ⟨w.heap.size + 1, 0, none⟩ = some (.slice P j cp) := (K1.out.ext X.out).cell 0
          go_wp2
          go_roundw
          case rel => exact ⟨k + 1, c, R, by omega, by go_num, by rw [HXE.out], by rw [HXE.out]; exact O.out, X.out⟩
          case measure => simp [intOf]; omega
    · obtain rfl : k = n := by omega
      have hkn : ¬ (k : Int) < (k : Int) := by omega
      have hb := HLB.out k 0 (by omega)
      rw [HXL.out] at O hb ⊢
      have HR := Lib.hid (rows_own (enc := Sk.enc) (k := 3) rfl (fun _ => rfl) O.out (by omega))
      clear hb
      go_wp2
      go_ret
      exact ⟨R, ⟨c, rfl⟩, HR.out, E0.out.trans X.out⟩

end Go.Proofs.YtjdilmmpdlcimaaGreat

namespace Go.Proofs.YtjdilmmpdlcimaaGreat
open Go.RowKit Go.Shelf Go.Mem Go.RegInv
attribute [local go_sem] RelUpon_value RelUpon_skip RelUpon_enter BigFrame.eval_const BigFrame.eval_global BigFrame.eval_func


set_option maxRecDepth 100000 in
set_option maxHeartbeats 4000000 in
theorem grown_zero {L : Int} {J K : Option Addr} {n cj ck : Nat} {js : List Int} {ks : List Rg} {w : World} (hn : js.length = n) (hJ : RowsAt 1 I1 w J js) (hm : ks.length = n) (hK : RowsAt 2 Rg.enc w K ks) {P : Option Addr} {np cp : Nat} {am : List Int} {sp ga li : Int} (hnp : am.length = np) (hP : RowsAt 1 I1 w P am) {A : Option Addr} {N ca : Nat} {l : List Sk} {t : Int} (hN : l.length = N) (hA : RowsAt 3 Sk.enc w A l) (hnil : A = none → ca = 0) (hjn : J = none → cj = 0) (hkn : K = none → ck = 0) (hs : ShOK L js ks) (hp : PrOK am sp ga li) (f : Int) :
    Calls Tryz.prog 39 #[.agg #[.int .i64 L, .slice J n cj, .slice K n ck], .agg #[.slice P np cp, .int .i64 sp, .int .i64 ga, .int .i64 li], .agg #[.slice A N ca, .int .i64 t], .int .i64 f, .int .i64 0] w (FiP (if planE L js ks am sp ga li t l = 0 then some l else none) w) := by
  have HPE := Lib.hid (fun W (e : Ext w W) => refPlanErr_any (cp := cp) (ca := ca) (t := t) hn (hJ.ext e) hm (hK.ext e) hnp (hP.ext e) hN (hA.ext e) hjn hkn hs hp)
  generalize planE L js ks am sp ga li t l = pe at *
  have HA := Lib.hid hA
  have HN := Lib.hid hN
  have HL := Lib.hid hnil
  clear hn hm hK hJ hnp hP hs hp hN hA hnil hjn hkn
  obtain ⟨W0, hW0⟩ : ∃ W0, W0 = ((w.alloc (.cells #[.int .i64 L, .slice J n cj, .slice K n ck] 25)).alloc (.cells #[.slice P np cp, .int .i64 sp, .int .i64 ga, .int .i64 li] 27)).alloc (.cells #[.slice A N ca, .int .i64 t] 90) := ⟨_, rfl⟩
  have K0 := Lib.hid (show Blk W0 (w.heap.size) 25 #[.int .i64 L, .slice J n cj, .slice K n ck] by rw [hW0]; exact ((Blk.new _ _ _).alloc _).alloc _)
  have K1 := Lib.hid (show Blk W0 (w.heap.size + 1) 27 #[.slice P np cp, .int .i64 sp, .int .i64 ga, .int .i64 li] by rw [hW0]; exact (Blk.newAt _ _ _ (by simp)).alloc _)
  have K2 := Lib.hid (show Blk W0 (w.heap.size + 1 + 1) 90 #[.slice A N ca, .int .i64 t] by rw [hW0]; exact Blk.newAt _ _ _ (by simp))
  have E0 := Lib.hid (show Ext w W0 by rw [hW0]; exact ((Ext.alloc _ _).trans (Ext.alloc _ _)).trans (Ext.alloc _ _))
  have y0_0 : W0.cell? ⟨w.heap.size, 0, none⟩ = some (.int .i64 L) := K0.out.cell 0
  have y0_1 : W0.cell? ⟨w.heap.size, 1, none⟩ = some (.slice J n cj) := K0.out.cell 1
  have y0_2 : W0.cell? ⟨w.heap.size, 2, none⟩ = some (.slice K n ck) := K0.out.cell 2
  have y1_0 : W0.cell? ⟨w.heap.size + 1, 0, none⟩ = some (.slice P np cp) := K1.out.cell 0
  have y1_1 : W0.cell? ⟨w.heap.size + 1, 1, none⟩ = some (.int .i64 sp) := K1.out.cell 1
  have y1_2 : W0.cell? ⟨w.heap.size + 1, 2, none⟩ = some (.int .i64 ga) := K1.out.cell 2
  have y1_3 : W0.cell? ⟨w.heap.size + 1, 3, none⟩ = some (.int .i64 li) := K1.out.cell 3
  have y2_0 : W0.cell? ⟨w.heap.size + 1 + 1, 0, none⟩ = some (.slice A N ca) := K2.out.cell 0
  have y2_1 : W0.cell? ⟨w.heap.size + 1 + 1, 1, none⟩ = some (.int .i64 t) := K2.out.cell 1
  go_enter Tryz.func39, Tryz.ntmps39
  go_upto_region 1 with (fail)
  rw [← hW0]
  clear hW0
  go_upto_region 2 with (fail)
  refine wp_region_each [some 19, some 20, some 21, some 22, some 23, some 24, some 25, some 10, some 11] [[7], [19], [5], [6], [7], [21, 22, 23], [24], [20], [25]]
    [Is (.pointer (some ⟨w.heap.size + 1 + 1, 0, none⟩)), Is (.slice A N ca), Is (.agg #[.int .i64 L, .slice J n cj, .slice K n ck]), Is (.agg #[.slice P np cp, .int .i64 sp, .int .i64 ga, .int .i64 li]), Is (.agg #[.slice A N ca, .int .i64 (t)]), Is (.int .i64 (pe)), Is (.bool (pe == 0)), Is (.slice A N ca), Is (.bool (pe == 0))]
    (by kernel_rfl) (by kernel_rfl) (by kernel_rfl) (by kernel_rfl) (by kernel_rfl) Ext (fun W => Ext W0 W)
    (fun W _ => Ext.refl W) (fun W W' h k => h.trans k) ?_ (Ext.drew _) ?_ ?_
  · repeat (refine ⟨fun _ _ _ _ k h => (by first | exact h | exact (IntsAt.ext h k)), ?_⟩)
    exact trivial
  · refine ⟨?_, ?_, ?_, ?_, ?_, ?_, ?_, ?_, ?_, trivial⟩
    all_goals intro ρ W ⟨kc, kg, kf⟩ hF hs
    · obtain ⟨h0, -⟩ := hs
      replace h0 : ρ (.tmp 7) = .pointer (some ⟨w.heap.size + 1 + 1, 0, none⟩) := h0
      go_simp
      exact ⟨Ext.refl _, rfl⟩
    · obtain ⟨h0, -⟩ := hs
      replace h0 : ρ (.tmp 19) = .pointer (some ⟨w.heap.size + 1 + 1, 0, none⟩) := h0
      have hc0 : W.cell? ⟨w.heap.size + 1 + 1, 0, none⟩ = some (.slice A N ca) := hF.cell (by assumption)
      go_simp
      exact ⟨Ext.refl _, rfl⟩
    · obtain ⟨h0, -⟩ := hs
      replace h0 : ρ (.tmp 5) = .pointer (some ⟨w.heap.size, 0, none⟩) := h0
      have hc0 : W.cell? ⟨w.heap.size, 0, none⟩ = some (.int .i64 L) := hF.cell (by assumption)
      have hc1 : W.cell? ⟨w.heap.size, 1, none⟩ = some (.slice J n cj) := hF.cell (by assumption)
      have hc2 : W.cell? ⟨w.heap.size, 2, none⟩ = some (.slice K n ck) := hF.cell (by assumption)
      go_simp
      exact ⟨Ext.refl _, rfl⟩
    · obtain ⟨h0, -⟩ := hs
      replace h0 : ρ (.tmp 6) = .pointer (some ⟨w.heap.size + 1, 0, none⟩) := h0
      have hc0 : W.cell? ⟨w.heap.size + 1, 0, none⟩ = some (.slice P np cp) := hF.cell (by assumption)
      have hc1 : W.cell? ⟨w.heap.size + 1, 1, none⟩ = some (.int .i64 sp) := hF.cell (by assumption)
      have hc2 : W.cell? ⟨w.heap.size + 1, 2, none⟩ = some (.int .i64 ga) := hF.cell (by assumption)
      have hc3 : W.cell? ⟨w.heap.size + 1, 3, none⟩ = some (.int .i64 li) := hF.cell (by assumption)
      go_simp
      exact ⟨Ext.refl _, rfl⟩
    · obtain ⟨h0, -⟩ := hs
      replace h0 : ρ (.tmp 7) = .pointer (some ⟨w.heap.size + 1 + 1, 0, none⟩) := h0
      have hc0 : W.cell? ⟨w.heap.size + 1 + 1, 0, none⟩ = some (.slice A N ca) := hF.cell (by assumption)
      have hc1 : W.cell? ⟨w.heap.size + 1 + 1, 1, none⟩ = some (.int .i64 (t)) := hF.cell (by assumption)
      go_simp
      exact ⟨Ext.refl _, rfl⟩
    · obtain ⟨h0, h1, h2, -⟩ := hs
      replace h0 : ρ (.tmp 21) = .agg #[.int .i64 L, .slice J n cj, .slice K n ck] := h0
      replace h1 : ρ (.tmp 22) = .agg #[.slice P np cp, .int .i64 sp, .int .i64 ga, .int .i64 li] := h1
      replace h2 : ρ (.tmp 23) = .agg #[.slice A N ca, .int .i64 (t)] := h2
      go_simp
      refine (HPE.out _ (Ext.trans E0.out hF)).mono ?_; rintro e w' ⟨rfl, hx⟩; exact ⟨_, rfl, hx, rfl⟩
    · obtain ⟨h0, -⟩ := hs
      replace h0 : ρ (.tmp 24) = .int .i64 (pe) := h0
      go_simp
      exact ⟨Ext.refl _, rfl⟩
    · obtain ⟨h0, -⟩ := hs
      replace h0 : ρ (.tmp 20) = .slice A N ca := h0
      go_simp
      exact ⟨Ext.refl _, rfl⟩
    · obtain ⟨h0, -⟩ := hs
      replace h0 : ρ (.tmp 25) = .bool (pe == 0) := h0
      go_simp
      exact ⟨Ext.refl _, rfl⟩
  · intro fv W1 hF hs
    obtain ⟨-, -, -, -, -, -, -, h10, h11, -⟩ := hs
    replace h10 : fv 10 = .slice A N ca := h10
    replace h11 : fv 11 = .bool (pe == 0) := h11
    simp only [fin, List.filterMap]
    go_simp
    have X := Lib.hid (E0.out.trans hF)
    clear hF y0_0 y0_1 y0_2 y1_0 y1_1 y1_2 y1_3 y2_0 y2_1 K0 K1 K2 E0
    by_cases hz : pe = 0
    · subst hz
      go_wp2
      go_ret2
      exact ⟨A, N, ca, rfl, (fun p h => by obtain rfl := Option.some.inj h; exact ⟨HN.out, HA.out.ext X.out, HL.out⟩), X.out⟩
    · have hz2 : (pe == 0) = false := by simp [hz]
      go_wp2
      go_ret2
      all_goals exact ⟨A, N, ca, by first | rfl | (rw [if_neg hz, hz2]; rfl), (fun p h => by first | (cases h; done) | (rw [if_neg hz] at h; cases h)), X.out⟩

end Go.Proofs.YtjdilmmpdlcimaaGreat
