/- All strokes of a press. -/
import Derived.Test.YtjdilmmpdlcimaaGreatC2
import Derived.Test.YtjdilmmpdlcimaaGreatQ1
import Derived.Lib.MinMax
import Derived.Deep.DeepCutAuto
import Derived.Laws.AppendOwn
import Derived.Laws.AppendOwnNone

namespace Go.Proofs.YtjdilmmpdlcimaaGreat
open Go.RowKit Go.Shelf Go.Mem Go.RegInv
attribute [local go_sem] RelUpon_value RelUpon_skip RelUpon_enter BigFrame.eval_const BigFrame.eval_global BigFrame.eval_func


/-- The strokes of a press at a joint, of its first i amounts; those at the joints before. -/
def optI (am : List Int) (k i : Nat) : List Sk := (am.take i).flatMap fun a => [⟨(k : Int), a, false⟩, ⟨(k : Int), a, true⟩]
def optO (am : List Int) (k : Nat) : List Sk := (List.range k).flatMap fun j => optI am j am.length
def optX (am : List Int) (k i : Nat) : List Sk := optO am k ++ optI am k i
def optL (am : List Int) (n : Nat) : List Sk := optO am n
theorem optX_next {am : List Int} {k i : Nat} (h : i < am.length) : optX am k (i + 1) = optX am k i ++ [⟨(k : Int), am.getD i 0, false⟩, ⟨(k : Int), am.getD i 0, true⟩] := by
  unfold optX optI
  rw [List.take_add_one, List.getElem?_eq_getElem h, List.flatMap_append, List.append_assoc]
  simp [h]
theorem optX_row (am : List Int) (k : Nat) : optX am (k + 1) 0 = optX am k am.length := by
  simp [optX, optO, optI, List.range_succ, List.flatMap_append]
theorem optX_zero (am : List Int) (k : Nat) : optX am k 0 = optO am k := by simp [optX, optI]
theorem optI_len (am : List Int) (k i : Nat) : (optI am k i).length ≤ 2 * am.length := by
  have h : ∀ l : List Int, (l.flatMap fun a => [(⟨(k : Int), a, false⟩ : Sk), ⟨(k : Int), a, true⟩]).length = 2 * l.length := by
    intro l
    induction l with
    | nil => rfl
    | cons x l ih => rw [List.flatMap_cons, List.length_append, ih]; simp; omega
  unfold optI
  rw [h]
  have := List.length_take_le i am
  have := List.length_take_le' i am
  omega
theorem optO_len (am : List Int) : ∀ k, (optO am k).length ≤ k * (2 * am.length)
  | 0 => by simp [optO]
  | k + 1 => by
    have h1 := optO_len am k
    have h2 := optI_len am k am.length
    have : optO am (k + 1) = optO am k ++ optI am k am.length := by simp [optO, List.range_succ, List.flatMap_append]
    rw [this, List.length_append, Nat.succ_mul]
    omega
theorem optX_len {am : List Int} {k i : Nat} (h3 : am.length ≤ 3) (h4 : k ≤ 4) : (optX am k i).length ≤ 30 := by
  have h1 := optO_len am k
  have h2 := optI_len am k i
  have h5 : k * (2 * am.length) ≤ 4 * 6 := Nat.mul_le_mul h4 (by omega)
  unfold optX
  rw [List.length_append]
  omega
set_option maxRecDepth 100000 in
set_option maxHeartbeats 1000000 in
theorem strokesOf_any {L : Int} {J K : Option Addr} {n m cj ck : Nat} {P : Option Addr} {np cp : Nat} {am : List Int} {sp ga li : Int} {w : World} (hnp : am.length = np) (hP : RowsAt 1 I1 w P am) (hn4 : n ≤ 4) (h3 : np ≤ 3) :
    Calls Tryz.prog 28 #[.agg #[.int .i64 L, .slice J n cj, .slice K m ck], .agg #[.slice P np cp, .int .i64 sp, .int .i64 ga, .int .i64 li]] w fun e w' => ∃ A c, e = .returned (.slice A (optL am n).length c) ∧ RowsAt 3 Sk.enc w' A (optL am n) ∧ (A = none → c = 0) ∧ (optL am n).length ≤ c ∧ Ext w w' := by
  obtain ⟨i0, hi0, hz0, ha0, hb0⟩ := info_parts infoSkG
  have I0 := Lib.hid hz0
  have HP := Lib.hid hP
  have HNP := Lib.hid hnp
  have HLB := Lib.hid (fun k i (h : k ≤ 4) => optX_len (am := am) (i := i) (by omega) h)
  have HXN := Lib.hid (fun k i (h : i < np) => optX_next (am := am) (k := k) (i := i) (by omega))
  have HXR := Lib.hid (fun k => show optX am (k + 1) 0 = optX am k np by rw [← hnp]; exact optX_row am k)
  have HXL := Lib.hid (show optX am n 0 = optL am n from optX_zero am n)
  generalize optL am n = ol at *
  clear hP hz0 hnp
  obtain ⟨W0, hW0⟩ : ∃ W0, W0 = (w.alloc (.cells #[.int .i64 L, .slice J n cj, .slice K m ck] 25)).alloc (.cells #[.slice P np cp, .int .i64 sp, .int .i64 ga, .int .i64 li] 27) := ⟨_, rfl⟩
  have K0 := Lib.hid (show Blk W0 (w.heap.size) 25 #[.int .i64 L, .slice J n cj, .slice K m ck] by rw [hW0]; exact (Blk.new _ _ _).alloc _)
  have K1 := Lib.hid (show Blk W0 (w.heap.size + 1) 27 #[.slice P np cp, .int .i64 sp, .int .i64 ga, .int .i64 li] by rw [hW0]; exact Blk.newAt _ _ _ (by simp))
  have E0 := Lib.hid (show Ext w W0 by rw [hW0]; exact (Ext.alloc _ _).trans (Ext.alloc _ _))
  have y0_0 : W0.cell? ⟨w.heap.size, 0, none⟩ = some (.int .i64 L) := K0.out.cell 0
  have y0_1 : W0.cell? ⟨w.heap.size, 1, none⟩ = some (.slice J n cj) := K0.out.cell 1
  have y0_2 : W0.cell? ⟨w.heap.size, 2, none⟩ = some (.slice K m ck) := K0.out.cell 2
  have y1_0 : W0.cell? ⟨w.heap.size + 1, 0, none⟩ = some (.slice P np cp) := K1.out.cell 0
  have y1_1 : W0.cell? ⟨w.heap.size + 1, 1, none⟩ = some (.int .i64 sp) := K1.out.cell 1
  have y1_2 : W0.cell? ⟨w.heap.size + 1, 2, none⟩ = some (.int .i64 ga) := K1.out.cell 2
  have y1_3 : W0.cell? ⟨w.heap.size + 1, 3, none⟩ = some (.int .i64 li) := K1.out.cell 3
  go_enter Tryz.func28, Tryz.ntmps28
  go_upto_region 2 with (fail)
  rw [← hW0]
  clear hW0
  go_wp2
  clear y0_0 y0_1 y0_2 y1_0 y1_1 y1_2 y1_3
  go_loopw [5, 14] (fun s i wr => ∃ (k c : Nat) (R : Option Addr), k ≤ n ∧ i = .int .i64 (k : Int) ∧ s = .slice R (optX am k 0).length c ∧ wr.ownsRow W0.heap.size 68 3 (.slice R (optX am k 0).length c) (optX am k 0).length ((optX am k 0).flatMap Sk.enc) ∧ Ext W0 wr) (fun _ i _ => n - (intOf i).toNat)
  case atStart => exact ⟨0, 0, none, by omega, rfl, rfl, own_none _ _ _ _, Ext.refl _⟩
  case round =>
    obtain ⟨k, c, R, hk, rfl, rfl, ho, hx⟩ := hrel
    have X := Lib.hid hx
    have O := Lib.hid ho
    clear hx ho
    by_cases hlt : k < n
    · have hki : (k : Int) < (n : Int) := by omega
      have z0 : wr.cell? ⟨w.heap.size + 1, 0, none⟩ = some (.slice P np cp) := (K1.out.ext X.out).cell 0
      have HL2 := Lib.hid (fun i => HLB.out k i (by omega))
      have HX2 := Lib.hid (fun i (h : i < np) => HXN.out k i h)
      have HXE := Lib.hid (HXR.out k)
      obtain ⟨wo, hwo⟩ : ∃ x, x = wr := ⟨_, rfl⟩
      subst hwo
      go_wp2
      clear z0
      go_loopw [5, 20] (fun s i wr => ∃ (j c : Nat) (R : Option Addr), j ≤ np ∧ i = .int .i64 (j : Int) ∧ s = .slice R (optX am k j).length c ∧ wr.ownsRow W0.heap.size 68 3 (.slice R (optX am k j).length c) (optX am k j).length ((optX am k j).flatMap Sk.enc) ∧ Ext W0 wr) (fun _ i _ => np - (intOf i).toNat)
      case atStart => exact ⟨0, c, R, by omega, rfl, rfl, O.out, X.out⟩
      case round =>
        clear X O
        obtain ⟨j, c, R, hj, rfl, rfl, ho, hx⟩ := hrel
        have X := Lib.hid hx
        have O := Lib.hid ho
        clear hx ho
        by_cases hlj : j < np
        · have hji : (j : Int) < (np : Int) := by omega
          obtain ⟨pb, po, rfl, hpb, hpc⟩ := row_I1 (HP.out.ext (E0.out.trans X.out)) (i := j) (by have := HNP.out; omega)
          have HXJ := Lib.hid (HX2.out j hlj)
          have hl := HL2.out j
          have hnb : np ≤ 1152921504606846976 := by omega
          generalize am.getD j 0 = a at *
          generalize hxl : optX am k j = xl at *
          have HXX := Lib.hid hxl
          clear hxl
          generalize hM : xl.length = M at *
          have HM := Lib.hid hM
          clear hM
          obtain ⟨q9, hq9⟩ : ∃ q, q = wr.heap.size := ⟨_, rfl⟩
          obtain ⟨W3, hW3⟩ : ∃ W, W = (wr.alloc (.cells #[.int .i64 (k : Int), .int .i64 a, .bool false] 68)).alloc (.cells #[.int .i64 (k : Int), .int .i64 a, .bool true] 68) := ⟨_, rfl⟩
          have K9 := Lib.hid (show Blk W3 q9 68 #[.int .i64 (k : Int), .int .i64 a, .bool false] by rw [hW3, hq9]; exact (Blk.new _ _ _).alloc _)
          have K10 := Lib.hid (show Blk W3 (q9 + 1) 68 #[.int .i64 (k : Int), .int .i64 a, .bool true] by rw [hW3, hq9]; exact Blk.newAt _ _ _ (by simp))
          have E3 := Lib.hid (show Ext wr W3 by rw [hW3]; exact (Ext.alloc _ _).trans (Ext.alloc _ _))
          go_upto_region 11 with (fail)
          rw [← hW3, ← hq9]
          clear hW3 hq9 hpc
          have l0 : W3.cell? ⟨q9, 0, none⟩ = some (.int .i64 (k : Int)) := K9.out.cell 0
          have l1 : W3.cell? ⟨q9, 1, none⟩ = some (.int .i64 a) := K9.out.cell 1
          have l2 : W3.cell? ⟨q9, 2, none⟩ = some (.bool false) := K9.out.cell 2
          have l3 : W3.cell? ⟨q9 + 1, 0, none⟩ = some (.int .i64 (k : Int)) := K10.out.cell 0
          have l4 : W3.cell? ⟨q9 + 1, 1, none⟩ = some (.int .i64 a) := K10.out.cell 1
          have l5 : W3.cell? ⟨q9 + 1, 2, none⟩ = some (.bool true) := K10.out.cell 2
          replace O := Lib.hid (own_ext O.out (E3.out.trans (Ext.alloc W3 (.cells #[.int .i64 (k : Int), .int .i64 a, .bool false, .int .i64 (k : Int), .int .i64 a, .bool true] 68))))
          replace X := Lib.hid (X.out.trans E3.out)
          have SZ := Lib.hid (show W0.heap.size ≤ W3.heap.size from X.out.size)
          have HNW := Lib.hid (show ∀ j u, [Value.int .i64 (k : Int), .int .i64 a, .bool false, .int .i64 (k : Int), .int .i64 a, .bool true][j]? = some u → (W3.alloc (.cells #[.int .i64 (k : Int), .int .i64 a, .bool false, .int .i64 (k : Int), .int .i64 a, .bool true] 68)).cell? ((⟨W3.heap.size, 0, none⟩ : Addr).add j) = some u from fun j u hu => by
            rw [WideShapes.add_plain, show 0 + j = j by omega, (Blk.new W3 68 #[.int .i64 (k : Int), .int .i64 a, .bool false, .int .i64 (k : Int), .int .i64 a, .bool true]).cell j]
            match j, hu with
            | 0, hu => exact hu
            | 1, hu => exact hu
            | 2, hu => exact hu
            | 3, hu => exact hu
            | 4, hu => exact hu
            | 5, hu => exact hu
            | j + 6, hu => simp at hu)
          clear K9 K10 E3
          go_wp2_with (at_builtin; refine wpList_append_own _ rfl _ _ 32 rfl W0.heap.size 68 i0 (Value.agg #[.int .i64 0, .int .i64 0, .bool false]) 3 24 Tryz.underlying32 hi0 I0.out ha0 hb0 rfl (by decide) _ _ _ rfl O.out ⟨W3.heap.size, 0, none⟩ 2 2 [Value.int .i64 (k : Int), .int .i64 a, .bool false, .int .i64 (k : Int), .int .i64 a, .bool true] rfl rfl HNW.out (by simp [Value.oneCell']) (by unfold maxLen; omega) (by omega) (by have := SZ.out; simp; omega) ?_; intro v' w1 hown' hgrow _; have E1 := Lib.hid (Ext.grownBy (X.out.trans (Ext.alloc _ _)) hgrow (fun g hg => own_base O.out hg)); obtain ⟨A', c', hv'⟩ := own_slice hown'; subst hv'; have O1 := Lib.hid hown'; clear hown' hgrow)
          have HL3 := Lib.hid (show (optX am k (j + 1)).length = M + 2 by rw [HXJ.out, List.length_append, HM.out]; rfl)
          have HF3 := Lib.hid (show (optX am k (j + 1)).flatMap Sk.enc = xl.flatMap Sk.enc ++ [Value.int .i64 (k : Int), .int .i64 a, .bool false, .int .i64 (k : Int), .int .i64 a, .bool true] by rw [HXJ.out, List.flatMap_append]; rfl)
          go_roundw
          case rel => exact ⟨j + 1, c', A', by omega, by go_num, by rw [HL3.out], by rw [HL3.out, HF3.out]; exact O1.out, E1.out⟩
          case measure => simp [intOf]; omega
        · obtain rfl : j = np := by omega
          have hjn : ¬ (j : Int) < (j : Int) := by omega
          go_wp2
          go_roundw
          case rel => exact ⟨k + 1, c, R, by omega, by go_num, by rw [HXE.out], by rw [HXE.out]; exact O.out, X.out⟩
          case measure => simp [intOf]; omega
    · obtain rfl : k = n := by omega
      have hkn : ¬ (k : Int) < (k : Int) := by omega
      rw [HXL.out] at O ⊢
      have hl : ol.length ≤ 30 := by have := HLB.out k 0 (by omega); rwa [HXL.out] at this
      have R1 : Hid (RowsAt 3 Sk.enc wr R ol) := Lib.hid (rows_own rfl (fun _ => rfl) O.out (by omega))
      have N2 := Lib.hid (show (R = none → c = 0) ∧ ol.length ≤ c by
        rcases O.out.2 with ⟨h2, h3⟩ | ⟨g, cap, cu, h2, _, _, h3, _⟩
        · exact ⟨fun _ => by simpa using congrArg (fun v => match v with | Value.slice _ _ c => c | _ => 0) h2, by omega⟩
        · have hc : c = cap := by simpa using congrArg (fun v => match v with | Value.slice _ _ c => c | _ => 0) h2
          exact ⟨fun hr => by rw [hr] at h2; simp at h2, by omega⟩)
      go_wp2
      go_ret
      exact ⟨R, c, rfl, R1.out, N2.out.1, N2.out.2, E0.out.trans X.out⟩

end Go.Proofs.YtjdilmmpdlcimaaGreat
