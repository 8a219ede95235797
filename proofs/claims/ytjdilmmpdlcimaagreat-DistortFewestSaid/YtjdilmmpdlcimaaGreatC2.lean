/- The error of a press. -/
import Derived.Test.YtjdilmmpdlcimaaGreatC1
import Derived.Lib.MinMax
import Derived.Deep.DeepCutAuto

namespace Go.Proofs.YtjdilmmpdlcimaaGreat
open Go.RowKit Go.Shelf Go.Mem Go.RegInv
attribute [local go_sem] RelUpon_value RelUpon_skip RelUpon_enter BigFrame.eval_const BigFrame.eval_global BigFrame.eval_func


def pressK (am : List Int) (i : Nat) : Int := firstE [rangeE 1 10000 [am.getD i 0], errIf (if i = 0 then false else decide (am.getD i 0 ≤ am.getD (i - 1) 0)) 9]
def headP (np : Nat) : Int := firstE [errIf ((np : Int) == 0) 10, errIf (decide ((3 : Int) < (np : Int))) 8]
def tailP (sp ga li : Int) : Int := firstE [rangeE 0 10000 [sp], rangeE 0 1000 [ga], rangeE 0 40000 [li]]
def checkP (am : List Int) (sp ga li : Int) : Int × Int := if headP am.length ≠ 0 then (0, headP am.length) else if (firstAt (pressK am) am.length 0).2 ≠ 0 then firstAt (pressK am) am.length 0 else (0, tailP sp ga li)
set_option maxRecDepth 100000 in
set_option maxHeartbeats 1000000 in
theorem pressErr_first {am : List Int} {w : World} {i tb : Nat} {a : Int} (hi0 : i = 0) (ha : am.getD i 0 = a) :
    Calls Tryz.prog 77 #[.int .i64 (i : Int), .int .i64 a, .pointer (some ⟨tb, 0, none⟩)] w fun e w' => e = .returned (.int .i64 (pressK am i)) ∧ Ext w w' := by
  have HE := Lib.hid (show pressK am i = firstE [rangeE 1 10000 [a], errIf false 9] by unfold pressK; rw [if_pos hi0, ha])
  have hd : decide (0 < i) = false := by simp; omega
  generalize pressK am i = z at *
  clear ha hi0
  go_enter Tryz.func77, Tryz.ntmps77
  go_wp2_with (first
    | (go_at_call 40; refine (rangeError_any _ _ _ [_] _ (ints_new _ [_] _ (by simp))).mono ?_; rintro e W1 ⟨rfl, hx⟩; have X := Lib.hid ((Ext.alloc _ _).trans hx); clear hx)
    | (go_at_call 63; refine (errorIf_any _ _ _).mono ?_; rintro e w' ⟨rfl, rfl⟩)
    | (go_at_call 24; refine (firstOf_any _ [_, _] _ (ints_new _ [_, _] _ (by simp))).mono ?_; rintro e w' ⟨rfl, rfl⟩))
  go_ret
  exact ⟨ret_int HE.out.symm, X.out.trans (Ext.alloc _ _)⟩
set_option maxRecDepth 100000 in
set_option maxHeartbeats 1000000 in
theorem pressErr_next {P : Option Addr} {np cp : Nat} {am : List Int} {w : World} (hnp : am.length = np) (hP : RowsAt 1 I1 w P am) {i j tb : Nat} {a : Int} (hi : i < np) (hij : i = j + 1) (ha : am.getD i 0 = a) (ht : w.cell? ⟨tb, 0, none⟩ = some (.slice P np cp)) :
    Calls Tryz.prog 77 #[.int .i64 (i : Int), .int .i64 a, .pointer (some ⟨tb, 0, none⟩)] w fun e w' => e = .returned (.int .i64 (pressK am i)) ∧ Ext w w' := by
  have HE := Lib.hid (show pressK am i = firstE [rangeE 1 10000 [a], errIf (decide (a ≤ am.getD j 0)) 9] by unfold pressK; rw [if_neg (by omega), ha, show i - 1 = j by omega])
  have hnb : np ≤ 1152921504606846976 := by have := hP.1; omega
  obtain ⟨jb, jo, rfl, hjb, hjc⟩ := row_I1 hP (i := j) (by omega)
  generalize am.getD j 0 = pj at *
  have hd : decide (0 < i) = true := by simp; omega
  have hb6 : (1 : Int) ≤ (i : Int) := by omega
  have hb1 : (i : Int) - 1 < (np : Int) := by omega
  have hb3 : (0 : Int) ≤ (i : Int) - 1 := by omega
  have hb4 : ((i : Int) - 1).toNat = j := by omega
  have hb7 : i - 1 = j := by omega
  have hb9 : 1 ≤ i := by omega
  have hb5 : (i : Int) ≤ (np : Int) := by omega
  have hb8 : j < np := by omega
  generalize pressK am i = z at *
  clear hnp hP hi ha hij
  go_enter Tryz.func77, Tryz.ntmps77
  go_wp2_with (first
    | (go_at_call 40; refine (rangeError_any _ _ _ [_] _ (ints_new _ [_] _ (by simp))).mono ?_; rintro e W1 ⟨rfl, hx⟩; have X := Lib.hid ((Ext.alloc _ _).trans hx); have y0 := X.out.cell ht; have y1 := X.out.cell hjc; clear hx)
    | (go_at_call 63; refine (errorIf_any _ _ _).mono ?_; rintro e w' ⟨rfl, rfl⟩)
    | (go_at_call 24; refine (firstOf_any _ [_, _] _ (ints_new _ [_, _] _ (by simp))).mono ?_; rintro e w' ⟨rfl, rfl⟩))
  go_ret
  exact ⟨ret_int HE.out.symm, X.out.trans (Ext.alloc _ _)⟩
theorem pressErr_any {P : Option Addr} {np cp : Nat} {am : List Int} {w : World} (hnp : am.length = np) (hP : RowsAt 1 I1 w P am) {i tb : Nat} {a : Int} (hi : i < np) (ha : am.getD i 0 = a) (ht : w.cell? ⟨tb, 0, none⟩ = some (.slice P np cp)) :
    Calls Tryz.prog 77 #[.int .i64 (i : Int), .int .i64 a, .pointer (some ⟨tb, 0, none⟩)] w fun e w' => e = .returned (.int .i64 (pressK am i)) ∧ Ext w w' := by
  rcases Nat.eq_zero_or_pos i with h0 | h0
  · exact pressErr_first h0 ha
  · exact pressErr_next hnp hP hi (show i = (i - 1) + 1 by omega) ha ht
set_option maxRecDepth 100000 in
set_option maxHeartbeats 1000000 in
theorem checkPress_any {P : Option Addr} {np cp : Nat} {am : List Int} {sp ga li : Int} {w : World} (hnp : am.length = np) (hP : RowsAt 1 I1 w P am) :
    Calls Tryz.prog 49 #[.agg #[.slice P np cp, .int .i64 sp, .int .i64 ga, .int .i64 li]] w fun e w' => e = .returned (.tuple #[.int .i64 (checkP am sp ga li).1, .int .i64 (checkP am sp ga li).2]) ∧ Ext w w' := by
  have HT := Lib.hid (show checkP am sp ga li = if headP np ≠ 0 then (0, headP np) else if (firstAt (pressK am) np 0).2 ≠ 0 then firstAt (pressK am) np 0 else (0, tailP sp ga li) by rw [← hnp]; rfl)
  have HH := Lib.hid (show headP np = firstE [errIf ((np : Int) == 0) 10, errIf (decide ((3 : Int) < (np : Int))) 8] from rfl)
  have HQ := Lib.hid (show tailP sp ga li = firstE [rangeE 0 10000 [sp], rangeE 0 1000 [ga], rangeE 0 40000 [li]] from rfl)
  have hnb : np ≤ 1152921504606846976 := by have := hP.1; omega
  obtain ⟨W0, hW0⟩ : ∃ W0, W0 = w.alloc (.cells #[.slice P np cp, .int .i64 sp, .int .i64 ga, .int .i64 li] 27) := ⟨_, rfl⟩
  have K0 := Lib.hid (show Blk W0 (w.heap.size) 27 #[.slice P np cp, .int .i64 sp, .int .i64 ga, .int .i64 li] by rw [hW0]; exact Blk.new _ _ _)
  have E0 := Lib.hid (show Ext w W0 by rw [hW0]; exact Ext.alloc _ _)
  have y0_0 : W0.cell? ⟨w.heap.size, 0, none⟩ = some (.slice P np cp) := K0.out.cell 0
  have y0_1 : W0.cell? ⟨w.heap.size, 1, none⟩ = some (.int .i64 sp) := K0.out.cell 1
  have y0_2 : W0.cell? ⟨w.heap.size, 2, none⟩ = some (.int .i64 ga) := K0.out.cell 2
  have y0_3 : W0.cell? ⟨w.heap.size, 3, none⟩ = some (.int .i64 li) := K0.out.cell 3
  have HF := Lib.hid (fun W (e : Ext W0 W) => firstError71_88 (ca := cp) (E := pressK am) (cp := #[.pointer (some ⟨w.heap.size, 0, none⟩)]) hnp (hP.ext (E0.out.trans e)) (fun i x W2 hx e2 => pressErr_any (cp := cp) hnp (hP.ext (E0.out.trans (e.trans e2))) (by have := (List.getElem?_eq_some_iff.1 hx).1; omega) (by simp [hx]) ((e.trans e2).cell (K0.out.cell 0))))
  generalize firstAt (pressK am) np 0 = fa at *
  generalize checkP am sp ga li = cs at *
  generalize tailP sp ga li = tl at *
  generalize headP np = z at *
  clear hnp hP
  obtain ⟨f1, f2⟩ := fa
  dsimp only at *
  go_enter Tryz.func49, Tryz.ntmps49
  go_wp2
  rw [← hW0]
  clear hW0
  go_wp2
  refine wp_region_each [some 6, some 7, some 8, some 9, some 10, some 11, some 12, some 13, some 14, some 15, some 16, some 17, some 4] [[1], [6], [7], [8], [9], [1], [11], [12], [13], [14], [10, 15], [16], [17]]
    [Is (.pointer (some ⟨w.heap.size, 0, none⟩)), Is (.slice P np cp), Is (.int .i64 ((np : Int))), Is (.bool (((np : Int) == 0))), Is (.int .i64 (errIf (((np : Int) == 0)) 10)), Is (.pointer (some ⟨w.heap.size, 0, none⟩)), Is (.slice P np cp), Is (.int .i64 ((np : Int))), Is (.bool (decide ((3 : Int) < (np : Int)))), Is (.int .i64 (errIf (decide ((3 : Int) < (np : Int))) 8)), Ints [errIf (((np : Int) == 0)) 10, errIf (decide ((3 : Int) < (np : Int))) 8], Is (.int .i64 (firstE [errIf (((np : Int) == 0)) 10, errIf (decide ((3 : Int) < (np : Int))) 8])), Is (.int .i64 (firstE [errIf (((np : Int) == 0)) 10, errIf (decide ((3 : Int) < (np : Int))) 8]))]
    (by kernel_rfl) (by kernel_rfl) (by kernel_rfl) (by kernel_rfl) (by kernel_rfl) Ext (fun W => Ext W0 W)
    (fun W _ => Ext.refl W) (fun W W' h k => h.trans k) ?_ (Ext.drew _) ?_ ?_
  · repeat (refine ⟨fun _ _ _ _ k h => (by first | exact h | exact (IntsAt.ext h k)), ?_⟩)
    exact trivial
  · refine ⟨?_, ?_, ?_, ?_, ?_, ?_, ?_, ?_, ?_, ?_, ?_, ?_, ?_, trivial⟩
    all_goals intro ρ W ⟨kc, kg, kf⟩ hF hs
    · obtain ⟨h0, -⟩ := hs
      replace h0 : ρ (.tmp 1) = .pointer (some ⟨w.heap.size, 0, none⟩) := h0
      go_simp
      exact ⟨Ext.refl _, rfl⟩
    · obtain ⟨h0, -⟩ := hs
      replace h0 : ρ (.tmp 6) = .pointer (some ⟨w.heap.size, 0, none⟩) := h0
      have hc0 : W.cell? ⟨w.heap.size, 0, none⟩ = some (.slice P np cp) := hF.cell (by assumption)
      go_simp
      exact ⟨Ext.refl _, rfl⟩
    · obtain ⟨h0, -⟩ := hs
      replace h0 : ρ (.tmp 7) = .slice P np cp := h0
      go_simp
      exact ⟨Ext.refl _, rfl⟩
    · obtain ⟨h0, -⟩ := hs
      replace h0 : ρ (.tmp 8) = .int .i64 ((np : Int)) := h0
      go_simp
      exact ⟨Ext.refl _, rfl⟩
    · obtain ⟨h0, -⟩ := hs
      replace h0 : ρ (.tmp 9) = .bool (((np : Int) == 0)) := h0
      go_simp
      refine (errorIf_any _ _ _).mono ?_; rintro e w' ⟨rfl, rfl⟩; exact ⟨_, rfl, Ext.refl _, rfl⟩
    · obtain ⟨h0, -⟩ := hs
      replace h0 : ρ (.tmp 1) = .pointer (some ⟨w.heap.size, 0, none⟩) := h0
      go_simp
      exact ⟨Ext.refl _, rfl⟩
    · obtain ⟨h0, -⟩ := hs
      replace h0 : ρ (.tmp 11) = .pointer (some ⟨w.heap.size, 0, none⟩) := h0
      have hc0 : W.cell? ⟨w.heap.size, 0, none⟩ = some (.slice P np cp) := hF.cell (by assumption)
      go_simp
      exact ⟨Ext.refl _, rfl⟩
    · obtain ⟨h0, -⟩ := hs
      replace h0 : ρ (.tmp 12) = .slice P np cp := h0
      go_simp
      exact ⟨Ext.refl _, rfl⟩
    · obtain ⟨h0, -⟩ := hs
      replace h0 : ρ (.tmp 13) = .int .i64 ((np : Int)) := h0
      go_simp
      exact ⟨Ext.refl _, rfl⟩
    · obtain ⟨h0, -⟩ := hs
      replace h0 : ρ (.tmp 14) = .bool (decide ((3 : Int) < (np : Int))) := h0
      go_simp
      refine (errorIf_any _ _ _).mono ?_; rintro e w' ⟨rfl, rfl⟩; exact ⟨_, rfl, Ext.refl _, rfl⟩
    · obtain ⟨h0, h1, -⟩ := hs
      replace h0 : ρ (.tmp 10) = .int .i64 (errIf (((np : Int) == 0)) 10) := h0
      replace h1 : ρ (.tmp 15) = .int .i64 (errIf (decide ((3 : Int) < (np : Int))) 8) := h1
      go_simp
      exact ⟨Ext.alloc _ _, ints_new _ [errIf (((np : Int) == 0)) 10, errIf (decide ((3 : Int) < (np : Int))) 8] _ (by simp)⟩
    · obtain ⟨h0, -⟩ := hs
      replace h0 : (Ints [errIf (((np : Int) == 0)) 10, errIf (decide ((3 : Int) < (np : Int))) 8]) (ρ (.tmp 16)) W := h0
      go_simp
      refine (firstOf_any _ _ _ h0).mono ?_; rintro e w' ⟨rfl, rfl⟩; exact ⟨_, rfl, Ext.refl _, rfl⟩
    · obtain ⟨h0, -⟩ := hs
      replace h0 : ρ (.tmp 17) = .int .i64 (firstE [errIf (((np : Int) == 0)) 10, errIf (decide ((3 : Int) < (np : Int))) 8]) := h0
      go_simp
      exact ⟨Ext.refl _, rfl⟩
  · intro fv W hF hs
    obtain ⟨-, -, -, -, -, -, -, -, -, -, -, -, h4, -⟩ := hs
    replace h4 : fv 4 = .int .i64 (firstE [errIf (((np : Int) == 0)) 10, errIf (decide ((3 : Int) < (np : Int))) 8]) := h4
    simp only [fin, List.filterMap]
    go_simp
    rw [← HH.out]
    clear HH
    replace K0 := Lib.hid (K0.out.ext hF)
    have X := Lib.hid hF
    have z0 : W.cell? ⟨w.heap.size, 0, none⟩ = some (.slice P np cp) := K0.out.cell 0
    clear hF y0_0 y0_1 y0_2 y0_3
    by_cases hz : z = 0
    · have hz2 : (z != 0) = false := by simp [hz]
      have HZ := Lib.hid hz
      clear hz
      go_wp2_with (go_at_call 75; refine (HF.out _ X.out).mono ?_; rintro e W2 ⟨rfl, hx⟩; have X2 := Lib.hid ((E0.out.trans X.out).trans hx); replace K0 := Lib.hid (K0.out.ext hx); clear hx z0; refine Hid.out ?_)
      refine Lib.hid ?_
      clear X HF E0
      by_cases hy : f2 = 0
      · have hy2 : (f2 != 0) = false := by simp [hy]
        have HC := Lib.hid (show cs = (0, tl) by rw [HT.out, if_neg (by simpa using HZ.out), if_neg (by simpa using hy)])
        clear hy HT
        have y0_1 : W2.cell? ⟨w.heap.size, 1, none⟩ = some (.int .i64 sp) := K0.out.cell 1
        have y0_2 : W2.cell? ⟨w.heap.size, 2, none⟩ = some (.int .i64 ga) := K0.out.cell 2
        have y0_3 : W2.cell? ⟨w.heap.size, 3, none⟩ = some (.int .i64 li) := K0.out.cell 3
        go_upto_region 7 with (fail)
        refine wp_region_each [some 32, some 33, some 34, some 35, some 36, some 37, some 38, some 39, some 40, some 41, some 42, some 43, some 44, some 45, some 2, some 3] [[1], [32], [33], [34], [1], [36], [37], [38], [1], [40], [41], [42], [35, 39, 43], [44], [], [45]]
          [Is (.pointer (some ⟨w.heap.size, 1, none⟩)), Is (.int .i64 (sp)), Ints [sp], Is (.int .i64 (rangeE (0) (10000) [sp])), Is (.pointer (some ⟨w.heap.size, 2, none⟩)), Is (.int .i64 (ga)), Ints [ga], Is (.int .i64 (rangeE (0) (1000) [ga])), Is (.pointer (some ⟨w.heap.size, 3, none⟩)), Is (.int .i64 (li)), Ints [li], Is (.int .i64 (rangeE (0) (40000) [li])), Ints [rangeE (0) (10000) [sp], rangeE (0) (1000) [ga], rangeE (0) (40000) [li]], Is (.int .i64 (firstE [rangeE (0) (10000) [sp], rangeE (0) (1000) [ga], rangeE (0) (40000) [li]])), Is (.int .i64 (0)), Is (.int .i64 (firstE [rangeE (0) (10000) [sp], rangeE (0) (1000) [ga], rangeE (0) (40000) [li]]))]
          (by kernel_rfl) (by kernel_rfl) (by kernel_rfl) (by kernel_rfl) (by kernel_rfl) Ext (fun W => Ext W2 W)
          (fun W _ => Ext.refl W) (fun W W' h k => h.trans k) ?_ (Ext.drew _) ?_ ?_
        · repeat (refine ⟨fun _ _ _ _ k h => (by first | exact h | exact (IntsAt.ext h k)), ?_⟩)
          exact trivial
        · refine ⟨?_, ?_, ?_, ?_, ?_, ?_, ?_, ?_, ?_, ?_, ?_, ?_, ?_, ?_, ?_, ?_, trivial⟩
          all_goals intro ρ W ⟨kc, kg, kf⟩ hF hs
          · obtain ⟨h0, -⟩ := hs
            replace h0 : ρ (.tmp 1) = .pointer (some ⟨w.heap.size, 0, none⟩) := h0
            go_simp
            exact ⟨Ext.refl _, rfl⟩
          · obtain ⟨h0, -⟩ := hs
            replace h0 : ρ (.tmp 32) = .pointer (some ⟨w.heap.size, 1, none⟩) := h0
            have hc0 : W.cell? ⟨w.heap.size, 1, none⟩ = some (.int .i64 (sp)) := hF.cell (by assumption)
            go_simp
            exact ⟨Ext.refl _, rfl⟩
          · obtain ⟨h0, -⟩ := hs
            replace h0 : ρ (.tmp 33) = .int .i64 (sp) := h0
            go_simp
            exact ⟨Ext.alloc _ _, ints_new _ [sp] _ (by simp)⟩
          · obtain ⟨h0, -⟩ := hs
            replace h0 : (Ints [sp]) (ρ (.tmp 34)) W := h0
            go_simp
            refine (rangeError_any _ _ _ _ _ h0).mono ?_; rintro e w' ⟨rfl, hx⟩; exact ⟨_, rfl, hx, rfl⟩
          · obtain ⟨h0, -⟩ := hs
            replace h0 : ρ (.tmp 1) = .pointer (some ⟨w.heap.size, 0, none⟩) := h0
            go_simp
            exact ⟨Ext.refl _, rfl⟩
          · obtain ⟨h0, -⟩ := hs
            replace h0 : ρ (.tmp 36) = .pointer (some ⟨w.heap.size, 2, none⟩) := h0
            have hc0 : W.cell? ⟨w.heap.size, 2, none⟩ = some (.int .i64 (ga)) := hF.cell (by assumption)
            go_simp
            exact ⟨Ext.refl _, rfl⟩
          · obtain ⟨h0, -⟩ := hs
            replace h0 : ρ (.tmp 37) = .int .i64 (ga) := h0
            go_simp
            exact ⟨Ext.alloc _ _, ints_new _ [ga] _ (by simp)⟩
          · obtain ⟨h0, -⟩ := hs
            replace h0 : (Ints [ga]) (ρ (.tmp 38)) W := h0
            go_simp
            refine (rangeError_any _ _ _ _ _ h0).mono ?_; rintro e w' ⟨rfl, hx⟩; exact ⟨_, rfl, hx, rfl⟩
          · obtain ⟨h0, -⟩ := hs
            replace h0 : ρ (.tmp 1) = .pointer (some ⟨w.heap.size, 0, none⟩) := h0
            go_simp
            exact ⟨Ext.refl _, rfl⟩
          · obtain ⟨h0, -⟩ := hs
            replace h0 : ρ (.tmp 40) = .pointer (some ⟨w.heap.size, 3, none⟩) := h0
            have hc0 : W.cell? ⟨w.heap.size, 3, none⟩ = some (.int .i64 (li)) := hF.cell (by assumption)
            go_simp
            exact ⟨Ext.refl _, rfl⟩
          · obtain ⟨h0, -⟩ := hs
            replace h0 : ρ (.tmp 41) = .int .i64 (li) := h0
            go_simp
            exact ⟨Ext.alloc _ _, ints_new _ [li] _ (by simp)⟩
          · obtain ⟨h0, -⟩ := hs
            replace h0 : (Ints [li]) (ρ (.tmp 42)) W := h0
            go_simp
            refine (rangeError_any _ _ _ _ _ h0).mono ?_; rintro e w' ⟨rfl, hx⟩; exact ⟨_, rfl, hx, rfl⟩
          · obtain ⟨h0, h1, h2, -⟩ := hs
            replace h0 : ρ (.tmp 35) = .int .i64 (rangeE (0) (10000) [sp]) := h0
            replace h1 : ρ (.tmp 39) = .int .i64 (rangeE (0) (1000) [ga]) := h1
            replace h2 : ρ (.tmp 43) = .int .i64 (rangeE (0) (40000) [li]) := h2
            go_simp
            exact ⟨Ext.alloc _ _, ints_new _ [rangeE (0) (10000) [sp], rangeE (0) (1000) [ga], rangeE (0) (40000) [li]] _ (by simp)⟩
          · obtain ⟨h0, -⟩ := hs
            replace h0 : (Ints [rangeE (0) (10000) [sp], rangeE (0) (1000) [ga], rangeE (0) (40000) [li]]) (ρ (.tmp 44)) W := h0
            go_simp
            refine (firstOf_any _ _ _ h0).mono ?_; rintro e w' ⟨rfl, rfl⟩; exact ⟨_, rfl, Ext.refl _, rfl⟩
          · go_simp
            exact ⟨Ext.refl _, rfl⟩
          · obtain ⟨h0, -⟩ := hs
            replace h0 : ρ (.tmp 45) = .int .i64 (firstE [rangeE (0) (10000) [sp], rangeE (0) (1000) [ga], rangeE (0) (40000) [li]]) := h0
            go_simp
            exact ⟨Ext.refl _, rfl⟩
        · intro fv W hF hs
          obtain ⟨-, -, -, -, -, -, -, -, -, -, -, -, -, -, h2, h3, -⟩ := hs
          replace h2 : fv 2 = .int .i64 (0) := h2
          replace h3 : fv 3 = .int .i64 (firstE [rangeE (0) (10000) [sp], rangeE (0) (1000) [ga], rangeE (0) (40000) [li]]) := h3
          simp only [fin, List.filterMap]
          go_simp
          go_wp2
          go_ret2
          exact ⟨ret_two (by rw [HC.out]) (by rw [HC.out]; exact HQ.out.symm), X2.out.trans hF⟩
      · have hy2 : (f2 != 0) = true := by simp [hy]
        have HC := Lib.hid (show cs = (f1, f2) by rw [HT.out, if_neg (by simpa using HZ.out), if_pos (by simpa using hy)])
        clear hy HT
        go_wp2
        go_ret2
        exact ⟨ret_two (by rw [HC.out]) (by rw [HC.out]), X2.out⟩
    · have hz2 : (z != 0) = true := by simp [hz]
      have HC := Lib.hid (show cs = (0, z) by rw [HT.out, if_pos hz])
      clear hz HT HF
      go_wp2
      go_ret2
      exact ⟨ret_two (by rw [HC.out]) (by rw [HC.out]), E0.out.trans X.out⟩
theorem pressError_any {P : Option Addr} {np cp : Nat} {am : List Int} {sp ga li : Int} {w : World} (hnp : am.length = np) (hP : RowsAt 1 I1 w P am) : Calls Tryz.prog 26 #[.agg #[.slice P np cp, .int .i64 sp, .int .i64 ga, .int .i64 li]] w fun e w' => e = .returned (.int .i64 (checkP am sp ga li).2) ∧ Ext w w' := by
  have HC := Lib.hid (fun W (e : Ext w W) => checkPress_any (cp := cp) (sp := sp) (ga := ga) (li := li) hnp (hP.ext e))
  clear hnp hP
  go_enter Tryz.func26, Tryz.ntmps26
  go_wp2_with (go_at_call 49; refine (HC.out _ (Ext.alloc _ _)).mono ?_; rintro e W1 ⟨rfl, hx⟩; have X1 := Lib.hid ((Ext.alloc _ _).trans hx); clear hx)
  go_ret
  exact ⟨rfl, X1.out⟩
theorem checkP_ok {am : List Int} {sp ga li : Int} (h : (checkP am sp ga li).2 = 0) : PrOK am sp ga li := by
  unfold checkP at h
  by_cases hz : headP am.length = 0
  · rw [if_neg (by simpa using hz)] at h
    by_cases hy : (firstAt (pressK am) am.length 0).2 = 0
    · rw [if_neg (by simpa using hy)] at h
      have h1 := firstE_zero hz
      have a := errIf_zero (by decide) (h1 (errIf (((am.length : Nat) : Int) == 0) 10) (by simp))
      have b := of_decide_eq_false (errIf_zero (by decide) (h1 (errIf (decide ((3 : Int) < (am.length : Int))) 8) (by simp)))
      have a2 : am.length ≠ 0 := by intro he; rw [he] at a; simp at a
      have hj : ∀ i, i < am.length → pressK am i = 0 := fun i hi => firstAt_zero hy i (by omega) (by omega)
      have h2 := firstE_zero h
      refine ⟨by omega, by omega, fun i hi => rangeE_zeros (firstE_zero (hj i hi) (rangeE 1 10000 [am.getD i 0]) (by simp)) _ (by simp), fun i hi => ?_, ?_, ?_, ?_⟩
      · have := errIf_zero (by decide) (firstE_zero (hj (i + 1) hi) (errIf (if i + 1 = 0 then false else decide (am.getD (i + 1) 0 ≤ am.getD (i + 1 - 1) 0)) 9) (by simp))
        rw [if_neg (by omega), show i + 1 - 1 = i by omega] at this
        have := of_decide_eq_false this
        omega
      · exact rangeE_zeros (h2 (rangeE 0 10000 [sp]) (by simp)) sp (by simp)
      · exact rangeE_zeros (h2 (rangeE 0 1000 [ga]) (by simp)) ga (by simp)
      · exact rangeE_zeros (h2 (rangeE 0 40000 [li]) (by simp)) li (by simp)
    · rw [if_pos hy] at h
      exact absurd h hy
  · rw [if_pos hz] at h
    exact absurd h hz

end Go.Proofs.YtjdilmmpdlcimaaGreat
