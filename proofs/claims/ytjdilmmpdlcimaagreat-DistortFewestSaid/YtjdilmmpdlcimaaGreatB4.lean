/- The error of a shaft. -/
import Derived.Test.YtjdilmmpdlcimaaGreatB3
import Derived.Lib.MinMax
import Derived.Deep.DeepCutAuto

namespace Go.Proofs.YtjdilmmpdlcimaaGreat
open Go.RowKit Go.Shelf Go.Mem Go.RegInv
attribute [local go_sem] RelUpon_value RelUpon_skip RelUpon_enter BigFrame.eval_const BigFrame.eval_global BigFrame.eval_func


def jointK (L : Int) (js : List Int) (ks : List Rg) (i : Nat) : Int := firstE [rangeE 1 (L - 1) [js.getD i 0], errIf (if i = 0 then false else decide (js.getD i 0 ≤ js.getD (i - 1) 0)) 9, endsE (-100000) 100000 (ks.getD i default)]
def headK (L : Int) (n m : Nat) : Int := firstE [rangeE 1 10000 [L], errIf (decide ((4 : Int) < (n : Int))) 8, errIf ((m : Int) != (n : Int)) 10]
def checkS (L : Int) (js : List Int) (ks : List Rg) : Int × Int := if headK L js.length ks.length ≠ 0 then (0, headK L js.length ks.length) else firstAt (jointK L js ks) js.length 0
theorem errIf_zero {b : Bool} {c : Int} (hc : c ≠ 0) (h : errIf b c = 0) : b = false := by
  unfold errIf at h
  split at h
  · exact absurd h hc
  · rename_i h1; simpa using h1
theorem headK_ok {L : Int} {n m : Nat} (h : headK L n m = 0) : 1 ≤ L ∧ L ≤ 10000 ∧ n ≤ 4 ∧ m = n := by
  have h1 := firstE_zero h
  have a := rangeE_zeros (h1 (rangeE 1 10000 [L]) (by simp)) L (by simp)
  have b := errIf_zero (by decide) (h1 (errIf (decide ((4 : Int) < (n : Int))) 8) (by simp))
  have c := errIf_zero (by decide) (h1 (errIf ((m : Int) != (n : Int)) 10) (by simp))
  simp at b c
  omega
theorem jointError_any {L : Int} {J K : Option Addr} {n cj ck : Nat} {js : List Int} {ks : List Rg} {w : World} (hn : js.length = n) (hJ : RowsAt 1 I1 w J js) (hm : ks.length = n) (hK : RowsAt 2 Rg.enc w K ks) {i : Nat} {a : Int} (h1 : 1 ≤ L) (h2 : L ≤ 10000) (hi : i < n) (ha : js.getD i 0 = a) :
    Calls Tryz.prog 76 #[.agg #[.int .i64 L, .slice J n cj, .slice K n ck], .int .i64 (i : Int), .int .i64 a] w fun e w' => e = .returned (.int .i64 (jointK L js ks i)) ∧ Ext w w' := by
  unfold jointK
  rw [ha]
  rcases Nat.eq_zero_or_pos i with h0 | h0
  · rw [if_pos h0]
    exact jointError_first (cj := cj) (ck := ck) hn hJ hm hK h1 h2 hi h0 rfl
  · rw [if_neg (by omega)]
    exact jointError_next (cj := cj) (ck := ck) hn hJ hm hK h1 h2 hi (show i = (i - 1) + 1 by omega) rfl
set_option maxRecDepth 100000 in
set_option maxHeartbeats 1000000 in
theorem checkShaft_any {L : Int} {J K : Option Addr} {n m cj ck : Nat} {js : List Int} {ks : List Rg} {w : World} (hn : js.length = n) (hJ : RowsAt 1 I1 w J js) (hm : ks.length = m) (hK : RowsAt 2 Rg.enc w K ks) :
    Calls Tryz.prog 48 #[.agg #[.int .i64 L, .slice J n cj, .slice K m ck]] w fun e w' => e = .returned (.tuple #[.int .i64 (checkS L js ks).1, .int .i64 (checkS L js ks).2]) ∧ Ext w w' := by
  have HT := Lib.hid (show checkS L js ks = if headK L n m ≠ 0 then (0, headK L n m) else firstAt (jointK L js ks) n 0 by rw [← hn, ← hm]; rfl)
  have HH := Lib.hid (show headK L n m = firstE [rangeE 1 10000 [L], errIf (decide ((4 : Int) < (n : Int))) 8, errIf ((m : Int) != (n : Int)) 10] from rfl)
  have hnb : n ≤ 1152921504606846976 := by have := hJ.1; omega
  have hmb : m ≤ 1152921504606846976 := by have := hK.1; omega
  have HF := Lib.hid (fun (hz : headK L n m = 0) W (e : Ext w W) => show Calls Tryz.prog 75 #[.slice J n cj, .func (.func 76) #[.agg #[.int .i64 L, .slice J n cj, .slice K m ck]] #[]] W fun e w' => e = .returned (.tuple #[.int .i64 (firstAt (jointK L js ks) n 0).1, .int .i64 (firstAt (jointK L js ks) n 0).2]) ∧ Ext W w' from by
    obtain ⟨h1, h2, -, hmn⟩ := headK_ok hz
    obtain rfl : n = m := hmn.symm
    exact firstError71_72 (bd := #[.agg #[.int .i64 L, .slice J n cj, .slice K n ck]]) hn (hJ.ext e) (fun i x W2 hx e2 => jointError_any (cj := cj) (ck := ck) hn (hJ.ext (e.trans e2)) hm (hK.ext (e.trans e2)) h1 h2 (by have := (List.getElem?_eq_some_iff.1 hx).1; omega) (by simp [hx])))
  generalize firstAt (jointK L js ks) n 0 = fa at *
  generalize checkS L js ks = cs at *
  generalize headK L n m = z at *
  clear hn hJ hm hK
  obtain ⟨W0, hW0⟩ : ∃ W0, W0 = w.alloc (.cells #[.int .i64 L, .slice J n cj, .slice K m ck] 25) := ⟨_, rfl⟩
  have k0 : Blk W0 w.heap.size 25 #[.int .i64 L, .slice J n cj, .slice K m ck] := by rw [hW0]; exact Blk.new _ _ _
  have E0 := Lib.hid (show Ext w W0 by rw [hW0]; exact Ext.alloc _ _)
  have y0 : W0.cell? ⟨w.heap.size, 0, none⟩ = some (.int .i64 L) := k0.cell 0
  have y1 : W0.cell? ⟨w.heap.size, 1, none⟩ = some (.slice J n cj) := k0.cell 1
  have y2 : W0.cell? ⟨w.heap.size, 2, none⟩ = some (.slice K m ck) := k0.cell 2
  clear k0
  go_enter Tryz.func48, Tryz.ntmps48
  go_wp2
  rw [← hW0]
  clear hW0
  go_wp2
  refine wp_region_each [some 5, some 6, some 7, some 8, some 9, some 10, some 11, some 12, some 13, some 14, some 15, some 16, some 17, some 18, some 19, some 20, some 21, some 22, some 23, some 4] [[1], [5], [6], [7], [1], [9], [10], [11], [12], [1], [14], [15], [1], [17], [18], [16, 19], [20], [8, 13, 21], [22], [23]]
    [Is (.pointer (some ⟨w.heap.size, 0, none⟩)), Is (.int .i64 (L)), Ints [L], Is (.int .i64 (rangeE (1) (10000) [L])), Is (.pointer (some ⟨w.heap.size, 1, none⟩)), Is (.slice J n cj), Is (.int .i64 ((n : Int))), Is (.bool (decide ((4 : Int) < (n : Int)))), Is (.int .i64 (errIf (decide ((4 : Int) < (n : Int))) 8)), Is (.pointer (some ⟨w.heap.size, 2, none⟩)), Is (.slice K m ck), Is (.int .i64 ((m : Int))), Is (.pointer (some ⟨w.heap.size, 1, none⟩)), Is (.slice J n cj), Is (.int .i64 ((n : Int))), Is (.bool (((m : Int) != (n : Int)))), Is (.int .i64 (errIf (((m : Int) != (n : Int))) 10)), Ints [rangeE (1) (10000) [L], errIf (decide ((4 : Int) < (n : Int))) 8, errIf (((m : Int) != (n : Int))) 10], Is (.int .i64 (firstE [rangeE (1) (10000) [L], errIf (decide ((4 : Int) < (n : Int))) 8, errIf (((m : Int) != (n : Int))) 10])), Is (.int .i64 (firstE [rangeE (1) (10000) [L], errIf (decide ((4 : Int) < (n : Int))) 8, errIf (((m : Int) != (n : Int))) 10]))]
    (by kernel_rfl) (by kernel_rfl) (by kernel_rfl) (by kernel_rfl) (by kernel_rfl) Ext (fun W => Ext W0 W)
    (fun W _ => Ext.refl W) (fun W W' h k => h.trans k) ?_ (Ext.drew _) ?_ ?_
  · repeat (refine ⟨fun _ _ _ _ k h => (by first | exact h | exact (IntsAt.ext h k)), ?_⟩)
    exact trivial
  · refine ⟨?_, ?_, ?_, ?_, ?_, ?_, ?_, ?_, ?_, ?_, ?_, ?_, ?_, ?_, ?_, ?_, ?_, ?_, ?_, ?_, trivial⟩
    all_goals intro ρ W ⟨kc, kg, kf⟩ hF hs
    · obtain ⟨h0, -⟩ := hs
      replace h0 : ρ (.tmp 1) = .pointer (some ⟨w.heap.size, 0, none⟩) := h0
      go_simp
      exact ⟨Ext.refl _, rfl⟩
    · obtain ⟨h0, -⟩ := hs
      replace h0 : ρ (.tmp 5) = .pointer (some ⟨w.heap.size, 0, none⟩) := h0
      have hc0 : W.cell? ⟨w.heap.size, 0, none⟩ = some (.int .i64 (L)) := hF.cell (by assumption)
      go_simp
      exact ⟨Ext.refl _, rfl⟩
    · obtain ⟨h0, -⟩ := hs
      replace h0 : ρ (.tmp 6) = .int .i64 (L) := h0
      go_simp
      exact ⟨Ext.alloc _ _, ints_new _ [L] _ (by simp)⟩
    · obtain ⟨h0, -⟩ := hs
      replace h0 : (Ints [L]) (ρ (.tmp 7)) W := h0
      go_simp
      refine (rangeError_any _ _ _ _ _ h0).mono ?_; rintro e w' ⟨rfl, hx⟩; exact ⟨_, rfl, hx, rfl⟩
    · obtain ⟨h0, -⟩ := hs
      replace h0 : ρ (.tmp 1) = .pointer (some ⟨w.heap.size, 0, none⟩) := h0
      go_simp
      exact ⟨Ext.refl _, rfl⟩
    · obtain ⟨h0, -⟩ := hs
      replace h0 : ρ (.tmp 9) = .pointer (some ⟨w.heap.size, 1, none⟩) := h0
      have hc0 : W.cell? ⟨w.heap.size, 1, none⟩ = some (.slice J n cj) := hF.cell (by assumption)
      go_simp
      exact ⟨Ext.refl _, rfl⟩
    · obtain ⟨h0, -⟩ := hs
      replace h0 : ρ (.tmp 10) = .slice J n cj := h0
      go_simp
      exact ⟨Ext.refl _, rfl⟩
    · obtain ⟨h0, -⟩ := hs
      replace h0 : ρ (.tmp 11) = .int .i64 ((n : Int)) := h0
      go_simp
      exact ⟨Ext.refl _, rfl⟩
    · obtain ⟨h0, -⟩ := hs
      replace h0 : ρ (.tmp 12) = .bool (decide ((4 : Int) < (n : Int))) := h0
      go_simp
      refine (errorIf_any _ _ _).mono ?_; rintro e w' ⟨rfl, rfl⟩; exact ⟨_, rfl, Ext.refl _, rfl⟩
    · obtain ⟨h0, -⟩ := hs
      replace h0 : ρ (.tmp 1) = .pointer (some ⟨w.heap.size, 0, none⟩) := h0
      go_simp
      exact ⟨Ext.refl _, rfl⟩
    · obtain ⟨h0, -⟩ := hs
      replace h0 : ρ (.tmp 14) = .pointer (some ⟨w.heap.size, 2, none⟩) := h0
      have hc0 : W.cell? ⟨w.heap.size, 2, none⟩ = some (.slice K m ck) := hF.cell (by assumption)
      go_simp
      exact ⟨Ext.refl _, rfl⟩
    · obtain ⟨h0, -⟩ := hs
      replace h0 : ρ (.tmp 15) = .slice K m ck := h0
      go_simp
      exact ⟨Ext.refl _, rfl⟩
    · obtain ⟨h0, -⟩ := hs
      replace h0 : ρ (.tmp 1) = .pointer (some ⟨w.heap.size, 0, none⟩) := h0
      go_simp
      exact ⟨Ext.refl _, rfl⟩
    · obtain ⟨h0, -⟩ := hs
      replace h0 : ρ (.tmp 17) = .pointer (some ⟨w.heap.size, 1, none⟩) := h0
      have hc0 : W.cell? ⟨w.heap.size, 1, none⟩ = some (.slice J n cj) := hF.cell (by assumption)
      go_simp
      exact ⟨Ext.refl _, rfl⟩
    · obtain ⟨h0, -⟩ := hs
      replace h0 : ρ (.tmp 18) = .slice J n cj := h0
      go_simp
      exact ⟨Ext.refl _, rfl⟩
    · obtain ⟨h0, h1, -⟩ := hs
      replace h0 : ρ (.tmp 16) = .int .i64 ((m : Int)) := h0
      replace h1 : ρ (.tmp 19) = .int .i64 ((n : Int)) := h1
      go_simp
      exact ⟨Ext.refl _, rfl⟩
    · obtain ⟨h0, -⟩ := hs
      replace h0 : ρ (.tmp 20) = .bool (((m : Int) != (n : Int))) := h0
      go_simp
      refine (errorIf_any _ _ _).mono ?_; rintro e w' ⟨rfl, rfl⟩; exact ⟨_, rfl, Ext.refl _, rfl⟩
    · obtain ⟨h0, h1, h2, -⟩ := hs
      replace h0 : ρ (.tmp 8) = .int .i64 (rangeE (1) (10000) [L]) := h0
      replace h1 : ρ (.tmp 13) = .int .i64 (errIf (decide ((4 : Int) < (n : Int))) 8) := h1
      replace h2 : ρ (.tmp 21) = .int .i64 (errIf (((m : Int) != (n : Int))) 10) := h2
      go_simp
      exact ⟨Ext.alloc _ _, ints_new _ [rangeE (1) (10000) [L], errIf (decide ((4 : Int) < (n : Int))) 8, errIf (((m : Int) != (n : Int))) 10] _ (by simp)⟩
    · obtain ⟨h0, -⟩ := hs
      replace h0 : (Ints [rangeE (1) (10000) [L], errIf (decide ((4 : Int) < (n : Int))) 8, errIf (((m : Int) != (n : Int))) 10]) (ρ (.tmp 22)) W := h0
      go_simp
      refine (firstOf_any _ _ _ h0).mono ?_; rintro e w' ⟨rfl, rfl⟩; exact ⟨_, rfl, Ext.refl _, rfl⟩
    · obtain ⟨h0, -⟩ := hs
      replace h0 : ρ (.tmp 23) = .int .i64 (firstE [rangeE (1) (10000) [L], errIf (decide ((4 : Int) < (n : Int))) 8, errIf (((m : Int) != (n : Int))) 10]) := h0
      go_simp
      exact ⟨Ext.refl _, rfl⟩
  · intro fv W hF hs
    obtain ⟨-, -, -, -, -, -, -, -, -, -, -, -, -, -, -, -, -, -, -, h4, -⟩ := hs
    replace h4 : fv 4 = .int .i64 (firstE [rangeE (1) (10000) [L], errIf (decide ((4 : Int) < (n : Int))) 8, errIf (((m : Int) != (n : Int))) 10]) := h4
    simp only [fin, List.filterMap]
    go_simp
    rw [← HH.out]
    clear HH
    have z0 := hF.cell y0
    have z1 := hF.cell y1
    have z2 := hF.cell y2
    have X := Lib.hid (E0.out.trans hF)
    clear hF
    by_cases hz : z = 0
    · have hz2 : (z != 0) = false := by simp [hz]
      have HC := Lib.hid (fun W (e : Ext w W) => HF.out hz W e)
      have HZ := Lib.hid hz
      clear hz HF
      go_wp2_with (go_at_call 75; refine (HC.out _ X.out).mono ?_; rintro e W2 ⟨rfl, hx⟩; have X2 := Lib.hid (X.out.trans hx); clear hx)
      go_ret2
      exact ⟨ret_two (by rw [HT.out, if_neg (by simpa using HZ.out)]) (by rw [HT.out, if_neg (by simpa using HZ.out)]), X2.out⟩
    · have hz2 : (z != 0) = true := by simp [hz]
      have HZ := Lib.hid hz
      clear hz HF
      go_wp2
      go_ret2
      exact ⟨ret_two (by rw [HT.out, if_pos HZ.out]) (by rw [HT.out, if_pos HZ.out]), X.out⟩

end Go.Proofs.YtjdilmmpdlcimaaGreat
