/- Errors of samples in the reference. -/
import Derived.Test.YtjdilmmpdlcimaaN4
import Derived.Test.YtjdilmmpdlcimaaB1
import Derived.Lib.MinMax
import Derived.Deep.DeepCutAuto
import Derived.BigQuiet

namespace Go.Proofs.Ytjdilmmpdlcimaa
open Go.RowKit Go.Shelf Go.Mem Go.RegInv
attribute [local go_sem] RelUpon_value RelUpon_skip RelUpon_enter BigFrame.eval_const BigFrame.eval_global BigFrame.eval_func


theorem size_wide (a : Int) (ha : -9223372036854775807 ≤ a ∧ a ≤ 9223372036854775807) (w : World) : Calls Try.prog 146 #[.int .i64 a] w fun e w' => e = .returned (.int .i64 (a.natAbs : Int)) ∧ w = w' := by
  obtain ⟨h1, h2⟩ := ha
  go_enter Try.func146, Try.ntmps146
  go_wp2
  all_goals go_ret
  all_goals exact ⟨ret_int (by omega), rfl⟩
def Wd (d n : Int) : Prop := (-9223372036854775808 ≤ d ∧ d ≤ 9223372036854775807) ∧ (-9223372036854775807 ≤ n ∧ n ≤ 9223372036854775807) ∧ (n = 0 → -9223372036854775807 ≤ d)
theorem gcd_wide (a b : Int) (ha : -9223372036854775808 ≤ a ∧ a ≤ 9223372036854775807) (hb : 0 < b ∧ b ≤ 9223372036854775807) (w : World) : Calls Try.prog 113 #[.int .i64 a, .int .i64 b] w fun e w' => e = .returned (.int .i64 (Nat.gcd a.natAbs b.natAbs : Int)) ∧ Ext w w' := by
  have HW := Lib.hid (show Wd a b from ⟨ha, by omega, by omega⟩)
  obtain ⟨g, hg⟩ : ∃ g, g = Nat.gcd a.natAbs b.natAbs := ⟨_, rfl⟩
  rw [← hg]
  have HG := Lib.hid hg
  clear ha hb hg
  go_enter Try.func113, Try.ntmps113
  go_wp2
  go_loopw [0, 1] (fun d m w2 => ∃ (d2 n2 : Int), d = .int .i64 d2 ∧ m = .int .i64 n2 ∧ Nat.gcd d2.natAbs n2.natAbs = g ∧ Wd d2 n2 ∧ Ext w w2) (fun _ m _ => (intOf m).natAbs)
  case atStart => exact ⟨a, b, rfl, rfl, HG.out.symm, HW.out, Ext.refl _⟩
  case round =>
    obtain ⟨d2, n2, rfl, rfl, hg2, hd2, he2⟩ := hrel
    by_cases hz : n2 = 0
    · subst hz
      have HG2 := Lib.hid (show d2.natAbs = g by rw [← hg2]; simp)
      have HS := Lib.hid (size_wide d2 ⟨hd2.2.2 rfl, hd2.1.2⟩)
      clear hg2 hd2
      go_wp2_with (go_at_call 146; refine (HS.out _).mono ?_; rintro e w' ⟨rfl, rfl⟩)
      go_ret
      exact ⟨ret_int (by rw [HG2.out]), he2⟩
    · have HG2 := Lib.hid ((gcd_step d2 n2 hz).trans hg2)
      have h1 : (d2.tmod n2).natAbs < n2.natAbs := by rw [Int.natAbs_tmod]; exact Nat.mod_lt _ (by omega)
      obtain ⟨⟨p1, p2⟩, ⟨p3, p4⟩, -⟩ := hd2
      have hwr : IntKind.i64.wrap (d2.tmod n2) = d2.tmod n2 := IntWalk.i64_in _ (by omega)
      have hz' : (n2 == 0) = false := by simp [hz]
      have hz2 : (n2 != 0) = true := by simp [hz]
      have HW2 := Lib.hid (show Wd n2 (d2.tmod n2) from ⟨by omega, by omega, by omega⟩)
      have HM := Lib.hid h1
      have HZ := Lib.hid hz
      clear hg2 h1 p1 p2 p3 p4
      go_wp2
      go_quiet (fail)
      go_wp2
      go_roundw
      case rel => exact ⟨n2, d2.tmod n2, rfl, rfl, HG2.out, HW2.out, he2.trans (Ext.drewN _ _)⟩
      case measure => exact HM.out
def lowB (a b : Int) : Bool := decide (0 < b) && decide (Nat.gcd a.natAbs b.natAbs = 1)
def I64 (x : Int) : Prop := -9223372036854775808 ≤ x ∧ x ≤ 9223372036854775807
theorem isLowest_any (a b : Int) (ha : I64 a) (hb : I64 b) (w : World) : Calls Try.prog 109 #[.agg #[.int .i64 a, .int .i64 b]] w fun e w' => e = .returned (.bool (lowB a b)) ∧ Ext w w' := by
  by_cases h : 0 < b
  · obtain ⟨g, hg⟩ : ∃ g, g = Nat.gcd a.natAbs b.natAbs := ⟨_, rfl⟩
    have H1 := Lib.hid (fun W => show Calls Try.prog 113 #[.int .i64 a, .int .i64 b] W fun e w' => e = .returned (.int .i64 (g : Int)) ∧ Ext W w' from by rw [hg]; exact gcd_wide a b ha ⟨h, hb.2⟩ W)
    have HL := Lib.hid (show lowB a b = decide (g = 1) by rw [hg]; simp [lowB, h])
    clear hg
    generalize lowB a b = z at *
    clear ha hb
    go_enter Try.func109, Try.ntmps109
    go_wp2_with (go_at_call 113; refine (H1.out _).mono ?_; rintro e W1 ⟨rfl, hx⟩; have X1 := Lib.hid ((Ext.alloc _ _).trans hx); clear hx)
    go_ret
    have hb2 : ((g : Int) == 1) = z := by
      rw [HL.out]
      by_cases hg : g = 1
      · simp [hg]
      · have h2 : ¬ (g : Int) = 1 := by omega
        simp [hg, h2]
    exact ⟨congrArg (fun b => Ending.returned (.bool b)) hb2, X1.out⟩
  · have HL := Lib.hid (show lowB a b = false by simp [lowB, h])
    generalize lowB a b = z at *
    clear ha hb
    go_enter Try.func109, Try.ntmps109
    go_wp2
    go_ret
    exact ⟨by rw [HL.out]; rfl, Ext.alloc _ _⟩
def parE (a b : Int) : Int := if lowB a b then (if 100 < b then 2 else if withinB a 0 b then 0 else 2) else 3
theorem parE_zero {a b : Int} (h : parE a b = 0) : ∃ a' b' : Nat, a = (a' : Int) ∧ b = (b' : Int) ∧ FrOK a' b' := by
  unfold parE at h
  by_cases h1 : lowB a b = true
  · rw [if_pos h1] at h
    by_cases h2 : 100 < b
    · rw [if_pos h2] at h; cases h
    · rw [if_neg h2] at h
      by_cases h3 : withinB a 0 b = true
      · have h4 : 0 ≤ a ∧ a ≤ b := by simpa [withinB] using h3
        have h5 : 0 < b ∧ Nat.gcd a.natAbs b.natAbs = 1 := by simpa [lowB] using h1
        exact ⟨a.natAbs, b.natAbs, by omega, by omega, by omega, by omega, by omega, h5.2⟩
      · rw [if_neg h3] at h; cases h
  · rw [if_neg h1] at h; cases h
theorem partErr_any (a b : Int) (ha : I64 a) (hb : I64 b) (w : World) : Calls Try.prog 61 #[.agg #[.int .i64 a, .int .i64 b]] w fun e w' => e = .returned (.int .i64 (parE a b)) ∧ Ext w w' := by
  have HL := Lib.hid (fun W => isLowest_any a b ha hb W)
  have HE := Lib.hid (show parE a b = if lowB a b then (if 100 < b then 2 else if withinB a 0 b then 0 else 2) else 3 from rfl)
  have HWI := Lib.hid (fun W => within_any a 0 b W)
  generalize parE a b = z at *
  generalize lowB a b = l at *
  generalize withinB a 0 b = x at *
  clear ha hb
  obtain ⟨W0, hW0⟩ : ∃ W0, W0 = w.alloc (.cells #[.int .i64 a, .int .i64 b] 112) := ⟨_, rfl⟩
  have K0 := Lib.hid (show Blk W0 (w.heap.size) 112 #[.int .i64 a, .int .i64 b] by rw [hW0]; exact Blk.new _ _ _)
  have E0 := Lib.hid (show Ext w W0 by rw [hW0]; exact Ext.alloc _ _)
  have y0_0 : W0.cell? ⟨w.heap.size, 0, none⟩ = some (.int .i64 a) := K0.out.cell 0
  have y0_1 : W0.cell? ⟨w.heap.size, 1, none⟩ = some (.int .i64 b) := K0.out.cell 1
  go_enter Try.func61, Try.ntmps61
  go_upto_region 1 with (fail)
  rw [← hW0]
  clear hW0
  go_wp2_with (go_at_call 109; refine (HL.out _).mono ?_; rintro e W1 ⟨rfl, hx⟩; have X := Lib.hid (E0.out.trans hx); replace K0 := Lib.hid (K0.out.ext hx); clear hx y0_0 y0_1; refine Hid.out ?_)
  refine Lib.hid ?_
  have y0 : W1.cell? ⟨w.heap.size, 0, none⟩ = some (.int .i64 a) := K0.out.cell 0
  have y1 : W1.cell? ⟨w.heap.size, 1, none⟩ = some (.int .i64 b) := K0.out.cell 1
  cases l with
  | false =>
    go_wp2
    go_ret
    exact ⟨by rw [HE.out]; rfl, X.out⟩
  | true =>
    by_cases h2 : 100 < b
    · have HE2 := Lib.hid (show z = 2 by rw [HE.out, if_pos rfl, if_pos h2])
      go_wp2
      go_ret
      exact ⟨by rw [HE2.out]; rfl, X.out⟩
    · have HE2 := Lib.hid (show z = if x then 0 else 2 by rw [HE.out, if_pos rfl, if_neg h2])
      go_wp2_with (go_at_call 21; refine (HWI.out _).mono ?_; rintro e W2 ⟨rfl, rfl⟩; cases x)
      all_goals go_ret
      all_goals exact ⟨by rw [HE2.out]; rfl, X.out⟩
theorem countErr_any (n : Int) (w : World) : Calls Try.prog 60 #[.int .i64 n] w fun e w' => e = .returned (.int .i64 (if withinB n 2 40 then 0 else 2)) ∧ Ext w w' := by
  have HWI := Lib.hid (fun W => within_any n 2 40 W)
  generalize withinB n 2 40 = x at *
  cases x
  all_goals go_enter Try.func60, Try.ntmps60
  all_goals go_wp2_with (go_at_call 21; refine (HWI.out _).mono ?_; rintro e W2 ⟨rfl, rfl⟩)
  all_goals go_ret
  all_goals exact ⟨rfl, Ext.refl _⟩

end Go.Proofs.Ytjdilmmpdlcimaa
