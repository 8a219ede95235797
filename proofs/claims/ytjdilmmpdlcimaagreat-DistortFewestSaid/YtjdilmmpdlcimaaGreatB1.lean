/- Influences. -/
import Derived.Test.YtjdilmmpdlcimaaGreatA5
import Derived.Test.YtjdilmmpdlcimaaGreatA4
import Derived.Lib.MinMax
import Derived.Deep.DeepCutAuto

namespace Go.Proofs.YtjdilmmpdlcimaaGreat
open Go.RowKit Go.Shelf Go.Mem Go.RegInv
attribute [local go_sem] RelUpon_value RelUpon_skip RelUpon_enter BigFrame.eval_const BigFrame.eval_global BigFrame.eval_func


def withinB (a lo hi : Int) : Bool := decide (lo ≤ a) && decide (a ≤ hi)
theorem within_any (a lo hi : Int) (w : World) : Calls Tryz.prog 35 #[.int .i64 a, .int .i64 lo, .int .i64 hi] w fun e w' => e = .returned (.bool (withinB a lo hi)) ∧ w = w' := by
  by_cases h1 : lo ≤ a
  · by_cases h2 : a ≤ hi
    all_goals
      go_enter Tryz.func35, Tryz.ntmps35
      go_wp2
      go_ret
      exact ⟨by simp [withinB, h1, h2], rfl⟩
  · go_enter Tryz.func35, Tryz.ntmps35
    go_wp2
    go_ret
    exact ⟨by simp [withinB]; omega, rfl⟩
set_option maxRecDepth 100000 in
set_option maxHeartbeats 1000000 in
theorem influence_any {L : Int} {J K : Option Addr} {n m cj ck : Nat} {js : List Int} {w : World} (hn : js.length = n) (hJ : RowsAt 1 I1 w J js) {i : Nat} {p : Int} (hi : i < n) (hb : L ≤ 10000) (hj : 0 ≤ js.getD i 0 ∧ js.getD i 0 ≤ L) (hp : 0 ≤ p ∧ p ≤ L) :
    Calls Tryz.prog 65 #[.agg #[.int .i64 L, .slice J n cj, .slice K m ck], .int .i64 (i : Int), .int .i64 p] w fun e w' => e = .returned (.int .i64 (infl L (js.getD i 0) p)) ∧ Ext w w' := by
  obtain ⟨jb, jo, rfl, hjb, hjc⟩ := row_I1 hJ (i := i) (by omega)
  have hib := infl_bd hb hj hp
  have hnb := hJ.1
  unfold infl at hib ⊢
  generalize js.getD i 0 = j at *
  have hi2 : (i : Int) < (n : Int) := by omega
  have hnb2 : n ≤ 1152921504606846976 := by omega
  obtain ⟨W0, hW0⟩ : ∃ W0, W0 = w.alloc (.cells #[.int .i64 L, .slice (some ⟨jb, jo, none⟩) n cj, .slice K m ck] 75) := ⟨_, rfl⟩
  have k0 : Blk W0 w.heap.size 75 #[.int .i64 L, .slice (some ⟨jb, jo, none⟩) n cj, .slice K m ck] := by rw [hW0]; exact Blk.new _ _ _
  have E0 := Lib.hid (show Ext w W0 by rw [hW0]; exact Ext.alloc _ _)
  have y0 : W0.cell? ⟨w.heap.size, 0, none⟩ = some (.int .i64 L) := k0.cell 0
  have y1 : W0.cell? ⟨w.heap.size, 1, none⟩ = some (.slice (some ⟨jb, jo, none⟩) n cj) := k0.cell 1
  have y2 : W0.cell? ⟨w.heap.size, 2, none⟩ = some (.slice K m ck) := k0.cell 2
  clear k0
  have y5 := E0.out.cell hjc
  clear hJ hjc hn
  go_enter Tryz.func65, Tryz.ntmps65
  go_upto_region 1 with (fail)
  rw [← hW0]
  clear hW0
  go_wp2
  go_ret
  exact ⟨rfl, E0.out⟩
theorem refInfl_any (L j p : Int) (hb : L ≤ 10000) (hj : 0 ≤ j ∧ j ≤ L) (hp : 0 ≤ p ∧ p ≤ L) (w : World) :
    Calls Tryz.prog 37 #[.int .i64 L, .int .i64 j, .int .i64 p] w fun e w' => e = .returned (.int .i64 (infl L j p)) ∧ w = w' := by
  have hib := infl_bd hb hj hp
  unfold infl at hib ⊢
  go_enter Tryz.func37, Tryz.ntmps37
  go_wp2
  go_ret
  exact ⟨rfl, rfl⟩

end Go.Proofs.YtjdilmmpdlcimaaGreat
