/- Errors of ranges, sizes and tolerances. -/
import Derived.Test.YtjdilmmpdlcimaaGreatJ0
import Derived.Lib.MinMax

namespace Go.Proofs.YtjdilmmpdlcimaaGreat
open Go.RowKit Go.Shelf Go.Mem Go.RegInv
attribute [local go_sem] RelUpon_value RelUpon_skip RelUpon_enter BigFrame.eval_const BigFrame.eval_global BigFrame.eval_func


theorem wrap_id (x : Int) (h1 : -9223372036854775808 ≤ x) (h2 : x ≤ 9223372036854775807) : IntKind.i64.wrap x = x := IntWalk.i64_in x ⟨h1, h2⟩
theorem ret_two {a b c d : Int} (h : a = c) (k : b = d) : Ending.returned (.tuple #[.int .i64 a, .int .i64 b]) = .returned (.tuple #[.int .i64 c, .int .i64 d]) := by rw [h, k]
def tolE (n : Int) : Int := rangeE 0 1000000000000 [n]
theorem toleranceError_any (n : Int) (w : World) : Calls Tryz.prog 27 #[.int .i64 n] w fun e w' => e = .returned (.int .i64 (tolE n)) ∧ Ext w w' := by
  go_enter Tryz.func27, Tryz.ntmps27
  go_wp2_with (go_at_call 40; refine (rangeError_any _ _ _ [_] _ (ints_new _ [_] _ (by simp))).mono ?_; rintro e w' ⟨rfl, hx⟩; have X := Lib.hid ((Ext.alloc _ _).trans hx); clear hx)
  go_ret
  exact ⟨rfl, X.out⟩
theorem sizeError_any (m : Int) (hm : -1000000000000000000 ≤ m ∧ m ≤ 1000000000000000000) (v : Value) (xs : List Int) (w : World) (hx : IntsAt w v xs) : Calls Tryz.prog 42 #[.int .i64 m, v] w fun e w' => e = .returned (.int .i64 (rangeE (-m) m xs)) ∧ Ext w w' := by
  have H := Lib.hid (rangeError_any (-m) m v xs w hx)
  clear hx
  go_enter Tryz.func42, Tryz.ntmps42
  go_wp2_with (go_at_call 40; refine H.out.mono ?_; rintro e w' ⟨rfl, hx⟩; have X := Lib.hid hx; clear hx)
  go_ret
  exact ⟨rfl, X.out⟩
def endsE (lo hi : Int) (r : Rg) : Int := firstE [rangeE lo hi [r.1, r.2], errIf (decide (r.2 < r.1)) 9]
set_option maxRecDepth 100000 in
set_option maxHeartbeats 1000000 in
theorem endsError_any (lo hi : Int) (r : Rg) (w : World) : Calls Tryz.prog 74 #[.int .i64 lo, .int .i64 hi, .agg #[.int .i64 r.1, .int .i64 r.2]] w fun e w' => e = .returned (.int .i64 (endsE lo hi r)) ∧ Ext w w' := by
  have HE := Lib.hid (show endsE lo hi r = firstE [rangeE lo hi [r.1, r.2], errIf (decide (r.2 < r.1)) 9] from rfl)
  obtain ⟨W0, hW0⟩ : ∃ W0, W0 = w.alloc (.cells #[.int .i64 r.1, .int .i64 r.2] 49) := ⟨_, rfl⟩
  have k0 : Blk W0 w.heap.size 49 #[.int .i64 r.1, .int .i64 r.2] := by rw [hW0]; exact Blk.new _ _ _
  have E0 := Lib.hid (show Ext w W0 by rw [hW0]; exact Ext.alloc _ _)
  have y0 : W0.cell? ⟨w.heap.size, 0, none⟩ = some (.int .i64 r.1) := k0.cell 0
  have y1 : W0.cell? ⟨w.heap.size, 1, none⟩ = some (.int .i64 r.2) := k0.cell 1
  clear k0
  go_enter Tryz.func74, Tryz.ntmps74
  go_wp2
  rw [← hW0]
  clear hW0
  go_wp2
  refine wp_region_each [some 7, some 8, some 9, some 10, some 11, some 12, some 13, some 14, some 15, some 16, some 17, some 18, some 19, some 20, some 21, some 22, some 6] [[0], [1], [5], [9], [5], [11], [10, 12], [7, 8, 13], [5], [15], [5], [17], [16, 18], [19], [14, 20], [21], [22]]
    [Is (.int .i64 (lo)), Is (.int .i64 (hi)), Is (.pointer (some ⟨w.heap.size, 0, none⟩)), Is (.int .i64 (r.1)), Is (.pointer (some ⟨w.heap.size, 1, none⟩)), Is (.int .i64 (r.2)), Ints [r.1, r.2], Is (.int .i64 (rangeE (lo) (hi) [r.1, r.2])), Is (.pointer (some ⟨w.heap.size, 0, none⟩)), Is (.int .i64 (r.1)), Is (.pointer (some ⟨w.heap.size, 1, none⟩)), Is (.int .i64 (r.2)), Is (.bool (decide (r.2 < r.1))), Is (.int .i64 (errIf (decide (r.2 < r.1)) 9)), Ints [rangeE (lo) (hi) [r.1, r.2], errIf (decide (r.2 < r.1)) 9], Is (.int .i64 (firstE [rangeE (lo) (hi) [r.1, r.2], errIf (decide (r.2 < r.1)) 9])), Is (.int .i64 (firstE [rangeE (lo) (hi) [r.1, r.2], errIf (decide (r.2 < r.1)) 9]))]
    (by kernel_rfl) (by kernel_rfl) (by kernel_rfl) (by kernel_rfl) (by kernel_rfl) Ext (fun W => Ext W0 W)
    (fun W _ => Ext.refl W) (fun W W' h k => h.trans k) ?_ (Ext.drew _) ?_ ?_
  · repeat (refine ⟨fun _ _ _ _ k h => (by first | exact h | exact (IntsAt.ext h k)), ?_⟩)
    exact trivial
  · refine ⟨?_, ?_, ?_, ?_, ?_, ?_, ?_, ?_, ?_, ?_, ?_, ?_, ?_, ?_, ?_, ?_, ?_, trivial⟩
    all_goals intro ρ W ⟨kc, kg, kf⟩ hF hs
    · obtain ⟨h0, -⟩ := hs
      replace h0 : ρ (.tmp 0) = .int .i64 (lo) := h0
      go_simp
      exact ⟨Ext.refl _, rfl⟩
    · obtain ⟨h0, -⟩ := hs
      replace h0 : ρ (.tmp 1) = .int .i64 (hi) := h0
      go_simp
      exact ⟨Ext.refl _, rfl⟩
    · obtain ⟨h0, -⟩ := hs
      replace h0 : ρ (.tmp 5) = .pointer (some ⟨w.heap.size, 0, none⟩) := h0
      go_simp
      exact ⟨Ext.refl _, rfl⟩
    · obtain ⟨h0, -⟩ := hs
      replace h0 : ρ (.tmp 9) = .pointer (some ⟨w.heap.size, 0, none⟩) := h0
      have hc0 : W.cell? ⟨w.heap.size, 0, none⟩ = some (.int .i64 (r.1)) := hF.cell (by assumption)
      go_simp
      exact ⟨Ext.refl _, rfl⟩
    · obtain ⟨h0, -⟩ := hs
      replace h0 : ρ (.tmp 5) = .pointer (some ⟨w.heap.size, 0, none⟩) := h0
      go_simp
      exact ⟨Ext.refl _, rfl⟩
    · obtain ⟨h0, -⟩ := hs
      replace h0 : ρ (.tmp 11) = .pointer (some ⟨w.heap.size, 1, none⟩) := h0
      have hc0 : W.cell? ⟨w.heap.size, 1, none⟩ = some (.int .i64 (r.2)) := hF.cell (by assumption)
      go_simp
      exact ⟨Ext.refl _, rfl⟩
    · obtain ⟨h0, h1, -⟩ := hs
      replace h0 : ρ (.tmp 10) = .int .i64 (r.1) := h0
      replace h1 : ρ (.tmp 12) = .int .i64 (r.2) := h1
      go_simp
      exact ⟨Ext.alloc _ _, ints_new _ [r.1, r.2] _ (by simp)⟩
    · obtain ⟨h0, h1, h2, -⟩ := hs
      replace h0 : ρ (.tmp 7) = .int .i64 (lo) := h0
      replace h1 : ρ (.tmp 8) = .int .i64 (hi) := h1
      replace h2 : (Ints [r.1, r.2]) (ρ (.tmp 13)) W := h2
      go_simp
      refine (rangeError_any _ _ _ _ _ h2).mono ?_; rintro e w' ⟨rfl, hx⟩; exact ⟨_, rfl, hx, rfl⟩
    · obtain ⟨h0, -⟩ := hs
      replace h0 : ρ (.tmp 5) = .pointer (some ⟨w.heap.size, 0, none⟩) := h0
      go_simp
      exact ⟨Ext.refl _, rfl⟩
    · obtain ⟨h0, -⟩ := hs
      replace h0 : ρ (.tmp 15) = .pointer (some ⟨w.heap.size, 0, none⟩) := h0
      have hc0 : W.cell? ⟨w.heap.size, 0, none⟩ = some (.int .i64 (r.1)) := hF.cell (by assumption)
      go_simp
      exact ⟨Ext.refl _, rfl⟩
    · obtain ⟨h0, -⟩ := hs
      replace h0 : ρ (.tmp 5) = .pointer (some ⟨w.heap.size, 0, none⟩) := h0
      go_simp
      exact ⟨Ext.refl _, rfl⟩
    · obtain ⟨h0, -⟩ := hs
      replace h0 : ρ (.tmp 17) = .pointer (some ⟨w.heap.size, 1, none⟩) := h0
      have hc0 : W.cell? ⟨w.heap.size, 1, none⟩ = some (.int .i64 (r.2)) := hF.cell (by assumption)
      go_simp
      exact ⟨Ext.refl _, rfl⟩
    · obtain ⟨h0, h1, -⟩ := hs
      replace h0 : ρ (.tmp 16) = .int .i64 (r.1) := h0
      replace h1 : ρ (.tmp 18) = .int .i64 (r.2) := h1
      go_simp
      exact ⟨Ext.refl _, rfl⟩
    · obtain ⟨h0, -⟩ := hs
      replace h0 : ρ (.tmp 19) = .bool (decide (r.2 < r.1)) := h0
      go_simp
      refine (errorIf_any _ _ _).mono ?_; rintro e w' ⟨rfl, rfl⟩; exact ⟨_, rfl, Ext.refl _, rfl⟩
    · obtain ⟨h0, h1, -⟩ := hs
      replace h0 : ρ (.tmp 14) = .int .i64 (rangeE (lo) (hi) [r.1, r.2]) := h0
      replace h1 : ρ (.tmp 20) = .int .i64 (errIf (decide (r.2 < r.1)) 9) := h1
      go_simp
      exact ⟨Ext.alloc _ _, ints_new _ [rangeE (lo) (hi) [r.1, r.2], errIf (decide (r.2 < r.1)) 9] _ (by simp)⟩
    · obtain ⟨h0, -⟩ := hs
      replace h0 : (Ints [rangeE (lo) (hi) [r.1, r.2], errIf (decide (r.2 < r.1)) 9]) (ρ (.tmp 21)) W := h0
      go_simp
      refine (firstOf_any _ _ _ h0).mono ?_; rintro e w' ⟨rfl, rfl⟩; exact ⟨_, rfl, Ext.refl _, rfl⟩
    · obtain ⟨h0, -⟩ := hs
      replace h0 : ρ (.tmp 22) = .int .i64 (firstE [rangeE (lo) (hi) [r.1, r.2], errIf (decide (r.2 < r.1)) 9]) := h0
      go_simp
      exact ⟨Ext.refl _, rfl⟩
  · intro fv W hF hs
    obtain ⟨-, -, -, -, -, -, -, -, -, -, -, -, -, -, -, -, h6, -⟩ := hs
    replace h6 : fv 6 = .int .i64 (firstE [rangeE (lo) (hi) [r.1, r.2], errIf (decide (r.2 < r.1)) 9]) := h6
    simp only [fin, List.filterMap]
    go_simp
    go_wp2
    go_ret
    exact ⟨ret_int HE.out.symm, E0.out.trans hF⟩

end Go.Proofs.YtjdilmmpdlcimaaGreat
