/- The errors of stations. -/
import Derived.Test.YtjdilmmpdlcimaaYA
import Derived.Test.YtjdilmmpdlcimaaR5
import Derived.Lib.MinMax
import Derived.Deep.DeepCutAuto

namespace Go.Proofs.Ytjdilmmpdlcimaa
open Go.RowKit Go.Shelf Go.Mem Go.RegInv
attribute [local go_sem] RelUpon_value RelUpon_skip RelUpon_enter BigFrame.eval_const BigFrame.eval_global BigFrame.eval_func


set_option maxRecDepth 100000 in
set_option maxHeartbeats 1000000 in
theorem station_first {b o q n ca i : Nat} {x : Sn} {w : World} (hq : w.cell? ⟨q, 0, none⟩ = some (.slice (some ⟨b, o, none⟩) n ca)) (hi0 : i = 0) :
    Calls Try.prog 138 #[.int .i64 (i : Int), .agg #[.int .i64 x.t, .int .i64 x.x, .int .i64 x.y], .pointer (some ⟨q, 0, none⟩)] w fun e w' => e = .returned (.int .i64 (firstE [rangeE 0 10000 [x.t], rangeE (-1000000) 1000000 [x.x, x.y], errIf (false) 9])) ∧ Ext w w' := by
  have HIJ := Lib.hid hi0
  generalize hE : firstE [rangeE 0 10000 [x.t], rangeE (-1000000) 1000000 [x.x, x.y], errIf (false) 9] = z
  have HE := Lib.hid hE
  obtain ⟨W0, hW0⟩ : ∃ W0, W0 = w.alloc (.cells #[.int .i64 x.t, .int .i64 x.x, .int .i64 x.y] 109) := ⟨_, rfl⟩
  have k0 : Blk W0 w.heap.size 109 #[.int .i64 x.t, .int .i64 x.x, .int .i64 x.y] := by rw [hW0]; exact Blk.new _ _ _
  have E0 := Lib.hid (show Ext w W0 by rw [hW0]; exact Ext.alloc _ _)
  have y0 : W0.cell? ⟨w.heap.size, 0, none⟩ = some (.int .i64 x.t) := k0.cell 0
  have y1 : W0.cell? ⟨w.heap.size, 1, none⟩ = some (.int .i64 x.x) := k0.cell 1
  have y2 : W0.cell? ⟨w.heap.size, 2, none⟩ = some (.int .i64 x.y) := k0.cell 2
  clear k0
  have y4 := E0.out.cell hq

  clear hE hq hi0
  go_enter Try.func138, Try.ntmps138
  go_wp2
  rw [← hW0]
  clear hW0
  go_wp2
  refine wp_region_eachN [(18, true), (18, true), (18, true), (18, true), (18, true), (18, true), (18, true), (18, true), (18, true)] [some 6, some 7, some 8, some 9, some 10, some 11, some 12, some 13, some 14, some 15, some 16, some 17, some 18, some 19, some 20, some 21, some 22, some 23, some 24, some 25, some 26, some 27, some 28, some 29, some 30, some 31, some 5] [[4], [6], [7], [8], [4], [10], [4], [12], [11, 13], [14], [0], [16], [17], [4, 18], [19, 18], [2, 18], [0, 18], [22, 18], [21, 23, 18], [24, 18], [25, 18], [20, 26, 18], [18, 27], [28], [9, 15, 29], [30], [31]]
    [Is (.pointer (some ⟨w.heap.size, 0, none⟩)), Is (.int .i64 (x.t)), Ints [x.t], Is (.int .i64 (rangeE (0) (10000) [x.t])), Is (.pointer (some ⟨w.heap.size, 1, none⟩)), Is (.int .i64 (x.x)), Is (.pointer (some ⟨w.heap.size, 2, none⟩)), Is (.int .i64 (x.y)), Ints [x.x, x.y], Is (.int .i64 (rangeE (-1000000) 1000000 [x.x, x.y])), Is (.int .i64 ((i : Int))), Is (.bool (false)), Is (.bool (false)), Is (undef), Is (undef), Is (undef), Is (undef), Is (undef), Is (undef), Is (undef), Is (undef), Is (undef), Is (.bool (false)), Is (.int .i64 (errIf (false) 9)), Ints [rangeE (0) (10000) [x.t], rangeE (-1000000) 1000000 [x.x, x.y], errIf (false) 9], Is (.int .i64 (firstE [rangeE (0) (10000) [x.t], rangeE (-1000000) 1000000 [x.x, x.y], errIf (false) 9])), Is (.int .i64 (firstE [rangeE (0) (10000) [x.t], rangeE (-1000000) 1000000 [x.x, x.y], errIf (false) 9]))]
    (by kernel_rfl) (by kernel_rfl) (by kernel_rfl) (by kernel_rfl) (by kernel_rfl) Ext (fun W => Ext W0 W)
    (fun W _ => Ext.refl W) (fun W W' h k => h.trans k) ?_ (by intro p hp; simp only [List.mem_cons, List.not_mem_nil, or_false] at hp; rcases hp with rfl | rfl | rfl | rfl | rfl | rfl | rfl | rfl | rfl <;> exact ⟨_, rfl, fun _ _ h => h⟩) (Ext.drew _) ?_ ?_
  · repeat (refine ⟨fun _ _ _ _ k h => (by first | exact h | exact (IntsAt.ext h k)), ?_⟩)
    exact trivial
  · refine ⟨?_, ?_, ?_, ?_, ?_, ?_, ?_, ?_, ?_, ?_, ?_, ?_, ?_, ?_, ?_, ?_, ?_, ?_, ?_, ?_, ?_, ?_, ?_, ?_, ?_, ?_, ?_, trivial⟩
    · intro ρ W ⟨kc, kg, kf⟩ hF hs
      obtain ⟨h0, -⟩ := hs
      replace h0 : ρ (.tmp 4) = .pointer (some ⟨w.heap.size, 0, none⟩) := h0
      go_simp
      exact ⟨Ext.refl _, rfl⟩
    · intro ρ W ⟨kc, kg, kf⟩ hF hs
      obtain ⟨h0, -⟩ := hs
      replace h0 : ρ (.tmp 6) = .pointer (some ⟨w.heap.size, 0, none⟩) := h0
      have hc0 : W.cell? ⟨w.heap.size, 0, none⟩ = some (.int .i64 (x.t)) := hF.cell (by assumption)
      go_simp
      exact ⟨Ext.refl _, rfl⟩
    · intro ρ W ⟨kc, kg, kf⟩ hF hs
      obtain ⟨h0, -⟩ := hs
      replace h0 : ρ (.tmp 7) = .int .i64 (x.t) := h0
      go_simp
      exact ⟨Ext.alloc _ _, ints_new _ [x.t] _ (by simp)⟩
    · intro ρ W ⟨kc, kg, kf⟩ hF hs
      obtain ⟨h0, -⟩ := hs
      replace h0 : (Ints [x.t]) (ρ (.tmp 8)) W := h0
      go_simp
      refine (rangeError_any _ _ _ _ _ h0).mono ?_; rintro e w' ⟨rfl, hx⟩; exact ⟨_, rfl, hx, rfl⟩
    · intro ρ W ⟨kc, kg, kf⟩ hF hs
      obtain ⟨h0, -⟩ := hs
      replace h0 : ρ (.tmp 4) = .pointer (some ⟨w.heap.size, 0, none⟩) := h0
      go_simp
      exact ⟨Ext.refl _, rfl⟩
    · intro ρ W ⟨kc, kg, kf⟩ hF hs
      obtain ⟨h0, -⟩ := hs
      replace h0 : ρ (.tmp 10) = .pointer (some ⟨w.heap.size, 1, none⟩) := h0
      have hc0 : W.cell? ⟨w.heap.size, 1, none⟩ = some (.int .i64 (x.x)) := hF.cell (by assumption)
      go_simp
      exact ⟨Ext.refl _, rfl⟩
    · intro ρ W ⟨kc, kg, kf⟩ hF hs
      obtain ⟨h0, -⟩ := hs
      replace h0 : ρ (.tmp 4) = .pointer (some ⟨w.heap.size, 0, none⟩) := h0
      go_simp
      exact ⟨Ext.refl _, rfl⟩
    · intro ρ W ⟨kc, kg, kf⟩ hF hs
      obtain ⟨h0, -⟩ := hs
      replace h0 : ρ (.tmp 12) = .pointer (some ⟨w.heap.size, 2, none⟩) := h0
      have hc0 : W.cell? ⟨w.heap.size, 2, none⟩ = some (.int .i64 (x.y)) := hF.cell (by assumption)
      go_simp
      exact ⟨Ext.refl _, rfl⟩
    · intro ρ W ⟨kc, kg, kf⟩ hF hs
      obtain ⟨h0, h1, -⟩ := hs
      replace h0 : ρ (.tmp 11) = .int .i64 (x.x) := h0
      replace h1 : ρ (.tmp 13) = .int .i64 (x.y) := h1
      go_simp
      exact ⟨Ext.alloc _ _, ints_new _ [x.x, x.y] _ (by simp)⟩
    · intro ρ W ⟨kc, kg, kf⟩ hF hs
      obtain ⟨h0, -⟩ := hs
      replace h0 : (Ints [x.x, x.y]) (ρ (.tmp 14)) W := h0
      go_simp
      refine (sizeError_any 1000000 (by omega) _ _ _ h0).mono ?_; rintro e w' ⟨rfl, hx⟩; exact ⟨_, rfl, hx, rfl⟩
    · intro ρ W ⟨kc, kg, kf⟩ hF hs
      obtain ⟨h0, -⟩ := hs
      replace h0 : ρ (.tmp 0) = .int .i64 ((i : Int)) := h0
      go_simp
      exact ⟨Ext.refl _, rfl⟩
    · intro ρ W ⟨kc, kg, kf⟩ hF hs
      obtain ⟨h0, -⟩ := hs
      replace h0 : ρ (.tmp 16) = .int .i64 ((i : Int)) := h0
      have hd : decide (0 < i) = false := by have := HIJ.out; simp; omega
      go_simp
      exact ⟨Ext.refl _, rfl⟩
    · intro ρ W ⟨kc, kg, kf⟩ hF hs
      obtain ⟨h0, -⟩ := hs
      replace h0 : ρ (.tmp 17) = .bool (false) := h0
      go_simp
      exact ⟨Ext.refl _, rfl⟩
    · exact fun _ => rfl
    · exact fun _ => rfl
    · exact fun _ => rfl
    · exact fun _ => rfl
    · exact fun _ => rfl
    · exact fun _ => rfl
    · exact fun _ => rfl
    · exact fun _ => rfl
    · exact fun _ => rfl
    · intro ρ W ⟨kc, kg, kf⟩ hF hs
      obtain ⟨h0, h1, -⟩ := hs
      replace h0 : ρ (.tmp 18) = .bool (false) := h0
      replace h1 : ρ (.tmp 27) = undef := h1
      go_simp
      exact ⟨Ext.refl _, rfl⟩
    · intro ρ W ⟨kc, kg, kf⟩ hF hs
      obtain ⟨h0, -⟩ := hs
      replace h0 : ρ (.tmp 28) = .bool (false) := h0
      go_simp
      refine (errorIf_any _ _ _).mono ?_; rintro e w' ⟨rfl, rfl⟩; exact ⟨_, rfl, Ext.refl _, rfl⟩
    · intro ρ W ⟨kc, kg, kf⟩ hF hs
      obtain ⟨h0, h1, h2, -⟩ := hs
      replace h0 : ρ (.tmp 9) = .int .i64 (rangeE (0) (10000) [x.t]) := h0
      replace h1 : ρ (.tmp 15) = .int .i64 (rangeE (-1000000) 1000000 [x.x, x.y]) := h1
      replace h2 : ρ (.tmp 29) = .int .i64 (errIf (false) 9) := h2
      go_simp
      exact ⟨Ext.alloc _ _, ints_new _ [rangeE (0) (10000) [x.t], rangeE (-1000000) 1000000 [x.x, x.y], errIf (false) 9] _ (by simp)⟩
    · intro ρ W ⟨kc, kg, kf⟩ hF hs
      obtain ⟨h0, -⟩ := hs
      replace h0 : (Ints [rangeE (0) (10000) [x.t], rangeE (-1000000) 1000000 [x.x, x.y], errIf (false) 9]) (ρ (.tmp 30)) W := h0
      go_simp
      refine (firstOf_any _ _ _ h0).mono ?_; rintro e w' ⟨rfl, rfl⟩; exact ⟨_, rfl, Ext.refl _, rfl⟩
    · intro ρ W ⟨kc, kg, kf⟩ hF hs
      obtain ⟨h0, -⟩ := hs
      replace h0 : ρ (.tmp 31) = .int .i64 (firstE [rangeE (0) (10000) [x.t], rangeE (-1000000) 1000000 [x.x, x.y], errIf (false) 9]) := h0
      go_simp
      exact ⟨Ext.refl _, rfl⟩
  · intro fv W hF hs
    obtain ⟨-, -, -, -, -, -, -, -, -, -, -, -, -, -, -, -, -, -, -, -, -, -, -, -, -, -, h5, -⟩ := hs
    replace h5 : fv 5 = .int .i64 (firstE [rangeE (0) (10000) [x.t], rangeE (-1000000) 1000000 [x.x, x.y], errIf (false) 9]) := h5
    simp only [fin, List.filterMap]
    go_simp
    go_wp2
    go_ret
    exact ⟨ret_int HE.out, E0.out.trans hF⟩

set_option maxRecDepth 100000 in
set_option maxHeartbeats 1000000 in
theorem station_next {b o q n ca i j : Nat} {x : Sn} {pj : Int} {w : World} (hnb : n ≤ 1152921504606846976) (hi : i < n) (hq : w.cell? ⟨q, 0, none⟩ = some (.slice (some ⟨b, o, none⟩) n ca)) (hij : i = j + 1) (hjc : w.cell? ⟨b, o + j * 3, none⟩ = some (.int .i64 pj)) :
    Calls Try.prog 138 #[.int .i64 (i : Int), .agg #[.int .i64 x.t, .int .i64 x.x, .int .i64 x.y], .pointer (some ⟨q, 0, none⟩)] w fun e w' => e = .returned (.int .i64 (firstE [rangeE 0 10000 [x.t], rangeE (-1000000) 1000000 [x.x, x.y], errIf (decide (x.t ≤ pj)) 9])) ∧ Ext w w' := by
  have hi2 : (i : Int) < (n : Int) := by omega
  have HIJ := Lib.hid hij
  generalize hE : firstE [rangeE 0 10000 [x.t], rangeE (-1000000) 1000000 [x.x, x.y], errIf (decide (x.t ≤ pj)) 9] = z
  have HE := Lib.hid hE
  obtain ⟨W0, hW0⟩ : ∃ W0, W0 = w.alloc (.cells #[.int .i64 x.t, .int .i64 x.x, .int .i64 x.y] 109) := ⟨_, rfl⟩
  have k0 : Blk W0 w.heap.size 109 #[.int .i64 x.t, .int .i64 x.x, .int .i64 x.y] := by rw [hW0]; exact Blk.new _ _ _
  have E0 := Lib.hid (show Ext w W0 by rw [hW0]; exact Ext.alloc _ _)
  have y0 : W0.cell? ⟨w.heap.size, 0, none⟩ = some (.int .i64 x.t) := k0.cell 0
  have y1 : W0.cell? ⟨w.heap.size, 1, none⟩ = some (.int .i64 x.x) := k0.cell 1
  have y2 : W0.cell? ⟨w.heap.size, 2, none⟩ = some (.int .i64 x.y) := k0.cell 2
  clear k0
  have y4 := E0.out.cell hq
  have y6 := E0.out.cell hjc
  clear hE hq hij hjc
  go_enter Try.func138, Try.ntmps138
  go_wp2
  rw [← hW0]
  clear hW0
  go_wp2
  refine wp_region_eachG [(18, true), (18, true), (18, true), (18, true), (18, true), (18, true), (18, true), (18, true), (18, true)] [some 6, some 7, some 8, some 9, some 10, some 11, some 12, some 13, some 14, some 15, some 16, some 17, some 18, some 19, some 20, some 21, some 22, some 23, some 24, some 25, some 26, some 27, some 28, some 29, some 30, some 31, some 5] [[4], [6], [7], [8], [4], [10], [4], [12], [11, 13], [14], [0], [16], [17], [4, 18], [19, 18], [2, 18], [0, 18], [22, 18], [21, 23, 18], [24, 18], [25, 18], [20, 26, 18], [18, 27], [28], [9, 15, 29], [30], [31]]
    [Is (.pointer (some ⟨w.heap.size, 0, none⟩)), Is (.int .i64 (x.t)), Ints [x.t], Is (.int .i64 (rangeE (0) (10000) [x.t])), Is (.pointer (some ⟨w.heap.size, 1, none⟩)), Is (.int .i64 (x.x)), Is (.pointer (some ⟨w.heap.size, 2, none⟩)), Is (.int .i64 (x.y)), Ints [x.x, x.y], Is (.int .i64 (rangeE (-1000000) 1000000 [x.x, x.y])), Is (.int .i64 ((i : Int))), Is (.bool (true)), Is (.bool (true)), Is (.pointer (some ⟨w.heap.size, 0, none⟩)), Is (.int .i64 (x.t)), Is (.slice (some ⟨b, o, none⟩) n ca), Is (.int .i64 ((i : Int))), Is (.int .i64 ((i : Int) - 1)), Is (.pointer (some ⟨b, o + j * 3, none⟩)), Is (.pointer (some ⟨b, o + j * 3, none⟩)), Is (.int .i64 (pj)), Is (.bool (decide (x.t ≤ pj))), Is (.bool (decide (x.t ≤ pj))), Is (.int .i64 (errIf (decide (x.t ≤ pj)) 9)), Ints [rangeE (0) (10000) [x.t], rangeE (-1000000) 1000000 [x.x, x.y], errIf (decide (x.t ≤ pj)) 9], Is (.int .i64 (firstE [rangeE (0) (10000) [x.t], rangeE (-1000000) 1000000 [x.x, x.y], errIf (decide (x.t ≤ pj)) 9])), Is (.int .i64 (firstE [rangeE (0) (10000) [x.t], rangeE (-1000000) 1000000 [x.x, x.y], errIf (decide (x.t ≤ pj)) 9]))]
    (by kernel_rfl) (by kernel_rfl) (by kernel_rfl) (by kernel_rfl) (by kernel_rfl) Ext (fun W => Ext W0 W)
    (fun W _ => Ext.refl W) (fun W W' h k => h.trans k) ?_ (by intro p hp; simp only [List.mem_cons, List.not_mem_nil, or_false] at hp; rcases hp with rfl | rfl | rfl | rfl | rfl | rfl | rfl | rfl | rfl <;> exact ⟨_, rfl, fun _ _ h => h⟩) (Ext.drew _) ?_ ?_
  · repeat (refine ⟨fun _ _ _ _ k h => (by first | exact h | exact (IntsAt.ext h k)), ?_⟩)
    exact trivial
  · refine ⟨?_, ?_, ?_, ?_, ?_, ?_, ?_, ?_, ?_, ?_, ?_, ?_, ?_, ?_, ?_, ?_, ?_, ?_, ?_, ?_, ?_, ?_, ?_, ?_, ?_, ?_, ?_, trivial⟩
    all_goals intro ρ W ⟨kc, kg, kf⟩ hF hs
    · obtain ⟨h0, -⟩ := hs
      replace h0 : ρ (.tmp 4) = .pointer (some ⟨w.heap.size, 0, none⟩) := h0
      go_simp
      exact ⟨Ext.refl _, rfl⟩
    · obtain ⟨h0, -⟩ := hs
      replace h0 : ρ (.tmp 6) = .pointer (some ⟨w.heap.size, 0, none⟩) := h0
      have hc0 : W.cell? ⟨w.heap.size, 0, none⟩ = some (.int .i64 (x.t)) := hF.cell (by assumption)
      go_simp
      exact ⟨Ext.refl _, rfl⟩
    · obtain ⟨h0, -⟩ := hs
      replace h0 : ρ (.tmp 7) = .int .i64 (x.t) := h0
      go_simp
      exact ⟨Ext.alloc _ _, ints_new _ [x.t] _ (by simp)⟩
    · obtain ⟨h0, -⟩ := hs
      replace h0 : (Ints [x.t]) (ρ (.tmp 8)) W := h0
      go_simp
      refine (rangeError_any _ _ _ _ _ h0).mono ?_; rintro e w' ⟨rfl, hx⟩; exact ⟨_, rfl, hx, rfl⟩
    · obtain ⟨h0, -⟩ := hs
      replace h0 : ρ (.tmp 4) = .pointer (some ⟨w.heap.size, 0, none⟩) := h0
      go_simp
      exact ⟨Ext.refl _, rfl⟩
    · obtain ⟨h0, -⟩ := hs
      replace h0 : ρ (.tmp 10) = .pointer (some ⟨w.heap.size, 1, none⟩) := h0
      have hc0 : W.cell? ⟨w.heap.size, 1, none⟩ = some (.int .i64 (x.x)) := hF.cell (by assumption)
      go_simp
      exact ⟨Ext.refl _, rfl⟩
    · obtain ⟨h0, -⟩ := hs
      replace h0 : ρ (.tmp 4) = .pointer (some ⟨w.heap.size, 0, none⟩) := h0
      go_simp
      exact ⟨Ext.refl _, rfl⟩
    · obtain ⟨h0, -⟩ := hs
      replace h0 : ρ (.tmp 12) = .pointer (some ⟨w.heap.size, 2, none⟩) := h0
      have hc0 : W.cell? ⟨w.heap.size, 2, none⟩ = some (.int .i64 (x.y)) := hF.cell (by assumption)
      go_simp
      exact ⟨Ext.refl _, rfl⟩
    · obtain ⟨h0, h1, -⟩ := hs
      replace h0 : ρ (.tmp 11) = .int .i64 (x.x) := h0
      replace h1 : ρ (.tmp 13) = .int .i64 (x.y) := h1
      go_simp
      exact ⟨Ext.alloc _ _, ints_new _ [x.x, x.y] _ (by simp)⟩
    · obtain ⟨h0, -⟩ := hs
      replace h0 : (Ints [x.x, x.y]) (ρ (.tmp 14)) W := h0
      go_simp
      refine (sizeError_any 1000000 (by omega) _ _ _ h0).mono ?_; rintro e w' ⟨rfl, hx⟩; exact ⟨_, rfl, hx, rfl⟩
    · obtain ⟨h0, -⟩ := hs
      replace h0 : ρ (.tmp 0) = .int .i64 ((i : Int)) := h0
      go_simp
      exact ⟨Ext.refl _, rfl⟩
    · obtain ⟨h0, -⟩ := hs
      replace h0 : ρ (.tmp 16) = .int .i64 ((i : Int)) := h0
      have hd : decide (0 < i) = true := by have := HIJ.out; simp; omega
      go_simp
      exact ⟨Ext.refl _, rfl⟩
    · obtain ⟨h0, -⟩ := hs
      replace h0 : ρ (.tmp 17) = .bool (true) := h0
      go_simp
      exact ⟨Ext.refl _, rfl⟩
    · obtain ⟨h0, h1, -⟩ := hs
      replace h0 : ρ (.tmp 4) = .pointer (some ⟨w.heap.size, 0, none⟩) := h0
      replace h1 : ρ (.tmp 18) = .bool (true) := h1
      go_simp
      exact ⟨Ext.refl _, rfl⟩
    · obtain ⟨h0, h1, -⟩ := hs
      replace h0 : ρ (.tmp 19) = .pointer (some ⟨w.heap.size, 0, none⟩) := h0
      replace h1 : ρ (.tmp 18) = .bool (true) := h1
      have hc0 : W.cell? ⟨w.heap.size, 0, none⟩ = some (.int .i64 (x.t)) := hF.cell (by assumption)
      go_simp
      exact ⟨Ext.refl _, rfl⟩
    · obtain ⟨h0, h1, -⟩ := hs
      replace h0 : ρ (.tmp 2) = .pointer (some ⟨q, 0, none⟩) := h0
      replace h1 : ρ (.tmp 18) = .bool (true) := h1
      have hc0 : W.cell? ⟨q, 0, none⟩ = some (.slice (some ⟨b, o, none⟩) n ca) := hF.cell (by assumption)
      go_simp
      exact ⟨Ext.refl _, rfl⟩
    · obtain ⟨h0, h1, -⟩ := hs
      replace h0 : ρ (.tmp 0) = .int .i64 ((i : Int)) := h0
      replace h1 : ρ (.tmp 18) = .bool (true) := h1
      go_simp
      exact ⟨Ext.refl _, rfl⟩
    · obtain ⟨h0, h1, -⟩ := hs
      replace h0 : ρ (.tmp 22) = .int .i64 ((i : Int)) := h0
      replace h1 : ρ (.tmp 18) = .bool (true) := h1
      have hw : IntKind.i64.wrap ((i : Int) - 1) = (i : Int) - 1 := wrap_id _ (by have := HIJ.out; omega) (by omega)
      go_simp
      exact ⟨Ext.refl _, rfl⟩
    · obtain ⟨h0, h1, h2, -⟩ := hs
      replace h0 : ρ (.tmp 21) = .slice (some ⟨b, o, none⟩) n ca := h0
      replace h1 : ρ (.tmp 23) = .int .i64 ((i : Int) - 1) := h1
      replace h2 : ρ (.tmp 18) = .bool (true) := h2
      have hb6 : (1 : Int) ≤ (i : Int) := by have := HIJ.out; omega
      have hb9 : 1 ≤ i := by have := HIJ.out; omega
      have hb1 : (i : Int) - 1 < (n : Int) := by have := HIJ.out; omega
      have hb3 : (0 : Int) ≤ (i : Int) - 1 := by have := HIJ.out; omega
      have hb4 : ((i : Int) - 1).toNat = j := by have := HIJ.out; omega
      have hb7 : i - 1 = j := by have := HIJ.out; omega
      have hb5 : (i : Int) ≤ (n : Int) := by have := HIJ.out; omega
      have hb8 : j < n := by have := HIJ.out; omega
      go_simp
      exact ⟨Ext.refl _, rfl⟩
    · obtain ⟨h0, h1, -⟩ := hs
      replace h0 : ρ (.tmp 24) = .pointer (some ⟨b, o + j * 3, none⟩) := h0
      replace h1 : ρ (.tmp 18) = .bool (true) := h1
      go_simp
      exact ⟨Ext.refl _, rfl⟩
    · obtain ⟨h0, h1, -⟩ := hs
      replace h0 : ρ (.tmp 25) = .pointer (some ⟨b, o + j * 3, none⟩) := h0
      replace h1 : ρ (.tmp 18) = .bool (true) := h1
      have hc0 : W.cell? ⟨b, o + j * 3, none⟩ = some (.int .i64 (pj)) := hF.cell (by assumption)
      go_simp
      exact ⟨Ext.refl _, rfl⟩
    · obtain ⟨h0, h1, h2, -⟩ := hs
      replace h0 : ρ (.tmp 20) = .int .i64 (x.t) := h0
      replace h1 : ρ (.tmp 26) = .int .i64 (pj) := h1
      replace h2 : ρ (.tmp 18) = .bool (true) := h2
      go_simp
      exact ⟨Ext.refl _, rfl⟩
    · obtain ⟨h0, h1, -⟩ := hs
      replace h0 : ρ (.tmp 18) = .bool (true) := h0
      replace h1 : ρ (.tmp 27) = .bool (decide (x.t ≤ pj)) := h1
      go_simp
      exact ⟨Ext.refl _, rfl⟩
    · obtain ⟨h0, -⟩ := hs
      replace h0 : ρ (.tmp 28) = .bool (decide (x.t ≤ pj)) := h0
      go_simp
      refine (errorIf_any _ _ _).mono ?_; rintro e w' ⟨rfl, rfl⟩; exact ⟨_, rfl, Ext.refl _, rfl⟩
    · obtain ⟨h0, h1, h2, -⟩ := hs
      replace h0 : ρ (.tmp 9) = .int .i64 (rangeE (0) (10000) [x.t]) := h0
      replace h1 : ρ (.tmp 15) = .int .i64 (rangeE (-1000000) 1000000 [x.x, x.y]) := h1
      replace h2 : ρ (.tmp 29) = .int .i64 (errIf (decide (x.t ≤ pj)) 9) := h2
      go_simp
      exact ⟨Ext.alloc _ _, ints_new _ [rangeE (0) (10000) [x.t], rangeE (-1000000) 1000000 [x.x, x.y], errIf (decide (x.t ≤ pj)) 9] _ (by simp)⟩
    · obtain ⟨h0, -⟩ := hs
      replace h0 : (Ints [rangeE (0) (10000) [x.t], rangeE (-1000000) 1000000 [x.x, x.y], errIf (decide (x.t ≤ pj)) 9]) (ρ (.tmp 30)) W := h0
      go_simp
      refine (firstOf_any _ _ _ h0).mono ?_; rintro e w' ⟨rfl, rfl⟩; exact ⟨_, rfl, Ext.refl _, rfl⟩
    · obtain ⟨h0, -⟩ := hs
      replace h0 : ρ (.tmp 31) = .int .i64 (firstE [rangeE (0) (10000) [x.t], rangeE (-1000000) 1000000 [x.x, x.y], errIf (decide (x.t ≤ pj)) 9]) := h0
      go_simp
      exact ⟨Ext.refl _, rfl⟩
  · intro fv W hF hs
    obtain ⟨-, -, -, -, -, -, -, -, -, -, -, -, -, -, -, -, -, -, -, -, -, -, -, -, -, -, h5, -⟩ := hs
    replace h5 : fv 5 = .int .i64 (firstE [rangeE (0) (10000) [x.t], rangeE (-1000000) 1000000 [x.x, x.y], errIf (decide (x.t ≤ pj)) 9]) := h5
    simp only [fin, List.filterMap]
    go_simp
    go_wp2
    go_ret
    exact ⟨ret_int HE.out, E0.out.trans hF⟩

theorem stnE_of {p : Int} {i : Nat} {x : Sn} {b : Bool} (h : b = true ↔ 0 < i ∧ x.t ≤ p) : firstE [rangeE 0 10000 [x.t], rangeE (-1000000) 1000000 [x.x, x.y], errIf b 9] = stnE p i x := by
  unfold stnE
  rw [rangeE_one, rangeE_pair]
  by_cases h1 : 0 ≤ x.t ∧ x.t ≤ 10000
  · rw [if_pos h1, if_pos h1, firstE_cons0]
    by_cases h2 : -1000000 ≤ x.x ∧ x.x ≤ 1000000
    · rw [if_pos h2, if_pos h2]
      by_cases h3 : -1000000 ≤ x.y ∧ x.y ≤ 1000000
      · rw [if_pos h3, if_pos h3, firstE_cons0, firstE_one]
        cases b
        · rw [if_neg (fun hh => by have := h.2 hh; cases this)]; rfl
        · rw [if_pos (h.1 rfl)]; rfl
      · rw [if_neg h3, if_neg h3, firstE_consN _ (by decide)]
    · rw [if_neg h2, if_neg h2, firstE_consN _ (by decide)]
  · rw [if_neg h1, if_neg h1, firstE_consN _ (by decide)]
theorem station_any {A : Option Addr} {q n ca i : Nat} {x : Sn} {xs : List Sn} {w : World} (hn : xs.length = n) (hA : RowsAt 3 Sn.enc w A xs) (hq : w.cell? ⟨q, 0, none⟩ = some (.slice A n ca)) (hx : xs[i]? = some x) :
    Calls Try.prog 138 #[.int .i64 (i : Int), .agg #[.int .i64 x.t, .int .i64 x.x, .int .i64 x.y], .pointer (some ⟨q, 0, none⟩)] w fun e w' => e = .returned (.int .i64 (stnAt xs i)) ∧ Ext w w' := by
  have hi : i < n := by have := (List.getElem?_eq_some_iff.1 hx).1; omega
  have hnb : n ≤ 1152921504606846976 := by have := hA.1; omega
  have hv : stnAt xs i = stnE (xs.getD (i - 1) default).t i x := by unfold stnAt; rw [show xs.getD i default = x by simp [hx]]
  rw [hv]
  rcases Nat.eq_zero_or_pos i with h0 | h0
  · obtain ⟨b, o, rfl, -, -⟩ := row_at hA hx
    rw [← stnE_of (p := (xs.getD (i - 1) default).t) (i := i) (x := x) (b := false) (by simp; omega)]
    exact station_first hq h0
  · obtain ⟨b, o, rfl, -, hc⟩ := row_at hA (getD_some (xs := xs) (i := i - 1) (by omega))
    have hp : w.cell? ⟨b, o + (i - 1) * 3, none⟩ = some (.int .i64 (xs.getD (i - 1) default).t) := hc 0 _ rfl
    rw [← stnE_of (p := (xs.getD (i - 1) default).t) (i := i) (x := x) (b := decide (x.t ≤ (xs.getD (i - 1) default).t)) (by simp; omega)]
    exact station_next hnb hi hq (show i = (i - 1) + 1 by omega) hp
set_option maxRecDepth 100000 in
set_option maxHeartbeats 1000000 in
theorem stationsError_any {A : Option Addr} {n ca : Nat} {xs : List Sn} {w : World} (hn : xs.length = n) (hA : RowsAt 3 Sn.enc w A xs) :
    Calls Try.prog 104 #[.slice A n ca] w fun e w' => e = .returned (.int .i64 (stnsE xs)) ∧ Ext w w' := by
  have hnb : n ≤ 1152921504606846976 := by have := hA.1; omega
  have HT := Lib.hid (show stnsE xs = if n < 2 then 10 else if 20 < n then 8 else (firstAt (stnAt xs) n 0).2 by rw [← hn]; rfl)
  have HH := Lib.hid (show firstE [errIf (decide ((n : Int) < (2 : Int))) 10, errIf (decide ((20 : Int) < (n : Int))) 8] = if n < 2 then 10 else if 20 < n then 8 else 0 from by
    by_cases h2 : n < 2
    · rw [if_pos h2, errIf_t _ _ (decide_eq_true (by omega)), firstE_consN _ (by decide)]
    · rw [if_neg h2, errIf_f _ _ (decide_eq_false (by omega)), firstE_cons0, firstE_one]
      by_cases h20 : 20 < n
      · rw [if_pos h20, errIf_t _ _ (decide_eq_true (by omega))]
      · rw [if_neg h20, errIf_f _ _ (decide_eq_false (by omega))])
  obtain ⟨W0, hW0⟩ : ∃ W0, W0 = w.alloc (.cells #[.slice A n ca] 88) := ⟨_, rfl⟩
  have k0 : Blk W0 w.heap.size 88 #[.slice A n ca] := by rw [hW0]; exact Blk.new _ _ _
  have E0 := Lib.hid (show Ext w W0 by rw [hW0]; exact Ext.alloc _ _)
  have y0 : W0.cell? ⟨w.heap.size, 0, none⟩ = some (.slice A n ca) := k0.cell 0
  clear k0
  have HF := Lib.hid (fun W (e : Ext W0 W) => firstError137_138 (ca := ca) (E := stnAt xs) (cp := #[.pointer (some ⟨w.heap.size, 0, none⟩)]) hn (hA.ext (E0.out.trans e)) (fun i x W2 hx e2 => station_any hn (hA.ext (E0.out.trans (e.trans e2))) ((e.trans e2).cell y0) hx))
  generalize firstAt (stnAt xs) n 0 = fa at *
  generalize stnsE xs = z at *
  clear hn hA
  go_enter Try.func104, Try.ntmps104
  go_wp2
  rw [← hW0]
  clear hW0
  go_wp2
  refine wp_region_each [some 4, some 5, some 6, some 7, some 8, some 9, some 10, some 11, some 12, some 13, some 3] [[1], [4], [5], [6], [1], [8], [9], [10], [7, 11], [12], [13]]
    [Is (.slice A n ca), Is (.int .i64 ((n : Int))), Is (.bool (decide ((n : Int) < (2 : Int)))), Is (.int .i64 (errIf (decide ((n : Int) < (2 : Int))) 10)), Is (.slice A n ca), Is (.int .i64 ((n : Int))), Is (.bool (decide ((20 : Int) < (n : Int)))), Is (.int .i64 (errIf (decide ((20 : Int) < (n : Int))) 8)), Ints [errIf (decide ((n : Int) < (2 : Int))) 10, errIf (decide ((20 : Int) < (n : Int))) 8], Is (.int .i64 (firstE [errIf (decide ((n : Int) < (2 : Int))) 10, errIf (decide ((20 : Int) < (n : Int))) 8])), Is (.int .i64 (firstE [errIf (decide ((n : Int) < (2 : Int))) 10, errIf (decide ((20 : Int) < (n : Int))) 8]))]
    (by kernel_rfl) (by kernel_rfl) (by kernel_rfl) (by kernel_rfl) (by kernel_rfl) Ext (fun W => Ext W0 W)
    (fun W _ => Ext.refl W) (fun W W' h k => h.trans k) ?_ (Ext.drew _) ?_ ?_
  · repeat (refine ⟨fun _ _ _ _ k h => (by first | exact h | exact (IntsAt.ext h k)), ?_⟩)
    exact trivial
  · refine ⟨?_, ?_, ?_, ?_, ?_, ?_, ?_, ?_, ?_, ?_, ?_, trivial⟩
    all_goals intro ρ W ⟨kc, kg, kf⟩ hF hs
    · obtain ⟨h0, -⟩ := hs
      replace h0 : ρ (.tmp 1) = .pointer (some ⟨w.heap.size, 0, none⟩) := h0
      have hc0 : W.cell? ⟨w.heap.size, 0, none⟩ = some (.slice A n ca) := hF.cell (by assumption)
      go_simp
      exact ⟨Ext.refl _, rfl⟩
    · obtain ⟨h0, -⟩ := hs
      replace h0 : ρ (.tmp 4) = .slice A n ca := h0
      go_simp
      exact ⟨Ext.refl _, rfl⟩
    · obtain ⟨h0, -⟩ := hs
      replace h0 : ρ (.tmp 5) = .int .i64 ((n : Int)) := h0
      go_simp
      exact ⟨Ext.refl _, rfl⟩
    · obtain ⟨h0, -⟩ := hs
      replace h0 : ρ (.tmp 6) = .bool (decide ((n : Int) < (2 : Int))) := h0
      go_simp
      refine (errorIf_any _ _ _).mono ?_; rintro e w' ⟨rfl, rfl⟩; exact ⟨_, rfl, Ext.refl _, rfl⟩
    · obtain ⟨h0, -⟩ := hs
      replace h0 : ρ (.tmp 1) = .pointer (some ⟨w.heap.size, 0, none⟩) := h0
      have hc0 : W.cell? ⟨w.heap.size, 0, none⟩ = some (.slice A n ca) := hF.cell (by assumption)
      go_simp
      exact ⟨Ext.refl _, rfl⟩
    · obtain ⟨h0, -⟩ := hs
      replace h0 : ρ (.tmp 8) = .slice A n ca := h0
      go_simp
      exact ⟨Ext.refl _, rfl⟩
    · obtain ⟨h0, -⟩ := hs
      replace h0 : ρ (.tmp 9) = .int .i64 ((n : Int)) := h0
      go_simp
      exact ⟨Ext.refl _, rfl⟩
    · obtain ⟨h0, -⟩ := hs
      replace h0 : ρ (.tmp 10) = .bool (decide ((20 : Int) < (n : Int))) := h0
      go_simp
      refine (errorIf_any _ _ _).mono ?_; rintro e w' ⟨rfl, rfl⟩; exact ⟨_, rfl, Ext.refl _, rfl⟩
    · obtain ⟨h0, h1, -⟩ := hs
      replace h0 : ρ (.tmp 7) = .int .i64 (errIf (decide ((n : Int) < (2 : Int))) 10) := h0
      replace h1 : ρ (.tmp 11) = .int .i64 (errIf (decide ((20 : Int) < (n : Int))) 8) := h1
      go_simp
      exact ⟨Ext.alloc _ _, ints_new _ [errIf (decide ((n : Int) < (2 : Int))) 10, errIf (decide ((20 : Int) < (n : Int))) 8] _ (by simp)⟩
    · obtain ⟨h0, -⟩ := hs
      replace h0 : (Ints [errIf (decide ((n : Int) < (2 : Int))) 10, errIf (decide ((20 : Int) < (n : Int))) 8]) (ρ (.tmp 12)) W := h0
      go_simp
      refine (firstOf_any _ _ _ h0).mono ?_; rintro e w' ⟨rfl, rfl⟩; exact ⟨_, rfl, Ext.refl _, rfl⟩
    · obtain ⟨h0, -⟩ := hs
      replace h0 : ρ (.tmp 13) = .int .i64 (firstE [errIf (decide ((n : Int) < (2 : Int))) 10, errIf (decide ((20 : Int) < (n : Int))) 8]) := h0
      go_simp
      exact ⟨Ext.refl _, rfl⟩
  · intro fv W hF hs
    obtain ⟨-, -, -, -, -, -, -, -, -, -, h3, -⟩ := hs
    replace h3 : fv 3 = .int .i64 (firstE [errIf (decide ((n : Int) < (2 : Int))) 10, errIf (decide ((20 : Int) < (n : Int))) 8]) := h3
    simp only [fin, List.filterMap]
    go_simp
    rw [HH.out]
    clear HH
    replace y0 := hF.cell y0
    by_cases h2 : n < 2
    · replace HT := Lib.hid (show z = 10 by rw [HT.out, if_pos h2])
      rw [if_pos h2]
      clear h2
      go_wp2
      go_ret
      exact ⟨ret_int HT.out.symm, E0.out.trans hF⟩
    · rw [if_neg h2]
      by_cases h20 : 20 < n
      · replace HT := Lib.hid (show z = 8 by rw [HT.out, if_neg h2, if_pos h20])
        rw [if_pos h20]
        clear h2 h20
        go_wp2
        go_ret
        exact ⟨ret_int HT.out.symm, E0.out.trans hF⟩
      · replace HT := Lib.hid (show z = fa.2 by rw [HT.out, if_neg h2, if_neg h20])
        rw [if_neg h20]
        clear h2 h20
        go_wp2_with (go_at_call 137; refine (HF.out _ hF).mono ?_; rintro e W2 ⟨rfl, hx⟩; have X2 := Lib.hid (hF.trans hx); clear hx)
        go_ret
        exact ⟨ret_int HT.out.symm, E0.out.trans X2.out⟩

end Go.Proofs.Ytjdilmmpdlcimaa
