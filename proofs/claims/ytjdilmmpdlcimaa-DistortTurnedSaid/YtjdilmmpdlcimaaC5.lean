/- The error of strokes. -/
import Derived.Test.YtjdilmmpdlcimaaC4
import Derived.Test.YtjdilmmpdlcimaaP0
import Derived.Lib.MinMax
import Derived.Deep.DeepCutAuto

namespace Go.Proofs.Ytjdilmmpdlcimaa
open Go.RowKit Go.Shelf Go.Mem Go.RegInv
attribute [local go_sem] RelUpon_value RelUpon_skip RelUpon_enter BigFrame.eval_const BigFrame.eval_global BigFrame.eval_func


set_option maxRecDepth 100000 in
set_option maxHeartbeats 1000000 in
theorem strokeErr_neg {J P : Option Addr} {n cj np cp tb pb : Nat} {am : List Int} {sp ga li i : Int} {x : Sk} {w : World} (hnp : am.length = np) (hP : RowsAt 1 I1 w P am) (hj : x.j < 0)
    (ht : w.cell? ⟨tb, 1, none⟩ = some (.slice J n cj)) (q0 : w.cell? ⟨pb, 0, none⟩ = some (.slice P np cp)) (q1 : w.cell? ⟨pb, 1, none⟩ = some (.int .i64 sp)) (q2 : w.cell? ⟨pb, 2, none⟩ = some (.int .i64 ga)) (q3 : w.cell? ⟨pb, 3, none⟩ = some (.int .i64 li)) :
    Calls Try.prog 123 #[.int .i64 i, .agg #[.int .i64 x.j, .int .i64 x.a, .bool x.u], .pointer (some ⟨tb, 0, none⟩), .pointer (some ⟨pb, 0, none⟩)] w fun e w' => e = .returned (.int .i64 (firstE [errIf (true) 6, errIf (!hasB am x.a) 6])) ∧ Ext w w' := by
  have HA := Lib.hid (fun W (e : Ext w W) => amountError_any (cp := cp) (sp := sp) (ga := ga) (li := li) (x := x) hnp (hP.ext e))
  clear hnp hP
  generalize hasB am x.a = hb at *
  generalize hE : firstE [errIf (true) 6, errIf (!hb) 6] = z
  have HE := Lib.hid hE
  clear hE
  obtain ⟨W0, hW0⟩ : ∃ W0, W0 = w.alloc (.cells #[.int .i64 x.j, .int .i64 x.a, .bool x.u] 68) := ⟨_, rfl⟩
  have K0 := Lib.hid (show Blk W0 (w.heap.size) 68 #[.int .i64 x.j, .int .i64 x.a, .bool x.u] by rw [hW0]; exact Blk.new _ _ _)
  have E0 := Lib.hid (show Ext w W0 by rw [hW0]; exact Ext.alloc _ _)
  have y0_0 : W0.cell? ⟨w.heap.size, 0, none⟩ = some (.int .i64 x.j) := K0.out.cell 0
  have y0_1 : W0.cell? ⟨w.heap.size, 1, none⟩ = some (.int .i64 x.a) := K0.out.cell 1
  have y0_2 : W0.cell? ⟨w.heap.size, 2, none⟩ = some (.bool x.u) := K0.out.cell 2
  have t0 := E0.out.cell ht
  have t1 := E0.out.cell q0
  have t2 := E0.out.cell q1
  have t3 := E0.out.cell q2
  have t4 := E0.out.cell q3
  clear ht q0 q1 q2 q3
  go_enter Try.func123, Try.ntmps123
  go_wp2
  rw [← hW0]
  clear hW0
  go_wp2
  refine wp_region_eachN [(10, false), (10, false), (10, false), (10, false), (10, false), (10, false), (10, false)] [some 7, some 8, some 9, some 10, some 11, some 12, some 13, some 14, some 15, some 16, some 17, some 18, some 19, some 20, some 21, some 22, some 23, some 24, some 6] [[5], [7], [8], [9], [5, 10], [11, 10], [2, 10], [13, 10], [14, 10], [15, 10], [12, 16, 10], [10, 17], [18], [3], [5], [20, 21], [19, 22], [23], [24]]
    [Is (.pointer (some ⟨w.heap.size, 0, none⟩)), Is (.int .i64 (x.j)), Is (.bool (true)), Is (.bool (true)), Is (undef), Is (undef), Is (undef), Is (undef), Is (undef), Is (undef), Is (undef), Is (.bool (true)), Is (.int .i64 (errIf (true) 6)), Is (.agg #[.slice P np cp, .int .i64 sp, .int .i64 ga, .int .i64 li]), Is (.agg #[.int .i64 x.j, .int .i64 x.a, .bool x.u]), Is (.int .i64 (errIf (!hb) 6)), Ints [errIf (true) 6, errIf (!hb) 6], Is (.int .i64 (firstE [errIf (true) 6, errIf (!hb) 6])), Is (.int .i64 (firstE [errIf (true) 6, errIf (!hb) 6]))]
    (by kernel_rfl) (by kernel_rfl) (by kernel_rfl) (by kernel_rfl) (by kernel_rfl) Ext (fun W => Ext W0 W)
    (fun W _ => Ext.refl W) (fun W W' h k => h.trans k) ?_ (by intro p hp; simp only [List.mem_cons, List.not_mem_nil, or_false] at hp; rcases hp with rfl | rfl | rfl | rfl | rfl | rfl | rfl <;> exact ⟨_, rfl, fun _ _ h => h⟩) (Ext.drew _) ?_ ?_
  · repeat (refine ⟨fun _ _ _ _ k h => (by first | exact h | exact (IntsAt.ext h k)), ?_⟩)
    exact trivial
  · refine ⟨?_, ?_, ?_, ?_, ?_, ?_, ?_, ?_, ?_, ?_, ?_, ?_, ?_, ?_, ?_, ?_, ?_, ?_, ?_, trivial⟩
    · intro ρ W ⟨kc, kg, kf⟩ hF hs
      obtain ⟨h0, -⟩ := hs
      replace h0 : ρ (.tmp 5) = .pointer (some ⟨w.heap.size, 0, none⟩) := h0
      go_simp
      exact ⟨Ext.refl _, rfl⟩
    · intro ρ W ⟨kc, kg, kf⟩ hF hs
      obtain ⟨h0, -⟩ := hs
      replace h0 : ρ (.tmp 7) = .pointer (some ⟨w.heap.size, 0, none⟩) := h0
      have hc0 : W.cell? ⟨w.heap.size, 0, none⟩ = some (.int .i64 (x.j)) := hF.cell (by assumption)
      go_simp
      exact ⟨Ext.refl _, rfl⟩
    · intro ρ W ⟨kc, kg, kf⟩ hF hs
      obtain ⟨h0, -⟩ := hs
      replace h0 : ρ (.tmp 8) = .int .i64 (x.j) := h0
      have hd : decide (x.j < 0) = true := by simp; omega
      go_simp
      exact ⟨Ext.refl _, rfl⟩
    · intro ρ W ⟨kc, kg, kf⟩ hF hs
      obtain ⟨h0, -⟩ := hs
      replace h0 : ρ (.tmp 9) = .bool (true) := h0
      go_simp
      exact ⟨Ext.refl _, rfl⟩
    · exact fun _ => rfl
    · exact fun _ => rfl
    · exact fun _ => rfl
    · exact fun _ => rfl
    · exact fun _ => rfl
    · exact fun _ => rfl
    · exact fun _ => rfl
    · intro ρ W ⟨kc, kg, kf⟩ hF hs
      obtain ⟨h0, h1, -⟩ := hs
      replace h0 : ρ (.tmp 10) = .bool (true) := h0
      replace h1 : ρ (.tmp 17) = undef := h1
      go_simp
      exact ⟨Ext.refl _, rfl⟩
    · intro ρ W ⟨kc, kg, kf⟩ hF hs
      obtain ⟨h0, -⟩ := hs
      replace h0 : ρ (.tmp 18) = .bool (true) := h0
      go_simp
      refine (errorIf_any _ _ _).mono ?_; rintro e w' ⟨rfl, rfl⟩; exact ⟨_, rfl, Ext.refl _, rfl⟩
    · intro ρ W ⟨kc, kg, kf⟩ hF hs
      obtain ⟨h0, -⟩ := hs
      replace h0 : ρ (.tmp 3) = .pointer (some ⟨pb, 0, none⟩) := h0
      have hc0 : W.cell? ⟨pb, 0, none⟩ = some (.slice P np cp) := hF.cell (by assumption)
      have hc1 : W.cell? ⟨pb, 1, none⟩ = some (.int .i64 (sp)) := hF.cell (by assumption)
      have hc2 : W.cell? ⟨pb, 2, none⟩ = some (.int .i64 (ga)) := hF.cell (by assumption)
      have hc3 : W.cell? ⟨pb, 3, none⟩ = some (.int .i64 (li)) := hF.cell (by assumption)
      go_simp
      exact ⟨Ext.refl _, rfl⟩
    · intro ρ W ⟨kc, kg, kf⟩ hF hs
      obtain ⟨h0, -⟩ := hs
      replace h0 : ρ (.tmp 5) = .pointer (some ⟨w.heap.size, 0, none⟩) := h0
      have hc0 : W.cell? ⟨w.heap.size, 0, none⟩ = some (.int .i64 (x.j)) := hF.cell (by assumption)
      have hc1 : W.cell? ⟨w.heap.size, 1, none⟩ = some (.int .i64 (x.a)) := hF.cell (by assumption)
      have hc2 : W.cell? ⟨w.heap.size, 2, none⟩ = some (.bool (x.u)) := hF.cell (by assumption)
      go_simp
      exact ⟨Ext.refl _, rfl⟩
    · intro ρ W ⟨kc, kg, kf⟩ hF hs
      obtain ⟨h0, h1, -⟩ := hs
      replace h0 : ρ (.tmp 20) = .agg #[.slice P np cp, .int .i64 sp, .int .i64 ga, .int .i64 li] := h0
      replace h1 : ρ (.tmp 21) = .agg #[.int .i64 x.j, .int .i64 x.a, .bool x.u] := h1
      go_simp
      refine (HA.out _ (E0.out.trans hF)).mono ?_; rintro e w' ⟨rfl, hx⟩; exact ⟨_, rfl, hx, rfl⟩
    · intro ρ W ⟨kc, kg, kf⟩ hF hs
      obtain ⟨h0, h1, -⟩ := hs
      replace h0 : ρ (.tmp 19) = .int .i64 (errIf (true) 6) := h0
      replace h1 : ρ (.tmp 22) = .int .i64 (errIf (!hb) 6) := h1
      go_simp
      exact ⟨Ext.alloc _ _, ints_new _ [errIf (true) 6, errIf (!hb) 6] _ (by simp)⟩
    · intro ρ W ⟨kc, kg, kf⟩ hF hs
      obtain ⟨h0, -⟩ := hs
      replace h0 : (Ints [errIf (true) 6, errIf (!hb) 6]) (ρ (.tmp 23)) W := h0
      go_simp
      refine (firstOf_any _ _ _ h0).mono ?_; rintro e w' ⟨rfl, rfl⟩; exact ⟨_, rfl, Ext.refl _, rfl⟩
    · intro ρ W ⟨kc, kg, kf⟩ hF hs
      obtain ⟨h0, -⟩ := hs
      replace h0 : ρ (.tmp 24) = .int .i64 (firstE [errIf (true) 6, errIf (!hb) 6]) := h0
      go_simp
      exact ⟨Ext.refl _, rfl⟩
  · intro fv W hF hs
    obtain ⟨-, -, -, -, -, -, -, -, -, -, -, -, -, -, -, -, -, -, h6, -⟩ := hs
    replace h6 : fv 6 = .int .i64 (firstE [errIf (true) 6, errIf (!hb) 6]) := h6
    simp only [fin, List.filterMap]
    go_simp
    go_wp2
    go_ret
    exact ⟨ret_int HE.out, E0.out.trans hF⟩

set_option maxRecDepth 100000 in
set_option maxHeartbeats 1000000 in
theorem strokeErr_pos {J P : Option Addr} {n cj np cp tb pb : Nat} {am : List Int} {sp ga li i : Int} {x : Sk} {w : World} (hnp : am.length = np) (hP : RowsAt 1 I1 w P am) (hj : 0 ≤ x.j)
    (ht : w.cell? ⟨tb, 1, none⟩ = some (.slice J n cj)) (q0 : w.cell? ⟨pb, 0, none⟩ = some (.slice P np cp)) (q1 : w.cell? ⟨pb, 1, none⟩ = some (.int .i64 sp)) (q2 : w.cell? ⟨pb, 2, none⟩ = some (.int .i64 ga)) (q3 : w.cell? ⟨pb, 3, none⟩ = some (.int .i64 li)) :
    Calls Try.prog 123 #[.int .i64 i, .agg #[.int .i64 x.j, .int .i64 x.a, .bool x.u], .pointer (some ⟨tb, 0, none⟩), .pointer (some ⟨pb, 0, none⟩)] w fun e w' => e = .returned (.int .i64 (firstE [errIf (decide ((n : Int) ≤ x.j)) 6, errIf (!hasB am x.a) 6])) ∧ Ext w w' := by
  have HA := Lib.hid (fun W (e : Ext w W) => amountError_any (cp := cp) (sp := sp) (ga := ga) (li := li) (x := x) hnp (hP.ext e))
  clear hnp hP
  generalize hasB am x.a = hb at *
  generalize hE : firstE [errIf (decide ((n : Int) ≤ x.j)) 6, errIf (!hb) 6] = z
  have HE := Lib.hid hE
  clear hE
  obtain ⟨W0, hW0⟩ : ∃ W0, W0 = w.alloc (.cells #[.int .i64 x.j, .int .i64 x.a, .bool x.u] 68) := ⟨_, rfl⟩
  have K0 := Lib.hid (show Blk W0 (w.heap.size) 68 #[.int .i64 x.j, .int .i64 x.a, .bool x.u] by rw [hW0]; exact Blk.new _ _ _)
  have E0 := Lib.hid (show Ext w W0 by rw [hW0]; exact Ext.alloc _ _)
  have y0_0 : W0.cell? ⟨w.heap.size, 0, none⟩ = some (.int .i64 x.j) := K0.out.cell 0
  have y0_1 : W0.cell? ⟨w.heap.size, 1, none⟩ = some (.int .i64 x.a) := K0.out.cell 1
  have y0_2 : W0.cell? ⟨w.heap.size, 2, none⟩ = some (.bool x.u) := K0.out.cell 2
  have t0 := E0.out.cell ht
  have t1 := E0.out.cell q0
  have t2 := E0.out.cell q1
  have t3 := E0.out.cell q2
  have t4 := E0.out.cell q3
  clear ht q0 q1 q2 q3
  go_enter Try.func123, Try.ntmps123
  go_wp2
  rw [← hW0]
  clear hW0
  go_wp2
  refine wp_region_eachG [(10, false), (10, false), (10, false), (10, false), (10, false), (10, false), (10, false)] [some 7, some 8, some 9, some 10, some 11, some 12, some 13, some 14, some 15, some 16, some 17, some 18, some 19, some 20, some 21, some 22, some 23, some 24, some 6] [[5], [7], [8], [9], [5, 10], [11, 10], [2, 10], [13, 10], [14, 10], [15, 10], [12, 16, 10], [10, 17], [18], [3], [5], [20, 21], [19, 22], [23], [24]]
    [Is (.pointer (some ⟨w.heap.size, 0, none⟩)), Is (.int .i64 (x.j)), Is (.bool (false)), Is (.bool (false)), Is (.pointer (some ⟨w.heap.size, 0, none⟩)), Is (.int .i64 (x.j)), Is (.pointer (some ⟨tb, 0, none⟩)), Is (.pointer (some ⟨tb, 1, none⟩)), Is (.slice J n cj), Is (.int .i64 ((n : Int))), Is (.bool (decide ((n : Int) ≤ x.j))), Is (.bool (decide ((n : Int) ≤ x.j))), Is (.int .i64 (errIf (decide ((n : Int) ≤ x.j)) 6)), Is (.agg #[.slice P np cp, .int .i64 sp, .int .i64 ga, .int .i64 li]), Is (.agg #[.int .i64 x.j, .int .i64 x.a, .bool x.u]), Is (.int .i64 (errIf (!hb) 6)), Ints [errIf (decide ((n : Int) ≤ x.j)) 6, errIf (!hb) 6], Is (.int .i64 (firstE [errIf (decide ((n : Int) ≤ x.j)) 6, errIf (!hb) 6])), Is (.int .i64 (firstE [errIf (decide ((n : Int) ≤ x.j)) 6, errIf (!hb) 6]))]
    (by kernel_rfl) (by kernel_rfl) (by kernel_rfl) (by kernel_rfl) (by kernel_rfl) Ext (fun W => Ext W0 W)
    (fun W _ => Ext.refl W) (fun W W' h k => h.trans k) ?_ (by intro p hp; simp only [List.mem_cons, List.not_mem_nil, or_false] at hp; rcases hp with rfl | rfl | rfl | rfl | rfl | rfl | rfl <;> exact ⟨_, rfl, fun _ _ h => h⟩) (Ext.drew _) ?_ ?_
  · repeat (refine ⟨fun _ _ _ _ k h => (by first | exact h | exact (IntsAt.ext h k)), ?_⟩)
    exact trivial
  · refine ⟨?_, ?_, ?_, ?_, ?_, ?_, ?_, ?_, ?_, ?_, ?_, ?_, ?_, ?_, ?_, ?_, ?_, ?_, ?_, trivial⟩
    all_goals intro ρ W ⟨kc, kg, kf⟩ hF hs
    · obtain ⟨h0, -⟩ := hs
      replace h0 : ρ (.tmp 5) = .pointer (some ⟨w.heap.size, 0, none⟩) := h0
      go_simp
      exact ⟨Ext.refl _, rfl⟩
    · obtain ⟨h0, -⟩ := hs
      replace h0 : ρ (.tmp 7) = .pointer (some ⟨w.heap.size, 0, none⟩) := h0
      have hc0 : W.cell? ⟨w.heap.size, 0, none⟩ = some (.int .i64 (x.j)) := hF.cell (by assumption)
      go_simp
      exact ⟨Ext.refl _, rfl⟩
    · obtain ⟨h0, -⟩ := hs
      replace h0 : ρ (.tmp 8) = .int .i64 (x.j) := h0
      have hd : decide (x.j < 0) = false := by simp; omega
      go_simp
      exact ⟨Ext.refl _, rfl⟩
    · obtain ⟨h0, -⟩ := hs
      replace h0 : ρ (.tmp 9) = .bool (false) := h0
      go_simp
      exact ⟨Ext.refl _, rfl⟩
    · obtain ⟨h0, h1, -⟩ := hs
      replace h0 : ρ (.tmp 5) = .pointer (some ⟨w.heap.size, 0, none⟩) := h0
      replace h1 : ρ (.tmp 10) = .bool (false) := h1
      go_simp
      exact ⟨Ext.refl _, rfl⟩
    · obtain ⟨h0, h1, -⟩ := hs
      replace h0 : ρ (.tmp 11) = .pointer (some ⟨w.heap.size, 0, none⟩) := h0
      replace h1 : ρ (.tmp 10) = .bool (false) := h1
      have hc0 : W.cell? ⟨w.heap.size, 0, none⟩ = some (.int .i64 (x.j)) := hF.cell (by assumption)
      go_simp
      exact ⟨Ext.refl _, rfl⟩
    · obtain ⟨h0, h1, -⟩ := hs
      replace h0 : ρ (.tmp 2) = .pointer (some ⟨tb, 0, none⟩) := h0
      replace h1 : ρ (.tmp 10) = .bool (false) := h1
      go_simp
      exact ⟨Ext.refl _, rfl⟩
    · obtain ⟨h0, h1, -⟩ := hs
      replace h0 : ρ (.tmp 13) = .pointer (some ⟨tb, 0, none⟩) := h0
      replace h1 : ρ (.tmp 10) = .bool (false) := h1
      go_simp
      exact ⟨Ext.refl _, rfl⟩
    · obtain ⟨h0, h1, -⟩ := hs
      replace h0 : ρ (.tmp 14) = .pointer (some ⟨tb, 1, none⟩) := h0
      replace h1 : ρ (.tmp 10) = .bool (false) := h1
      have hc0 : W.cell? ⟨tb, 1, none⟩ = some (.slice J n cj) := hF.cell (by assumption)
      go_simp
      exact ⟨Ext.refl _, rfl⟩
    · obtain ⟨h0, h1, -⟩ := hs
      replace h0 : ρ (.tmp 15) = .slice J n cj := h0
      replace h1 : ρ (.tmp 10) = .bool (false) := h1
      go_simp
      exact ⟨Ext.refl _, rfl⟩
    · obtain ⟨h0, h1, h2, -⟩ := hs
      replace h0 : ρ (.tmp 12) = .int .i64 (x.j) := h0
      replace h1 : ρ (.tmp 16) = .int .i64 ((n : Int)) := h1
      replace h2 : ρ (.tmp 10) = .bool (false) := h2
      go_simp
      exact ⟨Ext.refl _, rfl⟩
    · obtain ⟨h0, h1, -⟩ := hs
      replace h0 : ρ (.tmp 10) = .bool (false) := h0
      replace h1 : ρ (.tmp 17) = .bool (decide ((n : Int) ≤ x.j)) := h1
      go_simp
      exact ⟨Ext.refl _, rfl⟩
    · obtain ⟨h0, -⟩ := hs
      replace h0 : ρ (.tmp 18) = .bool (decide ((n : Int) ≤ x.j)) := h0
      go_simp
      refine (errorIf_any _ _ _).mono ?_; rintro e w' ⟨rfl, rfl⟩; exact ⟨_, rfl, Ext.refl _, rfl⟩
    · obtain ⟨h0, -⟩ := hs
      replace h0 : ρ (.tmp 3) = .pointer (some ⟨pb, 0, none⟩) := h0
      have hc0 : W.cell? ⟨pb, 0, none⟩ = some (.slice P np cp) := hF.cell (by assumption)
      have hc1 : W.cell? ⟨pb, 1, none⟩ = some (.int .i64 (sp)) := hF.cell (by assumption)
      have hc2 : W.cell? ⟨pb, 2, none⟩ = some (.int .i64 (ga)) := hF.cell (by assumption)
      have hc3 : W.cell? ⟨pb, 3, none⟩ = some (.int .i64 (li)) := hF.cell (by assumption)
      go_simp
      exact ⟨Ext.refl _, rfl⟩
    · obtain ⟨h0, -⟩ := hs
      replace h0 : ρ (.tmp 5) = .pointer (some ⟨w.heap.size, 0, none⟩) := h0
      have hc0 : W.cell? ⟨w.heap.size, 0, none⟩ = some (.int .i64 (x.j)) := hF.cell (by assumption)
      have hc1 : W.cell? ⟨w.heap.size, 1, none⟩ = some (.int .i64 (x.a)) := hF.cell (by assumption)
      have hc2 : W.cell? ⟨w.heap.size, 2, none⟩ = some (.bool (x.u)) := hF.cell (by assumption)
      go_simp
      exact ⟨Ext.refl _, rfl⟩
    · obtain ⟨h0, h1, -⟩ := hs
      replace h0 : ρ (.tmp 20) = .agg #[.slice P np cp, .int .i64 sp, .int .i64 ga, .int .i64 li] := h0
      replace h1 : ρ (.tmp 21) = .agg #[.int .i64 x.j, .int .i64 x.a, .bool x.u] := h1
      go_simp
      refine (HA.out _ (E0.out.trans hF)).mono ?_; rintro e w' ⟨rfl, hx⟩; exact ⟨_, rfl, hx, rfl⟩
    · obtain ⟨h0, h1, -⟩ := hs
      replace h0 : ρ (.tmp 19) = .int .i64 (errIf (decide ((n : Int) ≤ x.j)) 6) := h0
      replace h1 : ρ (.tmp 22) = .int .i64 (errIf (!hb) 6) := h1
      go_simp
      exact ⟨Ext.alloc _ _, ints_new _ [errIf (decide ((n : Int) ≤ x.j)) 6, errIf (!hb) 6] _ (by simp)⟩
    · obtain ⟨h0, -⟩ := hs
      replace h0 : (Ints [errIf (decide ((n : Int) ≤ x.j)) 6, errIf (!hb) 6]) (ρ (.tmp 23)) W := h0
      go_simp
      refine (firstOf_any _ _ _ h0).mono ?_; rintro e w' ⟨rfl, rfl⟩; exact ⟨_, rfl, Ext.refl _, rfl⟩
    · obtain ⟨h0, -⟩ := hs
      replace h0 : ρ (.tmp 24) = .int .i64 (firstE [errIf (decide ((n : Int) ≤ x.j)) 6, errIf (!hb) 6]) := h0
      go_simp
      exact ⟨Ext.refl _, rfl⟩
  · intro fv W hF hs
    obtain ⟨-, -, -, -, -, -, -, -, -, -, -, -, -, -, -, -, -, -, h6, -⟩ := hs
    replace h6 : fv 6 = .int .i64 (firstE [errIf (decide ((n : Int) ≤ x.j)) 6, errIf (!hb) 6]) := h6
    simp only [fin, List.filterMap]
    go_simp
    go_wp2
    go_ret
    exact ⟨ret_int HE.out, E0.out.trans hF⟩

def strokeE (n : Nat) (am : List Int) (x : Sk) : Int := firstE [errIf (decide (x.j < 0) || decide ((n : Int) ≤ x.j)) 6, errIf (!hasB am x.a) 6]
theorem strokeErr_any {J P : Option Addr} {n cj np cp tb pb : Nat} {am : List Int} {sp ga li i : Int} {x : Sk} {w : World} (hnp : am.length = np) (hP : RowsAt 1 I1 w P am)
    (ht : w.cell? ⟨tb, 1, none⟩ = some (.slice J n cj)) (q0 : w.cell? ⟨pb, 0, none⟩ = some (.slice P np cp)) (q1 : w.cell? ⟨pb, 1, none⟩ = some (.int .i64 sp)) (q2 : w.cell? ⟨pb, 2, none⟩ = some (.int .i64 ga)) (q3 : w.cell? ⟨pb, 3, none⟩ = some (.int .i64 li)) :
    Calls Try.prog 123 #[.int .i64 i, .agg #[.int .i64 x.j, .int .i64 x.a, .bool x.u], .pointer (some ⟨tb, 0, none⟩), .pointer (some ⟨pb, 0, none⟩)] w fun e w' => e = .returned (.int .i64 (strokeE n am x)) ∧ Ext w w' := by
  unfold strokeE
  rcases Int.lt_or_le x.j 0 with h | h
  · rw [show (decide (x.j < 0) || decide ((n : Int) ≤ x.j)) = true by simp [h]]
    exact strokeErr_neg hnp hP h ht q0 q1 q2 q3
  · rw [show (decide (x.j < 0) || decide ((n : Int) ≤ x.j)) = decide ((n : Int) ≤ x.j) by simp; omega]
    exact strokeErr_pos hnp hP h ht q0 q1 q2 q3
def strokeAt (n : Nat) (am : List Int) (xs : List Sk) (i : Nat) : Int := strokeE n am (xs.getD i default)
def strokesE (n : Nat) (am : List Int) (li : Int) (xs : List Sk) : Int := if 4 < xs.length then 8 else if (firstAt (strokeAt n am xs) xs.length 0).2 ≠ 0 then (firstAt (strokeAt n am xs) xs.length 0).2 else errIf (fullB li xs n) 16
theorem strokeE_ok {n : Nat} {am : List Int} {x : Sk} (h : strokeE n am x = 0) : 0 ≤ x.j ∧ x.j < n ∧ hasB am x.a = true := by
  have h1 := firstE_zero h
  have a := errIf_zero (by decide) (h1 (errIf (decide (x.j < 0) || decide ((n : Int) ≤ x.j)) 6) (by simp))
  have b := errIf_zero (by decide) (h1 (errIf (!hasB am x.a) 6) (by simp))
  simp at a b
  exact ⟨by omega, by omega, b⟩
set_option maxRecDepth 100000 in
set_option maxHeartbeats 1000000 in
theorem strokesError_any {L : Int} {J K : Option Addr} {n m cj ck : Nat} {P : Option Addr} {np cp : Nat} {am : List Int} {sp ga li : Int} {w : World} (hnp : am.length = np) (hP : RowsAt 1 I1 w P am) {A : Option Addr} {N ca : Nat} {xs : List Sk} (hn6 : n ≤ 1000) (hpr : ∀ i, i < am.length → 1 ≤ am.getD i 0 ∧ am.getD i 0 ≤ 10000) (hN : xs.length = N) (hA : RowsAt 3 Sk.enc w A xs) :
    Calls Try.prog 90 #[.agg #[.int .i64 L, .slice J n cj, .slice K m ck], .agg #[.slice P np cp, .int .i64 sp, .int .i64 ga, .int .i64 li], .slice A N ca] w fun e w' => e = .returned (.int .i64 (strokesE n am li xs)) ∧ Ext w w' := by
  have HT := Lib.hid (show strokesE n am li xs = if 4 < N then 8 else if (firstAt (strokeAt n am xs) N 0).2 ≠ 0 then (firstAt (strokeAt n am xs) N 0).2 else errIf (fullB li xs n) 16 by rw [← hN]; rfl)
  have hnb : N ≤ 1152921504606846976 := by have := hA.1; omega
  obtain ⟨W0, hW0⟩ : ∃ W0, W0 = (w.alloc (.cells #[.int .i64 L, .slice J n cj, .slice K m ck] 130)).alloc (.cells #[.slice P np cp, .int .i64 sp, .int .i64 ga, .int .i64 li] 58) := ⟨_, rfl⟩
  have K0 := Lib.hid (show Blk W0 (w.heap.size) 130 #[.int .i64 L, .slice J n cj, .slice K m ck] by rw [hW0]; exact (Blk.new _ _ _).alloc _)
  have K1 := Lib.hid (show Blk W0 (w.heap.size + 1) 58 #[.slice P np cp, .int .i64 sp, .int .i64 ga, .int .i64 li] by rw [hW0]; exact Blk.newAt _ _ _ (by simp))
  have E0 := Lib.hid (show Ext w W0 by rw [hW0]; exact (Ext.alloc _ _).trans (Ext.alloc _ _))
  have y0_0 : W0.cell? ⟨w.heap.size, 0, none⟩ = some (.int .i64 L) := K0.out.cell 0
  have y0_1 : W0.cell? ⟨w.heap.size, 1, none⟩ = some (.slice J n cj) := K0.out.cell 1
  have y0_2 : W0.cell? ⟨w.heap.size, 2, none⟩ = some (.slice K m ck) := K0.out.cell 2
  have y1_0 : W0.cell? ⟨w.heap.size + 1, 0, none⟩ = some (.slice P np cp) := K1.out.cell 0
  have y1_1 : W0.cell? ⟨w.heap.size + 1, 1, none⟩ = some (.int .i64 sp) := K1.out.cell 1
  have y1_2 : W0.cell? ⟨w.heap.size + 1, 2, none⟩ = some (.int .i64 ga) := K1.out.cell 2
  have y1_3 : W0.cell? ⟨w.heap.size + 1, 3, none⟩ = some (.int .i64 li) := K1.out.cell 3
  have HF := Lib.hid (fun W (e : Ext W0 W) => firstError122_123 (ca := ca) (E := strokeAt n am xs) (cp := #[.pointer (some ⟨w.heap.size, 0, none⟩), .pointer (some ⟨w.heap.size + 1, 0, none⟩)]) hN (hA.ext (E0.out.trans e)) (fun i x W2 hx e2 => by
    have hd : xs.getD i default = x := by simp [hx]
    unfold strokeAt
    rw [hd]
    have e3 := e.trans e2
    exact strokeErr_any (cj := cj) (cp := cp) hnp (hP.ext (E0.out.trans e3)) (e3.cell (K0.out.cell 1)) (e3.cell (K1.out.cell 0)) (e3.cell (K1.out.cell 1)) (e3.cell (K1.out.cell 2)) (e3.cell (K1.out.cell 3))))
  have HFU := Lib.hid (fun (h4 : N ≤ 4) (hz : (firstAt (strokeAt n am xs) N 0).2 = 0) W (e : Ext W0 W) => fullError_any (L := L) (J := J) (K := K) (m := m) (cj := cj) (ck := ck) (P := P) (np := np) (cp := cp) (sp := sp) (ga := ga) (li := li) (ca := ca) hn6 hN (hA.ext (E0.out.trans e)) (by omega) (fun k hk => by have := strokeE_ok (firstAt_zero hz k (by omega) (by omega)); exact ⟨this.1, this.2.1⟩) (fun k hk => by
    have := strokeE_ok (firstAt_zero hz k (by omega) (by omega))
    obtain ⟨i, hi, he⟩ := hasB_ok this.2.2
    have := hpr i hi
    omega))
  generalize firstAt (strokeAt n am xs) N 0 = fa at *
  generalize strokesE n am li xs = sv at *
  generalize errIf (fullB li xs n) 16 = fu at *
  clear hnp hP hpr hN hA hn6
  obtain ⟨f1, f2⟩ := fa
  dsimp only at *
  by_cases h4 : 4 < N
  · have hd : decide ((4 : Int) < (N : Int)) = true := by simp; omega
    have HS := Lib.hid (show sv = 8 by rw [HT.out, if_pos h4])
    clear h4 HT HF HFU
    go_enter Try.func90, Try.ntmps90
    go_upto_region 1 with (fail)
    rw [← hW0]
    clear hW0
    go_wp2
    go_ret
    exact ⟨ret_int HS.out.symm, E0.out⟩
  · have hd : decide ((4 : Int) < (N : Int)) = false := by simp; omega
    have H4 := Lib.hid (show N ≤ 4 by omega)
    have HS := Lib.hid (show sv = if f2 ≠ 0 then f2 else fu by rw [HT.out, if_neg h4])
    clear h4 HT
    go_enter Try.func90, Try.ntmps90
    go_upto_region 1 with (fail)
    rw [← hW0]
    clear hW0
    go_wp2_with (go_at_call 122; refine (HF.out _ (Ext.refl _)).mono ?_; rintro e W2 ⟨rfl, hx⟩; have X2 := Lib.hid hx; replace K0 := Lib.hid (K0.out.ext hx); replace K1 := Lib.hid (K1.out.ext hx); clear hx y0_0 y0_1 y0_2 y1_0 y1_1 y1_2 y1_3; refine Hid.out ?_)
    refine Lib.hid ?_
    clear HF
    by_cases hz : f2 = 0
    · have hz2 : (f2 != 0) = false := by simp [hz]
      have HC := Lib.hid (show sv = fu by rw [HS.out, if_neg (by simpa using hz)])
      have HG := Lib.hid (HFU.out H4.out hz)
      clear hz HS HFU
      have z0 : W2.cell? ⟨w.heap.size, 0, none⟩ = some (.int .i64 L) := K0.out.cell 0
      have z1 : W2.cell? ⟨w.heap.size, 1, none⟩ = some (.slice J n cj) := K0.out.cell 1
      have z2 : W2.cell? ⟨w.heap.size, 2, none⟩ = some (.slice K m ck) := K0.out.cell 2
      have z3 : W2.cell? ⟨w.heap.size + 1, 0, none⟩ = some (.slice P np cp) := K1.out.cell 0
      have z4 : W2.cell? ⟨w.heap.size + 1, 1, none⟩ = some (.int .i64 sp) := K1.out.cell 1
      have z5 : W2.cell? ⟨w.heap.size + 1, 2, none⟩ = some (.int .i64 ga) := K1.out.cell 2
      have z6 : W2.cell? ⟨w.heap.size + 1, 3, none⟩ = some (.int .i64 li) := K1.out.cell 3
      go_wp2_with (go_at_call 124; refine (HG.out _ X2.out).mono ?_; rintro e W3 ⟨rfl, hx⟩; have X3 := Lib.hid ((E0.out.trans X2.out).trans hx); clear hx)
      go_ret
      exact ⟨ret_int HC.out.symm, X3.out⟩
    · have hz2 : (f2 != 0) = true := by simp [hz]
      have HC := Lib.hid (show sv = f2 by rw [HS.out, if_pos (by simpa using hz)])
      clear hz HS HFU
      go_wp2
      go_ret
      exact ⟨ret_int HC.out.symm, E0.out.trans X2.out⟩

end Go.Proofs.Ytjdilmmpdlcimaa
