/- The errors of joints. -/
import Derived.Test.YtjdilmmpdlcimaaGreatB2
import Derived.Test.YtjdilmmpdlcimaaGreatR5
import Derived.Lib.MinMax
import Derived.Deep.DeepCutAuto

namespace Go.Proofs.YtjdilmmpdlcimaaGreat
open Go.RowKit Go.Shelf Go.Mem Go.RegInv
attribute [local go_sem] RelUpon_value RelUpon_skip RelUpon_enter BigFrame.eval_const BigFrame.eval_global BigFrame.eval_func


set_option maxRecDepth 100000 in
set_option maxHeartbeats 1000000 in
theorem jointError_first {L : Int} {J K : Option Addr} {n cj ck : Nat} {js : List Int} {ks : List Rg} {w : World} (hn : js.length = n) (hJ : RowsAt 1 I1 w J js) (hm : ks.length = n) (hK : RowsAt 2 Rg.enc w K ks) {i : Nat} {a : Int} {x : Rg} (h1 : 1 ≤ L) (h2 : L ≤ 10000) (hi : i < n) (hi0 : i = 0) (hx : ks.getD i default = x) :
    Calls Tryz.prog 76 #[.agg #[.int .i64 L, .slice J n cj, .slice K n ck], .int .i64 (i : Int), .int .i64 a] w fun e w' => e = .returned (.int .i64 (firstE [rangeE 1 (L - 1) [a], errIf (false) 9, endsE (-100000) 100000 x])) ∧ Ext w w' := by
  obtain ⟨jb, jo, rfl, hjb, hjc⟩ := row_I1 hJ (i := i) (by omega)
  obtain ⟨kb, ko, rfl, hkb, hc0, hc1⟩ := row_Rg hK (i := i) (by omega)
  rw [hx] at hc0 hc1
  have hnb : n ≤ 1152921504606846976 := by have := hJ.1; omega
  have hi2 : (i : Int) < (n : Int) := by omega
  have HIJ := Lib.hid hi0
  generalize hE : firstE [rangeE 1 (L - 1) [a], errIf (false) 9, endsE (-100000) 100000 x] = z
  have HE := Lib.hid hE

  obtain ⟨W0, hW0⟩ : ∃ W0, W0 = w.alloc (.cells #[.int .i64 L, .slice (some ⟨jb, jo, none⟩) n cj, .slice (some ⟨kb, ko, none⟩) n ck] 75) := ⟨_, rfl⟩
  have k0 : Blk W0 w.heap.size 75 #[.int .i64 L, .slice (some ⟨jb, jo, none⟩) n cj, .slice (some ⟨kb, ko, none⟩) n ck] := by rw [hW0]; exact Blk.new _ _ _
  have E0 := Lib.hid (show Ext w W0 by rw [hW0]; exact Ext.alloc _ _)
  have y0 : W0.cell? ⟨w.heap.size, 0, none⟩ = some (.int .i64 L) := k0.cell 0
  have y1 : W0.cell? ⟨w.heap.size, 1, none⟩ = some (.slice (some ⟨jb, jo, none⟩) n cj) := k0.cell 1
  have y2 : W0.cell? ⟨w.heap.size, 2, none⟩ = some (.slice (some ⟨kb, ko, none⟩) n ck) := k0.cell 2
  clear k0
  have y4 := E0.out.cell hc0
  have y5 := E0.out.cell hc1

  clear hJ hm hK hjc hn hc0 hc1 hE hx hi0
  go_enter Tryz.func76, Tryz.ntmps76
  go_wp2
  rw [← hW0]
  clear hW0
  go_wp2
  refine wp_region_eachN [(16, true), (16, true), (16, true), (16, true), (16, true), (16, true), (16, true), (16, true), (16, true)] [some 7, some 8, some 9, some 10, some 11, some 12, some 13, some 14, some 15, some 16, some 17, some 18, some 19, some 20, some 21, some 22, some 23, some 24, some 25, some 26, some 27, some 28, some 29, some 30, some 31, some 32, some 33, some 34, some 35, some 36, some 6] [[3], [7], [8], [9], [2], [11], [10, 12], [1], [14], [15], [2, 16], [3, 16], [18, 16], [19, 16], [1, 16], [21, 16], [20, 22, 16], [23, 16], [17, 24, 16], [16, 25], [26], [3], [28], [29], [1], [30, 31], [32], [33], [13, 27, 34], [35], [36]]
    [Is (.pointer (some ⟨w.heap.size, 0, none⟩)), Is (.pointer (some ⟨w.heap.size, 0, none⟩)), Is (.int .i64 (L)), Is (.int .i64 (L - 1)), Is (.int .i64 (a)), Ints [a], Is (.int .i64 (rangeE (1) (L - 1) [a])), Is (.int .i64 ((i : Int))), Is (.bool (false)), Is (.bool (false)), Is (undef), Is (undef), Is (undef), Is (undef), Is (undef), Is (undef), Is (undef), Is (undef), Is (undef), Is (.bool (false)), Is (.int .i64 (errIf (false) 9)), Is (.pointer (some ⟨w.heap.size, 0, none⟩)), Is (.pointer (some ⟨w.heap.size, 2, none⟩)), Is (.slice (some ⟨kb, ko, none⟩) n ck), Is (.int .i64 ((i : Int))), Is (.pointer (some ⟨kb, ko + i * 2, none⟩)), Is (.agg #[.int .i64 (x.1), .int .i64 (x.2)]), Is (.int .i64 (endsE (-100000) 100000 x)), Ints [rangeE (1) (L - 1) [a], errIf (false) 9, endsE (-100000) 100000 x], Is (.int .i64 (firstE [rangeE (1) (L - 1) [a], errIf (false) 9, endsE (-100000) 100000 x])), Is (.int .i64 (firstE [rangeE (1) (L - 1) [a], errIf (false) 9, endsE (-100000) 100000 x]))]
    (by kernel_rfl) (by kernel_rfl) (by kernel_rfl) (by kernel_rfl) (by kernel_rfl) Ext (fun W => Ext W0 W)
    (fun W _ => Ext.refl W) (fun W W' h k => h.trans k) ?_ (by intro p hp; simp only [List.mem_cons, List.not_mem_nil, or_false] at hp; rcases hp with rfl | rfl | rfl | rfl | rfl | rfl | rfl | rfl | rfl <;> exact ⟨_, rfl, fun _ _ h => h⟩) (Ext.drew _) ?_ ?_
  · repeat (refine ⟨fun _ _ _ _ k h => (by first | exact h | exact (IntsAt.ext h k)), ?_⟩)
    exact trivial
  · refine ⟨?_, ?_, ?_, ?_, ?_, ?_, ?_, ?_, ?_, ?_, ?_, ?_, ?_, ?_, ?_, ?_, ?_, ?_, ?_, ?_, ?_, ?_, ?_, ?_, ?_, ?_, ?_, ?_, ?_, ?_, ?_, trivial⟩
    · intro ρ W ⟨kc, kg, kf⟩ hF hs
      obtain ⟨h0, -⟩ := hs
      replace h0 : ρ (.tmp 3) = .pointer (some ⟨w.heap.size, 0, none⟩) := h0
      go_simp
      exact ⟨Ext.refl _, rfl⟩
    · intro ρ W ⟨kc, kg, kf⟩ hF hs
      obtain ⟨h0, -⟩ := hs
      replace h0 : ρ (.tmp 7) = .pointer (some ⟨w.heap.size, 0, none⟩) := h0
      go_simp
      exact ⟨Ext.refl _, rfl⟩
    · intro ρ W ⟨kc, kg, kf⟩ hF hs
      obtain ⟨h0, -⟩ := hs
      replace h0 : ρ (.tmp 8) = .pointer (some ⟨w.heap.size, 0, none⟩) := h0
      have hc0 : W.cell? ⟨w.heap.size, 0, none⟩ = some (.int .i64 (L)) := hF.cell (by assumption)
      go_simp
      exact ⟨Ext.refl _, rfl⟩
    · intro ρ W ⟨kc, kg, kf⟩ hF hs
      obtain ⟨h0, -⟩ := hs
      replace h0 : ρ (.tmp 9) = .int .i64 (L) := h0
      have hw : IntKind.i64.wrap (L - 1) = L - 1 := wrap_id _ (by omega) (by omega)
      go_simp
      exact ⟨Ext.refl _, rfl⟩
    · intro ρ W ⟨kc, kg, kf⟩ hF hs
      obtain ⟨h0, -⟩ := hs
      replace h0 : ρ (.tmp 2) = .int .i64 (a) := h0
      go_simp
      exact ⟨Ext.refl _, rfl⟩
    · intro ρ W ⟨kc, kg, kf⟩ hF hs
      obtain ⟨h0, -⟩ := hs
      replace h0 : ρ (.tmp 11) = .int .i64 (a) := h0
      go_simp
      exact ⟨Ext.alloc _ _, ints_new _ [a] _ (by simp)⟩
    · intro ρ W ⟨kc, kg, kf⟩ hF hs
      obtain ⟨h0, h1, -⟩ := hs
      replace h0 : ρ (.tmp 10) = .int .i64 (L - 1) := h0
      replace h1 : (Ints [a]) (ρ (.tmp 12)) W := h1
      go_simp
      refine (rangeError_any _ _ _ _ _ h1).mono ?_; rintro e w' ⟨rfl, hx⟩; exact ⟨_, rfl, hx, rfl⟩
    · intro ρ W ⟨kc, kg, kf⟩ hF hs
      obtain ⟨h0, -⟩ := hs
      replace h0 : ρ (.tmp 1) = .int .i64 ((i : Int)) := h0
      go_simp
      exact ⟨Ext.refl _, rfl⟩
    · intro ρ W ⟨kc, kg, kf⟩ hF hs
      obtain ⟨h0, -⟩ := hs
      replace h0 : ρ (.tmp 14) = .int .i64 ((i : Int)) := h0
      have hd : decide (0 < i) = false := by have := HIJ.out; simp; omega
      go_simp
      exact ⟨Ext.refl _, rfl⟩
    · intro ρ W ⟨kc, kg, kf⟩ hF hs
      obtain ⟨h0, -⟩ := hs
      replace h0 : ρ (.tmp 15) = .bool (false) := h0
      go_simp
      exact ⟨Ext.refl _, rfl⟩
    · exact fun _ => rfl
    · exact fun _ => rfl
    · exact fun _ => rfl
    · exact fun _ => rfl
    · exact fun _ => rfl
    · exact fun _ => rfl
    · exact fun _ => rfl
    · exact fun _ => rfl
    · exact fun _ => rfl
    · intro ρ W ⟨kc, kg, kf⟩ hF hs
      obtain ⟨h0, h1, -⟩ := hs
      replace h0 : ρ (.tmp 16) = .bool (false) := h0
      replace h1 : ρ (.tmp 25) = undef := h1
      go_simp
      exact ⟨Ext.refl _, rfl⟩
    · intro ρ W ⟨kc, kg, kf⟩ hF hs
      obtain ⟨h0, -⟩ := hs
      replace h0 : ρ (.tmp 26) = .bool (false) := h0
      go_simp
      refine (errorIf_any _ _ _).mono ?_; rintro e w' ⟨rfl, rfl⟩; exact ⟨_, rfl, Ext.refl _, rfl⟩
    · intro ρ W ⟨kc, kg, kf⟩ hF hs
      obtain ⟨h0, -⟩ := hs
      replace h0 : ρ (.tmp 3) = .pointer (some ⟨w.heap.size, 0, none⟩) := h0
      go_simp
      exact ⟨Ext.refl _, rfl⟩
    · intro ρ W ⟨kc, kg, kf⟩ hF hs
      obtain ⟨h0, -⟩ := hs
      replace h0 : ρ (.tmp 28) = .pointer (some ⟨w.heap.size, 0, none⟩) := h0
      go_simp
      exact ⟨Ext.refl _, rfl⟩
    · intro ρ W ⟨kc, kg, kf⟩ hF hs
      obtain ⟨h0, -⟩ := hs
      replace h0 : ρ (.tmp 29) = .pointer (some ⟨w.heap.size, 2, none⟩) := h0
      have hc0 : W.cell? ⟨w.heap.size, 2, none⟩ = some (.slice (some ⟨kb, ko, none⟩) n ck) := hF.cell (by assumption)
      go_simp
      exact ⟨Ext.refl _, rfl⟩
    · intro ρ W ⟨kc, kg, kf⟩ hF hs
      obtain ⟨h0, -⟩ := hs
      replace h0 : ρ (.tmp 1) = .int .i64 ((i : Int)) := h0
      go_simp
      exact ⟨Ext.refl _, rfl⟩
    · intro ρ W ⟨kc, kg, kf⟩ hF hs
      obtain ⟨h0, h1, -⟩ := hs
      replace h0 : ρ (.tmp 30) = .slice (some ⟨kb, ko, none⟩) n ck := h0
      replace h1 : ρ (.tmp 31) = .int .i64 ((i : Int)) := h1
      go_simp
      exact ⟨Ext.refl _, rfl⟩
    · intro ρ W ⟨kc, kg, kf⟩ hF hs
      obtain ⟨h0, -⟩ := hs
      replace h0 : ρ (.tmp 32) = .pointer (some ⟨kb, ko + i * 2, none⟩) := h0
      have hc0 : W.cell? ⟨kb, ko + i * 2, none⟩ = some (.int .i64 (x.1)) := hF.cell (by assumption)
      have hc1 : W.cell? ⟨kb, ko + i * 2 + 1, none⟩ = some (.int .i64 (x.2)) := hF.cell (by assumption)
      go_simp
      exact ⟨Ext.refl _, rfl⟩
    · intro ρ W ⟨kc, kg, kf⟩ hF hs
      obtain ⟨h0, -⟩ := hs
      replace h0 : ρ (.tmp 33) = .agg #[.int .i64 (x.1), .int .i64 (x.2)] := h0
      go_simp
      refine (endsError_any _ _ x _).mono ?_; rintro e w' ⟨rfl, hx⟩; exact ⟨_, rfl, hx, rfl⟩
    · intro ρ W ⟨kc, kg, kf⟩ hF hs
      obtain ⟨h0, h1, h2, -⟩ := hs
      replace h0 : ρ (.tmp 13) = .int .i64 (rangeE (1) (L - 1) [a]) := h0
      replace h1 : ρ (.tmp 27) = .int .i64 (errIf (false) 9) := h1
      replace h2 : ρ (.tmp 34) = .int .i64 (endsE (-100000) 100000 x) := h2
      go_simp
      exact ⟨Ext.alloc _ _, ints_new _ [rangeE (1) (L - 1) [a], errIf (false) 9, endsE (-100000) 100000 x] _ (by simp)⟩
    · intro ρ W ⟨kc, kg, kf⟩ hF hs
      obtain ⟨h0, -⟩ := hs
      replace h0 : (Ints [rangeE (1) (L - 1) [a], errIf (false) 9, endsE (-100000) 100000 x]) (ρ (.tmp 35)) W := h0
      go_simp
      refine (firstOf_any _ _ _ h0).mono ?_; rintro e w' ⟨rfl, rfl⟩; exact ⟨_, rfl, Ext.refl _, rfl⟩
    · intro ρ W ⟨kc, kg, kf⟩ hF hs
      obtain ⟨h0, -⟩ := hs
      replace h0 : ρ (.tmp 36) = .int .i64 (firstE [rangeE (1) (L - 1) [a], errIf (false) 9, endsE (-100000) 100000 x]) := h0
      go_simp
      exact ⟨Ext.refl _, rfl⟩
  · intro fv W hF hs
    obtain ⟨-, -, -, -, -, -, -, -, -, -, -, -, -, -, -, -, -, -, -, -, -, -, -, -, -, -, -, -, -, -, h6, -⟩ := hs
    replace h6 : fv 6 = .int .i64 (firstE [rangeE (1) (L - 1) [a], errIf (false) 9, endsE (-100000) 100000 x]) := h6
    simp only [fin, List.filterMap]
    go_simp
    go_wp2
    go_ret
    exact ⟨ret_int HE.out, E0.out.trans hF⟩

set_option maxRecDepth 100000 in
set_option maxHeartbeats 1000000 in
theorem jointError_next {L : Int} {J K : Option Addr} {n cj ck : Nat} {js : List Int} {ks : List Rg} {w : World} (hn : js.length = n) (hJ : RowsAt 1 I1 w J js) (hm : ks.length = n) (hK : RowsAt 2 Rg.enc w K ks) {i j : Nat} {a : Int} {x : Rg} (h1 : 1 ≤ L) (h2 : L ≤ 10000) (hi : i < n) (hij : i = j + 1) (hx : ks.getD i default = x) :
    Calls Tryz.prog 76 #[.agg #[.int .i64 L, .slice J n cj, .slice K n ck], .int .i64 (i : Int), .int .i64 a] w fun e w' => e = .returned (.int .i64 (firstE [rangeE 1 (L - 1) [a], errIf (decide (a ≤ js.getD j 0)) 9, endsE (-100000) 100000 x])) ∧ Ext w w' := by
  obtain ⟨jb, jo, rfl, hjb, hjc⟩ := row_I1 hJ (i := j) (by omega)
  obtain ⟨kb, ko, rfl, hkb, hc0, hc1⟩ := row_Rg hK (i := i) (by omega)
  rw [hx] at hc0 hc1
  have hnb : n ≤ 1152921504606846976 := by have := hJ.1; omega
  have hi2 : (i : Int) < (n : Int) := by omega
  have HIJ := Lib.hid hij
  generalize hE : firstE [rangeE 1 (L - 1) [a], errIf (decide (a ≤ js.getD j 0)) 9, endsE (-100000) 100000 x] = z
  have HE := Lib.hid hE
  generalize js.getD j 0 = pj at *
  obtain ⟨W0, hW0⟩ : ∃ W0, W0 = w.alloc (.cells #[.int .i64 L, .slice (some ⟨jb, jo, none⟩) n cj, .slice (some ⟨kb, ko, none⟩) n ck] 75) := ⟨_, rfl⟩
  have k0 : Blk W0 w.heap.size 75 #[.int .i64 L, .slice (some ⟨jb, jo, none⟩) n cj, .slice (some ⟨kb, ko, none⟩) n ck] := by rw [hW0]; exact Blk.new _ _ _
  have E0 := Lib.hid (show Ext w W0 by rw [hW0]; exact Ext.alloc _ _)
  have y0 : W0.cell? ⟨w.heap.size, 0, none⟩ = some (.int .i64 L) := k0.cell 0
  have y1 : W0.cell? ⟨w.heap.size, 1, none⟩ = some (.slice (some ⟨jb, jo, none⟩) n cj) := k0.cell 1
  have y2 : W0.cell? ⟨w.heap.size, 2, none⟩ = some (.slice (some ⟨kb, ko, none⟩) n ck) := k0.cell 2
  clear k0
  have y4 := E0.out.cell hc0
  have y5 := E0.out.cell hc1
  have y6 := E0.out.cell hjc
  clear hJ hm hK hjc hn hc0 hc1 hE hx hij
  go_enter Tryz.func76, Tryz.ntmps76
  go_wp2
  rw [← hW0]
  clear hW0
  go_wp2
  refine wp_region_eachG [(16, true), (16, true), (16, true), (16, true), (16, true), (16, true), (16, true), (16, true), (16, true)] [some 7, some 8, some 9, some 10, some 11, some 12, some 13, some 14, some 15, some 16, some 17, some 18, some 19, some 20, some 21, some 22, some 23, some 24, some 25, some 26, some 27, some 28, some 29, some 30, some 31, some 32, some 33, some 34, some 35, some 36, some 6] [[3], [7], [8], [9], [2], [11], [10, 12], [1], [14], [15], [2, 16], [3, 16], [18, 16], [19, 16], [1, 16], [21, 16], [20, 22, 16], [23, 16], [17, 24, 16], [16, 25], [26], [3], [28], [29], [1], [30, 31], [32], [33], [13, 27, 34], [35], [36]]
    [Is (.pointer (some ⟨w.heap.size, 0, none⟩)), Is (.pointer (some ⟨w.heap.size, 0, none⟩)), Is (.int .i64 (L)), Is (.int .i64 (L - 1)), Is (.int .i64 (a)), Ints [a], Is (.int .i64 (rangeE (1) (L - 1) [a])), Is (.int .i64 ((i : Int))), Is (.bool (true)), Is (.bool (true)), Is (.int .i64 (a)), Is (.pointer (some ⟨w.heap.size, 0, none⟩)), Is (.pointer (some ⟨w.heap.size, 1, none⟩)), Is (.slice (some ⟨jb, jo, none⟩) n cj), Is (.int .i64 ((i : Int))), Is (.int .i64 ((i : Int) - 1)), Is (.pointer (some ⟨jb, jo + j, none⟩)), Is (.int .i64 (pj)), Is (.bool (decide (a ≤ pj))), Is (.bool (decide (a ≤ pj))), Is (.int .i64 (errIf (decide (a ≤ pj)) 9)), Is (.pointer (some ⟨w.heap.size, 0, none⟩)), Is (.pointer (some ⟨w.heap.size, 2, none⟩)), Is (.slice (some ⟨kb, ko, none⟩) n ck), Is (.int .i64 ((i : Int))), Is (.pointer (some ⟨kb, ko + i * 2, none⟩)), Is (.agg #[.int .i64 (x.1), .int .i64 (x.2)]), Is (.int .i64 (endsE (-100000) 100000 x)), Ints [rangeE (1) (L - 1) [a], errIf (decide (a ≤ pj)) 9, endsE (-100000) 100000 x], Is (.int .i64 (firstE [rangeE (1) (L - 1) [a], errIf (decide (a ≤ pj)) 9, endsE (-100000) 100000 x])), Is (.int .i64 (firstE [rangeE (1) (L - 1) [a], errIf (decide (a ≤ pj)) 9, endsE (-100000) 100000 x]))]
    (by kernel_rfl) (by kernel_rfl) (by kernel_rfl) (by kernel_rfl) (by kernel_rfl) Ext (fun W => Ext W0 W)
    (fun W _ => Ext.refl W) (fun W W' h k => h.trans k) ?_ (by intro p hp; simp only [List.mem_cons, List.not_mem_nil, or_false] at hp; rcases hp with rfl | rfl | rfl | rfl | rfl | rfl | rfl | rfl | rfl <;> exact ⟨_, rfl, fun _ _ h => h⟩) (Ext.drew _) ?_ ?_
  · repeat (refine ⟨fun _ _ _ _ k h => (by first | exact h | exact (IntsAt.ext h k)), ?_⟩)
    exact trivial
  · refine ⟨?_, ?_, ?_, ?_, ?_, ?_, ?_, ?_, ?_, ?_, ?_, ?_, ?_, ?_, ?_, ?_, ?_, ?_, ?_, ?_, ?_, ?_, ?_, ?_, ?_, ?_, ?_, ?_, ?_, ?_, ?_, trivial⟩
    all_goals intro ρ W ⟨kc, kg, kf⟩ hF hs
    · obtain ⟨h0, -⟩ := hs
      replace h0 : ρ (.tmp 3) = .pointer (some ⟨w.heap.size, 0, none⟩) := h0
      go_simp
      exact ⟨Ext.refl _, rfl⟩
    · obtain ⟨h0, -⟩ := hs
      replace h0 : ρ (.tmp 7) = .pointer (some ⟨w.heap.size, 0, none⟩) := h0
      go_simp
      exact ⟨Ext.refl _, rfl⟩
    · obtain ⟨h0, -⟩ := hs
      replace h0 : ρ (.tmp 8) = .pointer (some ⟨w.heap.size, 0, none⟩) := h0
      have hc0 : W.cell? ⟨w.heap.size, 0, none⟩ = some (.int .i64 (L)) := hF.cell (by assumption)
      go_simp
      exact ⟨Ext.refl _, rfl⟩
    · obtain ⟨h0, -⟩ := hs
      replace h0 : ρ (.tmp 9) = .int .i64 (L) := h0
      have hw : IntKind.i64.wrap (L - 1) = L - 1 := wrap_id _ (by omega) (by omega)
      go_simp
      exact ⟨Ext.refl _, rfl⟩
    · obtain ⟨h0, -⟩ := hs
      replace h0 : ρ (.tmp 2) = .int .i64 (a) := h0
      go_simp
      exact ⟨Ext.refl _, rfl⟩
    · obtain ⟨h0, -⟩ := hs
      replace h0 : ρ (.tmp 11) = .int .i64 (a) := h0
      go_simp
      exact ⟨Ext.alloc _ _, ints_new _ [a] _ (by simp)⟩
    · obtain ⟨h0, h1, -⟩ := hs
      replace h0 : ρ (.tmp 10) = .int .i64 (L - 1) := h0
      replace h1 : (Ints [a]) (ρ (.tmp 12)) W := h1
      go_simp
      refine (rangeError_any _ _ _ _ _ h1).mono ?_; rintro e w' ⟨rfl, hx⟩; exact ⟨_, rfl, hx, rfl⟩
    · obtain ⟨h0, -⟩ := hs
      replace h0 : ρ (.tmp 1) = .int .i64 ((i : Int)) := h0
      go_simp
      exact ⟨Ext.refl _, rfl⟩
    · obtain ⟨h0, -⟩ := hs
      replace h0 : ρ (.tmp 14) = .int .i64 ((i : Int)) := h0
      have hd : decide (0 < i) = true := by have := HIJ.out; simp; omega
      go_simp
      exact ⟨Ext.refl _, rfl⟩
    · obtain ⟨h0, -⟩ := hs
      replace h0 : ρ (.tmp 15) = .bool (true) := h0
      go_simp
      exact ⟨Ext.refl _, rfl⟩
    · obtain ⟨h0, h1, -⟩ := hs
      replace h0 : ρ (.tmp 2) = .int .i64 (a) := h0
      replace h1 : ρ (.tmp 16) = .bool (true) := h1
      go_simp
      exact ⟨Ext.refl _, rfl⟩
    · obtain ⟨h0, h1, -⟩ := hs
      replace h0 : ρ (.tmp 3) = .pointer (some ⟨w.heap.size, 0, none⟩) := h0
      replace h1 : ρ (.tmp 16) = .bool (true) := h1
      go_simp
      exact ⟨Ext.refl _, rfl⟩
    · obtain ⟨h0, h1, -⟩ := hs
      replace h0 : ρ (.tmp 18) = .pointer (some ⟨w.heap.size, 0, none⟩) := h0
      replace h1 : ρ (.tmp 16) = .bool (true) := h1
      go_simp
      exact ⟨Ext.refl _, rfl⟩
    · obtain ⟨h0, h1, -⟩ := hs
      replace h0 : ρ (.tmp 19) = .pointer (some ⟨w.heap.size, 1, none⟩) := h0
      replace h1 : ρ (.tmp 16) = .bool (true) := h1
      have hc0 : W.cell? ⟨w.heap.size, 1, none⟩ = some (.slice (some ⟨jb, jo, none⟩) n cj) := hF.cell (by assumption)
      go_simp
      exact ⟨Ext.refl _, rfl⟩
    · obtain ⟨h0, h1, -⟩ := hs
      replace h0 : ρ (.tmp 1) = .int .i64 ((i : Int)) := h0
      replace h1 : ρ (.tmp 16) = .bool (true) := h1
      go_simp
      exact ⟨Ext.refl _, rfl⟩
    · obtain ⟨h0, h1, -⟩ := hs
      replace h0 : ρ (.tmp 21) = .int .i64 ((i : Int)) := h0
      replace h1 : ρ (.tmp 16) = .bool (true) := h1
      have hw : IntKind.i64.wrap ((i : Int) - 1) = (i : Int) - 1 := wrap_id _ (by have := HIJ.out; omega) (by omega)
      go_simp
      exact ⟨Ext.refl _, rfl⟩
    · obtain ⟨h0, h1, h2, -⟩ := hs
      replace h0 : ρ (.tmp 20) = .slice (some ⟨jb, jo, none⟩) n cj := h0
      replace h1 : ρ (.tmp 22) = .int .i64 ((i : Int) - 1) := h1
      replace h2 : ρ (.tmp 16) = .bool (true) := h2
      have hb6 : (1 : Int) ≤ (i : Int) := by have := HIJ.out; omega
      have hb9 : 1 ≤ i := by have := HIJ.out; omega
      have hb1 : (i : Int) - 1 < (n : Int) := by have := HIJ.out; omega
      have hb3 : (0 : Int) ≤ (i : Int) - 1 := by have := HIJ.out; omega
      have hb4 : ((i : Int) - 1).toNat = j := by have := HIJ.out; omega
      have hb7 : i - 1 = j := by have := HIJ.out; omega
      have hb5 : (i : Int) ≤ (n : Int) := by have := HIJ.out; omega
      have hb8 : j < n := by have := HIJ.out; omega
      go_simp
      exact ⟨Ext.refl _, rfl⟩
    · obtain ⟨h0, h1, -⟩ := hs
      replace h0 : ρ (.tmp 23) = .pointer (some ⟨jb, jo + j, none⟩) := h0
      replace h1 : ρ (.tmp 16) = .bool (true) := h1
      have hc0 : W.cell? ⟨jb, jo + j, none⟩ = some (.int .i64 (pj)) := hF.cell (by assumption)
      go_simp
      exact ⟨Ext.refl _, rfl⟩
    · obtain ⟨h0, h1, h2, -⟩ := hs
      replace h0 : ρ (.tmp 17) = .int .i64 (a) := h0
      replace h1 : ρ (.tmp 24) = .int .i64 (pj) := h1
      replace h2 : ρ (.tmp 16) = .bool (true) := h2
      go_simp
      exact ⟨Ext.refl _, rfl⟩
    · obtain ⟨h0, h1, -⟩ := hs
      replace h0 : ρ (.tmp 16) = .bool (true) := h0
      replace h1 : ρ (.tmp 25) = .bool (decide (a ≤ pj)) := h1
      go_simp
      exact ⟨Ext.refl _, rfl⟩
    · obtain ⟨h0, -⟩ := hs
      replace h0 : ρ (.tmp 26) = .bool (decide (a ≤ pj)) := h0
      go_simp
      refine (errorIf_any _ _ _).mono ?_; rintro e w' ⟨rfl, rfl⟩; exact ⟨_, rfl, Ext.refl _, rfl⟩
    · obtain ⟨h0, -⟩ := hs
      replace h0 : ρ (.tmp 3) = .pointer (some ⟨w.heap.size, 0, none⟩) := h0
      go_simp
      exact ⟨Ext.refl _, rfl⟩
    · obtain ⟨h0, -⟩ := hs
      replace h0 : ρ (.tmp 28) = .pointer (some ⟨w.heap.size, 0, none⟩) := h0
      go_simp
      exact ⟨Ext.refl _, rfl⟩
    · obtain ⟨h0, -⟩ := hs
      replace h0 : ρ (.tmp 29) = .pointer (some ⟨w.heap.size, 2, none⟩) := h0
      have hc0 : W.cell? ⟨w.heap.size, 2, none⟩ = some (.slice (some ⟨kb, ko, none⟩) n ck) := hF.cell (by assumption)
      go_simp
      exact ⟨Ext.refl _, rfl⟩
    · obtain ⟨h0, -⟩ := hs
      replace h0 : ρ (.tmp 1) = .int .i64 ((i : Int)) := h0
      go_simp
      exact ⟨Ext.refl _, rfl⟩
    · obtain ⟨h0, h1, -⟩ := hs
      replace h0 : ρ (.tmp 30) = .slice (some ⟨kb, ko, none⟩) n ck := h0
      replace h1 : ρ (.tmp 31) = .int .i64 ((i : Int)) := h1
      go_simp
      exact ⟨Ext.refl _, rfl⟩
    · obtain ⟨h0, -⟩ := hs
      replace h0 : ρ (.tmp 32) = .pointer (some ⟨kb, ko + i * 2, none⟩) := h0
      have hc0 : W.cell? ⟨kb, ko + i * 2, none⟩ = some (.int .i64 (x.1)) := hF.cell (by assumption)
      have hc1 : W.cell? ⟨kb, ko + i * 2 + 1, none⟩ = some (.int .i64 (x.2)) := hF.cell (by assumption)
      go_simp
      exact ⟨Ext.refl _, rfl⟩
    · obtain ⟨h0, -⟩ := hs
      replace h0 : ρ (.tmp 33) = .agg #[.int .i64 (x.1), .int .i64 (x.2)] := h0
      go_simp
      refine (endsError_any _ _ x _).mono ?_; rintro e w' ⟨rfl, hx⟩; exact ⟨_, rfl, hx, rfl⟩
    · obtain ⟨h0, h1, h2, -⟩ := hs
      replace h0 : ρ (.tmp 13) = .int .i64 (rangeE (1) (L - 1) [a]) := h0
      replace h1 : ρ (.tmp 27) = .int .i64 (errIf (decide (a ≤ pj)) 9) := h1
      replace h2 : ρ (.tmp 34) = .int .i64 (endsE (-100000) 100000 x) := h2
      go_simp
      exact ⟨Ext.alloc _ _, ints_new _ [rangeE (1) (L - 1) [a], errIf (decide (a ≤ pj)) 9, endsE (-100000) 100000 x] _ (by simp)⟩
    · obtain ⟨h0, -⟩ := hs
      replace h0 : (Ints [rangeE (1) (L - 1) [a], errIf (decide (a ≤ pj)) 9, endsE (-100000) 100000 x]) (ρ (.tmp 35)) W := h0
      go_simp
      refine (firstOf_any _ _ _ h0).mono ?_; rintro e w' ⟨rfl, rfl⟩; exact ⟨_, rfl, Ext.refl _, rfl⟩
    · obtain ⟨h0, -⟩ := hs
      replace h0 : ρ (.tmp 36) = .int .i64 (firstE [rangeE (1) (L - 1) [a], errIf (decide (a ≤ pj)) 9, endsE (-100000) 100000 x]) := h0
      go_simp
      exact ⟨Ext.refl _, rfl⟩
  · intro fv W hF hs
    obtain ⟨-, -, -, -, -, -, -, -, -, -, -, -, -, -, -, -, -, -, -, -, -, -, -, -, -, -, -, -, -, -, h6, -⟩ := hs
    replace h6 : fv 6 = .int .i64 (firstE [rangeE (1) (L - 1) [a], errIf (decide (a ≤ pj)) 9, endsE (-100000) 100000 x]) := h6
    simp only [fin, List.filterMap]
    go_simp
    go_wp2
    go_ret
    exact ⟨ret_int HE.out, E0.out.trans hF⟩

end Go.Proofs.YtjdilmmpdlcimaaGreat
