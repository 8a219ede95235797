/- The examples hold. -/
import Derived.Test.YtmddnpagfgilcaaC4
import Derived.Lib.MinMax

namespace Go.Proofs.Ytmddnpagfgilcaa
open Go.RowKit Go.Shelf Go.Mem Go.RegInv
attribute [local go_sem] RelUpon_value RelUpon_skip RelUpon_enter BigFrame.eval_const BigFrame.eval_global BigFrame.eval_func


set_option maxRecDepth 100000 in
set_option maxHeartbeats 4000000 in
theorem awake_any (w : World) : Calls Try.prog 13 #[] w fun e w' => e = .returned (.bool true) ∧ Ext w w' := by
  have HCA := Lib.hid (fun (g : Nat) W (h : RowsAt 4 In.enc W (some ⟨g, 0, none⟩) exT) => caseOf_ok (ca := 3) 550 (n := 3) rfl h ex1.1 ex1.2.1 ex1.2.2.1 ex1.2.2.2)
  have HCO := Lib.hid (fun (g : Nat) W (h : RowsAt 3 Kn.enc W (some ⟨g, 0, none⟩) exX) => show Calls Try.prog 36 #[.agg #[.slice (some ⟨g, 0, none⟩) 3 3], .agg #[.int .i64 450, .int .i64 600]] W fun e w' => e = .returned (.tuple #[.agg #[.int .i64 43, .int .i64 56], .int .i64 0]) ∧ Ext W w' from by
    have := convertedOf_ok (ca := 3) 450 600 (n := 3) rfl h ex2.1 ex2.2.1
    rw [ex2.2.2] at this
    exact this)
  have HLO := Lib.hid (fun W => show Calls Try.prog 54 #[.int .i64 10, .int .i64 10, .int .i64 50] W fun e w' => e = .returned (.tuple #[.int .i64 7, .int .i64 0]) ∧ Ext W w' from by
    have := lowerShare_any 10 10 50 W
    rw [ex3.1, ex3.2] at this
    exact this)
  have HAC := Lib.hid (fun W => show Calls Try.prog 59 #[.agg #[.int .i64 10, .int .i64 2, .int .i64 0], .int .i64 3] W fun e w' => e = .returned (.tuple #[.agg #[.int .i64 7, .int .i64 15], .int .i64 0]) ∧ Ext W w' from by
    have := accOf_any 10 2 0 3 W
    rw [ex4.1, ex4.2] at this
    exact this)
  have HFI := Lib.hid (fun (g : Nat) W (h : RowsAt 2 Pr.enc W (some ⟨g, 0, none⟩) exP) => show Calls Try.prog 72 #[.slice (some ⟨g, 0, none⟩) 3 3] W fun e w' => e = .returned (.tuple #[.agg #[.int .i64 3, .int .i64 2, .int .i64 (-1), .int .i64 2, .int .i64 0, .int .i64 2, .int .i64 1, .int .i64 1], .int .i64 0]) ∧ Ext W w' from
    fitOf_ok (ca := 3) (n := 3) rfl h ex5.1 ex5.2.1 ex5.2.2.1 ex5.2.2.2.1 ex5.2.2.2.2.1 ex5.2.2.2.2.2.1 ex5.2.2.2.2.2.2)
  have L1 := Lib.hid (fun W => show Calls Try.prog 74 #[.int .i64 225, .int .i64 2] W fun e w' => e = .returned (.agg #[.int .i64 225, .int .i64 2]) ∧ Ext W w' from by
    have := lowest_any 225 2 ⟨by decide, by decide⟩ (by decide) ⟨by decide, by decide⟩ W
    rw [ex6.1] at this
    exact this)
  have L2 := Lib.hid (fun W => show Calls Try.prog 74 #[.int .i64 235, .int .i64 2] W fun e w' => e = .returned (.agg #[.int .i64 235, .int .i64 2]) ∧ Ext W w' from by
    have := lowest_any 235 2 ⟨by decide, by decide⟩ (by decide) ⟨by decide, by decide⟩ W
    rw [ex6.2.1] at this
    exact this)
  have L3 := Lib.hid (fun W => show Calls Try.prog 74 #[.int .i64 3, .int .i64 2] W fun e w' => e = .returned (.agg #[.int .i64 3, .int .i64 2]) ∧ Ext W w' from by
    have := lowest_any 3 2 ⟨by decide, by decide⟩ (by decide) ⟨by decide, by decide⟩ W
    rw [ex6.2.2.1] at this
    exact this)
  have L4 := Lib.hid (fun W => show Calls Try.prog 74 #[.int .i64 (-1), .int .i64 2] W fun e w' => e = .returned (.agg #[.int .i64 (-1), .int .i64 2]) ∧ Ext W w' from by
    have := lowest_any (-1) 2 ⟨by decide, by decide⟩ (by decide) ⟨by decide, by decide⟩ W
    rw [ex6.2.2.2] at this
    exact this)
  have L5 := Lib.hid (fun W => whole_any 1 W)
  go_enter Try.func13, Try.ntmps13
  go_wp2_with (go_at_call 70; refine (traverse_any _).mono ?_; rintro e W1 ⟨g1, rfl, hr, hx⟩; have X1 := Lib.hid hx; have R1 := Lib.hid hr; clear hx hr; refine Hid.out ?_)
  refine Lib.hid ?_
  go_wp2_with (go_at_call 18; refine (HCA.out g1 _ R1.out).mono ?_; rintro e W2 ⟨rfl, hx⟩; have X2 := Lib.hid (X1.out.trans (hx.trans (Ext.alloc W2 (.cells #[.int .i64 225, .int .i64 2, .int .i64 235, .int .i64 2] 34)))); have B1 := Lib.hid (Blk.new W2 34 #[.int .i64 225, .int .i64 2, .int .i64 235, .int .i64 2]); clear hx X1 R1; refine Hid.out ?_)
  refine Lib.hid ?_
  go_wp2_with (go_at_call 71; refine (table_any _).mono ?_; rintro e W3 ⟨g2, rfl, hr, hx⟩; have X3 := Lib.hid (X2.out.trans hx); have B1 := Lib.hid (B1.out.ext hx); have R2 := Lib.hid hr; clear hx hr X2; refine Hid.out ?_)
  refine Lib.hid ?_
  go_wp2_with (go_at_call 36; refine (HCO.out g2 _ R2.out).mono ?_; rintro e W4 ⟨rfl, hx⟩; have X4 := Lib.hid (X3.out.trans (hx.trans (Ext.alloc W4 (.cells #[.int .i64 43, .int .i64 56] 41)))); have B1 := Lib.hid ((B1.out.ext hx).alloc (.cells #[.int .i64 43, .int .i64 56] 41)); have B2 := Lib.hid (Blk.new W4 41 #[.int .i64 43, .int .i64 56]); clear hx X3 R2; refine Hid.out ?_)
  refine Lib.hid ?_
  go_wp2_with (go_at_call 54; refine (HLO.out _).mono ?_; rintro e W5 ⟨rfl, hx⟩; have X5 := Lib.hid (X4.out.trans hx); have B1 := Lib.hid (B1.out.ext hx); have B2 := Lib.hid (B2.out.ext hx); clear hx X4; refine Hid.out ?_)
  refine Lib.hid ?_
  go_wp2_with (go_at_call 59; refine (HAC.out _).mono ?_; rintro e W6 ⟨rfl, hx⟩; have X6 := Lib.hid (X5.out.trans (hx.trans (Ext.alloc W6 (.cells #[.int .i64 7, .int .i64 15] 32)))); have B1 := Lib.hid ((B1.out.ext hx).alloc (.cells #[.int .i64 7, .int .i64 15] 32)); have B2 := Lib.hid ((B2.out.ext hx).alloc (.cells #[.int .i64 7, .int .i64 15] 32)); have B3 := Lib.hid (Blk.new W6 32 #[.int .i64 7, .int .i64 15]); clear hx X5; refine Hid.out ?_)
  refine Lib.hid ?_
  go_wp2_with (go_at_call 73; refine (pairs_any _).mono ?_; rintro e W7 ⟨g3, rfl, hr, hx⟩; have X7 := Lib.hid (X6.out.trans hx); have B1 := Lib.hid (B1.out.ext hx); have B2 := Lib.hid (B2.out.ext hx); have B3 := Lib.hid (B3.out.ext hx); have R3 := Lib.hid hr; clear hx hr X6; refine Hid.out ?_)
  refine Lib.hid ?_
  go_wp2_with (go_at_call 72; refine (HFI.out g3 _ R3.out).mono ?_; rintro e W8 ⟨rfl, hx⟩; have X8 := Lib.hid (X7.out.trans (hx.trans (Ext.alloc W8 (.cells #[.int .i64 3, .int .i64 2, .int .i64 (-1), .int .i64 2, .int .i64 0, .int .i64 2, .int .i64 1, .int .i64 1] 118)))); have B1 := Lib.hid ((B1.out.ext hx).alloc (.cells #[.int .i64 3, .int .i64 2, .int .i64 (-1), .int .i64 2, .int .i64 0, .int .i64 2, .int .i64 1, .int .i64 1] 118)); have B2 := Lib.hid ((B2.out.ext hx).alloc (.cells #[.int .i64 3, .int .i64 2, .int .i64 (-1), .int .i64 2, .int .i64 0, .int .i64 2, .int .i64 1, .int .i64 1] 118)); have B3 := Lib.hid ((B3.out.ext hx).alloc (.cells #[.int .i64 3, .int .i64 2, .int .i64 (-1), .int .i64 2, .int .i64 0, .int .i64 2, .int .i64 1, .int .i64 1] 118)); have B4 := Lib.hid (Blk.new W8 118 #[.int .i64 3, .int .i64 2, .int .i64 (-1), .int .i64 2, .int .i64 0, .int .i64 2, .int .i64 1, .int .i64 1]); clear hx X7 R3; refine Hid.out ?_)
  refine Lib.hid ?_
  obtain ⟨W9, hW9⟩ : ∃ W9, W9 = W8.alloc (.cells #[.int .i64 3, .int .i64 2, .int .i64 (-1), .int .i64 2, .int .i64 0, .int .i64 2, .int .i64 1, .int .i64 1] 118) := ⟨_, rfl⟩
  generalize W2.heap.size = q1 at *
  generalize W4.heap.size = q2 at *
  generalize W6.heap.size = q3 at *
  rw [← hW9] at B1 B2 B3 B4 X8
  go_wp2_with (fail)
  rw [← hW9]
  clear hW9
  generalize W8.heap.size = q4 at *
  have y10 : W9.cell? ⟨q1, 0, none⟩ = some (.int .i64 (225)) := B1.out.cell 0
  have y11 : W9.cell? ⟨q1, 1, none⟩ = some (.int .i64 (2)) := B1.out.cell 1
  have y12 : W9.cell? ⟨q1, 2, none⟩ = some (.int .i64 (235)) := B1.out.cell 2
  have y13 : W9.cell? ⟨q1, 3, none⟩ = some (.int .i64 (2)) := B1.out.cell 3
  have y20 : W9.cell? ⟨q2, 0, none⟩ = some (.int .i64 (43)) := B2.out.cell 0
  have y21 : W9.cell? ⟨q2, 1, none⟩ = some (.int .i64 (56)) := B2.out.cell 1
  have y30 : W9.cell? ⟨q3, 0, none⟩ = some (.int .i64 (7)) := B3.out.cell 0
  have y31 : W9.cell? ⟨q3, 1, none⟩ = some (.int .i64 (15)) := B3.out.cell 1
  have y40 : W9.cell? ⟨q4, 0, none⟩ = some (.int .i64 (3)) := B4.out.cell 0
  have y41 : W9.cell? ⟨q4, 1, none⟩ = some (.int .i64 (2)) := B4.out.cell 1
  have y42 : W9.cell? ⟨q4, 2, none⟩ = some (.int .i64 ((-1))) := B4.out.cell 2
  have y43 : W9.cell? ⟨q4, 3, none⟩ = some (.int .i64 (2)) := B4.out.cell 3
  have y44 : W9.cell? ⟨q4, 4, none⟩ = some (.int .i64 (0)) := B4.out.cell 4
  have y45 : W9.cell? ⟨q4, 5, none⟩ = some (.int .i64 (2)) := B4.out.cell 5
  have y46 : W9.cell? ⟨q4, 6, none⟩ = some (.int .i64 (1)) := B4.out.cell 6
  have y47 : W9.cell? ⟨q4, 7, none⟩ = some (.int .i64 (1)) := B4.out.cell 7
  refine wp_region_eachG [(38, true), (38, true), (38, true), (38, true), (38, true), (45, true), (45, true), (49, true), (49, true), (49, true), (54, true), (54, true), (58, true), (58, true), (62, true), (62, true), (66, true), (66, true), (66, true), (71, true), (71, true), (75, true), (75, true), (75, true), (75, true), (75, true), (75, true), (75, true)] [some 36, some 37, some 38, some 39, some 40, some 41, some 42, some 43, some 44, some 45, some 46, some 47, some 48, some 49, some 50, some 51, some 52, some 53, some 54, some 55, some 56, some 57, some 58, some 59, some 60, some 61, some 62, some 63, some 64, some 65, some 66, some 67, some 68, some 69, some 70, some 71, some 72, some 73, some 74, some 75, some 76, some 77, some 78, some 79, some 80, some 81, some 82, some 83, some 0] [[2], [36], [37], [1, 38], [38], [38], [40, 41, 38], [39, 42, 38], [38, 43], [44], [4, 45], [46, 45], [45, 47], [48], [3, 49], [49], [50, 51, 49], [49, 52], [53], [6, 54], [55, 54], [54, 56], [57], [5, 58], [59, 58], [58, 60], [61], [8, 62], [63, 62], [62, 64], [65], [7, 66], [66], [67, 68, 66], [66, 69], [70], [10, 71], [72, 71], [71, 73], [74], [9, 75], [75], [75], [75], [75], [77, 78, 79, 80, 75], [76, 81, 75], [75, 82], [83]]
    [Is (.int .i64 (0)), Is (.bool (true)), Is (.bool (true)), Is (.agg #[.int .i64 (225), .int .i64 (2), .int .i64 (235), .int .i64 (2)]), Is (.agg #[.int .i64 225, .int .i64 2]), Is (.agg #[.int .i64 235, .int .i64 2]), Is (.agg #[.int .i64 225, .int .i64 2, .int .i64 235, .int .i64 2]), Is (.bool (true)), Is (.bool (true)), Is (.bool (true)), Is (.int .i64 (0)), Is (.bool (true)), Is (.bool (true)), Is (.bool (true)), Is (.agg #[.int .i64 (43), .int .i64 (56)]), Is (.agg #[.int .i64 43, .int .i64 56]), Is (.bool (true)), Is (.bool (true)), Is (.bool (true)), Is (.int .i64 (0)), Is (.bool (true)), Is (.bool (true)), Is (.bool (true)), Is (.int .i64 (7)), Is (.bool (true)), Is (.bool (true)), Is (.bool (true)), Is (.int .i64 (0)), Is (.bool (true)), Is (.bool (true)), Is (.bool (true)), Is (.agg #[.int .i64 (7), .int .i64 (15)]), Is (.agg #[.int .i64 7, .int .i64 15]), Is (.bool (true)), Is (.bool (true)), Is (.bool (true)), Is (.int .i64 (0)), Is (.bool (true)), Is (.bool (true)), Is (.bool (true)), Is (.agg #[.int .i64 (3), .int .i64 (2), .int .i64 ((-1)), .int .i64 (2), .int .i64 (0), .int .i64 (2), .int .i64 (1), .int .i64 (1)]), Is (.agg #[.int .i64 3, .int .i64 2]), Is (.agg #[.int .i64 (-1), .int .i64 2]), Is (.agg #[.int .i64 0, .int .i64 2]), Is (.agg #[.int .i64 1, .int .i64 1]), Is (.agg #[.int .i64 3, .int .i64 2, .int .i64 (-1), .int .i64 2, .int .i64 0, .int .i64 2, .int .i64 1, .int .i64 1]), Is (.bool (true)), Is (.bool (true)), Is (.bool (true))]
    (by kernel_rfl) (by kernel_rfl) (by kernel_rfl) (by kernel_rfl) (by kernel_rfl) Ext (fun W => Ext W9 W)
    (fun W _ => Ext.refl W) (fun W W' h k => h.trans k) ?_ (by intro p hp; simp only [List.mem_cons, List.not_mem_nil, or_false] at hp; rcases hp with rfl | rfl | rfl | rfl | rfl | rfl | rfl | rfl | rfl | rfl | rfl | rfl | rfl | rfl | rfl | rfl | rfl | rfl | rfl | rfl | rfl | rfl | rfl | rfl | rfl | rfl | rfl | rfl <;> exact ⟨_, rfl, fun _ _ h => h⟩) (Ext.drew _) ?_ ?_
  · repeat (refine ⟨fun _ _ _ _ k h => (by first | exact h | exact (IntsAt.ext h k)), ?_⟩)
    exact trivial
  · refine ⟨?_, ?_, ?_, ?_, ?_, ?_, ?_, ?_, ?_, ?_, ?_, ?_, ?_, ?_, ?_, ?_, ?_, ?_, ?_, ?_, ?_, ?_, ?_, ?_, ?_, ?_, ?_, ?_, ?_, ?_, ?_, ?_, ?_, ?_, ?_, ?_, ?_, ?_, ?_, ?_, ?_, ?_, ?_, ?_, ?_, ?_, ?_, ?_, ?_, trivial⟩
    all_goals intro ρ W ⟨kc, kg, kf⟩ hF hs
    · obtain ⟨h0, -⟩ := hs
      replace h0 : ρ (.tmp 2) = .int .i64 (0) := h0
      go_simp
      exact ⟨Ext.refl _, rfl⟩
    · obtain ⟨h0, -⟩ := hs
      replace h0 : ρ (.tmp 36) = .int .i64 (0) := h0
      go_simp
      exact ⟨Ext.refl _, rfl⟩
    · obtain ⟨h0, -⟩ := hs
      replace h0 : ρ (.tmp 37) = .bool (true) := h0
      go_simp
      exact ⟨Ext.refl _, rfl⟩
    · obtain ⟨h0, h1, -⟩ := hs
      replace h0 : ρ (.tmp 1) = .pointer (some ⟨q1, 0, none⟩) := h0
      replace h1 : ρ (.tmp 38) = .bool (true) := h1
      have hc0 : W.cell? ⟨q1, 0, none⟩ = some (.int .i64 (225)) := hF.cell (by assumption)
      have hc1 : W.cell? ⟨q1, 1, none⟩ = some (.int .i64 (2)) := hF.cell (by assumption)
      have hc2 : W.cell? ⟨q1, 2, none⟩ = some (.int .i64 (235)) := hF.cell (by assumption)
      have hc3 : W.cell? ⟨q1, 3, none⟩ = some (.int .i64 (2)) := hF.cell (by assumption)
      go_simp
      exact ⟨Ext.refl _, rfl⟩
    · obtain ⟨h0, -⟩ := hs
      replace h0 : ρ (.tmp 38) = .bool (true) := h0
      go_simp
      refine (L1.out _).mono ?_; rintro e w' ⟨rfl, hx⟩; exact ⟨_, rfl, hx, rfl⟩
    · obtain ⟨h0, -⟩ := hs
      replace h0 : ρ (.tmp 38) = .bool (true) := h0
      go_simp
      refine (L2.out _).mono ?_; rintro e w' ⟨rfl, hx⟩; exact ⟨_, rfl, hx, rfl⟩
    · obtain ⟨h0, h1, h2, -⟩ := hs
      replace h0 : ρ (.tmp 40) = .agg #[.int .i64 225, .int .i64 2] := h0
      replace h1 : ρ (.tmp 41) = .agg #[.int .i64 235, .int .i64 2] := h1
      replace h2 : ρ (.tmp 38) = .bool (true) := h2
      go_simp
      exact ⟨Ext.refl _, rfl⟩
    · obtain ⟨h0, h1, h2, -⟩ := hs
      replace h0 : ρ (.tmp 39) = .agg #[.int .i64 (225), .int .i64 (2), .int .i64 (235), .int .i64 (2)] := h0
      replace h1 : ρ (.tmp 42) = .agg #[.int .i64 225, .int .i64 2, .int .i64 235, .int .i64 2] := h1
      replace h2 : ρ (.tmp 38) = .bool (true) := h2
      go_simp
      exact ⟨Ext.refl _, rfl⟩
    · obtain ⟨h0, h1, -⟩ := hs
      replace h0 : ρ (.tmp 38) = .bool (true) := h0
      replace h1 : ρ (.tmp 43) = .bool (true) := h1
      go_simp
      exact ⟨Ext.refl _, rfl⟩
    · obtain ⟨h0, -⟩ := hs
      replace h0 : ρ (.tmp 44) = .bool (true) := h0
      go_simp
      exact ⟨Ext.refl _, rfl⟩
    · obtain ⟨h0, h1, -⟩ := hs
      replace h0 : ρ (.tmp 4) = .int .i64 (0) := h0
      replace h1 : ρ (.tmp 45) = .bool (true) := h1
      go_simp
      exact ⟨Ext.refl _, rfl⟩
    · obtain ⟨h0, h1, -⟩ := hs
      replace h0 : ρ (.tmp 46) = .int .i64 (0) := h0
      replace h1 : ρ (.tmp 45) = .bool (true) := h1
      go_simp
      exact ⟨Ext.refl _, rfl⟩
    · obtain ⟨h0, h1, -⟩ := hs
      replace h0 : ρ (.tmp 45) = .bool (true) := h0
      replace h1 : ρ (.tmp 47) = .bool (true) := h1
      go_simp
      exact ⟨Ext.refl _, rfl⟩
    · obtain ⟨h0, -⟩ := hs
      replace h0 : ρ (.tmp 48) = .bool (true) := h0
      go_simp
      exact ⟨Ext.refl _, rfl⟩
    · obtain ⟨h0, h1, -⟩ := hs
      replace h0 : ρ (.tmp 3) = .pointer (some ⟨q2, 0, none⟩) := h0
      replace h1 : ρ (.tmp 49) = .bool (true) := h1
      have hc0 : W.cell? ⟨q2, 0, none⟩ = some (.int .i64 (43)) := hF.cell (by assumption)
      have hc1 : W.cell? ⟨q2, 1, none⟩ = some (.int .i64 (56)) := hF.cell (by assumption)
      go_simp
      exact ⟨Ext.refl _, rfl⟩
    · obtain ⟨h0, -⟩ := hs
      replace h0 : ρ (.tmp 49) = .bool (true) := h0
      go_simp
      exact ⟨Ext.refl _, rfl⟩
    · obtain ⟨h0, h1, h2, -⟩ := hs
      replace h0 : ρ (.tmp 50) = .agg #[.int .i64 (43), .int .i64 (56)] := h0
      replace h1 : ρ (.tmp 51) = .agg #[.int .i64 43, .int .i64 56] := h1
      replace h2 : ρ (.tmp 49) = .bool (true) := h2
      go_simp
      exact ⟨Ext.refl _, rfl⟩
    · obtain ⟨h0, h1, -⟩ := hs
      replace h0 : ρ (.tmp 49) = .bool (true) := h0
      replace h1 : ρ (.tmp 52) = .bool (true) := h1
      go_simp
      exact ⟨Ext.refl _, rfl⟩
    · obtain ⟨h0, -⟩ := hs
      replace h0 : ρ (.tmp 53) = .bool (true) := h0
      go_simp
      exact ⟨Ext.refl _, rfl⟩
    · obtain ⟨h0, h1, -⟩ := hs
      replace h0 : ρ (.tmp 6) = .int .i64 (0) := h0
      replace h1 : ρ (.tmp 54) = .bool (true) := h1
      go_simp
      exact ⟨Ext.refl _, rfl⟩
    · obtain ⟨h0, h1, -⟩ := hs
      replace h0 : ρ (.tmp 55) = .int .i64 (0) := h0
      replace h1 : ρ (.tmp 54) = .bool (true) := h1
      go_simp
      exact ⟨Ext.refl _, rfl⟩
    · obtain ⟨h0, h1, -⟩ := hs
      replace h0 : ρ (.tmp 54) = .bool (true) := h0
      replace h1 : ρ (.tmp 56) = .bool (true) := h1
      go_simp
      exact ⟨Ext.refl _, rfl⟩
    · obtain ⟨h0, -⟩ := hs
      replace h0 : ρ (.tmp 57) = .bool (true) := h0
      go_simp
      exact ⟨Ext.refl _, rfl⟩
    · obtain ⟨h0, h1, -⟩ := hs
      replace h0 : ρ (.tmp 5) = .int .i64 (7) := h0
      replace h1 : ρ (.tmp 58) = .bool (true) := h1
      go_simp
      exact ⟨Ext.refl _, rfl⟩
    · obtain ⟨h0, h1, -⟩ := hs
      replace h0 : ρ (.tmp 59) = .int .i64 (7) := h0
      replace h1 : ρ (.tmp 58) = .bool (true) := h1
      go_simp
      exact ⟨Ext.refl _, rfl⟩
    · obtain ⟨h0, h1, -⟩ := hs
      replace h0 : ρ (.tmp 58) = .bool (true) := h0
      replace h1 : ρ (.tmp 60) = .bool (true) := h1
      go_simp
      exact ⟨Ext.refl _, rfl⟩
    · obtain ⟨h0, -⟩ := hs
      replace h0 : ρ (.tmp 61) = .bool (true) := h0
      go_simp
      exact ⟨Ext.refl _, rfl⟩
    · obtain ⟨h0, h1, -⟩ := hs
      replace h0 : ρ (.tmp 8) = .int .i64 (0) := h0
      replace h1 : ρ (.tmp 62) = .bool (true) := h1
      go_simp
      exact ⟨Ext.refl _, rfl⟩
    · obtain ⟨h0, h1, -⟩ := hs
      replace h0 : ρ (.tmp 63) = .int .i64 (0) := h0
      replace h1 : ρ (.tmp 62) = .bool (true) := h1
      go_simp
      exact ⟨Ext.refl _, rfl⟩
    · obtain ⟨h0, h1, -⟩ := hs
      replace h0 : ρ (.tmp 62) = .bool (true) := h0
      replace h1 : ρ (.tmp 64) = .bool (true) := h1
      go_simp
      exact ⟨Ext.refl _, rfl⟩
    · obtain ⟨h0, -⟩ := hs
      replace h0 : ρ (.tmp 65) = .bool (true) := h0
      go_simp
      exact ⟨Ext.refl _, rfl⟩
    · obtain ⟨h0, h1, -⟩ := hs
      replace h0 : ρ (.tmp 7) = .pointer (some ⟨q3, 0, none⟩) := h0
      replace h1 : ρ (.tmp 66) = .bool (true) := h1
      have hc0 : W.cell? ⟨q3, 0, none⟩ = some (.int .i64 (7)) := hF.cell (by assumption)
      have hc1 : W.cell? ⟨q3, 1, none⟩ = some (.int .i64 (15)) := hF.cell (by assumption)
      go_simp
      exact ⟨Ext.refl _, rfl⟩
    · obtain ⟨h0, -⟩ := hs
      replace h0 : ρ (.tmp 66) = .bool (true) := h0
      go_simp
      exact ⟨Ext.refl _, rfl⟩
    · obtain ⟨h0, h1, h2, -⟩ := hs
      replace h0 : ρ (.tmp 67) = .agg #[.int .i64 (7), .int .i64 (15)] := h0
      replace h1 : ρ (.tmp 68) = .agg #[.int .i64 7, .int .i64 15] := h1
      replace h2 : ρ (.tmp 66) = .bool (true) := h2
      go_simp
      exact ⟨Ext.refl _, rfl⟩
    · obtain ⟨h0, h1, -⟩ := hs
      replace h0 : ρ (.tmp 66) = .bool (true) := h0
      replace h1 : ρ (.tmp 69) = .bool (true) := h1
      go_simp
      exact ⟨Ext.refl _, rfl⟩
    · obtain ⟨h0, -⟩ := hs
      replace h0 : ρ (.tmp 70) = .bool (true) := h0
      go_simp
      exact ⟨Ext.refl _, rfl⟩
    · obtain ⟨h0, h1, -⟩ := hs
      replace h0 : ρ (.tmp 10) = .int .i64 (0) := h0
      replace h1 : ρ (.tmp 71) = .bool (true) := h1
      go_simp
      exact ⟨Ext.refl _, rfl⟩
    · obtain ⟨h0, h1, -⟩ := hs
      replace h0 : ρ (.tmp 72) = .int .i64 (0) := h0
      replace h1 : ρ (.tmp 71) = .bool (true) := h1
      go_simp
      exact ⟨Ext.refl _, rfl⟩
    · obtain ⟨h0, h1, -⟩ := hs
      replace h0 : ρ (.tmp 71) = .bool (true) := h0
      replace h1 : ρ (.tmp 73) = .bool (true) := h1
      go_simp
      exact ⟨Ext.refl _, rfl⟩
    · obtain ⟨h0, -⟩ := hs
      replace h0 : ρ (.tmp 74) = .bool (true) := h0
      go_simp
      exact ⟨Ext.refl _, rfl⟩
    · obtain ⟨h0, h1, -⟩ := hs
      replace h0 : ρ (.tmp 9) = .pointer (some ⟨q4, 0, none⟩) := h0
      replace h1 : ρ (.tmp 75) = .bool (true) := h1
      have hc0 : W.cell? ⟨q4, 0, none⟩ = some (.int .i64 (3)) := hF.cell (by assumption)
      have hc1 : W.cell? ⟨q4, 1, none⟩ = some (.int .i64 (2)) := hF.cell (by assumption)
      have hc2 : W.cell? ⟨q4, 2, none⟩ = some (.int .i64 ((-1))) := hF.cell (by assumption)
      have hc3 : W.cell? ⟨q4, 3, none⟩ = some (.int .i64 (2)) := hF.cell (by assumption)
      have hc4 : W.cell? ⟨q4, 4, none⟩ = some (.int .i64 (0)) := hF.cell (by assumption)
      have hc5 : W.cell? ⟨q4, 5, none⟩ = some (.int .i64 (2)) := hF.cell (by assumption)
      have hc6 : W.cell? ⟨q4, 6, none⟩ = some (.int .i64 (1)) := hF.cell (by assumption)
      have hc7 : W.cell? ⟨q4, 7, none⟩ = some (.int .i64 (1)) := hF.cell (by assumption)
      go_simp
      exact ⟨Ext.refl _, rfl⟩
    · obtain ⟨h0, -⟩ := hs
      replace h0 : ρ (.tmp 75) = .bool (true) := h0
      go_simp
      refine (L3.out _).mono ?_; rintro e w' ⟨rfl, hx⟩; exact ⟨_, rfl, hx, rfl⟩
    · obtain ⟨h0, -⟩ := hs
      replace h0 : ρ (.tmp 75) = .bool (true) := h0
      go_simp
      refine (L4.out _).mono ?_; rintro e w' ⟨rfl, hx⟩; exact ⟨_, rfl, hx, rfl⟩
    · obtain ⟨h0, -⟩ := hs
      replace h0 : ρ (.tmp 75) = .bool (true) := h0
      go_simp
      exact ⟨Ext.refl _, rfl⟩
    · obtain ⟨h0, -⟩ := hs
      replace h0 : ρ (.tmp 75) = .bool (true) := h0
      go_simp
      refine (L5.out _).mono ?_; rintro e w' ⟨rfl, hx⟩; exact ⟨_, rfl, hx, rfl⟩
    · obtain ⟨h0, h1, h2, h3, h4, -⟩ := hs
      replace h0 : ρ (.tmp 77) = .agg #[.int .i64 3, .int .i64 2] := h0
      replace h1 : ρ (.tmp 78) = .agg #[.int .i64 (-1), .int .i64 2] := h1
      replace h2 : ρ (.tmp 79) = .agg #[.int .i64 0, .int .i64 2] := h2
      replace h3 : ρ (.tmp 80) = .agg #[.int .i64 1, .int .i64 1] := h3
      replace h4 : ρ (.tmp 75) = .bool (true) := h4
      go_simp
      exact ⟨Ext.refl _, rfl⟩
    · obtain ⟨h0, h1, h2, -⟩ := hs
      replace h0 : ρ (.tmp 76) = .agg #[.int .i64 (3), .int .i64 (2), .int .i64 ((-1)), .int .i64 (2), .int .i64 (0), .int .i64 (2), .int .i64 (1), .int .i64 (1)] := h0
      replace h1 : ρ (.tmp 81) = .agg #[.int .i64 3, .int .i64 2, .int .i64 (-1), .int .i64 2, .int .i64 0, .int .i64 2, .int .i64 1, .int .i64 1] := h1
      replace h2 : ρ (.tmp 75) = .bool (true) := h2
      go_simp
      exact ⟨Ext.refl _, rfl⟩
    · obtain ⟨h0, h1, -⟩ := hs
      replace h0 : ρ (.tmp 75) = .bool (true) := h0
      replace h1 : ρ (.tmp 82) = .bool (true) := h1
      go_simp
      exact ⟨Ext.refl _, rfl⟩
    · obtain ⟨h0, -⟩ := hs
      replace h0 : ρ (.tmp 83) = .bool (true) := h0
      go_simp
      exact ⟨Ext.refl _, rfl⟩
  · intro fv W hF hs
    obtain ⟨-, -, -, -, -, -, -, -, -, -, -, -, -, -, -, -, -, -, -, -, -, -, -, -, -, -, -, -, -, -, -, -, -, -, -, -, -, -, -, -, -, -, -, -, -, -, -, -, h0, -⟩ := hs
    replace h0 : fv 0 = .bool (true) := h0
    simp only [fin, List.filterMap]
    go_simp
    go_wp2
    go_ret
    exact ⟨rfl, X8.out.trans hF⟩

end Go.Proofs.Ytmddnpagfgilcaa
