/- Samples of valid covers. -/
import Derived.Test.YtjdilmmpdlcimaaGreatN3
import Derived.Lib.MinMax
import Derived.Deep.DeepCutAuto

namespace Go.Proofs.YtjdilmmpdlcimaaGreat
open Go.RowKit Go.Shelf Go.Mem Go.RegInv
attribute [local go_sem] RelUpon_value RelUpon_skip RelUpon_enter BigFrame.eval_const BigFrame.eval_global BigFrame.eval_func


structure FrOK (a b : Nat) : Prop where
  b1 : 1 ≤ b
  b2 : b ≤ 100
  ab : a ≤ b
  g1 : Nat.gcd a b = 1
theorem rangeE_in {lo hi x : Int} (h1 : lo ≤ x) (h2 : x ≤ hi) : rangeE lo hi [x] = 0 := rangeE_ok (by simp; omega)
set_option maxRecDepth 100000 in
set_option maxHeartbeats 1000000 in
theorem partError_ok {a b : Nat} (h : FrOK a b) (w : World) :
    Calls Tryz.prog 44 #[.agg #[.int .i64 (a : Int), .int .i64 (b : Int)]] w fun e w' => e = .returned (.int .i64 0) ∧ Ext w w' := by
  have HG := Lib.hid (fun W => show Calls Tryz.prog 69 #[.int .i64 (a : Int), .int .i64 (b : Int)] W fun e w' => e = .returned (.int .i64 1) ∧ Ext W w' from by
    have := divisor_any (a : Int) (b : Int) ⟨by have := h.ab; have := h.b2; omega, by have := h.ab; have := h.b2; omega⟩ ⟨by omega, by have := h.b2; omega⟩ W
    rw [Int.natAbs_natCast, Int.natAbs_natCast, h.g1] at this
    exact this)
  have HB := Lib.hid h.b1
  have HR := Lib.hid (show firstE [errIf false 3, rangeE 1 100 [(b : Int)], rangeE 0 (b : Int) [(a : Int)]] = 0 by
    rw [rangeE_in (by have := h.b1; omega) (by have := h.b2; omega), rangeE_in (by omega) (by have := h.ab; omega)]; rfl)
  clear h
  obtain ⟨W0, hW0⟩ : ∃ W0, W0 = w.alloc (.cells #[.int .i64 (a : Int), .int .i64 (b : Int)] 62) := ⟨_, rfl⟩
  have K0 := Lib.hid (show Blk W0 (w.heap.size) 62 #[.int .i64 (a : Int), .int .i64 (b : Int)] by rw [hW0]; exact Blk.new _ _ _)
  have E0 := Lib.hid (show Ext w W0 by rw [hW0]; exact Ext.alloc _ _)
  have y0_0 : W0.cell? ⟨w.heap.size, 0, none⟩ = some (.int .i64 (a : Int)) := K0.out.cell 0
  have y0_1 : W0.cell? ⟨w.heap.size, 1, none⟩ = some (.int .i64 (b : Int)) := K0.out.cell 1
  go_enter Tryz.func44, Tryz.ntmps44
  go_wp2
  rw [← hW0]
  clear hW0
  go_wp2
  refine wp_region_eachG [(6, false), (6, false), (6, false), (6, false), (6, false), (6, false)] [some 3, some 4, some 5, some 6, some 7, some 8, some 9, some 10, some 11, some 12, some 13, some 14, some 15, some 16, some 17, some 18, some 19, some 20, some 21, some 22, some 23, some 24, some 25, some 26, some 2] [[1], [3], [4], [5], [1, 6], [7, 6], [1, 6], [9, 6], [8, 10, 6], [11, 6], [6, 12], [13], [1], [15], [16], [17], [1], [19], [1], [21], [22], [20, 23], [14, 18, 24], [25], [26]]
    [Is (.pointer (some ⟨w.heap.size, 1, none⟩)), Is (.int .i64 ((b : Int))), Is (.bool (false)), Is (.bool (false)), Is (.pointer (some ⟨w.heap.size, 0, none⟩)), Is (.int .i64 ((a : Int))), Is (.pointer (some ⟨w.heap.size, 1, none⟩)), Is (.int .i64 ((b : Int))), Is (.int .i64 (1)), Is (.bool (false)), Is (.bool (false)), Is (.int .i64 (errIf (false) 3)), Is (.pointer (some ⟨w.heap.size, 1, none⟩)), Is (.int .i64 ((b : Int))), Ints [(b : Int)], Is (.int .i64 (rangeE (1) (100) [(b : Int)])), Is (.pointer (some ⟨w.heap.size, 1, none⟩)), Is (.int .i64 ((b : Int))), Is (.pointer (some ⟨w.heap.size, 0, none⟩)), Is (.int .i64 ((a : Int))), Ints [(a : Int)], Is (.int .i64 (rangeE (0) ((b : Int)) [(a : Int)])), Ints [errIf (false) 3, rangeE (1) (100) [(b : Int)], rangeE (0) ((b : Int)) [(a : Int)]], Is (.int .i64 (firstE [errIf (false) 3, rangeE (1) (100) [(b : Int)], rangeE (0) ((b : Int)) [(a : Int)]])), Is (.int .i64 (firstE [errIf (false) 3, rangeE (1) (100) [(b : Int)], rangeE (0) ((b : Int)) [(a : Int)]]))]
    (by kernel_rfl) (by kernel_rfl) (by kernel_rfl) (by kernel_rfl) (by kernel_rfl) Ext (fun W => Ext W0 W)
    (fun W _ => Ext.refl W) (fun W W' h k => h.trans k) ?_ (by intro p hp; simp only [List.mem_cons, List.not_mem_nil, or_false] at hp; rcases hp with rfl | rfl | rfl | rfl | rfl | rfl <;> exact ⟨_, rfl, fun _ _ h => h⟩) (Ext.drew _) ?_ ?_
  · repeat (refine ⟨fun _ _ _ _ k h => (by first | exact h | exact (IntsAt.ext h k)), ?_⟩)
    exact trivial
  · refine ⟨?_, ?_, ?_, ?_, ?_, ?_, ?_, ?_, ?_, ?_, ?_, ?_, ?_, ?_, ?_, ?_, ?_, ?_, ?_, ?_, ?_, ?_, ?_, ?_, ?_, trivial⟩
    all_goals intro ρ W ⟨kc, kg, kf⟩ hF hs
    · obtain ⟨h0, -⟩ := hs
      replace h0 : ρ (.tmp 1) = .pointer (some ⟨w.heap.size, 0, none⟩) := h0
      go_simp
      exact ⟨Ext.refl _, rfl⟩
    · obtain ⟨h0, -⟩ := hs
      replace h0 : ρ (.tmp 3) = .pointer (some ⟨w.heap.size, 1, none⟩) := h0
      have hc0 : W.cell? ⟨w.heap.size, 1, none⟩ = some (.int .i64 ((b : Int))) := hF.cell (by assumption)
      go_simp
      exact ⟨Ext.refl _, rfl⟩
    · obtain ⟨h0, -⟩ := hs
      replace h0 : ρ (.tmp 4) = .int .i64 ((b : Int)) := h0
      have hd : decide (b = 0) = false := by have := HB.out; simp; omega
      go_simp
      exact ⟨Ext.refl _, rfl⟩
    · obtain ⟨h0, -⟩ := hs
      replace h0 : ρ (.tmp 5) = .bool (false) := h0
      go_simp
      exact ⟨Ext.refl _, rfl⟩
    · obtain ⟨h0, h1, -⟩ := hs
      replace h0 : ρ (.tmp 1) = .pointer (some ⟨w.heap.size, 0, none⟩) := h0
      replace h1 : ρ (.tmp 6) = .bool (false) := h1
      go_simp
      exact ⟨Ext.refl _, rfl⟩
    · obtain ⟨h0, h1, -⟩ := hs
      replace h0 : ρ (.tmp 7) = .pointer (some ⟨w.heap.size, 0, none⟩) := h0
      replace h1 : ρ (.tmp 6) = .bool (false) := h1
      have hc0 : W.cell? ⟨w.heap.size, 0, none⟩ = some (.int .i64 ((a : Int))) := hF.cell (by assumption)
      go_simp
      exact ⟨Ext.refl _, rfl⟩
    · obtain ⟨h0, h1, -⟩ := hs
      replace h0 : ρ (.tmp 1) = .pointer (some ⟨w.heap.size, 0, none⟩) := h0
      replace h1 : ρ (.tmp 6) = .bool (false) := h1
      go_simp
      exact ⟨Ext.refl _, rfl⟩
    · obtain ⟨h0, h1, -⟩ := hs
      replace h0 : ρ (.tmp 9) = .pointer (some ⟨w.heap.size, 1, none⟩) := h0
      replace h1 : ρ (.tmp 6) = .bool (false) := h1
      have hc0 : W.cell? ⟨w.heap.size, 1, none⟩ = some (.int .i64 ((b : Int))) := hF.cell (by assumption)
      go_simp
      exact ⟨Ext.refl _, rfl⟩
    · obtain ⟨h0, h1, h2, -⟩ := hs
      replace h0 : ρ (.tmp 8) = .int .i64 ((a : Int)) := h0
      replace h1 : ρ (.tmp 10) = .int .i64 ((b : Int)) := h1
      replace h2 : ρ (.tmp 6) = .bool (false) := h2
      go_simp
      refine (HG.out _).mono ?_; rintro e w' ⟨rfl, hx⟩; exact ⟨_, rfl, hx, rfl⟩
    · obtain ⟨h0, h1, -⟩ := hs
      replace h0 : ρ (.tmp 11) = .int .i64 (1) := h0
      replace h1 : ρ (.tmp 6) = .bool (false) := h1
      go_simp
      exact ⟨Ext.refl _, rfl⟩
    · obtain ⟨h0, h1, -⟩ := hs
      replace h0 : ρ (.tmp 6) = .bool (false) := h0
      replace h1 : ρ (.tmp 12) = .bool (false) := h1
      go_simp
      exact ⟨Ext.refl _, rfl⟩
    · obtain ⟨h0, -⟩ := hs
      replace h0 : ρ (.tmp 13) = .bool (false) := h0
      go_simp
      refine (errorIf_any _ _ _).mono ?_; rintro e w' ⟨rfl, rfl⟩; exact ⟨_, rfl, Ext.refl _, rfl⟩
    · obtain ⟨h0, -⟩ := hs
      replace h0 : ρ (.tmp 1) = .pointer (some ⟨w.heap.size, 0, none⟩) := h0
      go_simp
      exact ⟨Ext.refl _, rfl⟩
    · obtain ⟨h0, -⟩ := hs
      replace h0 : ρ (.tmp 15) = .pointer (some ⟨w.heap.size, 1, none⟩) := h0
      have hc0 : W.cell? ⟨w.heap.size, 1, none⟩ = some (.int .i64 ((b : Int))) := hF.cell (by assumption)
      go_simp
      exact ⟨Ext.refl _, rfl⟩
    · obtain ⟨h0, -⟩ := hs
      replace h0 : ρ (.tmp 16) = .int .i64 ((b : Int)) := h0
      go_simp
      exact ⟨Ext.alloc _ _, ints_new _ [(b : Int)] _ (by simp)⟩
    · obtain ⟨h0, -⟩ := hs
      replace h0 : (Ints [(b : Int)]) (ρ (.tmp 17)) W := h0
      go_simp
      refine (rangeError_any _ _ _ _ _ h0).mono ?_; rintro e w' ⟨rfl, hx⟩; exact ⟨_, rfl, hx, rfl⟩
    · obtain ⟨h0, -⟩ := hs
      replace h0 : ρ (.tmp 1) = .pointer (some ⟨w.heap.size, 0, none⟩) := h0
      go_simp
      exact ⟨Ext.refl _, rfl⟩
    · obtain ⟨h0, -⟩ := hs
      replace h0 : ρ (.tmp 19) = .pointer (some ⟨w.heap.size, 1, none⟩) := h0
      have hc0 : W.cell? ⟨w.heap.size, 1, none⟩ = some (.int .i64 ((b : Int))) := hF.cell (by assumption)
      go_simp
      exact ⟨Ext.refl _, rfl⟩
    · obtain ⟨h0, -⟩ := hs
      replace h0 : ρ (.tmp 1) = .pointer (some ⟨w.heap.size, 0, none⟩) := h0
      go_simp
      exact ⟨Ext.refl _, rfl⟩
    · obtain ⟨h0, -⟩ := hs
      replace h0 : ρ (.tmp 21) = .pointer (some ⟨w.heap.size, 0, none⟩) := h0
      have hc0 : W.cell? ⟨w.heap.size, 0, none⟩ = some (.int .i64 ((a : Int))) := hF.cell (by assumption)
      go_simp
      exact ⟨Ext.refl _, rfl⟩
    · obtain ⟨h0, -⟩ := hs
      replace h0 : ρ (.tmp 22) = .int .i64 ((a : Int)) := h0
      go_simp
      exact ⟨Ext.alloc _ _, ints_new _ [(a : Int)] _ (by simp)⟩
    · obtain ⟨h0, h1, -⟩ := hs
      replace h0 : ρ (.tmp 20) = .int .i64 ((b : Int)) := h0
      replace h1 : (Ints [(a : Int)]) (ρ (.tmp 23)) W := h1
      go_simp
      refine (rangeError_any _ _ _ _ _ h1).mono ?_; rintro e w' ⟨rfl, hx⟩; exact ⟨_, rfl, hx, rfl⟩
    · obtain ⟨h0, h1, h2, -⟩ := hs
      replace h0 : ρ (.tmp 14) = .int .i64 (errIf (false) 3) := h0
      replace h1 : ρ (.tmp 18) = .int .i64 (rangeE (1) (100) [(b : Int)]) := h1
      replace h2 : ρ (.tmp 24) = .int .i64 (rangeE (0) ((b : Int)) [(a : Int)]) := h2
      go_simp
      exact ⟨Ext.alloc _ _, ints_new _ [errIf (false) 3, rangeE (1) (100) [(b : Int)], rangeE (0) ((b : Int)) [(a : Int)]] _ (by simp)⟩
    · obtain ⟨h0, -⟩ := hs
      replace h0 : (Ints [errIf (false) 3, rangeE (1) (100) [(b : Int)], rangeE (0) ((b : Int)) [(a : Int)]]) (ρ (.tmp 25)) W := h0
      go_simp
      refine (firstOf_any _ _ _ h0).mono ?_; rintro e w' ⟨rfl, rfl⟩; exact ⟨_, rfl, Ext.refl _, rfl⟩
    · obtain ⟨h0, -⟩ := hs
      replace h0 : ρ (.tmp 26) = .int .i64 (firstE [errIf (false) 3, rangeE (1) (100) [(b : Int)], rangeE (0) ((b : Int)) [(a : Int)]]) := h0
      go_simp
      exact ⟨Ext.refl _, rfl⟩
  · intro fv W hF hs
    obtain ⟨-, -, -, -, -, -, -, -, -, -, -, -, -, -, -, -, -, -, -, -, -, -, -, -, h2, -⟩ := hs
    replace h2 : fv 2 = .int .i64 (firstE [errIf (false) 3, rangeE (1) (100) [(b : Int)], rangeE (0) ((b : Int)) [(a : Int)]]) := h2
    simp only [fin, List.filterMap]
    go_simp
    go_wp2
    go_ret
    exact ⟨ret_int HR.out, E0.out.trans hF⟩
def smpF (a b c d : Nat) : Nat → Nat → Int × Int
  | 0, _ => (0, 12)
  | f + 1, n => if enB n a b c d then ((n : Int), 0) else smpF a b c d f (n + 1)
theorem smpF_step (a b c d : Nat) {n : Nat} (h : n ≤ 40) : smpF a b c d (41 - n) n = if enB n a b c d then ((n : Int), 0) else smpF a b c d (41 - (n + 1)) (n + 1) := by
  obtain ⟨f, hf⟩ : ∃ f, 41 - n = f + 1 := ⟨40 - n, by omega⟩
  rw [hf, smpF, show 41 - (n + 1) = f by omega]
set_option maxRecDepth 100000 in
set_option maxHeartbeats 1000000 in
theorem sampleFor_ok {a b c d : Nat} (h1 : FrOK a b) (h2 : FrOK c d) (w : World) :
    Calls Tryz.prog 21 #[.agg #[.int .i64 (a : Int), .int .i64 (b : Int)], .agg #[.int .i64 (c : Int), .int .i64 (d : Int)]] w fun e w' => e = .returned (.tuple #[.int .i64 (smpF a b c d 39 2).1, .int .i64 (smpF a b c d 39 2).2]) ∧ Ext w w' := by
  have HPa := Lib.hid (fun W => partError_ok h1 W)
  have HPc := Lib.hid (fun W => partError_ok h2 W)
  have HE := Lib.hid (fun n (h : 1 ≤ n ∧ n ≤ 40) W => isEnough_any n a b c d h h1.ab h1.b2 h2.ab h2.b2 W)
  clear h1 h2
  obtain ⟨W0, hW0⟩ : ∃ W0, W0 = (w.alloc (.cells #[.int .i64 (a : Int), .int .i64 (b : Int)] 62)).alloc (.cells #[.int .i64 (c : Int), .int .i64 (d : Int)] 62) := ⟨_, rfl⟩
  have K0 := Lib.hid (show Blk W0 (w.heap.size) 62 #[.int .i64 (a : Int), .int .i64 (b : Int)] by rw [hW0]; exact (Blk.new _ _ _).alloc _)
  have K1 := Lib.hid (show Blk W0 (w.heap.size + 1) 62 #[.int .i64 (c : Int), .int .i64 (d : Int)] by rw [hW0]; exact Blk.newAt _ _ _ (by simp))
  have E0 := Lib.hid (show Ext w W0 by rw [hW0]; exact (Ext.alloc _ _).trans (Ext.alloc _ _))
  have y0_0 : W0.cell? ⟨w.heap.size, 0, none⟩ = some (.int .i64 (a : Int)) := K0.out.cell 0
  have y0_1 : W0.cell? ⟨w.heap.size, 1, none⟩ = some (.int .i64 (b : Int)) := K0.out.cell 1
  have y1_0 : W0.cell? ⟨w.heap.size + 1, 0, none⟩ = some (.int .i64 (c : Int)) := K1.out.cell 0
  have y1_1 : W0.cell? ⟨w.heap.size + 1, 1, none⟩ = some (.int .i64 (d : Int)) := K1.out.cell 1
  go_enter Tryz.func21, Tryz.ntmps21
  go_wp2
  rw [← hW0]
  clear hW0
  go_wp2
  refine wp_region_each [some 8, some 9, some 10, some 11, some 12, some 13, some 6] [[2], [8], [3], [10], [9, 11], [12], [13]]
    [Is (.agg #[.int .i64 (a : Int), .int .i64 (b : Int)]), Is (.int .i64 (0)), Is (.agg #[.int .i64 (c : Int), .int .i64 (d : Int)]), Is (.int .i64 (0)), Ints [0, 0], Is (.int .i64 (firstE [0, 0])), Is (.int .i64 (firstE [0, 0]))]
    (by kernel_rfl) (by kernel_rfl) (by kernel_rfl) (by kernel_rfl) (by kernel_rfl) Ext (fun W => Ext W0 W)
    (fun W _ => Ext.refl W) (fun W W' h k => h.trans k) ?_ (Ext.drew _) ?_ ?_
  · repeat (refine ⟨fun _ _ _ _ k h => (by first | exact h | exact (IntsAt.ext h k)), ?_⟩)
    exact trivial
  · refine ⟨?_, ?_, ?_, ?_, ?_, ?_, ?_, trivial⟩
    all_goals intro ρ W ⟨kc, kg, kf⟩ hF hs
    · obtain ⟨h0, -⟩ := hs
      replace h0 : ρ (.tmp 2) = .pointer (some ⟨w.heap.size, 0, none⟩) := h0
      have hc0 : W.cell? ⟨w.heap.size, 0, none⟩ = some (.int .i64 ((a : Int))) := hF.cell (by assumption)
      have hc1 : W.cell? ⟨w.heap.size, 1, none⟩ = some (.int .i64 ((b : Int))) := hF.cell (by assumption)
      go_simp
      exact ⟨Ext.refl _, rfl⟩
    · obtain ⟨h0, -⟩ := hs
      replace h0 : ρ (.tmp 8) = .agg #[.int .i64 (a : Int), .int .i64 (b : Int)] := h0
      go_simp
      refine (HPa.out _).mono ?_; rintro e w' ⟨rfl, hx⟩; exact ⟨_, rfl, hx, rfl⟩
    · obtain ⟨h0, -⟩ := hs
      replace h0 : ρ (.tmp 3) = .pointer (some ⟨w.heap.size + 1, 0, none⟩) := h0
      have hc0 : W.cell? ⟨w.heap.size + 1, 0, none⟩ = some (.int .i64 ((c : Int))) := hF.cell (by assumption)
      have hc1 : W.cell? ⟨w.heap.size + 1, 1, none⟩ = some (.int .i64 ((d : Int))) := hF.cell (by assumption)
      go_simp
      exact ⟨Ext.refl _, rfl⟩
    · obtain ⟨h0, -⟩ := hs
      replace h0 : ρ (.tmp 10) = .agg #[.int .i64 (c : Int), .int .i64 (d : Int)] := h0
      go_simp
      refine (HPc.out _).mono ?_; rintro e w' ⟨rfl, hx⟩; exact ⟨_, rfl, hx, rfl⟩
    · obtain ⟨h0, h1, -⟩ := hs
      replace h0 : ρ (.tmp 9) = .int .i64 (0) := h0
      replace h1 : ρ (.tmp 11) = .int .i64 (0) := h1
      go_simp
      exact ⟨Ext.alloc _ _, ints_new _ [0, 0] _ (by simp)⟩
    · obtain ⟨h0, -⟩ := hs
      replace h0 : (Ints [0, 0]) (ρ (.tmp 12)) W := h0
      go_simp
      refine (firstOf_any _ _ _ h0).mono ?_; rintro e w' ⟨rfl, rfl⟩; exact ⟨_, rfl, Ext.refl _, rfl⟩
    · obtain ⟨h0, -⟩ := hs
      replace h0 : ρ (.tmp 13) = .int .i64 (firstE [0, 0]) := h0
      go_simp
      exact ⟨Ext.refl _, rfl⟩
  · intro fv W hF hs
    obtain ⟨-, -, -, -, -, -, h6, -⟩ := hs
    replace h6 : fv 6 = .int .i64 (firstE [0, 0]) := h6
    simp only [fin, List.filterMap]
    go_simp
    have hz : firstE [0, 0] = 0 := rfl
    rw [hz]
    replace K0 := Lib.hid (K0.out.ext hF)
    replace K1 := Lib.hid (K1.out.ext hF)
    have X := Lib.hid (E0.out.trans hF)
    clear hF hz y0_0 y0_1 y1_0 y1_1 E0
    go_wp2
    go_loopw [7] (fun i wr => ∃ k : Nat, 2 ≤ k ∧ k ≤ 41 ∧ i = .int .i64 (k : Int) ∧ smpF a b c d 39 2 = smpF a b c d (41 - k) k ∧ Ext w wr ∧ Blk wr w.heap.size 62 #[.int .i64 (a : Int), .int .i64 (b : Int)] ∧ Blk wr (w.heap.size + 1) 62 #[.int .i64 (c : Int), .int .i64 (d : Int)]) (fun i _ => 41 - (intOf i).toNat)
    case atStart => exact ⟨2, by omega, by omega, rfl, rfl, X.out, K0.out, K1.out⟩
    case round =>
      clear X K0 K1
      obtain ⟨k, hk2, hk, rfl, hr, hx, k0, k1⟩ := hrel
      have X := Lib.hid hx
      have K0 := Lib.hid k0
      have K1 := Lib.hid k1
      have R := Lib.hid hr
      clear hx k0 k1 hr
      have y0_0 : wr.cell? ⟨w.heap.size, 0, none⟩ = some (.int .i64 (a : Int)) := K0.out.cell 0
      have y0_1 : wr.cell? ⟨w.heap.size, 1, none⟩ = some (.int .i64 (b : Int)) := K0.out.cell 1
      have y1_0 : wr.cell? ⟨w.heap.size + 1, 0, none⟩ = some (.int .i64 (c : Int)) := K1.out.cell 0
      have y1_1 : wr.cell? ⟨w.heap.size + 1, 1, none⟩ = some (.int .i64 (d : Int)) := K1.out.cell 1
      by_cases hlt : k ≤ 40
      · have HC := Lib.hid (fun W => HE.out k (by omega) W)
        have R2 := Lib.hid (R.out.trans (smpF_step a b c d hlt))
        clear R
        cases hb : enB k a b c d with
        | true =>
          have R3 := Lib.hid (show smpF a b c d 39 2 = ((k : Int), 0) by rw [R2.out, hb]; rfl)
          rw [hb] at HC
          clear hb R2
          go_wp2_with (go_at_call 45; refine (HC.out _).mono ?_; rintro e W1 ⟨rfl, hx⟩; have X1 := Lib.hid (X.out.trans hx); clear hx)
          go_ret2
          exact ⟨ret_two (by rw [R3.out]) (by rw [R3.out]), X1.out⟩
        | false =>
          have R3 := Lib.hid (show smpF a b c d 39 2 = smpF a b c d (41 - (k + 1)) (k + 1) by rw [R2.out, hb]; rfl)
          rw [hb] at HC
          clear hb R2
          go_wp2_with (go_at_call 45; refine (HC.out _).mono ?_; rintro e W1 ⟨rfl, hx⟩; have X1 := Lib.hid (X.out.trans hx); replace K0 := Lib.hid (K0.out.ext hx); replace K1 := Lib.hid (K1.out.ext hx); clear hx)
          go_roundw
          case rel => exact ⟨k + 1, by omega, by omega, by go_num, R3.out, X1.out, K0.out, K1.out⟩
          case measure => simp [intOf]; omega
      · obtain rfl : k = 41 := by omega
        have R3 := Lib.hid (show smpF a b c d 39 2 = (0, 12) by rw [R.out]; rfl)
        go_wp2
        go_ret2
        exact ⟨ret_two (by rw [R3.out]) (by rw [R3.out]), X.out⟩

end Go.Proofs.YtjdilmmpdlcimaaGreat
