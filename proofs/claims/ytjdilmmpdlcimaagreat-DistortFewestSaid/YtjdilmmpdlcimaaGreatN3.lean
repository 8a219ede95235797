/- Naturals: doubts. -/
import Derived.Test.YtjdilmmpdlcimaaGreatN2
import Derived.Test.YtjdilmmpdlcimaaGreatP0
import Derived.Lib.MinMax
import Derived.Deep.DeepCutAuto

namespace Go.Proofs.YtjdilmmpdlcimaaGreat
open Go.RowKit Go.Shelf Go.Mem Go.RegInv
attribute [local go_sem] RelUpon_value RelUpon_skip RelUpon_enter BigFrame.eval_const BigFrame.eval_global BigFrame.eval_func


theorem factor_any (n a b f : Nat) (hn : 1 ≤ n ∧ n ≤ 40) (hab : a ≤ b) (hb : b ≤ 100) (hf : n * b - (n - 1) * a = f) (w : World) :
    Calls Tryz.prog 91 #[.int .i64 (n : Int), .agg #[.int .i64 (a : Int), .int .i64 (b : Int)]] w fun e w' => e = .returned (.int .i64 (f : Int)) ∧ Ext w w' := by
  have h1 : n * b ≤ 40 * 100 := Nat.mul_le_mul hn.2 hb
  have h2 : (n - 1) * a ≤ n * b := Nat.mul_le_mul (by omega) hab
  have e1 : ((n : Int) - 1) * (a : Int) = ((n - 1) * a : Nat) := by rw [Int.natCast_mul]; congr 1; omega
  have e2 : (n : Int) * (b : Int) = (n * b : Nat) := by rw [Int.natCast_mul]
  have hm : -10000 ≤ ((n : Int) - 1) * (a : Int) ∧ ((n : Int) - 1) * (a : Int) ≤ 10000 := by omega
  have hm2 : -10000 ≤ (n : Int) * (b : Int) ∧ (n : Int) * (b : Int) ≤ 10000 := by omega
  have HE := Lib.hid (show (n : Int) * (b : Int) - ((n : Int) - 1) * (a : Int) = (f : Int) by omega)
  clear h1 h2 e1 e2 hf
  obtain ⟨W0, hW0⟩ : ∃ W0, W0 = w.alloc (.cells #[.int .i64 (a : Int), .int .i64 (b : Int)] 62) := ⟨_, rfl⟩
  have K0 := Lib.hid (show Blk W0 (w.heap.size) 62 #[.int .i64 (a : Int), .int .i64 (b : Int)] by rw [hW0]; exact Blk.new _ _ _)
  have E0 := Lib.hid (show Ext w W0 by rw [hW0]; exact Ext.alloc _ _)
  have y0_0 : W0.cell? ⟨w.heap.size, 0, none⟩ = some (.int .i64 (a : Int)) := K0.out.cell 0
  have y0_1 : W0.cell? ⟨w.heap.size, 1, none⟩ = some (.int .i64 (b : Int)) := K0.out.cell 1
  go_enter Tryz.func91, Tryz.ntmps91
  go_upto_region 1 with (fail)
  rw [← hW0]
  clear hW0
  go_wp2
  go_ret
  exact ⟨ret_int HE.out, E0.out⟩
/-- What is missing from a confidence. -/
def douN (n a b : Nat) : Nat := a ^ (n - 1) * (n * b - (n - 1) * a)
set_option maxRecDepth 100000 in
set_option maxHeartbeats 1000000 in
theorem doubt_any (n a b : Nat) (hn : 1 ≤ n ∧ n ≤ 40) (hab : a ≤ b) (hb : b ≤ 100) (w : World) :
    Calls Tryz.prog 70 #[.int .i64 (n : Int), .agg #[.int .i64 (a : Int), .int .i64 (b : Int)]] w fun e w' => e = .returned (.agg #[.int .u32 (wd (douN n a b) 0 : Nat), .int .u32 (wd (douN n a b) 1 : Nat), .int .u32 (wd (douN n a b) 2 : Nat), .int .u32 (wd (douN n a b) 3 : Nat), .int .u32 (wd (douN n a b) 4 : Nat), .int .u32 (wd (douN n a b) 5 : Nat), .int .u32 (wd (douN n a b) 6 : Nat), .int .u32 (wd (douN n a b) 7 : Nat), .int .u32 (wd (douN n a b) 8 : Nat)]) ∧ Ext w w' := by
  unfold douN
  have HF := Lib.hid (fun W => factor_any n a b _ hn hab hb rfl W)
  have HP := Lib.hid (fun W => power_any a (n - 1) (by omega) (by omega) W)
  have HFB := Lib.hid (show n * b - (n - 1) * a ≤ 1000000000 by have : n * b ≤ 40 * 100 := Nat.mul_le_mul hn.2 hb; omega)
  generalize a ^ (n - 1) = P at *
  generalize n * b - (n - 1) * a = f at *
  generalize hm : n - 1 = m at *
  have HNM := Lib.hid (show (n : Int) = (m : Int) + 1 ∧ (m : Int) ≤ 40 by omega)
  clear hm hab hb hn
  obtain ⟨W0, hW0⟩ : ∃ W0, W0 = (w.alloc (.cells #[.int .i64 (a : Int), .int .i64 (b : Int)] 62)).alloc (.cells #[.int .u32 0, .int .u32 0, .int .u32 0, .int .u32 0, .int .u32 0, .int .u32 0, .int .u32 0, .int .u32 0, .int .u32 0] 119) := ⟨_, rfl⟩
  have K0 := Lib.hid (show Blk W0 (w.heap.size) 62 #[.int .i64 (a : Int), .int .i64 (b : Int)] by rw [hW0]; exact (Blk.new _ _ _).alloc _)
  have K1 := Lib.hid (show Blk W0 (w.heap.size + 1) 119 #[.int .u32 0, .int .u32 0, .int .u32 0, .int .u32 0, .int .u32 0, .int .u32 0, .int .u32 0, .int .u32 0, .int .u32 0] by rw [hW0]; exact Blk.newAt _ _ _ (by simp))
  have E0 := Lib.hid (show Ext w W0 by rw [hW0]; exact (Ext.alloc _ _).trans (Ext.alloc _ _))
  have y0_0 : W0.cell? ⟨w.heap.size, 0, none⟩ = some (.int .i64 (a : Int)) := K0.out.cell 0
  have y0_1 : W0.cell? ⟨w.heap.size, 1, none⟩ = some (.int .i64 (b : Int)) := K0.out.cell 1
  have y1_0 : W0.cell? ⟨w.heap.size + 1, 0, none⟩ = some (.int .u32 0) := K1.out.cell 0
  have y1_1 : W0.cell? ⟨w.heap.size + 1, 1, none⟩ = some (.int .u32 0) := K1.out.cell 1
  have y1_2 : W0.cell? ⟨w.heap.size + 1, 2, none⟩ = some (.int .u32 0) := K1.out.cell 2
  have y1_3 : W0.cell? ⟨w.heap.size + 1, 3, none⟩ = some (.int .u32 0) := K1.out.cell 3
  have y1_4 : W0.cell? ⟨w.heap.size + 1, 4, none⟩ = some (.int .u32 0) := K1.out.cell 4
  have y1_5 : W0.cell? ⟨w.heap.size + 1, 5, none⟩ = some (.int .u32 0) := K1.out.cell 5
  have y1_6 : W0.cell? ⟨w.heap.size + 1, 6, none⟩ = some (.int .u32 0) := K1.out.cell 6
  have y1_7 : W0.cell? ⟨w.heap.size + 1, 7, none⟩ = some (.int .u32 0) := K1.out.cell 7
  have y1_8 : W0.cell? ⟨w.heap.size + 1, 8, none⟩ = some (.int .u32 0) := K1.out.cell 8
  go_enter Tryz.func70, Tryz.ntmps70
  go_wp2
  rw [← hW0]
  clear hW0
  go_wp2
  refine wp_region_part 9 [some 5, some 6, some 7, some 8, some 9, some 10, some 11, some 12, some 13] [[3], [5], [0], [7], [6, 8], [0], [3], [10, 11], [9, 12]]
    [Is (.pointer (some ⟨w.heap.size, 0, none⟩)), Is (.int .i64 ((a : Int))), Is (.int .i64 ((n : Int))), Is (.int .i64 ((m : Int))), Is (.agg #[.int .u32 (wd (P) 0 : Nat), .int .u32 (wd (P) 1 : Nat), .int .u32 (wd (P) 2 : Nat), .int .u32 (wd (P) 3 : Nat), .int .u32 (wd (P) 4 : Nat), .int .u32 (wd (P) 5 : Nat), .int .u32 (wd (P) 6 : Nat), .int .u32 (wd (P) 7 : Nat), .int .u32 (wd (P) 8 : Nat)]), Is (.int .i64 ((n : Int))), Is (.agg #[.int .i64 (a : Int), .int .i64 (b : Int)]), Is (.int .i64 ((f : Int))), Is (.agg #[.int .u32 (wd (P * f) 0 : Nat), .int .u32 (wd (P * f) 1 : Nat), .int .u32 (wd (P * f) 2 : Nat), .int .u32 (wd (P * f) 3 : Nat), .int .u32 (wd (P * f) 4 : Nat), .int .u32 (wd (P * f) 5 : Nat), .int .u32 (wd (P * f) 6 : Nat), .int .u32 (wd (P * f) 7 : Nat), .int .u32 (wd (P * f) 8 : Nat)])]
    (by kernel_rfl) (by kernel_rfl) (by kernel_rfl) (by kernel_rfl) (by kernel_rfl) (by kernel_rfl) (by kernel_rfl) Ext (fun W => Ext W0 W)
    (fun W _ => Ext.refl W) (fun W W' h k => h.trans k) ?_ (Ext.drew _) ?_ ?_
  · repeat (refine ⟨fun _ _ _ _ k h => (by first | exact h | exact (IntsAt.ext h k)), ?_⟩)
    exact trivial
  · refine ⟨?_, ?_, ?_, ?_, ?_, ?_, ?_, ?_, ?_, trivial⟩
    all_goals intro ρ W ⟨kc, kg, kf⟩ hF hs
    · obtain ⟨h0, -⟩ := hs
      replace h0 : ρ (.tmp 3) = .pointer (some ⟨w.heap.size, 0, none⟩) := h0
      go_simp
      exact ⟨Ext.refl _, rfl⟩
    · obtain ⟨h0, -⟩ := hs
      replace h0 : ρ (.tmp 5) = .pointer (some ⟨w.heap.size, 0, none⟩) := h0
      have hc0 : W.cell? ⟨w.heap.size, 0, none⟩ = some (.int .i64 ((a : Int))) := hF.cell (by assumption)
      go_simp
      exact ⟨Ext.refl _, rfl⟩
    · obtain ⟨h0, -⟩ := hs
      replace h0 : ρ (.tmp 0) = .int .i64 ((n : Int)) := h0
      go_simp
      exact ⟨Ext.refl _, rfl⟩
    · obtain ⟨h0, -⟩ := hs
      replace h0 : ρ (.tmp 7) = .int .i64 ((n : Int)) := h0
      have hw : IntKind.i64.wrap ((n : Int) - 1) = (m : Int) := by have := HNM.out; rw [wrap_id _ (by omega) (by omega)]; omega
      go_simp
      exact ⟨Ext.refl _, rfl⟩
    · obtain ⟨h0, h1, -⟩ := hs
      replace h0 : ρ (.tmp 6) = .int .i64 ((a : Int)) := h0
      replace h1 : ρ (.tmp 8) = .int .i64 ((m : Int)) := h1
      go_simp
      refine (HP.out _).mono ?_; rintro e w' ⟨rfl, hx⟩; exact ⟨_, rfl, hx, rfl⟩
    · obtain ⟨h0, -⟩ := hs
      replace h0 : ρ (.tmp 0) = .int .i64 ((n : Int)) := h0
      go_simp
      exact ⟨Ext.refl _, rfl⟩
    · obtain ⟨h0, -⟩ := hs
      replace h0 : ρ (.tmp 3) = .pointer (some ⟨w.heap.size, 0, none⟩) := h0
      have hc0 : W.cell? ⟨w.heap.size, 0, none⟩ = some (.int .i64 ((a : Int))) := hF.cell (by assumption)
      have hc1 : W.cell? ⟨w.heap.size, 1, none⟩ = some (.int .i64 ((b : Int))) := hF.cell (by assumption)
      go_simp
      exact ⟨Ext.refl _, rfl⟩
    · obtain ⟨h0, h1, -⟩ := hs
      replace h0 : ρ (.tmp 10) = .int .i64 ((n : Int)) := h0
      replace h1 : ρ (.tmp 11) = .agg #[.int .i64 (a : Int), .int .i64 (b : Int)] := h1
      go_simp
      refine (HF.out _).mono ?_; rintro e w' ⟨rfl, hx⟩; exact ⟨_, rfl, hx, rfl⟩
    · obtain ⟨h0, h1, -⟩ := hs
      replace h0 : ρ (.tmp 9) = .agg #[.int .u32 (wd (P) 0 : Nat), .int .u32 (wd (P) 1 : Nat), .int .u32 (wd (P) 2 : Nat), .int .u32 (wd (P) 3 : Nat), .int .u32 (wd (P) 4 : Nat), .int .u32 (wd (P) 5 : Nat), .int .u32 (wd (P) 6 : Nat), .int .u32 (wd (P) 7 : Nat), .int .u32 (wd (P) 8 : Nat)] := h0
      replace h1 : ρ (.tmp 12) = .int .i64 ((f : Int)) := h1
      go_simp
      refine (times_any P f HFB.out _).mono ?_; rintro e w' ⟨rfl, hx⟩; exact ⟨_, rfl, hx, rfl⟩
  · intro fv W hF hs
    obtain ⟨-, -, -, -, -, -, -, -, h13, -⟩ := hs
    replace h13 : fv 13 = .agg #[.int .u32 (wd (P * f) 0 : Nat), .int .u32 (wd (P * f) 1 : Nat), .int .u32 (wd (P * f) 2 : Nat), .int .u32 (wd (P * f) 3 : Nat), .int .u32 (wd (P * f) 4 : Nat), .int .u32 (wd (P * f) 5 : Nat), .int .u32 (wd (P * f) 6 : Nat), .int .u32 (wd (P * f) 7 : Nat), .int .u32 (wd (P * f) 8 : Nat)] := h13
    simp only [fin, List.filterMap]
    go_simp
    replace K1 := Lib.hid (K1.out.ext hF)
    clear y1_0 y1_1 y1_2 y1_3 y1_4 y1_5 y1_6 y1_7 y1_8
    have u0 : W.cell? ⟨w.heap.size + 1, 0, none⟩ = some (.int .u32 0) := K1.out.cell 0
    have f0 := K1.out.free 0
    have u1 : W.cell? ⟨w.heap.size + 1, 1, none⟩ = some (.int .u32 0) := K1.out.cell 1
    have f1 := K1.out.free 1
    have u2 : W.cell? ⟨w.heap.size + 1, 2, none⟩ = some (.int .u32 0) := K1.out.cell 2
    have f2 := K1.out.free 2
    have u3 : W.cell? ⟨w.heap.size + 1, 3, none⟩ = some (.int .u32 0) := K1.out.cell 3
    have f3 := K1.out.free 3
    have u4 : W.cell? ⟨w.heap.size + 1, 4, none⟩ = some (.int .u32 0) := K1.out.cell 4
    have f4 := K1.out.free 4
    have u5 : W.cell? ⟨w.heap.size + 1, 5, none⟩ = some (.int .u32 0) := K1.out.cell 5
    have f5 := K1.out.free 5
    have u6 : W.cell? ⟨w.heap.size + 1, 6, none⟩ = some (.int .u32 0) := K1.out.cell 6
    have f6 := K1.out.free 6
    have u7 : W.cell? ⟨w.heap.size + 1, 7, none⟩ = some (.int .u32 0) := K1.out.cell 7
    have f7 := K1.out.free 7
    have u8 : W.cell? ⟨w.heap.size + 1, 8, none⟩ = some (.int .u32 0) := K1.out.cell 8
    have f8 := K1.out.free 8
    go_wp2
    exact bodyPost_ret (v := .agg #[.int .u32 (wd (P * f) 0 : Nat), .int .u32 (wd (P * f) 1 : Nat), .int .u32 (wd (P * f) 2 : Nat), .int .u32 (wd (P * f) 3 : Nat), .int .u32 (wd (P * f) 4 : Nat), .int .u32 (wd (P * f) 5 : Nat), .int .u32 (wd (P * f) 6 : Nat), .int .u32 (wd (P * f) 7 : Nat), .int .u32 (wd (P * f) 8 : Nat)]) (by simp [results, Tryz.f70, go_sem, u0, u1, u2, u3, u4, u5, u6, u7, u8]) rfl ⟨rfl, ext9 (E0.out.trans hF) (by omega) _ _ _ _ _ _ _ _ _⟩

theorem pow_bd {a k : Nat} (ha : a ≤ 100) (hk : k ≤ 40) : a ^ k ≤ 100 ^ 40 := Nat.le_trans (Nat.pow_le_pow_left ha k) (Nat.pow_le_pow_right (by decide) hk)
theorem small_bd {P f d : Nat} (hP : P ≤ 100 ^ 40) (hf : f ≤ 4000) (hd : d ≤ 100) : P * f * d < 4294967296 ^ 9 := by
  have h1 : P * f ≤ 100 ^ 40 * 4000 := Nat.mul_le_mul hP hf
  have h2 : P * f * d ≤ 100 ^ 40 * 4000 * 100 := Nat.mul_le_mul h1 hd
  have h3 : 100 ^ 40 * 4000 * 100 < 4294967296 ^ 9 := by decide
  omega
/-- Whether so many parts are enough. -/
def enB (n a b c d : Nat) : Bool := !decide (b ^ n * (d - c) < douN n a b * d)
set_option maxRecDepth 100000 in
set_option maxHeartbeats 1000000 in
theorem isEnough_any (n a b c d : Nat) (hn : 1 ≤ n ∧ n ≤ 40) (hab : a ≤ b) (hb : b ≤ 100) (hcd : c ≤ d) (hd : d ≤ 100) (w : World) :
    Calls Tryz.prog 45 #[.int .i64 (n : Int), .agg #[.int .i64 (a : Int), .int .i64 (b : Int)], .agg #[.int .i64 (c : Int), .int .i64 (d : Int)]] w fun e w' => e = .returned (.bool (enB n a b c d)) ∧ Ext w w' := by
  have HD := Lib.hid (fun W => doubt_any n a b hn hab hb W)
  have HB := Lib.hid (fun W => power_any b n (by omega) (by omega) W)
  have HD9 : Hid (douN n a b * d < 4294967296 ^ 9) := Lib.hid (by
    have h1 : n * b ≤ 40 * 100 := Nat.mul_le_mul hn.2 hb
    exact small_bd (pow_bd (by omega) (by omega)) (by omega) hd)
  have HB9 : Hid (b ^ n * (d - c) < 4294967296 ^ 9) := Lib.hid (by
    have := small_bd (P := b ^ n) (f := d - c) (d := 1) (pow_bd hb hn.2) (by omega) (by omega)
    rwa [Nat.mul_one] at this)
  have HE := Lib.hid (show enB n a b c d = !decide (b ^ n * (d - c) < douN n a b * d) from rfl)
  have HDB := Lib.hid (show d ≤ 1000000000 by omega)
  have HGB := Lib.hid (show d - c ≤ 1000000000 by omega)
  have HG := Lib.hid (show (d : Int) - (c : Int) = ((d - c : Nat) : Int) ∧ (d : Int) ≤ 100 ∧ (c : Int) ≤ 100 by omega)
  generalize enB n a b c d = en at *
  generalize douN n a b = D at *
  generalize b ^ n = B at *
  generalize d - c = g at *
  have hd := HDB.out
  clear hn hab hb hcd HDB
  obtain ⟨W0, hW0⟩ : ∃ W0, W0 = (w.alloc (.cells #[.int .i64 (a : Int), .int .i64 (b : Int)] 62)).alloc (.cells #[.int .i64 (c : Int), .int .i64 (d : Int)] 62) := ⟨_, rfl⟩
  have K0 := Lib.hid (show Blk W0 (w.heap.size) 62 #[.int .i64 (a : Int), .int .i64 (b : Int)] by rw [hW0]; exact (Blk.new _ _ _).alloc _)
  have K1 := Lib.hid (show Blk W0 (w.heap.size + 1) 62 #[.int .i64 (c : Int), .int .i64 (d : Int)] by rw [hW0]; exact Blk.newAt _ _ _ (by simp))
  have E0 := Lib.hid (show Ext w W0 by rw [hW0]; exact (Ext.alloc _ _).trans (Ext.alloc _ _))
  have y0_0 : W0.cell? ⟨w.heap.size, 0, none⟩ = some (.int .i64 (a : Int)) := K0.out.cell 0
  have y0_1 : W0.cell? ⟨w.heap.size, 1, none⟩ = some (.int .i64 (b : Int)) := K0.out.cell 1
  have y1_0 : W0.cell? ⟨w.heap.size + 1, 0, none⟩ = some (.int .i64 (c : Int)) := K1.out.cell 0
  have y1_1 : W0.cell? ⟨w.heap.size + 1, 1, none⟩ = some (.int .i64 (d : Int)) := K1.out.cell 1
  go_enter Tryz.func45, Tryz.ntmps45
  go_wp2
  rw [← hW0]
  clear hW0
  go_wp2
  refine wp_region_free [.op, .op, .op, .op, .op, .op, .new, .store] [7] [7, 13] [7] [some 8, some 9, some 10, some 11, some 12, some 13, some 7, none] [[0], [4], [8, 9], [5], [11], [10, 12], [], [7, 13]]
    [Is (.int .i64 ((n : Int))), Is (.agg #[.int .i64 (a : Int), .int .i64 (b : Int)]), Is (.agg #[.int .u32 (wd (D) 0 : Nat), .int .u32 (wd (D) 1 : Nat), .int .u32 (wd (D) 2 : Nat), .int .u32 (wd (D) 3 : Nat), .int .u32 (wd (D) 4 : Nat), .int .u32 (wd (D) 5 : Nat), .int .u32 (wd (D) 6 : Nat), .int .u32 (wd (D) 7 : Nat), .int .u32 (wd (D) 8 : Nat)]), Is (.pointer (some ⟨w.heap.size + 1, 1, none⟩)), Is (.int .i64 ((d : Int))), Is (.agg #[.int .u32 (wd (D * d) 0 : Nat), .int .u32 (wd (D * d) 1 : Nat), .int .u32 (wd (D * d) 2 : Nat), .int .u32 (wd (D * d) 3 : Nat), .int .u32 (wd (D * d) 4 : Nat), .int .u32 (wd (D * d) 5 : Nat), .int .u32 (wd (D * d) 6 : Nat), .int .u32 (wd (D * d) 7 : Nat), .int .u32 (wd (D * d) 8 : Nat)]), NewP W0.heap.size 119 #[.int .u32 0, .int .u32 0, .int .u32 0, .int .u32 0, .int .u32 0, .int .u32 0, .int .u32 0, .int .u32 0, .int .u32 0], fun _ _ => True]
    (by kernel_rfl) (by kernel_rfl) (by kernel_rfl) (by kernel_rfl) (by kernel_rfl) (by kernel_rfl) (by kernel_rfl) (by kernel_rfl) (by kernel_rfl) Ext (fun W => Ext W0 W)
    (fun W _ => Ext.refl W) (fun W W' h k => h.trans k) (fun W W' h => h.size) ?_ (Ext.drew _) ?_ ?_
  · repeat (refine ⟨fun _ _ _ _ k h => (by first | exact h | exact (by first | exact IntsAt.ext h k | exact NewP.ext h k)), ?_⟩)
    exact trivial
  · refine ⟨?_, ?_, ?_, ?_, ?_, ?_, ?_, trivial⟩
    · intro ρ W ⟨kc, kg, kf⟩ hF hs
      obtain ⟨h0, -⟩ := hs
      replace h0 : ρ (.tmp 0) = .int .i64 ((n : Int)) := h0
      go_simp
      exact ⟨Ext.refl _, rfl⟩
    · intro ρ W ⟨kc, kg, kf⟩ hF hs
      obtain ⟨h0, -⟩ := hs
      replace h0 : ρ (.tmp 4) = .pointer (some ⟨w.heap.size, 0, none⟩) := h0
      have hc0 : W.cell? ⟨w.heap.size, 0, none⟩ = some (.int .i64 ((a : Int))) := hF.cell (by assumption)
      have hc1 : W.cell? ⟨w.heap.size, 1, none⟩ = some (.int .i64 ((b : Int))) := hF.cell (by assumption)
      go_simp
      exact ⟨Ext.refl _, rfl⟩
    · intro ρ W ⟨kc, kg, kf⟩ hF hs
      obtain ⟨h0, h1, -⟩ := hs
      replace h0 : ρ (.tmp 8) = .int .i64 ((n : Int)) := h0
      replace h1 : ρ (.tmp 9) = .agg #[.int .i64 (a : Int), .int .i64 (b : Int)] := h1
      go_simp
      refine (HD.out _).mono ?_; rintro e w' ⟨rfl, hx⟩; exact ⟨_, rfl, hx, rfl⟩
    · intro ρ W ⟨kc, kg, kf⟩ hF hs
      obtain ⟨h0, -⟩ := hs
      replace h0 : ρ (.tmp 5) = .pointer (some ⟨w.heap.size + 1, 0, none⟩) := h0
      go_simp
      exact ⟨Ext.refl _, rfl⟩
    · intro ρ W ⟨kc, kg, kf⟩ hF hs
      obtain ⟨h0, -⟩ := hs
      replace h0 : ρ (.tmp 11) = .pointer (some ⟨w.heap.size + 1, 1, none⟩) := h0
      have hc0 : W.cell? ⟨w.heap.size + 1, 1, none⟩ = some (.int .i64 ((d : Int))) := hF.cell (by assumption)
      go_simp
      exact ⟨Ext.refl _, rfl⟩
    · intro ρ W ⟨kc, kg, kf⟩ hF hs
      obtain ⟨h0, h1, -⟩ := hs
      replace h0 : ρ (.tmp 10) = .agg #[.int .u32 (wd (D) 0 : Nat), .int .u32 (wd (D) 1 : Nat), .int .u32 (wd (D) 2 : Nat), .int .u32 (wd (D) 3 : Nat), .int .u32 (wd (D) 4 : Nat), .int .u32 (wd (D) 5 : Nat), .int .u32 (wd (D) 6 : Nat), .int .u32 (wd (D) 7 : Nat), .int .u32 (wd (D) 8 : Nat)] := h0
      replace h1 : ρ (.tmp 12) = .int .i64 ((d : Int)) := h1
      go_simp
      refine (times_any D d hd _).mono ?_; rintro e w' ⟨rfl, hx⟩; exact ⟨_, rfl, hx, rfl⟩
    · intro ρ W ⟨kc, kg, kf⟩ hF hs
      exact ⟨W.alloc (.cells #[.int .u32 0, .int .u32 0, .int .u32 0, .int .u32 0, .int .u32 0, .int .u32 0, .int .u32 0, .int .u32 0, .int .u32 0] 119), (by go_simp), by simp, Ext.alloc _ _, _, rfl, hF.size, Blk.new _ _ _⟩
  · intro fv U hF hs hap σ hσ ρ ⟨kc, kg, kf⟩ hr
    obtain ⟨-, -, -, -, -, h13, h7, -⟩ := hs
    replace h13 : fv 13 = .agg #[.int .u32 (wd (D * d) 0 : Nat), .int .u32 (wd (D * d) 1 : Nat), .int .u32 (wd (D * d) 2 : Nat), .int .u32 (wd (D * d) 3 : Nat), .int .u32 (wd (D * d) 4 : Nat), .int .u32 (wd (D * d) 5 : Nat), .int .u32 (wd (D * d) 6 : Nat), .int .u32 (wd (D * d) 7 : Nat), .int .u32 (wd (D * d) 8 : Nat)] := h13
    replace h7 : (NewP W0.heap.size 119 #[.int .u32 0, .int .u32 0, .int .u32 0, .int .u32 0, .int .u32 0, .int .u32 0, .int .u32 0, .int .u32 0, .int .u32 0]) (fv 7) U := h7
    obtain ⟨r0, r1, -⟩ := hr
    replace r0 : ρ (.tmp 7) = fv 7 := r0
    replace r1 : ρ (.tmp 13) = .agg #[.int .u32 (wd (D * d) 0 : Nat), .int .u32 (wd (D * d) 1 : Nat), .int .u32 (wd (D * d) 2 : Nat), .int .u32 (wd (D * d) 3 : Nat), .int .u32 (wd (D * d) 4 : Nat), .int .u32 (wd (D * d) 5 : Nat), .int .u32 (wd (D * d) 6 : Nat), .int .u32 (wd (D * d) 7 : Nat), .int .u32 (wd (D * d) 8 : Nat)] := r1.trans h13
    obtain ⟨q7, hq7, hqs7, hb7⟩ := h7
    rw [hq7] at r0
    have f7_0 := hb7.free 0
    have c7_0 : U.cell? ⟨q7, 0, none⟩ = some (.int .u32 0) := hb7.cell 0
    have f7_1 := hb7.free 1
    have c7_1 : U.cell? ⟨q7, 1, none⟩ = some (.int .u32 0) := hb7.cell 1
    have f7_2 := hb7.free 2
    have c7_2 : U.cell? ⟨q7, 2, none⟩ = some (.int .u32 0) := hb7.cell 2
    have f7_3 := hb7.free 3
    have c7_3 : U.cell? ⟨q7, 3, none⟩ = some (.int .u32 0) := hb7.cell 3
    have f7_4 := hb7.free 4
    have c7_4 : U.cell? ⟨q7, 4, none⟩ = some (.int .u32 0) := hb7.cell 4
    have f7_5 := hb7.free 5
    have c7_5 : U.cell? ⟨q7, 5, none⟩ = some (.int .u32 0) := hb7.cell 5
    have f7_6 := hb7.free 6
    have c7_6 : U.cell? ⟨q7, 6, none⟩ = some (.int .u32 0) := hb7.cell 6
    have f7_7 := hb7.free 7
    have c7_7 : U.cell? ⟨q7, 7, none⟩ = some (.int .u32 0) := hb7.cell 7
    have f7_8 := hb7.free 8
    have c7_8 : U.cell? ⟨q7, 8, none⟩ = some (.int .u32 0) := hb7.cell 8
    refine stores_one _ rfl hσ (((((((((U.setCell ⟨q7, 0, none⟩ (.int .u32 (wd (D * d) 0 : Nat))).setCell ⟨q7, 1, none⟩ (.int .u32 (wd (D * d) 1 : Nat))).setCell ⟨q7, 2, none⟩ (.int .u32 (wd (D * d) 2 : Nat))).setCell ⟨q7, 3, none⟩ (.int .u32 (wd (D * d) 3 : Nat))).setCell ⟨q7, 4, none⟩ (.int .u32 (wd (D * d) 4 : Nat))).setCell ⟨q7, 5, none⟩ (.int .u32 (wd (D * d) 5 : Nat))).setCell ⟨q7, 6, none⟩ (.int .u32 (wd (D * d) 6 : Nat))).setCell ⟨q7, 7, none⟩ (.int .u32 (wd (D * d) 7 : Nat))).setCell ⟨q7, 8, none⟩ (.int .u32 (wd (D * d) 8 : Nat))) (by go_simp) ?_
    obtain ⟨V, hV⟩ : ∃ Vx, Vx = ((((((((U.setCell ⟨q7, 0, none⟩ (.int .u32 (wd (D * d) 0 : Nat))).setCell ⟨q7, 1, none⟩ (.int .u32 (wd (D * d) 1 : Nat))).setCell ⟨q7, 2, none⟩ (.int .u32 (wd (D * d) 2 : Nat))).setCell ⟨q7, 3, none⟩ (.int .u32 (wd (D * d) 3 : Nat))).setCell ⟨q7, 4, none⟩ (.int .u32 (wd (D * d) 4 : Nat))).setCell ⟨q7, 5, none⟩ (.int .u32 (wd (D * d) 5 : Nat))).setCell ⟨q7, 6, none⟩ (.int .u32 (wd (D * d) 6 : Nat))).setCell ⟨q7, 7, none⟩ (.int .u32 (wd (D * d) 7 : Nat))).setCell ⟨q7, 8, none⟩ (.int .u32 (wd (D * d) 8 : Nat)) := ⟨_, rfl⟩
    rw [← hV]
    have K7 := Lib.hid (show Blk V q7 119 #[.int .u32 (wd (D * d) 0 : Nat), .int .u32 (wd (D * d) 1 : Nat), .int .u32 (wd (D * d) 2 : Nat), .int .u32 (wd (D * d) 3 : Nat), .int .u32 (wd (D * d) 4 : Nat), .int .u32 (wd (D * d) 5 : Nat), .int .u32 (wd (D * d) 6 : Nat), .int .u32 (wd (D * d) 7 : Nat), .int .u32 (wd (D * d) 8 : Nat)] by rw [hV]; exact blk9_same hb7 _ _ _ _ _ _ _ _ _)
    have XN := Lib.hid (show Ext W0 V by rw [hV]; exact ext9 hF hqs7 _ _ _ _ _ _ _ _ _)
    have L7 := Lib.hid hqs7
    clear f7_0 c7_0 f7_1 c7_1 f7_2 c7_2 f7_3 c7_3 f7_4 c7_4 f7_5 c7_5 f7_6 c7_6 f7_7 c7_7 f7_8 c7_8
    clear hV hF hap hσ r0 r1 kc kg kf hb7 hqs7
    simp only [fin, List.filterMap]
    go_simp
    try rw [hq7]
    clear hq7
    clear ρ σ h13
    have X := Lib.hid (E0.out.trans XN.out)
    replace K0 := Lib.hid (K0.out.ext XN.out)
    replace K1 := Lib.hid (K1.out.ext XN.out)
    clear XN y0_0 y0_1 y1_0 y1_1 E0
    have y0_1 : V.cell? ⟨w.heap.size, 1, none⟩ = some (.int .i64 (b : Int)) := K0.out.cell 1
    have y1_0 : V.cell? ⟨w.heap.size + 1, 0, none⟩ = some (.int .i64 (c : Int)) := K1.out.cell 0
    have y1_1 : V.cell? ⟨w.heap.size + 1, 1, none⟩ = some (.int .i64 (d : Int)) := K1.out.cell 1
    have u0 : V.cell? ⟨q7, 0, none⟩ = some (.int .u32 (wd (D * d) 0 : Nat)) := K7.out.cell 0
    have u1 : V.cell? ⟨q7, 1, none⟩ = some (.int .u32 (wd (D * d) 1 : Nat)) := K7.out.cell 1
    have u2 : V.cell? ⟨q7, 2, none⟩ = some (.int .u32 (wd (D * d) 2 : Nat)) := K7.out.cell 2
    have u3 : V.cell? ⟨q7, 3, none⟩ = some (.int .u32 (wd (D * d) 3 : Nat)) := K7.out.cell 3
    have u4 : V.cell? ⟨q7, 4, none⟩ = some (.int .u32 (wd (D * d) 4 : Nat)) := K7.out.cell 4
    have u5 : V.cell? ⟨q7, 5, none⟩ = some (.int .u32 (wd (D * d) 5 : Nat)) := K7.out.cell 5
    have u6 : V.cell? ⟨q7, 6, none⟩ = some (.int .u32 (wd (D * d) 6 : Nat)) := K7.out.cell 6
    have u7 : V.cell? ⟨q7, 7, none⟩ = some (.int .u32 (wd (D * d) 7 : Nat)) := K7.out.cell 7
    have u8 : V.cell? ⟨q7, 8, none⟩ = some (.int .u32 (wd (D * d) 8 : Nat)) := K7.out.cell 8
    go_upto_region 2 with (fail)
    refine wp_region_each [some 14, some 15, some 16, some 17, some 18, some 19, some 20, some 21, some 22, some 23, some 24, some 25, some 26, some 6] [[7], [4], [15], [0], [16, 17], [5], [19], [5], [21], [20, 22], [18, 23], [14, 24], [25], [26]]
      [Is (.agg #[.int .u32 (wd (D * d) 0 : Nat), .int .u32 (wd (D * d) 1 : Nat), .int .u32 (wd (D * d) 2 : Nat), .int .u32 (wd (D * d) 3 : Nat), .int .u32 (wd (D * d) 4 : Nat), .int .u32 (wd (D * d) 5 : Nat), .int .u32 (wd (D * d) 6 : Nat), .int .u32 (wd (D * d) 7 : Nat), .int .u32 (wd (D * d) 8 : Nat)]), Is (.pointer (some ⟨w.heap.size, 1, none⟩)), Is (.int .i64 ((b : Int))), Is (.int .i64 ((n : Int))), Is (.agg #[.int .u32 (wd (B) 0 : Nat), .int .u32 (wd (B) 1 : Nat), .int .u32 (wd (B) 2 : Nat), .int .u32 (wd (B) 3 : Nat), .int .u32 (wd (B) 4 : Nat), .int .u32 (wd (B) 5 : Nat), .int .u32 (wd (B) 6 : Nat), .int .u32 (wd (B) 7 : Nat), .int .u32 (wd (B) 8 : Nat)]), Is (.pointer (some ⟨w.heap.size + 1, 1, none⟩)), Is (.int .i64 ((d : Int))), Is (.pointer (some ⟨w.heap.size + 1, 0, none⟩)), Is (.int .i64 ((c : Int))), Is (.int .i64 ((g : Int))), Is (.agg #[.int .u32 (wd (B * g) 0 : Nat), .int .u32 (wd (B * g) 1 : Nat), .int .u32 (wd (B * g) 2 : Nat), .int .u32 (wd (B * g) 3 : Nat), .int .u32 (wd (B * g) 4 : Nat), .int .u32 (wd (B * g) 5 : Nat), .int .u32 (wd (B * g) 6 : Nat), .int .u32 (wd (B * g) 7 : Nat), .int .u32 (wd (B * g) 8 : Nat)]), Is (.bool (decide (B * g < D * d))), Is (.bool (!decide (B * g < D * d))), Is (.bool (!decide (B * g < D * d)))]
      (by kernel_rfl) (by kernel_rfl) (by kernel_rfl) (by kernel_rfl) (by kernel_rfl) Ext (fun W => Ext V W)
      (fun W _ => Ext.refl W) (fun W W' h k => h.trans k) ?_ (Ext.drew _) ?_ ?_
    · repeat (refine ⟨fun _ _ _ _ k h => (by first | exact h | exact (IntsAt.ext h k)), ?_⟩)
      exact trivial
    · refine ⟨?_, ?_, ?_, ?_, ?_, ?_, ?_, ?_, ?_, ?_, ?_, ?_, ?_, ?_, trivial⟩
      all_goals intro ρ W ⟨kc, kg, kf⟩ hF hs
      · obtain ⟨h0, -⟩ := hs
        replace h0 : ρ (.tmp 7) = .pointer (some ⟨q7, 0, none⟩) := h0
        have hc0 : W.cell? ⟨q7, 0, none⟩ = some (.int .u32 (wd (D * d) 0 : Nat)) := hF.cell (by assumption)
        have hc1 : W.cell? ⟨q7, 1, none⟩ = some (.int .u32 (wd (D * d) 1 : Nat)) := hF.cell (by assumption)
        have hc2 : W.cell? ⟨q7, 2, none⟩ = some (.int .u32 (wd (D * d) 2 : Nat)) := hF.cell (by assumption)
        have hc3 : W.cell? ⟨q7, 3, none⟩ = some (.int .u32 (wd (D * d) 3 : Nat)) := hF.cell (by assumption)
        have hc4 : W.cell? ⟨q7, 4, none⟩ = some (.int .u32 (wd (D * d) 4 : Nat)) := hF.cell (by assumption)
        have hc5 : W.cell? ⟨q7, 5, none⟩ = some (.int .u32 (wd (D * d) 5 : Nat)) := hF.cell (by assumption)
        have hc6 : W.cell? ⟨q7, 6, none⟩ = some (.int .u32 (wd (D * d) 6 : Nat)) := hF.cell (by assumption)
        have hc7 : W.cell? ⟨q7, 7, none⟩ = some (.int .u32 (wd (D * d) 7 : Nat)) := hF.cell (by assumption)
        have hc8 : W.cell? ⟨q7, 8, none⟩ = some (.int .u32 (wd (D * d) 8 : Nat)) := hF.cell (by assumption)
        go_simp
        exact ⟨Ext.refl _, rfl⟩
      · obtain ⟨h0, -⟩ := hs
        replace h0 : ρ (.tmp 4) = .pointer (some ⟨w.heap.size, 0, none⟩) := h0
        go_simp
        exact ⟨Ext.refl _, rfl⟩
      · obtain ⟨h0, -⟩ := hs
        replace h0 : ρ (.tmp 15) = .pointer (some ⟨w.heap.size, 1, none⟩) := h0
        have hc0 : W.cell? ⟨w.heap.size, 1, none⟩ = some (.int .i64 ((b : Int))) := hF.cell (by assumption)
        go_simp
        exact ⟨Ext.refl _, rfl⟩
      · obtain ⟨h0, -⟩ := hs
        replace h0 : ρ (.tmp 0) = .int .i64 ((n : Int)) := h0
        go_simp
        exact ⟨Ext.refl _, rfl⟩
      · obtain ⟨h0, h1, -⟩ := hs
        replace h0 : ρ (.tmp 16) = .int .i64 ((b : Int)) := h0
        replace h1 : ρ (.tmp 17) = .int .i64 ((n : Int)) := h1
        go_simp
        refine (HB.out _).mono ?_; rintro e w' ⟨rfl, hx⟩; exact ⟨_, rfl, hx, rfl⟩
      · obtain ⟨h0, -⟩ := hs
        replace h0 : ρ (.tmp 5) = .pointer (some ⟨w.heap.size + 1, 0, none⟩) := h0
        go_simp
        exact ⟨Ext.refl _, rfl⟩
      · obtain ⟨h0, -⟩ := hs
        replace h0 : ρ (.tmp 19) = .pointer (some ⟨w.heap.size + 1, 1, none⟩) := h0
        have hc0 : W.cell? ⟨w.heap.size + 1, 1, none⟩ = some (.int .i64 ((d : Int))) := hF.cell (by assumption)
        go_simp
        exact ⟨Ext.refl _, rfl⟩
      · obtain ⟨h0, -⟩ := hs
        replace h0 : ρ (.tmp 5) = .pointer (some ⟨w.heap.size + 1, 0, none⟩) := h0
        go_simp
        exact ⟨Ext.refl _, rfl⟩
      · obtain ⟨h0, -⟩ := hs
        replace h0 : ρ (.tmp 21) = .pointer (some ⟨w.heap.size + 1, 0, none⟩) := h0
        have hc0 : W.cell? ⟨w.heap.size + 1, 0, none⟩ = some (.int .i64 ((c : Int))) := hF.cell (by assumption)
        go_simp
        exact ⟨Ext.refl _, rfl⟩
      · obtain ⟨h0, h1, -⟩ := hs
        replace h0 : ρ (.tmp 20) = .int .i64 ((d : Int)) := h0
        replace h1 : ρ (.tmp 22) = .int .i64 ((c : Int)) := h1
        have hw : IntKind.i64.wrap ((d : Int) - (c : Int)) = (g : Int) := by have := HG.out; rw [wrap_id _ (by omega) (by omega)]; omega
        go_simp
        exact ⟨Ext.refl _, rfl⟩
      · obtain ⟨h0, h1, -⟩ := hs
        replace h0 : ρ (.tmp 18) = .agg #[.int .u32 (wd (B) 0 : Nat), .int .u32 (wd (B) 1 : Nat), .int .u32 (wd (B) 2 : Nat), .int .u32 (wd (B) 3 : Nat), .int .u32 (wd (B) 4 : Nat), .int .u32 (wd (B) 5 : Nat), .int .u32 (wd (B) 6 : Nat), .int .u32 (wd (B) 7 : Nat), .int .u32 (wd (B) 8 : Nat)] := h0
        replace h1 : ρ (.tmp 23) = .int .i64 ((g : Int)) := h1
        go_simp
        refine (times_any B g HGB.out _).mono ?_; rintro e w' ⟨rfl, hx⟩; exact ⟨_, rfl, hx, rfl⟩
      · obtain ⟨h0, h1, -⟩ := hs
        replace h0 : ρ (.tmp 14) = .agg #[.int .u32 (wd (D * d) 0 : Nat), .int .u32 (wd (D * d) 1 : Nat), .int .u32 (wd (D * d) 2 : Nat), .int .u32 (wd (D * d) 3 : Nat), .int .u32 (wd (D * d) 4 : Nat), .int .u32 (wd (D * d) 5 : Nat), .int .u32 (wd (D * d) 6 : Nat), .int .u32 (wd (D * d) 7 : Nat), .int .u32 (wd (D * d) 8 : Nat)] := h0
        replace h1 : ρ (.tmp 24) = .agg #[.int .u32 (wd (B * g) 0 : Nat), .int .u32 (wd (B * g) 1 : Nat), .int .u32 (wd (B * g) 2 : Nat), .int .u32 (wd (B * g) 3 : Nat), .int .u32 (wd (B * g) 4 : Nat), .int .u32 (wd (B * g) 5 : Nat), .int .u32 (wd (B * g) 6 : Nat), .int .u32 (wd (B * g) 7 : Nat), .int .u32 (wd (B * g) 8 : Nat)] := h1
        go_simp
        refine (exceeds_any HD9.out HB9.out _).mono ?_; rintro e w' ⟨rfl, hx⟩; exact ⟨_, rfl, hx, rfl⟩
      · obtain ⟨h0, -⟩ := hs
        replace h0 : ρ (.tmp 25) = .bool (decide (B * g < D * d)) := h0
        go_simp
        exact ⟨Ext.refl _, rfl⟩
      · obtain ⟨h0, -⟩ := hs
        replace h0 : ρ (.tmp 26) = .bool (!decide (B * g < D * d)) := h0
        go_simp
        exact ⟨Ext.refl _, rfl⟩
    · intro fv W hF hs
      obtain ⟨-, -, -, -, -, -, -, -, -, -, -, -, -, h6, -⟩ := hs
      replace h6 : fv 6 = .bool (!decide (B * g < D * d)) := h6
      simp only [fin, List.filterMap]
      go_simp
      go_wp2
      go_ret
      exact ⟨ret_bool HE.out.symm, X.out.trans hF⟩

end Go.Proofs.YtjdilmmpdlcimaaGreat
