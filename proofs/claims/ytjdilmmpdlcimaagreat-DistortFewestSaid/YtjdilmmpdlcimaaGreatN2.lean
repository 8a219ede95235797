/- Naturals: powers and comparing. -/
import Derived.Test.YtjdilmmpdlcimaaGreatN1
import Derived.Lib.MinMax
import Derived.Deep.DeepCutAuto

namespace Go.Proofs.YtjdilmmpdlcimaaGreat
open Go.RowKit Go.Shelf Go.Mem Go.RegInv
attribute [local go_sem] RelUpon_value RelUpon_skip RelUpon_enter BigFrame.eval_const BigFrame.eval_global BigFrame.eval_func


theorem blk9_same {W : World} {q T : Nat} {a0 a1 a2 a3 a4 a5 a6 a7 a8 : Value} (h : Blk W q T #[a0, a1, a2, a3, a4, a5, a6, a7, a8]) (b0 b1 b2 b3 b4 b5 b6 b7 b8 : Value) : Blk (((((((((W.setCell ⟨q, 0, none⟩ b0).setCell ⟨q, 1, none⟩ b1).setCell ⟨q, 2, none⟩ b2).setCell ⟨q, 3, none⟩ b3).setCell ⟨q, 4, none⟩ b4).setCell ⟨q, 5, none⟩ b5).setCell ⟨q, 6, none⟩ b6).setCell ⟨q, 7, none⟩ b7).setCell ⟨q, 8, none⟩ b8) q T #[b0, b1, b2, b3, b4, b5, b6, b7, b8] := by
  have h0 : Blk (W.setCell ⟨q, 0, none⟩ b0) q T #[b0, a1, a2, a3, a4, a5, a6, a7, a8] := h.setSame 0 b0
  have h1 : Blk ((W.setCell ⟨q, 0, none⟩ b0).setCell ⟨q, 1, none⟩ b1) q T #[b0, b1, a2, a3, a4, a5, a6, a7, a8] := h0.setSame 1 b1
  have h2 : Blk (((W.setCell ⟨q, 0, none⟩ b0).setCell ⟨q, 1, none⟩ b1).setCell ⟨q, 2, none⟩ b2) q T #[b0, b1, b2, a3, a4, a5, a6, a7, a8] := h1.setSame 2 b2
  have h3 : Blk ((((W.setCell ⟨q, 0, none⟩ b0).setCell ⟨q, 1, none⟩ b1).setCell ⟨q, 2, none⟩ b2).setCell ⟨q, 3, none⟩ b3) q T #[b0, b1, b2, b3, a4, a5, a6, a7, a8] := h2.setSame 3 b3
  have h4 : Blk (((((W.setCell ⟨q, 0, none⟩ b0).setCell ⟨q, 1, none⟩ b1).setCell ⟨q, 2, none⟩ b2).setCell ⟨q, 3, none⟩ b3).setCell ⟨q, 4, none⟩ b4) q T #[b0, b1, b2, b3, b4, a5, a6, a7, a8] := h3.setSame 4 b4
  have h5 : Blk ((((((W.setCell ⟨q, 0, none⟩ b0).setCell ⟨q, 1, none⟩ b1).setCell ⟨q, 2, none⟩ b2).setCell ⟨q, 3, none⟩ b3).setCell ⟨q, 4, none⟩ b4).setCell ⟨q, 5, none⟩ b5) q T #[b0, b1, b2, b3, b4, b5, a6, a7, a8] := h4.setSame 5 b5
  have h6 : Blk (((((((W.setCell ⟨q, 0, none⟩ b0).setCell ⟨q, 1, none⟩ b1).setCell ⟨q, 2, none⟩ b2).setCell ⟨q, 3, none⟩ b3).setCell ⟨q, 4, none⟩ b4).setCell ⟨q, 5, none⟩ b5).setCell ⟨q, 6, none⟩ b6) q T #[b0, b1, b2, b3, b4, b5, b6, a7, a8] := h5.setSame 6 b6
  have h7 : Blk ((((((((W.setCell ⟨q, 0, none⟩ b0).setCell ⟨q, 1, none⟩ b1).setCell ⟨q, 2, none⟩ b2).setCell ⟨q, 3, none⟩ b3).setCell ⟨q, 4, none⟩ b4).setCell ⟨q, 5, none⟩ b5).setCell ⟨q, 6, none⟩ b6).setCell ⟨q, 7, none⟩ b7) q T #[b0, b1, b2, b3, b4, b5, b6, b7, a8] := h6.setSame 7 b7
  have h8 : Blk (((((((((W.setCell ⟨q, 0, none⟩ b0).setCell ⟨q, 1, none⟩ b1).setCell ⟨q, 2, none⟩ b2).setCell ⟨q, 3, none⟩ b3).setCell ⟨q, 4, none⟩ b4).setCell ⟨q, 5, none⟩ b5).setCell ⟨q, 6, none⟩ b6).setCell ⟨q, 7, none⟩ b7).setCell ⟨q, 8, none⟩ b8) q T #[b0, b1, b2, b3, b4, b5, b6, b7, b8] := h7.setSame 8 b8
  exact h8
theorem blk9_other {W : World} {g q T : Nat} {cs : Array Value} (h : Blk W g T cs) (hne : g ≠ q) (b0 b1 b2 b3 b4 b5 b6 b7 b8 : Value) : Blk (((((((((W.setCell ⟨q, 0, none⟩ b0).setCell ⟨q, 1, none⟩ b1).setCell ⟨q, 2, none⟩ b2).setCell ⟨q, 3, none⟩ b3).setCell ⟨q, 4, none⟩ b4).setCell ⟨q, 5, none⟩ b5).setCell ⟨q, 6, none⟩ b6).setCell ⟨q, 7, none⟩ b7).setCell ⟨q, 8, none⟩ b8) g T cs := ((((((((h.setOther hne b0).setOther hne b1).setOther hne b2).setOther hne b3).setOther hne b4).setOther hne b5).setOther hne b6).setOther hne b7).setOther hne b8
theorem ext9 {W0 W : World} {q : Nat} (h : Ext W0 W) (hq : W0.heap.size ≤ q) (b0 b1 b2 b3 b4 b5 b6 b7 b8 : Value) : Ext W0 (((((((((W.setCell ⟨q, 0, none⟩ b0).setCell ⟨q, 1, none⟩ b1).setCell ⟨q, 2, none⟩ b2).setCell ⟨q, 3, none⟩ b3).setCell ⟨q, 4, none⟩ b4).setCell ⟨q, 5, none⟩ b5).setCell ⟨q, 6, none⟩ b6).setCell ⟨q, 7, none⟩ b7).setCell ⟨q, 8, none⟩ b8) := Ext.set (Ext.set (Ext.set (Ext.set (Ext.set (Ext.set (Ext.set (Ext.set (Ext.set h hq b0) hq b1) hq b2) hq b3) hq b4) hq b5) hq b6) hq b7) hq b8

theorem natA_one : ((#[.int .u32 0, .int .u32 0, .int .u32 0, .int .u32 0, .int .u32 0, .int .u32 0, .int .u32 0, .int .u32 0, .int .u32 1] : Array Value)) = #[.int .u32 (wd (1) 0 : Nat), .int .u32 (wd (1) 1 : Nat), .int .u32 (wd (1) 2 : Nat), .int .u32 (wd (1) 3 : Nat), .int .u32 (wd (1) 4 : Nat), .int .u32 (wd (1) 5 : Nat), .int .u32 (wd (1) 6 : Nat), .int .u32 (wd (1) 7 : Nat), .int .u32 (wd (1) 8 : Nat)] := by
  have h : ∀ i, i < 8 → wd 1 i = 0 := by
    intro i hi
    unfold wd
    rw [Nat.div_eq_of_lt (Nat.one_lt_pow (by omega) (by decide))]
  rw [h 0 (by decide), h 1 (by decide), h 2 (by decide), h 3 (by decide), h 4 (by decide), h 5 (by decide), h 6 (by decide), h 7 (by decide)]
  rfl
set_option maxRecDepth 100000 in
set_option maxHeartbeats 1000000 in
theorem power_any (b m : Nat) (hb : b ≤ 1000000000) (hm : m ≤ 1000) (w : World) :
    Calls Tryz.prog 73 #[.int .i64 (b : Int), .int .i64 (m : Int)] w fun e w' => e = .returned (.agg #[.int .u32 (wd (b ^ m) 0 : Nat), .int .u32 (wd (b ^ m) 1 : Nat), .int .u32 (wd (b ^ m) 2 : Nat), .int .u32 (wd (b ^ m) 3 : Nat), .int .u32 (wd (b ^ m) 4 : Nat), .int .u32 (wd (b ^ m) 5 : Nat), .int .u32 (wd (b ^ m) 6 : Nat), .int .u32 (wd (b ^ m) 7 : Nat), .int .u32 (wd (b ^ m) 8 : Nat)]) ∧ Ext w w' := by
  obtain ⟨W0, hW0⟩ : ∃ W0, W0 = (w.alloc (.cells #[.int .u32 0, .int .u32 0, .int .u32 0, .int .u32 0, .int .u32 0, .int .u32 0, .int .u32 0, .int .u32 0, .int .u32 0] 119)).alloc (.cells #[.int .u32 0, .int .u32 0, .int .u32 0, .int .u32 0, .int .u32 0, .int .u32 0, .int .u32 0, .int .u32 0, .int .u32 1] 119) := ⟨_, rfl⟩
  have K0 := Lib.hid (show Blk W0 w.heap.size 119 #[.int .u32 0, .int .u32 0, .int .u32 0, .int .u32 0, .int .u32 0, .int .u32 0, .int .u32 0, .int .u32 0, .int .u32 0] by rw [hW0]; exact (Blk.new _ _ _).alloc _)
  have K1 := Lib.hid (show Blk W0 (w.heap.size + 1) 119 #[.int .u32 (wd (b ^ 0) 0 : Nat), .int .u32 (wd (b ^ 0) 1 : Nat), .int .u32 (wd (b ^ 0) 2 : Nat), .int .u32 (wd (b ^ 0) 3 : Nat), .int .u32 (wd (b ^ 0) 4 : Nat), .int .u32 (wd (b ^ 0) 5 : Nat), .int .u32 (wd (b ^ 0) 6 : Nat), .int .u32 (wd (b ^ 0) 7 : Nat), .int .u32 (wd (b ^ 0) 8 : Nat)] by rw [hW0, natA_one, Nat.pow_zero]; exact Blk.newAt _ _ _ (by simp))
  have E0 := Lib.hid (show Ext w W0 by rw [hW0]; exact (Ext.alloc _ _).trans (Ext.alloc _ _))
  go_enter Tryz.func73, Tryz.ntmps73
  go_upto_region 2 with (fail)
  rw [← hW0]
  clear hW0
  go_wp2
  go_loopw [8] (fun i wr => ∃ k : Nat, k ≤ m ∧ i = .int .i64 (k : Int) ∧ Ext w wr ∧ Blk wr w.heap.size 119 #[.int .u32 0, .int .u32 0, .int .u32 0, .int .u32 0, .int .u32 0, .int .u32 0, .int .u32 0, .int .u32 0, .int .u32 0] ∧ Blk wr (w.heap.size + 1) 119 #[.int .u32 (wd (b ^ k) 0 : Nat), .int .u32 (wd (b ^ k) 1 : Nat), .int .u32 (wd (b ^ k) 2 : Nat), .int .u32 (wd (b ^ k) 3 : Nat), .int .u32 (wd (b ^ k) 4 : Nat), .int .u32 (wd (b ^ k) 5 : Nat), .int .u32 (wd (b ^ k) 6 : Nat), .int .u32 (wd (b ^ k) 7 : Nat), .int .u32 (wd (b ^ k) 8 : Nat)]) (fun i _ => m - (intOf i).toNat)
  case atStart => exact ⟨0, by omega, rfl, E0.out, K0.out, K1.out⟩
  case round =>
    clear E0 K0 K1
    obtain ⟨k, hk, rfl, hx, k0, k1⟩ := hrel
    have X := Lib.hid hx
    have K0 := Lib.hid k0
    have K1 := Lib.hid k1
    clear hx k0 k1
    by_cases hlt : k < m
    · have hki : (k : Int) < (m : Int) := by omega
      have HT := Lib.hid (fun W => times_any (b ^ k) b hb W)
      rw [← Nat.pow_succ] at HT
      have y0 : wr.cell? ⟨w.heap.size + 1, 0, none⟩ = some (.int .u32 (wd (b ^ k) 0 : Nat)) := K1.out.cell 0
      have y1 : wr.cell? ⟨w.heap.size + 1, 1, none⟩ = some (.int .u32 (wd (b ^ k) 1 : Nat)) := K1.out.cell 1
      have y2 : wr.cell? ⟨w.heap.size + 1, 2, none⟩ = some (.int .u32 (wd (b ^ k) 2 : Nat)) := K1.out.cell 2
      have y3 : wr.cell? ⟨w.heap.size + 1, 3, none⟩ = some (.int .u32 (wd (b ^ k) 3 : Nat)) := K1.out.cell 3
      have y4 : wr.cell? ⟨w.heap.size + 1, 4, none⟩ = some (.int .u32 (wd (b ^ k) 4 : Nat)) := K1.out.cell 4
      have y5 : wr.cell? ⟨w.heap.size + 1, 5, none⟩ = some (.int .u32 (wd (b ^ k) 5 : Nat)) := K1.out.cell 5
      have y6 : wr.cell? ⟨w.heap.size + 1, 6, none⟩ = some (.int .u32 (wd (b ^ k) 6 : Nat)) := K1.out.cell 6
      have y7 : wr.cell? ⟨w.heap.size + 1, 7, none⟩ = some (.int .u32 (wd (b ^ k) 7 : Nat)) := K1.out.cell 7
      have y8 : wr.cell? ⟨w.heap.size + 1, 8, none⟩ = some (.int .u32 (wd (b ^ k) 8 : Nat)) := K1.out.cell 8
      go_wp2_with (go_at_call 71; refine (HT.out _).mono ?_; rintro e W1 ⟨rfl, hx⟩; replace X := Lib.hid (X.out.trans hx); replace K0 := Lib.hid (K0.out.ext hx); replace K1 := Lib.hid (K1.out.ext hx); clear hx y0 y1 y2 y3 y4 y5 y6 y7 y8; refine Hid.out ?_)
      refine Lib.hid ?_
      have y0 : W1.cell? ⟨w.heap.size + 1, 0, none⟩ = some (.int .u32 (wd (b ^ k) 0 : Nat)) := K1.out.cell 0
      have y1 : W1.cell? ⟨w.heap.size + 1, 1, none⟩ = some (.int .u32 (wd (b ^ k) 1 : Nat)) := K1.out.cell 1
      have y2 : W1.cell? ⟨w.heap.size + 1, 2, none⟩ = some (.int .u32 (wd (b ^ k) 2 : Nat)) := K1.out.cell 2
      have y3 : W1.cell? ⟨w.heap.size + 1, 3, none⟩ = some (.int .u32 (wd (b ^ k) 3 : Nat)) := K1.out.cell 3
      have y4 : W1.cell? ⟨w.heap.size + 1, 4, none⟩ = some (.int .u32 (wd (b ^ k) 4 : Nat)) := K1.out.cell 4
      have y5 : W1.cell? ⟨w.heap.size + 1, 5, none⟩ = some (.int .u32 (wd (b ^ k) 5 : Nat)) := K1.out.cell 5
      have y6 : W1.cell? ⟨w.heap.size + 1, 6, none⟩ = some (.int .u32 (wd (b ^ k) 6 : Nat)) := K1.out.cell 6
      have y7 : W1.cell? ⟨w.heap.size + 1, 7, none⟩ = some (.int .u32 (wd (b ^ k) 7 : Nat)) := K1.out.cell 7
      have y8 : W1.cell? ⟨w.heap.size + 1, 8, none⟩ = some (.int .u32 (wd (b ^ k) 8 : Nat)) := K1.out.cell 8
      have f0 := K1.out.free 0
      have f1 := K1.out.free 1
      have f2 := K1.out.free 2
      have f3 := K1.out.free 3
      have f4 := K1.out.free 4
      have f5 := K1.out.free 5
      have f6 := K1.out.free 6
      have f7 := K1.out.free 7
      have f8 := K1.out.free 8
      go_wp2
      go_roundw
      case rel => exact ⟨k + 1, by omega, by go_num, ext9 X.out (by omega) _ _ _ _ _ _ _ _ _, blk9_other K0.out (by omega) _ _ _ _ _ _ _ _ _, blk9_same K1.out _ _ _ _ _ _ _ _ _⟩
      case measure => simp [intOf]; omega
    · obtain rfl : k = m := by omega
      have hkn : ¬ (k : Int) < (k : Int) := by omega
      have y0 : wr.cell? ⟨w.heap.size + 1, 0, none⟩ = some (.int .u32 (wd (b ^ k) 0 : Nat)) := K1.out.cell 0
      have y1 : wr.cell? ⟨w.heap.size + 1, 1, none⟩ = some (.int .u32 (wd (b ^ k) 1 : Nat)) := K1.out.cell 1
      have y2 : wr.cell? ⟨w.heap.size + 1, 2, none⟩ = some (.int .u32 (wd (b ^ k) 2 : Nat)) := K1.out.cell 2
      have y3 : wr.cell? ⟨w.heap.size + 1, 3, none⟩ = some (.int .u32 (wd (b ^ k) 3 : Nat)) := K1.out.cell 3
      have y4 : wr.cell? ⟨w.heap.size + 1, 4, none⟩ = some (.int .u32 (wd (b ^ k) 4 : Nat)) := K1.out.cell 4
      have y5 : wr.cell? ⟨w.heap.size + 1, 5, none⟩ = some (.int .u32 (wd (b ^ k) 5 : Nat)) := K1.out.cell 5
      have y6 : wr.cell? ⟨w.heap.size + 1, 6, none⟩ = some (.int .u32 (wd (b ^ k) 6 : Nat)) := K1.out.cell 6
      have y7 : wr.cell? ⟨w.heap.size + 1, 7, none⟩ = some (.int .u32 (wd (b ^ k) 7 : Nat)) := K1.out.cell 7
      have y8 : wr.cell? ⟨w.heap.size + 1, 8, none⟩ = some (.int .u32 (wd (b ^ k) 8 : Nat)) := K1.out.cell 8
      have u0 : wr.cell? ⟨w.heap.size, 0, none⟩ = some (.int .u32 0) := K0.out.cell 0
      have f0 := K0.out.free 0
      have u1 : wr.cell? ⟨w.heap.size, 1, none⟩ = some (.int .u32 0) := K0.out.cell 1
      have f1 := K0.out.free 1
      have u2 : wr.cell? ⟨w.heap.size, 2, none⟩ = some (.int .u32 0) := K0.out.cell 2
      have f2 := K0.out.free 2
      have u3 : wr.cell? ⟨w.heap.size, 3, none⟩ = some (.int .u32 0) := K0.out.cell 3
      have f3 := K0.out.free 3
      have u4 : wr.cell? ⟨w.heap.size, 4, none⟩ = some (.int .u32 0) := K0.out.cell 4
      have f4 := K0.out.free 4
      have u5 : wr.cell? ⟨w.heap.size, 5, none⟩ = some (.int .u32 0) := K0.out.cell 5
      have f5 := K0.out.free 5
      have u6 : wr.cell? ⟨w.heap.size, 6, none⟩ = some (.int .u32 0) := K0.out.cell 6
      have f6 := K0.out.free 6
      have u7 : wr.cell? ⟨w.heap.size, 7, none⟩ = some (.int .u32 0) := K0.out.cell 7
      have f7 := K0.out.free 7
      have u8 : wr.cell? ⟨w.heap.size, 8, none⟩ = some (.int .u32 0) := K0.out.cell 8
      have f8 := K0.out.free 8
      go_wp2
      exact bodyPost_ret (v := .agg #[.int .u32 (wd (b ^ k) 0 : Nat), .int .u32 (wd (b ^ k) 1 : Nat), .int .u32 (wd (b ^ k) 2 : Nat), .int .u32 (wd (b ^ k) 3 : Nat), .int .u32 (wd (b ^ k) 4 : Nat), .int .u32 (wd (b ^ k) 5 : Nat), .int .u32 (wd (b ^ k) 6 : Nat), .int .u32 (wd (b ^ k) 7 : Nat), .int .u32 (wd (b ^ k) 8 : Nat)]) (by simp [results, Tryz.f73, go_sem, u0, u1, u2, u3, u4, u5, u6, u7, u8]) rfl ⟨rfl, ext9 X.out (by omega) _ _ _ _ _ _ _ _ _⟩
/-- Which of two numbers is greater. -/
def cmpN (a b : Nat) : Int := if a < b then -1 else if b < a then 1 else 0
theorem cmp_any (a b : Nat) (w : World) :
    Calls Tryz.prog 101 #[.int .u32 (a : Int), .int .u32 (b : Int)] w fun e w' => e = .returned (.int .i64 (cmpN a b)) ∧ w = w' := by
  rcases (show a < b ∨ a = b ∨ b < a by omega) with h | h | h
  · have HC := Lib.hid (show cmpN a b = -1 by rw [cmpN, if_pos h])
    have h1 : (a : Int) < (b : Int) := by omega
    go_enter Tryz.func101, Tryz.ntmps101
    go_wp2
    go_ret
    exact ⟨ret_int HC.out.symm, rfl⟩
  · have HC := Lib.hid (show cmpN a b = 0 by rw [cmpN, if_neg (by omega), if_neg (by omega)])
    have h1 : ¬ (a : Int) < (b : Int) := by omega
    have h2 : ¬ (b : Int) < (a : Int) := by omega
    clear h
    go_enter Tryz.func101, Tryz.ntmps101
    go_wp2
    go_ret
    exact ⟨ret_int HC.out.symm, rfl⟩
  · have HC := Lib.hid (show cmpN a b = 1 by rw [cmpN, if_neg (by omega), if_pos h])
    have h1 : ¬ (a : Int) < (b : Int) := by omega
    have h2 : (b : Int) < (a : Int) := by omega
    go_enter Tryz.func101, Tryz.ntmps101
    go_wp2
    go_ret
    exact ⟨ret_int HC.out.symm, rfl⟩
theorem top_step (N : Nat) {k : Nat} (hk : k < 9) : N / 4294967296 ^ (8 - k) = N / 4294967296 ^ (9 - k) * 4294967296 + wd N k := by
  unfold wd
  rw [show 9 - k = (8 - k) + 1 by omega, Nat.pow_succ, ← Nat.div_div_eq_div_mul]
  have := Nat.div_add_mod (N / 4294967296 ^ (8 - k)) 4294967296
  omega
theorem top_eq {N M : Nat} (hN : N < 4294967296 ^ 9) (hM : M < 4294967296 ^ 9) : ∀ {k : Nat}, k ≤ 9 → (∀ i, i < k → wd N i = wd M i) → N / 4294967296 ^ (9 - k) = M / 4294967296 ^ (9 - k)
  | 0, _, _ => by rw [Nat.sub_zero, Nat.div_eq_of_lt hN, Nat.div_eq_of_lt hM]
  | k + 1, hk, h => by
    rw [show 9 - (k + 1) = 8 - k by omega, top_step N (by omega), top_step M (by omega), top_eq hN hM (by omega) (fun i hi => h i (by omega)), h k (by omega)]
theorem cmpN_at {N M k : Nat} (hN : N < 4294967296 ^ 9) (hM : M < 4294967296 ^ 9) (hk : k < 9) (h : ∀ i, i < k → wd N i = wd M i) (hne : wd N k ≠ wd M k) : cmpN N M = cmpN (wd N k) (wd M k) := by
  have h1 := top_eq hN hM (by omega) h
  have h2 := top_step N hk
  have h3 := top_step M hk
  rw [h1] at h2
  unfold cmpN
  rcases Nat.lt_or_gt_of_ne hne with h4 | h4
  · have h5 : N < M := by
      rcases Nat.lt_or_ge N M with h6 | h6
      · exact h6
      · have := Nat.div_le_div_right (c := 4294967296 ^ (8 - k)) h6
        omega
    rw [if_pos h5, if_pos h4]
  · have h5 : M < N := by
      rcases Nat.lt_or_ge M N with h6 | h6
      · exact h6
      · have := Nat.div_le_div_right (c := 4294967296 ^ (8 - k)) h6
        omega
    rw [if_neg (show ¬ N < M by omega), if_pos h5, if_neg (show ¬ wd N k < wd M k by omega), if_pos h4]
theorem cmpN_same {N M : Nat} (hN : N < 4294967296 ^ 9) (hM : M < 4294967296 ^ 9) (h : ∀ i, i < 9 → wd N i = wd M i) : cmpN N M = 0 := by
  have := top_eq hN hM (Nat.le_refl 9) h
  simp at this
  rw [cmpN, if_neg (by omega), if_neg (by omega)]
theorem nat_get (N : Nat) {k : Nat} (hk : k < 9) : (natA N)[k]? = some (.int .u32 (wd N k : Nat)) := by
  rcases (show k = 0 ∨ k = 1 ∨ k = 2 ∨ k = 3 ∨ k = 4 ∨ k = 5 ∨ k = 6 ∨ k = 7 ∨ k = 8 by omega) with rfl | rfl | rfl | rfl | rfl | rfl | rfl | rfl | rfl <;> rfl
set_option maxRecDepth 100000 in
set_option maxHeartbeats 1000000 in
theorem compare_any {N M p q : Nat} {w : World} (hN : N < 4294967296 ^ 9) (hM : M < 4294967296 ^ 9) (hp : Blk w p 119 (natA N)) (hq : Blk w q 119 (natA M)) :
    Calls Tryz.prog 92 #[.slice (some ⟨p, 0, none⟩) 9 9, .slice (some ⟨q, 0, none⟩) 9 9] w fun e w' => e = .returned (.int .i64 (cmpN N M)) ∧ w = w' := by
  have KP := Lib.hid hp
  have KQ := Lib.hid hq
  have HAT := Lib.hid (fun k (hk : k < 9) => cmpN_at (k := k) hN hM hk)
  have HSM := Lib.hid (cmpN_same hN hM)
  clear hp hq hN hM
  go_enter Tryz.func92, Tryz.ntmps92
  go_wp2
  go_loopw [11] (fun i wr => ∃ k : Nat, k ≤ 9 ∧ i = .int .i64 (k : Int) ∧ (∀ j, j < k → wd N j = wd M j) ∧ Hid (w = wr)) (fun i _ => 9 - (intOf i).toNat)
  case atStart => exact ⟨0, by omega, rfl, fun j hj => by omega, by first | exact Lib.hid rfl | exact Lib.hid trivial⟩
  case round =>
    obtain ⟨k, hk, rfl, he, hw⟩ := hrel
    have hww : w = wr := hw.out
    subst hww
    have HE := Lib.hid he
    clear he
    by_cases hlt : k < 9
    · have hki : (k : Int) < 9 := by omega
      have y0 : w.cell? ⟨p, k, none⟩ = some (.int .u32 (wd N k : Nat)) := (KP.out.cell k).trans (nat_get _ hlt)
      have y1 : w.cell? ⟨q, k, none⟩ = some (.int .u32 (wd M k : Nat)) := (KQ.out.cell k).trans (nat_get _ hlt)
      by_cases hne : wd N k = wd M k
      · have HC := Lib.hid (fun W => cmp_any (wd N k) (wd M k) W)
        have hz : cmpN (wd N k) (wd M k) = 0 := by rw [cmpN, if_neg (by omega), if_neg (by omega)]
        rw [hz] at HC
        have HE2 := Lib.hid (show ∀ j, j < k + 1 → wd N j = wd M j from fun j hj => by
          rcases (show j < k ∨ j = k by omega) with h | h
          · exact HE.out j h
          · rw [h]; exact hne)
        clear hz hne
        generalize wd N k = a at *
        generalize wd M k = b at *
        go_wp2_with (go_at_call 101; refine (HC.out _).mono ?_; rintro e W1 ⟨rfl, rfl⟩)
        go_roundw
        case rel => exact ⟨k + 1, by omega, by go_num, HE2.out, by first | exact Lib.hid rfl | exact Lib.hid trivial⟩
        case measure => simp [intOf]; omega
      · have HC := Lib.hid (fun W => cmp_any (wd N k) (wd M k) W)
        have HR := Lib.hid (HAT.out k hlt HE.out hne)
        have hz : (cmpN (wd N k) (wd M k) != 0) = true := by
          unfold cmpN
          rcases Nat.lt_or_gt_of_ne hne with h4 | h4
          · rw [if_pos h4]; rfl
          · rw [if_neg (by omega), if_pos h4]; rfl
        clear hne
        generalize cmpN (wd N k) (wd M k) = z at *
        generalize wd N k = a at *
        generalize wd M k = b at *
        go_wp2_with (go_at_call 101; refine (HC.out _).mono ?_; rintro e W1 ⟨rfl, rfl⟩)
        go_ret
        exact ⟨ret_int HR.out.symm, rfl⟩
    · have HR := Lib.hid (HSM.out (fun i hi => HE.out i (by omega)))
      have hkn : ¬ (k : Int) < 9 := by omega
      go_wp2
      go_ret
      exact ⟨ret_int HR.out.symm, rfl⟩
set_option maxRecDepth 100000 in
set_option maxHeartbeats 1000000 in
theorem exceeds_any {N M : Nat} (hN : N < 4294967296 ^ 9) (hM : M < 4294967296 ^ 9) (w : World) :
    Calls Tryz.prog 72 #[.agg #[.int .u32 (wd (N) 0 : Nat), .int .u32 (wd (N) 1 : Nat), .int .u32 (wd (N) 2 : Nat), .int .u32 (wd (N) 3 : Nat), .int .u32 (wd (N) 4 : Nat), .int .u32 (wd (N) 5 : Nat), .int .u32 (wd (N) 6 : Nat), .int .u32 (wd (N) 7 : Nat), .int .u32 (wd (N) 8 : Nat)], .agg #[.int .u32 (wd (M) 0 : Nat), .int .u32 (wd (M) 1 : Nat), .int .u32 (wd (M) 2 : Nat), .int .u32 (wd (M) 3 : Nat), .int .u32 (wd (M) 4 : Nat), .int .u32 (wd (M) 5 : Nat), .int .u32 (wd (M) 6 : Nat), .int .u32 (wd (M) 7 : Nat), .int .u32 (wd (M) 8 : Nat)]] w fun e w' => e = .returned (.bool (decide (M < N))) ∧ Ext w w' := by
  have HD := Lib.hid (show decide (0 < cmpN N M) = decide (M < N) by
    unfold cmpN
    by_cases h1 : N < M
    · rw [if_pos h1]; simp; omega
    · by_cases h2 : M < N
      · rw [if_neg h1, if_pos h2]; simp [h2]
      · rw [if_neg h1, if_neg h2]; simp; omega)
  obtain ⟨W0, hW0⟩ : ∃ W0, W0 = (w.alloc (.cells #[.int .u32 (wd (N) 0 : Nat), .int .u32 (wd (N) 1 : Nat), .int .u32 (wd (N) 2 : Nat), .int .u32 (wd (N) 3 : Nat), .int .u32 (wd (N) 4 : Nat), .int .u32 (wd (N) 5 : Nat), .int .u32 (wd (N) 6 : Nat), .int .u32 (wd (N) 7 : Nat), .int .u32 (wd (N) 8 : Nat)] 119)).alloc (.cells #[.int .u32 (wd (M) 0 : Nat), .int .u32 (wd (M) 1 : Nat), .int .u32 (wd (M) 2 : Nat), .int .u32 (wd (M) 3 : Nat), .int .u32 (wd (M) 4 : Nat), .int .u32 (wd (M) 5 : Nat), .int .u32 (wd (M) 6 : Nat), .int .u32 (wd (M) 7 : Nat), .int .u32 (wd (M) 8 : Nat)] 119) := ⟨_, rfl⟩
  have K0 := Lib.hid (show Blk W0 w.heap.size 119 (natA N) by rw [hW0]; exact (Blk.new _ _ _).alloc _)
  have K1 := Lib.hid (show Blk W0 (w.heap.size + 1) 119 (natA M) by rw [hW0]; exact Blk.newAt _ _ _ (by simp))
  have E0 := Lib.hid (show Ext w W0 by rw [hW0]; exact (Ext.alloc _ _).trans (Ext.alloc _ _))
  go_enter Tryz.func72, Tryz.ntmps72
  go_wp2
  rw [← hW0]
  clear hW0
  go_wp2
  refine wp_region_each [some 5, some 6, some 7, some 8, some 4] [[2], [3], [5, 6], [7], [8]]
    [Is (.slice (some ⟨w.heap.size, 0, none⟩) 9 9), Is (.slice (some ⟨w.heap.size + 1, 0, none⟩) 9 9), Is (.int .i64 (cmpN N M)), Is (.bool (decide (0 < cmpN N M))), Is (.bool (decide (0 < cmpN N M)))]
    (by kernel_rfl) (by kernel_rfl) (by kernel_rfl) (by kernel_rfl) (by kernel_rfl) Ext (fun W => Ext W0 W)
    (fun W _ => Ext.refl W) (fun W W' h k => h.trans k) ?_ (Ext.drew _) ?_ ?_
  · repeat (refine ⟨fun _ _ _ _ k h => (by first | exact h | exact (IntsAt.ext h k)), ?_⟩)
    exact trivial
  · refine ⟨?_, ?_, ?_, ?_, ?_, trivial⟩
    all_goals intro ρ W ⟨kc, kg, kf⟩ hF hs
    · obtain ⟨h0, -⟩ := hs
      replace h0 : ρ (.tmp 2) = .pointer (some ⟨w.heap.size, 0, none⟩) := h0
      have hsz : w.heap.size < W.heap.size := by have := (K0.out.ext hF).lt; omega
      go_simp
      exact ⟨Ext.refl _, rfl⟩
    · obtain ⟨h0, -⟩ := hs
      replace h0 : ρ (.tmp 3) = .pointer (some ⟨w.heap.size + 1, 0, none⟩) := h0
      have hsz : w.heap.size + 1 < W.heap.size := by have := (K1.out.ext hF).lt; omega
      go_simp
      exact ⟨Ext.refl _, rfl⟩
    · obtain ⟨h0, h1, -⟩ := hs
      replace h0 : ρ (.tmp 5) = .slice (some ⟨w.heap.size, 0, none⟩) 9 9 := h0
      replace h1 : ρ (.tmp 6) = .slice (some ⟨w.heap.size + 1, 0, none⟩) 9 9 := h1
      go_simp
      refine (compare_any hN hM (K0.out.ext hF) (K1.out.ext hF)).mono ?_; rintro e w' ⟨rfl, rfl⟩; exact ⟨_, rfl, Ext.refl _, rfl⟩
    · obtain ⟨h0, -⟩ := hs
      replace h0 : ρ (.tmp 7) = .int .i64 (cmpN N M) := h0
      go_simp
      exact ⟨Ext.refl _, rfl⟩
    · obtain ⟨h0, -⟩ := hs
      replace h0 : ρ (.tmp 8) = .bool (decide (0 < cmpN N M)) := h0
      go_simp
      exact ⟨Ext.refl _, rfl⟩
  · intro fv W hF hs
    obtain ⟨-, -, -, -, h4, -⟩ := hs
    replace h4 : fv 4 = .bool (decide (0 < cmpN N M)) := h4
    simp only [fin, List.filterMap]
    go_simp
    go_wp2
    go_ret
    exact ⟨ret_bool (by rw [HD.out]), E0.out.trans hF⟩

end Go.Proofs.YtjdilmmpdlcimaaGreat
