/- Naturals. -/
import Derived.Test.YtjdilmmpdlcimaaGreatA5
import Derived.Lib.MinMax
import Derived.Deep.DeepCutAuto

namespace Go.Proofs.YtjdilmmpdlcimaaGreat
open Go.RowKit Go.Shelf Go.Mem Go.RegInv
attribute [local go_sem] RelUpon_value RelUpon_skip RelUpon_enter BigFrame.eval_const BigFrame.eval_global BigFrame.eval_func


/-- The words of a number. -/
def wd (N i : Nat) : Nat := N / 4294967296 ^ (8 - i) % 4294967296
def mixW (N M k i : Nat) : Nat := if 9 ≤ i + k then wd M i else wd N i
def mixA (N M k : Nat) : Array Value := #[.int .u32 (mixW N M k 0 : Nat), .int .u32 (mixW N M k 1 : Nat), .int .u32 (mixW N M k 2 : Nat), .int .u32 (mixW N M k 3 : Nat), .int .u32 (mixW N M k 4 : Nat), .int .u32 (mixW N M k 5 : Nat), .int .u32 (mixW N M k 6 : Nat), .int .u32 (mixW N M k 7 : Nat), .int .u32 (mixW N M k 8 : Nat)]
def natA (N : Nat) : Array Value := #[.int .u32 (wd N 0 : Nat), .int .u32 (wd N 1 : Nat), .int .u32 (wd N 2 : Nat), .int .u32 (wd N 3 : Nat), .int .u32 (wd N 4 : Nat), .int .u32 (wd N 5 : Nat), .int .u32 (wd N 6 : Nat), .int .u32 (wd N 7 : Nat), .int .u32 (wd N 8 : Nat)]
theorem mix_zero (N M : Nat) : mixA N M 0 = natA N := rfl
theorem mix_nine (N M : Nat) : mixA N M 9 = natA M := rfl
theorem mix_get (N M : Nat) {k : Nat} (hk : k < 9) : (mixA N M k)[8 - k]? = some (.int .u32 (wd N (8 - k) : Nat)) := by
  rcases (show k = 0 ∨ k = 1 ∨ k = 2 ∨ k = 3 ∨ k = 4 ∨ k = 5 ∨ k = 6 ∨ k = 7 ∨ k = 8 by omega) with rfl | rfl | rfl | rfl | rfl | rfl | rfl | rfl | rfl <;> rfl
theorem mix_set (N M : Nat) {k : Nat} (hk : k < 9) : (mixA N M k).setIfInBounds (8 - k) (.int .u32 (wd M (8 - k) : Nat)) = mixA N M (k + 1) := by
  rcases (show k = 0 ∨ k = 1 ∨ k = 2 ∨ k = 3 ∨ k = 4 ∨ k = 5 ∨ k = 6 ∨ k = 7 ∨ k = 8 by omega) with rfl | rfl | rfl | rfl | rfl | rfl | rfl | rfl | rfl <;> rfl
theorem wd_lt (N i : Nat) : wd N i < 4294967296 := Nat.mod_lt _ (by decide)
/-- What is carried behind k words. -/
def cy (N n k : Nat) : Nat := N % 4294967296 ^ k * n / 4294967296 ^ k
theorem cy_lt {N n k : Nat} : cy N n k ≤ n := by
  unfold cy
  have h1 : 0 < 4294967296 ^ k := Nat.pow_pos (by decide)
  have h2 : N % 4294967296 ^ k < 4294967296 ^ k := Nat.mod_lt _ h1
  apply Nat.div_le_of_le_mul
  exact Nat.mul_le_mul_right _ (by omega)
theorem cy_sum (N n : Nat) {k : Nat} (hk : k < 9) : cy N n k + wd N (8 - k) * n = N % 4294967296 ^ (k + 1) * n / 4294967296 ^ k := by
  have h1 : 0 < 4294967296 ^ k := Nat.pow_pos (by decide)
  unfold cy wd
  rw [show 8 - (8 - k) = k by omega, Nat.pow_succ, Nat.mod_mul, Nat.add_mul, Nat.mul_assoc, Nat.add_mul_div_left _ _ h1]
theorem cy_word (N n : Nat) {k : Nat} (hk : k < 9) : (cy N n k + wd N (8 - k) * n) % 4294967296 = wd (N * n) (8 - k) := by
  have h1 : 0 < 4294967296 ^ k := Nat.pow_pos (by decide)
  rw [cy_sum N n hk]
  unfold wd
  have e : N * n = N % 4294967296 ^ (k + 1) * n + 4294967296 ^ k * (4294967296 * (N / 4294967296 ^ (k + 1) * n)) := by
    have h2 := Nat.mod_add_div N (4294967296 ^ (k + 1))
    calc N * n = (N % 4294967296 ^ (k + 1) + 4294967296 ^ (k + 1) * (N / 4294967296 ^ (k + 1))) * n := by rw [h2]
      _ = _ := by rw [Nat.add_mul, Nat.pow_succ, Nat.mul_assoc, Nat.mul_assoc]
  conv => rhs; rw [e, show 8 - (8 - k) = k by omega, Nat.add_mul_div_left _ _ h1, Nat.add_mul_mod_self_left]
theorem cy_next (N n : Nat) {k : Nat} (hk : k < 9) : (cy N n k + wd N (8 - k) * n) / 4294967296 = cy N n (k + 1) := by
  rw [cy_sum N n hk, Nat.div_div_eq_div_mul, ← Nat.pow_succ]
  rfl

set_option maxRecDepth 100000 in
set_option maxHeartbeats 1000000 in
theorem times_any (N n : Nat) (hn : n ≤ 1000000000) (w : World) :
    Calls Tryz.prog 71 #[.agg #[.int .u32 (wd (N) 0 : Nat), .int .u32 (wd (N) 1 : Nat), .int .u32 (wd (N) 2 : Nat), .int .u32 (wd (N) 3 : Nat), .int .u32 (wd (N) 4 : Nat), .int .u32 (wd (N) 5 : Nat), .int .u32 (wd (N) 6 : Nat), .int .u32 (wd (N) 7 : Nat), .int .u32 (wd (N) 8 : Nat)], .int .i64 (n : Int)] w fun e w' => e = .returned (.agg #[.int .u32 (wd (N * n) 0 : Nat), .int .u32 (wd (N * n) 1 : Nat), .int .u32 (wd (N * n) 2 : Nat), .int .u32 (wd (N * n) 3 : Nat), .int .u32 (wd (N * n) 4 : Nat), .int .u32 (wd (N * n) 5 : Nat), .int .u32 (wd (N * n) 6 : Nat), .int .u32 (wd (N * n) 7 : Nat), .int .u32 (wd (N * n) 8 : Nat)]) ∧ Ext w w' := by
  obtain ⟨W0, hW0⟩ : ∃ W0, W0 = (w.alloc (.cells #[.int .u32 (wd (N) 0 : Nat), .int .u32 (wd (N) 1 : Nat), .int .u32 (wd (N) 2 : Nat), .int .u32 (wd (N) 3 : Nat), .int .u32 (wd (N) 4 : Nat), .int .u32 (wd (N) 5 : Nat), .int .u32 (wd (N) 6 : Nat), .int .u32 (wd (N) 7 : Nat), .int .u32 (wd (N) 8 : Nat)] 119)).alloc (.cells #[.int .u32 0, .int .u32 0, .int .u32 0, .int .u32 0, .int .u32 0, .int .u32 0, .int .u32 0, .int .u32 0, .int .u32 0] 119) := ⟨_, rfl⟩
  have K0 := Lib.hid (show Blk W0 w.heap.size 119 (mixA N (N * n) 0) by rw [hW0, mix_zero]; exact (Blk.new _ _ _).alloc _)
  have K1 := Lib.hid (show Blk W0 (w.heap.size + 1) 119 #[.int .u32 0, .int .u32 0, .int .u32 0, .int .u32 0, .int .u32 0, .int .u32 0, .int .u32 0, .int .u32 0, .int .u32 0] by rw [hW0]; exact Blk.newAt _ _ _ (by simp))
  have E0 := Lib.hid (show Ext w W0 by rw [hW0]; exact (Ext.alloc _ _).trans (Ext.alloc _ _))
  go_enter Tryz.func71, Tryz.ntmps71
  go_upto_region 2 with (fail)
  rw [← hW0]
  clear hW0
  go_wp2
  go_loopw [5, 6] (fun c i wr => ∃ k : Nat, k ≤ 9 ∧ c = .int .u64 (cy N n k : Nat) ∧ i = .int .i64 (8 - (k : Int)) ∧ Ext w wr ∧ Blk wr w.heap.size 119 (mixA N (N * n) k) ∧ Blk wr (w.heap.size + 1) 119 #[.int .u32 0, .int .u32 0, .int .u32 0, .int .u32 0, .int .u32 0, .int .u32 0, .int .u32 0, .int .u32 0, .int .u32 0]) (fun _ i _ => (intOf i + 1).toNat)
  case atStart => exact ⟨0, by omega, by simp [cy, Nat.mod_one], rfl, E0.out, K0.out, K1.out⟩
  case round =>
    clear E0 K0 K1
    obtain ⟨k, hk, rfl, rfl, hx, k0, k1⟩ := hrel
    have X := Lib.hid hx
    have K0 := Lib.hid k0
    have K1 := Lib.hid k1
    clear hx k0 k1
    by_cases hlt : k < 9
    · have y0 : wr.cell? ⟨w.heap.size, 8 - k, none⟩ = some (.int .u32 (wd N (8 - k) : Nat)) := (K0.out.cell (8 - k)).trans (mix_get _ _ hlt)
      have f0 := K0.out.free (8 - k)
      have hc := cy_lt (N := N) (n := n) (k := k)
      have hd := wd_lt N (8 - k)
      have HW := Lib.hid (cy_word N n hlt)
      have HY := Lib.hid (cy_next N n hlt)
      have HS := Lib.hid (mix_set N (N * n) hlt)
      generalize cy N n k = c at *
      generalize hc2 : cy N n (k + 1) = c2 at HY
      have HC2 := Lib.hid hc2
      clear hc2
      generalize wd N (8 - k) = d at *
      generalize wd (N * n) (8 - k) = d2 at *
      have hp : d * n ≤ 4294967296 * 1000000000 := Nat.mul_le_mul (by omega) hn
      have h8 : (8 - (k : Int)).toNat = 8 - k := by omega
      have h8a : (0 : Int) ≤ 8 - (k : Int) := by omega
      have h8b : 8 - (k : Int) < 9 := by omega
      go_wp2
      go_roundw
      case rel => exact ⟨k + 1, by omega, by rw [HC2.out, ← HY.out]; go_num, by go_num, Ext.set X.out (by dsimp only; omega) _, by have := K0.out.setSame (8 - k) (.int .u32 ((d2 : Nat) : Int)); rw [HS.out] at this; rw [← HW.out] at this; simpa using this, K1.out.setOther (by dsimp only; omega) _⟩
      case measure => simp [intOf]; omega
    · obtain rfl : k = 9 := by omega
      rw [mix_nine] at K0
      have y0 : wr.cell? ⟨w.heap.size, 0, none⟩ = some (.int .u32 (wd (N * n) 0 : Nat)) := K0.out.cell 0
      have u0 : wr.cell? ⟨w.heap.size + 1, 0, none⟩ = some (.int .u32 0) := K1.out.cell 0
      have f0 := K1.out.free 0
      have y1 : wr.cell? ⟨w.heap.size, 1, none⟩ = some (.int .u32 (wd (N * n) 1 : Nat)) := K0.out.cell 1
      have u1 : wr.cell? ⟨w.heap.size + 1, 1, none⟩ = some (.int .u32 0) := K1.out.cell 1
      have f1 := K1.out.free 1
      have y2 : wr.cell? ⟨w.heap.size, 2, none⟩ = some (.int .u32 (wd (N * n) 2 : Nat)) := K0.out.cell 2
      have u2 : wr.cell? ⟨w.heap.size + 1, 2, none⟩ = some (.int .u32 0) := K1.out.cell 2
      have f2 := K1.out.free 2
      have y3 : wr.cell? ⟨w.heap.size, 3, none⟩ = some (.int .u32 (wd (N * n) 3 : Nat)) := K0.out.cell 3
      have u3 : wr.cell? ⟨w.heap.size + 1, 3, none⟩ = some (.int .u32 0) := K1.out.cell 3
      have f3 := K1.out.free 3
      have y4 : wr.cell? ⟨w.heap.size, 4, none⟩ = some (.int .u32 (wd (N * n) 4 : Nat)) := K0.out.cell 4
      have u4 : wr.cell? ⟨w.heap.size + 1, 4, none⟩ = some (.int .u32 0) := K1.out.cell 4
      have f4 := K1.out.free 4
      have y5 : wr.cell? ⟨w.heap.size, 5, none⟩ = some (.int .u32 (wd (N * n) 5 : Nat)) := K0.out.cell 5
      have u5 : wr.cell? ⟨w.heap.size + 1, 5, none⟩ = some (.int .u32 0) := K1.out.cell 5
      have f5 := K1.out.free 5
      have y6 : wr.cell? ⟨w.heap.size, 6, none⟩ = some (.int .u32 (wd (N * n) 6 : Nat)) := K0.out.cell 6
      have u6 : wr.cell? ⟨w.heap.size + 1, 6, none⟩ = some (.int .u32 0) := K1.out.cell 6
      have f6 := K1.out.free 6
      have y7 : wr.cell? ⟨w.heap.size, 7, none⟩ = some (.int .u32 (wd (N * n) 7 : Nat)) := K0.out.cell 7
      have u7 : wr.cell? ⟨w.heap.size + 1, 7, none⟩ = some (.int .u32 0) := K1.out.cell 7
      have f7 := K1.out.free 7
      have y8 : wr.cell? ⟨w.heap.size, 8, none⟩ = some (.int .u32 (wd (N * n) 8 : Nat)) := K0.out.cell 8
      have u8 : wr.cell? ⟨w.heap.size + 1, 8, none⟩ = some (.int .u32 0) := K1.out.cell 8
      have f8 := K1.out.free 8
      go_wp2
      exact bodyPost_ret (v := .agg #[.int .u32 (wd (N * n) 0 : Nat), .int .u32 (wd (N * n) 1 : Nat), .int .u32 (wd (N * n) 2 : Nat), .int .u32 (wd (N * n) 3 : Nat), .int .u32 (wd (N * n) 4 : Nat), .int .u32 (wd (N * n) 5 : Nat), .int .u32 (wd (N * n) 6 : Nat), .int .u32 (wd (N * n) 7 : Nat), .int .u32 (wd (N * n) 8 : Nat)]) (by simp [results, Tryz.f71, go_sem, u0, u1, u2, u3, u4, u5, u6, u7, u8]) rfl ⟨rfl, Ext.set (Ext.set (Ext.set (Ext.set (Ext.set (Ext.set (Ext.set (Ext.set (Ext.set (X.out) (by dsimp only; omega) _) (by dsimp only; omega) _) (by dsimp only; omega) _) (by dsimp only; omega) _) (by dsimp only; omega) _) (by dsimp only; omega) _) (by dsimp only; omega) _) (by dsimp only; omega) _) (by dsimp only; omega) _⟩

end Go.Proofs.YtjdilmmpdlcimaaGreat
