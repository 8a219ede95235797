/- Pairs: their sums. -/
import Derived.Test.YtmddnpagfgilcaaB8
import Derived.Lib.MinMax

namespace Go.Proofs.Ytmddnpagfgilcaa
open Go.RowKit Go.Shelf Go.Mem Go.RegInv
attribute [local go_sem] RelUpon_value RelUpon_skip RelUpon_enter BigFrame.eval_const BigFrame.eval_global BigFrame.eval_func


/-- The sums of the first k pairs. -/
structure Sm where
  x : Int
  y : Int
  xx : Int
  xy : Int
def sumK (xs : List Pr) : Nat → Sm
  | 0 => ⟨0, 0, 0, 0⟩
  | k + 1 => ⟨(sumK xs k).x + (xs.getD k default).s, (sumK xs k).y + (xs.getD k default).v, (sumK xs k).xx + (xs.getD k default).s * (xs.getD k default).s, (sumK xs k).xy + (xs.getD k default).s * (xs.getD k default).v⟩
theorem mul_bd {a b A B : Int} (ha : -A ≤ a ∧ a ≤ A) (hb : -B ≤ b ∧ b ≤ B) : -(A * B) ≤ a * b ∧ a * b ≤ A * B := by
  have h1 : a.natAbs ≤ A.toNat := by omega
  have h2 : b.natAbs ≤ B.toNat := by omega
  have h3 : (a * b).natAbs ≤ A.toNat * B.toNat := by rw [Int.natAbs_mul]; exact Nat.mul_le_mul h1 h2
  have h4 : ((A.toNat * B.toNat : Nat) : Int) = A * B := by rw [Int.natCast_mul, Int.toNat_of_nonneg (by omega), Int.toNat_of_nonneg (by omega)]
  rw [← h4]
  omega
def PrOK (x : Pr) : Prop := (-100 ≤ x.s ∧ x.s ≤ 100) ∧ -100 ≤ x.v ∧ x.v ≤ 100
theorem sumK_bd {xs : List Pr} (h : ∀ i, PrOK (xs.getD i default)) : ∀ k : Nat, -(100 * (k : Int)) ≤ (sumK xs k).x ∧ (sumK xs k).x ≤ 100 * k ∧ -(100 * (k : Int)) ≤ (sumK xs k).y ∧ (sumK xs k).y ≤ 100 * k ∧ -(10000 * (k : Int)) ≤ (sumK xs k).xx ∧ (sumK xs k).xx ≤ 10000 * k ∧ -(10000 * (k : Int)) ≤ (sumK xs k).xy ∧ (sumK xs k).xy ≤ 10000 * k
  | 0 => by simp [sumK]
  | k + 1 => by
    have ih := sumK_bd h k
    obtain ⟨h1, h2⟩ := h k
    have a := mul_bd h1 h1
    have b := mul_bd h1 h2
    simp only [sumK]
    omega
set_option maxRecDepth 100000 in
set_option maxHeartbeats 1000000 in
theorem sumsOf_any {A : Option Addr} {n ca : Nat} {xs : List Pr} {w : World} (hn : xs.length = n) (hA : RowsAt 2 Pr.enc w A xs) (h10 : n ≤ 10) (hok : ∀ i, PrOK (xs.getD i default)) :
    Calls Try.prog 114 #[.slice A n ca] w fun e w' => e = .returned (.agg #[.int .i64 (n : Int), .int .i64 (sumK xs n).x, .int .i64 (sumK xs n).y, .int .i64 (sumK xs n).xx, .int .i64 (sumK xs n).xy]) ∧ Ext w w' := by
  have G := Lib.hid (fun i (h : i < n) => show xs[i]? = some (xs.getD i default) by rw [List.getD_eq_getElem?_getD, List.getElem?_eq_getElem (by omega)]; rfl)
  have HB := Lib.hid (sumK_bd hok)
  have HO := Lib.hid hok
  have HA := Lib.hid hA
  obtain ⟨W0, hW0⟩ : ∃ W0, W0 = (w.alloc (.cells #[.int .i64 0, .int .i64 0, .int .i64 0, .int .i64 0, .int .i64 0] 157)).alloc (.cells #[.int .i64 (n : Int), .int .i64 0, .int .i64 0, .int .i64 0, .int .i64 0] 157) := ⟨_, rfl⟩
  have K0 := Lib.hid (show Blk W0 w.heap.size 157 #[.int .i64 0, .int .i64 0, .int .i64 0, .int .i64 0, .int .i64 0] by rw [hW0]; exact (Blk.new _ _ _).alloc _)
  have K1 := Lib.hid (show Blk W0 (w.heap.size + 1) 157 #[.int .i64 (n : Int), .int .i64 (sumK xs 0).x, .int .i64 (sumK xs 0).y, .int .i64 (sumK xs 0).xx, .int .i64 (sumK xs 0).xy] by rw [hW0]; exact Blk.newAt _ _ _ (by simp))
  have E0 := Lib.hid (show Ext w W0 by rw [hW0]; exact (Ext.alloc _ _).trans (Ext.alloc _ _))
  clear hn hA hok
  go_enter Try.func114, Try.ntmps114
  go_wp2
  rw [← hW0]
  clear hW0
  go_wp2
  go_loopw [11] (fun i wr => ∃ k : Nat, k ≤ n ∧ i = .int .i64 k ∧ Blk wr (w.heap.size + 1) 157 #[.int .i64 (n : Int), .int .i64 (sumK xs k).x, .int .i64 (sumK xs k).y, .int .i64 (sumK xs k).xx, .int .i64 (sumK xs k).xy] ∧ Blk wr w.heap.size 157 #[.int .i64 0, .int .i64 0, .int .i64 0, .int .i64 0, .int .i64 0] ∧ Ext w wr) (fun i _ => n - (intOf i).toNat)
  case atStart => exact ⟨0, Nat.zero_le _, rfl, K1.out, K0.out, E0.out⟩
  case round =>
    obtain ⟨k, hk, rfl, hb, hb0, hx⟩ := hrel
    have X := Lib.hid hx
    have B := Lib.hid hb
    have B0 := Lib.hid hb0
    have hws : w.heap.size < wr.heap.size := B0.out.lt
    clear hx hb hb0 K0 K1 E0
    by_cases hlt : k < n
    · have hxk := G.out k hlt
      obtain ⟨h1, h2⟩ := HO.out k
      have hbd := HB.out k
      obtain ⟨b, o, rfl, hb2, hc⟩ := row_at (HA.out.ext X.out) hxk
      have p0 := hc 0 _ rfl
      have p1 := hc 1 _ rfl
      simp only [Nat.add_zero] at p0
      have HK := Lib.hid (show sumK xs (k + 1) = ⟨(sumK xs k).x + (xs.getD k default).s, (sumK xs k).y + (xs.getD k default).v, (sumK xs k).xx + (xs.getD k default).s * (xs.getD k default).s, (sumK xs k).xy + (xs.getD k default).s * (xs.getD k default).v⟩ from rfl)
      generalize xs.getD k default = x at *
      generalize sumK xs k = z at *
      have hki : (k : Int) < (n : Int) := by omega
      have a1 := mul_bd h1 h1
      have a2 := mul_bd h1 h2
      obtain ⟨g1, g2⟩ := h1
      obtain ⟨g3, g4⟩ := h2
      obtain ⟨g5, g6⟩ := a1
      obtain ⟨g7, g8⟩ := a2
      obtain ⟨z1, z2, z3, z4, z5, z6, z7, z8⟩ := hbd
      clear hc hxk
      have c1 : ∀ o, (wr.alloc o).cell? ⟨w.heap.size + 1, 1, none⟩ = some (.int .i64 z.x) := fun o => (B.out.alloc o).cell 1
      have c2 : ∀ o, (wr.alloc o).cell? ⟨w.heap.size + 1, 2, none⟩ = some (.int .i64 z.y) := fun o => (B.out.alloc o).cell 2
      have c3 : ∀ o, (wr.alloc o).cell? ⟨w.heap.size + 1, 3, none⟩ = some (.int .i64 z.xx) := fun o => (B.out.alloc o).cell 3
      have c4 : ∀ o, (wr.alloc o).cell? ⟨w.heap.size + 1, 4, none⟩ = some (.int .i64 z.xy) := fun o => (B.out.alloc o).cell 4
      have f1 : ∀ o, (wr.alloc o).frozen? ⟨w.heap.size + 1, 1, none⟩ = false := fun o => (B.out.alloc o).free 1
      have f2 : ∀ o, (wr.alloc o).frozen? ⟨w.heap.size + 1, 2, none⟩ = false := fun o => (B.out.alloc o).free 2
      have f3 : ∀ o, (wr.alloc o).frozen? ⟨w.heap.size + 1, 3, none⟩ = false := fun o => (B.out.alloc o).free 3
      have f4 : ∀ o, (wr.alloc o).frozen? ⟨w.heap.size + 1, 4, none⟩ = false := fun o => (B.out.alloc o).free 4
      have hne : ¬ wr.heap.size = w.heap.size + 1 := by have := B.out.lt; omega
      have hne2 : ¬ w.heap.size + 1 = wr.heap.size := by have := B.out.lt; omega
      go_wp2
      go_roundw
      case rel => exact ⟨k + 1, by omega, by go_num, by rw [HK.out]; exact ((((B.out.alloc _).setSame 1 _).setSame 2 _).setSame 3 _).setSame 4 _, ((((B0.out.alloc _).setOther (by dsimp only; omega) _).setOther (by dsimp only; omega) _).setOther (by dsimp only; omega) _).setOther (by dsimp only; omega) _, Ext.set (Ext.set (Ext.set (Ext.set (X.out.trans (Ext.alloc _ _)) (by dsimp only; omega) _) (by dsimp only; omega) _) (by dsimp only; omega) _) (by dsimp only; omega) _⟩
      case measure => simp [intOf]; omega
    · have hkn : k = n := by omega
      rw [hkn] at B
      have hkn2 : ¬ (k : Int) < (n : Int) := by omega
      clear hkn
      have c0 : wr.cell? ⟨w.heap.size + 1, 0, none⟩ = some (.int .i64 (n : Int)) := B.out.cell 0
      have c1 : wr.cell? ⟨w.heap.size + 1, 1, none⟩ = some (.int .i64 (sumK xs n).x) := B.out.cell 1
      have c2 : wr.cell? ⟨w.heap.size + 1, 2, none⟩ = some (.int .i64 (sumK xs n).y) := B.out.cell 2
      have c3 : wr.cell? ⟨w.heap.size + 1, 3, none⟩ = some (.int .i64 (sumK xs n).xx) := B.out.cell 3
      have c4 : wr.cell? ⟨w.heap.size + 1, 4, none⟩ = some (.int .i64 (sumK xs n).xy) := B.out.cell 4
      have f0 := B0.out.free 0
      have f1 := B0.out.free 1
      have f2 := B0.out.free 2
      have f3 := B0.out.free 3
      have f4 := B0.out.free 4
      have d0 : wr.cell? ⟨w.heap.size, 0, none⟩ = some (.int .i64 0) := B0.out.cell 0
      have d1 : wr.cell? ⟨w.heap.size, 1, none⟩ = some (.int .i64 0) := B0.out.cell 1
      have d2 : wr.cell? ⟨w.heap.size, 2, none⟩ = some (.int .i64 0) := B0.out.cell 2
      have d3 : wr.cell? ⟨w.heap.size, 3, none⟩ = some (.int .i64 0) := B0.out.cell 3
      have d4 : wr.cell? ⟨w.heap.size, 4, none⟩ = some (.int .i64 0) := B0.out.cell 4
      clear B B0
      go_wp2
      exact bodyPost_ret (v := .agg #[.int .i64 (n : Int), .int .i64 (sumK xs n).x, .int .i64 (sumK xs n).y, .int .i64 (sumK xs n).xx, .int .i64 (sumK xs n).xy]) (by simp [results, Try.f114, go_sem, d0, d1, d2, d3, d4]) rfl ⟨rfl, Ext.set (Ext.set (Ext.set (Ext.set (Ext.set (X.out) (by dsimp only; omega) _) (by dsimp only; omega) _) (by dsimp only; omega) _) (by dsimp only; omega) _) (by dsimp only; omega) _⟩

end Go.Proofs.Ytmddnpagfgilcaa
