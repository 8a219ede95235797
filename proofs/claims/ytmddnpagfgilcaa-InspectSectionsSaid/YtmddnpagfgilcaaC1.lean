/- Pairs: the best line. -/
import Derived.Test.YtmddnpagfgilcaaB9
import Derived.Lib.MinMax

namespace Go.Proofs.Ytmddnpagfgilcaa
open Go.RowKit Go.Shelf Go.Mem Go.RegInv
attribute [local go_sem] RelUpon_value RelUpon_skip RelUpon_enter BigFrame.eval_const BigFrame.eval_global BigFrame.eval_func


/-- The best line of sums. -/
def denV (n : Int) (s : Sm) : Int := n * s.xx - s.x * s.x
def slopeV (n : Int) (s : Sm) : Int × Int := lowT (n * s.xy - s.x * s.y) (denV n s)
def offsV (n : Int) (s : Sm) : Int × Int := lowT (s.xx * s.y - s.x * s.xy) (denV n s)
set_option maxRecDepth 100000 in
set_option maxHeartbeats 1000000 in
theorem line_any {n : Int} {s : Sm} (w : World) (hn : -10 ≤ n ∧ n ≤ 10) (hx : -1000 ≤ s.x ∧ s.x ≤ 1000) (hy : -1000 ≤ s.y ∧ s.y ≤ 1000) (hxx : -100000 ≤ s.xx ∧ s.xx ≤ 100000) (hxy : -100000 ≤ s.xy ∧ s.xy ≤ 100000) (hd : 0 < denV n s) :
    Calls Try.prog 115 #[.agg #[.int .i64 n, .int .i64 s.x, .int .i64 s.y, .int .i64 s.xx, .int .i64 s.xy]] w fun e w' => e = .returned (.tuple #[.agg #[.int .i64 (slopeV n s).1, .int .i64 (slopeV n s).2], .agg #[.int .i64 (offsV n s).1, .int .i64 (offsV n s).2]]) ∧ Ext w w' := by
  obtain ⟨a1, a2⟩ := mul_bd hn hxx
  obtain ⟨b1, b2⟩ := mul_bd hx hx
  obtain ⟨c1, c2⟩ := mul_bd hn hxy
  obtain ⟨d1, d2⟩ := mul_bd hx hy
  obtain ⟨e1, e2⟩ := mul_bd hxx hy
  obtain ⟨f1, f2⟩ := mul_bd hx hxy
  have HD := Lib.hid (show denV n s = n * s.xx - s.x * s.x from rfl)
  have hdd : 0 < n * s.xx - s.x * s.x := hd
  have HS := Lib.hid (fun W => show Calls Try.prog 123 #[.int .i64 (n * s.xy - s.x * s.y), .int .i64 (n * s.xx - s.x * s.x)] W fun e w' => e = .returned (.agg #[.int .i64 (slopeV n s).1, .int .i64 (slopeV n s).2]) ∧ Ext W w' from lowestP_any (n * s.xy - s.x * s.y) (n * s.xx - s.x * s.x) (by unfold Big; omega) hdd (by unfold Big; omega) W)
  have HO := Lib.hid (fun W => show Calls Try.prog 123 #[.int .i64 (s.xx * s.y - s.x * s.xy), .int .i64 (n * s.xx - s.x * s.x)] W fun e w' => e = .returned (.agg #[.int .i64 (offsV n s).1, .int .i64 (offsV n s).2]) ∧ Ext W w' from lowestP_any (s.xx * s.y - s.x * s.xy) (n * s.xx - s.x * s.x) (by unfold Big; omega) hdd (by unfold Big; omega) W)
  generalize slopeV n s = sl at *
  generalize offsV n s = of at *
  obtain ⟨n1, n2⟩ := hn
  obtain ⟨x1, x2⟩ := hx
  obtain ⟨y1, y2⟩ := hy
  obtain ⟨xx1, xx2⟩ := hxx
  obtain ⟨xy1, xy2⟩ := hxy
  clear hd
  obtain ⟨W0, hW0⟩ : ∃ W0, W0 = ((w.alloc (.cells #[.int .i64 n, .int .i64 s.x, .int .i64 s.y, .int .i64 s.xx, .int .i64 s.xy] 157)).alloc (.cells #[.int .i64 0, .int .i64 0] 32)).alloc (.cells #[.int .i64 0, .int .i64 0] 32) := ⟨_, rfl⟩
  have K0 := Lib.hid (show Blk W0 w.heap.size 157 #[.int .i64 n, .int .i64 s.x, .int .i64 s.y, .int .i64 s.xx, .int .i64 s.xy] by rw [hW0]; exact ((Blk.new _ _ _).alloc _).alloc _)
  have K1 := Lib.hid (show Blk W0 (w.heap.size + 1) 32 #[.int .i64 0, .int .i64 0] by rw [hW0]; exact (Blk.newAt _ _ _ (by simp)).alloc _)
  have K2 := Lib.hid (show Blk W0 (w.heap.size + 1 + 1) 32 #[.int .i64 0, .int .i64 0] by rw [hW0]; exact Blk.newAt _ _ _ (by simp))
  have E0 := Lib.hid (show Ext w W0 by rw [hW0]; exact ((Ext.alloc _ _).trans (Ext.alloc _ _)).trans (Ext.alloc _ _))
  have k0 : W0.cell? ⟨w.heap.size, 0, none⟩ = some (.int .i64 n) := K0.out.cell 0
  have k1 : W0.cell? ⟨w.heap.size, 1, none⟩ = some (.int .i64 s.x) := K0.out.cell 1
  have k2 : W0.cell? ⟨w.heap.size, 2, none⟩ = some (.int .i64 s.y) := K0.out.cell 2
  have k3 : W0.cell? ⟨w.heap.size, 3, none⟩ = some (.int .i64 s.xx) := K0.out.cell 3
  have k4 : W0.cell? ⟨w.heap.size, 4, none⟩ = some (.int .i64 s.xy) := K0.out.cell 4
  go_enter Try.func115, Try.ntmps115
  go_wp2_with (fail)
  rw [← hW0]
  clear hW0
  go_wp2_with (go_at_call 123; refine (HS.out _).mono ?_; rintro e W1 ⟨rfl, hx⟩; have X1 := Lib.hid hx; clear hx k0 k1 k2 k3 k4; refine Hid.out ?_)
  refine Lib.hid ?_
  have B0 := Lib.hid (K0.out.ext X1.out)
  have B1 := Lib.hid (K1.out.ext X1.out)
  have k1 : W1.cell? ⟨w.heap.size, 1, none⟩ = some (.int .i64 s.x) := B0.out.cell 1
  have k2 : W1.cell? ⟨w.heap.size, 2, none⟩ = some (.int .i64 s.y) := B0.out.cell 2
  have k3 : W1.cell? ⟨w.heap.size, 3, none⟩ = some (.int .i64 s.xx) := B0.out.cell 3
  have k4 : W1.cell? ⟨w.heap.size, 4, none⟩ = some (.int .i64 s.xy) := B0.out.cell 4
  have g0 := B1.out.free 0
  have g1 := B1.out.free 1
  have j0 : W1.cell? ⟨w.heap.size + 1, 0, none⟩ = some (.int .i64 0) := B1.out.cell 0
  have j1 : W1.cell? ⟨w.heap.size + 1, 1, none⟩ = some (.int .i64 0) := B1.out.cell 1
  go_wp2_with (go_at_call 123; refine (HO.out _).mono ?_; rintro e W2 ⟨rfl, hx⟩; have X2 := Lib.hid hx; clear hx k1 k2 k3 k4; refine Hid.out ?_)
  refine Lib.hid ?_
  have B2 := Lib.hid (((B1.out.setSame 0 (.int .i64 sl.1)).setSame 1 (.int .i64 sl.2)).ext X2.out)
  have B3 := Lib.hid ((((K2.out.ext X1.out).setOther (p := ⟨w.heap.size + 1, 0, none⟩) (by dsimp only; omega) (.int .i64 sl.1)).setOther (p := ⟨w.heap.size + 1, 1, none⟩) (by dsimp only; omega) (.int .i64 sl.2)).ext X2.out)
  have X4 := Lib.hid (show Ext w W2 from (Ext.set (Ext.set (E0.out.trans X1.out) (p := ⟨w.heap.size + 1, 0, none⟩) (by dsimp only; omega) (.int .i64 sl.1)) (p := ⟨w.heap.size + 1, 1, none⟩) (by dsimp only; omega) (.int .i64 sl.2)).trans X2.out)
  clear g0 g1 j0 j1 B0 B1 X1 X2 K0 K1 K2 E0 HS HO
  have g0 := B3.out.free 0
  have g1 := B3.out.free 1
  have j0 : W2.cell? ⟨w.heap.size + 1 + 1, 0, none⟩ = some (.int .i64 0) := B3.out.cell 0
  have j1 : W2.cell? ⟨w.heap.size + 1 + 1, 1, none⟩ = some (.int .i64 0) := B3.out.cell 1
  go_wp2
  obtain ⟨W3, hW3⟩ : ∃ W3, W3 = (W2.setCell ⟨w.heap.size + 1 + 1, 0, none⟩ (.int .i64 of.1)).setCell ⟨w.heap.size + 1 + 1, 1, none⟩ (.int .i64 of.2) := ⟨_, rfl⟩
  rw [← hW3]
  have C2 := Lib.hid (show Blk W3 (w.heap.size + 1) 32 #[.int .i64 sl.1, .int .i64 sl.2] by rw [hW3]; exact (B2.out.setOther (by dsimp only; omega) _).setOther (by dsimp only; omega) _)
  have C3 := Lib.hid (show Blk W3 (w.heap.size + 1 + 1) 32 #[.int .i64 of.1, .int .i64 of.2] by rw [hW3]; exact (B3.out.setSame 0 _).setSame 1 _)
  have X5 := Lib.hid (show Ext w W3 by rw [hW3]; exact Ext.set (Ext.set X4.out (by dsimp only; omega) _) (by dsimp only; omega) _)
  clear hW3 g0 g1 j0 j1 B2 B3 X4
  have q20 : W3.cell? ⟨w.heap.size + 1, 0, none⟩ = some (.int .i64 (sl.1)) := C2.out.cell 0
  have q21 : W3.cell? ⟨w.heap.size + 1, 1, none⟩ = some (.int .i64 (sl.2)) := C2.out.cell 1
  have q30 : W3.cell? ⟨w.heap.size + 1 + 1, 0, none⟩ = some (.int .i64 (of.1)) := C3.out.cell 0
  have q31 : W3.cell? ⟨w.heap.size + 1 + 1, 1, none⟩ = some (.int .i64 (of.2)) := C3.out.cell 1
  have f20 := C2.out.free 0
  have f21 := C2.out.free 1
  have f30 := C3.out.free 0
  have f31 := C3.out.free 1
  go_region
  go_wp2
  exact bodyPost_ret (v := .tuple #[.agg #[.int .i64 sl.1, .int .i64 sl.2], .agg #[.int .i64 of.1, .int .i64 of.2]]) (by simp [results, Try.f115, go_sem, q20, q21, q30, q31]) rfl ⟨rfl, (Ext.set (Ext.set (Ext.set (Ext.set (X5.out) (by dsimp only; omega) _) (by dsimp only; omega) _) (by dsimp only; omega) _) (by dsimp only; omega) _).trans (Ext.drew _)⟩

end Go.Proofs.Ytmddnpagfgilcaa
