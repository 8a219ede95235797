/- Stepped. -/
import Derived.Test.YtkmekbafjnlfkaaGreatS43

namespace Go.Proofs.YtkmekbafjnlfkaaGreat
open Go.RowKit Go.Shelf Go.Mem Go.RegInv
attribute [local go_sem] RelUpon_value RelUpon_skip RelUpon_enter BigFrame.eval_const BigFrame.eval_global BigFrame.eval_func

set_option maxRecDepth 100000 in
set_option maxHeartbeats 2000000 in
theorem stepped_any {r : Ru} {u : Value} {w : World} (hR : RuV r u w) (s : St) (k : Pk) (x : Int) :
    Calls Tryz.prog 23 #[u, .agg #[.int .i64 s.p, .int .i64 s.a, .int .i64 s.b, .int .i64 s.m, .int .i64 s.wt, .int .i64 s.g, .int .i64 s.t], .agg #[.int .i64 x, .int .i64 k.h, .int .i64 k.c, .int .i64 k.d]] w fun e w' => e = .returned (.tuple #[.agg #[.int .i64 (if runE r s [x] k = 0 then tickK r k s x else ⟨0, 0, 0, 0, 0, 0, 0⟩).p, .int .i64 (if runE r s [x] k = 0 then tickK r k s x else ⟨0, 0, 0, 0, 0, 0, 0⟩).a, .int .i64 (if runE r s [x] k = 0 then tickK r k s x else ⟨0, 0, 0, 0, 0, 0, 0⟩).b, .int .i64 (if runE r s [x] k = 0 then tickK r k s x else ⟨0, 0, 0, 0, 0, 0, 0⟩).m, .int .i64 (if runE r s [x] k = 0 then tickK r k s x else ⟨0, 0, 0, 0, 0, 0, 0⟩).wt, .int .i64 (if runE r s [x] k = 0 then tickK r k s x else ⟨0, 0, 0, 0, 0, 0, 0⟩).g, .int .i64 (if runE r s [x] k = 0 then tickK r k s x else ⟨0, 0, 0, 0, 0, 0, 0⟩).t], .int .i64 (runE r s [x] k)]) ∧ Ext w w' := by
  have HR := Lib.hid hR
  obtain ⟨A0, A1, A2, A3, n0, n1, n2, n3, c0, c1, c2, c3, rfl, -⟩ := hR
  obtain ⟨W0, hW0⟩ : ∃ W0, W0 = (((w.alloc (.cells #[.slice A0 n0 c0, .slice A1 n1 c1, .slice A2 n2 c2, .slice A3 n3 c3, .int .i64 r.h0, .int .i64 r.h1, .int .i64 r.h2, .int .i64 r.h3] 28)).alloc (.cells #[.int .i64 s.p, .int .i64 s.a, .int .i64 s.b, .int .i64 s.m, .int .i64 s.wt, .int .i64 s.g, .int .i64 s.t] 30)).alloc (.cells #[.int .i64 x, .int .i64 k.h, .int .i64 k.c, .int .i64 k.d] 53)).alloc (.cells #[.int .i64 0, .int .i64 0, .int .i64 0, .int .i64 0, .int .i64 0, .int .i64 0, .int .i64 0] 30) := ⟨_, rfl⟩
  have K3 := Lib.hid (show Blk W0 (w.heap.size + 1 + 1 + 1) 30 #[.int .i64 0, .int .i64 0, .int .i64 0, .int .i64 0, .int .i64 0, .int .i64 0, .int .i64 0] by rw [hW0]; exact Blk.newAt _ _ _ (by simp))
  have E0 := Lib.hid (show Ext w W0 by rw [hW0]; exact (((Ext.alloc _ _).trans (Ext.alloc _ _)).trans (Ext.alloc _ _)).trans (Ext.alloc _ _))
  have hsz : W0.heap.size = w.heap.size + 1 + 1 + 1 + 1 := by rw [hW0]; simp
  have hx0 : IntsAt (W0.alloc (.cells #[.int .i64 x] 3)) (.slice (some ⟨w.heap.size + 1 + 1 + 1 + 1, 0, none⟩) 1 1) [x] := by
    have h := ints_new W0 [x] 3 (by simp)
    rw [hsz] at h
    exact h
  have HC := Lib.hid (runOf_any (HR.out.ext (E0.out.trans (Ext.alloc _ (.cells #[.int .i64 x] 3)))) rulesOK s k hx0)
  clear hsz hx0
  have HT := Lib.hid (show runK r k s [x] = tickK r k s x from rfl)
  rw [HT.out] at HC
  generalize runE r s [x] k = ez at HC ⊢
  obtain ⟨fz, hfz⟩ : ∃ fz, fz = if ez = 0 then tickK r k s x else ⟨0, 0, 0, 0, 0, 0, 0⟩ := ⟨_, rfl⟩
  rw [← hfz] at HC
  rw [← hfz]
  clear hfz HT HR
  go_enter Tryz.func23, Tryz.ntmps23
  go_wp2_with (go_at_call 24; rw [← hW0]; refine HC.out.mono ?_; rintro e W2 ⟨rfl, hx⟩; have X2 := Lib.hid ((Ext.alloc _ _).trans hx); have kk := K3.out.ext X2.out; have z0 : W2.cell? ⟨w.heap.size + 1 + 1 + 1, 0, none⟩ = some (.int .i64 0) := kk.cell 0; have zf0 := kk.free 0; have z1 : W2.cell? ⟨w.heap.size + 1 + 1 + 1, 1, none⟩ = some (.int .i64 0) := kk.cell 1; have zf1 := kk.free 1; have z2 : W2.cell? ⟨w.heap.size + 1 + 1 + 1, 2, none⟩ = some (.int .i64 0) := kk.cell 2; have zf2 := kk.free 2; have z3 : W2.cell? ⟨w.heap.size + 1 + 1 + 1, 3, none⟩ = some (.int .i64 0) := kk.cell 3; have zf3 := kk.free 3; have z4 : W2.cell? ⟨w.heap.size + 1 + 1 + 1, 4, none⟩ = some (.int .i64 0) := kk.cell 4; have zf4 := kk.free 4; have z5 : W2.cell? ⟨w.heap.size + 1 + 1 + 1, 5, none⟩ = some (.int .i64 0) := kk.cell 5; have zf5 := kk.free 5; have z6 : W2.cell? ⟨w.heap.size + 1 + 1 + 1, 6, none⟩ = some (.int .i64 0) := kk.cell 6; have zf6 := kk.free 6; clear hx kk)
  exact bodyPost_ret (v := .tuple #[.agg #[.int .i64 fz.p, .int .i64 fz.a, .int .i64 fz.b, .int .i64 fz.m, .int .i64 fz.wt, .int .i64 fz.g, .int .i64 fz.t], .int .i64 ez]) (by simp [results, Tryz.f23, go_sem, z0, z1, z2, z3, z4, z5, z6]) rfl
    ⟨rfl, Ext.set (Ext.set (Ext.set (Ext.set (Ext.set (Ext.set (Ext.set (E0.out.trans X2.out) (by dsimp only; omega) _) (by dsimp only; omega) _) (by dsimp only; omega) _) (by dsimp only; omega) _) (by dsimp only; omega) _) (by dsimp only; omega) _) (by dsimp only; omega) _⟩

end Go.Proofs.YtkmekbafjnlfkaaGreat
