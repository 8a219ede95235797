/- SteelRuled: many knots. -/
import Derived.Test.YtkmekbafjnlfkaaGreatS36

namespace Go.Proofs.YtkmekbafjnlfkaaGreat
open Go.RowKit Go.Shelf Go.Mem Go.RegInv
attribute [local go_sem] RelUpon_value RelUpon_skip RelUpon_enter BigFrame.eval_const BigFrame.eval_global BigFrame.eval_func

set_option maxRecDepth 100000 in
set_option maxHeartbeats 1000000 in
theorem steelRuled_few (r : Ru) (A0 A1 A2 A3 : Option Addr) (n0 n1 n2 n3 c0 c1 c2 c3 : Nat) (w : World) (s : St) (k : Pk) (h10 : ¬ (n0 ≤ 10 ∧ n1 ≤ 10 ∧ n2 ≤ 10 ∧ n3 ≤ 10)) :
    Calls Tryz.prog 3 #[.agg #[.slice A0 n0 c0, .slice A1 n1 c1, .slice A2 n2 c2, .slice A3 n3 c3, .int .i64 r.h0, .int .i64 r.h1, .int .i64 r.h2, .int .i64 r.h3], .agg #[.int .i64 s.p, .int .i64 s.a, .int .i64 s.b, .int .i64 s.m, .int .i64 s.wt, .int .i64 s.g, .int .i64 s.t], .agg #[.int .i64 k.h, .int .i64 k.c, .int .i64 k.d]] w fun e w' => e = .returned (.bool true) ∧ Ext w w' := by
  have HFEW := Lib.hid (fun W => show Calls Tryz.prog 14 #[.agg #[.slice A0 n0 c0, .slice A1 n1 c1, .slice A2 n2 c2, .slice A3 n3 c3, .int .i64 r.h0, .int .i64 r.h1, .int .i64 r.h2, .int .i64 r.h3]] W fun e w' => e = .returned (.bool false) ∧ Ext W w' by
    have := few_any A0 A1 A2 A3 n0 n1 n2 n3 c0 c1 c2 c3 r.h0 r.h1 r.h2 r.h3 W
    rw [decide_eq_false h10] at this
    exact this)
  clear h10
  obtain ⟨W0, hW0⟩ : ∃ W0, W0 = ((w.alloc (.cells #[.slice A0 n0 c0, .slice A1 n1 c1, .slice A2 n2 c2, .slice A3 n3 c3, .int .i64 r.h0, .int .i64 r.h1, .int .i64 r.h2, .int .i64 r.h3] 28)).alloc (.cells #[.int .i64 s.p, .int .i64 s.a, .int .i64 s.b, .int .i64 s.m, .int .i64 s.wt, .int .i64 s.g, .int .i64 s.t] 30)).alloc (.cells #[.int .i64 k.h, .int .i64 k.c, .int .i64 k.d] 32) := ⟨_, rfl⟩
  have K0 := Lib.hid (show Blk W0 (w.heap.size) 28 #[.slice A0 n0 c0, .slice A1 n1 c1, .slice A2 n2 c2, .slice A3 n3 c3, .int .i64 r.h0, .int .i64 r.h1, .int .i64 r.h2, .int .i64 r.h3] by rw [hW0]; exact ((Blk.new _ _ _).alloc _).alloc _)
  have E0 := Lib.hid (show Ext w W0 by rw [hW0]; exact ((Ext.alloc _ _).trans (Ext.alloc _ _)).trans (Ext.alloc _ _))
  go_enter Tryz.func3, Tryz.ntmps3
  go_wp2_with (go_at_call 13; rw [← hW0]; refine (awake_any _).mono ?_; rintro e W1 ⟨rfl, hx⟩; have X1 := Lib.hid hx; clear hx hW0; refine Hid.out ?_)
  refine Lib.hid ?_
  have y0 : W1.cell? ⟨w.heap.size, 0, none⟩ = some (.slice A0 n0 c0) := (K0.out.ext X1.out).cell 0
  have y1 : W1.cell? ⟨w.heap.size, 1, none⟩ = some (.slice A1 n1 c1) := (K0.out.ext X1.out).cell 1
  have y2 : W1.cell? ⟨w.heap.size, 2, none⟩ = some (.slice A2 n2 c2) := (K0.out.ext X1.out).cell 2
  have y3 : W1.cell? ⟨w.heap.size, 3, none⟩ = some (.slice A3 n3 c3) := (K0.out.ext X1.out).cell 3
  have y4 : W1.cell? ⟨w.heap.size, 4, none⟩ = some (.int .i64 r.h0) := (K0.out.ext X1.out).cell 4
  have y5 : W1.cell? ⟨w.heap.size, 5, none⟩ = some (.int .i64 r.h1) := (K0.out.ext X1.out).cell 5
  have y6 : W1.cell? ⟨w.heap.size, 6, none⟩ = some (.int .i64 r.h2) := (K0.out.ext X1.out).cell 6
  have y7 : W1.cell? ⟨w.heap.size, 7, none⟩ = some (.int .i64 r.h3) := (K0.out.ext X1.out).cell 7
  go_wp2_with (go_at_call 14; refine (HFEW.out _).mono ?_; rintro e W2 ⟨rfl, hx⟩; have X2 := Lib.hid (X1.out.trans hx); clear hx)
  go_ret
  exact ⟨rfl, E0.out.trans X2.out⟩

end Go.Proofs.YtkmekbafjnlfkaaGreat
