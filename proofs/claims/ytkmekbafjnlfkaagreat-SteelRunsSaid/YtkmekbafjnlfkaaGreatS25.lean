/- The examples hold. -/
import Derived.Test.YtkmekbafjnlfkaaGreatS24

namespace Go.Proofs.YtkmekbafjnlfkaaGreat
open Go.RowKit Go.Shelf Go.Mem Go.RegInv
attribute [local go_sem] RelUpon_value RelUpon_skip RelUpon_enter BigFrame.eval_const BigFrame.eval_global BigFrame.eval_func

set_option maxRecDepth 100000 in
set_option maxHeartbeats 4000000 in
theorem awake_any (w : World) : Calls Tryz.prog 13 #[] w fun e w' => e = .returned (.bool true) ∧ Ext w w' := by
  go_enter Tryz.func13, Tryz.ntmps13
  go_wp2_with (go_at_call 68; refine (rules_any _).mono ?_; rintro e W1 ⟨u1, rfl, hx, hu⟩; have X1 := Lib.hid hx; have Hu1 := Lib.hid hu; clear hx hu; refine Hid.out ?_)
  refine Lib.hid ?_
  go_wp2_with (go_at_call 69; refine (parent_any _).mono ?_; rintro e W2 ⟨rfl, hx⟩; have X2 := Lib.hid hx; clear hx; refine Hid.out ?_)
  refine Lib.hid ?_
  go_wp2_with (go_at_call 24; refine (run1_any (Hu1.out.ext (X2.out.trans (Ext.alloc _ _))) (ints_new W2 [1100, 1200, 1200] _ (by simp))).mono ?_; rintro e W3 ⟨rfl, hx⟩; have X3 := Lib.hid hx; have Y3 := Lib.hid ((X1.out.trans X2.out).trans ((Ext.alloc _ _).trans hx)); clear hx; refine Hid.out ?_)
  refine Lib.hid ?_
  go_wp2_with (go_at_call 68; refine (rules_any _).mono ?_; rintro e W4 ⟨u2, rfl, hx, hu⟩; have X4 := Lib.hid hx; have Hu2 := Lib.hid hu; have B1 := Lib.hid ((Blk.new W3 30 #[.int .i64 0, .int .i64 1000000, .int .i64 0, .int .i64 0, .int .i64 0, .int .i64 70, .int .i64 0]).ext hx); have Y4 := Lib.hid (Y3.out.trans ((Ext.alloc _ _).trans hx)); clear hx hu; refine Hid.out ?_)
  refine Lib.hid ?_
  go_wp2_with (go_at_call 70; refine (austenite_any _).mono ?_; rintro e W5 ⟨rfl, hx⟩; have X5 := Lib.hid hx; clear hx; refine Hid.out ?_)
  refine Lib.hid ?_
  go_wp2_with (go_at_call 24; refine (run2_any (Hu2.out.ext (X5.out.trans (Ext.alloc _ _))) (ints_new W5 [450, 300] _ (by simp))).mono ?_; rintro e W6 ⟨rfl, hx⟩; have X6 := Lib.hid hx; have Z6 := Lib.hid (X5.out.trans ((Ext.alloc _ _).trans hx)); have Y6 := Lib.hid (Y4.out.trans Z6.out); have B1 := Lib.hid (B1.out.ext Z6.out); clear hx; refine Hid.out ?_)
  refine Lib.hid ?_
  go_wp2_with (go_at_call 68; refine (rules_any _).mono ?_; rintro e W7 ⟨u3, rfl, hx, hu⟩; have X7 := Lib.hid hx; have Hu3 := Lib.hid hu; have Z7 := Lib.hid ((Ext.alloc _ _).trans hx); have B2 := Lib.hid ((Blk.new W6 30 #[.int .i64 0, .int .i64 100000, .int .i64 0, .int .i64 900000, .int .i64 0, .int .i64 0, .int .i64 5]).ext hx); have B1 := Lib.hid (B1.out.ext Z7.out); have Y7 := Lib.hid (Y6.out.trans Z7.out); clear hx hu; refine Hid.out ?_)
  refine Lib.hid ?_
  go_wp2_with (go_at_call 26; refine (hard1_any Hu3.out).mono ?_; rintro e W8 ⟨rfl, hx⟩; have X8 := Lib.hid hx; clear hx; refine Hid.out ?_)
  refine Lib.hid ?_
  go_wp2_with (go_at_call 68; refine (rules_any _).mono ?_; rintro e W9 ⟨u4, rfl, hx, hu⟩; have X9 := Lib.hid hx; have Hu4 := Lib.hid hu; clear hx hu; refine Hid.out ?_)
  refine Lib.hid ?_
  go_wp2_with (go_at_call 40; refine (band1_any Hu4.out).mono ?_; rintro e W10 ⟨rfl, hx⟩; have X10 := Lib.hid hx; have Z10 := Lib.hid (X8.out.trans (X9.out.trans hx)); have B1 := Lib.hid (B1.out.ext Z10.out); have B2 := Lib.hid (B2.out.ext Z10.out); have Y10 := Lib.hid (Y7.out.trans Z10.out); clear hx; refine Hid.out ?_)
  refine Lib.hid ?_
  go_wp2_with (go_at_call 55; refine (case1_any (rows_blk (g := W10.heap.size + 1) (e := 66) (cs := #[.int .i64 700, .int .i64 750, .int .i64 500, .int .i64 600, .int .i64 200, .int .i64 250]) (Blk.newAt _ _ _ (by simp)) (fun _ => rfl) rfl rfl (by decide))).mono ?_; rintro e W11 ⟨rfl, hx⟩; have X11 := Lib.hid hx; have Z11 := Lib.hid ((Ext.alloc _ _).trans ((Ext.alloc _ _).trans hx)); have B1 := Lib.hid (B1.out.ext Z11.out); have B2 := Lib.hid (B2.out.ext Z11.out); have B3 := Lib.hid ((Blk.alloc (Blk.new W10 66 #[.int .i64 250, .int .i64 265]) _).ext hx); have Y11 := Lib.hid (Y10.out.trans Z11.out); clear hx; refine Hid.out ?_)
  refine Lib.hid ?_
  have p0 : ∀ o, (W11.alloc o).cell? ⟨W3.heap.size, 0, none⟩ = some (.int .i64 0) := fun o => (B1.out.alloc o).cell 0
  have p1 : ∀ o, (W11.alloc o).cell? ⟨W3.heap.size, 1, none⟩ = some (.int .i64 1000000) := fun o => (B1.out.alloc o).cell 1
  have p2 : ∀ o, (W11.alloc o).cell? ⟨W3.heap.size, 2, none⟩ = some (.int .i64 0) := fun o => (B1.out.alloc o).cell 2
  have p3 : ∀ o, (W11.alloc o).cell? ⟨W3.heap.size, 3, none⟩ = some (.int .i64 0) := fun o => (B1.out.alloc o).cell 3
  have p4 : ∀ o, (W11.alloc o).cell? ⟨W3.heap.size, 4, none⟩ = some (.int .i64 0) := fun o => (B1.out.alloc o).cell 4
  have p5 : ∀ o, (W11.alloc o).cell? ⟨W3.heap.size, 5, none⟩ = some (.int .i64 70) := fun o => (B1.out.alloc o).cell 5
  have p6 : ∀ o, (W11.alloc o).cell? ⟨W3.heap.size, 6, none⟩ = some (.int .i64 0) := fun o => (B1.out.alloc o).cell 6
  have q0 : ∀ o, (W11.alloc o).cell? ⟨W6.heap.size, 0, none⟩ = some (.int .i64 0) := fun o => (B2.out.alloc o).cell 0
  have q1 : ∀ o, (W11.alloc o).cell? ⟨W6.heap.size, 1, none⟩ = some (.int .i64 100000) := fun o => (B2.out.alloc o).cell 1
  have q2 : ∀ o, (W11.alloc o).cell? ⟨W6.heap.size, 2, none⟩ = some (.int .i64 0) := fun o => (B2.out.alloc o).cell 2
  have q3 : ∀ o, (W11.alloc o).cell? ⟨W6.heap.size, 3, none⟩ = some (.int .i64 900000) := fun o => (B2.out.alloc o).cell 3
  have q4 : ∀ o, (W11.alloc o).cell? ⟨W6.heap.size, 4, none⟩ = some (.int .i64 0) := fun o => (B2.out.alloc o).cell 4
  have q5 : ∀ o, (W11.alloc o).cell? ⟨W6.heap.size, 5, none⟩ = some (.int .i64 0) := fun o => (B2.out.alloc o).cell 5
  have q6 : ∀ o, (W11.alloc o).cell? ⟨W6.heap.size, 6, none⟩ = some (.int .i64 5) := fun o => (B2.out.alloc o).cell 6
  have s0 : ∀ o, (W11.alloc o).cell? ⟨W10.heap.size, 0, none⟩ = some (.int .i64 250) := fun o => (B3.out.alloc o).cell 0
  have s1 : ∀ o, (W11.alloc o).cell? ⟨W10.heap.size, 1, none⟩ = some (.int .i64 265) := fun o => (B3.out.alloc o).cell 1
  clear X1 X2 X3 X4 X5 X6 X7 X8 X9 X10 X11 Y3 Y4 Y6 Y7 Y10 Z6 Z7 Z10 Z11 B1 B2 B3 Hu1 Hu2 Hu3 Hu4
  go_wp2
  go_ret
  exact ⟨rfl, Y11.out.trans (Ext.alloc _ _)⟩

end Go.Proofs.YtkmekbafjnlfkaaGreat
