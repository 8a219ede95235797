/- Errors of states and picks: the reference. -/
import Derived.Test.YtkmekbafjnlfkaaGreatS26

namespace Go.Proofs.YtkmekbafjnlfkaaGreat
open Go.RowKit Go.Shelf Go.Mem Go.RegInv
attribute [local go_sem] RelUpon_value RelUpon_skip RelUpon_enter BigFrame.eval_const BigFrame.eval_global BigFrame.eval_func

theorem outB_not (lo hi x : Int) : outB lo hi x = !withinB x lo hi := by
  unfold outB withinB
  by_cases h1 : lo ≤ x <;> by_cases h2 : x ≤ hi <;> simp [h1, h2] <;> omega
theorem rangeE_one (lo hi x : Int) : rangeE lo hi [x] = if withinB x lo hi = true then 0 else 2 := by
  unfold rangeE
  simp only [List.any_cons, List.any_nil, Bool.or_false, outB_not]
  cases withinB x lo hi <;> rfl
theorem pickE_eq (h c d : Int) : pickE h c d = if withinB h 0 1000 = true then (if withinB c 0 1000 = true then (if withinB d 0 1000 = true then 0 else 2) else 2) else 2 := by
  unfold pickE rangeE
  simp only [List.any_cons, List.any_nil, Bool.or_false, outB_not]
  cases withinB h 0 1000 <;> cases withinB c 0 1000 <;> cases withinB d 0 1000 <;> rfl
set_option maxRecDepth 100000 in
set_option maxHeartbeats 1000000 in
theorem pickErr_any (h c d : Int) (w : World) : Calls Tryz.prog 21 #[.agg #[.int .i64 h, .int .i64 c, .int .i64 d]] w fun e w' => e = .returned (.int .i64 (pickE h c d)) ∧ Ext w w' := by
  have HE := Lib.hid (pickE_eq h c d)
  generalize pickE h c d = z at HE ⊢
  have H1 := Lib.hid (fun W => within_any h 0 1000 W)
  have H2 := Lib.hid (fun W => within_any c 0 1000 W)
  have H3 := Lib.hid (fun W => within_any d 0 1000 W)
  obtain ⟨b1, hb1⟩ : ∃ b, b = withinB h 0 1000 := ⟨_, rfl⟩
  obtain ⟨b2, hb2⟩ : ∃ b, b = withinB c 0 1000 := ⟨_, rfl⟩
  obtain ⟨b3, hb3⟩ : ∃ b, b = withinB d 0 1000 := ⟨_, rfl⟩
  rw [← hb1, ← hb2, ← hb3] at HE
  rw [← hb1] at H1
  rw [← hb2] at H2
  rw [← hb3] at H3
  clear hb1 hb2 hb3
  cases b1 with
  | false =>
    go_enter Tryz.func21, Tryz.ntmps21
    go_wp2_with (go_at_call 34; refine (H1.out _).mono ?_; rintro e W1 ⟨rfl, hx⟩; have X1 := Lib.hid hx; clear hx)
    go_ret
    exact ⟨ret_int (by rw [HE.out]; rfl), (Ext.alloc _ _).trans X1.out⟩
  | true =>
    cases b2 with
    | false =>
      go_enter Tryz.func21, Tryz.ntmps21
      go_wp2_with (go_at_call 34; refine (H1.out _).mono ?_; rintro e W1 ⟨rfl, hx⟩; have X1 := Lib.hid hx; have y1W1 : W1.cell? ⟨w.heap.size, 1, none⟩ = some (.int .i64 c) := ((Blk.new w 32 #[.int .i64 h, .int .i64 c, .int .i64 d]).ext hx).cell 1; clear hx H1; refine Hid.out ?_)
      refine Lib.hid ?_
      go_wp2_with (go_at_call 34; refine (H2.out _).mono ?_; rintro e W2 ⟨rfl, hx⟩; have X2 := Lib.hid hx; clear hx)
      go_ret
      exact ⟨ret_int (by rw [HE.out]; rfl), ((Ext.alloc _ _).trans X1.out).trans X2.out⟩
    | true =>
      cases b3
      all_goals
        go_enter Tryz.func21, Tryz.ntmps21
        go_wp2_with (go_at_call 34; refine (H1.out _).mono ?_; rintro e W1 ⟨rfl, hx⟩; have X1 := Lib.hid hx; have y1W1 : W1.cell? ⟨w.heap.size, 1, none⟩ = some (.int .i64 c) := ((Blk.new w 32 #[.int .i64 h, .int .i64 c, .int .i64 d]).ext hx).cell 1; clear hx H1; refine Hid.out ?_)
        refine Lib.hid ?_
        go_wp2_with (go_at_call 34; refine (H2.out _).mono ?_; rintro e W2 ⟨rfl, hx⟩; have X2 := Lib.hid hx; have y2W2 : W2.cell? ⟨w.heap.size, 2, none⟩ = some (.int .i64 d) := ((Blk.new w 32 #[.int .i64 h, .int .i64 c, .int .i64 d]).ext (X1.out.trans hx)).cell 2; clear hx H2; refine Hid.out ?_)
        refine Lib.hid ?_
        go_wp2_with (go_at_call 34; refine (H3.out _).mono ?_; rintro e W3 ⟨rfl, hx⟩; have X3 := Lib.hid hx; clear hx)
        go_ret
        exact ⟨ret_int (by rw [HE.out]; rfl), (((Ext.alloc _ _).trans X1.out).trans X2.out).trans X3.out⟩
theorem isKelvin_any (k : Int) (w : World) : Calls Tryz.prog 98 #[.int .i64 k] w fun e w' => e = .returned (.bool (withinB k 1 3000)) ∧ Ext w w' := by
  have H1 := Lib.hid (fun W => within_any k 1 3000 W)
  generalize withinB k 1 3000 = z at H1 ⊢
  go_enter Tryz.func98, Tryz.ntmps98
  go_wp2_with (go_at_call 34; refine (H1.out _).mono ?_; rintro e W1 ⟨rfl, hx⟩; have X1 := Lib.hid hx; clear hx)
  go_ret
  exact ⟨rfl, X1.out⟩
def partB (r : Rg) : Bool := withinB r.lo 0 1000000 && withinB r.hi 0 1000000
set_option maxRecDepth 100000 in
theorem part_any (r : Rg) (w : World) : Calls Tryz.prog 129 #[.agg #[.int .i64 r.lo, .int .i64 r.hi]] w fun e w' => e = .returned (.bool (partB r)) ∧ Ext w w' := by
  have HE := Lib.hid (show partB r = (withinB r.lo 0 1000000 && withinB r.hi 0 1000000) from rfl)
  generalize partB r = z at HE ⊢
  have H1 := Lib.hid (fun W => within_any r.lo 0 1000000 W)
  have H2 := Lib.hid (fun W => within_any r.hi 0 1000000 W)
  obtain ⟨b1, hb1⟩ : ∃ b, b = withinB r.lo 0 1000000 := ⟨_, rfl⟩
  obtain ⟨b2, hb2⟩ : ∃ b, b = withinB r.hi 0 1000000 := ⟨_, rfl⟩
  rw [← hb1, ← hb2] at HE
  rw [← hb1] at H1
  rw [← hb2] at H2
  clear hb1 hb2
  cases b1 with
  | false =>
    go_enter Tryz.func129, Tryz.ntmps129
    go_wp2_with (go_at_call 34; refine (H1.out _).mono ?_; rintro e W1 ⟨rfl, hx⟩; have X1 := Lib.hid hx; clear hx)
    go_ret
    exact ⟨by rw [HE.out]; rfl, (Ext.alloc _ _).trans X1.out⟩
  | true =>
    go_enter Tryz.func129, Tryz.ntmps129
    go_wp2_with (go_at_call 34; refine (H1.out _).mono ?_; rintro e W1 ⟨rfl, hx⟩; have X1 := Lib.hid hx; have y1 : W1.cell? ⟨w.heap.size, 1, none⟩ = some (.int .i64 r.hi) := ((Blk.new w 66 #[.int .i64 r.lo, .int .i64 r.hi]).ext hx).cell 1; clear hx H1; refine Hid.out ?_)
    refine Lib.hid ?_
    go_wp2_with (go_at_call 34; refine (H2.out _).mono ?_; rintro e W2 ⟨rfl, hx⟩; have X2 := Lib.hid hx; clear hx)
    go_ret
    exact ⟨by rw [HE.out]; simp, ((Ext.alloc _ _).trans X1.out).trans X2.out⟩
theorem stateE_eq (p a b m wt g t : Int) : stateE [p, a, b, m, wt, g, t] = if [p, a, b, m, wt].all (fun x => withinB x 0 1000000) = true then (if withinB g 0 100000 = true then (if withinB t 0 1000000 = true then (if p + a + b + m = 1000000 then 0 else 3) else 2) else 2) else 2 := by
  have e (i : Nat) (x : Int) (L : Int) (hx : [p, a, b, m, wt, g, t].getD i 0 = x) (hl : lims.getD i 0 = L) : stE [p, a, b, m, wt, g, t] i = if withinB x 0 L = true then 0 else 2 := by
    unfold stE
    rw [hx, hl, rangeE_one]
  simp only [stateE, firstAt, e 0 p 1000000 rfl rfl, e 1 a 1000000 rfl rfl, e 2 b 1000000 rfl rfl, e 3 m 1000000 rfl rfl, e 4 wt 1000000 rfl rfl, e 5 g 100000 rfl rfl, e 6 t 1000000 rfl rfl, List.all_cons, List.all_nil, Bool.and_true]
  cases withinB p 0 1000000 <;> simp
  cases withinB a 0 1000000 <;> simp
  cases withinB b 0 1000000 <;> simp
  cases withinB m 0 1000000 <;> simp
  cases withinB wt 0 1000000 <;> simp
  cases withinB g 0 100000 <;> simp
  cases withinB t 0 1000000 <;> simp
  by_cases h : p + a + b + m = 1000000 <;> simp [errIf, h]

end Go.Proofs.YtkmekbafjnlfkaaGreat
