/- InspectSamples. -/
import Derived.Test.YtmddnpagfgilcaaE5
import Derived.Test.YtmddnpagfgilcaaC5
import Derived.Test.YtmddnpagfgilcaaD1
import Derived.Lib.MinMax

namespace Go.Proofs.Ytmddnpagfgilcaa
open Go.RowKit Go.Shelf Go.Mem Go.RegInv
attribute [local go_sem] RelUpon_value RelUpon_skip RelUpon_enter BigFrame.eval_const BigFrame.eval_global BigFrame.eval_func

set_option maxRecDepth 100000 in
set_option maxHeartbeats 4000000 in
theorem samples_11 (L s a b r : Int) (w : World) (hL : withinB L 1 30 = false) (hp : planE L s a ≠ 0) : Calls Try.prog 11 #[.agg #[.int .i64 L, .int .i64 s, .int .i64 a], .int .i64 b, .int .i64 r] w fun e w' => e = .returned (.bool true) ∧ Ext w w' := by
  have hL0 : lotE L = if withinB L 1 30 = true then 0 else 2 := rangeE_one 1 30 L
  rw [hL] at hL0
  have hsE : smpE L b r = 2 := by unfold smpE; rw [hL0]; rfl
  have HSF := Lib.hid (fun W => show Calls Try.prog 61 #[.int .i64 L, .int .i64 b, .int .i64 r] W fun e w' => e = .returned (.tuple #[.int .i64 0, .int .i64 2]) ∧ Ext W w' from by
    have := sampleFor_bad L b r (by rw [hsE]; decide) W
    rw [hsE] at this
    exact this)
  have haE : accE L s a b = planE L s a := by unfold accE; rw [firstE, if_pos hp]
  have HAO := Lib.hid (fun W => show Calls Try.prog 59 #[.agg #[.int .i64 L, .int .i64 s, .int .i64 a], .int .i64 b] W fun e w' => e = .returned (.tuple #[.agg #[.int .i64 0, .int .i64 0], .int .i64 (planE L s a)]) ∧ Ext W w' from by
    have := accOf_bad L s a b (by rw [haE]; exact hp) W
    rw [haE] at this
    exact this)
  have HCU := Lib.hid (fun W => curveOf_bad L s a hp W)
  have HPL := Lib.hid (fun W => refPlanErr_any L s a W)
  have hp2 : (planE L s a != 0) = true := by simp [hp]
  generalize planE L s a = zp at *
  have HWI := Lib.hid (fun W => within_any L 1 30 W)
  rw [hL] at HWI
  clear hL hL0 hsE hp haE
  go_enter Try.func11, Try.ntmps11
  go_wp2_with (go_at_call 13; refine (awake_any _).mono ?_; rintro e W1 ⟨rfl, hx⟩; have X1 := Lib.hid ((Ext.alloc _ _).trans hx); have P := Lib.hid ((Blk.new w 104 #[.int .i64 L, .int .i64 s, .int .i64 a]).ext hx); clear hx; refine Hid.out ?_)
  refine Lib.hid ?_
  have yP0 : W1.cell? ⟨w.heap.size, 0, none⟩ = some (.int .i64 (L)) := P.out.cell 0
  have yP1 : W1.cell? ⟨w.heap.size, 1, none⟩ = some (.int .i64 (s)) := P.out.cell 1
  have yP2 : W1.cell? ⟨w.heap.size, 2, none⟩ = some (.int .i64 (a)) := P.out.cell 2
  go_wp2_with (go_at_call 59; refine (HAO.out _).mono ?_; rintro e W2 ⟨rfl, hx⟩; clear yP0 yP1 yP2; have X2 := Lib.hid (X1.out.trans (hx.trans (Ext.alloc W2 (.cells #[.int .i64 0, .int .i64 0] 32)))); have P := Lib.hid ((P.out.ext hx).alloc (.cells #[.int .i64 0, .int .i64 0] 32)); have Q := Lib.hid (Blk.new W2 32 #[.int .i64 0, .int .i64 0]); clear hx; refine Hid.out ?_)
  refine Lib.hid ?_
  have yP0 : (W2.alloc (.cells #[.int .i64 0, .int .i64 0] 32)).cell? ⟨w.heap.size, 0, none⟩ = some (.int .i64 (L)) := P.out.cell 0
  have yP1 : (W2.alloc (.cells #[.int .i64 0, .int .i64 0] 32)).cell? ⟨w.heap.size, 1, none⟩ = some (.int .i64 (s)) := P.out.cell 1
  have yP2 : (W2.alloc (.cells #[.int .i64 0, .int .i64 0] 32)).cell? ⟨w.heap.size, 2, none⟩ = some (.int .i64 (a)) := P.out.cell 2
  have yQ0 : (W2.alloc (.cells #[.int .i64 0, .int .i64 0] 32)).cell? ⟨W2.heap.size, 0, none⟩ = some (.int .i64 (0)) := Q.out.cell 0
  have yQ1 : (W2.alloc (.cells #[.int .i64 0, .int .i64 0] 32)).cell? ⟨W2.heap.size, 1, none⟩ = some (.int .i64 (0)) := Q.out.cell 1
  go_wp2_with (first
    | (go_at_call 60; refine (HCU.out _).mono ?_; rintro e W3 ⟨rfl, hx⟩; clear yP0 yP1 yP2 yQ0 yQ1; have X3 := Lib.hid (X2.out.trans hx); have P := Lib.hid (P.out.ext hx); have Q := Lib.hid (Q.out.ext hx); clear hx; refine Hid.out ?_))
  refine Lib.hid ?_
  have yP0 : W3.cell? ⟨w.heap.size, 0, none⟩ = some (.int .i64 (L)) := P.out.cell 0
  have yP1 : W3.cell? ⟨w.heap.size, 1, none⟩ = some (.int .i64 (s)) := P.out.cell 1
  have yP2 : W3.cell? ⟨w.heap.size, 2, none⟩ = some (.int .i64 (a)) := P.out.cell 2
  have yQ0 : W3.cell? ⟨W2.heap.size, 0, none⟩ = some (.int .i64 (0)) := Q.out.cell 0
  have yQ1 : W3.cell? ⟨W2.heap.size, 1, none⟩ = some (.int .i64 (0)) := Q.out.cell 1
  go_wp2_with (first
    | (go_at_call 61; refine (HSF.out _).mono ?_; rintro e W4 ⟨rfl, hx⟩; clear yP0 yP1 yP2 yQ0 yQ1; have X4 := Lib.hid (X3.out.trans hx); have P := Lib.hid (P.out.ext hx); have Q := Lib.hid (Q.out.ext hx); clear hx; refine Hid.out ?_))
  refine Lib.hid ?_
  have yP0 : W4.cell? ⟨w.heap.size, 0, none⟩ = some (.int .i64 (L)) := P.out.cell 0
  have yP1 : W4.cell? ⟨w.heap.size, 1, none⟩ = some (.int .i64 (s)) := P.out.cell 1
  have yP2 : W4.cell? ⟨w.heap.size, 2, none⟩ = some (.int .i64 (a)) := P.out.cell 2
  have yQ0 : W4.cell? ⟨W2.heap.size, 0, none⟩ = some (.int .i64 (0)) := Q.out.cell 0
  have yQ1 : W4.cell? ⟨W2.heap.size, 1, none⟩ = some (.int .i64 (0)) := Q.out.cell 1
  go_wp2_with (first
    | (go_at_call 20; (with_reducible refine (HWI.out _).mono ?_); rintro e w' ⟨rfl, rfl⟩)
    | (go_at_call 64; refine (HPL.out _).mono ?_; rintro e W5 ⟨rfl, hx⟩; clear yP0 yP1 yP2 yQ0 yQ1; have X5 := Lib.hid (X4.out.trans hx); have P := Lib.hid (P.out.ext hx); have Q := Lib.hid (Q.out.ext hx); clear hx; refine Hid.out ?_))
  refine Lib.hid ?_
  have yP0 : W5.cell? ⟨w.heap.size, 0, none⟩ = some (.int .i64 (L)) := P.out.cell 0
  have yP1 : W5.cell? ⟨w.heap.size, 1, none⟩ = some (.int .i64 (s)) := P.out.cell 1
  have yP2 : W5.cell? ⟨w.heap.size, 2, none⟩ = some (.int .i64 (a)) := P.out.cell 2
  have yQ0 : W5.cell? ⟨W2.heap.size, 0, none⟩ = some (.int .i64 (0)) := Q.out.cell 0
  have yQ1 : W5.cell? ⟨W2.heap.size, 1, none⟩ = some (.int .i64 (0)) := Q.out.cell 1
  go_wp2
  go_ret
  exact ⟨rfl, X5.out⟩
set_option maxRecDepth 100000 in
set_option maxHeartbeats 4000000 in
theorem samples_21 (L s a b r : Int) (w : World) (hL : withinB L 1 30 = true) (hb : badE L b ≠ 0) (hp : planE L s a ≠ 0) : Calls Try.prog 11 #[.agg #[.int .i64 L, .int .i64 s, .int .i64 a], .int .i64 b, .int .i64 r] w fun e w' => e = .returned (.bool true) ∧ Ext w w' := by
  have hL0 : lotE L = if withinB L 1 30 = true then 0 else 2 := rangeE_one 1 30 L
  rw [hL] at hL0
  have hsE : smpE L b r = (badE L b) := by unfold smpE; rw [hL0, firstE, if_neg (by decide), firstE, if_pos hb]
  have HSF := Lib.hid (fun W => show Calls Try.prog 61 #[.int .i64 L, .int .i64 b, .int .i64 r] W fun e w' => e = .returned (.tuple #[.int .i64 0, .int .i64 (badE L b)]) ∧ Ext W w' from by
    have := sampleFor_bad L b r (by rw [hsE]; exact hb) W
    rw [hsE] at this
    exact this)
  have haE : accE L s a b = planE L s a := by unfold accE; rw [firstE, if_pos hp]
  have HAO := Lib.hid (fun W => show Calls Try.prog 59 #[.agg #[.int .i64 L, .int .i64 s, .int .i64 a], .int .i64 b] W fun e w' => e = .returned (.tuple #[.agg #[.int .i64 0, .int .i64 0], .int .i64 (planE L s a)]) ∧ Ext W w' from by
    have := accOf_bad L s a b (by rw [haE]; exact hp) W
    rw [haE] at this
    exact this)
  have HCU := Lib.hid (fun W => curveOf_bad L s a hp W)
  have HPL := Lib.hid (fun W => refPlanErr_any L s a W)
  have hp2 : (planE L s a != 0) = true := by simp [hp]
  generalize planE L s a = zp at *
  have HWI := Lib.hid (fun W => within_any L 1 30 W)
  rw [hL] at HWI
  have HBD := Lib.hid (fun W => refBadErr_any b L W)
  have hb2 : (badE L b != 0) = true := by simp [hb]
  have hb3 : (badE L b == 0) = false := by simp [hb]
  generalize badE L b = zb at *
  clear hL hL0 hsE hp hb haE
  go_enter Try.func11, Try.ntmps11
  go_wp2_with (go_at_call 13; refine (awake_any _).mono ?_; rintro e W1 ⟨rfl, hx⟩; have X1 := Lib.hid ((Ext.alloc _ _).trans hx); have P := Lib.hid ((Blk.new w 104 #[.int .i64 L, .int .i64 s, .int .i64 a]).ext hx); clear hx; refine Hid.out ?_)
  refine Lib.hid ?_
  have yP0 : W1.cell? ⟨w.heap.size, 0, none⟩ = some (.int .i64 (L)) := P.out.cell 0
  have yP1 : W1.cell? ⟨w.heap.size, 1, none⟩ = some (.int .i64 (s)) := P.out.cell 1
  have yP2 : W1.cell? ⟨w.heap.size, 2, none⟩ = some (.int .i64 (a)) := P.out.cell 2
  go_wp2_with (go_at_call 59; refine (HAO.out _).mono ?_; rintro e W2 ⟨rfl, hx⟩; clear yP0 yP1 yP2; have X2 := Lib.hid (X1.out.trans (hx.trans (Ext.alloc W2 (.cells #[.int .i64 0, .int .i64 0] 32)))); have P := Lib.hid ((P.out.ext hx).alloc (.cells #[.int .i64 0, .int .i64 0] 32)); have Q := Lib.hid (Blk.new W2 32 #[.int .i64 0, .int .i64 0]); clear hx; refine Hid.out ?_)
  refine Lib.hid ?_
  have yP0 : (W2.alloc (.cells #[.int .i64 0, .int .i64 0] 32)).cell? ⟨w.heap.size, 0, none⟩ = some (.int .i64 (L)) := P.out.cell 0
  have yP1 : (W2.alloc (.cells #[.int .i64 0, .int .i64 0] 32)).cell? ⟨w.heap.size, 1, none⟩ = some (.int .i64 (s)) := P.out.cell 1
  have yP2 : (W2.alloc (.cells #[.int .i64 0, .int .i64 0] 32)).cell? ⟨w.heap.size, 2, none⟩ = some (.int .i64 (a)) := P.out.cell 2
  have yQ0 : (W2.alloc (.cells #[.int .i64 0, .int .i64 0] 32)).cell? ⟨W2.heap.size, 0, none⟩ = some (.int .i64 (0)) := Q.out.cell 0
  have yQ1 : (W2.alloc (.cells #[.int .i64 0, .int .i64 0] 32)).cell? ⟨W2.heap.size, 1, none⟩ = some (.int .i64 (0)) := Q.out.cell 1
  go_wp2_with (first
    | (go_at_call 60; refine (HCU.out _).mono ?_; rintro e W3 ⟨rfl, hx⟩; clear yP0 yP1 yP2 yQ0 yQ1; have X3 := Lib.hid (X2.out.trans hx); have P := Lib.hid (P.out.ext hx); have Q := Lib.hid (Q.out.ext hx); clear hx; refine Hid.out ?_))
  refine Lib.hid ?_
  have yP0 : W3.cell? ⟨w.heap.size, 0, none⟩ = some (.int .i64 (L)) := P.out.cell 0
  have yP1 : W3.cell? ⟨w.heap.size, 1, none⟩ = some (.int .i64 (s)) := P.out.cell 1
  have yP2 : W3.cell? ⟨w.heap.size, 2, none⟩ = some (.int .i64 (a)) := P.out.cell 2
  have yQ0 : W3.cell? ⟨W2.heap.size, 0, none⟩ = some (.int .i64 (0)) := Q.out.cell 0
  have yQ1 : W3.cell? ⟨W2.heap.size, 1, none⟩ = some (.int .i64 (0)) := Q.out.cell 1
  go_wp2_with (first
    | (go_at_call 61; refine (HSF.out _).mono ?_; rintro e W4 ⟨rfl, hx⟩; clear yP0 yP1 yP2 yQ0 yQ1; have X4 := Lib.hid (X3.out.trans hx); have P := Lib.hid (P.out.ext hx); have Q := Lib.hid (Q.out.ext hx); clear hx; refine Hid.out ?_))
  refine Lib.hid ?_
  have yP0 : W4.cell? ⟨w.heap.size, 0, none⟩ = some (.int .i64 (L)) := P.out.cell 0
  have yP1 : W4.cell? ⟨w.heap.size, 1, none⟩ = some (.int .i64 (s)) := P.out.cell 1
  have yP2 : W4.cell? ⟨w.heap.size, 2, none⟩ = some (.int .i64 (a)) := P.out.cell 2
  have yQ0 : W4.cell? ⟨W2.heap.size, 0, none⟩ = some (.int .i64 (0)) := Q.out.cell 0
  have yQ1 : W4.cell? ⟨W2.heap.size, 1, none⟩ = some (.int .i64 (0)) := Q.out.cell 1
  go_wp2_with (first
    | (go_at_call 20; (with_reducible refine (HWI.out _).mono ?_); rintro e w' ⟨rfl, rfl⟩)
    | (go_at_call 62; (with_reducible refine (HBD.out _).mono ?_); rintro e w' ⟨rfl, rfl⟩)
    | (go_at_call 64; refine (HPL.out _).mono ?_; rintro e W5 ⟨rfl, hx⟩; clear yP0 yP1 yP2 yQ0 yQ1; have X5 := Lib.hid (X4.out.trans hx); have P := Lib.hid (P.out.ext hx); have Q := Lib.hid (Q.out.ext hx); clear hx; refine Hid.out ?_))
  refine Lib.hid ?_
  have yP0 : W5.cell? ⟨w.heap.size, 0, none⟩ = some (.int .i64 (L)) := P.out.cell 0
  have yP1 : W5.cell? ⟨w.heap.size, 1, none⟩ = some (.int .i64 (s)) := P.out.cell 1
  have yP2 : W5.cell? ⟨w.heap.size, 2, none⟩ = some (.int .i64 (a)) := P.out.cell 2
  have yQ0 : W5.cell? ⟨W2.heap.size, 0, none⟩ = some (.int .i64 (0)) := Q.out.cell 0
  have yQ1 : W5.cell? ⟨W2.heap.size, 1, none⟩ = some (.int .i64 (0)) := Q.out.cell 1
  go_wp2
  go_ret
  exact ⟨rfl, X5.out⟩
set_option maxRecDepth 100000 in
set_option maxHeartbeats 4000000 in
theorem samples_22 (L s a b r : Int) (w : World) (hL : withinB L 1 30 = true) (hb : badE L b ≠ 0) (hp : planE L s a = 0) : Calls Try.prog 11 #[.agg #[.int .i64 L, .int .i64 s, .int .i64 a], .int .i64 b, .int .i64 r] w fun e w' => e = .returned (.bool true) ∧ Ext w w' := by
  have hL0 : lotE L = if withinB L 1 30 = true then 0 else 2 := rangeE_one 1 30 L
  rw [hL] at hL0
  have hsE : smpE L b r = (badE L b) := by unfold smpE; rw [hL0, firstE, if_neg (by decide), firstE, if_pos hb]
  have HSF := Lib.hid (fun W => show Calls Try.prog 61 #[.int .i64 L, .int .i64 b, .int .i64 r] W fun e w' => e = .returned (.tuple #[.int .i64 0, .int .i64 (badE L b)]) ∧ Ext W w' from by
    have := sampleFor_bad L b r (by rw [hsE]; exact hb) W
    rw [hsE] at this
    exact this)
  obtain ⟨q1, q2, q3, q4, q5, q6⟩ := plan_ok hp
  have HCU := Lib.hid (fun W => show Calls Try.prog 60 #[.agg #[.int .i64 L, .int .i64 s, .int .i64 a]] W (CurvePost L.toNat s.toNat a.toNat W (some (.int .i64 0))) from by
    have := curveOf_ok L.toNat s.toNat a.toNat (by omega) (by omega) (by omega) (by omega) W
    rw [Int.toNat_of_nonneg (show 0 ≤ L by omega), Int.toNat_of_nonneg (show 0 ≤ s by omega), Int.toNat_of_nonneg (show 0 ≤ a by omega)] at this
    exact this)
  have HRC := Lib.hid (fun W => show Calls Try.prog 66 #[.agg #[.int .i64 L, .int .i64 s, .int .i64 a]] W (CurvePost L.toNat s.toNat a.toNat W none) from by
    have := refCurve_any L.toNat s.toNat a.toNat (by omega) (by omega) (by omega) (by omega) W
    rw [Int.toNat_of_nonneg (show 0 ≤ L by omega), Int.toNat_of_nonneg (show 0 ≤ s by omega), Int.toNat_of_nonneg (show 0 ≤ a by omega)] at this
    exact this)
  have HPL := Lib.hid (fun W => show Calls Try.prog 64 #[.agg #[.int .i64 L, .int .i64 s, .int .i64 a]] W fun e w' => e = .returned (.int .i64 0) ∧ Ext W w' from by
    have := refPlanErr_any L s a W
    rw [hp] at this
    exact this)
  have HLN := Lib.hid (curveK_len L.toNat s.toNat a.toNat (L.toNat + 1))
  have haE : accE L s a b = badE L b := by unfold accE; rw [hp, firstE, if_neg (by decide), firstE_one]
  have HAO := Lib.hid (fun W => show Calls Try.prog 59 #[.agg #[.int .i64 L, .int .i64 s, .int .i64 a], .int .i64 b] W fun e w' => e = .returned (.tuple #[.agg #[.int .i64 0, .int .i64 0], .int .i64 (badE L b)]) ∧ Ext W w' from by
    have := accOf_bad L s a b (by rw [haE]; exact hb) W
    rw [haE] at this
    exact this)
  have HWI := Lib.hid (fun W => within_any L 1 30 W)
  rw [hL] at HWI
  have HBD := Lib.hid (fun W => refBadErr_any b L W)
  have hb2 : (badE L b != 0) = true := by simp [hb]
  have hb3 : (badE L b == 0) = false := by simp [hb]
  generalize badE L b = zb at *
  clear hL hL0 hsE hp hb haE
  go_enter Try.func11, Try.ntmps11
  go_wp2_with (go_at_call 13; refine (awake_any _).mono ?_; rintro e W1 ⟨rfl, hx⟩; have X1 := Lib.hid ((Ext.alloc _ _).trans hx); have P := Lib.hid ((Blk.new w 104 #[.int .i64 L, .int .i64 s, .int .i64 a]).ext hx); clear hx; refine Hid.out ?_)
  refine Lib.hid ?_
  have yP0 : W1.cell? ⟨w.heap.size, 0, none⟩ = some (.int .i64 (L)) := P.out.cell 0
  have yP1 : W1.cell? ⟨w.heap.size, 1, none⟩ = some (.int .i64 (s)) := P.out.cell 1
  have yP2 : W1.cell? ⟨w.heap.size, 2, none⟩ = some (.int .i64 (a)) := P.out.cell 2
  go_wp2_with (go_at_call 59; refine (HAO.out _).mono ?_; rintro e W2 ⟨rfl, hx⟩; clear yP0 yP1 yP2; have X2 := Lib.hid (X1.out.trans (hx.trans (Ext.alloc W2 (.cells #[.int .i64 0, .int .i64 0] 32)))); have P := Lib.hid ((P.out.ext hx).alloc (.cells #[.int .i64 0, .int .i64 0] 32)); have Q := Lib.hid (Blk.new W2 32 #[.int .i64 0, .int .i64 0]); clear hx; refine Hid.out ?_)
  refine Lib.hid ?_
  have yP0 : (W2.alloc (.cells #[.int .i64 0, .int .i64 0] 32)).cell? ⟨w.heap.size, 0, none⟩ = some (.int .i64 (L)) := P.out.cell 0
  have yP1 : (W2.alloc (.cells #[.int .i64 0, .int .i64 0] 32)).cell? ⟨w.heap.size, 1, none⟩ = some (.int .i64 (s)) := P.out.cell 1
  have yP2 : (W2.alloc (.cells #[.int .i64 0, .int .i64 0] 32)).cell? ⟨w.heap.size, 2, none⟩ = some (.int .i64 (a)) := P.out.cell 2
  have yQ0 : (W2.alloc (.cells #[.int .i64 0, .int .i64 0] 32)).cell? ⟨W2.heap.size, 0, none⟩ = some (.int .i64 (0)) := Q.out.cell 0
  have yQ1 : (W2.alloc (.cells #[.int .i64 0, .int .i64 0] 32)).cell? ⟨W2.heap.size, 1, none⟩ = some (.int .i64 (0)) := Q.out.cell 1
  go_wp2_with (first
    | (go_at_call 60; refine (HCU.out _).mono ?_; rintro e W3 ⟨A1, c1, rfl, hr1, hx⟩; clear yP0 yP1 yP2 yQ0 yQ1; have X3 := Lib.hid (X2.out.trans hx); have P := Lib.hid (P.out.ext hx); have Q := Lib.hid (Q.out.ext hx); clear hx; have R1 := Lib.hid hr1; clear hr1; refine Hid.out ?_))
  refine Lib.hid ?_
  have yP0 : W3.cell? ⟨w.heap.size, 0, none⟩ = some (.int .i64 (L)) := P.out.cell 0
  have yP1 : W3.cell? ⟨w.heap.size, 1, none⟩ = some (.int .i64 (s)) := P.out.cell 1
  have yP2 : W3.cell? ⟨w.heap.size, 2, none⟩ = some (.int .i64 (a)) := P.out.cell 2
  have yQ0 : W3.cell? ⟨W2.heap.size, 0, none⟩ = some (.int .i64 (0)) := Q.out.cell 0
  have yQ1 : W3.cell? ⟨W2.heap.size, 1, none⟩ = some (.int .i64 (0)) := Q.out.cell 1
  go_wp2_with (first
    | (go_at_call 61; refine (HSF.out _).mono ?_; rintro e W4 ⟨rfl, hx⟩; clear yP0 yP1 yP2 yQ0 yQ1; have X4 := Lib.hid (X3.out.trans hx); have R1 := Lib.hid (R1.out.ext hx); have P := Lib.hid (P.out.ext hx); have Q := Lib.hid (Q.out.ext hx); clear hx; refine Hid.out ?_))
  refine Lib.hid ?_
  have yP0 : W4.cell? ⟨w.heap.size, 0, none⟩ = some (.int .i64 (L)) := P.out.cell 0
  have yP1 : W4.cell? ⟨w.heap.size, 1, none⟩ = some (.int .i64 (s)) := P.out.cell 1
  have yP2 : W4.cell? ⟨w.heap.size, 2, none⟩ = some (.int .i64 (a)) := P.out.cell 2
  have yQ0 : W4.cell? ⟨W2.heap.size, 0, none⟩ = some (.int .i64 (0)) := Q.out.cell 0
  have yQ1 : W4.cell? ⟨W2.heap.size, 1, none⟩ = some (.int .i64 (0)) := Q.out.cell 1
  go_wp2_with (first
    | (go_at_call 20; (with_reducible refine (HWI.out _).mono ?_); rintro e w' ⟨rfl, rfl⟩)
    | (go_at_call 62; (with_reducible refine (HBD.out _).mono ?_); rintro e w' ⟨rfl, rfl⟩)
    | (go_at_call 64; refine (HPL.out _).mono ?_; rintro e W5 ⟨rfl, hx⟩; clear yP0 yP1 yP2 yQ0 yQ1; have X5 := Lib.hid (X4.out.trans hx); have R1 := Lib.hid (R1.out.ext hx); have P := Lib.hid (P.out.ext hx); have Q := Lib.hid (Q.out.ext hx); clear hx; refine Hid.out ?_))
  refine Lib.hid ?_
  have yP0 : W5.cell? ⟨w.heap.size, 0, none⟩ = some (.int .i64 (L)) := P.out.cell 0
  have yP1 : W5.cell? ⟨w.heap.size, 1, none⟩ = some (.int .i64 (s)) := P.out.cell 1
  have yP2 : W5.cell? ⟨w.heap.size, 2, none⟩ = some (.int .i64 (a)) := P.out.cell 2
  have yQ0 : W5.cell? ⟨W2.heap.size, 0, none⟩ = some (.int .i64 (0)) := Q.out.cell 0
  have yQ1 : W5.cell? ⟨W2.heap.size, 1, none⟩ = some (.int .i64 (0)) := Q.out.cell 1
  go_wp2_with (first
    | (go_at_call 66; refine (HRC.out _).mono ?_; rintro e W6 ⟨A2, c2, rfl, hr2, hx⟩; clear yP0 yP1 yP2 yQ0 yQ1; have X6 := Lib.hid (X5.out.trans hx); have R1 := Lib.hid (R1.out.ext hx); have P := Lib.hid (P.out.ext hx); have Q := Lib.hid (Q.out.ext hx); clear hx; have R2 := Lib.hid hr2; clear hr2; refine Hid.out ?_))
  refine Lib.hid ?_
  have yP0 : W6.cell? ⟨w.heap.size, 0, none⟩ = some (.int .i64 (L)) := P.out.cell 0
  have yP1 : W6.cell? ⟨w.heap.size, 1, none⟩ = some (.int .i64 (s)) := P.out.cell 1
  have yP2 : W6.cell? ⟨w.heap.size, 2, none⟩ = some (.int .i64 (a)) := P.out.cell 2
  have yQ0 : W6.cell? ⟨W2.heap.size, 0, none⟩ = some (.int .i64 (0)) := Q.out.cell 0
  have yQ1 : W6.cell? ⟨W2.heap.size, 1, none⟩ = some (.int .i64 (0)) := Q.out.cell 1
  go_wp2_with (first
    | (go_at_call 65; refine (fracs_any HLN.out R1.out R2.out).mono ?_; rintro e W7 ⟨rfl, hx⟩; clear yP0 yP1 yP2 yQ0 yQ1; have X7 := Lib.hid (X6.out.trans hx); have P := Lib.hid (P.out.ext hx); have Q := Lib.hid (Q.out.ext hx); clear hx; refine Hid.out ?_))
  refine Lib.hid ?_
  have yP0 : W7.cell? ⟨w.heap.size, 0, none⟩ = some (.int .i64 (L)) := P.out.cell 0
  have yP1 : W7.cell? ⟨w.heap.size, 1, none⟩ = some (.int .i64 (s)) := P.out.cell 1
  have yP2 : W7.cell? ⟨w.heap.size, 2, none⟩ = some (.int .i64 (a)) := P.out.cell 2
  have yQ0 : W7.cell? ⟨W2.heap.size, 0, none⟩ = some (.int .i64 (0)) := Q.out.cell 0
  have yQ1 : W7.cell? ⟨W2.heap.size, 1, none⟩ = some (.int .i64 (0)) := Q.out.cell 1
  go_wp2_with (go_at_call 62; refine (HBD.out _).mono ?_; rintro e w' ⟨rfl, rfl⟩)
  go_ret
  exact ⟨rfl, X7.out⟩
set_option maxRecDepth 100000 in
set_option maxHeartbeats 4000000 in
theorem samples_31 (L s a b r : Int) (w : World) (hL : withinB L 1 30 = true) (hb : badE L b = 0) (hr : riskE r ≠ 0) (hp : planE L s a ≠ 0) : Calls Try.prog 11 #[.agg #[.int .i64 L, .int .i64 s, .int .i64 a], .int .i64 b, .int .i64 r] w fun e w' => e = .returned (.bool true) ∧ Ext w w' := by
  have hL0 : lotE L = if withinB L 1 30 = true then 0 else 2 := rangeE_one 1 30 L
  rw [hL] at hL0
  have hsE : smpE L b r = (riskE r) := by unfold smpE; rw [hL0, hb, firstE, if_neg (by decide), firstE, if_neg (by decide), firstE_one]
  have HSF := Lib.hid (fun W => show Calls Try.prog 61 #[.int .i64 L, .int .i64 b, .int .i64 r] W fun e w' => e = .returned (.tuple #[.int .i64 0, .int .i64 (riskE r)]) ∧ Ext W w' from by
    have := sampleFor_bad L b r (by rw [hsE]; exact hr) W
    rw [hsE] at this
    exact this)
  have haE : accE L s a b = planE L s a := by unfold accE; rw [firstE, if_pos hp]
  have HAO := Lib.hid (fun W => show Calls Try.prog 59 #[.agg #[.int .i64 L, .int .i64 s, .int .i64 a], .int .i64 b] W fun e w' => e = .returned (.tuple #[.agg #[.int .i64 0, .int .i64 0], .int .i64 (planE L s a)]) ∧ Ext W w' from by
    have := accOf_bad L s a b (by rw [haE]; exact hp) W
    rw [haE] at this
    exact this)
  have HCU := Lib.hid (fun W => curveOf_bad L s a hp W)
  have HPL := Lib.hid (fun W => refPlanErr_any L s a W)
  have hp2 : (planE L s a != 0) = true := by simp [hp]
  generalize planE L s a = zp at *
  have HWI := Lib.hid (fun W => within_any L 1 30 W)
  rw [hL] at HWI
  have HBD := Lib.hid (fun W => refBadErr_any b L W)
  rw [hb] at HBD
  have HRI := Lib.hid (fun W => refRiskErr_any r W)
  have hr2 : (riskE r != 0) = true := by simp [hr]
  generalize riskE r = zr at *
  clear hL hL0 hsE hp hb hr haE
  go_enter Try.func11, Try.ntmps11
  go_wp2_with (go_at_call 13; refine (awake_any _).mono ?_; rintro e W1 ⟨rfl, hx⟩; have X1 := Lib.hid ((Ext.alloc _ _).trans hx); have P := Lib.hid ((Blk.new w 104 #[.int .i64 L, .int .i64 s, .int .i64 a]).ext hx); clear hx; refine Hid.out ?_)
  refine Lib.hid ?_
  have yP0 : W1.cell? ⟨w.heap.size, 0, none⟩ = some (.int .i64 (L)) := P.out.cell 0
  have yP1 : W1.cell? ⟨w.heap.size, 1, none⟩ = some (.int .i64 (s)) := P.out.cell 1
  have yP2 : W1.cell? ⟨w.heap.size, 2, none⟩ = some (.int .i64 (a)) := P.out.cell 2
  go_wp2_with (go_at_call 59; refine (HAO.out _).mono ?_; rintro e W2 ⟨rfl, hx⟩; clear yP0 yP1 yP2; have X2 := Lib.hid (X1.out.trans (hx.trans (Ext.alloc W2 (.cells #[.int .i64 0, .int .i64 0] 32)))); have P := Lib.hid ((P.out.ext hx).alloc (.cells #[.int .i64 0, .int .i64 0] 32)); have Q := Lib.hid (Blk.new W2 32 #[.int .i64 0, .int .i64 0]); clear hx; refine Hid.out ?_)
  refine Lib.hid ?_
  have yP0 : (W2.alloc (.cells #[.int .i64 0, .int .i64 0] 32)).cell? ⟨w.heap.size, 0, none⟩ = some (.int .i64 (L)) := P.out.cell 0
  have yP1 : (W2.alloc (.cells #[.int .i64 0, .int .i64 0] 32)).cell? ⟨w.heap.size, 1, none⟩ = some (.int .i64 (s)) := P.out.cell 1
  have yP2 : (W2.alloc (.cells #[.int .i64 0, .int .i64 0] 32)).cell? ⟨w.heap.size, 2, none⟩ = some (.int .i64 (a)) := P.out.cell 2
  have yQ0 : (W2.alloc (.cells #[.int .i64 0, .int .i64 0] 32)).cell? ⟨W2.heap.size, 0, none⟩ = some (.int .i64 (0)) := Q.out.cell 0
  have yQ1 : (W2.alloc (.cells #[.int .i64 0, .int .i64 0] 32)).cell? ⟨W2.heap.size, 1, none⟩ = some (.int .i64 (0)) := Q.out.cell 1
  go_wp2_with (first
    | (go_at_call 60; refine (HCU.out _).mono ?_; rintro e W3 ⟨rfl, hx⟩; clear yP0 yP1 yP2 yQ0 yQ1; have X3 := Lib.hid (X2.out.trans hx); have P := Lib.hid (P.out.ext hx); have Q := Lib.hid (Q.out.ext hx); clear hx; refine Hid.out ?_))
  refine Lib.hid ?_
  have yP0 : W3.cell? ⟨w.heap.size, 0, none⟩ = some (.int .i64 (L)) := P.out.cell 0
  have yP1 : W3.cell? ⟨w.heap.size, 1, none⟩ = some (.int .i64 (s)) := P.out.cell 1
  have yP2 : W3.cell? ⟨w.heap.size, 2, none⟩ = some (.int .i64 (a)) := P.out.cell 2
  have yQ0 : W3.cell? ⟨W2.heap.size, 0, none⟩ = some (.int .i64 (0)) := Q.out.cell 0
  have yQ1 : W3.cell? ⟨W2.heap.size, 1, none⟩ = some (.int .i64 (0)) := Q.out.cell 1
  go_wp2_with (first
    | (go_at_call 61; refine (HSF.out _).mono ?_; rintro e W4 ⟨rfl, hx⟩; clear yP0 yP1 yP2 yQ0 yQ1; have X4 := Lib.hid (X3.out.trans hx); have P := Lib.hid (P.out.ext hx); have Q := Lib.hid (Q.out.ext hx); clear hx; refine Hid.out ?_))
  refine Lib.hid ?_
  have yP0 : W4.cell? ⟨w.heap.size, 0, none⟩ = some (.int .i64 (L)) := P.out.cell 0
  have yP1 : W4.cell? ⟨w.heap.size, 1, none⟩ = some (.int .i64 (s)) := P.out.cell 1
  have yP2 : W4.cell? ⟨w.heap.size, 2, none⟩ = some (.int .i64 (a)) := P.out.cell 2
  have yQ0 : W4.cell? ⟨W2.heap.size, 0, none⟩ = some (.int .i64 (0)) := Q.out.cell 0
  have yQ1 : W4.cell? ⟨W2.heap.size, 1, none⟩ = some (.int .i64 (0)) := Q.out.cell 1
  go_wp2_with (first
    | (go_at_call 20; (with_reducible refine (HWI.out _).mono ?_); rintro e w' ⟨rfl, rfl⟩)
    | (go_at_call 62; (with_reducible refine (HBD.out _).mono ?_); rintro e w' ⟨rfl, rfl⟩)
    | (go_at_call 57; (with_reducible refine (HRI.out _).mono ?_); rintro e w' ⟨rfl, rfl⟩)
    | (go_at_call 64; refine (HPL.out _).mono ?_; rintro e W5 ⟨rfl, hx⟩; clear yP0 yP1 yP2 yQ0 yQ1; have X5 := Lib.hid (X4.out.trans hx); have P := Lib.hid (P.out.ext hx); have Q := Lib.hid (Q.out.ext hx); clear hx; refine Hid.out ?_))
  refine Lib.hid ?_
  have yP0 : W5.cell? ⟨w.heap.size, 0, none⟩ = some (.int .i64 (L)) := P.out.cell 0
  have yP1 : W5.cell? ⟨w.heap.size, 1, none⟩ = some (.int .i64 (s)) := P.out.cell 1
  have yP2 : W5.cell? ⟨w.heap.size, 2, none⟩ = some (.int .i64 (a)) := P.out.cell 2
  have yQ0 : W5.cell? ⟨W2.heap.size, 0, none⟩ = some (.int .i64 (0)) := Q.out.cell 0
  have yQ1 : W5.cell? ⟨W2.heap.size, 1, none⟩ = some (.int .i64 (0)) := Q.out.cell 1
  go_wp2
  go_ret
  exact ⟨rfl, X5.out⟩
set_option maxRecDepth 100000 in
set_option maxHeartbeats 4000000 in
theorem samples_33 (L s a b r : Int) (w : World) (hL : withinB L 1 30 = true) (hb : badE L b = 0) (hr : riskE r ≠ 0) (hp : planE L s a = 0) : Calls Try.prog 11 #[.agg #[.int .i64 L, .int .i64 s, .int .i64 a], .int .i64 b, .int .i64 r] w fun e w' => e = .returned (.bool true) ∧ Ext w w' := by
  have hL0 : lotE L = if withinB L 1 30 = true then 0 else 2 := rangeE_one 1 30 L
  rw [hL] at hL0
  have hsE : smpE L b r = (riskE r) := by unfold smpE; rw [hL0, hb, firstE, if_neg (by decide), firstE, if_neg (by decide), firstE_one]
  have HSF := Lib.hid (fun W => show Calls Try.prog 61 #[.int .i64 L, .int .i64 b, .int .i64 r] W fun e w' => e = .returned (.tuple #[.int .i64 0, .int .i64 (riskE r)]) ∧ Ext W w' from by
    have := sampleFor_bad L b r (by rw [hsE]; exact hr) W
    rw [hsE] at this
    exact this)
  obtain ⟨q1, q2, q3, q4, q5, q6⟩ := plan_ok hp
  have HCU := Lib.hid (fun W => show Calls Try.prog 60 #[.agg #[.int .i64 L, .int .i64 s, .int .i64 a]] W (CurvePost L.toNat s.toNat a.toNat W (some (.int .i64 0))) from by
    have := curveOf_ok L.toNat s.toNat a.toNat (by omega) (by omega) (by omega) (by omega) W
    rw [Int.toNat_of_nonneg (show 0 ≤ L by omega), Int.toNat_of_nonneg (show 0 ≤ s by omega), Int.toNat_of_nonneg (show 0 ≤ a by omega)] at this
    exact this)
  have HRC := Lib.hid (fun W => show Calls Try.prog 66 #[.agg #[.int .i64 L, .int .i64 s, .int .i64 a]] W (CurvePost L.toNat s.toNat a.toNat W none) from by
    have := refCurve_any L.toNat s.toNat a.toNat (by omega) (by omega) (by omega) (by omega) W
    rw [Int.toNat_of_nonneg (show 0 ≤ L by omega), Int.toNat_of_nonneg (show 0 ≤ s by omega), Int.toNat_of_nonneg (show 0 ≤ a by omega)] at this
    exact this)
  have HPL := Lib.hid (fun W => show Calls Try.prog 64 #[.agg #[.int .i64 L, .int .i64 s, .int .i64 a]] W fun e w' => e = .returned (.int .i64 0) ∧ Ext W w' from by
    have := refPlanErr_any L s a W
    rw [hp] at this
    exact this)
  have HLN := Lib.hid (curveK_len L.toNat s.toNat a.toNat (L.toNat + 1))
  have haE : accE L s a b = 0 := by unfold accE; rw [hp, hb]; rfl
  obtain ⟨b0, b1⟩ := bad_ok hb
  have HAO := Lib.hid (fun W => show Calls Try.prog 59 #[.agg #[.int .i64 L, .int .i64 s, .int .i64 a], .int .i64 b] W fun e w' => e = .returned (.tuple #[.agg #[.int .i64 (accF L.toNat s.toNat a.toNat b.toNat).1, .int .i64 (accF L.toNat s.toNat a.toNat b.toNat).2], .int .i64 0]) ∧ Ext W w' from by
    have := accOf_any L s a b W
    unfold accV at this
    rw [haE, if_pos rfl] at this
    exact this)
  have HRA := Lib.hid (fun W => show Calls Try.prog 67 #[.agg #[.int .i64 L, .int .i64 s, .int .i64 a], .int .i64 b] W fun e w' => e = .returned (.agg #[.int .i64 (accF L.toNat s.toNat a.toNat b.toNat).1, .int .i64 (accF L.toNat s.toNat a.toNat b.toNat).2]) ∧ Ext W w' from by
    have := refAcceptance_any L.toNat s.toNat a.toNat b.toNat (by omega) (by omega) (by omega) (by omega) (by omega) W
    rw [Int.toNat_of_nonneg (show 0 ≤ L by omega), Int.toNat_of_nonneg (show 0 ≤ s by omega), Int.toNat_of_nonneg (show 0 ≤ a by omega), Int.toNat_of_nonneg (show 0 ≤ b by omega)] at this
    exact this)
  generalize accF L.toNat s.toNat a.toNat b.toNat = ac at *
  have HWI := Lib.hid (fun W => within_any L 1 30 W)
  rw [hL] at HWI
  have HBD := Lib.hid (fun W => refBadErr_any b L W)
  rw [hb] at HBD
  have HRI := Lib.hid (fun W => refRiskErr_any r W)
  have hr2 : (riskE r != 0) = true := by simp [hr]
  generalize riskE r = zr at *
  clear hL hL0 hsE hp hb hr haE
  go_enter Try.func11, Try.ntmps11
  go_wp2_with (go_at_call 13; refine (awake_any _).mono ?_; rintro e W1 ⟨rfl, hx⟩; have X1 := Lib.hid ((Ext.alloc _ _).trans hx); have P := Lib.hid ((Blk.new w 104 #[.int .i64 L, .int .i64 s, .int .i64 a]).ext hx); clear hx; refine Hid.out ?_)
  refine Lib.hid ?_
  have yP0 : W1.cell? ⟨w.heap.size, 0, none⟩ = some (.int .i64 (L)) := P.out.cell 0
  have yP1 : W1.cell? ⟨w.heap.size, 1, none⟩ = some (.int .i64 (s)) := P.out.cell 1
  have yP2 : W1.cell? ⟨w.heap.size, 2, none⟩ = some (.int .i64 (a)) := P.out.cell 2
  go_wp2_with (go_at_call 59; refine (HAO.out _).mono ?_; rintro e W2 ⟨rfl, hx⟩; clear yP0 yP1 yP2; have X2 := Lib.hid (X1.out.trans (hx.trans (Ext.alloc W2 (.cells #[.int .i64 ac.1, .int .i64 ac.2] 32)))); have P := Lib.hid ((P.out.ext hx).alloc (.cells #[.int .i64 ac.1, .int .i64 ac.2] 32)); have Q := Lib.hid (Blk.new W2 32 #[.int .i64 ac.1, .int .i64 ac.2]); clear hx; refine Hid.out ?_)
  refine Lib.hid ?_
  have yP0 : (W2.alloc (.cells #[.int .i64 ac.1, .int .i64 ac.2] 32)).cell? ⟨w.heap.size, 0, none⟩ = some (.int .i64 (L)) := P.out.cell 0
  have yP1 : (W2.alloc (.cells #[.int .i64 ac.1, .int .i64 ac.2] 32)).cell? ⟨w.heap.size, 1, none⟩ = some (.int .i64 (s)) := P.out.cell 1
  have yP2 : (W2.alloc (.cells #[.int .i64 ac.1, .int .i64 ac.2] 32)).cell? ⟨w.heap.size, 2, none⟩ = some (.int .i64 (a)) := P.out.cell 2
  have yQ0 : (W2.alloc (.cells #[.int .i64 ac.1, .int .i64 ac.2] 32)).cell? ⟨W2.heap.size, 0, none⟩ = some (.int .i64 (ac.1)) := Q.out.cell 0
  have yQ1 : (W2.alloc (.cells #[.int .i64 ac.1, .int .i64 ac.2] 32)).cell? ⟨W2.heap.size, 1, none⟩ = some (.int .i64 (ac.2)) := Q.out.cell 1
  go_wp2_with (first
    | (go_at_call 60; refine (HCU.out _).mono ?_; rintro e W3 ⟨A1, c1, rfl, hr1, hx⟩; clear yP0 yP1 yP2 yQ0 yQ1; have X3 := Lib.hid (X2.out.trans hx); have P := Lib.hid (P.out.ext hx); have Q := Lib.hid (Q.out.ext hx); clear hx; have R1 := Lib.hid hr1; clear hr1; refine Hid.out ?_))
  refine Lib.hid ?_
  have yP0 : W3.cell? ⟨w.heap.size, 0, none⟩ = some (.int .i64 (L)) := P.out.cell 0
  have yP1 : W3.cell? ⟨w.heap.size, 1, none⟩ = some (.int .i64 (s)) := P.out.cell 1
  have yP2 : W3.cell? ⟨w.heap.size, 2, none⟩ = some (.int .i64 (a)) := P.out.cell 2
  have yQ0 : W3.cell? ⟨W2.heap.size, 0, none⟩ = some (.int .i64 (ac.1)) := Q.out.cell 0
  have yQ1 : W3.cell? ⟨W2.heap.size, 1, none⟩ = some (.int .i64 (ac.2)) := Q.out.cell 1
  go_wp2_with (first
    | (go_at_call 61; refine (HSF.out _).mono ?_; rintro e W4 ⟨rfl, hx⟩; clear yP0 yP1 yP2 yQ0 yQ1; have X4 := Lib.hid (X3.out.trans hx); have R1 := Lib.hid (R1.out.ext hx); have P := Lib.hid (P.out.ext hx); have Q := Lib.hid (Q.out.ext hx); clear hx; refine Hid.out ?_))
  refine Lib.hid ?_
  have yP0 : W4.cell? ⟨w.heap.size, 0, none⟩ = some (.int .i64 (L)) := P.out.cell 0
  have yP1 : W4.cell? ⟨w.heap.size, 1, none⟩ = some (.int .i64 (s)) := P.out.cell 1
  have yP2 : W4.cell? ⟨w.heap.size, 2, none⟩ = some (.int .i64 (a)) := P.out.cell 2
  have yQ0 : W4.cell? ⟨W2.heap.size, 0, none⟩ = some (.int .i64 (ac.1)) := Q.out.cell 0
  have yQ1 : W4.cell? ⟨W2.heap.size, 1, none⟩ = some (.int .i64 (ac.2)) := Q.out.cell 1
  go_wp2_with (first
    | (go_at_call 20; (with_reducible refine (HWI.out _).mono ?_); rintro e w' ⟨rfl, rfl⟩)
    | (go_at_call 62; (with_reducible refine (HBD.out _).mono ?_); rintro e w' ⟨rfl, rfl⟩)
    | (go_at_call 57; (with_reducible refine (HRI.out _).mono ?_); rintro e w' ⟨rfl, rfl⟩)
    | (go_at_call 64; refine (HPL.out _).mono ?_; rintro e W5 ⟨rfl, hx⟩; clear yP0 yP1 yP2 yQ0 yQ1; have X5 := Lib.hid (X4.out.trans hx); have R1 := Lib.hid (R1.out.ext hx); have P := Lib.hid (P.out.ext hx); have Q := Lib.hid (Q.out.ext hx); clear hx; refine Hid.out ?_))
  refine Lib.hid ?_
  have yP0 : W5.cell? ⟨w.heap.size, 0, none⟩ = some (.int .i64 (L)) := P.out.cell 0
  have yP1 : W5.cell? ⟨w.heap.size, 1, none⟩ = some (.int .i64 (s)) := P.out.cell 1
  have yP2 : W5.cell? ⟨w.heap.size, 2, none⟩ = some (.int .i64 (a)) := P.out.cell 2
  have yQ0 : W5.cell? ⟨W2.heap.size, 0, none⟩ = some (.int .i64 (ac.1)) := Q.out.cell 0
  have yQ1 : W5.cell? ⟨W2.heap.size, 1, none⟩ = some (.int .i64 (ac.2)) := Q.out.cell 1
  go_wp2_with (first
    | (go_at_call 66; refine (HRC.out _).mono ?_; rintro e W6 ⟨A2, c2, rfl, hr2, hx⟩; clear yP0 yP1 yP2 yQ0 yQ1; have X6 := Lib.hid (X5.out.trans hx); have R1 := Lib.hid (R1.out.ext hx); have P := Lib.hid (P.out.ext hx); have Q := Lib.hid (Q.out.ext hx); clear hx; have R2 := Lib.hid hr2; clear hr2; refine Hid.out ?_))
  refine Lib.hid ?_
  have yP0 : W6.cell? ⟨w.heap.size, 0, none⟩ = some (.int .i64 (L)) := P.out.cell 0
  have yP1 : W6.cell? ⟨w.heap.size, 1, none⟩ = some (.int .i64 (s)) := P.out.cell 1
  have yP2 : W6.cell? ⟨w.heap.size, 2, none⟩ = some (.int .i64 (a)) := P.out.cell 2
  have yQ0 : W6.cell? ⟨W2.heap.size, 0, none⟩ = some (.int .i64 (ac.1)) := Q.out.cell 0
  have yQ1 : W6.cell? ⟨W2.heap.size, 1, none⟩ = some (.int .i64 (ac.2)) := Q.out.cell 1
  go_wp2_with (first
    | (go_at_call 65; refine (fracs_any HLN.out R1.out R2.out).mono ?_; rintro e W7 ⟨rfl, hx⟩; clear yP0 yP1 yP2 yQ0 yQ1; have X7 := Lib.hid (X6.out.trans hx); have P := Lib.hid (P.out.ext hx); have Q := Lib.hid (Q.out.ext hx); clear hx; refine Hid.out ?_))
  refine Lib.hid ?_
  have yP0 : W7.cell? ⟨w.heap.size, 0, none⟩ = some (.int .i64 (L)) := P.out.cell 0
  have yP1 : W7.cell? ⟨w.heap.size, 1, none⟩ = some (.int .i64 (s)) := P.out.cell 1
  have yP2 : W7.cell? ⟨w.heap.size, 2, none⟩ = some (.int .i64 (a)) := P.out.cell 2
  have yQ0 : W7.cell? ⟨W2.heap.size, 0, none⟩ = some (.int .i64 (ac.1)) := Q.out.cell 0
  have yQ1 : W7.cell? ⟨W2.heap.size, 1, none⟩ = some (.int .i64 (ac.2)) := Q.out.cell 1
  go_wp2_with (go_at_call 62; refine (HBD.out _).mono ?_; rintro e w' ⟨rfl, rfl⟩)
  refine wp_region_eachG [(137, true), (137, true), (137, true), (137, true), (137, true)] [some 135, some 136, some 137, some 138, some 139, some 140, some 141, some 142, some 143, some 6] [[8], [135], [136], [7, 137], [3, 137], [1, 137], [139, 140, 137], [138, 141, 137], [137, 142], [143]]
    [Is (.int .i64 (0)), Is (.bool (true)), Is (.bool (true)), Is (.agg #[.int .i64 (ac.1), .int .i64 (ac.2)]), Is (.agg #[.int .i64 (L), .int .i64 (s), .int .i64 (a)]), Is (.int .i64 (b)), Is (.agg #[.int .i64 ac.1, .int .i64 ac.2]), Is (.bool (true)), Is (.bool (true)), Is (.bool (true))]
    (by kernel_rfl) (by kernel_rfl) (by kernel_rfl) (by kernel_rfl) (by kernel_rfl) Ext (fun W => Ext W7 W)
    (fun W _ => Ext.refl W) (fun W W' h k => h.trans k) ?_ (by intro p hp; simp only [List.mem_cons, List.not_mem_nil, or_false] at hp; rcases hp with rfl | rfl | rfl | rfl | rfl <;> exact ⟨_, rfl, fun _ _ h => h⟩) (Ext.drew _) ?_ ?_
  · repeat (refine ⟨fun _ _ _ _ k h => (by first | exact h | exact (IntsAt.ext h k)), ?_⟩)
    exact trivial
  · refine ⟨?_, ?_, ?_, ?_, ?_, ?_, ?_, ?_, ?_, ?_, trivial⟩
    all_goals intro ρ W ⟨kc, kg, kf⟩ hF hs
    · obtain ⟨h0, -⟩ := hs
      replace h0 : ρ (.tmp 8) = .int .i64 (0) := h0
      go_simp
      exact ⟨Ext.refl _, rfl⟩
    · obtain ⟨h0, -⟩ := hs
      replace h0 : ρ (.tmp 135) = .int .i64 (0) := h0
      go_simp
      exact ⟨Ext.refl _, rfl⟩
    · obtain ⟨h0, -⟩ := hs
      replace h0 : ρ (.tmp 136) = .bool (true) := h0
      go_simp
      exact ⟨Ext.refl _, rfl⟩
    · obtain ⟨h0, h1, -⟩ := hs
      replace h0 : ρ (.tmp 7) = .pointer (some ⟨W2.heap.size, 0, none⟩) := h0
      replace h1 : ρ (.tmp 137) = .bool (true) := h1
      have hc0 : W.cell? ⟨W2.heap.size, 0, none⟩ = some (.int .i64 (ac.1)) := hF.cell (by assumption)
      have hc1 : W.cell? ⟨W2.heap.size, 1, none⟩ = some (.int .i64 (ac.2)) := hF.cell (by assumption)
      go_simp
      exact ⟨Ext.refl _, rfl⟩
    · obtain ⟨h0, h1, -⟩ := hs
      replace h0 : ρ (.tmp 3) = .pointer (some ⟨w.heap.size, 0, none⟩) := h0
      replace h1 : ρ (.tmp 137) = .bool (true) := h1
      have hc0 : W.cell? ⟨w.heap.size, 0, none⟩ = some (.int .i64 (L)) := hF.cell (by assumption)
      have hc1 : W.cell? ⟨w.heap.size, 1, none⟩ = some (.int .i64 (s)) := hF.cell (by assumption)
      have hc2 : W.cell? ⟨w.heap.size, 2, none⟩ = some (.int .i64 (a)) := hF.cell (by assumption)
      go_simp
      exact ⟨Ext.refl _, rfl⟩
    · obtain ⟨h0, h1, -⟩ := hs
      replace h0 : ρ (.tmp 1) = .int .i64 (b) := h0
      replace h1 : ρ (.tmp 137) = .bool (true) := h1
      go_simp
      exact ⟨Ext.refl _, rfl⟩
    · obtain ⟨h0, h1, h2, -⟩ := hs
      replace h0 : ρ (.tmp 139) = .agg #[.int .i64 (L), .int .i64 (s), .int .i64 (a)] := h0
      replace h1 : ρ (.tmp 140) = .int .i64 (b) := h1
      replace h2 : ρ (.tmp 137) = .bool (true) := h2
      go_simp
      refine (HRA.out _).mono ?_; rintro e w' ⟨rfl, hx⟩; exact ⟨_, rfl, hx, rfl⟩
    · obtain ⟨h0, h1, h2, -⟩ := hs
      replace h0 : ρ (.tmp 138) = .agg #[.int .i64 (ac.1), .int .i64 (ac.2)] := h0
      replace h1 : ρ (.tmp 141) = .agg #[.int .i64 ac.1, .int .i64 ac.2] := h1
      replace h2 : ρ (.tmp 137) = .bool (true) := h2
      go_simp
      exact ⟨Ext.refl _, rfl⟩
    · obtain ⟨h0, h1, -⟩ := hs
      replace h0 : ρ (.tmp 137) = .bool (true) := h0
      replace h1 : ρ (.tmp 142) = .bool (true) := h1
      go_simp
      exact ⟨Ext.refl _, rfl⟩
    · obtain ⟨h0, -⟩ := hs
      replace h0 : ρ (.tmp 143) = .bool (true) := h0
      go_simp
      exact ⟨Ext.refl _, rfl⟩
  · intro fv W hF hs
    obtain ⟨-, -, -, -, -, -, -, -, -, h6, -⟩ := hs
    replace h6 : fv 6 = .bool (true) := h6
    simp only [fin, List.filterMap]
    go_simp
    go_wp2
    go_ret
    exact ⟨rfl, X7.out.trans hF⟩
set_option maxRecDepth 100000 in
set_option maxHeartbeats 4000000 in
theorem samples_41 (L s a b r : Int) (w : World) (hL : withinB L 1 30 = true) (hb : badE L b = 0) (hr : riskE r = 0) (hp : planE L s a ≠ 0) : Calls Try.prog 11 #[.agg #[.int .i64 L, .int .i64 s, .int .i64 a], .int .i64 b, .int .i64 r] w fun e w' => e = .returned (.bool true) ∧ Ext w w' := by
  have hL0 : lotE L = if withinB L 1 30 = true then 0 else 2 := rangeE_one 1 30 L
  rw [hL] at hL0
  have hsE : smpE L b r = 0 := by unfold smpE; rw [hL0, hb, hr]; rfl
  obtain ⟨o1, o2, o3, o4, o5, o6⟩ := smp_ok hsE
  have HSF := Lib.hid (fun W => show Calls Try.prog 61 #[.int .i64 L, .int .i64 b, .int .i64 r] W fun e w' => e = .returned (.tuple #[.int .i64 (optV (smp L.toNat b.toNat r.toNat L.toNat 1)), .int .i64 (optE (smp L.toNat b.toNat r.toNat L.toNat 1))]) ∧ Ext W w' from by
    have := sampleFor_loop L.toNat b.toNat r.toNat (by omega) (by omega) (by omega) (by omega) (by rw [Int.toNat_of_nonneg (show 0 ≤ L by omega), Int.toNat_of_nonneg (show 0 ≤ b by omega), Int.toNat_of_nonneg (show 0 ≤ r by omega)]; exact hsE) W
    rw [Int.toNat_of_nonneg (show 0 ≤ L by omega), Int.toNat_of_nonneg (show 0 ≤ b by omega), Int.toNat_of_nonneg (show 0 ≤ r by omega)] at this
    exact this)
  have HRS := Lib.hid (fun W => show Calls Try.prog 63 #[.int .i64 L, .int .i64 b, .int .i64 r] W fun e w' => e = .returned (.tuple #[.int .i64 (optV (smp L.toNat b.toNat r.toNat L.toNat 1)), .bool (smp L.toNat b.toNat r.toNat L.toNat 1).isSome]) ∧ Ext W w' from by
    have := refSample_any L.toNat b.toNat r.toNat (by omega) (by omega) (by omega) (by omega) W
    rw [Int.toNat_of_nonneg (show 0 ≤ L by omega), Int.toNat_of_nonneg (show 0 ≤ b by omega), Int.toNat_of_nonneg (show 0 ≤ r by omega)] at this
    exact this)
  have haE : accE L s a b = planE L s a := by unfold accE; rw [firstE, if_pos hp]
  have HAO := Lib.hid (fun W => show Calls Try.prog 59 #[.agg #[.int .i64 L, .int .i64 s, .int .i64 a], .int .i64 b] W fun e w' => e = .returned (.tuple #[.agg #[.int .i64 0, .int .i64 0], .int .i64 (planE L s a)]) ∧ Ext W w' from by
    have := accOf_bad L s a b (by rw [haE]; exact hp) W
    rw [haE] at this
    exact this)
  have HCU := Lib.hid (fun W => curveOf_bad L s a hp W)
  have HPL := Lib.hid (fun W => refPlanErr_any L s a W)
  have hp2 : (planE L s a != 0) = true := by simp [hp]
  generalize planE L s a = zp at *
  have HWI := Lib.hid (fun W => within_any L 1 30 W)
  rw [hL] at HWI
  have HBD := Lib.hid (fun W => refBadErr_any b L W)
  rw [hb] at HBD
  have HRI := Lib.hid (fun W => refRiskErr_any r W)
  rw [hr] at HRI
  generalize smp L.toNat b.toNat r.toNat L.toNat 1 = so at *
  clear hL hL0 hsE hp hb hr haE
  cases so with
  | none =>
    go_enter Try.func11, Try.ntmps11
    go_wp2_with (go_at_call 13; refine (awake_any _).mono ?_; rintro e W1 ⟨rfl, hx⟩; have X1 := Lib.hid ((Ext.alloc _ _).trans hx); have P := Lib.hid ((Blk.new w 104 #[.int .i64 L, .int .i64 s, .int .i64 a]).ext hx); clear hx; refine Hid.out ?_)
    refine Lib.hid ?_
    have yP0 : W1.cell? ⟨w.heap.size, 0, none⟩ = some (.int .i64 (L)) := P.out.cell 0
    have yP1 : W1.cell? ⟨w.heap.size, 1, none⟩ = some (.int .i64 (s)) := P.out.cell 1
    have yP2 : W1.cell? ⟨w.heap.size, 2, none⟩ = some (.int .i64 (a)) := P.out.cell 2
    go_wp2_with (go_at_call 59; refine (HAO.out _).mono ?_; rintro e W2 ⟨rfl, hx⟩; clear yP0 yP1 yP2; have X2 := Lib.hid (X1.out.trans (hx.trans (Ext.alloc W2 (.cells #[.int .i64 0, .int .i64 0] 32)))); have P := Lib.hid ((P.out.ext hx).alloc (.cells #[.int .i64 0, .int .i64 0] 32)); have Q := Lib.hid (Blk.new W2 32 #[.int .i64 0, .int .i64 0]); clear hx; refine Hid.out ?_)
    refine Lib.hid ?_
    have yP0 : (W2.alloc (.cells #[.int .i64 0, .int .i64 0] 32)).cell? ⟨w.heap.size, 0, none⟩ = some (.int .i64 (L)) := P.out.cell 0
    have yP1 : (W2.alloc (.cells #[.int .i64 0, .int .i64 0] 32)).cell? ⟨w.heap.size, 1, none⟩ = some (.int .i64 (s)) := P.out.cell 1
    have yP2 : (W2.alloc (.cells #[.int .i64 0, .int .i64 0] 32)).cell? ⟨w.heap.size, 2, none⟩ = some (.int .i64 (a)) := P.out.cell 2
    have yQ0 : (W2.alloc (.cells #[.int .i64 0, .int .i64 0] 32)).cell? ⟨W2.heap.size, 0, none⟩ = some (.int .i64 (0)) := Q.out.cell 0
    have yQ1 : (W2.alloc (.cells #[.int .i64 0, .int .i64 0] 32)).cell? ⟨W2.heap.size, 1, none⟩ = some (.int .i64 (0)) := Q.out.cell 1
    go_wp2_with (first
      | (go_at_call 60; refine (HCU.out _).mono ?_; rintro e W3 ⟨rfl, hx⟩; clear yP0 yP1 yP2 yQ0 yQ1; have X3 := Lib.hid (X2.out.trans hx); have P := Lib.hid (P.out.ext hx); have Q := Lib.hid (Q.out.ext hx); clear hx; refine Hid.out ?_))
    refine Lib.hid ?_
    have yP0 : W3.cell? ⟨w.heap.size, 0, none⟩ = some (.int .i64 (L)) := P.out.cell 0
    have yP1 : W3.cell? ⟨w.heap.size, 1, none⟩ = some (.int .i64 (s)) := P.out.cell 1
    have yP2 : W3.cell? ⟨w.heap.size, 2, none⟩ = some (.int .i64 (a)) := P.out.cell 2
    have yQ0 : W3.cell? ⟨W2.heap.size, 0, none⟩ = some (.int .i64 (0)) := Q.out.cell 0
    have yQ1 : W3.cell? ⟨W2.heap.size, 1, none⟩ = some (.int .i64 (0)) := Q.out.cell 1
    go_wp2_with (first
      | (go_at_call 61; refine (HSF.out _).mono ?_; rintro e W4 ⟨rfl, hx⟩; clear yP0 yP1 yP2 yQ0 yQ1; have X4 := Lib.hid (X3.out.trans hx); have P := Lib.hid (P.out.ext hx); have Q := Lib.hid (Q.out.ext hx); clear hx; refine Hid.out ?_))
    refine Lib.hid ?_
    have yP0 : W4.cell? ⟨w.heap.size, 0, none⟩ = some (.int .i64 (L)) := P.out.cell 0
    have yP1 : W4.cell? ⟨w.heap.size, 1, none⟩ = some (.int .i64 (s)) := P.out.cell 1
    have yP2 : W4.cell? ⟨w.heap.size, 2, none⟩ = some (.int .i64 (a)) := P.out.cell 2
    have yQ0 : W4.cell? ⟨W2.heap.size, 0, none⟩ = some (.int .i64 (0)) := Q.out.cell 0
    have yQ1 : W4.cell? ⟨W2.heap.size, 1, none⟩ = some (.int .i64 (0)) := Q.out.cell 1
    go_wp2_with (first
      | (go_at_call 20; (with_reducible refine (HWI.out _).mono ?_); rintro e w' ⟨rfl, rfl⟩)
      | (go_at_call 62; (with_reducible refine (HBD.out _).mono ?_); rintro e w' ⟨rfl, rfl⟩)
      | (go_at_call 57; (with_reducible refine (HRI.out _).mono ?_); rintro e w' ⟨rfl, rfl⟩)
      | (go_at_call 63; refine (HRS.out _).mono ?_; rintro e W5 ⟨rfl, hx⟩; clear yP0 yP1 yP2 yQ0 yQ1; have X5 := Lib.hid (X4.out.trans hx); have P := Lib.hid (P.out.ext hx); have Q := Lib.hid (Q.out.ext hx); clear hx; refine Hid.out ?_))
    refine Lib.hid ?_
    have yP0 : W5.cell? ⟨w.heap.size, 0, none⟩ = some (.int .i64 (L)) := P.out.cell 0
    have yP1 : W5.cell? ⟨w.heap.size, 1, none⟩ = some (.int .i64 (s)) := P.out.cell 1
    have yP2 : W5.cell? ⟨w.heap.size, 2, none⟩ = some (.int .i64 (a)) := P.out.cell 2
    have yQ0 : W5.cell? ⟨W2.heap.size, 0, none⟩ = some (.int .i64 (0)) := Q.out.cell 0
    have yQ1 : W5.cell? ⟨W2.heap.size, 1, none⟩ = some (.int .i64 (0)) := Q.out.cell 1
    go_wp2_with (first
      | (go_at_call 64; refine (HPL.out _).mono ?_; rintro e W6 ⟨rfl, hx⟩; clear yP0 yP1 yP2 yQ0 yQ1; have X6 := Lib.hid (X5.out.trans hx); have P := Lib.hid (P.out.ext hx); have Q := Lib.hid (Q.out.ext hx); clear hx; refine Hid.out ?_))
    refine Lib.hid ?_
    have yP0 : W6.cell? ⟨w.heap.size, 0, none⟩ = some (.int .i64 (L)) := P.out.cell 0
    have yP1 : W6.cell? ⟨w.heap.size, 1, none⟩ = some (.int .i64 (s)) := P.out.cell 1
    have yP2 : W6.cell? ⟨w.heap.size, 2, none⟩ = some (.int .i64 (a)) := P.out.cell 2
    have yQ0 : W6.cell? ⟨W2.heap.size, 0, none⟩ = some (.int .i64 (0)) := Q.out.cell 0
    have yQ1 : W6.cell? ⟨W2.heap.size, 1, none⟩ = some (.int .i64 (0)) := Q.out.cell 1
    go_wp2
    go_ret
    exact ⟨rfl, X6.out⟩

  | some so =>
    go_enter Try.func11, Try.ntmps11
    go_wp2_with (go_at_call 13; refine (awake_any _).mono ?_; rintro e W1 ⟨rfl, hx⟩; have X1 := Lib.hid ((Ext.alloc _ _).trans hx); have P := Lib.hid ((Blk.new w 104 #[.int .i64 L, .int .i64 s, .int .i64 a]).ext hx); clear hx; refine Hid.out ?_)
    refine Lib.hid ?_
    have yP0 : W1.cell? ⟨w.heap.size, 0, none⟩ = some (.int .i64 (L)) := P.out.cell 0
    have yP1 : W1.cell? ⟨w.heap.size, 1, none⟩ = some (.int .i64 (s)) := P.out.cell 1
    have yP2 : W1.cell? ⟨w.heap.size, 2, none⟩ = some (.int .i64 (a)) := P.out.cell 2
    go_wp2_with (go_at_call 59; refine (HAO.out _).mono ?_; rintro e W2 ⟨rfl, hx⟩; clear yP0 yP1 yP2; have X2 := Lib.hid (X1.out.trans (hx.trans (Ext.alloc W2 (.cells #[.int .i64 0, .int .i64 0] 32)))); have P := Lib.hid ((P.out.ext hx).alloc (.cells #[.int .i64 0, .int .i64 0] 32)); have Q := Lib.hid (Blk.new W2 32 #[.int .i64 0, .int .i64 0]); clear hx; refine Hid.out ?_)
    refine Lib.hid ?_
    have yP0 : (W2.alloc (.cells #[.int .i64 0, .int .i64 0] 32)).cell? ⟨w.heap.size, 0, none⟩ = some (.int .i64 (L)) := P.out.cell 0
    have yP1 : (W2.alloc (.cells #[.int .i64 0, .int .i64 0] 32)).cell? ⟨w.heap.size, 1, none⟩ = some (.int .i64 (s)) := P.out.cell 1
    have yP2 : (W2.alloc (.cells #[.int .i64 0, .int .i64 0] 32)).cell? ⟨w.heap.size, 2, none⟩ = some (.int .i64 (a)) := P.out.cell 2
    have yQ0 : (W2.alloc (.cells #[.int .i64 0, .int .i64 0] 32)).cell? ⟨W2.heap.size, 0, none⟩ = some (.int .i64 (0)) := Q.out.cell 0
    have yQ1 : (W2.alloc (.cells #[.int .i64 0, .int .i64 0] 32)).cell? ⟨W2.heap.size, 1, none⟩ = some (.int .i64 (0)) := Q.out.cell 1
    go_wp2_with (first
      | (go_at_call 60; refine (HCU.out _).mono ?_; rintro e W3 ⟨rfl, hx⟩; clear yP0 yP1 yP2 yQ0 yQ1; have X3 := Lib.hid (X2.out.trans hx); have P := Lib.hid (P.out.ext hx); have Q := Lib.hid (Q.out.ext hx); clear hx; refine Hid.out ?_))
    refine Lib.hid ?_
    have yP0 : W3.cell? ⟨w.heap.size, 0, none⟩ = some (.int .i64 (L)) := P.out.cell 0
    have yP1 : W3.cell? ⟨w.heap.size, 1, none⟩ = some (.int .i64 (s)) := P.out.cell 1
    have yP2 : W3.cell? ⟨w.heap.size, 2, none⟩ = some (.int .i64 (a)) := P.out.cell 2
    have yQ0 : W3.cell? ⟨W2.heap.size, 0, none⟩ = some (.int .i64 (0)) := Q.out.cell 0
    have yQ1 : W3.cell? ⟨W2.heap.size, 1, none⟩ = some (.int .i64 (0)) := Q.out.cell 1
    go_wp2_with (first
      | (go_at_call 61; refine (HSF.out _).mono ?_; rintro e W4 ⟨rfl, hx⟩; clear yP0 yP1 yP2 yQ0 yQ1; have X4 := Lib.hid (X3.out.trans hx); have P := Lib.hid (P.out.ext hx); have Q := Lib.hid (Q.out.ext hx); clear hx; refine Hid.out ?_))
    refine Lib.hid ?_
    have yP0 : W4.cell? ⟨w.heap.size, 0, none⟩ = some (.int .i64 (L)) := P.out.cell 0
    have yP1 : W4.cell? ⟨w.heap.size, 1, none⟩ = some (.int .i64 (s)) := P.out.cell 1
    have yP2 : W4.cell? ⟨w.heap.size, 2, none⟩ = some (.int .i64 (a)) := P.out.cell 2
    have yQ0 : W4.cell? ⟨W2.heap.size, 0, none⟩ = some (.int .i64 (0)) := Q.out.cell 0
    have yQ1 : W4.cell? ⟨W2.heap.size, 1, none⟩ = some (.int .i64 (0)) := Q.out.cell 1
    go_wp2_with (first
      | (go_at_call 20; (with_reducible refine (HWI.out _).mono ?_); rintro e w' ⟨rfl, rfl⟩)
      | (go_at_call 62; (with_reducible refine (HBD.out _).mono ?_); rintro e w' ⟨rfl, rfl⟩)
      | (go_at_call 57; (with_reducible refine (HRI.out _).mono ?_); rintro e w' ⟨rfl, rfl⟩)
      | (go_at_call 63; refine (HRS.out _).mono ?_; rintro e W5 ⟨rfl, hx⟩; clear yP0 yP1 yP2 yQ0 yQ1; have X5 := Lib.hid (X4.out.trans hx); have P := Lib.hid (P.out.ext hx); have Q := Lib.hid (Q.out.ext hx); clear hx; refine Hid.out ?_))
    refine Lib.hid ?_
    have yP0 : W5.cell? ⟨w.heap.size, 0, none⟩ = some (.int .i64 (L)) := P.out.cell 0
    have yP1 : W5.cell? ⟨w.heap.size, 1, none⟩ = some (.int .i64 (s)) := P.out.cell 1
    have yP2 : W5.cell? ⟨w.heap.size, 2, none⟩ = some (.int .i64 (a)) := P.out.cell 2
    have yQ0 : W5.cell? ⟨W2.heap.size, 0, none⟩ = some (.int .i64 (0)) := Q.out.cell 0
    have yQ1 : W5.cell? ⟨W2.heap.size, 1, none⟩ = some (.int .i64 (0)) := Q.out.cell 1
    go_wp2_with (first
      | (go_at_call 64; refine (HPL.out _).mono ?_; rintro e W6 ⟨rfl, hx⟩; clear yP0 yP1 yP2 yQ0 yQ1; have X6 := Lib.hid (X5.out.trans hx); have P := Lib.hid (P.out.ext hx); have Q := Lib.hid (Q.out.ext hx); clear hx; refine Hid.out ?_))
    refine Lib.hid ?_
    have yP0 : W6.cell? ⟨w.heap.size, 0, none⟩ = some (.int .i64 (L)) := P.out.cell 0
    have yP1 : W6.cell? ⟨w.heap.size, 1, none⟩ = some (.int .i64 (s)) := P.out.cell 1
    have yP2 : W6.cell? ⟨w.heap.size, 2, none⟩ = some (.int .i64 (a)) := P.out.cell 2
    have yQ0 : W6.cell? ⟨W2.heap.size, 0, none⟩ = some (.int .i64 (0)) := Q.out.cell 0
    have yQ1 : W6.cell? ⟨W2.heap.size, 1, none⟩ = some (.int .i64 (0)) := Q.out.cell 1
    go_wp2
    go_ret
    exact ⟨rfl, X6.out⟩

set_option maxRecDepth 100000 in
set_option maxHeartbeats 4000000 in
theorem samples_43 (L s a b r : Int) (w : World) (hL : withinB L 1 30 = true) (hb : badE L b = 0) (hr : riskE r = 0) (hp : planE L s a = 0) : Calls Try.prog 11 #[.agg #[.int .i64 L, .int .i64 s, .int .i64 a], .int .i64 b, .int .i64 r] w fun e w' => e = .returned (.bool true) ∧ Ext w w' := by
  have hL0 : lotE L = if withinB L 1 30 = true then 0 else 2 := rangeE_one 1 30 L
  rw [hL] at hL0
  have hsE : smpE L b r = 0 := by unfold smpE; rw [hL0, hb, hr]; rfl
  obtain ⟨o1, o2, o3, o4, o5, o6⟩ := smp_ok hsE
  have HSF := Lib.hid (fun W => show Calls Try.prog 61 #[.int .i64 L, .int .i64 b, .int .i64 r] W fun e w' => e = .returned (.tuple #[.int .i64 (optV (smp L.toNat b.toNat r.toNat L.toNat 1)), .int .i64 (optE (smp L.toNat b.toNat r.toNat L.toNat 1))]) ∧ Ext W w' from by
    have := sampleFor_loop L.toNat b.toNat r.toNat (by omega) (by omega) (by omega) (by omega) (by rw [Int.toNat_of_nonneg (show 0 ≤ L by omega), Int.toNat_of_nonneg (show 0 ≤ b by omega), Int.toNat_of_nonneg (show 0 ≤ r by omega)]; exact hsE) W
    rw [Int.toNat_of_nonneg (show 0 ≤ L by omega), Int.toNat_of_nonneg (show 0 ≤ b by omega), Int.toNat_of_nonneg (show 0 ≤ r by omega)] at this
    exact this)
  have HRS := Lib.hid (fun W => show Calls Try.prog 63 #[.int .i64 L, .int .i64 b, .int .i64 r] W fun e w' => e = .returned (.tuple #[.int .i64 (optV (smp L.toNat b.toNat r.toNat L.toNat 1)), .bool (smp L.toNat b.toNat r.toNat L.toNat 1).isSome]) ∧ Ext W w' from by
    have := refSample_any L.toNat b.toNat r.toNat (by omega) (by omega) (by omega) (by omega) W
    rw [Int.toNat_of_nonneg (show 0 ≤ L by omega), Int.toNat_of_nonneg (show 0 ≤ b by omega), Int.toNat_of_nonneg (show 0 ≤ r by omega)] at this
    exact this)
  obtain ⟨q1, q2, q3, q4, q5, q6⟩ := plan_ok hp
  have HCU := Lib.hid (fun W => show Calls Try.prog 60 #[.agg #[.int .i64 L, .int .i64 s, .int .i64 a]] W (CurvePost L.toNat s.toNat a.toNat W (some (.int .i64 0))) from by
    have := curveOf_ok L.toNat s.toNat a.toNat (by omega) (by omega) (by omega) (by omega) W
    rw [Int.toNat_of_nonneg (show 0 ≤ L by omega), Int.toNat_of_nonneg (show 0 ≤ s by omega), Int.toNat_of_nonneg (show 0 ≤ a by omega)] at this
    exact this)
  have HRC := Lib.hid (fun W => show Calls Try.prog 66 #[.agg #[.int .i64 L, .int .i64 s, .int .i64 a]] W (CurvePost L.toNat s.toNat a.toNat W none) from by
    have := refCurve_any L.toNat s.toNat a.toNat (by omega) (by omega) (by omega) (by omega) W
    rw [Int.toNat_of_nonneg (show 0 ≤ L by omega), Int.toNat_of_nonneg (show 0 ≤ s by omega), Int.toNat_of_nonneg (show 0 ≤ a by omega)] at this
    exact this)
  have HPL := Lib.hid (fun W => show Calls Try.prog 64 #[.agg #[.int .i64 L, .int .i64 s, .int .i64 a]] W fun e w' => e = .returned (.int .i64 0) ∧ Ext W w' from by
    have := refPlanErr_any L s a W
    rw [hp] at this
    exact this)
  have HLN := Lib.hid (curveK_len L.toNat s.toNat a.toNat (L.toNat + 1))
  have haE : accE L s a b = 0 := by unfold accE; rw [hp, hb]; rfl
  obtain ⟨b0, b1⟩ := bad_ok hb
  have HAO := Lib.hid (fun W => show Calls Try.prog 59 #[.agg #[.int .i64 L, .int .i64 s, .int .i64 a], .int .i64 b] W fun e w' => e = .returned (.tuple #[.agg #[.int .i64 (accF L.toNat s.toNat a.toNat b.toNat).1, .int .i64 (accF L.toNat s.toNat a.toNat b.toNat).2], .int .i64 0]) ∧ Ext W w' from by
    have := accOf_any L s a b W
    unfold accV at this
    rw [haE, if_pos rfl] at this
    exact this)
  have HRA := Lib.hid (fun W => show Calls Try.prog 67 #[.agg #[.int .i64 L, .int .i64 s, .int .i64 a], .int .i64 b] W fun e w' => e = .returned (.agg #[.int .i64 (accF L.toNat s.toNat a.toNat b.toNat).1, .int .i64 (accF L.toNat s.toNat a.toNat b.toNat).2]) ∧ Ext W w' from by
    have := refAcceptance_any L.toNat s.toNat a.toNat b.toNat (by omega) (by omega) (by omega) (by omega) (by omega) W
    rw [Int.toNat_of_nonneg (show 0 ≤ L by omega), Int.toNat_of_nonneg (show 0 ≤ s by omega), Int.toNat_of_nonneg (show 0 ≤ a by omega), Int.toNat_of_nonneg (show 0 ≤ b by omega)] at this
    exact this)
  generalize accF L.toNat s.toNat a.toNat b.toNat = ac at *
  have HWI := Lib.hid (fun W => within_any L 1 30 W)
  rw [hL] at HWI
  have HBD := Lib.hid (fun W => refBadErr_any b L W)
  rw [hb] at HBD
  have HRI := Lib.hid (fun W => refRiskErr_any r W)
  rw [hr] at HRI
  generalize smp L.toNat b.toNat r.toNat L.toNat 1 = so at *
  clear hL hL0 hsE hp hb hr haE
  cases so with
  | none =>
    go_enter Try.func11, Try.ntmps11
    go_wp2_with (go_at_call 13; refine (awake_any _).mono ?_; rintro e W1 ⟨rfl, hx⟩; have X1 := Lib.hid ((Ext.alloc _ _).trans hx); have P := Lib.hid ((Blk.new w 104 #[.int .i64 L, .int .i64 s, .int .i64 a]).ext hx); clear hx; refine Hid.out ?_)
    refine Lib.hid ?_
    have yP0 : W1.cell? ⟨w.heap.size, 0, none⟩ = some (.int .i64 (L)) := P.out.cell 0
    have yP1 : W1.cell? ⟨w.heap.size, 1, none⟩ = some (.int .i64 (s)) := P.out.cell 1
    have yP2 : W1.cell? ⟨w.heap.size, 2, none⟩ = some (.int .i64 (a)) := P.out.cell 2
    go_wp2_with (go_at_call 59; refine (HAO.out _).mono ?_; rintro e W2 ⟨rfl, hx⟩; clear yP0 yP1 yP2; have X2 := Lib.hid (X1.out.trans (hx.trans (Ext.alloc W2 (.cells #[.int .i64 ac.1, .int .i64 ac.2] 32)))); have P := Lib.hid ((P.out.ext hx).alloc (.cells #[.int .i64 ac.1, .int .i64 ac.2] 32)); have Q := Lib.hid (Blk.new W2 32 #[.int .i64 ac.1, .int .i64 ac.2]); clear hx; refine Hid.out ?_)
    refine Lib.hid ?_
    have yP0 : (W2.alloc (.cells #[.int .i64 ac.1, .int .i64 ac.2] 32)).cell? ⟨w.heap.size, 0, none⟩ = some (.int .i64 (L)) := P.out.cell 0
    have yP1 : (W2.alloc (.cells #[.int .i64 ac.1, .int .i64 ac.2] 32)).cell? ⟨w.heap.size, 1, none⟩ = some (.int .i64 (s)) := P.out.cell 1
    have yP2 : (W2.alloc (.cells #[.int .i64 ac.1, .int .i64 ac.2] 32)).cell? ⟨w.heap.size, 2, none⟩ = some (.int .i64 (a)) := P.out.cell 2
    have yQ0 : (W2.alloc (.cells #[.int .i64 ac.1, .int .i64 ac.2] 32)).cell? ⟨W2.heap.size, 0, none⟩ = some (.int .i64 (ac.1)) := Q.out.cell 0
    have yQ1 : (W2.alloc (.cells #[.int .i64 ac.1, .int .i64 ac.2] 32)).cell? ⟨W2.heap.size, 1, none⟩ = some (.int .i64 (ac.2)) := Q.out.cell 1
    go_wp2_with (first
      | (go_at_call 60; refine (HCU.out _).mono ?_; rintro e W3 ⟨A1, c1, rfl, hr1, hx⟩; clear yP0 yP1 yP2 yQ0 yQ1; have X3 := Lib.hid (X2.out.trans hx); have P := Lib.hid (P.out.ext hx); have Q := Lib.hid (Q.out.ext hx); clear hx; have R1 := Lib.hid hr1; clear hr1; refine Hid.out ?_))
    refine Lib.hid ?_
    have yP0 : W3.cell? ⟨w.heap.size, 0, none⟩ = some (.int .i64 (L)) := P.out.cell 0
    have yP1 : W3.cell? ⟨w.heap.size, 1, none⟩ = some (.int .i64 (s)) := P.out.cell 1
    have yP2 : W3.cell? ⟨w.heap.size, 2, none⟩ = some (.int .i64 (a)) := P.out.cell 2
    have yQ0 : W3.cell? ⟨W2.heap.size, 0, none⟩ = some (.int .i64 (ac.1)) := Q.out.cell 0
    have yQ1 : W3.cell? ⟨W2.heap.size, 1, none⟩ = some (.int .i64 (ac.2)) := Q.out.cell 1
    go_wp2_with (first
      | (go_at_call 61; refine (HSF.out _).mono ?_; rintro e W4 ⟨rfl, hx⟩; clear yP0 yP1 yP2 yQ0 yQ1; have X4 := Lib.hid (X3.out.trans hx); have R1 := Lib.hid (R1.out.ext hx); have P := Lib.hid (P.out.ext hx); have Q := Lib.hid (Q.out.ext hx); clear hx; refine Hid.out ?_))
    refine Lib.hid ?_
    have yP0 : W4.cell? ⟨w.heap.size, 0, none⟩ = some (.int .i64 (L)) := P.out.cell 0
    have yP1 : W4.cell? ⟨w.heap.size, 1, none⟩ = some (.int .i64 (s)) := P.out.cell 1
    have yP2 : W4.cell? ⟨w.heap.size, 2, none⟩ = some (.int .i64 (a)) := P.out.cell 2
    have yQ0 : W4.cell? ⟨W2.heap.size, 0, none⟩ = some (.int .i64 (ac.1)) := Q.out.cell 0
    have yQ1 : W4.cell? ⟨W2.heap.size, 1, none⟩ = some (.int .i64 (ac.2)) := Q.out.cell 1
    go_wp2_with (first
      | (go_at_call 20; (with_reducible refine (HWI.out _).mono ?_); rintro e w' ⟨rfl, rfl⟩)
      | (go_at_call 62; (with_reducible refine (HBD.out _).mono ?_); rintro e w' ⟨rfl, rfl⟩)
      | (go_at_call 57; (with_reducible refine (HRI.out _).mono ?_); rintro e w' ⟨rfl, rfl⟩)
      | (go_at_call 63; refine (HRS.out _).mono ?_; rintro e W5 ⟨rfl, hx⟩; clear yP0 yP1 yP2 yQ0 yQ1; have X5 := Lib.hid (X4.out.trans hx); have R1 := Lib.hid (R1.out.ext hx); have P := Lib.hid (P.out.ext hx); have Q := Lib.hid (Q.out.ext hx); clear hx; refine Hid.out ?_))
    refine Lib.hid ?_
    have yP0 : W5.cell? ⟨w.heap.size, 0, none⟩ = some (.int .i64 (L)) := P.out.cell 0
    have yP1 : W5.cell? ⟨w.heap.size, 1, none⟩ = some (.int .i64 (s)) := P.out.cell 1
    have yP2 : W5.cell? ⟨w.heap.size, 2, none⟩ = some (.int .i64 (a)) := P.out.cell 2
    have yQ0 : W5.cell? ⟨W2.heap.size, 0, none⟩ = some (.int .i64 (ac.1)) := Q.out.cell 0
    have yQ1 : W5.cell? ⟨W2.heap.size, 1, none⟩ = some (.int .i64 (ac.2)) := Q.out.cell 1
    go_wp2_with (first
      | (go_at_call 64; refine (HPL.out _).mono ?_; rintro e W6 ⟨rfl, hx⟩; clear yP0 yP1 yP2 yQ0 yQ1; have X6 := Lib.hid (X5.out.trans hx); have R1 := Lib.hid (R1.out.ext hx); have P := Lib.hid (P.out.ext hx); have Q := Lib.hid (Q.out.ext hx); clear hx; refine Hid.out ?_))
    refine Lib.hid ?_
    have yP0 : W6.cell? ⟨w.heap.size, 0, none⟩ = some (.int .i64 (L)) := P.out.cell 0
    have yP1 : W6.cell? ⟨w.heap.size, 1, none⟩ = some (.int .i64 (s)) := P.out.cell 1
    have yP2 : W6.cell? ⟨w.heap.size, 2, none⟩ = some (.int .i64 (a)) := P.out.cell 2
    have yQ0 : W6.cell? ⟨W2.heap.size, 0, none⟩ = some (.int .i64 (ac.1)) := Q.out.cell 0
    have yQ1 : W6.cell? ⟨W2.heap.size, 1, none⟩ = some (.int .i64 (ac.2)) := Q.out.cell 1
    go_wp2_with (first
      | (go_at_call 66; refine (HRC.out _).mono ?_; rintro e W7 ⟨A2, c2, rfl, hr2, hx⟩; clear yP0 yP1 yP2 yQ0 yQ1; have X7 := Lib.hid (X6.out.trans hx); have R1 := Lib.hid (R1.out.ext hx); have P := Lib.hid (P.out.ext hx); have Q := Lib.hid (Q.out.ext hx); clear hx; have R2 := Lib.hid hr2; clear hr2; refine Hid.out ?_))
    refine Lib.hid ?_
    have yP0 : W7.cell? ⟨w.heap.size, 0, none⟩ = some (.int .i64 (L)) := P.out.cell 0
    have yP1 : W7.cell? ⟨w.heap.size, 1, none⟩ = some (.int .i64 (s)) := P.out.cell 1
    have yP2 : W7.cell? ⟨w.heap.size, 2, none⟩ = some (.int .i64 (a)) := P.out.cell 2
    have yQ0 : W7.cell? ⟨W2.heap.size, 0, none⟩ = some (.int .i64 (ac.1)) := Q.out.cell 0
    have yQ1 : W7.cell? ⟨W2.heap.size, 1, none⟩ = some (.int .i64 (ac.2)) := Q.out.cell 1
    go_wp2_with (first
      | (go_at_call 65; refine (fracs_any HLN.out R1.out R2.out).mono ?_; rintro e W8 ⟨rfl, hx⟩; clear yP0 yP1 yP2 yQ0 yQ1; have X8 := Lib.hid (X7.out.trans hx); have P := Lib.hid (P.out.ext hx); have Q := Lib.hid (Q.out.ext hx); clear hx; refine Hid.out ?_))
    refine Lib.hid ?_
    have yP0 : W8.cell? ⟨w.heap.size, 0, none⟩ = some (.int .i64 (L)) := P.out.cell 0
    have yP1 : W8.cell? ⟨w.heap.size, 1, none⟩ = some (.int .i64 (s)) := P.out.cell 1
    have yP2 : W8.cell? ⟨w.heap.size, 2, none⟩ = some (.int .i64 (a)) := P.out.cell 2
    have yQ0 : W8.cell? ⟨W2.heap.size, 0, none⟩ = some (.int .i64 (ac.1)) := Q.out.cell 0
    have yQ1 : W8.cell? ⟨W2.heap.size, 1, none⟩ = some (.int .i64 (ac.2)) := Q.out.cell 1
    go_wp2_with (go_at_call 62; refine (HBD.out _).mono ?_; rintro e w' ⟨rfl, rfl⟩)
    refine wp_region_eachG [(137, true), (137, true), (137, true), (137, true), (137, true)] [some 135, some 136, some 137, some 138, some 139, some 140, some 141, some 142, some 143, some 6] [[8], [135], [136], [7, 137], [3, 137], [1, 137], [139, 140, 137], [138, 141, 137], [137, 142], [143]]
      [Is (.int .i64 (0)), Is (.bool (true)), Is (.bool (true)), Is (.agg #[.int .i64 (ac.1), .int .i64 (ac.2)]), Is (.agg #[.int .i64 (L), .int .i64 (s), .int .i64 (a)]), Is (.int .i64 (b)), Is (.agg #[.int .i64 ac.1, .int .i64 ac.2]), Is (.bool (true)), Is (.bool (true)), Is (.bool (true))]
      (by kernel_rfl) (by kernel_rfl) (by kernel_rfl) (by kernel_rfl) (by kernel_rfl) Ext (fun W => Ext W8 W)
      (fun W _ => Ext.refl W) (fun W W' h k => h.trans k) ?_ (by intro p hp; simp only [List.mem_cons, List.not_mem_nil, or_false] at hp; rcases hp with rfl | rfl | rfl | rfl | rfl <;> exact ⟨_, rfl, fun _ _ h => h⟩) (Ext.drew _) ?_ ?_
    · repeat (refine ⟨fun _ _ _ _ k h => (by first | exact h | exact (IntsAt.ext h k)), ?_⟩)
      exact trivial
    · refine ⟨?_, ?_, ?_, ?_, ?_, ?_, ?_, ?_, ?_, ?_, trivial⟩
      all_goals intro ρ W ⟨kc, kg, kf⟩ hF hs
      · obtain ⟨h0, -⟩ := hs
        replace h0 : ρ (.tmp 8) = .int .i64 (0) := h0
        go_simp
        exact ⟨Ext.refl _, rfl⟩
      · obtain ⟨h0, -⟩ := hs
        replace h0 : ρ (.tmp 135) = .int .i64 (0) := h0
        go_simp
        exact ⟨Ext.refl _, rfl⟩
      · obtain ⟨h0, -⟩ := hs
        replace h0 : ρ (.tmp 136) = .bool (true) := h0
        go_simp
        exact ⟨Ext.refl _, rfl⟩
      · obtain ⟨h0, h1, -⟩ := hs
        replace h0 : ρ (.tmp 7) = .pointer (some ⟨W2.heap.size, 0, none⟩) := h0
        replace h1 : ρ (.tmp 137) = .bool (true) := h1
        have hc0 : W.cell? ⟨W2.heap.size, 0, none⟩ = some (.int .i64 (ac.1)) := hF.cell (by assumption)
        have hc1 : W.cell? ⟨W2.heap.size, 1, none⟩ = some (.int .i64 (ac.2)) := hF.cell (by assumption)
        go_simp
        exact ⟨Ext.refl _, rfl⟩
      · obtain ⟨h0, h1, -⟩ := hs
        replace h0 : ρ (.tmp 3) = .pointer (some ⟨w.heap.size, 0, none⟩) := h0
        replace h1 : ρ (.tmp 137) = .bool (true) := h1
        have hc0 : W.cell? ⟨w.heap.size, 0, none⟩ = some (.int .i64 (L)) := hF.cell (by assumption)
        have hc1 : W.cell? ⟨w.heap.size, 1, none⟩ = some (.int .i64 (s)) := hF.cell (by assumption)
        have hc2 : W.cell? ⟨w.heap.size, 2, none⟩ = some (.int .i64 (a)) := hF.cell (by assumption)
        go_simp
        exact ⟨Ext.refl _, rfl⟩
      · obtain ⟨h0, h1, -⟩ := hs
        replace h0 : ρ (.tmp 1) = .int .i64 (b) := h0
        replace h1 : ρ (.tmp 137) = .bool (true) := h1
        go_simp
        exact ⟨Ext.refl _, rfl⟩
      · obtain ⟨h0, h1, h2, -⟩ := hs
        replace h0 : ρ (.tmp 139) = .agg #[.int .i64 (L), .int .i64 (s), .int .i64 (a)] := h0
        replace h1 : ρ (.tmp 140) = .int .i64 (b) := h1
        replace h2 : ρ (.tmp 137) = .bool (true) := h2
        go_simp
        refine (HRA.out _).mono ?_; rintro e w' ⟨rfl, hx⟩; exact ⟨_, rfl, hx, rfl⟩
      · obtain ⟨h0, h1, h2, -⟩ := hs
        replace h0 : ρ (.tmp 138) = .agg #[.int .i64 (ac.1), .int .i64 (ac.2)] := h0
        replace h1 : ρ (.tmp 141) = .agg #[.int .i64 ac.1, .int .i64 ac.2] := h1
        replace h2 : ρ (.tmp 137) = .bool (true) := h2
        go_simp
        exact ⟨Ext.refl _, rfl⟩
      · obtain ⟨h0, h1, -⟩ := hs
        replace h0 : ρ (.tmp 137) = .bool (true) := h0
        replace h1 : ρ (.tmp 142) = .bool (true) := h1
        go_simp
        exact ⟨Ext.refl _, rfl⟩
      · obtain ⟨h0, -⟩ := hs
        replace h0 : ρ (.tmp 143) = .bool (true) := h0
        go_simp
        exact ⟨Ext.refl _, rfl⟩
    · intro fv W hF hs
      obtain ⟨-, -, -, -, -, -, -, -, -, h6, -⟩ := hs
      replace h6 : fv 6 = .bool (true) := h6
      simp only [fin, List.filterMap]
      go_simp
      go_wp2
      go_ret
      exact ⟨rfl, X8.out.trans hF⟩

  | some so =>
    go_enter Try.func11, Try.ntmps11
    go_wp2_with (go_at_call 13; refine (awake_any _).mono ?_; rintro e W1 ⟨rfl, hx⟩; have X1 := Lib.hid ((Ext.alloc _ _).trans hx); have P := Lib.hid ((Blk.new w 104 #[.int .i64 L, .int .i64 s, .int .i64 a]).ext hx); clear hx; refine Hid.out ?_)
    refine Lib.hid ?_
    have yP0 : W1.cell? ⟨w.heap.size, 0, none⟩ = some (.int .i64 (L)) := P.out.cell 0
    have yP1 : W1.cell? ⟨w.heap.size, 1, none⟩ = some (.int .i64 (s)) := P.out.cell 1
    have yP2 : W1.cell? ⟨w.heap.size, 2, none⟩ = some (.int .i64 (a)) := P.out.cell 2
    go_wp2_with (go_at_call 59; refine (HAO.out _).mono ?_; rintro e W2 ⟨rfl, hx⟩; clear yP0 yP1 yP2; have X2 := Lib.hid (X1.out.trans (hx.trans (Ext.alloc W2 (.cells #[.int .i64 ac.1, .int .i64 ac.2] 32)))); have P := Lib.hid ((P.out.ext hx).alloc (.cells #[.int .i64 ac.1, .int .i64 ac.2] 32)); have Q := Lib.hid (Blk.new W2 32 #[.int .i64 ac.1, .int .i64 ac.2]); clear hx; refine Hid.out ?_)
    refine Lib.hid ?_
    have yP0 : (W2.alloc (.cells #[.int .i64 ac.1, .int .i64 ac.2] 32)).cell? ⟨w.heap.size, 0, none⟩ = some (.int .i64 (L)) := P.out.cell 0
    have yP1 : (W2.alloc (.cells #[.int .i64 ac.1, .int .i64 ac.2] 32)).cell? ⟨w.heap.size, 1, none⟩ = some (.int .i64 (s)) := P.out.cell 1
    have yP2 : (W2.alloc (.cells #[.int .i64 ac.1, .int .i64 ac.2] 32)).cell? ⟨w.heap.size, 2, none⟩ = some (.int .i64 (a)) := P.out.cell 2
    have yQ0 : (W2.alloc (.cells #[.int .i64 ac.1, .int .i64 ac.2] 32)).cell? ⟨W2.heap.size, 0, none⟩ = some (.int .i64 (ac.1)) := Q.out.cell 0
    have yQ1 : (W2.alloc (.cells #[.int .i64 ac.1, .int .i64 ac.2] 32)).cell? ⟨W2.heap.size, 1, none⟩ = some (.int .i64 (ac.2)) := Q.out.cell 1
    go_wp2_with (first
      | (go_at_call 60; refine (HCU.out _).mono ?_; rintro e W3 ⟨A1, c1, rfl, hr1, hx⟩; clear yP0 yP1 yP2 yQ0 yQ1; have X3 := Lib.hid (X2.out.trans hx); have P := Lib.hid (P.out.ext hx); have Q := Lib.hid (Q.out.ext hx); clear hx; have R1 := Lib.hid hr1; clear hr1; refine Hid.out ?_))
    refine Lib.hid ?_
    have yP0 : W3.cell? ⟨w.heap.size, 0, none⟩ = some (.int .i64 (L)) := P.out.cell 0
    have yP1 : W3.cell? ⟨w.heap.size, 1, none⟩ = some (.int .i64 (s)) := P.out.cell 1
    have yP2 : W3.cell? ⟨w.heap.size, 2, none⟩ = some (.int .i64 (a)) := P.out.cell 2
    have yQ0 : W3.cell? ⟨W2.heap.size, 0, none⟩ = some (.int .i64 (ac.1)) := Q.out.cell 0
    have yQ1 : W3.cell? ⟨W2.heap.size, 1, none⟩ = some (.int .i64 (ac.2)) := Q.out.cell 1
    go_wp2_with (first
      | (go_at_call 61; refine (HSF.out _).mono ?_; rintro e W4 ⟨rfl, hx⟩; clear yP0 yP1 yP2 yQ0 yQ1; have X4 := Lib.hid (X3.out.trans hx); have R1 := Lib.hid (R1.out.ext hx); have P := Lib.hid (P.out.ext hx); have Q := Lib.hid (Q.out.ext hx); clear hx; refine Hid.out ?_))
    refine Lib.hid ?_
    have yP0 : W4.cell? ⟨w.heap.size, 0, none⟩ = some (.int .i64 (L)) := P.out.cell 0
    have yP1 : W4.cell? ⟨w.heap.size, 1, none⟩ = some (.int .i64 (s)) := P.out.cell 1
    have yP2 : W4.cell? ⟨w.heap.size, 2, none⟩ = some (.int .i64 (a)) := P.out.cell 2
    have yQ0 : W4.cell? ⟨W2.heap.size, 0, none⟩ = some (.int .i64 (ac.1)) := Q.out.cell 0
    have yQ1 : W4.cell? ⟨W2.heap.size, 1, none⟩ = some (.int .i64 (ac.2)) := Q.out.cell 1
    go_wp2_with (first
      | (go_at_call 20; (with_reducible refine (HWI.out _).mono ?_); rintro e w' ⟨rfl, rfl⟩)
      | (go_at_call 62; (with_reducible refine (HBD.out _).mono ?_); rintro e w' ⟨rfl, rfl⟩)
      | (go_at_call 57; (with_reducible refine (HRI.out _).mono ?_); rintro e w' ⟨rfl, rfl⟩)
      | (go_at_call 63; refine (HRS.out _).mono ?_; rintro e W5 ⟨rfl, hx⟩; clear yP0 yP1 yP2 yQ0 yQ1; have X5 := Lib.hid (X4.out.trans hx); have R1 := Lib.hid (R1.out.ext hx); have P := Lib.hid (P.out.ext hx); have Q := Lib.hid (Q.out.ext hx); clear hx; refine Hid.out ?_))
    refine Lib.hid ?_
    have yP0 : W5.cell? ⟨w.heap.size, 0, none⟩ = some (.int .i64 (L)) := P.out.cell 0
    have yP1 : W5.cell? ⟨w.heap.size, 1, none⟩ = some (.int .i64 (s)) := P.out.cell 1
    have yP2 : W5.cell? ⟨w.heap.size, 2, none⟩ = some (.int .i64 (a)) := P.out.cell 2
    have yQ0 : W5.cell? ⟨W2.heap.size, 0, none⟩ = some (.int .i64 (ac.1)) := Q.out.cell 0
    have yQ1 : W5.cell? ⟨W2.heap.size, 1, none⟩ = some (.int .i64 (ac.2)) := Q.out.cell 1
    go_wp2_with (first
      | (go_at_call 64; refine (HPL.out _).mono ?_; rintro e W6 ⟨rfl, hx⟩; clear yP0 yP1 yP2 yQ0 yQ1; have X6 := Lib.hid (X5.out.trans hx); have R1 := Lib.hid (R1.out.ext hx); have P := Lib.hid (P.out.ext hx); have Q := Lib.hid (Q.out.ext hx); clear hx; refine Hid.out ?_))
    refine Lib.hid ?_
    have yP0 : W6.cell? ⟨w.heap.size, 0, none⟩ = some (.int .i64 (L)) := P.out.cell 0
    have yP1 : W6.cell? ⟨w.heap.size, 1, none⟩ = some (.int .i64 (s)) := P.out.cell 1
    have yP2 : W6.cell? ⟨w.heap.size, 2, none⟩ = some (.int .i64 (a)) := P.out.cell 2
    have yQ0 : W6.cell? ⟨W2.heap.size, 0, none⟩ = some (.int .i64 (ac.1)) := Q.out.cell 0
    have yQ1 : W6.cell? ⟨W2.heap.size, 1, none⟩ = some (.int .i64 (ac.2)) := Q.out.cell 1
    go_wp2_with (first
      | (go_at_call 66; refine (HRC.out _).mono ?_; rintro e W7 ⟨A2, c2, rfl, hr2, hx⟩; clear yP0 yP1 yP2 yQ0 yQ1; have X7 := Lib.hid (X6.out.trans hx); have R1 := Lib.hid (R1.out.ext hx); have P := Lib.hid (P.out.ext hx); have Q := Lib.hid (Q.out.ext hx); clear hx; have R2 := Lib.hid hr2; clear hr2; refine Hid.out ?_))
    refine Lib.hid ?_
    have yP0 : W7.cell? ⟨w.heap.size, 0, none⟩ = some (.int .i64 (L)) := P.out.cell 0
    have yP1 : W7.cell? ⟨w.heap.size, 1, none⟩ = some (.int .i64 (s)) := P.out.cell 1
    have yP2 : W7.cell? ⟨w.heap.size, 2, none⟩ = some (.int .i64 (a)) := P.out.cell 2
    have yQ0 : W7.cell? ⟨W2.heap.size, 0, none⟩ = some (.int .i64 (ac.1)) := Q.out.cell 0
    have yQ1 : W7.cell? ⟨W2.heap.size, 1, none⟩ = some (.int .i64 (ac.2)) := Q.out.cell 1
    go_wp2_with (first
      | (go_at_call 65; refine (fracs_any HLN.out R1.out R2.out).mono ?_; rintro e W8 ⟨rfl, hx⟩; clear yP0 yP1 yP2 yQ0 yQ1; have X8 := Lib.hid (X7.out.trans hx); have P := Lib.hid (P.out.ext hx); have Q := Lib.hid (Q.out.ext hx); clear hx; refine Hid.out ?_))
    refine Lib.hid ?_
    have yP0 : W8.cell? ⟨w.heap.size, 0, none⟩ = some (.int .i64 (L)) := P.out.cell 0
    have yP1 : W8.cell? ⟨w.heap.size, 1, none⟩ = some (.int .i64 (s)) := P.out.cell 1
    have yP2 : W8.cell? ⟨w.heap.size, 2, none⟩ = some (.int .i64 (a)) := P.out.cell 2
    have yQ0 : W8.cell? ⟨W2.heap.size, 0, none⟩ = some (.int .i64 (ac.1)) := Q.out.cell 0
    have yQ1 : W8.cell? ⟨W2.heap.size, 1, none⟩ = some (.int .i64 (ac.2)) := Q.out.cell 1
    go_wp2_with (go_at_call 62; refine (HBD.out _).mono ?_; rintro e w' ⟨rfl, rfl⟩)
    refine wp_region_eachG [(137, true), (137, true), (137, true), (137, true), (137, true)] [some 135, some 136, some 137, some 138, some 139, some 140, some 141, some 142, some 143, some 6] [[8], [135], [136], [7, 137], [3, 137], [1, 137], [139, 140, 137], [138, 141, 137], [137, 142], [143]]
      [Is (.int .i64 (0)), Is (.bool (true)), Is (.bool (true)), Is (.agg #[.int .i64 (ac.1), .int .i64 (ac.2)]), Is (.agg #[.int .i64 (L), .int .i64 (s), .int .i64 (a)]), Is (.int .i64 (b)), Is (.agg #[.int .i64 ac.1, .int .i64 ac.2]), Is (.bool (true)), Is (.bool (true)), Is (.bool (true))]
      (by kernel_rfl) (by kernel_rfl) (by kernel_rfl) (by kernel_rfl) (by kernel_rfl) Ext (fun W => Ext W8 W)
      (fun W _ => Ext.refl W) (fun W W' h k => h.trans k) ?_ (by intro p hp; simp only [List.mem_cons, List.not_mem_nil, or_false] at hp; rcases hp with rfl | rfl | rfl | rfl | rfl <;> exact ⟨_, rfl, fun _ _ h => h⟩) (Ext.drew _) ?_ ?_
    · repeat (refine ⟨fun _ _ _ _ k h => (by first | exact h | exact (IntsAt.ext h k)), ?_⟩)
      exact trivial
    · refine ⟨?_, ?_, ?_, ?_, ?_, ?_, ?_, ?_, ?_, ?_, trivial⟩
      all_goals intro ρ W ⟨kc, kg, kf⟩ hF hs
      · obtain ⟨h0, -⟩ := hs
        replace h0 : ρ (.tmp 8) = .int .i64 (0) := h0
        go_simp
        exact ⟨Ext.refl _, rfl⟩
      · obtain ⟨h0, -⟩ := hs
        replace h0 : ρ (.tmp 135) = .int .i64 (0) := h0
        go_simp
        exact ⟨Ext.refl _, rfl⟩
      · obtain ⟨h0, -⟩ := hs
        replace h0 : ρ (.tmp 136) = .bool (true) := h0
        go_simp
        exact ⟨Ext.refl _, rfl⟩
      · obtain ⟨h0, h1, -⟩ := hs
        replace h0 : ρ (.tmp 7) = .pointer (some ⟨W2.heap.size, 0, none⟩) := h0
        replace h1 : ρ (.tmp 137) = .bool (true) := h1
        have hc0 : W.cell? ⟨W2.heap.size, 0, none⟩ = some (.int .i64 (ac.1)) := hF.cell (by assumption)
        have hc1 : W.cell? ⟨W2.heap.size, 1, none⟩ = some (.int .i64 (ac.2)) := hF.cell (by assumption)
        go_simp
        exact ⟨Ext.refl _, rfl⟩
      · obtain ⟨h0, h1, -⟩ := hs
        replace h0 : ρ (.tmp 3) = .pointer (some ⟨w.heap.size, 0, none⟩) := h0
        replace h1 : ρ (.tmp 137) = .bool (true) := h1
        have hc0 : W.cell? ⟨w.heap.size, 0, none⟩ = some (.int .i64 (L)) := hF.cell (by assumption)
        have hc1 : W.cell? ⟨w.heap.size, 1, none⟩ = some (.int .i64 (s)) := hF.cell (by assumption)
        have hc2 : W.cell? ⟨w.heap.size, 2, none⟩ = some (.int .i64 (a)) := hF.cell (by assumption)
        go_simp
        exact ⟨Ext.refl _, rfl⟩
      · obtain ⟨h0, h1, -⟩ := hs
        replace h0 : ρ (.tmp 1) = .int .i64 (b) := h0
        replace h1 : ρ (.tmp 137) = .bool (true) := h1
        go_simp
        exact ⟨Ext.refl _, rfl⟩
      · obtain ⟨h0, h1, h2, -⟩ := hs
        replace h0 : ρ (.tmp 139) = .agg #[.int .i64 (L), .int .i64 (s), .int .i64 (a)] := h0
        replace h1 : ρ (.tmp 140) = .int .i64 (b) := h1
        replace h2 : ρ (.tmp 137) = .bool (true) := h2
        go_simp
        refine (HRA.out _).mono ?_; rintro e w' ⟨rfl, hx⟩; exact ⟨_, rfl, hx, rfl⟩
      · obtain ⟨h0, h1, h2, -⟩ := hs
        replace h0 : ρ (.tmp 138) = .agg #[.int .i64 (ac.1), .int .i64 (ac.2)] := h0
        replace h1 : ρ (.tmp 141) = .agg #[.int .i64 ac.1, .int .i64 ac.2] := h1
        replace h2 : ρ (.tmp 137) = .bool (true) := h2
        go_simp
        exact ⟨Ext.refl _, rfl⟩
      · obtain ⟨h0, h1, -⟩ := hs
        replace h0 : ρ (.tmp 137) = .bool (true) := h0
        replace h1 : ρ (.tmp 142) = .bool (true) := h1
        go_simp
        exact ⟨Ext.refl _, rfl⟩
      · obtain ⟨h0, -⟩ := hs
        replace h0 : ρ (.tmp 143) = .bool (true) := h0
        go_simp
        exact ⟨Ext.refl _, rfl⟩
    · intro fv W hF hs
      obtain ⟨-, -, -, -, -, -, -, -, -, h6, -⟩ := hs
      replace h6 : fv 6 = .bool (true) := h6
      simp only [fin, List.filterMap]
      go_simp
      go_wp2
      go_ret
      exact ⟨rfl, X8.out.trans hF⟩

theorem samples_any (L s a b r : Int) (w : World) : Calls Try.prog 11 #[.agg #[.int .i64 L, .int .i64 s, .int .i64 a], .int .i64 b, .int .i64 r] w fun e w' => e = .returned (.bool true) ∧ Ext w w' := by
  cases hL : withinB L 1 30
  · by_cases hp : planE L s a = 0
    · rw [planE_eq, hL] at hp
      cases hp
    · exact samples_11 L s a b r w hL hp
  · by_cases hb : badE L b = 0
    · by_cases hr : riskE r = 0
      · by_cases hp : planE L s a = 0
        · exact samples_43 L s a b r w hL hb hr hp
        · exact samples_41 L s a b r w hL hb hr hp
      · by_cases hp : planE L s a = 0
        · exact samples_33 L s a b r w hL hb hr hp
        · exact samples_31 L s a b r w hL hb hr hp
    · by_cases hp : planE L s a = 0
      · exact samples_22 L s a b r w hL hb hp
      · exact samples_21 L s a b r w hL hb hp

end Go.Proofs.Ytmddnpagfgilcaa
