/- SteelTempered where a premise fails. -/
import Derived.Test.YtkmekbafjnlfkaaGreatS49
import Derived.BigQuiet

namespace Go.Proofs.YtkmekbafjnlfkaaGreat
open Go.RowKit Go.Shelf Go.Mem Go.RegInv
attribute [local go_sem] RelUpon_value RelUpon_skip RelUpon_enter BigFrame.eval_const BigFrame.eval_global BigFrame.eval_func

set_option maxRecDepth 100000 in
set_option maxHeartbeats 8000000 in
theorem tempered_bad {r : Ru} {A0 A1 A2 A3 : Option Addr} {n0 n1 n2 n3 c0 c1 c2 c3 : Nat} {w : World} (s : St) (kv tv : Int) (hR : RuIn r (.agg #[.slice A0 n0 c0, .slice A1 n1 c1, .slice A2 n2 c2, .slice A3 n3 c3, .int .i64 r.h0, .int .i64 r.h1, .int .i64 r.h2, .int .i64 r.h3]) w) (h10 : n0 ≤ 10 ∧ n1 ≤ 10 ∧ n2 ≤ 10 ∧ n3 ≤ 10) (hbad : ¬ (rulesE r = 0 ∧ stateE [s.p, s.a, s.b, s.m, s.wt, s.g, s.t] = 0 ∧ kelE kv = 0 ∧ withinB tv 0 30 = true ∧ lastLe (fun x : HK => decide (x.k ≤ kv)) r.hs n0 < 0 ∧ firstK CK.k kv r.cs < 0 ∧ firstK DK.k kv r.ds < 0)) :
    Calls Tryz.prog 12 #[.agg #[.slice A0 n0 c0, .slice A1 n1 c1, .slice A2 n2 c2, .slice A3 n3 c3, .int .i64 r.h0, .int .i64 r.h1, .int .i64 r.h2, .int .i64 r.h3], .agg #[.int .i64 s.p, .int .i64 s.a, .int .i64 s.b, .int .i64 s.m, .int .i64 s.wt, .int .i64 s.g, .int .i64 s.t], .agg #[.int .i64 kv, .int .i64 tv]] w fun e w' => e = .returned (.bool true) ∧ Ext w w' := by
  have HIN := Lib.hid hR
  have HRE := Lib.hid (fun (W : World) (e : Ext w W) => rulesErr_any (c0 := c0) (c1 := c1) (c2 := c2) (c3 := c3) (hR.at.ext e) h10)
  have HSE := Lib.hid (fun W => stateErr_any s.p s.a s.b s.m s.wt s.g s.t W)
  have HKE := Lib.hid (fun W => kelvinErr_any kv W)
  have HTE := Lib.hid (fun W => within_any tv 0 30 W)
  have HH := Lib.hid (fun (W : World) (e : Ext w W) => heatAt_any (c0 := c0) (c1 := c1) (c2 := c2) (c3 := c3) (hR.at.ext e) kv)
  have HC := Lib.hid (fun (W : World) (e : Ext w W) => coolAt_any (c0 := c0) (c1 := c1) (c2 := c2) (c3 := c3) (hR.at.ext e) kv)
  have HD := Lib.hid (fun (W : World) (e : Ext w W) => coldAt_any (c0 := c0) (c1 := c1) (c2 := c2) (c3 := c3) (hR.at.ext e) kv)
  have HFEW := Lib.hid (fun W => show Calls Tryz.prog 14 #[.agg #[.slice A0 n0 c0, .slice A1 n1 c1, .slice A2 n2 c2, .slice A3 n3 c3, .int .i64 r.h0, .int .i64 r.h1, .int .i64 r.h2, .int .i64 r.h3]] W fun e w' => e = .returned (.bool true) ∧ Ext W w' by
    have := few_any A0 A1 A2 A3 n0 n1 n2 n3 c0 c1 c2 c3 r.h0 r.h1 r.h2 r.h3 W
    rw [decide_eq_true h10] at this
    exact this)
  obtain ⟨W0, hW0⟩ : ∃ W0, W0 = ((w.alloc (.cells #[.slice A0 n0 c0, .slice A1 n1 c1, .slice A2 n2 c2, .slice A3 n3 c3, .int .i64 r.h0, .int .i64 r.h1, .int .i64 r.h2, .int .i64 r.h3] 28)).alloc (.cells #[.int .i64 s.p, .int .i64 s.a, .int .i64 s.b, .int .i64 s.m, .int .i64 s.wt, .int .i64 s.g, .int .i64 s.t] 30)).alloc (.cells #[.int .i64 kv, .int .i64 tv] 123) := ⟨_, rfl⟩
  have HI := Lib.hid (show BoxI w W0 123 #[.slice A0 n0 c0, .slice A1 n1 c1, .slice A2 n2 c2, .slice A3 n3 c3, .int .i64 r.h0, .int .i64 r.h1, .int .i64 r.h2, .int .i64 r.h3] s #[.int .i64 kv, .int .i64 tv] by rw [hW0]; exact BoxI.new _ _ _ _ _)
  by_cases hh0 : rulesE r = 0
  · rw [hh0] at HRE
    by_cases hh1 : stateE [s.p, s.a, s.b, s.m, s.wt, s.g, s.t] = 0
    · rw [hh1] at HSE
      by_cases hh2 : kelE kv = 0
      · rw [hh2] at HKE
        by_cases hh3 : withinB tv 0 30 = true
        · rw [hh3] at HTE
          by_cases hh4 : lastLe (fun x : HK => decide (x.k ≤ kv)) r.hs n0 < 0
          · have hd4 : decide (0 ≤ lastLe (fun x : HK => decide (x.k ≤ kv)) r.hs n0) = false := decide_eq_false (by omega)
            by_cases hh5 : firstK CK.k kv r.cs < 0
            · have hd5 : decide (0 ≤ firstK CK.k kv r.cs) = false := decide_eq_false (by omega)
              by_cases hh6 : firstK DK.k kv r.ds < 0
              · have hd6 : decide (0 ≤ firstK DK.k kv r.ds) = false := decide_eq_false (by omega)
                exact absurd ⟨hh0, hh1, hh2, hh3, hh4, hh5, hh6⟩ hbad
              · have hd6 : decide (0 ≤ firstK DK.k kv r.ds) = true := decide_eq_true (by omega)
                clear hbad
                go_enter Tryz.func12, Tryz.ntmps12
                go_wp2_with (go_at_call 13; rw [← hW0]; refine (awake_any _).mono ?_; rintro e W1 ⟨rfl, hx⟩; have XT := Lib.hid hx; clear hx hW0; refine Hid.out ?_)
                refine Lib.hid ?_
                replace HI := Lib.hid (HI.out.ext XT.out)
                clear XT
                have y0 : W1.cell? ⟨w.heap.size, 0, none⟩ = some (.slice A0 n0 c0) := HI.out.k0.cell 0
                have y1 : W1.cell? ⟨w.heap.size, 1, none⟩ = some (.slice A1 n1 c1) := HI.out.k0.cell 1
                have y2 : W1.cell? ⟨w.heap.size, 2, none⟩ = some (.slice A2 n2 c2) := HI.out.k0.cell 2
                have y3 : W1.cell? ⟨w.heap.size, 3, none⟩ = some (.slice A3 n3 c3) := HI.out.k0.cell 3
                have y4 : W1.cell? ⟨w.heap.size, 4, none⟩ = some (.int .i64 r.h0) := HI.out.k0.cell 4
                have y5 : W1.cell? ⟨w.heap.size, 5, none⟩ = some (.int .i64 r.h1) := HI.out.k0.cell 5
                have y6 : W1.cell? ⟨w.heap.size, 6, none⟩ = some (.int .i64 r.h2) := HI.out.k0.cell 6
                have y7 : W1.cell? ⟨w.heap.size, 7, none⟩ = some (.int .i64 r.h3) := HI.out.k0.cell 7
                have x0 : W1.cell? ⟨w.heap.size + 1, 0, none⟩ = some (.int .i64 s.p) := HI.out.k1.cell 0
                have x1 : W1.cell? ⟨w.heap.size + 1, 1, none⟩ = some (.int .i64 s.a) := HI.out.k1.cell 1
                have x2 : W1.cell? ⟨w.heap.size + 1, 2, none⟩ = some (.int .i64 s.b) := HI.out.k1.cell 2
                have x3 : W1.cell? ⟨w.heap.size + 1, 3, none⟩ = some (.int .i64 s.m) := HI.out.k1.cell 3
                have x4 : W1.cell? ⟨w.heap.size + 1, 4, none⟩ = some (.int .i64 s.wt) := HI.out.k1.cell 4
                have x5 : W1.cell? ⟨w.heap.size + 1, 5, none⟩ = some (.int .i64 s.g) := HI.out.k1.cell 5
                have x6 : W1.cell? ⟨w.heap.size + 1, 6, none⟩ = some (.int .i64 s.t) := HI.out.k1.cell 6
                have v0 : W1.cell? ⟨w.heap.size + 1 + 1, 0, none⟩ = some (.int .i64 kv) := HI.out.k2.cell 0
                have v1 : W1.cell? ⟨w.heap.size + 1 + 1, 1, none⟩ = some (.int .i64 tv) := HI.out.k2.cell 1
                go_wp2
                go_quiet (fail)
                have XD := Lib.hid (show Ext W1 (W1.drewN nq) from Ext.drewN _ _)
                replace HI := Lib.hid (HI.out.ext XD.out)
                obtain ⟨V1, hV1⟩ : ∃ V, V = W1.drewN nq := ⟨_, rfl⟩
                rw [← hV1] at HI ⊢
                clear XD hV1
                clear y0 y1 y2 y3 y4 y5 y6 y7 x0 x1 x2 x3 x4 x5 x6 v0 v1
                have y0 : V1.cell? ⟨w.heap.size, 0, none⟩ = some (.slice A0 n0 c0) := HI.out.k0.cell 0
                have y1 : V1.cell? ⟨w.heap.size, 1, none⟩ = some (.slice A1 n1 c1) := HI.out.k0.cell 1
                have y2 : V1.cell? ⟨w.heap.size, 2, none⟩ = some (.slice A2 n2 c2) := HI.out.k0.cell 2
                have y3 : V1.cell? ⟨w.heap.size, 3, none⟩ = some (.slice A3 n3 c3) := HI.out.k0.cell 3
                have y4 : V1.cell? ⟨w.heap.size, 4, none⟩ = some (.int .i64 r.h0) := HI.out.k0.cell 4
                have y5 : V1.cell? ⟨w.heap.size, 5, none⟩ = some (.int .i64 r.h1) := HI.out.k0.cell 5
                have y6 : V1.cell? ⟨w.heap.size, 6, none⟩ = some (.int .i64 r.h2) := HI.out.k0.cell 6
                have y7 : V1.cell? ⟨w.heap.size, 7, none⟩ = some (.int .i64 r.h3) := HI.out.k0.cell 7
                have x0 : V1.cell? ⟨w.heap.size + 1, 0, none⟩ = some (.int .i64 s.p) := HI.out.k1.cell 0
                have x1 : V1.cell? ⟨w.heap.size + 1, 1, none⟩ = some (.int .i64 s.a) := HI.out.k1.cell 1
                have x2 : V1.cell? ⟨w.heap.size + 1, 2, none⟩ = some (.int .i64 s.b) := HI.out.k1.cell 2
                have x3 : V1.cell? ⟨w.heap.size + 1, 3, none⟩ = some (.int .i64 s.m) := HI.out.k1.cell 3
                have x4 : V1.cell? ⟨w.heap.size + 1, 4, none⟩ = some (.int .i64 s.wt) := HI.out.k1.cell 4
                have x5 : V1.cell? ⟨w.heap.size + 1, 5, none⟩ = some (.int .i64 s.g) := HI.out.k1.cell 5
                have x6 : V1.cell? ⟨w.heap.size + 1, 6, none⟩ = some (.int .i64 s.t) := HI.out.k1.cell 6
                have v0 : V1.cell? ⟨w.heap.size + 1 + 1, 0, none⟩ = some (.int .i64 kv) := HI.out.k2.cell 0
                have v1 : V1.cell? ⟨w.heap.size + 1 + 1, 1, none⟩ = some (.int .i64 tv) := HI.out.k2.cell 1
                go_wp2_with (go_at_call 14; refine (HFEW.out _).mono ?_; rintro e W2 ⟨rfl, hx⟩; have XT := Lib.hid hx; clear hx; refine Hid.out ?_)
                refine Lib.hid ?_
                replace HI := Lib.hid (HI.out.ext XT.out)
                clear XT
                clear y0 y1 y2 y3 y4 y5 y6 y7 x0 x1 x2 x3 x4 x5 x6 v0 v1
                have y0 : W2.cell? ⟨w.heap.size, 0, none⟩ = some (.slice A0 n0 c0) := HI.out.k0.cell 0
                have y1 : W2.cell? ⟨w.heap.size, 1, none⟩ = some (.slice A1 n1 c1) := HI.out.k0.cell 1
                have y2 : W2.cell? ⟨w.heap.size, 2, none⟩ = some (.slice A2 n2 c2) := HI.out.k0.cell 2
                have y3 : W2.cell? ⟨w.heap.size, 3, none⟩ = some (.slice A3 n3 c3) := HI.out.k0.cell 3
                have y4 : W2.cell? ⟨w.heap.size, 4, none⟩ = some (.int .i64 r.h0) := HI.out.k0.cell 4
                have y5 : W2.cell? ⟨w.heap.size, 5, none⟩ = some (.int .i64 r.h1) := HI.out.k0.cell 5
                have y6 : W2.cell? ⟨w.heap.size, 6, none⟩ = some (.int .i64 r.h2) := HI.out.k0.cell 6
                have y7 : W2.cell? ⟨w.heap.size, 7, none⟩ = some (.int .i64 r.h3) := HI.out.k0.cell 7
                have x0 : W2.cell? ⟨w.heap.size + 1, 0, none⟩ = some (.int .i64 s.p) := HI.out.k1.cell 0
                have x1 : W2.cell? ⟨w.heap.size + 1, 1, none⟩ = some (.int .i64 s.a) := HI.out.k1.cell 1
                have x2 : W2.cell? ⟨w.heap.size + 1, 2, none⟩ = some (.int .i64 s.b) := HI.out.k1.cell 2
                have x3 : W2.cell? ⟨w.heap.size + 1, 3, none⟩ = some (.int .i64 s.m) := HI.out.k1.cell 3
                have x4 : W2.cell? ⟨w.heap.size + 1, 4, none⟩ = some (.int .i64 s.wt) := HI.out.k1.cell 4
                have x5 : W2.cell? ⟨w.heap.size + 1, 5, none⟩ = some (.int .i64 s.g) := HI.out.k1.cell 5
                have x6 : W2.cell? ⟨w.heap.size + 1, 6, none⟩ = some (.int .i64 s.t) := HI.out.k1.cell 6
                have v0 : W2.cell? ⟨w.heap.size + 1 + 1, 0, none⟩ = some (.int .i64 kv) := HI.out.k2.cell 0
                have v1 : W2.cell? ⟨w.heap.size + 1 + 1, 1, none⟩ = some (.int .i64 tv) := HI.out.k2.cell 1
                go_wp2_with (go_at_call 28; refine (HRE.out _ HI.out.e).mono ?_; rintro e W3 ⟨rfl, hx⟩; have XT := Lib.hid hx; clear hx; refine Hid.out ?_)
                refine Lib.hid ?_
                replace HI := Lib.hid (HI.out.ext XT.out)
                clear XT
                clear y0 y1 y2 y3 y4 y5 y6 y7 x0 x1 x2 x3 x4 x5 x6 v0 v1
                have y0 : W3.cell? ⟨w.heap.size, 0, none⟩ = some (.slice A0 n0 c0) := HI.out.k0.cell 0
                have y1 : W3.cell? ⟨w.heap.size, 1, none⟩ = some (.slice A1 n1 c1) := HI.out.k0.cell 1
                have y2 : W3.cell? ⟨w.heap.size, 2, none⟩ = some (.slice A2 n2 c2) := HI.out.k0.cell 2
                have y3 : W3.cell? ⟨w.heap.size, 3, none⟩ = some (.slice A3 n3 c3) := HI.out.k0.cell 3
                have y4 : W3.cell? ⟨w.heap.size, 4, none⟩ = some (.int .i64 r.h0) := HI.out.k0.cell 4
                have y5 : W3.cell? ⟨w.heap.size, 5, none⟩ = some (.int .i64 r.h1) := HI.out.k0.cell 5
                have y6 : W3.cell? ⟨w.heap.size, 6, none⟩ = some (.int .i64 r.h2) := HI.out.k0.cell 6
                have y7 : W3.cell? ⟨w.heap.size, 7, none⟩ = some (.int .i64 r.h3) := HI.out.k0.cell 7
                have x0 : W3.cell? ⟨w.heap.size + 1, 0, none⟩ = some (.int .i64 s.p) := HI.out.k1.cell 0
                have x1 : W3.cell? ⟨w.heap.size + 1, 1, none⟩ = some (.int .i64 s.a) := HI.out.k1.cell 1
                have x2 : W3.cell? ⟨w.heap.size + 1, 2, none⟩ = some (.int .i64 s.b) := HI.out.k1.cell 2
                have x3 : W3.cell? ⟨w.heap.size + 1, 3, none⟩ = some (.int .i64 s.m) := HI.out.k1.cell 3
                have x4 : W3.cell? ⟨w.heap.size + 1, 4, none⟩ = some (.int .i64 s.wt) := HI.out.k1.cell 4
                have x5 : W3.cell? ⟨w.heap.size + 1, 5, none⟩ = some (.int .i64 s.g) := HI.out.k1.cell 5
                have x6 : W3.cell? ⟨w.heap.size + 1, 6, none⟩ = some (.int .i64 s.t) := HI.out.k1.cell 6
                have v0 : W3.cell? ⟨w.heap.size + 1 + 1, 0, none⟩ = some (.int .i64 kv) := HI.out.k2.cell 0
                have v1 : W3.cell? ⟨w.heap.size + 1 + 1, 1, none⟩ = some (.int .i64 tv) := HI.out.k2.cell 1
                go_wp2_with (go_at_call 19; refine (HSE.out _).mono ?_; rintro e W4 ⟨rfl, hx⟩; have XT := Lib.hid hx; clear hx; refine Hid.out ?_)
                refine Lib.hid ?_
                replace HI := Lib.hid (HI.out.ext XT.out)
                clear XT
                clear y0 y1 y2 y3 y4 y5 y6 y7 x0 x1 x2 x3 x4 x5 x6 v0 v1
                have y0 : W4.cell? ⟨w.heap.size, 0, none⟩ = some (.slice A0 n0 c0) := HI.out.k0.cell 0
                have y1 : W4.cell? ⟨w.heap.size, 1, none⟩ = some (.slice A1 n1 c1) := HI.out.k0.cell 1
                have y2 : W4.cell? ⟨w.heap.size, 2, none⟩ = some (.slice A2 n2 c2) := HI.out.k0.cell 2
                have y3 : W4.cell? ⟨w.heap.size, 3, none⟩ = some (.slice A3 n3 c3) := HI.out.k0.cell 3
                have y4 : W4.cell? ⟨w.heap.size, 4, none⟩ = some (.int .i64 r.h0) := HI.out.k0.cell 4
                have y5 : W4.cell? ⟨w.heap.size, 5, none⟩ = some (.int .i64 r.h1) := HI.out.k0.cell 5
                have y6 : W4.cell? ⟨w.heap.size, 6, none⟩ = some (.int .i64 r.h2) := HI.out.k0.cell 6
                have y7 : W4.cell? ⟨w.heap.size, 7, none⟩ = some (.int .i64 r.h3) := HI.out.k0.cell 7
                have x0 : W4.cell? ⟨w.heap.size + 1, 0, none⟩ = some (.int .i64 s.p) := HI.out.k1.cell 0
                have x1 : W4.cell? ⟨w.heap.size + 1, 1, none⟩ = some (.int .i64 s.a) := HI.out.k1.cell 1
                have x2 : W4.cell? ⟨w.heap.size + 1, 2, none⟩ = some (.int .i64 s.b) := HI.out.k1.cell 2
                have x3 : W4.cell? ⟨w.heap.size + 1, 3, none⟩ = some (.int .i64 s.m) := HI.out.k1.cell 3
                have x4 : W4.cell? ⟨w.heap.size + 1, 4, none⟩ = some (.int .i64 s.wt) := HI.out.k1.cell 4
                have x5 : W4.cell? ⟨w.heap.size + 1, 5, none⟩ = some (.int .i64 s.g) := HI.out.k1.cell 5
                have x6 : W4.cell? ⟨w.heap.size + 1, 6, none⟩ = some (.int .i64 s.t) := HI.out.k1.cell 6
                have v0 : W4.cell? ⟨w.heap.size + 1 + 1, 0, none⟩ = some (.int .i64 kv) := HI.out.k2.cell 0
                have v1 : W4.cell? ⟨w.heap.size + 1 + 1, 1, none⟩ = some (.int .i64 tv) := HI.out.k2.cell 1
                go_wp2_with (go_at_call 30; refine (HKE.out _).mono ?_; rintro e W5 ⟨rfl, hx⟩; have XT := Lib.hid hx; clear hx; refine Hid.out ?_)
                refine Lib.hid ?_
                replace HI := Lib.hid (HI.out.ext XT.out)
                clear XT
                clear y0 y1 y2 y3 y4 y5 y6 y7 x0 x1 x2 x3 x4 x5 x6 v0 v1
                have y0 : W5.cell? ⟨w.heap.size, 0, none⟩ = some (.slice A0 n0 c0) := HI.out.k0.cell 0
                have y1 : W5.cell? ⟨w.heap.size, 1, none⟩ = some (.slice A1 n1 c1) := HI.out.k0.cell 1
                have y2 : W5.cell? ⟨w.heap.size, 2, none⟩ = some (.slice A2 n2 c2) := HI.out.k0.cell 2
                have y3 : W5.cell? ⟨w.heap.size, 3, none⟩ = some (.slice A3 n3 c3) := HI.out.k0.cell 3
                have y4 : W5.cell? ⟨w.heap.size, 4, none⟩ = some (.int .i64 r.h0) := HI.out.k0.cell 4
                have y5 : W5.cell? ⟨w.heap.size, 5, none⟩ = some (.int .i64 r.h1) := HI.out.k0.cell 5
                have y6 : W5.cell? ⟨w.heap.size, 6, none⟩ = some (.int .i64 r.h2) := HI.out.k0.cell 6
                have y7 : W5.cell? ⟨w.heap.size, 7, none⟩ = some (.int .i64 r.h3) := HI.out.k0.cell 7
                have x0 : W5.cell? ⟨w.heap.size + 1, 0, none⟩ = some (.int .i64 s.p) := HI.out.k1.cell 0
                have x1 : W5.cell? ⟨w.heap.size + 1, 1, none⟩ = some (.int .i64 s.a) := HI.out.k1.cell 1
                have x2 : W5.cell? ⟨w.heap.size + 1, 2, none⟩ = some (.int .i64 s.b) := HI.out.k1.cell 2
                have x3 : W5.cell? ⟨w.heap.size + 1, 3, none⟩ = some (.int .i64 s.m) := HI.out.k1.cell 3
                have x4 : W5.cell? ⟨w.heap.size + 1, 4, none⟩ = some (.int .i64 s.wt) := HI.out.k1.cell 4
                have x5 : W5.cell? ⟨w.heap.size + 1, 5, none⟩ = some (.int .i64 s.g) := HI.out.k1.cell 5
                have x6 : W5.cell? ⟨w.heap.size + 1, 6, none⟩ = some (.int .i64 s.t) := HI.out.k1.cell 6
                have v0 : W5.cell? ⟨w.heap.size + 1 + 1, 0, none⟩ = some (.int .i64 kv) := HI.out.k2.cell 0
                have v1 : W5.cell? ⟨w.heap.size + 1 + 1, 1, none⟩ = some (.int .i64 tv) := HI.out.k2.cell 1
                go_wp2_with (go_at_call 34; refine (HTE.out _).mono ?_; rintro e W6 ⟨rfl, hx⟩; have XT := Lib.hid hx; clear hx; refine Hid.out ?_)
                refine Lib.hid ?_
                replace HI := Lib.hid (HI.out.ext XT.out)
                clear XT
                clear y0 y1 y2 y3 y4 y5 y6 y7 x0 x1 x2 x3 x4 x5 x6 v0 v1
                have y0 : W6.cell? ⟨w.heap.size, 0, none⟩ = some (.slice A0 n0 c0) := HI.out.k0.cell 0
                have y1 : W6.cell? ⟨w.heap.size, 1, none⟩ = some (.slice A1 n1 c1) := HI.out.k0.cell 1
                have y2 : W6.cell? ⟨w.heap.size, 2, none⟩ = some (.slice A2 n2 c2) := HI.out.k0.cell 2
                have y3 : W6.cell? ⟨w.heap.size, 3, none⟩ = some (.slice A3 n3 c3) := HI.out.k0.cell 3
                have y4 : W6.cell? ⟨w.heap.size, 4, none⟩ = some (.int .i64 r.h0) := HI.out.k0.cell 4
                have y5 : W6.cell? ⟨w.heap.size, 5, none⟩ = some (.int .i64 r.h1) := HI.out.k0.cell 5
                have y6 : W6.cell? ⟨w.heap.size, 6, none⟩ = some (.int .i64 r.h2) := HI.out.k0.cell 6
                have y7 : W6.cell? ⟨w.heap.size, 7, none⟩ = some (.int .i64 r.h3) := HI.out.k0.cell 7
                have x0 : W6.cell? ⟨w.heap.size + 1, 0, none⟩ = some (.int .i64 s.p) := HI.out.k1.cell 0
                have x1 : W6.cell? ⟨w.heap.size + 1, 1, none⟩ = some (.int .i64 s.a) := HI.out.k1.cell 1
                have x2 : W6.cell? ⟨w.heap.size + 1, 2, none⟩ = some (.int .i64 s.b) := HI.out.k1.cell 2
                have x3 : W6.cell? ⟨w.heap.size + 1, 3, none⟩ = some (.int .i64 s.m) := HI.out.k1.cell 3
                have x4 : W6.cell? ⟨w.heap.size + 1, 4, none⟩ = some (.int .i64 s.wt) := HI.out.k1.cell 4
                have x5 : W6.cell? ⟨w.heap.size + 1, 5, none⟩ = some (.int .i64 s.g) := HI.out.k1.cell 5
                have x6 : W6.cell? ⟨w.heap.size + 1, 6, none⟩ = some (.int .i64 s.t) := HI.out.k1.cell 6
                have v0 : W6.cell? ⟨w.heap.size + 1 + 1, 0, none⟩ = some (.int .i64 kv) := HI.out.k2.cell 0
                have v1 : W6.cell? ⟨w.heap.size + 1 + 1, 1, none⟩ = some (.int .i64 tv) := HI.out.k2.cell 1
                go_wp2_with (go_at_call 65; refine (HH.out _ HI.out.e).mono ?_; rintro e W7 ⟨rfl, hx⟩; have XT := Lib.hid hx; clear hx; refine Hid.out ?_)
                refine Lib.hid ?_
                replace HI := Lib.hid (HI.out.ext XT.out)
                clear XT
                clear y0 y1 y2 y3 y4 y5 y6 y7 x0 x1 x2 x3 x4 x5 x6 v0 v1
                have y0 : W7.cell? ⟨w.heap.size, 0, none⟩ = some (.slice A0 n0 c0) := HI.out.k0.cell 0
                have y1 : W7.cell? ⟨w.heap.size, 1, none⟩ = some (.slice A1 n1 c1) := HI.out.k0.cell 1
                have y2 : W7.cell? ⟨w.heap.size, 2, none⟩ = some (.slice A2 n2 c2) := HI.out.k0.cell 2
                have y3 : W7.cell? ⟨w.heap.size, 3, none⟩ = some (.slice A3 n3 c3) := HI.out.k0.cell 3
                have y4 : W7.cell? ⟨w.heap.size, 4, none⟩ = some (.int .i64 r.h0) := HI.out.k0.cell 4
                have y5 : W7.cell? ⟨w.heap.size, 5, none⟩ = some (.int .i64 r.h1) := HI.out.k0.cell 5
                have y6 : W7.cell? ⟨w.heap.size, 6, none⟩ = some (.int .i64 r.h2) := HI.out.k0.cell 6
                have y7 : W7.cell? ⟨w.heap.size, 7, none⟩ = some (.int .i64 r.h3) := HI.out.k0.cell 7
                have x0 : W7.cell? ⟨w.heap.size + 1, 0, none⟩ = some (.int .i64 s.p) := HI.out.k1.cell 0
                have x1 : W7.cell? ⟨w.heap.size + 1, 1, none⟩ = some (.int .i64 s.a) := HI.out.k1.cell 1
                have x2 : W7.cell? ⟨w.heap.size + 1, 2, none⟩ = some (.int .i64 s.b) := HI.out.k1.cell 2
                have x3 : W7.cell? ⟨w.heap.size + 1, 3, none⟩ = some (.int .i64 s.m) := HI.out.k1.cell 3
                have x4 : W7.cell? ⟨w.heap.size + 1, 4, none⟩ = some (.int .i64 s.wt) := HI.out.k1.cell 4
                have x5 : W7.cell? ⟨w.heap.size + 1, 5, none⟩ = some (.int .i64 s.g) := HI.out.k1.cell 5
                have x6 : W7.cell? ⟨w.heap.size + 1, 6, none⟩ = some (.int .i64 s.t) := HI.out.k1.cell 6
                have v0 : W7.cell? ⟨w.heap.size + 1 + 1, 0, none⟩ = some (.int .i64 kv) := HI.out.k2.cell 0
                have v1 : W7.cell? ⟨w.heap.size + 1 + 1, 1, none⟩ = some (.int .i64 tv) := HI.out.k2.cell 1
                go_wp2_with (go_at_call 66; refine (HC.out _ HI.out.e).mono ?_; rintro e W8 ⟨rfl, hx⟩; have XT := Lib.hid hx; clear hx; refine Hid.out ?_)
                refine Lib.hid ?_
                replace HI := Lib.hid (HI.out.ext XT.out)
                clear XT
                clear y0 y1 y2 y3 y4 y5 y6 y7 x0 x1 x2 x3 x4 x5 x6 v0 v1
                have y0 : W8.cell? ⟨w.heap.size, 0, none⟩ = some (.slice A0 n0 c0) := HI.out.k0.cell 0
                have y1 : W8.cell? ⟨w.heap.size, 1, none⟩ = some (.slice A1 n1 c1) := HI.out.k0.cell 1
                have y2 : W8.cell? ⟨w.heap.size, 2, none⟩ = some (.slice A2 n2 c2) := HI.out.k0.cell 2
                have y3 : W8.cell? ⟨w.heap.size, 3, none⟩ = some (.slice A3 n3 c3) := HI.out.k0.cell 3
                have y4 : W8.cell? ⟨w.heap.size, 4, none⟩ = some (.int .i64 r.h0) := HI.out.k0.cell 4
                have y5 : W8.cell? ⟨w.heap.size, 5, none⟩ = some (.int .i64 r.h1) := HI.out.k0.cell 5
                have y6 : W8.cell? ⟨w.heap.size, 6, none⟩ = some (.int .i64 r.h2) := HI.out.k0.cell 6
                have y7 : W8.cell? ⟨w.heap.size, 7, none⟩ = some (.int .i64 r.h3) := HI.out.k0.cell 7
                have x0 : W8.cell? ⟨w.heap.size + 1, 0, none⟩ = some (.int .i64 s.p) := HI.out.k1.cell 0
                have x1 : W8.cell? ⟨w.heap.size + 1, 1, none⟩ = some (.int .i64 s.a) := HI.out.k1.cell 1
                have x2 : W8.cell? ⟨w.heap.size + 1, 2, none⟩ = some (.int .i64 s.b) := HI.out.k1.cell 2
                have x3 : W8.cell? ⟨w.heap.size + 1, 3, none⟩ = some (.int .i64 s.m) := HI.out.k1.cell 3
                have x4 : W8.cell? ⟨w.heap.size + 1, 4, none⟩ = some (.int .i64 s.wt) := HI.out.k1.cell 4
                have x5 : W8.cell? ⟨w.heap.size + 1, 5, none⟩ = some (.int .i64 s.g) := HI.out.k1.cell 5
                have x6 : W8.cell? ⟨w.heap.size + 1, 6, none⟩ = some (.int .i64 s.t) := HI.out.k1.cell 6
                have v0 : W8.cell? ⟨w.heap.size + 1 + 1, 0, none⟩ = some (.int .i64 kv) := HI.out.k2.cell 0
                have v1 : W8.cell? ⟨w.heap.size + 1 + 1, 1, none⟩ = some (.int .i64 tv) := HI.out.k2.cell 1
                go_wp2_with (go_at_call 67; refine (HD.out _ HI.out.e).mono ?_; rintro e W9 ⟨rfl, hx⟩; have XT := Lib.hid hx; clear hx)
                go_ret
                exact ⟨rfl, HI.out.e.trans XT.out⟩
            · have hd5 : decide (0 ≤ firstK CK.k kv r.cs) = true := decide_eq_true (by omega)
              clear hbad
              go_enter Tryz.func12, Tryz.ntmps12
              go_wp2_with (go_at_call 13; rw [← hW0]; refine (awake_any _).mono ?_; rintro e W1 ⟨rfl, hx⟩; have XT := Lib.hid hx; clear hx hW0; refine Hid.out ?_)
              refine Lib.hid ?_
              replace HI := Lib.hid (HI.out.ext XT.out)
              clear XT
              have y0 : W1.cell? ⟨w.heap.size, 0, none⟩ = some (.slice A0 n0 c0) := HI.out.k0.cell 0
              have y1 : W1.cell? ⟨w.heap.size, 1, none⟩ = some (.slice A1 n1 c1) := HI.out.k0.cell 1
              have y2 : W1.cell? ⟨w.heap.size, 2, none⟩ = some (.slice A2 n2 c2) := HI.out.k0.cell 2
              have y3 : W1.cell? ⟨w.heap.size, 3, none⟩ = some (.slice A3 n3 c3) := HI.out.k0.cell 3
              have y4 : W1.cell? ⟨w.heap.size, 4, none⟩ = some (.int .i64 r.h0) := HI.out.k0.cell 4
              have y5 : W1.cell? ⟨w.heap.size, 5, none⟩ = some (.int .i64 r.h1) := HI.out.k0.cell 5
              have y6 : W1.cell? ⟨w.heap.size, 6, none⟩ = some (.int .i64 r.h2) := HI.out.k0.cell 6
              have y7 : W1.cell? ⟨w.heap.size, 7, none⟩ = some (.int .i64 r.h3) := HI.out.k0.cell 7
              have x0 : W1.cell? ⟨w.heap.size + 1, 0, none⟩ = some (.int .i64 s.p) := HI.out.k1.cell 0
              have x1 : W1.cell? ⟨w.heap.size + 1, 1, none⟩ = some (.int .i64 s.a) := HI.out.k1.cell 1
              have x2 : W1.cell? ⟨w.heap.size + 1, 2, none⟩ = some (.int .i64 s.b) := HI.out.k1.cell 2
              have x3 : W1.cell? ⟨w.heap.size + 1, 3, none⟩ = some (.int .i64 s.m) := HI.out.k1.cell 3
              have x4 : W1.cell? ⟨w.heap.size + 1, 4, none⟩ = some (.int .i64 s.wt) := HI.out.k1.cell 4
              have x5 : W1.cell? ⟨w.heap.size + 1, 5, none⟩ = some (.int .i64 s.g) := HI.out.k1.cell 5
              have x6 : W1.cell? ⟨w.heap.size + 1, 6, none⟩ = some (.int .i64 s.t) := HI.out.k1.cell 6
              have v0 : W1.cell? ⟨w.heap.size + 1 + 1, 0, none⟩ = some (.int .i64 kv) := HI.out.k2.cell 0
              have v1 : W1.cell? ⟨w.heap.size + 1 + 1, 1, none⟩ = some (.int .i64 tv) := HI.out.k2.cell 1
              go_wp2
              go_quiet (fail)
              have XD := Lib.hid (show Ext W1 (W1.drewN nq) from Ext.drewN _ _)
              replace HI := Lib.hid (HI.out.ext XD.out)
              obtain ⟨V1, hV1⟩ : ∃ V, V = W1.drewN nq := ⟨_, rfl⟩
              rw [← hV1] at HI ⊢
              clear XD hV1
              clear y0 y1 y2 y3 y4 y5 y6 y7 x0 x1 x2 x3 x4 x5 x6 v0 v1
              have y0 : V1.cell? ⟨w.heap.size, 0, none⟩ = some (.slice A0 n0 c0) := HI.out.k0.cell 0
              have y1 : V1.cell? ⟨w.heap.size, 1, none⟩ = some (.slice A1 n1 c1) := HI.out.k0.cell 1
              have y2 : V1.cell? ⟨w.heap.size, 2, none⟩ = some (.slice A2 n2 c2) := HI.out.k0.cell 2
              have y3 : V1.cell? ⟨w.heap.size, 3, none⟩ = some (.slice A3 n3 c3) := HI.out.k0.cell 3
              have y4 : V1.cell? ⟨w.heap.size, 4, none⟩ = some (.int .i64 r.h0) := HI.out.k0.cell 4
              have y5 : V1.cell? ⟨w.heap.size, 5, none⟩ = some (.int .i64 r.h1) := HI.out.k0.cell 5
              have y6 : V1.cell? ⟨w.heap.size, 6, none⟩ = some (.int .i64 r.h2) := HI.out.k0.cell 6
              have y7 : V1.cell? ⟨w.heap.size, 7, none⟩ = some (.int .i64 r.h3) := HI.out.k0.cell 7
              have x0 : V1.cell? ⟨w.heap.size + 1, 0, none⟩ = some (.int .i64 s.p) := HI.out.k1.cell 0
              have x1 : V1.cell? ⟨w.heap.size + 1, 1, none⟩ = some (.int .i64 s.a) := HI.out.k1.cell 1
              have x2 : V1.cell? ⟨w.heap.size + 1, 2, none⟩ = some (.int .i64 s.b) := HI.out.k1.cell 2
              have x3 : V1.cell? ⟨w.heap.size + 1, 3, none⟩ = some (.int .i64 s.m) := HI.out.k1.cell 3
              have x4 : V1.cell? ⟨w.heap.size + 1, 4, none⟩ = some (.int .i64 s.wt) := HI.out.k1.cell 4
              have x5 : V1.cell? ⟨w.heap.size + 1, 5, none⟩ = some (.int .i64 s.g) := HI.out.k1.cell 5
              have x6 : V1.cell? ⟨w.heap.size + 1, 6, none⟩ = some (.int .i64 s.t) := HI.out.k1.cell 6
              have v0 : V1.cell? ⟨w.heap.size + 1 + 1, 0, none⟩ = some (.int .i64 kv) := HI.out.k2.cell 0
              have v1 : V1.cell? ⟨w.heap.size + 1 + 1, 1, none⟩ = some (.int .i64 tv) := HI.out.k2.cell 1
              go_wp2_with (go_at_call 14; refine (HFEW.out _).mono ?_; rintro e W2 ⟨rfl, hx⟩; have XT := Lib.hid hx; clear hx; refine Hid.out ?_)
              refine Lib.hid ?_
              replace HI := Lib.hid (HI.out.ext XT.out)
              clear XT
              clear y0 y1 y2 y3 y4 y5 y6 y7 x0 x1 x2 x3 x4 x5 x6 v0 v1
              have y0 : W2.cell? ⟨w.heap.size, 0, none⟩ = some (.slice A0 n0 c0) := HI.out.k0.cell 0
              have y1 : W2.cell? ⟨w.heap.size, 1, none⟩ = some (.slice A1 n1 c1) := HI.out.k0.cell 1
              have y2 : W2.cell? ⟨w.heap.size, 2, none⟩ = some (.slice A2 n2 c2) := HI.out.k0.cell 2
              have y3 : W2.cell? ⟨w.heap.size, 3, none⟩ = some (.slice A3 n3 c3) := HI.out.k0.cell 3
              have y4 : W2.cell? ⟨w.heap.size, 4, none⟩ = some (.int .i64 r.h0) := HI.out.k0.cell 4
              have y5 : W2.cell? ⟨w.heap.size, 5, none⟩ = some (.int .i64 r.h1) := HI.out.k0.cell 5
              have y6 : W2.cell? ⟨w.heap.size, 6, none⟩ = some (.int .i64 r.h2) := HI.out.k0.cell 6
              have y7 : W2.cell? ⟨w.heap.size, 7, none⟩ = some (.int .i64 r.h3) := HI.out.k0.cell 7
              have x0 : W2.cell? ⟨w.heap.size + 1, 0, none⟩ = some (.int .i64 s.p) := HI.out.k1.cell 0
              have x1 : W2.cell? ⟨w.heap.size + 1, 1, none⟩ = some (.int .i64 s.a) := HI.out.k1.cell 1
              have x2 : W2.cell? ⟨w.heap.size + 1, 2, none⟩ = some (.int .i64 s.b) := HI.out.k1.cell 2
              have x3 : W2.cell? ⟨w.heap.size + 1, 3, none⟩ = some (.int .i64 s.m) := HI.out.k1.cell 3
              have x4 : W2.cell? ⟨w.heap.size + 1, 4, none⟩ = some (.int .i64 s.wt) := HI.out.k1.cell 4
              have x5 : W2.cell? ⟨w.heap.size + 1, 5, none⟩ = some (.int .i64 s.g) := HI.out.k1.cell 5
              have x6 : W2.cell? ⟨w.heap.size + 1, 6, none⟩ = some (.int .i64 s.t) := HI.out.k1.cell 6
              have v0 : W2.cell? ⟨w.heap.size + 1 + 1, 0, none⟩ = some (.int .i64 kv) := HI.out.k2.cell 0
              have v1 : W2.cell? ⟨w.heap.size + 1 + 1, 1, none⟩ = some (.int .i64 tv) := HI.out.k2.cell 1
              go_wp2_with (go_at_call 28; refine (HRE.out _ HI.out.e).mono ?_; rintro e W3 ⟨rfl, hx⟩; have XT := Lib.hid hx; clear hx; refine Hid.out ?_)
              refine Lib.hid ?_
              replace HI := Lib.hid (HI.out.ext XT.out)
              clear XT
              clear y0 y1 y2 y3 y4 y5 y6 y7 x0 x1 x2 x3 x4 x5 x6 v0 v1
              have y0 : W3.cell? ⟨w.heap.size, 0, none⟩ = some (.slice A0 n0 c0) := HI.out.k0.cell 0
              have y1 : W3.cell? ⟨w.heap.size, 1, none⟩ = some (.slice A1 n1 c1) := HI.out.k0.cell 1
              have y2 : W3.cell? ⟨w.heap.size, 2, none⟩ = some (.slice A2 n2 c2) := HI.out.k0.cell 2
              have y3 : W3.cell? ⟨w.heap.size, 3, none⟩ = some (.slice A3 n3 c3) := HI.out.k0.cell 3
              have y4 : W3.cell? ⟨w.heap.size, 4, none⟩ = some (.int .i64 r.h0) := HI.out.k0.cell 4
              have y5 : W3.cell? ⟨w.heap.size, 5, none⟩ = some (.int .i64 r.h1) := HI.out.k0.cell 5
              have y6 : W3.cell? ⟨w.heap.size, 6, none⟩ = some (.int .i64 r.h2) := HI.out.k0.cell 6
              have y7 : W3.cell? ⟨w.heap.size, 7, none⟩ = some (.int .i64 r.h3) := HI.out.k0.cell 7
              have x0 : W3.cell? ⟨w.heap.size + 1, 0, none⟩ = some (.int .i64 s.p) := HI.out.k1.cell 0
              have x1 : W3.cell? ⟨w.heap.size + 1, 1, none⟩ = some (.int .i64 s.a) := HI.out.k1.cell 1
              have x2 : W3.cell? ⟨w.heap.size + 1, 2, none⟩ = some (.int .i64 s.b) := HI.out.k1.cell 2
              have x3 : W3.cell? ⟨w.heap.size + 1, 3, none⟩ = some (.int .i64 s.m) := HI.out.k1.cell 3
              have x4 : W3.cell? ⟨w.heap.size + 1, 4, none⟩ = some (.int .i64 s.wt) := HI.out.k1.cell 4
              have x5 : W3.cell? ⟨w.heap.size + 1, 5, none⟩ = some (.int .i64 s.g) := HI.out.k1.cell 5
              have x6 : W3.cell? ⟨w.heap.size + 1, 6, none⟩ = some (.int .i64 s.t) := HI.out.k1.cell 6
              have v0 : W3.cell? ⟨w.heap.size + 1 + 1, 0, none⟩ = some (.int .i64 kv) := HI.out.k2.cell 0
              have v1 : W3.cell? ⟨w.heap.size + 1 + 1, 1, none⟩ = some (.int .i64 tv) := HI.out.k2.cell 1
              go_wp2_with (go_at_call 19; refine (HSE.out _).mono ?_; rintro e W4 ⟨rfl, hx⟩; have XT := Lib.hid hx; clear hx; refine Hid.out ?_)
              refine Lib.hid ?_
              replace HI := Lib.hid (HI.out.ext XT.out)
              clear XT
              clear y0 y1 y2 y3 y4 y5 y6 y7 x0 x1 x2 x3 x4 x5 x6 v0 v1
              have y0 : W4.cell? ⟨w.heap.size, 0, none⟩ = some (.slice A0 n0 c0) := HI.out.k0.cell 0
              have y1 : W4.cell? ⟨w.heap.size, 1, none⟩ = some (.slice A1 n1 c1) := HI.out.k0.cell 1
              have y2 : W4.cell? ⟨w.heap.size, 2, none⟩ = some (.slice A2 n2 c2) := HI.out.k0.cell 2
              have y3 : W4.cell? ⟨w.heap.size, 3, none⟩ = some (.slice A3 n3 c3) := HI.out.k0.cell 3
              have y4 : W4.cell? ⟨w.heap.size, 4, none⟩ = some (.int .i64 r.h0) := HI.out.k0.cell 4
              have y5 : W4.cell? ⟨w.heap.size, 5, none⟩ = some (.int .i64 r.h1) := HI.out.k0.cell 5
              have y6 : W4.cell? ⟨w.heap.size, 6, none⟩ = some (.int .i64 r.h2) := HI.out.k0.cell 6
              have y7 : W4.cell? ⟨w.heap.size, 7, none⟩ = some (.int .i64 r.h3) := HI.out.k0.cell 7
              have x0 : W4.cell? ⟨w.heap.size + 1, 0, none⟩ = some (.int .i64 s.p) := HI.out.k1.cell 0
              have x1 : W4.cell? ⟨w.heap.size + 1, 1, none⟩ = some (.int .i64 s.a) := HI.out.k1.cell 1
              have x2 : W4.cell? ⟨w.heap.size + 1, 2, none⟩ = some (.int .i64 s.b) := HI.out.k1.cell 2
              have x3 : W4.cell? ⟨w.heap.size + 1, 3, none⟩ = some (.int .i64 s.m) := HI.out.k1.cell 3
              have x4 : W4.cell? ⟨w.heap.size + 1, 4, none⟩ = some (.int .i64 s.wt) := HI.out.k1.cell 4
              have x5 : W4.cell? ⟨w.heap.size + 1, 5, none⟩ = some (.int .i64 s.g) := HI.out.k1.cell 5
              have x6 : W4.cell? ⟨w.heap.size + 1, 6, none⟩ = some (.int .i64 s.t) := HI.out.k1.cell 6
              have v0 : W4.cell? ⟨w.heap.size + 1 + 1, 0, none⟩ = some (.int .i64 kv) := HI.out.k2.cell 0
              have v1 : W4.cell? ⟨w.heap.size + 1 + 1, 1, none⟩ = some (.int .i64 tv) := HI.out.k2.cell 1
              go_wp2_with (go_at_call 30; refine (HKE.out _).mono ?_; rintro e W5 ⟨rfl, hx⟩; have XT := Lib.hid hx; clear hx; refine Hid.out ?_)
              refine Lib.hid ?_
              replace HI := Lib.hid (HI.out.ext XT.out)
              clear XT
              clear y0 y1 y2 y3 y4 y5 y6 y7 x0 x1 x2 x3 x4 x5 x6 v0 v1
              have y0 : W5.cell? ⟨w.heap.size, 0, none⟩ = some (.slice A0 n0 c0) := HI.out.k0.cell 0
              have y1 : W5.cell? ⟨w.heap.size, 1, none⟩ = some (.slice A1 n1 c1) := HI.out.k0.cell 1
              have y2 : W5.cell? ⟨w.heap.size, 2, none⟩ = some (.slice A2 n2 c2) := HI.out.k0.cell 2
              have y3 : W5.cell? ⟨w.heap.size, 3, none⟩ = some (.slice A3 n3 c3) := HI.out.k0.cell 3
              have y4 : W5.cell? ⟨w.heap.size, 4, none⟩ = some (.int .i64 r.h0) := HI.out.k0.cell 4
              have y5 : W5.cell? ⟨w.heap.size, 5, none⟩ = some (.int .i64 r.h1) := HI.out.k0.cell 5
              have y6 : W5.cell? ⟨w.heap.size, 6, none⟩ = some (.int .i64 r.h2) := HI.out.k0.cell 6
              have y7 : W5.cell? ⟨w.heap.size, 7, none⟩ = some (.int .i64 r.h3) := HI.out.k0.cell 7
              have x0 : W5.cell? ⟨w.heap.size + 1, 0, none⟩ = some (.int .i64 s.p) := HI.out.k1.cell 0
              have x1 : W5.cell? ⟨w.heap.size + 1, 1, none⟩ = some (.int .i64 s.a) := HI.out.k1.cell 1
              have x2 : W5.cell? ⟨w.heap.size + 1, 2, none⟩ = some (.int .i64 s.b) := HI.out.k1.cell 2
              have x3 : W5.cell? ⟨w.heap.size + 1, 3, none⟩ = some (.int .i64 s.m) := HI.out.k1.cell 3
              have x4 : W5.cell? ⟨w.heap.size + 1, 4, none⟩ = some (.int .i64 s.wt) := HI.out.k1.cell 4
              have x5 : W5.cell? ⟨w.heap.size + 1, 5, none⟩ = some (.int .i64 s.g) := HI.out.k1.cell 5
              have x6 : W5.cell? ⟨w.heap.size + 1, 6, none⟩ = some (.int .i64 s.t) := HI.out.k1.cell 6
              have v0 : W5.cell? ⟨w.heap.size + 1 + 1, 0, none⟩ = some (.int .i64 kv) := HI.out.k2.cell 0
              have v1 : W5.cell? ⟨w.heap.size + 1 + 1, 1, none⟩ = some (.int .i64 tv) := HI.out.k2.cell 1
              go_wp2_with (go_at_call 34; refine (HTE.out _).mono ?_; rintro e W6 ⟨rfl, hx⟩; have XT := Lib.hid hx; clear hx; refine Hid.out ?_)
              refine Lib.hid ?_
              replace HI := Lib.hid (HI.out.ext XT.out)
              clear XT
              clear y0 y1 y2 y3 y4 y5 y6 y7 x0 x1 x2 x3 x4 x5 x6 v0 v1
              have y0 : W6.cell? ⟨w.heap.size, 0, none⟩ = some (.slice A0 n0 c0) := HI.out.k0.cell 0
              have y1 : W6.cell? ⟨w.heap.size, 1, none⟩ = some (.slice A1 n1 c1) := HI.out.k0.cell 1
              have y2 : W6.cell? ⟨w.heap.size, 2, none⟩ = some (.slice A2 n2 c2) := HI.out.k0.cell 2
              have y3 : W6.cell? ⟨w.heap.size, 3, none⟩ = some (.slice A3 n3 c3) := HI.out.k0.cell 3
              have y4 : W6.cell? ⟨w.heap.size, 4, none⟩ = some (.int .i64 r.h0) := HI.out.k0.cell 4
              have y5 : W6.cell? ⟨w.heap.size, 5, none⟩ = some (.int .i64 r.h1) := HI.out.k0.cell 5
              have y6 : W6.cell? ⟨w.heap.size, 6, none⟩ = some (.int .i64 r.h2) := HI.out.k0.cell 6
              have y7 : W6.cell? ⟨w.heap.size, 7, none⟩ = some (.int .i64 r.h3) := HI.out.k0.cell 7
              have x0 : W6.cell? ⟨w.heap.size + 1, 0, none⟩ = some (.int .i64 s.p) := HI.out.k1.cell 0
              have x1 : W6.cell? ⟨w.heap.size + 1, 1, none⟩ = some (.int .i64 s.a) := HI.out.k1.cell 1
              have x2 : W6.cell? ⟨w.heap.size + 1, 2, none⟩ = some (.int .i64 s.b) := HI.out.k1.cell 2
              have x3 : W6.cell? ⟨w.heap.size + 1, 3, none⟩ = some (.int .i64 s.m) := HI.out.k1.cell 3
              have x4 : W6.cell? ⟨w.heap.size + 1, 4, none⟩ = some (.int .i64 s.wt) := HI.out.k1.cell 4
              have x5 : W6.cell? ⟨w.heap.size + 1, 5, none⟩ = some (.int .i64 s.g) := HI.out.k1.cell 5
              have x6 : W6.cell? ⟨w.heap.size + 1, 6, none⟩ = some (.int .i64 s.t) := HI.out.k1.cell 6
              have v0 : W6.cell? ⟨w.heap.size + 1 + 1, 0, none⟩ = some (.int .i64 kv) := HI.out.k2.cell 0
              have v1 : W6.cell? ⟨w.heap.size + 1 + 1, 1, none⟩ = some (.int .i64 tv) := HI.out.k2.cell 1
              go_wp2_with (go_at_call 65; refine (HH.out _ HI.out.e).mono ?_; rintro e W7 ⟨rfl, hx⟩; have XT := Lib.hid hx; clear hx; refine Hid.out ?_)
              refine Lib.hid ?_
              replace HI := Lib.hid (HI.out.ext XT.out)
              clear XT
              clear y0 y1 y2 y3 y4 y5 y6 y7 x0 x1 x2 x3 x4 x5 x6 v0 v1
              have y0 : W7.cell? ⟨w.heap.size, 0, none⟩ = some (.slice A0 n0 c0) := HI.out.k0.cell 0
              have y1 : W7.cell? ⟨w.heap.size, 1, none⟩ = some (.slice A1 n1 c1) := HI.out.k0.cell 1
              have y2 : W7.cell? ⟨w.heap.size, 2, none⟩ = some (.slice A2 n2 c2) := HI.out.k0.cell 2
              have y3 : W7.cell? ⟨w.heap.size, 3, none⟩ = some (.slice A3 n3 c3) := HI.out.k0.cell 3
              have y4 : W7.cell? ⟨w.heap.size, 4, none⟩ = some (.int .i64 r.h0) := HI.out.k0.cell 4
              have y5 : W7.cell? ⟨w.heap.size, 5, none⟩ = some (.int .i64 r.h1) := HI.out.k0.cell 5
              have y6 : W7.cell? ⟨w.heap.size, 6, none⟩ = some (.int .i64 r.h2) := HI.out.k0.cell 6
              have y7 : W7.cell? ⟨w.heap.size, 7, none⟩ = some (.int .i64 r.h3) := HI.out.k0.cell 7
              have x0 : W7.cell? ⟨w.heap.size + 1, 0, none⟩ = some (.int .i64 s.p) := HI.out.k1.cell 0
              have x1 : W7.cell? ⟨w.heap.size + 1, 1, none⟩ = some (.int .i64 s.a) := HI.out.k1.cell 1
              have x2 : W7.cell? ⟨w.heap.size + 1, 2, none⟩ = some (.int .i64 s.b) := HI.out.k1.cell 2
              have x3 : W7.cell? ⟨w.heap.size + 1, 3, none⟩ = some (.int .i64 s.m) := HI.out.k1.cell 3
              have x4 : W7.cell? ⟨w.heap.size + 1, 4, none⟩ = some (.int .i64 s.wt) := HI.out.k1.cell 4
              have x5 : W7.cell? ⟨w.heap.size + 1, 5, none⟩ = some (.int .i64 s.g) := HI.out.k1.cell 5
              have x6 : W7.cell? ⟨w.heap.size + 1, 6, none⟩ = some (.int .i64 s.t) := HI.out.k1.cell 6
              have v0 : W7.cell? ⟨w.heap.size + 1 + 1, 0, none⟩ = some (.int .i64 kv) := HI.out.k2.cell 0
              have v1 : W7.cell? ⟨w.heap.size + 1 + 1, 1, none⟩ = some (.int .i64 tv) := HI.out.k2.cell 1
              go_wp2_with (go_at_call 66; refine (HC.out _ HI.out.e).mono ?_; rintro e W8 ⟨rfl, hx⟩; have XT := Lib.hid hx; clear hx)
              go_ret
              exact ⟨rfl, HI.out.e.trans XT.out⟩
          · have hd4 : decide (0 ≤ lastLe (fun x : HK => decide (x.k ≤ kv)) r.hs n0) = true := decide_eq_true (by omega)
            clear hbad
            go_enter Tryz.func12, Tryz.ntmps12
            go_wp2_with (go_at_call 13; rw [← hW0]; refine (awake_any _).mono ?_; rintro e W1 ⟨rfl, hx⟩; have XT := Lib.hid hx; clear hx hW0; refine Hid.out ?_)
            refine Lib.hid ?_
            replace HI := Lib.hid (HI.out.ext XT.out)
            clear XT
            have y0 : W1.cell? ⟨w.heap.size, 0, none⟩ = some (.slice A0 n0 c0) := HI.out.k0.cell 0
            have y1 : W1.cell? ⟨w.heap.size, 1, none⟩ = some (.slice A1 n1 c1) := HI.out.k0.cell 1
            have y2 : W1.cell? ⟨w.heap.size, 2, none⟩ = some (.slice A2 n2 c2) := HI.out.k0.cell 2
            have y3 : W1.cell? ⟨w.heap.size, 3, none⟩ = some (.slice A3 n3 c3) := HI.out.k0.cell 3
            have y4 : W1.cell? ⟨w.heap.size, 4, none⟩ = some (.int .i64 r.h0) := HI.out.k0.cell 4
            have y5 : W1.cell? ⟨w.heap.size, 5, none⟩ = some (.int .i64 r.h1) := HI.out.k0.cell 5
            have y6 : W1.cell? ⟨w.heap.size, 6, none⟩ = some (.int .i64 r.h2) := HI.out.k0.cell 6
            have y7 : W1.cell? ⟨w.heap.size, 7, none⟩ = some (.int .i64 r.h3) := HI.out.k0.cell 7
            have x0 : W1.cell? ⟨w.heap.size + 1, 0, none⟩ = some (.int .i64 s.p) := HI.out.k1.cell 0
            have x1 : W1.cell? ⟨w.heap.size + 1, 1, none⟩ = some (.int .i64 s.a) := HI.out.k1.cell 1
            have x2 : W1.cell? ⟨w.heap.size + 1, 2, none⟩ = some (.int .i64 s.b) := HI.out.k1.cell 2
            have x3 : W1.cell? ⟨w.heap.size + 1, 3, none⟩ = some (.int .i64 s.m) := HI.out.k1.cell 3
            have x4 : W1.cell? ⟨w.heap.size + 1, 4, none⟩ = some (.int .i64 s.wt) := HI.out.k1.cell 4
            have x5 : W1.cell? ⟨w.heap.size + 1, 5, none⟩ = some (.int .i64 s.g) := HI.out.k1.cell 5
            have x6 : W1.cell? ⟨w.heap.size + 1, 6, none⟩ = some (.int .i64 s.t) := HI.out.k1.cell 6
            have v0 : W1.cell? ⟨w.heap.size + 1 + 1, 0, none⟩ = some (.int .i64 kv) := HI.out.k2.cell 0
            have v1 : W1.cell? ⟨w.heap.size + 1 + 1, 1, none⟩ = some (.int .i64 tv) := HI.out.k2.cell 1
            go_wp2
            go_quiet (fail)
            have XD := Lib.hid (show Ext W1 (W1.drewN nq) from Ext.drewN _ _)
            replace HI := Lib.hid (HI.out.ext XD.out)
            obtain ⟨V1, hV1⟩ : ∃ V, V = W1.drewN nq := ⟨_, rfl⟩
            rw [← hV1] at HI ⊢
            clear XD hV1
            clear y0 y1 y2 y3 y4 y5 y6 y7 x0 x1 x2 x3 x4 x5 x6 v0 v1
            have y0 : V1.cell? ⟨w.heap.size, 0, none⟩ = some (.slice A0 n0 c0) := HI.out.k0.cell 0
            have y1 : V1.cell? ⟨w.heap.size, 1, none⟩ = some (.slice A1 n1 c1) := HI.out.k0.cell 1
            have y2 : V1.cell? ⟨w.heap.size, 2, none⟩ = some (.slice A2 n2 c2) := HI.out.k0.cell 2
            have y3 : V1.cell? ⟨w.heap.size, 3, none⟩ = some (.slice A3 n3 c3) := HI.out.k0.cell 3
            have y4 : V1.cell? ⟨w.heap.size, 4, none⟩ = some (.int .i64 r.h0) := HI.out.k0.cell 4
            have y5 : V1.cell? ⟨w.heap.size, 5, none⟩ = some (.int .i64 r.h1) := HI.out.k0.cell 5
            have y6 : V1.cell? ⟨w.heap.size, 6, none⟩ = some (.int .i64 r.h2) := HI.out.k0.cell 6
            have y7 : V1.cell? ⟨w.heap.size, 7, none⟩ = some (.int .i64 r.h3) := HI.out.k0.cell 7
            have x0 : V1.cell? ⟨w.heap.size + 1, 0, none⟩ = some (.int .i64 s.p) := HI.out.k1.cell 0
            have x1 : V1.cell? ⟨w.heap.size + 1, 1, none⟩ = some (.int .i64 s.a) := HI.out.k1.cell 1
            have x2 : V1.cell? ⟨w.heap.size + 1, 2, none⟩ = some (.int .i64 s.b) := HI.out.k1.cell 2
            have x3 : V1.cell? ⟨w.heap.size + 1, 3, none⟩ = some (.int .i64 s.m) := HI.out.k1.cell 3
            have x4 : V1.cell? ⟨w.heap.size + 1, 4, none⟩ = some (.int .i64 s.wt) := HI.out.k1.cell 4
            have x5 : V1.cell? ⟨w.heap.size + 1, 5, none⟩ = some (.int .i64 s.g) := HI.out.k1.cell 5
            have x6 : V1.cell? ⟨w.heap.size + 1, 6, none⟩ = some (.int .i64 s.t) := HI.out.k1.cell 6
            have v0 : V1.cell? ⟨w.heap.size + 1 + 1, 0, none⟩ = some (.int .i64 kv) := HI.out.k2.cell 0
            have v1 : V1.cell? ⟨w.heap.size + 1 + 1, 1, none⟩ = some (.int .i64 tv) := HI.out.k2.cell 1
            go_wp2_with (go_at_call 14; refine (HFEW.out _).mono ?_; rintro e W2 ⟨rfl, hx⟩; have XT := Lib.hid hx; clear hx; refine Hid.out ?_)
            refine Lib.hid ?_
            replace HI := Lib.hid (HI.out.ext XT.out)
            clear XT
            clear y0 y1 y2 y3 y4 y5 y6 y7 x0 x1 x2 x3 x4 x5 x6 v0 v1
            have y0 : W2.cell? ⟨w.heap.size, 0, none⟩ = some (.slice A0 n0 c0) := HI.out.k0.cell 0
            have y1 : W2.cell? ⟨w.heap.size, 1, none⟩ = some (.slice A1 n1 c1) := HI.out.k0.cell 1
            have y2 : W2.cell? ⟨w.heap.size, 2, none⟩ = some (.slice A2 n2 c2) := HI.out.k0.cell 2
            have y3 : W2.cell? ⟨w.heap.size, 3, none⟩ = some (.slice A3 n3 c3) := HI.out.k0.cell 3
            have y4 : W2.cell? ⟨w.heap.size, 4, none⟩ = some (.int .i64 r.h0) := HI.out.k0.cell 4
            have y5 : W2.cell? ⟨w.heap.size, 5, none⟩ = some (.int .i64 r.h1) := HI.out.k0.cell 5
            have y6 : W2.cell? ⟨w.heap.size, 6, none⟩ = some (.int .i64 r.h2) := HI.out.k0.cell 6
            have y7 : W2.cell? ⟨w.heap.size, 7, none⟩ = some (.int .i64 r.h3) := HI.out.k0.cell 7
            have x0 : W2.cell? ⟨w.heap.size + 1, 0, none⟩ = some (.int .i64 s.p) := HI.out.k1.cell 0
            have x1 : W2.cell? ⟨w.heap.size + 1, 1, none⟩ = some (.int .i64 s.a) := HI.out.k1.cell 1
            have x2 : W2.cell? ⟨w.heap.size + 1, 2, none⟩ = some (.int .i64 s.b) := HI.out.k1.cell 2
            have x3 : W2.cell? ⟨w.heap.size + 1, 3, none⟩ = some (.int .i64 s.m) := HI.out.k1.cell 3
            have x4 : W2.cell? ⟨w.heap.size + 1, 4, none⟩ = some (.int .i64 s.wt) := HI.out.k1.cell 4
            have x5 : W2.cell? ⟨w.heap.size + 1, 5, none⟩ = some (.int .i64 s.g) := HI.out.k1.cell 5
            have x6 : W2.cell? ⟨w.heap.size + 1, 6, none⟩ = some (.int .i64 s.t) := HI.out.k1.cell 6
            have v0 : W2.cell? ⟨w.heap.size + 1 + 1, 0, none⟩ = some (.int .i64 kv) := HI.out.k2.cell 0
            have v1 : W2.cell? ⟨w.heap.size + 1 + 1, 1, none⟩ = some (.int .i64 tv) := HI.out.k2.cell 1
            go_wp2_with (go_at_call 28; refine (HRE.out _ HI.out.e).mono ?_; rintro e W3 ⟨rfl, hx⟩; have XT := Lib.hid hx; clear hx; refine Hid.out ?_)
            refine Lib.hid ?_
            replace HI := Lib.hid (HI.out.ext XT.out)
            clear XT
            clear y0 y1 y2 y3 y4 y5 y6 y7 x0 x1 x2 x3 x4 x5 x6 v0 v1
            have y0 : W3.cell? ⟨w.heap.size, 0, none⟩ = some (.slice A0 n0 c0) := HI.out.k0.cell 0
            have y1 : W3.cell? ⟨w.heap.size, 1, none⟩ = some (.slice A1 n1 c1) := HI.out.k0.cell 1
            have y2 : W3.cell? ⟨w.heap.size, 2, none⟩ = some (.slice A2 n2 c2) := HI.out.k0.cell 2
            have y3 : W3.cell? ⟨w.heap.size, 3, none⟩ = some (.slice A3 n3 c3) := HI.out.k0.cell 3
            have y4 : W3.cell? ⟨w.heap.size, 4, none⟩ = some (.int .i64 r.h0) := HI.out.k0.cell 4
            have y5 : W3.cell? ⟨w.heap.size, 5, none⟩ = some (.int .i64 r.h1) := HI.out.k0.cell 5
            have y6 : W3.cell? ⟨w.heap.size, 6, none⟩ = some (.int .i64 r.h2) := HI.out.k0.cell 6
            have y7 : W3.cell? ⟨w.heap.size, 7, none⟩ = some (.int .i64 r.h3) := HI.out.k0.cell 7
            have x0 : W3.cell? ⟨w.heap.size + 1, 0, none⟩ = some (.int .i64 s.p) := HI.out.k1.cell 0
            have x1 : W3.cell? ⟨w.heap.size + 1, 1, none⟩ = some (.int .i64 s.a) := HI.out.k1.cell 1
            have x2 : W3.cell? ⟨w.heap.size + 1, 2, none⟩ = some (.int .i64 s.b) := HI.out.k1.cell 2
            have x3 : W3.cell? ⟨w.heap.size + 1, 3, none⟩ = some (.int .i64 s.m) := HI.out.k1.cell 3
            have x4 : W3.cell? ⟨w.heap.size + 1, 4, none⟩ = some (.int .i64 s.wt) := HI.out.k1.cell 4
            have x5 : W3.cell? ⟨w.heap.size + 1, 5, none⟩ = some (.int .i64 s.g) := HI.out.k1.cell 5
            have x6 : W3.cell? ⟨w.heap.size + 1, 6, none⟩ = some (.int .i64 s.t) := HI.out.k1.cell 6
            have v0 : W3.cell? ⟨w.heap.size + 1 + 1, 0, none⟩ = some (.int .i64 kv) := HI.out.k2.cell 0
            have v1 : W3.cell? ⟨w.heap.size + 1 + 1, 1, none⟩ = some (.int .i64 tv) := HI.out.k2.cell 1
            go_wp2_with (go_at_call 19; refine (HSE.out _).mono ?_; rintro e W4 ⟨rfl, hx⟩; have XT := Lib.hid hx; clear hx; refine Hid.out ?_)
            refine Lib.hid ?_
            replace HI := Lib.hid (HI.out.ext XT.out)
            clear XT
            clear y0 y1 y2 y3 y4 y5 y6 y7 x0 x1 x2 x3 x4 x5 x6 v0 v1
            have y0 : W4.cell? ⟨w.heap.size, 0, none⟩ = some (.slice A0 n0 c0) := HI.out.k0.cell 0
            have y1 : W4.cell? ⟨w.heap.size, 1, none⟩ = some (.slice A1 n1 c1) := HI.out.k0.cell 1
            have y2 : W4.cell? ⟨w.heap.size, 2, none⟩ = some (.slice A2 n2 c2) := HI.out.k0.cell 2
            have y3 : W4.cell? ⟨w.heap.size, 3, none⟩ = some (.slice A3 n3 c3) := HI.out.k0.cell 3
            have y4 : W4.cell? ⟨w.heap.size, 4, none⟩ = some (.int .i64 r.h0) := HI.out.k0.cell 4
            have y5 : W4.cell? ⟨w.heap.size, 5, none⟩ = some (.int .i64 r.h1) := HI.out.k0.cell 5
            have y6 : W4.cell? ⟨w.heap.size, 6, none⟩ = some (.int .i64 r.h2) := HI.out.k0.cell 6
            have y7 : W4.cell? ⟨w.heap.size, 7, none⟩ = some (.int .i64 r.h3) := HI.out.k0.cell 7
            have x0 : W4.cell? ⟨w.heap.size + 1, 0, none⟩ = some (.int .i64 s.p) := HI.out.k1.cell 0
            have x1 : W4.cell? ⟨w.heap.size + 1, 1, none⟩ = some (.int .i64 s.a) := HI.out.k1.cell 1
            have x2 : W4.cell? ⟨w.heap.size + 1, 2, none⟩ = some (.int .i64 s.b) := HI.out.k1.cell 2
            have x3 : W4.cell? ⟨w.heap.size + 1, 3, none⟩ = some (.int .i64 s.m) := HI.out.k1.cell 3
            have x4 : W4.cell? ⟨w.heap.size + 1, 4, none⟩ = some (.int .i64 s.wt) := HI.out.k1.cell 4
            have x5 : W4.cell? ⟨w.heap.size + 1, 5, none⟩ = some (.int .i64 s.g) := HI.out.k1.cell 5
            have x6 : W4.cell? ⟨w.heap.size + 1, 6, none⟩ = some (.int .i64 s.t) := HI.out.k1.cell 6
            have v0 : W4.cell? ⟨w.heap.size + 1 + 1, 0, none⟩ = some (.int .i64 kv) := HI.out.k2.cell 0
            have v1 : W4.cell? ⟨w.heap.size + 1 + 1, 1, none⟩ = some (.int .i64 tv) := HI.out.k2.cell 1
            go_wp2_with (go_at_call 30; refine (HKE.out _).mono ?_; rintro e W5 ⟨rfl, hx⟩; have XT := Lib.hid hx; clear hx; refine Hid.out ?_)
            refine Lib.hid ?_
            replace HI := Lib.hid (HI.out.ext XT.out)
            clear XT
            clear y0 y1 y2 y3 y4 y5 y6 y7 x0 x1 x2 x3 x4 x5 x6 v0 v1
            have y0 : W5.cell? ⟨w.heap.size, 0, none⟩ = some (.slice A0 n0 c0) := HI.out.k0.cell 0
            have y1 : W5.cell? ⟨w.heap.size, 1, none⟩ = some (.slice A1 n1 c1) := HI.out.k0.cell 1
            have y2 : W5.cell? ⟨w.heap.size, 2, none⟩ = some (.slice A2 n2 c2) := HI.out.k0.cell 2
            have y3 : W5.cell? ⟨w.heap.size, 3, none⟩ = some (.slice A3 n3 c3) := HI.out.k0.cell 3
            have y4 : W5.cell? ⟨w.heap.size, 4, none⟩ = some (.int .i64 r.h0) := HI.out.k0.cell 4
            have y5 : W5.cell? ⟨w.heap.size, 5, none⟩ = some (.int .i64 r.h1) := HI.out.k0.cell 5
            have y6 : W5.cell? ⟨w.heap.size, 6, none⟩ = some (.int .i64 r.h2) := HI.out.k0.cell 6
            have y7 : W5.cell? ⟨w.heap.size, 7, none⟩ = some (.int .i64 r.h3) := HI.out.k0.cell 7
            have x0 : W5.cell? ⟨w.heap.size + 1, 0, none⟩ = some (.int .i64 s.p) := HI.out.k1.cell 0
            have x1 : W5.cell? ⟨w.heap.size + 1, 1, none⟩ = some (.int .i64 s.a) := HI.out.k1.cell 1
            have x2 : W5.cell? ⟨w.heap.size + 1, 2, none⟩ = some (.int .i64 s.b) := HI.out.k1.cell 2
            have x3 : W5.cell? ⟨w.heap.size + 1, 3, none⟩ = some (.int .i64 s.m) := HI.out.k1.cell 3
            have x4 : W5.cell? ⟨w.heap.size + 1, 4, none⟩ = some (.int .i64 s.wt) := HI.out.k1.cell 4
            have x5 : W5.cell? ⟨w.heap.size + 1, 5, none⟩ = some (.int .i64 s.g) := HI.out.k1.cell 5
            have x6 : W5.cell? ⟨w.heap.size + 1, 6, none⟩ = some (.int .i64 s.t) := HI.out.k1.cell 6
            have v0 : W5.cell? ⟨w.heap.size + 1 + 1, 0, none⟩ = some (.int .i64 kv) := HI.out.k2.cell 0
            have v1 : W5.cell? ⟨w.heap.size + 1 + 1, 1, none⟩ = some (.int .i64 tv) := HI.out.k2.cell 1
            go_wp2_with (go_at_call 34; refine (HTE.out _).mono ?_; rintro e W6 ⟨rfl, hx⟩; have XT := Lib.hid hx; clear hx; refine Hid.out ?_)
            refine Lib.hid ?_
            replace HI := Lib.hid (HI.out.ext XT.out)
            clear XT
            clear y0 y1 y2 y3 y4 y5 y6 y7 x0 x1 x2 x3 x4 x5 x6 v0 v1
            have y0 : W6.cell? ⟨w.heap.size, 0, none⟩ = some (.slice A0 n0 c0) := HI.out.k0.cell 0
            have y1 : W6.cell? ⟨w.heap.size, 1, none⟩ = some (.slice A1 n1 c1) := HI.out.k0.cell 1
            have y2 : W6.cell? ⟨w.heap.size, 2, none⟩ = some (.slice A2 n2 c2) := HI.out.k0.cell 2
            have y3 : W6.cell? ⟨w.heap.size, 3, none⟩ = some (.slice A3 n3 c3) := HI.out.k0.cell 3
            have y4 : W6.cell? ⟨w.heap.size, 4, none⟩ = some (.int .i64 r.h0) := HI.out.k0.cell 4
            have y5 : W6.cell? ⟨w.heap.size, 5, none⟩ = some (.int .i64 r.h1) := HI.out.k0.cell 5
            have y6 : W6.cell? ⟨w.heap.size, 6, none⟩ = some (.int .i64 r.h2) := HI.out.k0.cell 6
            have y7 : W6.cell? ⟨w.heap.size, 7, none⟩ = some (.int .i64 r.h3) := HI.out.k0.cell 7
            have x0 : W6.cell? ⟨w.heap.size + 1, 0, none⟩ = some (.int .i64 s.p) := HI.out.k1.cell 0
            have x1 : W6.cell? ⟨w.heap.size + 1, 1, none⟩ = some (.int .i64 s.a) := HI.out.k1.cell 1
            have x2 : W6.cell? ⟨w.heap.size + 1, 2, none⟩ = some (.int .i64 s.b) := HI.out.k1.cell 2
            have x3 : W6.cell? ⟨w.heap.size + 1, 3, none⟩ = some (.int .i64 s.m) := HI.out.k1.cell 3
            have x4 : W6.cell? ⟨w.heap.size + 1, 4, none⟩ = some (.int .i64 s.wt) := HI.out.k1.cell 4
            have x5 : W6.cell? ⟨w.heap.size + 1, 5, none⟩ = some (.int .i64 s.g) := HI.out.k1.cell 5
            have x6 : W6.cell? ⟨w.heap.size + 1, 6, none⟩ = some (.int .i64 s.t) := HI.out.k1.cell 6
            have v0 : W6.cell? ⟨w.heap.size + 1 + 1, 0, none⟩ = some (.int .i64 kv) := HI.out.k2.cell 0
            have v1 : W6.cell? ⟨w.heap.size + 1 + 1, 1, none⟩ = some (.int .i64 tv) := HI.out.k2.cell 1
            go_wp2_with (go_at_call 65; refine (HH.out _ HI.out.e).mono ?_; rintro e W7 ⟨rfl, hx⟩; have XT := Lib.hid hx; clear hx)
            go_ret
            exact ⟨rfl, HI.out.e.trans XT.out⟩
        · have hbf : withinB tv 0 30 = false := by simpa using hh3
          rw [hbf] at HTE
          clear hbad
          go_enter Tryz.func12, Tryz.ntmps12
          go_wp2_with (go_at_call 13; rw [← hW0]; refine (awake_any _).mono ?_; rintro e W1 ⟨rfl, hx⟩; have XT := Lib.hid hx; clear hx hW0; refine Hid.out ?_)
          refine Lib.hid ?_
          replace HI := Lib.hid (HI.out.ext XT.out)
          clear XT
          have y0 : W1.cell? ⟨w.heap.size, 0, none⟩ = some (.slice A0 n0 c0) := HI.out.k0.cell 0
          have y1 : W1.cell? ⟨w.heap.size, 1, none⟩ = some (.slice A1 n1 c1) := HI.out.k0.cell 1
          have y2 : W1.cell? ⟨w.heap.size, 2, none⟩ = some (.slice A2 n2 c2) := HI.out.k0.cell 2
          have y3 : W1.cell? ⟨w.heap.size, 3, none⟩ = some (.slice A3 n3 c3) := HI.out.k0.cell 3
          have y4 : W1.cell? ⟨w.heap.size, 4, none⟩ = some (.int .i64 r.h0) := HI.out.k0.cell 4
          have y5 : W1.cell? ⟨w.heap.size, 5, none⟩ = some (.int .i64 r.h1) := HI.out.k0.cell 5
          have y6 : W1.cell? ⟨w.heap.size, 6, none⟩ = some (.int .i64 r.h2) := HI.out.k0.cell 6
          have y7 : W1.cell? ⟨w.heap.size, 7, none⟩ = some (.int .i64 r.h3) := HI.out.k0.cell 7
          have x0 : W1.cell? ⟨w.heap.size + 1, 0, none⟩ = some (.int .i64 s.p) := HI.out.k1.cell 0
          have x1 : W1.cell? ⟨w.heap.size + 1, 1, none⟩ = some (.int .i64 s.a) := HI.out.k1.cell 1
          have x2 : W1.cell? ⟨w.heap.size + 1, 2, none⟩ = some (.int .i64 s.b) := HI.out.k1.cell 2
          have x3 : W1.cell? ⟨w.heap.size + 1, 3, none⟩ = some (.int .i64 s.m) := HI.out.k1.cell 3
          have x4 : W1.cell? ⟨w.heap.size + 1, 4, none⟩ = some (.int .i64 s.wt) := HI.out.k1.cell 4
          have x5 : W1.cell? ⟨w.heap.size + 1, 5, none⟩ = some (.int .i64 s.g) := HI.out.k1.cell 5
          have x6 : W1.cell? ⟨w.heap.size + 1, 6, none⟩ = some (.int .i64 s.t) := HI.out.k1.cell 6
          have v0 : W1.cell? ⟨w.heap.size + 1 + 1, 0, none⟩ = some (.int .i64 kv) := HI.out.k2.cell 0
          have v1 : W1.cell? ⟨w.heap.size + 1 + 1, 1, none⟩ = some (.int .i64 tv) := HI.out.k2.cell 1
          go_wp2
          go_quiet (fail)
          have XD := Lib.hid (show Ext W1 (W1.drewN nq) from Ext.drewN _ _)
          replace HI := Lib.hid (HI.out.ext XD.out)
          obtain ⟨V1, hV1⟩ : ∃ V, V = W1.drewN nq := ⟨_, rfl⟩
          rw [← hV1] at HI ⊢
          clear XD hV1
          clear y0 y1 y2 y3 y4 y5 y6 y7 x0 x1 x2 x3 x4 x5 x6 v0 v1
          have y0 : V1.cell? ⟨w.heap.size, 0, none⟩ = some (.slice A0 n0 c0) := HI.out.k0.cell 0
          have y1 : V1.cell? ⟨w.heap.size, 1, none⟩ = some (.slice A1 n1 c1) := HI.out.k0.cell 1
          have y2 : V1.cell? ⟨w.heap.size, 2, none⟩ = some (.slice A2 n2 c2) := HI.out.k0.cell 2
          have y3 : V1.cell? ⟨w.heap.size, 3, none⟩ = some (.slice A3 n3 c3) := HI.out.k0.cell 3
          have y4 : V1.cell? ⟨w.heap.size, 4, none⟩ = some (.int .i64 r.h0) := HI.out.k0.cell 4
          have y5 : V1.cell? ⟨w.heap.size, 5, none⟩ = some (.int .i64 r.h1) := HI.out.k0.cell 5
          have y6 : V1.cell? ⟨w.heap.size, 6, none⟩ = some (.int .i64 r.h2) := HI.out.k0.cell 6
          have y7 : V1.cell? ⟨w.heap.size, 7, none⟩ = some (.int .i64 r.h3) := HI.out.k0.cell 7
          have x0 : V1.cell? ⟨w.heap.size + 1, 0, none⟩ = some (.int .i64 s.p) := HI.out.k1.cell 0
          have x1 : V1.cell? ⟨w.heap.size + 1, 1, none⟩ = some (.int .i64 s.a) := HI.out.k1.cell 1
          have x2 : V1.cell? ⟨w.heap.size + 1, 2, none⟩ = some (.int .i64 s.b) := HI.out.k1.cell 2
          have x3 : V1.cell? ⟨w.heap.size + 1, 3, none⟩ = some (.int .i64 s.m) := HI.out.k1.cell 3
          have x4 : V1.cell? ⟨w.heap.size + 1, 4, none⟩ = some (.int .i64 s.wt) := HI.out.k1.cell 4
          have x5 : V1.cell? ⟨w.heap.size + 1, 5, none⟩ = some (.int .i64 s.g) := HI.out.k1.cell 5
          have x6 : V1.cell? ⟨w.heap.size + 1, 6, none⟩ = some (.int .i64 s.t) := HI.out.k1.cell 6
          have v0 : V1.cell? ⟨w.heap.size + 1 + 1, 0, none⟩ = some (.int .i64 kv) := HI.out.k2.cell 0
          have v1 : V1.cell? ⟨w.heap.size + 1 + 1, 1, none⟩ = some (.int .i64 tv) := HI.out.k2.cell 1
          go_wp2_with (go_at_call 14; refine (HFEW.out _).mono ?_; rintro e W2 ⟨rfl, hx⟩; have XT := Lib.hid hx; clear hx; refine Hid.out ?_)
          refine Lib.hid ?_
          replace HI := Lib.hid (HI.out.ext XT.out)
          clear XT
          clear y0 y1 y2 y3 y4 y5 y6 y7 x0 x1 x2 x3 x4 x5 x6 v0 v1
          have y0 : W2.cell? ⟨w.heap.size, 0, none⟩ = some (.slice A0 n0 c0) := HI.out.k0.cell 0
          have y1 : W2.cell? ⟨w.heap.size, 1, none⟩ = some (.slice A1 n1 c1) := HI.out.k0.cell 1
          have y2 : W2.cell? ⟨w.heap.size, 2, none⟩ = some (.slice A2 n2 c2) := HI.out.k0.cell 2
          have y3 : W2.cell? ⟨w.heap.size, 3, none⟩ = some (.slice A3 n3 c3) := HI.out.k0.cell 3
          have y4 : W2.cell? ⟨w.heap.size, 4, none⟩ = some (.int .i64 r.h0) := HI.out.k0.cell 4
          have y5 : W2.cell? ⟨w.heap.size, 5, none⟩ = some (.int .i64 r.h1) := HI.out.k0.cell 5
          have y6 : W2.cell? ⟨w.heap.size, 6, none⟩ = some (.int .i64 r.h2) := HI.out.k0.cell 6
          have y7 : W2.cell? ⟨w.heap.size, 7, none⟩ = some (.int .i64 r.h3) := HI.out.k0.cell 7
          have x0 : W2.cell? ⟨w.heap.size + 1, 0, none⟩ = some (.int .i64 s.p) := HI.out.k1.cell 0
          have x1 : W2.cell? ⟨w.heap.size + 1, 1, none⟩ = some (.int .i64 s.a) := HI.out.k1.cell 1
          have x2 : W2.cell? ⟨w.heap.size + 1, 2, none⟩ = some (.int .i64 s.b) := HI.out.k1.cell 2
          have x3 : W2.cell? ⟨w.heap.size + 1, 3, none⟩ = some (.int .i64 s.m) := HI.out.k1.cell 3
          have x4 : W2.cell? ⟨w.heap.size + 1, 4, none⟩ = some (.int .i64 s.wt) := HI.out.k1.cell 4
          have x5 : W2.cell? ⟨w.heap.size + 1, 5, none⟩ = some (.int .i64 s.g) := HI.out.k1.cell 5
          have x6 : W2.cell? ⟨w.heap.size + 1, 6, none⟩ = some (.int .i64 s.t) := HI.out.k1.cell 6
          have v0 : W2.cell? ⟨w.heap.size + 1 + 1, 0, none⟩ = some (.int .i64 kv) := HI.out.k2.cell 0
          have v1 : W2.cell? ⟨w.heap.size + 1 + 1, 1, none⟩ = some (.int .i64 tv) := HI.out.k2.cell 1
          go_wp2_with (go_at_call 28; refine (HRE.out _ HI.out.e).mono ?_; rintro e W3 ⟨rfl, hx⟩; have XT := Lib.hid hx; clear hx; refine Hid.out ?_)
          refine Lib.hid ?_
          replace HI := Lib.hid (HI.out.ext XT.out)
          clear XT
          clear y0 y1 y2 y3 y4 y5 y6 y7 x0 x1 x2 x3 x4 x5 x6 v0 v1
          have y0 : W3.cell? ⟨w.heap.size, 0, none⟩ = some (.slice A0 n0 c0) := HI.out.k0.cell 0
          have y1 : W3.cell? ⟨w.heap.size, 1, none⟩ = some (.slice A1 n1 c1) := HI.out.k0.cell 1
          have y2 : W3.cell? ⟨w.heap.size, 2, none⟩ = some (.slice A2 n2 c2) := HI.out.k0.cell 2
          have y3 : W3.cell? ⟨w.heap.size, 3, none⟩ = some (.slice A3 n3 c3) := HI.out.k0.cell 3
          have y4 : W3.cell? ⟨w.heap.size, 4, none⟩ = some (.int .i64 r.h0) := HI.out.k0.cell 4
          have y5 : W3.cell? ⟨w.heap.size, 5, none⟩ = some (.int .i64 r.h1) := HI.out.k0.cell 5
          have y6 : W3.cell? ⟨w.heap.size, 6, none⟩ = some (.int .i64 r.h2) := HI.out.k0.cell 6
          have y7 : W3.cell? ⟨w.heap.size, 7, none⟩ = some (.int .i64 r.h3) := HI.out.k0.cell 7
          have x0 : W3.cell? ⟨w.heap.size + 1, 0, none⟩ = some (.int .i64 s.p) := HI.out.k1.cell 0
          have x1 : W3.cell? ⟨w.heap.size + 1, 1, none⟩ = some (.int .i64 s.a) := HI.out.k1.cell 1
          have x2 : W3.cell? ⟨w.heap.size + 1, 2, none⟩ = some (.int .i64 s.b) := HI.out.k1.cell 2
          have x3 : W3.cell? ⟨w.heap.size + 1, 3, none⟩ = some (.int .i64 s.m) := HI.out.k1.cell 3
          have x4 : W3.cell? ⟨w.heap.size + 1, 4, none⟩ = some (.int .i64 s.wt) := HI.out.k1.cell 4
          have x5 : W3.cell? ⟨w.heap.size + 1, 5, none⟩ = some (.int .i64 s.g) := HI.out.k1.cell 5
          have x6 : W3.cell? ⟨w.heap.size + 1, 6, none⟩ = some (.int .i64 s.t) := HI.out.k1.cell 6
          have v0 : W3.cell? ⟨w.heap.size + 1 + 1, 0, none⟩ = some (.int .i64 kv) := HI.out.k2.cell 0
          have v1 : W3.cell? ⟨w.heap.size + 1 + 1, 1, none⟩ = some (.int .i64 tv) := HI.out.k2.cell 1
          go_wp2_with (go_at_call 19; refine (HSE.out _).mono ?_; rintro e W4 ⟨rfl, hx⟩; have XT := Lib.hid hx; clear hx; refine Hid.out ?_)
          refine Lib.hid ?_
          replace HI := Lib.hid (HI.out.ext XT.out)
          clear XT
          clear y0 y1 y2 y3 y4 y5 y6 y7 x0 x1 x2 x3 x4 x5 x6 v0 v1
          have y0 : W4.cell? ⟨w.heap.size, 0, none⟩ = some (.slice A0 n0 c0) := HI.out.k0.cell 0
          have y1 : W4.cell? ⟨w.heap.size, 1, none⟩ = some (.slice A1 n1 c1) := HI.out.k0.cell 1
          have y2 : W4.cell? ⟨w.heap.size, 2, none⟩ = some (.slice A2 n2 c2) := HI.out.k0.cell 2
          have y3 : W4.cell? ⟨w.heap.size, 3, none⟩ = some (.slice A3 n3 c3) := HI.out.k0.cell 3
          have y4 : W4.cell? ⟨w.heap.size, 4, none⟩ = some (.int .i64 r.h0) := HI.out.k0.cell 4
          have y5 : W4.cell? ⟨w.heap.size, 5, none⟩ = some (.int .i64 r.h1) := HI.out.k0.cell 5
          have y6 : W4.cell? ⟨w.heap.size, 6, none⟩ = some (.int .i64 r.h2) := HI.out.k0.cell 6
          have y7 : W4.cell? ⟨w.heap.size, 7, none⟩ = some (.int .i64 r.h3) := HI.out.k0.cell 7
          have x0 : W4.cell? ⟨w.heap.size + 1, 0, none⟩ = some (.int .i64 s.p) := HI.out.k1.cell 0
          have x1 : W4.cell? ⟨w.heap.size + 1, 1, none⟩ = some (.int .i64 s.a) := HI.out.k1.cell 1
          have x2 : W4.cell? ⟨w.heap.size + 1, 2, none⟩ = some (.int .i64 s.b) := HI.out.k1.cell 2
          have x3 : W4.cell? ⟨w.heap.size + 1, 3, none⟩ = some (.int .i64 s.m) := HI.out.k1.cell 3
          have x4 : W4.cell? ⟨w.heap.size + 1, 4, none⟩ = some (.int .i64 s.wt) := HI.out.k1.cell 4
          have x5 : W4.cell? ⟨w.heap.size + 1, 5, none⟩ = some (.int .i64 s.g) := HI.out.k1.cell 5
          have x6 : W4.cell? ⟨w.heap.size + 1, 6, none⟩ = some (.int .i64 s.t) := HI.out.k1.cell 6
          have v0 : W4.cell? ⟨w.heap.size + 1 + 1, 0, none⟩ = some (.int .i64 kv) := HI.out.k2.cell 0
          have v1 : W4.cell? ⟨w.heap.size + 1 + 1, 1, none⟩ = some (.int .i64 tv) := HI.out.k2.cell 1
          go_wp2_with (go_at_call 30; refine (HKE.out _).mono ?_; rintro e W5 ⟨rfl, hx⟩; have XT := Lib.hid hx; clear hx; refine Hid.out ?_)
          refine Lib.hid ?_
          replace HI := Lib.hid (HI.out.ext XT.out)
          clear XT
          clear y0 y1 y2 y3 y4 y5 y6 y7 x0 x1 x2 x3 x4 x5 x6 v0 v1
          have y0 : W5.cell? ⟨w.heap.size, 0, none⟩ = some (.slice A0 n0 c0) := HI.out.k0.cell 0
          have y1 : W5.cell? ⟨w.heap.size, 1, none⟩ = some (.slice A1 n1 c1) := HI.out.k0.cell 1
          have y2 : W5.cell? ⟨w.heap.size, 2, none⟩ = some (.slice A2 n2 c2) := HI.out.k0.cell 2
          have y3 : W5.cell? ⟨w.heap.size, 3, none⟩ = some (.slice A3 n3 c3) := HI.out.k0.cell 3
          have y4 : W5.cell? ⟨w.heap.size, 4, none⟩ = some (.int .i64 r.h0) := HI.out.k0.cell 4
          have y5 : W5.cell? ⟨w.heap.size, 5, none⟩ = some (.int .i64 r.h1) := HI.out.k0.cell 5
          have y6 : W5.cell? ⟨w.heap.size, 6, none⟩ = some (.int .i64 r.h2) := HI.out.k0.cell 6
          have y7 : W5.cell? ⟨w.heap.size, 7, none⟩ = some (.int .i64 r.h3) := HI.out.k0.cell 7
          have x0 : W5.cell? ⟨w.heap.size + 1, 0, none⟩ = some (.int .i64 s.p) := HI.out.k1.cell 0
          have x1 : W5.cell? ⟨w.heap.size + 1, 1, none⟩ = some (.int .i64 s.a) := HI.out.k1.cell 1
          have x2 : W5.cell? ⟨w.heap.size + 1, 2, none⟩ = some (.int .i64 s.b) := HI.out.k1.cell 2
          have x3 : W5.cell? ⟨w.heap.size + 1, 3, none⟩ = some (.int .i64 s.m) := HI.out.k1.cell 3
          have x4 : W5.cell? ⟨w.heap.size + 1, 4, none⟩ = some (.int .i64 s.wt) := HI.out.k1.cell 4
          have x5 : W5.cell? ⟨w.heap.size + 1, 5, none⟩ = some (.int .i64 s.g) := HI.out.k1.cell 5
          have x6 : W5.cell? ⟨w.heap.size + 1, 6, none⟩ = some (.int .i64 s.t) := HI.out.k1.cell 6
          have v0 : W5.cell? ⟨w.heap.size + 1 + 1, 0, none⟩ = some (.int .i64 kv) := HI.out.k2.cell 0
          have v1 : W5.cell? ⟨w.heap.size + 1 + 1, 1, none⟩ = some (.int .i64 tv) := HI.out.k2.cell 1
          go_wp2_with (go_at_call 34; refine (HTE.out _).mono ?_; rintro e W6 ⟨rfl, hx⟩; have XT := Lib.hid hx; clear hx)
          go_ret
          exact ⟨rfl, HI.out.e.trans XT.out⟩
      · generalize kelE kv = ke at HKE hh2 hbad
        have hne : (ke != 0) = true := by simp [hh2]
        clear hbad
        go_enter Tryz.func12, Tryz.ntmps12
        go_wp2_with (go_at_call 13; rw [← hW0]; refine (awake_any _).mono ?_; rintro e W1 ⟨rfl, hx⟩; have XT := Lib.hid hx; clear hx hW0; refine Hid.out ?_)
        refine Lib.hid ?_
        replace HI := Lib.hid (HI.out.ext XT.out)
        clear XT
        have y0 : W1.cell? ⟨w.heap.size, 0, none⟩ = some (.slice A0 n0 c0) := HI.out.k0.cell 0
        have y1 : W1.cell? ⟨w.heap.size, 1, none⟩ = some (.slice A1 n1 c1) := HI.out.k0.cell 1
        have y2 : W1.cell? ⟨w.heap.size, 2, none⟩ = some (.slice A2 n2 c2) := HI.out.k0.cell 2
        have y3 : W1.cell? ⟨w.heap.size, 3, none⟩ = some (.slice A3 n3 c3) := HI.out.k0.cell 3
        have y4 : W1.cell? ⟨w.heap.size, 4, none⟩ = some (.int .i64 r.h0) := HI.out.k0.cell 4
        have y5 : W1.cell? ⟨w.heap.size, 5, none⟩ = some (.int .i64 r.h1) := HI.out.k0.cell 5
        have y6 : W1.cell? ⟨w.heap.size, 6, none⟩ = some (.int .i64 r.h2) := HI.out.k0.cell 6
        have y7 : W1.cell? ⟨w.heap.size, 7, none⟩ = some (.int .i64 r.h3) := HI.out.k0.cell 7
        have x0 : W1.cell? ⟨w.heap.size + 1, 0, none⟩ = some (.int .i64 s.p) := HI.out.k1.cell 0
        have x1 : W1.cell? ⟨w.heap.size + 1, 1, none⟩ = some (.int .i64 s.a) := HI.out.k1.cell 1
        have x2 : W1.cell? ⟨w.heap.size + 1, 2, none⟩ = some (.int .i64 s.b) := HI.out.k1.cell 2
        have x3 : W1.cell? ⟨w.heap.size + 1, 3, none⟩ = some (.int .i64 s.m) := HI.out.k1.cell 3
        have x4 : W1.cell? ⟨w.heap.size + 1, 4, none⟩ = some (.int .i64 s.wt) := HI.out.k1.cell 4
        have x5 : W1.cell? ⟨w.heap.size + 1, 5, none⟩ = some (.int .i64 s.g) := HI.out.k1.cell 5
        have x6 : W1.cell? ⟨w.heap.size + 1, 6, none⟩ = some (.int .i64 s.t) := HI.out.k1.cell 6
        have v0 : W1.cell? ⟨w.heap.size + 1 + 1, 0, none⟩ = some (.int .i64 kv) := HI.out.k2.cell 0
        have v1 : W1.cell? ⟨w.heap.size + 1 + 1, 1, none⟩ = some (.int .i64 tv) := HI.out.k2.cell 1
        go_wp2
        go_quiet (fail)
        have XD := Lib.hid (show Ext W1 (W1.drewN nq) from Ext.drewN _ _)
        replace HI := Lib.hid (HI.out.ext XD.out)
        obtain ⟨V1, hV1⟩ : ∃ V, V = W1.drewN nq := ⟨_, rfl⟩
        rw [← hV1] at HI ⊢
        clear XD hV1
        clear y0 y1 y2 y3 y4 y5 y6 y7 x0 x1 x2 x3 x4 x5 x6 v0 v1
        have y0 : V1.cell? ⟨w.heap.size, 0, none⟩ = some (.slice A0 n0 c0) := HI.out.k0.cell 0
        have y1 : V1.cell? ⟨w.heap.size, 1, none⟩ = some (.slice A1 n1 c1) := HI.out.k0.cell 1
        have y2 : V1.cell? ⟨w.heap.size, 2, none⟩ = some (.slice A2 n2 c2) := HI.out.k0.cell 2
        have y3 : V1.cell? ⟨w.heap.size, 3, none⟩ = some (.slice A3 n3 c3) := HI.out.k0.cell 3
        have y4 : V1.cell? ⟨w.heap.size, 4, none⟩ = some (.int .i64 r.h0) := HI.out.k0.cell 4
        have y5 : V1.cell? ⟨w.heap.size, 5, none⟩ = some (.int .i64 r.h1) := HI.out.k0.cell 5
        have y6 : V1.cell? ⟨w.heap.size, 6, none⟩ = some (.int .i64 r.h2) := HI.out.k0.cell 6
        have y7 : V1.cell? ⟨w.heap.size, 7, none⟩ = some (.int .i64 r.h3) := HI.out.k0.cell 7
        have x0 : V1.cell? ⟨w.heap.size + 1, 0, none⟩ = some (.int .i64 s.p) := HI.out.k1.cell 0
        have x1 : V1.cell? ⟨w.heap.size + 1, 1, none⟩ = some (.int .i64 s.a) := HI.out.k1.cell 1
        have x2 : V1.cell? ⟨w.heap.size + 1, 2, none⟩ = some (.int .i64 s.b) := HI.out.k1.cell 2
        have x3 : V1.cell? ⟨w.heap.size + 1, 3, none⟩ = some (.int .i64 s.m) := HI.out.k1.cell 3
        have x4 : V1.cell? ⟨w.heap.size + 1, 4, none⟩ = some (.int .i64 s.wt) := HI.out.k1.cell 4
        have x5 : V1.cell? ⟨w.heap.size + 1, 5, none⟩ = some (.int .i64 s.g) := HI.out.k1.cell 5
        have x6 : V1.cell? ⟨w.heap.size + 1, 6, none⟩ = some (.int .i64 s.t) := HI.out.k1.cell 6
        have v0 : V1.cell? ⟨w.heap.size + 1 + 1, 0, none⟩ = some (.int .i64 kv) := HI.out.k2.cell 0
        have v1 : V1.cell? ⟨w.heap.size + 1 + 1, 1, none⟩ = some (.int .i64 tv) := HI.out.k2.cell 1
        go_wp2_with (go_at_call 14; refine (HFEW.out _).mono ?_; rintro e W2 ⟨rfl, hx⟩; have XT := Lib.hid hx; clear hx; refine Hid.out ?_)
        refine Lib.hid ?_
        replace HI := Lib.hid (HI.out.ext XT.out)
        clear XT
        clear y0 y1 y2 y3 y4 y5 y6 y7 x0 x1 x2 x3 x4 x5 x6 v0 v1
        have y0 : W2.cell? ⟨w.heap.size, 0, none⟩ = some (.slice A0 n0 c0) := HI.out.k0.cell 0
        have y1 : W2.cell? ⟨w.heap.size, 1, none⟩ = some (.slice A1 n1 c1) := HI.out.k0.cell 1
        have y2 : W2.cell? ⟨w.heap.size, 2, none⟩ = some (.slice A2 n2 c2) := HI.out.k0.cell 2
        have y3 : W2.cell? ⟨w.heap.size, 3, none⟩ = some (.slice A3 n3 c3) := HI.out.k0.cell 3
        have y4 : W2.cell? ⟨w.heap.size, 4, none⟩ = some (.int .i64 r.h0) := HI.out.k0.cell 4
        have y5 : W2.cell? ⟨w.heap.size, 5, none⟩ = some (.int .i64 r.h1) := HI.out.k0.cell 5
        have y6 : W2.cell? ⟨w.heap.size, 6, none⟩ = some (.int .i64 r.h2) := HI.out.k0.cell 6
        have y7 : W2.cell? ⟨w.heap.size, 7, none⟩ = some (.int .i64 r.h3) := HI.out.k0.cell 7
        have x0 : W2.cell? ⟨w.heap.size + 1, 0, none⟩ = some (.int .i64 s.p) := HI.out.k1.cell 0
        have x1 : W2.cell? ⟨w.heap.size + 1, 1, none⟩ = some (.int .i64 s.a) := HI.out.k1.cell 1
        have x2 : W2.cell? ⟨w.heap.size + 1, 2, none⟩ = some (.int .i64 s.b) := HI.out.k1.cell 2
        have x3 : W2.cell? ⟨w.heap.size + 1, 3, none⟩ = some (.int .i64 s.m) := HI.out.k1.cell 3
        have x4 : W2.cell? ⟨w.heap.size + 1, 4, none⟩ = some (.int .i64 s.wt) := HI.out.k1.cell 4
        have x5 : W2.cell? ⟨w.heap.size + 1, 5, none⟩ = some (.int .i64 s.g) := HI.out.k1.cell 5
        have x6 : W2.cell? ⟨w.heap.size + 1, 6, none⟩ = some (.int .i64 s.t) := HI.out.k1.cell 6
        have v0 : W2.cell? ⟨w.heap.size + 1 + 1, 0, none⟩ = some (.int .i64 kv) := HI.out.k2.cell 0
        have v1 : W2.cell? ⟨w.heap.size + 1 + 1, 1, none⟩ = some (.int .i64 tv) := HI.out.k2.cell 1
        go_wp2_with (go_at_call 28; refine (HRE.out _ HI.out.e).mono ?_; rintro e W3 ⟨rfl, hx⟩; have XT := Lib.hid hx; clear hx; refine Hid.out ?_)
        refine Lib.hid ?_
        replace HI := Lib.hid (HI.out.ext XT.out)
        clear XT
        clear y0 y1 y2 y3 y4 y5 y6 y7 x0 x1 x2 x3 x4 x5 x6 v0 v1
        have y0 : W3.cell? ⟨w.heap.size, 0, none⟩ = some (.slice A0 n0 c0) := HI.out.k0.cell 0
        have y1 : W3.cell? ⟨w.heap.size, 1, none⟩ = some (.slice A1 n1 c1) := HI.out.k0.cell 1
        have y2 : W3.cell? ⟨w.heap.size, 2, none⟩ = some (.slice A2 n2 c2) := HI.out.k0.cell 2
        have y3 : W3.cell? ⟨w.heap.size, 3, none⟩ = some (.slice A3 n3 c3) := HI.out.k0.cell 3
        have y4 : W3.cell? ⟨w.heap.size, 4, none⟩ = some (.int .i64 r.h0) := HI.out.k0.cell 4
        have y5 : W3.cell? ⟨w.heap.size, 5, none⟩ = some (.int .i64 r.h1) := HI.out.k0.cell 5
        have y6 : W3.cell? ⟨w.heap.size, 6, none⟩ = some (.int .i64 r.h2) := HI.out.k0.cell 6
        have y7 : W3.cell? ⟨w.heap.size, 7, none⟩ = some (.int .i64 r.h3) := HI.out.k0.cell 7
        have x0 : W3.cell? ⟨w.heap.size + 1, 0, none⟩ = some (.int .i64 s.p) := HI.out.k1.cell 0
        have x1 : W3.cell? ⟨w.heap.size + 1, 1, none⟩ = some (.int .i64 s.a) := HI.out.k1.cell 1
        have x2 : W3.cell? ⟨w.heap.size + 1, 2, none⟩ = some (.int .i64 s.b) := HI.out.k1.cell 2
        have x3 : W3.cell? ⟨w.heap.size + 1, 3, none⟩ = some (.int .i64 s.m) := HI.out.k1.cell 3
        have x4 : W3.cell? ⟨w.heap.size + 1, 4, none⟩ = some (.int .i64 s.wt) := HI.out.k1.cell 4
        have x5 : W3.cell? ⟨w.heap.size + 1, 5, none⟩ = some (.int .i64 s.g) := HI.out.k1.cell 5
        have x6 : W3.cell? ⟨w.heap.size + 1, 6, none⟩ = some (.int .i64 s.t) := HI.out.k1.cell 6
        have v0 : W3.cell? ⟨w.heap.size + 1 + 1, 0, none⟩ = some (.int .i64 kv) := HI.out.k2.cell 0
        have v1 : W3.cell? ⟨w.heap.size + 1 + 1, 1, none⟩ = some (.int .i64 tv) := HI.out.k2.cell 1
        go_wp2_with (go_at_call 19; refine (HSE.out _).mono ?_; rintro e W4 ⟨rfl, hx⟩; have XT := Lib.hid hx; clear hx; refine Hid.out ?_)
        refine Lib.hid ?_
        replace HI := Lib.hid (HI.out.ext XT.out)
        clear XT
        clear y0 y1 y2 y3 y4 y5 y6 y7 x0 x1 x2 x3 x4 x5 x6 v0 v1
        have y0 : W4.cell? ⟨w.heap.size, 0, none⟩ = some (.slice A0 n0 c0) := HI.out.k0.cell 0
        have y1 : W4.cell? ⟨w.heap.size, 1, none⟩ = some (.slice A1 n1 c1) := HI.out.k0.cell 1
        have y2 : W4.cell? ⟨w.heap.size, 2, none⟩ = some (.slice A2 n2 c2) := HI.out.k0.cell 2
        have y3 : W4.cell? ⟨w.heap.size, 3, none⟩ = some (.slice A3 n3 c3) := HI.out.k0.cell 3
        have y4 : W4.cell? ⟨w.heap.size, 4, none⟩ = some (.int .i64 r.h0) := HI.out.k0.cell 4
        have y5 : W4.cell? ⟨w.heap.size, 5, none⟩ = some (.int .i64 r.h1) := HI.out.k0.cell 5
        have y6 : W4.cell? ⟨w.heap.size, 6, none⟩ = some (.int .i64 r.h2) := HI.out.k0.cell 6
        have y7 : W4.cell? ⟨w.heap.size, 7, none⟩ = some (.int .i64 r.h3) := HI.out.k0.cell 7
        have x0 : W4.cell? ⟨w.heap.size + 1, 0, none⟩ = some (.int .i64 s.p) := HI.out.k1.cell 0
        have x1 : W4.cell? ⟨w.heap.size + 1, 1, none⟩ = some (.int .i64 s.a) := HI.out.k1.cell 1
        have x2 : W4.cell? ⟨w.heap.size + 1, 2, none⟩ = some (.int .i64 s.b) := HI.out.k1.cell 2
        have x3 : W4.cell? ⟨w.heap.size + 1, 3, none⟩ = some (.int .i64 s.m) := HI.out.k1.cell 3
        have x4 : W4.cell? ⟨w.heap.size + 1, 4, none⟩ = some (.int .i64 s.wt) := HI.out.k1.cell 4
        have x5 : W4.cell? ⟨w.heap.size + 1, 5, none⟩ = some (.int .i64 s.g) := HI.out.k1.cell 5
        have x6 : W4.cell? ⟨w.heap.size + 1, 6, none⟩ = some (.int .i64 s.t) := HI.out.k1.cell 6
        have v0 : W4.cell? ⟨w.heap.size + 1 + 1, 0, none⟩ = some (.int .i64 kv) := HI.out.k2.cell 0
        have v1 : W4.cell? ⟨w.heap.size + 1 + 1, 1, none⟩ = some (.int .i64 tv) := HI.out.k2.cell 1
        go_wp2_with (go_at_call 30; refine (HKE.out _).mono ?_; rintro e W5 ⟨rfl, hx⟩; have XT := Lib.hid hx; clear hx)
        go_ret
        exact ⟨rfl, HI.out.e.trans XT.out⟩
    · generalize stateE [s.p, s.a, s.b, s.m, s.wt, s.g, s.t] = se at HSE hh1 hbad
      have hne : (se != 0) = true := by simp [hh1]
      clear hbad
      go_enter Tryz.func12, Tryz.ntmps12
      go_wp2_with (go_at_call 13; rw [← hW0]; refine (awake_any _).mono ?_; rintro e W1 ⟨rfl, hx⟩; have XT := Lib.hid hx; clear hx hW0; refine Hid.out ?_)
      refine Lib.hid ?_
      replace HI := Lib.hid (HI.out.ext XT.out)
      clear XT
      have y0 : W1.cell? ⟨w.heap.size, 0, none⟩ = some (.slice A0 n0 c0) := HI.out.k0.cell 0
      have y1 : W1.cell? ⟨w.heap.size, 1, none⟩ = some (.slice A1 n1 c1) := HI.out.k0.cell 1
      have y2 : W1.cell? ⟨w.heap.size, 2, none⟩ = some (.slice A2 n2 c2) := HI.out.k0.cell 2
      have y3 : W1.cell? ⟨w.heap.size, 3, none⟩ = some (.slice A3 n3 c3) := HI.out.k0.cell 3
      have y4 : W1.cell? ⟨w.heap.size, 4, none⟩ = some (.int .i64 r.h0) := HI.out.k0.cell 4
      have y5 : W1.cell? ⟨w.heap.size, 5, none⟩ = some (.int .i64 r.h1) := HI.out.k0.cell 5
      have y6 : W1.cell? ⟨w.heap.size, 6, none⟩ = some (.int .i64 r.h2) := HI.out.k0.cell 6
      have y7 : W1.cell? ⟨w.heap.size, 7, none⟩ = some (.int .i64 r.h3) := HI.out.k0.cell 7
      have x0 : W1.cell? ⟨w.heap.size + 1, 0, none⟩ = some (.int .i64 s.p) := HI.out.k1.cell 0
      have x1 : W1.cell? ⟨w.heap.size + 1, 1, none⟩ = some (.int .i64 s.a) := HI.out.k1.cell 1
      have x2 : W1.cell? ⟨w.heap.size + 1, 2, none⟩ = some (.int .i64 s.b) := HI.out.k1.cell 2
      have x3 : W1.cell? ⟨w.heap.size + 1, 3, none⟩ = some (.int .i64 s.m) := HI.out.k1.cell 3
      have x4 : W1.cell? ⟨w.heap.size + 1, 4, none⟩ = some (.int .i64 s.wt) := HI.out.k1.cell 4
      have x5 : W1.cell? ⟨w.heap.size + 1, 5, none⟩ = some (.int .i64 s.g) := HI.out.k1.cell 5
      have x6 : W1.cell? ⟨w.heap.size + 1, 6, none⟩ = some (.int .i64 s.t) := HI.out.k1.cell 6
      have v0 : W1.cell? ⟨w.heap.size + 1 + 1, 0, none⟩ = some (.int .i64 kv) := HI.out.k2.cell 0
      have v1 : W1.cell? ⟨w.heap.size + 1 + 1, 1, none⟩ = some (.int .i64 tv) := HI.out.k2.cell 1
      go_wp2
      go_quiet (fail)
      have XD := Lib.hid (show Ext W1 (W1.drewN nq) from Ext.drewN _ _)
      replace HI := Lib.hid (HI.out.ext XD.out)
      obtain ⟨V1, hV1⟩ : ∃ V, V = W1.drewN nq := ⟨_, rfl⟩
      rw [← hV1] at HI ⊢
      clear XD hV1
      clear y0 y1 y2 y3 y4 y5 y6 y7 x0 x1 x2 x3 x4 x5 x6 v0 v1
      have y0 : V1.cell? ⟨w.heap.size, 0, none⟩ = some (.slice A0 n0 c0) := HI.out.k0.cell 0
      have y1 : V1.cell? ⟨w.heap.size, 1, none⟩ = some (.slice A1 n1 c1) := HI.out.k0.cell 1
      have y2 : V1.cell? ⟨w.heap.size, 2, none⟩ = some (.slice A2 n2 c2) := HI.out.k0.cell 2
      have y3 : V1.cell? ⟨w.heap.size, 3, none⟩ = some (.slice A3 n3 c3) := HI.out.k0.cell 3
      have y4 : V1.cell? ⟨w.heap.size, 4, none⟩ = some (.int .i64 r.h0) := HI.out.k0.cell 4
      have y5 : V1.cell? ⟨w.heap.size, 5, none⟩ = some (.int .i64 r.h1) := HI.out.k0.cell 5
      have y6 : V1.cell? ⟨w.heap.size, 6, none⟩ = some (.int .i64 r.h2) := HI.out.k0.cell 6
      have y7 : V1.cell? ⟨w.heap.size, 7, none⟩ = some (.int .i64 r.h3) := HI.out.k0.cell 7
      have x0 : V1.cell? ⟨w.heap.size + 1, 0, none⟩ = some (.int .i64 s.p) := HI.out.k1.cell 0
      have x1 : V1.cell? ⟨w.heap.size + 1, 1, none⟩ = some (.int .i64 s.a) := HI.out.k1.cell 1
      have x2 : V1.cell? ⟨w.heap.size + 1, 2, none⟩ = some (.int .i64 s.b) := HI.out.k1.cell 2
      have x3 : V1.cell? ⟨w.heap.size + 1, 3, none⟩ = some (.int .i64 s.m) := HI.out.k1.cell 3
      have x4 : V1.cell? ⟨w.heap.size + 1, 4, none⟩ = some (.int .i64 s.wt) := HI.out.k1.cell 4
      have x5 : V1.cell? ⟨w.heap.size + 1, 5, none⟩ = some (.int .i64 s.g) := HI.out.k1.cell 5
      have x6 : V1.cell? ⟨w.heap.size + 1, 6, none⟩ = some (.int .i64 s.t) := HI.out.k1.cell 6
      have v0 : V1.cell? ⟨w.heap.size + 1 + 1, 0, none⟩ = some (.int .i64 kv) := HI.out.k2.cell 0
      have v1 : V1.cell? ⟨w.heap.size + 1 + 1, 1, none⟩ = some (.int .i64 tv) := HI.out.k2.cell 1
      go_wp2_with (go_at_call 14; refine (HFEW.out _).mono ?_; rintro e W2 ⟨rfl, hx⟩; have XT := Lib.hid hx; clear hx; refine Hid.out ?_)
      refine Lib.hid ?_
      replace HI := Lib.hid (HI.out.ext XT.out)
      clear XT
      clear y0 y1 y2 y3 y4 y5 y6 y7 x0 x1 x2 x3 x4 x5 x6 v0 v1
      have y0 : W2.cell? ⟨w.heap.size, 0, none⟩ = some (.slice A0 n0 c0) := HI.out.k0.cell 0
      have y1 : W2.cell? ⟨w.heap.size, 1, none⟩ = some (.slice A1 n1 c1) := HI.out.k0.cell 1
      have y2 : W2.cell? ⟨w.heap.size, 2, none⟩ = some (.slice A2 n2 c2) := HI.out.k0.cell 2
      have y3 : W2.cell? ⟨w.heap.size, 3, none⟩ = some (.slice A3 n3 c3) := HI.out.k0.cell 3
      have y4 : W2.cell? ⟨w.heap.size, 4, none⟩ = some (.int .i64 r.h0) := HI.out.k0.cell 4
      have y5 : W2.cell? ⟨w.heap.size, 5, none⟩ = some (.int .i64 r.h1) := HI.out.k0.cell 5
      have y6 : W2.cell? ⟨w.heap.size, 6, none⟩ = some (.int .i64 r.h2) := HI.out.k0.cell 6
      have y7 : W2.cell? ⟨w.heap.size, 7, none⟩ = some (.int .i64 r.h3) := HI.out.k0.cell 7
      have x0 : W2.cell? ⟨w.heap.size + 1, 0, none⟩ = some (.int .i64 s.p) := HI.out.k1.cell 0
      have x1 : W2.cell? ⟨w.heap.size + 1, 1, none⟩ = some (.int .i64 s.a) := HI.out.k1.cell 1
      have x2 : W2.cell? ⟨w.heap.size + 1, 2, none⟩ = some (.int .i64 s.b) := HI.out.k1.cell 2
      have x3 : W2.cell? ⟨w.heap.size + 1, 3, none⟩ = some (.int .i64 s.m) := HI.out.k1.cell 3
      have x4 : W2.cell? ⟨w.heap.size + 1, 4, none⟩ = some (.int .i64 s.wt) := HI.out.k1.cell 4
      have x5 : W2.cell? ⟨w.heap.size + 1, 5, none⟩ = some (.int .i64 s.g) := HI.out.k1.cell 5
      have x6 : W2.cell? ⟨w.heap.size + 1, 6, none⟩ = some (.int .i64 s.t) := HI.out.k1.cell 6
      have v0 : W2.cell? ⟨w.heap.size + 1 + 1, 0, none⟩ = some (.int .i64 kv) := HI.out.k2.cell 0
      have v1 : W2.cell? ⟨w.heap.size + 1 + 1, 1, none⟩ = some (.int .i64 tv) := HI.out.k2.cell 1
      go_wp2_with (go_at_call 28; refine (HRE.out _ HI.out.e).mono ?_; rintro e W3 ⟨rfl, hx⟩; have XT := Lib.hid hx; clear hx; refine Hid.out ?_)
      refine Lib.hid ?_
      replace HI := Lib.hid (HI.out.ext XT.out)
      clear XT
      clear y0 y1 y2 y3 y4 y5 y6 y7 x0 x1 x2 x3 x4 x5 x6 v0 v1
      have y0 : W3.cell? ⟨w.heap.size, 0, none⟩ = some (.slice A0 n0 c0) := HI.out.k0.cell 0
      have y1 : W3.cell? ⟨w.heap.size, 1, none⟩ = some (.slice A1 n1 c1) := HI.out.k0.cell 1
      have y2 : W3.cell? ⟨w.heap.size, 2, none⟩ = some (.slice A2 n2 c2) := HI.out.k0.cell 2
      have y3 : W3.cell? ⟨w.heap.size, 3, none⟩ = some (.slice A3 n3 c3) := HI.out.k0.cell 3
      have y4 : W3.cell? ⟨w.heap.size, 4, none⟩ = some (.int .i64 r.h0) := HI.out.k0.cell 4
      have y5 : W3.cell? ⟨w.heap.size, 5, none⟩ = some (.int .i64 r.h1) := HI.out.k0.cell 5
      have y6 : W3.cell? ⟨w.heap.size, 6, none⟩ = some (.int .i64 r.h2) := HI.out.k0.cell 6
      have y7 : W3.cell? ⟨w.heap.size, 7, none⟩ = some (.int .i64 r.h3) := HI.out.k0.cell 7
      have x0 : W3.cell? ⟨w.heap.size + 1, 0, none⟩ = some (.int .i64 s.p) := HI.out.k1.cell 0
      have x1 : W3.cell? ⟨w.heap.size + 1, 1, none⟩ = some (.int .i64 s.a) := HI.out.k1.cell 1
      have x2 : W3.cell? ⟨w.heap.size + 1, 2, none⟩ = some (.int .i64 s.b) := HI.out.k1.cell 2
      have x3 : W3.cell? ⟨w.heap.size + 1, 3, none⟩ = some (.int .i64 s.m) := HI.out.k1.cell 3
      have x4 : W3.cell? ⟨w.heap.size + 1, 4, none⟩ = some (.int .i64 s.wt) := HI.out.k1.cell 4
      have x5 : W3.cell? ⟨w.heap.size + 1, 5, none⟩ = some (.int .i64 s.g) := HI.out.k1.cell 5
      have x6 : W3.cell? ⟨w.heap.size + 1, 6, none⟩ = some (.int .i64 s.t) := HI.out.k1.cell 6
      have v0 : W3.cell? ⟨w.heap.size + 1 + 1, 0, none⟩ = some (.int .i64 kv) := HI.out.k2.cell 0
      have v1 : W3.cell? ⟨w.heap.size + 1 + 1, 1, none⟩ = some (.int .i64 tv) := HI.out.k2.cell 1
      go_wp2_with (go_at_call 19; refine (HSE.out _).mono ?_; rintro e W4 ⟨rfl, hx⟩; have XT := Lib.hid hx; clear hx)
      go_ret
      exact ⟨rfl, HI.out.e.trans XT.out⟩
  · generalize rulesE r = re at HRE hh0 hbad
    have hne : (re != 0) = true := by simp [hh0]
    clear hbad
    go_enter Tryz.func12, Tryz.ntmps12
    go_wp2_with (go_at_call 13; rw [← hW0]; refine (awake_any _).mono ?_; rintro e W1 ⟨rfl, hx⟩; have XT := Lib.hid hx; clear hx hW0; refine Hid.out ?_)
    refine Lib.hid ?_
    replace HI := Lib.hid (HI.out.ext XT.out)
    clear XT
    have y0 : W1.cell? ⟨w.heap.size, 0, none⟩ = some (.slice A0 n0 c0) := HI.out.k0.cell 0
    have y1 : W1.cell? ⟨w.heap.size, 1, none⟩ = some (.slice A1 n1 c1) := HI.out.k0.cell 1
    have y2 : W1.cell? ⟨w.heap.size, 2, none⟩ = some (.slice A2 n2 c2) := HI.out.k0.cell 2
    have y3 : W1.cell? ⟨w.heap.size, 3, none⟩ = some (.slice A3 n3 c3) := HI.out.k0.cell 3
    have y4 : W1.cell? ⟨w.heap.size, 4, none⟩ = some (.int .i64 r.h0) := HI.out.k0.cell 4
    have y5 : W1.cell? ⟨w.heap.size, 5, none⟩ = some (.int .i64 r.h1) := HI.out.k0.cell 5
    have y6 : W1.cell? ⟨w.heap.size, 6, none⟩ = some (.int .i64 r.h2) := HI.out.k0.cell 6
    have y7 : W1.cell? ⟨w.heap.size, 7, none⟩ = some (.int .i64 r.h3) := HI.out.k0.cell 7
    have x0 : W1.cell? ⟨w.heap.size + 1, 0, none⟩ = some (.int .i64 s.p) := HI.out.k1.cell 0
    have x1 : W1.cell? ⟨w.heap.size + 1, 1, none⟩ = some (.int .i64 s.a) := HI.out.k1.cell 1
    have x2 : W1.cell? ⟨w.heap.size + 1, 2, none⟩ = some (.int .i64 s.b) := HI.out.k1.cell 2
    have x3 : W1.cell? ⟨w.heap.size + 1, 3, none⟩ = some (.int .i64 s.m) := HI.out.k1.cell 3
    have x4 : W1.cell? ⟨w.heap.size + 1, 4, none⟩ = some (.int .i64 s.wt) := HI.out.k1.cell 4
    have x5 : W1.cell? ⟨w.heap.size + 1, 5, none⟩ = some (.int .i64 s.g) := HI.out.k1.cell 5
    have x6 : W1.cell? ⟨w.heap.size + 1, 6, none⟩ = some (.int .i64 s.t) := HI.out.k1.cell 6
    have v0 : W1.cell? ⟨w.heap.size + 1 + 1, 0, none⟩ = some (.int .i64 kv) := HI.out.k2.cell 0
    have v1 : W1.cell? ⟨w.heap.size + 1 + 1, 1, none⟩ = some (.int .i64 tv) := HI.out.k2.cell 1
    go_wp2
    go_quiet (fail)
    have XD := Lib.hid (show Ext W1 (W1.drewN nq) from Ext.drewN _ _)
    replace HI := Lib.hid (HI.out.ext XD.out)
    obtain ⟨V1, hV1⟩ : ∃ V, V = W1.drewN nq := ⟨_, rfl⟩
    rw [← hV1] at HI ⊢
    clear XD hV1
    clear y0 y1 y2 y3 y4 y5 y6 y7 x0 x1 x2 x3 x4 x5 x6 v0 v1
    have y0 : V1.cell? ⟨w.heap.size, 0, none⟩ = some (.slice A0 n0 c0) := HI.out.k0.cell 0
    have y1 : V1.cell? ⟨w.heap.size, 1, none⟩ = some (.slice A1 n1 c1) := HI.out.k0.cell 1
    have y2 : V1.cell? ⟨w.heap.size, 2, none⟩ = some (.slice A2 n2 c2) := HI.out.k0.cell 2
    have y3 : V1.cell? ⟨w.heap.size, 3, none⟩ = some (.slice A3 n3 c3) := HI.out.k0.cell 3
    have y4 : V1.cell? ⟨w.heap.size, 4, none⟩ = some (.int .i64 r.h0) := HI.out.k0.cell 4
    have y5 : V1.cell? ⟨w.heap.size, 5, none⟩ = some (.int .i64 r.h1) := HI.out.k0.cell 5
    have y6 : V1.cell? ⟨w.heap.size, 6, none⟩ = some (.int .i64 r.h2) := HI.out.k0.cell 6
    have y7 : V1.cell? ⟨w.heap.size, 7, none⟩ = some (.int .i64 r.h3) := HI.out.k0.cell 7
    have x0 : V1.cell? ⟨w.heap.size + 1, 0, none⟩ = some (.int .i64 s.p) := HI.out.k1.cell 0
    have x1 : V1.cell? ⟨w.heap.size + 1, 1, none⟩ = some (.int .i64 s.a) := HI.out.k1.cell 1
    have x2 : V1.cell? ⟨w.heap.size + 1, 2, none⟩ = some (.int .i64 s.b) := HI.out.k1.cell 2
    have x3 : V1.cell? ⟨w.heap.size + 1, 3, none⟩ = some (.int .i64 s.m) := HI.out.k1.cell 3
    have x4 : V1.cell? ⟨w.heap.size + 1, 4, none⟩ = some (.int .i64 s.wt) := HI.out.k1.cell 4
    have x5 : V1.cell? ⟨w.heap.size + 1, 5, none⟩ = some (.int .i64 s.g) := HI.out.k1.cell 5
    have x6 : V1.cell? ⟨w.heap.size + 1, 6, none⟩ = some (.int .i64 s.t) := HI.out.k1.cell 6
    have v0 : V1.cell? ⟨w.heap.size + 1 + 1, 0, none⟩ = some (.int .i64 kv) := HI.out.k2.cell 0
    have v1 : V1.cell? ⟨w.heap.size + 1 + 1, 1, none⟩ = some (.int .i64 tv) := HI.out.k2.cell 1
    go_wp2_with (go_at_call 14; refine (HFEW.out _).mono ?_; rintro e W2 ⟨rfl, hx⟩; have XT := Lib.hid hx; clear hx; refine Hid.out ?_)
    refine Lib.hid ?_
    replace HI := Lib.hid (HI.out.ext XT.out)
    clear XT
    clear y0 y1 y2 y3 y4 y5 y6 y7 x0 x1 x2 x3 x4 x5 x6 v0 v1
    have y0 : W2.cell? ⟨w.heap.size, 0, none⟩ = some (.slice A0 n0 c0) := HI.out.k0.cell 0
    have y1 : W2.cell? ⟨w.heap.size, 1, none⟩ = some (.slice A1 n1 c1) := HI.out.k0.cell 1
    have y2 : W2.cell? ⟨w.heap.size, 2, none⟩ = some (.slice A2 n2 c2) := HI.out.k0.cell 2
    have y3 : W2.cell? ⟨w.heap.size, 3, none⟩ = some (.slice A3 n3 c3) := HI.out.k0.cell 3
    have y4 : W2.cell? ⟨w.heap.size, 4, none⟩ = some (.int .i64 r.h0) := HI.out.k0.cell 4
    have y5 : W2.cell? ⟨w.heap.size, 5, none⟩ = some (.int .i64 r.h1) := HI.out.k0.cell 5
    have y6 : W2.cell? ⟨w.heap.size, 6, none⟩ = some (.int .i64 r.h2) := HI.out.k0.cell 6
    have y7 : W2.cell? ⟨w.heap.size, 7, none⟩ = some (.int .i64 r.h3) := HI.out.k0.cell 7
    have x0 : W2.cell? ⟨w.heap.size + 1, 0, none⟩ = some (.int .i64 s.p) := HI.out.k1.cell 0
    have x1 : W2.cell? ⟨w.heap.size + 1, 1, none⟩ = some (.int .i64 s.a) := HI.out.k1.cell 1
    have x2 : W2.cell? ⟨w.heap.size + 1, 2, none⟩ = some (.int .i64 s.b) := HI.out.k1.cell 2
    have x3 : W2.cell? ⟨w.heap.size + 1, 3, none⟩ = some (.int .i64 s.m) := HI.out.k1.cell 3
    have x4 : W2.cell? ⟨w.heap.size + 1, 4, none⟩ = some (.int .i64 s.wt) := HI.out.k1.cell 4
    have x5 : W2.cell? ⟨w.heap.size + 1, 5, none⟩ = some (.int .i64 s.g) := HI.out.k1.cell 5
    have x6 : W2.cell? ⟨w.heap.size + 1, 6, none⟩ = some (.int .i64 s.t) := HI.out.k1.cell 6
    have v0 : W2.cell? ⟨w.heap.size + 1 + 1, 0, none⟩ = some (.int .i64 kv) := HI.out.k2.cell 0
    have v1 : W2.cell? ⟨w.heap.size + 1 + 1, 1, none⟩ = some (.int .i64 tv) := HI.out.k2.cell 1
    go_wp2_with (go_at_call 28; refine (HRE.out _ HI.out.e).mono ?_; rintro e W3 ⟨rfl, hx⟩; have XT := Lib.hid hx; clear hx)
    go_ret
    exact ⟨rfl, HI.out.e.trans XT.out⟩
set_option maxRecDepth 100000 in
theorem tempered_many (r : Ru) (A0 A1 A2 A3 : Option Addr) (n0 n1 n2 n3 c0 c1 c2 c3 : Nat) (w : World) (s : St) (kv tv : Int) (h : ¬ (n0 ≤ 10 ∧ n1 ≤ 10 ∧ n2 ≤ 10 ∧ n3 ≤ 10)) :
    Calls Tryz.prog 12 #[.agg #[.slice A0 n0 c0, .slice A1 n1 c1, .slice A2 n2 c2, .slice A3 n3 c3, .int .i64 r.h0, .int .i64 r.h1, .int .i64 r.h2, .int .i64 r.h3], .agg #[.int .i64 s.p, .int .i64 s.a, .int .i64 s.b, .int .i64 s.m, .int .i64 s.wt, .int .i64 s.g, .int .i64 s.t], .agg #[.int .i64 kv, .int .i64 tv]] w fun e w' => e = .returned (.bool true) ∧ Ext w w' := by
  obtain ⟨W0, hW0⟩ : ∃ W0, W0 = ((w.alloc (.cells #[.slice A0 n0 c0, .slice A1 n1 c1, .slice A2 n2 c2, .slice A3 n3 c3, .int .i64 r.h0, .int .i64 r.h1, .int .i64 r.h2, .int .i64 r.h3] 28)).alloc (.cells #[.int .i64 s.p, .int .i64 s.a, .int .i64 s.b, .int .i64 s.m, .int .i64 s.wt, .int .i64 s.g, .int .i64 s.t] 30)).alloc (.cells #[.int .i64 kv, .int .i64 tv] 123) := ⟨_, rfl⟩
  have HI := Lib.hid (show BoxI w W0 123 #[.slice A0 n0 c0, .slice A1 n1 c1, .slice A2 n2 c2, .slice A3 n3 c3, .int .i64 r.h0, .int .i64 r.h1, .int .i64 r.h2, .int .i64 r.h3] s #[.int .i64 kv, .int .i64 tv] by rw [hW0]; exact BoxI.new _ _ _ _ _)
  have HFEW := Lib.hid (fun W => few_any A0 A1 A2 A3 n0 n1 n2 n3 c0 c1 c2 c3 r.h0 r.h1 r.h2 r.h3 W)
  rw [decide_eq_false h] at HFEW
  clear h
  go_enter Tryz.func12, Tryz.ntmps12
  go_wp2_with (go_at_call 13; rw [← hW0]; refine (awake_any _).mono ?_; rintro e W1 ⟨rfl, hx⟩; have XT := Lib.hid hx; clear hx hW0; refine Hid.out ?_)
  refine Lib.hid ?_
  replace HI := Lib.hid (HI.out.ext XT.out)
  clear XT
  have y0 : W1.cell? ⟨w.heap.size, 0, none⟩ = some (.slice A0 n0 c0) := HI.out.k0.cell 0
  have y1 : W1.cell? ⟨w.heap.size, 1, none⟩ = some (.slice A1 n1 c1) := HI.out.k0.cell 1
  have y2 : W1.cell? ⟨w.heap.size, 2, none⟩ = some (.slice A2 n2 c2) := HI.out.k0.cell 2
  have y3 : W1.cell? ⟨w.heap.size, 3, none⟩ = some (.slice A3 n3 c3) := HI.out.k0.cell 3
  have y4 : W1.cell? ⟨w.heap.size, 4, none⟩ = some (.int .i64 r.h0) := HI.out.k0.cell 4
  have y5 : W1.cell? ⟨w.heap.size, 5, none⟩ = some (.int .i64 r.h1) := HI.out.k0.cell 5
  have y6 : W1.cell? ⟨w.heap.size, 6, none⟩ = some (.int .i64 r.h2) := HI.out.k0.cell 6
  have y7 : W1.cell? ⟨w.heap.size, 7, none⟩ = some (.int .i64 r.h3) := HI.out.k0.cell 7
  have x0 : W1.cell? ⟨w.heap.size + 1, 0, none⟩ = some (.int .i64 s.p) := HI.out.k1.cell 0
  have x1 : W1.cell? ⟨w.heap.size + 1, 1, none⟩ = some (.int .i64 s.a) := HI.out.k1.cell 1
  have x2 : W1.cell? ⟨w.heap.size + 1, 2, none⟩ = some (.int .i64 s.b) := HI.out.k1.cell 2
  have x3 : W1.cell? ⟨w.heap.size + 1, 3, none⟩ = some (.int .i64 s.m) := HI.out.k1.cell 3
  have x4 : W1.cell? ⟨w.heap.size + 1, 4, none⟩ = some (.int .i64 s.wt) := HI.out.k1.cell 4
  have x5 : W1.cell? ⟨w.heap.size + 1, 5, none⟩ = some (.int .i64 s.g) := HI.out.k1.cell 5
  have x6 : W1.cell? ⟨w.heap.size + 1, 6, none⟩ = some (.int .i64 s.t) := HI.out.k1.cell 6
  have v0 : W1.cell? ⟨w.heap.size + 1 + 1, 0, none⟩ = some (.int .i64 kv) := HI.out.k2.cell 0
  have v1 : W1.cell? ⟨w.heap.size + 1 + 1, 1, none⟩ = some (.int .i64 tv) := HI.out.k2.cell 1
  go_wp2
  go_quiet (fail)
  have XD := Lib.hid (show Ext W1 (W1.drewN nq) from Ext.drewN _ _)
  replace HI := Lib.hid (HI.out.ext XD.out)
  obtain ⟨V1, hV1⟩ : ∃ V, V = W1.drewN nq := ⟨_, rfl⟩
  rw [← hV1] at HI ⊢
  clear XD hV1
  clear y0 y1 y2 y3 y4 y5 y6 y7 x0 x1 x2 x3 x4 x5 x6 v0 v1
  have y0 : V1.cell? ⟨w.heap.size, 0, none⟩ = some (.slice A0 n0 c0) := HI.out.k0.cell 0
  have y1 : V1.cell? ⟨w.heap.size, 1, none⟩ = some (.slice A1 n1 c1) := HI.out.k0.cell 1
  have y2 : V1.cell? ⟨w.heap.size, 2, none⟩ = some (.slice A2 n2 c2) := HI.out.k0.cell 2
  have y3 : V1.cell? ⟨w.heap.size, 3, none⟩ = some (.slice A3 n3 c3) := HI.out.k0.cell 3
  have y4 : V1.cell? ⟨w.heap.size, 4, none⟩ = some (.int .i64 r.h0) := HI.out.k0.cell 4
  have y5 : V1.cell? ⟨w.heap.size, 5, none⟩ = some (.int .i64 r.h1) := HI.out.k0.cell 5
  have y6 : V1.cell? ⟨w.heap.size, 6, none⟩ = some (.int .i64 r.h2) := HI.out.k0.cell 6
  have y7 : V1.cell? ⟨w.heap.size, 7, none⟩ = some (.int .i64 r.h3) := HI.out.k0.cell 7
  have x0 : V1.cell? ⟨w.heap.size + 1, 0, none⟩ = some (.int .i64 s.p) := HI.out.k1.cell 0
  have x1 : V1.cell? ⟨w.heap.size + 1, 1, none⟩ = some (.int .i64 s.a) := HI.out.k1.cell 1
  have x2 : V1.cell? ⟨w.heap.size + 1, 2, none⟩ = some (.int .i64 s.b) := HI.out.k1.cell 2
  have x3 : V1.cell? ⟨w.heap.size + 1, 3, none⟩ = some (.int .i64 s.m) := HI.out.k1.cell 3
  have x4 : V1.cell? ⟨w.heap.size + 1, 4, none⟩ = some (.int .i64 s.wt) := HI.out.k1.cell 4
  have x5 : V1.cell? ⟨w.heap.size + 1, 5, none⟩ = some (.int .i64 s.g) := HI.out.k1.cell 5
  have x6 : V1.cell? ⟨w.heap.size + 1, 6, none⟩ = some (.int .i64 s.t) := HI.out.k1.cell 6
  have v0 : V1.cell? ⟨w.heap.size + 1 + 1, 0, none⟩ = some (.int .i64 kv) := HI.out.k2.cell 0
  have v1 : V1.cell? ⟨w.heap.size + 1 + 1, 1, none⟩ = some (.int .i64 tv) := HI.out.k2.cell 1
  go_wp2_with (go_at_call 14; refine (HFEW.out _).mono ?_; rintro e W2 ⟨rfl, hx⟩; have XT := Lib.hid hx; clear hx)
  go_ret
  exact ⟨rfl, HI.out.e.trans XT.out⟩

end Go.Proofs.YtkmekbafjnlfkaaGreat
