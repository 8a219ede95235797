/- SteelFaster where a premise fails. -/
import Derived.Test.YtkmekbafjnlfkaaGreatS53
import Derived.BigQuiet

namespace Go.Proofs.YtkmekbafjnlfkaaGreat
open Go.RowKit Go.Shelf Go.Mem Go.RegInv
attribute [local go_sem] RelUpon_value RelUpon_skip RelUpon_enter BigFrame.eval_const BigFrame.eval_global BigFrame.eval_func

set_option maxRecDepth 100000 in
set_option maxHeartbeats 8000000 in
theorem faster_bad {r : Ru} {A0 A1 A2 A3 B : Option Addr} {n0 n1 n2 n3 c0 c1 c2 c3 n cb : Nat} {xs : List Int} {w : World} (s : St) (k l : Pk) (hR : RuIn r (.agg #[.slice A0 n0 c0, .slice A1 n1 c1, .slice A2 n2 c2, .slice A3 n3 c3, .int .i64 r.h0, .int .i64 r.h1, .int .i64 r.h2, .int .i64 r.h3]) w) (h10 : n0 ≤ 10 ∧ n1 ≤ 10 ∧ n2 ≤ 10 ∧ n3 ≤ 10) (hn30 : ¬ (30 : Int) < (n : Int)) (hn : xs.length = n) (hB : RowsAt 1 encI w B xs) (hnil : B = none → cb = 0) (hbad : ¬ (rulesE r = 0 ∧ stateE [s.p, s.a, s.b, s.m, s.wt, s.g, s.t] = 0 ∧ curveE xs = 0 ∧ pickE k.h k.c k.d = 0 ∧ pickE l.h l.c l.d = 0)) :
    Calls Tryz.prog 6 #[.agg #[.slice A0 n0 c0, .slice A1 n1 c1, .slice A2 n2 c2, .slice A3 n3 c3, .int .i64 r.h0, .int .i64 r.h1, .int .i64 r.h2, .int .i64 r.h3], .agg #[.int .i64 s.p, .int .i64 s.a, .int .i64 s.b, .int .i64 s.m, .int .i64 s.wt, .int .i64 s.g, .int .i64 s.t], .agg #[.slice B n cb, .int .i64 k.h, .int .i64 k.c, .int .i64 k.d, .int .i64 l.h, .int .i64 l.c, .int .i64 l.d]] w fun e w' => e = .returned (.bool true) ∧ Ext w w' := by
  have HIN := Lib.hid hR
  have hn31 : decide ((30 : Int) < (n : Int)) = false := decide_eq_false hn30
  have HX := Lib.hid hB
  have HN := Lib.hid hn
  have HNIL := Lib.hid hnil
  have HRE := Lib.hid (fun (W : World) (e : Ext w W) => rulesErr_any (c0 := c0) (c1 := c1) (c2 := c2) (c3 := c3) (hR.at.ext e) h10)
  have HSE := Lib.hid (fun W => stateErr_any s.p s.a s.b s.m s.wt s.g s.t W)
  have HCE := Lib.hid (fun (W : World) (e : Ext w W) => curveErr_any (ca := cb) (rowsI_ints hn (hB.ext e)))
  have HPE := Lib.hid (fun W => pickErr_any k.h k.c k.d W)
  have HQE := Lib.hid (fun W => pickErr_any l.h l.c l.d W)
  have HFEW := Lib.hid (fun W => show Calls Tryz.prog 14 #[.agg #[.slice A0 n0 c0, .slice A1 n1 c1, .slice A2 n2 c2, .slice A3 n3 c3, .int .i64 r.h0, .int .i64 r.h1, .int .i64 r.h2, .int .i64 r.h3]] W fun e w' => e = .returned (.bool true) ∧ Ext W w' by
    have := few_any A0 A1 A2 A3 n0 n1 n2 n3 c0 c1 c2 c3 r.h0 r.h1 r.h2 r.h3 W
    rw [decide_eq_true h10] at this
    exact this)
  obtain ⟨W0, hW0⟩ : ∃ W0, W0 = ((w.alloc (.cells #[.slice A0 n0 c0, .slice A1 n1 c1, .slice A2 n2 c2, .slice A3 n3 c3, .int .i64 r.h0, .int .i64 r.h1, .int .i64 r.h2, .int .i64 r.h3] 28)).alloc (.cells #[.int .i64 s.p, .int .i64 s.a, .int .i64 s.b, .int .i64 s.m, .int .i64 s.wt, .int .i64 s.g, .int .i64 s.t] 30)).alloc (.cells #[.slice B n cb, .int .i64 k.h, .int .i64 k.c, .int .i64 k.d, .int .i64 l.h, .int .i64 l.c, .int .i64 l.d] 71) := ⟨_, rfl⟩
  have HI := Lib.hid (show BoxI w W0 71 #[.slice A0 n0 c0, .slice A1 n1 c1, .slice A2 n2 c2, .slice A3 n3 c3, .int .i64 r.h0, .int .i64 r.h1, .int .i64 r.h2, .int .i64 r.h3] s #[.slice B n cb, .int .i64 k.h, .int .i64 k.c, .int .i64 k.d, .int .i64 l.h, .int .i64 l.c, .int .i64 l.d] by rw [hW0]; exact BoxI.new _ _ _ _ _)
  by_cases hh0 : rulesE r = 0
  · rw [hh0] at HRE
    by_cases hh1 : stateE [s.p, s.a, s.b, s.m, s.wt, s.g, s.t] = 0
    · rw [hh1] at HSE
      by_cases hh2 : curveE xs = 0
      · rw [hh2] at HCE
        by_cases hh3 : pickE k.h k.c k.d = 0
        · rw [hh3] at HPE
          by_cases hh4 : pickE l.h l.c l.d = 0
          · rw [hh4] at HQE
            exact absurd ⟨hh0, hh1, hh2, hh3, hh4⟩ hbad
          · clear hbad
            generalize pickE l.h l.c l.d = qe at HQE hh4
            have hne : (qe != 0) = true := by simp [hh4]
            go_enter Tryz.func6, Tryz.ntmps6
            go_wp2_with (go_at_call 13; rw [← hW0]; refine (awake_any _).mono ?_; rintro e W1 ⟨rfl, hx⟩; have XT := Lib.hid hx; clear hx hW0; refine Hid.out ?_)
            refine Lib.hid ?_
            replace HI := Lib.hid (HI.out.ext XT.out)
            clear XT
            have y0 : W1.cell? ⟨w.heap.size, 0, none⟩ = some (.slice A0 n0 c0) := HI.out.k0.cell 0
            have y1 : W1.cell? ⟨w.heap.size, 1, none⟩ = some (.slice A1 n1 c1) := HI.out.k0.cell 1
            have y2 : W1.cell? ⟨w.heap.size, 2, none⟩ = some (.slice A2 n2 c2) := HI.out.k0.cell 2
            have y3 : W1.cell? ⟨w.heap.size, 3, none⟩ = some (.slice A3 n3 c3) := HI.out.k0.cell 3
            have y4 : W1.cell? ⟨w.heap.size, 4, none⟩ = some (.int .i64 r.h0) := HI.out.k0.cell 4
            have y5 : W1.cell? ⟨w.heap.size, 5, none⟩ = some (.int .i64 r.h1) := HI.out.k0.cell 5
            have y6 : W1.cell? ⟨w.heap.size, 6, none⟩ = some (.int .i64 r.h2) := HI.out.k0.cell 6
            have y7 : W1.cell? ⟨w.heap.size, 7, none⟩ = some (.int .i64 r.h3) := HI.out.k0.cell 7
            have x0 : W1.cell? ⟨w.heap.size + 1, 0, none⟩ = some (.int .i64 s.p) := HI.out.k1.cell 0
            have x1 : W1.cell? ⟨w.heap.size + 1, 1, none⟩ = some (.int .i64 s.a) := HI.out.k1.cell 1
            have x2 : W1.cell? ⟨w.heap.size + 1, 2, none⟩ = some (.int .i64 s.b) := HI.out.k1.cell 2
            have x3 : W1.cell? ⟨w.heap.size + 1, 3, none⟩ = some (.int .i64 s.m) := HI.out.k1.cell 3
            have x4 : W1.cell? ⟨w.heap.size + 1, 4, none⟩ = some (.int .i64 s.wt) := HI.out.k1.cell 4
            have x5 : W1.cell? ⟨w.heap.size + 1, 5, none⟩ = some (.int .i64 s.g) := HI.out.k1.cell 5
            have x6 : W1.cell? ⟨w.heap.size + 1, 6, none⟩ = some (.int .i64 s.t) := HI.out.k1.cell 6
            have v0 : W1.cell? ⟨w.heap.size + 1 + 1, 0, none⟩ = some (.slice B n cb) := HI.out.k2.cell 0
            have v1 : W1.cell? ⟨w.heap.size + 1 + 1, 1, none⟩ = some (.int .i64 k.h) := HI.out.k2.cell 1
            have v2 : W1.cell? ⟨w.heap.size + 1 + 1, 2, none⟩ = some (.int .i64 k.c) := HI.out.k2.cell 2
            have v3 : W1.cell? ⟨w.heap.size + 1 + 1, 3, none⟩ = some (.int .i64 k.d) := HI.out.k2.cell 3
            have v4 : W1.cell? ⟨w.heap.size + 1 + 1, 4, none⟩ = some (.int .i64 l.h) := HI.out.k2.cell 4
            have v5 : W1.cell? ⟨w.heap.size + 1 + 1, 5, none⟩ = some (.int .i64 l.c) := HI.out.k2.cell 5
            have v6 : W1.cell? ⟨w.heap.size + 1 + 1, 6, none⟩ = some (.int .i64 l.d) := HI.out.k2.cell 6
            go_wp2_with (go_at_call 14; refine (HFEW.out _).mono ?_; rintro e W2 ⟨rfl, hx⟩; have XT := Lib.hid hx; clear hx; refine Hid.out ?_)
            refine Lib.hid ?_
            replace HI := Lib.hid (HI.out.ext XT.out)
            clear XT
            clear y0 y1 y2 y3 y4 y5 y6 y7 x0 x1 x2 x3 x4 x5 x6 v0 v1 v2 v3 v4 v5 v6
            have y0 : W2.cell? ⟨w.heap.size, 0, none⟩ = some (.slice A0 n0 c0) := HI.out.k0.cell 0
            have y1 : W2.cell? ⟨w.heap.size, 1, none⟩ = some (.slice A1 n1 c1) := HI.out.k0.cell 1
            have y2 : W2.cell? ⟨w.heap.size, 2, none⟩ = some (.slice A2 n2 c2) := HI.out.k0.cell 2
            have y3 : W2.cell? ⟨w.heap.size, 3, none⟩ = some (.slice A3 n3 c3) := HI.out.k0.cell 3
            have y4 : W2.cell? ⟨w.heap.size, 4, none⟩ = some (.int .i64 r.h0) := HI.out.k0.cell 4
            have y5 : W2.cell? ⟨w.heap.size, 5, none⟩ = some (.int .i64 r.h1) := HI.out.k0.cell 5
            have y6 : W2.cell? ⟨w.heap.size, 6, none⟩ = some (.int .i64 r.h2) := HI.out.k0.cell 6
            have y7 : W2.cell? ⟨w.heap.size, 7, none⟩ = some (.int .i64 r.h3) := HI.out.k0.cell 7
            have x0 : W2.cell? ⟨w.heap.size + 1, 0, none⟩ = some (.int .i64 s.p) := HI.out.k1.cell 0
            have x1 : W2.cell? ⟨w.heap.size + 1, 1, none⟩ = some (.int .i64 s.a) := HI.out.k1.cell 1
            have x2 : W2.cell? ⟨w.heap.size + 1, 2, none⟩ = some (.int .i64 s.b) := HI.out.k1.cell 2
            have x3 : W2.cell? ⟨w.heap.size + 1, 3, none⟩ = some (.int .i64 s.m) := HI.out.k1.cell 3
            have x4 : W2.cell? ⟨w.heap.size + 1, 4, none⟩ = some (.int .i64 s.wt) := HI.out.k1.cell 4
            have x5 : W2.cell? ⟨w.heap.size + 1, 5, none⟩ = some (.int .i64 s.g) := HI.out.k1.cell 5
            have x6 : W2.cell? ⟨w.heap.size + 1, 6, none⟩ = some (.int .i64 s.t) := HI.out.k1.cell 6
            have v0 : W2.cell? ⟨w.heap.size + 1 + 1, 0, none⟩ = some (.slice B n cb) := HI.out.k2.cell 0
            have v1 : W2.cell? ⟨w.heap.size + 1 + 1, 1, none⟩ = some (.int .i64 k.h) := HI.out.k2.cell 1
            have v2 : W2.cell? ⟨w.heap.size + 1 + 1, 2, none⟩ = some (.int .i64 k.c) := HI.out.k2.cell 2
            have v3 : W2.cell? ⟨w.heap.size + 1 + 1, 3, none⟩ = some (.int .i64 k.d) := HI.out.k2.cell 3
            have v4 : W2.cell? ⟨w.heap.size + 1 + 1, 4, none⟩ = some (.int .i64 l.h) := HI.out.k2.cell 4
            have v5 : W2.cell? ⟨w.heap.size + 1 + 1, 5, none⟩ = some (.int .i64 l.c) := HI.out.k2.cell 5
            have v6 : W2.cell? ⟨w.heap.size + 1 + 1, 6, none⟩ = some (.int .i64 l.d) := HI.out.k2.cell 6
            go_wp2_with (go_at_call 28; refine (HRE.out _ HI.out.e).mono ?_; rintro e W3 ⟨rfl, hx⟩; have XT := Lib.hid hx; clear hx; refine Hid.out ?_)
            refine Lib.hid ?_
            replace HI := Lib.hid (HI.out.ext XT.out)
            clear XT
            clear y0 y1 y2 y3 y4 y5 y6 y7 x0 x1 x2 x3 x4 x5 x6 v0 v1 v2 v3 v4 v5 v6
            have y0 : W3.cell? ⟨w.heap.size, 0, none⟩ = some (.slice A0 n0 c0) := HI.out.k0.cell 0
            have y1 : W3.cell? ⟨w.heap.size, 1, none⟩ = some (.slice A1 n1 c1) := HI.out.k0.cell 1
            have y2 : W3.cell? ⟨w.heap.size, 2, none⟩ = some (.slice A2 n2 c2) := HI.out.k0.cell 2
            have y3 : W3.cell? ⟨w.heap.size, 3, none⟩ = some (.slice A3 n3 c3) := HI.out.k0.cell 3
            have y4 : W3.cell? ⟨w.heap.size, 4, none⟩ = some (.int .i64 r.h0) := HI.out.k0.cell 4
            have y5 : W3.cell? ⟨w.heap.size, 5, none⟩ = some (.int .i64 r.h1) := HI.out.k0.cell 5
            have y6 : W3.cell? ⟨w.heap.size, 6, none⟩ = some (.int .i64 r.h2) := HI.out.k0.cell 6
            have y7 : W3.cell? ⟨w.heap.size, 7, none⟩ = some (.int .i64 r.h3) := HI.out.k0.cell 7
            have x0 : W3.cell? ⟨w.heap.size + 1, 0, none⟩ = some (.int .i64 s.p) := HI.out.k1.cell 0
            have x1 : W3.cell? ⟨w.heap.size + 1, 1, none⟩ = some (.int .i64 s.a) := HI.out.k1.cell 1
            have x2 : W3.cell? ⟨w.heap.size + 1, 2, none⟩ = some (.int .i64 s.b) := HI.out.k1.cell 2
            have x3 : W3.cell? ⟨w.heap.size + 1, 3, none⟩ = some (.int .i64 s.m) := HI.out.k1.cell 3
            have x4 : W3.cell? ⟨w.heap.size + 1, 4, none⟩ = some (.int .i64 s.wt) := HI.out.k1.cell 4
            have x5 : W3.cell? ⟨w.heap.size + 1, 5, none⟩ = some (.int .i64 s.g) := HI.out.k1.cell 5
            have x6 : W3.cell? ⟨w.heap.size + 1, 6, none⟩ = some (.int .i64 s.t) := HI.out.k1.cell 6
            have v0 : W3.cell? ⟨w.heap.size + 1 + 1, 0, none⟩ = some (.slice B n cb) := HI.out.k2.cell 0
            have v1 : W3.cell? ⟨w.heap.size + 1 + 1, 1, none⟩ = some (.int .i64 k.h) := HI.out.k2.cell 1
            have v2 : W3.cell? ⟨w.heap.size + 1 + 1, 2, none⟩ = some (.int .i64 k.c) := HI.out.k2.cell 2
            have v3 : W3.cell? ⟨w.heap.size + 1 + 1, 3, none⟩ = some (.int .i64 k.d) := HI.out.k2.cell 3
            have v4 : W3.cell? ⟨w.heap.size + 1 + 1, 4, none⟩ = some (.int .i64 l.h) := HI.out.k2.cell 4
            have v5 : W3.cell? ⟨w.heap.size + 1 + 1, 5, none⟩ = some (.int .i64 l.c) := HI.out.k2.cell 5
            have v6 : W3.cell? ⟨w.heap.size + 1 + 1, 6, none⟩ = some (.int .i64 l.d) := HI.out.k2.cell 6
            go_wp2_with (go_at_call 19; refine (HSE.out _).mono ?_; rintro e W4 ⟨rfl, hx⟩; have XT := Lib.hid hx; clear hx; refine Hid.out ?_)
            refine Lib.hid ?_
            replace HI := Lib.hid (HI.out.ext XT.out)
            clear XT
            clear y0 y1 y2 y3 y4 y5 y6 y7 x0 x1 x2 x3 x4 x5 x6 v0 v1 v2 v3 v4 v5 v6
            have y0 : W4.cell? ⟨w.heap.size, 0, none⟩ = some (.slice A0 n0 c0) := HI.out.k0.cell 0
            have y1 : W4.cell? ⟨w.heap.size, 1, none⟩ = some (.slice A1 n1 c1) := HI.out.k0.cell 1
            have y2 : W4.cell? ⟨w.heap.size, 2, none⟩ = some (.slice A2 n2 c2) := HI.out.k0.cell 2
            have y3 : W4.cell? ⟨w.heap.size, 3, none⟩ = some (.slice A3 n3 c3) := HI.out.k0.cell 3
            have y4 : W4.cell? ⟨w.heap.size, 4, none⟩ = some (.int .i64 r.h0) := HI.out.k0.cell 4
            have y5 : W4.cell? ⟨w.heap.size, 5, none⟩ = some (.int .i64 r.h1) := HI.out.k0.cell 5
            have y6 : W4.cell? ⟨w.heap.size, 6, none⟩ = some (.int .i64 r.h2) := HI.out.k0.cell 6
            have y7 : W4.cell? ⟨w.heap.size, 7, none⟩ = some (.int .i64 r.h3) := HI.out.k0.cell 7
            have x0 : W4.cell? ⟨w.heap.size + 1, 0, none⟩ = some (.int .i64 s.p) := HI.out.k1.cell 0
            have x1 : W4.cell? ⟨w.heap.size + 1, 1, none⟩ = some (.int .i64 s.a) := HI.out.k1.cell 1
            have x2 : W4.cell? ⟨w.heap.size + 1, 2, none⟩ = some (.int .i64 s.b) := HI.out.k1.cell 2
            have x3 : W4.cell? ⟨w.heap.size + 1, 3, none⟩ = some (.int .i64 s.m) := HI.out.k1.cell 3
            have x4 : W4.cell? ⟨w.heap.size + 1, 4, none⟩ = some (.int .i64 s.wt) := HI.out.k1.cell 4
            have x5 : W4.cell? ⟨w.heap.size + 1, 5, none⟩ = some (.int .i64 s.g) := HI.out.k1.cell 5
            have x6 : W4.cell? ⟨w.heap.size + 1, 6, none⟩ = some (.int .i64 s.t) := HI.out.k1.cell 6
            have v0 : W4.cell? ⟨w.heap.size + 1 + 1, 0, none⟩ = some (.slice B n cb) := HI.out.k2.cell 0
            have v1 : W4.cell? ⟨w.heap.size + 1 + 1, 1, none⟩ = some (.int .i64 k.h) := HI.out.k2.cell 1
            have v2 : W4.cell? ⟨w.heap.size + 1 + 1, 2, none⟩ = some (.int .i64 k.c) := HI.out.k2.cell 2
            have v3 : W4.cell? ⟨w.heap.size + 1 + 1, 3, none⟩ = some (.int .i64 k.d) := HI.out.k2.cell 3
            have v4 : W4.cell? ⟨w.heap.size + 1 + 1, 4, none⟩ = some (.int .i64 l.h) := HI.out.k2.cell 4
            have v5 : W4.cell? ⟨w.heap.size + 1 + 1, 5, none⟩ = some (.int .i64 l.c) := HI.out.k2.cell 5
            have v6 : W4.cell? ⟨w.heap.size + 1 + 1, 6, none⟩ = some (.int .i64 l.d) := HI.out.k2.cell 6
            go_wp2_with (go_at_call 32; refine (HCE.out _ HI.out.e).mono ?_; rintro e W5 ⟨rfl, hx⟩; have XT := Lib.hid hx; clear hx; refine Hid.out ?_)
            refine Lib.hid ?_
            replace HI := Lib.hid (HI.out.ext XT.out)
            clear XT
            clear y0 y1 y2 y3 y4 y5 y6 y7 x0 x1 x2 x3 x4 x5 x6 v0 v1 v2 v3 v4 v5 v6
            have y0 : W5.cell? ⟨w.heap.size, 0, none⟩ = some (.slice A0 n0 c0) := HI.out.k0.cell 0
            have y1 : W5.cell? ⟨w.heap.size, 1, none⟩ = some (.slice A1 n1 c1) := HI.out.k0.cell 1
            have y2 : W5.cell? ⟨w.heap.size, 2, none⟩ = some (.slice A2 n2 c2) := HI.out.k0.cell 2
            have y3 : W5.cell? ⟨w.heap.size, 3, none⟩ = some (.slice A3 n3 c3) := HI.out.k0.cell 3
            have y4 : W5.cell? ⟨w.heap.size, 4, none⟩ = some (.int .i64 r.h0) := HI.out.k0.cell 4
            have y5 : W5.cell? ⟨w.heap.size, 5, none⟩ = some (.int .i64 r.h1) := HI.out.k0.cell 5
            have y6 : W5.cell? ⟨w.heap.size, 6, none⟩ = some (.int .i64 r.h2) := HI.out.k0.cell 6
            have y7 : W5.cell? ⟨w.heap.size, 7, none⟩ = some (.int .i64 r.h3) := HI.out.k0.cell 7
            have x0 : W5.cell? ⟨w.heap.size + 1, 0, none⟩ = some (.int .i64 s.p) := HI.out.k1.cell 0
            have x1 : W5.cell? ⟨w.heap.size + 1, 1, none⟩ = some (.int .i64 s.a) := HI.out.k1.cell 1
            have x2 : W5.cell? ⟨w.heap.size + 1, 2, none⟩ = some (.int .i64 s.b) := HI.out.k1.cell 2
            have x3 : W5.cell? ⟨w.heap.size + 1, 3, none⟩ = some (.int .i64 s.m) := HI.out.k1.cell 3
            have x4 : W5.cell? ⟨w.heap.size + 1, 4, none⟩ = some (.int .i64 s.wt) := HI.out.k1.cell 4
            have x5 : W5.cell? ⟨w.heap.size + 1, 5, none⟩ = some (.int .i64 s.g) := HI.out.k1.cell 5
            have x6 : W5.cell? ⟨w.heap.size + 1, 6, none⟩ = some (.int .i64 s.t) := HI.out.k1.cell 6
            have v0 : W5.cell? ⟨w.heap.size + 1 + 1, 0, none⟩ = some (.slice B n cb) := HI.out.k2.cell 0
            have v1 : W5.cell? ⟨w.heap.size + 1 + 1, 1, none⟩ = some (.int .i64 k.h) := HI.out.k2.cell 1
            have v2 : W5.cell? ⟨w.heap.size + 1 + 1, 2, none⟩ = some (.int .i64 k.c) := HI.out.k2.cell 2
            have v3 : W5.cell? ⟨w.heap.size + 1 + 1, 3, none⟩ = some (.int .i64 k.d) := HI.out.k2.cell 3
            have v4 : W5.cell? ⟨w.heap.size + 1 + 1, 4, none⟩ = some (.int .i64 l.h) := HI.out.k2.cell 4
            have v5 : W5.cell? ⟨w.heap.size + 1 + 1, 5, none⟩ = some (.int .i64 l.c) := HI.out.k2.cell 5
            have v6 : W5.cell? ⟨w.heap.size + 1 + 1, 6, none⟩ = some (.int .i64 l.d) := HI.out.k2.cell 6
            go_wp2_with (go_at_call 21; refine (HPE.out _).mono ?_; rintro e W6 ⟨rfl, hx⟩; have XT := Lib.hid hx; clear hx; refine Hid.out ?_)
            refine Lib.hid ?_
            replace HI := Lib.hid (HI.out.ext XT.out)
            clear XT
            clear y0 y1 y2 y3 y4 y5 y6 y7 x0 x1 x2 x3 x4 x5 x6 v0 v1 v2 v3 v4 v5 v6
            have y0 : W6.cell? ⟨w.heap.size, 0, none⟩ = some (.slice A0 n0 c0) := HI.out.k0.cell 0
            have y1 : W6.cell? ⟨w.heap.size, 1, none⟩ = some (.slice A1 n1 c1) := HI.out.k0.cell 1
            have y2 : W6.cell? ⟨w.heap.size, 2, none⟩ = some (.slice A2 n2 c2) := HI.out.k0.cell 2
            have y3 : W6.cell? ⟨w.heap.size, 3, none⟩ = some (.slice A3 n3 c3) := HI.out.k0.cell 3
            have y4 : W6.cell? ⟨w.heap.size, 4, none⟩ = some (.int .i64 r.h0) := HI.out.k0.cell 4
            have y5 : W6.cell? ⟨w.heap.size, 5, none⟩ = some (.int .i64 r.h1) := HI.out.k0.cell 5
            have y6 : W6.cell? ⟨w.heap.size, 6, none⟩ = some (.int .i64 r.h2) := HI.out.k0.cell 6
            have y7 : W6.cell? ⟨w.heap.size, 7, none⟩ = some (.int .i64 r.h3) := HI.out.k0.cell 7
            have x0 : W6.cell? ⟨w.heap.size + 1, 0, none⟩ = some (.int .i64 s.p) := HI.out.k1.cell 0
            have x1 : W6.cell? ⟨w.heap.size + 1, 1, none⟩ = some (.int .i64 s.a) := HI.out.k1.cell 1
            have x2 : W6.cell? ⟨w.heap.size + 1, 2, none⟩ = some (.int .i64 s.b) := HI.out.k1.cell 2
            have x3 : W6.cell? ⟨w.heap.size + 1, 3, none⟩ = some (.int .i64 s.m) := HI.out.k1.cell 3
            have x4 : W6.cell? ⟨w.heap.size + 1, 4, none⟩ = some (.int .i64 s.wt) := HI.out.k1.cell 4
            have x5 : W6.cell? ⟨w.heap.size + 1, 5, none⟩ = some (.int .i64 s.g) := HI.out.k1.cell 5
            have x6 : W6.cell? ⟨w.heap.size + 1, 6, none⟩ = some (.int .i64 s.t) := HI.out.k1.cell 6
            have v0 : W6.cell? ⟨w.heap.size + 1 + 1, 0, none⟩ = some (.slice B n cb) := HI.out.k2.cell 0
            have v1 : W6.cell? ⟨w.heap.size + 1 + 1, 1, none⟩ = some (.int .i64 k.h) := HI.out.k2.cell 1
            have v2 : W6.cell? ⟨w.heap.size + 1 + 1, 2, none⟩ = some (.int .i64 k.c) := HI.out.k2.cell 2
            have v3 : W6.cell? ⟨w.heap.size + 1 + 1, 3, none⟩ = some (.int .i64 k.d) := HI.out.k2.cell 3
            have v4 : W6.cell? ⟨w.heap.size + 1 + 1, 4, none⟩ = some (.int .i64 l.h) := HI.out.k2.cell 4
            have v5 : W6.cell? ⟨w.heap.size + 1 + 1, 5, none⟩ = some (.int .i64 l.c) := HI.out.k2.cell 5
            have v6 : W6.cell? ⟨w.heap.size + 1 + 1, 6, none⟩ = some (.int .i64 l.d) := HI.out.k2.cell 6
            go_wp2_with (go_at_call 21; refine (HQE.out _).mono ?_; rintro e W7 ⟨rfl, hx⟩; have XT := Lib.hid hx; clear hx)
            go_ret
            exact ⟨rfl, HI.out.e.trans XT.out⟩
        · clear hbad
          generalize pickE k.h k.c k.d = pe at HPE hh3
          have hne : (pe != 0) = true := by simp [hh3]
          go_enter Tryz.func6, Tryz.ntmps6
          go_wp2_with (go_at_call 13; rw [← hW0]; refine (awake_any _).mono ?_; rintro e W1 ⟨rfl, hx⟩; have XT := Lib.hid hx; clear hx hW0; refine Hid.out ?_)
          refine Lib.hid ?_
          replace HI := Lib.hid (HI.out.ext XT.out)
          clear XT
          have y0 : W1.cell? ⟨w.heap.size, 0, none⟩ = some (.slice A0 n0 c0) := HI.out.k0.cell 0
          have y1 : W1.cell? ⟨w.heap.size, 1, none⟩ = some (.slice A1 n1 c1) := HI.out.k0.cell 1
          have y2 : W1.cell? ⟨w.heap.size, 2, none⟩ = some (.slice A2 n2 c2) := HI.out.k0.cell 2
          have y3 : W1.cell? ⟨w.heap.size, 3, none⟩ = some (.slice A3 n3 c3) := HI.out.k0.cell 3
          have y4 : W1.cell? ⟨w.heap.size, 4, none⟩ = some (.int .i64 r.h0) := HI.out.k0.cell 4
          have y5 : W1.cell? ⟨w.heap.size, 5, none⟩ = some (.int .i64 r.h1) := HI.out.k0.cell 5
          have y6 : W1.cell? ⟨w.heap.size, 6, none⟩ = some (.int .i64 r.h2) := HI.out.k0.cell 6
          have y7 : W1.cell? ⟨w.heap.size, 7, none⟩ = some (.int .i64 r.h3) := HI.out.k0.cell 7
          have x0 : W1.cell? ⟨w.heap.size + 1, 0, none⟩ = some (.int .i64 s.p) := HI.out.k1.cell 0
          have x1 : W1.cell? ⟨w.heap.size + 1, 1, none⟩ = some (.int .i64 s.a) := HI.out.k1.cell 1
          have x2 : W1.cell? ⟨w.heap.size + 1, 2, none⟩ = some (.int .i64 s.b) := HI.out.k1.cell 2
          have x3 : W1.cell? ⟨w.heap.size + 1, 3, none⟩ = some (.int .i64 s.m) := HI.out.k1.cell 3
          have x4 : W1.cell? ⟨w.heap.size + 1, 4, none⟩ = some (.int .i64 s.wt) := HI.out.k1.cell 4
          have x5 : W1.cell? ⟨w.heap.size + 1, 5, none⟩ = some (.int .i64 s.g) := HI.out.k1.cell 5
          have x6 : W1.cell? ⟨w.heap.size + 1, 6, none⟩ = some (.int .i64 s.t) := HI.out.k1.cell 6
          have v0 : W1.cell? ⟨w.heap.size + 1 + 1, 0, none⟩ = some (.slice B n cb) := HI.out.k2.cell 0
          have v1 : W1.cell? ⟨w.heap.size + 1 + 1, 1, none⟩ = some (.int .i64 k.h) := HI.out.k2.cell 1
          have v2 : W1.cell? ⟨w.heap.size + 1 + 1, 2, none⟩ = some (.int .i64 k.c) := HI.out.k2.cell 2
          have v3 : W1.cell? ⟨w.heap.size + 1 + 1, 3, none⟩ = some (.int .i64 k.d) := HI.out.k2.cell 3
          have v4 : W1.cell? ⟨w.heap.size + 1 + 1, 4, none⟩ = some (.int .i64 l.h) := HI.out.k2.cell 4
          have v5 : W1.cell? ⟨w.heap.size + 1 + 1, 5, none⟩ = some (.int .i64 l.c) := HI.out.k2.cell 5
          have v6 : W1.cell? ⟨w.heap.size + 1 + 1, 6, none⟩ = some (.int .i64 l.d) := HI.out.k2.cell 6
          go_wp2_with (go_at_call 14; refine (HFEW.out _).mono ?_; rintro e W2 ⟨rfl, hx⟩; have XT := Lib.hid hx; clear hx; refine Hid.out ?_)
          refine Lib.hid ?_
          replace HI := Lib.hid (HI.out.ext XT.out)
          clear XT
          clear y0 y1 y2 y3 y4 y5 y6 y7 x0 x1 x2 x3 x4 x5 x6 v0 v1 v2 v3 v4 v5 v6
          have y0 : W2.cell? ⟨w.heap.size, 0, none⟩ = some (.slice A0 n0 c0) := HI.out.k0.cell 0
          have y1 : W2.cell? ⟨w.heap.size, 1, none⟩ = some (.slice A1 n1 c1) := HI.out.k0.cell 1
          have y2 : W2.cell? ⟨w.heap.size, 2, none⟩ = some (.slice A2 n2 c2) := HI.out.k0.cell 2
          have y3 : W2.cell? ⟨w.heap.size, 3, none⟩ = some (.slice A3 n3 c3) := HI.out.k0.cell 3
          have y4 : W2.cell? ⟨w.heap.size, 4, none⟩ = some (.int .i64 r.h0) := HI.out.k0.cell 4
          have y5 : W2.cell? ⟨w.heap.size, 5, none⟩ = some (.int .i64 r.h1) := HI.out.k0.cell 5
          have y6 : W2.cell? ⟨w.heap.size, 6, none⟩ = some (.int .i64 r.h2) := HI.out.k0.cell 6
          have y7 : W2.cell? ⟨w.heap.size, 7, none⟩ = some (.int .i64 r.h3) := HI.out.k0.cell 7
          have x0 : W2.cell? ⟨w.heap.size + 1, 0, none⟩ = some (.int .i64 s.p) := HI.out.k1.cell 0
          have x1 : W2.cell? ⟨w.heap.size + 1, 1, none⟩ = some (.int .i64 s.a) := HI.out.k1.cell 1
          have x2 : W2.cell? ⟨w.heap.size + 1, 2, none⟩ = some (.int .i64 s.b) := HI.out.k1.cell 2
          have x3 : W2.cell? ⟨w.heap.size + 1, 3, none⟩ = some (.int .i64 s.m) := HI.out.k1.cell 3
          have x4 : W2.cell? ⟨w.heap.size + 1, 4, none⟩ = some (.int .i64 s.wt) := HI.out.k1.cell 4
          have x5 : W2.cell? ⟨w.heap.size + 1, 5, none⟩ = some (.int .i64 s.g) := HI.out.k1.cell 5
          have x6 : W2.cell? ⟨w.heap.size + 1, 6, none⟩ = some (.int .i64 s.t) := HI.out.k1.cell 6
          have v0 : W2.cell? ⟨w.heap.size + 1 + 1, 0, none⟩ = some (.slice B n cb) := HI.out.k2.cell 0
          have v1 : W2.cell? ⟨w.heap.size + 1 + 1, 1, none⟩ = some (.int .i64 k.h) := HI.out.k2.cell 1
          have v2 : W2.cell? ⟨w.heap.size + 1 + 1, 2, none⟩ = some (.int .i64 k.c) := HI.out.k2.cell 2
          have v3 : W2.cell? ⟨w.heap.size + 1 + 1, 3, none⟩ = some (.int .i64 k.d) := HI.out.k2.cell 3
          have v4 : W2.cell? ⟨w.heap.size + 1 + 1, 4, none⟩ = some (.int .i64 l.h) := HI.out.k2.cell 4
          have v5 : W2.cell? ⟨w.heap.size + 1 + 1, 5, none⟩ = some (.int .i64 l.c) := HI.out.k2.cell 5
          have v6 : W2.cell? ⟨w.heap.size + 1 + 1, 6, none⟩ = some (.int .i64 l.d) := HI.out.k2.cell 6
          go_wp2_with (go_at_call 28; refine (HRE.out _ HI.out.e).mono ?_; rintro e W3 ⟨rfl, hx⟩; have XT := Lib.hid hx; clear hx; refine Hid.out ?_)
          refine Lib.hid ?_
          replace HI := Lib.hid (HI.out.ext XT.out)
          clear XT
          clear y0 y1 y2 y3 y4 y5 y6 y7 x0 x1 x2 x3 x4 x5 x6 v0 v1 v2 v3 v4 v5 v6
          have y0 : W3.cell? ⟨w.heap.size, 0, none⟩ = some (.slice A0 n0 c0) := HI.out.k0.cell 0
          have y1 : W3.cell? ⟨w.heap.size, 1, none⟩ = some (.slice A1 n1 c1) := HI.out.k0.cell 1
          have y2 : W3.cell? ⟨w.heap.size, 2, none⟩ = some (.slice A2 n2 c2) := HI.out.k0.cell 2
          have y3 : W3.cell? ⟨w.heap.size, 3, none⟩ = some (.slice A3 n3 c3) := HI.out.k0.cell 3
          have y4 : W3.cell? ⟨w.heap.size, 4, none⟩ = some (.int .i64 r.h0) := HI.out.k0.cell 4
          have y5 : W3.cell? ⟨w.heap.size, 5, none⟩ = some (.int .i64 r.h1) := HI.out.k0.cell 5
          have y6 : W3.cell? ⟨w.heap.size, 6, none⟩ = some (.int .i64 r.h2) := HI.out.k0.cell 6
          have y7 : W3.cell? ⟨w.heap.size, 7, none⟩ = some (.int .i64 r.h3) := HI.out.k0.cell 7
          have x0 : W3.cell? ⟨w.heap.size + 1, 0, none⟩ = some (.int .i64 s.p) := HI.out.k1.cell 0
          have x1 : W3.cell? ⟨w.heap.size + 1, 1, none⟩ = some (.int .i64 s.a) := HI.out.k1.cell 1
          have x2 : W3.cell? ⟨w.heap.size + 1, 2, none⟩ = some (.int .i64 s.b) := HI.out.k1.cell 2
          have x3 : W3.cell? ⟨w.heap.size + 1, 3, none⟩ = some (.int .i64 s.m) := HI.out.k1.cell 3
          have x4 : W3.cell? ⟨w.heap.size + 1, 4, none⟩ = some (.int .i64 s.wt) := HI.out.k1.cell 4
          have x5 : W3.cell? ⟨w.heap.size + 1, 5, none⟩ = some (.int .i64 s.g) := HI.out.k1.cell 5
          have x6 : W3.cell? ⟨w.heap.size + 1, 6, none⟩ = some (.int .i64 s.t) := HI.out.k1.cell 6
          have v0 : W3.cell? ⟨w.heap.size + 1 + 1, 0, none⟩ = some (.slice B n cb) := HI.out.k2.cell 0
          have v1 : W3.cell? ⟨w.heap.size + 1 + 1, 1, none⟩ = some (.int .i64 k.h) := HI.out.k2.cell 1
          have v2 : W3.cell? ⟨w.heap.size + 1 + 1, 2, none⟩ = some (.int .i64 k.c) := HI.out.k2.cell 2
          have v3 : W3.cell? ⟨w.heap.size + 1 + 1, 3, none⟩ = some (.int .i64 k.d) := HI.out.k2.cell 3
          have v4 : W3.cell? ⟨w.heap.size + 1 + 1, 4, none⟩ = some (.int .i64 l.h) := HI.out.k2.cell 4
          have v5 : W3.cell? ⟨w.heap.size + 1 + 1, 5, none⟩ = some (.int .i64 l.c) := HI.out.k2.cell 5
          have v6 : W3.cell? ⟨w.heap.size + 1 + 1, 6, none⟩ = some (.int .i64 l.d) := HI.out.k2.cell 6
          go_wp2_with (go_at_call 19; refine (HSE.out _).mono ?_; rintro e W4 ⟨rfl, hx⟩; have XT := Lib.hid hx; clear hx; refine Hid.out ?_)
          refine Lib.hid ?_
          replace HI := Lib.hid (HI.out.ext XT.out)
          clear XT
          clear y0 y1 y2 y3 y4 y5 y6 y7 x0 x1 x2 x3 x4 x5 x6 v0 v1 v2 v3 v4 v5 v6
          have y0 : W4.cell? ⟨w.heap.size, 0, none⟩ = some (.slice A0 n0 c0) := HI.out.k0.cell 0
          have y1 : W4.cell? ⟨w.heap.size, 1, none⟩ = some (.slice A1 n1 c1) := HI.out.k0.cell 1
          have y2 : W4.cell? ⟨w.heap.size, 2, none⟩ = some (.slice A2 n2 c2) := HI.out.k0.cell 2
          have y3 : W4.cell? ⟨w.heap.size, 3, none⟩ = some (.slice A3 n3 c3) := HI.out.k0.cell 3
          have y4 : W4.cell? ⟨w.heap.size, 4, none⟩ = some (.int .i64 r.h0) := HI.out.k0.cell 4
          have y5 : W4.cell? ⟨w.heap.size, 5, none⟩ = some (.int .i64 r.h1) := HI.out.k0.cell 5
          have y6 : W4.cell? ⟨w.heap.size, 6, none⟩ = some (.int .i64 r.h2) := HI.out.k0.cell 6
          have y7 : W4.cell? ⟨w.heap.size, 7, none⟩ = some (.int .i64 r.h3) := HI.out.k0.cell 7
          have x0 : W4.cell? ⟨w.heap.size + 1, 0, none⟩ = some (.int .i64 s.p) := HI.out.k1.cell 0
          have x1 : W4.cell? ⟨w.heap.size + 1, 1, none⟩ = some (.int .i64 s.a) := HI.out.k1.cell 1
          have x2 : W4.cell? ⟨w.heap.size + 1, 2, none⟩ = some (.int .i64 s.b) := HI.out.k1.cell 2
          have x3 : W4.cell? ⟨w.heap.size + 1, 3, none⟩ = some (.int .i64 s.m) := HI.out.k1.cell 3
          have x4 : W4.cell? ⟨w.heap.size + 1, 4, none⟩ = some (.int .i64 s.wt) := HI.out.k1.cell 4
          have x5 : W4.cell? ⟨w.heap.size + 1, 5, none⟩ = some (.int .i64 s.g) := HI.out.k1.cell 5
          have x6 : W4.cell? ⟨w.heap.size + 1, 6, none⟩ = some (.int .i64 s.t) := HI.out.k1.cell 6
          have v0 : W4.cell? ⟨w.heap.size + 1 + 1, 0, none⟩ = some (.slice B n cb) := HI.out.k2.cell 0
          have v1 : W4.cell? ⟨w.heap.size + 1 + 1, 1, none⟩ = some (.int .i64 k.h) := HI.out.k2.cell 1
          have v2 : W4.cell? ⟨w.heap.size + 1 + 1, 2, none⟩ = some (.int .i64 k.c) := HI.out.k2.cell 2
          have v3 : W4.cell? ⟨w.heap.size + 1 + 1, 3, none⟩ = some (.int .i64 k.d) := HI.out.k2.cell 3
          have v4 : W4.cell? ⟨w.heap.size + 1 + 1, 4, none⟩ = some (.int .i64 l.h) := HI.out.k2.cell 4
          have v5 : W4.cell? ⟨w.heap.size + 1 + 1, 5, none⟩ = some (.int .i64 l.c) := HI.out.k2.cell 5
          have v6 : W4.cell? ⟨w.heap.size + 1 + 1, 6, none⟩ = some (.int .i64 l.d) := HI.out.k2.cell 6
          go_wp2_with (go_at_call 32; refine (HCE.out _ HI.out.e).mono ?_; rintro e W5 ⟨rfl, hx⟩; have XT := Lib.hid hx; clear hx; refine Hid.out ?_)
          refine Lib.hid ?_
          replace HI := Lib.hid (HI.out.ext XT.out)
          clear XT
          clear y0 y1 y2 y3 y4 y5 y6 y7 x0 x1 x2 x3 x4 x5 x6 v0 v1 v2 v3 v4 v5 v6
          have y0 : W5.cell? ⟨w.heap.size, 0, none⟩ = some (.slice A0 n0 c0) := HI.out.k0.cell 0
          have y1 : W5.cell? ⟨w.heap.size, 1, none⟩ = some (.slice A1 n1 c1) := HI.out.k0.cell 1
          have y2 : W5.cell? ⟨w.heap.size, 2, none⟩ = some (.slice A2 n2 c2) := HI.out.k0.cell 2
          have y3 : W5.cell? ⟨w.heap.size, 3, none⟩ = some (.slice A3 n3 c3) := HI.out.k0.cell 3
          have y4 : W5.cell? ⟨w.heap.size, 4, none⟩ = some (.int .i64 r.h0) := HI.out.k0.cell 4
          have y5 : W5.cell? ⟨w.heap.size, 5, none⟩ = some (.int .i64 r.h1) := HI.out.k0.cell 5
          have y6 : W5.cell? ⟨w.heap.size, 6, none⟩ = some (.int .i64 r.h2) := HI.out.k0.cell 6
          have y7 : W5.cell? ⟨w.heap.size, 7, none⟩ = some (.int .i64 r.h3) := HI.out.k0.cell 7
          have x0 : W5.cell? ⟨w.heap.size + 1, 0, none⟩ = some (.int .i64 s.p) := HI.out.k1.cell 0
          have x1 : W5.cell? ⟨w.heap.size + 1, 1, none⟩ = some (.int .i64 s.a) := HI.out.k1.cell 1
          have x2 : W5.cell? ⟨w.heap.size + 1, 2, none⟩ = some (.int .i64 s.b) := HI.out.k1.cell 2
          have x3 : W5.cell? ⟨w.heap.size + 1, 3, none⟩ = some (.int .i64 s.m) := HI.out.k1.cell 3
          have x4 : W5.cell? ⟨w.heap.size + 1, 4, none⟩ = some (.int .i64 s.wt) := HI.out.k1.cell 4
          have x5 : W5.cell? ⟨w.heap.size + 1, 5, none⟩ = some (.int .i64 s.g) := HI.out.k1.cell 5
          have x6 : W5.cell? ⟨w.heap.size + 1, 6, none⟩ = some (.int .i64 s.t) := HI.out.k1.cell 6
          have v0 : W5.cell? ⟨w.heap.size + 1 + 1, 0, none⟩ = some (.slice B n cb) := HI.out.k2.cell 0
          have v1 : W5.cell? ⟨w.heap.size + 1 + 1, 1, none⟩ = some (.int .i64 k.h) := HI.out.k2.cell 1
          have v2 : W5.cell? ⟨w.heap.size + 1 + 1, 2, none⟩ = some (.int .i64 k.c) := HI.out.k2.cell 2
          have v3 : W5.cell? ⟨w.heap.size + 1 + 1, 3, none⟩ = some (.int .i64 k.d) := HI.out.k2.cell 3
          have v4 : W5.cell? ⟨w.heap.size + 1 + 1, 4, none⟩ = some (.int .i64 l.h) := HI.out.k2.cell 4
          have v5 : W5.cell? ⟨w.heap.size + 1 + 1, 5, none⟩ = some (.int .i64 l.c) := HI.out.k2.cell 5
          have v6 : W5.cell? ⟨w.heap.size + 1 + 1, 6, none⟩ = some (.int .i64 l.d) := HI.out.k2.cell 6
          go_wp2_with (go_at_call 21; refine (HPE.out _).mono ?_; rintro e W6 ⟨rfl, hx⟩; have XT := Lib.hid hx; clear hx)
          go_ret
          exact ⟨rfl, HI.out.e.trans XT.out⟩
      · clear hbad
        generalize curveE xs = ce at HCE hh2
        have hne : (ce != 0) = true := by simp [hh2]
        go_enter Tryz.func6, Tryz.ntmps6
        go_wp2_with (go_at_call 13; rw [← hW0]; refine (awake_any _).mono ?_; rintro e W1 ⟨rfl, hx⟩; have XT := Lib.hid hx; clear hx hW0; refine Hid.out ?_)
        refine Lib.hid ?_
        replace HI := Lib.hid (HI.out.ext XT.out)
        clear XT
        have y0 : W1.cell? ⟨w.heap.size, 0, none⟩ = some (.slice A0 n0 c0) := HI.out.k0.cell 0
        have y1 : W1.cell? ⟨w.heap.size, 1, none⟩ = some (.slice A1 n1 c1) := HI.out.k0.cell 1
        have y2 : W1.cell? ⟨w.heap.size, 2, none⟩ = some (.slice A2 n2 c2) := HI.out.k0.cell 2
        have y3 : W1.cell? ⟨w.heap.size, 3, none⟩ = some (.slice A3 n3 c3) := HI.out.k0.cell 3
        have y4 : W1.cell? ⟨w.heap.size, 4, none⟩ = some (.int .i64 r.h0) := HI.out.k0.cell 4
        have y5 : W1.cell? ⟨w.heap.size, 5, none⟩ = some (.int .i64 r.h1) := HI.out.k0.cell 5
        have y6 : W1.cell? ⟨w.heap.size, 6, none⟩ = some (.int .i64 r.h2) := HI.out.k0.cell 6
        have y7 : W1.cell? ⟨w.heap.size, 7, none⟩ = some (.int .i64 r.h3) := HI.out.k0.cell 7
        have x0 : W1.cell? ⟨w.heap.size + 1, 0, none⟩ = some (.int .i64 s.p) := HI.out.k1.cell 0
        have x1 : W1.cell? ⟨w.heap.size + 1, 1, none⟩ = some (.int .i64 s.a) := HI.out.k1.cell 1
        have x2 : W1.cell? ⟨w.heap.size + 1, 2, none⟩ = some (.int .i64 s.b) := HI.out.k1.cell 2
        have x3 : W1.cell? ⟨w.heap.size + 1, 3, none⟩ = some (.int .i64 s.m) := HI.out.k1.cell 3
        have x4 : W1.cell? ⟨w.heap.size + 1, 4, none⟩ = some (.int .i64 s.wt) := HI.out.k1.cell 4
        have x5 : W1.cell? ⟨w.heap.size + 1, 5, none⟩ = some (.int .i64 s.g) := HI.out.k1.cell 5
        have x6 : W1.cell? ⟨w.heap.size + 1, 6, none⟩ = some (.int .i64 s.t) := HI.out.k1.cell 6
        have v0 : W1.cell? ⟨w.heap.size + 1 + 1, 0, none⟩ = some (.slice B n cb) := HI.out.k2.cell 0
        have v1 : W1.cell? ⟨w.heap.size + 1 + 1, 1, none⟩ = some (.int .i64 k.h) := HI.out.k2.cell 1
        have v2 : W1.cell? ⟨w.heap.size + 1 + 1, 2, none⟩ = some (.int .i64 k.c) := HI.out.k2.cell 2
        have v3 : W1.cell? ⟨w.heap.size + 1 + 1, 3, none⟩ = some (.int .i64 k.d) := HI.out.k2.cell 3
        have v4 : W1.cell? ⟨w.heap.size + 1 + 1, 4, none⟩ = some (.int .i64 l.h) := HI.out.k2.cell 4
        have v5 : W1.cell? ⟨w.heap.size + 1 + 1, 5, none⟩ = some (.int .i64 l.c) := HI.out.k2.cell 5
        have v6 : W1.cell? ⟨w.heap.size + 1 + 1, 6, none⟩ = some (.int .i64 l.d) := HI.out.k2.cell 6
        go_wp2_with (go_at_call 14; refine (HFEW.out _).mono ?_; rintro e W2 ⟨rfl, hx⟩; have XT := Lib.hid hx; clear hx; refine Hid.out ?_)
        refine Lib.hid ?_
        replace HI := Lib.hid (HI.out.ext XT.out)
        clear XT
        clear y0 y1 y2 y3 y4 y5 y6 y7 x0 x1 x2 x3 x4 x5 x6 v0 v1 v2 v3 v4 v5 v6
        have y0 : W2.cell? ⟨w.heap.size, 0, none⟩ = some (.slice A0 n0 c0) := HI.out.k0.cell 0
        have y1 : W2.cell? ⟨w.heap.size, 1, none⟩ = some (.slice A1 n1 c1) := HI.out.k0.cell 1
        have y2 : W2.cell? ⟨w.heap.size, 2, none⟩ = some (.slice A2 n2 c2) := HI.out.k0.cell 2
        have y3 : W2.cell? ⟨w.heap.size, 3, none⟩ = some (.slice A3 n3 c3) := HI.out.k0.cell 3
        have y4 : W2.cell? ⟨w.heap.size, 4, none⟩ = some (.int .i64 r.h0) := HI.out.k0.cell 4
        have y5 : W2.cell? ⟨w.heap.size, 5, none⟩ = some (.int .i64 r.h1) := HI.out.k0.cell 5
        have y6 : W2.cell? ⟨w.heap.size, 6, none⟩ = some (.int .i64 r.h2) := HI.out.k0.cell 6
        have y7 : W2.cell? ⟨w.heap.size, 7, none⟩ = some (.int .i64 r.h3) := HI.out.k0.cell 7
        have x0 : W2.cell? ⟨w.heap.size + 1, 0, none⟩ = some (.int .i64 s.p) := HI.out.k1.cell 0
        have x1 : W2.cell? ⟨w.heap.size + 1, 1, none⟩ = some (.int .i64 s.a) := HI.out.k1.cell 1
        have x2 : W2.cell? ⟨w.heap.size + 1, 2, none⟩ = some (.int .i64 s.b) := HI.out.k1.cell 2
        have x3 : W2.cell? ⟨w.heap.size + 1, 3, none⟩ = some (.int .i64 s.m) := HI.out.k1.cell 3
        have x4 : W2.cell? ⟨w.heap.size + 1, 4, none⟩ = some (.int .i64 s.wt) := HI.out.k1.cell 4
        have x5 : W2.cell? ⟨w.heap.size + 1, 5, none⟩ = some (.int .i64 s.g) := HI.out.k1.cell 5
        have x6 : W2.cell? ⟨w.heap.size + 1, 6, none⟩ = some (.int .i64 s.t) := HI.out.k1.cell 6
        have v0 : W2.cell? ⟨w.heap.size + 1 + 1, 0, none⟩ = some (.slice B n cb) := HI.out.k2.cell 0
        have v1 : W2.cell? ⟨w.heap.size + 1 + 1, 1, none⟩ = some (.int .i64 k.h) := HI.out.k2.cell 1
        have v2 : W2.cell? ⟨w.heap.size + 1 + 1, 2, none⟩ = some (.int .i64 k.c) := HI.out.k2.cell 2
        have v3 : W2.cell? ⟨w.heap.size + 1 + 1, 3, none⟩ = some (.int .i64 k.d) := HI.out.k2.cell 3
        have v4 : W2.cell? ⟨w.heap.size + 1 + 1, 4, none⟩ = some (.int .i64 l.h) := HI.out.k2.cell 4
        have v5 : W2.cell? ⟨w.heap.size + 1 + 1, 5, none⟩ = some (.int .i64 l.c) := HI.out.k2.cell 5
        have v6 : W2.cell? ⟨w.heap.size + 1 + 1, 6, none⟩ = some (.int .i64 l.d) := HI.out.k2.cell 6
        go_wp2_with (go_at_call 28; refine (HRE.out _ HI.out.e).mono ?_; rintro e W3 ⟨rfl, hx⟩; have XT := Lib.hid hx; clear hx; refine Hid.out ?_)
        refine Lib.hid ?_
        replace HI := Lib.hid (HI.out.ext XT.out)
        clear XT
        clear y0 y1 y2 y3 y4 y5 y6 y7 x0 x1 x2 x3 x4 x5 x6 v0 v1 v2 v3 v4 v5 v6
        have y0 : W3.cell? ⟨w.heap.size, 0, none⟩ = some (.slice A0 n0 c0) := HI.out.k0.cell 0
        have y1 : W3.cell? ⟨w.heap.size, 1, none⟩ = some (.slice A1 n1 c1) := HI.out.k0.cell 1
        have y2 : W3.cell? ⟨w.heap.size, 2, none⟩ = some (.slice A2 n2 c2) := HI.out.k0.cell 2
        have y3 : W3.cell? ⟨w.heap.size, 3, none⟩ = some (.slice A3 n3 c3) := HI.out.k0.cell 3
        have y4 : W3.cell? ⟨w.heap.size, 4, none⟩ = some (.int .i64 r.h0) := HI.out.k0.cell 4
        have y5 : W3.cell? ⟨w.heap.size, 5, none⟩ = some (.int .i64 r.h1) := HI.out.k0.cell 5
        have y6 : W3.cell? ⟨w.heap.size, 6, none⟩ = some (.int .i64 r.h2) := HI.out.k0.cell 6
        have y7 : W3.cell? ⟨w.heap.size, 7, none⟩ = some (.int .i64 r.h3) := HI.out.k0.cell 7
        have x0 : W3.cell? ⟨w.heap.size + 1, 0, none⟩ = some (.int .i64 s.p) := HI.out.k1.cell 0
        have x1 : W3.cell? ⟨w.heap.size + 1, 1, none⟩ = some (.int .i64 s.a) := HI.out.k1.cell 1
        have x2 : W3.cell? ⟨w.heap.size + 1, 2, none⟩ = some (.int .i64 s.b) := HI.out.k1.cell 2
        have x3 : W3.cell? ⟨w.heap.size + 1, 3, none⟩ = some (.int .i64 s.m) := HI.out.k1.cell 3
        have x4 : W3.cell? ⟨w.heap.size + 1, 4, none⟩ = some (.int .i64 s.wt) := HI.out.k1.cell 4
        have x5 : W3.cell? ⟨w.heap.size + 1, 5, none⟩ = some (.int .i64 s.g) := HI.out.k1.cell 5
        have x6 : W3.cell? ⟨w.heap.size + 1, 6, none⟩ = some (.int .i64 s.t) := HI.out.k1.cell 6
        have v0 : W3.cell? ⟨w.heap.size + 1 + 1, 0, none⟩ = some (.slice B n cb) := HI.out.k2.cell 0
        have v1 : W3.cell? ⟨w.heap.size + 1 + 1, 1, none⟩ = some (.int .i64 k.h) := HI.out.k2.cell 1
        have v2 : W3.cell? ⟨w.heap.size + 1 + 1, 2, none⟩ = some (.int .i64 k.c) := HI.out.k2.cell 2
        have v3 : W3.cell? ⟨w.heap.size + 1 + 1, 3, none⟩ = some (.int .i64 k.d) := HI.out.k2.cell 3
        have v4 : W3.cell? ⟨w.heap.size + 1 + 1, 4, none⟩ = some (.int .i64 l.h) := HI.out.k2.cell 4
        have v5 : W3.cell? ⟨w.heap.size + 1 + 1, 5, none⟩ = some (.int .i64 l.c) := HI.out.k2.cell 5
        have v6 : W3.cell? ⟨w.heap.size + 1 + 1, 6, none⟩ = some (.int .i64 l.d) := HI.out.k2.cell 6
        go_wp2_with (go_at_call 19; refine (HSE.out _).mono ?_; rintro e W4 ⟨rfl, hx⟩; have XT := Lib.hid hx; clear hx; refine Hid.out ?_)
        refine Lib.hid ?_
        replace HI := Lib.hid (HI.out.ext XT.out)
        clear XT
        clear y0 y1 y2 y3 y4 y5 y6 y7 x0 x1 x2 x3 x4 x5 x6 v0 v1 v2 v3 v4 v5 v6
        have y0 : W4.cell? ⟨w.heap.size, 0, none⟩ = some (.slice A0 n0 c0) := HI.out.k0.cell 0
        have y1 : W4.cell? ⟨w.heap.size, 1, none⟩ = some (.slice A1 n1 c1) := HI.out.k0.cell 1
        have y2 : W4.cell? ⟨w.heap.size, 2, none⟩ = some (.slice A2 n2 c2) := HI.out.k0.cell 2
        have y3 : W4.cell? ⟨w.heap.size, 3, none⟩ = some (.slice A3 n3 c3) := HI.out.k0.cell 3
        have y4 : W4.cell? ⟨w.heap.size, 4, none⟩ = some (.int .i64 r.h0) := HI.out.k0.cell 4
        have y5 : W4.cell? ⟨w.heap.size, 5, none⟩ = some (.int .i64 r.h1) := HI.out.k0.cell 5
        have y6 : W4.cell? ⟨w.heap.size, 6, none⟩ = some (.int .i64 r.h2) := HI.out.k0.cell 6
        have y7 : W4.cell? ⟨w.heap.size, 7, none⟩ = some (.int .i64 r.h3) := HI.out.k0.cell 7
        have x0 : W4.cell? ⟨w.heap.size + 1, 0, none⟩ = some (.int .i64 s.p) := HI.out.k1.cell 0
        have x1 : W4.cell? ⟨w.heap.size + 1, 1, none⟩ = some (.int .i64 s.a) := HI.out.k1.cell 1
        have x2 : W4.cell? ⟨w.heap.size + 1, 2, none⟩ = some (.int .i64 s.b) := HI.out.k1.cell 2
        have x3 : W4.cell? ⟨w.heap.size + 1, 3, none⟩ = some (.int .i64 s.m) := HI.out.k1.cell 3
        have x4 : W4.cell? ⟨w.heap.size + 1, 4, none⟩ = some (.int .i64 s.wt) := HI.out.k1.cell 4
        have x5 : W4.cell? ⟨w.heap.size + 1, 5, none⟩ = some (.int .i64 s.g) := HI.out.k1.cell 5
        have x6 : W4.cell? ⟨w.heap.size + 1, 6, none⟩ = some (.int .i64 s.t) := HI.out.k1.cell 6
        have v0 : W4.cell? ⟨w.heap.size + 1 + 1, 0, none⟩ = some (.slice B n cb) := HI.out.k2.cell 0
        have v1 : W4.cell? ⟨w.heap.size + 1 + 1, 1, none⟩ = some (.int .i64 k.h) := HI.out.k2.cell 1
        have v2 : W4.cell? ⟨w.heap.size + 1 + 1, 2, none⟩ = some (.int .i64 k.c) := HI.out.k2.cell 2
        have v3 : W4.cell? ⟨w.heap.size + 1 + 1, 3, none⟩ = some (.int .i64 k.d) := HI.out.k2.cell 3
        have v4 : W4.cell? ⟨w.heap.size + 1 + 1, 4, none⟩ = some (.int .i64 l.h) := HI.out.k2.cell 4
        have v5 : W4.cell? ⟨w.heap.size + 1 + 1, 5, none⟩ = some (.int .i64 l.c) := HI.out.k2.cell 5
        have v6 : W4.cell? ⟨w.heap.size + 1 + 1, 6, none⟩ = some (.int .i64 l.d) := HI.out.k2.cell 6
        go_wp2_with (go_at_call 32; refine (HCE.out _ HI.out.e).mono ?_; rintro e W5 ⟨rfl, hx⟩; have XT := Lib.hid hx; clear hx)
        go_ret
        exact ⟨rfl, HI.out.e.trans XT.out⟩
    · clear hbad
      generalize stateE [s.p, s.a, s.b, s.m, s.wt, s.g, s.t] = se at HSE hh1
      have hne : (se != 0) = true := by simp [hh1]
      go_enter Tryz.func6, Tryz.ntmps6
      go_wp2_with (go_at_call 13; rw [← hW0]; refine (awake_any _).mono ?_; rintro e W1 ⟨rfl, hx⟩; have XT := Lib.hid hx; clear hx hW0; refine Hid.out ?_)
      refine Lib.hid ?_
      replace HI := Lib.hid (HI.out.ext XT.out)
      clear XT
      have y0 : W1.cell? ⟨w.heap.size, 0, none⟩ = some (.slice A0 n0 c0) := HI.out.k0.cell 0
      have y1 : W1.cell? ⟨w.heap.size, 1, none⟩ = some (.slice A1 n1 c1) := HI.out.k0.cell 1
      have y2 : W1.cell? ⟨w.heap.size, 2, none⟩ = some (.slice A2 n2 c2) := HI.out.k0.cell 2
      have y3 : W1.cell? ⟨w.heap.size, 3, none⟩ = some (.slice A3 n3 c3) := HI.out.k0.cell 3
      have y4 : W1.cell? ⟨w.heap.size, 4, none⟩ = some (.int .i64 r.h0) := HI.out.k0.cell 4
      have y5 : W1.cell? ⟨w.heap.size, 5, none⟩ = some (.int .i64 r.h1) := HI.out.k0.cell 5
      have y6 : W1.cell? ⟨w.heap.size, 6, none⟩ = some (.int .i64 r.h2) := HI.out.k0.cell 6
      have y7 : W1.cell? ⟨w.heap.size, 7, none⟩ = some (.int .i64 r.h3) := HI.out.k0.cell 7
      have x0 : W1.cell? ⟨w.heap.size + 1, 0, none⟩ = some (.int .i64 s.p) := HI.out.k1.cell 0
      have x1 : W1.cell? ⟨w.heap.size + 1, 1, none⟩ = some (.int .i64 s.a) := HI.out.k1.cell 1
      have x2 : W1.cell? ⟨w.heap.size + 1, 2, none⟩ = some (.int .i64 s.b) := HI.out.k1.cell 2
      have x3 : W1.cell? ⟨w.heap.size + 1, 3, none⟩ = some (.int .i64 s.m) := HI.out.k1.cell 3
      have x4 : W1.cell? ⟨w.heap.size + 1, 4, none⟩ = some (.int .i64 s.wt) := HI.out.k1.cell 4
      have x5 : W1.cell? ⟨w.heap.size + 1, 5, none⟩ = some (.int .i64 s.g) := HI.out.k1.cell 5
      have x6 : W1.cell? ⟨w.heap.size + 1, 6, none⟩ = some (.int .i64 s.t) := HI.out.k1.cell 6
      have v0 : W1.cell? ⟨w.heap.size + 1 + 1, 0, none⟩ = some (.slice B n cb) := HI.out.k2.cell 0
      have v1 : W1.cell? ⟨w.heap.size + 1 + 1, 1, none⟩ = some (.int .i64 k.h) := HI.out.k2.cell 1
      have v2 : W1.cell? ⟨w.heap.size + 1 + 1, 2, none⟩ = some (.int .i64 k.c) := HI.out.k2.cell 2
      have v3 : W1.cell? ⟨w.heap.size + 1 + 1, 3, none⟩ = some (.int .i64 k.d) := HI.out.k2.cell 3
      have v4 : W1.cell? ⟨w.heap.size + 1 + 1, 4, none⟩ = some (.int .i64 l.h) := HI.out.k2.cell 4
      have v5 : W1.cell? ⟨w.heap.size + 1 + 1, 5, none⟩ = some (.int .i64 l.c) := HI.out.k2.cell 5
      have v6 : W1.cell? ⟨w.heap.size + 1 + 1, 6, none⟩ = some (.int .i64 l.d) := HI.out.k2.cell 6
      go_wp2_with (go_at_call 14; refine (HFEW.out _).mono ?_; rintro e W2 ⟨rfl, hx⟩; have XT := Lib.hid hx; clear hx; refine Hid.out ?_)
      refine Lib.hid ?_
      replace HI := Lib.hid (HI.out.ext XT.out)
      clear XT
      clear y0 y1 y2 y3 y4 y5 y6 y7 x0 x1 x2 x3 x4 x5 x6 v0 v1 v2 v3 v4 v5 v6
      have y0 : W2.cell? ⟨w.heap.size, 0, none⟩ = some (.slice A0 n0 c0) := HI.out.k0.cell 0
      have y1 : W2.cell? ⟨w.heap.size, 1, none⟩ = some (.slice A1 n1 c1) := HI.out.k0.cell 1
      have y2 : W2.cell? ⟨w.heap.size, 2, none⟩ = some (.slice A2 n2 c2) := HI.out.k0.cell 2
      have y3 : W2.cell? ⟨w.heap.size, 3, none⟩ = some (.slice A3 n3 c3) := HI.out.k0.cell 3
      have y4 : W2.cell? ⟨w.heap.size, 4, none⟩ = some (.int .i64 r.h0) := HI.out.k0.cell 4
      have y5 : W2.cell? ⟨w.heap.size, 5, none⟩ = some (.int .i64 r.h1) := HI.out.k0.cell 5
      have y6 : W2.cell? ⟨w.heap.size, 6, none⟩ = some (.int .i64 r.h2) := HI.out.k0.cell 6
      have y7 : W2.cell? ⟨w.heap.size, 7, none⟩ = some (.int .i64 r.h3) := HI.out.k0.cell 7
      have x0 : W2.cell? ⟨w.heap.size + 1, 0, none⟩ = some (.int .i64 s.p) := HI.out.k1.cell 0
      have x1 : W2.cell? ⟨w.heap.size + 1, 1, none⟩ = some (.int .i64 s.a) := HI.out.k1.cell 1
      have x2 : W2.cell? ⟨w.heap.size + 1, 2, none⟩ = some (.int .i64 s.b) := HI.out.k1.cell 2
      have x3 : W2.cell? ⟨w.heap.size + 1, 3, none⟩ = some (.int .i64 s.m) := HI.out.k1.cell 3
      have x4 : W2.cell? ⟨w.heap.size + 1, 4, none⟩ = some (.int .i64 s.wt) := HI.out.k1.cell 4
      have x5 : W2.cell? ⟨w.heap.size + 1, 5, none⟩ = some (.int .i64 s.g) := HI.out.k1.cell 5
      have x6 : W2.cell? ⟨w.heap.size + 1, 6, none⟩ = some (.int .i64 s.t) := HI.out.k1.cell 6
      have v0 : W2.cell? ⟨w.heap.size + 1 + 1, 0, none⟩ = some (.slice B n cb) := HI.out.k2.cell 0
      have v1 : W2.cell? ⟨w.heap.size + 1 + 1, 1, none⟩ = some (.int .i64 k.h) := HI.out.k2.cell 1
      have v2 : W2.cell? ⟨w.heap.size + 1 + 1, 2, none⟩ = some (.int .i64 k.c) := HI.out.k2.cell 2
      have v3 : W2.cell? ⟨w.heap.size + 1 + 1, 3, none⟩ = some (.int .i64 k.d) := HI.out.k2.cell 3
      have v4 : W2.cell? ⟨w.heap.size + 1 + 1, 4, none⟩ = some (.int .i64 l.h) := HI.out.k2.cell 4
      have v5 : W2.cell? ⟨w.heap.size + 1 + 1, 5, none⟩ = some (.int .i64 l.c) := HI.out.k2.cell 5
      have v6 : W2.cell? ⟨w.heap.size + 1 + 1, 6, none⟩ = some (.int .i64 l.d) := HI.out.k2.cell 6
      go_wp2_with (go_at_call 28; refine (HRE.out _ HI.out.e).mono ?_; rintro e W3 ⟨rfl, hx⟩; have XT := Lib.hid hx; clear hx; refine Hid.out ?_)
      refine Lib.hid ?_
      replace HI := Lib.hid (HI.out.ext XT.out)
      clear XT
      clear y0 y1 y2 y3 y4 y5 y6 y7 x0 x1 x2 x3 x4 x5 x6 v0 v1 v2 v3 v4 v5 v6
      have y0 : W3.cell? ⟨w.heap.size, 0, none⟩ = some (.slice A0 n0 c0) := HI.out.k0.cell 0
      have y1 : W3.cell? ⟨w.heap.size, 1, none⟩ = some (.slice A1 n1 c1) := HI.out.k0.cell 1
      have y2 : W3.cell? ⟨w.heap.size, 2, none⟩ = some (.slice A2 n2 c2) := HI.out.k0.cell 2
      have y3 : W3.cell? ⟨w.heap.size, 3, none⟩ = some (.slice A3 n3 c3) := HI.out.k0.cell 3
      have y4 : W3.cell? ⟨w.heap.size, 4, none⟩ = some (.int .i64 r.h0) := HI.out.k0.cell 4
      have y5 : W3.cell? ⟨w.heap.size, 5, none⟩ = some (.int .i64 r.h1) := HI.out.k0.cell 5
      have y6 : W3.cell? ⟨w.heap.size, 6, none⟩ = some (.int .i64 r.h2) := HI.out.k0.cell 6
      have y7 : W3.cell? ⟨w.heap.size, 7, none⟩ = some (.int .i64 r.h3) := HI.out.k0.cell 7
      have x0 : W3.cell? ⟨w.heap.size + 1, 0, none⟩ = some (.int .i64 s.p) := HI.out.k1.cell 0
      have x1 : W3.cell? ⟨w.heap.size + 1, 1, none⟩ = some (.int .i64 s.a) := HI.out.k1.cell 1
      have x2 : W3.cell? ⟨w.heap.size + 1, 2, none⟩ = some (.int .i64 s.b) := HI.out.k1.cell 2
      have x3 : W3.cell? ⟨w.heap.size + 1, 3, none⟩ = some (.int .i64 s.m) := HI.out.k1.cell 3
      have x4 : W3.cell? ⟨w.heap.size + 1, 4, none⟩ = some (.int .i64 s.wt) := HI.out.k1.cell 4
      have x5 : W3.cell? ⟨w.heap.size + 1, 5, none⟩ = some (.int .i64 s.g) := HI.out.k1.cell 5
      have x6 : W3.cell? ⟨w.heap.size + 1, 6, none⟩ = some (.int .i64 s.t) := HI.out.k1.cell 6
      have v0 : W3.cell? ⟨w.heap.size + 1 + 1, 0, none⟩ = some (.slice B n cb) := HI.out.k2.cell 0
      have v1 : W3.cell? ⟨w.heap.size + 1 + 1, 1, none⟩ = some (.int .i64 k.h) := HI.out.k2.cell 1
      have v2 : W3.cell? ⟨w.heap.size + 1 + 1, 2, none⟩ = some (.int .i64 k.c) := HI.out.k2.cell 2
      have v3 : W3.cell? ⟨w.heap.size + 1 + 1, 3, none⟩ = some (.int .i64 k.d) := HI.out.k2.cell 3
      have v4 : W3.cell? ⟨w.heap.size + 1 + 1, 4, none⟩ = some (.int .i64 l.h) := HI.out.k2.cell 4
      have v5 : W3.cell? ⟨w.heap.size + 1 + 1, 5, none⟩ = some (.int .i64 l.c) := HI.out.k2.cell 5
      have v6 : W3.cell? ⟨w.heap.size + 1 + 1, 6, none⟩ = some (.int .i64 l.d) := HI.out.k2.cell 6
      go_wp2_with (go_at_call 19; refine (HSE.out _).mono ?_; rintro e W4 ⟨rfl, hx⟩; have XT := Lib.hid hx; clear hx)
      go_ret
      exact ⟨rfl, HI.out.e.trans XT.out⟩
  · clear hbad
    generalize rulesE r = re at HRE hh0
    have hne : (re != 0) = true := by simp [hh0]
    go_enter Tryz.func6, Tryz.ntmps6
    go_wp2_with (go_at_call 13; rw [← hW0]; refine (awake_any _).mono ?_; rintro e W1 ⟨rfl, hx⟩; have XT := Lib.hid hx; clear hx hW0; refine Hid.out ?_)
    refine Lib.hid ?_
    replace HI := Lib.hid (HI.out.ext XT.out)
    clear XT
    have y0 : W1.cell? ⟨w.heap.size, 0, none⟩ = some (.slice A0 n0 c0) := HI.out.k0.cell 0
    have y1 : W1.cell? ⟨w.heap.size, 1, none⟩ = some (.slice A1 n1 c1) := HI.out.k0.cell 1
    have y2 : W1.cell? ⟨w.heap.size, 2, none⟩ = some (.slice A2 n2 c2) := HI.out.k0.cell 2
    have y3 : W1.cell? ⟨w.heap.size, 3, none⟩ = some (.slice A3 n3 c3) := HI.out.k0.cell 3
    have y4 : W1.cell? ⟨w.heap.size, 4, none⟩ = some (.int .i64 r.h0) := HI.out.k0.cell 4
    have y5 : W1.cell? ⟨w.heap.size, 5, none⟩ = some (.int .i64 r.h1) := HI.out.k0.cell 5
    have y6 : W1.cell? ⟨w.heap.size, 6, none⟩ = some (.int .i64 r.h2) := HI.out.k0.cell 6
    have y7 : W1.cell? ⟨w.heap.size, 7, none⟩ = some (.int .i64 r.h3) := HI.out.k0.cell 7
    have x0 : W1.cell? ⟨w.heap.size + 1, 0, none⟩ = some (.int .i64 s.p) := HI.out.k1.cell 0
    have x1 : W1.cell? ⟨w.heap.size + 1, 1, none⟩ = some (.int .i64 s.a) := HI.out.k1.cell 1
    have x2 : W1.cell? ⟨w.heap.size + 1, 2, none⟩ = some (.int .i64 s.b) := HI.out.k1.cell 2
    have x3 : W1.cell? ⟨w.heap.size + 1, 3, none⟩ = some (.int .i64 s.m) := HI.out.k1.cell 3
    have x4 : W1.cell? ⟨w.heap.size + 1, 4, none⟩ = some (.int .i64 s.wt) := HI.out.k1.cell 4
    have x5 : W1.cell? ⟨w.heap.size + 1, 5, none⟩ = some (.int .i64 s.g) := HI.out.k1.cell 5
    have x6 : W1.cell? ⟨w.heap.size + 1, 6, none⟩ = some (.int .i64 s.t) := HI.out.k1.cell 6
    have v0 : W1.cell? ⟨w.heap.size + 1 + 1, 0, none⟩ = some (.slice B n cb) := HI.out.k2.cell 0
    have v1 : W1.cell? ⟨w.heap.size + 1 + 1, 1, none⟩ = some (.int .i64 k.h) := HI.out.k2.cell 1
    have v2 : W1.cell? ⟨w.heap.size + 1 + 1, 2, none⟩ = some (.int .i64 k.c) := HI.out.k2.cell 2
    have v3 : W1.cell? ⟨w.heap.size + 1 + 1, 3, none⟩ = some (.int .i64 k.d) := HI.out.k2.cell 3
    have v4 : W1.cell? ⟨w.heap.size + 1 + 1, 4, none⟩ = some (.int .i64 l.h) := HI.out.k2.cell 4
    have v5 : W1.cell? ⟨w.heap.size + 1 + 1, 5, none⟩ = some (.int .i64 l.c) := HI.out.k2.cell 5
    have v6 : W1.cell? ⟨w.heap.size + 1 + 1, 6, none⟩ = some (.int .i64 l.d) := HI.out.k2.cell 6
    go_wp2_with (go_at_call 14; refine (HFEW.out _).mono ?_; rintro e W2 ⟨rfl, hx⟩; have XT := Lib.hid hx; clear hx; refine Hid.out ?_)
    refine Lib.hid ?_
    replace HI := Lib.hid (HI.out.ext XT.out)
    clear XT
    clear y0 y1 y2 y3 y4 y5 y6 y7 x0 x1 x2 x3 x4 x5 x6 v0 v1 v2 v3 v4 v5 v6
    have y0 : W2.cell? ⟨w.heap.size, 0, none⟩ = some (.slice A0 n0 c0) := HI.out.k0.cell 0
    have y1 : W2.cell? ⟨w.heap.size, 1, none⟩ = some (.slice A1 n1 c1) := HI.out.k0.cell 1
    have y2 : W2.cell? ⟨w.heap.size, 2, none⟩ = some (.slice A2 n2 c2) := HI.out.k0.cell 2
    have y3 : W2.cell? ⟨w.heap.size, 3, none⟩ = some (.slice A3 n3 c3) := HI.out.k0.cell 3
    have y4 : W2.cell? ⟨w.heap.size, 4, none⟩ = some (.int .i64 r.h0) := HI.out.k0.cell 4
    have y5 : W2.cell? ⟨w.heap.size, 5, none⟩ = some (.int .i64 r.h1) := HI.out.k0.cell 5
    have y6 : W2.cell? ⟨w.heap.size, 6, none⟩ = some (.int .i64 r.h2) := HI.out.k0.cell 6
    have y7 : W2.cell? ⟨w.heap.size, 7, none⟩ = some (.int .i64 r.h3) := HI.out.k0.cell 7
    have x0 : W2.cell? ⟨w.heap.size + 1, 0, none⟩ = some (.int .i64 s.p) := HI.out.k1.cell 0
    have x1 : W2.cell? ⟨w.heap.size + 1, 1, none⟩ = some (.int .i64 s.a) := HI.out.k1.cell 1
    have x2 : W2.cell? ⟨w.heap.size + 1, 2, none⟩ = some (.int .i64 s.b) := HI.out.k1.cell 2
    have x3 : W2.cell? ⟨w.heap.size + 1, 3, none⟩ = some (.int .i64 s.m) := HI.out.k1.cell 3
    have x4 : W2.cell? ⟨w.heap.size + 1, 4, none⟩ = some (.int .i64 s.wt) := HI.out.k1.cell 4
    have x5 : W2.cell? ⟨w.heap.size + 1, 5, none⟩ = some (.int .i64 s.g) := HI.out.k1.cell 5
    have x6 : W2.cell? ⟨w.heap.size + 1, 6, none⟩ = some (.int .i64 s.t) := HI.out.k1.cell 6
    have v0 : W2.cell? ⟨w.heap.size + 1 + 1, 0, none⟩ = some (.slice B n cb) := HI.out.k2.cell 0
    have v1 : W2.cell? ⟨w.heap.size + 1 + 1, 1, none⟩ = some (.int .i64 k.h) := HI.out.k2.cell 1
    have v2 : W2.cell? ⟨w.heap.size + 1 + 1, 2, none⟩ = some (.int .i64 k.c) := HI.out.k2.cell 2
    have v3 : W2.cell? ⟨w.heap.size + 1 + 1, 3, none⟩ = some (.int .i64 k.d) := HI.out.k2.cell 3
    have v4 : W2.cell? ⟨w.heap.size + 1 + 1, 4, none⟩ = some (.int .i64 l.h) := HI.out.k2.cell 4
    have v5 : W2.cell? ⟨w.heap.size + 1 + 1, 5, none⟩ = some (.int .i64 l.c) := HI.out.k2.cell 5
    have v6 : W2.cell? ⟨w.heap.size + 1 + 1, 6, none⟩ = some (.int .i64 l.d) := HI.out.k2.cell 6
    go_wp2_with (go_at_call 28; refine (HRE.out _ HI.out.e).mono ?_; rintro e W3 ⟨rfl, hx⟩; have XT := Lib.hid hx; clear hx)
    go_ret
    exact ⟨rfl, HI.out.e.trans XT.out⟩
set_option maxRecDepth 100000 in
theorem faster_many (r : Ru) (A0 A1 A2 A3 B : Option Addr) (n0 n1 n2 n3 c0 c1 c2 c3 n cb : Nat) (w : World) (s : St) (k l : Pk) (h : ¬ (n0 ≤ 10 ∧ n1 ≤ 10 ∧ n2 ≤ 10 ∧ n3 ≤ 10) ∨ (30 : Int) < (n : Int)) :
    Calls Tryz.prog 6 #[.agg #[.slice A0 n0 c0, .slice A1 n1 c1, .slice A2 n2 c2, .slice A3 n3 c3, .int .i64 r.h0, .int .i64 r.h1, .int .i64 r.h2, .int .i64 r.h3], .agg #[.int .i64 s.p, .int .i64 s.a, .int .i64 s.b, .int .i64 s.m, .int .i64 s.wt, .int .i64 s.g, .int .i64 s.t], .agg #[.slice B n cb, .int .i64 k.h, .int .i64 k.c, .int .i64 k.d, .int .i64 l.h, .int .i64 l.c, .int .i64 l.d]] w fun e w' => e = .returned (.bool true) ∧ Ext w w' := by
  obtain ⟨W0, hW0⟩ : ∃ W0, W0 = ((w.alloc (.cells #[.slice A0 n0 c0, .slice A1 n1 c1, .slice A2 n2 c2, .slice A3 n3 c3, .int .i64 r.h0, .int .i64 r.h1, .int .i64 r.h2, .int .i64 r.h3] 28)).alloc (.cells #[.int .i64 s.p, .int .i64 s.a, .int .i64 s.b, .int .i64 s.m, .int .i64 s.wt, .int .i64 s.g, .int .i64 s.t] 30)).alloc (.cells #[.slice B n cb, .int .i64 k.h, .int .i64 k.c, .int .i64 k.d, .int .i64 l.h, .int .i64 l.c, .int .i64 l.d] 71) := ⟨_, rfl⟩
  have HI := Lib.hid (show BoxI w W0 71 #[.slice A0 n0 c0, .slice A1 n1 c1, .slice A2 n2 c2, .slice A3 n3 c3, .int .i64 r.h0, .int .i64 r.h1, .int .i64 r.h2, .int .i64 r.h3] s #[.slice B n cb, .int .i64 k.h, .int .i64 k.c, .int .i64 k.d, .int .i64 l.h, .int .i64 l.c, .int .i64 l.d] by rw [hW0]; exact BoxI.new _ _ _ _ _)
  have HFEW := Lib.hid (fun W => few_any A0 A1 A2 A3 n0 n1 n2 n3 c0 c1 c2 c3 r.h0 r.h1 r.h2 r.h3 W)
  by_cases h10 : n0 ≤ 10 ∧ n1 ≤ 10 ∧ n2 ≤ 10 ∧ n3 ≤ 10
  · rw [decide_eq_true h10] at HFEW
    have hn : (30 : Int) < (n : Int) := by rcases h with h | h; exact absurd h10 h; exact h
    have hn31 : decide ((30 : Int) < (n : Int)) = true := decide_eq_true hn
    clear h h10
    go_enter Tryz.func6, Tryz.ntmps6
    go_wp2_with (go_at_call 13; rw [← hW0]; refine (awake_any _).mono ?_; rintro e W1 ⟨rfl, hx⟩; have XT := Lib.hid hx; clear hx hW0; refine Hid.out ?_)
    refine Lib.hid ?_
    replace HI := Lib.hid (HI.out.ext XT.out)
    clear XT
    have y0 : W1.cell? ⟨w.heap.size, 0, none⟩ = some (.slice A0 n0 c0) := HI.out.k0.cell 0
    have y1 : W1.cell? ⟨w.heap.size, 1, none⟩ = some (.slice A1 n1 c1) := HI.out.k0.cell 1
    have y2 : W1.cell? ⟨w.heap.size, 2, none⟩ = some (.slice A2 n2 c2) := HI.out.k0.cell 2
    have y3 : W1.cell? ⟨w.heap.size, 3, none⟩ = some (.slice A3 n3 c3) := HI.out.k0.cell 3
    have y4 : W1.cell? ⟨w.heap.size, 4, none⟩ = some (.int .i64 r.h0) := HI.out.k0.cell 4
    have y5 : W1.cell? ⟨w.heap.size, 5, none⟩ = some (.int .i64 r.h1) := HI.out.k0.cell 5
    have y6 : W1.cell? ⟨w.heap.size, 6, none⟩ = some (.int .i64 r.h2) := HI.out.k0.cell 6
    have y7 : W1.cell? ⟨w.heap.size, 7, none⟩ = some (.int .i64 r.h3) := HI.out.k0.cell 7
    have x0 : W1.cell? ⟨w.heap.size + 1, 0, none⟩ = some (.int .i64 s.p) := HI.out.k1.cell 0
    have x1 : W1.cell? ⟨w.heap.size + 1, 1, none⟩ = some (.int .i64 s.a) := HI.out.k1.cell 1
    have x2 : W1.cell? ⟨w.heap.size + 1, 2, none⟩ = some (.int .i64 s.b) := HI.out.k1.cell 2
    have x3 : W1.cell? ⟨w.heap.size + 1, 3, none⟩ = some (.int .i64 s.m) := HI.out.k1.cell 3
    have x4 : W1.cell? ⟨w.heap.size + 1, 4, none⟩ = some (.int .i64 s.wt) := HI.out.k1.cell 4
    have x5 : W1.cell? ⟨w.heap.size + 1, 5, none⟩ = some (.int .i64 s.g) := HI.out.k1.cell 5
    have x6 : W1.cell? ⟨w.heap.size + 1, 6, none⟩ = some (.int .i64 s.t) := HI.out.k1.cell 6
    have v0 : W1.cell? ⟨w.heap.size + 1 + 1, 0, none⟩ = some (.slice B n cb) := HI.out.k2.cell 0
    have v1 : W1.cell? ⟨w.heap.size + 1 + 1, 1, none⟩ = some (.int .i64 k.h) := HI.out.k2.cell 1
    have v2 : W1.cell? ⟨w.heap.size + 1 + 1, 2, none⟩ = some (.int .i64 k.c) := HI.out.k2.cell 2
    have v3 : W1.cell? ⟨w.heap.size + 1 + 1, 3, none⟩ = some (.int .i64 k.d) := HI.out.k2.cell 3
    have v4 : W1.cell? ⟨w.heap.size + 1 + 1, 4, none⟩ = some (.int .i64 l.h) := HI.out.k2.cell 4
    have v5 : W1.cell? ⟨w.heap.size + 1 + 1, 5, none⟩ = some (.int .i64 l.c) := HI.out.k2.cell 5
    have v6 : W1.cell? ⟨w.heap.size + 1 + 1, 6, none⟩ = some (.int .i64 l.d) := HI.out.k2.cell 6
    go_wp2_with (go_at_call 14; refine (HFEW.out _).mono ?_; rintro e W2 ⟨rfl, hx⟩; have XT := Lib.hid hx; clear hx; refine Hid.out ?_)
    refine Lib.hid ?_
    replace HI := Lib.hid (HI.out.ext XT.out)
    clear XT
    clear y0 y1 y2 y3 y4 y5 y6 y7 x0 x1 x2 x3 x4 x5 x6 v0 v1 v2 v3 v4 v5 v6
    have y0 : W2.cell? ⟨w.heap.size, 0, none⟩ = some (.slice A0 n0 c0) := HI.out.k0.cell 0
    have y1 : W2.cell? ⟨w.heap.size, 1, none⟩ = some (.slice A1 n1 c1) := HI.out.k0.cell 1
    have y2 : W2.cell? ⟨w.heap.size, 2, none⟩ = some (.slice A2 n2 c2) := HI.out.k0.cell 2
    have y3 : W2.cell? ⟨w.heap.size, 3, none⟩ = some (.slice A3 n3 c3) := HI.out.k0.cell 3
    have y4 : W2.cell? ⟨w.heap.size, 4, none⟩ = some (.int .i64 r.h0) := HI.out.k0.cell 4
    have y5 : W2.cell? ⟨w.heap.size, 5, none⟩ = some (.int .i64 r.h1) := HI.out.k0.cell 5
    have y6 : W2.cell? ⟨w.heap.size, 6, none⟩ = some (.int .i64 r.h2) := HI.out.k0.cell 6
    have y7 : W2.cell? ⟨w.heap.size, 7, none⟩ = some (.int .i64 r.h3) := HI.out.k0.cell 7
    have x0 : W2.cell? ⟨w.heap.size + 1, 0, none⟩ = some (.int .i64 s.p) := HI.out.k1.cell 0
    have x1 : W2.cell? ⟨w.heap.size + 1, 1, none⟩ = some (.int .i64 s.a) := HI.out.k1.cell 1
    have x2 : W2.cell? ⟨w.heap.size + 1, 2, none⟩ = some (.int .i64 s.b) := HI.out.k1.cell 2
    have x3 : W2.cell? ⟨w.heap.size + 1, 3, none⟩ = some (.int .i64 s.m) := HI.out.k1.cell 3
    have x4 : W2.cell? ⟨w.heap.size + 1, 4, none⟩ = some (.int .i64 s.wt) := HI.out.k1.cell 4
    have x5 : W2.cell? ⟨w.heap.size + 1, 5, none⟩ = some (.int .i64 s.g) := HI.out.k1.cell 5
    have x6 : W2.cell? ⟨w.heap.size + 1, 6, none⟩ = some (.int .i64 s.t) := HI.out.k1.cell 6
    have v0 : W2.cell? ⟨w.heap.size + 1 + 1, 0, none⟩ = some (.slice B n cb) := HI.out.k2.cell 0
    have v1 : W2.cell? ⟨w.heap.size + 1 + 1, 1, none⟩ = some (.int .i64 k.h) := HI.out.k2.cell 1
    have v2 : W2.cell? ⟨w.heap.size + 1 + 1, 2, none⟩ = some (.int .i64 k.c) := HI.out.k2.cell 2
    have v3 : W2.cell? ⟨w.heap.size + 1 + 1, 3, none⟩ = some (.int .i64 k.d) := HI.out.k2.cell 3
    have v4 : W2.cell? ⟨w.heap.size + 1 + 1, 4, none⟩ = some (.int .i64 l.h) := HI.out.k2.cell 4
    have v5 : W2.cell? ⟨w.heap.size + 1 + 1, 5, none⟩ = some (.int .i64 l.c) := HI.out.k2.cell 5
    have v6 : W2.cell? ⟨w.heap.size + 1 + 1, 6, none⟩ = some (.int .i64 l.d) := HI.out.k2.cell 6
    go_wp2
    go_ret
    exact ⟨rfl, HI.out.e⟩
  · rw [decide_eq_false h10] at HFEW
    clear h h10
    go_enter Tryz.func6, Tryz.ntmps6
    go_wp2_with (go_at_call 13; rw [← hW0]; refine (awake_any _).mono ?_; rintro e W1 ⟨rfl, hx⟩; have XT := Lib.hid hx; clear hx hW0; refine Hid.out ?_)
    refine Lib.hid ?_
    replace HI := Lib.hid (HI.out.ext XT.out)
    clear XT
    have y0 : W1.cell? ⟨w.heap.size, 0, none⟩ = some (.slice A0 n0 c0) := HI.out.k0.cell 0
    have y1 : W1.cell? ⟨w.heap.size, 1, none⟩ = some (.slice A1 n1 c1) := HI.out.k0.cell 1
    have y2 : W1.cell? ⟨w.heap.size, 2, none⟩ = some (.slice A2 n2 c2) := HI.out.k0.cell 2
    have y3 : W1.cell? ⟨w.heap.size, 3, none⟩ = some (.slice A3 n3 c3) := HI.out.k0.cell 3
    have y4 : W1.cell? ⟨w.heap.size, 4, none⟩ = some (.int .i64 r.h0) := HI.out.k0.cell 4
    have y5 : W1.cell? ⟨w.heap.size, 5, none⟩ = some (.int .i64 r.h1) := HI.out.k0.cell 5
    have y6 : W1.cell? ⟨w.heap.size, 6, none⟩ = some (.int .i64 r.h2) := HI.out.k0.cell 6
    have y7 : W1.cell? ⟨w.heap.size, 7, none⟩ = some (.int .i64 r.h3) := HI.out.k0.cell 7
    have x0 : W1.cell? ⟨w.heap.size + 1, 0, none⟩ = some (.int .i64 s.p) := HI.out.k1.cell 0
    have x1 : W1.cell? ⟨w.heap.size + 1, 1, none⟩ = some (.int .i64 s.a) := HI.out.k1.cell 1
    have x2 : W1.cell? ⟨w.heap.size + 1, 2, none⟩ = some (.int .i64 s.b) := HI.out.k1.cell 2
    have x3 : W1.cell? ⟨w.heap.size + 1, 3, none⟩ = some (.int .i64 s.m) := HI.out.k1.cell 3
    have x4 : W1.cell? ⟨w.heap.size + 1, 4, none⟩ = some (.int .i64 s.wt) := HI.out.k1.cell 4
    have x5 : W1.cell? ⟨w.heap.size + 1, 5, none⟩ = some (.int .i64 s.g) := HI.out.k1.cell 5
    have x6 : W1.cell? ⟨w.heap.size + 1, 6, none⟩ = some (.int .i64 s.t) := HI.out.k1.cell 6
    have v0 : W1.cell? ⟨w.heap.size + 1 + 1, 0, none⟩ = some (.slice B n cb) := HI.out.k2.cell 0
    have v1 : W1.cell? ⟨w.heap.size + 1 + 1, 1, none⟩ = some (.int .i64 k.h) := HI.out.k2.cell 1
    have v2 : W1.cell? ⟨w.heap.size + 1 + 1, 2, none⟩ = some (.int .i64 k.c) := HI.out.k2.cell 2
    have v3 : W1.cell? ⟨w.heap.size + 1 + 1, 3, none⟩ = some (.int .i64 k.d) := HI.out.k2.cell 3
    have v4 : W1.cell? ⟨w.heap.size + 1 + 1, 4, none⟩ = some (.int .i64 l.h) := HI.out.k2.cell 4
    have v5 : W1.cell? ⟨w.heap.size + 1 + 1, 5, none⟩ = some (.int .i64 l.c) := HI.out.k2.cell 5
    have v6 : W1.cell? ⟨w.heap.size + 1 + 1, 6, none⟩ = some (.int .i64 l.d) := HI.out.k2.cell 6
    go_wp2_with (go_at_call 14; refine (HFEW.out _).mono ?_; rintro e W2 ⟨rfl, hx⟩; have XT := Lib.hid hx; clear hx)
    go_ret
    exact ⟨rfl, HI.out.e.trans XT.out⟩
theorem blk_other7 {W : World} {q1 q2 : Nat} {T : TypeId} {cs : Array Value} (h : Blk W q1 T cs) (hq : q1 < q2) (y : St) : Blk (((((((W.setCell ⟨q2, 0, none⟩ (.int .i64 y.p)).setCell ⟨q2, 1, none⟩ (.int .i64 y.a)).setCell ⟨q2, 2, none⟩ (.int .i64 y.b)).setCell ⟨q2, 3, none⟩ (.int .i64 y.m)).setCell ⟨q2, 4, none⟩ (.int .i64 y.wt)).setCell ⟨q2, 5, none⟩ (.int .i64 y.g)).setCell ⟨q2, 6, none⟩ (.int .i64 y.t)) q1 T cs := (((((((h.setOther (by dsimp only; omega) _).setOther (by dsimp only; omega) _).setOther (by dsimp only; omega) _).setOther (by dsimp only; omega) _).setOther (by dsimp only; omega) _).setOther (by dsimp only; omega) _).setOther (by dsimp only; omega) _)
def IntsSl (n : Nat) (xs : List Int) : Value → World → Prop := fun u W => ∃ A c, u = .slice A n c ∧ IntsAt W (.slice A n c) xs
theorem IntsSl.ext {n : Nat} {xs : List Int} {u : Value} {W W' : World} (h : IntsSl n xs u W) (e : Ext W W') : IntsSl n xs u W' := by
  obtain ⟨A, c, h1, h2⟩ := h; exact ⟨A, c, h1, h2.ext e⟩
def RunP (n : Nat) (xs : List Int) (k : Pk) : Value → World → Prop := fun u W => ∃ A c, u = .agg #[.slice A n c, .int .i64 k.h, .int .i64 k.c, .int .i64 k.d] ∧ IntsAt W (.slice A n c) xs
theorem RunP.ext {n : Nat} {xs : List Int} {k : Pk} {u : Value} {W W' : World} (h : RunP n xs k u W) (e : Ext W W') : RunP n xs k u W' := by
  obtain ⟨A, c, h1, h2⟩ := h; exact ⟨A, c, h1, h2.ext e⟩

end Go.Proofs.YtkmekbafjnlfkaaGreat
