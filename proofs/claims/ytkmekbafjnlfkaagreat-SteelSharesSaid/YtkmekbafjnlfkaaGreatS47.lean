/- SteelShares where all premises hold. -/
import Derived.Test.YtkmekbafjnlfkaaGreatS46

namespace Go.Proofs.YtkmekbafjnlfkaaGreat
open Go.RowKit Go.Shelf Go.Mem Go.RegInv
attribute [local go_sem] RelUpon_value RelUpon_skip RelUpon_enter BigFrame.eval_const BigFrame.eval_global BigFrame.eval_func

theorem curve_one {x : Int} (h : kelE x = 0) : curveE [x] = 0 := by
  rw [curveE_eq, if_neg (show ¬ (200 : Int) < (([x] : List Int).length : Int) by simp)]
  show (if kelE x ≠ 0 then _ else (0, 0) : Int × Int).2 = 0
  rw [if_neg (by simp [h])]
theorem curve_zero {xs : List Int} (h : curveE xs = 0) {j : Nat} (hj : j < xs.length) : kelE (xs.getD j 0) = 0 := by
  rw [curveE_eq] at h
  split at h
  · cases h
  · exact firstAt_zero h j (by omega) (by omega)
set_option maxRecDepth 100000 in
set_option maxHeartbeats 16000000 in
theorem shares_ok {r : Ru} {A0 A1 A2 A3 B : Option Addr} {n0 n1 n2 n3 c0 c1 c2 c3 n cb : Nat} {xs : List Int} {w : World} (s : St) (k : Pk) (hR : RuIn r (.agg #[.slice A0 n0 c0, .slice A1 n1 c1, .slice A2 n2 c2, .slice A3 n3 c3, .int .i64 r.h0, .int .i64 r.h1, .int .i64 r.h2, .int .i64 r.h3]) w) (h10 : n0 ≤ 10 ∧ n1 ≤ 10 ∧ n2 ≤ 10 ∧ n3 ≤ 10) (hn30 : ¬ (30 : Int) < (n : Int)) (hx : IntsAt w (.slice B n cb) xs)
    (hr : rulesE r = 0) (hs : stateE [s.p, s.a, s.b, s.m, s.wt, s.g, s.t] = 0) (hc : curveE xs = 0) (hp : pickE k.h k.c k.d = 0) :
    Calls Tryz.prog 5 #[.agg #[.slice A0 n0 c0, .slice A1 n1 c1, .slice A2 n2 c2, .slice A3 n3 c3, .int .i64 r.h0, .int .i64 r.h1, .int .i64 r.h2, .int .i64 r.h3], .agg #[.int .i64 s.p, .int .i64 s.a, .int .i64 s.b, .int .i64 s.m, .int .i64 s.wt, .int .i64 s.g, .int .i64 s.t], .agg #[.slice B n cb, .int .i64 k.h, .int .i64 k.c, .int .i64 k.d]] w fun e w' => e = .returned (.bool true) ∧ Ext w w' := by
  have HIN := Lib.hid hR
  have hn31 : decide ((30 : Int) < (n : Int)) = false := decide_eq_false hn30
  have HX := Lib.hid hx
  have HRE := Lib.hid (fun (W : World) (e : Ext w W) => rulesErr_any (c0 := c0) (c1 := c1) (c2 := c2) (c3 := c3) (hR.at.ext e) h10)
  have HSE := Lib.hid (fun W => stateErr_any s.p s.a s.b s.m s.wt s.g s.t W)
  have HCE := Lib.hid (fun (W : World) (e : Ext w W) => curveErr_any (hx.ext e))
  have HPE := Lib.hid (fun W => pickErr_any k.h k.c k.d W)
  have HFEW := Lib.hid (fun W => show Calls Tryz.prog 14 #[.agg #[.slice A0 n0 c0, .slice A1 n1 c1, .slice A2 n2 c2, .slice A3 n3 c3, .int .i64 r.h0, .int .i64 r.h1, .int .i64 r.h2, .int .i64 r.h3]] W fun e w' => e = .returned (.bool true) ∧ Ext W w' by
    have := few_any A0 A1 A2 A3 n0 n1 n2 n3 c0 c1 c2 c3 r.h0 r.h1 r.h2 r.h3 W
    rw [decide_eq_true h10] at this
    exact this)
  obtain ⟨W0, hW0⟩ : ∃ W0, W0 = ((w.alloc (.cells #[.slice A0 n0 c0, .slice A1 n1 c1, .slice A2 n2 c2, .slice A3 n3 c3, .int .i64 r.h0, .int .i64 r.h1, .int .i64 r.h2, .int .i64 r.h3] 28)).alloc (.cells #[.int .i64 s.p, .int .i64 s.a, .int .i64 s.b, .int .i64 s.m, .int .i64 s.wt, .int .i64 s.g, .int .i64 s.t] 30)).alloc (.cells #[.slice B n cb, .int .i64 k.h, .int .i64 k.c, .int .i64 k.d] 48) := ⟨_, rfl⟩
  have HI := Lib.hid (show BoxI w W0 48 #[.slice A0 n0 c0, .slice A1 n1 c1, .slice A2 n2 c2, .slice A3 n3 c3, .int .i64 r.h0, .int .i64 r.h1, .int .i64 r.h2, .int .i64 r.h3] s #[.slice B n cb, .int .i64 k.h, .int .i64 k.c, .int .i64 k.d] by rw [hW0]; exact BoxI.new _ _ _ _ _)
  rw [hr] at HRE
  rw [hs] at HSE
  rw [hc] at HCE
  rw [hp] at HPE
  have HRU := Lib.hid hr
  have HCU := Lib.hid hc
  have HPU := Lib.hid hp
  have HPK := Lib.hid (show PkOK k by
    have h4 := rangeE_zeros (show rangeE 0 1000 [k.h, k.c, k.d] = 0 from hp)
    have a := h4 k.h (by simp)
    have b := h4 k.c (by simp)
    have c := h4 k.d (by simp)
    exact ⟨a.1, a.2, b.1, b.2, c.1, c.2⟩)
  have HS := Lib.hid (show StK s from state_ok hs)
  have HN := Lib.hid (show xs.length = n by
    rcases hx with ⟨_, _, h1, h2⟩ | ⟨_, _, _, h1, _, _, _⟩
    · simp only [Value.slice.injEq] at h1; rw [h2, h1.2.1]; rfl
    · simp only [Value.slice.injEq] at h1; exact h1.2.1.symm)
  clear hr hs hc hp hR hx h10
  go_enter Tryz.func5, Tryz.ntmps5
  go_wp2_with (go_at_call 13; rw [← hW0]; refine (awake_any _).mono ?_; rintro e W1 ⟨rfl, hx⟩; have XT := Lib.hid hx; clear hx hW0; refine Hid.out ?_)
  refine Lib.hid ?_
  replace HI := Lib.hid (HI.out.ext XT.out)
  clear XT
  have y0 : W1.cell? ⟨w.heap.size, 0, none⟩ = some (.slice A0 n0 c0) := HI.out.k0.cell 0
  have y1 : W1.cell? ⟨w.heap.size, 1, none⟩ = some (.slice A1 n1 c1) := HI.out.k0.cell 1
  have y2 : W1.cell? ⟨w.heap.size, 2, none⟩ = some (.slice A2 n2 c2) := HI.out.k0.cell 2
  have y3 : W1.cell? ⟨w.heap.size, 3, none⟩ = some (.slice A3 n3 c3) := HI.out.k0.cell 3
  have y4 : W1.cell? ⟨w.heap.size, 4, none⟩ = some (.int .i64 r.h0) := HI.out.k0.cell 4
  have y5 : W1.cell? ⟨w.heap.size, 5, none⟩ = some (.int .i64 r.h1) := HI.out.k0.cell 5
  have y6 : W1.cell? ⟨w.heap.size, 6, none⟩ = some (.int .i64 r.h2) := HI.out.k0.cell 6
  have y7 : W1.cell? ⟨w.heap.size, 7, none⟩ = some (.int .i64 r.h3) := HI.out.k0.cell 7
  have x0 : W1.cell? ⟨w.heap.size + 1, 0, none⟩ = some (.int .i64 s.p) := HI.out.k1.cell 0
  have x1 : W1.cell? ⟨w.heap.size + 1, 1, none⟩ = some (.int .i64 s.a) := HI.out.k1.cell 1
  have x2 : W1.cell? ⟨w.heap.size + 1, 2, none⟩ = some (.int .i64 s.b) := HI.out.k1.cell 2
  have x3 : W1.cell? ⟨w.heap.size + 1, 3, none⟩ = some (.int .i64 s.m) := HI.out.k1.cell 3
  have x4 : W1.cell? ⟨w.heap.size + 1, 4, none⟩ = some (.int .i64 s.wt) := HI.out.k1.cell 4
  have x5 : W1.cell? ⟨w.heap.size + 1, 5, none⟩ = some (.int .i64 s.g) := HI.out.k1.cell 5
  have x6 : W1.cell? ⟨w.heap.size + 1, 6, none⟩ = some (.int .i64 s.t) := HI.out.k1.cell 6
  have v0 : W1.cell? ⟨w.heap.size + 1 + 1, 0, none⟩ = some (.slice B n cb) := HI.out.k2.cell 0
  have v1 : W1.cell? ⟨w.heap.size + 1 + 1, 1, none⟩ = some (.int .i64 k.h) := HI.out.k2.cell 1
  have v2 : W1.cell? ⟨w.heap.size + 1 + 1, 2, none⟩ = some (.int .i64 k.c) := HI.out.k2.cell 2
  have v3 : W1.cell? ⟨w.heap.size + 1 + 1, 3, none⟩ = some (.int .i64 k.d) := HI.out.k2.cell 3
  go_wp2_with (go_at_call 14; refine (HFEW.out _).mono ?_; rintro e W2 ⟨rfl, hx⟩; have XT := Lib.hid hx; clear hx; refine Hid.out ?_)
  refine Lib.hid ?_
  replace HI := Lib.hid (HI.out.ext XT.out)
  clear XT
  clear y0 y1 y2 y3 y4 y5 y6 y7 x0 x1 x2 x3 x4 x5 x6 v0 v1 v2 v3
  have y0 : W2.cell? ⟨w.heap.size, 0, none⟩ = some (.slice A0 n0 c0) := HI.out.k0.cell 0
  have y1 : W2.cell? ⟨w.heap.size, 1, none⟩ = some (.slice A1 n1 c1) := HI.out.k0.cell 1
  have y2 : W2.cell? ⟨w.heap.size, 2, none⟩ = some (.slice A2 n2 c2) := HI.out.k0.cell 2
  have y3 : W2.cell? ⟨w.heap.size, 3, none⟩ = some (.slice A3 n3 c3) := HI.out.k0.cell 3
  have y4 : W2.cell? ⟨w.heap.size, 4, none⟩ = some (.int .i64 r.h0) := HI.out.k0.cell 4
  have y5 : W2.cell? ⟨w.heap.size, 5, none⟩ = some (.int .i64 r.h1) := HI.out.k0.cell 5
  have y6 : W2.cell? ⟨w.heap.size, 6, none⟩ = some (.int .i64 r.h2) := HI.out.k0.cell 6
  have y7 : W2.cell? ⟨w.heap.size, 7, none⟩ = some (.int .i64 r.h3) := HI.out.k0.cell 7
  have x0 : W2.cell? ⟨w.heap.size + 1, 0, none⟩ = some (.int .i64 s.p) := HI.out.k1.cell 0
  have x1 : W2.cell? ⟨w.heap.size + 1, 1, none⟩ = some (.int .i64 s.a) := HI.out.k1.cell 1
  have x2 : W2.cell? ⟨w.heap.size + 1, 2, none⟩ = some (.int .i64 s.b) := HI.out.k1.cell 2
  have x3 : W2.cell? ⟨w.heap.size + 1, 3, none⟩ = some (.int .i64 s.m) := HI.out.k1.cell 3
  have x4 : W2.cell? ⟨w.heap.size + 1, 4, none⟩ = some (.int .i64 s.wt) := HI.out.k1.cell 4
  have x5 : W2.cell? ⟨w.heap.size + 1, 5, none⟩ = some (.int .i64 s.g) := HI.out.k1.cell 5
  have x6 : W2.cell? ⟨w.heap.size + 1, 6, none⟩ = some (.int .i64 s.t) := HI.out.k1.cell 6
  have v0 : W2.cell? ⟨w.heap.size + 1 + 1, 0, none⟩ = some (.slice B n cb) := HI.out.k2.cell 0
  have v1 : W2.cell? ⟨w.heap.size + 1 + 1, 1, none⟩ = some (.int .i64 k.h) := HI.out.k2.cell 1
  have v2 : W2.cell? ⟨w.heap.size + 1 + 1, 2, none⟩ = some (.int .i64 k.c) := HI.out.k2.cell 2
  have v3 : W2.cell? ⟨w.heap.size + 1 + 1, 3, none⟩ = some (.int .i64 k.d) := HI.out.k2.cell 3
  go_wp2_with (go_at_call 28; refine (HRE.out _ HI.out.e).mono ?_; rintro e W3 ⟨rfl, hx⟩; have XT := Lib.hid hx; clear hx; refine Hid.out ?_)
  refine Lib.hid ?_
  replace HI := Lib.hid (HI.out.ext XT.out)
  clear XT
  clear y0 y1 y2 y3 y4 y5 y6 y7 x0 x1 x2 x3 x4 x5 x6 v0 v1 v2 v3
  have y0 : W3.cell? ⟨w.heap.size, 0, none⟩ = some (.slice A0 n0 c0) := HI.out.k0.cell 0
  have y1 : W3.cell? ⟨w.heap.size, 1, none⟩ = some (.slice A1 n1 c1) := HI.out.k0.cell 1
  have y2 : W3.cell? ⟨w.heap.size, 2, none⟩ = some (.slice A2 n2 c2) := HI.out.k0.cell 2
  have y3 : W3.cell? ⟨w.heap.size, 3, none⟩ = some (.slice A3 n3 c3) := HI.out.k0.cell 3
  have y4 : W3.cell? ⟨w.heap.size, 4, none⟩ = some (.int .i64 r.h0) := HI.out.k0.cell 4
  have y5 : W3.cell? ⟨w.heap.size, 5, none⟩ = some (.int .i64 r.h1) := HI.out.k0.cell 5
  have y6 : W3.cell? ⟨w.heap.size, 6, none⟩ = some (.int .i64 r.h2) := HI.out.k0.cell 6
  have y7 : W3.cell? ⟨w.heap.size, 7, none⟩ = some (.int .i64 r.h3) := HI.out.k0.cell 7
  have x0 : W3.cell? ⟨w.heap.size + 1, 0, none⟩ = some (.int .i64 s.p) := HI.out.k1.cell 0
  have x1 : W3.cell? ⟨w.heap.size + 1, 1, none⟩ = some (.int .i64 s.a) := HI.out.k1.cell 1
  have x2 : W3.cell? ⟨w.heap.size + 1, 2, none⟩ = some (.int .i64 s.b) := HI.out.k1.cell 2
  have x3 : W3.cell? ⟨w.heap.size + 1, 3, none⟩ = some (.int .i64 s.m) := HI.out.k1.cell 3
  have x4 : W3.cell? ⟨w.heap.size + 1, 4, none⟩ = some (.int .i64 s.wt) := HI.out.k1.cell 4
  have x5 : W3.cell? ⟨w.heap.size + 1, 5, none⟩ = some (.int .i64 s.g) := HI.out.k1.cell 5
  have x6 : W3.cell? ⟨w.heap.size + 1, 6, none⟩ = some (.int .i64 s.t) := HI.out.k1.cell 6
  have v0 : W3.cell? ⟨w.heap.size + 1 + 1, 0, none⟩ = some (.slice B n cb) := HI.out.k2.cell 0
  have v1 : W3.cell? ⟨w.heap.size + 1 + 1, 1, none⟩ = some (.int .i64 k.h) := HI.out.k2.cell 1
  have v2 : W3.cell? ⟨w.heap.size + 1 + 1, 2, none⟩ = some (.int .i64 k.c) := HI.out.k2.cell 2
  have v3 : W3.cell? ⟨w.heap.size + 1 + 1, 3, none⟩ = some (.int .i64 k.d) := HI.out.k2.cell 3
  go_wp2_with (go_at_call 19; refine (HSE.out _).mono ?_; rintro e W4 ⟨rfl, hx⟩; have XT := Lib.hid hx; clear hx; refine Hid.out ?_)
  refine Lib.hid ?_
  replace HI := Lib.hid (HI.out.ext XT.out)
  clear XT
  clear y0 y1 y2 y3 y4 y5 y6 y7 x0 x1 x2 x3 x4 x5 x6 v0 v1 v2 v3
  have y0 : W4.cell? ⟨w.heap.size, 0, none⟩ = some (.slice A0 n0 c0) := HI.out.k0.cell 0
  have y1 : W4.cell? ⟨w.heap.size, 1, none⟩ = some (.slice A1 n1 c1) := HI.out.k0.cell 1
  have y2 : W4.cell? ⟨w.heap.size, 2, none⟩ = some (.slice A2 n2 c2) := HI.out.k0.cell 2
  have y3 : W4.cell? ⟨w.heap.size, 3, none⟩ = some (.slice A3 n3 c3) := HI.out.k0.cell 3
  have y4 : W4.cell? ⟨w.heap.size, 4, none⟩ = some (.int .i64 r.h0) := HI.out.k0.cell 4
  have y5 : W4.cell? ⟨w.heap.size, 5, none⟩ = some (.int .i64 r.h1) := HI.out.k0.cell 5
  have y6 : W4.cell? ⟨w.heap.size, 6, none⟩ = some (.int .i64 r.h2) := HI.out.k0.cell 6
  have y7 : W4.cell? ⟨w.heap.size, 7, none⟩ = some (.int .i64 r.h3) := HI.out.k0.cell 7
  have x0 : W4.cell? ⟨w.heap.size + 1, 0, none⟩ = some (.int .i64 s.p) := HI.out.k1.cell 0
  have x1 : W4.cell? ⟨w.heap.size + 1, 1, none⟩ = some (.int .i64 s.a) := HI.out.k1.cell 1
  have x2 : W4.cell? ⟨w.heap.size + 1, 2, none⟩ = some (.int .i64 s.b) := HI.out.k1.cell 2
  have x3 : W4.cell? ⟨w.heap.size + 1, 3, none⟩ = some (.int .i64 s.m) := HI.out.k1.cell 3
  have x4 : W4.cell? ⟨w.heap.size + 1, 4, none⟩ = some (.int .i64 s.wt) := HI.out.k1.cell 4
  have x5 : W4.cell? ⟨w.heap.size + 1, 5, none⟩ = some (.int .i64 s.g) := HI.out.k1.cell 5
  have x6 : W4.cell? ⟨w.heap.size + 1, 6, none⟩ = some (.int .i64 s.t) := HI.out.k1.cell 6
  have v0 : W4.cell? ⟨w.heap.size + 1 + 1, 0, none⟩ = some (.slice B n cb) := HI.out.k2.cell 0
  have v1 : W4.cell? ⟨w.heap.size + 1 + 1, 1, none⟩ = some (.int .i64 k.h) := HI.out.k2.cell 1
  have v2 : W4.cell? ⟨w.heap.size + 1 + 1, 2, none⟩ = some (.int .i64 k.c) := HI.out.k2.cell 2
  have v3 : W4.cell? ⟨w.heap.size + 1 + 1, 3, none⟩ = some (.int .i64 k.d) := HI.out.k2.cell 3
  go_wp2_with (go_at_call 32; refine (HCE.out _ HI.out.e).mono ?_; rintro e W5 ⟨rfl, hx⟩; have XT := Lib.hid hx; clear hx; refine Hid.out ?_)
  refine Lib.hid ?_
  replace HI := Lib.hid (HI.out.ext XT.out)
  clear XT
  clear y0 y1 y2 y3 y4 y5 y6 y7 x0 x1 x2 x3 x4 x5 x6 v0 v1 v2 v3
  have y0 : W5.cell? ⟨w.heap.size, 0, none⟩ = some (.slice A0 n0 c0) := HI.out.k0.cell 0
  have y1 : W5.cell? ⟨w.heap.size, 1, none⟩ = some (.slice A1 n1 c1) := HI.out.k0.cell 1
  have y2 : W5.cell? ⟨w.heap.size, 2, none⟩ = some (.slice A2 n2 c2) := HI.out.k0.cell 2
  have y3 : W5.cell? ⟨w.heap.size, 3, none⟩ = some (.slice A3 n3 c3) := HI.out.k0.cell 3
  have y4 : W5.cell? ⟨w.heap.size, 4, none⟩ = some (.int .i64 r.h0) := HI.out.k0.cell 4
  have y5 : W5.cell? ⟨w.heap.size, 5, none⟩ = some (.int .i64 r.h1) := HI.out.k0.cell 5
  have y6 : W5.cell? ⟨w.heap.size, 6, none⟩ = some (.int .i64 r.h2) := HI.out.k0.cell 6
  have y7 : W5.cell? ⟨w.heap.size, 7, none⟩ = some (.int .i64 r.h3) := HI.out.k0.cell 7
  have x0 : W5.cell? ⟨w.heap.size + 1, 0, none⟩ = some (.int .i64 s.p) := HI.out.k1.cell 0
  have x1 : W5.cell? ⟨w.heap.size + 1, 1, none⟩ = some (.int .i64 s.a) := HI.out.k1.cell 1
  have x2 : W5.cell? ⟨w.heap.size + 1, 2, none⟩ = some (.int .i64 s.b) := HI.out.k1.cell 2
  have x3 : W5.cell? ⟨w.heap.size + 1, 3, none⟩ = some (.int .i64 s.m) := HI.out.k1.cell 3
  have x4 : W5.cell? ⟨w.heap.size + 1, 4, none⟩ = some (.int .i64 s.wt) := HI.out.k1.cell 4
  have x5 : W5.cell? ⟨w.heap.size + 1, 5, none⟩ = some (.int .i64 s.g) := HI.out.k1.cell 5
  have x6 : W5.cell? ⟨w.heap.size + 1, 6, none⟩ = some (.int .i64 s.t) := HI.out.k1.cell 6
  have v0 : W5.cell? ⟨w.heap.size + 1 + 1, 0, none⟩ = some (.slice B n cb) := HI.out.k2.cell 0
  have v1 : W5.cell? ⟨w.heap.size + 1 + 1, 1, none⟩ = some (.int .i64 k.h) := HI.out.k2.cell 1
  have v2 : W5.cell? ⟨w.heap.size + 1 + 1, 2, none⟩ = some (.int .i64 k.c) := HI.out.k2.cell 2
  have v3 : W5.cell? ⟨w.heap.size + 1 + 1, 3, none⟩ = some (.int .i64 k.d) := HI.out.k2.cell 3
  go_wp2_with (go_at_call 21; refine (HPE.out _).mono ?_; rintro e W6 ⟨rfl, hx⟩; have XT := Lib.hid hx; clear hx; refine Hid.out ?_)
  refine Lib.hid ?_
  replace HI := Lib.hid (HI.out.ext XT.out)
  clear XT
  clear y0 y1 y2 y3 y4 y5 y6 y7 x0 x1 x2 x3 x4 x5 x6 v0 v1 v2 v3
  have y0 : W6.cell? ⟨w.heap.size, 0, none⟩ = some (.slice A0 n0 c0) := HI.out.k0.cell 0
  have y1 : W6.cell? ⟨w.heap.size, 1, none⟩ = some (.slice A1 n1 c1) := HI.out.k0.cell 1
  have y2 : W6.cell? ⟨w.heap.size, 2, none⟩ = some (.slice A2 n2 c2) := HI.out.k0.cell 2
  have y3 : W6.cell? ⟨w.heap.size, 3, none⟩ = some (.slice A3 n3 c3) := HI.out.k0.cell 3
  have y4 : W6.cell? ⟨w.heap.size, 4, none⟩ = some (.int .i64 r.h0) := HI.out.k0.cell 4
  have y5 : W6.cell? ⟨w.heap.size, 5, none⟩ = some (.int .i64 r.h1) := HI.out.k0.cell 5
  have y6 : W6.cell? ⟨w.heap.size, 6, none⟩ = some (.int .i64 r.h2) := HI.out.k0.cell 6
  have y7 : W6.cell? ⟨w.heap.size, 7, none⟩ = some (.int .i64 r.h3) := HI.out.k0.cell 7
  have x0 : W6.cell? ⟨w.heap.size + 1, 0, none⟩ = some (.int .i64 s.p) := HI.out.k1.cell 0
  have x1 : W6.cell? ⟨w.heap.size + 1, 1, none⟩ = some (.int .i64 s.a) := HI.out.k1.cell 1
  have x2 : W6.cell? ⟨w.heap.size + 1, 2, none⟩ = some (.int .i64 s.b) := HI.out.k1.cell 2
  have x3 : W6.cell? ⟨w.heap.size + 1, 3, none⟩ = some (.int .i64 s.m) := HI.out.k1.cell 3
  have x4 : W6.cell? ⟨w.heap.size + 1, 4, none⟩ = some (.int .i64 s.wt) := HI.out.k1.cell 4
  have x5 : W6.cell? ⟨w.heap.size + 1, 5, none⟩ = some (.int .i64 s.g) := HI.out.k1.cell 5
  have x6 : W6.cell? ⟨w.heap.size + 1, 6, none⟩ = some (.int .i64 s.t) := HI.out.k1.cell 6
  have v0 : W6.cell? ⟨w.heap.size + 1 + 1, 0, none⟩ = some (.slice B n cb) := HI.out.k2.cell 0
  have v1 : W6.cell? ⟨w.heap.size + 1 + 1, 1, none⟩ = some (.int .i64 k.h) := HI.out.k2.cell 1
  have v2 : W6.cell? ⟨w.heap.size + 1 + 1, 2, none⟩ = some (.int .i64 k.c) := HI.out.k2.cell 2
  have v3 : W6.cell? ⟨w.heap.size + 1 + 1, 3, none⟩ = some (.int .i64 k.d) := HI.out.k2.cell 3
  go_wp2
  clear y0 y1 y2 y3 y4 y5 y6 y7 x0 x1 x2 x3 x4 x5 x6 v0 v1 v2 v3
  go_loopw [7] (fun i wr => ∃ (j : Nat) (z : St), j ≤ n ∧ i = .int .i64 j ∧ StK z ∧ BoxI w wr 48 #[.slice A0 n0 c0, .slice A1 n1 c1, .slice A2 n2 c2, .slice A3 n3 c3, .int .i64 r.h0, .int .i64 r.h1, .int .i64 r.h2, .int .i64 r.h3] z #[.slice B n cb, .int .i64 k.h, .int .i64 k.c, .int .i64 k.d]) (fun i _ => n - (intOf i).toNat)
  case atStart => exact ⟨0, s, Nat.zero_le _, rfl, HS.out, HI.out⟩
  case round =>
    obtain ⟨j, z, hj, rfl, hz, hI⟩ := hrel
    clear HI HS HSE HFEW HRE HCE HPE
    have HI := Lib.hid hI
    have HZ := Lib.hid hz
    clear hI hz
    have y0 : wr.cell? ⟨w.heap.size, 0, none⟩ = some (.slice A0 n0 c0) := HI.out.k0.cell 0
    have y1 : wr.cell? ⟨w.heap.size, 1, none⟩ = some (.slice A1 n1 c1) := HI.out.k0.cell 1
    have y2 : wr.cell? ⟨w.heap.size, 2, none⟩ = some (.slice A2 n2 c2) := HI.out.k0.cell 2
    have y3 : wr.cell? ⟨w.heap.size, 3, none⟩ = some (.slice A3 n3 c3) := HI.out.k0.cell 3
    have y4 : wr.cell? ⟨w.heap.size, 4, none⟩ = some (.int .i64 r.h0) := HI.out.k0.cell 4
    have y5 : wr.cell? ⟨w.heap.size, 5, none⟩ = some (.int .i64 r.h1) := HI.out.k0.cell 5
    have y6 : wr.cell? ⟨w.heap.size, 6, none⟩ = some (.int .i64 r.h2) := HI.out.k0.cell 6
    have y7 : wr.cell? ⟨w.heap.size, 7, none⟩ = some (.int .i64 r.h3) := HI.out.k0.cell 7
    have x0 : wr.cell? ⟨w.heap.size + 1, 0, none⟩ = some (.int .i64 z.p) := HI.out.k1.cell 0
    have x1 : wr.cell? ⟨w.heap.size + 1, 1, none⟩ = some (.int .i64 z.a) := HI.out.k1.cell 1
    have x2 : wr.cell? ⟨w.heap.size + 1, 2, none⟩ = some (.int .i64 z.b) := HI.out.k1.cell 2
    have x3 : wr.cell? ⟨w.heap.size + 1, 3, none⟩ = some (.int .i64 z.m) := HI.out.k1.cell 3
    have x4 : wr.cell? ⟨w.heap.size + 1, 4, none⟩ = some (.int .i64 z.wt) := HI.out.k1.cell 4
    have x5 : wr.cell? ⟨w.heap.size + 1, 5, none⟩ = some (.int .i64 z.g) := HI.out.k1.cell 5
    have x6 : wr.cell? ⟨w.heap.size + 1, 6, none⟩ = some (.int .i64 z.t) := HI.out.k1.cell 6
    have v0 : wr.cell? ⟨w.heap.size + 1 + 1, 0, none⟩ = some (.slice B n cb) := HI.out.k2.cell 0
    have v1 : wr.cell? ⟨w.heap.size + 1 + 1, 1, none⟩ = some (.int .i64 k.h) := HI.out.k2.cell 1
    have v2 : wr.cell? ⟨w.heap.size + 1 + 1, 2, none⟩ = some (.int .i64 k.c) := HI.out.k2.cell 2
    have v3 : wr.cell? ⟨w.heap.size + 1 + 1, 3, none⟩ = some (.int .i64 k.d) := HI.out.k2.cell 3
    by_cases hlt : j < n
    · have hji : (j : Int) < (n : Int) := by omega
      obtain ⟨x, hxj⟩ : ∃ x, x = xs.getD j 0 := ⟨_, rfl⟩
      have HKX := Lib.hid (show kelE x = 0 by rw [hxj]; exact curve_zero HCU.out (by rw [HN.out]; exact hlt))
      obtain ⟨b, o, hB, hcx⟩ : ∃ b o, B = some ⟨b, o, none⟩ ∧ w.cell? ⟨b, o + j, none⟩ = some (.int .i64 x) := by
        rcases HX.out with ⟨_, _, h1, h2⟩ | ⟨b, o, c', h1, hb, hm, hc⟩
        · have := HN.out; rw [h2] at this; simp at this; omega
        · simp only [Value.slice.injEq] at h1
          exact ⟨b, o, h1.1, by rw [hxj]; exact hc j (by rw [HN.out]; exact hlt)⟩
      subst hB
      have cj : wr.cell? ⟨b, o + j, none⟩ = some (.int .i64 x) := HI.out.e.cell hcx
      have HCX := Lib.hid hcx
      clear hcx hxj
      have HRUN := Lib.hid (show runE r z [x] k = 0 from firstE_none (by
        intro v hv
        simp only [List.mem_cons, List.not_mem_nil, or_false] at hv
        rcases hv with rfl | rfl | rfl | rfl
        · exact HRU.out
        · exact state_zero HZ.out
        · exact curve_one HKX.out
        · exact HPU.out))
      have HRO := Lib.hid (rulesOK HRU.out)
      have HHOT := Lib.hid (fun h => tick_hotter (x := x) HRO.out HPK.out HZ.out h)
      have HCOOL := Lib.hid (fun h => tick_later (x := x) HRO.out HPK.out HZ.out h)
      have HYK := Lib.hid (tick_ok HRO.out HPK.out HZ.out x)
      have HST := Lib.hid (fun (u : Value) (W : World) (h : RuV r u W) => show Calls Tryz.prog 23 #[u, .agg #[.int .i64 z.p, .int .i64 z.a, .int .i64 z.b, .int .i64 z.m, .int .i64 z.wt, .int .i64 z.g, .int .i64 z.t], .agg #[.int .i64 x, .int .i64 k.h, .int .i64 k.c, .int .i64 k.d]] W fun e w' => e = .returned (.tuple #[.agg #[.int .i64 (tickK r k z x).p, .int .i64 (tickK r k z x).a, .int .i64 (tickK r k z x).b, .int .i64 (tickK r k z x).m, .int .i64 (tickK r k z x).wt, .int .i64 (tickK r k z x).g, .int .i64 (tickK r k z x).t], .int .i64 0]) ∧ Ext W w' by
        have := stepped_any h z k x
        rw [HRUN.out, if_pos rfl] at this
        exact this)
      generalize tickK r k z x = y at HHOT HCOOL HYK HST
      have HSY := Lib.hid (fun W => show Calls Tryz.prog 19 #[.agg #[.int .i64 y.p, .int .i64 y.a, .int .i64 y.b, .int .i64 y.m, .int .i64 y.wt, .int .i64 y.g, .int .i64 y.t]] W fun e w' => e = .returned (.int .i64 0) ∧ Ext W w' by
        have := stateErr_any y.p y.a y.b y.m y.wt y.g y.t W
        rw [state_zero HYK.out] at this
        exact this)
      have HHB := hard_between HRU.out HYK.out
      have HHD := Lib.hid (fun (u : Value) (W : World) (h : RuV r u W) => show Calls Tryz.prog 26 #[u, .agg #[.int .i64 y.p, .int .i64 y.a, .int .i64 y.b, .int .i64 y.m, .int .i64 y.wt, .int .i64 y.g, .int .i64 y.t]] W fun e w' => e = .returned (.tuple #[.int .i64 (hardK r.h0 r.h1 r.h2 r.h3 y.p y.a y.b y.m y.t), .int .i64 0]) ∧ Ext W w' by
        have := hardnessOf_any h y.p y.a y.b y.m y.wt y.g y.t
        rw [show bothE r [y.p, y.a, y.b, y.m, y.wt, y.g, y.t] = 0 from firstE_none (by
          intro v hv
          simp only [List.mem_cons, List.not_mem_nil, or_false] at hv
          rcases hv with rfl | rfl
          · exact HRU.out
          · exact state_zero HYK.out), if_pos rfl] at this
        exact this)
      generalize hardK r.h0 r.h1 r.h2 r.h3 y.p y.a y.b y.m y.t = hv at HHB HHD
      have HW := Lib.hid (fun W => show Calls Tryz.prog 34 #[.int .i64 hv, .int .i64 r.h0, .int .i64 r.h3] W fun e w' => e = .returned (.bool true) ∧ Ext W w' by
        have := within_any hv r.h0 r.h3 W
        rw [withinB_of HHB] at this
        exact this)
      clear HHB HRUN HKX
      go_wp2
      refine wp_region_late 16 14 _ _ _ 66 [8, 65] [some 53, some 54, some 55, some 56, some 57, some 58, some 59, some 60, some 61, some 62, some 63, some 64, some 52, some 65, some 66, some 8] [[3], [53], [4], [5], [56], [7], [57, 58], [59], [5], [61], [60, 62], [54, 55, 63], [64], [52], [52], []]
        [Is (.agg #[.slice A0 n0 c0, .slice A1 n1 c1, .slice A2 n2 c2, .slice A3 n3 c3, .int .i64 (r.h0), .int .i64 (r.h1), .int .i64 (r.h2), .int .i64 (r.h3)]), RuV r, Is (.agg #[.int .i64 (z.p), .int .i64 (z.a), .int .i64 (z.b), .int .i64 (z.m), .int .i64 (z.wt), .int .i64 (z.g), .int .i64 (z.t)]), Is (.pointer (some ⟨w.heap.size + 1 + 1, 0, none⟩)), Is (.slice (some ⟨b, o, none⟩) n cb), Is (.int .i64 ((j : Int))), Is (.pointer (some ⟨b, o + j, none⟩)), Is (.int .i64 (x)), Is (.pointer (some ⟨w.heap.size + 1 + 1, 1, none⟩)), Is (.agg #[.int .i64 (k.h), .int .i64 (k.c), .int .i64 (k.d)]), Is (.agg #[.int .i64 x, .int .i64 k.h, .int .i64 k.c, .int .i64 k.d]), Is (.tuple #[.agg #[.int .i64 y.p, .int .i64 y.a, .int .i64 y.b, .int .i64 y.m, .int .i64 y.wt, .int .i64 y.g, .int .i64 y.t], .int .i64 0]), Is (.tuple #[.agg #[.int .i64 y.p, .int .i64 y.a, .int .i64 y.b, .int .i64 y.m, .int .i64 y.wt, .int .i64 y.g, .int .i64 y.t], .int .i64 0]), Is (.agg #[.int .i64 y.p, .int .i64 y.a, .int .i64 y.b, .int .i64 y.m, .int .i64 y.wt, .int .i64 y.g, .int .i64 y.t]), Is (.int .i64 (0)), Fresh30 wr.heap.size]
        (by kernel_rfl) (by kernel_rfl) (by kernel_rfl) (by kernel_rfl) (by kernel_rfl) (by kernel_rfl) rfl rfl rfl rfl rfl (by kernel_rfl) (by kernel_rfl) (by kernel_rfl) (by kernel_rfl) Ext (fun W => Ext wr W)
        (fun W _ => Ext.refl W) (fun W W' h k => h.trans k) ?_ (Ext.drew _) ?_ ?_ ?_ ?_ ?_
      · repeat (refine ⟨fun _ _ _ _ k h => (by first | exact h | exact (by first | exact RuV.ext h k | exact Fresh30.ext h k)), ?_⟩)
        exact trivial
      · refine ⟨?_, ?_, ?_, ?_, ?_, ?_, ?_, ?_, ?_, ?_, ?_, ?_, ?_, ?_, ?_, ?_, trivial⟩
        all_goals intro ρ W ⟨kc, kg, kf⟩ hF hs
        · obtain ⟨h0, -⟩ := hs
          replace h0 : ρ (.tmp 3) = .pointer (some ⟨w.heap.size, 0, none⟩) := h0
          have hc0 : W.cell? ⟨w.heap.size, 0, none⟩ = some (.slice A0 n0 c0) := hF.cell (by assumption)
          have hc1 : W.cell? ⟨w.heap.size, 1, none⟩ = some (.slice A1 n1 c1) := hF.cell (by assumption)
          have hc2 : W.cell? ⟨w.heap.size, 2, none⟩ = some (.slice A2 n2 c2) := hF.cell (by assumption)
          have hc3 : W.cell? ⟨w.heap.size, 3, none⟩ = some (.slice A3 n3 c3) := hF.cell (by assumption)
          have hc4 : W.cell? ⟨w.heap.size, 4, none⟩ = some (.int .i64 (r.h0)) := hF.cell (by assumption)
          have hc5 : W.cell? ⟨w.heap.size, 5, none⟩ = some (.int .i64 (r.h1)) := hF.cell (by assumption)
          have hc6 : W.cell? ⟨w.heap.size, 6, none⟩ = some (.int .i64 (r.h2)) := hF.cell (by assumption)
          have hc7 : W.cell? ⟨w.heap.size, 7, none⟩ = some (.int .i64 (r.h3)) := hF.cell (by assumption)
          go_simp
          exact ⟨Ext.refl _, rfl⟩
        · obtain ⟨h0, -⟩ := hs
          replace h0 : ρ (.tmp 53) = .agg #[.slice A0 n0 c0, .slice A1 n1 c1, .slice A2 n2 c2, .slice A3 n3 c3, .int .i64 (r.h0), .int .i64 (r.h1), .int .i64 (r.h2), .int .i64 (r.h3)] := h0
          go_simp
          refine (copyRules_any (HIN.out.ext (HI.out.e.trans hF))).mono ?_; rintro e w' ⟨v, rfl, hx, hv⟩; exact ⟨_, rfl, hx, hv⟩
        · obtain ⟨h0, -⟩ := hs
          replace h0 : ρ (.tmp 4) = .pointer (some ⟨w.heap.size + 1, 0, none⟩) := h0
          have hc0 : W.cell? ⟨w.heap.size + 1, 0, none⟩ = some (.int .i64 (z.p)) := hF.cell (by assumption)
          have hc1 : W.cell? ⟨w.heap.size + 1, 1, none⟩ = some (.int .i64 (z.a)) := hF.cell (by assumption)
          have hc2 : W.cell? ⟨w.heap.size + 1, 2, none⟩ = some (.int .i64 (z.b)) := hF.cell (by assumption)
          have hc3 : W.cell? ⟨w.heap.size + 1, 3, none⟩ = some (.int .i64 (z.m)) := hF.cell (by assumption)
          have hc4 : W.cell? ⟨w.heap.size + 1, 4, none⟩ = some (.int .i64 (z.wt)) := hF.cell (by assumption)
          have hc5 : W.cell? ⟨w.heap.size + 1, 5, none⟩ = some (.int .i64 (z.g)) := hF.cell (by assumption)
          have hc6 : W.cell? ⟨w.heap.size + 1, 6, none⟩ = some (.int .i64 (z.t)) := hF.cell (by assumption)
          go_simp
          exact ⟨Ext.refl _, rfl⟩
        · obtain ⟨h0, -⟩ := hs
          replace h0 : ρ (.tmp 5) = .pointer (some ⟨w.heap.size + 1 + 1, 0, none⟩) := h0
          go_simp
          exact ⟨Ext.refl _, rfl⟩
        · obtain ⟨h0, -⟩ := hs
          replace h0 : ρ (.tmp 56) = .pointer (some ⟨w.heap.size + 1 + 1, 0, none⟩) := h0
          have hc0 : W.cell? ⟨w.heap.size + 1 + 1, 0, none⟩ = some (.slice (some ⟨b, o, none⟩) n cb) := hF.cell (by assumption)
          go_simp
          exact ⟨Ext.refl _, rfl⟩
        · obtain ⟨h0, -⟩ := hs
          replace h0 : ρ (.tmp 7) = .int .i64 ((j : Int)) := h0
          go_simp
          exact ⟨Ext.refl _, rfl⟩
        · obtain ⟨h0, h1, -⟩ := hs
          replace h0 : ρ (.tmp 57) = .slice (some ⟨b, o, none⟩) n cb := h0
          replace h1 : ρ (.tmp 58) = .int .i64 ((j : Int)) := h1
          have h5 : j < n := by omega
          go_simp
          exact ⟨Ext.refl _, rfl⟩
        · obtain ⟨h0, -⟩ := hs
          replace h0 : ρ (.tmp 59) = .pointer (some ⟨b, o + j, none⟩) := h0
          have hc0 : W.cell? ⟨b, o + j, none⟩ = some (.int .i64 (x)) := hF.cell (by assumption)
          go_simp
          exact ⟨Ext.refl _, rfl⟩
        · obtain ⟨h0, -⟩ := hs
          replace h0 : ρ (.tmp 5) = .pointer (some ⟨w.heap.size + 1 + 1, 0, none⟩) := h0
          go_simp
          exact ⟨Ext.refl _, rfl⟩
        · obtain ⟨h0, -⟩ := hs
          replace h0 : ρ (.tmp 61) = .pointer (some ⟨w.heap.size + 1 + 1, 1, none⟩) := h0
          have hc0 : W.cell? ⟨w.heap.size + 1 + 1, 1, none⟩ = some (.int .i64 (k.h)) := hF.cell (by assumption)
          have hc1 : W.cell? ⟨w.heap.size + 1 + 1, 2, none⟩ = some (.int .i64 (k.c)) := hF.cell (by assumption)
          have hc2 : W.cell? ⟨w.heap.size + 1 + 1, 3, none⟩ = some (.int .i64 (k.d)) := hF.cell (by assumption)
          go_simp
          exact ⟨Ext.refl _, rfl⟩
        · obtain ⟨h0, h1, -⟩ := hs
          replace h0 : ρ (.tmp 60) = .int .i64 (x) := h0
          replace h1 : ρ (.tmp 62) = .agg #[.int .i64 (k.h), .int .i64 (k.c), .int .i64 (k.d)] := h1
          go_simp
          exact ⟨Ext.refl _, rfl⟩
        · obtain ⟨h0, h1, h2, -⟩ := hs
          replace h0 : (RuV r) (ρ (.tmp 54)) W := h0
          replace h1 : ρ (.tmp 55) = .agg #[.int .i64 (z.p), .int .i64 (z.a), .int .i64 (z.b), .int .i64 (z.m), .int .i64 (z.wt), .int .i64 (z.g), .int .i64 (z.t)] := h1
          replace h2 : ρ (.tmp 63) = .agg #[.int .i64 x, .int .i64 k.h, .int .i64 k.c, .int .i64 k.d] := h2
          go_simp
          refine (HST.out _ _ h0).mono ?_; rintro e w' ⟨rfl, hx⟩; exact ⟨_, rfl, hx, rfl⟩
        · obtain ⟨h0, -⟩ := hs
          replace h0 : ρ (.tmp 64) = .tuple #[.agg #[.int .i64 y.p, .int .i64 y.a, .int .i64 y.b, .int .i64 y.m, .int .i64 y.wt, .int .i64 y.g, .int .i64 y.t], .int .i64 0] := h0
          go_simp
          exact ⟨Ext.refl _, rfl⟩
        · obtain ⟨h0, -⟩ := hs
          replace h0 : ρ (.tmp 52) = .tuple #[.agg #[.int .i64 y.p, .int .i64 y.a, .int .i64 y.b, .int .i64 y.m, .int .i64 y.wt, .int .i64 y.g, .int .i64 y.t], .int .i64 0] := h0
          go_simp
          exact ⟨Ext.refl _, rfl⟩
        · obtain ⟨h0, -⟩ := hs
          replace h0 : ρ (.tmp 52) = .tuple #[.agg #[.int .i64 y.p, .int .i64 y.a, .int .i64 y.b, .int .i64 y.m, .int .i64 y.wt, .int .i64 y.g, .int .i64 y.t], .int .i64 0] := h0
          go_simp
          exact ⟨Ext.refl _, rfl⟩
        · go_simp
          exact ⟨Ext.alloc _ _, W.heap.size, hF.size, rfl, Blk.new _ _ _⟩
      · intro ρ W ⟨kc, kg, kf⟩ hF hs
        obtain ⟨h0, -⟩ := hs
        replace h0 : ρ (.tmp 52) = .tuple #[.agg #[.int .i64 y.p, .int .i64 y.a, .int .i64 y.b, .int .i64 y.m, .int .i64 y.wt, .int .i64 y.g, .int .i64 y.t], .int .i64 0] := h0
        refine ⟨.int .i64 0, fun W' => ?_⟩
        go_simp
      · intro ρ ρ' h
        simp only [execOp]
        rw [h (.tmp 8) (by simp), h (.tmp 65) (by simp)]
      · intro ρ W ⟨kc, kg, kf⟩ hF hs
        obtain ⟨h0, h1, -⟩ := hs
        replace h0 : (Fresh30 wr.heap.size) (ρ (.tmp 8)) W := h0
        replace h1 : ρ (.tmp 65) = .agg #[.int .i64 y.p, .int .i64 y.a, .int .i64 y.b, .int .i64 y.m, .int .i64 y.wt, .int .i64 y.g, .int .i64 y.t] := h1
        obtain ⟨q0, _, hb, hk⟩ := h0
        have f0 := hk.free 0
        have f1 := hk.free 1
        have f2 := hk.free 2
        have f3 := hk.free 3
        have f4 := hk.free 4
        have f5 := hk.free 5
        have f6 := hk.free 6
        have g0 := hk.cell 0
        have g1 := hk.cell 1
        have g2 := hk.cell 2
        have g3 := hk.cell 3
        have g4 := hk.cell 4
        have g5 := hk.cell 5
        have g6 := hk.cell 6
        simp only [List.getElem?_toArray, List.getElem?_cons_zero, List.getElem?_cons_succ] at g0 g1 g2 g3 g4 g5 g6
        refine ⟨((((((W.setCell ⟨q0, 0, none⟩ (.int .i64 y.p)).setCell ⟨q0, 1, none⟩ (.int .i64 y.a)).setCell ⟨q0, 2, none⟩ (.int .i64 y.b)).setCell ⟨q0, 3, none⟩ (.int .i64 y.m)).setCell ⟨q0, 4, none⟩ (.int .i64 y.wt)).setCell ⟨q0, 5, none⟩ (.int .i64 y.g)).setCell ⟨q0, 6, none⟩ (.int .i64 y.t), ?_⟩
        go_simp
      · intro fv W2 hF hs
        obtain ⟨-, -, -, -, -, -, -, -, -, -, -, -, -, h65, h66, h8, -⟩ := hs
        replace h65 : fv 65 = .agg #[.int .i64 y.p, .int .i64 y.a, .int .i64 y.b, .int .i64 y.m, .int .i64 y.wt, .int .i64 y.g, .int .i64 y.t] := h65
        replace h66 : fv 66 = .int .i64 (0) := h66
        replace h8 : (Fresh30 wr.heap.size) (fv 8) W2 := h8
        simp only [fin, List.filterMap]
        go_simp
        obtain ⟨q, hq, hv8, hk8⟩ := h8
        rw [hv8]
        have hQ : w.heap.size + 1 + 1 < q := Nat.lt_of_lt_of_le HI.out.size hq
        have HB3 := Lib.hid ((HI.out.ext hF).store hQ y)
        have K3 := Lib.hid (blk7 hk8 y)
        have f0 := hk8.free 0
        have f1 := hk8.free 1
        have f2 := hk8.free 2
        have f3 := hk8.free 3
        have f4 := hk8.free 4
        have f5 := hk8.free 5
        have f6 := hk8.free 6
        have g0 := hk8.cell 0
        have g1 := hk8.cell 1
        have g2 := hk8.cell 2
        have g3 := hk8.cell 3
        have g4 := hk8.cell 4
        have g5 := hk8.cell 5
        have g6 := hk8.cell 6
        simp only [List.getElem?_toArray, List.getElem?_cons_zero, List.getElem?_cons_succ] at g0 g1 g2 g3 g4 g5 g6
        clear hF hv8 hk8 hq
        clear y0 y1 y2 y3 y4 y5 y6 y7 x0 x1 x2 x3 x4 x5 x6 v0 v1 v2 v3
        go_wp2_with (go_at_call 19; obtain ⟨W3, hW3⟩ : ∃ W3, W3 = ((((((W2.setCell ⟨q, 0, none⟩ (.int .i64 y.p)).setCell ⟨q, 1, none⟩ (.int .i64 y.a)).setCell ⟨q, 2, none⟩ (.int .i64 y.b)).setCell ⟨q, 3, none⟩ (.int .i64 y.m)).setCell ⟨q, 4, none⟩ (.int .i64 y.wt)).setCell ⟨q, 5, none⟩ (.int .i64 y.g)).setCell ⟨q, 6, none⟩ (.int .i64 y.t) := ⟨_, rfl⟩; rw [← hW3] at HB3 K3 ⊢; clear hW3; refine (HSY.out _).mono ?_; rintro e W4 ⟨rfl, hx⟩; have X4 := Lib.hid hx; clear hx; refine Hid.out ?_)
        refine Lib.hid ?_
        replace HI := Lib.hid (HB3.out.ext X4.out)
        have KQ := Lib.hid (K3.out.ext X4.out)
        clear HB3 K3 X4 f0 g0 f1 g1 f2 g2 f3 g3 f4 g4 f5 g5 f6 g6
        replace cj : W4.cell? ⟨b, o + j, none⟩ = some (.int .i64 x) := HI.out.e.cell HCX.out
        have y0 : W4.cell? ⟨w.heap.size, 0, none⟩ = some (.slice A0 n0 c0) := HI.out.k0.cell 0
        have y1 : W4.cell? ⟨w.heap.size, 1, none⟩ = some (.slice A1 n1 c1) := HI.out.k0.cell 1
        have y2 : W4.cell? ⟨w.heap.size, 2, none⟩ = some (.slice A2 n2 c2) := HI.out.k0.cell 2
        have y3 : W4.cell? ⟨w.heap.size, 3, none⟩ = some (.slice A3 n3 c3) := HI.out.k0.cell 3
        have y4 : W4.cell? ⟨w.heap.size, 4, none⟩ = some (.int .i64 r.h0) := HI.out.k0.cell 4
        have y5 : W4.cell? ⟨w.heap.size, 5, none⟩ = some (.int .i64 r.h1) := HI.out.k0.cell 5
        have y6 : W4.cell? ⟨w.heap.size, 6, none⟩ = some (.int .i64 r.h2) := HI.out.k0.cell 6
        have y7 : W4.cell? ⟨w.heap.size, 7, none⟩ = some (.int .i64 r.h3) := HI.out.k0.cell 7
        have x0 : W4.cell? ⟨w.heap.size + 1, 0, none⟩ = some (.int .i64 z.p) := HI.out.k1.cell 0
        have x1 : W4.cell? ⟨w.heap.size + 1, 1, none⟩ = some (.int .i64 z.a) := HI.out.k1.cell 1
        have x2 : W4.cell? ⟨w.heap.size + 1, 2, none⟩ = some (.int .i64 z.b) := HI.out.k1.cell 2
        have x3 : W4.cell? ⟨w.heap.size + 1, 3, none⟩ = some (.int .i64 z.m) := HI.out.k1.cell 3
        have x4 : W4.cell? ⟨w.heap.size + 1, 4, none⟩ = some (.int .i64 z.wt) := HI.out.k1.cell 4
        have x5 : W4.cell? ⟨w.heap.size + 1, 5, none⟩ = some (.int .i64 z.g) := HI.out.k1.cell 5
        have x6 : W4.cell? ⟨w.heap.size + 1, 6, none⟩ = some (.int .i64 z.t) := HI.out.k1.cell 6
        have v0 : W4.cell? ⟨w.heap.size + 1 + 1, 0, none⟩ = some (.slice (some ⟨b, o, none⟩) n cb) := HI.out.k2.cell 0
        have v1 : W4.cell? ⟨w.heap.size + 1 + 1, 1, none⟩ = some (.int .i64 k.h) := HI.out.k2.cell 1
        have v2 : W4.cell? ⟨w.heap.size + 1 + 1, 2, none⟩ = some (.int .i64 k.c) := HI.out.k2.cell 2
        have v3 : W4.cell? ⟨w.heap.size + 1 + 1, 3, none⟩ = some (.int .i64 k.d) := HI.out.k2.cell 3
        have m0 : W4.cell? ⟨q, 0, none⟩ = some (.int .i64 y.p) := KQ.out.cell 0
        have m1 : W4.cell? ⟨q, 1, none⟩ = some (.int .i64 y.a) := KQ.out.cell 1
        have m2 : W4.cell? ⟨q, 2, none⟩ = some (.int .i64 y.b) := KQ.out.cell 2
        have m3 : W4.cell? ⟨q, 3, none⟩ = some (.int .i64 y.m) := KQ.out.cell 3
        have m4 : W4.cell? ⟨q, 4, none⟩ = some (.int .i64 y.wt) := KQ.out.cell 4
        have m5 : W4.cell? ⟨q, 5, none⟩ = some (.int .i64 y.g) := KQ.out.cell 5
        have m6 : W4.cell? ⟨q, 6, none⟩ = some (.int .i64 y.t) := KQ.out.cell 6
        cases hh : hotB r x with
        | true =>
          obtain ⟨a1, a2, a3, a4⟩ := HHOT.out hh
          obtain ⟨g, l, hg, hge⟩ : ∃ g l, r.hs = g :: l ∧ g.k ≤ x := by
            unfold hotB at hh
            cases h9 : r.hs with
            | nil => rw [h9] at hh; cases hh
            | cons g l => rw [h9] at hh; exact ⟨g, l, rfl, by simpa using hh⟩
          have hn0 : 0 < n0 := by have := HIN.out.at.l0; rw [hg] at this; simp at this; omega
          obtain ⟨bh, oh, hAh, hbh, hch⟩ := HIN.out.at.r0.2 0 g (by rw [hg]; rfl)
          subst hAh
          have gk : W4.cell? ⟨bh, oh, none⟩ = some (.int .i64 g.k) := HI.out.e.cell (by have := hch 0 _ rfl; simpa using this)
          have d0 : decide (0 < n0) = true := decide_eq_true hn0
          have d1 : (0 : Int) < (n0 : Int) := by omega
          have d2 : decide (g.k ≤ x) = true := decide_eq_true hge
          have e1 : ¬ y.a < z.a := by omega
          have e2 : (y.b != 0) = false := by simp [a2]
          have e3 : (y.m != 0) = false := by simp [a3]
          have e4 : ¬ y.g < z.g := by omega
          clear hbh hch hg a1 a2 a3 a4 hh
          go_wp2
          go_quiet (fail)
          go_wp2
          obtain ⟨W5, hW5⟩ : ∃ W, W = W4.drewN nq := ⟨_, rfl⟩
          have X5 := Lib.hid (show Ext W4 W5 by rw [hW5]; exact Ext.drewN _ _)
          rw [← hW5]
          clear hW5
          clear y0 y1 y2 y3 y4 y5 y6 y7 x0 x1 x2 x3 x4 x5 x6 v0 v1 v2 v3
          clear m0 m1 m2 m3 m4 m5 m6
          replace HI := Lib.hid (HI.out.ext X5.out)
          replace KQ := Lib.hid (KQ.out.ext X5.out)
          have y0 : W5.cell? ⟨w.heap.size, 0, none⟩ = some (.slice (some ⟨bh, oh, none⟩) n0 c0) := HI.out.k0.cell 0
          have y1 : W5.cell? ⟨w.heap.size, 1, none⟩ = some (.slice A1 n1 c1) := HI.out.k0.cell 1
          have y2 : W5.cell? ⟨w.heap.size, 2, none⟩ = some (.slice A2 n2 c2) := HI.out.k0.cell 2
          have y3 : W5.cell? ⟨w.heap.size, 3, none⟩ = some (.slice A3 n3 c3) := HI.out.k0.cell 3
          have y4 : W5.cell? ⟨w.heap.size, 4, none⟩ = some (.int .i64 r.h0) := HI.out.k0.cell 4
          have y5 : W5.cell? ⟨w.heap.size, 5, none⟩ = some (.int .i64 r.h1) := HI.out.k0.cell 5
          have y6 : W5.cell? ⟨w.heap.size, 6, none⟩ = some (.int .i64 r.h2) := HI.out.k0.cell 6
          have y7 : W5.cell? ⟨w.heap.size, 7, none⟩ = some (.int .i64 r.h3) := HI.out.k0.cell 7
          have x0 : W5.cell? ⟨w.heap.size + 1, 0, none⟩ = some (.int .i64 z.p) := HI.out.k1.cell 0
          have x1 : W5.cell? ⟨w.heap.size + 1, 1, none⟩ = some (.int .i64 z.a) := HI.out.k1.cell 1
          have x2 : W5.cell? ⟨w.heap.size + 1, 2, none⟩ = some (.int .i64 z.b) := HI.out.k1.cell 2
          have x3 : W5.cell? ⟨w.heap.size + 1, 3, none⟩ = some (.int .i64 z.m) := HI.out.k1.cell 3
          have x4 : W5.cell? ⟨w.heap.size + 1, 4, none⟩ = some (.int .i64 z.wt) := HI.out.k1.cell 4
          have x5 : W5.cell? ⟨w.heap.size + 1, 5, none⟩ = some (.int .i64 z.g) := HI.out.k1.cell 5
          have x6 : W5.cell? ⟨w.heap.size + 1, 6, none⟩ = some (.int .i64 z.t) := HI.out.k1.cell 6
          have v0 : W5.cell? ⟨w.heap.size + 1 + 1, 0, none⟩ = some (.slice (some ⟨b, o, none⟩) n cb) := HI.out.k2.cell 0
          have v1 : W5.cell? ⟨w.heap.size + 1 + 1, 1, none⟩ = some (.int .i64 k.h) := HI.out.k2.cell 1
          have v2 : W5.cell? ⟨w.heap.size + 1 + 1, 2, none⟩ = some (.int .i64 k.c) := HI.out.k2.cell 2
          have v3 : W5.cell? ⟨w.heap.size + 1 + 1, 3, none⟩ = some (.int .i64 k.d) := HI.out.k2.cell 3
          have m0 : W5.cell? ⟨q, 0, none⟩ = some (.int .i64 y.p) := KQ.out.cell 0
          have m1 : W5.cell? ⟨q, 1, none⟩ = some (.int .i64 y.a) := KQ.out.cell 1
          have m2 : W5.cell? ⟨q, 2, none⟩ = some (.int .i64 y.b) := KQ.out.cell 2
          have m3 : W5.cell? ⟨q, 3, none⟩ = some (.int .i64 y.m) := KQ.out.cell 3
          have m4 : W5.cell? ⟨q, 4, none⟩ = some (.int .i64 y.wt) := KQ.out.cell 4
          have m5 : W5.cell? ⟨q, 5, none⟩ = some (.int .i64 y.g) := KQ.out.cell 5
          have m6 : W5.cell? ⟨q, 6, none⟩ = some (.int .i64 y.t) := KQ.out.cell 6
          refine wp_region_each [some 147, some 148, some 149, some 150, some 146, some 151, some 152, some 10, some 11] [[3], [147], [8], [148, 149], [150], [146], [146], [151], [152]]
            [Is (.agg #[.slice (some ⟨bh, oh, none⟩) n0 c0, .slice A1 n1 c1, .slice A2 n2 c2, .slice A3 n3 c3, .int .i64 (r.h0), .int .i64 (r.h1), .int .i64 (r.h2), .int .i64 (r.h3)]), RuV r, Is (.agg #[.int .i64 (y.p), .int .i64 (y.a), .int .i64 (y.b), .int .i64 (y.m), .int .i64 (y.wt), .int .i64 (y.g), .int .i64 (y.t)]), Is (.tuple #[.int .i64 hv, .int .i64 0]), Is (.tuple #[.int .i64 hv, .int .i64 0]), Is (.int .i64 (hv)), Is (.int .i64 (0)), Is (.int .i64 (hv)), Is (.int .i64 (0))]
            (by kernel_rfl) (by kernel_rfl) (by kernel_rfl) (by kernel_rfl) (by kernel_rfl) Ext (fun W => Ext W5 W)
            (fun W _ => Ext.refl W) (fun W W' h k => h.trans k) ?_ (Ext.drew _) ?_ ?_
          · repeat (refine ⟨fun _ _ _ _ k h => (by first | exact h | exact (by first | exact RuV.ext h k | exact Fresh30.ext h k)), ?_⟩)
            exact trivial
          · refine ⟨?_, ?_, ?_, ?_, ?_, ?_, ?_, ?_, ?_, trivial⟩
            all_goals intro ρ W ⟨kc, kg, kf⟩ hF hs
            · obtain ⟨h0, -⟩ := hs
              replace h0 : ρ (.tmp 3) = .pointer (some ⟨w.heap.size, 0, none⟩) := h0
              have hc0 : W.cell? ⟨w.heap.size, 0, none⟩ = some (.slice (some ⟨bh, oh, none⟩) n0 c0) := hF.cell (by assumption)
              have hc1 : W.cell? ⟨w.heap.size, 1, none⟩ = some (.slice A1 n1 c1) := hF.cell (by assumption)
              have hc2 : W.cell? ⟨w.heap.size, 2, none⟩ = some (.slice A2 n2 c2) := hF.cell (by assumption)
              have hc3 : W.cell? ⟨w.heap.size, 3, none⟩ = some (.slice A3 n3 c3) := hF.cell (by assumption)
              have hc4 : W.cell? ⟨w.heap.size, 4, none⟩ = some (.int .i64 (r.h0)) := hF.cell (by assumption)
              have hc5 : W.cell? ⟨w.heap.size, 5, none⟩ = some (.int .i64 (r.h1)) := hF.cell (by assumption)
              have hc6 : W.cell? ⟨w.heap.size, 6, none⟩ = some (.int .i64 (r.h2)) := hF.cell (by assumption)
              have hc7 : W.cell? ⟨w.heap.size, 7, none⟩ = some (.int .i64 (r.h3)) := hF.cell (by assumption)
              go_simp
              exact ⟨Ext.refl _, rfl⟩
            · obtain ⟨h0, -⟩ := hs
              replace h0 : ρ (.tmp 147) = .agg #[.slice (some ⟨bh, oh, none⟩) n0 c0, .slice A1 n1 c1, .slice A2 n2 c2, .slice A3 n3 c3, .int .i64 (r.h0), .int .i64 (r.h1), .int .i64 (r.h2), .int .i64 (r.h3)] := h0
              go_simp
              refine (copyRules_any (HIN.out.ext (HI.out.e.trans hF))).mono ?_; rintro e w' ⟨v, rfl, hx, hv⟩; exact ⟨_, rfl, hx, hv⟩
            · obtain ⟨h0, -⟩ := hs
              replace h0 : ρ (.tmp 8) = .pointer (some ⟨q, 0, none⟩) := h0
              have hc0 : W.cell? ⟨q, 0, none⟩ = some (.int .i64 (y.p)) := hF.cell (by assumption)
              have hc1 : W.cell? ⟨q, 1, none⟩ = some (.int .i64 (y.a)) := hF.cell (by assumption)
              have hc2 : W.cell? ⟨q, 2, none⟩ = some (.int .i64 (y.b)) := hF.cell (by assumption)
              have hc3 : W.cell? ⟨q, 3, none⟩ = some (.int .i64 (y.m)) := hF.cell (by assumption)
              have hc4 : W.cell? ⟨q, 4, none⟩ = some (.int .i64 (y.wt)) := hF.cell (by assumption)
              have hc5 : W.cell? ⟨q, 5, none⟩ = some (.int .i64 (y.g)) := hF.cell (by assumption)
              have hc6 : W.cell? ⟨q, 6, none⟩ = some (.int .i64 (y.t)) := hF.cell (by assumption)
              go_simp
              exact ⟨Ext.refl _, rfl⟩
            · obtain ⟨h0, h1, -⟩ := hs
              replace h0 : (RuV r) (ρ (.tmp 148)) W := h0
              replace h1 : ρ (.tmp 149) = .agg #[.int .i64 (y.p), .int .i64 (y.a), .int .i64 (y.b), .int .i64 (y.m), .int .i64 (y.wt), .int .i64 (y.g), .int .i64 (y.t)] := h1
              go_simp
              refine (HHD.out _ _ h0).mono ?_; rintro e w' ⟨rfl, hx⟩; exact ⟨_, rfl, hx, rfl⟩
            · obtain ⟨h0, -⟩ := hs
              replace h0 : ρ (.tmp 150) = .tuple #[.int .i64 hv, .int .i64 0] := h0
              go_simp
              exact ⟨Ext.refl _, rfl⟩
            · obtain ⟨h0, -⟩ := hs
              replace h0 : ρ (.tmp 146) = .tuple #[.int .i64 hv, .int .i64 0] := h0
              go_simp
              exact ⟨Ext.refl _, rfl⟩
            · obtain ⟨h0, -⟩ := hs
              replace h0 : ρ (.tmp 146) = .tuple #[.int .i64 hv, .int .i64 0] := h0
              go_simp
              exact ⟨Ext.refl _, rfl⟩
            · obtain ⟨h0, -⟩ := hs
              replace h0 : ρ (.tmp 151) = .int .i64 (hv) := h0
              go_simp
              exact ⟨Ext.refl _, rfl⟩
            · obtain ⟨h0, -⟩ := hs
              replace h0 : ρ (.tmp 152) = .int .i64 (0) := h0
              go_simp
              exact ⟨Ext.refl _, rfl⟩
          · intro fv W6 hF hs
            obtain ⟨-, -, -, -, -, -, -, h10, h11, -⟩ := hs
            replace h10 : fv 10 = .int .i64 (hv) := h10
            replace h11 : fv 11 = .int .i64 (0) := h11
            simp only [fin, List.filterMap]
            go_simp
            replace HI := Lib.hid (HI.out.ext hF)
            replace KQ := Lib.hid (KQ.out.ext hF)
            clear hF h10 h11
            clear y0 y1 y2 y3 y4 y5 y6 y7 x0 x1 x2 x3 x4 x5 x6 v0 v1 v2 v3
            clear m0 m1 m2 m3 m4 m5 m6
            have y0 : W6.cell? ⟨w.heap.size, 0, none⟩ = some (.slice (some ⟨bh, oh, none⟩) n0 c0) := HI.out.k0.cell 0
            have y1 : W6.cell? ⟨w.heap.size, 1, none⟩ = some (.slice A1 n1 c1) := HI.out.k0.cell 1
            have y2 : W6.cell? ⟨w.heap.size, 2, none⟩ = some (.slice A2 n2 c2) := HI.out.k0.cell 2
            have y3 : W6.cell? ⟨w.heap.size, 3, none⟩ = some (.slice A3 n3 c3) := HI.out.k0.cell 3
            have y4 : W6.cell? ⟨w.heap.size, 4, none⟩ = some (.int .i64 r.h0) := HI.out.k0.cell 4
            have y5 : W6.cell? ⟨w.heap.size, 5, none⟩ = some (.int .i64 r.h1) := HI.out.k0.cell 5
            have y6 : W6.cell? ⟨w.heap.size, 6, none⟩ = some (.int .i64 r.h2) := HI.out.k0.cell 6
            have y7 : W6.cell? ⟨w.heap.size, 7, none⟩ = some (.int .i64 r.h3) := HI.out.k0.cell 7
            have x0 : W6.cell? ⟨w.heap.size + 1, 0, none⟩ = some (.int .i64 z.p) := HI.out.k1.cell 0
            have x1 : W6.cell? ⟨w.heap.size + 1, 1, none⟩ = some (.int .i64 z.a) := HI.out.k1.cell 1
            have x2 : W6.cell? ⟨w.heap.size + 1, 2, none⟩ = some (.int .i64 z.b) := HI.out.k1.cell 2
            have x3 : W6.cell? ⟨w.heap.size + 1, 3, none⟩ = some (.int .i64 z.m) := HI.out.k1.cell 3
            have x4 : W6.cell? ⟨w.heap.size + 1, 4, none⟩ = some (.int .i64 z.wt) := HI.out.k1.cell 4
            have x5 : W6.cell? ⟨w.heap.size + 1, 5, none⟩ = some (.int .i64 z.g) := HI.out.k1.cell 5
            have x6 : W6.cell? ⟨w.heap.size + 1, 6, none⟩ = some (.int .i64 z.t) := HI.out.k1.cell 6
            have v0 : W6.cell? ⟨w.heap.size + 1 + 1, 0, none⟩ = some (.slice (some ⟨b, o, none⟩) n cb) := HI.out.k2.cell 0
            have v1 : W6.cell? ⟨w.heap.size + 1 + 1, 1, none⟩ = some (.int .i64 k.h) := HI.out.k2.cell 1
            have v2 : W6.cell? ⟨w.heap.size + 1 + 1, 2, none⟩ = some (.int .i64 k.c) := HI.out.k2.cell 2
            have v3 : W6.cell? ⟨w.heap.size + 1 + 1, 3, none⟩ = some (.int .i64 k.d) := HI.out.k2.cell 3
            go_wp2_with (go_at_call 34; refine (HW.out _).mono ?_; rintro e W7 ⟨rfl, hx⟩; have X7 := Lib.hid hx; clear hx; refine Hid.out ?_)
            refine Lib.hid ?_
            replace HI := Lib.hid (HI.out.ext X7.out)
            replace KQ := Lib.hid (KQ.out.ext X7.out)
            clear y0 y1 y2 y3 y4 y5 y6 y7 x0 x1 x2 x3 x4 x5 x6 v0 v1 v2 v3
            have y0 : W7.cell? ⟨w.heap.size, 0, none⟩ = some (.slice (some ⟨bh, oh, none⟩) n0 c0) := HI.out.k0.cell 0
            have y1 : W7.cell? ⟨w.heap.size, 1, none⟩ = some (.slice A1 n1 c1) := HI.out.k0.cell 1
            have y2 : W7.cell? ⟨w.heap.size, 2, none⟩ = some (.slice A2 n2 c2) := HI.out.k0.cell 2
            have y3 : W7.cell? ⟨w.heap.size, 3, none⟩ = some (.slice A3 n3 c3) := HI.out.k0.cell 3
            have y4 : W7.cell? ⟨w.heap.size, 4, none⟩ = some (.int .i64 r.h0) := HI.out.k0.cell 4
            have y5 : W7.cell? ⟨w.heap.size, 5, none⟩ = some (.int .i64 r.h1) := HI.out.k0.cell 5
            have y6 : W7.cell? ⟨w.heap.size, 6, none⟩ = some (.int .i64 r.h2) := HI.out.k0.cell 6
            have y7 : W7.cell? ⟨w.heap.size, 7, none⟩ = some (.int .i64 r.h3) := HI.out.k0.cell 7
            have x0 : W7.cell? ⟨w.heap.size + 1, 0, none⟩ = some (.int .i64 z.p) := HI.out.k1.cell 0
            have x1 : W7.cell? ⟨w.heap.size + 1, 1, none⟩ = some (.int .i64 z.a) := HI.out.k1.cell 1
            have x2 : W7.cell? ⟨w.heap.size + 1, 2, none⟩ = some (.int .i64 z.b) := HI.out.k1.cell 2
            have x3 : W7.cell? ⟨w.heap.size + 1, 3, none⟩ = some (.int .i64 z.m) := HI.out.k1.cell 3
            have x4 : W7.cell? ⟨w.heap.size + 1, 4, none⟩ = some (.int .i64 z.wt) := HI.out.k1.cell 4
            have x5 : W7.cell? ⟨w.heap.size + 1, 5, none⟩ = some (.int .i64 z.g) := HI.out.k1.cell 5
            have x6 : W7.cell? ⟨w.heap.size + 1, 6, none⟩ = some (.int .i64 z.t) := HI.out.k1.cell 6
            have v0 : W7.cell? ⟨w.heap.size + 1 + 1, 0, none⟩ = some (.slice (some ⟨b, o, none⟩) n cb) := HI.out.k2.cell 0
            have v1 : W7.cell? ⟨w.heap.size + 1 + 1, 1, none⟩ = some (.int .i64 k.h) := HI.out.k2.cell 1
            have v2 : W7.cell? ⟨w.heap.size + 1 + 1, 2, none⟩ = some (.int .i64 k.c) := HI.out.k2.cell 2
            have v3 : W7.cell? ⟨w.heap.size + 1 + 1, 3, none⟩ = some (.int .i64 k.d) := HI.out.k2.cell 3
            have xf0 := HI.out.k1.free 0
            have xf1 := HI.out.k1.free 1
            have xf2 := HI.out.k1.free 2
            have xf3 := HI.out.k1.free 3
            have xf4 := HI.out.k1.free 4
            have xf5 := HI.out.k1.free 5
            have xf6 := HI.out.k1.free 6
            have m0 : W7.cell? ⟨q, 0, none⟩ = some (.int .i64 y.p) := KQ.out.cell 0
            have m1 : W7.cell? ⟨q, 1, none⟩ = some (.int .i64 y.a) := KQ.out.cell 1
            have m2 : W7.cell? ⟨q, 2, none⟩ = some (.int .i64 y.b) := KQ.out.cell 2
            have m3 : W7.cell? ⟨q, 3, none⟩ = some (.int .i64 y.m) := KQ.out.cell 3
            have m4 : W7.cell? ⟨q, 4, none⟩ = some (.int .i64 y.wt) := KQ.out.cell 4
            have m5 : W7.cell? ⟨q, 5, none⟩ = some (.int .i64 y.g) := KQ.out.cell 5
            have m6 : W7.cell? ⟨q, 6, none⟩ = some (.int .i64 y.t) := KQ.out.cell 6
            go_wp2
            go_roundw
            case rel => exact ⟨j + 1, y, by omega, by go_num, HYK.out, HI.out.step⟩
            case measure => simp [intOf]; omega
        | false =>
          by_cases h00 : n0 = 0
          · obtain ⟨a1, a2, a3, a4, a5⟩ := HCOOL.out hh
            have e1 : (y.p != z.p) = false := by simp [a1]
            have e2 : ¬ y.m < z.m := by omega
            have e3 : ¬ y.b < z.b := by omega
            have e4 : (y.g != z.g) = false := by simp [a4]
            have e5 : ¬ y.t < z.t := by omega
            clear a1 a2 a3 a4 a5
            have d0 : decide (0 < n0) = false := by simp [h00]
            clear hh h00
            go_wp2
            go_quiet (fail)
            go_wp2
            obtain ⟨W5, hW5⟩ : ∃ W, W = W4.drewN nq := ⟨_, rfl⟩
            have X5 := Lib.hid (show Ext W4 W5 by rw [hW5]; exact Ext.drewN _ _)
            rw [← hW5]
            clear hW5
            clear y0 y1 y2 y3 y4 y5 y6 y7 x0 x1 x2 x3 x4 x5 x6 v0 v1 v2 v3
            clear m0 m1 m2 m3 m4 m5 m6
            replace HI := Lib.hid (HI.out.ext X5.out)
            replace KQ := Lib.hid (KQ.out.ext X5.out)
            have y0 : W5.cell? ⟨w.heap.size, 0, none⟩ = some (.slice A0 n0 c0) := HI.out.k0.cell 0
            have y1 : W5.cell? ⟨w.heap.size, 1, none⟩ = some (.slice A1 n1 c1) := HI.out.k0.cell 1
            have y2 : W5.cell? ⟨w.heap.size, 2, none⟩ = some (.slice A2 n2 c2) := HI.out.k0.cell 2
            have y3 : W5.cell? ⟨w.heap.size, 3, none⟩ = some (.slice A3 n3 c3) := HI.out.k0.cell 3
            have y4 : W5.cell? ⟨w.heap.size, 4, none⟩ = some (.int .i64 r.h0) := HI.out.k0.cell 4
            have y5 : W5.cell? ⟨w.heap.size, 5, none⟩ = some (.int .i64 r.h1) := HI.out.k0.cell 5
            have y6 : W5.cell? ⟨w.heap.size, 6, none⟩ = some (.int .i64 r.h2) := HI.out.k0.cell 6
            have y7 : W5.cell? ⟨w.heap.size, 7, none⟩ = some (.int .i64 r.h3) := HI.out.k0.cell 7
            have x0 : W5.cell? ⟨w.heap.size + 1, 0, none⟩ = some (.int .i64 z.p) := HI.out.k1.cell 0
            have x1 : W5.cell? ⟨w.heap.size + 1, 1, none⟩ = some (.int .i64 z.a) := HI.out.k1.cell 1
            have x2 : W5.cell? ⟨w.heap.size + 1, 2, none⟩ = some (.int .i64 z.b) := HI.out.k1.cell 2
            have x3 : W5.cell? ⟨w.heap.size + 1, 3, none⟩ = some (.int .i64 z.m) := HI.out.k1.cell 3
            have x4 : W5.cell? ⟨w.heap.size + 1, 4, none⟩ = some (.int .i64 z.wt) := HI.out.k1.cell 4
            have x5 : W5.cell? ⟨w.heap.size + 1, 5, none⟩ = some (.int .i64 z.g) := HI.out.k1.cell 5
            have x6 : W5.cell? ⟨w.heap.size + 1, 6, none⟩ = some (.int .i64 z.t) := HI.out.k1.cell 6
            have v0 : W5.cell? ⟨w.heap.size + 1 + 1, 0, none⟩ = some (.slice (some ⟨b, o, none⟩) n cb) := HI.out.k2.cell 0
            have v1 : W5.cell? ⟨w.heap.size + 1 + 1, 1, none⟩ = some (.int .i64 k.h) := HI.out.k2.cell 1
            have v2 : W5.cell? ⟨w.heap.size + 1 + 1, 2, none⟩ = some (.int .i64 k.c) := HI.out.k2.cell 2
            have v3 : W5.cell? ⟨w.heap.size + 1 + 1, 3, none⟩ = some (.int .i64 k.d) := HI.out.k2.cell 3
            have m0 : W5.cell? ⟨q, 0, none⟩ = some (.int .i64 y.p) := KQ.out.cell 0
            have m1 : W5.cell? ⟨q, 1, none⟩ = some (.int .i64 y.a) := KQ.out.cell 1
            have m2 : W5.cell? ⟨q, 2, none⟩ = some (.int .i64 y.b) := KQ.out.cell 2
            have m3 : W5.cell? ⟨q, 3, none⟩ = some (.int .i64 y.m) := KQ.out.cell 3
            have m4 : W5.cell? ⟨q, 4, none⟩ = some (.int .i64 y.wt) := KQ.out.cell 4
            have m5 : W5.cell? ⟨q, 5, none⟩ = some (.int .i64 y.g) := KQ.out.cell 5
            have m6 : W5.cell? ⟨q, 6, none⟩ = some (.int .i64 y.t) := KQ.out.cell 6
            refine wp_region_each [some 147, some 148, some 149, some 150, some 146, some 151, some 152, some 10, some 11] [[3], [147], [8], [148, 149], [150], [146], [146], [151], [152]]
              [Is (.agg #[.slice A0 n0 c0, .slice A1 n1 c1, .slice A2 n2 c2, .slice A3 n3 c3, .int .i64 (r.h0), .int .i64 (r.h1), .int .i64 (r.h2), .int .i64 (r.h3)]), RuV r, Is (.agg #[.int .i64 (y.p), .int .i64 (y.a), .int .i64 (y.b), .int .i64 (y.m), .int .i64 (y.wt), .int .i64 (y.g), .int .i64 (y.t)]), Is (.tuple #[.int .i64 hv, .int .i64 0]), Is (.tuple #[.int .i64 hv, .int .i64 0]), Is (.int .i64 (hv)), Is (.int .i64 (0)), Is (.int .i64 (hv)), Is (.int .i64 (0))]
              (by kernel_rfl) (by kernel_rfl) (by kernel_rfl) (by kernel_rfl) (by kernel_rfl) Ext (fun W => Ext W5 W)
              (fun W _ => Ext.refl W) (fun W W' h k => h.trans k) ?_ (Ext.drew _) ?_ ?_
            · repeat (refine ⟨fun _ _ _ _ k h => (by first | exact h | exact (by first | exact RuV.ext h k | exact Fresh30.ext h k)), ?_⟩)
              exact trivial
            · refine ⟨?_, ?_, ?_, ?_, ?_, ?_, ?_, ?_, ?_, trivial⟩
              all_goals intro ρ W ⟨kc, kg, kf⟩ hF hs
              · obtain ⟨h0, -⟩ := hs
                replace h0 : ρ (.tmp 3) = .pointer (some ⟨w.heap.size, 0, none⟩) := h0
                have hc0 : W.cell? ⟨w.heap.size, 0, none⟩ = some (.slice A0 n0 c0) := hF.cell (by assumption)
                have hc1 : W.cell? ⟨w.heap.size, 1, none⟩ = some (.slice A1 n1 c1) := hF.cell (by assumption)
                have hc2 : W.cell? ⟨w.heap.size, 2, none⟩ = some (.slice A2 n2 c2) := hF.cell (by assumption)
                have hc3 : W.cell? ⟨w.heap.size, 3, none⟩ = some (.slice A3 n3 c3) := hF.cell (by assumption)
                have hc4 : W.cell? ⟨w.heap.size, 4, none⟩ = some (.int .i64 (r.h0)) := hF.cell (by assumption)
                have hc5 : W.cell? ⟨w.heap.size, 5, none⟩ = some (.int .i64 (r.h1)) := hF.cell (by assumption)
                have hc6 : W.cell? ⟨w.heap.size, 6, none⟩ = some (.int .i64 (r.h2)) := hF.cell (by assumption)
                have hc7 : W.cell? ⟨w.heap.size, 7, none⟩ = some (.int .i64 (r.h3)) := hF.cell (by assumption)
                go_simp
                exact ⟨Ext.refl _, rfl⟩
              · obtain ⟨h0, -⟩ := hs
                replace h0 : ρ (.tmp 147) = .agg #[.slice A0 n0 c0, .slice A1 n1 c1, .slice A2 n2 c2, .slice A3 n3 c3, .int .i64 (r.h0), .int .i64 (r.h1), .int .i64 (r.h2), .int .i64 (r.h3)] := h0
                go_simp
                refine (copyRules_any (HIN.out.ext (HI.out.e.trans hF))).mono ?_; rintro e w' ⟨v, rfl, hx, hv⟩; exact ⟨_, rfl, hx, hv⟩
              · obtain ⟨h0, -⟩ := hs
                replace h0 : ρ (.tmp 8) = .pointer (some ⟨q, 0, none⟩) := h0
                have hc0 : W.cell? ⟨q, 0, none⟩ = some (.int .i64 (y.p)) := hF.cell (by assumption)
                have hc1 : W.cell? ⟨q, 1, none⟩ = some (.int .i64 (y.a)) := hF.cell (by assumption)
                have hc2 : W.cell? ⟨q, 2, none⟩ = some (.int .i64 (y.b)) := hF.cell (by assumption)
                have hc3 : W.cell? ⟨q, 3, none⟩ = some (.int .i64 (y.m)) := hF.cell (by assumption)
                have hc4 : W.cell? ⟨q, 4, none⟩ = some (.int .i64 (y.wt)) := hF.cell (by assumption)
                have hc5 : W.cell? ⟨q, 5, none⟩ = some (.int .i64 (y.g)) := hF.cell (by assumption)
                have hc6 : W.cell? ⟨q, 6, none⟩ = some (.int .i64 (y.t)) := hF.cell (by assumption)
                go_simp
                exact ⟨Ext.refl _, rfl⟩
              · obtain ⟨h0, h1, -⟩ := hs
                replace h0 : (RuV r) (ρ (.tmp 148)) W := h0
                replace h1 : ρ (.tmp 149) = .agg #[.int .i64 (y.p), .int .i64 (y.a), .int .i64 (y.b), .int .i64 (y.m), .int .i64 (y.wt), .int .i64 (y.g), .int .i64 (y.t)] := h1
                go_simp
                refine (HHD.out _ _ h0).mono ?_; rintro e w' ⟨rfl, hx⟩; exact ⟨_, rfl, hx, rfl⟩
              · obtain ⟨h0, -⟩ := hs
                replace h0 : ρ (.tmp 150) = .tuple #[.int .i64 hv, .int .i64 0] := h0
                go_simp
                exact ⟨Ext.refl _, rfl⟩
              · obtain ⟨h0, -⟩ := hs
                replace h0 : ρ (.tmp 146) = .tuple #[.int .i64 hv, .int .i64 0] := h0
                go_simp
                exact ⟨Ext.refl _, rfl⟩
              · obtain ⟨h0, -⟩ := hs
                replace h0 : ρ (.tmp 146) = .tuple #[.int .i64 hv, .int .i64 0] := h0
                go_simp
                exact ⟨Ext.refl _, rfl⟩
              · obtain ⟨h0, -⟩ := hs
                replace h0 : ρ (.tmp 151) = .int .i64 (hv) := h0
                go_simp
                exact ⟨Ext.refl _, rfl⟩
              · obtain ⟨h0, -⟩ := hs
                replace h0 : ρ (.tmp 152) = .int .i64 (0) := h0
                go_simp
                exact ⟨Ext.refl _, rfl⟩
            · intro fv W6 hF hs
              obtain ⟨-, -, -, -, -, -, -, h10, h11, -⟩ := hs
              replace h10 : fv 10 = .int .i64 (hv) := h10
              replace h11 : fv 11 = .int .i64 (0) := h11
              simp only [fin, List.filterMap]
              go_simp
              replace HI := Lib.hid (HI.out.ext hF)
              replace KQ := Lib.hid (KQ.out.ext hF)
              clear hF h10 h11
              clear y0 y1 y2 y3 y4 y5 y6 y7 x0 x1 x2 x3 x4 x5 x6 v0 v1 v2 v3
              clear m0 m1 m2 m3 m4 m5 m6
              have y0 : W6.cell? ⟨w.heap.size, 0, none⟩ = some (.slice A0 n0 c0) := HI.out.k0.cell 0
              have y1 : W6.cell? ⟨w.heap.size, 1, none⟩ = some (.slice A1 n1 c1) := HI.out.k0.cell 1
              have y2 : W6.cell? ⟨w.heap.size, 2, none⟩ = some (.slice A2 n2 c2) := HI.out.k0.cell 2
              have y3 : W6.cell? ⟨w.heap.size, 3, none⟩ = some (.slice A3 n3 c3) := HI.out.k0.cell 3
              have y4 : W6.cell? ⟨w.heap.size, 4, none⟩ = some (.int .i64 r.h0) := HI.out.k0.cell 4
              have y5 : W6.cell? ⟨w.heap.size, 5, none⟩ = some (.int .i64 r.h1) := HI.out.k0.cell 5
              have y6 : W6.cell? ⟨w.heap.size, 6, none⟩ = some (.int .i64 r.h2) := HI.out.k0.cell 6
              have y7 : W6.cell? ⟨w.heap.size, 7, none⟩ = some (.int .i64 r.h3) := HI.out.k0.cell 7
              have x0 : W6.cell? ⟨w.heap.size + 1, 0, none⟩ = some (.int .i64 z.p) := HI.out.k1.cell 0
              have x1 : W6.cell? ⟨w.heap.size + 1, 1, none⟩ = some (.int .i64 z.a) := HI.out.k1.cell 1
              have x2 : W6.cell? ⟨w.heap.size + 1, 2, none⟩ = some (.int .i64 z.b) := HI.out.k1.cell 2
              have x3 : W6.cell? ⟨w.heap.size + 1, 3, none⟩ = some (.int .i64 z.m) := HI.out.k1.cell 3
              have x4 : W6.cell? ⟨w.heap.size + 1, 4, none⟩ = some (.int .i64 z.wt) := HI.out.k1.cell 4
              have x5 : W6.cell? ⟨w.heap.size + 1, 5, none⟩ = some (.int .i64 z.g) := HI.out.k1.cell 5
              have x6 : W6.cell? ⟨w.heap.size + 1, 6, none⟩ = some (.int .i64 z.t) := HI.out.k1.cell 6
              have v0 : W6.cell? ⟨w.heap.size + 1 + 1, 0, none⟩ = some (.slice (some ⟨b, o, none⟩) n cb) := HI.out.k2.cell 0
              have v1 : W6.cell? ⟨w.heap.size + 1 + 1, 1, none⟩ = some (.int .i64 k.h) := HI.out.k2.cell 1
              have v2 : W6.cell? ⟨w.heap.size + 1 + 1, 2, none⟩ = some (.int .i64 k.c) := HI.out.k2.cell 2
              have v3 : W6.cell? ⟨w.heap.size + 1 + 1, 3, none⟩ = some (.int .i64 k.d) := HI.out.k2.cell 3
              go_wp2_with (go_at_call 34; refine (HW.out _).mono ?_; rintro e W7 ⟨rfl, hx⟩; have X7 := Lib.hid hx; clear hx; refine Hid.out ?_)
              refine Lib.hid ?_
              replace HI := Lib.hid (HI.out.ext X7.out)
              replace KQ := Lib.hid (KQ.out.ext X7.out)
              clear y0 y1 y2 y3 y4 y5 y6 y7 x0 x1 x2 x3 x4 x5 x6 v0 v1 v2 v3
              have y0 : W7.cell? ⟨w.heap.size, 0, none⟩ = some (.slice A0 n0 c0) := HI.out.k0.cell 0
              have y1 : W7.cell? ⟨w.heap.size, 1, none⟩ = some (.slice A1 n1 c1) := HI.out.k0.cell 1
              have y2 : W7.cell? ⟨w.heap.size, 2, none⟩ = some (.slice A2 n2 c2) := HI.out.k0.cell 2
              have y3 : W7.cell? ⟨w.heap.size, 3, none⟩ = some (.slice A3 n3 c3) := HI.out.k0.cell 3
              have y4 : W7.cell? ⟨w.heap.size, 4, none⟩ = some (.int .i64 r.h0) := HI.out.k0.cell 4
              have y5 : W7.cell? ⟨w.heap.size, 5, none⟩ = some (.int .i64 r.h1) := HI.out.k0.cell 5
              have y6 : W7.cell? ⟨w.heap.size, 6, none⟩ = some (.int .i64 r.h2) := HI.out.k0.cell 6
              have y7 : W7.cell? ⟨w.heap.size, 7, none⟩ = some (.int .i64 r.h3) := HI.out.k0.cell 7
              have x0 : W7.cell? ⟨w.heap.size + 1, 0, none⟩ = some (.int .i64 z.p) := HI.out.k1.cell 0
              have x1 : W7.cell? ⟨w.heap.size + 1, 1, none⟩ = some (.int .i64 z.a) := HI.out.k1.cell 1
              have x2 : W7.cell? ⟨w.heap.size + 1, 2, none⟩ = some (.int .i64 z.b) := HI.out.k1.cell 2
              have x3 : W7.cell? ⟨w.heap.size + 1, 3, none⟩ = some (.int .i64 z.m) := HI.out.k1.cell 3
              have x4 : W7.cell? ⟨w.heap.size + 1, 4, none⟩ = some (.int .i64 z.wt) := HI.out.k1.cell 4
              have x5 : W7.cell? ⟨w.heap.size + 1, 5, none⟩ = some (.int .i64 z.g) := HI.out.k1.cell 5
              have x6 : W7.cell? ⟨w.heap.size + 1, 6, none⟩ = some (.int .i64 z.t) := HI.out.k1.cell 6
              have v0 : W7.cell? ⟨w.heap.size + 1 + 1, 0, none⟩ = some (.slice (some ⟨b, o, none⟩) n cb) := HI.out.k2.cell 0
              have v1 : W7.cell? ⟨w.heap.size + 1 + 1, 1, none⟩ = some (.int .i64 k.h) := HI.out.k2.cell 1
              have v2 : W7.cell? ⟨w.heap.size + 1 + 1, 2, none⟩ = some (.int .i64 k.c) := HI.out.k2.cell 2
              have v3 : W7.cell? ⟨w.heap.size + 1 + 1, 3, none⟩ = some (.int .i64 k.d) := HI.out.k2.cell 3
              have xf0 := HI.out.k1.free 0
              have xf1 := HI.out.k1.free 1
              have xf2 := HI.out.k1.free 2
              have xf3 := HI.out.k1.free 3
              have xf4 := HI.out.k1.free 4
              have xf5 := HI.out.k1.free 5
              have xf6 := HI.out.k1.free 6
              have m0 : W7.cell? ⟨q, 0, none⟩ = some (.int .i64 y.p) := KQ.out.cell 0
              have m1 : W7.cell? ⟨q, 1, none⟩ = some (.int .i64 y.a) := KQ.out.cell 1
              have m2 : W7.cell? ⟨q, 2, none⟩ = some (.int .i64 y.b) := KQ.out.cell 2
              have m3 : W7.cell? ⟨q, 3, none⟩ = some (.int .i64 y.m) := KQ.out.cell 3
              have m4 : W7.cell? ⟨q, 4, none⟩ = some (.int .i64 y.wt) := KQ.out.cell 4
              have m5 : W7.cell? ⟨q, 5, none⟩ = some (.int .i64 y.g) := KQ.out.cell 5
              have m6 : W7.cell? ⟨q, 6, none⟩ = some (.int .i64 y.t) := KQ.out.cell 6
              go_wp2
              go_roundw
              case rel => exact ⟨j + 1, y, by omega, by go_num, HYK.out, HI.out.step⟩
              case measure => simp [intOf]; omega
          · obtain ⟨a1, a2, a3, a4, a5⟩ := HCOOL.out hh
            have e1 : (y.p != z.p) = false := by simp [a1]
            have e2 : ¬ y.m < z.m := by omega
            have e3 : ¬ y.b < z.b := by omega
            have e4 : (y.g != z.g) = false := by simp [a4]
            have e5 : ¬ y.t < z.t := by omega
            clear a1 a2 a3 a4 a5
            obtain ⟨g, l, hg⟩ : ∃ g l, r.hs = g :: l := by
              cases h9 : r.hs with
              | nil => have := HIN.out.at.l0; rw [h9] at this; simp at this; omega
              | cons g l => exact ⟨g, l, rfl⟩
            have hge : x < g.k := by
              unfold hotB at hh
              rw [hg] at hh
              simpa using hh
            have hn0 : 0 < n0 := by omega
            obtain ⟨bh, oh, hAh, hbh, hch⟩ := HIN.out.at.r0.2 0 g (by rw [hg]; rfl)
            subst hAh
            have gk : W4.cell? ⟨bh, oh, none⟩ = some (.int .i64 g.k) := HI.out.e.cell (by have := hch 0 _ rfl; simpa using this)
            have d0 : decide (0 < n0) = true := decide_eq_true hn0
            have d1 : (0 : Int) < (n0 : Int) := by omega
            have d2 : decide (g.k ≤ x) = false := decide_eq_false (by omega)
            clear hbh hch hg hh
            go_wp2
            go_quiet (fail)
            go_wp2
            obtain ⟨W5, hW5⟩ : ∃ W, W = W4.drewN nq := ⟨_, rfl⟩
            have X5 := Lib.hid (show Ext W4 W5 by rw [hW5]; exact Ext.drewN _ _)
            rw [← hW5]
            clear hW5
            clear y0 y1 y2 y3 y4 y5 y6 y7 x0 x1 x2 x3 x4 x5 x6 v0 v1 v2 v3
            clear m0 m1 m2 m3 m4 m5 m6
            replace HI := Lib.hid (HI.out.ext X5.out)
            replace KQ := Lib.hid (KQ.out.ext X5.out)
            have y0 : W5.cell? ⟨w.heap.size, 0, none⟩ = some (.slice (some ⟨bh, oh, none⟩) n0 c0) := HI.out.k0.cell 0
            have y1 : W5.cell? ⟨w.heap.size, 1, none⟩ = some (.slice A1 n1 c1) := HI.out.k0.cell 1
            have y2 : W5.cell? ⟨w.heap.size, 2, none⟩ = some (.slice A2 n2 c2) := HI.out.k0.cell 2
            have y3 : W5.cell? ⟨w.heap.size, 3, none⟩ = some (.slice A3 n3 c3) := HI.out.k0.cell 3
            have y4 : W5.cell? ⟨w.heap.size, 4, none⟩ = some (.int .i64 r.h0) := HI.out.k0.cell 4
            have y5 : W5.cell? ⟨w.heap.size, 5, none⟩ = some (.int .i64 r.h1) := HI.out.k0.cell 5
            have y6 : W5.cell? ⟨w.heap.size, 6, none⟩ = some (.int .i64 r.h2) := HI.out.k0.cell 6
            have y7 : W5.cell? ⟨w.heap.size, 7, none⟩ = some (.int .i64 r.h3) := HI.out.k0.cell 7
            have x0 : W5.cell? ⟨w.heap.size + 1, 0, none⟩ = some (.int .i64 z.p) := HI.out.k1.cell 0
            have x1 : W5.cell? ⟨w.heap.size + 1, 1, none⟩ = some (.int .i64 z.a) := HI.out.k1.cell 1
            have x2 : W5.cell? ⟨w.heap.size + 1, 2, none⟩ = some (.int .i64 z.b) := HI.out.k1.cell 2
            have x3 : W5.cell? ⟨w.heap.size + 1, 3, none⟩ = some (.int .i64 z.m) := HI.out.k1.cell 3
            have x4 : W5.cell? ⟨w.heap.size + 1, 4, none⟩ = some (.int .i64 z.wt) := HI.out.k1.cell 4
            have x5 : W5.cell? ⟨w.heap.size + 1, 5, none⟩ = some (.int .i64 z.g) := HI.out.k1.cell 5
            have x6 : W5.cell? ⟨w.heap.size + 1, 6, none⟩ = some (.int .i64 z.t) := HI.out.k1.cell 6
            have v0 : W5.cell? ⟨w.heap.size + 1 + 1, 0, none⟩ = some (.slice (some ⟨b, o, none⟩) n cb) := HI.out.k2.cell 0
            have v1 : W5.cell? ⟨w.heap.size + 1 + 1, 1, none⟩ = some (.int .i64 k.h) := HI.out.k2.cell 1
            have v2 : W5.cell? ⟨w.heap.size + 1 + 1, 2, none⟩ = some (.int .i64 k.c) := HI.out.k2.cell 2
            have v3 : W5.cell? ⟨w.heap.size + 1 + 1, 3, none⟩ = some (.int .i64 k.d) := HI.out.k2.cell 3
            have m0 : W5.cell? ⟨q, 0, none⟩ = some (.int .i64 y.p) := KQ.out.cell 0
            have m1 : W5.cell? ⟨q, 1, none⟩ = some (.int .i64 y.a) := KQ.out.cell 1
            have m2 : W5.cell? ⟨q, 2, none⟩ = some (.int .i64 y.b) := KQ.out.cell 2
            have m3 : W5.cell? ⟨q, 3, none⟩ = some (.int .i64 y.m) := KQ.out.cell 3
            have m4 : W5.cell? ⟨q, 4, none⟩ = some (.int .i64 y.wt) := KQ.out.cell 4
            have m5 : W5.cell? ⟨q, 5, none⟩ = some (.int .i64 y.g) := KQ.out.cell 5
            have m6 : W5.cell? ⟨q, 6, none⟩ = some (.int .i64 y.t) := KQ.out.cell 6
            refine wp_region_each [some 147, some 148, some 149, some 150, some 146, some 151, some 152, some 10, some 11] [[3], [147], [8], [148, 149], [150], [146], [146], [151], [152]]
              [Is (.agg #[.slice (some ⟨bh, oh, none⟩) n0 c0, .slice A1 n1 c1, .slice A2 n2 c2, .slice A3 n3 c3, .int .i64 (r.h0), .int .i64 (r.h1), .int .i64 (r.h2), .int .i64 (r.h3)]), RuV r, Is (.agg #[.int .i64 (y.p), .int .i64 (y.a), .int .i64 (y.b), .int .i64 (y.m), .int .i64 (y.wt), .int .i64 (y.g), .int .i64 (y.t)]), Is (.tuple #[.int .i64 hv, .int .i64 0]), Is (.tuple #[.int .i64 hv, .int .i64 0]), Is (.int .i64 (hv)), Is (.int .i64 (0)), Is (.int .i64 (hv)), Is (.int .i64 (0))]
              (by kernel_rfl) (by kernel_rfl) (by kernel_rfl) (by kernel_rfl) (by kernel_rfl) Ext (fun W => Ext W5 W)
              (fun W _ => Ext.refl W) (fun W W' h k => h.trans k) ?_ (Ext.drew _) ?_ ?_
            · repeat (refine ⟨fun _ _ _ _ k h => (by first | exact h | exact (by first | exact RuV.ext h k | exact Fresh30.ext h k)), ?_⟩)
              exact trivial
            · refine ⟨?_, ?_, ?_, ?_, ?_, ?_, ?_, ?_, ?_, trivial⟩
              all_goals intro ρ W ⟨kc, kg, kf⟩ hF hs
              · obtain ⟨h0, -⟩ := hs
                replace h0 : ρ (.tmp 3) = .pointer (some ⟨w.heap.size, 0, none⟩) := h0
                have hc0 : W.cell? ⟨w.heap.size, 0, none⟩ = some (.slice (some ⟨bh, oh, none⟩) n0 c0) := hF.cell (by assumption)
                have hc1 : W.cell? ⟨w.heap.size, 1, none⟩ = some (.slice A1 n1 c1) := hF.cell (by assumption)
                have hc2 : W.cell? ⟨w.heap.size, 2, none⟩ = some (.slice A2 n2 c2) := hF.cell (by assumption)
                have hc3 : W.cell? ⟨w.heap.size, 3, none⟩ = some (.slice A3 n3 c3) := hF.cell (by assumption)
                have hc4 : W.cell? ⟨w.heap.size, 4, none⟩ = some (.int .i64 (r.h0)) := hF.cell (by assumption)
                have hc5 : W.cell? ⟨w.heap.size, 5, none⟩ = some (.int .i64 (r.h1)) := hF.cell (by assumption)
                have hc6 : W.cell? ⟨w.heap.size, 6, none⟩ = some (.int .i64 (r.h2)) := hF.cell (by assumption)
                have hc7 : W.cell? ⟨w.heap.size, 7, none⟩ = some (.int .i64 (r.h3)) := hF.cell (by assumption)
                go_simp
                exact ⟨Ext.refl _, rfl⟩
              · obtain ⟨h0, -⟩ := hs
                replace h0 : ρ (.tmp 147) = .agg #[.slice (some ⟨bh, oh, none⟩) n0 c0, .slice A1 n1 c1, .slice A2 n2 c2, .slice A3 n3 c3, .int .i64 (r.h0), .int .i64 (r.h1), .int .i64 (r.h2), .int .i64 (r.h3)] := h0
                go_simp
                refine (copyRules_any (HIN.out.ext (HI.out.e.trans hF))).mono ?_; rintro e w' ⟨v, rfl, hx, hv⟩; exact ⟨_, rfl, hx, hv⟩
              · obtain ⟨h0, -⟩ := hs
                replace h0 : ρ (.tmp 8) = .pointer (some ⟨q, 0, none⟩) := h0
                have hc0 : W.cell? ⟨q, 0, none⟩ = some (.int .i64 (y.p)) := hF.cell (by assumption)
                have hc1 : W.cell? ⟨q, 1, none⟩ = some (.int .i64 (y.a)) := hF.cell (by assumption)
                have hc2 : W.cell? ⟨q, 2, none⟩ = some (.int .i64 (y.b)) := hF.cell (by assumption)
                have hc3 : W.cell? ⟨q, 3, none⟩ = some (.int .i64 (y.m)) := hF.cell (by assumption)
                have hc4 : W.cell? ⟨q, 4, none⟩ = some (.int .i64 (y.wt)) := hF.cell (by assumption)
                have hc5 : W.cell? ⟨q, 5, none⟩ = some (.int .i64 (y.g)) := hF.cell (by assumption)
                have hc6 : W.cell? ⟨q, 6, none⟩ = some (.int .i64 (y.t)) := hF.cell (by assumption)
                go_simp
                exact ⟨Ext.refl _, rfl⟩
              · obtain ⟨h0, h1, -⟩ := hs
                replace h0 : (RuV r) (ρ (.tmp 148)) W := h0
                replace h1 : ρ (.tmp 149) = .agg #[.int .i64 (y.p), .int .i64 (y.a), .int .i64 (y.b), .int .i64 (y.m), .int .i64 (y.wt), .int .i64 (y.g), .int .i64 (y.t)] := h1
                go_simp
                refine (HHD.out _ _ h0).mono ?_; rintro e w' ⟨rfl, hx⟩; exact ⟨_, rfl, hx, rfl⟩
              · obtain ⟨h0, -⟩ := hs
                replace h0 : ρ (.tmp 150) = .tuple #[.int .i64 hv, .int .i64 0] := h0
                go_simp
                exact ⟨Ext.refl _, rfl⟩
              · obtain ⟨h0, -⟩ := hs
                replace h0 : ρ (.tmp 146) = .tuple #[.int .i64 hv, .int .i64 0] := h0
                go_simp
                exact ⟨Ext.refl _, rfl⟩
              · obtain ⟨h0, -⟩ := hs
                replace h0 : ρ (.tmp 146) = .tuple #[.int .i64 hv, .int .i64 0] := h0
                go_simp
                exact ⟨Ext.refl _, rfl⟩
              · obtain ⟨h0, -⟩ := hs
                replace h0 : ρ (.tmp 151) = .int .i64 (hv) := h0
                go_simp
                exact ⟨Ext.refl _, rfl⟩
              · obtain ⟨h0, -⟩ := hs
                replace h0 : ρ (.tmp 152) = .int .i64 (0) := h0
                go_simp
                exact ⟨Ext.refl _, rfl⟩
            · intro fv W6 hF hs
              obtain ⟨-, -, -, -, -, -, -, h10, h11, -⟩ := hs
              replace h10 : fv 10 = .int .i64 (hv) := h10
              replace h11 : fv 11 = .int .i64 (0) := h11
              simp only [fin, List.filterMap]
              go_simp
              replace HI := Lib.hid (HI.out.ext hF)
              replace KQ := Lib.hid (KQ.out.ext hF)
              clear hF h10 h11
              clear y0 y1 y2 y3 y4 y5 y6 y7 x0 x1 x2 x3 x4 x5 x6 v0 v1 v2 v3
              clear m0 m1 m2 m3 m4 m5 m6
              have y0 : W6.cell? ⟨w.heap.size, 0, none⟩ = some (.slice (some ⟨bh, oh, none⟩) n0 c0) := HI.out.k0.cell 0
              have y1 : W6.cell? ⟨w.heap.size, 1, none⟩ = some (.slice A1 n1 c1) := HI.out.k0.cell 1
              have y2 : W6.cell? ⟨w.heap.size, 2, none⟩ = some (.slice A2 n2 c2) := HI.out.k0.cell 2
              have y3 : W6.cell? ⟨w.heap.size, 3, none⟩ = some (.slice A3 n3 c3) := HI.out.k0.cell 3
              have y4 : W6.cell? ⟨w.heap.size, 4, none⟩ = some (.int .i64 r.h0) := HI.out.k0.cell 4
              have y5 : W6.cell? ⟨w.heap.size, 5, none⟩ = some (.int .i64 r.h1) := HI.out.k0.cell 5
              have y6 : W6.cell? ⟨w.heap.size, 6, none⟩ = some (.int .i64 r.h2) := HI.out.k0.cell 6
              have y7 : W6.cell? ⟨w.heap.size, 7, none⟩ = some (.int .i64 r.h3) := HI.out.k0.cell 7
              have x0 : W6.cell? ⟨w.heap.size + 1, 0, none⟩ = some (.int .i64 z.p) := HI.out.k1.cell 0
              have x1 : W6.cell? ⟨w.heap.size + 1, 1, none⟩ = some (.int .i64 z.a) := HI.out.k1.cell 1
              have x2 : W6.cell? ⟨w.heap.size + 1, 2, none⟩ = some (.int .i64 z.b) := HI.out.k1.cell 2
              have x3 : W6.cell? ⟨w.heap.size + 1, 3, none⟩ = some (.int .i64 z.m) := HI.out.k1.cell 3
              have x4 : W6.cell? ⟨w.heap.size + 1, 4, none⟩ = some (.int .i64 z.wt) := HI.out.k1.cell 4
              have x5 : W6.cell? ⟨w.heap.size + 1, 5, none⟩ = some (.int .i64 z.g) := HI.out.k1.cell 5
              have x6 : W6.cell? ⟨w.heap.size + 1, 6, none⟩ = some (.int .i64 z.t) := HI.out.k1.cell 6
              have v0 : W6.cell? ⟨w.heap.size + 1 + 1, 0, none⟩ = some (.slice (some ⟨b, o, none⟩) n cb) := HI.out.k2.cell 0
              have v1 : W6.cell? ⟨w.heap.size + 1 + 1, 1, none⟩ = some (.int .i64 k.h) := HI.out.k2.cell 1
              have v2 : W6.cell? ⟨w.heap.size + 1 + 1, 2, none⟩ = some (.int .i64 k.c) := HI.out.k2.cell 2
              have v3 : W6.cell? ⟨w.heap.size + 1 + 1, 3, none⟩ = some (.int .i64 k.d) := HI.out.k2.cell 3
              go_wp2_with (go_at_call 34; refine (HW.out _).mono ?_; rintro e W7 ⟨rfl, hx⟩; have X7 := Lib.hid hx; clear hx; refine Hid.out ?_)
              refine Lib.hid ?_
              replace HI := Lib.hid (HI.out.ext X7.out)
              replace KQ := Lib.hid (KQ.out.ext X7.out)
              clear y0 y1 y2 y3 y4 y5 y6 y7 x0 x1 x2 x3 x4 x5 x6 v0 v1 v2 v3
              have y0 : W7.cell? ⟨w.heap.size, 0, none⟩ = some (.slice (some ⟨bh, oh, none⟩) n0 c0) := HI.out.k0.cell 0
              have y1 : W7.cell? ⟨w.heap.size, 1, none⟩ = some (.slice A1 n1 c1) := HI.out.k0.cell 1
              have y2 : W7.cell? ⟨w.heap.size, 2, none⟩ = some (.slice A2 n2 c2) := HI.out.k0.cell 2
              have y3 : W7.cell? ⟨w.heap.size, 3, none⟩ = some (.slice A3 n3 c3) := HI.out.k0.cell 3
              have y4 : W7.cell? ⟨w.heap.size, 4, none⟩ = some (.int .i64 r.h0) := HI.out.k0.cell 4
              have y5 : W7.cell? ⟨w.heap.size, 5, none⟩ = some (.int .i64 r.h1) := HI.out.k0.cell 5
              have y6 : W7.cell? ⟨w.heap.size, 6, none⟩ = some (.int .i64 r.h2) := HI.out.k0.cell 6
              have y7 : W7.cell? ⟨w.heap.size, 7, none⟩ = some (.int .i64 r.h3) := HI.out.k0.cell 7
              have x0 : W7.cell? ⟨w.heap.size + 1, 0, none⟩ = some (.int .i64 z.p) := HI.out.k1.cell 0
              have x1 : W7.cell? ⟨w.heap.size + 1, 1, none⟩ = some (.int .i64 z.a) := HI.out.k1.cell 1
              have x2 : W7.cell? ⟨w.heap.size + 1, 2, none⟩ = some (.int .i64 z.b) := HI.out.k1.cell 2
              have x3 : W7.cell? ⟨w.heap.size + 1, 3, none⟩ = some (.int .i64 z.m) := HI.out.k1.cell 3
              have x4 : W7.cell? ⟨w.heap.size + 1, 4, none⟩ = some (.int .i64 z.wt) := HI.out.k1.cell 4
              have x5 : W7.cell? ⟨w.heap.size + 1, 5, none⟩ = some (.int .i64 z.g) := HI.out.k1.cell 5
              have x6 : W7.cell? ⟨w.heap.size + 1, 6, none⟩ = some (.int .i64 z.t) := HI.out.k1.cell 6
              have v0 : W7.cell? ⟨w.heap.size + 1 + 1, 0, none⟩ = some (.slice (some ⟨b, o, none⟩) n cb) := HI.out.k2.cell 0
              have v1 : W7.cell? ⟨w.heap.size + 1 + 1, 1, none⟩ = some (.int .i64 k.h) := HI.out.k2.cell 1
              have v2 : W7.cell? ⟨w.heap.size + 1 + 1, 2, none⟩ = some (.int .i64 k.c) := HI.out.k2.cell 2
              have v3 : W7.cell? ⟨w.heap.size + 1 + 1, 3, none⟩ = some (.int .i64 k.d) := HI.out.k2.cell 3
              have xf0 := HI.out.k1.free 0
              have xf1 := HI.out.k1.free 1
              have xf2 := HI.out.k1.free 2
              have xf3 := HI.out.k1.free 3
              have xf4 := HI.out.k1.free 4
              have xf5 := HI.out.k1.free 5
              have xf6 := HI.out.k1.free 6
              have m0 : W7.cell? ⟨q, 0, none⟩ = some (.int .i64 y.p) := KQ.out.cell 0
              have m1 : W7.cell? ⟨q, 1, none⟩ = some (.int .i64 y.a) := KQ.out.cell 1
              have m2 : W7.cell? ⟨q, 2, none⟩ = some (.int .i64 y.b) := KQ.out.cell 2
              have m3 : W7.cell? ⟨q, 3, none⟩ = some (.int .i64 y.m) := KQ.out.cell 3
              have m4 : W7.cell? ⟨q, 4, none⟩ = some (.int .i64 y.wt) := KQ.out.cell 4
              have m5 : W7.cell? ⟨q, 5, none⟩ = some (.int .i64 y.g) := KQ.out.cell 5
              have m6 : W7.cell? ⟨q, 6, none⟩ = some (.int .i64 y.t) := KQ.out.cell 6
              go_wp2
              go_roundw
              case rel => exact ⟨j + 1, y, by omega, by go_num, HYK.out, HI.out.step⟩
              case measure => simp [intOf]; omega
    · go_wp2
      go_ret
      exact ⟨rfl, HI.out.e⟩

end Go.Proofs.YtkmekbafjnlfkaaGreat
