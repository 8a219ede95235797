/- SteelFaster where all premises hold. -/
import Derived.Test.YtkmekbafjnlfkaaGreatS54

namespace Go.Proofs.YtkmekbafjnlfkaaGreat
open Go.RowKit Go.Shelf Go.Mem Go.RegInv
attribute [local go_sem] RelUpon_value RelUpon_skip RelUpon_enter BigFrame.eval_const BigFrame.eval_global BigFrame.eval_func

theorem pick_ok {k : Pk} (h : pickE k.h k.c k.d = 0) : PkOK k := by
  have h4 := rangeE_zeros (show rangeE 0 1000 [k.h, k.c, k.d] = 0 from h)
  have a := h4 k.h (by simp)
  have b := h4 k.c (by simp)
  have c := h4 k.d (by simp)
  exact ⟨a.1, a.2, b.1, b.2, c.1, c.2⟩
set_option maxRecDepth 100000 in
set_option maxHeartbeats 16000000 in
theorem faster_ok {r : Ru} {A0 A1 A2 A3 B : Option Addr} {n0 n1 n2 n3 c0 c1 c2 c3 n cb : Nat} {xs : List Int} {w : World} (s : St) (k l : Pk) (hR : RuIn r (.agg #[.slice A0 n0 c0, .slice A1 n1 c1, .slice A2 n2 c2, .slice A3 n3 c3, .int .i64 r.h0, .int .i64 r.h1, .int .i64 r.h2, .int .i64 r.h3]) w) (h10 : n0 ≤ 10 ∧ n1 ≤ 10 ∧ n2 ≤ 10 ∧ n3 ≤ 10) (hn30 : ¬ (30 : Int) < (n : Int)) (hn : xs.length = n) (hB : RowsAt 1 encI w B xs) (hnil : B = none → cb = 0) (hr : rulesE r = 0) (hs : stateE [s.p, s.a, s.b, s.m, s.wt, s.g, s.t] = 0) (hc : curveE xs = 0) (hp : pickE k.h k.c k.d = 0) (hq : pickE l.h l.c l.d = 0) :
    Calls Tryz.prog 6 #[.agg #[.slice A0 n0 c0, .slice A1 n1 c1, .slice A2 n2 c2, .slice A3 n3 c3, .int .i64 r.h0, .int .i64 r.h1, .int .i64 r.h2, .int .i64 r.h3], .agg #[.int .i64 s.p, .int .i64 s.a, .int .i64 s.b, .int .i64 s.m, .int .i64 s.wt, .int .i64 s.g, .int .i64 s.t], .agg #[.slice B n cb, .int .i64 k.h, .int .i64 k.c, .int .i64 k.d, .int .i64 l.h, .int .i64 l.c, .int .i64 l.d]] w fun e w' => e = .returned (.bool true) ∧ Ext w w' := by
  have HIN := Lib.hid hR
  have hn31 : decide ((30 : Int) < (n : Int)) = false := decide_eq_false hn30
  have HX := Lib.hid hB
  have HN := Lib.hid hn
  have HNIL := Lib.hid hnil
  have HRE := Lib.hid (fun (W : World) (e : Ext w W) => rulesErr_any (c0 := c0) (c1 := c1) (c2 := c2) (c3 := c3) (hR.at.ext e) h10)
  have HSE := Lib.hid (fun W => stateErr_any s.p s.a s.b s.m s.wt s.g s.t W)
  have HCE := Lib.hid (fun (W : World) (e : Ext w W) => curveErr_any (ca := cb) (rowsI_ints hn (hB.ext e)))
  have HPE := Lib.hid (fun W => pickErr_any k.h k.c k.d W)
  have HQE := Lib.hid (fun W => pickErr_any l.h l.c l.d W)
  have HFEW := Lib.hid (fun W => show Calls Tryz.prog 14 #[.agg #[.slice A0 n0 c0, .slice A1 n1 c1, .slice A2 n2 c2, .slice A3 n3 c3, .int .i64 r.h0, .int .i64 r.h1, .int .i64 r.h2, .int .i64 r.h3]] W fun e w' => e = .returned (.bool true) ∧ Ext W w' by
    have := few_any A0 A1 A2 A3 n0 n1 n2 n3 c0 c1 c2 c3 r.h0 r.h1 r.h2 r.h3 W
    rw [decide_eq_true h10] at this
    exact this)
  obtain ⟨W0, hW0⟩ : ∃ W0, W0 = ((w.alloc (.cells #[.slice A0 n0 c0, .slice A1 n1 c1, .slice A2 n2 c2, .slice A3 n3 c3, .int .i64 r.h0, .int .i64 r.h1, .int .i64 r.h2, .int .i64 r.h3] 28)).alloc (.cells #[.int .i64 s.p, .int .i64 s.a, .int .i64 s.b, .int .i64 s.m, .int .i64 s.wt, .int .i64 s.g, .int .i64 s.t] 30)).alloc (.cells #[.slice B n cb, .int .i64 k.h, .int .i64 k.c, .int .i64 k.d, .int .i64 l.h, .int .i64 l.c, .int .i64 l.d] 71) := ⟨_, rfl⟩
  have HI := Lib.hid (show BoxI w W0 71 #[.slice A0 n0 c0, .slice A1 n1 c1, .slice A2 n2 c2, .slice A3 n3 c3, .int .i64 r.h0, .int .i64 r.h1, .int .i64 r.h2, .int .i64 r.h3] s #[.slice B n cb, .int .i64 k.h, .int .i64 k.c, .int .i64 k.d, .int .i64 l.h, .int .i64 l.c, .int .i64 l.d] by rw [hW0]; exact BoxI.new _ _ _ _ _)
  rw [hr] at HRE
  rw [hs] at HSE
  rw [hc] at HCE
  rw [hp] at HPE
  rw [hq] at HQE
  have HRA := Lib.hid (fun (u : Value) (W : World) (A : Option Addr) (c : Nat) (h : RuV r u W) (hx : IntsAt W (.slice A n c) xs) => show Calls Tryz.prog 24 #[u, .agg #[.int .i64 s.p, .int .i64 s.a, .int .i64 s.b, .int .i64 s.m, .int .i64 s.wt, .int .i64 s.g, .int .i64 s.t], .agg #[.slice A n c, .int .i64 k.h, .int .i64 k.c, .int .i64 k.d]] W fun e w' => e = .returned (.tuple #[.agg #[.int .i64 (runK r k s xs).p, .int .i64 (runK r k s xs).a, .int .i64 (runK r k s xs).b, .int .i64 (runK r k s xs).m, .int .i64 (runK r k s xs).wt, .int .i64 (runK r k s xs).g, .int .i64 (runK r k s xs).t], .int .i64 0]) ∧ Ext W w' by
    have := runOf_any h rulesOK s k hx
    rw [show runE r s xs k = 0 from firstE_none (by
      intro v hv
      simp only [List.mem_cons, List.not_mem_nil, or_false] at hv
      rcases hv with rfl | rfl | rfl | rfl
      · exact hr
      · exact hs
      · exact hc
      · exact hp), if_pos rfl] at this
    exact this)
  have HRB := Lib.hid (fun (u : Value) (W : World) (A : Option Addr) (c : Nat) (h : RuV r u W) (hx : IntsAt W (.slice A n c) xs) => show Calls Tryz.prog 24 #[u, .agg #[.int .i64 s.p, .int .i64 s.a, .int .i64 s.b, .int .i64 s.m, .int .i64 s.wt, .int .i64 s.g, .int .i64 s.t], .agg #[.slice A n c, .int .i64 l.h, .int .i64 l.c, .int .i64 l.d]] W fun e w' => e = .returned (.tuple #[.agg #[.int .i64 (runK r l s xs).p, .int .i64 (runK r l s xs).a, .int .i64 (runK r l s xs).b, .int .i64 (runK r l s xs).m, .int .i64 (runK r l s xs).wt, .int .i64 (runK r l s xs).g, .int .i64 (runK r l s xs).t], .int .i64 0]) ∧ Ext W w' by
    have := runOf_any h rulesOK s l hx
    rw [show runE r s xs l = 0 from firstE_none (by
      intro v hv
      simp only [List.mem_cons, List.not_mem_nil, or_false] at hv
      rcases hv with rfl | rfl | rfl | rfl
      · exact hr
      · exact hs
      · exact hc
      · exact hq), if_pos rfl] at this
    exact this)
  have HHA := Lib.hid (fun (h : xs.all (hotB r) = true) => (⟨fun q => hot_runs (rulesOK hr) (pick_ok hp) (pick_ok hq) q xs (state_ok hs) (state_ok hs) (Int.le_refl s.a) h, fun q => hot_runs (rulesOK hr) (pick_ok hq) (pick_ok hp) q xs (state_ok hs) (state_ok hs) (Int.le_refl s.a) h⟩ : (k.h ≤ l.h → (runK r k s xs).a ≤ (runK r l s xs).a) ∧ (l.h ≤ k.h → (runK r l s xs).a ≤ (runK r k s xs).a)))
  have HCA := Lib.hid (fun (h0 : n1 = 0) (h : xs.all (fun x => !hotB r x) = true) => (⟨fun q => cold_runs (rulesOK hr) (hR.at.l1.trans h0) (pick_ok hp) (pick_ok hq) q xs (state_ok hs) (state_ok hs) rfl (Int.le_refl s.m) h, fun q => cold_runs (rulesOK hr) (hR.at.l1.trans h0) (pick_ok hq) (pick_ok hp) q xs (state_ok hs) (state_ok hs) rfl (Int.le_refl s.m) h⟩ : (k.d ≤ l.d → (runK r k s xs).m ≤ (runK r l s xs).m) ∧ (l.d ≤ k.d → (runK r l s xs).m ≤ (runK r k s xs).m)))
  generalize runK r k s xs = ya at HRA HHA HCA
  generalize runK r l s xs = yb at HRB HHA HCA
  clear hr hs hc hp hq hR h10 hn hB hnil
  go_enter Tryz.func6, Tryz.ntmps6
  go_wp2_with (go_at_call 13; rw [← hW0]; refine (awake_any _).mono ?_; rintro e W1 ⟨rfl, hx⟩; have XT := Lib.hid hx; clear hx hW0; refine Hid.out ?_)
  refine Lib.hid ?_
  replace HI := Lib.hid (HI.out.ext XT.out)
  clear XT
  have y0 : W1.cell? ⟨w.heap.size, 0, none⟩ = some (.slice A0 n0 c0) := HI.out.k0.cell 0
  have y1 : W1.cell? ⟨w.heap.size, 1, none⟩ = some (.slice A1 n1 c1) := HI.out.k0.cell 1
  have y2 : W1.cell? ⟨w.heap.size, 2, none⟩ = some (.slice A2 n2 c2) := HI.out.k0.cell 2
  have y3 : W1.cell? ⟨w.heap.size, 3, none⟩ = some (.slice A3 n3 c3) := HI.out.k0.cell 3
  have y4 : W1.cell? ⟨w.heap.size, 4, none⟩ = some (.int .i64 r.h0) := HI.out.k0.cell 4
  have y5 : W1.cell? ⟨w.heap.size, 5, none⟩ = some (.int .i64 r.h1) := HI.out.k0.cell 5
  have y6 : W1.cell? ⟨w.heap.size, 6, none⟩ = some (.int .i64 r.h2) := HI.out.k0.cell 6
  have y7 : W1.cell? ⟨w.heap.size, 7, none⟩ = some (.int .i64 r.h3) := HI.out.k0.cell 7
  have x0 : W1.cell? ⟨w.heap.size + 1, 0, none⟩ = some (.int .i64 s.p) := HI.out.k1.cell 0
  have x1 : W1.cell? ⟨w.heap.size + 1, 1, none⟩ = some (.int .i64 s.a) := HI.out.k1.cell 1
  have x2 : W1.cell? ⟨w.heap.size + 1, 2, none⟩ = some (.int .i64 s.b) := HI.out.k1.cell 2
  have x3 : W1.cell? ⟨w.heap.size + 1, 3, none⟩ = some (.int .i64 s.m) := HI.out.k1.cell 3
  have x4 : W1.cell? ⟨w.heap.size + 1, 4, none⟩ = some (.int .i64 s.wt) := HI.out.k1.cell 4
  have x5 : W1.cell? ⟨w.heap.size + 1, 5, none⟩ = some (.int .i64 s.g) := HI.out.k1.cell 5
  have x6 : W1.cell? ⟨w.heap.size + 1, 6, none⟩ = some (.int .i64 s.t) := HI.out.k1.cell 6
  have v0 : W1.cell? ⟨w.heap.size + 1 + 1, 0, none⟩ = some (.slice B n cb) := HI.out.k2.cell 0
  have v1 : W1.cell? ⟨w.heap.size + 1 + 1, 1, none⟩ = some (.int .i64 k.h) := HI.out.k2.cell 1
  have v2 : W1.cell? ⟨w.heap.size + 1 + 1, 2, none⟩ = some (.int .i64 k.c) := HI.out.k2.cell 2
  have v3 : W1.cell? ⟨w.heap.size + 1 + 1, 3, none⟩ = some (.int .i64 k.d) := HI.out.k2.cell 3
  have v4 : W1.cell? ⟨w.heap.size + 1 + 1, 4, none⟩ = some (.int .i64 l.h) := HI.out.k2.cell 4
  have v5 : W1.cell? ⟨w.heap.size + 1 + 1, 5, none⟩ = some (.int .i64 l.c) := HI.out.k2.cell 5
  have v6 : W1.cell? ⟨w.heap.size + 1 + 1, 6, none⟩ = some (.int .i64 l.d) := HI.out.k2.cell 6
  go_wp2_with (go_at_call 14; refine (HFEW.out _).mono ?_; rintro e W2 ⟨rfl, hx⟩; have XT := Lib.hid hx; clear hx; refine Hid.out ?_)
  refine Lib.hid ?_
  replace HI := Lib.hid (HI.out.ext XT.out)
  clear XT
  clear y0 y1 y2 y3 y4 y5 y6 y7 x0 x1 x2 x3 x4 x5 x6 v0 v1 v2 v3 v4 v5 v6
  have y0 : W2.cell? ⟨w.heap.size, 0, none⟩ = some (.slice A0 n0 c0) := HI.out.k0.cell 0
  have y1 : W2.cell? ⟨w.heap.size, 1, none⟩ = some (.slice A1 n1 c1) := HI.out.k0.cell 1
  have y2 : W2.cell? ⟨w.heap.size, 2, none⟩ = some (.slice A2 n2 c2) := HI.out.k0.cell 2
  have y3 : W2.cell? ⟨w.heap.size, 3, none⟩ = some (.slice A3 n3 c3) := HI.out.k0.cell 3
  have y4 : W2.cell? ⟨w.heap.size, 4, none⟩ = some (.int .i64 r.h0) := HI.out.k0.cell 4
  have y5 : W2.cell? ⟨w.heap.size, 5, none⟩ = some (.int .i64 r.h1) := HI.out.k0.cell 5
  have y6 : W2.cell? ⟨w.heap.size, 6, none⟩ = some (.int .i64 r.h2) := HI.out.k0.cell 6
  have y7 : W2.cell? ⟨w.heap.size, 7, none⟩ = some (.int .i64 r.h3) := HI.out.k0.cell 7
  have x0 : W2.cell? ⟨w.heap.size + 1, 0, none⟩ = some (.int .i64 s.p) := HI.out.k1.cell 0
  have x1 : W2.cell? ⟨w.heap.size + 1, 1, none⟩ = some (.int .i64 s.a) := HI.out.k1.cell 1
  have x2 : W2.cell? ⟨w.heap.size + 1, 2, none⟩ = some (.int .i64 s.b) := HI.out.k1.cell 2
  have x3 : W2.cell? ⟨w.heap.size + 1, 3, none⟩ = some (.int .i64 s.m) := HI.out.k1.cell 3
  have x4 : W2.cell? ⟨w.heap.size + 1, 4, none⟩ = some (.int .i64 s.wt) := HI.out.k1.cell 4
  have x5 : W2.cell? ⟨w.heap.size + 1, 5, none⟩ = some (.int .i64 s.g) := HI.out.k1.cell 5
  have x6 : W2.cell? ⟨w.heap.size + 1, 6, none⟩ = some (.int .i64 s.t) := HI.out.k1.cell 6
  have v0 : W2.cell? ⟨w.heap.size + 1 + 1, 0, none⟩ = some (.slice B n cb) := HI.out.k2.cell 0
  have v1 : W2.cell? ⟨w.heap.size + 1 + 1, 1, none⟩ = some (.int .i64 k.h) := HI.out.k2.cell 1
  have v2 : W2.cell? ⟨w.heap.size + 1 + 1, 2, none⟩ = some (.int .i64 k.c) := HI.out.k2.cell 2
  have v3 : W2.cell? ⟨w.heap.size + 1 + 1, 3, none⟩ = some (.int .i64 k.d) := HI.out.k2.cell 3
  have v4 : W2.cell? ⟨w.heap.size + 1 + 1, 4, none⟩ = some (.int .i64 l.h) := HI.out.k2.cell 4
  have v5 : W2.cell? ⟨w.heap.size + 1 + 1, 5, none⟩ = some (.int .i64 l.c) := HI.out.k2.cell 5
  have v6 : W2.cell? ⟨w.heap.size + 1 + 1, 6, none⟩ = some (.int .i64 l.d) := HI.out.k2.cell 6
  go_wp2_with (go_at_call 28; refine (HRE.out _ HI.out.e).mono ?_; rintro e W3 ⟨rfl, hx⟩; have XT := Lib.hid hx; clear hx; refine Hid.out ?_)
  refine Lib.hid ?_
  replace HI := Lib.hid (HI.out.ext XT.out)
  clear XT
  clear y0 y1 y2 y3 y4 y5 y6 y7 x0 x1 x2 x3 x4 x5 x6 v0 v1 v2 v3 v4 v5 v6
  have y0 : W3.cell? ⟨w.heap.size, 0, none⟩ = some (.slice A0 n0 c0) := HI.out.k0.cell 0
  have y1 : W3.cell? ⟨w.heap.size, 1, none⟩ = some (.slice A1 n1 c1) := HI.out.k0.cell 1
  have y2 : W3.cell? ⟨w.heap.size, 2, none⟩ = some (.slice A2 n2 c2) := HI.out.k0.cell 2
  have y3 : W3.cell? ⟨w.heap.size, 3, none⟩ = some (.slice A3 n3 c3) := HI.out.k0.cell 3
  have y4 : W3.cell? ⟨w.heap.size, 4, none⟩ = some (.int .i64 r.h0) := HI.out.k0.cell 4
  have y5 : W3.cell? ⟨w.heap.size, 5, none⟩ = some (.int .i64 r.h1) := HI.out.k0.cell 5
  have y6 : W3.cell? ⟨w.heap.size, 6, none⟩ = some (.int .i64 r.h2) := HI.out.k0.cell 6
  have y7 : W3.cell? ⟨w.heap.size, 7, none⟩ = some (.int .i64 r.h3) := HI.out.k0.cell 7
  have x0 : W3.cell? ⟨w.heap.size + 1, 0, none⟩ = some (.int .i64 s.p) := HI.out.k1.cell 0
  have x1 : W3.cell? ⟨w.heap.size + 1, 1, none⟩ = some (.int .i64 s.a) := HI.out.k1.cell 1
  have x2 : W3.cell? ⟨w.heap.size + 1, 2, none⟩ = some (.int .i64 s.b) := HI.out.k1.cell 2
  have x3 : W3.cell? ⟨w.heap.size + 1, 3, none⟩ = some (.int .i64 s.m) := HI.out.k1.cell 3
  have x4 : W3.cell? ⟨w.heap.size + 1, 4, none⟩ = some (.int .i64 s.wt) := HI.out.k1.cell 4
  have x5 : W3.cell? ⟨w.heap.size + 1, 5, none⟩ = some (.int .i64 s.g) := HI.out.k1.cell 5
  have x6 : W3.cell? ⟨w.heap.size + 1, 6, none⟩ = some (.int .i64 s.t) := HI.out.k1.cell 6
  have v0 : W3.cell? ⟨w.heap.size + 1 + 1, 0, none⟩ = some (.slice B n cb) := HI.out.k2.cell 0
  have v1 : W3.cell? ⟨w.heap.size + 1 + 1, 1, none⟩ = some (.int .i64 k.h) := HI.out.k2.cell 1
  have v2 : W3.cell? ⟨w.heap.size + 1 + 1, 2, none⟩ = some (.int .i64 k.c) := HI.out.k2.cell 2
  have v3 : W3.cell? ⟨w.heap.size + 1 + 1, 3, none⟩ = some (.int .i64 k.d) := HI.out.k2.cell 3
  have v4 : W3.cell? ⟨w.heap.size + 1 + 1, 4, none⟩ = some (.int .i64 l.h) := HI.out.k2.cell 4
  have v5 : W3.cell? ⟨w.heap.size + 1 + 1, 5, none⟩ = some (.int .i64 l.c) := HI.out.k2.cell 5
  have v6 : W3.cell? ⟨w.heap.size + 1 + 1, 6, none⟩ = some (.int .i64 l.d) := HI.out.k2.cell 6
  go_wp2_with (go_at_call 19; refine (HSE.out _).mono ?_; rintro e W4 ⟨rfl, hx⟩; have XT := Lib.hid hx; clear hx; refine Hid.out ?_)
  refine Lib.hid ?_
  replace HI := Lib.hid (HI.out.ext XT.out)
  clear XT
  clear y0 y1 y2 y3 y4 y5 y6 y7 x0 x1 x2 x3 x4 x5 x6 v0 v1 v2 v3 v4 v5 v6
  have y0 : W4.cell? ⟨w.heap.size, 0, none⟩ = some (.slice A0 n0 c0) := HI.out.k0.cell 0
  have y1 : W4.cell? ⟨w.heap.size, 1, none⟩ = some (.slice A1 n1 c1) := HI.out.k0.cell 1
  have y2 : W4.cell? ⟨w.heap.size, 2, none⟩ = some (.slice A2 n2 c2) := HI.out.k0.cell 2
  have y3 : W4.cell? ⟨w.heap.size, 3, none⟩ = some (.slice A3 n3 c3) := HI.out.k0.cell 3
  have y4 : W4.cell? ⟨w.heap.size, 4, none⟩ = some (.int .i64 r.h0) := HI.out.k0.cell 4
  have y5 : W4.cell? ⟨w.heap.size, 5, none⟩ = some (.int .i64 r.h1) := HI.out.k0.cell 5
  have y6 : W4.cell? ⟨w.heap.size, 6, none⟩ = some (.int .i64 r.h2) := HI.out.k0.cell 6
  have y7 : W4.cell? ⟨w.heap.size, 7, none⟩ = some (.int .i64 r.h3) := HI.out.k0.cell 7
  have x0 : W4.cell? ⟨w.heap.size + 1, 0, none⟩ = some (.int .i64 s.p) := HI.out.k1.cell 0
  have x1 : W4.cell? ⟨w.heap.size + 1, 1, none⟩ = some (.int .i64 s.a) := HI.out.k1.cell 1
  have x2 : W4.cell? ⟨w.heap.size + 1, 2, none⟩ = some (.int .i64 s.b) := HI.out.k1.cell 2
  have x3 : W4.cell? ⟨w.heap.size + 1, 3, none⟩ = some (.int .i64 s.m) := HI.out.k1.cell 3
  have x4 : W4.cell? ⟨w.heap.size + 1, 4, none⟩ = some (.int .i64 s.wt) := HI.out.k1.cell 4
  have x5 : W4.cell? ⟨w.heap.size + 1, 5, none⟩ = some (.int .i64 s.g) := HI.out.k1.cell 5
  have x6 : W4.cell? ⟨w.heap.size + 1, 6, none⟩ = some (.int .i64 s.t) := HI.out.k1.cell 6
  have v0 : W4.cell? ⟨w.heap.size + 1 + 1, 0, none⟩ = some (.slice B n cb) := HI.out.k2.cell 0
  have v1 : W4.cell? ⟨w.heap.size + 1 + 1, 1, none⟩ = some (.int .i64 k.h) := HI.out.k2.cell 1
  have v2 : W4.cell? ⟨w.heap.size + 1 + 1, 2, none⟩ = some (.int .i64 k.c) := HI.out.k2.cell 2
  have v3 : W4.cell? ⟨w.heap.size + 1 + 1, 3, none⟩ = some (.int .i64 k.d) := HI.out.k2.cell 3
  have v4 : W4.cell? ⟨w.heap.size + 1 + 1, 4, none⟩ = some (.int .i64 l.h) := HI.out.k2.cell 4
  have v5 : W4.cell? ⟨w.heap.size + 1 + 1, 5, none⟩ = some (.int .i64 l.c) := HI.out.k2.cell 5
  have v6 : W4.cell? ⟨w.heap.size + 1 + 1, 6, none⟩ = some (.int .i64 l.d) := HI.out.k2.cell 6
  go_wp2_with (go_at_call 32; refine (HCE.out _ HI.out.e).mono ?_; rintro e W5 ⟨rfl, hx⟩; have XT := Lib.hid hx; clear hx; refine Hid.out ?_)
  refine Lib.hid ?_
  replace HI := Lib.hid (HI.out.ext XT.out)
  clear XT
  clear y0 y1 y2 y3 y4 y5 y6 y7 x0 x1 x2 x3 x4 x5 x6 v0 v1 v2 v3 v4 v5 v6
  have y0 : W5.cell? ⟨w.heap.size, 0, none⟩ = some (.slice A0 n0 c0) := HI.out.k0.cell 0
  have y1 : W5.cell? ⟨w.heap.size, 1, none⟩ = some (.slice A1 n1 c1) := HI.out.k0.cell 1
  have y2 : W5.cell? ⟨w.heap.size, 2, none⟩ = some (.slice A2 n2 c2) := HI.out.k0.cell 2
  have y3 : W5.cell? ⟨w.heap.size, 3, none⟩ = some (.slice A3 n3 c3) := HI.out.k0.cell 3
  have y4 : W5.cell? ⟨w.heap.size, 4, none⟩ = some (.int .i64 r.h0) := HI.out.k0.cell 4
  have y5 : W5.cell? ⟨w.heap.size, 5, none⟩ = some (.int .i64 r.h1) := HI.out.k0.cell 5
  have y6 : W5.cell? ⟨w.heap.size, 6, none⟩ = some (.int .i64 r.h2) := HI.out.k0.cell 6
  have y7 : W5.cell? ⟨w.heap.size, 7, none⟩ = some (.int .i64 r.h3) := HI.out.k0.cell 7
  have x0 : W5.cell? ⟨w.heap.size + 1, 0, none⟩ = some (.int .i64 s.p) := HI.out.k1.cell 0
  have x1 : W5.cell? ⟨w.heap.size + 1, 1, none⟩ = some (.int .i64 s.a) := HI.out.k1.cell 1
  have x2 : W5.cell? ⟨w.heap.size + 1, 2, none⟩ = some (.int .i64 s.b) := HI.out.k1.cell 2
  have x3 : W5.cell? ⟨w.heap.size + 1, 3, none⟩ = some (.int .i64 s.m) := HI.out.k1.cell 3
  have x4 : W5.cell? ⟨w.heap.size + 1, 4, none⟩ = some (.int .i64 s.wt) := HI.out.k1.cell 4
  have x5 : W5.cell? ⟨w.heap.size + 1, 5, none⟩ = some (.int .i64 s.g) := HI.out.k1.cell 5
  have x6 : W5.cell? ⟨w.heap.size + 1, 6, none⟩ = some (.int .i64 s.t) := HI.out.k1.cell 6
  have v0 : W5.cell? ⟨w.heap.size + 1 + 1, 0, none⟩ = some (.slice B n cb) := HI.out.k2.cell 0
  have v1 : W5.cell? ⟨w.heap.size + 1 + 1, 1, none⟩ = some (.int .i64 k.h) := HI.out.k2.cell 1
  have v2 : W5.cell? ⟨w.heap.size + 1 + 1, 2, none⟩ = some (.int .i64 k.c) := HI.out.k2.cell 2
  have v3 : W5.cell? ⟨w.heap.size + 1 + 1, 3, none⟩ = some (.int .i64 k.d) := HI.out.k2.cell 3
  have v4 : W5.cell? ⟨w.heap.size + 1 + 1, 4, none⟩ = some (.int .i64 l.h) := HI.out.k2.cell 4
  have v5 : W5.cell? ⟨w.heap.size + 1 + 1, 5, none⟩ = some (.int .i64 l.c) := HI.out.k2.cell 5
  have v6 : W5.cell? ⟨w.heap.size + 1 + 1, 6, none⟩ = some (.int .i64 l.d) := HI.out.k2.cell 6
  go_wp2_with (go_at_call 21; refine (HPE.out _).mono ?_; rintro e W6 ⟨rfl, hx⟩; have XT := Lib.hid hx; clear hx; refine Hid.out ?_)
  refine Lib.hid ?_
  replace HI := Lib.hid (HI.out.ext XT.out)
  clear XT
  clear y0 y1 y2 y3 y4 y5 y6 y7 x0 x1 x2 x3 x4 x5 x6 v0 v1 v2 v3 v4 v5 v6
  have y0 : W6.cell? ⟨w.heap.size, 0, none⟩ = some (.slice A0 n0 c0) := HI.out.k0.cell 0
  have y1 : W6.cell? ⟨w.heap.size, 1, none⟩ = some (.slice A1 n1 c1) := HI.out.k0.cell 1
  have y2 : W6.cell? ⟨w.heap.size, 2, none⟩ = some (.slice A2 n2 c2) := HI.out.k0.cell 2
  have y3 : W6.cell? ⟨w.heap.size, 3, none⟩ = some (.slice A3 n3 c3) := HI.out.k0.cell 3
  have y4 : W6.cell? ⟨w.heap.size, 4, none⟩ = some (.int .i64 r.h0) := HI.out.k0.cell 4
  have y5 : W6.cell? ⟨w.heap.size, 5, none⟩ = some (.int .i64 r.h1) := HI.out.k0.cell 5
  have y6 : W6.cell? ⟨w.heap.size, 6, none⟩ = some (.int .i64 r.h2) := HI.out.k0.cell 6
  have y7 : W6.cell? ⟨w.heap.size, 7, none⟩ = some (.int .i64 r.h3) := HI.out.k0.cell 7
  have x0 : W6.cell? ⟨w.heap.size + 1, 0, none⟩ = some (.int .i64 s.p) := HI.out.k1.cell 0
  have x1 : W6.cell? ⟨w.heap.size + 1, 1, none⟩ = some (.int .i64 s.a) := HI.out.k1.cell 1
  have x2 : W6.cell? ⟨w.heap.size + 1, 2, none⟩ = some (.int .i64 s.b) := HI.out.k1.cell 2
  have x3 : W6.cell? ⟨w.heap.size + 1, 3, none⟩ = some (.int .i64 s.m) := HI.out.k1.cell 3
  have x4 : W6.cell? ⟨w.heap.size + 1, 4, none⟩ = some (.int .i64 s.wt) := HI.out.k1.cell 4
  have x5 : W6.cell? ⟨w.heap.size + 1, 5, none⟩ = some (.int .i64 s.g) := HI.out.k1.cell 5
  have x6 : W6.cell? ⟨w.heap.size + 1, 6, none⟩ = some (.int .i64 s.t) := HI.out.k1.cell 6
  have v0 : W6.cell? ⟨w.heap.size + 1 + 1, 0, none⟩ = some (.slice B n cb) := HI.out.k2.cell 0
  have v1 : W6.cell? ⟨w.heap.size + 1 + 1, 1, none⟩ = some (.int .i64 k.h) := HI.out.k2.cell 1
  have v2 : W6.cell? ⟨w.heap.size + 1 + 1, 2, none⟩ = some (.int .i64 k.c) := HI.out.k2.cell 2
  have v3 : W6.cell? ⟨w.heap.size + 1 + 1, 3, none⟩ = some (.int .i64 k.d) := HI.out.k2.cell 3
  have v4 : W6.cell? ⟨w.heap.size + 1 + 1, 4, none⟩ = some (.int .i64 l.h) := HI.out.k2.cell 4
  have v5 : W6.cell? ⟨w.heap.size + 1 + 1, 5, none⟩ = some (.int .i64 l.c) := HI.out.k2.cell 5
  have v6 : W6.cell? ⟨w.heap.size + 1 + 1, 6, none⟩ = some (.int .i64 l.d) := HI.out.k2.cell 6
  go_wp2_with (go_at_call 21; refine (HQE.out _).mono ?_; rintro e W7 ⟨rfl, hx⟩; have XT := Lib.hid hx; clear hx; refine Hid.out ?_)
  refine Lib.hid ?_
  replace HI := Lib.hid (HI.out.ext XT.out)
  clear XT
  clear y0 y1 y2 y3 y4 y5 y6 y7 x0 x1 x2 x3 x4 x5 x6 v0 v1 v2 v3 v4 v5 v6
  have y0 : W7.cell? ⟨w.heap.size, 0, none⟩ = some (.slice A0 n0 c0) := HI.out.k0.cell 0
  have y1 : W7.cell? ⟨w.heap.size, 1, none⟩ = some (.slice A1 n1 c1) := HI.out.k0.cell 1
  have y2 : W7.cell? ⟨w.heap.size, 2, none⟩ = some (.slice A2 n2 c2) := HI.out.k0.cell 2
  have y3 : W7.cell? ⟨w.heap.size, 3, none⟩ = some (.slice A3 n3 c3) := HI.out.k0.cell 3
  have y4 : W7.cell? ⟨w.heap.size, 4, none⟩ = some (.int .i64 r.h0) := HI.out.k0.cell 4
  have y5 : W7.cell? ⟨w.heap.size, 5, none⟩ = some (.int .i64 r.h1) := HI.out.k0.cell 5
  have y6 : W7.cell? ⟨w.heap.size, 6, none⟩ = some (.int .i64 r.h2) := HI.out.k0.cell 6
  have y7 : W7.cell? ⟨w.heap.size, 7, none⟩ = some (.int .i64 r.h3) := HI.out.k0.cell 7
  have x0 : W7.cell? ⟨w.heap.size + 1, 0, none⟩ = some (.int .i64 s.p) := HI.out.k1.cell 0
  have x1 : W7.cell? ⟨w.heap.size + 1, 1, none⟩ = some (.int .i64 s.a) := HI.out.k1.cell 1
  have x2 : W7.cell? ⟨w.heap.size + 1, 2, none⟩ = some (.int .i64 s.b) := HI.out.k1.cell 2
  have x3 : W7.cell? ⟨w.heap.size + 1, 3, none⟩ = some (.int .i64 s.m) := HI.out.k1.cell 3
  have x4 : W7.cell? ⟨w.heap.size + 1, 4, none⟩ = some (.int .i64 s.wt) := HI.out.k1.cell 4
  have x5 : W7.cell? ⟨w.heap.size + 1, 5, none⟩ = some (.int .i64 s.g) := HI.out.k1.cell 5
  have x6 : W7.cell? ⟨w.heap.size + 1, 6, none⟩ = some (.int .i64 s.t) := HI.out.k1.cell 6
  have v0 : W7.cell? ⟨w.heap.size + 1 + 1, 0, none⟩ = some (.slice B n cb) := HI.out.k2.cell 0
  have v1 : W7.cell? ⟨w.heap.size + 1 + 1, 1, none⟩ = some (.int .i64 k.h) := HI.out.k2.cell 1
  have v2 : W7.cell? ⟨w.heap.size + 1 + 1, 2, none⟩ = some (.int .i64 k.c) := HI.out.k2.cell 2
  have v3 : W7.cell? ⟨w.heap.size + 1 + 1, 3, none⟩ = some (.int .i64 k.d) := HI.out.k2.cell 3
  have v4 : W7.cell? ⟨w.heap.size + 1 + 1, 4, none⟩ = some (.int .i64 l.h) := HI.out.k2.cell 4
  have v5 : W7.cell? ⟨w.heap.size + 1 + 1, 5, none⟩ = some (.int .i64 l.c) := HI.out.k2.cell 5
  have v6 : W7.cell? ⟨w.heap.size + 1 + 1, 6, none⟩ = some (.int .i64 l.d) := HI.out.k2.cell 6
  clear HRE HSE HCE HPE HQE HFEW
  go_wp2
  go_quiet (fail)
  have XD := Lib.hid (show Ext W7 (W7.drewN nq) from Ext.drewN _ _)
  replace HI := Lib.hid (HI.out.ext XD.out)
  obtain ⟨V1, hV1⟩ : ∃ V, V = W7.drewN nq := ⟨_, rfl⟩
  rw [← hV1] at HI ⊢
  clear XD hV1
  clear y0 y1 y2 y3 y4 y5 y6 y7 x0 x1 x2 x3 x4 x5 x6 v0 v1 v2 v3 v4 v5 v6
  go_wp2
  go_loopw [7, 8, 9] (fun a c i wr => ∃ (j : Nat) (b1 b2 : Bool), j ≤ n ∧ i = .int .i64 j ∧ a = .bool b1 ∧ c = .bool b2 ∧ (b1 = true → (xs.take j).all (hotB r) = true) ∧ (b2 = true → n1 = 0 ∧ (xs.take j).all (fun x => !hotB r x) = true) ∧ BoxI w wr 71 #[.slice A0 n0 c0, .slice A1 n1 c1, .slice A2 n2 c2, .slice A3 n3 c3, .int .i64 r.h0, .int .i64 r.h1, .int .i64 r.h2, .int .i64 r.h3] s #[.slice B n cb, .int .i64 k.h, .int .i64 k.c, .int .i64 k.d, .int .i64 l.h, .int .i64 l.c, .int .i64 l.d]) (fun _ _ i _ => n - (intOf i).toNat)
  case atStart => exact ⟨0, true, _, Nat.zero_le _, rfl, rfl, rfl, fun _ => rfl, fun h => ⟨by simpa using h, rfl⟩, HI.out⟩
  case round =>
    obtain ⟨j, b1, b2, hj, rfl, rfl, rfl, h1, h2, hI⟩ := hrel
    clear HI
    have HI := Lib.hid hI
    have H1 := Lib.hid h1
    have H2 := Lib.hid h2
    clear hI h1 h2
    by_cases hlt : j < n
    · have hji : (j : Int) < (n : Int) := by omega
      obtain ⟨x, hx⟩ : ∃ x, xs[j]? = some x := ⟨_, List.getElem?_eq_getElem (by rw [HN.out]; exact hlt)⟩
      have HG := Lib.hid hx
      obtain ⟨b, o, hB, hbx, hcx⟩ := HX.out.2 j x hx
      subst hB
      have cj : wr.cell? ⟨b, o + j, none⟩ = some (.int .i64 x) := HI.out.e.cell (by have := hcx 0 _ rfl; simpa using this)
      clear hcx hbx hx
      have y0 : wr.cell? ⟨w.heap.size, 0, none⟩ = some (.slice A0 n0 c0) := HI.out.k0.cell 0
      have y1 : wr.cell? ⟨w.heap.size, 1, none⟩ = some (.slice A1 n1 c1) := HI.out.k0.cell 1
      have y2 : wr.cell? ⟨w.heap.size, 2, none⟩ = some (.slice A2 n2 c2) := HI.out.k0.cell 2
      have y3 : wr.cell? ⟨w.heap.size, 3, none⟩ = some (.slice A3 n3 c3) := HI.out.k0.cell 3
      have y4 : wr.cell? ⟨w.heap.size, 4, none⟩ = some (.int .i64 r.h0) := HI.out.k0.cell 4
      have y5 : wr.cell? ⟨w.heap.size, 5, none⟩ = some (.int .i64 r.h1) := HI.out.k0.cell 5
      have y6 : wr.cell? ⟨w.heap.size, 6, none⟩ = some (.int .i64 r.h2) := HI.out.k0.cell 6
      have y7 : wr.cell? ⟨w.heap.size, 7, none⟩ = some (.int .i64 r.h3) := HI.out.k0.cell 7
      have x0 : wr.cell? ⟨w.heap.size + 1, 0, none⟩ = some (.int .i64 s.p) := HI.out.k1.cell 0
      have x1 : wr.cell? ⟨w.heap.size + 1, 1, none⟩ = some (.int .i64 s.a) := HI.out.k1.cell 1
      have x2 : wr.cell? ⟨w.heap.size + 1, 2, none⟩ = some (.int .i64 s.b) := HI.out.k1.cell 2
      have x3 : wr.cell? ⟨w.heap.size + 1, 3, none⟩ = some (.int .i64 s.m) := HI.out.k1.cell 3
      have x4 : wr.cell? ⟨w.heap.size + 1, 4, none⟩ = some (.int .i64 s.wt) := HI.out.k1.cell 4
      have x5 : wr.cell? ⟨w.heap.size + 1, 5, none⟩ = some (.int .i64 s.g) := HI.out.k1.cell 5
      have x6 : wr.cell? ⟨w.heap.size + 1, 6, none⟩ = some (.int .i64 s.t) := HI.out.k1.cell 6
      have v0 : wr.cell? ⟨w.heap.size + 1 + 1, 0, none⟩ = some (.slice (some ⟨b, o, none⟩) n cb) := HI.out.k2.cell 0
      have v1 : wr.cell? ⟨w.heap.size + 1 + 1, 1, none⟩ = some (.int .i64 k.h) := HI.out.k2.cell 1
      have v2 : wr.cell? ⟨w.heap.size + 1 + 1, 2, none⟩ = some (.int .i64 k.c) := HI.out.k2.cell 2
      have v3 : wr.cell? ⟨w.heap.size + 1 + 1, 3, none⟩ = some (.int .i64 k.d) := HI.out.k2.cell 3
      have v4 : wr.cell? ⟨w.heap.size + 1 + 1, 4, none⟩ = some (.int .i64 l.h) := HI.out.k2.cell 4
      have v5 : wr.cell? ⟨w.heap.size + 1 + 1, 5, none⟩ = some (.int .i64 l.c) := HI.out.k2.cell 5
      have v6 : wr.cell? ⟨w.heap.size + 1 + 1, 6, none⟩ = some (.int .i64 l.d) := HI.out.k2.cell 6
      cases hh : hotB r x with
      | true =>
        have HHB := Lib.hid hh
        obtain ⟨g, l', hg, hge⟩ : ∃ g l', r.hs = g :: l' ∧ g.k ≤ x := by
          unfold hotB at hh
          cases h9 : r.hs with
          | nil => rw [h9] at hh; cases hh
          | cons g l' => rw [h9] at hh; exact ⟨g, l', rfl, by simpa using hh⟩
        have hn0 : 0 < n0 := by have := HIN.out.at.l0; rw [hg] at this; simp at this; omega
        obtain ⟨bh, oh, hAh, hbh, hch⟩ := HIN.out.at.r0.2 0 g (by rw [hg]; rfl)
        subst hAh
        have gk : wr.cell? ⟨bh, oh, none⟩ = some (.int .i64 g.k) := HI.out.e.cell (by have := hch 0 _ rfl; simpa using this)
        have d0 : decide (0 < n0) = true := decide_eq_true hn0
        have d1 : (0 : Int) < (n0 : Int) := by omega
        have d2 : decide (g.k ≤ x) = true := decide_eq_true hge
        clear hbh hch hg hh
        cases b1 with
        | false =>
          cases b2 with
          | false =>
            go_wp2
            go_quiet (fail)
            go_wp2
            go_roundw
            case rel => exact ⟨j + 1, false, false, by omega, by go_num, rfl, rfl, (fun h => by cases h), (fun h => by cases h), HI.out.ext (Ext.drewN _ _)⟩
            case measure => simp [intOf]; omega
          | true =>
            go_wp2
            go_quiet (fail)
            go_wp2
            go_roundw
            case rel => exact ⟨j + 1, false, false, by omega, by go_num, rfl, rfl, (fun h => by cases h), (fun h => by cases h), HI.out.ext (Ext.drewN _ _)⟩
            case measure => simp [intOf]; omega
        | true =>
          cases b2 with
          | false =>
            go_wp2
            go_quiet (fail)
            go_wp2
            go_roundw
            case rel => exact ⟨j + 1, true, false, by omega, by go_num, rfl, rfl, (fun _ => by rw [take_allI HG.out, H1.out (by first | rfl | trivial), HHB.out]; rfl), (fun h => by cases h), HI.out.ext (Ext.drewN _ _)⟩
            case measure => simp [intOf]; omega
          | true =>
            go_wp2
            go_quiet (fail)
            go_wp2
            go_roundw
            case rel => exact ⟨j + 1, true, false, by omega, by go_num, rfl, rfl, (fun _ => by rw [take_allI HG.out, H1.out (by first | rfl | trivial), HHB.out]; rfl), (fun h => by cases h), HI.out.ext (Ext.drewN _ _)⟩
            case measure => simp [intOf]; omega
      | false =>
        have HHB := Lib.hid hh
        by_cases h00 : n0 = 0
        · have d0 : decide (0 < n0) = false := by simp [h00]
          clear hh h00
          skip
          cases b1 with
          | false =>
            cases b2 with
            | false =>
              go_wp2
              go_quiet (fail)
              go_wp2
              go_roundw
              case rel => exact ⟨j + 1, false, false, by omega, by go_num, rfl, rfl, (fun h => by cases h), (fun h => by cases h), HI.out.ext (Ext.drewN _ _)⟩
              case measure => simp [intOf]; omega
            | true =>
              go_wp2
              go_quiet (fail)
              go_wp2
              go_roundw
              case rel => exact ⟨j + 1, false, true, by omega, by go_num, rfl, rfl, (fun h => by cases h), (fun _ => ⟨(H2.out (by first | rfl | trivial)).1, by rw [take_allI HG.out, (H2.out (by first | rfl | trivial)).2, HHB.out]; rfl⟩), HI.out.ext (Ext.drewN _ _)⟩
              case measure => simp [intOf]; omega
          | true =>
            cases b2 with
            | false =>
              go_wp2
              go_quiet (fail)
              go_wp2
              go_roundw
              case rel => exact ⟨j + 1, false, false, by omega, by go_num, rfl, rfl, (fun h => by cases h), (fun h => by cases h), HI.out.ext (Ext.drewN _ _)⟩
              case measure => simp [intOf]; omega
            | true =>
              go_wp2
              go_quiet (fail)
              go_wp2
              go_roundw
              case rel => exact ⟨j + 1, false, true, by omega, by go_num, rfl, rfl, (fun h => by cases h), (fun _ => ⟨(H2.out (by first | rfl | trivial)).1, by rw [take_allI HG.out, (H2.out (by first | rfl | trivial)).2, HHB.out]; rfl⟩), HI.out.ext (Ext.drewN _ _)⟩
              case measure => simp [intOf]; omega
        · obtain ⟨g, l', hg⟩ : ∃ g l', r.hs = g :: l' := by
            cases h9 : r.hs with
            | nil => have := HIN.out.at.l0; rw [h9] at this; simp at this; omega
            | cons g l' => exact ⟨g, l', rfl⟩
          have hge : x < g.k := by
            unfold hotB at hh
            rw [hg] at hh
            simpa using hh
          have hn0 : 0 < n0 := by omega
          obtain ⟨bh, oh, hAh, hbh, hch⟩ := HIN.out.at.r0.2 0 g (by rw [hg]; rfl)
          subst hAh
          have gk : wr.cell? ⟨bh, oh, none⟩ = some (.int .i64 g.k) := HI.out.e.cell (by have := hch 0 _ rfl; simpa using this)
          have d0 : decide (0 < n0) = true := decide_eq_true hn0
          have d1 : (0 : Int) < (n0 : Int) := by omega
          have d2 : decide (g.k ≤ x) = false := decide_eq_false (by omega)
          clear hbh hch hg hh
          cases b1 with
          | false =>
            cases b2 with
            | false =>
              go_wp2
              go_quiet (fail)
              go_wp2
              go_roundw
              case rel => exact ⟨j + 1, false, false, by omega, by go_num, rfl, rfl, (fun h => by cases h), (fun h => by cases h), HI.out.ext (Ext.drewN _ _)⟩
              case measure => simp [intOf]; omega
            | true =>
              go_wp2
              go_quiet (fail)
              go_wp2
              go_roundw
              case rel => exact ⟨j + 1, false, true, by omega, by go_num, rfl, rfl, (fun h => by cases h), (fun _ => ⟨(H2.out (by first | rfl | trivial)).1, by rw [take_allI HG.out, (H2.out (by first | rfl | trivial)).2, HHB.out]; rfl⟩), HI.out.ext (Ext.drewN _ _)⟩
              case measure => simp [intOf]; omega
          | true =>
            cases b2 with
            | false =>
              go_wp2
              go_quiet (fail)
              go_wp2
              go_roundw
              case rel => exact ⟨j + 1, false, false, by omega, by go_num, rfl, rfl, (fun h => by cases h), (fun h => by cases h), HI.out.ext (Ext.drewN _ _)⟩
              case measure => simp [intOf]; omega
            | true =>
              go_wp2
              go_quiet (fail)
              go_wp2
              go_roundw
              case rel => exact ⟨j + 1, false, true, by omega, by go_num, rfl, rfl, (fun h => by cases h), (fun _ => ⟨(H2.out (by first | rfl | trivial)).1, by rw [take_allI HG.out, (H2.out (by first | rfl | trivial)).2, HHB.out]; rfl⟩), HI.out.ext (Ext.drewN _ _)⟩
              case measure => simp [intOf]; omega
    · obtain rfl : n = j := by omega
      have y0 : wr.cell? ⟨w.heap.size, 0, none⟩ = some (.slice A0 n0 c0) := HI.out.k0.cell 0
      have y1 : wr.cell? ⟨w.heap.size, 1, none⟩ = some (.slice A1 n1 c1) := HI.out.k0.cell 1
      have y2 : wr.cell? ⟨w.heap.size, 2, none⟩ = some (.slice A2 n2 c2) := HI.out.k0.cell 2
      have y3 : wr.cell? ⟨w.heap.size, 3, none⟩ = some (.slice A3 n3 c3) := HI.out.k0.cell 3
      have y4 : wr.cell? ⟨w.heap.size, 4, none⟩ = some (.int .i64 r.h0) := HI.out.k0.cell 4
      have y5 : wr.cell? ⟨w.heap.size, 5, none⟩ = some (.int .i64 r.h1) := HI.out.k0.cell 5
      have y6 : wr.cell? ⟨w.heap.size, 6, none⟩ = some (.int .i64 r.h2) := HI.out.k0.cell 6
      have y7 : wr.cell? ⟨w.heap.size, 7, none⟩ = some (.int .i64 r.h3) := HI.out.k0.cell 7
      have x0 : wr.cell? ⟨w.heap.size + 1, 0, none⟩ = some (.int .i64 s.p) := HI.out.k1.cell 0
      have x1 : wr.cell? ⟨w.heap.size + 1, 1, none⟩ = some (.int .i64 s.a) := HI.out.k1.cell 1
      have x2 : wr.cell? ⟨w.heap.size + 1, 2, none⟩ = some (.int .i64 s.b) := HI.out.k1.cell 2
      have x3 : wr.cell? ⟨w.heap.size + 1, 3, none⟩ = some (.int .i64 s.m) := HI.out.k1.cell 3
      have x4 : wr.cell? ⟨w.heap.size + 1, 4, none⟩ = some (.int .i64 s.wt) := HI.out.k1.cell 4
      have x5 : wr.cell? ⟨w.heap.size + 1, 5, none⟩ = some (.int .i64 s.g) := HI.out.k1.cell 5
      have x6 : wr.cell? ⟨w.heap.size + 1, 6, none⟩ = some (.int .i64 s.t) := HI.out.k1.cell 6
      have v0 : wr.cell? ⟨w.heap.size + 1 + 1, 0, none⟩ = some (.slice B n cb) := HI.out.k2.cell 0
      have v1 : wr.cell? ⟨w.heap.size + 1 + 1, 1, none⟩ = some (.int .i64 k.h) := HI.out.k2.cell 1
      have v2 : wr.cell? ⟨w.heap.size + 1 + 1, 2, none⟩ = some (.int .i64 k.c) := HI.out.k2.cell 2
      have v3 : wr.cell? ⟨w.heap.size + 1 + 1, 3, none⟩ = some (.int .i64 k.d) := HI.out.k2.cell 3
      have v4 : wr.cell? ⟨w.heap.size + 1 + 1, 4, none⟩ = some (.int .i64 l.h) := HI.out.k2.cell 4
      have v5 : wr.cell? ⟨w.heap.size + 1 + 1, 5, none⟩ = some (.int .i64 l.c) := HI.out.k2.cell 5
      have v6 : wr.cell? ⟨w.heap.size + 1 + 1, 6, none⟩ = some (.int .i64 l.d) := HI.out.k2.cell 6
      have HHC := Lib.hid (fun (h : b1 = true) => HHA.out (by have := H1.out h; rwa [List.take_of_length_le (by rw [HN.out]; exact Nat.le_refl _)] at this))
      have HCC := Lib.hid (fun (h : b2 = true) => HCA.out (H2.out h).1 (by have := (H2.out h).2; rwa [List.take_of_length_le (by rw [HN.out]; exact Nat.le_refl _)] at this))
      clear H1 H2 HHA HCA hj
      obtain ⟨wl, hwl⟩ : ∃ v, v = wr := ⟨_, rfl⟩
      subst hwl
      go_wp2
      refine wp_region_late 14 12 _ _ _ 103 [11, 102] [some 92, some 93, some 94, some 95, some 96, some 97, some 98, some 99, some 100, some 101, some 91, some 102, some 103, some 11] [[3], [92], [4], [5], [95], [96], [5], [98], [97, 99], [93, 94, 100], [101], [91], [91], []]
        [Is (.agg #[.slice A0 n0 c0, .slice A1 n1 c1, .slice A2 n2 c2, .slice A3 n3 c3, .int .i64 (r.h0), .int .i64 (r.h1), .int .i64 (r.h2), .int .i64 (r.h3)]), RuV r, Is (.agg #[.int .i64 (s.p), .int .i64 (s.a), .int .i64 (s.b), .int .i64 (s.m), .int .i64 (s.wt), .int .i64 (s.g), .int .i64 (s.t)]), Is (.pointer (some ⟨w.heap.size + 1 + 1, 0, none⟩)), Is (.slice B n cb), IntsSl n xs, Is (.pointer (some ⟨w.heap.size + 1 + 1, 1, none⟩)), Is (.agg #[.int .i64 (k.h), .int .i64 (k.c), .int .i64 (k.d)]), RunP n xs k, Is (.tuple #[.agg #[.int .i64 ya.p, .int .i64 ya.a, .int .i64 ya.b, .int .i64 ya.m, .int .i64 ya.wt, .int .i64 ya.g, .int .i64 ya.t], .int .i64 0]), Is (.tuple #[.agg #[.int .i64 ya.p, .int .i64 ya.a, .int .i64 ya.b, .int .i64 ya.m, .int .i64 ya.wt, .int .i64 ya.g, .int .i64 ya.t], .int .i64 0]), Is (.agg #[.int .i64 ya.p, .int .i64 ya.a, .int .i64 ya.b, .int .i64 ya.m, .int .i64 ya.wt, .int .i64 ya.g, .int .i64 ya.t]), Is (.int .i64 (0)), Fresh30 wl.heap.size]
        (by kernel_rfl) (by kernel_rfl) (by kernel_rfl) (by kernel_rfl) (by kernel_rfl) (by kernel_rfl) rfl rfl rfl rfl rfl (by kernel_rfl) (by kernel_rfl) (by kernel_rfl) (by kernel_rfl) Ext (fun W => Ext wl W)
        (fun W _ => Ext.refl W) (fun W W' h k => h.trans k) ?_ (Ext.drew _) ?_ ?_ ?_ ?_ ?_
      · repeat (refine ⟨fun _ _ _ _ k h => (by first | exact h | exact (by first | exact RuV.ext h k | exact Fresh30.ext h k | exact IntsSl.ext h k | exact RunP.ext h k)), ?_⟩)
        exact trivial
      · refine ⟨?_, ?_, ?_, ?_, ?_, ?_, ?_, ?_, ?_, ?_, ?_, ?_, ?_, ?_, trivial⟩
        all_goals intro ρ W ⟨kc, kg, kf⟩ hF hs
        · obtain ⟨h0, -⟩ := hs
          replace h0 : ρ (.tmp 3) = .pointer (some ⟨w.heap.size, 0, none⟩) := h0
          have hc0 : W.cell? ⟨w.heap.size, 0, none⟩ = some (.slice A0 n0 c0) := hF.cell (by assumption)
          have hc1 : W.cell? ⟨w.heap.size, 1, none⟩ = some (.slice A1 n1 c1) := hF.cell (by assumption)
          have hc2 : W.cell? ⟨w.heap.size, 2, none⟩ = some (.slice A2 n2 c2) := hF.cell (by assumption)
          have hc3 : W.cell? ⟨w.heap.size, 3, none⟩ = some (.slice A3 n3 c3) := hF.cell (by assumption)
          have hc4 : W.cell? ⟨w.heap.size, 4, none⟩ = some (.int .i64 (r.h0)) := hF.cell (by assumption)
          have hc5 : W.cell? ⟨w.heap.size, 5, none⟩ = some (.int .i64 (r.h1)) := hF.cell (by assumption)
          have hc6 : W.cell? ⟨w.heap.size, 6, none⟩ = some (.int .i64 (r.h2)) := hF.cell (by assumption)
          have hc7 : W.cell? ⟨w.heap.size, 7, none⟩ = some (.int .i64 (r.h3)) := hF.cell (by assumption)
          go_simp
          exact ⟨Ext.refl _, rfl⟩
        · obtain ⟨h0, -⟩ := hs
          replace h0 : ρ (.tmp 92) = .agg #[.slice A0 n0 c0, .slice A1 n1 c1, .slice A2 n2 c2, .slice A3 n3 c3, .int .i64 (r.h0), .int .i64 (r.h1), .int .i64 (r.h2), .int .i64 (r.h3)] := h0
          go_simp
          refine (copyRules_any (HIN.out.ext (HI.out.e.trans hF))).mono ?_; rintro e w' ⟨v, rfl, hx, hv⟩; exact ⟨_, rfl, hx, hv⟩
        · obtain ⟨h0, -⟩ := hs
          replace h0 : ρ (.tmp 4) = .pointer (some ⟨w.heap.size + 1, 0, none⟩) := h0
          have hc0 : W.cell? ⟨w.heap.size + 1, 0, none⟩ = some (.int .i64 (s.p)) := hF.cell (by assumption)
          have hc1 : W.cell? ⟨w.heap.size + 1, 1, none⟩ = some (.int .i64 (s.a)) := hF.cell (by assumption)
          have hc2 : W.cell? ⟨w.heap.size + 1, 2, none⟩ = some (.int .i64 (s.b)) := hF.cell (by assumption)
          have hc3 : W.cell? ⟨w.heap.size + 1, 3, none⟩ = some (.int .i64 (s.m)) := hF.cell (by assumption)
          have hc4 : W.cell? ⟨w.heap.size + 1, 4, none⟩ = some (.int .i64 (s.wt)) := hF.cell (by assumption)
          have hc5 : W.cell? ⟨w.heap.size + 1, 5, none⟩ = some (.int .i64 (s.g)) := hF.cell (by assumption)
          have hc6 : W.cell? ⟨w.heap.size + 1, 6, none⟩ = some (.int .i64 (s.t)) := hF.cell (by assumption)
          go_simp
          exact ⟨Ext.refl _, rfl⟩
        · obtain ⟨h0, -⟩ := hs
          replace h0 : ρ (.tmp 5) = .pointer (some ⟨w.heap.size + 1 + 1, 0, none⟩) := h0
          go_simp
          exact ⟨Ext.refl _, rfl⟩
        · obtain ⟨h0, -⟩ := hs
          replace h0 : ρ (.tmp 95) = .pointer (some ⟨w.heap.size + 1 + 1, 0, none⟩) := h0
          have hc0 : W.cell? ⟨w.heap.size + 1 + 1, 0, none⟩ = some (.slice B n cb) := hF.cell (by assumption)
          go_simp
          exact ⟨Ext.refl _, rfl⟩
        · obtain ⟨h0, -⟩ := hs
          replace h0 : ρ (.tmp 96) = .slice B n cb := h0
          go_simp
          refine (copyInts_any HN.out (HX.out.ext (HI.out.e.trans hF)) (by omega) HNIL.out).mono ?_; rintro e w' ⟨A1, c1, rfl, hi, hx⟩; exact ⟨_, rfl, hx, _, _, rfl, hi⟩
        · obtain ⟨h0, -⟩ := hs
          replace h0 : ρ (.tmp 5) = .pointer (some ⟨w.heap.size + 1 + 1, 0, none⟩) := h0
          go_simp
          exact ⟨Ext.refl _, rfl⟩
        · obtain ⟨h0, -⟩ := hs
          replace h0 : ρ (.tmp 98) = .pointer (some ⟨w.heap.size + 1 + 1, 1, none⟩) := h0
          have hc0 : W.cell? ⟨w.heap.size + 1 + 1, 1, none⟩ = some (.int .i64 (k.h)) := hF.cell (by assumption)
          have hc1 : W.cell? ⟨w.heap.size + 1 + 1, 2, none⟩ = some (.int .i64 (k.c)) := hF.cell (by assumption)
          have hc2 : W.cell? ⟨w.heap.size + 1 + 1, 3, none⟩ = some (.int .i64 (k.d)) := hF.cell (by assumption)
          go_simp
          exact ⟨Ext.refl _, rfl⟩
        · obtain ⟨h0, h1, -⟩ := hs
          replace h0 : (IntsSl n xs) (ρ (.tmp 97)) W := h0
          replace h1 : ρ (.tmp 99) = .agg #[.int .i64 (k.h), .int .i64 (k.c), .int .i64 (k.d)] := h1
          obtain ⟨A1, c1, hA1, hI1⟩ := h0
          replace h0 : ρ (.tmp 97) = .slice A1 n c1 := hA1
          go_simp
          exact ⟨Ext.refl _, A1, c1, rfl, hI1⟩
        · obtain ⟨h0, h1, h2, -⟩ := hs
          replace h0 : (RuV r) (ρ (.tmp 93)) W := h0
          replace h1 : ρ (.tmp 94) = .agg #[.int .i64 (s.p), .int .i64 (s.a), .int .i64 (s.b), .int .i64 (s.m), .int .i64 (s.wt), .int .i64 (s.g), .int .i64 (s.t)] := h1
          replace h2 : (RunP n xs k) (ρ (.tmp 100)) W := h2
          obtain ⟨A1, c1, hA1, hI1⟩ := h2
          replace h2 : ρ (.tmp 100) = .agg #[.slice A1 n c1, .int .i64 k.h, .int .i64 k.c, .int .i64 k.d] := hA1
          go_simp
          refine (HRA.out _ _ _ _ h0 hI1).mono ?_; rintro e w' ⟨rfl, hx⟩; exact ⟨_, rfl, hx, rfl⟩
        · obtain ⟨h0, -⟩ := hs
          replace h0 : ρ (.tmp 101) = .tuple #[.agg #[.int .i64 ya.p, .int .i64 ya.a, .int .i64 ya.b, .int .i64 ya.m, .int .i64 ya.wt, .int .i64 ya.g, .int .i64 ya.t], .int .i64 0] := h0
          go_simp
          exact ⟨Ext.refl _, rfl⟩
        · obtain ⟨h0, -⟩ := hs
          replace h0 : ρ (.tmp 91) = .tuple #[.agg #[.int .i64 ya.p, .int .i64 ya.a, .int .i64 ya.b, .int .i64 ya.m, .int .i64 ya.wt, .int .i64 ya.g, .int .i64 ya.t], .int .i64 0] := h0
          go_simp
          exact ⟨Ext.refl _, rfl⟩
        · obtain ⟨h0, -⟩ := hs
          replace h0 : ρ (.tmp 91) = .tuple #[.agg #[.int .i64 ya.p, .int .i64 ya.a, .int .i64 ya.b, .int .i64 ya.m, .int .i64 ya.wt, .int .i64 ya.g, .int .i64 ya.t], .int .i64 0] := h0
          go_simp
          exact ⟨Ext.refl _, rfl⟩
        · go_simp
          exact ⟨Ext.alloc _ _, W.heap.size, hF.size, rfl, Blk.new _ _ _⟩
      · intro ρ W ⟨kc, kg, kf⟩ hF hs
        obtain ⟨h0, -⟩ := hs
        replace h0 : ρ (.tmp 91) = .tuple #[.agg #[.int .i64 ya.p, .int .i64 ya.a, .int .i64 ya.b, .int .i64 ya.m, .int .i64 ya.wt, .int .i64 ya.g, .int .i64 ya.t], .int .i64 0] := h0
        refine ⟨.int .i64 0, fun W' => ?_⟩
        go_simp
      · intro ρ ρ' h
        simp only [execOp]
        rw [h (.tmp 11) (by simp), h (.tmp 102) (by simp)]
      · intro ρ W ⟨kc, kg, kf⟩ hF hs
        obtain ⟨h0, h1, -⟩ := hs
        replace h0 : (Fresh30 wl.heap.size) (ρ (.tmp 11)) W := h0
        replace h1 : ρ (.tmp 102) = .agg #[.int .i64 ya.p, .int .i64 ya.a, .int .i64 ya.b, .int .i64 ya.m, .int .i64 ya.wt, .int .i64 ya.g, .int .i64 ya.t] := h1
        obtain ⟨q0, _, hb, hk⟩ := h0
        have f0 := hk.free 0
        have f1 := hk.free 1
        have f2 := hk.free 2
        have f3 := hk.free 3
        have f4 := hk.free 4
        have f5 := hk.free 5
        have f6 := hk.free 6
        have g0 := hk.cell 0
        have g1 := hk.cell 1
        have g2 := hk.cell 2
        have g3 := hk.cell 3
        have g4 := hk.cell 4
        have g5 := hk.cell 5
        have g6 := hk.cell 6
        simp only [List.getElem?_toArray, List.getElem?_cons_zero, List.getElem?_cons_succ] at g0 g1 g2 g3 g4 g5 g6
        refine ⟨((((((W.setCell ⟨q0, 0, none⟩ (.int .i64 ya.p)).setCell ⟨q0, 1, none⟩ (.int .i64 ya.a)).setCell ⟨q0, 2, none⟩ (.int .i64 ya.b)).setCell ⟨q0, 3, none⟩ (.int .i64 ya.m)).setCell ⟨q0, 4, none⟩ (.int .i64 ya.wt)).setCell ⟨q0, 5, none⟩ (.int .i64 ya.g)).setCell ⟨q0, 6, none⟩ (.int .i64 ya.t), ?_⟩
        go_simp
      · intro fv W2 hF hs
        obtain ⟨-, -, -, -, -, -, -, -, -, -, -, h102, h103, h11, -⟩ := hs
        replace h102 : fv 102 = .agg #[.int .i64 ya.p, .int .i64 ya.a, .int .i64 ya.b, .int .i64 ya.m, .int .i64 ya.wt, .int .i64 ya.g, .int .i64 ya.t] := h102
        replace h103 : fv 103 = .int .i64 (0) := h103
        replace h11 : (Fresh30 wl.heap.size) (fv 11) W2 := h11
        simp only [fin, List.filterMap]
        go_simp
        obtain ⟨q1, hq, hv8, hk8⟩ := h11
        rw [hv8]
        have hQ : w.heap.size + 1 + 1 < q1 := Nat.lt_of_lt_of_le HI.out.size hq

        have HB3 := Lib.hid ((HI.out.ext hF).store hQ ya)
        have K3 := Lib.hid (blk7 hk8 ya)
        have f0 := hk8.free 0
        have f1 := hk8.free 1
        have f2 := hk8.free 2
        have f3 := hk8.free 3
        have f4 := hk8.free 4
        have f5 := hk8.free 5
        have f6 := hk8.free 6
        have g0 := hk8.cell 0
        have g1 := hk8.cell 1
        have g2 := hk8.cell 2
        have g3 := hk8.cell 3
        have g4 := hk8.cell 4
        have g5 := hk8.cell 5
        have g6 := hk8.cell 6
        simp only [List.getElem?_toArray, List.getElem?_cons_zero, List.getElem?_cons_succ] at g0 g1 g2 g3 g4 g5 g6
        clear hF hv8 hk8 hq
        clear y0 y1 y2 y3 y4 y5 y6 y7 x0 x1 x2 x3 x4 x5 x6 v0 v1 v2 v3 v4 v5 v6
        refine wpList_plain rfl (fun K hK => ?_)
        go_simp
        obtain ⟨W3, hW3⟩ : ∃ W3, W3 = ((((((W2.setCell ⟨q1, 0, none⟩ (.int .i64 ya.p)).setCell ⟨q1, 1, none⟩ (.int .i64 ya.a)).setCell ⟨q1, 2, none⟩ (.int .i64 ya.b)).setCell ⟨q1, 3, none⟩ (.int .i64 ya.m)).setCell ⟨q1, 4, none⟩ (.int .i64 ya.wt)).setCell ⟨q1, 5, none⟩ (.int .i64 ya.g)).setCell ⟨q1, 6, none⟩ (.int .i64 ya.t) := ⟨_, rfl⟩
        rw [← hW3] at HB3 K3 ⊢
        clear hW3 f0 g0 f1 g1 f2 g2 f3 g3 f4 g4 f5 g5 f6 g6
        refine hK _ _ ?_
        clear hK
        replace HI := HB3
        have KA := K3
        clear HB3 K3
        have y0 : W3.cell? ⟨w.heap.size, 0, none⟩ = some (.slice A0 n0 c0) := HI.out.k0.cell 0
        have y1 : W3.cell? ⟨w.heap.size, 1, none⟩ = some (.slice A1 n1 c1) := HI.out.k0.cell 1
        have y2 : W3.cell? ⟨w.heap.size, 2, none⟩ = some (.slice A2 n2 c2) := HI.out.k0.cell 2
        have y3 : W3.cell? ⟨w.heap.size, 3, none⟩ = some (.slice A3 n3 c3) := HI.out.k0.cell 3
        have y4 : W3.cell? ⟨w.heap.size, 4, none⟩ = some (.int .i64 r.h0) := HI.out.k0.cell 4
        have y5 : W3.cell? ⟨w.heap.size, 5, none⟩ = some (.int .i64 r.h1) := HI.out.k0.cell 5
        have y6 : W3.cell? ⟨w.heap.size, 6, none⟩ = some (.int .i64 r.h2) := HI.out.k0.cell 6
        have y7 : W3.cell? ⟨w.heap.size, 7, none⟩ = some (.int .i64 r.h3) := HI.out.k0.cell 7
        have x0 : W3.cell? ⟨w.heap.size + 1, 0, none⟩ = some (.int .i64 s.p) := HI.out.k1.cell 0
        have x1 : W3.cell? ⟨w.heap.size + 1, 1, none⟩ = some (.int .i64 s.a) := HI.out.k1.cell 1
        have x2 : W3.cell? ⟨w.heap.size + 1, 2, none⟩ = some (.int .i64 s.b) := HI.out.k1.cell 2
        have x3 : W3.cell? ⟨w.heap.size + 1, 3, none⟩ = some (.int .i64 s.m) := HI.out.k1.cell 3
        have x4 : W3.cell? ⟨w.heap.size + 1, 4, none⟩ = some (.int .i64 s.wt) := HI.out.k1.cell 4
        have x5 : W3.cell? ⟨w.heap.size + 1, 5, none⟩ = some (.int .i64 s.g) := HI.out.k1.cell 5
        have x6 : W3.cell? ⟨w.heap.size + 1, 6, none⟩ = some (.int .i64 s.t) := HI.out.k1.cell 6
        have v0 : W3.cell? ⟨w.heap.size + 1 + 1, 0, none⟩ = some (.slice B n cb) := HI.out.k2.cell 0
        have v1 : W3.cell? ⟨w.heap.size + 1 + 1, 1, none⟩ = some (.int .i64 k.h) := HI.out.k2.cell 1
        have v2 : W3.cell? ⟨w.heap.size + 1 + 1, 2, none⟩ = some (.int .i64 k.c) := HI.out.k2.cell 2
        have v3 : W3.cell? ⟨w.heap.size + 1 + 1, 3, none⟩ = some (.int .i64 k.d) := HI.out.k2.cell 3
        have v4 : W3.cell? ⟨w.heap.size + 1 + 1, 4, none⟩ = some (.int .i64 l.h) := HI.out.k2.cell 4
        have v5 : W3.cell? ⟨w.heap.size + 1 + 1, 5, none⟩ = some (.int .i64 l.c) := HI.out.k2.cell 5
        have v6 : W3.cell? ⟨w.heap.size + 1 + 1, 6, none⟩ = some (.int .i64 l.d) := HI.out.k2.cell 6
        go_wp2
        clear h102 h103
        refine wp_region_late 14 12 _ _ _ 116 [13, 115] [some 105, some 106, some 107, some 108, some 109, some 110, some 111, some 112, some 113, some 114, some 104, some 115, some 116, some 13] [[3], [105], [4], [5], [108], [109], [5], [111], [110, 112], [106, 107, 113], [114], [104], [104], []]
          [Is (.agg #[.slice A0 n0 c0, .slice A1 n1 c1, .slice A2 n2 c2, .slice A3 n3 c3, .int .i64 (r.h0), .int .i64 (r.h1), .int .i64 (r.h2), .int .i64 (r.h3)]), RuV r, Is (.agg #[.int .i64 (s.p), .int .i64 (s.a), .int .i64 (s.b), .int .i64 (s.m), .int .i64 (s.wt), .int .i64 (s.g), .int .i64 (s.t)]), Is (.pointer (some ⟨w.heap.size + 1 + 1, 0, none⟩)), Is (.slice B n cb), IntsSl n xs, Is (.pointer (some ⟨w.heap.size + 1 + 1, 4, none⟩)), Is (.agg #[.int .i64 (l.h), .int .i64 (l.c), .int .i64 (l.d)]), RunP n xs l, Is (.tuple #[.agg #[.int .i64 yb.p, .int .i64 yb.a, .int .i64 yb.b, .int .i64 yb.m, .int .i64 yb.wt, .int .i64 yb.g, .int .i64 yb.t], .int .i64 0]), Is (.tuple #[.agg #[.int .i64 yb.p, .int .i64 yb.a, .int .i64 yb.b, .int .i64 yb.m, .int .i64 yb.wt, .int .i64 yb.g, .int .i64 yb.t], .int .i64 0]), Is (.agg #[.int .i64 yb.p, .int .i64 yb.a, .int .i64 yb.b, .int .i64 yb.m, .int .i64 yb.wt, .int .i64 yb.g, .int .i64 yb.t]), Is (.int .i64 (0)), Fresh30 W3.heap.size]
          (by kernel_rfl) (by kernel_rfl) (by kernel_rfl) (by kernel_rfl) (by kernel_rfl) (by kernel_rfl) rfl rfl rfl rfl rfl (by kernel_rfl) (by kernel_rfl) (by kernel_rfl) (by kernel_rfl) Ext (fun W => Ext W3 W)
          (fun W _ => Ext.refl W) (fun W W' h k => h.trans k) ?_ (Ext.drew _) ?_ ?_ ?_ ?_ ?_
        · repeat (refine ⟨fun _ _ _ _ k h => (by first | exact h | exact (by first | exact RuV.ext h k | exact Fresh30.ext h k | exact IntsSl.ext h k | exact RunP.ext h k)), ?_⟩)
          exact trivial
        · refine ⟨?_, ?_, ?_, ?_, ?_, ?_, ?_, ?_, ?_, ?_, ?_, ?_, ?_, ?_, trivial⟩
          all_goals intro ρ W ⟨kc, kg, kf⟩ hF hs
          · obtain ⟨h0, -⟩ := hs
            replace h0 : ρ (.tmp 3) = .pointer (some ⟨w.heap.size, 0, none⟩) := h0
            have hc0 : W.cell? ⟨w.heap.size, 0, none⟩ = some (.slice A0 n0 c0) := hF.cell (by assumption)
            have hc1 : W.cell? ⟨w.heap.size, 1, none⟩ = some (.slice A1 n1 c1) := hF.cell (by assumption)
            have hc2 : W.cell? ⟨w.heap.size, 2, none⟩ = some (.slice A2 n2 c2) := hF.cell (by assumption)
            have hc3 : W.cell? ⟨w.heap.size, 3, none⟩ = some (.slice A3 n3 c3) := hF.cell (by assumption)
            have hc4 : W.cell? ⟨w.heap.size, 4, none⟩ = some (.int .i64 (r.h0)) := hF.cell (by assumption)
            have hc5 : W.cell? ⟨w.heap.size, 5, none⟩ = some (.int .i64 (r.h1)) := hF.cell (by assumption)
            have hc6 : W.cell? ⟨w.heap.size, 6, none⟩ = some (.int .i64 (r.h2)) := hF.cell (by assumption)
            have hc7 : W.cell? ⟨w.heap.size, 7, none⟩ = some (.int .i64 (r.h3)) := hF.cell (by assumption)
            go_simp
            exact ⟨Ext.refl _, rfl⟩
          · obtain ⟨h0, -⟩ := hs
            replace h0 : ρ (.tmp 105) = .agg #[.slice A0 n0 c0, .slice A1 n1 c1, .slice A2 n2 c2, .slice A3 n3 c3, .int .i64 (r.h0), .int .i64 (r.h1), .int .i64 (r.h2), .int .i64 (r.h3)] := h0
            go_simp
            refine (copyRules_any (HIN.out.ext (HI.out.e.trans hF))).mono ?_; rintro e w' ⟨v, rfl, hx, hv⟩; exact ⟨_, rfl, hx, hv⟩
          · obtain ⟨h0, -⟩ := hs
            replace h0 : ρ (.tmp 4) = .pointer (some ⟨w.heap.size + 1, 0, none⟩) := h0
            have hc0 : W.cell? ⟨w.heap.size + 1, 0, none⟩ = some (.int .i64 (s.p)) := hF.cell (by assumption)
            have hc1 : W.cell? ⟨w.heap.size + 1, 1, none⟩ = some (.int .i64 (s.a)) := hF.cell (by assumption)
            have hc2 : W.cell? ⟨w.heap.size + 1, 2, none⟩ = some (.int .i64 (s.b)) := hF.cell (by assumption)
            have hc3 : W.cell? ⟨w.heap.size + 1, 3, none⟩ = some (.int .i64 (s.m)) := hF.cell (by assumption)
            have hc4 : W.cell? ⟨w.heap.size + 1, 4, none⟩ = some (.int .i64 (s.wt)) := hF.cell (by assumption)
            have hc5 : W.cell? ⟨w.heap.size + 1, 5, none⟩ = some (.int .i64 (s.g)) := hF.cell (by assumption)
            have hc6 : W.cell? ⟨w.heap.size + 1, 6, none⟩ = some (.int .i64 (s.t)) := hF.cell (by assumption)
            go_simp
            exact ⟨Ext.refl _, rfl⟩
          · obtain ⟨h0, -⟩ := hs
            replace h0 : ρ (.tmp 5) = .pointer (some ⟨w.heap.size + 1 + 1, 0, none⟩) := h0
            go_simp
            exact ⟨Ext.refl _, rfl⟩
          · obtain ⟨h0, -⟩ := hs
            replace h0 : ρ (.tmp 108) = .pointer (some ⟨w.heap.size + 1 + 1, 0, none⟩) := h0
            have hc0 : W.cell? ⟨w.heap.size + 1 + 1, 0, none⟩ = some (.slice B n cb) := hF.cell (by assumption)
            go_simp
            exact ⟨Ext.refl _, rfl⟩
          · obtain ⟨h0, -⟩ := hs
            replace h0 : ρ (.tmp 109) = .slice B n cb := h0
            go_simp
            refine (copyInts_any HN.out (HX.out.ext (HI.out.e.trans hF)) (by omega) HNIL.out).mono ?_; rintro e w' ⟨A1, c1, rfl, hi, hx⟩; exact ⟨_, rfl, hx, _, _, rfl, hi⟩
          · obtain ⟨h0, -⟩ := hs
            replace h0 : ρ (.tmp 5) = .pointer (some ⟨w.heap.size + 1 + 1, 0, none⟩) := h0
            go_simp
            exact ⟨Ext.refl _, rfl⟩
          · obtain ⟨h0, -⟩ := hs
            replace h0 : ρ (.tmp 111) = .pointer (some ⟨w.heap.size + 1 + 1, 4, none⟩) := h0
            have hc0 : W.cell? ⟨w.heap.size + 1 + 1, 4, none⟩ = some (.int .i64 (l.h)) := hF.cell (by assumption)
            have hc1 : W.cell? ⟨w.heap.size + 1 + 1, 5, none⟩ = some (.int .i64 (l.c)) := hF.cell (by assumption)
            have hc2 : W.cell? ⟨w.heap.size + 1 + 1, 6, none⟩ = some (.int .i64 (l.d)) := hF.cell (by assumption)
            go_simp
            exact ⟨Ext.refl _, rfl⟩
          · obtain ⟨h0, h1, -⟩ := hs
            replace h0 : (IntsSl n xs) (ρ (.tmp 110)) W := h0
            replace h1 : ρ (.tmp 112) = .agg #[.int .i64 (l.h), .int .i64 (l.c), .int .i64 (l.d)] := h1
            obtain ⟨A1, c1, hA1, hI1⟩ := h0
            replace h0 : ρ (.tmp 110) = .slice A1 n c1 := hA1
            go_simp
            exact ⟨Ext.refl _, A1, c1, rfl, hI1⟩
          · obtain ⟨h0, h1, h2, -⟩ := hs
            replace h0 : (RuV r) (ρ (.tmp 106)) W := h0
            replace h1 : ρ (.tmp 107) = .agg #[.int .i64 (s.p), .int .i64 (s.a), .int .i64 (s.b), .int .i64 (s.m), .int .i64 (s.wt), .int .i64 (s.g), .int .i64 (s.t)] := h1
            replace h2 : (RunP n xs l) (ρ (.tmp 113)) W := h2
            obtain ⟨A1, c1, hA1, hI1⟩ := h2
            replace h2 : ρ (.tmp 113) = .agg #[.slice A1 n c1, .int .i64 l.h, .int .i64 l.c, .int .i64 l.d] := hA1
            go_simp
            refine (HRB.out _ _ _ _ h0 hI1).mono ?_; rintro e w' ⟨rfl, hx⟩; exact ⟨_, rfl, hx, rfl⟩
          · obtain ⟨h0, -⟩ := hs
            replace h0 : ρ (.tmp 114) = .tuple #[.agg #[.int .i64 yb.p, .int .i64 yb.a, .int .i64 yb.b, .int .i64 yb.m, .int .i64 yb.wt, .int .i64 yb.g, .int .i64 yb.t], .int .i64 0] := h0
            go_simp
            exact ⟨Ext.refl _, rfl⟩
          · obtain ⟨h0, -⟩ := hs
            replace h0 : ρ (.tmp 104) = .tuple #[.agg #[.int .i64 yb.p, .int .i64 yb.a, .int .i64 yb.b, .int .i64 yb.m, .int .i64 yb.wt, .int .i64 yb.g, .int .i64 yb.t], .int .i64 0] := h0
            go_simp
            exact ⟨Ext.refl _, rfl⟩
          · obtain ⟨h0, -⟩ := hs
            replace h0 : ρ (.tmp 104) = .tuple #[.agg #[.int .i64 yb.p, .int .i64 yb.a, .int .i64 yb.b, .int .i64 yb.m, .int .i64 yb.wt, .int .i64 yb.g, .int .i64 yb.t], .int .i64 0] := h0
            go_simp
            exact ⟨Ext.refl _, rfl⟩
          · go_simp
            exact ⟨Ext.alloc _ _, W.heap.size, hF.size, rfl, Blk.new _ _ _⟩
        · intro ρ W ⟨kc, kg, kf⟩ hF hs
          obtain ⟨h0, -⟩ := hs
          replace h0 : ρ (.tmp 104) = .tuple #[.agg #[.int .i64 yb.p, .int .i64 yb.a, .int .i64 yb.b, .int .i64 yb.m, .int .i64 yb.wt, .int .i64 yb.g, .int .i64 yb.t], .int .i64 0] := h0
          refine ⟨.int .i64 0, fun W' => ?_⟩
          go_simp
        · intro ρ ρ' h
          simp only [execOp]
          rw [h (.tmp 13) (by simp), h (.tmp 115) (by simp)]
        · intro ρ W ⟨kc, kg, kf⟩ hF hs
          obtain ⟨h0, h1, -⟩ := hs
          replace h0 : (Fresh30 W3.heap.size) (ρ (.tmp 13)) W := h0
          replace h1 : ρ (.tmp 115) = .agg #[.int .i64 yb.p, .int .i64 yb.a, .int .i64 yb.b, .int .i64 yb.m, .int .i64 yb.wt, .int .i64 yb.g, .int .i64 yb.t] := h1
          obtain ⟨q0, _, hb, hk⟩ := h0
          have f0 := hk.free 0
          have f1 := hk.free 1
          have f2 := hk.free 2
          have f3 := hk.free 3
          have f4 := hk.free 4
          have f5 := hk.free 5
          have f6 := hk.free 6
          have g0 := hk.cell 0
          have g1 := hk.cell 1
          have g2 := hk.cell 2
          have g3 := hk.cell 3
          have g4 := hk.cell 4
          have g5 := hk.cell 5
          have g6 := hk.cell 6
          simp only [List.getElem?_toArray, List.getElem?_cons_zero, List.getElem?_cons_succ] at g0 g1 g2 g3 g4 g5 g6
          refine ⟨((((((W.setCell ⟨q0, 0, none⟩ (.int .i64 yb.p)).setCell ⟨q0, 1, none⟩ (.int .i64 yb.a)).setCell ⟨q0, 2, none⟩ (.int .i64 yb.b)).setCell ⟨q0, 3, none⟩ (.int .i64 yb.m)).setCell ⟨q0, 4, none⟩ (.int .i64 yb.wt)).setCell ⟨q0, 5, none⟩ (.int .i64 yb.g)).setCell ⟨q0, 6, none⟩ (.int .i64 yb.t), ?_⟩
          go_simp
        · intro fv W4 hF hs
          obtain ⟨-, -, -, -, -, -, -, -, -, -, -, h115, h116, h13, -⟩ := hs
          replace h115 : fv 115 = .agg #[.int .i64 yb.p, .int .i64 yb.a, .int .i64 yb.b, .int .i64 yb.m, .int .i64 yb.wt, .int .i64 yb.g, .int .i64 yb.t] := h115
          replace h116 : fv 116 = .int .i64 (0) := h116
          replace h13 : (Fresh30 W3.heap.size) (fv 13) W4 := h13
          simp only [fin, List.filterMap]
          go_simp
          obtain ⟨q2, hq, hv8, hk8⟩ := h13
          rw [hv8]
          have hQ : w.heap.size + 1 + 1 < q2 := Nat.lt_of_lt_of_le HI.out.size hq
          replace KA := Lib.hid (blk_other7 (KA.out.ext hF) (Nat.lt_of_lt_of_le KA.out.lt hq) yb)
          have HB3 := Lib.hid ((HI.out.ext hF).store hQ yb)
          have K3 := Lib.hid (blk7 hk8 yb)
          have f0 := hk8.free 0
          have f1 := hk8.free 1
          have f2 := hk8.free 2
          have f3 := hk8.free 3
          have f4 := hk8.free 4
          have f5 := hk8.free 5
          have f6 := hk8.free 6
          have g0 := hk8.cell 0
          have g1 := hk8.cell 1
          have g2 := hk8.cell 2
          have g3 := hk8.cell 3
          have g4 := hk8.cell 4
          have g5 := hk8.cell 5
          have g6 := hk8.cell 6
          simp only [List.getElem?_toArray, List.getElem?_cons_zero, List.getElem?_cons_succ] at g0 g1 g2 g3 g4 g5 g6
          clear hF hv8 hk8 hq
          clear y0 y1 y2 y3 y4 y5 y6 y7 x0 x1 x2 x3 x4 x5 x6 v0 v1 v2 v3 v4 v5 v6
          refine wpList_plain rfl (fun K hK => ?_)
          go_simp
          obtain ⟨W5, hW3⟩ : ∃ W3, W3 = ((((((W4.setCell ⟨q2, 0, none⟩ (.int .i64 yb.p)).setCell ⟨q2, 1, none⟩ (.int .i64 yb.a)).setCell ⟨q2, 2, none⟩ (.int .i64 yb.b)).setCell ⟨q2, 3, none⟩ (.int .i64 yb.m)).setCell ⟨q2, 4, none⟩ (.int .i64 yb.wt)).setCell ⟨q2, 5, none⟩ (.int .i64 yb.g)).setCell ⟨q2, 6, none⟩ (.int .i64 yb.t) := ⟨_, rfl⟩
          rw [← hW3] at HB3 K3 KA ⊢
          clear hW3 f0 g0 f1 g1 f2 g2 f3 g3 f4 g4 f5 g5 f6 g6
          refine hK _ _ ?_
          clear hK
          replace HI := HB3
          have KB := K3
          clear HB3 K3
          have y0 : W5.cell? ⟨w.heap.size, 0, none⟩ = some (.slice A0 n0 c0) := HI.out.k0.cell 0
          have y1 : W5.cell? ⟨w.heap.size, 1, none⟩ = some (.slice A1 n1 c1) := HI.out.k0.cell 1
          have y2 : W5.cell? ⟨w.heap.size, 2, none⟩ = some (.slice A2 n2 c2) := HI.out.k0.cell 2
          have y3 : W5.cell? ⟨w.heap.size, 3, none⟩ = some (.slice A3 n3 c3) := HI.out.k0.cell 3
          have y4 : W5.cell? ⟨w.heap.size, 4, none⟩ = some (.int .i64 r.h0) := HI.out.k0.cell 4
          have y5 : W5.cell? ⟨w.heap.size, 5, none⟩ = some (.int .i64 r.h1) := HI.out.k0.cell 5
          have y6 : W5.cell? ⟨w.heap.size, 6, none⟩ = some (.int .i64 r.h2) := HI.out.k0.cell 6
          have y7 : W5.cell? ⟨w.heap.size, 7, none⟩ = some (.int .i64 r.h3) := HI.out.k0.cell 7
          have x0 : W5.cell? ⟨w.heap.size + 1, 0, none⟩ = some (.int .i64 s.p) := HI.out.k1.cell 0
          have x1 : W5.cell? ⟨w.heap.size + 1, 1, none⟩ = some (.int .i64 s.a) := HI.out.k1.cell 1
          have x2 : W5.cell? ⟨w.heap.size + 1, 2, none⟩ = some (.int .i64 s.b) := HI.out.k1.cell 2
          have x3 : W5.cell? ⟨w.heap.size + 1, 3, none⟩ = some (.int .i64 s.m) := HI.out.k1.cell 3
          have x4 : W5.cell? ⟨w.heap.size + 1, 4, none⟩ = some (.int .i64 s.wt) := HI.out.k1.cell 4
          have x5 : W5.cell? ⟨w.heap.size + 1, 5, none⟩ = some (.int .i64 s.g) := HI.out.k1.cell 5
          have x6 : W5.cell? ⟨w.heap.size + 1, 6, none⟩ = some (.int .i64 s.t) := HI.out.k1.cell 6
          have v0 : W5.cell? ⟨w.heap.size + 1 + 1, 0, none⟩ = some (.slice B n cb) := HI.out.k2.cell 0
          have v1 : W5.cell? ⟨w.heap.size + 1 + 1, 1, none⟩ = some (.int .i64 k.h) := HI.out.k2.cell 1
          have v2 : W5.cell? ⟨w.heap.size + 1 + 1, 2, none⟩ = some (.int .i64 k.c) := HI.out.k2.cell 2
          have v3 : W5.cell? ⟨w.heap.size + 1 + 1, 3, none⟩ = some (.int .i64 k.d) := HI.out.k2.cell 3
          have v4 : W5.cell? ⟨w.heap.size + 1 + 1, 4, none⟩ = some (.int .i64 l.h) := HI.out.k2.cell 4
          have v5 : W5.cell? ⟨w.heap.size + 1 + 1, 5, none⟩ = some (.int .i64 l.c) := HI.out.k2.cell 5
          have v6 : W5.cell? ⟨w.heap.size + 1 + 1, 6, none⟩ = some (.int .i64 l.d) := HI.out.k2.cell 6
          have m0 : W5.cell? ⟨q1, 0, none⟩ = some (.int .i64 ya.p) := KA.out.cell 0
          have m1 : W5.cell? ⟨q1, 1, none⟩ = some (.int .i64 ya.a) := KA.out.cell 1
          have m2 : W5.cell? ⟨q1, 2, none⟩ = some (.int .i64 ya.b) := KA.out.cell 2
          have m3 : W5.cell? ⟨q1, 3, none⟩ = some (.int .i64 ya.m) := KA.out.cell 3
          have m4 : W5.cell? ⟨q1, 4, none⟩ = some (.int .i64 ya.wt) := KA.out.cell 4
          have m5 : W5.cell? ⟨q1, 5, none⟩ = some (.int .i64 ya.g) := KA.out.cell 5
          have m6 : W5.cell? ⟨q1, 6, none⟩ = some (.int .i64 ya.t) := KA.out.cell 6
          have t0 : W5.cell? ⟨q2, 0, none⟩ = some (.int .i64 yb.p) := KB.out.cell 0
          have t1 : W5.cell? ⟨q2, 1, none⟩ = some (.int .i64 yb.a) := KB.out.cell 1
          have t2 : W5.cell? ⟨q2, 2, none⟩ = some (.int .i64 yb.b) := KB.out.cell 2
          have t3 : W5.cell? ⟨q2, 3, none⟩ = some (.int .i64 yb.m) := KB.out.cell 3
          have t4 : W5.cell? ⟨q2, 4, none⟩ = some (.int .i64 yb.wt) := KB.out.cell 4
          have t5 : W5.cell? ⟨q2, 5, none⟩ = some (.int .i64 yb.g) := KB.out.cell 5
          have t6 : W5.cell? ⟨q2, 6, none⟩ = some (.int .i64 yb.t) := KB.out.cell 6
          clear HRA HRB HIN HX HN HNIL
          cases b1 with
          | false =>
            clear HHC
            cases b2 with
            | false =>
              clear HCC
              go_wp2
              go_ret
              exact ⟨rfl, HI.out.e⟩
            | true =>
              obtain ⟨p3, p4⟩ := HCC.out (by first | rfl | trivial)
              clear HCC
              by_cases u3 : l.d < k.d
              · have r2 : yb.m ≤ ya.m := p4 (by omega)
                have u4 : ¬ k.d < l.d := by omega
                clear p3 p4
                go_wp2
                go_ret
                exact ⟨rfl, HI.out.e⟩
              · have r1 : ya.m ≤ yb.m := p3 (by omega)
                by_cases u4 : k.d < l.d
                · clear p3 p4
                  go_wp2
                  go_ret
                  exact ⟨rfl, HI.out.e⟩
                · have r2 : yb.m ≤ ya.m := p4 (by omega)
                  clear p3 p4
                  go_wp2
                  go_ret
                  exact ⟨rfl, HI.out.e⟩
          | true =>
            obtain ⟨p1, p2⟩ := HHC.out (by first | rfl | trivial)
            clear HHC
            by_cases u1 : k.h ≤ l.h
            · have r5 : ¬ yb.a < ya.a := by have := p1 u1; omega
              by_cases u2 : l.h ≤ k.h
              · have r6 : ¬ ya.a < yb.a := by have := p2 u2; omega
                clear p1 p2
                cases b2 with
                | false =>
                  clear HCC
                  go_wp2
                  go_ret
                  exact ⟨rfl, HI.out.e⟩
                | true =>
                  obtain ⟨p3, p4⟩ := HCC.out (by first | rfl | trivial)
                  clear HCC
                  by_cases u3 : l.d < k.d
                  · have r2 : yb.m ≤ ya.m := p4 (by omega)
                    have u4 : ¬ k.d < l.d := by omega
                    clear p3 p4
                    go_wp2
                    go_ret
                    exact ⟨rfl, HI.out.e⟩
                  · have r1 : ya.m ≤ yb.m := p3 (by omega)
                    by_cases u4 : k.d < l.d
                    · clear p3 p4
                      go_wp2
                      go_ret
                      exact ⟨rfl, HI.out.e⟩
                    · have r2 : yb.m ≤ ya.m := p4 (by omega)
                      clear p3 p4
                      go_wp2
                      go_ret
                      exact ⟨rfl, HI.out.e⟩
              · clear p1 p2
                cases b2 with
                | false =>
                  clear HCC
                  go_wp2
                  go_ret
                  exact ⟨rfl, HI.out.e⟩
                | true =>
                  obtain ⟨p3, p4⟩ := HCC.out (by first | rfl | trivial)
                  clear HCC
                  by_cases u3 : l.d < k.d
                  · have r2 : yb.m ≤ ya.m := p4 (by omega)
                    have u4 : ¬ k.d < l.d := by omega
                    clear p3 p4
                    go_wp2
                    go_ret
                    exact ⟨rfl, HI.out.e⟩
                  · have r1 : ya.m ≤ yb.m := p3 (by omega)
                    by_cases u4 : k.d < l.d
                    · clear p3 p4
                      go_wp2
                      go_ret
                      exact ⟨rfl, HI.out.e⟩
                    · have r2 : yb.m ≤ ya.m := p4 (by omega)
                      clear p3 p4
                      go_wp2
                      go_ret
                      exact ⟨rfl, HI.out.e⟩
            · have u2 : l.h ≤ k.h := by omega
              have r6 : ¬ ya.a < yb.a := by have := p2 u2; omega
              clear p1 p2
              cases b2 with
              | false =>
                clear HCC
                go_wp2
                go_ret
                exact ⟨rfl, HI.out.e⟩
              | true =>
                obtain ⟨p3, p4⟩ := HCC.out (by first | rfl | trivial)
                clear HCC
                by_cases u3 : l.d < k.d
                · have r2 : yb.m ≤ ya.m := p4 (by omega)
                  have u4 : ¬ k.d < l.d := by omega
                  clear p3 p4
                  go_wp2
                  go_ret
                  exact ⟨rfl, HI.out.e⟩
                · have r1 : ya.m ≤ yb.m := p3 (by omega)
                  by_cases u4 : k.d < l.d
                  · clear p3 p4
                    go_wp2
                    go_ret
                    exact ⟨rfl, HI.out.e⟩
                  · have r2 : yb.m ≤ ya.m := p4 (by omega)
                    clear p3 p4
                    go_wp2
                    go_ret
                    exact ⟨rfl, HI.out.e⟩

end Go.Proofs.YtkmekbafjnlfkaaGreat
