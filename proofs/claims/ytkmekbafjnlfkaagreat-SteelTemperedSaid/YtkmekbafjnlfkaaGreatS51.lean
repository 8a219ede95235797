/- SteelTempered where all premises hold. -/
import Derived.Test.YtkmekbafjnlfkaaGreatS50

namespace Go.Proofs.YtkmekbafjnlfkaaGreat
open Go.RowKit Go.Shelf Go.Mem Go.RegInv
attribute [local go_sem] RelUpon_value RelUpon_skip RelUpon_enter BigFrame.eval_const BigFrame.eval_global BigFrame.eval_func

theorem curve_uno {x : Int} (h : kelE x = 0) : curveE [x] = 0 := by
  rw [curveE_eq, if_neg (show ¬ (200 : Int) < (([x] : List Int).length : Int) by simp)]
  show (if kelE x ≠ 0 then _ else (0, 0) : Int × Int).2 = 0
  rw [if_neg (by simp [h])]
theorem hard_mono {h0 h1 h2 h3 p a b m t u : Int} (hm : 0 ≤ m) (ht : t ≤ u) : hardK h0 h1 h2 h3 p a b m u ≤ hardK h0 h1 h2 h3 p a b m t := by
  unfold hardK
  have h := Int.mul_le_mul_of_nonneg_left (show max (h3 - u) h2 ≤ max (h3 - t) h2 by omega) hm
  generalize m * max (h3 - u) h2 = v1 at *
  generalize m * max (h3 - t) h2 = v2 at *
  generalize p * h0 = q0 at *
  generalize a * h1 = q1 at *
  generalize b * h2 = q2 at *
  omega
/-- A tick at which there is at most a knot of Tempers. -/
theorem tick_temper {r : Ru} (hr : RuOK r) {n0 : Nat} (hn : r.hs.length = n0) {kv : Int} (hh : lastLe (fun x : HK => decide (x.k ≤ kv)) r.hs n0 < 0) (hc : firstK CK.k kv r.cs < 0) (hd : firstK DK.k kv r.ds < 0) (k : Pk) {z : St} (hz : StK z) :
    ∃ t, tickK r k z kv = ⟨z.p, z.a, z.b, z.m, z.wt, z.g, t⟩ ∧ z.t ≤ t := by
  have h0 : ¬ 0 ≤ lastK HK.k kv r.hs := by
    intro h1
    have h2 := hot_last.2 h1
    unfold hotB at h2
    cases h9 : r.hs with
    | nil => rw [h9] at h2; cases h2
    | cons g l =>
      rw [h9] at h2 hh hn
      have h3 := lastLe_none hh 0 g (by simp at hn; omega) rfl
      simp only [decide_eq_true_eq] at h2
      simp only [decide_eq_false_iff_not] at h3
      exact h3 h2
  have e : tickD r kv = optD (lastK TK.k kv r.ts) r.ts .t := by
    unfold tickD deedsK
    rw [if_neg h0, optD_neg (by omega), optD_neg (by omega)]
    rfl
  unfold tickK
  rw [e]
  rcases lastK_at TK.k kv r.ts with h1 | ⟨j, x, h1, h2⟩
  · rw [optD_neg (by omega)]
    exact ⟨z.t, rfl, Int.le_refl _⟩
  · rw [optD_pos h1 h2]
    refine ⟨min 1000000 (z.t + x.r), rfl, ?_⟩
    have a := hr.t x (List.mem_of_getElem? h2)
    have b := hz.ht
    obtain ⟨a1, a2⟩ := a
    omega
set_option maxRecDepth 100000 in
set_option maxHeartbeats 16000000 in
theorem tempered_ok {r : Ru} {A0 A1 A2 A3 : Option Addr} {n0 n1 n2 n3 c0 c1 c2 c3 : Nat} {w : World} (s : St) (kv : Int) (m : Nat) (hR : RuIn r (.agg #[.slice A0 n0 c0, .slice A1 n1 c1, .slice A2 n2 c2, .slice A3 n3 c3, .int .i64 r.h0, .int .i64 r.h1, .int .i64 r.h2, .int .i64 r.h3]) w) (h10 : n0 ≤ 10 ∧ n1 ≤ 10 ∧ n2 ≤ 10 ∧ n3 ≤ 10) (hr : rulesE r = 0) (hs : stateE [s.p, s.a, s.b, s.m, s.wt, s.g, s.t] = 0) (hk : kelE kv = 0) (ht : withinB (m : Int) 0 30 = true) (hh : lastLe (fun x : HK => decide (x.k ≤ kv)) r.hs n0 < 0) (hc : firstK CK.k kv r.cs < 0) (hd : firstK DK.k kv r.ds < 0) :
    Calls Tryz.prog 12 #[.agg #[.slice A0 n0 c0, .slice A1 n1 c1, .slice A2 n2 c2, .slice A3 n3 c3, .int .i64 r.h0, .int .i64 r.h1, .int .i64 r.h2, .int .i64 r.h3], .agg #[.int .i64 s.p, .int .i64 s.a, .int .i64 s.b, .int .i64 s.m, .int .i64 s.wt, .int .i64 s.g, .int .i64 s.t], .agg #[.int .i64 kv, .int .i64 (m : Int)]] w fun e w' => e = .returned (.bool true) ∧ Ext w w' := by
  obtain ⟨tv, htv⟩ : ∃ tv : Int, tv = (m : Int) := ⟨_, rfl⟩
  have hm30 : m ≤ 30 := by
    have h1 := ht
    simp only [withinB, Bool.and_eq_true, decide_eq_true_eq] at h1
    omega
  rw [← htv] at ht ⊢
  have HIN := Lib.hid hR
  have HRE := Lib.hid (fun (W : World) (e : Ext w W) => rulesErr_any (c0 := c0) (c1 := c1) (c2 := c2) (c3 := c3) (hR.at.ext e) h10)
  have HSE := Lib.hid (fun W => stateErr_any s.p s.a s.b s.m s.wt s.g s.t W)
  have HKE := Lib.hid (fun W => kelvinErr_any kv W)
  have HTE := Lib.hid (fun W => within_any tv 0 30 W)
  have HH := Lib.hid (fun (W : World) (e : Ext w W) => heatAt_any (c0 := c0) (c1 := c1) (c2 := c2) (c3 := c3) (hR.at.ext e) kv)
  have HC := Lib.hid (fun (W : World) (e : Ext w W) => coolAt_any (c0 := c0) (c1 := c1) (c2 := c2) (c3 := c3) (hR.at.ext e) kv)
  have HD := Lib.hid (fun (W : World) (e : Ext w W) => coldAt_any (c0 := c0) (c1 := c1) (c2 := c2) (c3 := c3) (hR.at.ext e) kv)
  have HFEW := Lib.hid (fun W => show Calls Tryz.prog 14 #[.agg #[.slice A0 n0 c0, .slice A1 n1 c1, .slice A2 n2 c2, .slice A3 n3 c3, .int .i64 r.h0, .int .i64 r.h1, .int .i64 r.h2, .int .i64 r.h3]] W fun e w' => e = .returned (.bool true) ∧ Ext W w' by
    have := few_any A0 A1 A2 A3 n0 n1 n2 n3 c0 c1 c2 c3 r.h0 r.h1 r.h2 r.h3 W
    rw [decide_eq_true h10] at this
    exact this)
  obtain ⟨W0, hW0⟩ : ∃ W0, W0 = ((w.alloc (.cells #[.slice A0 n0 c0, .slice A1 n1 c1, .slice A2 n2 c2, .slice A3 n3 c3, .int .i64 r.h0, .int .i64 r.h1, .int .i64 r.h2, .int .i64 r.h3] 28)).alloc (.cells #[.int .i64 s.p, .int .i64 s.a, .int .i64 s.b, .int .i64 s.m, .int .i64 s.wt, .int .i64 s.g, .int .i64 s.t] 30)).alloc (.cells #[.int .i64 kv, .int .i64 tv] 123) := ⟨_, rfl⟩
  have HI := Lib.hid (show BoxI w W0 123 #[.slice A0 n0 c0, .slice A1 n1 c1, .slice A2 n2 c2, .slice A3 n3 c3, .int .i64 r.h0, .int .i64 r.h1, .int .i64 r.h2, .int .i64 r.h3] s #[.int .i64 kv, .int .i64 tv] by rw [hW0]; exact BoxI.new _ _ _ _ _)
  rw [hr] at HRE
  rw [hs] at HSE
  rw [hk] at HKE
  rw [ht] at HTE
  have hd4 : decide (0 ≤ lastLe (fun x : HK => decide (x.k ≤ kv)) r.hs n0) = false := decide_eq_false (by omega)
  have hd5 : decide (0 ≤ firstK CK.k kv r.cs) = false := decide_eq_false (by omega)
  have hd6 : decide (0 ≤ firstK DK.k kv r.ds) = false := decide_eq_false (by omega)
  have HRU := Lib.hid hr
  have HKU := Lib.hid hk
  have HRO := Lib.hid (rulesOK hr)
  have HTK := Lib.hid (fun (z : St) (hz : StK z) => tick_temper (rulesOK hr) hR.at.l0 hh hc hd (⟨0, 0, 0⟩ : Pk) hz)
  have HS := Lib.hid (show StK s from state_ok hs)
  have HMT := Lib.hid htv
  have HHG := Lib.hid (fun (z : St) (hz : StK z) (u : Value) (W : World) (h : RuV r u W) => show Calls Tryz.prog 26 #[u, .agg #[.int .i64 z.p, .int .i64 z.a, .int .i64 z.b, .int .i64 z.m, .int .i64 z.wt, .int .i64 z.g, .int .i64 z.t]] W fun e w' => e = .returned (.tuple #[.int .i64 (hardK r.h0 r.h1 r.h2 r.h3 z.p z.a z.b z.m z.t), .int .i64 0]) ∧ Ext W w' by
    have := hardnessOf_any h z.p z.a z.b z.m z.wt z.g z.t
    rw [show bothE r [z.p, z.a, z.b, z.m, z.wt, z.g, z.t] = 0 from firstE_none (by
      intro v hv
      simp only [List.mem_cons, List.not_mem_nil, or_false] at hv
      rcases hv with rfl | rfl
      · exact hr
      · exact state_zero hz), if_pos rfl] at this
    exact this)
  have HHS := Lib.hid (HHG.out s HS.out)
  obtain ⟨hs0, hhs0⟩ : ∃ hs0, hs0 = hardK r.h0 r.h1 r.h2 r.h3 s.p s.a s.b s.m s.t := ⟨_, rfl⟩
  rw [← hhs0] at HHS
  have HH0 := Lib.hid hhs0
  clear hhs0 hr hs hk ht hh hc hd hR h10 htv
  go_enter Tryz.func12, Tryz.ntmps12
  go_wp2_with (go_at_call 13; rw [← hW0]; refine (awake_any _).mono ?_; rintro e W1 ⟨rfl, hx⟩; have XT := Lib.hid hx; clear hx hW0; refine Hid.out ?_)
  refine Lib.hid ?_
  replace HI := Lib.hid (HI.out.ext XT.out)
  clear XT
  have y0 : W1.cell? ⟨w.heap.size, 0, none⟩ = some (.slice A0 n0 c0) := HI.out.k0.cell 0
  have y1 : W1.cell? ⟨w.heap.size, 1, none⟩ = some (.slice A1 n1 c1) := HI.out.k0.cell 1
  have y2 : W1.cell? ⟨w.heap.size, 2, none⟩ = some (.slice A2 n2 c2) := HI.out.k0.cell 2
  have y3 : W1.cell? ⟨w.heap.size, 3, none⟩ = some (.slice A3 n3 c3) := HI.out.k0.cell 3
  have y4 : W1.cell? ⟨w.heap.size, 4, none⟩ = some (.int .i64 r.h0) := HI.out.k0.cell 4
  have y5 : W1.cell? ⟨w.heap.size, 5, none⟩ = some (.int .i64 r.h1) := HI.out.k0.cell 5
  have y6 : W1.cell? ⟨w.heap.size, 6, none⟩ = some (.int .i64 r.h2) := HI.out.k0.cell 6
  have y7 : W1.cell? ⟨w.heap.size, 7, none⟩ = some (.int .i64 r.h3) := HI.out.k0.cell 7
  have x0 : W1.cell? ⟨w.heap.size + 1, 0, none⟩ = some (.int .i64 s.p) := HI.out.k1.cell 0
  have x1 : W1.cell? ⟨w.heap.size + 1, 1, none⟩ = some (.int .i64 s.a) := HI.out.k1.cell 1
  have x2 : W1.cell? ⟨w.heap.size + 1, 2, none⟩ = some (.int .i64 s.b) := HI.out.k1.cell 2
  have x3 : W1.cell? ⟨w.heap.size + 1, 3, none⟩ = some (.int .i64 s.m) := HI.out.k1.cell 3
  have x4 : W1.cell? ⟨w.heap.size + 1, 4, none⟩ = some (.int .i64 s.wt) := HI.out.k1.cell 4
  have x5 : W1.cell? ⟨w.heap.size + 1, 5, none⟩ = some (.int .i64 s.g) := HI.out.k1.cell 5
  have x6 : W1.cell? ⟨w.heap.size + 1, 6, none⟩ = some (.int .i64 s.t) := HI.out.k1.cell 6
  have v0 : W1.cell? ⟨w.heap.size + 1 + 1, 0, none⟩ = some (.int .i64 kv) := HI.out.k2.cell 0
  have v1 : W1.cell? ⟨w.heap.size + 1 + 1, 1, none⟩ = some (.int .i64 tv) := HI.out.k2.cell 1
  go_wp2
  go_quiet (fail)
  have XD := Lib.hid (show Ext W1 (W1.drewN nq) from Ext.drewN _ _)
  replace HI := Lib.hid (HI.out.ext XD.out)
  obtain ⟨V1, hV1⟩ : ∃ V, V = W1.drewN nq := ⟨_, rfl⟩
  rw [← hV1] at HI ⊢
  clear XD hV1
  clear y0 y1 y2 y3 y4 y5 y6 y7 x0 x1 x2 x3 x4 x5 x6 v0 v1
  have y0 : V1.cell? ⟨w.heap.size, 0, none⟩ = some (.slice A0 n0 c0) := HI.out.k0.cell 0
  have y1 : V1.cell? ⟨w.heap.size, 1, none⟩ = some (.slice A1 n1 c1) := HI.out.k0.cell 1
  have y2 : V1.cell? ⟨w.heap.size, 2, none⟩ = some (.slice A2 n2 c2) := HI.out.k0.cell 2
  have y3 : V1.cell? ⟨w.heap.size, 3, none⟩ = some (.slice A3 n3 c3) := HI.out.k0.cell 3
  have y4 : V1.cell? ⟨w.heap.size, 4, none⟩ = some (.int .i64 r.h0) := HI.out.k0.cell 4
  have y5 : V1.cell? ⟨w.heap.size, 5, none⟩ = some (.int .i64 r.h1) := HI.out.k0.cell 5
  have y6 : V1.cell? ⟨w.heap.size, 6, none⟩ = some (.int .i64 r.h2) := HI.out.k0.cell 6
  have y7 : V1.cell? ⟨w.heap.size, 7, none⟩ = some (.int .i64 r.h3) := HI.out.k0.cell 7
  have x0 : V1.cell? ⟨w.heap.size + 1, 0, none⟩ = some (.int .i64 s.p) := HI.out.k1.cell 0
  have x1 : V1.cell? ⟨w.heap.size + 1, 1, none⟩ = some (.int .i64 s.a) := HI.out.k1.cell 1
  have x2 : V1.cell? ⟨w.heap.size + 1, 2, none⟩ = some (.int .i64 s.b) := HI.out.k1.cell 2
  have x3 : V1.cell? ⟨w.heap.size + 1, 3, none⟩ = some (.int .i64 s.m) := HI.out.k1.cell 3
  have x4 : V1.cell? ⟨w.heap.size + 1, 4, none⟩ = some (.int .i64 s.wt) := HI.out.k1.cell 4
  have x5 : V1.cell? ⟨w.heap.size + 1, 5, none⟩ = some (.int .i64 s.g) := HI.out.k1.cell 5
  have x6 : V1.cell? ⟨w.heap.size + 1, 6, none⟩ = some (.int .i64 s.t) := HI.out.k1.cell 6
  have v0 : V1.cell? ⟨w.heap.size + 1 + 1, 0, none⟩ = some (.int .i64 kv) := HI.out.k2.cell 0
  have v1 : V1.cell? ⟨w.heap.size + 1 + 1, 1, none⟩ = some (.int .i64 tv) := HI.out.k2.cell 1
  go_wp2_with (go_at_call 14; refine (HFEW.out _).mono ?_; rintro e W2 ⟨rfl, hx⟩; have XT := Lib.hid hx; clear hx; refine Hid.out ?_)
  refine Lib.hid ?_
  replace HI := Lib.hid (HI.out.ext XT.out)
  clear XT
  clear y0 y1 y2 y3 y4 y5 y6 y7 x0 x1 x2 x3 x4 x5 x6 v0 v1
  have y0 : W2.cell? ⟨w.heap.size, 0, none⟩ = some (.slice A0 n0 c0) := HI.out.k0.cell 0
  have y1 : W2.cell? ⟨w.heap.size, 1, none⟩ = some (.slice A1 n1 c1) := HI.out.k0.cell 1
  have y2 : W2.cell? ⟨w.heap.size, 2, none⟩ = some (.slice A2 n2 c2) := HI.out.k0.cell 2
  have y3 : W2.cell? ⟨w.heap.size, 3, none⟩ = some (.slice A3 n3 c3) := HI.out.k0.cell 3
  have y4 : W2.cell? ⟨w.heap.size, 4, none⟩ = some (.int .i64 r.h0) := HI.out.k0.cell 4
  have y5 : W2.cell? ⟨w.heap.size, 5, none⟩ = some (.int .i64 r.h1) := HI.out.k0.cell 5
  have y6 : W2.cell? ⟨w.heap.size, 6, none⟩ = some (.int .i64 r.h2) := HI.out.k0.cell 6
  have y7 : W2.cell? ⟨w.heap.size, 7, none⟩ = some (.int .i64 r.h3) := HI.out.k0.cell 7
  have x0 : W2.cell? ⟨w.heap.size + 1, 0, none⟩ = some (.int .i64 s.p) := HI.out.k1.cell 0
  have x1 : W2.cell? ⟨w.heap.size + 1, 1, none⟩ = some (.int .i64 s.a) := HI.out.k1.cell 1
  have x2 : W2.cell? ⟨w.heap.size + 1, 2, none⟩ = some (.int .i64 s.b) := HI.out.k1.cell 2
  have x3 : W2.cell? ⟨w.heap.size + 1, 3, none⟩ = some (.int .i64 s.m) := HI.out.k1.cell 3
  have x4 : W2.cell? ⟨w.heap.size + 1, 4, none⟩ = some (.int .i64 s.wt) := HI.out.k1.cell 4
  have x5 : W2.cell? ⟨w.heap.size + 1, 5, none⟩ = some (.int .i64 s.g) := HI.out.k1.cell 5
  have x6 : W2.cell? ⟨w.heap.size + 1, 6, none⟩ = some (.int .i64 s.t) := HI.out.k1.cell 6
  have v0 : W2.cell? ⟨w.heap.size + 1 + 1, 0, none⟩ = some (.int .i64 kv) := HI.out.k2.cell 0
  have v1 : W2.cell? ⟨w.heap.size + 1 + 1, 1, none⟩ = some (.int .i64 tv) := HI.out.k2.cell 1
  go_wp2_with (go_at_call 28; refine (HRE.out _ HI.out.e).mono ?_; rintro e W3 ⟨rfl, hx⟩; have XT := Lib.hid hx; clear hx; refine Hid.out ?_)
  refine Lib.hid ?_
  replace HI := Lib.hid (HI.out.ext XT.out)
  clear XT
  clear y0 y1 y2 y3 y4 y5 y6 y7 x0 x1 x2 x3 x4 x5 x6 v0 v1
  have y0 : W3.cell? ⟨w.heap.size, 0, none⟩ = some (.slice A0 n0 c0) := HI.out.k0.cell 0
  have y1 : W3.cell? ⟨w.heap.size, 1, none⟩ = some (.slice A1 n1 c1) := HI.out.k0.cell 1
  have y2 : W3.cell? ⟨w.heap.size, 2, none⟩ = some (.slice A2 n2 c2) := HI.out.k0.cell 2
  have y3 : W3.cell? ⟨w.heap.size, 3, none⟩ = some (.slice A3 n3 c3) := HI.out.k0.cell 3
  have y4 : W3.cell? ⟨w.heap.size, 4, none⟩ = some (.int .i64 r.h0) := HI.out.k0.cell 4
  have y5 : W3.cell? ⟨w.heap.size, 5, none⟩ = some (.int .i64 r.h1) := HI.out.k0.cell 5
  have y6 : W3.cell? ⟨w.heap.size, 6, none⟩ = some (.int .i64 r.h2) := HI.out.k0.cell 6
  have y7 : W3.cell? ⟨w.heap.size, 7, none⟩ = some (.int .i64 r.h3) := HI.out.k0.cell 7
  have x0 : W3.cell? ⟨w.heap.size + 1, 0, none⟩ = some (.int .i64 s.p) := HI.out.k1.cell 0
  have x1 : W3.cell? ⟨w.heap.size + 1, 1, none⟩ = some (.int .i64 s.a) := HI.out.k1.cell 1
  have x2 : W3.cell? ⟨w.heap.size + 1, 2, none⟩ = some (.int .i64 s.b) := HI.out.k1.cell 2
  have x3 : W3.cell? ⟨w.heap.size + 1, 3, none⟩ = some (.int .i64 s.m) := HI.out.k1.cell 3
  have x4 : W3.cell? ⟨w.heap.size + 1, 4, none⟩ = some (.int .i64 s.wt) := HI.out.k1.cell 4
  have x5 : W3.cell? ⟨w.heap.size + 1, 5, none⟩ = some (.int .i64 s.g) := HI.out.k1.cell 5
  have x6 : W3.cell? ⟨w.heap.size + 1, 6, none⟩ = some (.int .i64 s.t) := HI.out.k1.cell 6
  have v0 : W3.cell? ⟨w.heap.size + 1 + 1, 0, none⟩ = some (.int .i64 kv) := HI.out.k2.cell 0
  have v1 : W3.cell? ⟨w.heap.size + 1 + 1, 1, none⟩ = some (.int .i64 tv) := HI.out.k2.cell 1
  go_wp2_with (go_at_call 19; refine (HSE.out _).mono ?_; rintro e W4 ⟨rfl, hx⟩; have XT := Lib.hid hx; clear hx; refine Hid.out ?_)
  refine Lib.hid ?_
  replace HI := Lib.hid (HI.out.ext XT.out)
  clear XT
  clear y0 y1 y2 y3 y4 y5 y6 y7 x0 x1 x2 x3 x4 x5 x6 v0 v1
  have y0 : W4.cell? ⟨w.heap.size, 0, none⟩ = some (.slice A0 n0 c0) := HI.out.k0.cell 0
  have y1 : W4.cell? ⟨w.heap.size, 1, none⟩ = some (.slice A1 n1 c1) := HI.out.k0.cell 1
  have y2 : W4.cell? ⟨w.heap.size, 2, none⟩ = some (.slice A2 n2 c2) := HI.out.k0.cell 2
  have y3 : W4.cell? ⟨w.heap.size, 3, none⟩ = some (.slice A3 n3 c3) := HI.out.k0.cell 3
  have y4 : W4.cell? ⟨w.heap.size, 4, none⟩ = some (.int .i64 r.h0) := HI.out.k0.cell 4
  have y5 : W4.cell? ⟨w.heap.size, 5, none⟩ = some (.int .i64 r.h1) := HI.out.k0.cell 5
  have y6 : W4.cell? ⟨w.heap.size, 6, none⟩ = some (.int .i64 r.h2) := HI.out.k0.cell 6
  have y7 : W4.cell? ⟨w.heap.size, 7, none⟩ = some (.int .i64 r.h3) := HI.out.k0.cell 7
  have x0 : W4.cell? ⟨w.heap.size + 1, 0, none⟩ = some (.int .i64 s.p) := HI.out.k1.cell 0
  have x1 : W4.cell? ⟨w.heap.size + 1, 1, none⟩ = some (.int .i64 s.a) := HI.out.k1.cell 1
  have x2 : W4.cell? ⟨w.heap.size + 1, 2, none⟩ = some (.int .i64 s.b) := HI.out.k1.cell 2
  have x3 : W4.cell? ⟨w.heap.size + 1, 3, none⟩ = some (.int .i64 s.m) := HI.out.k1.cell 3
  have x4 : W4.cell? ⟨w.heap.size + 1, 4, none⟩ = some (.int .i64 s.wt) := HI.out.k1.cell 4
  have x5 : W4.cell? ⟨w.heap.size + 1, 5, none⟩ = some (.int .i64 s.g) := HI.out.k1.cell 5
  have x6 : W4.cell? ⟨w.heap.size + 1, 6, none⟩ = some (.int .i64 s.t) := HI.out.k1.cell 6
  have v0 : W4.cell? ⟨w.heap.size + 1 + 1, 0, none⟩ = some (.int .i64 kv) := HI.out.k2.cell 0
  have v1 : W4.cell? ⟨w.heap.size + 1 + 1, 1, none⟩ = some (.int .i64 tv) := HI.out.k2.cell 1
  go_wp2_with (go_at_call 30; refine (HKE.out _).mono ?_; rintro e W5 ⟨rfl, hx⟩; have XT := Lib.hid hx; clear hx; refine Hid.out ?_)
  refine Lib.hid ?_
  replace HI := Lib.hid (HI.out.ext XT.out)
  clear XT
  clear y0 y1 y2 y3 y4 y5 y6 y7 x0 x1 x2 x3 x4 x5 x6 v0 v1
  have y0 : W5.cell? ⟨w.heap.size, 0, none⟩ = some (.slice A0 n0 c0) := HI.out.k0.cell 0
  have y1 : W5.cell? ⟨w.heap.size, 1, none⟩ = some (.slice A1 n1 c1) := HI.out.k0.cell 1
  have y2 : W5.cell? ⟨w.heap.size, 2, none⟩ = some (.slice A2 n2 c2) := HI.out.k0.cell 2
  have y3 : W5.cell? ⟨w.heap.size, 3, none⟩ = some (.slice A3 n3 c3) := HI.out.k0.cell 3
  have y4 : W5.cell? ⟨w.heap.size, 4, none⟩ = some (.int .i64 r.h0) := HI.out.k0.cell 4
  have y5 : W5.cell? ⟨w.heap.size, 5, none⟩ = some (.int .i64 r.h1) := HI.out.k0.cell 5
  have y6 : W5.cell? ⟨w.heap.size, 6, none⟩ = some (.int .i64 r.h2) := HI.out.k0.cell 6
  have y7 : W5.cell? ⟨w.heap.size, 7, none⟩ = some (.int .i64 r.h3) := HI.out.k0.cell 7
  have x0 : W5.cell? ⟨w.heap.size + 1, 0, none⟩ = some (.int .i64 s.p) := HI.out.k1.cell 0
  have x1 : W5.cell? ⟨w.heap.size + 1, 1, none⟩ = some (.int .i64 s.a) := HI.out.k1.cell 1
  have x2 : W5.cell? ⟨w.heap.size + 1, 2, none⟩ = some (.int .i64 s.b) := HI.out.k1.cell 2
  have x3 : W5.cell? ⟨w.heap.size + 1, 3, none⟩ = some (.int .i64 s.m) := HI.out.k1.cell 3
  have x4 : W5.cell? ⟨w.heap.size + 1, 4, none⟩ = some (.int .i64 s.wt) := HI.out.k1.cell 4
  have x5 : W5.cell? ⟨w.heap.size + 1, 5, none⟩ = some (.int .i64 s.g) := HI.out.k1.cell 5
  have x6 : W5.cell? ⟨w.heap.size + 1, 6, none⟩ = some (.int .i64 s.t) := HI.out.k1.cell 6
  have v0 : W5.cell? ⟨w.heap.size + 1 + 1, 0, none⟩ = some (.int .i64 kv) := HI.out.k2.cell 0
  have v1 : W5.cell? ⟨w.heap.size + 1 + 1, 1, none⟩ = some (.int .i64 tv) := HI.out.k2.cell 1
  go_wp2_with (go_at_call 34; refine (HTE.out _).mono ?_; rintro e W6 ⟨rfl, hx⟩; have XT := Lib.hid hx; clear hx; refine Hid.out ?_)
  refine Lib.hid ?_
  replace HI := Lib.hid (HI.out.ext XT.out)
  clear XT
  clear y0 y1 y2 y3 y4 y5 y6 y7 x0 x1 x2 x3 x4 x5 x6 v0 v1
  have y0 : W6.cell? ⟨w.heap.size, 0, none⟩ = some (.slice A0 n0 c0) := HI.out.k0.cell 0
  have y1 : W6.cell? ⟨w.heap.size, 1, none⟩ = some (.slice A1 n1 c1) := HI.out.k0.cell 1
  have y2 : W6.cell? ⟨w.heap.size, 2, none⟩ = some (.slice A2 n2 c2) := HI.out.k0.cell 2
  have y3 : W6.cell? ⟨w.heap.size, 3, none⟩ = some (.slice A3 n3 c3) := HI.out.k0.cell 3
  have y4 : W6.cell? ⟨w.heap.size, 4, none⟩ = some (.int .i64 r.h0) := HI.out.k0.cell 4
  have y5 : W6.cell? ⟨w.heap.size, 5, none⟩ = some (.int .i64 r.h1) := HI.out.k0.cell 5
  have y6 : W6.cell? ⟨w.heap.size, 6, none⟩ = some (.int .i64 r.h2) := HI.out.k0.cell 6
  have y7 : W6.cell? ⟨w.heap.size, 7, none⟩ = some (.int .i64 r.h3) := HI.out.k0.cell 7
  have x0 : W6.cell? ⟨w.heap.size + 1, 0, none⟩ = some (.int .i64 s.p) := HI.out.k1.cell 0
  have x1 : W6.cell? ⟨w.heap.size + 1, 1, none⟩ = some (.int .i64 s.a) := HI.out.k1.cell 1
  have x2 : W6.cell? ⟨w.heap.size + 1, 2, none⟩ = some (.int .i64 s.b) := HI.out.k1.cell 2
  have x3 : W6.cell? ⟨w.heap.size + 1, 3, none⟩ = some (.int .i64 s.m) := HI.out.k1.cell 3
  have x4 : W6.cell? ⟨w.heap.size + 1, 4, none⟩ = some (.int .i64 s.wt) := HI.out.k1.cell 4
  have x5 : W6.cell? ⟨w.heap.size + 1, 5, none⟩ = some (.int .i64 s.g) := HI.out.k1.cell 5
  have x6 : W6.cell? ⟨w.heap.size + 1, 6, none⟩ = some (.int .i64 s.t) := HI.out.k1.cell 6
  have v0 : W6.cell? ⟨w.heap.size + 1 + 1, 0, none⟩ = some (.int .i64 kv) := HI.out.k2.cell 0
  have v1 : W6.cell? ⟨w.heap.size + 1 + 1, 1, none⟩ = some (.int .i64 tv) := HI.out.k2.cell 1
  go_wp2_with (go_at_call 65; refine (HH.out _ HI.out.e).mono ?_; rintro e W7 ⟨rfl, hx⟩; have XT := Lib.hid hx; clear hx; refine Hid.out ?_)
  refine Lib.hid ?_
  replace HI := Lib.hid (HI.out.ext XT.out)
  clear XT
  clear y0 y1 y2 y3 y4 y5 y6 y7 x0 x1 x2 x3 x4 x5 x6 v0 v1
  have y0 : W7.cell? ⟨w.heap.size, 0, none⟩ = some (.slice A0 n0 c0) := HI.out.k0.cell 0
  have y1 : W7.cell? ⟨w.heap.size, 1, none⟩ = some (.slice A1 n1 c1) := HI.out.k0.cell 1
  have y2 : W7.cell? ⟨w.heap.size, 2, none⟩ = some (.slice A2 n2 c2) := HI.out.k0.cell 2
  have y3 : W7.cell? ⟨w.heap.size, 3, none⟩ = some (.slice A3 n3 c3) := HI.out.k0.cell 3
  have y4 : W7.cell? ⟨w.heap.size, 4, none⟩ = some (.int .i64 r.h0) := HI.out.k0.cell 4
  have y5 : W7.cell? ⟨w.heap.size, 5, none⟩ = some (.int .i64 r.h1) := HI.out.k0.cell 5
  have y6 : W7.cell? ⟨w.heap.size, 6, none⟩ = some (.int .i64 r.h2) := HI.out.k0.cell 6
  have y7 : W7.cell? ⟨w.heap.size, 7, none⟩ = some (.int .i64 r.h3) := HI.out.k0.cell 7
  have x0 : W7.cell? ⟨w.heap.size + 1, 0, none⟩ = some (.int .i64 s.p) := HI.out.k1.cell 0
  have x1 : W7.cell? ⟨w.heap.size + 1, 1, none⟩ = some (.int .i64 s.a) := HI.out.k1.cell 1
  have x2 : W7.cell? ⟨w.heap.size + 1, 2, none⟩ = some (.int .i64 s.b) := HI.out.k1.cell 2
  have x3 : W7.cell? ⟨w.heap.size + 1, 3, none⟩ = some (.int .i64 s.m) := HI.out.k1.cell 3
  have x4 : W7.cell? ⟨w.heap.size + 1, 4, none⟩ = some (.int .i64 s.wt) := HI.out.k1.cell 4
  have x5 : W7.cell? ⟨w.heap.size + 1, 5, none⟩ = some (.int .i64 s.g) := HI.out.k1.cell 5
  have x6 : W7.cell? ⟨w.heap.size + 1, 6, none⟩ = some (.int .i64 s.t) := HI.out.k1.cell 6
  have v0 : W7.cell? ⟨w.heap.size + 1 + 1, 0, none⟩ = some (.int .i64 kv) := HI.out.k2.cell 0
  have v1 : W7.cell? ⟨w.heap.size + 1 + 1, 1, none⟩ = some (.int .i64 tv) := HI.out.k2.cell 1
  go_wp2_with (go_at_call 66; refine (HC.out _ HI.out.e).mono ?_; rintro e W8 ⟨rfl, hx⟩; have XT := Lib.hid hx; clear hx; refine Hid.out ?_)
  refine Lib.hid ?_
  replace HI := Lib.hid (HI.out.ext XT.out)
  clear XT
  clear y0 y1 y2 y3 y4 y5 y6 y7 x0 x1 x2 x3 x4 x5 x6 v0 v1
  have y0 : W8.cell? ⟨w.heap.size, 0, none⟩ = some (.slice A0 n0 c0) := HI.out.k0.cell 0
  have y1 : W8.cell? ⟨w.heap.size, 1, none⟩ = some (.slice A1 n1 c1) := HI.out.k0.cell 1
  have y2 : W8.cell? ⟨w.heap.size, 2, none⟩ = some (.slice A2 n2 c2) := HI.out.k0.cell 2
  have y3 : W8.cell? ⟨w.heap.size, 3, none⟩ = some (.slice A3 n3 c3) := HI.out.k0.cell 3
  have y4 : W8.cell? ⟨w.heap.size, 4, none⟩ = some (.int .i64 r.h0) := HI.out.k0.cell 4
  have y5 : W8.cell? ⟨w.heap.size, 5, none⟩ = some (.int .i64 r.h1) := HI.out.k0.cell 5
  have y6 : W8.cell? ⟨w.heap.size, 6, none⟩ = some (.int .i64 r.h2) := HI.out.k0.cell 6
  have y7 : W8.cell? ⟨w.heap.size, 7, none⟩ = some (.int .i64 r.h3) := HI.out.k0.cell 7
  have x0 : W8.cell? ⟨w.heap.size + 1, 0, none⟩ = some (.int .i64 s.p) := HI.out.k1.cell 0
  have x1 : W8.cell? ⟨w.heap.size + 1, 1, none⟩ = some (.int .i64 s.a) := HI.out.k1.cell 1
  have x2 : W8.cell? ⟨w.heap.size + 1, 2, none⟩ = some (.int .i64 s.b) := HI.out.k1.cell 2
  have x3 : W8.cell? ⟨w.heap.size + 1, 3, none⟩ = some (.int .i64 s.m) := HI.out.k1.cell 3
  have x4 : W8.cell? ⟨w.heap.size + 1, 4, none⟩ = some (.int .i64 s.wt) := HI.out.k1.cell 4
  have x5 : W8.cell? ⟨w.heap.size + 1, 5, none⟩ = some (.int .i64 s.g) := HI.out.k1.cell 5
  have x6 : W8.cell? ⟨w.heap.size + 1, 6, none⟩ = some (.int .i64 s.t) := HI.out.k1.cell 6
  have v0 : W8.cell? ⟨w.heap.size + 1 + 1, 0, none⟩ = some (.int .i64 kv) := HI.out.k2.cell 0
  have v1 : W8.cell? ⟨w.heap.size + 1 + 1, 1, none⟩ = some (.int .i64 tv) := HI.out.k2.cell 1
  go_wp2_with (go_at_call 67; refine (HD.out _ HI.out.e).mono ?_; rintro e W9 ⟨rfl, hx⟩; have XT := Lib.hid hx; clear hx; refine Hid.out ?_)
  refine Lib.hid ?_
  replace HI := Lib.hid (HI.out.ext XT.out)
  clear XT
  clear y0 y1 y2 y3 y4 y5 y6 y7 x0 x1 x2 x3 x4 x5 x6 v0 v1
  have y0 : W9.cell? ⟨w.heap.size, 0, none⟩ = some (.slice A0 n0 c0) := HI.out.k0.cell 0
  have y1 : W9.cell? ⟨w.heap.size, 1, none⟩ = some (.slice A1 n1 c1) := HI.out.k0.cell 1
  have y2 : W9.cell? ⟨w.heap.size, 2, none⟩ = some (.slice A2 n2 c2) := HI.out.k0.cell 2
  have y3 : W9.cell? ⟨w.heap.size, 3, none⟩ = some (.slice A3 n3 c3) := HI.out.k0.cell 3
  have y4 : W9.cell? ⟨w.heap.size, 4, none⟩ = some (.int .i64 r.h0) := HI.out.k0.cell 4
  have y5 : W9.cell? ⟨w.heap.size, 5, none⟩ = some (.int .i64 r.h1) := HI.out.k0.cell 5
  have y6 : W9.cell? ⟨w.heap.size, 6, none⟩ = some (.int .i64 r.h2) := HI.out.k0.cell 6
  have y7 : W9.cell? ⟨w.heap.size, 7, none⟩ = some (.int .i64 r.h3) := HI.out.k0.cell 7
  have x0 : W9.cell? ⟨w.heap.size + 1, 0, none⟩ = some (.int .i64 s.p) := HI.out.k1.cell 0
  have x1 : W9.cell? ⟨w.heap.size + 1, 1, none⟩ = some (.int .i64 s.a) := HI.out.k1.cell 1
  have x2 : W9.cell? ⟨w.heap.size + 1, 2, none⟩ = some (.int .i64 s.b) := HI.out.k1.cell 2
  have x3 : W9.cell? ⟨w.heap.size + 1, 3, none⟩ = some (.int .i64 s.m) := HI.out.k1.cell 3
  have x4 : W9.cell? ⟨w.heap.size + 1, 4, none⟩ = some (.int .i64 s.wt) := HI.out.k1.cell 4
  have x5 : W9.cell? ⟨w.heap.size + 1, 5, none⟩ = some (.int .i64 s.g) := HI.out.k1.cell 5
  have x6 : W9.cell? ⟨w.heap.size + 1, 6, none⟩ = some (.int .i64 s.t) := HI.out.k1.cell 6
  have v0 : W9.cell? ⟨w.heap.size + 1 + 1, 0, none⟩ = some (.int .i64 kv) := HI.out.k2.cell 0
  have v1 : W9.cell? ⟨w.heap.size + 1 + 1, 1, none⟩ = some (.int .i64 tv) := HI.out.k2.cell 1
  clear HRE HSE HKE HTE HH HC HD HFEW
  go_wp2
  clear hd4 hd5 hd6
  refine wp_region_each [some 64, some 65, some 66, some 67, some 63, some 68, some 69, some 9, some 10] [[3], [64], [4], [65, 66], [67], [63], [63], [68], [69]]
    [Is (.agg #[.slice A0 n0 c0, .slice A1 n1 c1, .slice A2 n2 c2, .slice A3 n3 c3, .int .i64 (r.h0), .int .i64 (r.h1), .int .i64 (r.h2), .int .i64 (r.h3)]), RuV r, Is (.agg #[.int .i64 (s.p), .int .i64 (s.a), .int .i64 (s.b), .int .i64 (s.m), .int .i64 (s.wt), .int .i64 (s.g), .int .i64 (s.t)]), Is (.tuple #[.int .i64 hs0, .int .i64 0]), Is (.tuple #[.int .i64 hs0, .int .i64 0]), Is (.int .i64 (hs0)), Is (.int .i64 (0)), Is (.int .i64 (hs0)), Is (.int .i64 (0))]
    (by kernel_rfl) (by kernel_rfl) (by kernel_rfl) (by kernel_rfl) (by kernel_rfl) Ext (fun W => Ext W9 W)
    (fun W _ => Ext.refl W) (fun W W' h k => h.trans k) ?_ (Ext.drew _) ?_ ?_
  · repeat (refine ⟨fun _ _ _ _ k h => (by first | exact h | exact (by first | exact RuV.ext h k | exact Fresh30.ext h k)), ?_⟩)
    exact trivial
  · refine ⟨?_, ?_, ?_, ?_, ?_, ?_, ?_, ?_, ?_, trivial⟩
    all_goals intro ρ W ⟨kc, kg, kf⟩ hF hs
    · obtain ⟨h0, -⟩ := hs
      replace h0 : ρ (.tmp 3) = .pointer (some ⟨w.heap.size, 0, none⟩) := h0
      have hc0 : W.cell? ⟨w.heap.size, 0, none⟩ = some (.slice A0 n0 c0) := hF.cell (by assumption)
      have hc1 : W.cell? ⟨w.heap.size, 1, none⟩ = some (.slice A1 n1 c1) := hF.cell (by assumption)
      have hc2 : W.cell? ⟨w.heap.size, 2, none⟩ = some (.slice A2 n2 c2) := hF.cell (by assumption)
      have hc3 : W.cell? ⟨w.heap.size, 3, none⟩ = some (.slice A3 n3 c3) := hF.cell (by assumption)
      have hc4 : W.cell? ⟨w.heap.size, 4, none⟩ = some (.int .i64 (r.h0)) := hF.cell (by assumption)
      have hc5 : W.cell? ⟨w.heap.size, 5, none⟩ = some (.int .i64 (r.h1)) := hF.cell (by assumption)
      have hc6 : W.cell? ⟨w.heap.size, 6, none⟩ = some (.int .i64 (r.h2)) := hF.cell (by assumption)
      have hc7 : W.cell? ⟨w.heap.size, 7, none⟩ = some (.int .i64 (r.h3)) := hF.cell (by assumption)
      go_simp
      exact ⟨Ext.refl _, rfl⟩
    · obtain ⟨h0, -⟩ := hs
      replace h0 : ρ (.tmp 64) = .agg #[.slice A0 n0 c0, .slice A1 n1 c1, .slice A2 n2 c2, .slice A3 n3 c3, .int .i64 (r.h0), .int .i64 (r.h1), .int .i64 (r.h2), .int .i64 (r.h3)] := h0
      go_simp
      refine (copyRules_any (HIN.out.ext (HI.out.e.trans hF))).mono ?_; rintro e w' ⟨v, rfl, hx, hv⟩; exact ⟨_, rfl, hx, hv⟩
    · obtain ⟨h0, -⟩ := hs
      replace h0 : ρ (.tmp 4) = .pointer (some ⟨w.heap.size + 1, 0, none⟩) := h0
      have hc0 : W.cell? ⟨w.heap.size + 1, 0, none⟩ = some (.int .i64 (s.p)) := hF.cell (by assumption)
      have hc1 : W.cell? ⟨w.heap.size + 1, 1, none⟩ = some (.int .i64 (s.a)) := hF.cell (by assumption)
      have hc2 : W.cell? ⟨w.heap.size + 1, 2, none⟩ = some (.int .i64 (s.b)) := hF.cell (by assumption)
      have hc3 : W.cell? ⟨w.heap.size + 1, 3, none⟩ = some (.int .i64 (s.m)) := hF.cell (by assumption)
      have hc4 : W.cell? ⟨w.heap.size + 1, 4, none⟩ = some (.int .i64 (s.wt)) := hF.cell (by assumption)
      have hc5 : W.cell? ⟨w.heap.size + 1, 5, none⟩ = some (.int .i64 (s.g)) := hF.cell (by assumption)
      have hc6 : W.cell? ⟨w.heap.size + 1, 6, none⟩ = some (.int .i64 (s.t)) := hF.cell (by assumption)
      go_simp
      exact ⟨Ext.refl _, rfl⟩
    · obtain ⟨h0, h1, -⟩ := hs
      replace h0 : (RuV r) (ρ (.tmp 65)) W := h0
      replace h1 : ρ (.tmp 66) = .agg #[.int .i64 (s.p), .int .i64 (s.a), .int .i64 (s.b), .int .i64 (s.m), .int .i64 (s.wt), .int .i64 (s.g), .int .i64 (s.t)] := h1
      go_simp
      refine (HHS.out _ _ h0).mono ?_; rintro e w' ⟨rfl, hx⟩; exact ⟨_, rfl, hx, rfl⟩
    · obtain ⟨h0, -⟩ := hs
      replace h0 : ρ (.tmp 67) = .tuple #[.int .i64 hs0, .int .i64 0] := h0
      go_simp
      exact ⟨Ext.refl _, rfl⟩
    · obtain ⟨h0, -⟩ := hs
      replace h0 : ρ (.tmp 63) = .tuple #[.int .i64 hs0, .int .i64 0] := h0
      go_simp
      exact ⟨Ext.refl _, rfl⟩
    · obtain ⟨h0, -⟩ := hs
      replace h0 : ρ (.tmp 63) = .tuple #[.int .i64 hs0, .int .i64 0] := h0
      go_simp
      exact ⟨Ext.refl _, rfl⟩
    · obtain ⟨h0, -⟩ := hs
      replace h0 : ρ (.tmp 68) = .int .i64 (hs0) := h0
      go_simp
      exact ⟨Ext.refl _, rfl⟩
    · obtain ⟨h0, -⟩ := hs
      replace h0 : ρ (.tmp 69) = .int .i64 (0) := h0
      go_simp
      exact ⟨Ext.refl _, rfl⟩
  · intro fv W11 hF hs
    obtain ⟨-, -, -, -, -, -, -, h9, h10, -⟩ := hs
    replace h9 : fv 9 = .int .i64 (hs0) := h9
    replace h10 : fv 10 = .int .i64 (0) := h10
    simp only [fin, List.filterMap]
    go_simp
    replace HI := Lib.hid (HI.out.ext hF)
    clear h9 h10 hF
    clear y0 y1 y2 y3 y4 y5 y6 y7 x0 x1 x2 x3 x4 x5 x6 v0 v1
    have y0 : W11.cell? ⟨w.heap.size, 0, none⟩ = some (.slice A0 n0 c0) := HI.out.k0.cell 0
    have y1 : W11.cell? ⟨w.heap.size, 1, none⟩ = some (.slice A1 n1 c1) := HI.out.k0.cell 1
    have y2 : W11.cell? ⟨w.heap.size, 2, none⟩ = some (.slice A2 n2 c2) := HI.out.k0.cell 2
    have y3 : W11.cell? ⟨w.heap.size, 3, none⟩ = some (.slice A3 n3 c3) := HI.out.k0.cell 3
    have y4 : W11.cell? ⟨w.heap.size, 4, none⟩ = some (.int .i64 r.h0) := HI.out.k0.cell 4
    have y5 : W11.cell? ⟨w.heap.size, 5, none⟩ = some (.int .i64 r.h1) := HI.out.k0.cell 5
    have y6 : W11.cell? ⟨w.heap.size, 6, none⟩ = some (.int .i64 r.h2) := HI.out.k0.cell 6
    have y7 : W11.cell? ⟨w.heap.size, 7, none⟩ = some (.int .i64 r.h3) := HI.out.k0.cell 7
    have x0 : W11.cell? ⟨w.heap.size + 1, 0, none⟩ = some (.int .i64 s.p) := HI.out.k1.cell 0
    have x1 : W11.cell? ⟨w.heap.size + 1, 1, none⟩ = some (.int .i64 s.a) := HI.out.k1.cell 1
    have x2 : W11.cell? ⟨w.heap.size + 1, 2, none⟩ = some (.int .i64 s.b) := HI.out.k1.cell 2
    have x3 : W11.cell? ⟨w.heap.size + 1, 3, none⟩ = some (.int .i64 s.m) := HI.out.k1.cell 3
    have x4 : W11.cell? ⟨w.heap.size + 1, 4, none⟩ = some (.int .i64 s.wt) := HI.out.k1.cell 4
    have x5 : W11.cell? ⟨w.heap.size + 1, 5, none⟩ = some (.int .i64 s.g) := HI.out.k1.cell 5
    have x6 : W11.cell? ⟨w.heap.size + 1, 6, none⟩ = some (.int .i64 s.t) := HI.out.k1.cell 6
    have v0 : W11.cell? ⟨w.heap.size + 1 + 1, 0, none⟩ = some (.int .i64 kv) := HI.out.k2.cell 0
    have v1 : W11.cell? ⟨w.heap.size + 1 + 1, 1, none⟩ = some (.int .i64 tv) := HI.out.k2.cell 1
    go_wp2
    clear y0 y1 y2 y3 y4 y5 y6 y7 x0 x1 x2 x3 x4 x5 x6 v0 v1
    clear HHS
    rw [HMT.out] at HI
    rw [HMT.out]
    go_loopw [9, 11] (fun hh i wr => ∃ (j : Nat) (z : St) (hz : Int), j ≤ m ∧ i = .int .i64 j ∧ hh = .int .i64 hz ∧ hz = hardK r.h0 r.h1 r.h2 r.h3 z.p z.a z.b z.m z.t ∧ StK z ∧ BoxI w wr 123 #[.slice A0 n0 c0, .slice A1 n1 c1, .slice A2 n2 c2, .slice A3 n3 c3, .int .i64 r.h0, .int .i64 r.h1, .int .i64 r.h2, .int .i64 r.h3] z #[.int .i64 kv, .int .i64 (m : Int)]) (fun _ i _ => m - (intOf i).toNat)
    case atStart => exact ⟨0, s, hs0, Nat.zero_le _, rfl, rfl, HH0.out, HS.out, HI.out⟩
    case round =>
      obtain ⟨j, z, hz, hj, rfl, rfl, hhz, hzk, hI⟩ := hrel
      clear HI HS HH0
      have HI := Lib.hid hI
      have HZ := Lib.hid hzk
      have HHZ := Lib.hid hhz
      clear hI hzk hhz
      by_cases hlt : j < m
      · have hji : (j : Int) < (m : Int) := by omega
        have HRUN := Lib.hid (show runE r z [kv] (⟨0, 0, 0⟩ : Pk) = 0 from firstE_none (by
          intro v hv
          simp only [List.mem_cons, List.not_mem_nil, or_false] at hv
          rcases hv with rfl | rfl | rfl | rfl
          · exact HRU.out
          · exact state_zero HZ.out
          · exact curve_uno HKU.out
          · rfl))
        have HYK := Lib.hid (tick_ok HRO.out (show PkOK (⟨0, 0, 0⟩ : Pk) from ⟨by decide, by decide, by decide, by decide, by decide, by decide⟩) HZ.out kv)
        have HST := Lib.hid (fun (u : Value) (W : World) (h : RuV r u W) => show Calls Tryz.prog 23 #[u, .agg #[.int .i64 z.p, .int .i64 z.a, .int .i64 z.b, .int .i64 z.m, .int .i64 z.wt, .int .i64 z.g, .int .i64 z.t], .agg #[.int .i64 kv, .int .i64 0, .int .i64 0, .int .i64 0]] W fun e w' => e = .returned (.tuple #[.agg #[.int .i64 (tickK r (⟨0, 0, 0⟩ : Pk) z kv).p, .int .i64 (tickK r (⟨0, 0, 0⟩ : Pk) z kv).a, .int .i64 (tickK r (⟨0, 0, 0⟩ : Pk) z kv).b, .int .i64 (tickK r (⟨0, 0, 0⟩ : Pk) z kv).m, .int .i64 (tickK r (⟨0, 0, 0⟩ : Pk) z kv).wt, .int .i64 (tickK r (⟨0, 0, 0⟩ : Pk) z kv).g, .int .i64 (tickK r (⟨0, 0, 0⟩ : Pk) z kv).t], .int .i64 0]) ∧ Ext W w' by
          have := stepped_any h z (⟨0, 0, 0⟩ : Pk) kv
          rw [HRUN.out, if_pos rfl] at this
          exact this)
        obtain ⟨t, hty, htl⟩ := HTK.out z HZ.out
        have HEQ := Lib.hid hty
        have e1 : ((tickK r (⟨0, 0, 0⟩ : Pk) z kv).p != z.p) = false := by rw [hty]; simp
        have e2 : ((tickK r (⟨0, 0, 0⟩ : Pk) z kv).a != z.a) = false := by rw [hty]; simp
        have e3 : ((tickK r (⟨0, 0, 0⟩ : Pk) z kv).b != z.b) = false := by rw [hty]; simp
        have e4 : ((tickK r (⟨0, 0, 0⟩ : Pk) z kv).m != z.m) = false := by rw [hty]; simp
        have HLE := Lib.hid (show hardK r.h0 r.h1 r.h2 r.h3 (tickK r (⟨0, 0, 0⟩ : Pk) z kv).p (tickK r (⟨0, 0, 0⟩ : Pk) z kv).a (tickK r (⟨0, 0, 0⟩ : Pk) z kv).b (tickK r (⟨0, 0, 0⟩ : Pk) z kv).m (tickK r (⟨0, 0, 0⟩ : Pk) z kv).t ≤ hz by rw [hty, HHZ.out]; exact hard_mono HZ.out.hm.1 htl)
        clear hty htl HEQ
        generalize tickK r (⟨0, 0, 0⟩ : Pk) z kv = y at HYK HST e1 e2 e3 e4 HLE
        have HSY := Lib.hid (fun W => show Calls Tryz.prog 19 #[.agg #[.int .i64 y.p, .int .i64 y.a, .int .i64 y.b, .int .i64 y.m, .int .i64 y.wt, .int .i64 y.g, .int .i64 y.t]] W fun e w' => e = .returned (.int .i64 0) ∧ Ext W w' by
          have := stateErr_any y.p y.a y.b y.m y.wt y.g y.t W
          rw [state_zero HYK.out] at this
          exact this)
        have HHY := Lib.hid (HHG.out y HYK.out)
        obtain ⟨hy, hhy⟩ : ∃ hy, hy = hardK r.h0 r.h1 r.h2 r.h3 y.p y.a y.b y.m y.t := ⟨_, rfl⟩
        rw [← hhy] at HHY HLE
        have HHYE := Lib.hid hhy
        have ngt : ¬ hz < hy := by have := HLE.out; omega
        clear hhy HLE HRUN
        have y0 : wr.cell? ⟨w.heap.size, 0, none⟩ = some (.slice A0 n0 c0) := HI.out.k0.cell 0
        have y1 : wr.cell? ⟨w.heap.size, 1, none⟩ = some (.slice A1 n1 c1) := HI.out.k0.cell 1
        have y2 : wr.cell? ⟨w.heap.size, 2, none⟩ = some (.slice A2 n2 c2) := HI.out.k0.cell 2
        have y3 : wr.cell? ⟨w.heap.size, 3, none⟩ = some (.slice A3 n3 c3) := HI.out.k0.cell 3
        have y4 : wr.cell? ⟨w.heap.size, 4, none⟩ = some (.int .i64 r.h0) := HI.out.k0.cell 4
        have y5 : wr.cell? ⟨w.heap.size, 5, none⟩ = some (.int .i64 r.h1) := HI.out.k0.cell 5
        have y6 : wr.cell? ⟨w.heap.size, 6, none⟩ = some (.int .i64 r.h2) := HI.out.k0.cell 6
        have y7 : wr.cell? ⟨w.heap.size, 7, none⟩ = some (.int .i64 r.h3) := HI.out.k0.cell 7
        have x0 : wr.cell? ⟨w.heap.size + 1, 0, none⟩ = some (.int .i64 z.p) := HI.out.k1.cell 0
        have x1 : wr.cell? ⟨w.heap.size + 1, 1, none⟩ = some (.int .i64 z.a) := HI.out.k1.cell 1
        have x2 : wr.cell? ⟨w.heap.size + 1, 2, none⟩ = some (.int .i64 z.b) := HI.out.k1.cell 2
        have x3 : wr.cell? ⟨w.heap.size + 1, 3, none⟩ = some (.int .i64 z.m) := HI.out.k1.cell 3
        have x4 : wr.cell? ⟨w.heap.size + 1, 4, none⟩ = some (.int .i64 z.wt) := HI.out.k1.cell 4
        have x5 : wr.cell? ⟨w.heap.size + 1, 5, none⟩ = some (.int .i64 z.g) := HI.out.k1.cell 5
        have x6 : wr.cell? ⟨w.heap.size + 1, 6, none⟩ = some (.int .i64 z.t) := HI.out.k1.cell 6
        have v0 : wr.cell? ⟨w.heap.size + 1 + 1, 0, none⟩ = some (.int .i64 kv) := HI.out.k2.cell 0
        have v1 : wr.cell? ⟨w.heap.size + 1 + 1, 1, none⟩ = some (.int .i64 (m : Int)) := HI.out.k2.cell 1
        go_wp2
        refine wp_region_late 10 8 _ _ _ 85 [12, 84] [some 78, some 79, some 80, some 81, some 82, some 83, some 77, some 84, some 85, some 12] [[3], [78], [4], [7], [81], [79, 80, 82], [83], [77], [77], []]
          [Is (.agg #[.slice A0 n0 c0, .slice A1 n1 c1, .slice A2 n2 c2, .slice A3 n3 c3, .int .i64 (r.h0), .int .i64 (r.h1), .int .i64 (r.h2), .int .i64 (r.h3)]), RuV r, Is (.agg #[.int .i64 (z.p), .int .i64 (z.a), .int .i64 (z.b), .int .i64 (z.m), .int .i64 (z.wt), .int .i64 (z.g), .int .i64 (z.t)]), Is (.int .i64 (kv)), Is (.agg #[.int .i64 kv, .int .i64 0, .int .i64 0, .int .i64 0]), Is (.tuple #[.agg #[.int .i64 y.p, .int .i64 y.a, .int .i64 y.b, .int .i64 y.m, .int .i64 y.wt, .int .i64 y.g, .int .i64 y.t], .int .i64 0]), Is (.tuple #[.agg #[.int .i64 y.p, .int .i64 y.a, .int .i64 y.b, .int .i64 y.m, .int .i64 y.wt, .int .i64 y.g, .int .i64 y.t], .int .i64 0]), Is (.agg #[.int .i64 y.p, .int .i64 y.a, .int .i64 y.b, .int .i64 y.m, .int .i64 y.wt, .int .i64 y.g, .int .i64 y.t]), Is (.int .i64 (0)), Fresh30 wr.heap.size]
          (by kernel_rfl) (by kernel_rfl) (by kernel_rfl) (by kernel_rfl) (by kernel_rfl) (by kernel_rfl) rfl rfl rfl rfl rfl (by kernel_rfl) (by kernel_rfl) (by kernel_rfl) (by kernel_rfl) Ext (fun W => Ext wr W)
          (fun W _ => Ext.refl W) (fun W W' h k => h.trans k) ?_ (Ext.drew _) ?_ ?_ ?_ ?_ ?_
        · repeat (refine ⟨fun _ _ _ _ k h => (by first | exact h | exact (by first | exact RuV.ext h k | exact Fresh30.ext h k)), ?_⟩)
          exact trivial
        · refine ⟨?_, ?_, ?_, ?_, ?_, ?_, ?_, ?_, ?_, ?_, trivial⟩
          all_goals intro ρ W ⟨kc, kg, kf⟩ hF hs
          · obtain ⟨h0, -⟩ := hs
            replace h0 : ρ (.tmp 3) = .pointer (some ⟨w.heap.size, 0, none⟩) := h0
            have hc0 : W.cell? ⟨w.heap.size, 0, none⟩ = some (.slice A0 n0 c0) := hF.cell (by assumption)
            have hc1 : W.cell? ⟨w.heap.size, 1, none⟩ = some (.slice A1 n1 c1) := hF.cell (by assumption)
            have hc2 : W.cell? ⟨w.heap.size, 2, none⟩ = some (.slice A2 n2 c2) := hF.cell (by assumption)
            have hc3 : W.cell? ⟨w.heap.size, 3, none⟩ = some (.slice A3 n3 c3) := hF.cell (by assumption)
            have hc4 : W.cell? ⟨w.heap.size, 4, none⟩ = some (.int .i64 (r.h0)) := hF.cell (by assumption)
            have hc5 : W.cell? ⟨w.heap.size, 5, none⟩ = some (.int .i64 (r.h1)) := hF.cell (by assumption)
            have hc6 : W.cell? ⟨w.heap.size, 6, none⟩ = some (.int .i64 (r.h2)) := hF.cell (by assumption)
            have hc7 : W.cell? ⟨w.heap.size, 7, none⟩ = some (.int .i64 (r.h3)) := hF.cell (by assumption)
            go_simp
            exact ⟨Ext.refl _, rfl⟩
          · obtain ⟨h0, -⟩ := hs
            replace h0 : ρ (.tmp 78) = .agg #[.slice A0 n0 c0, .slice A1 n1 c1, .slice A2 n2 c2, .slice A3 n3 c3, .int .i64 (r.h0), .int .i64 (r.h1), .int .i64 (r.h2), .int .i64 (r.h3)] := h0
            go_simp
            refine (copyRules_any (HIN.out.ext (HI.out.e.trans hF))).mono ?_; rintro e w' ⟨v, rfl, hx, hv⟩; exact ⟨_, rfl, hx, hv⟩
          · obtain ⟨h0, -⟩ := hs
            replace h0 : ρ (.tmp 4) = .pointer (some ⟨w.heap.size + 1, 0, none⟩) := h0
            have hc0 : W.cell? ⟨w.heap.size + 1, 0, none⟩ = some (.int .i64 (z.p)) := hF.cell (by assumption)
            have hc1 : W.cell? ⟨w.heap.size + 1, 1, none⟩ = some (.int .i64 (z.a)) := hF.cell (by assumption)
            have hc2 : W.cell? ⟨w.heap.size + 1, 2, none⟩ = some (.int .i64 (z.b)) := hF.cell (by assumption)
            have hc3 : W.cell? ⟨w.heap.size + 1, 3, none⟩ = some (.int .i64 (z.m)) := hF.cell (by assumption)
            have hc4 : W.cell? ⟨w.heap.size + 1, 4, none⟩ = some (.int .i64 (z.wt)) := hF.cell (by assumption)
            have hc5 : W.cell? ⟨w.heap.size + 1, 5, none⟩ = some (.int .i64 (z.g)) := hF.cell (by assumption)
            have hc6 : W.cell? ⟨w.heap.size + 1, 6, none⟩ = some (.int .i64 (z.t)) := hF.cell (by assumption)
            go_simp
            exact ⟨Ext.refl _, rfl⟩
          · obtain ⟨h0, -⟩ := hs
            replace h0 : ρ (.tmp 7) = .int .i64 (kv) := h0
            go_simp
            exact ⟨Ext.refl _, rfl⟩
          · obtain ⟨h0, -⟩ := hs
            replace h0 : ρ (.tmp 81) = .int .i64 (kv) := h0
            go_simp
            exact ⟨Ext.refl _, rfl⟩
          · obtain ⟨h0, h1, h2, -⟩ := hs
            replace h0 : (RuV r) (ρ (.tmp 79)) W := h0
            replace h1 : ρ (.tmp 80) = .agg #[.int .i64 (z.p), .int .i64 (z.a), .int .i64 (z.b), .int .i64 (z.m), .int .i64 (z.wt), .int .i64 (z.g), .int .i64 (z.t)] := h1
            replace h2 : ρ (.tmp 82) = .agg #[.int .i64 kv, .int .i64 0, .int .i64 0, .int .i64 0] := h2
            go_simp
            refine (HST.out _ _ h0).mono ?_; rintro e w' ⟨rfl, hx⟩; exact ⟨_, rfl, hx, rfl⟩
          · obtain ⟨h0, -⟩ := hs
            replace h0 : ρ (.tmp 83) = .tuple #[.agg #[.int .i64 y.p, .int .i64 y.a, .int .i64 y.b, .int .i64 y.m, .int .i64 y.wt, .int .i64 y.g, .int .i64 y.t], .int .i64 0] := h0
            go_simp
            exact ⟨Ext.refl _, rfl⟩
          · obtain ⟨h0, -⟩ := hs
            replace h0 : ρ (.tmp 77) = .tuple #[.agg #[.int .i64 y.p, .int .i64 y.a, .int .i64 y.b, .int .i64 y.m, .int .i64 y.wt, .int .i64 y.g, .int .i64 y.t], .int .i64 0] := h0
            go_simp
            exact ⟨Ext.refl _, rfl⟩
          · obtain ⟨h0, -⟩ := hs
            replace h0 : ρ (.tmp 77) = .tuple #[.agg #[.int .i64 y.p, .int .i64 y.a, .int .i64 y.b, .int .i64 y.m, .int .i64 y.wt, .int .i64 y.g, .int .i64 y.t], .int .i64 0] := h0
            go_simp
            exact ⟨Ext.refl _, rfl⟩
          · go_simp
            exact ⟨Ext.alloc _ _, W.heap.size, hF.size, rfl, Blk.new _ _ _⟩
        · intro ρ W ⟨kc, kg, kf⟩ hF hs
          obtain ⟨h0, -⟩ := hs
          replace h0 : ρ (.tmp 77) = .tuple #[.agg #[.int .i64 y.p, .int .i64 y.a, .int .i64 y.b, .int .i64 y.m, .int .i64 y.wt, .int .i64 y.g, .int .i64 y.t], .int .i64 0] := h0
          refine ⟨.int .i64 0, fun W' => ?_⟩
          go_simp
        · intro ρ ρ' h
          simp only [execOp]
          rw [h (.tmp 12) (by simp), h (.tmp 84) (by simp)]
        · intro ρ W ⟨kc, kg, kf⟩ hF hs
          obtain ⟨h0, h1, -⟩ := hs
          replace h0 : (Fresh30 wr.heap.size) (ρ (.tmp 12)) W := h0
          replace h1 : ρ (.tmp 84) = .agg #[.int .i64 y.p, .int .i64 y.a, .int .i64 y.b, .int .i64 y.m, .int .i64 y.wt, .int .i64 y.g, .int .i64 y.t] := h1
          obtain ⟨q0, _, hb, hk⟩ := h0
          have f0 := hk.free 0
          have f1 := hk.free 1
          have f2 := hk.free 2
          have f3 := hk.free 3
          have f4 := hk.free 4
          have f5 := hk.free 5
          have f6 := hk.free 6
          have g0 := hk.cell 0
          have g1 := hk.cell 1
          have g2 := hk.cell 2
          have g3 := hk.cell 3
          have g4 := hk.cell 4
          have g5 := hk.cell 5
          have g6 := hk.cell 6
          simp only [List.getElem?_toArray, List.getElem?_cons_zero, List.getElem?_cons_succ] at g0 g1 g2 g3 g4 g5 g6
          refine ⟨((((((W.setCell ⟨q0, 0, none⟩ (.int .i64 y.p)).setCell ⟨q0, 1, none⟩ (.int .i64 y.a)).setCell ⟨q0, 2, none⟩ (.int .i64 y.b)).setCell ⟨q0, 3, none⟩ (.int .i64 y.m)).setCell ⟨q0, 4, none⟩ (.int .i64 y.wt)).setCell ⟨q0, 5, none⟩ (.int .i64 y.g)).setCell ⟨q0, 6, none⟩ (.int .i64 y.t), ?_⟩
          go_simp
        · intro fv W2 hF hs
          obtain ⟨-, -, -, -, -, -, -, h84, h85, h12, -⟩ := hs
          replace h84 : fv 84 = .agg #[.int .i64 y.p, .int .i64 y.a, .int .i64 y.b, .int .i64 y.m, .int .i64 y.wt, .int .i64 y.g, .int .i64 y.t] := h84
          replace h85 : fv 85 = .int .i64 (0) := h85
          replace h12 : (Fresh30 wr.heap.size) (fv 12) W2 := h12
          simp only [fin, List.filterMap]
          go_simp
          obtain ⟨q, hq, hv8, hk8⟩ := h12
          rw [hv8]
          have hQ : w.heap.size + 1 + 1 < q := Nat.lt_of_lt_of_le HI.out.size hq
          have HB3 := Lib.hid ((HI.out.ext hF).store hQ y)
          have K3 := Lib.hid (blk7 hk8 y)
          have f0 := hk8.free 0
          have f1 := hk8.free 1
          have f2 := hk8.free 2
          have f3 := hk8.free 3
          have f4 := hk8.free 4
          have f5 := hk8.free 5
          have f6 := hk8.free 6
          have g0 := hk8.cell 0
          have g1 := hk8.cell 1
          have g2 := hk8.cell 2
          have g3 := hk8.cell 3
          have g4 := hk8.cell 4
          have g5 := hk8.cell 5
          have g6 := hk8.cell 6
          simp only [List.getElem?_toArray, List.getElem?_cons_zero, List.getElem?_cons_succ] at g0 g1 g2 g3 g4 g5 g6
          clear hF hv8 hk8 hq
          clear y0 y1 y2 y3 y4 y5 y6 y7 x0 x1 x2 x3 x4 x5 x6 v0 v1
          refine wpList_plain rfl (fun K hK => ?_)
          go_simp
          obtain ⟨W3, hW3⟩ : ∃ W3, W3 = ((((((W2.setCell ⟨q, 0, none⟩ (.int .i64 y.p)).setCell ⟨q, 1, none⟩ (.int .i64 y.a)).setCell ⟨q, 2, none⟩ (.int .i64 y.b)).setCell ⟨q, 3, none⟩ (.int .i64 y.m)).setCell ⟨q, 4, none⟩ (.int .i64 y.wt)).setCell ⟨q, 5, none⟩ (.int .i64 y.g)).setCell ⟨q, 6, none⟩ (.int .i64 y.t) := ⟨_, rfl⟩
          rw [← hW3] at HB3 K3 ⊢
          clear hW3 f0 g0 f1 g1 f2 g2 f3 g3 f4 g4 f5 g5 f6 g6
          refine hK _ _ ?_
          clear hK
          replace HI := HB3
          have KQ := K3
          clear HB3 K3
          have y0 : W3.cell? ⟨w.heap.size, 0, none⟩ = some (.slice A0 n0 c0) := HI.out.k0.cell 0
          have y1 : W3.cell? ⟨w.heap.size, 1, none⟩ = some (.slice A1 n1 c1) := HI.out.k0.cell 1
          have y2 : W3.cell? ⟨w.heap.size, 2, none⟩ = some (.slice A2 n2 c2) := HI.out.k0.cell 2
          have y3 : W3.cell? ⟨w.heap.size, 3, none⟩ = some (.slice A3 n3 c3) := HI.out.k0.cell 3
          have y4 : W3.cell? ⟨w.heap.size, 4, none⟩ = some (.int .i64 r.h0) := HI.out.k0.cell 4
          have y5 : W3.cell? ⟨w.heap.size, 5, none⟩ = some (.int .i64 r.h1) := HI.out.k0.cell 5
          have y6 : W3.cell? ⟨w.heap.size, 6, none⟩ = some (.int .i64 r.h2) := HI.out.k0.cell 6
          have y7 : W3.cell? ⟨w.heap.size, 7, none⟩ = some (.int .i64 r.h3) := HI.out.k0.cell 7
          have x0 : W3.cell? ⟨w.heap.size + 1, 0, none⟩ = some (.int .i64 z.p) := HI.out.k1.cell 0
          have x1 : W3.cell? ⟨w.heap.size + 1, 1, none⟩ = some (.int .i64 z.a) := HI.out.k1.cell 1
          have x2 : W3.cell? ⟨w.heap.size + 1, 2, none⟩ = some (.int .i64 z.b) := HI.out.k1.cell 2
          have x3 : W3.cell? ⟨w.heap.size + 1, 3, none⟩ = some (.int .i64 z.m) := HI.out.k1.cell 3
          have x4 : W3.cell? ⟨w.heap.size + 1, 4, none⟩ = some (.int .i64 z.wt) := HI.out.k1.cell 4
          have x5 : W3.cell? ⟨w.heap.size + 1, 5, none⟩ = some (.int .i64 z.g) := HI.out.k1.cell 5
          have x6 : W3.cell? ⟨w.heap.size + 1, 6, none⟩ = some (.int .i64 z.t) := HI.out.k1.cell 6
          have v0 : W3.cell? ⟨w.heap.size + 1 + 1, 0, none⟩ = some (.int .i64 kv) := HI.out.k2.cell 0
          have v1 : W3.cell? ⟨w.heap.size + 1 + 1, 1, none⟩ = some (.int .i64 (m : Int)) := HI.out.k2.cell 1
          have m0 : W3.cell? ⟨q, 0, none⟩ = some (.int .i64 y.p) := KQ.out.cell 0
          have m1 : W3.cell? ⟨q, 1, none⟩ = some (.int .i64 y.a) := KQ.out.cell 1
          have m2 : W3.cell? ⟨q, 2, none⟩ = some (.int .i64 y.b) := KQ.out.cell 2
          have m3 : W3.cell? ⟨q, 3, none⟩ = some (.int .i64 y.m) := KQ.out.cell 3
          have m4 : W3.cell? ⟨q, 4, none⟩ = some (.int .i64 y.wt) := KQ.out.cell 4
          have m5 : W3.cell? ⟨q, 5, none⟩ = some (.int .i64 y.g) := KQ.out.cell 5
          have m6 : W3.cell? ⟨q, 6, none⟩ = some (.int .i64 y.t) := KQ.out.cell 6
          go_wp2_with (go_at_call 19; refine (HSY.out _).mono ?_; rintro e W5 ⟨rfl, hx⟩; have X4 := Lib.hid hx; clear hx; refine Hid.out ?_)
          refine Lib.hid ?_
          replace HI := Lib.hid (HI.out.ext X4.out)
          replace KQ := Lib.hid (KQ.out.ext X4.out)
          clear X4 h84 h85 e1 e2 e3 e4
          clear y0 y1 y2 y3 y4 y5 y6 y7 x0 x1 x2 x3 x4 x5 x6 v0 v1
          clear m0 m1 m2 m3 m4 m5 m6
          have y0 : W5.cell? ⟨w.heap.size, 0, none⟩ = some (.slice A0 n0 c0) := HI.out.k0.cell 0
          have y1 : W5.cell? ⟨w.heap.size, 1, none⟩ = some (.slice A1 n1 c1) := HI.out.k0.cell 1
          have y2 : W5.cell? ⟨w.heap.size, 2, none⟩ = some (.slice A2 n2 c2) := HI.out.k0.cell 2
          have y3 : W5.cell? ⟨w.heap.size, 3, none⟩ = some (.slice A3 n3 c3) := HI.out.k0.cell 3
          have y4 : W5.cell? ⟨w.heap.size, 4, none⟩ = some (.int .i64 r.h0) := HI.out.k0.cell 4
          have y5 : W5.cell? ⟨w.heap.size, 5, none⟩ = some (.int .i64 r.h1) := HI.out.k0.cell 5
          have y6 : W5.cell? ⟨w.heap.size, 6, none⟩ = some (.int .i64 r.h2) := HI.out.k0.cell 6
          have y7 : W5.cell? ⟨w.heap.size, 7, none⟩ = some (.int .i64 r.h3) := HI.out.k0.cell 7
          have x0 : W5.cell? ⟨w.heap.size + 1, 0, none⟩ = some (.int .i64 z.p) := HI.out.k1.cell 0
          have x1 : W5.cell? ⟨w.heap.size + 1, 1, none⟩ = some (.int .i64 z.a) := HI.out.k1.cell 1
          have x2 : W5.cell? ⟨w.heap.size + 1, 2, none⟩ = some (.int .i64 z.b) := HI.out.k1.cell 2
          have x3 : W5.cell? ⟨w.heap.size + 1, 3, none⟩ = some (.int .i64 z.m) := HI.out.k1.cell 3
          have x4 : W5.cell? ⟨w.heap.size + 1, 4, none⟩ = some (.int .i64 z.wt) := HI.out.k1.cell 4
          have x5 : W5.cell? ⟨w.heap.size + 1, 5, none⟩ = some (.int .i64 z.g) := HI.out.k1.cell 5
          have x6 : W5.cell? ⟨w.heap.size + 1, 6, none⟩ = some (.int .i64 z.t) := HI.out.k1.cell 6
          have v0 : W5.cell? ⟨w.heap.size + 1 + 1, 0, none⟩ = some (.int .i64 kv) := HI.out.k2.cell 0
          have v1 : W5.cell? ⟨w.heap.size + 1 + 1, 1, none⟩ = some (.int .i64 (m : Int)) := HI.out.k2.cell 1
          have m0 : W5.cell? ⟨q, 0, none⟩ = some (.int .i64 y.p) := KQ.out.cell 0
          have m1 : W5.cell? ⟨q, 1, none⟩ = some (.int .i64 y.a) := KQ.out.cell 1
          have m2 : W5.cell? ⟨q, 2, none⟩ = some (.int .i64 y.b) := KQ.out.cell 2
          have m3 : W5.cell? ⟨q, 3, none⟩ = some (.int .i64 y.m) := KQ.out.cell 3
          have m4 : W5.cell? ⟨q, 4, none⟩ = some (.int .i64 y.wt) := KQ.out.cell 4
          have m5 : W5.cell? ⟨q, 5, none⟩ = some (.int .i64 y.g) := KQ.out.cell 5
          have m6 : W5.cell? ⟨q, 6, none⟩ = some (.int .i64 y.t) := KQ.out.cell 6
          go_wp2
          refine wp_region_each [some 122, some 123, some 124, some 125, some 121, some 126, some 127, some 14, some 15] [[3], [122], [12], [123, 124], [125], [121], [121], [126], [127]]
            [Is (.agg #[.slice A0 n0 c0, .slice A1 n1 c1, .slice A2 n2 c2, .slice A3 n3 c3, .int .i64 (r.h0), .int .i64 (r.h1), .int .i64 (r.h2), .int .i64 (r.h3)]), RuV r, Is (.agg #[.int .i64 (y.p), .int .i64 (y.a), .int .i64 (y.b), .int .i64 (y.m), .int .i64 (y.wt), .int .i64 (y.g), .int .i64 (y.t)]), Is (.tuple #[.int .i64 hy, .int .i64 0]), Is (.tuple #[.int .i64 hy, .int .i64 0]), Is (.int .i64 (hy)), Is (.int .i64 (0)), Is (.int .i64 (hy)), Is (.int .i64 (0))]
            (by kernel_rfl) (by kernel_rfl) (by kernel_rfl) (by kernel_rfl) (by kernel_rfl) Ext (fun W => Ext W5 W)
            (fun W _ => Ext.refl W) (fun W W' h k => h.trans k) ?_ (Ext.drew _) ?_ ?_
          · repeat (refine ⟨fun _ _ _ _ k h => (by first | exact h | exact (by first | exact RuV.ext h k | exact Fresh30.ext h k)), ?_⟩)
            exact trivial
          · refine ⟨?_, ?_, ?_, ?_, ?_, ?_, ?_, ?_, ?_, trivial⟩
            all_goals intro ρ W ⟨kc, kg, kf⟩ hF hs
            · obtain ⟨h0, -⟩ := hs
              replace h0 : ρ (.tmp 3) = .pointer (some ⟨w.heap.size, 0, none⟩) := h0
              have hc0 : W.cell? ⟨w.heap.size, 0, none⟩ = some (.slice A0 n0 c0) := hF.cell (by assumption)
              have hc1 : W.cell? ⟨w.heap.size, 1, none⟩ = some (.slice A1 n1 c1) := hF.cell (by assumption)
              have hc2 : W.cell? ⟨w.heap.size, 2, none⟩ = some (.slice A2 n2 c2) := hF.cell (by assumption)
              have hc3 : W.cell? ⟨w.heap.size, 3, none⟩ = some (.slice A3 n3 c3) := hF.cell (by assumption)
              have hc4 : W.cell? ⟨w.heap.size, 4, none⟩ = some (.int .i64 (r.h0)) := hF.cell (by assumption)
              have hc5 : W.cell? ⟨w.heap.size, 5, none⟩ = some (.int .i64 (r.h1)) := hF.cell (by assumption)
              have hc6 : W.cell? ⟨w.heap.size, 6, none⟩ = some (.int .i64 (r.h2)) := hF.cell (by assumption)
              have hc7 : W.cell? ⟨w.heap.size, 7, none⟩ = some (.int .i64 (r.h3)) := hF.cell (by assumption)
              go_simp
              exact ⟨Ext.refl _, rfl⟩
            · obtain ⟨h0, -⟩ := hs
              replace h0 : ρ (.tmp 122) = .agg #[.slice A0 n0 c0, .slice A1 n1 c1, .slice A2 n2 c2, .slice A3 n3 c3, .int .i64 (r.h0), .int .i64 (r.h1), .int .i64 (r.h2), .int .i64 (r.h3)] := h0
              go_simp
              refine (copyRules_any (HIN.out.ext (HI.out.e.trans hF))).mono ?_; rintro e w' ⟨v, rfl, hx, hv⟩; exact ⟨_, rfl, hx, hv⟩
            · obtain ⟨h0, -⟩ := hs
              replace h0 : ρ (.tmp 12) = .pointer (some ⟨q, 0, none⟩) := h0
              have hc0 : W.cell? ⟨q, 0, none⟩ = some (.int .i64 (y.p)) := hF.cell (by assumption)
              have hc1 : W.cell? ⟨q, 1, none⟩ = some (.int .i64 (y.a)) := hF.cell (by assumption)
              have hc2 : W.cell? ⟨q, 2, none⟩ = some (.int .i64 (y.b)) := hF.cell (by assumption)
              have hc3 : W.cell? ⟨q, 3, none⟩ = some (.int .i64 (y.m)) := hF.cell (by assumption)
              have hc4 : W.cell? ⟨q, 4, none⟩ = some (.int .i64 (y.wt)) := hF.cell (by assumption)
              have hc5 : W.cell? ⟨q, 5, none⟩ = some (.int .i64 (y.g)) := hF.cell (by assumption)
              have hc6 : W.cell? ⟨q, 6, none⟩ = some (.int .i64 (y.t)) := hF.cell (by assumption)
              go_simp
              exact ⟨Ext.refl _, rfl⟩
            · obtain ⟨h0, h1, -⟩ := hs
              replace h0 : (RuV r) (ρ (.tmp 123)) W := h0
              replace h1 : ρ (.tmp 124) = .agg #[.int .i64 (y.p), .int .i64 (y.a), .int .i64 (y.b), .int .i64 (y.m), .int .i64 (y.wt), .int .i64 (y.g), .int .i64 (y.t)] := h1
              go_simp
              refine (HHY.out _ _ h0).mono ?_; rintro e w' ⟨rfl, hx⟩; exact ⟨_, rfl, hx, rfl⟩
            · obtain ⟨h0, -⟩ := hs
              replace h0 : ρ (.tmp 125) = .tuple #[.int .i64 hy, .int .i64 0] := h0
              go_simp
              exact ⟨Ext.refl _, rfl⟩
            · obtain ⟨h0, -⟩ := hs
              replace h0 : ρ (.tmp 121) = .tuple #[.int .i64 hy, .int .i64 0] := h0
              go_simp
              exact ⟨Ext.refl _, rfl⟩
            · obtain ⟨h0, -⟩ := hs
              replace h0 : ρ (.tmp 121) = .tuple #[.int .i64 hy, .int .i64 0] := h0
              go_simp
              exact ⟨Ext.refl _, rfl⟩
            · obtain ⟨h0, -⟩ := hs
              replace h0 : ρ (.tmp 126) = .int .i64 (hy) := h0
              go_simp
              exact ⟨Ext.refl _, rfl⟩
            · obtain ⟨h0, -⟩ := hs
              replace h0 : ρ (.tmp 127) = .int .i64 (0) := h0
              go_simp
              exact ⟨Ext.refl _, rfl⟩
          · intro fv W6 hF hs
            obtain ⟨-, -, -, -, -, -, -, h14, h15, -⟩ := hs
            replace h14 : fv 14 = .int .i64 (hy) := h14
            replace h15 : fv 15 = .int .i64 (0) := h15
            simp only [fin, List.filterMap]
            go_simp
            replace HI := Lib.hid (HI.out.ext hF)
            replace KQ := Lib.hid (KQ.out.ext hF)
            clear hF h14 h15
            clear y0 y1 y2 y3 y4 y5 y6 y7 x0 x1 x2 x3 x4 x5 x6 v0 v1
            clear m0 m1 m2 m3 m4 m5 m6
            have y0 : W6.cell? ⟨w.heap.size, 0, none⟩ = some (.slice A0 n0 c0) := HI.out.k0.cell 0
            have y1 : W6.cell? ⟨w.heap.size, 1, none⟩ = some (.slice A1 n1 c1) := HI.out.k0.cell 1
            have y2 : W6.cell? ⟨w.heap.size, 2, none⟩ = some (.slice A2 n2 c2) := HI.out.k0.cell 2
            have y3 : W6.cell? ⟨w.heap.size, 3, none⟩ = some (.slice A3 n3 c3) := HI.out.k0.cell 3
            have y4 : W6.cell? ⟨w.heap.size, 4, none⟩ = some (.int .i64 r.h0) := HI.out.k0.cell 4
            have y5 : W6.cell? ⟨w.heap.size, 5, none⟩ = some (.int .i64 r.h1) := HI.out.k0.cell 5
            have y6 : W6.cell? ⟨w.heap.size, 6, none⟩ = some (.int .i64 r.h2) := HI.out.k0.cell 6
            have y7 : W6.cell? ⟨w.heap.size, 7, none⟩ = some (.int .i64 r.h3) := HI.out.k0.cell 7
            have x0 : W6.cell? ⟨w.heap.size + 1, 0, none⟩ = some (.int .i64 z.p) := HI.out.k1.cell 0
            have x1 : W6.cell? ⟨w.heap.size + 1, 1, none⟩ = some (.int .i64 z.a) := HI.out.k1.cell 1
            have x2 : W6.cell? ⟨w.heap.size + 1, 2, none⟩ = some (.int .i64 z.b) := HI.out.k1.cell 2
            have x3 : W6.cell? ⟨w.heap.size + 1, 3, none⟩ = some (.int .i64 z.m) := HI.out.k1.cell 3
            have x4 : W6.cell? ⟨w.heap.size + 1, 4, none⟩ = some (.int .i64 z.wt) := HI.out.k1.cell 4
            have x5 : W6.cell? ⟨w.heap.size + 1, 5, none⟩ = some (.int .i64 z.g) := HI.out.k1.cell 5
            have x6 : W6.cell? ⟨w.heap.size + 1, 6, none⟩ = some (.int .i64 z.t) := HI.out.k1.cell 6
            have v0 : W6.cell? ⟨w.heap.size + 1 + 1, 0, none⟩ = some (.int .i64 kv) := HI.out.k2.cell 0
            have v1 : W6.cell? ⟨w.heap.size + 1 + 1, 1, none⟩ = some (.int .i64 (m : Int)) := HI.out.k2.cell 1
            have xf0 := HI.out.k1.free 0
            have xf1 := HI.out.k1.free 1
            have xf2 := HI.out.k1.free 2
            have xf3 := HI.out.k1.free 3
            have xf4 := HI.out.k1.free 4
            have xf5 := HI.out.k1.free 5
            have xf6 := HI.out.k1.free 6
            have m0 : W6.cell? ⟨q, 0, none⟩ = some (.int .i64 y.p) := KQ.out.cell 0
            have m1 : W6.cell? ⟨q, 1, none⟩ = some (.int .i64 y.a) := KQ.out.cell 1
            have m2 : W6.cell? ⟨q, 2, none⟩ = some (.int .i64 y.b) := KQ.out.cell 2
            have m3 : W6.cell? ⟨q, 3, none⟩ = some (.int .i64 y.m) := KQ.out.cell 3
            have m4 : W6.cell? ⟨q, 4, none⟩ = some (.int .i64 y.wt) := KQ.out.cell 4
            have m5 : W6.cell? ⟨q, 5, none⟩ = some (.int .i64 y.g) := KQ.out.cell 5
            have m6 : W6.cell? ⟨q, 6, none⟩ = some (.int .i64 y.t) := KQ.out.cell 6
            go_wp2
            go_roundw
            case rel => exact ⟨j + 1, y, hy, by omega, by go_num, rfl, HHYE.out, HYK.out, HI.out.step⟩
            case measure => simp [intOf]; omega
      · go_wp2
        go_ret
        exact ⟨rfl, HI.out.e⟩

end Go.Proofs.YtkmekbafjnlfkaaGreat
