/- The law of more parts. -/
import Derived.Test.YtjdilmmpdlcimaaD3
import Derived.Lib.MinMax
import Derived.Deep.DeepCutAuto

namespace Go.Proofs.Ytjdilmmpdlcimaa
open Go.RowKit Go.Shelf Go.Mem Go.RegInv
attribute [local go_sem] RelUpon_value RelUpon_skip RelUpon_enter BigFrame.eval_const BigFrame.eval_global BigFrame.eval_func


set_option maxRecDepth 100000 in
set_option maxHeartbeats 4000000 in
theorem more_bad {n a b c d z0 z1 z2 : Int} (hce : ∀ W, Calls Try.prog 60 #[.int .i64 n] W fun r w' => r = .returned (.int .i64 z0) ∧ Ext W w') (hp1 : ∀ W, Calls Try.prog 61 #[.agg #[.int .i64 a, .int .i64 b]] W fun r w' => r = .returned (.int .i64 z1) ∧ Ext W w') (hp2 : ∀ W, Calls Try.prog 61 #[.agg #[.int .i64 c, .int .i64 d]] W fun r w' => r = .returned (.int .i64 z2) ∧ Ext W w') (hz : z0 ≠ 0 ∨ (z0 = 0 ∧ z1 ≠ 0) ∨ (z0 = 0 ∧ z1 = 0 ∧ z2 ≠ 0)) (w : World) :
    Calls Try.prog 12 #[.int .i64 n, .agg #[.int .i64 a, .int .i64 b], .agg #[.int .i64 c, .int .i64 d]] w fun e w' => e = .returned (.bool true) ∧ Ext w w' := by
  have HCE := Lib.hid hce
  have HP1 := Lib.hid hp1
  have HP2 := Lib.hid hp2
  clear hce hp1 hp2
  obtain ⟨W0, hW0⟩ : ∃ W0, W0 = (w.alloc (.cells #[.int .i64 a, .int .i64 b] 112)).alloc (.cells #[.int .i64 c, .int .i64 d] 112) := ⟨_, rfl⟩
  have K0 := Lib.hid (show Blk W0 (w.heap.size) 112 #[.int .i64 a, .int .i64 b] by rw [hW0]; exact (Blk.new _ _ _).alloc _)
  have K1 := Lib.hid (show Blk W0 (w.heap.size + 1) 112 #[.int .i64 c, .int .i64 d] by rw [hW0]; exact Blk.newAt _ _ _ (by simp))
  have E0 := Lib.hid (show Ext w W0 by rw [hW0]; exact (Ext.alloc _ _).trans (Ext.alloc _ _))
  have y0_0 : W0.cell? ⟨w.heap.size, 0, none⟩ = some (.int .i64 a) := K0.out.cell 0
  have y0_1 : W0.cell? ⟨w.heap.size, 1, none⟩ = some (.int .i64 b) := K0.out.cell 1
  have y1_0 : W0.cell? ⟨w.heap.size + 1, 0, none⟩ = some (.int .i64 c) := K1.out.cell 0
  have y1_1 : W0.cell? ⟨w.heap.size + 1, 1, none⟩ = some (.int .i64 d) := K1.out.cell 1
  have X := Lib.hid E0.out
  clear E0
  go_enter Try.func12, Try.ntmps12
  go_upto_region 1 with (fail)
  rw [← hW0]
  clear hW0
  go_wp2_with (go_at_call 13; refine (awake_any _).mono ?_; rintro e W1 ⟨rfl, hx⟩; replace X := Lib.hid (X.out.trans hx); replace K0 := Lib.hid (K0.out.ext hx); replace K1 := Lib.hid (K1.out.ext hx); clear hx y0_0 y0_1 y1_0 y1_1; refine Hid.out ?_)
  refine Lib.hid ?_
  have y0_0 : W1.cell? ⟨w.heap.size, 0, none⟩ = some (.int .i64 a) := K0.out.cell 0
  have y0_1 : W1.cell? ⟨w.heap.size, 1, none⟩ = some (.int .i64 b) := K0.out.cell 1
  have y1_0 : W1.cell? ⟨w.heap.size + 1, 0, none⟩ = some (.int .i64 c) := K1.out.cell 0
  have y1_1 : W1.cell? ⟨w.heap.size + 1, 1, none⟩ = some (.int .i64 d) := K1.out.cell 1
  rcases hz with hz | ⟨rfl, hz⟩ | ⟨rfl, rfl, hz⟩
  · have hz2 : (z0 != 0) = true := by simp [hz]
    go_wp2_with (go_at_call 60; refine (HCE.out _).mono ?_; rintro e W2 ⟨rfl, hx⟩; replace X := Lib.hid (X.out.trans hx); clear hx)
    go_ret
    exact ⟨rfl, X.out⟩
  · have hz2 : (z1 != 0) = true := by simp [hz]
    go_wp2_with (go_at_call 60; refine (HCE.out _).mono ?_; rintro e W2 ⟨rfl, hx⟩; replace X := Lib.hid (X.out.trans hx); replace K0 := Lib.hid (K0.out.ext hx); replace K1 := Lib.hid (K1.out.ext hx); clear hx y0_0 y0_1 y1_0 y1_1; refine Hid.out ?_)
    refine Lib.hid ?_
    have y0_0 : W2.cell? ⟨w.heap.size, 0, none⟩ = some (.int .i64 a) := K0.out.cell 0
    have y0_1 : W2.cell? ⟨w.heap.size, 1, none⟩ = some (.int .i64 b) := K0.out.cell 1
    have y1_0 : W2.cell? ⟨w.heap.size + 1, 0, none⟩ = some (.int .i64 c) := K1.out.cell 0
    have y1_1 : W2.cell? ⟨w.heap.size + 1, 1, none⟩ = some (.int .i64 d) := K1.out.cell 1
    go_wp2_with (go_at_call 61; refine (HP1.out _).mono ?_; rintro e W3 ⟨rfl, hx⟩; replace X := Lib.hid (X.out.trans hx); clear hx)
    go_ret
    exact ⟨rfl, X.out⟩
  · have hz2 : (z2 != 0) = true := by simp [hz]
    go_wp2_with (go_at_call 60; refine (HCE.out _).mono ?_; rintro e W2 ⟨rfl, hx⟩; replace X := Lib.hid (X.out.trans hx); replace K0 := Lib.hid (K0.out.ext hx); replace K1 := Lib.hid (K1.out.ext hx); clear hx y0_0 y0_1 y1_0 y1_1; refine Hid.out ?_)
    refine Lib.hid ?_
    have y0_0 : W2.cell? ⟨w.heap.size, 0, none⟩ = some (.int .i64 a) := K0.out.cell 0
    have y0_1 : W2.cell? ⟨w.heap.size, 1, none⟩ = some (.int .i64 b) := K0.out.cell 1
    have y1_0 : W2.cell? ⟨w.heap.size + 1, 0, none⟩ = some (.int .i64 c) := K1.out.cell 0
    have y1_1 : W2.cell? ⟨w.heap.size + 1, 1, none⟩ = some (.int .i64 d) := K1.out.cell 1
    go_wp2_with (go_at_call 61; refine (HP1.out _).mono ?_; rintro e W3 ⟨rfl, hx⟩; replace X := Lib.hid (X.out.trans hx); replace K0 := Lib.hid (K0.out.ext hx); replace K1 := Lib.hid (K1.out.ext hx); clear hx y0_0 y0_1 y1_0 y1_1; refine Hid.out ?_)
    refine Lib.hid ?_
    have y0_0 : W3.cell? ⟨w.heap.size, 0, none⟩ = some (.int .i64 a) := K0.out.cell 0
    have y0_1 : W3.cell? ⟨w.heap.size, 1, none⟩ = some (.int .i64 b) := K0.out.cell 1
    have y1_0 : W3.cell? ⟨w.heap.size + 1, 0, none⟩ = some (.int .i64 c) := K1.out.cell 0
    have y1_1 : W3.cell? ⟨w.heap.size + 1, 1, none⟩ = some (.int .i64 d) := K1.out.cell 1
    go_wp2_with (go_at_call 61; refine (HP2.out _).mono ?_; rintro e W4 ⟨rfl, hx⟩; replace X := Lib.hid (X.out.trans hx); clear hx)
    go_ret
    exact ⟨rfl, X.out⟩

theorem parE_ok {a b : Nat} (h : FrOK a b) : parE (a : Int) (b : Int) = 0 := by
  have := h.b1
  have := h.b2
  have := h.ab
  have h1 : lowB (a : Int) (b : Int) = true := by
    have h2 : (0 : Int) < b := by omega
    simp [lowB, h.g1]
    omega
  have h3 : ¬ (100 : Int) < b := by omega
  have h4 : withinB (a : Int) 0 (b : Int) = true := by simp [withinB]; omega
  unfold parE
  rw [if_pos h1, if_neg h3, if_pos h4]
theorem more_ok {N A B C D : Nat} (hN : 2 ≤ N ∧ N ≤ 40) (h1 : FrOK A B) (h2 : FrOK C D) (w : World) :
    Calls Try.prog 12 #[.int .i64 (N : Int), .agg #[.int .i64 (A : Int), .int .i64 (B : Int)], .agg #[.int .i64 (C : Int), .int .i64 (D : Int)]] w fun e w' => e = .returned (.bool true) ∧ Ext w w' := by
  have q1 := h1.b1
  have q2 := h1.b2
  have q3 := h1.ab
  have q4 := h2.b1
  have q5 := h2.b2
  have q6 := h2.ab
  have hce := fun W => countErr_any (N : Int) W
  rw [show withinB (N : Int) 2 40 = true by simp [withinB]; omega] at hce
  have hp1 := fun W => partErr_any (A : Int) (B : Int) (by unfold I64; omega) (by unfold I64; omega) W
  have hp2 := fun W => partErr_any (C : Int) (D : Int) (by unfold I64; omega) (by unfold I64; omega) W
  rw [parE_ok h1] at hp1
  rw [parE_ok h2] at hp2
  have hsp := smpF_spec A B C D 39 2
  have hf : (smpF A B C D 39 2).2 ≠ 0 → (smpF A B C D 39 2).2 = 12 ∧ enB N A B C D = false := by
    intro hf
    rcases hsp with ⟨m, e, -⟩ | ⟨e, h⟩
    · rw [e] at hf; exact absurd rfl hf
    · rw [e]; exact ⟨rfl, h N (by omega) (by omega)⟩
  have hm : (smpF A B C D 39 2).2 = 0 → 2 ≤ (smpF A B C D 39 2).1 ∧ (smpF A B C D 39 2).1 ≤ 40 ∧ enB N A B C D = decide ((smpF A B C D 39 2).1 ≤ (N : Int)) := by
    intro hf
    rcases hsp with ⟨m, e, e1, e2, e3, e4⟩ | ⟨e, h⟩
    · rw [e]
      refine ⟨by dsimp only; omega, by dsimp only; omega, ?_⟩
      by_cases hmn : m ≤ N
      · rw [en_up q3 (by omega) hmn e3]
        have : (m : Int) ≤ (N : Int) := by omega
        simp [hmn]
      · rw [e4 N (by omega) (by omega)]
        simp [hmn]
    · rw [e] at hf; cases hf
  have hi2 : (N : Int) < 40 → ∀ W, Calls Try.prog 62 #[.int .i64 ((N : Int) + 1), .agg #[.int .i64 (A : Int), .int .i64 (B : Int)], .agg #[.int .i64 (C : Int), .int .i64 (D : Int)]] W fun r w' => r = .returned (.tuple #[.bool (enB (N + 1) A B C D), .int .i64 0]) ∧ Ext W w' := by
    intro hl W
    have h := IsEnough_ok (n := N + 1) ⟨by omega, by omega⟩ h1 h2 W
    rwa [show ((N + 1 : Nat) : Int) = (N : Int) + 1 by omega] at h
  rcases (show A = 0 ∨ ∃ x, A = x + 1 from by cases A with | zero => exact .inl rfl | succ x => exact .inr ⟨x, rfl⟩) with rfl | ⟨x, rfl⟩
  · exact more_core (x := 0) (y := 0) (e3 := true) ⟨by omega, by omega⟩ ⟨by omega, by omega⟩ hce hp1 hp2 (fun W => IsEnough_ok hN h1 h2 W) hi2 (en_next (by omega) q3) (fun h => by omega) (fun h => by omega) (fun _ => rfl) (fun W => sampleFor_ok h1 h2 W) hf hm w
  · obtain ⟨g, a', b', hg, ex, eb, hfr, hl⟩ := low_FrOK q1 q2 q3
    refine more_core (x := (a' : Int)) (y := (b' : Int)) (e3 := enB N a' b' C D) ⟨by omega, by omega⟩ ⟨by omega, by omega⟩ hce hp1 hp2 (fun W => IsEnough_ok hN h1 h2 W) hi2 (en_next (by omega) q3) (fun _ W => ?_) (fun _ W => IsEnough_ok hN hfr h2 W) (fun he => ?_) (fun W => sampleFor_ok h1 h2 W) hf hm w
    · have h := lowest_any (x : Int) (B : Int) (by unfold Big; omega) (by omega) (by unfold Big; omega) W
      rw [hl] at h
      rwa [show ((x + 1 : Nat) : Int) - 1 = (x : Int) by omega]
    · have h3 := en_mono (by omega) q3 he
      rw [ex, eb] at h3
      exact en_scale (by omega) hfr.ab hg h3
theorem more_any (n a b c d : Int) (ha : I64 a) (hb : I64 b) (hc : I64 c) (hd : I64 d) (w : World) :
    Calls Try.prog 12 #[.int .i64 n, .agg #[.int .i64 a, .int .i64 b], .agg #[.int .i64 c, .int .i64 d]] w fun e w' => e = .returned (.bool true) ∧ Ext w w' := by
  by_cases h0 : withinB n 2 40 = true
  · by_cases h1 : parE a b = 0
    · by_cases h2 : parE c d = 0
      · obtain ⟨A, B, rfl, rfl, hf1⟩ := parE_zero h1
        obtain ⟨C, D, rfl, rfl, hf2⟩ := parE_zero h2
        have h3 : 2 ≤ n ∧ n ≤ 40 := by simpa [withinB] using h0
        obtain ⟨N, rfl⟩ : ∃ N : Nat, n = (N : Int) := ⟨n.natAbs, by omega⟩
        exact more_ok ⟨by omega, by omega⟩ hf1 hf2 w
      · exact more_bad (fun W => countErr_any n W) (fun W => partErr_any a b ha hb W) (fun W => partErr_any c d hc hd W) (.inr (.inr ⟨by rw [if_pos h0], h1, h2⟩)) w
    · exact more_bad (fun W => countErr_any n W) (fun W => partErr_any a b ha hb W) (fun W => partErr_any c d hc hd W) (.inr (.inl ⟨by rw [if_pos h0], h1⟩)) w
  · exact more_bad (fun W => countErr_any n W) (fun W => partErr_any a b ha hb W) (fun W => partErr_any c d hc hd W) (.inl (by rw [if_neg h0]; decide)) w

end Go.Proofs.Ytjdilmmpdlcimaa
