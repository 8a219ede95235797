/- The hardness. -/
import Derived.Test.YtkmekbafjnlfkaaGreatS12

namespace Go.Proofs.YtkmekbafjnlfkaaGreat
open Go.RowKit Go.Shelf Go.Mem Go.RegInv
attribute [local go_sem] RelUpon_value RelUpon_skip RelUpon_enter BigFrame.eval_const BigFrame.eval_global BigFrame.eval_func

/-- The hardness of shares with a tempering. -/
def hardK (h0 h1 h2 h3 s0 s1 s2 s3 t : Int) : Int := (s0 * h0 + s1 * h1 + s2 * h2 + s3 * max (h3 - t) h2) / 1000000
theorem mul_bd {a b A B : Int} (h1 : 0 ≤ a) (h2 : a ≤ A) (h3 : 0 ≤ b) (h4 : b ≤ B) : 0 ≤ a * b ∧ a * b ≤ A * B :=
  ⟨Int.mul_nonneg h1 h3, Int.mul_le_mul h2 h4 h3 (by omega)⟩

theorem idx26_0 (a b c d : Int) (W : World) : Sem.run Tryz.prog (Instr.index 26 (.agg #[.int .i64 a, .int .i64 b, .int .i64 c, .int .i64 d]) (.int .i64 0)) W = .ok (.int .i64 a) W := by kernel_rfl
theorem idx26_1 (a b c d : Int) (W : World) : Sem.run Tryz.prog (Instr.index 26 (.agg #[.int .i64 a, .int .i64 b, .int .i64 c, .int .i64 d]) (.int .i64 1)) W = .ok (.int .i64 b) W := by kernel_rfl
theorem idx26_2 (a b c d : Int) (W : World) : Sem.run Tryz.prog (Instr.index 26 (.agg #[.int .i64 a, .int .i64 b, .int .i64 c, .int .i64 d]) (.int .i64 2)) W = .ok (.int .i64 c) W := by kernel_rfl
theorem idx26_3 (a b c d : Int) (W : World) : Sem.run Tryz.prog (Instr.index 26 (.agg #[.int .i64 a, .int .i64 b, .int .i64 c, .int .i64 d]) (.int .i64 3)) W = .ok (.int .i64 d) W := by kernel_rfl

set_option maxRecDepth 100000 in
set_option maxHeartbeats 2000000 in
theorem hardness_any {r : Ru} {u : Value} {w : World} (hR : RuV r u w) (s0 s1 s2 s3 t : Int) (a0 : 0 ≤ s0 ∧ s0 ≤ 1000000) (a1 : 0 ≤ s1 ∧ s1 ≤ 1000000) (a2 : 0 ≤ s2 ∧ s2 ≤ 1000000) (a3 : 0 ≤ s3 ∧ s3 ≤ 1000000) (at' : 0 ≤ t ∧ t ≤ 1000000)
    (b0 : 0 ≤ r.h0 ∧ r.h0 ≤ 2000) (b1 : 0 ≤ r.h1 ∧ r.h1 ≤ 2000) (b2 : 0 ≤ r.h2 ∧ r.h2 ≤ 2000) (b3 : 0 ≤ r.h3 ∧ r.h3 ≤ 2000) :
    Calls Tryz.prog 95 #[u, .agg #[.int .i64 s0, .int .i64 s1, .int .i64 s2, .int .i64 s3], .int .i64 t] w fun e w' => e = .returned (.int .i64 (hardK r.h0 r.h1 r.h2 r.h3 s0 s1 s2 s3 t)) ∧ Ext w w' := by
  obtain ⟨A0, A1, A2, A3, n0, n1, n2, n3, c0, c1, c2, c3, rfl, -⟩ := hR
  obtain ⟨p00, p01⟩ := mul_bd a0.1 a0.2 b0.1 b0.2
  obtain ⟨p10, p11⟩ := mul_bd a1.1 a1.2 b1.1 b1.2
  obtain ⟨p20, p21⟩ := mul_bd a2.1 a2.2 b2.1 b2.2
  obtain ⟨q0, q1⟩ : 0 ≤ max (r.h3 - t) r.h2 ∧ max (r.h3 - t) r.h2 ≤ 2000 := by omega
  obtain ⟨p30, p31⟩ := mul_bd a3.1 a3.2 q0 q1
  have HK := Lib.hid (show hardK r.h0 r.h1 r.h2 r.h3 s0 s1 s2 s3 t = (s0 * r.h0 + s1 * r.h1 + s2 * r.h2 + s3 * max (r.h3 - t) r.h2) / 1000000 from rfl)
  obtain ⟨bt0, bt1⟩ := at'
  obtain ⟨b20, b21⟩ := b2
  obtain ⟨b30, b31⟩ := b3
  clear a0 a1 a2 a3 b0 b1
  generalize r.h0 = h0 at *
  generalize r.h1 = h1 at *
  generalize r.h2 = h2 at *
  generalize r.h3 = h3 at *
  have i0 := fun W => idx26_0 s0 s1 s2 s3 W
  have i1 := fun W => idx26_1 s0 s1 s2 s3 W
  have i2 := fun W => idx26_2 s0 s1 s2 s3 W
  have i3 := fun W => idx26_3 s0 s1 s2 s3 W
  go_enter Tryz.func95, Tryz.ntmps95
  go_wp2
  refine wp_loop_rounds 5 ?_
  rw [rounds_succ]
  go_wp2
  rw [rounds_succ]
  go_wp2
  rw [rounds_succ]
  go_wp2
  rw [rounds_succ]
  go_wp2
  rw [rounds_succ]
  go_wp2
  go_ret
  exact ⟨ret_int HK.out.symm, ((Ext.alloc _ _).trans (Ext.alloc _ _)).trans (Ext.alloc _ _)⟩

theorem sharesOf_any (p a b m wt g t : Int) (w : World) : Calls Tryz.prog 96 #[.agg #[.int .i64 p, .int .i64 a, .int .i64 b, .int .i64 m, .int .i64 wt, .int .i64 g, .int .i64 t]] w fun e w' => e = .returned (.agg #[.int .i64 p, .int .i64 a, .int .i64 b, .int .i64 m]) ∧ Ext w w' := by
  go_enter Tryz.func96, Tryz.ntmps96
  go_wp2
  exact bodyPost_ret (v := .agg #[.int .i64 p, .int .i64 a, .int .i64 b, .int .i64 m]) (by simp [results, Tryz.f96, go_sem]) rfl ⟨rfl, (Ext.alloc _ _).trans (Ext.alloc _ _)⟩

theorem firstE_zero : ∀ {l : List Int}, firstE l = 0 → ∀ x ∈ l, x = 0
  | [], _, x, hx => by cases hx
  | y :: l, h, x, hx => by
    rw [firstE] at h
    by_cases hy : y = 0
    · rw [if_neg (by simp [hy])] at h
      rcases List.mem_cons.1 hx with rfl | h2
      · exact hy
      · exact firstE_zero h x h2
    · rw [if_pos hy] at h; exact absurd h hy
theorem firstFlt_zero : ∀ {l : List (Int × Int)}, (firstFlt l).2 = 0 → ∀ p ∈ l, p.2 = 0
  | [], _, x, hx => by cases hx
  | y :: l, h, x, hx => by
    rw [firstFlt] at h
    by_cases hy : y.2 = 0
    · rw [if_neg (by simp [hy])] at h
      rcases List.mem_cons.1 hx with rfl | h2
      · exact hy
      · exact firstFlt_zero h x h2
    · rw [if_pos hy] at h; exact absurd h hy
theorem rangeE_zeros {lo hi : Int} {xs : List Int} (h : rangeE lo hi xs = 0) : ∀ x ∈ xs, lo ≤ x ∧ x ≤ hi := by
  intro x hx
  have h2 : xs.any (outB lo hi) = false := by
    cases h3 : xs.any (outB lo hi)
    · rfl
    · rw [rangeE, h3] at h; simp [errIf] at h
  have h3 := List.any_eq_false.1 h2 x hx
  simp only [outB, Bool.or_eq_true, decide_eq_true_eq, not_or] at h3
  omega
theorem errIf_zero {b : Bool} {n : Int} (h : errIf b n = 0) (hn : n ≠ 0) : b = false := by
  cases b
  · rfl
  · exact absurd h hn
/-- Valid rules have these hardnesses. -/
theorem rules_hard {r : Ru} (h : rulesE r = 0) : (0 ≤ r.h0 ∧ r.h0 ≤ r.h1 ∧ r.h1 ≤ r.h2 ∧ r.h2 ≤ r.h3 ∧ r.h3 ≤ 2000) := by
  have h1 := firstFlt_zero h (0, hardE r.h0 r.h1 r.h2 r.h3) (by simp)
  have h2 := rangeE_zeros (firstE_zero h1 (rangeE 0 2000 [r.h0, r.h1, r.h2, r.h3]) (by simp))
  have h3 := errIf_zero (firstE_zero h1 (errIf (!downK [r.h0, r.h1, r.h2, r.h3] 3) 9) (by simp)) (by decide)
  have a0 := h2 r.h0 (by simp)
  have a1 := h2 r.h1 (by simp)
  have a2 := h2 r.h2 (by simp)
  have a3 := h2 r.h3 (by simp)
  simp [downK] at h3
  omega
/-- What a valid state is. -/
structure StOK (p a b m wt g t : Int) : Prop where
  hp : 0 ≤ p ∧ p ≤ 1000000
  ha : 0 ≤ a ∧ a ≤ 1000000
  hb : 0 ≤ b ∧ b ≤ 1000000
  hm : 0 ≤ m ∧ m ≤ 1000000
  hw : 0 ≤ wt ∧ wt ≤ 1000000
  hg : 0 ≤ g ∧ g ≤ 100000
  ht : 0 ≤ t ∧ t ≤ 1000000
  sum : p + a + b + m = 1000000
theorem state_ok {p a b m wt g t : Int} (h : stateE [p, a, b, m, wt, g, t] = 0) : StOK p a b m wt g t := by
  unfold stateE at h
  by_cases h0 : (firstAt (stE [p, a, b, m, wt, g, t]) 7 0).2 = 0
  · rw [if_neg (by rw [h0]; simp)] at h
    have hs := errIf_zero h (by decide)
    exact ⟨rangeE_zero (firstAt_zero h0 0 (by omega) (by omega)), rangeE_zero (firstAt_zero h0 1 (by omega) (by omega)), rangeE_zero (firstAt_zero h0 2 (by omega) (by omega)), rangeE_zero (firstAt_zero h0 3 (by omega) (by omega)), rangeE_zero (firstAt_zero h0 4 (by omega) (by omega)), rangeE_zero (firstAt_zero h0 5 (by omega) (by omega)), rangeE_zero (firstAt_zero h0 6 (by omega) (by omega)), by simpa using hs⟩
  · rw [if_pos h0] at h; exact absurd h h0

/-- The error of a state of rules. -/
def bothE (r : Ru) (l : List Int) : Int := firstE [rulesE r, stateE l]
theorem both_ok {r : Ru} {l : List Int} (h : bothE r l = 0) : rulesE r = 0 ∧ stateE l = 0 := ⟨firstE_zero h _ (by simp), firstE_zero h _ (by simp)⟩
set_option maxRecDepth 100000 in
set_option maxHeartbeats 4000000 in
theorem hardnessOf_any {r : Ru} {u : Value} {w : World} (hR : RuV r u w) (p a b m wt g t : Int) :
    Calls Tryz.prog 26 #[u, .agg #[.int .i64 p, .int .i64 a, .int .i64 b, .int .i64 m, .int .i64 wt, .int .i64 g, .int .i64 t]] w fun e w' => e = .returned (.tuple #[.int .i64 (if bothE r [p, a, b, m, wt, g, t] = 0 then hardK r.h0 r.h1 r.h2 r.h3 p a b m t else 0), .int .i64 (bothE r [p, a, b, m, wt, g, t])]) ∧ Ext w w' := by
  have hR0 := hR
  obtain ⟨A0, A1, A2, A3, n0, n1, n2, n3, c0, c1, c2, c3, rfl, -⟩ := hR
  obtain ⟨W0, hW0⟩ : ∃ W0, W0 = (w.alloc (.cells #[.slice A0 n0 c0, .slice A1 n1 c1, .slice A2 n2 c2, .slice A3 n3 c3, .int .i64 r.h0, .int .i64 r.h1, .int .i64 r.h2, .int .i64 r.h3] 28)).alloc (.cells #[.int .i64 p, .int .i64 a, .int .i64 b, .int .i64 m, .int .i64 wt, .int .i64 g, .int .i64 t] 30) := ⟨_, rfl⟩
  have k0 : Blk W0 w.heap.size 28 #[.slice A0 n0 c0, .slice A1 n1 c1, .slice A2 n2 c2, .slice A3 n3 c3, .int .i64 r.h0, .int .i64 r.h1, .int .i64 r.h2, .int .i64 r.h3] := by rw [hW0]; exact (Blk.new _ _ _).alloc _
  have k1 : Blk W0 (w.heap.size + 1) 30 #[.int .i64 p, .int .i64 a, .int .i64 b, .int .i64 m, .int .i64 wt, .int .i64 g, .int .i64 t] := by rw [hW0]; exact Blk.newAt _ _ _ (by simp)
  have e0 : Ext w W0 := by rw [hW0]; exact (Ext.alloc _ _).trans (Ext.alloc _ _)
  have HV := Lib.hid (hR0.ext e0)
  have E0 := Lib.hid e0
  have y0 : W0.cell? ⟨w.heap.size, 0, none⟩ = some (.slice A0 n0 c0) := k0.cell 0
  have y1 : W0.cell? ⟨w.heap.size, 1, none⟩ = some (.slice A1 n1 c1) := k0.cell 1
  have y2 : W0.cell? ⟨w.heap.size, 2, none⟩ = some (.slice A2 n2 c2) := k0.cell 2
  have y3 : W0.cell? ⟨w.heap.size, 3, none⟩ = some (.slice A3 n3 c3) := k0.cell 3
  have y4 : W0.cell? ⟨w.heap.size, 4, none⟩ = some (.int .i64 (r.h0)) := k0.cell 4
  have y5 : W0.cell? ⟨w.heap.size, 5, none⟩ = some (.int .i64 (r.h1)) := k0.cell 5
  have y6 : W0.cell? ⟨w.heap.size, 6, none⟩ = some (.int .i64 (r.h2)) := k0.cell 6
  have y7 : W0.cell? ⟨w.heap.size, 7, none⟩ = some (.int .i64 (r.h3)) := k0.cell 7
  have x0 : W0.cell? ⟨w.heap.size + 1, 0, none⟩ = some (.int .i64 (p)) := k1.cell 0
  have x1 : W0.cell? ⟨w.heap.size + 1, 1, none⟩ = some (.int .i64 (a)) := k1.cell 1
  have x2 : W0.cell? ⟨w.heap.size + 1, 2, none⟩ = some (.int .i64 (b)) := k1.cell 2
  have x3 : W0.cell? ⟨w.heap.size + 1, 3, none⟩ = some (.int .i64 (m)) := k1.cell 3
  have x4 : W0.cell? ⟨w.heap.size + 1, 4, none⟩ = some (.int .i64 (wt)) := k1.cell 4
  have x5 : W0.cell? ⟨w.heap.size + 1, 5, none⟩ = some (.int .i64 (g)) := k1.cell 5
  have x6 : W0.cell? ⟨w.heap.size + 1, 6, none⟩ = some (.int .i64 (t)) := k1.cell 6
  have HB := Lib.hid (show bothE r [p, a, b, m, wt, g, t] = firstE [rulesE r, stateE [p, a, b, m, wt, g, t]] from rfl)
  have HOK := Lib.hid (fun h => both_ok (r := r) (l := [p, a, b, m, wt, g, t]) h)
  clear hR0 k0 k1 e0
  go_enter Tryz.func26, Tryz.ntmps26
  go_wp2
  rw [← hW0]
  clear hW0
  refine wp_region_each [some 7, some 8, some 9, some 10, some 11, some 12, some 6] [[2], [7], [3], [9], [8, 10], [11], [12]]
    [Is (.agg #[.slice A0 n0 c0, .slice A1 n1 c1, .slice A2 n2 c2, .slice A3 n3 c3, .int .i64 (r.h0), .int .i64 (r.h1), .int .i64 (r.h2), .int .i64 (r.h3)]), Is (.int .i64 (rulesE r)), Is (.agg #[.int .i64 (p), .int .i64 (a), .int .i64 (b), .int .i64 (m), .int .i64 (wt), .int .i64 (g), .int .i64 (t)]), Is (.int .i64 (stateE [p, a, b, m, wt, g, t])), Ints [rulesE r, stateE [p, a, b, m, wt, g, t]], Is (.int .i64 (firstE [rulesE r, stateE [p, a, b, m, wt, g, t]])), Is (.int .i64 (firstE [rulesE r, stateE [p, a, b, m, wt, g, t]]))]
    (by kernel_rfl) (by kernel_rfl) (by kernel_rfl) (by kernel_rfl) (by kernel_rfl) Ext (fun W => Ext W0 W)
    (fun W _ => Ext.refl W) (fun W W' h k => h.trans k) ?_ (Ext.drew _) ?_ ?_
  · repeat (refine ⟨fun _ _ _ _ k h => (by first | exact h | exact (by first | exact IntsAt.ext h k | exact KnV.ext h k | exact NumsV.ext h k)), ?_⟩)
    exact trivial
  · refine ⟨?_, ?_, ?_, ?_, ?_, ?_, ?_, trivial⟩
    all_goals intro ρ W ⟨kc, kg, kf⟩ hF hs
    · obtain ⟨h0, -⟩ := hs
      replace h0 : ρ (.tmp 2) = .pointer (some ⟨w.heap.size, 0, none⟩) := h0
      have hc0 : W.cell? ⟨w.heap.size, 0, none⟩ = some (.slice A0 n0 c0) := hF.cell (by assumption)
      have hc1 : W.cell? ⟨w.heap.size, 1, none⟩ = some (.slice A1 n1 c1) := hF.cell (by assumption)
      have hc2 : W.cell? ⟨w.heap.size, 2, none⟩ = some (.slice A2 n2 c2) := hF.cell (by assumption)
      have hc3 : W.cell? ⟨w.heap.size, 3, none⟩ = some (.slice A3 n3 c3) := hF.cell (by assumption)
      have hc4 : W.cell? ⟨w.heap.size, 4, none⟩ = some (.int .i64 (r.h0)) := hF.cell (by assumption)
      have hc5 : W.cell? ⟨w.heap.size, 5, none⟩ = some (.int .i64 (r.h1)) := hF.cell (by assumption)
      have hc6 : W.cell? ⟨w.heap.size, 6, none⟩ = some (.int .i64 (r.h2)) := hF.cell (by assumption)
      have hc7 : W.cell? ⟨w.heap.size, 7, none⟩ = some (.int .i64 (r.h3)) := hF.cell (by assumption)
      go_simp
      exact ⟨Ext.refl _, rfl⟩
    · obtain ⟨h0, -⟩ := hs
      replace h0 : ρ (.tmp 7) = .agg #[.slice A0 n0 c0, .slice A1 n1 c1, .slice A2 n2 c2, .slice A3 n3 c3, .int .i64 (r.h0), .int .i64 (r.h1), .int .i64 (r.h2), .int .i64 (r.h3)] := h0
      go_simp
      refine (rulesError_any (HV.out.ext hF)).mono ?_; rintro e w' ⟨rfl, hx⟩; exact ⟨_, rfl, hx, rfl⟩
    · obtain ⟨h0, -⟩ := hs
      replace h0 : ρ (.tmp 3) = .pointer (some ⟨w.heap.size + 1, 0, none⟩) := h0
      have hc0 : W.cell? ⟨w.heap.size + 1, 0, none⟩ = some (.int .i64 (p)) := hF.cell (by assumption)
      have hc1 : W.cell? ⟨w.heap.size + 1, 1, none⟩ = some (.int .i64 (a)) := hF.cell (by assumption)
      have hc2 : W.cell? ⟨w.heap.size + 1, 2, none⟩ = some (.int .i64 (b)) := hF.cell (by assumption)
      have hc3 : W.cell? ⟨w.heap.size + 1, 3, none⟩ = some (.int .i64 (m)) := hF.cell (by assumption)
      have hc4 : W.cell? ⟨w.heap.size + 1, 4, none⟩ = some (.int .i64 (wt)) := hF.cell (by assumption)
      have hc5 : W.cell? ⟨w.heap.size + 1, 5, none⟩ = some (.int .i64 (g)) := hF.cell (by assumption)
      have hc6 : W.cell? ⟨w.heap.size + 1, 6, none⟩ = some (.int .i64 (t)) := hF.cell (by assumption)
      go_simp
      exact ⟨Ext.refl _, rfl⟩
    · obtain ⟨h0, -⟩ := hs
      replace h0 : ρ (.tmp 9) = .agg #[.int .i64 (p), .int .i64 (a), .int .i64 (b), .int .i64 (m), .int .i64 (wt), .int .i64 (g), .int .i64 (t)] := h0
      go_simp
      refine (checkState_any _ _ _ _ _ _ _ _).mono ?_; rintro e w' ⟨rfl, hx⟩; exact ⟨_, rfl, hx, rfl⟩
    · obtain ⟨h0, h1, -⟩ := hs
      replace h0 : ρ (.tmp 8) = .int .i64 (rulesE r) := h0
      replace h1 : ρ (.tmp 10) = .int .i64 (stateE [p, a, b, m, wt, g, t]) := h1
      go_simp
      exact ⟨Ext.alloc _ _, ints_new _ [rulesE r, stateE [p, a, b, m, wt, g, t]] _ (by simp)⟩
    · obtain ⟨h0, -⟩ := hs
      replace h0 : (Ints [rulesE r, stateE [p, a, b, m, wt, g, t]]) (ρ (.tmp 11)) W := h0
      go_simp
      refine (firstOf_any _ _ _ h0).mono ?_; rintro e w' ⟨rfl, rfl⟩; exact ⟨_, rfl, Ext.refl _, rfl⟩
    · obtain ⟨h0, -⟩ := hs
      replace h0 : ρ (.tmp 12) = .int .i64 (firstE [rulesE r, stateE [p, a, b, m, wt, g, t]]) := h0
      go_simp
      exact ⟨Ext.refl _, rfl⟩
  · intro fv W1 hF hs
    obtain ⟨-, -, -, -, -, -, h6, -⟩ := hs
    replace h6 : fv 6 = .int .i64 (firstE [rulesE r, stateE [p, a, b, m, wt, g, t]]) := h6
    simp only [fin, List.filterMap]
    go_simp
    have X1 := Lib.hid hF
    clear hF h6
    rw [← HB.out] at *
    clear HB
    by_cases hz : bothE r [p, a, b, m, wt, g, t] = 0
    · obtain ⟨hr0, hs0⟩ := HOK.out hz
      have HH := Lib.hid (rules_hard hr0)
      have HS := Lib.hid (state_ok hs0)
      have hz' : (bothE r [p, a, b, m, wt, g, t] != 0) = false := by simp [hz]


      rw [hz]
      clear hz' hr0 hs0
      have h00 : ((0 : Int) != 0) = false := rfl
      go_wp2
      refine wp_region_each [some 16, some 17, some 18, some 19, some 20, some 21, some 22, some 4, some 5] [[2], [16], [3], [18], [3], [20], [17, 19, 21], [22], []]
        [Is (.agg #[.slice A0 n0 c0, .slice A1 n1 c1, .slice A2 n2 c2, .slice A3 n3 c3, .int .i64 (r.h0), .int .i64 (r.h1), .int .i64 (r.h2), .int .i64 (r.h3)]), Is (.agg #[.slice A0 n0 c0, .slice A1 n1 c1, .slice A2 n2 c2, .slice A3 n3 c3, .int .i64 r.h0, .int .i64 r.h1, .int .i64 r.h2, .int .i64 r.h3]), Is (.agg #[.int .i64 (p), .int .i64 (a), .int .i64 (b), .int .i64 (m), .int .i64 (wt), .int .i64 (g), .int .i64 (t)]), Is (.agg #[.int .i64 p, .int .i64 a, .int .i64 b, .int .i64 m]), Is (.pointer (some ⟨w.heap.size + 1, 6, none⟩)), Is (.int .i64 (t)), Is (.int .i64 (hardK r.h0 r.h1 r.h2 r.h3 p a b m t)), Is (.int .i64 (hardK r.h0 r.h1 r.h2 r.h3 p a b m t)), Is (.int .i64 (0))]
        (by kernel_rfl) (by kernel_rfl) (by kernel_rfl) (by kernel_rfl) (by kernel_rfl) Ext (fun W => Ext W1 W)
        (fun W _ => Ext.refl W) (fun W W' h k => h.trans k) ?_ (Ext.drew _) ?_ ?_
      · repeat (refine ⟨fun _ _ _ _ k h => (by first | exact h | exact (by first | exact IntsAt.ext h k | exact KnV.ext h k | exact NumsV.ext h k)), ?_⟩)
        exact trivial
      · refine ⟨?_, ?_, ?_, ?_, ?_, ?_, ?_, ?_, ?_, trivial⟩
        all_goals intro ρ W ⟨kc, kg, kf⟩ hF hs
        · obtain ⟨h0, -⟩ := hs
          replace h0 : ρ (.tmp 2) = .pointer (some ⟨w.heap.size, 0, none⟩) := h0
          have hc0 : W.cell? ⟨w.heap.size, 0, none⟩ = some (.slice A0 n0 c0) := (X1.out.trans hF).cell (by assumption)
          have hc1 : W.cell? ⟨w.heap.size, 1, none⟩ = some (.slice A1 n1 c1) := (X1.out.trans hF).cell (by assumption)
          have hc2 : W.cell? ⟨w.heap.size, 2, none⟩ = some (.slice A2 n2 c2) := (X1.out.trans hF).cell (by assumption)
          have hc3 : W.cell? ⟨w.heap.size, 3, none⟩ = some (.slice A3 n3 c3) := (X1.out.trans hF).cell (by assumption)
          have hc4 : W.cell? ⟨w.heap.size, 4, none⟩ = some (.int .i64 (r.h0)) := (X1.out.trans hF).cell (by assumption)
          have hc5 : W.cell? ⟨w.heap.size, 5, none⟩ = some (.int .i64 (r.h1)) := (X1.out.trans hF).cell (by assumption)
          have hc6 : W.cell? ⟨w.heap.size, 6, none⟩ = some (.int .i64 (r.h2)) := (X1.out.trans hF).cell (by assumption)
          have hc7 : W.cell? ⟨w.heap.size, 7, none⟩ = some (.int .i64 (r.h3)) := (X1.out.trans hF).cell (by assumption)
          go_simp
          exact ⟨Ext.refl _, rfl⟩
        · obtain ⟨h0, -⟩ := hs
          replace h0 : ρ (.tmp 16) = .agg #[.slice A0 n0 c0, .slice A1 n1 c1, .slice A2 n2 c2, .slice A3 n3 c3, .int .i64 (r.h0), .int .i64 (r.h1), .int .i64 (r.h2), .int .i64 (r.h3)] := h0
          go_simp
          exact ⟨Ext.refl _, rfl⟩
        · obtain ⟨h0, -⟩ := hs
          replace h0 : ρ (.tmp 3) = .pointer (some ⟨w.heap.size + 1, 0, none⟩) := h0
          have hc0 : W.cell? ⟨w.heap.size + 1, 0, none⟩ = some (.int .i64 (p)) := (X1.out.trans hF).cell (by assumption)
          have hc1 : W.cell? ⟨w.heap.size + 1, 1, none⟩ = some (.int .i64 (a)) := (X1.out.trans hF).cell (by assumption)
          have hc2 : W.cell? ⟨w.heap.size + 1, 2, none⟩ = some (.int .i64 (b)) := (X1.out.trans hF).cell (by assumption)
          have hc3 : W.cell? ⟨w.heap.size + 1, 3, none⟩ = some (.int .i64 (m)) := (X1.out.trans hF).cell (by assumption)
          have hc4 : W.cell? ⟨w.heap.size + 1, 4, none⟩ = some (.int .i64 (wt)) := (X1.out.trans hF).cell (by assumption)
          have hc5 : W.cell? ⟨w.heap.size + 1, 5, none⟩ = some (.int .i64 (g)) := (X1.out.trans hF).cell (by assumption)
          have hc6 : W.cell? ⟨w.heap.size + 1, 6, none⟩ = some (.int .i64 (t)) := (X1.out.trans hF).cell (by assumption)
          go_simp
          exact ⟨Ext.refl _, rfl⟩
        · obtain ⟨h0, -⟩ := hs
          replace h0 : ρ (.tmp 18) = .agg #[.int .i64 (p), .int .i64 (a), .int .i64 (b), .int .i64 (m), .int .i64 (wt), .int .i64 (g), .int .i64 (t)] := h0
          go_simp
          refine (sharesOf_any _ _ _ _ _ _ _ _).mono ?_; rintro e w' ⟨rfl, hx⟩; exact ⟨_, rfl, hx, rfl⟩
        · obtain ⟨h0, -⟩ := hs
          replace h0 : ρ (.tmp 3) = .pointer (some ⟨w.heap.size + 1, 0, none⟩) := h0
          go_simp
          exact ⟨Ext.refl _, rfl⟩
        · obtain ⟨h0, -⟩ := hs
          replace h0 : ρ (.tmp 20) = .pointer (some ⟨w.heap.size + 1, 6, none⟩) := h0
          have hc0 : W.cell? ⟨w.heap.size + 1, 6, none⟩ = some (.int .i64 (t)) := (X1.out.trans hF).cell (by assumption)
          go_simp
          exact ⟨Ext.refl _, rfl⟩
        · obtain ⟨h0, h1, h2, -⟩ := hs
          replace h0 : ρ (.tmp 17) = .agg #[.slice A0 n0 c0, .slice A1 n1 c1, .slice A2 n2 c2, .slice A3 n3 c3, .int .i64 r.h0, .int .i64 r.h1, .int .i64 r.h2, .int .i64 r.h3] := h0
          replace h1 : ρ (.tmp 19) = .agg #[.int .i64 p, .int .i64 a, .int .i64 b, .int .i64 m] := h1
          replace h2 : ρ (.tmp 21) = .int .i64 (t) := h2
          go_simp
          have hh := HH.out
          refine (hardness_any (HV.out.ext (X1.out.trans hF)) _ _ _ _ _ HS.out.hp HS.out.ha HS.out.hb HS.out.hm HS.out.ht (by omega) (by omega) (by omega) (by omega)).mono ?_; rintro e w' ⟨rfl, hx⟩; exact ⟨_, rfl, hx, rfl⟩
        · obtain ⟨h0, -⟩ := hs
          replace h0 : ρ (.tmp 22) = .int .i64 (hardK r.h0 r.h1 r.h2 r.h3 p a b m t) := h0
          go_simp
          exact ⟨Ext.refl _, rfl⟩
        · go_simp
          exact ⟨Ext.refl _, rfl⟩
      · intro fv W2 hF hs
        obtain ⟨-, -, -, -, -, -, -, h4, h5, -⟩ := hs
        replace h4 : fv 4 = .int .i64 (hardK r.h0 r.h1 r.h2 r.h3 p a b m t) := h4
        replace h5 : fv 5 = .int .i64 (0) := h5
        simp only [fin, List.filterMap]
        go_simp
        go_wp2

        go_ret2
        exact ⟨rfl, E0.out.trans (X1.out.trans hF)⟩
    · have hz' : (bothE r [p, a, b, m, wt, g, t] != 0) = true := by simp [hz]

      go_wp2

      go_ret2
      exact ⟨rfl, E0.out.trans X1.out⟩

end Go.Proofs.YtkmekbafjnlfkaaGreat
