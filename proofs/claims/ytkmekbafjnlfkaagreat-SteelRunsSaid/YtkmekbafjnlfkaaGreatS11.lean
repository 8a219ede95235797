/- States. -/
import Derived.Test.YtkmekbafjnlfkaaGreatS10
import Derived.Test.YtkmekbafjnlfkaaGreatS5

namespace Go.Proofs.YtkmekbafjnlfkaaGreat
open Go.RowKit Go.Shelf Go.Mem Go.RegInv
attribute [local go_sem] RelUpon_value RelUpon_skip RelUpon_enter BigFrame.eval_const BigFrame.eval_global BigFrame.eval_func

def lims : List Int := [1000000, 1000000, 1000000, 1000000, 1000000, 100000, 1000000]
def stE (l : List Int) (k : Nat) : Int := rangeE 0 (lims.getD k 0) [l.getD k 0]
/-- What CheckState answers. -/
def stateE (l : List Int) : Int := if (firstAt (stE l) 7 0).2 ≠ 0 then (firstAt (stE l) 7 0).2 else errIf (l.getD 0 0 + l.getD 1 0 + l.getD 2 0 + l.getD 3 0 != 1000000) 3
theorem firstAt_zero {E : Nat → Int} : ∀ {n k : Nat}, (firstAt E n k).2 = 0 → ∀ j, k ≤ j → j < n + k → E j = 0
  | 0, k, _, j, h1, h2 => by omega
  | n + 1, k, h, j, h1, h2 => by
    rw [firstAt] at h
    by_cases hk : E k = 0
    · rw [if_neg (by simp [hk])] at h
      by_cases hj : j = k
      · rw [hj]; exact hk
      · exact firstAt_zero h j (by omega) (by omega)
    · rw [if_pos hk] at h; exact absurd h hk
theorem rangeE_zero {lo hi x : Int} (h : rangeE lo hi [x] = 0) : lo ≤ x ∧ x ≤ hi := by
  unfold rangeE errIf outB at h
  by_cases h1 : x < lo <;> by_cases h2 : hi < x <;> simp [h1, h2] at h <;> omega
theorem idx153_0 (q : Nat) (W : World) : Sem.run Tryz.prog (Instr.index 153 (.agg #[.pointer (some ⟨q, 0, none⟩), .pointer (some ⟨q, 1, none⟩), .pointer (some ⟨q, 2, none⟩), .pointer (some ⟨q, 3, none⟩), .pointer (some ⟨q, 4, none⟩), .pointer (some ⟨q, 5, none⟩), .pointer (some ⟨q, 6, none⟩)]) (.int .i64 ((0 : Nat) : Int))) W = .ok (.pointer (some ⟨q, 0, none⟩)) W := by kernel_rfl
theorem idx153_1 (q : Nat) (W : World) : Sem.run Tryz.prog (Instr.index 153 (.agg #[.pointer (some ⟨q, 0, none⟩), .pointer (some ⟨q, 1, none⟩), .pointer (some ⟨q, 2, none⟩), .pointer (some ⟨q, 3, none⟩), .pointer (some ⟨q, 4, none⟩), .pointer (some ⟨q, 5, none⟩), .pointer (some ⟨q, 6, none⟩)]) (.int .i64 ((1 : Nat) : Int))) W = .ok (.pointer (some ⟨q, 1, none⟩)) W := by kernel_rfl
theorem idx153_2 (q : Nat) (W : World) : Sem.run Tryz.prog (Instr.index 153 (.agg #[.pointer (some ⟨q, 0, none⟩), .pointer (some ⟨q, 1, none⟩), .pointer (some ⟨q, 2, none⟩), .pointer (some ⟨q, 3, none⟩), .pointer (some ⟨q, 4, none⟩), .pointer (some ⟨q, 5, none⟩), .pointer (some ⟨q, 6, none⟩)]) (.int .i64 ((2 : Nat) : Int))) W = .ok (.pointer (some ⟨q, 2, none⟩)) W := by kernel_rfl
theorem idx153_3 (q : Nat) (W : World) : Sem.run Tryz.prog (Instr.index 153 (.agg #[.pointer (some ⟨q, 0, none⟩), .pointer (some ⟨q, 1, none⟩), .pointer (some ⟨q, 2, none⟩), .pointer (some ⟨q, 3, none⟩), .pointer (some ⟨q, 4, none⟩), .pointer (some ⟨q, 5, none⟩), .pointer (some ⟨q, 6, none⟩)]) (.int .i64 ((3 : Nat) : Int))) W = .ok (.pointer (some ⟨q, 3, none⟩)) W := by kernel_rfl
theorem idx153_4 (q : Nat) (W : World) : Sem.run Tryz.prog (Instr.index 153 (.agg #[.pointer (some ⟨q, 0, none⟩), .pointer (some ⟨q, 1, none⟩), .pointer (some ⟨q, 2, none⟩), .pointer (some ⟨q, 3, none⟩), .pointer (some ⟨q, 4, none⟩), .pointer (some ⟨q, 5, none⟩), .pointer (some ⟨q, 6, none⟩)]) (.int .i64 ((4 : Nat) : Int))) W = .ok (.pointer (some ⟨q, 4, none⟩)) W := by kernel_rfl
theorem idx153_5 (q : Nat) (W : World) : Sem.run Tryz.prog (Instr.index 153 (.agg #[.pointer (some ⟨q, 0, none⟩), .pointer (some ⟨q, 1, none⟩), .pointer (some ⟨q, 2, none⟩), .pointer (some ⟨q, 3, none⟩), .pointer (some ⟨q, 4, none⟩), .pointer (some ⟨q, 5, none⟩), .pointer (some ⟨q, 6, none⟩)]) (.int .i64 ((5 : Nat) : Int))) W = .ok (.pointer (some ⟨q, 5, none⟩)) W := by kernel_rfl
theorem idx153_6 (q : Nat) (W : World) : Sem.run Tryz.prog (Instr.index 153 (.agg #[.pointer (some ⟨q, 0, none⟩), .pointer (some ⟨q, 1, none⟩), .pointer (some ⟨q, 2, none⟩), .pointer (some ⟨q, 3, none⟩), .pointer (some ⟨q, 4, none⟩), .pointer (some ⟨q, 5, none⟩), .pointer (some ⟨q, 6, none⟩)]) (.int .i64 ((6 : Nat) : Int))) W = .ok (.pointer (some ⟨q, 6, none⟩)) W := by kernel_rfl
theorem idx153 (q : Nat) (W : World) (k : Nat) (h : k < 7) : Sem.run Tryz.prog (Instr.index 153 (.agg #[.pointer (some ⟨q, 0, none⟩), .pointer (some ⟨q, 1, none⟩), .pointer (some ⟨q, 2, none⟩), .pointer (some ⟨q, 3, none⟩), .pointer (some ⟨q, 4, none⟩), .pointer (some ⟨q, 5, none⟩), .pointer (some ⟨q, 6, none⟩)]) (.int .i64 (k : Int))) W = .ok (.pointer (some ⟨q, k, none⟩)) W := by
  match k, h with
  | 0, _ => exact idx153_0 q W
  | 1, _ => exact idx153_1 q W
  | 2, _ => exact idx153_2 q W
  | 3, _ => exact idx153_3 q W
  | 4, _ => exact idx153_4 q W
  | 5, _ => exact idx153_5 q W
  | 6, _ => exact idx153_6 q W
  | k + 7, h => omega

theorem lims_at (k : Nat) (h : k < 7) : (#[.int .i64 1000000, .int .i64 1000000, .int .i64 1000000, .int .i64 1000000, .int .i64 1000000, .int .i64 100000, .int .i64 1000000] : Array Value)[k]? = some (.int .i64 (lims.getD k 0)) := by
  match k, h with
  | 0, _ => rfl
  | 1, _ => rfl
  | 2, _ => rfl
  | 3, _ => rfl
  | 4, _ => rfl
  | 5, _ => rfl
  | 6, _ => rfl
  | k + 7, h => omega
theorem seven_at (p a b m wt g t : Int) (k : Nat) (h : k < 7) : (#[.int .i64 p, .int .i64 a, .int .i64 b, .int .i64 m, .int .i64 wt, .int .i64 g, .int .i64 t] : Array Value)[k]? = some (.int .i64 ([p, a, b, m, wt, g, t].getD k 0)) := by
  match k, h with
  | 0, _ => rfl
  | 1, _ => rfl
  | 2, _ => rfl
  | 3, _ => rfl
  | 4, _ => rfl
  | 5, _ => rfl
  | 6, _ => rfl
  | k + 7, h => omega

set_option maxRecDepth 100000 in
set_option maxHeartbeats 2000000 in
theorem checkState_any (p a b m wt g t : Int) (w : World) : Calls Tryz.prog 18 #[.agg #[.int .i64 p, .int .i64 a, .int .i64 b, .int .i64 m, .int .i64 wt, .int .i64 g, .int .i64 t]] w fun e w' => e = .returned (.int .i64 (stateE [p, a, b, m, wt, g, t])) ∧ Ext w w' := by
  obtain ⟨W0, hW0⟩ : ∃ W0, W0 = w.alloc (.cells #[.int .i64 p, .int .i64 a, .int .i64 b, .int .i64 m, .int .i64 wt, .int .i64 g, .int .i64 t] 30) := ⟨_, rfl⟩
  have k0 : Blk W0 w.heap.size 30 #[.int .i64 p, .int .i64 a, .int .i64 b, .int .i64 m, .int .i64 wt, .int .i64 g, .int .i64 t] := by rw [hW0]; exact Blk.new _ _ _
  have E0 := Lib.hid (show Ext w W0 by rw [hW0]; exact Ext.alloc _ _)
  have K0 := Lib.hid k0
  have HW := Lib.hid hW0
  clear k0 hW0
  go_enter Tryz.func18, Tryz.ntmps18
  go_wp2_with (first
    | (go_at_call 87; rw [← HW.out]; refine (limitsOf_any _).mono ?_; rintro e W1 ⟨rfl, hx⟩; have X1 := Lib.hid hx; clear hx)
    | (go_at_call 88; refine (numbersOf_any _ _).mono ?_; rintro e W2 ⟨rfl, hx⟩; have X2 := Lib.hid ((Ext.alloc _ _).trans hx); have K3 := Lib.hid ((Blk.new W1 150 #[.int .i64 1000000, .int .i64 1000000, .int .i64 1000000, .int .i64 1000000, .int .i64 1000000, .int .i64 100000, .int .i64 1000000]).ext hx); clear hx))
  have KX := Lib.hid (K0.out.ext (X1.out.trans X2.out))
  have EX := Lib.hid (E0.out.trans (X1.out.trans X2.out))
  clear K0 E0 X1 X2 HW
  generalize W1.heap.size = q3 at *
  go_loopw [10] (fun i wr => ∃ k : Nat, k ≤ 7 ∧ i = .int .i64 k ∧ firstAt (stE [p, a, b, m, wt, g, t]) 7 0 = firstAt (stE [p, a, b, m, wt, g, t]) (7 - k) k ∧ Ext W2 wr) (fun i _ => 7 - (intOf i).toNat)
  case atStart => exact ⟨0, by omega, rfl, rfl, Ext.refl _⟩
  case round =>
    obtain ⟨k, hk, rfl, hr, hx⟩ := hrel
    have HR := Lib.hid hr
    have HX := Lib.hid hx
    clear hr hx
    by_cases hlt : k < 7
    · have HD := Lib.hid (firstAt_step (stE [p, a, b, m, wt, g, t]) hlt)
      have HIX := Lib.hid (idx153 w.heap.size wr k hlt)
      have HL3 := Lib.hid (show wr.cell? ⟨q3, k, none⟩ = some (.int .i64 (lims.getD k 0)) from HX.out.cell (((K3.out).cell k).trans (lims_at k hlt)))
      have HX3 := Lib.hid (show wr.cell? ⟨w.heap.size, k, none⟩ = some (.int .i64 ([p, a, b, m, wt, g, t].getD k 0)) from HX.out.cell (((KX.out).cell k).trans (seven_at p a b m wt g t k hlt)))
      have HE := Lib.hid (show stE [p, a, b, m, wt, g, t] k = rangeE 0 (lims.getD k 0) [[p, a, b, m, wt, g, t].getD k 0] from rfl)
      generalize lims.getD k 0 = lm at HL3 HE
      generalize [p, a, b, m, wt, g, t].getD k 0 = x at HX3 HE
      have hk7 : (k : Int) < 7 := by omega
      have hix := HIX.out
      go_wp2
      clear hix
      refine wp_region_each [some 14, some 15, some 16, some 17, some 18, some 19, some 20, some 21, some 6] [[4], [3, 14], [15], [5], [17], [18], [19], [16, 20], [21]]
        [Is (.int .i64 ((k : Int))), Is (.pointer (some ⟨q3, k, none⟩)), Is (.int .i64 (lm)), Is (.pointer (some ⟨w.heap.size, k, none⟩)), Is (.pointer (some ⟨w.heap.size, k, none⟩)), Is (.int .i64 (x)), Ints [x], Is (.int .i64 (rangeE 0 lm [x])), Is (.int .i64 (rangeE 0 lm [x]))]
        (by kernel_rfl) (by kernel_rfl) (by kernel_rfl) (by kernel_rfl) (by kernel_rfl) Ext (fun W => Ext wr W)
        (fun W _ => Ext.refl W) (fun W W' h k => h.trans k) ?_ (Ext.drew _) ?_ ?_
      · repeat (refine ⟨fun _ _ _ _ k h => (by first | exact h | exact (by first | exact IntsAt.ext h k | exact KnV.ext h k | exact NumsV.ext h k)), ?_⟩)
        exact trivial
      · refine ⟨?_, ?_, ?_, ?_, ?_, ?_, ?_, ?_, ?_, trivial⟩
        all_goals intro ρ W ⟨kc, kg, kf⟩ hF hs
        · obtain ⟨h0, -⟩ := hs
          replace h0 : ρ (.tmp 4) = .int .i64 ((k : Int)) := h0
          go_simp
          exact ⟨Ext.refl _, rfl⟩
        · obtain ⟨h0, h1, -⟩ := hs
          replace h0 : ρ (.tmp 3) = .pointer (some ⟨q3, 0, none⟩) := h0
          replace h1 : ρ (.tmp 14) = .int .i64 ((k : Int)) := h1
          have hk7 : (k : Int) < 7 := by omega
          go_simp
          exact ⟨Ext.refl _, rfl⟩
        · obtain ⟨h0, -⟩ := hs
          replace h0 : ρ (.tmp 15) = .pointer (some ⟨q3, k, none⟩) := h0
          have hc0 : W.cell? ⟨q3, k, none⟩ = some (.int .i64 lm) := hF.cell HL3.out
          go_simp
          exact ⟨Ext.refl _, rfl⟩
        · obtain ⟨h0, -⟩ := hs
          replace h0 : ρ (.tmp 5) = .pointer (some ⟨w.heap.size, k, none⟩) := h0
          go_simp
          exact ⟨Ext.refl _, rfl⟩
        · obtain ⟨h0, -⟩ := hs
          replace h0 : ρ (.tmp 17) = .pointer (some ⟨w.heap.size, k, none⟩) := h0
          go_simp
          exact ⟨Ext.refl _, rfl⟩
        · obtain ⟨h0, -⟩ := hs
          replace h0 : ρ (.tmp 18) = .pointer (some ⟨w.heap.size, k, none⟩) := h0
          have hc0 : W.cell? ⟨w.heap.size, k, none⟩ = some (.int .i64 x) := hF.cell HX3.out
          go_simp
          exact ⟨Ext.refl _, rfl⟩
        · obtain ⟨h0, -⟩ := hs
          replace h0 : ρ (.tmp 19) = .int .i64 (x) := h0
          go_simp
          exact ⟨Ext.alloc _ _, ints_new _ [x] _ (by simp)⟩
        · obtain ⟨h0, h1, -⟩ := hs
          replace h0 : ρ (.tmp 16) = .int .i64 (lm) := h0
          replace h1 : (Ints [x]) (ρ (.tmp 20)) W := h1
          go_simp
          refine (rangeError_any _ _ _ _ _ h1).mono ?_; rintro e w' ⟨rfl, hx⟩; exact ⟨_, rfl, hx, rfl⟩
        · obtain ⟨h0, -⟩ := hs
          replace h0 : ρ (.tmp 21) = .int .i64 (rangeE 0 lm [x]) := h0
          go_simp
          exact ⟨Ext.refl _, rfl⟩
      · intro fv W hF hs
        obtain ⟨-, -, -, -, -, -, -, -, h6, -⟩ := hs
        replace h6 : fv 6 = .int .i64 (rangeE 0 lm [x]) := h6
        simp only [fin, List.filterMap]
        go_simp
        have X3 := Lib.hid (HX.out.trans hF)
        clear hF h6
        generalize rangeE 0 lm [x] = z at HE
        by_cases hz : z = 0
        · have hz' : (z != 0) = false := by simp [hz]
          have HZ := Lib.hid hz
          clear hz
          go_wp2
          go_roundw
          case rel => exact ⟨k + 1, by omega, by go_num, by rw [HR.out, HD.out, if_neg (by rw [HE.out, HZ.out]; simp)], X3.out⟩
          case measure => simp [intOf]; omega
        · have hz' : (z != 0) = true := by simp [hz]
          have HZ := Lib.hid hz
          have HA := Lib.hid (show stateE [p, a, b, m, wt, g, t] = z by
            have : (firstAt (stE [p, a, b, m, wt, g, t]) 7 0).2 = z := by rw [HR.out, HD.out, if_pos (by rw [HE.out]; exact HZ.out), HE.out]
            rw [stateE, this, if_pos HZ.out])
          clear hz
          go_wp2
          go_ret
          exact ⟨ret_int HA.out.symm, EX.out.trans X3.out⟩
    · obtain rfl : k = 7 := by omega
      have h0 : (firstAt (stE [p, a, b, m, wt, g, t]) 7 0).2 = 0 := by rw [HR.out]; rfl
      have HA := Lib.hid (show stateE [p, a, b, m, wt, g, t] = errIf (p + a + b + m != 1000000) 3 by rw [stateE, if_neg (by rw [h0]; simp)]; rfl)
      have b0 := rangeE_zero (firstAt_zero h0 0 (by omega) (by omega))
      have b1 := rangeE_zero (firstAt_zero h0 1 (by omega) (by omega))
      have b2 := rangeE_zero (firstAt_zero h0 2 (by omega) (by omega))
      have b3 := rangeE_zero (firstAt_zero h0 3 (by omega) (by omega))
      obtain ⟨b00, b01⟩ : 0 ≤ p ∧ p ≤ 1000000 := b0
      obtain ⟨b10, b11⟩ : 0 ≤ a ∧ a ≤ 1000000 := b1
      obtain ⟨b20, b21⟩ : 0 ≤ b ∧ b ≤ 1000000 := b2
      obtain ⟨b30, b31⟩ : 0 ≤ m ∧ m ≤ 1000000 := b3
      have hk := KX.out.ext HX.out
      have c0 := hk.cell 0
      have c1 := hk.cell 1
      have c2 := hk.cell 2
      have c3 := hk.cell 3
      simp only [List.getElem?_toArray, List.getElem?_cons_zero, List.getElem?_cons_succ] at c0 c1 c2 c3
      clear hk h0
      go_wp2_with (go_at_call 72; refine (errorIf_any _ _ _).mono ?_; rintro e w' ⟨rfl, rfl⟩)
      go_ret
      exact ⟨ret_int HA.out.symm, EX.out.trans HX.out⟩

end Go.Proofs.YtkmekbafjnlfkaaGreat
