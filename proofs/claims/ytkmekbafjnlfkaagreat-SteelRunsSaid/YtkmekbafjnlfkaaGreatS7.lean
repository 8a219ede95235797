/- Sorted numbers. -/
import Derived.Test.YtkmekbafjnlfkaaGreatS6

namespace Go.Proofs.YtkmekbafjnlfkaaGreat
open Go.RowKit Go.Shelf Go.Mem Go.RegInv
attribute [local go_sem] RelUpon_value RelUpon_skip RelUpon_enter BigFrame.eval_const BigFrame.eval_global BigFrame.eval_func

theorem less_any (x y : Int) (w : World) : Calls Tryz.prog 148 #[.int .i64 x, .int .i64 y] w fun e w' => e = .returned (.bool (decide (x < y))) ∧ w = w' := by
  have h : (x != x) = false := by simp
  go_enter Tryz.func148, Tryz.ntmps148
  go_wp2
  go_ret
  exact ⟨rfl, rfl⟩
def downK (xs : List Int) : Nat → Bool
  | 0 => true
  | k + 1 => !decide (xs.getD (k + 1) 0 < xs.getD k 0) && downK xs k

set_option maxRecDepth 100000 in
set_option maxHeartbeats 1000000 in
theorem isSorted_any {v : Value} {xs : List Int} {w : World} (hx : IntsAt w v xs) (h1 : 1 ≤ xs.length) : Calls Tryz.prog 128 #[v] w fun e w' => e = .returned (.bool (downK xs (xs.length - 1))) ∧ Ext w w' := by
  rcases hx with ⟨_, _, _, h⟩ | ⟨b, o, ca, rfl, hb, hm, hc⟩
  · rw [h] at h1; simp at h1
  generalize xs.length = n at *
  obtain ⟨m, hmm⟩ : ∃ m, n = m + 1 := ⟨n - 1, by omega⟩
  have hw0 : IntKind.i64.wrap ((n : Int) - 1) = (m : Int) := by rw [wrap_id _ (by omega) (by omega)]; omega
  rw [show n - 1 = m by omega]
  have HM := Lib.hid hmm
  have HC := Lib.hid hc
  clear hc hmm
  go_enter Tryz.func128, Tryz.ntmps128
  go_wp2
  clear hw0
  go_loopw [3] (fun i wr => ∃ k : Nat, k ≤ m ∧ i = .int .i64 k ∧ downK xs m = downK xs k ∧ Ext w wr) (fun i _ => (intOf i).toNat)
  case atStart => exact ⟨m, Nat.le_refl _, rfl, rfl, Ext.refl _⟩
  case round =>
    obtain ⟨k0, hk, rfl, hr, hx⟩ := hrel
    have HR := Lib.hid hr
    have HX := Lib.hid hx
    clear hr hx
    cases k0 with
    | zero =>
      go_wp2
      go_ret
      exact ⟨ret_bool (by rw [HR.out]; rfl), HX.out⟩
    | succ k =>
      have HK1 := Lib.hid (show (k : Int) + 1 < (n : Int) by have := HM.out; omega)
      have HK0 := Lib.hid (show (k : Int) < (n : Int) by have := HM.out; omega)
      have hkb : (k : Int) ≤ 1152921504606846976 := by have := HM.out; omega
      have HW := Lib.hid (show IntKind.i64.wrap (k : Int) = (k : Int) from wrap_id _ (by omega) (by omega))
      have x0 : wr.cell? ⟨b, o + (k + 1), none⟩ = some (.int .i64 (xs.getD (k + 1) 0)) := HX.out.cell (HC.out (k + 1) (by have := HM.out; omega))
      have y0 : wr.cell? ⟨b, o + k, none⟩ = some (.int .i64 (xs.getD k 0)) := HX.out.cell (HC.out k (by have := HM.out; omega))
      have HD := Lib.hid (show downK xs (k + 1) = (!decide (xs.getD (k + 1) 0 < xs.getD k 0) && downK xs k) from rfl)
      generalize xs.getD (k + 1) 0 = x at x0 HD
      generalize xs.getD k 0 = y at y0 HD
      have hk0 : (0 : Int) < (k : Int) + 1 := by omega
      have hk2 : decide ((0 : Int) < (k : Int) + 1) = true := decide_eq_true hk0
      go_wp2
      refine wp_region_each [some 11, some 12, some 13, some 14, some 15, some 16, some 17, some 18, some 19, some 20] [[0], [3], [11, 12], [13], [0], [3], [16], [15, 17], [18], [14, 19]]
        [Is (.slice (some ⟨b, o, none⟩) n ca), Is (.int .i64 ((k : Int) + 1)), Is (.pointer (some ⟨b, o + (k + 1), none⟩)), Is (.int .i64 (x)), Is (.slice (some ⟨b, o, none⟩) n ca), Is (.int .i64 ((k : Int) + 1)), Is (.int .i64 ((k : Int))), Is (.pointer (some ⟨b, o + k, none⟩)), Is (.int .i64 (y)), Is (.bool (decide (x < y)))]
        (by kernel_rfl) (by kernel_rfl) (by kernel_rfl) (by kernel_rfl) (by kernel_rfl) Ext (fun W => Ext wr W)
        (fun W _ => Ext.refl W) (fun W W' h k => h.trans k) ?_ (Ext.drew _) ?_ ?_
      · repeat (refine ⟨fun _ _ _ _ k h => (by first | exact h | exact (by first | exact IntsAt.ext h k | exact KnV.ext h k | exact NumsV.ext h k)), ?_⟩)
        exact trivial
      · refine ⟨?_, ?_, ?_, ?_, ?_, ?_, ?_, ?_, ?_, ?_, trivial⟩
        all_goals intro ρ W ⟨kc, kg, kf⟩ hF hs
        · obtain ⟨h0, -⟩ := hs
          replace h0 : ρ (.tmp 0) = .slice (some ⟨b, o, none⟩) n ca := h0
          go_simp
          exact ⟨Ext.refl _, rfl⟩
        · obtain ⟨h0, -⟩ := hs
          replace h0 : ρ (.tmp 3) = .int .i64 ((k : Int) + 1) := h0
          go_simp
          exact ⟨Ext.refl _, rfl⟩
        · obtain ⟨h0, h1, -⟩ := hs
          replace h0 : ρ (.tmp 11) = .slice (some ⟨b, o, none⟩) n ca := h0
          replace h1 : ρ (.tmp 12) = .int .i64 ((k : Int) + 1) := h1
          have h2 : (k : Int) + 1 < (n : Int) := HK1.out
          have h3 : (0 : Int) ≤ (k : Int) + 1 := by omega
          have h4 : ((k : Int) + 1).toNat = k + 1 := by omega
          have h5 : k + 1 < n := by omega
          go_simp
          exact ⟨Ext.refl _, rfl⟩
        · obtain ⟨h0, -⟩ := hs
          replace h0 : ρ (.tmp 13) = .pointer (some ⟨b, o + (k + 1), none⟩) := h0
          have hc0 : W.cell? ⟨b, o + (k + 1), none⟩ = some (.int .i64 (x)) := hF.cell (by assumption)
          go_simp
          exact ⟨Ext.refl _, rfl⟩
        · obtain ⟨h0, -⟩ := hs
          replace h0 : ρ (.tmp 0) = .slice (some ⟨b, o, none⟩) n ca := h0
          go_simp
          exact ⟨Ext.refl _, rfl⟩
        · obtain ⟨h0, -⟩ := hs
          replace h0 : ρ (.tmp 3) = .int .i64 ((k : Int) + 1) := h0
          go_simp
          exact ⟨Ext.refl _, rfl⟩
        · obtain ⟨h0, -⟩ := hs
          replace h0 : ρ (.tmp 16) = .int .i64 ((k : Int) + 1) := h0
          have hw : IntKind.i64.wrap (k : Int) = (k : Int) := HW.out
          go_simp
          exact ⟨Ext.refl _, rfl⟩
        · obtain ⟨h0, h1, -⟩ := hs
          replace h0 : ρ (.tmp 15) = .slice (some ⟨b, o, none⟩) n ca := h0
          replace h1 : ρ (.tmp 17) = .int .i64 ((k : Int)) := h1
          have h2 : (k : Int) < (n : Int) := HK0.out
          have h5 : k < n := by omega
          go_simp
          exact ⟨Ext.refl _, rfl⟩
        · obtain ⟨h0, -⟩ := hs
          replace h0 : ρ (.tmp 18) = .pointer (some ⟨b, o + k, none⟩) := h0
          have hc0 : W.cell? ⟨b, o + k, none⟩ = some (.int .i64 (y)) := hF.cell (by assumption)
          go_simp
          exact ⟨Ext.refl _, rfl⟩
        · obtain ⟨h0, h1, -⟩ := hs
          replace h0 : ρ (.tmp 14) = .int .i64 (x) := h0
          replace h1 : ρ (.tmp 19) = .int .i64 (y) := h1
          go_simp
          refine (less_any _ _ _).mono ?_; rintro e w' ⟨rfl, rfl⟩; exact ⟨_, rfl, Ext.refl _, rfl⟩
      · intro fv W hF hs
        obtain ⟨-, -, -, -, -, -, -, -, -, h20, -⟩ := hs
        replace h20 : fv 20 = .bool (decide (x < y)) := h20
        simp only [fin, List.filterMap]
        go_simp
        have X1 := Lib.hid hF
        clear hF h20
        by_cases hl : x < y
        · have hl' : decide (x < y) = true := decide_eq_true hl
          go_wp2
          go_ret
          exact ⟨ret_bool (by rw [HR.out, HD.out, hl']; rfl), HX.out.trans X1.out⟩
        · have hl' : decide (x < y) = false := decide_eq_false hl
          have hw2 : IntKind.i64.wrap (k : Int) = (k : Int) := HW.out
          go_wp2
          go_roundw
          case rel => exact ⟨k, by omega, by go_num, by rw [HR.out, HD.out, hl']; rfl, HX.out.trans X1.out⟩
          case measure => simp [intOf]

end Go.Proofs.YtkmekbafjnlfkaaGreat
