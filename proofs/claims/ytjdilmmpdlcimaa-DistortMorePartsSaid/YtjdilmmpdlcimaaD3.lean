/- More parts. -/
import Derived.Test.YtjdilmmpdlcimaaC15
import Derived.Test.YtjdilmmpdlcimaaD1
import Derived.Test.YtjdilmmpdlcimaaD2
import Derived.Lib.MinMax
import Derived.Deep.DeepCutAuto

namespace Go.Proofs.Ytjdilmmpdlcimaa
open Go.RowKit Go.Shelf Go.Mem Go.RegInv
attribute [local go_sem] RelUpon_value RelUpon_skip RelUpon_enter BigFrame.eval_const BigFrame.eval_global BigFrame.eval_func


set_option maxRecDepth 100000 in
set_option maxHeartbeats 8000000 in
theorem more_core {n a b c d x y m f : Int} {e e2 e3 : Bool} (hn : 2 ≤ n ∧ n ≤ 40) (ha : 0 ≤ a ∧ a ≤ 100)
    (hce : ∀ W, Calls Try.prog 60 #[.int .i64 n] W fun r w' => r = .returned (.int .i64 0) ∧ Ext W w') (hp1 : ∀ W, Calls Try.prog 61 #[.agg #[.int .i64 a, .int .i64 b]] W fun r w' => r = .returned (.int .i64 0) ∧ Ext W w') (hp2 : ∀ W, Calls Try.prog 61 #[.agg #[.int .i64 c, .int .i64 d]] W fun r w' => r = .returned (.int .i64 0) ∧ Ext W w')
    (hi : ∀ W, Calls Try.prog 62 #[.int .i64 n, .agg #[.int .i64 a, .int .i64 b], .agg #[.int .i64 c, .int .i64 d]] W fun r w' => r = .returned (.tuple #[.bool e, .int .i64 0]) ∧ Ext W w')
    (hi2 : n < 40 → ∀ W, Calls Try.prog 62 #[.int .i64 (n + 1), .agg #[.int .i64 a, .int .i64 b], .agg #[.int .i64 c, .int .i64 d]] W fun r w' => r = .returned (.tuple #[.bool e2, .int .i64 0]) ∧ Ext W w') (h2 : e = true → e2 = true)
    (hlo : 0 < a → ∀ W, Calls Try.prog 63 #[.int .i64 (a - 1), .int .i64 b] W fun r w' => r = .returned (.agg #[.int .i64 x, .int .i64 y]) ∧ Ext W w')
    (hi3 : 0 < a → ∀ W, Calls Try.prog 62 #[.int .i64 n, .agg #[.int .i64 x, .int .i64 y], .agg #[.int .i64 c, .int .i64 d]] W fun r w' => r = .returned (.tuple #[.bool e3, .int .i64 0]) ∧ Ext W w') (h3 : e = true → e3 = true)
    (hs : ∀ W, Calls Try.prog 64 #[.agg #[.int .i64 a, .int .i64 b], .agg #[.int .i64 c, .int .i64 d]] W fun r w' => r = .returned (.tuple #[.int .i64 m, .int .i64 f]) ∧ Ext W w') (hf : f ≠ 0 → f = 12 ∧ e = false) (hm : f = 0 → 2 ≤ m ∧ m ≤ 40 ∧ e = decide (m ≤ n)) (w : World) :
    Calls Try.prog 12 #[.int .i64 n, .agg #[.int .i64 a, .int .i64 b], .agg #[.int .i64 c, .int .i64 d]] w fun e w' => e = .returned (.bool true) ∧ Ext w w' := by
  have HCE := Lib.hid hce
  have HP1 := Lib.hid hp1
  have HP2 := Lib.hid hp2
  have HI := Lib.hid hi
  have HI2 := Lib.hid hi2
  have HLO := Lib.hid hlo
  have HI3 := Lib.hid hi3
  have HS := Lib.hid hs
  have HF := Lib.hid hf
  have HM := Lib.hid hm
  have H2 := Lib.hid h2
  have H3 := Lib.hid h3
  clear hce hp1 hp2 hi hi2 hlo hi3 hs hf hm h2 h3
  obtain ⟨W0, hW0⟩ : ∃ W0, W0 = (w.alloc (.cells #[.int .i64 a, .int .i64 b] 112)).alloc (.cells #[.int .i64 c, .int .i64 d] 112) := ⟨_, rfl⟩
  have K0 := Lib.hid (show Blk W0 (w.heap.size) 112 #[.int .i64 a, .int .i64 b] by rw [hW0]; exact (Blk.new _ _ _).alloc _)
  have K1 := Lib.hid (show Blk W0 (w.heap.size + 1) 112 #[.int .i64 c, .int .i64 d] by rw [hW0]; exact Blk.newAt _ _ _ (by simp))
  have E0 := Lib.hid (show Ext w W0 by rw [hW0]; exact (Ext.alloc _ _).trans (Ext.alloc _ _))
  have y0_0 : W0.cell? ⟨w.heap.size, 0, none⟩ = some (.int .i64 a) := K0.out.cell 0
  have y0_1 : W0.cell? ⟨w.heap.size, 1, none⟩ = some (.int .i64 b) := K0.out.cell 1
  have y1_0 : W0.cell? ⟨w.heap.size + 1, 0, none⟩ = some (.int .i64 c) := K1.out.cell 0
  have y1_1 : W0.cell? ⟨w.heap.size + 1, 1, none⟩ = some (.int .i64 d) := K1.out.cell 1
  have X := Lib.hid E0.out
  clear E0
  go_enter Try.func12, Try.ntmps12
  go_upto_region 1 with (fail)
  rw [← hW0]
  clear hW0
  go_wp2_with (go_at_call 13; refine (awake_any _).mono ?_; rintro e W1 ⟨rfl, hx⟩; replace X := Lib.hid (X.out.trans hx); replace K0 := Lib.hid (K0.out.ext hx); replace K1 := Lib.hid (K1.out.ext hx); clear hx y0_0 y0_1 y1_0 y1_1; refine Hid.out ?_)
  refine Lib.hid ?_
  have y0_0 : W1.cell? ⟨w.heap.size, 0, none⟩ = some (.int .i64 a) := K0.out.cell 0
  have y0_1 : W1.cell? ⟨w.heap.size, 1, none⟩ = some (.int .i64 b) := K0.out.cell 1
  have y1_0 : W1.cell? ⟨w.heap.size + 1, 0, none⟩ = some (.int .i64 c) := K1.out.cell 0
  have y1_1 : W1.cell? ⟨w.heap.size + 1, 1, none⟩ = some (.int .i64 d) := K1.out.cell 1
  go_wp2_with (go_at_call 60; refine (HCE.out _).mono ?_; rintro e W2 ⟨rfl, hx⟩; replace X := Lib.hid (X.out.trans hx); replace K0 := Lib.hid (K0.out.ext hx); replace K1 := Lib.hid (K1.out.ext hx); clear hx y0_0 y0_1 y1_0 y1_1; refine Hid.out ?_)
  refine Lib.hid ?_
  have y0_0 : W2.cell? ⟨w.heap.size, 0, none⟩ = some (.int .i64 a) := K0.out.cell 0
  have y0_1 : W2.cell? ⟨w.heap.size, 1, none⟩ = some (.int .i64 b) := K0.out.cell 1
  have y1_0 : W2.cell? ⟨w.heap.size + 1, 0, none⟩ = some (.int .i64 c) := K1.out.cell 0
  have y1_1 : W2.cell? ⟨w.heap.size + 1, 1, none⟩ = some (.int .i64 d) := K1.out.cell 1
  go_wp2_with (go_at_call 61; refine (HP1.out _).mono ?_; rintro e W3 ⟨rfl, hx⟩; replace X := Lib.hid (X.out.trans hx); replace K0 := Lib.hid (K0.out.ext hx); replace K1 := Lib.hid (K1.out.ext hx); clear hx y0_0 y0_1 y1_0 y1_1; refine Hid.out ?_)
  refine Lib.hid ?_
  have y0_0 : W3.cell? ⟨w.heap.size, 0, none⟩ = some (.int .i64 a) := K0.out.cell 0
  have y0_1 : W3.cell? ⟨w.heap.size, 1, none⟩ = some (.int .i64 b) := K0.out.cell 1
  have y1_0 : W3.cell? ⟨w.heap.size + 1, 0, none⟩ = some (.int .i64 c) := K1.out.cell 0
  have y1_1 : W3.cell? ⟨w.heap.size + 1, 1, none⟩ = some (.int .i64 d) := K1.out.cell 1
  go_wp2_with (go_at_call 61; refine (HP2.out _).mono ?_; rintro e W4 ⟨rfl, hx⟩; replace X := Lib.hid (X.out.trans hx); replace K0 := Lib.hid (K0.out.ext hx); replace K1 := Lib.hid (K1.out.ext hx); clear hx y0_0 y0_1 y1_0 y1_1; refine Hid.out ?_)
  refine Lib.hid ?_
  have y0_0 : W4.cell? ⟨w.heap.size, 0, none⟩ = some (.int .i64 a) := K0.out.cell 0
  have y0_1 : W4.cell? ⟨w.heap.size, 1, none⟩ = some (.int .i64 b) := K0.out.cell 1
  have y1_0 : W4.cell? ⟨w.heap.size + 1, 0, none⟩ = some (.int .i64 c) := K1.out.cell 0
  have y1_1 : W4.cell? ⟨w.heap.size + 1, 1, none⟩ = some (.int .i64 d) := K1.out.cell 1
  go_wp2_with (go_at_call 62; refine (HI.out _).mono ?_; rintro e W5 ⟨rfl, hx⟩; replace X := Lib.hid (X.out.trans hx); replace K0 := Lib.hid (K0.out.ext hx); replace K1 := Lib.hid (K1.out.ext hx); clear hx y0_0 y0_1 y1_0 y1_1; refine Hid.out ?_)
  refine Lib.hid ?_
  have y0_0 : W5.cell? ⟨w.heap.size, 0, none⟩ = some (.int .i64 a) := K0.out.cell 0
  have y0_1 : W5.cell? ⟨w.heap.size, 1, none⟩ = some (.int .i64 b) := K0.out.cell 1
  have y1_0 : W5.cell? ⟨w.heap.size + 1, 0, none⟩ = some (.int .i64 c) := K1.out.cell 0
  have y1_1 : W5.cell? ⟨w.heap.size + 1, 1, none⟩ = some (.int .i64 d) := K1.out.cell 1

  cases e with
  | true =>
    obtain rfl := H2.out rfl
    obtain rfl := H3.out rfl
    clear H2 H3
    rcases (show n < 40 ∨ ¬ n < 40 by omega) with h40 | h40
    · replace HI2 := Lib.hid (HI2.out h40)
      rcases (show 0 < a ∨ ¬ 0 < a by omega) with h0 | h0
      · replace HLO := Lib.hid (HLO.out h0)
        replace HI3 := Lib.hid (HI3.out h0)
        go_wp2_with (go_at_call 62; refine (HI2.out _).mono ?_; rintro e W6 ⟨rfl, hx⟩; replace X := Lib.hid (X.out.trans hx); replace K0 := Lib.hid (K0.out.ext hx); replace K1 := Lib.hid (K1.out.ext hx); clear hx y0_0 y0_1 y1_0 y1_1; refine Hid.out ?_)
        refine Lib.hid ?_
        have y0_0 : W6.cell? ⟨w.heap.size, 0, none⟩ = some (.int .i64 a) := K0.out.cell 0
        have y0_1 : W6.cell? ⟨w.heap.size, 1, none⟩ = some (.int .i64 b) := K0.out.cell 1
        have y1_0 : W6.cell? ⟨w.heap.size + 1, 0, none⟩ = some (.int .i64 c) := K1.out.cell 0
        have y1_1 : W6.cell? ⟨w.heap.size + 1, 1, none⟩ = some (.int .i64 d) := K1.out.cell 1
        go_upto_region 13 with (fail)
        refine wp_region_each [some 62, some 63, some 64, some 65, some 66, some 67, some 68, some 69, some 70, some 61, some 71, some 72, some 11, some 12] [[0], [4], [63], [64], [4], [66], [65, 67], [5], [62, 68, 69], [70], [61], [61], [71], [72]]
          [Is (.int .i64 (n)), Is (.pointer (some ⟨w.heap.size, 0, none⟩)), Is (.int .i64 (a)), Is (.int .i64 (a - 1)), Is (.pointer (some ⟨w.heap.size, 1, none⟩)), Is (.int .i64 (b)), Is (.agg #[.int .i64 x, .int .i64 y]), Is (.agg #[.int .i64 (c), .int .i64 (d)]), Is (.tuple #[.bool true, .int .i64 0]), Is (.tuple #[.bool true, .int .i64 0]), Is (.bool (true)), Is (.int .i64 (0)), Is (.bool (true)), Is (.int .i64 (0))]
          (by kernel_rfl) (by kernel_rfl) (by kernel_rfl) (by kernel_rfl) (by kernel_rfl) Ext (fun W => Ext W6 W)
          (fun W _ => Ext.refl W) (fun W W' h k => h.trans k) ?_ (Ext.drew _) ?_ ?_
        · repeat (refine ⟨fun _ _ _ _ k h => (by first | exact h | exact (IntsAt.ext h k)), ?_⟩)
          exact trivial
        · refine ⟨?_, ?_, ?_, ?_, ?_, ?_, ?_, ?_, ?_, ?_, ?_, ?_, ?_, ?_, trivial⟩
          all_goals intro ρ W ⟨kc, kg, kf⟩ hF hs
          · obtain ⟨h0, -⟩ := hs
            replace h0 : ρ (.tmp 0) = .int .i64 (n) := h0
            go_simp
            exact ⟨Ext.refl _, rfl⟩
          · obtain ⟨h0, -⟩ := hs
            replace h0 : ρ (.tmp 4) = .pointer (some ⟨w.heap.size, 0, none⟩) := h0
            go_simp
            exact ⟨Ext.refl _, rfl⟩
          · obtain ⟨h0, -⟩ := hs
            replace h0 : ρ (.tmp 63) = .pointer (some ⟨w.heap.size, 0, none⟩) := h0
            have hc0 : W.cell? ⟨w.heap.size, 0, none⟩ = some (.int .i64 (a)) := hF.cell (by assumption)
            go_simp
            exact ⟨Ext.refl _, rfl⟩
          · obtain ⟨h0, -⟩ := hs
            replace h0 : ρ (.tmp 64) = .int .i64 (a) := h0
            have hw : IntKind.i64.wrap (a - 1) = a - 1 := wrap_id _ (by omega) (by omega)
            go_simp
            exact ⟨Ext.refl _, rfl⟩
          · obtain ⟨h0, -⟩ := hs
            replace h0 : ρ (.tmp 4) = .pointer (some ⟨w.heap.size, 0, none⟩) := h0
            go_simp
            exact ⟨Ext.refl _, rfl⟩
          · obtain ⟨h0, -⟩ := hs
            replace h0 : ρ (.tmp 66) = .pointer (some ⟨w.heap.size, 1, none⟩) := h0
            have hc0 : W.cell? ⟨w.heap.size, 1, none⟩ = some (.int .i64 (b)) := hF.cell (by assumption)
            go_simp
            exact ⟨Ext.refl _, rfl⟩
          · obtain ⟨h0, h1, -⟩ := hs
            replace h0 : ρ (.tmp 65) = .int .i64 (a - 1) := h0
            replace h1 : ρ (.tmp 67) = .int .i64 (b) := h1
            go_simp
            refine (HLO.out _).mono ?_; rintro e w' ⟨rfl, hx⟩; exact ⟨_, rfl, hx, rfl⟩
          · obtain ⟨h0, -⟩ := hs
            replace h0 : ρ (.tmp 5) = .pointer (some ⟨w.heap.size + 1, 0, none⟩) := h0
            have hc0 : W.cell? ⟨w.heap.size + 1, 0, none⟩ = some (.int .i64 (c)) := hF.cell (by assumption)
            have hc1 : W.cell? ⟨w.heap.size + 1, 1, none⟩ = some (.int .i64 (d)) := hF.cell (by assumption)
            go_simp
            exact ⟨Ext.refl _, rfl⟩
          · obtain ⟨h0, h1, h2, -⟩ := hs
            replace h0 : ρ (.tmp 62) = .int .i64 (n) := h0
            replace h1 : ρ (.tmp 68) = .agg #[.int .i64 x, .int .i64 y] := h1
            replace h2 : ρ (.tmp 69) = .agg #[.int .i64 (c), .int .i64 (d)] := h2
            go_simp
            refine (HI3.out _).mono ?_; rintro e w' ⟨rfl, hx⟩; exact ⟨_, rfl, hx, rfl⟩
          · obtain ⟨h0, -⟩ := hs
            replace h0 : ρ (.tmp 70) = .tuple #[.bool true, .int .i64 0] := h0
            go_simp
            exact ⟨Ext.refl _, rfl⟩
          · obtain ⟨h0, -⟩ := hs
            replace h0 : ρ (.tmp 61) = .tuple #[.bool true, .int .i64 0] := h0
            go_simp
            exact ⟨Ext.refl _, rfl⟩
          · obtain ⟨h0, -⟩ := hs
            replace h0 : ρ (.tmp 61) = .tuple #[.bool true, .int .i64 0] := h0
            go_simp
            exact ⟨Ext.refl _, rfl⟩
          · obtain ⟨h0, -⟩ := hs
            replace h0 : ρ (.tmp 71) = .bool (true) := h0
            go_simp
            exact ⟨Ext.refl _, rfl⟩
          · obtain ⟨h0, -⟩ := hs
            replace h0 : ρ (.tmp 72) = .int .i64 (0) := h0
            go_simp
            exact ⟨Ext.refl _, rfl⟩
        · intro fv W7 hF hs
          obtain ⟨-, -, -, -, -, -, -, -, -, -, -, -, h11, h12, -⟩ := hs
          replace h11 : fv 11 = .bool (true) := h11
          replace h12 : fv 12 = .int .i64 (0) := h12
          simp only [fin, List.filterMap]
          go_simp
          replace X := Lib.hid (X.out.trans hF)
          replace K0 := Lib.hid (K0.out.ext hF)
          replace K1 := Lib.hid (K1.out.ext hF)
          clear hF y0_0 y0_1 y1_0 y1_1
          have y0_0 : W7.cell? ⟨w.heap.size, 0, none⟩ = some (.int .i64 a) := K0.out.cell 0
          have y0_1 : W7.cell? ⟨w.heap.size, 1, none⟩ = some (.int .i64 b) := K0.out.cell 1
          have y1_0 : W7.cell? ⟨w.heap.size + 1, 0, none⟩ = some (.int .i64 c) := K1.out.cell 0
          have y1_1 : W7.cell? ⟨w.heap.size + 1, 1, none⟩ = some (.int .i64 d) := K1.out.cell 1
          by_cases hf : f = 0
          · obtain ⟨hm1, hm2, hm3⟩ := HM.out hf
            subst hf
            have HWI := Lib.hid (fun W => show Calls Try.prog 21 #[.int .i64 m, .int .i64 2, .int .i64 40] W fun e w' => e = .returned (.bool true) ∧ W = w' from by
              have := within_any m 2 40 W
              rw [show withinB m 2 40 = true by simp [withinB, hm1, hm2]] at this
              exact this)
            have hmn : m ≤ n := of_decide_eq_true hm3.symm
            clear hm3
            go_wp2_with (first
              | (go_at_call 64; refine (HS.out _).mono ?_; rintro e W9 ⟨rfl, hx⟩; replace X := Lib.hid (X.out.trans hx); clear hx y0_0 y0_1 y1_0 y1_1)
              | (go_at_call 21; refine (HWI.out _).mono ?_; rintro e W9 ⟨rfl, rfl⟩))
            go_ret
            exact ⟨by first | rfl | (simp; omega), X.out⟩
          · obtain ⟨hf1, hf2⟩ := HF.out hf
            subst hf1
            cases hf2

      · clear HLO HI3
        go_wp2_with (go_at_call 62; refine (HI2.out _).mono ?_; rintro e W6 ⟨rfl, hx⟩; replace X := Lib.hid (X.out.trans hx); replace K0 := Lib.hid (K0.out.ext hx); replace K1 := Lib.hid (K1.out.ext hx); clear hx y0_0 y0_1 y1_0 y1_1; refine Hid.out ?_)
        refine Lib.hid ?_
        have y0_0 : W6.cell? ⟨w.heap.size, 0, none⟩ = some (.int .i64 a) := K0.out.cell 0
        have y0_1 : W6.cell? ⟨w.heap.size, 1, none⟩ = some (.int .i64 b) := K0.out.cell 1
        have y1_0 : W6.cell? ⟨w.heap.size + 1, 0, none⟩ = some (.int .i64 c) := K1.out.cell 0
        have y1_1 : W6.cell? ⟨w.heap.size + 1, 1, none⟩ = some (.int .i64 d) := K1.out.cell 1
        by_cases hf : f = 0
        · obtain ⟨hm1, hm2, hm3⟩ := HM.out hf
          subst hf
          have HWI := Lib.hid (fun W => show Calls Try.prog 21 #[.int .i64 m, .int .i64 2, .int .i64 40] W fun e w' => e = .returned (.bool true) ∧ W = w' from by
            have := within_any m 2 40 W
            rw [show withinB m 2 40 = true by simp [withinB, hm1, hm2]] at this
            exact this)
          have hmn : m ≤ n := of_decide_eq_true hm3.symm
          clear hm3
          go_wp2_with (first
            | (go_at_call 64; refine (HS.out _).mono ?_; rintro e W9 ⟨rfl, hx⟩; replace X := Lib.hid (X.out.trans hx); clear hx y0_0 y0_1 y1_0 y1_1)
            | (go_at_call 21; refine (HWI.out _).mono ?_; rintro e W9 ⟨rfl, rfl⟩))
          go_ret
          exact ⟨by first | rfl | (simp; omega), X.out⟩
        · obtain ⟨hf1, hf2⟩ := HF.out hf
          subst hf1
          cases hf2

    · clear HI2
      rcases (show 0 < a ∨ ¬ 0 < a by omega) with h0 | h0
      · replace HLO := Lib.hid (HLO.out h0)
        replace HI3 := Lib.hid (HI3.out h0)
        go_upto_region 13 with (fail)
        refine wp_region_each [some 62, some 63, some 64, some 65, some 66, some 67, some 68, some 69, some 70, some 61, some 71, some 72, some 11, some 12] [[0], [4], [63], [64], [4], [66], [65, 67], [5], [62, 68, 69], [70], [61], [61], [71], [72]]
          [Is (.int .i64 (n)), Is (.pointer (some ⟨w.heap.size, 0, none⟩)), Is (.int .i64 (a)), Is (.int .i64 (a - 1)), Is (.pointer (some ⟨w.heap.size, 1, none⟩)), Is (.int .i64 (b)), Is (.agg #[.int .i64 x, .int .i64 y]), Is (.agg #[.int .i64 (c), .int .i64 (d)]), Is (.tuple #[.bool true, .int .i64 0]), Is (.tuple #[.bool true, .int .i64 0]), Is (.bool (true)), Is (.int .i64 (0)), Is (.bool (true)), Is (.int .i64 (0))]
          (by kernel_rfl) (by kernel_rfl) (by kernel_rfl) (by kernel_rfl) (by kernel_rfl) Ext (fun W => Ext W5 W)
          (fun W _ => Ext.refl W) (fun W W' h k => h.trans k) ?_ (Ext.drew _) ?_ ?_
        · repeat (refine ⟨fun _ _ _ _ k h => (by first | exact h | exact (IntsAt.ext h k)), ?_⟩)
          exact trivial
        · refine ⟨?_, ?_, ?_, ?_, ?_, ?_, ?_, ?_, ?_, ?_, ?_, ?_, ?_, ?_, trivial⟩
          all_goals intro ρ W ⟨kc, kg, kf⟩ hF hs
          · obtain ⟨h0, -⟩ := hs
            replace h0 : ρ (.tmp 0) = .int .i64 (n) := h0
            go_simp
            exact ⟨Ext.refl _, rfl⟩
          · obtain ⟨h0, -⟩ := hs
            replace h0 : ρ (.tmp 4) = .pointer (some ⟨w.heap.size, 0, none⟩) := h0
            go_simp
            exact ⟨Ext.refl _, rfl⟩
          · obtain ⟨h0, -⟩ := hs
            replace h0 : ρ (.tmp 63) = .pointer (some ⟨w.heap.size, 0, none⟩) := h0
            have hc0 : W.cell? ⟨w.heap.size, 0, none⟩ = some (.int .i64 (a)) := hF.cell (by assumption)
            go_simp
            exact ⟨Ext.refl _, rfl⟩
          · obtain ⟨h0, -⟩ := hs
            replace h0 : ρ (.tmp 64) = .int .i64 (a) := h0
            have hw : IntKind.i64.wrap (a - 1) = a - 1 := wrap_id _ (by omega) (by omega)
            go_simp
            exact ⟨Ext.refl _, rfl⟩
          · obtain ⟨h0, -⟩ := hs
            replace h0 : ρ (.tmp 4) = .pointer (some ⟨w.heap.size, 0, none⟩) := h0
            go_simp
            exact ⟨Ext.refl _, rfl⟩
          · obtain ⟨h0, -⟩ := hs
            replace h0 : ρ (.tmp 66) = .pointer (some ⟨w.heap.size, 1, none⟩) := h0
            have hc0 : W.cell? ⟨w.heap.size, 1, none⟩ = some (.int .i64 (b)) := hF.cell (by assumption)
            go_simp
            exact ⟨Ext.refl _, rfl⟩
          · obtain ⟨h0, h1, -⟩ := hs
            replace h0 : ρ (.tmp 65) = .int .i64 (a - 1) := h0
            replace h1 : ρ (.tmp 67) = .int .i64 (b) := h1
            go_simp
            refine (HLO.out _).mono ?_; rintro e w' ⟨rfl, hx⟩; exact ⟨_, rfl, hx, rfl⟩
          · obtain ⟨h0, -⟩ := hs
            replace h0 : ρ (.tmp 5) = .pointer (some ⟨w.heap.size + 1, 0, none⟩) := h0
            have hc0 : W.cell? ⟨w.heap.size + 1, 0, none⟩ = some (.int .i64 (c)) := hF.cell (by assumption)
            have hc1 : W.cell? ⟨w.heap.size + 1, 1, none⟩ = some (.int .i64 (d)) := hF.cell (by assumption)
            go_simp
            exact ⟨Ext.refl _, rfl⟩
          · obtain ⟨h0, h1, h2, -⟩ := hs
            replace h0 : ρ (.tmp 62) = .int .i64 (n) := h0
            replace h1 : ρ (.tmp 68) = .agg #[.int .i64 x, .int .i64 y] := h1
            replace h2 : ρ (.tmp 69) = .agg #[.int .i64 (c), .int .i64 (d)] := h2
            go_simp
            refine (HI3.out _).mono ?_; rintro e w' ⟨rfl, hx⟩; exact ⟨_, rfl, hx, rfl⟩
          · obtain ⟨h0, -⟩ := hs
            replace h0 : ρ (.tmp 70) = .tuple #[.bool true, .int .i64 0] := h0
            go_simp
            exact ⟨Ext.refl _, rfl⟩
          · obtain ⟨h0, -⟩ := hs
            replace h0 : ρ (.tmp 61) = .tuple #[.bool true, .int .i64 0] := h0
            go_simp
            exact ⟨Ext.refl _, rfl⟩
          · obtain ⟨h0, -⟩ := hs
            replace h0 : ρ (.tmp 61) = .tuple #[.bool true, .int .i64 0] := h0
            go_simp
            exact ⟨Ext.refl _, rfl⟩
          · obtain ⟨h0, -⟩ := hs
            replace h0 : ρ (.tmp 71) = .bool (true) := h0
            go_simp
            exact ⟨Ext.refl _, rfl⟩
          · obtain ⟨h0, -⟩ := hs
            replace h0 : ρ (.tmp 72) = .int .i64 (0) := h0
            go_simp
            exact ⟨Ext.refl _, rfl⟩
        · intro fv W7 hF hs
          obtain ⟨-, -, -, -, -, -, -, -, -, -, -, -, h11, h12, -⟩ := hs
          replace h11 : fv 11 = .bool (true) := h11
          replace h12 : fv 12 = .int .i64 (0) := h12
          simp only [fin, List.filterMap]
          go_simp
          replace X := Lib.hid (X.out.trans hF)
          replace K0 := Lib.hid (K0.out.ext hF)
          replace K1 := Lib.hid (K1.out.ext hF)
          clear hF y0_0 y0_1 y1_0 y1_1
          have y0_0 : W7.cell? ⟨w.heap.size, 0, none⟩ = some (.int .i64 a) := K0.out.cell 0
          have y0_1 : W7.cell? ⟨w.heap.size, 1, none⟩ = some (.int .i64 b) := K0.out.cell 1
          have y1_0 : W7.cell? ⟨w.heap.size + 1, 0, none⟩ = some (.int .i64 c) := K1.out.cell 0
          have y1_1 : W7.cell? ⟨w.heap.size + 1, 1, none⟩ = some (.int .i64 d) := K1.out.cell 1
          by_cases hf : f = 0
          · obtain ⟨hm1, hm2, hm3⟩ := HM.out hf
            subst hf
            have HWI := Lib.hid (fun W => show Calls Try.prog 21 #[.int .i64 m, .int .i64 2, .int .i64 40] W fun e w' => e = .returned (.bool true) ∧ W = w' from by
              have := within_any m 2 40 W
              rw [show withinB m 2 40 = true by simp [withinB, hm1, hm2]] at this
              exact this)
            have hmn : m ≤ n := of_decide_eq_true hm3.symm
            clear hm3
            go_wp2_with (first
              | (go_at_call 64; refine (HS.out _).mono ?_; rintro e W9 ⟨rfl, hx⟩; replace X := Lib.hid (X.out.trans hx); clear hx y0_0 y0_1 y1_0 y1_1)
              | (go_at_call 21; refine (HWI.out _).mono ?_; rintro e W9 ⟨rfl, rfl⟩))
            go_ret
            exact ⟨by first | rfl | (simp; omega), X.out⟩
          · obtain ⟨hf1, hf2⟩ := HF.out hf
            subst hf1
            cases hf2

      · clear HLO HI3
        by_cases hf : f = 0
        · obtain ⟨hm1, hm2, hm3⟩ := HM.out hf
          subst hf
          have HWI := Lib.hid (fun W => show Calls Try.prog 21 #[.int .i64 m, .int .i64 2, .int .i64 40] W fun e w' => e = .returned (.bool true) ∧ W = w' from by
            have := within_any m 2 40 W
            rw [show withinB m 2 40 = true by simp [withinB, hm1, hm2]] at this
            exact this)
          have hmn : m ≤ n := of_decide_eq_true hm3.symm
          clear hm3
          go_wp2_with (first
            | (go_at_call 64; refine (HS.out _).mono ?_; rintro e W9 ⟨rfl, hx⟩; replace X := Lib.hid (X.out.trans hx); clear hx y0_0 y0_1 y1_0 y1_1)
            | (go_at_call 21; refine (HWI.out _).mono ?_; rintro e W9 ⟨rfl, rfl⟩))
          go_ret
          exact ⟨by first | rfl | (simp; omega), X.out⟩
        · obtain ⟨hf1, hf2⟩ := HF.out hf
          subst hf1
          cases hf2

  | false =>
    clear H2 H3
    rcases (show n < 40 ∨ ¬ n < 40 by omega) with h40 | h40
    · replace HI2 := Lib.hid (HI2.out h40)
      rcases (show 0 < a ∨ ¬ 0 < a by omega) with h0 | h0
      · replace HLO := Lib.hid (HLO.out h0)
        replace HI3 := Lib.hid (HI3.out h0)
        go_wp2_with (go_at_call 62; refine (HI2.out _).mono ?_; rintro e W6 ⟨rfl, hx⟩; replace X := Lib.hid (X.out.trans hx); replace K0 := Lib.hid (K0.out.ext hx); replace K1 := Lib.hid (K1.out.ext hx); clear hx y0_0 y0_1 y1_0 y1_1; refine Hid.out ?_)
        refine Lib.hid ?_
        have y0_0 : W6.cell? ⟨w.heap.size, 0, none⟩ = some (.int .i64 a) := K0.out.cell 0
        have y0_1 : W6.cell? ⟨w.heap.size, 1, none⟩ = some (.int .i64 b) := K0.out.cell 1
        have y1_0 : W6.cell? ⟨w.heap.size + 1, 0, none⟩ = some (.int .i64 c) := K1.out.cell 0
        have y1_1 : W6.cell? ⟨w.heap.size + 1, 1, none⟩ = some (.int .i64 d) := K1.out.cell 1
        go_upto_region 13 with (fail)
        refine wp_region_each [some 62, some 63, some 64, some 65, some 66, some 67, some 68, some 69, some 70, some 61, some 71, some 72, some 11, some 12] [[0], [4], [63], [64], [4], [66], [65, 67], [5], [62, 68, 69], [70], [61], [61], [71], [72]]
          [Is (.int .i64 (n)), Is (.pointer (some ⟨w.heap.size, 0, none⟩)), Is (.int .i64 (a)), Is (.int .i64 (a - 1)), Is (.pointer (some ⟨w.heap.size, 1, none⟩)), Is (.int .i64 (b)), Is (.agg #[.int .i64 x, .int .i64 y]), Is (.agg #[.int .i64 (c), .int .i64 (d)]), Is (.tuple #[.bool e3, .int .i64 0]), Is (.tuple #[.bool e3, .int .i64 0]), Is (.bool (e3)), Is (.int .i64 (0)), Is (.bool (e3)), Is (.int .i64 (0))]
          (by kernel_rfl) (by kernel_rfl) (by kernel_rfl) (by kernel_rfl) (by kernel_rfl) Ext (fun W => Ext W6 W)
          (fun W _ => Ext.refl W) (fun W W' h k => h.trans k) ?_ (Ext.drew _) ?_ ?_
        · repeat (refine ⟨fun _ _ _ _ k h => (by first | exact h | exact (IntsAt.ext h k)), ?_⟩)
          exact trivial
        · refine ⟨?_, ?_, ?_, ?_, ?_, ?_, ?_, ?_, ?_, ?_, ?_, ?_, ?_, ?_, trivial⟩
          all_goals intro ρ W ⟨kc, kg, kf⟩ hF hs
          · obtain ⟨h0, -⟩ := hs
            replace h0 : ρ (.tmp 0) = .int .i64 (n) := h0
            go_simp
            exact ⟨Ext.refl _, rfl⟩
          · obtain ⟨h0, -⟩ := hs
            replace h0 : ρ (.tmp 4) = .pointer (some ⟨w.heap.size, 0, none⟩) := h0
            go_simp
            exact ⟨Ext.refl _, rfl⟩
          · obtain ⟨h0, -⟩ := hs
            replace h0 : ρ (.tmp 63) = .pointer (some ⟨w.heap.size, 0, none⟩) := h0
            have hc0 : W.cell? ⟨w.heap.size, 0, none⟩ = some (.int .i64 (a)) := hF.cell (by assumption)
            go_simp
            exact ⟨Ext.refl _, rfl⟩
          · obtain ⟨h0, -⟩ := hs
            replace h0 : ρ (.tmp 64) = .int .i64 (a) := h0
            have hw : IntKind.i64.wrap (a - 1) = a - 1 := wrap_id _ (by omega) (by omega)
            go_simp
            exact ⟨Ext.refl _, rfl⟩
          · obtain ⟨h0, -⟩ := hs
            replace h0 : ρ (.tmp 4) = .pointer (some ⟨w.heap.size, 0, none⟩) := h0
            go_simp
            exact ⟨Ext.refl _, rfl⟩
          · obtain ⟨h0, -⟩ := hs
            replace h0 : ρ (.tmp 66) = .pointer (some ⟨w.heap.size, 1, none⟩) := h0
            have hc0 : W.cell? ⟨w.heap.size, 1, none⟩ = some (.int .i64 (b)) := hF.cell (by assumption)
            go_simp
            exact ⟨Ext.refl _, rfl⟩
          · obtain ⟨h0, h1, -⟩ := hs
            replace h0 : ρ (.tmp 65) = .int .i64 (a - 1) := h0
            replace h1 : ρ (.tmp 67) = .int .i64 (b) := h1
            go_simp
            refine (HLO.out _).mono ?_; rintro e w' ⟨rfl, hx⟩; exact ⟨_, rfl, hx, rfl⟩
          · obtain ⟨h0, -⟩ := hs
            replace h0 : ρ (.tmp 5) = .pointer (some ⟨w.heap.size + 1, 0, none⟩) := h0
            have hc0 : W.cell? ⟨w.heap.size + 1, 0, none⟩ = some (.int .i64 (c)) := hF.cell (by assumption)
            have hc1 : W.cell? ⟨w.heap.size + 1, 1, none⟩ = some (.int .i64 (d)) := hF.cell (by assumption)
            go_simp
            exact ⟨Ext.refl _, rfl⟩
          · obtain ⟨h0, h1, h2, -⟩ := hs
            replace h0 : ρ (.tmp 62) = .int .i64 (n) := h0
            replace h1 : ρ (.tmp 68) = .agg #[.int .i64 x, .int .i64 y] := h1
            replace h2 : ρ (.tmp 69) = .agg #[.int .i64 (c), .int .i64 (d)] := h2
            go_simp
            refine (HI3.out _).mono ?_; rintro e w' ⟨rfl, hx⟩; exact ⟨_, rfl, hx, rfl⟩
          · obtain ⟨h0, -⟩ := hs
            replace h0 : ρ (.tmp 70) = .tuple #[.bool e3, .int .i64 0] := h0
            go_simp
            exact ⟨Ext.refl _, rfl⟩
          · obtain ⟨h0, -⟩ := hs
            replace h0 : ρ (.tmp 61) = .tuple #[.bool e3, .int .i64 0] := h0
            go_simp
            exact ⟨Ext.refl _, rfl⟩
          · obtain ⟨h0, -⟩ := hs
            replace h0 : ρ (.tmp 61) = .tuple #[.bool e3, .int .i64 0] := h0
            go_simp
            exact ⟨Ext.refl _, rfl⟩
          · obtain ⟨h0, -⟩ := hs
            replace h0 : ρ (.tmp 71) = .bool (e3) := h0
            go_simp
            exact ⟨Ext.refl _, rfl⟩
          · obtain ⟨h0, -⟩ := hs
            replace h0 : ρ (.tmp 72) = .int .i64 (0) := h0
            go_simp
            exact ⟨Ext.refl _, rfl⟩
        · intro fv W7 hF hs
          obtain ⟨-, -, -, -, -, -, -, -, -, -, -, -, h11, h12, -⟩ := hs
          replace h11 : fv 11 = .bool (e3) := h11
          replace h12 : fv 12 = .int .i64 (0) := h12
          simp only [fin, List.filterMap]
          go_simp
          replace X := Lib.hid (X.out.trans hF)
          replace K0 := Lib.hid (K0.out.ext hF)
          replace K1 := Lib.hid (K1.out.ext hF)
          clear hF y0_0 y0_1 y1_0 y1_1
          have y0_0 : W7.cell? ⟨w.heap.size, 0, none⟩ = some (.int .i64 a) := K0.out.cell 0
          have y0_1 : W7.cell? ⟨w.heap.size, 1, none⟩ = some (.int .i64 b) := K0.out.cell 1
          have y1_0 : W7.cell? ⟨w.heap.size + 1, 0, none⟩ = some (.int .i64 c) := K1.out.cell 0
          have y1_1 : W7.cell? ⟨w.heap.size + 1, 1, none⟩ = some (.int .i64 d) := K1.out.cell 1
          by_cases hf : f = 0
          · obtain ⟨hm1, hm2, hm3⟩ := HM.out hf
            subst hf
            have HWI := Lib.hid (fun W => show Calls Try.prog 21 #[.int .i64 m, .int .i64 2, .int .i64 40] W fun e w' => e = .returned (.bool true) ∧ W = w' from by
              have := within_any m 2 40 W
              rw [show withinB m 2 40 = true by simp [withinB, hm1, hm2]] at this
              exact this)
            have hmn : ¬ m ≤ n := of_decide_eq_false hm3.symm
            clear hm3
            go_wp2_with (first
              | (go_at_call 64; refine (HS.out _).mono ?_; rintro e W9 ⟨rfl, hx⟩; replace X := Lib.hid (X.out.trans hx); clear hx y0_0 y0_1 y1_0 y1_1)
              | (go_at_call 21; refine (HWI.out _).mono ?_; rintro e W9 ⟨rfl, rfl⟩))
            go_ret
            exact ⟨by first | rfl | (simp; omega), X.out⟩
          · obtain ⟨hf1, hf2⟩ := HF.out hf
            subst hf1
            go_wp2_with (go_at_call 64; refine (HS.out _).mono ?_; rintro e W9 ⟨rfl, hx⟩; replace X := Lib.hid (X.out.trans hx); clear hx y0_0 y0_1 y1_0 y1_1)
            go_ret
            exact ⟨rfl, X.out⟩

      · clear HLO HI3
        go_wp2_with (go_at_call 62; refine (HI2.out _).mono ?_; rintro e W6 ⟨rfl, hx⟩; replace X := Lib.hid (X.out.trans hx); replace K0 := Lib.hid (K0.out.ext hx); replace K1 := Lib.hid (K1.out.ext hx); clear hx y0_0 y0_1 y1_0 y1_1; refine Hid.out ?_)
        refine Lib.hid ?_
        have y0_0 : W6.cell? ⟨w.heap.size, 0, none⟩ = some (.int .i64 a) := K0.out.cell 0
        have y0_1 : W6.cell? ⟨w.heap.size, 1, none⟩ = some (.int .i64 b) := K0.out.cell 1
        have y1_0 : W6.cell? ⟨w.heap.size + 1, 0, none⟩ = some (.int .i64 c) := K1.out.cell 0
        have y1_1 : W6.cell? ⟨w.heap.size + 1, 1, none⟩ = some (.int .i64 d) := K1.out.cell 1
        by_cases hf : f = 0
        · obtain ⟨hm1, hm2, hm3⟩ := HM.out hf
          subst hf
          have HWI := Lib.hid (fun W => show Calls Try.prog 21 #[.int .i64 m, .int .i64 2, .int .i64 40] W fun e w' => e = .returned (.bool true) ∧ W = w' from by
            have := within_any m 2 40 W
            rw [show withinB m 2 40 = true by simp [withinB, hm1, hm2]] at this
            exact this)
          have hmn : ¬ m ≤ n := of_decide_eq_false hm3.symm
          clear hm3
          go_wp2_with (first
            | (go_at_call 64; refine (HS.out _).mono ?_; rintro e W9 ⟨rfl, hx⟩; replace X := Lib.hid (X.out.trans hx); clear hx y0_0 y0_1 y1_0 y1_1)
            | (go_at_call 21; refine (HWI.out _).mono ?_; rintro e W9 ⟨rfl, rfl⟩))
          go_ret
          exact ⟨by first | rfl | (simp; omega), X.out⟩
        · obtain ⟨hf1, hf2⟩ := HF.out hf
          subst hf1
          go_wp2_with (go_at_call 64; refine (HS.out _).mono ?_; rintro e W9 ⟨rfl, hx⟩; replace X := Lib.hid (X.out.trans hx); clear hx y0_0 y0_1 y1_0 y1_1)
          go_ret
          exact ⟨rfl, X.out⟩

    · clear HI2
      rcases (show 0 < a ∨ ¬ 0 < a by omega) with h0 | h0
      · replace HLO := Lib.hid (HLO.out h0)
        replace HI3 := Lib.hid (HI3.out h0)
        go_upto_region 13 with (fail)
        refine wp_region_each [some 62, some 63, some 64, some 65, some 66, some 67, some 68, some 69, some 70, some 61, some 71, some 72, some 11, some 12] [[0], [4], [63], [64], [4], [66], [65, 67], [5], [62, 68, 69], [70], [61], [61], [71], [72]]
          [Is (.int .i64 (n)), Is (.pointer (some ⟨w.heap.size, 0, none⟩)), Is (.int .i64 (a)), Is (.int .i64 (a - 1)), Is (.pointer (some ⟨w.heap.size, 1, none⟩)), Is (.int .i64 (b)), Is (.agg #[.int .i64 x, .int .i64 y]), Is (.agg #[.int .i64 (c), .int .i64 (d)]), Is (.tuple #[.bool e3, .int .i64 0]), Is (.tuple #[.bool e3, .int .i64 0]), Is (.bool (e3)), Is (.int .i64 (0)), Is (.bool (e3)), Is (.int .i64 (0))]
          (by kernel_rfl) (by kernel_rfl) (by kernel_rfl) (by kernel_rfl) (by kernel_rfl) Ext (fun W => Ext W5 W)
          (fun W _ => Ext.refl W) (fun W W' h k => h.trans k) ?_ (Ext.drew _) ?_ ?_
        · repeat (refine ⟨fun _ _ _ _ k h => (by first | exact h | exact (IntsAt.ext h k)), ?_⟩)
          exact trivial
        · refine ⟨?_, ?_, ?_, ?_, ?_, ?_, ?_, ?_, ?_, ?_, ?_, ?_, ?_, ?_, trivial⟩
          all_goals intro ρ W ⟨kc, kg, kf⟩ hF hs
          · obtain ⟨h0, -⟩ := hs
            replace h0 : ρ (.tmp 0) = .int .i64 (n) := h0
            go_simp
            exact ⟨Ext.refl _, rfl⟩
          · obtain ⟨h0, -⟩ := hs
            replace h0 : ρ (.tmp 4) = .pointer (some ⟨w.heap.size, 0, none⟩) := h0
            go_simp
            exact ⟨Ext.refl _, rfl⟩
          · obtain ⟨h0, -⟩ := hs
            replace h0 : ρ (.tmp 63) = .pointer (some ⟨w.heap.size, 0, none⟩) := h0
            have hc0 : W.cell? ⟨w.heap.size, 0, none⟩ = some (.int .i64 (a)) := hF.cell (by assumption)
            go_simp
            exact ⟨Ext.refl _, rfl⟩
          · obtain ⟨h0, -⟩ := hs
            replace h0 : ρ (.tmp 64) = .int .i64 (a) := h0
            have hw : IntKind.i64.wrap (a - 1) = a - 1 := wrap_id _ (by omega) (by omega)
            go_simp
            exact ⟨Ext.refl _, rfl⟩
          · obtain ⟨h0, -⟩ := hs
            replace h0 : ρ (.tmp 4) = .pointer (some ⟨w.heap.size, 0, none⟩) := h0
            go_simp
            exact ⟨Ext.refl _, rfl⟩
          · obtain ⟨h0, -⟩ := hs
            replace h0 : ρ (.tmp 66) = .pointer (some ⟨w.heap.size, 1, none⟩) := h0
            have hc0 : W.cell? ⟨w.heap.size, 1, none⟩ = some (.int .i64 (b)) := hF.cell (by assumption)
            go_simp
            exact ⟨Ext.refl _, rfl⟩
          · obtain ⟨h0, h1, -⟩ := hs
            replace h0 : ρ (.tmp 65) = .int .i64 (a - 1) := h0
            replace h1 : ρ (.tmp 67) = .int .i64 (b) := h1
            go_simp
            refine (HLO.out _).mono ?_; rintro e w' ⟨rfl, hx⟩; exact ⟨_, rfl, hx, rfl⟩
          · obtain ⟨h0, -⟩ := hs
            replace h0 : ρ (.tmp 5) = .pointer (some ⟨w.heap.size + 1, 0, none⟩) := h0
            have hc0 : W.cell? ⟨w.heap.size + 1, 0, none⟩ = some (.int .i64 (c)) := hF.cell (by assumption)
            have hc1 : W.cell? ⟨w.heap.size + 1, 1, none⟩ = some (.int .i64 (d)) := hF.cell (by assumption)
            go_simp
            exact ⟨Ext.refl _, rfl⟩
          · obtain ⟨h0, h1, h2, -⟩ := hs
            replace h0 : ρ (.tmp 62) = .int .i64 (n) := h0
            replace h1 : ρ (.tmp 68) = .agg #[.int .i64 x, .int .i64 y] := h1
            replace h2 : ρ (.tmp 69) = .agg #[.int .i64 (c), .int .i64 (d)] := h2
            go_simp
            refine (HI3.out _).mono ?_; rintro e w' ⟨rfl, hx⟩; exact ⟨_, rfl, hx, rfl⟩
          · obtain ⟨h0, -⟩ := hs
            replace h0 : ρ (.tmp 70) = .tuple #[.bool e3, .int .i64 0] := h0
            go_simp
            exact ⟨Ext.refl _, rfl⟩
          · obtain ⟨h0, -⟩ := hs
            replace h0 : ρ (.tmp 61) = .tuple #[.bool e3, .int .i64 0] := h0
            go_simp
            exact ⟨Ext.refl _, rfl⟩
          · obtain ⟨h0, -⟩ := hs
            replace h0 : ρ (.tmp 61) = .tuple #[.bool e3, .int .i64 0] := h0
            go_simp
            exact ⟨Ext.refl _, rfl⟩
          · obtain ⟨h0, -⟩ := hs
            replace h0 : ρ (.tmp 71) = .bool (e3) := h0
            go_simp
            exact ⟨Ext.refl _, rfl⟩
          · obtain ⟨h0, -⟩ := hs
            replace h0 : ρ (.tmp 72) = .int .i64 (0) := h0
            go_simp
            exact ⟨Ext.refl _, rfl⟩
        · intro fv W7 hF hs
          obtain ⟨-, -, -, -, -, -, -, -, -, -, -, -, h11, h12, -⟩ := hs
          replace h11 : fv 11 = .bool (e3) := h11
          replace h12 : fv 12 = .int .i64 (0) := h12
          simp only [fin, List.filterMap]
          go_simp
          replace X := Lib.hid (X.out.trans hF)
          replace K0 := Lib.hid (K0.out.ext hF)
          replace K1 := Lib.hid (K1.out.ext hF)
          clear hF y0_0 y0_1 y1_0 y1_1
          have y0_0 : W7.cell? ⟨w.heap.size, 0, none⟩ = some (.int .i64 a) := K0.out.cell 0
          have y0_1 : W7.cell? ⟨w.heap.size, 1, none⟩ = some (.int .i64 b) := K0.out.cell 1
          have y1_0 : W7.cell? ⟨w.heap.size + 1, 0, none⟩ = some (.int .i64 c) := K1.out.cell 0
          have y1_1 : W7.cell? ⟨w.heap.size + 1, 1, none⟩ = some (.int .i64 d) := K1.out.cell 1
          by_cases hf : f = 0
          · obtain ⟨hm1, hm2, hm3⟩ := HM.out hf
            subst hf
            have hmn : ¬ m ≤ n := of_decide_eq_false hm3.symm
            omega
          · obtain ⟨hf1, hf2⟩ := HF.out hf
            subst hf1
            go_wp2_with (go_at_call 64; refine (HS.out _).mono ?_; rintro e W9 ⟨rfl, hx⟩; replace X := Lib.hid (X.out.trans hx); clear hx y0_0 y0_1 y1_0 y1_1)
            go_ret
            exact ⟨rfl, X.out⟩

      · clear HLO HI3
        by_cases hf : f = 0
        · obtain ⟨hm1, hm2, hm3⟩ := HM.out hf
          subst hf
          have hmn : ¬ m ≤ n := of_decide_eq_false hm3.symm
          omega
        · obtain ⟨hf1, hf2⟩ := HF.out hf
          subst hf1
          go_wp2_with (go_at_call 64; refine (HS.out _).mono ?_; rintro e W9 ⟨rfl, hx⟩; replace X := Lib.hid (X.out.trans hx); clear hx y0_0 y0_1 y1_0 y1_1)
          go_ret
          exact ⟨rfl, X.out⟩


end Go.Proofs.Ytjdilmmpdlcimaa
