/- The reference's reduced quotient. -/
import Derived.Test.YtpaoeghdfeekoaaK16
namespace Go.Proofs.Ytpaoeghdfeekoaa
open Go.RowKit Go.Shelf Go.Mem Go.RegInv
attribute [local go_sem] RelUpon_value RelUpon_skip RelUpon_enter BigFrame.eval_const BigFrame.eval_global BigFrame.eval_func

theorem gcd_bigs {a b : Int} (ha : Big a) (hb : Big b) : Big ((Nat.gcd a.natAbs b.natAbs : Nat) : Int) := by
  unfold Big at *
  by_cases h : b = 0
  · subst h; simp; omega
  · have := Nat.le_of_dvd (by omega) (Nat.gcd_dvd_right a.natAbs b.natAbs)
    omega

set_option maxRecDepth 100000 in
set_option maxHeartbeats 4000000 in
theorem refRatio_any (a b c d : Int) (ha : Big a) (hb : Big b) (hc : Big c) (hd : Big d) (hne : c ≠ 0 ∨ d ≠ 0) (hn0 : a ≠ 0 ∨ b ≠ 0) (w : World) :
    Calls Try.prog 112 #[.agg #[.int .i64 a, .int .i64 b], .agg #[.int .i64 c, .int .i64 d]] w fun e w' => e = .returned (.agg (redV ⟨a, b⟩ ⟨c, d⟩)) ∧ Ext w w' := by
  have HG1 := Lib.hid (fun W => gcd_any a b ha hb W)
  have HG2 := Lib.hid (fun W => gcd_any c d hc hd W)
  have HG3 := Lib.hid (fun W => gcd_any _ _ (gcd_bigs ha hb) (gcd_bigs hc hd) W)
  have hgg : Nat.gcd ((Nat.gcd a.natAbs b.natAbs : Nat) : Int).natAbs ((Nat.gcd c.natAbs d.natAbs : Nat) : Int).natAbs = gcdL [a, b, c, d] := by
    simp only [Int.natAbs_natCast, gcdL, List.foldl_cons, List.foldl_nil, Nat.gcd_zero_left]
    rw [Nat.gcd_assoc (Nat.gcd a.natAbs b.natAbs)]
  rw [hgg] at HG3
  have hwa := Lib.hid (fun m => wrap_tdiv (m := m) ha)
  have hwb := Lib.hid (fun m => wrap_tdiv (m := m) hb)
  have hwc := Lib.hid (fun m => wrap_tdiv (m := m) hc)
  have hwd := Lib.hid (fun m => wrap_tdiv (m := m) hd)
  have hg1 : 1 ≤ (gcdL [a, b, c, d] : Int) := by have := gcdL4 a b c d hne; omega
  have hg2 := gcdL4_le a b c d hc hd hne
  have HR := Lib.hid (show redN a b c d = if c < 0 ∨ (c = 0 ∧ d < 0) then -(gcdL [a, b, c, d] : Int) else (gcdL [a, b, c, d] : Int) from rfl)
  show Calls Try.prog 112 #[.agg #[.int .i64 a, .int .i64 b], .agg #[.int .i64 c, .int .i64 d]] w fun e w' => e = .returned (.agg #[.int .i64 (a.tdiv (redN a b c d)), .int .i64 (b.tdiv (redN a b c d)), .int .i64 (c.tdiv (redN a b c d)), .int .i64 (d.tdiv (redN a b c d))]) ∧ Ext w w'
  clear ha hb hc hd hgg
  generalize redN a b c d = m at HR ⊢
  generalize gcdL [a, b, c, d] = g at HG3 HR hg1 hg2
  generalize Nat.gcd a.natAbs b.natAbs = g1 at HG1 HG3
  generalize Nat.gcd c.natAbs d.natAbs = g2 at HG2 HG3
  have hcs : (c < 0 ∧ m = -(g : Int)) ∨ (decide (c < 0) = false ∧ (c == 0) = true ∧ d < 0 ∧ m = -(g : Int)) ∨ (decide (c < 0) = false ∧ (c == 0) = true ∧ decide (d < 0) = false ∧ m = (g : Int)) ∨ (decide (c < 0) = false ∧ (c == 0) = false ∧ m = (g : Int)) := by
    simp only [decide_eq_false_iff_not, beq_iff_eq, beq_eq_false_iff_ne]
    by_cases h1 : c < 0
    · exact .inl ⟨h1, by rw [HR.out, if_pos (.inl h1)]⟩
    · by_cases h2 : c = 0
      · by_cases h3 : d < 0
        · exact .inr (.inl ⟨h1, h2, h3, by rw [HR.out, if_pos (.inr ⟨h2, h3⟩)]⟩)
        · exact .inr (.inr (.inl ⟨h1, h2, h3, by rw [HR.out, if_neg (by omega)]⟩))
      · exact .inr (.inr (.inr ⟨h1, h2, by rw [HR.out, if_neg (by omega)]⟩))
  have hz : (a == 0) = false ∨ ((a == 0) = true ∧ (b == 0) = false) := by
    by_cases h : a = 0
    · exact .inr ⟨by simp [h], by rcases hn0 with h2 | h2 <;> simp_all⟩
    · exact .inl (by simp [h])
  clear HR hne hn0
  have e0 : Ext w (((w.alloc (.cells #[.int .i64 a, .int .i64 b] 65)).alloc (.cells #[.int .i64 c, .int .i64 d] 65)).alloc (.cells #[.int .i64 0, .int .i64 0, .int .i64 0, .int .i64 0] 84)) := (Ext.alloc _ _).trans ((Ext.alloc _ _).trans (Ext.alloc _ _))
  have z0 : (((w.alloc (.cells #[.int .i64 a, .int .i64 b] 65)).alloc (.cells #[.int .i64 c, .int .i64 d] 65)).alloc (.cells #[.int .i64 0, .int .i64 0, .int .i64 0, .int .i64 0] 84)).cell? ⟨w.heap.size, 0, none⟩ = some (.int .i64 a) := by go_simp
  have z1 : (((w.alloc (.cells #[.int .i64 a, .int .i64 b] 65)).alloc (.cells #[.int .i64 c, .int .i64 d] 65)).alloc (.cells #[.int .i64 0, .int .i64 0, .int .i64 0, .int .i64 0] 84)).cell? ⟨w.heap.size, 1, none⟩ = some (.int .i64 b) := by go_simp
  have z2 : (((w.alloc (.cells #[.int .i64 a, .int .i64 b] 65)).alloc (.cells #[.int .i64 c, .int .i64 d] 65)).alloc (.cells #[.int .i64 0, .int .i64 0, .int .i64 0, .int .i64 0] 84)).cell? ⟨w.heap.size + 1, 0, none⟩ = some (.int .i64 c) := by go_simp
  have z3 : (((w.alloc (.cells #[.int .i64 a, .int .i64 b] 65)).alloc (.cells #[.int .i64 c, .int .i64 d] 65)).alloc (.cells #[.int .i64 0, .int .i64 0, .int .i64 0, .int .i64 0] 84)).cell? ⟨w.heap.size + 1, 1, none⟩ = some (.int .i64 d) := by go_simp
  have b0 : Blk (((w.alloc (.cells #[.int .i64 a, .int .i64 b] 65)).alloc (.cells #[.int .i64 c, .int .i64 d] 65)).alloc (.cells #[.int .i64 0, .int .i64 0, .int .i64 0, .int .i64 0] 84)) (w.heap.size + 1 + 1) 84 #[.int .i64 0, .int .i64 0, .int .i64 0, .int .i64 0] := Blk.newAt _ _ _ (by simp)
  rcases hz with h1 | ⟨h1, h2⟩
  all_goals
    go_enter Try.func112, Try.ntmps112
    go_wp2
    generalize (((w.alloc (.cells #[.int .i64 a, .int .i64 b] 65)).alloc (.cells #[.int .i64 c, .int .i64 d] 65)).alloc (.cells #[.int .i64 0, .int .i64 0, .int .i64 0, .int .i64 0] 84)) = W0 at *
    refine wp_region_each [some 11, some 12, some 13, some 14, some 15, some 16, some 17, some 18, some 19, some 20, some 21, some 5] [[2], [11], [2], [13], [12, 14], [3], [16], [3], [18], [17, 19], [15, 20], [21]]
      [Is (.pointer (some ⟨w.heap.size, 0, none⟩)), Is (.int .i64 (a)), Is (.pointer (some ⟨w.heap.size, 1, none⟩)), Is (.int .i64 (b)), Is (.int .i64 ((g1 : Int))), Is (.pointer (some ⟨w.heap.size + 1, 0, none⟩)), Is (.int .i64 (c)), Is (.pointer (some ⟨w.heap.size + 1, 1, none⟩)), Is (.int .i64 (d)), Is (.int .i64 ((g2 : Int))), Is (.int .i64 ((g : Int))), Is (.int .i64 ((g : Int)))]
      (by kernel_rfl) (by kernel_rfl) (by kernel_rfl) (by kernel_rfl) (by kernel_rfl) Ext (fun W => Ext W0 W)
      (fun W _ => Ext.refl W) (fun W W' h k => h.trans k) ?_ (Ext.drew _) ?_ ?_
    · repeat (refine ⟨fun _ _ _ _ k h => (by first | exact h | exact (by first | exact LadV.ext h k | exact DrvV.ext h k | exact TupV.ext (fun _ _ _ h k => by first | exact Opt.ext (fun _ _ _ h k => by first | exact IntsAt.ext h k | exact GsV.ext h k) h k | exact IntsAt.ext h k) h k | exact Opt.ext (fun _ _ _ h k => by first | exact IntsAt.ext h k | exact GsV.ext h k) h k | exact IntsAt.ext h k)), ?_⟩)
      exact trivial
    · refine ⟨?_, ?_, ?_, ?_, ?_, ?_, ?_, ?_, ?_, ?_, ?_, ?_, trivial⟩
      all_goals intro ρ W ⟨kc, kg, kf⟩ hF hs
      · obtain ⟨h0, -⟩ := hs
        replace h0 : ρ (.tmp 2) = .pointer (some ⟨w.heap.size, 0, none⟩) := h0
        go_simp
        exact ⟨Ext.refl _, rfl⟩
      · obtain ⟨h0, -⟩ := hs
        replace h0 : ρ (.tmp 11) = .pointer (some ⟨w.heap.size, 0, none⟩) := h0
        have hc0 : W.cell? ⟨w.heap.size, 0, none⟩ = some (.int .i64 (a)) := hF.cell (by assumption)
        go_simp
        exact ⟨Ext.refl _, rfl⟩
      · obtain ⟨h0, -⟩ := hs
        replace h0 : ρ (.tmp 2) = .pointer (some ⟨w.heap.size, 0, none⟩) := h0
        go_simp
        exact ⟨Ext.refl _, rfl⟩
      · obtain ⟨h0, -⟩ := hs
        replace h0 : ρ (.tmp 13) = .pointer (some ⟨w.heap.size, 1, none⟩) := h0
        have hc0 : W.cell? ⟨w.heap.size, 1, none⟩ = some (.int .i64 (b)) := hF.cell (by assumption)
        go_simp
        exact ⟨Ext.refl _, rfl⟩
      · obtain ⟨h0, h1, -⟩ := hs
        replace h0 : ρ (.tmp 12) = .int .i64 (a) := h0
        replace h1 : ρ (.tmp 14) = .int .i64 (b) := h1
        go_simp
        exact (HG1.out W).mono fun _ _ ⟨h1, h2⟩ => ⟨_, h1, h2, rfl⟩
      · obtain ⟨h0, -⟩ := hs
        replace h0 : ρ (.tmp 3) = .pointer (some ⟨w.heap.size + 1, 0, none⟩) := h0
        go_simp
        exact ⟨Ext.refl _, rfl⟩
      · obtain ⟨h0, -⟩ := hs
        replace h0 : ρ (.tmp 16) = .pointer (some ⟨w.heap.size + 1, 0, none⟩) := h0
        have hc0 : W.cell? ⟨w.heap.size + 1, 0, none⟩ = some (.int .i64 (c)) := hF.cell (by assumption)
        go_simp
        exact ⟨Ext.refl _, rfl⟩
      · obtain ⟨h0, -⟩ := hs
        replace h0 : ρ (.tmp 3) = .pointer (some ⟨w.heap.size + 1, 0, none⟩) := h0
        go_simp
        exact ⟨Ext.refl _, rfl⟩
      · obtain ⟨h0, -⟩ := hs
        replace h0 : ρ (.tmp 18) = .pointer (some ⟨w.heap.size + 1, 1, none⟩) := h0
        have hc0 : W.cell? ⟨w.heap.size + 1, 1, none⟩ = some (.int .i64 (d)) := hF.cell (by assumption)
        go_simp
        exact ⟨Ext.refl _, rfl⟩
      · obtain ⟨h0, h1, -⟩ := hs
        replace h0 : ρ (.tmp 17) = .int .i64 (c) := h0
        replace h1 : ρ (.tmp 19) = .int .i64 (d) := h1
        go_simp
        exact (HG2.out W).mono fun _ _ ⟨h1, h2⟩ => ⟨_, h1, h2, rfl⟩
      · obtain ⟨h0, h1, -⟩ := hs
        replace h0 : ρ (.tmp 15) = .int .i64 ((g1 : Int)) := h0
        replace h1 : ρ (.tmp 20) = .int .i64 ((g2 : Int)) := h1
        go_simp
        exact (HG3.out W).mono fun _ _ ⟨h1, h2⟩ => ⟨_, h1, h2, rfl⟩
      · obtain ⟨h0, -⟩ := hs
        replace h0 : ρ (.tmp 21) = .int .i64 ((g : Int)) := h0
        go_simp
        exact ⟨Ext.refl _, rfl⟩
    · intro fv W1 hF hs
      obtain ⟨-, -, -, -, -, -, -, -, -, -, -, h5, -⟩ := hs
      replace h5 : fv 5 = .int .i64 ((g : Int)) := h5
      simp only [fin, List.filterMap]
      go_simp
      have X1 := Lib.hid (e0.trans hF)
      have B1 := Lib.hid (b0.ext hF)
      replace z0 : W1.cell? ⟨w.heap.size, 0, none⟩ = some (.int .i64 a) := hF.cell z0
      replace z1 : W1.cell? ⟨w.heap.size, 1, none⟩ = some (.int .i64 b) := hF.cell z1
      replace z2 : W1.cell? ⟨w.heap.size + 1, 0, none⟩ = some (.int .i64 c) := hF.cell z2
      replace z3 : W1.cell? ⟨w.heap.size + 1, 1, none⟩ = some (.int .i64 d) := hF.cell z3
      clear hF e0 b0 h5 HG1 HG2 HG3
      rcases hcs with ⟨d1, hm⟩ | ⟨d1, d2, d3, hm⟩ | ⟨d1, d2, d3, hm⟩ | ⟨d1, d2, hm⟩
      · have HM := Lib.hid hm
        have HMG := Lib.hid (show -(g : Int) = m from hm.symm)
        clear hm
        have hm0 : ¬ m = 0 := by have := HM.out; omega
        have hwa1 := hwa.out m
        have hwb1 := hwb.out m
        have hwc1 := hwc.out m
        have hwd1 := hwd.out m
        go_wp2
        rw [HMG.out]
        clear hg1 hg2 d1
        refine wp_region_part 19 [some 37, some 38, some 39, some 40, some 41, some 42, some 43, some 44, some 45, some 46, some 47, some 48, some 49, some 50, some 51, some 52, some 53, some 54, some 55] [[2], [37], [5], [38, 39], [2], [41], [5], [42, 43], [40, 44], [3], [46], [5], [47, 48], [3], [50], [5], [51, 52], [49, 53], [45, 54]]
          [Is (.pointer (some ⟨w.heap.size, 0, none⟩)), Is (.int .i64 (a)), Is (.int .i64 (m)), Is (.int .i64 (a.tdiv m)), Is (.pointer (some ⟨w.heap.size, 1, none⟩)), Is (.int .i64 (b)), Is (.int .i64 (m)), Is (.int .i64 (b.tdiv m)), Is (.agg #[.int .i64 (a.tdiv m), .int .i64 (b.tdiv m)]), Is (.pointer (some ⟨w.heap.size + 1, 0, none⟩)), Is (.int .i64 (c)), Is (.int .i64 (m)), Is (.int .i64 (c.tdiv m)), Is (.pointer (some ⟨w.heap.size + 1, 1, none⟩)), Is (.int .i64 (d)), Is (.int .i64 (m)), Is (.int .i64 (d.tdiv m)), Is (.agg #[.int .i64 (c.tdiv m), .int .i64 (d.tdiv m)]), Is (.agg #[.int .i64 (a.tdiv m), .int .i64 (b.tdiv m), .int .i64 (c.tdiv m), .int .i64 (d.tdiv m)])]
          (by kernel_rfl) (by kernel_rfl) (by kernel_rfl) (by kernel_rfl) (by kernel_rfl) (by kernel_rfl) (by kernel_rfl) Ext (fun W => Ext W1 W)
          (fun W _ => Ext.refl W) (fun W W' h k => h.trans k) ?_ (Ext.drew _) ?_ ?_
        · repeat (refine ⟨fun _ _ _ _ k h => (by first | exact h | exact (by first | exact LadV.ext h k | exact DrvV.ext h k | exact TupV.ext (fun _ _ _ h k => by first | exact Opt.ext (fun _ _ _ h k => by first | exact IntsAt.ext h k | exact GsV.ext h k) h k | exact IntsAt.ext h k) h k | exact Opt.ext (fun _ _ _ h k => by first | exact IntsAt.ext h k | exact GsV.ext h k) h k | exact IntsAt.ext h k)), ?_⟩)
          exact trivial
        · refine ⟨?_, ?_, ?_, ?_, ?_, ?_, ?_, ?_, ?_, ?_, ?_, ?_, ?_, ?_, ?_, ?_, ?_, ?_, ?_, trivial⟩
          all_goals intro ρ W ⟨kc, kg, kf⟩ hF hs
          · obtain ⟨h0, -⟩ := hs
            replace h0 : ρ (.tmp 2) = .pointer (some ⟨w.heap.size, 0, none⟩) := h0
            go_simp
            exact ⟨Ext.refl _, rfl⟩
          · obtain ⟨h0, -⟩ := hs
            replace h0 : ρ (.tmp 37) = .pointer (some ⟨w.heap.size, 0, none⟩) := h0
            have hc0 : W.cell? ⟨w.heap.size, 0, none⟩ = some (.int .i64 (a)) := hF.cell (by assumption)
            go_simp
            exact ⟨Ext.refl _, rfl⟩
          · obtain ⟨h0, -⟩ := hs
            replace h0 : ρ (.tmp 5) = .int .i64 (m) := h0
            go_simp
            exact ⟨Ext.refl _, rfl⟩
          · obtain ⟨h0, h1, -⟩ := hs
            replace h0 : ρ (.tmp 38) = .int .i64 (a) := h0
            replace h1 : ρ (.tmp 39) = .int .i64 (m) := h1
            have hq : IntKind.i64.wrap (a.tdiv m) = a.tdiv m := hwa1
            have hm2 : ¬ m = 0 := hm0
            go_simp
            exact ⟨Ext.refl _, rfl⟩
          · obtain ⟨h0, -⟩ := hs
            replace h0 : ρ (.tmp 2) = .pointer (some ⟨w.heap.size, 0, none⟩) := h0
            go_simp
            exact ⟨Ext.refl _, rfl⟩
          · obtain ⟨h0, -⟩ := hs
            replace h0 : ρ (.tmp 41) = .pointer (some ⟨w.heap.size, 1, none⟩) := h0
            have hc0 : W.cell? ⟨w.heap.size, 1, none⟩ = some (.int .i64 (b)) := hF.cell (by assumption)
            go_simp
            exact ⟨Ext.refl _, rfl⟩
          · obtain ⟨h0, -⟩ := hs
            replace h0 : ρ (.tmp 5) = .int .i64 (m) := h0
            go_simp
            exact ⟨Ext.refl _, rfl⟩
          · obtain ⟨h0, h1, -⟩ := hs
            replace h0 : ρ (.tmp 42) = .int .i64 (b) := h0
            replace h1 : ρ (.tmp 43) = .int .i64 (m) := h1
            have hq : IntKind.i64.wrap (b.tdiv m) = b.tdiv m := hwb1
            have hm2 : ¬ m = 0 := hm0
            go_simp
            exact ⟨Ext.refl _, rfl⟩
          · obtain ⟨h0, h1, -⟩ := hs
            replace h0 : ρ (.tmp 40) = .int .i64 (a.tdiv m) := h0
            replace h1 : ρ (.tmp 44) = .int .i64 (b.tdiv m) := h1
            go_simp
            exact ⟨Ext.refl _, rfl⟩
          · obtain ⟨h0, -⟩ := hs
            replace h0 : ρ (.tmp 3) = .pointer (some ⟨w.heap.size + 1, 0, none⟩) := h0
            go_simp
            exact ⟨Ext.refl _, rfl⟩
          · obtain ⟨h0, -⟩ := hs
            replace h0 : ρ (.tmp 46) = .pointer (some ⟨w.heap.size + 1, 0, none⟩) := h0
            have hc0 : W.cell? ⟨w.heap.size + 1, 0, none⟩ = some (.int .i64 (c)) := hF.cell (by assumption)
            go_simp
            exact ⟨Ext.refl _, rfl⟩
          · obtain ⟨h0, -⟩ := hs
            replace h0 : ρ (.tmp 5) = .int .i64 (m) := h0
            go_simp
            exact ⟨Ext.refl _, rfl⟩
          · obtain ⟨h0, h1, -⟩ := hs
            replace h0 : ρ (.tmp 47) = .int .i64 (c) := h0
            replace h1 : ρ (.tmp 48) = .int .i64 (m) := h1
            have hq : IntKind.i64.wrap (c.tdiv m) = c.tdiv m := hwc1
            have hm2 : ¬ m = 0 := hm0
            go_simp
            exact ⟨Ext.refl _, rfl⟩
          · obtain ⟨h0, -⟩ := hs
            replace h0 : ρ (.tmp 3) = .pointer (some ⟨w.heap.size + 1, 0, none⟩) := h0
            go_simp
            exact ⟨Ext.refl _, rfl⟩
          · obtain ⟨h0, -⟩ := hs
            replace h0 : ρ (.tmp 50) = .pointer (some ⟨w.heap.size + 1, 1, none⟩) := h0
            have hc0 : W.cell? ⟨w.heap.size + 1, 1, none⟩ = some (.int .i64 (d)) := hF.cell (by assumption)
            go_simp
            exact ⟨Ext.refl _, rfl⟩
          · obtain ⟨h0, -⟩ := hs
            replace h0 : ρ (.tmp 5) = .int .i64 (m) := h0
            go_simp
            exact ⟨Ext.refl _, rfl⟩
          · obtain ⟨h0, h1, -⟩ := hs
            replace h0 : ρ (.tmp 51) = .int .i64 (d) := h0
            replace h1 : ρ (.tmp 52) = .int .i64 (m) := h1
            have hq : IntKind.i64.wrap (d.tdiv m) = d.tdiv m := hwd1
            have hm2 : ¬ m = 0 := hm0
            go_simp
            exact ⟨Ext.refl _, rfl⟩
          · obtain ⟨h0, h1, -⟩ := hs
            replace h0 : ρ (.tmp 49) = .int .i64 (c.tdiv m) := h0
            replace h1 : ρ (.tmp 53) = .int .i64 (d.tdiv m) := h1
            go_simp
            exact ⟨Ext.refl _, rfl⟩
          · obtain ⟨h0, h1, -⟩ := hs
            replace h0 : ρ (.tmp 45) = .agg #[.int .i64 (a.tdiv m), .int .i64 (b.tdiv m)] := h0
            replace h1 : ρ (.tmp 54) = .agg #[.int .i64 (c.tdiv m), .int .i64 (d.tdiv m)] := h1
            go_simp
            exact ⟨Ext.refl _, rfl⟩
        · intro fv W2 hF hs
          obtain ⟨-, -, -, -, -, -, -, -, -, -, -, -, -, -, -, -, -, -, h55, -⟩ := hs
          replace h55 : fv 55 = .agg #[.int .i64 (a.tdiv m), .int .i64 (b.tdiv m), .int .i64 (c.tdiv m), .int .i64 (d.tdiv m)] := h55
          simp only [fin, List.filterMap]
          go_simp
          have B2 := B1.out.ext hF
          have f0 := B2.free 0
          have f1 := B2.free 1
          have f2 := B2.free 2
          have f3 := B2.free 3
          have c0 := B2.cell 0
          have c1 := B2.cell 1
          have c2 := B2.cell 2
          have c3 := B2.cell 3
          simp only [List.getElem?_toArray, List.getElem?_cons_zero, List.getElem?_cons_succ] at c0 c1 c2 c3
          have X2 := Lib.hid (X1.out.trans hF)
          clear hF
          go_wp2
          exact bodyPost_ret (v := .agg #[.int .i64 (a.tdiv m), .int .i64 (b.tdiv m), .int .i64 (c.tdiv m), .int .i64 (d.tdiv m)]) (by simp [results, Try.f112, go_sem, c0, c1, c2, c3]) rfl ⟨rfl, Ext.set (Ext.set (Ext.set (Ext.set X2.out (by dsimp only; omega) _) (by dsimp only; omega) _) (by dsimp only; omega) _) (by dsimp only; omega) _⟩
      · have HM := Lib.hid hm
        have HMG := Lib.hid (show -(g : Int) = m from hm.symm)
        clear hm
        have hm0 : ¬ m = 0 := by have := HM.out; omega
        have hwa1 := hwa.out m
        have hwb1 := hwb.out m
        have hwc1 := hwc.out m
        have hwd1 := hwd.out m
        go_wp2
        rw [HMG.out]
        clear hg1 hg2 d1 d2 d3
        refine wp_region_part 19 [some 37, some 38, some 39, some 40, some 41, some 42, some 43, some 44, some 45, some 46, some 47, some 48, some 49, some 50, some 51, some 52, some 53, some 54, some 55] [[2], [37], [5], [38, 39], [2], [41], [5], [42, 43], [40, 44], [3], [46], [5], [47, 48], [3], [50], [5], [51, 52], [49, 53], [45, 54]]
          [Is (.pointer (some ⟨w.heap.size, 0, none⟩)), Is (.int .i64 (a)), Is (.int .i64 (m)), Is (.int .i64 (a.tdiv m)), Is (.pointer (some ⟨w.heap.size, 1, none⟩)), Is (.int .i64 (b)), Is (.int .i64 (m)), Is (.int .i64 (b.tdiv m)), Is (.agg #[.int .i64 (a.tdiv m), .int .i64 (b.tdiv m)]), Is (.pointer (some ⟨w.heap.size + 1, 0, none⟩)), Is (.int .i64 (c)), Is (.int .i64 (m)), Is (.int .i64 (c.tdiv m)), Is (.pointer (some ⟨w.heap.size + 1, 1, none⟩)), Is (.int .i64 (d)), Is (.int .i64 (m)), Is (.int .i64 (d.tdiv m)), Is (.agg #[.int .i64 (c.tdiv m), .int .i64 (d.tdiv m)]), Is (.agg #[.int .i64 (a.tdiv m), .int .i64 (b.tdiv m), .int .i64 (c.tdiv m), .int .i64 (d.tdiv m)])]
          (by kernel_rfl) (by kernel_rfl) (by kernel_rfl) (by kernel_rfl) (by kernel_rfl) (by kernel_rfl) (by kernel_rfl) Ext (fun W => Ext W1 W)
          (fun W _ => Ext.refl W) (fun W W' h k => h.trans k) ?_ (Ext.drew _) ?_ ?_
        · repeat (refine ⟨fun _ _ _ _ k h => (by first | exact h | exact (by first | exact LadV.ext h k | exact DrvV.ext h k | exact TupV.ext (fun _ _ _ h k => by first | exact Opt.ext (fun _ _ _ h k => by first | exact IntsAt.ext h k | exact GsV.ext h k) h k | exact IntsAt.ext h k) h k | exact Opt.ext (fun _ _ _ h k => by first | exact IntsAt.ext h k | exact GsV.ext h k) h k | exact IntsAt.ext h k)), ?_⟩)
          exact trivial
        · refine ⟨?_, ?_, ?_, ?_, ?_, ?_, ?_, ?_, ?_, ?_, ?_, ?_, ?_, ?_, ?_, ?_, ?_, ?_, ?_, trivial⟩
          all_goals intro ρ W ⟨kc, kg, kf⟩ hF hs
          · obtain ⟨h0, -⟩ := hs
            replace h0 : ρ (.tmp 2) = .pointer (some ⟨w.heap.size, 0, none⟩) := h0
            go_simp
            exact ⟨Ext.refl _, rfl⟩
          · obtain ⟨h0, -⟩ := hs
            replace h0 : ρ (.tmp 37) = .pointer (some ⟨w.heap.size, 0, none⟩) := h0
            have hc0 : W.cell? ⟨w.heap.size, 0, none⟩ = some (.int .i64 (a)) := hF.cell (by assumption)
            go_simp
            exact ⟨Ext.refl _, rfl⟩
          · obtain ⟨h0, -⟩ := hs
            replace h0 : ρ (.tmp 5) = .int .i64 (m) := h0
            go_simp
            exact ⟨Ext.refl _, rfl⟩
          · obtain ⟨h0, h1, -⟩ := hs
            replace h0 : ρ (.tmp 38) = .int .i64 (a) := h0
            replace h1 : ρ (.tmp 39) = .int .i64 (m) := h1
            have hq : IntKind.i64.wrap (a.tdiv m) = a.tdiv m := hwa1
            have hm2 : ¬ m = 0 := hm0
            go_simp
            exact ⟨Ext.refl _, rfl⟩
          · obtain ⟨h0, -⟩ := hs
            replace h0 : ρ (.tmp 2) = .pointer (some ⟨w.heap.size, 0, none⟩) := h0
            go_simp
            exact ⟨Ext.refl _, rfl⟩
          · obtain ⟨h0, -⟩ := hs
            replace h0 : ρ (.tmp 41) = .pointer (some ⟨w.heap.size, 1, none⟩) := h0
            have hc0 : W.cell? ⟨w.heap.size, 1, none⟩ = some (.int .i64 (b)) := hF.cell (by assumption)
            go_simp
            exact ⟨Ext.refl _, rfl⟩
          · obtain ⟨h0, -⟩ := hs
            replace h0 : ρ (.tmp 5) = .int .i64 (m) := h0
            go_simp
            exact ⟨Ext.refl _, rfl⟩
          · obtain ⟨h0, h1, -⟩ := hs
            replace h0 : ρ (.tmp 42) = .int .i64 (b) := h0
            replace h1 : ρ (.tmp 43) = .int .i64 (m) := h1
            have hq : IntKind.i64.wrap (b.tdiv m) = b.tdiv m := hwb1
            have hm2 : ¬ m = 0 := hm0
            go_simp
            exact ⟨Ext.refl _, rfl⟩
          · obtain ⟨h0, h1, -⟩ := hs
            replace h0 : ρ (.tmp 40) = .int .i64 (a.tdiv m) := h0
            replace h1 : ρ (.tmp 44) = .int .i64 (b.tdiv m) := h1
            go_simp
            exact ⟨Ext.refl _, rfl⟩
          · obtain ⟨h0, -⟩ := hs
            replace h0 : ρ (.tmp 3) = .pointer (some ⟨w.heap.size + 1, 0, none⟩) := h0
            go_simp
            exact ⟨Ext.refl _, rfl⟩
          · obtain ⟨h0, -⟩ := hs
            replace h0 : ρ (.tmp 46) = .pointer (some ⟨w.heap.size + 1, 0, none⟩) := h0
            have hc0 : W.cell? ⟨w.heap.size + 1, 0, none⟩ = some (.int .i64 (c)) := hF.cell (by assumption)
            go_simp
            exact ⟨Ext.refl _, rfl⟩
          · obtain ⟨h0, -⟩ := hs
            replace h0 : ρ (.tmp 5) = .int .i64 (m) := h0
            go_simp
            exact ⟨Ext.refl _, rfl⟩
          · obtain ⟨h0, h1, -⟩ := hs
            replace h0 : ρ (.tmp 47) = .int .i64 (c) := h0
            replace h1 : ρ (.tmp 48) = .int .i64 (m) := h1
            have hq : IntKind.i64.wrap (c.tdiv m) = c.tdiv m := hwc1
            have hm2 : ¬ m = 0 := hm0
            go_simp
            exact ⟨Ext.refl _, rfl⟩
          · obtain ⟨h0, -⟩ := hs
            replace h0 : ρ (.tmp 3) = .pointer (some ⟨w.heap.size + 1, 0, none⟩) := h0
            go_simp
            exact ⟨Ext.refl _, rfl⟩
          · obtain ⟨h0, -⟩ := hs
            replace h0 : ρ (.tmp 50) = .pointer (some ⟨w.heap.size + 1, 1, none⟩) := h0
            have hc0 : W.cell? ⟨w.heap.size + 1, 1, none⟩ = some (.int .i64 (d)) := hF.cell (by assumption)
            go_simp
            exact ⟨Ext.refl _, rfl⟩
          · obtain ⟨h0, -⟩ := hs
            replace h0 : ρ (.tmp 5) = .int .i64 (m) := h0
            go_simp
            exact ⟨Ext.refl _, rfl⟩
          · obtain ⟨h0, h1, -⟩ := hs
            replace h0 : ρ (.tmp 51) = .int .i64 (d) := h0
            replace h1 : ρ (.tmp 52) = .int .i64 (m) := h1
            have hq : IntKind.i64.wrap (d.tdiv m) = d.tdiv m := hwd1
            have hm2 : ¬ m = 0 := hm0
            go_simp
            exact ⟨Ext.refl _, rfl⟩
          · obtain ⟨h0, h1, -⟩ := hs
            replace h0 : ρ (.tmp 49) = .int .i64 (c.tdiv m) := h0
            replace h1 : ρ (.tmp 53) = .int .i64 (d.tdiv m) := h1
            go_simp
            exact ⟨Ext.refl _, rfl⟩
          · obtain ⟨h0, h1, -⟩ := hs
            replace h0 : ρ (.tmp 45) = .agg #[.int .i64 (a.tdiv m), .int .i64 (b.tdiv m)] := h0
            replace h1 : ρ (.tmp 54) = .agg #[.int .i64 (c.tdiv m), .int .i64 (d.tdiv m)] := h1
            go_simp
            exact ⟨Ext.refl _, rfl⟩
        · intro fv W2 hF hs
          obtain ⟨-, -, -, -, -, -, -, -, -, -, -, -, -, -, -, -, -, -, h55, -⟩ := hs
          replace h55 : fv 55 = .agg #[.int .i64 (a.tdiv m), .int .i64 (b.tdiv m), .int .i64 (c.tdiv m), .int .i64 (d.tdiv m)] := h55
          simp only [fin, List.filterMap]
          go_simp
          have B2 := B1.out.ext hF
          have f0 := B2.free 0
          have f1 := B2.free 1
          have f2 := B2.free 2
          have f3 := B2.free 3
          have c0 := B2.cell 0
          have c1 := B2.cell 1
          have c2 := B2.cell 2
          have c3 := B2.cell 3
          simp only [List.getElem?_toArray, List.getElem?_cons_zero, List.getElem?_cons_succ] at c0 c1 c2 c3
          have X2 := Lib.hid (X1.out.trans hF)
          clear hF
          go_wp2
          exact bodyPost_ret (v := .agg #[.int .i64 (a.tdiv m), .int .i64 (b.tdiv m), .int .i64 (c.tdiv m), .int .i64 (d.tdiv m)]) (by simp [results, Try.f112, go_sem, c0, c1, c2, c3]) rfl ⟨rfl, Ext.set (Ext.set (Ext.set (Ext.set X2.out (by dsimp only; omega) _) (by dsimp only; omega) _) (by dsimp only; omega) _) (by dsimp only; omega) _⟩
      · have HM := Lib.hid hm
        have hm0 : ¬ m = 0 := by have := HM.out; omega
        have hwa1 := hwa.out m
        have hwb1 := hwb.out m
        have hwc1 := hwc.out m
        have hwd1 := hwd.out m
        clear hm
        go_wp2
        rw [← HM.out]
        clear hg1 hg2 d1 d2 d3
        refine wp_region_part 19 [some 37, some 38, some 39, some 40, some 41, some 42, some 43, some 44, some 45, some 46, some 47, some 48, some 49, some 50, some 51, some 52, some 53, some 54, some 55] [[2], [37], [5], [38, 39], [2], [41], [5], [42, 43], [40, 44], [3], [46], [5], [47, 48], [3], [50], [5], [51, 52], [49, 53], [45, 54]]
          [Is (.pointer (some ⟨w.heap.size, 0, none⟩)), Is (.int .i64 (a)), Is (.int .i64 (m)), Is (.int .i64 (a.tdiv m)), Is (.pointer (some ⟨w.heap.size, 1, none⟩)), Is (.int .i64 (b)), Is (.int .i64 (m)), Is (.int .i64 (b.tdiv m)), Is (.agg #[.int .i64 (a.tdiv m), .int .i64 (b.tdiv m)]), Is (.pointer (some ⟨w.heap.size + 1, 0, none⟩)), Is (.int .i64 (c)), Is (.int .i64 (m)), Is (.int .i64 (c.tdiv m)), Is (.pointer (some ⟨w.heap.size + 1, 1, none⟩)), Is (.int .i64 (d)), Is (.int .i64 (m)), Is (.int .i64 (d.tdiv m)), Is (.agg #[.int .i64 (c.tdiv m), .int .i64 (d.tdiv m)]), Is (.agg #[.int .i64 (a.tdiv m), .int .i64 (b.tdiv m), .int .i64 (c.tdiv m), .int .i64 (d.tdiv m)])]
          (by kernel_rfl) (by kernel_rfl) (by kernel_rfl) (by kernel_rfl) (by kernel_rfl) (by kernel_rfl) (by kernel_rfl) Ext (fun W => Ext W1 W)
          (fun W _ => Ext.refl W) (fun W W' h k => h.trans k) ?_ (Ext.drew _) ?_ ?_
        · repeat (refine ⟨fun _ _ _ _ k h => (by first | exact h | exact (by first | exact LadV.ext h k | exact DrvV.ext h k | exact TupV.ext (fun _ _ _ h k => by first | exact Opt.ext (fun _ _ _ h k => by first | exact IntsAt.ext h k | exact GsV.ext h k) h k | exact IntsAt.ext h k) h k | exact Opt.ext (fun _ _ _ h k => by first | exact IntsAt.ext h k | exact GsV.ext h k) h k | exact IntsAt.ext h k)), ?_⟩)
          exact trivial
        · refine ⟨?_, ?_, ?_, ?_, ?_, ?_, ?_, ?_, ?_, ?_, ?_, ?_, ?_, ?_, ?_, ?_, ?_, ?_, ?_, trivial⟩
          all_goals intro ρ W ⟨kc, kg, kf⟩ hF hs
          · obtain ⟨h0, -⟩ := hs
            replace h0 : ρ (.tmp 2) = .pointer (some ⟨w.heap.size, 0, none⟩) := h0
            go_simp
            exact ⟨Ext.refl _, rfl⟩
          · obtain ⟨h0, -⟩ := hs
            replace h0 : ρ (.tmp 37) = .pointer (some ⟨w.heap.size, 0, none⟩) := h0
            have hc0 : W.cell? ⟨w.heap.size, 0, none⟩ = some (.int .i64 (a)) := hF.cell (by assumption)
            go_simp
            exact ⟨Ext.refl _, rfl⟩
          · obtain ⟨h0, -⟩ := hs
            replace h0 : ρ (.tmp 5) = .int .i64 (m) := h0
            go_simp
            exact ⟨Ext.refl _, rfl⟩
          · obtain ⟨h0, h1, -⟩ := hs
            replace h0 : ρ (.tmp 38) = .int .i64 (a) := h0
            replace h1 : ρ (.tmp 39) = .int .i64 (m) := h1
            have hq : IntKind.i64.wrap (a.tdiv m) = a.tdiv m := hwa1
            have hm2 : ¬ m = 0 := hm0
            go_simp
            exact ⟨Ext.refl _, rfl⟩
          · obtain ⟨h0, -⟩ := hs
            replace h0 : ρ (.tmp 2) = .pointer (some ⟨w.heap.size, 0, none⟩) := h0
            go_simp
            exact ⟨Ext.refl _, rfl⟩
          · obtain ⟨h0, -⟩ := hs
            replace h0 : ρ (.tmp 41) = .pointer (some ⟨w.heap.size, 1, none⟩) := h0
            have hc0 : W.cell? ⟨w.heap.size, 1, none⟩ = some (.int .i64 (b)) := hF.cell (by assumption)
            go_simp
            exact ⟨Ext.refl _, rfl⟩
          · obtain ⟨h0, -⟩ := hs
            replace h0 : ρ (.tmp 5) = .int .i64 (m) := h0
            go_simp
            exact ⟨Ext.refl _, rfl⟩
          · obtain ⟨h0, h1, -⟩ := hs
            replace h0 : ρ (.tmp 42) = .int .i64 (b) := h0
            replace h1 : ρ (.tmp 43) = .int .i64 (m) := h1
            have hq : IntKind.i64.wrap (b.tdiv m) = b.tdiv m := hwb1
            have hm2 : ¬ m = 0 := hm0
            go_simp
            exact ⟨Ext.refl _, rfl⟩
          · obtain ⟨h0, h1, -⟩ := hs
            replace h0 : ρ (.tmp 40) = .int .i64 (a.tdiv m) := h0
            replace h1 : ρ (.tmp 44) = .int .i64 (b.tdiv m) := h1
            go_simp
            exact ⟨Ext.refl _, rfl⟩
          · obtain ⟨h0, -⟩ := hs
            replace h0 : ρ (.tmp 3) = .pointer (some ⟨w.heap.size + 1, 0, none⟩) := h0
            go_simp
            exact ⟨Ext.refl _, rfl⟩
          · obtain ⟨h0, -⟩ := hs
            replace h0 : ρ (.tmp 46) = .pointer (some ⟨w.heap.size + 1, 0, none⟩) := h0
            have hc0 : W.cell? ⟨w.heap.size + 1, 0, none⟩ = some (.int .i64 (c)) := hF.cell (by assumption)
            go_simp
            exact ⟨Ext.refl _, rfl⟩
          · obtain ⟨h0, -⟩ := hs
            replace h0 : ρ (.tmp 5) = .int .i64 (m) := h0
            go_simp
            exact ⟨Ext.refl _, rfl⟩
          · obtain ⟨h0, h1, -⟩ := hs
            replace h0 : ρ (.tmp 47) = .int .i64 (c) := h0
            replace h1 : ρ (.tmp 48) = .int .i64 (m) := h1
            have hq : IntKind.i64.wrap (c.tdiv m) = c.tdiv m := hwc1
            have hm2 : ¬ m = 0 := hm0
            go_simp
            exact ⟨Ext.refl _, rfl⟩
          · obtain ⟨h0, -⟩ := hs
            replace h0 : ρ (.tmp 3) = .pointer (some ⟨w.heap.size + 1, 0, none⟩) := h0
            go_simp
            exact ⟨Ext.refl _, rfl⟩
          · obtain ⟨h0, -⟩ := hs
            replace h0 : ρ (.tmp 50) = .pointer (some ⟨w.heap.size + 1, 1, none⟩) := h0
            have hc0 : W.cell? ⟨w.heap.size + 1, 1, none⟩ = some (.int .i64 (d)) := hF.cell (by assumption)
            go_simp
            exact ⟨Ext.refl _, rfl⟩
          · obtain ⟨h0, -⟩ := hs
            replace h0 : ρ (.tmp 5) = .int .i64 (m) := h0
            go_simp
            exact ⟨Ext.refl _, rfl⟩
          · obtain ⟨h0, h1, -⟩ := hs
            replace h0 : ρ (.tmp 51) = .int .i64 (d) := h0
            replace h1 : ρ (.tmp 52) = .int .i64 (m) := h1
            have hq : IntKind.i64.wrap (d.tdiv m) = d.tdiv m := hwd1
            have hm2 : ¬ m = 0 := hm0
            go_simp
            exact ⟨Ext.refl _, rfl⟩
          · obtain ⟨h0, h1, -⟩ := hs
            replace h0 : ρ (.tmp 49) = .int .i64 (c.tdiv m) := h0
            replace h1 : ρ (.tmp 53) = .int .i64 (d.tdiv m) := h1
            go_simp
            exact ⟨Ext.refl _, rfl⟩
          · obtain ⟨h0, h1, -⟩ := hs
            replace h0 : ρ (.tmp 45) = .agg #[.int .i64 (a.tdiv m), .int .i64 (b.tdiv m)] := h0
            replace h1 : ρ (.tmp 54) = .agg #[.int .i64 (c.tdiv m), .int .i64 (d.tdiv m)] := h1
            go_simp
            exact ⟨Ext.refl _, rfl⟩
        · intro fv W2 hF hs
          obtain ⟨-, -, -, -, -, -, -, -, -, -, -, -, -, -, -, -, -, -, h55, -⟩ := hs
          replace h55 : fv 55 = .agg #[.int .i64 (a.tdiv m), .int .i64 (b.tdiv m), .int .i64 (c.tdiv m), .int .i64 (d.tdiv m)] := h55
          simp only [fin, List.filterMap]
          go_simp
          have B2 := B1.out.ext hF
          have f0 := B2.free 0
          have f1 := B2.free 1
          have f2 := B2.free 2
          have f3 := B2.free 3
          have c0 := B2.cell 0
          have c1 := B2.cell 1
          have c2 := B2.cell 2
          have c3 := B2.cell 3
          simp only [List.getElem?_toArray, List.getElem?_cons_zero, List.getElem?_cons_succ] at c0 c1 c2 c3
          have X2 := Lib.hid (X1.out.trans hF)
          clear hF
          go_wp2
          exact bodyPost_ret (v := .agg #[.int .i64 (a.tdiv m), .int .i64 (b.tdiv m), .int .i64 (c.tdiv m), .int .i64 (d.tdiv m)]) (by simp [results, Try.f112, go_sem, c0, c1, c2, c3]) rfl ⟨rfl, Ext.set (Ext.set (Ext.set (Ext.set X2.out (by dsimp only; omega) _) (by dsimp only; omega) _) (by dsimp only; omega) _) (by dsimp only; omega) _⟩
      · have HM := Lib.hid hm
        have hm0 : ¬ m = 0 := by have := HM.out; omega
        have hwa1 := hwa.out m
        have hwb1 := hwb.out m
        have hwc1 := hwc.out m
        have hwd1 := hwd.out m
        clear hm
        go_wp2
        rw [← HM.out]
        clear hg1 hg2 d1 d2
        refine wp_region_part 19 [some 37, some 38, some 39, some 40, some 41, some 42, some 43, some 44, some 45, some 46, some 47, some 48, some 49, some 50, some 51, some 52, some 53, some 54, some 55] [[2], [37], [5], [38, 39], [2], [41], [5], [42, 43], [40, 44], [3], [46], [5], [47, 48], [3], [50], [5], [51, 52], [49, 53], [45, 54]]
          [Is (.pointer (some ⟨w.heap.size, 0, none⟩)), Is (.int .i64 (a)), Is (.int .i64 (m)), Is (.int .i64 (a.tdiv m)), Is (.pointer (some ⟨w.heap.size, 1, none⟩)), Is (.int .i64 (b)), Is (.int .i64 (m)), Is (.int .i64 (b.tdiv m)), Is (.agg #[.int .i64 (a.tdiv m), .int .i64 (b.tdiv m)]), Is (.pointer (some ⟨w.heap.size + 1, 0, none⟩)), Is (.int .i64 (c)), Is (.int .i64 (m)), Is (.int .i64 (c.tdiv m)), Is (.pointer (some ⟨w.heap.size + 1, 1, none⟩)), Is (.int .i64 (d)), Is (.int .i64 (m)), Is (.int .i64 (d.tdiv m)), Is (.agg #[.int .i64 (c.tdiv m), .int .i64 (d.tdiv m)]), Is (.agg #[.int .i64 (a.tdiv m), .int .i64 (b.tdiv m), .int .i64 (c.tdiv m), .int .i64 (d.tdiv m)])]
          (by kernel_rfl) (by kernel_rfl) (by kernel_rfl) (by kernel_rfl) (by kernel_rfl) (by kernel_rfl) (by kernel_rfl) Ext (fun W => Ext W1 W)
          (fun W _ => Ext.refl W) (fun W W' h k => h.trans k) ?_ (Ext.drew _) ?_ ?_
        · repeat (refine ⟨fun _ _ _ _ k h => (by first | exact h | exact (by first | exact LadV.ext h k | exact DrvV.ext h k | exact TupV.ext (fun _ _ _ h k => by first | exact Opt.ext (fun _ _ _ h k => by first | exact IntsAt.ext h k | exact GsV.ext h k) h k | exact IntsAt.ext h k) h k | exact Opt.ext (fun _ _ _ h k => by first | exact IntsAt.ext h k | exact GsV.ext h k) h k | exact IntsAt.ext h k)), ?_⟩)
          exact trivial
        · refine ⟨?_, ?_, ?_, ?_, ?_, ?_, ?_, ?_, ?_, ?_, ?_, ?_, ?_, ?_, ?_, ?_, ?_, ?_, ?_, trivial⟩
          all_goals intro ρ W ⟨kc, kg, kf⟩ hF hs
          · obtain ⟨h0, -⟩ := hs
            replace h0 : ρ (.tmp 2) = .pointer (some ⟨w.heap.size, 0, none⟩) := h0
            go_simp
            exact ⟨Ext.refl _, rfl⟩
          · obtain ⟨h0, -⟩ := hs
            replace h0 : ρ (.tmp 37) = .pointer (some ⟨w.heap.size, 0, none⟩) := h0
            have hc0 : W.cell? ⟨w.heap.size, 0, none⟩ = some (.int .i64 (a)) := hF.cell (by assumption)
            go_simp
            exact ⟨Ext.refl _, rfl⟩
          · obtain ⟨h0, -⟩ := hs
            replace h0 : ρ (.tmp 5) = .int .i64 (m) := h0
            go_simp
            exact ⟨Ext.refl _, rfl⟩
          · obtain ⟨h0, h1, -⟩ := hs
            replace h0 : ρ (.tmp 38) = .int .i64 (a) := h0
            replace h1 : ρ (.tmp 39) = .int .i64 (m) := h1
            have hq : IntKind.i64.wrap (a.tdiv m) = a.tdiv m := hwa1
            have hm2 : ¬ m = 0 := hm0
            go_simp
            exact ⟨Ext.refl _, rfl⟩
          · obtain ⟨h0, -⟩ := hs
            replace h0 : ρ (.tmp 2) = .pointer (some ⟨w.heap.size, 0, none⟩) := h0
            go_simp
            exact ⟨Ext.refl _, rfl⟩
          · obtain ⟨h0, -⟩ := hs
            replace h0 : ρ (.tmp 41) = .pointer (some ⟨w.heap.size, 1, none⟩) := h0
            have hc0 : W.cell? ⟨w.heap.size, 1, none⟩ = some (.int .i64 (b)) := hF.cell (by assumption)
            go_simp
            exact ⟨Ext.refl _, rfl⟩
          · obtain ⟨h0, -⟩ := hs
            replace h0 : ρ (.tmp 5) = .int .i64 (m) := h0
            go_simp
            exact ⟨Ext.refl _, rfl⟩
          · obtain ⟨h0, h1, -⟩ := hs
            replace h0 : ρ (.tmp 42) = .int .i64 (b) := h0
            replace h1 : ρ (.tmp 43) = .int .i64 (m) := h1
            have hq : IntKind.i64.wrap (b.tdiv m) = b.tdiv m := hwb1
            have hm2 : ¬ m = 0 := hm0
            go_simp
            exact ⟨Ext.refl _, rfl⟩
          · obtain ⟨h0, h1, -⟩ := hs
            replace h0 : ρ (.tmp 40) = .int .i64 (a.tdiv m) := h0
            replace h1 : ρ (.tmp 44) = .int .i64 (b.tdiv m) := h1
            go_simp
            exact ⟨Ext.refl _, rfl⟩
          · obtain ⟨h0, -⟩ := hs
            replace h0 : ρ (.tmp 3) = .pointer (some ⟨w.heap.size + 1, 0, none⟩) := h0
            go_simp
            exact ⟨Ext.refl _, rfl⟩
          · obtain ⟨h0, -⟩ := hs
            replace h0 : ρ (.tmp 46) = .pointer (some ⟨w.heap.size + 1, 0, none⟩) := h0
            have hc0 : W.cell? ⟨w.heap.size + 1, 0, none⟩ = some (.int .i64 (c)) := hF.cell (by assumption)
            go_simp
            exact ⟨Ext.refl _, rfl⟩
          · obtain ⟨h0, -⟩ := hs
            replace h0 : ρ (.tmp 5) = .int .i64 (m) := h0
            go_simp
            exact ⟨Ext.refl _, rfl⟩
          · obtain ⟨h0, h1, -⟩ := hs
            replace h0 : ρ (.tmp 47) = .int .i64 (c) := h0
            replace h1 : ρ (.tmp 48) = .int .i64 (m) := h1
            have hq : IntKind.i64.wrap (c.tdiv m) = c.tdiv m := hwc1
            have hm2 : ¬ m = 0 := hm0
            go_simp
            exact ⟨Ext.refl _, rfl⟩
          · obtain ⟨h0, -⟩ := hs
            replace h0 : ρ (.tmp 3) = .pointer (some ⟨w.heap.size + 1, 0, none⟩) := h0
            go_simp
            exact ⟨Ext.refl _, rfl⟩
          · obtain ⟨h0, -⟩ := hs
            replace h0 : ρ (.tmp 50) = .pointer (some ⟨w.heap.size + 1, 1, none⟩) := h0
            have hc0 : W.cell? ⟨w.heap.size + 1, 1, none⟩ = some (.int .i64 (d)) := hF.cell (by assumption)
            go_simp
            exact ⟨Ext.refl _, rfl⟩
          · obtain ⟨h0, -⟩ := hs
            replace h0 : ρ (.tmp 5) = .int .i64 (m) := h0
            go_simp
            exact ⟨Ext.refl _, rfl⟩
          · obtain ⟨h0, h1, -⟩ := hs
            replace h0 : ρ (.tmp 51) = .int .i64 (d) := h0
            replace h1 : ρ (.tmp 52) = .int .i64 (m) := h1
            have hq : IntKind.i64.wrap (d.tdiv m) = d.tdiv m := hwd1
            have hm2 : ¬ m = 0 := hm0
            go_simp
            exact ⟨Ext.refl _, rfl⟩
          · obtain ⟨h0, h1, -⟩ := hs
            replace h0 : ρ (.tmp 49) = .int .i64 (c.tdiv m) := h0
            replace h1 : ρ (.tmp 53) = .int .i64 (d.tdiv m) := h1
            go_simp
            exact ⟨Ext.refl _, rfl⟩
          · obtain ⟨h0, h1, -⟩ := hs
            replace h0 : ρ (.tmp 45) = .agg #[.int .i64 (a.tdiv m), .int .i64 (b.tdiv m)] := h0
            replace h1 : ρ (.tmp 54) = .agg #[.int .i64 (c.tdiv m), .int .i64 (d.tdiv m)] := h1
            go_simp
            exact ⟨Ext.refl _, rfl⟩
        · intro fv W2 hF hs
          obtain ⟨-, -, -, -, -, -, -, -, -, -, -, -, -, -, -, -, -, -, h55, -⟩ := hs
          replace h55 : fv 55 = .agg #[.int .i64 (a.tdiv m), .int .i64 (b.tdiv m), .int .i64 (c.tdiv m), .int .i64 (d.tdiv m)] := h55
          simp only [fin, List.filterMap]
          go_simp
          have B2 := B1.out.ext hF
          have f0 := B2.free 0
          have f1 := B2.free 1
          have f2 := B2.free 2
          have f3 := B2.free 3
          have c0 := B2.cell 0
          have c1 := B2.cell 1
          have c2 := B2.cell 2
          have c3 := B2.cell 3
          simp only [List.getElem?_toArray, List.getElem?_cons_zero, List.getElem?_cons_succ] at c0 c1 c2 c3
          have X2 := Lib.hid (X1.out.trans hF)
          clear hF
          go_wp2
          exact bodyPost_ret (v := .agg #[.int .i64 (a.tdiv m), .int .i64 (b.tdiv m), .int .i64 (c.tdiv m), .int .i64 (d.tdiv m)]) (by simp [results, Try.f112, go_sem, c0, c1, c2, c3]) rfl ⟨rfl, Ext.set (Ext.set (Ext.set (Ext.set X2.out (by dsimp only; omega) _) (by dsimp only; omega) _) (by dsimp only; omega) _) (by dsimp only; omega) _⟩

end Go.Proofs.Ytpaoeghdfeekoaa
