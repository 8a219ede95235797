/- The error of a shell. By regen.py. -/
import Derived.Test.YtpaoeghdfeekoaaA1
import Derived.Outline
namespace Go.Proofs.Ytpaoeghdfeekoaa
open Go.RowKit Go.Mem Go.RegInv
attribute [local go_sem] RelUpon_value RelUpon_skip RelUpon_enter BigFrame.eval_const BigFrame.eval_global BigFrame.eval_func

def Ints (xs : List Int) : Value → World → Prop := fun u W => IntsAt W u xs

def shellE (g c h : Int) : Int := firstE [rangeE 1 4 [g], rangeE 1 4 [c, h], errIf (decide (c < h)) 9]

set_option maxRecDepth 100000 in
theorem shellFault_any (g c h : Int) (w : World) :
    Calls Try.prog 86 #[.agg #[.int .i64 g, .int .i64 c, .int .i64 h]] w fun e w' => e = .returned (.int .i64 (shellE g c h)) ∧ Ext w w' := by
  go_enter Try.func86, Try.ntmps86
  go_wp2
  refine wp_region_each [some 3, some 4, some 5, some 6, some 7, some 8, some 9, some 10, some 11, some 12, some 13, some 14, some 15, some 16, some 17, some 18, some 19, some 20, some 2] [[1], [3], [4], [5], [1], [7], [1], [9], [8, 10], [11], [1], [13], [1], [15], [14, 16], [17], [6, 12, 18], [19], [20]]
    [Is (.pointer (some ⟨w.heap.size, 0, none⟩)), Is (.int .i64 (g)), Ints [g], Is (.int .i64 (rangeE 1 4 [g])), Is (.pointer (some ⟨w.heap.size, 1, none⟩)), Is (.int .i64 (c)), Is (.pointer (some ⟨w.heap.size, 2, none⟩)), Is (.int .i64 (h)), Ints [c, h], Is (.int .i64 (rangeE 1 4 [c, h])), Is (.pointer (some ⟨w.heap.size, 2, none⟩)), Is (.int .i64 (h)), Is (.pointer (some ⟨w.heap.size, 1, none⟩)), Is (.int .i64 (c)), Is (.bool (decide (c < h))), Is (.int .i64 (errIf (decide (c < h)) 9)), Ints [rangeE 1 4 [g], rangeE 1 4 [c, h], errIf (decide (c < h)) 9], Is (.int .i64 (firstE [rangeE 1 4 [g], rangeE 1 4 [c, h], errIf (decide (c < h)) 9])), Is (.int .i64 (firstE [rangeE 1 4 [g], rangeE 1 4 [c, h], errIf (decide (c < h)) 9]))]
    (by kernel_rfl) (by kernel_rfl) (by kernel_rfl) (by kernel_rfl) (by kernel_rfl) Ext (fun W => Ext (w.alloc (.cells #[.int .i64 g, .int .i64 c, .int .i64 h] 92)) W)
    (fun W _ => Ext.refl W) (fun W W' h k => h.trans k) ?_ (Ext.drew _) ?_ ?_
  · repeat (refine ⟨fun _ _ _ _ k h => (by first | exact h | exact IntsAt.ext h k), ?_⟩)
    exact trivial
  · refine ⟨?_, ?_, ?_, ?_, ?_, ?_, ?_, ?_, ?_, ?_, ?_, ?_, ?_, ?_, ?_, ?_, ?_, ?_, ?_, trivial⟩
    all_goals intro ρ W ⟨kc, kg, kf⟩ hF hs
    · obtain ⟨h0, -⟩ := hs
      replace h0 : ρ (.tmp 1) = .pointer (some ⟨w.heap.size, 0, none⟩) := h0
      go_simp
      exact ⟨Ext.refl _, rfl⟩
    · obtain ⟨h0, -⟩ := hs
      replace h0 : ρ (.tmp 3) = .pointer (some ⟨w.heap.size, 0, none⟩) := h0
      have hc0 : W.cell? ⟨w.heap.size, 0, none⟩ = some (.int .i64 (g)) := hF.cell (by go_simp)
      go_simp
      exact ⟨Ext.refl _, rfl⟩
    · obtain ⟨h0, -⟩ := hs
      replace h0 : ρ (.tmp 4) = .int .i64 (g) := h0
      go_simp
      exact ⟨Ext.alloc _ _, ints_new _ [g] _ (by simp)⟩
    · obtain ⟨h0, -⟩ := hs
      replace h0 : (Ints [g]) (ρ (.tmp 5)) W := h0
      go_simp
      refine (rangeError_any 1 (4) _ _ _ h0).mono ?_; rintro e w' ⟨rfl, hx⟩; exact ⟨_, rfl, hx, rfl⟩
    · obtain ⟨h0, -⟩ := hs
      replace h0 : ρ (.tmp 1) = .pointer (some ⟨w.heap.size, 0, none⟩) := h0
      go_simp
      exact ⟨Ext.refl _, rfl⟩
    · obtain ⟨h0, -⟩ := hs
      replace h0 : ρ (.tmp 7) = .pointer (some ⟨w.heap.size, 1, none⟩) := h0
      have hc0 : W.cell? ⟨w.heap.size, 1, none⟩ = some (.int .i64 (c)) := hF.cell (by go_simp)
      go_simp
      exact ⟨Ext.refl _, rfl⟩
    · obtain ⟨h0, -⟩ := hs
      replace h0 : ρ (.tmp 1) = .pointer (some ⟨w.heap.size, 0, none⟩) := h0
      go_simp
      exact ⟨Ext.refl _, rfl⟩
    · obtain ⟨h0, -⟩ := hs
      replace h0 : ρ (.tmp 9) = .pointer (some ⟨w.heap.size, 2, none⟩) := h0
      have hc0 : W.cell? ⟨w.heap.size, 2, none⟩ = some (.int .i64 (h)) := hF.cell (by go_simp)
      go_simp
      exact ⟨Ext.refl _, rfl⟩
    · obtain ⟨h0, h1, -⟩ := hs
      replace h0 : ρ (.tmp 8) = .int .i64 (c) := h0
      replace h1 : ρ (.tmp 10) = .int .i64 (h) := h1
      go_simp
      exact ⟨Ext.alloc _ _, ints_new _ [c, h] _ (by simp)⟩
    · obtain ⟨h0, -⟩ := hs
      replace h0 : (Ints [c, h]) (ρ (.tmp 11)) W := h0
      go_simp
      refine (rangeError_any 1 (4) _ _ _ h0).mono ?_; rintro e w' ⟨rfl, hx⟩; exact ⟨_, rfl, hx, rfl⟩
    · obtain ⟨h0, -⟩ := hs
      replace h0 : ρ (.tmp 1) = .pointer (some ⟨w.heap.size, 0, none⟩) := h0
      go_simp
      exact ⟨Ext.refl _, rfl⟩
    · obtain ⟨h0, -⟩ := hs
      replace h0 : ρ (.tmp 13) = .pointer (some ⟨w.heap.size, 2, none⟩) := h0
      have hc0 : W.cell? ⟨w.heap.size, 2, none⟩ = some (.int .i64 (h)) := hF.cell (by go_simp)
      go_simp
      exact ⟨Ext.refl _, rfl⟩
    · obtain ⟨h0, -⟩ := hs
      replace h0 : ρ (.tmp 1) = .pointer (some ⟨w.heap.size, 0, none⟩) := h0
      go_simp
      exact ⟨Ext.refl _, rfl⟩
    · obtain ⟨h0, -⟩ := hs
      replace h0 : ρ (.tmp 15) = .pointer (some ⟨w.heap.size, 1, none⟩) := h0
      have hc0 : W.cell? ⟨w.heap.size, 1, none⟩ = some (.int .i64 (c)) := hF.cell (by go_simp)
      go_simp
      exact ⟨Ext.refl _, rfl⟩
    · obtain ⟨h0, h1, -⟩ := hs
      replace h0 : ρ (.tmp 14) = .int .i64 (h) := h0
      replace h1 : ρ (.tmp 16) = .int .i64 (c) := h1
      go_simp
      exact ⟨Ext.refl _, rfl⟩
    · obtain ⟨h0, -⟩ := hs
      replace h0 : ρ (.tmp 17) = .bool (decide (c < h)) := h0
      go_simp
      refine (errorIf_any _ _ _).mono ?_; rintro e w' ⟨rfl, rfl⟩; exact ⟨_, rfl, Ext.refl _, rfl⟩
    · obtain ⟨h0, h1, h2, -⟩ := hs
      replace h0 : ρ (.tmp 6) = .int .i64 (rangeE 1 4 [g]) := h0
      replace h1 : ρ (.tmp 12) = .int .i64 (rangeE 1 4 [c, h]) := h1
      replace h2 : ρ (.tmp 18) = .int .i64 (errIf (decide (c < h)) 9) := h2
      go_simp
      exact ⟨Ext.alloc _ _, ints_new _ [rangeE 1 4 [g], rangeE 1 4 [c, h], errIf (decide (c < h)) 9] _ (by simp)⟩
    · obtain ⟨h0, -⟩ := hs
      replace h0 : (Ints [rangeE 1 4 [g], rangeE 1 4 [c, h], errIf (decide (c < h)) 9]) (ρ (.tmp 19)) W := h0
      go_simp
      refine (firstOf_any _ _ _ h0).mono ?_; rintro e w' ⟨rfl, rfl⟩; exact ⟨_, rfl, Ext.refl _, rfl⟩
    · obtain ⟨h0, -⟩ := hs
      replace h0 : ρ (.tmp 20) = .int .i64 (firstE [rangeE 1 4 [g], rangeE 1 4 [c, h], errIf (decide (c < h)) 9]) := h0
      go_simp
      exact ⟨Ext.refl _, rfl⟩
  · intro f W hF hs
    obtain ⟨-, -, -, -, -, -, -, -, -, -, -, -, -, -, -, -, -, -, h2, -⟩ := hs
    replace h2 : f 2 = .int .i64 (firstE [rangeE 1 4 [g], rangeE 1 4 [c, h], errIf (decide (c < h)) 9]) := h2
    simp only [fin, List.filterMap]
    go_simp
    go_wp2
    go_ret
    exact ⟨rfl, (Ext.alloc _ _).trans hF⟩

end Go.Proofs.Ytpaoeghdfeekoaa
