/- Tables: their errors. -/
import Derived.Test.YtmddnpagfgilcaaB4
import Derived.Test.YtmddnpagfgilcaaR5
import Derived.Lib.MinMax

namespace Go.Proofs.Ytmddnpagfgilcaa
open Go.RowKit Go.Shelf Go.Mem Go.RegInv
attribute [local go_sem] RelUpon_value RelUpon_skip RelUpon_enter BigFrame.eval_const BigFrame.eval_global BigFrame.eval_func


def aftB (x y : Kn) : Bool := decide (y.f < x.f) && decide (y.lo ≤ x.lo) && decide (y.hi ≤ x.hi)
set_option maxRecDepth 100000 in
set_option maxHeartbeats 1000000 in
theorem isAfter_any (x y : Kn) (w : World) : Calls Try.prog 91 #[.agg #[.int .i64 x.f, .int .i64 x.lo, .int .i64 x.hi], .agg #[.int .i64 y.f, .int .i64 y.lo, .int .i64 y.hi]] w fun e w' => e = .returned (.bool (aftB x y)) ∧ Ext w w' := by
  have e2 : Ext w ((w.alloc (.cells #[.int .i64 x.f, .int .i64 x.lo, .int .i64 x.hi] 78)).alloc (.cells #[.int .i64 y.f, .int .i64 y.lo, .int .i64 y.hi] 78)) := (Ext.alloc _ _).trans (Ext.alloc _ _)
  have X2 := Lib.hid e2
  clear e2
  by_cases h1 : y.f < x.f
  · by_cases h2 : y.lo ≤ x.lo
    · by_cases h3 : y.hi ≤ x.hi
      · have HE := Lib.hid (show aftB x y = true by simp [aftB, h1, h2, h3])
        go_enter Try.func91, Try.ntmps91
        go_wp2
        go_ret
        exact ⟨ret_bool HE.out.symm, X2.out⟩
      · have HE := Lib.hid (show aftB x y = false by simp [aftB, h3])
        go_enter Try.func91, Try.ntmps91
        go_wp2
        go_ret
        exact ⟨ret_bool HE.out.symm, X2.out⟩
    · have HE := Lib.hid (show aftB x y = false by simp [aftB, h2])
      go_enter Try.func91, Try.ntmps91
      go_wp2
      go_ret
      exact ⟨ret_bool HE.out.symm, X2.out⟩
  · have HE := Lib.hid (show aftB x y = false by simp [aftB, h1])
    go_enter Try.func91, Try.ntmps91
    go_wp2
    go_ret
    exact ⟨ret_bool HE.out.symm, X2.out⟩
def befK (xs : List Kn) (i : Nat) : Bool := if i = 0 then false else !aftB (xs.getD i default) (xs.getD (i - 1) default)
def kntE (b : Bool) (x : Kn) : Int := firstE [rangeE 0 2000 [x.f, x.lo, x.hi], errIf (decide (x.hi < x.lo)) 9, errIf b 9]
set_option maxRecDepth 100000 in
set_option maxHeartbeats 1000000 in
theorem kntErr0 {b o n ca tb to : Nat} {x : Kn} {w : World} (ht : w.cell? ⟨tb, to, none⟩ = some (.slice (some ⟨b, o, none⟩) n ca)) :
    Calls Try.prog 90 #[.int .i64 0, .agg #[.int .i64 x.f, .int .i64 x.lo, .int .i64 x.hi], .pointer (some ⟨tb, to, none⟩)] w fun e w' => e = .returned (.int .i64 (kntE false x)) ∧ Ext w w' := by
  have HE := Lib.hid (show kntE false x = firstE [rangeE 0 2000 [x.f, x.lo, x.hi], errIf (decide (x.hi < x.lo)) 9, errIf false 9] from rfl)
  obtain ⟨W0, hW0⟩ : ∃ W0, W0 = w.alloc (.cells #[.int .i64 x.f, .int .i64 x.lo, .int .i64 x.hi] 78) := ⟨_, rfl⟩
  have k0 : Blk W0 w.heap.size 78 #[.int .i64 x.f, .int .i64 x.lo, .int .i64 x.hi] := by rw [hW0]; exact Blk.new _ _ _
  have E0 := Lib.hid (show Ext w W0 by rw [hW0]; exact Ext.alloc _ _)
  have yt : W0.cell? ⟨tb, to, none⟩ = some (.slice (some ⟨b, o, none⟩) n ca) := E0.out.cell ht
  have y0 : W0.cell? ⟨w.heap.size, 0, none⟩ = some (.int .i64 (x.f)) := k0.cell 0
  have y1 : W0.cell? ⟨w.heap.size, 1, none⟩ = some (.int .i64 (x.lo)) := k0.cell 1
  have y2 : W0.cell? ⟨w.heap.size, 2, none⟩ = some (.int .i64 (x.hi)) := k0.cell 2
  clear k0 ht
  go_enter Try.func90, Try.ntmps90
  go_wp2
  rw [← hW0]
  clear hW0
  go_wp2
  refine wp_region_eachN [(21, true), (21, true), (21, true), (21, true), (21, true), (21, true), (21, true), (21, true), (21, true)] [some 6, some 7, some 8, some 9, some 10, some 11, some 12, some 13, some 14, some 15, some 16, some 17, some 18, some 19, some 20, some 21, some 22, some 23, some 24, some 25, some 26, some 27, some 28, some 29, some 30, some 31, some 32, some 33, some 34, some 5] [[4], [6], [4], [8], [9], [4], [11], [12], [7, 10, 13], [14], [4], [16], [17], [0], [19], [20], [4, 21], [2, 21], [23, 21], [0, 21], [25, 21], [24, 26, 21], [27, 21], [22, 28, 21], [29, 21], [21, 30], [31], [15, 18, 32], [33], [34]]
    [Is (.pointer (some ⟨w.heap.size, 0, none⟩)), Is (.int .i64 (x.f)), Is (.pointer (some ⟨w.heap.size, 1, none⟩)), Is (.pointer (some ⟨w.heap.size, 1, none⟩)), Is (.int .i64 (x.lo)), Is (.pointer (some ⟨w.heap.size, 1, none⟩)), Is (.pointer (some ⟨w.heap.size, 2, none⟩)), Is (.int .i64 (x.hi)), Ints [x.f, x.lo, x.hi], Is (.int .i64 (rangeE (0) (2000) [x.f, x.lo, x.hi])), Is (.pointer (some ⟨w.heap.size, 1, none⟩)), Is (.agg #[.int .i64 (x.lo), .int .i64 (x.hi)]), Is (.int .i64 (errIf (decide (x.hi < x.lo)) 9)), Is (.int .i64 (0)), Is (.bool (decide (0 < 0))), Is (.bool (decide (0 < 0))), Is (undef), Is (undef), Is (undef), Is (undef), Is (undef), Is (undef), Is (undef), Is (undef), Is (undef), Is (.bool (false)), Is (.int .i64 (errIf (false) 9)), Ints [rangeE (0) (2000) [x.f, x.lo, x.hi], errIf (decide (x.hi < x.lo)) 9, errIf (false) 9], Is (.int .i64 (firstE [rangeE (0) (2000) [x.f, x.lo, x.hi], errIf (decide (x.hi < x.lo)) 9, errIf (false) 9])), Is (.int .i64 (firstE [rangeE (0) (2000) [x.f, x.lo, x.hi], errIf (decide (x.hi < x.lo)) 9, errIf (false) 9]))]
    (by kernel_rfl) (by kernel_rfl) (by kernel_rfl) (by kernel_rfl) (by kernel_rfl) Ext (fun W => Ext W0 W)
    (fun W _ => Ext.refl W) (fun W W' h k => h.trans k) ?_ (by intro p hp; simp at hp; first | (subst hp; exact ⟨_, rfl, fun _ _ h => h⟩) | (rcases hp with rfl | rfl <;> exact ⟨_, rfl, fun _ _ h => h⟩) | (rcases hp with rfl | rfl | rfl <;> exact ⟨_, rfl, fun _ _ h => h⟩)) (Ext.drew _) ?_ ?_
  · repeat (refine ⟨fun _ _ _ _ k h => (by first | exact h | exact (IntsAt.ext h k)), ?_⟩)
    exact trivial
  · refine ⟨?_, ?_, ?_, ?_, ?_, ?_, ?_, ?_, ?_, ?_, ?_, ?_, ?_, ?_, ?_, ?_, ?_, ?_, ?_, ?_, ?_, ?_, ?_, ?_, ?_, ?_, ?_, ?_, ?_, ?_, trivial⟩
    · intro ρ W ⟨kc, kg, kf⟩ hF hs
      obtain ⟨h0, -⟩ := hs
      replace h0 : ρ (.tmp 4) = .pointer (some ⟨w.heap.size, 0, none⟩) := h0
      go_simp
      exact ⟨Ext.refl _, rfl⟩
    · intro ρ W ⟨kc, kg, kf⟩ hF hs
      obtain ⟨h0, -⟩ := hs
      replace h0 : ρ (.tmp 6) = .pointer (some ⟨w.heap.size, 0, none⟩) := h0
      have hc0 : W.cell? ⟨w.heap.size, 0, none⟩ = some (.int .i64 (x.f)) := hF.cell (by assumption)
      go_simp
      exact ⟨Ext.refl _, rfl⟩
    · intro ρ W ⟨kc, kg, kf⟩ hF hs
      obtain ⟨h0, -⟩ := hs
      replace h0 : ρ (.tmp 4) = .pointer (some ⟨w.heap.size, 0, none⟩) := h0
      go_simp
      exact ⟨Ext.refl _, rfl⟩
    · intro ρ W ⟨kc, kg, kf⟩ hF hs
      obtain ⟨h0, -⟩ := hs
      replace h0 : ρ (.tmp 8) = .pointer (some ⟨w.heap.size, 1, none⟩) := h0
      go_simp
      exact ⟨Ext.refl _, rfl⟩
    · intro ρ W ⟨kc, kg, kf⟩ hF hs
      obtain ⟨h0, -⟩ := hs
      replace h0 : ρ (.tmp 9) = .pointer (some ⟨w.heap.size, 1, none⟩) := h0
      have hc0 : W.cell? ⟨w.heap.size, 1, none⟩ = some (.int .i64 (x.lo)) := hF.cell (by assumption)
      go_simp
      exact ⟨Ext.refl _, rfl⟩
    · intro ρ W ⟨kc, kg, kf⟩ hF hs
      obtain ⟨h0, -⟩ := hs
      replace h0 : ρ (.tmp 4) = .pointer (some ⟨w.heap.size, 0, none⟩) := h0
      go_simp
      exact ⟨Ext.refl _, rfl⟩
    · intro ρ W ⟨kc, kg, kf⟩ hF hs
      obtain ⟨h0, -⟩ := hs
      replace h0 : ρ (.tmp 11) = .pointer (some ⟨w.heap.size, 1, none⟩) := h0
      go_simp
      exact ⟨Ext.refl _, rfl⟩
    · intro ρ W ⟨kc, kg, kf⟩ hF hs
      obtain ⟨h0, -⟩ := hs
      replace h0 : ρ (.tmp 12) = .pointer (some ⟨w.heap.size, 2, none⟩) := h0
      have hc0 : W.cell? ⟨w.heap.size, 2, none⟩ = some (.int .i64 (x.hi)) := hF.cell (by assumption)
      go_simp
      exact ⟨Ext.refl _, rfl⟩
    · intro ρ W ⟨kc, kg, kf⟩ hF hs
      obtain ⟨h0, h1, h2, -⟩ := hs
      replace h0 : ρ (.tmp 7) = .int .i64 (x.f) := h0
      replace h1 : ρ (.tmp 10) = .int .i64 (x.lo) := h1
      replace h2 : ρ (.tmp 13) = .int .i64 (x.hi) := h2
      go_simp
      exact ⟨Ext.alloc _ _, ints_new _ [x.f, x.lo, x.hi] _ (by simp)⟩
    · intro ρ W ⟨kc, kg, kf⟩ hF hs
      obtain ⟨h0, -⟩ := hs
      replace h0 : (Ints [x.f, x.lo, x.hi]) (ρ (.tmp 14)) W := h0
      go_simp
      refine (rangeError_any _ _ _ _ _ h0).mono ?_; rintro e w' ⟨rfl, hx⟩; exact ⟨_, rfl, hx, rfl⟩
    · intro ρ W ⟨kc, kg, kf⟩ hF hs
      obtain ⟨h0, -⟩ := hs
      replace h0 : ρ (.tmp 4) = .pointer (some ⟨w.heap.size, 0, none⟩) := h0
      go_simp
      exact ⟨Ext.refl _, rfl⟩
    · intro ρ W ⟨kc, kg, kf⟩ hF hs
      obtain ⟨h0, -⟩ := hs
      replace h0 : ρ (.tmp 16) = .pointer (some ⟨w.heap.size, 1, none⟩) := h0
      have hc0 : W.cell? ⟨w.heap.size, 1, none⟩ = some (.int .i64 (x.lo)) := hF.cell (by assumption)
      have hc1 : W.cell? ⟨w.heap.size, 2, none⟩ = some (.int .i64 (x.hi)) := hF.cell (by assumption)
      go_simp
      exact ⟨Ext.refl _, rfl⟩
    · intro ρ W ⟨kc, kg, kf⟩ hF hs
      obtain ⟨h0, -⟩ := hs
      replace h0 : ρ (.tmp 17) = .agg #[.int .i64 (x.lo), .int .i64 (x.hi)] := h0
      go_simp
      refine (orderError_any _ _ _).mono ?_; rintro e w' ⟨rfl, hx⟩; exact ⟨_, rfl, hx, rfl⟩
    · intro ρ W ⟨kc, kg, kf⟩ hF hs
      obtain ⟨h0, -⟩ := hs
      replace h0 : ρ (.tmp 0) = .int .i64 (0) := h0
      go_simp
      exact ⟨Ext.refl _, rfl⟩
    · intro ρ W ⟨kc, kg, kf⟩ hF hs
      obtain ⟨h0, -⟩ := hs
      replace h0 : ρ (.tmp 19) = .int .i64 (0) := h0
      go_simp
      exact ⟨Ext.refl _, rfl⟩
    · intro ρ W ⟨kc, kg, kf⟩ hF hs
      obtain ⟨h0, -⟩ := hs
      replace h0 : ρ (.tmp 20) = .bool (decide (0 < 0)) := h0
      go_simp
      exact ⟨Ext.refl _, rfl⟩
    · exact fun _ => rfl
    · exact fun _ => rfl
    · exact fun _ => rfl
    · exact fun _ => rfl
    · exact fun _ => rfl
    · exact fun _ => rfl
    · exact fun _ => rfl
    · exact fun _ => rfl
    · exact fun _ => rfl
    · intro ρ W ⟨kc, kg, kf⟩ hF hs
      obtain ⟨h0, h1, -⟩ := hs
      replace h0 : ρ (.tmp 21) = .bool (decide (0 < 0)) := h0
      replace h1 : ρ (.tmp 30) = undef := h1
      go_simp
      exact ⟨Ext.refl _, rfl⟩
    · intro ρ W ⟨kc, kg, kf⟩ hF hs
      obtain ⟨h0, -⟩ := hs
      replace h0 : ρ (.tmp 31) = .bool (false) := h0
      go_simp
      refine (errorIf_any _ _ _).mono ?_; rintro e w' ⟨rfl, rfl⟩; exact ⟨_, rfl, Ext.refl _, rfl⟩
    · intro ρ W ⟨kc, kg, kf⟩ hF hs
      obtain ⟨h0, h1, h2, -⟩ := hs
      replace h0 : ρ (.tmp 15) = .int .i64 (rangeE (0) (2000) [x.f, x.lo, x.hi]) := h0
      replace h1 : ρ (.tmp 18) = .int .i64 (errIf (decide (x.hi < x.lo)) 9) := h1
      replace h2 : ρ (.tmp 32) = .int .i64 (errIf (false) 9) := h2
      go_simp
      exact ⟨Ext.alloc _ _, ints_new _ [rangeE (0) (2000) [x.f, x.lo, x.hi], errIf (decide (x.hi < x.lo)) 9, errIf (false) 9] _ (by simp)⟩
    · intro ρ W ⟨kc, kg, kf⟩ hF hs
      obtain ⟨h0, -⟩ := hs
      replace h0 : (Ints [rangeE (0) (2000) [x.f, x.lo, x.hi], errIf (decide (x.hi < x.lo)) 9, errIf (false) 9]) (ρ (.tmp 33)) W := h0
      go_simp
      refine (firstOf_any _ _ _ h0).mono ?_; rintro e w' ⟨rfl, rfl⟩; exact ⟨_, rfl, Ext.refl _, rfl⟩
    · intro ρ W ⟨kc, kg, kf⟩ hF hs
      obtain ⟨h0, -⟩ := hs
      replace h0 : ρ (.tmp 34) = .int .i64 (firstE [rangeE (0) (2000) [x.f, x.lo, x.hi], errIf (decide (x.hi < x.lo)) 9, errIf (false) 9]) := h0
      go_simp
      exact ⟨Ext.refl _, rfl⟩
  · intro fv W hF hs
    obtain ⟨-, -, -, -, -, -, -, -, -, -, -, -, -, -, -, -, -, -, -, -, -, -, -, -, -, -, -, -, -, h5, -⟩ := hs
    replace h5 : fv 5 = .int .i64 (firstE [rangeE (0) (2000) [x.f, x.lo, x.hi], errIf (decide (x.hi < x.lo)) 9, errIf (false) 9]) := h5
    simp only [fin, List.filterMap]
    go_simp
    go_wp2
    go_ret
    exact ⟨ret_int HE.out.symm, E0.out.trans hF⟩
set_option maxRecDepth 100000 in
set_option maxHeartbeats 1000000 in
theorem kntErr1 {b o n ca i tb to : Nat} {x y : Kn} {w : World} (hnb : n ≤ 1152921504606846976) (hi : i < n) (ht : w.cell? ⟨tb, to, none⟩ = some (.slice (some ⟨b, o, none⟩) n ca))
    (q0 : w.cell? ⟨b, o + i * 3, none⟩ = some (.int .i64 y.f)) (q1 : w.cell? ⟨b, o + i * 3 + 1, none⟩ = some (.int .i64 y.lo)) (q2 : w.cell? ⟨b, o + i * 3 + 2, none⟩ = some (.int .i64 y.hi)) :
    Calls Try.prog 90 #[.int .i64 ((i : Int) + 1), .agg #[.int .i64 x.f, .int .i64 x.lo, .int .i64 x.hi], .pointer (some ⟨tb, to, none⟩)] w fun e w' => e = .returned (.int .i64 (kntE (!aftB x y) x)) ∧ Ext w w' := by
  have HE := Lib.hid (show kntE (!aftB x y) x = firstE [rangeE 0 2000 [x.f, x.lo, x.hi], errIf (decide (x.hi < x.lo)) 9, errIf (!aftB x y) 9] from rfl)
  have HAF := Lib.hid (fun W => isAfter_any x y W)
  obtain ⟨W0, hW0⟩ : ∃ W0, W0 = w.alloc (.cells #[.int .i64 x.f, .int .i64 x.lo, .int .i64 x.hi] 78) := ⟨_, rfl⟩
  have k0 : Blk W0 w.heap.size 78 #[.int .i64 x.f, .int .i64 x.lo, .int .i64 x.hi] := by rw [hW0]; exact Blk.new _ _ _
  have E0 := Lib.hid (show Ext w W0 by rw [hW0]; exact Ext.alloc _ _)
  have yt : W0.cell? ⟨tb, to, none⟩ = some (.slice (some ⟨b, o, none⟩) n ca) := E0.out.cell ht
  have y0 : W0.cell? ⟨w.heap.size, 0, none⟩ = some (.int .i64 (x.f)) := k0.cell 0
  have y1 : W0.cell? ⟨w.heap.size, 1, none⟩ = some (.int .i64 (x.lo)) := k0.cell 1
  have y2 : W0.cell? ⟨w.heap.size, 2, none⟩ = some (.int .i64 (x.hi)) := k0.cell 2
  clear k0 ht
  have r0 := E0.out.cell q0
  have r1 := E0.out.cell q1
  have r2 := E0.out.cell q2
  clear q0 q1 q2
  go_enter Try.func90, Try.ntmps90
  go_wp2
  rw [← hW0]
  clear hW0
  go_wp2
  refine wp_region_eachG [(21, true), (21, true), (21, true), (21, true), (21, true), (21, true), (21, true), (21, true), (21, true)] [some 6, some 7, some 8, some 9, some 10, some 11, some 12, some 13, some 14, some 15, some 16, some 17, some 18, some 19, some 20, some 21, some 22, some 23, some 24, some 25, some 26, some 27, some 28, some 29, some 30, some 31, some 32, some 33, some 34, some 5] [[4], [6], [4], [8], [9], [4], [11], [12], [7, 10, 13], [14], [4], [16], [17], [0], [19], [20], [4, 21], [2, 21], [23, 21], [0, 21], [25, 21], [24, 26, 21], [27, 21], [22, 28, 21], [29, 21], [21, 30], [31], [15, 18, 32], [33], [34]]
    [Is (.pointer (some ⟨w.heap.size, 0, none⟩)), Is (.int .i64 (x.f)), Is (.pointer (some ⟨w.heap.size, 1, none⟩)), Is (.pointer (some ⟨w.heap.size, 1, none⟩)), Is (.int .i64 (x.lo)), Is (.pointer (some ⟨w.heap.size, 1, none⟩)), Is (.pointer (some ⟨w.heap.size, 2, none⟩)), Is (.int .i64 (x.hi)), Ints [x.f, x.lo, x.hi], Is (.int .i64 (rangeE (0) (2000) [x.f, x.lo, x.hi])), Is (.pointer (some ⟨w.heap.size, 1, none⟩)), Is (.agg #[.int .i64 (x.lo), .int .i64 (x.hi)]), Is (.int .i64 (errIf (decide (x.hi < x.lo)) 9)), Is (.int .i64 ((i : Int) + 1)), Is (.bool (true)), Is (.bool (true)), Is (.agg #[.int .i64 (x.f), .int .i64 (x.lo), .int .i64 (x.hi)]), Is (.pointer (some ⟨tb, to, none⟩)), Is (.slice (some ⟨b, o, none⟩) n ca), Is (.int .i64 ((i : Int) + 1)), Is (.int .i64 ((i : Int))), Is (.pointer (some ⟨b, o + i * 3, none⟩)), Is (.agg #[.int .i64 y.f, .int .i64 y.lo, .int .i64 y.hi]), Is (.bool (aftB x y)), Is (.bool (!aftB x y)), Is (.bool (!aftB x y)), Is (.int .i64 (errIf (!aftB x y) 9)), Ints [rangeE (0) (2000) [x.f, x.lo, x.hi], errIf (decide (x.hi < x.lo)) 9, errIf (!aftB x y) 9], Is (.int .i64 (firstE [rangeE (0) (2000) [x.f, x.lo, x.hi], errIf (decide (x.hi < x.lo)) 9, errIf (!aftB x y) 9])), Is (.int .i64 (firstE [rangeE (0) (2000) [x.f, x.lo, x.hi], errIf (decide (x.hi < x.lo)) 9, errIf (!aftB x y) 9]))]
    (by kernel_rfl) (by kernel_rfl) (by kernel_rfl) (by kernel_rfl) (by kernel_rfl) Ext (fun W => Ext W0 W)
    (fun W _ => Ext.refl W) (fun W W' h k => h.trans k) ?_ (by intro p hp; simp at hp; first | (subst hp; exact ⟨_, rfl, fun _ _ h => h⟩) | (rcases hp with rfl | rfl <;> exact ⟨_, rfl, fun _ _ h => h⟩) | (rcases hp with rfl | rfl | rfl <;> exact ⟨_, rfl, fun _ _ h => h⟩)) (Ext.drew _) ?_ ?_
  · repeat (refine ⟨fun _ _ _ _ k h => (by first | exact h | exact (IntsAt.ext h k)), ?_⟩)
    exact trivial
  · refine ⟨?_, ?_, ?_, ?_, ?_, ?_, ?_, ?_, ?_, ?_, ?_, ?_, ?_, ?_, ?_, ?_, ?_, ?_, ?_, ?_, ?_, ?_, ?_, ?_, ?_, ?_, ?_, ?_, ?_, ?_, trivial⟩
    all_goals intro ρ W ⟨kc, kg, kf⟩ hF hs
    · obtain ⟨h0, -⟩ := hs
      replace h0 : ρ (.tmp 4) = .pointer (some ⟨w.heap.size, 0, none⟩) := h0
      go_simp
      exact ⟨Ext.refl _, rfl⟩
    · obtain ⟨h0, -⟩ := hs
      replace h0 : ρ (.tmp 6) = .pointer (some ⟨w.heap.size, 0, none⟩) := h0
      have hc0 : W.cell? ⟨w.heap.size, 0, none⟩ = some (.int .i64 (x.f)) := hF.cell (by assumption)
      go_simp
      exact ⟨Ext.refl _, rfl⟩
    · obtain ⟨h0, -⟩ := hs
      replace h0 : ρ (.tmp 4) = .pointer (some ⟨w.heap.size, 0, none⟩) := h0
      go_simp
      exact ⟨Ext.refl _, rfl⟩
    · obtain ⟨h0, -⟩ := hs
      replace h0 : ρ (.tmp 8) = .pointer (some ⟨w.heap.size, 1, none⟩) := h0
      go_simp
      exact ⟨Ext.refl _, rfl⟩
    · obtain ⟨h0, -⟩ := hs
      replace h0 : ρ (.tmp 9) = .pointer (some ⟨w.heap.size, 1, none⟩) := h0
      have hc0 : W.cell? ⟨w.heap.size, 1, none⟩ = some (.int .i64 (x.lo)) := hF.cell (by assumption)
      go_simp
      exact ⟨Ext.refl _, rfl⟩
    · obtain ⟨h0, -⟩ := hs
      replace h0 : ρ (.tmp 4) = .pointer (some ⟨w.heap.size, 0, none⟩) := h0
      go_simp
      exact ⟨Ext.refl _, rfl⟩
    · obtain ⟨h0, -⟩ := hs
      replace h0 : ρ (.tmp 11) = .pointer (some ⟨w.heap.size, 1, none⟩) := h0
      go_simp
      exact ⟨Ext.refl _, rfl⟩
    · obtain ⟨h0, -⟩ := hs
      replace h0 : ρ (.tmp 12) = .pointer (some ⟨w.heap.size, 2, none⟩) := h0
      have hc0 : W.cell? ⟨w.heap.size, 2, none⟩ = some (.int .i64 (x.hi)) := hF.cell (by assumption)
      go_simp
      exact ⟨Ext.refl _, rfl⟩
    · obtain ⟨h0, h1, h2, -⟩ := hs
      replace h0 : ρ (.tmp 7) = .int .i64 (x.f) := h0
      replace h1 : ρ (.tmp 10) = .int .i64 (x.lo) := h1
      replace h2 : ρ (.tmp 13) = .int .i64 (x.hi) := h2
      go_simp
      exact ⟨Ext.alloc _ _, ints_new _ [x.f, x.lo, x.hi] _ (by simp)⟩
    · obtain ⟨h0, -⟩ := hs
      replace h0 : (Ints [x.f, x.lo, x.hi]) (ρ (.tmp 14)) W := h0
      go_simp
      refine (rangeError_any _ _ _ _ _ h0).mono ?_; rintro e w' ⟨rfl, hx⟩; exact ⟨_, rfl, hx, rfl⟩
    · obtain ⟨h0, -⟩ := hs
      replace h0 : ρ (.tmp 4) = .pointer (some ⟨w.heap.size, 0, none⟩) := h0
      go_simp
      exact ⟨Ext.refl _, rfl⟩
    · obtain ⟨h0, -⟩ := hs
      replace h0 : ρ (.tmp 16) = .pointer (some ⟨w.heap.size, 1, none⟩) := h0
      have hc0 : W.cell? ⟨w.heap.size, 1, none⟩ = some (.int .i64 (x.lo)) := hF.cell (by assumption)
      have hc1 : W.cell? ⟨w.heap.size, 2, none⟩ = some (.int .i64 (x.hi)) := hF.cell (by assumption)
      go_simp
      exact ⟨Ext.refl _, rfl⟩
    · obtain ⟨h0, -⟩ := hs
      replace h0 : ρ (.tmp 17) = .agg #[.int .i64 (x.lo), .int .i64 (x.hi)] := h0
      go_simp
      refine (orderError_any _ _ _).mono ?_; rintro e w' ⟨rfl, hx⟩; exact ⟨_, rfl, hx, rfl⟩
    · obtain ⟨h0, -⟩ := hs
      replace h0 : ρ (.tmp 0) = .int .i64 ((i : Int) + 1) := h0
      go_simp
      exact ⟨Ext.refl _, rfl⟩
    · obtain ⟨h0, -⟩ := hs
      replace h0 : ρ (.tmp 19) = .int .i64 ((i : Int) + 1) := h0
      have hg : (0 : Int) < (i : Int) + 1 := by omega
      go_simp
      exact ⟨Ext.refl _, rfl⟩
    · obtain ⟨h0, -⟩ := hs
      replace h0 : ρ (.tmp 20) = .bool (true) := h0
      go_simp
      exact ⟨Ext.refl _, rfl⟩
    · obtain ⟨h0, h1, -⟩ := hs
      replace h0 : ρ (.tmp 4) = .pointer (some ⟨w.heap.size, 0, none⟩) := h0
      replace h1 : ρ (.tmp 21) = .bool (true) := h1
      have hc0 : W.cell? ⟨w.heap.size, 0, none⟩ = some (.int .i64 (x.f)) := hF.cell (by assumption)
      have hc1 : W.cell? ⟨w.heap.size, 1, none⟩ = some (.int .i64 (x.lo)) := hF.cell (by assumption)
      have hc2 : W.cell? ⟨w.heap.size, 2, none⟩ = some (.int .i64 (x.hi)) := hF.cell (by assumption)
      go_simp
      exact ⟨Ext.refl _, rfl⟩
    · obtain ⟨h0, h1, -⟩ := hs
      replace h0 : ρ (.tmp 2) = .pointer (some ⟨tb, to, none⟩) := h0
      replace h1 : ρ (.tmp 21) = .bool (true) := h1
      go_simp
      exact ⟨Ext.refl _, rfl⟩
    · obtain ⟨h0, h1, -⟩ := hs
      replace h0 : ρ (.tmp 23) = .pointer (some ⟨tb, to, none⟩) := h0
      replace h1 : ρ (.tmp 21) = .bool (true) := h1
      have hc0 : W.cell? ⟨tb, to, none⟩ = some (.slice (some ⟨b, o, none⟩) n ca) := hF.cell (by assumption)
      go_simp
      exact ⟨Ext.refl _, rfl⟩
    · obtain ⟨h0, h1, -⟩ := hs
      replace h0 : ρ (.tmp 0) = .int .i64 ((i : Int) + 1) := h0
      replace h1 : ρ (.tmp 21) = .bool (true) := h1
      go_simp
      exact ⟨Ext.refl _, rfl⟩
    · obtain ⟨h0, h1, -⟩ := hs
      replace h0 : ρ (.tmp 25) = .int .i64 ((i : Int) + 1) := h0
      replace h1 : ρ (.tmp 21) = .bool (true) := h1
      have hw : IntKind.i64.wrap ((i : Int)) = (i : Int) := wrap_id _ (by omega) (by omega)
      go_simp
      exact ⟨Ext.refl _, rfl⟩
    · obtain ⟨h0, h1, h2, -⟩ := hs
      replace h0 : ρ (.tmp 24) = .slice (some ⟨b, o, none⟩) n ca := h0
      replace h1 : ρ (.tmp 26) = .int .i64 ((i : Int)) := h1
      replace h2 : ρ (.tmp 21) = .bool (true) := h2
      have hb2 : (i : Int) < (n : Int) := by omega
      have hb3 : i < n := by omega
      go_simp
      exact ⟨Ext.refl _, rfl⟩
    · obtain ⟨h0, h1, -⟩ := hs
      replace h0 : ρ (.tmp 27) = .pointer (some ⟨b, o + i * 3, none⟩) := h0
      replace h1 : ρ (.tmp 21) = .bool (true) := h1
      have hc0 : W.cell? ⟨b, o + i * 3, none⟩ = some (.int .i64 (y.f)) := hF.cell (by assumption)
      have hc1 : W.cell? ⟨b, o + i * 3 + 1, none⟩ = some (.int .i64 (y.lo)) := hF.cell (by assumption)
      have hc2 : W.cell? ⟨b, o + i * 3 + 2, none⟩ = some (.int .i64 (y.hi)) := hF.cell (by assumption)
      go_simp
      exact ⟨Ext.refl _, rfl⟩
    · obtain ⟨h0, h1, h2, -⟩ := hs
      replace h0 : ρ (.tmp 22) = .agg #[.int .i64 (x.f), .int .i64 (x.lo), .int .i64 (x.hi)] := h0
      replace h1 : ρ (.tmp 28) = .agg #[.int .i64 y.f, .int .i64 y.lo, .int .i64 y.hi] := h1
      replace h2 : ρ (.tmp 21) = .bool (true) := h2
      go_simp
      refine (HAF.out _).mono ?_; rintro e w' ⟨rfl, hx⟩; exact ⟨_, rfl, hx, rfl⟩
    · obtain ⟨h0, h1, -⟩ := hs
      replace h0 : ρ (.tmp 29) = .bool (aftB x y) := h0
      replace h1 : ρ (.tmp 21) = .bool (true) := h1
      go_simp
      exact ⟨Ext.refl _, rfl⟩
    · obtain ⟨h0, h1, -⟩ := hs
      replace h0 : ρ (.tmp 21) = .bool (true) := h0
      replace h1 : ρ (.tmp 30) = .bool (!aftB x y) := h1
      go_simp
      exact ⟨Ext.refl _, rfl⟩
    · obtain ⟨h0, -⟩ := hs
      replace h0 : ρ (.tmp 31) = .bool (!aftB x y) := h0
      go_simp
      refine (errorIf_any _ _ _).mono ?_; rintro e w' ⟨rfl, rfl⟩; exact ⟨_, rfl, Ext.refl _, rfl⟩
    · obtain ⟨h0, h1, h2, -⟩ := hs
      replace h0 : ρ (.tmp 15) = .int .i64 (rangeE (0) (2000) [x.f, x.lo, x.hi]) := h0
      replace h1 : ρ (.tmp 18) = .int .i64 (errIf (decide (x.hi < x.lo)) 9) := h1
      replace h2 : ρ (.tmp 32) = .int .i64 (errIf (!aftB x y) 9) := h2
      go_simp
      exact ⟨Ext.alloc _ _, ints_new _ [rangeE (0) (2000) [x.f, x.lo, x.hi], errIf (decide (x.hi < x.lo)) 9, errIf (!aftB x y) 9] _ (by simp)⟩
    · obtain ⟨h0, -⟩ := hs
      replace h0 : (Ints [rangeE (0) (2000) [x.f, x.lo, x.hi], errIf (decide (x.hi < x.lo)) 9, errIf (!aftB x y) 9]) (ρ (.tmp 33)) W := h0
      go_simp
      refine (firstOf_any _ _ _ h0).mono ?_; rintro e w' ⟨rfl, rfl⟩; exact ⟨_, rfl, Ext.refl _, rfl⟩
    · obtain ⟨h0, -⟩ := hs
      replace h0 : ρ (.tmp 34) = .int .i64 (firstE [rangeE (0) (2000) [x.f, x.lo, x.hi], errIf (decide (x.hi < x.lo)) 9, errIf (!aftB x y) 9]) := h0
      go_simp
      exact ⟨Ext.refl _, rfl⟩
  · intro fv W hF hs
    obtain ⟨-, -, -, -, -, -, -, -, -, -, -, -, -, -, -, -, -, -, -, -, -, -, -, -, -, -, -, -, -, h5, -⟩ := hs
    replace h5 : fv 5 = .int .i64 (firstE [rangeE (0) (2000) [x.f, x.lo, x.hi], errIf (decide (x.hi < x.lo)) 9, errIf (!aftB x y) 9]) := h5
    simp only [fin, List.filterMap]
    go_simp
    go_wp2
    go_ret
    exact ⟨ret_int HE.out.symm, E0.out.trans hF⟩
theorem kntErr_any {A : Option Addr} {n ca i tb to : Nat} {xs : List Kn} {x : Kn} {w : World} (hn : xs.length = n) (hA : RowsAt 3 Kn.enc w A xs) (ht : w.cell? ⟨tb, to, none⟩ = some (.slice A n ca)) (hx : xs[i]? = some x) :
    Calls Try.prog 90 #[.int .i64 (i : Int), .agg #[.int .i64 x.f, .int .i64 x.lo, .int .i64 x.hi], .pointer (some ⟨tb, to, none⟩)] w fun e w' => e = .returned (.int .i64 (kntE (befK xs i) x)) ∧ Ext w w' := by
  have hl := hA.1
  have hin := (List.getElem?_eq_some_iff.1 hx).1
  obtain ⟨b, o, rfl, hb, hc⟩ := row_at hA hx
  cases i with
  | zero => exact kntErr0 ht
  | succ i =>
    have hy : xs[i]? = some (xs.getD i default) := by rw [List.getD_eq_getElem?_getD, List.getElem?_eq_getElem (by omega)]; rfl
    obtain ⟨b2, o2, he, _, hc2⟩ := row_at hA hy
    obtain ⟨rfl, rfl⟩ : b = b2 ∧ o = o2 := by simpa using he
    have := kntErr1 (x := x) (by omega) (show i < n by omega) ht (hc2 0 _ rfl) (hc2 1 _ rfl) (hc2 2 _ rfl)
    rw [show befK xs (i + 1) = !aftB x (xs.getD i default) by unfold befK; rw [if_neg (by omega), show xs.getD (i + 1) default = x by simp [hx]]; rfl]
    exact this

set_option maxRecDepth 100000 in
set_option maxHeartbeats 1000000 in
theorem firstError89_any {A : Option Addr} {n ca : Nat} {xs : List Kn} {w : World} {E : Nat → Int} {cp : Array Value} (hn : xs.length = n) (hA : RowsAt 3 Kn.enc w A xs)
    (hF : ∀ (i : Nat) (x : Kn) (W : World), xs[i]? = some x → Ext w W → Calls Try.prog 90 (#[.int .i64 (i : Int), .agg #[.int .i64 x.f, .int .i64 x.lo, .int .i64 x.hi]] ++ cp) W fun e w' => e = .returned (.int .i64 (E i)) ∧ Ext W w') :
    Calls Try.prog 89 #[.slice A n ca, .func (.func 90) #[] cp] w fun e w' => e = .returned (.tuple #[.int .i64 (firstAt E n 0).1, .int .i64 (firstAt E n 0).2]) ∧ Ext w w' := by
  have HN := Lib.hid hn
  have HA := Lib.hid hA
  have HF := Lib.hid hF
  have hnb : n ≤ 1152921504606846976 := by have := hA.1; omega
  clear hn hA hF
  go_enter Try.func89, Try.ntmps89
  go_wp2
  go_loopw [11] (fun i wr => ∃ k : Nat, k ≤ n ∧ i = .int .i64 k ∧ firstAt E n 0 = firstAt E (n - k) k ∧ Ext w wr) (fun i _ => n - (intOf i).toNat)
  case atStart => exact ⟨0, Nat.zero_le _, rfl, by rw [Nat.sub_zero], Ext.refl _⟩
  case round =>
    obtain ⟨k, hk, rfl, hr, hx⟩ := hrel
    have X := Lib.hid hx
    have R := Lib.hid hr
    clear hx hr
    by_cases hlt : k < n
    · have R2 := Lib.hid (R.out.trans (firstAt_step E hlt))
      clear R
      obtain ⟨x, hx⟩ : ∃ x, xs[k]? = some x := ⟨_, List.getElem?_eq_getElem (by rw [HN.out]; exact hlt)⟩
      obtain ⟨b, o, rfl, hb, hc⟩ := row_at (HA.out.ext X.out) hx
      have HX := Lib.hid hx
      have p0 := hc 0 _ rfl
      have p1 := hc 1 _ rfl
      have p2 := hc 2 _ rfl
      simp only [Nat.add_zero] at p0
      have HC := Lib.hid (fun W (e : Ext w W) => HF.out k x W HX.out e)
      clear hc hx
      have hki : (k : Int) < (n : Int) := by omega
      by_cases hz : E k = 0
      · have hz2 : (E k != 0) = false := by simp [hz]
        have HZ := Lib.hid hz
        clear hz
        generalize hE : E k = z at *
        have HE := Lib.hid hE
        clear hE
        go_wp2_with (go_at_call 90; refine (HC.out _ (X.out.trans (Ext.alloc _ _))).mono ?_; rintro e W1 ⟨rfl, hx⟩; have X1 := Lib.hid ((X.out.trans (Ext.alloc _ _)).trans hx); clear hx)
        go_roundw
        case rel => exact ⟨k + 1, by omega, by go_num, by rw [R2.out, if_neg (by simpa using HZ.out)], X1.out⟩
        case measure => simp [intOf]; omega
      · have hz2 : (E k != 0) = true := by simp [hz]
        have HZ := Lib.hid hz
        clear hz
        generalize hE : E k = z at *
        have HE := Lib.hid hE
        clear hE
        go_wp2_with (go_at_call 90; refine (HC.out _ (X.out.trans (Ext.alloc _ _))).mono ?_; rintro e W1 ⟨rfl, hx⟩; have X1 := Lib.hid ((X.out.trans (Ext.alloc _ _)).trans hx); clear hx)
        go_ret2
        exact ⟨ret_two (by rw [R2.out, if_pos HZ.out]) (by rw [R2.out, if_pos HZ.out]), X1.out⟩
    · have R2 := Lib.hid (show firstAt E n 0 = (0, 0) by rw [R.out, show n - k = 0 by omega]; rfl)
      have hkn : ¬ (k : Int) < (n : Int) := by omega
      go_wp2
      go_ret2
      exact ⟨ret_two (by rw [R2.out]) (by rw [R2.out]), X.out⟩


def tabAt (xs : List Kn) (i : Nat) : Int := kntE (befK xs i) (xs.getD i default)
def checkX (xs : List Kn) : Int × Int := if countE xs.length 2 12 ≠ 0 then (0, countE xs.length 2 12) else firstAt (tabAt xs) xs.length 0

set_option maxRecDepth 100000 in
set_option maxHeartbeats 1000000 in
theorem checkTable_any {A : Option Addr} {n ca : Nat} {xs : List Kn} {w : World} (hn : xs.length = n) (hA : RowsAt 3 Kn.enc w A xs) :
    Calls Try.prog 34 #[.agg #[.slice A n ca]] w fun e w' => e = .returned (.tuple #[.int .i64 (checkX xs).1, .int .i64 (checkX xs).2]) ∧ Ext w w' := by
  have hnb : n ≤ 1152921504606846976 := by have := hA.1; omega
  have HT := Lib.hid (show checkX xs = if countE n 2 12 ≠ 0 then (0, countE n 2 12) else firstAt (tabAt xs) n 0 by rw [← hn]; rfl)
  obtain ⟨W0, hW0⟩ : ∃ W0, W0 = w.alloc (.cells #[.slice A n ca] 64) := ⟨_, rfl⟩
  have k0 : Blk W0 w.heap.size 64 #[.slice A n ca] := by rw [hW0]; exact Blk.new _ _ _
  have E0 := Lib.hid (show Ext w W0 by rw [hW0]; exact Ext.alloc _ _)
  have y0 : W0.cell? ⟨w.heap.size, 0, none⟩ = some (.slice A n ca) := k0.cell 0
  have K0 := Lib.hid k0
  have HFE := Lib.hid (fun W (e : Ext W0 W) => firstError89_any (ca := ca) (E := tabAt xs) (cp := #[.pointer (some ⟨w.heap.size, 0, none⟩)]) hn (hA.ext (E0.out.trans e)) (fun i x W2 hx e2 => by
    have := kntErr_any (ca := ca) (i := i) (tb := w.heap.size) (to := 0) hn (hA.ext (E0.out.trans (e.trans e2))) ((e.trans e2).cell (K0.out.cell 0)) hx
    have hd : xs.getD i default = x := by simp [hx]
    unfold tabAt
    rw [hd]
    exact this))
  generalize firstAt (tabAt xs) n 0 = fa at *
  clear k0 hA hn
  by_cases hz : countE n 2 12 = 0
  · have hz2 : (countE n 2 12 != 0) = false := by simp [hz]
    have HZ := Lib.hid hz
    clear hz
    have HC := Lib.hid (fun W => countError_any n 2 12 W)
    generalize countE n 2 12 = z at *
    go_enter Try.func34, Try.ntmps34
    go_wp2_with (fail)
    rw [← hW0]
    clear hW0
    go_wp2_with (go_at_call 75; refine (HC.out _).mono ?_; rintro e W1 ⟨rfl, hx⟩; have X1 := Lib.hid hx; have z0 := X1.out.cell y0; clear hx; refine Hid.out ?_)
    refine Lib.hid ?_
    go_wp2_with (go_at_call 89; refine (HFE.out _ X1.out).mono ?_; rintro e W2 ⟨rfl, hx⟩; have X2 := Lib.hid hx; clear hx)
    go_ret2
    exact ⟨ret_two (by rw [HT.out, if_neg (by simpa using HZ.out)]) (by rw [HT.out, if_neg (by simpa using HZ.out)]), E0.out.trans (X1.out.trans X2.out)⟩
  · have hz2 : (countE n 2 12 != 0) = true := by simp [hz]
    have HZ := Lib.hid hz
    clear hz
    have HC := Lib.hid (fun W => countError_any n 2 12 W)
    generalize countE n 2 12 = z at *
    go_enter Try.func34, Try.ntmps34
    go_wp2_with (fail)
    rw [← hW0]
    clear hW0
    go_wp2_with (go_at_call 75; refine (HC.out _).mono ?_; rintro e W1 ⟨rfl, hx⟩; have X1 := Lib.hid hx; have z0 := X1.out.cell y0; clear hx; refine Hid.out ?_)
    refine Lib.hid ?_
    go_wp2
    go_ret2
    exact ⟨ret_two (by rw [HT.out, if_pos HZ.out]) (by rw [HT.out, if_pos HZ.out]), E0.out.trans X1.out⟩
set_option maxRecDepth 100000 in
theorem tableError_any {A : Option Addr} {n ca : Nat} {xs : List Kn} {w : World} (hn : xs.length = n) (hA : RowsAt 3 Kn.enc w A xs) :
    Calls Try.prog 92 #[.agg #[.slice A n ca]] w fun e w' => e = .returned (.int .i64 (checkX xs).2) ∧ Ext w w' := by
  have HC := Lib.hid (fun W (e : Ext w W) => checkTable_any (ca := ca) hn (hA.ext e))
  clear hn hA
  go_enter Try.func92, Try.ntmps92
  go_wp2_with (go_at_call 34; refine (HC.out _ (Ext.alloc _ _)).mono ?_; rintro e W1 ⟨rfl, hx⟩; have X1 := Lib.hid hx; clear hx)
  go_ret
  exact ⟨rfl, (Ext.alloc _ _).trans X1.out⟩


def endsE (a b : Int) : Int := firstE [rangeE 0 10000 [a, b], errIf (decide (b < a)) 9]
set_option maxRecDepth 100000 in
set_option maxHeartbeats 1000000 in
theorem endsError_any (a b : Int) (w : World) : Calls Try.prog 93 #[.agg #[.int .i64 a, .int .i64 b]] w fun e w' => e = .returned (.int .i64 (endsE a b)) ∧ Ext w w' := by
  obtain ⟨W0, hW0⟩ : ∃ W0, W0 = w.alloc (.cells #[.int .i64 a, .int .i64 b] 41) := ⟨_, rfl⟩
  have k0 : Blk W0 w.heap.size 41 #[.int .i64 a, .int .i64 b] := by rw [hW0]; exact Blk.new _ _ _
  have E0 := Lib.hid (show Ext w W0 by rw [hW0]; exact Ext.alloc _ _)
  have y0 : W0.cell? ⟨w.heap.size, 0, none⟩ = some (.int .i64 (a)) := k0.cell 0
  have y1 : W0.cell? ⟨w.heap.size, 1, none⟩ = some (.int .i64 (b)) := k0.cell 1
  have HE := Lib.hid (show endsE a b = firstE [rangeE 0 10000 [a, b], errIf (decide (b < a)) 9] from rfl)
  clear k0
  go_enter Try.func93, Try.ntmps93
  go_wp2
  rw [← hW0]
  clear hW0
  go_wp2
  refine wp_region_each [some 3, some 4, some 5, some 6, some 7, some 8, some 9, some 10, some 11, some 12, some 2] [[1], [3], [1], [5], [4, 6], [7], [1], [9], [8, 10], [11], [12]]
    [Is (.pointer (some ⟨w.heap.size, 0, none⟩)), Is (.int .i64 (a)), Is (.pointer (some ⟨w.heap.size, 1, none⟩)), Is (.int .i64 (b)), Ints [a, b], Is (.int .i64 (rangeE (0) (10000) [a, b])), Is (.agg #[.int .i64 (a), .int .i64 (b)]), Is (.int .i64 (errIf (decide (b < a)) 9)), Ints [rangeE (0) (10000) [a, b], errIf (decide (b < a)) 9], Is (.int .i64 (firstE [rangeE (0) (10000) [a, b], errIf (decide (b < a)) 9])), Is (.int .i64 (firstE [rangeE (0) (10000) [a, b], errIf (decide (b < a)) 9]))]
    (by kernel_rfl) (by kernel_rfl) (by kernel_rfl) (by kernel_rfl) (by kernel_rfl) Ext (fun W => Ext W0 W)
    (fun W _ => Ext.refl W) (fun W W' h k => h.trans k) ?_ (Ext.drew _) ?_ ?_
  · repeat (refine ⟨fun _ _ _ _ k h => (by first | exact h | exact (IntsAt.ext h k)), ?_⟩)
    exact trivial
  · refine ⟨?_, ?_, ?_, ?_, ?_, ?_, ?_, ?_, ?_, ?_, ?_, trivial⟩
    all_goals intro ρ W ⟨kc, kg, kf⟩ hF hs
    · obtain ⟨h0, -⟩ := hs
      replace h0 : ρ (.tmp 1) = .pointer (some ⟨w.heap.size, 0, none⟩) := h0
      go_simp
      exact ⟨Ext.refl _, rfl⟩
    · obtain ⟨h0, -⟩ := hs
      replace h0 : ρ (.tmp 3) = .pointer (some ⟨w.heap.size, 0, none⟩) := h0
      have hc0 : W.cell? ⟨w.heap.size, 0, none⟩ = some (.int .i64 (a)) := hF.cell (by assumption)
      go_simp
      exact ⟨Ext.refl _, rfl⟩
    · obtain ⟨h0, -⟩ := hs
      replace h0 : ρ (.tmp 1) = .pointer (some ⟨w.heap.size, 0, none⟩) := h0
      go_simp
      exact ⟨Ext.refl _, rfl⟩
    · obtain ⟨h0, -⟩ := hs
      replace h0 : ρ (.tmp 5) = .pointer (some ⟨w.heap.size, 1, none⟩) := h0
      have hc0 : W.cell? ⟨w.heap.size, 1, none⟩ = some (.int .i64 (b)) := hF.cell (by assumption)
      go_simp
      exact ⟨Ext.refl _, rfl⟩
    · obtain ⟨h0, h1, -⟩ := hs
      replace h0 : ρ (.tmp 4) = .int .i64 (a) := h0
      replace h1 : ρ (.tmp 6) = .int .i64 (b) := h1
      go_simp
      exact ⟨Ext.alloc _ _, ints_new _ [a, b] _ (by simp)⟩
    · obtain ⟨h0, -⟩ := hs
      replace h0 : (Ints [a, b]) (ρ (.tmp 7)) W := h0
      go_simp
      refine (rangeError_any _ _ _ _ _ h0).mono ?_; rintro e w' ⟨rfl, hx⟩; exact ⟨_, rfl, hx, rfl⟩
    · obtain ⟨h0, -⟩ := hs
      replace h0 : ρ (.tmp 1) = .pointer (some ⟨w.heap.size, 0, none⟩) := h0
      have hc0 : W.cell? ⟨w.heap.size, 0, none⟩ = some (.int .i64 (a)) := hF.cell (by assumption)
      have hc1 : W.cell? ⟨w.heap.size, 1, none⟩ = some (.int .i64 (b)) := hF.cell (by assumption)
      go_simp
      exact ⟨Ext.refl _, rfl⟩
    · obtain ⟨h0, -⟩ := hs
      replace h0 : ρ (.tmp 9) = .agg #[.int .i64 (a), .int .i64 (b)] := h0
      go_simp
      refine (orderError_any _ _ _).mono ?_; rintro e w' ⟨rfl, hx⟩; exact ⟨_, rfl, hx, rfl⟩
    · obtain ⟨h0, h1, -⟩ := hs
      replace h0 : ρ (.tmp 8) = .int .i64 (rangeE (0) (10000) [a, b]) := h0
      replace h1 : ρ (.tmp 10) = .int .i64 (errIf (decide (b < a)) 9) := h1
      go_simp
      exact ⟨Ext.alloc _ _, ints_new _ [rangeE (0) (10000) [a, b], errIf (decide (b < a)) 9] _ (by simp)⟩
    · obtain ⟨h0, -⟩ := hs
      replace h0 : (Ints [rangeE (0) (10000) [a, b], errIf (decide (b < a)) 9]) (ρ (.tmp 11)) W := h0
      go_simp
      refine (firstOf_any _ _ _ h0).mono ?_; rintro e w' ⟨rfl, rfl⟩; exact ⟨_, rfl, Ext.refl _, rfl⟩
    · obtain ⟨h0, -⟩ := hs
      replace h0 : ρ (.tmp 12) = .int .i64 (firstE [rangeE (0) (10000) [a, b], errIf (decide (b < a)) 9]) := h0
      go_simp
      exact ⟨Ext.refl _, rfl⟩
  · intro fv W hF hs
    obtain ⟨-, -, -, -, -, -, -, -, -, -, h2, -⟩ := hs
    replace h2 : fv 2 = .int .i64 (firstE [rangeE (0) (10000) [a, b], errIf (decide (b < a)) 9]) := h2
    simp only [fin, List.filterMap]
    go_simp
    go_wp2
    go_ret
    exact ⟨ret_int HE.out.symm, E0.out.trans hF⟩
def missE (f0 f1 a b : Int) : Int := errIf (rangeE f0 f1 [a, b] != 0) 6
set_option maxRecDepth 100000 in
set_option maxHeartbeats 1000000 in
theorem missing_any {A : Option Addr} {n ca : Nat} {xs : List Kn} {x0 x1 : Kn} {w : World} (a c : Int) (hn : xs.length = n) (hA : RowsAt 3 Kn.enc w A xs) (h0 : xs[0]? = some x0) (h1 : xs[n - 1]? = some x1) :
    Calls Try.prog 94 #[.agg #[.slice A n ca], .agg #[.int .i64 a, .int .i64 c]] w fun e w' => e = .returned (.int .i64 (missE x0.f x1.f a c)) ∧ Ext w w' := by
  have hl := hA.1
  have hn0 := (List.getElem?_eq_some_iff.1 h0).1
  rw [hn] at hn0 hl
  obtain ⟨b, o, rfl, hb, hc⟩ := row_at hA h0
  obtain ⟨b2, o2, he, _, hc2⟩ := row_at hA h1
  obtain ⟨rfl, rfl⟩ : b = b2 ∧ o = o2 := by simpa using he
  have p0 := hc 0 _ rfl
  have p1 := hc2 0 _ rfl
  simp only [Nat.zero_mul, Nat.add_zero] at p0 p1
  obtain ⟨W0, hW0⟩ : ∃ W0, W0 = (w.alloc (.cells #[.slice (some ⟨b, o, none⟩) n ca] 64)).alloc (.cells #[.int .i64 a, .int .i64 c] 41) := ⟨_, rfl⟩
  have k0 : Blk W0 w.heap.size 64 #[.slice (some ⟨b, o, none⟩) n ca] := by rw [hW0]; exact (Blk.new _ _ _).alloc _
  have k1 : Blk W0 (w.heap.size + 1) 41 #[.int .i64 a, .int .i64 c] := by rw [hW0]; exact Blk.newAt _ _ _ (by simp)
  have E0 := Lib.hid (show Ext w W0 by rw [hW0]; exact (Ext.alloc _ _).trans (Ext.alloc _ _))
  have y0 : W0.cell? ⟨w.heap.size, 0, none⟩ = some (.slice (some ⟨b, o, none⟩) n ca) := k0.cell 0
  have r0 := E0.out.cell p0
  have r1 := E0.out.cell p1
  have K1 := Lib.hid k1
  clear k0 k1 p0 p1 hc hc2 h0 h1 hA hn he
  go_enter Try.func94, Try.ntmps94
  go_wp2
  rw [← hW0]
  clear hW0
  go_wp2
  refine wp_region_each [some 7, some 8, some 9, some 10, some 11, some 12, some 13, some 14, some 15, some 16, some 17, some 18, some 19, some 20, some 5, some 6] [[2], [7], [8], [9], [10], [2], [12], [2], [14], [15], [16], [13, 17], [18], [19], [11], [20]]
    [Is (.pointer (some ⟨w.heap.size, 0, none⟩)), Is (.slice (some ⟨b, o, none⟩) n ca), Is (.pointer (some ⟨b, o, none⟩)), Is (.pointer (some ⟨b, o, none⟩)), Is (.int .i64 (x0.f)), Is (.pointer (some ⟨w.heap.size, 0, none⟩)), Is (.slice (some ⟨b, o, none⟩) n ca), Is (.pointer (some ⟨w.heap.size, 0, none⟩)), Is (.slice (some ⟨b, o, none⟩) n ca), Is (.int .i64 ((n : Int))), Is (.int .i64 ((n : Int) - 1)), Is (.pointer (some ⟨b, o + (n - 1) * 3, none⟩)), Is (.pointer (some ⟨b, o + (n - 1) * 3, none⟩)), Is (.int .i64 (x1.f)), Is (.int .i64 (x0.f)), Is (.int .i64 (x1.f))]
    (by kernel_rfl) (by kernel_rfl) (by kernel_rfl) (by kernel_rfl) (by kernel_rfl) Ext (fun W => Ext W0 W)
    (fun W _ => Ext.refl W) (fun W W' h k => h.trans k) ?_ (Ext.drew _) ?_ ?_
  · repeat (refine ⟨fun _ _ _ _ k h => (by first | exact h | exact (IntsAt.ext h k)), ?_⟩)
    exact trivial
  · refine ⟨?_, ?_, ?_, ?_, ?_, ?_, ?_, ?_, ?_, ?_, ?_, ?_, ?_, ?_, ?_, ?_, trivial⟩
    all_goals intro ρ W ⟨kc, kg, kf⟩ hF hs
    · obtain ⟨h0, -⟩ := hs
      replace h0 : ρ (.tmp 2) = .pointer (some ⟨w.heap.size, 0, none⟩) := h0
      go_simp
      exact ⟨Ext.refl _, rfl⟩
    · obtain ⟨h0, -⟩ := hs
      replace h0 : ρ (.tmp 7) = .pointer (some ⟨w.heap.size, 0, none⟩) := h0
      have hc0 : W.cell? ⟨w.heap.size, 0, none⟩ = some (.slice (some ⟨b, o, none⟩) n ca) := hF.cell (by assumption)
      go_simp
      exact ⟨Ext.refl _, rfl⟩
    · obtain ⟨h0, -⟩ := hs
      replace h0 : ρ (.tmp 8) = .slice (some ⟨b, o, none⟩) n ca := h0
      have hb2 : (0 : Int) < (n : Int) := by omega
      have hb3 : 0 < n := by omega
      go_simp
      exact ⟨Ext.refl _, rfl⟩
    · obtain ⟨h0, -⟩ := hs
      replace h0 : ρ (.tmp 9) = .pointer (some ⟨b, o, none⟩) := h0
      go_simp
      exact ⟨Ext.refl _, rfl⟩
    · obtain ⟨h0, -⟩ := hs
      replace h0 : ρ (.tmp 10) = .pointer (some ⟨b, o, none⟩) := h0
      have hc0 : W.cell? ⟨b, o, none⟩ = some (.int .i64 (x0.f)) := hF.cell (by assumption)
      go_simp
      exact ⟨Ext.refl _, rfl⟩
    · obtain ⟨h0, -⟩ := hs
      replace h0 : ρ (.tmp 2) = .pointer (some ⟨w.heap.size, 0, none⟩) := h0
      go_simp
      exact ⟨Ext.refl _, rfl⟩
    · obtain ⟨h0, -⟩ := hs
      replace h0 : ρ (.tmp 12) = .pointer (some ⟨w.heap.size, 0, none⟩) := h0
      have hc0 : W.cell? ⟨w.heap.size, 0, none⟩ = some (.slice (some ⟨b, o, none⟩) n ca) := hF.cell (by assumption)
      go_simp
      exact ⟨Ext.refl _, rfl⟩
    · obtain ⟨h0, -⟩ := hs
      replace h0 : ρ (.tmp 2) = .pointer (some ⟨w.heap.size, 0, none⟩) := h0
      go_simp
      exact ⟨Ext.refl _, rfl⟩
    · obtain ⟨h0, -⟩ := hs
      replace h0 : ρ (.tmp 14) = .pointer (some ⟨w.heap.size, 0, none⟩) := h0
      have hc0 : W.cell? ⟨w.heap.size, 0, none⟩ = some (.slice (some ⟨b, o, none⟩) n ca) := hF.cell (by assumption)
      go_simp
      exact ⟨Ext.refl _, rfl⟩
    · obtain ⟨h0, -⟩ := hs
      replace h0 : ρ (.tmp 15) = .slice (some ⟨b, o, none⟩) n ca := h0
      go_simp
      exact ⟨Ext.refl _, rfl⟩
    · obtain ⟨h0, -⟩ := hs
      replace h0 : ρ (.tmp 16) = .int .i64 ((n : Int)) := h0
      have hw : IntKind.i64.wrap ((n : Int) - 1) = (n : Int) - 1 := wrap_id _ (by omega) (by omega)
      go_simp
      exact ⟨Ext.refl _, rfl⟩
    · obtain ⟨h0, h1, -⟩ := hs
      replace h0 : ρ (.tmp 13) = .slice (some ⟨b, o, none⟩) n ca := h0
      replace h1 : ρ (.tmp 17) = .int .i64 ((n : Int) - 1) := h1
      have hb6 : (1 : Int) ≤ (n : Int) := by omega
      have hb2 : (n : Int) - 1 < (n : Int) := by omega
      have hb3 : (0 : Int) ≤ (n : Int) - 1 := by omega
      have hb4 : ((n : Int) - 1).toNat = n - 1 := by omega
      have hb5 : n - 1 < n := by omega
      go_simp
      exact ⟨Ext.refl _, rfl⟩
    · obtain ⟨h0, -⟩ := hs
      replace h0 : ρ (.tmp 18) = .pointer (some ⟨b, o + (n - 1) * 3, none⟩) := h0
      go_simp
      exact ⟨Ext.refl _, rfl⟩
    · obtain ⟨h0, -⟩ := hs
      replace h0 : ρ (.tmp 19) = .pointer (some ⟨b, o + (n - 1) * 3, none⟩) := h0
      have hc0 : W.cell? ⟨b, o + (n - 1) * 3, none⟩ = some (.int .i64 (x1.f)) := hF.cell (by assumption)
      go_simp
      exact ⟨Ext.refl _, rfl⟩
    · obtain ⟨h0, -⟩ := hs
      replace h0 : ρ (.tmp 11) = .int .i64 (x0.f) := h0
      go_simp
      exact ⟨Ext.refl _, rfl⟩
    · obtain ⟨h0, -⟩ := hs
      replace h0 : ρ (.tmp 20) = .int .i64 (x1.f) := h0
      go_simp
      exact ⟨Ext.refl _, rfl⟩
  · intro fv W hF hs
    obtain ⟨-, -, -, -, -, -, -, -, -, -, -, -, -, -, h5, h6, -⟩ := hs
    replace h5 : fv 5 = .int .i64 (x0.f) := h5
    replace h6 : fv 6 = .int .i64 (x1.f) := h6
    simp only [fin, List.filterMap]
    go_simp
    have y2 : W.cell? ⟨w.heap.size + 1, 0, none⟩ = some (.int .i64 a) := (K1.out.ext hF).cell 0
    have y3 : W.cell? ⟨w.heap.size + 1, 1, none⟩ = some (.int .i64 c) := (K1.out.ext hF).cell 1
    have X1 := Lib.hid (E0.out.trans hF)
    clear hF y0 r0 r1
    go_wp2_with (first
      | (go_at_call 79; refine (rangeError_any x0.f x1.f _ [a, c] _ (ints_new _ [a, c] _ (by simp))).mono ?_; rintro e W2 ⟨rfl, hx⟩; have X2 := Lib.hid (X1.out.trans ((Ext.alloc _ _).trans hx)); clear hx)
      | (go_at_call 81; refine (errorIf_any _ _ _).mono ?_; rintro e w' ⟨rfl, rfl⟩))
    go_ret
    exact ⟨rfl, X2.out⟩

end Go.Proofs.Ytmddnpagfgilcaa
