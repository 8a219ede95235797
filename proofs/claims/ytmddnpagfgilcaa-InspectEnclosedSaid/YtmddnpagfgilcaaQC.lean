/- Part 3 of what the row builds on. -/
import Derived.Test.YtmddnpagfgilcaaQB


namespace Go.Proofs.Ytmddnpagfgilcaa
open Go.RowKit Go.Shelf Go.Mem Go.RegInv
attribute [local go_sem] RelUpon_value RelUpon_skip RelUpon_enter BigFrame.eval_const BigFrame.eval_global BigFrame.eval_func

def aftB (x y : Kn) : Bool := decide (y.f < x.f) && decide (y.lo ≤ x.lo) && decide (y.hi ≤ x.hi)
set_option maxRecDepth 100000 in
set_option maxHeartbeats 1000000 in
theorem isAfter_any (x y : Kn) (w : World) : Calls Try.prog 91 #[.agg #[.int .i64 x.f, .int .i64 x.lo, .int .i64 x.hi], .agg #[.int .i64 y.f, .int .i64 y.lo, .int .i64 y.hi]] w fun e w' => e = .returned (.bool (aftB x y)) ∧ Ext w w' := by
  have e2 : Ext w ((w.alloc (.cells #[.int .i64 x.f, .int .i64 x.lo, .int .i64 x.hi] 78)).alloc (.cells #[.int .i64 y.f, .int .i64 y.lo, .int .i64 y.hi] 78)) := (Ext.alloc _ _).trans (Ext.alloc _ _)
  have X2 := Lib.hid e2
  clear e2
  by_cases h1 : y.f < x.f
  · by_cases h2 : y.lo ≤ x.lo
    · by_cases h3 : y.hi ≤ x.hi
      · have HE := Lib.hid (show aftB x y = true by simp [aftB, h1, h2, h3])
        go_enter Try.func91, Try.ntmps91
        go_wp2
        go_ret
        exact ⟨ret_bool HE.out.symm, X2.out⟩
      · have HE := Lib.hid (show aftB x y = false by simp [aftB, h3])
        go_enter Try.func91, Try.ntmps91
        go_wp2
        go_ret
        exact ⟨ret_bool HE.out.symm, X2.out⟩
    · have HE := Lib.hid (show aftB x y = false by simp [aftB, h2])
      go_enter Try.func91, Try.ntmps91
      go_wp2
      go_ret
      exact ⟨ret_bool HE.out.symm, X2.out⟩
  · have HE := Lib.hid (show aftB x y = false by simp [aftB, h1])
    go_enter Try.func91, Try.ntmps91
    go_wp2
    go_ret
    exact ⟨ret_bool HE.out.symm, X2.out⟩
def befK (xs : List Kn) (i : Nat) : Bool := if i = 0 then false else !aftB (xs.getD i default) (xs.getD (i - 1) default)
def kntE (b : Bool) (x : Kn) : Int := firstE [rangeE 0 2000 [x.f, x.lo, x.hi], errIf (decide (x.hi < x.lo)) 9, errIf b 9]
set_option maxRecDepth 100000 in
set_option maxHeartbeats 1000000 in
theorem kntErr0 {b o n ca tb tO : Nat} {x : Kn} {w : World} (ht : w.cell? ⟨tb, tO, none⟩ = some (.slice (some ⟨b, o, none⟩) n ca)) :
    Calls Try.prog 90 #[.int .i64 0, .agg #[.int .i64 x.f, .int .i64 x.lo, .int .i64 x.hi], .pointer (some ⟨tb, tO, none⟩)] w fun e w' => e = .returned (.int .i64 (kntE false x)) ∧ Ext w w' := by
  have HE := Lib.hid (show kntE false x = firstE [rangeE 0 2000 [x.f, x.lo, x.hi], errIf (decide (x.hi < x.lo)) 9, errIf false 9] from rfl)
  obtain ⟨W0, hW0⟩ : ∃ W0, W0 = w.alloc (.cells #[.int .i64 x.f, .int .i64 x.lo, .int .i64 x.hi] 78) := ⟨_, rfl⟩
  have k0 : Blk W0 w.heap.size 78 #[.int .i64 x.f, .int .i64 x.lo, .int .i64 x.hi] := by rw [hW0]; exact Blk.new _ _ _
  have E0 := Lib.hid (show Ext w W0 by rw [hW0]; exact Ext.alloc _ _)
  have yt : W0.cell? ⟨tb, tO, none⟩ = some (.slice (some ⟨b, o, none⟩) n ca) := E0.out.cell ht
  have y0 : W0.cell? ⟨w.heap.size, 0, none⟩ = some (.int .i64 (x.f)) := k0.cell 0
  have y1 : W0.cell? ⟨w.heap.size, 1, none⟩ = some (.int .i64 (x.lo)) := k0.cell 1
  have y2 : W0.cell? ⟨w.heap.size, 2, none⟩ = some (.int .i64 (x.hi)) := k0.cell 2
  clear k0 ht
  go_enter Try.func90, Try.ntmps90
  go_wp2
  rw [← hW0]
  clear hW0
  go_wp2
  refine wp_region_eachN [(21, true), (21, true), (21, true), (21, true), (21, true), (21, true), (21, true), (21, true), (21, true)] [some 6, some 7, some 8, some 9, some 10, some 11, some 12, some 13, some 14, some 15, some 16, some 17, some 18, some 19, some 20, some 21, some 22, some 23, some 24, some 25, some 26, some 27, some 28, some 29, some 30, some 31, some 32, some 33, some 34, some 5] [[4], [6], [4], [8], [9], [4], [11], [12], [7, 10, 13], [14], [4], [16], [17], [0], [19], [20], [4, 21], [2, 21], [23, 21], [0, 21], [25, 21], [24, 26, 21], [27, 21], [22, 28, 21], [29, 21], [21, 30], [31], [15, 18, 32], [33], [34]]
    [Is (.pointer (some ⟨w.heap.size, 0, none⟩)), Is (.int .i64 (x.f)), Is (.pointer (some ⟨w.heap.size, 1, none⟩)), Is (.pointer (some ⟨w.heap.size, 1, none⟩)), Is (.int .i64 (x.lo)), Is (.pointer (some ⟨w.heap.size, 1, none⟩)), Is (.pointer (some ⟨w.heap.size, 2, none⟩)), Is (.int .i64 (x.hi)), Ints [x.f, x.lo, x.hi], Is (.int .i64 (rangeE (0) (2000) [x.f, x.lo, x.hi])), Is (.pointer (some ⟨w.heap.size, 1, none⟩)), Is (.agg #[.int .i64 (x.lo), .int .i64 (x.hi)]), Is (.int .i64 (errIf (decide (x.hi < x.lo)) 9)), Is (.int .i64 (0)), Is (.bool (decide (0 < 0))), Is (.bool (decide (0 < 0))), Is (undef), Is (undef), Is (undef), Is (undef), Is (undef), Is (undef), Is (undef), Is (undef), Is (undef), Is (.bool (false)), Is (.int .i64 (errIf (false) 9)), Ints [rangeE (0) (2000) [x.f, x.lo, x.hi], errIf (decide (x.hi < x.lo)) 9, errIf (false) 9], Is (.int .i64 (firstE [rangeE (0) (2000) [x.f, x.lo, x.hi], errIf (decide (x.hi < x.lo)) 9, errIf (false) 9])), Is (.int .i64 (firstE [rangeE (0) (2000) [x.f, x.lo, x.hi], errIf (decide (x.hi < x.lo)) 9, errIf (false) 9]))]
    (by kernel_rfl) (by kernel_rfl) (by kernel_rfl) (by kernel_rfl) (by kernel_rfl) Ext (fun W => Ext W0 W)
    (fun W _ => Ext.refl W) (fun W W' h k => h.trans k) ?_ (by intro p hp; simp at hp; first | (subst hp; exact ⟨_, rfl, fun _ _ h => h⟩) | (rcases hp with rfl | rfl <;> exact ⟨_, rfl, fun _ _ h => h⟩) | (rcases hp with rfl | rfl | rfl <;> exact ⟨_, rfl, fun _ _ h => h⟩)) (Ext.drew _) ?_ ?_
  · repeat (refine ⟨fun _ _ _ _ k h => (by first | exact h | exact (IntsAt.ext h k)), ?_⟩)
    exact trivial
  · refine ⟨?_, ?_, ?_, ?_, ?_, ?_, ?_, ?_, ?_, ?_, ?_, ?_, ?_, ?_, ?_, ?_, ?_, ?_, ?_, ?_, ?_, ?_, ?_, ?_, ?_, ?_, ?_, ?_, ?_, ?_, trivial⟩
    · intro ρ W ⟨kc, kg, kf⟩ hF hs
      obtain ⟨h0, -⟩ := hs
      replace h0 : ρ (.tmp 4) = .pointer (some ⟨w.heap.size, 0, none⟩) := h0
      go_simp
      exact ⟨Ext.refl _, rfl⟩
    · intro ρ W ⟨kc, kg, kf⟩ hF hs
      obtain ⟨h0, -⟩ := hs
      replace h0 : ρ (.tmp 6) = .pointer (some ⟨w.heap.size, 0, none⟩) := h0
      have hc0 : W.cell? ⟨w.heap.size, 0, none⟩ = some (.int .i64 (x.f)) := hF.cell (by assumption)
      go_simp
      exact ⟨Ext.refl _, rfl⟩
    · intro ρ W ⟨kc, kg, kf⟩ hF hs
      obtain ⟨h0, -⟩ := hs
      replace h0 : ρ (.tmp 4) = .pointer (some ⟨w.heap.size, 0, none⟩) := h0
      go_simp
      exact ⟨Ext.refl _, rfl⟩
    · intro ρ W ⟨kc, kg, kf⟩ hF hs
      obtain ⟨h0, -⟩ := hs
      replace h0 : ρ (.tmp 8) = .pointer (some ⟨w.heap.size, 1, none⟩) := h0
      go_simp
      exact ⟨Ext.refl _, rfl⟩
    · intro ρ W ⟨kc, kg, kf⟩ hF hs
      obtain ⟨h0, -⟩ := hs
      replace h0 : ρ (.tmp 9) = .pointer (some ⟨w.heap.size, 1, none⟩) := h0
      have hc0 : W.cell? ⟨w.heap.size, 1, none⟩ = some (.int .i64 (x.lo)) := hF.cell (by assumption)
      go_simp
      exact ⟨Ext.refl _, rfl⟩
    · intro ρ W ⟨kc, kg, kf⟩ hF hs
      obtain ⟨h0, -⟩ := hs
      replace h0 : ρ (.tmp 4) = .pointer (some ⟨w.heap.size, 0, none⟩) := h0
      go_simp
      exact ⟨Ext.refl _, rfl⟩
    · intro ρ W ⟨kc, kg, kf⟩ hF hs
      obtain ⟨h0, -⟩ := hs
      replace h0 : ρ (.tmp 11) = .pointer (some ⟨w.heap.size, 1, none⟩) := h0
      go_simp
      exact ⟨Ext.refl _, rfl⟩
    · intro ρ W ⟨kc, kg, kf⟩ hF hs
      obtain ⟨h0, -⟩ := hs
      replace h0 : ρ (.tmp 12) = .pointer (some ⟨w.heap.size, 2, none⟩) := h0
      have hc0 : W.cell? ⟨w.heap.size, 2, none⟩ = some (.int .i64 (x.hi)) := hF.cell (by assumption)
      go_simp
      exact ⟨Ext.refl _, rfl⟩
    · intro ρ W ⟨kc, kg, kf⟩ hF hs
      obtain ⟨h0, h1, h2, -⟩ := hs
      replace h0 : ρ (.tmp 7) = .int .i64 (x.f) := h0
      replace h1 : ρ (.tmp 10) = .int .i64 (x.lo) := h1
      replace h2 : ρ (.tmp 13) = .int .i64 (x.hi) := h2
      go_simp
      exact ⟨Ext.alloc _ _, ints_new _ [x.f, x.lo, x.hi] _ (by simp)⟩
    · intro ρ W ⟨kc, kg, kf⟩ hF hs
      obtain ⟨h0, -⟩ := hs
      replace h0 : (Ints [x.f, x.lo, x.hi]) (ρ (.tmp 14)) W := h0
      go_simp
      refine (rangeError_any _ _ _ _ _ h0).mono ?_; rintro e w' ⟨rfl, hx⟩; exact ⟨_, rfl, hx, rfl⟩
    · intro ρ W ⟨kc, kg, kf⟩ hF hs
      obtain ⟨h0, -⟩ := hs
      replace h0 : ρ (.tmp 4) = .pointer (some ⟨w.heap.size, 0, none⟩) := h0
      go_simp
      exact ⟨Ext.refl _, rfl⟩
    · intro ρ W ⟨kc, kg, kf⟩ hF hs
      obtain ⟨h0, -⟩ := hs
      replace h0 : ρ (.tmp 16) = .pointer (some ⟨w.heap.size, 1, none⟩) := h0
      have hc0 : W.cell? ⟨w.heap.size, 1, none⟩ = some (.int .i64 (x.lo)) := hF.cell (by assumption)
      have hc1 : W.cell? ⟨w.heap.size, 2, none⟩ = some (.int .i64 (x.hi)) := hF.cell (by assumption)
      go_simp
      exact ⟨Ext.refl _, rfl⟩
    · intro ρ W ⟨kc, kg, kf⟩ hF hs
      obtain ⟨h0, -⟩ := hs
      replace h0 : ρ (.tmp 17) = .agg #[.int .i64 (x.lo), .int .i64 (x.hi)] := h0
      go_simp
      refine (orderError_any _ _ _).mono ?_; rintro e w' ⟨rfl, hx⟩; exact ⟨_, rfl, hx, rfl⟩
    · intro ρ W ⟨kc, kg, kf⟩ hF hs
      obtain ⟨h0, -⟩ := hs
      replace h0 : ρ (.tmp 0) = .int .i64 (0) := h0
      go_simp
      exact ⟨Ext.refl _, rfl⟩
    · intro ρ W ⟨kc, kg, kf⟩ hF hs
      obtain ⟨h0, -⟩ := hs
      replace h0 : ρ (.tmp 19) = .int .i64 (0) := h0
      go_simp
      exact ⟨Ext.refl _, rfl⟩
    · intro ρ W ⟨kc, kg, kf⟩ hF hs
      obtain ⟨h0, -⟩ := hs
      replace h0 : ρ (.tmp 20) = .bool (decide (0 < 0)) := h0
      go_simp
      exact ⟨Ext.refl _, rfl⟩
    · exact fun _ => rfl
    · exact fun _ => rfl
    · exact fun _ => rfl
    · exact fun _ => rfl
    · exact fun _ => rfl
    · exact fun _ => rfl
    · exact fun _ => rfl
    · exact fun _ => rfl
    · exact fun _ => rfl
    · intro ρ W ⟨kc, kg, kf⟩ hF hs
      obtain ⟨h0, h1, -⟩ := hs
      replace h0 : ρ (.tmp 21) = .bool (decide (0 < 0)) := h0
      replace h1 : ρ (.tmp 30) = undef := h1
      go_simp
      exact ⟨Ext.refl _, rfl⟩
    · intro ρ W ⟨kc, kg, kf⟩ hF hs
      obtain ⟨h0, -⟩ := hs
      replace h0 : ρ (.tmp 31) = .bool (false) := h0
      go_simp
      refine (errorIf_any _ _ _).mono ?_; rintro e w' ⟨rfl, rfl⟩; exact ⟨_, rfl, Ext.refl _, rfl⟩
    · intro ρ W ⟨kc, kg, kf⟩ hF hs
      obtain ⟨h0, h1, h2, -⟩ := hs
      replace h0 : ρ (.tmp 15) = .int .i64 (rangeE (0) (2000) [x.f, x.lo, x.hi]) := h0
      replace h1 : ρ (.tmp 18) = .int .i64 (errIf (decide (x.hi < x.lo)) 9) := h1
      replace h2 : ρ (.tmp 32) = .int .i64 (errIf (false) 9) := h2
      go_simp
      exact ⟨Ext.alloc _ _, ints_new _ [rangeE (0) (2000) [x.f, x.lo, x.hi], errIf (decide (x.hi < x.lo)) 9, errIf (false) 9] _ (by simp)⟩
    · intro ρ W ⟨kc, kg, kf⟩ hF hs
      obtain ⟨h0, -⟩ := hs
      replace h0 : (Ints [rangeE (0) (2000) [x.f, x.lo, x.hi], errIf (decide (x.hi < x.lo)) 9, errIf (false) 9]) (ρ (.tmp 33)) W := h0
      go_simp
      refine (firstOf_any _ _ _ h0).mono ?_; rintro e w' ⟨rfl, rfl⟩; exact ⟨_, rfl, Ext.refl _, rfl⟩
    · intro ρ W ⟨kc, kg, kf⟩ hF hs
      obtain ⟨h0, -⟩ := hs
      replace h0 : ρ (.tmp 34) = .int .i64 (firstE [rangeE (0) (2000) [x.f, x.lo, x.hi], errIf (decide (x.hi < x.lo)) 9, errIf (false) 9]) := h0
      go_simp
      exact ⟨Ext.refl _, rfl⟩
  · intro fv W hF hs
    obtain ⟨-, -, -, -, -, -, -, -, -, -, -, -, -, -, -, -, -, -, -, -, -, -, -, -, -, -, -, -, -, h5, -⟩ := hs
    replace h5 : fv 5 = .int .i64 (firstE [rangeE (0) (2000) [x.f, x.lo, x.hi], errIf (decide (x.hi < x.lo)) 9, errIf (false) 9]) := h5
    simp only [fin, List.filterMap]
    go_simp
    go_wp2
    go_ret
    exact ⟨ret_int HE.out.symm, E0.out.trans hF⟩
set_option maxRecDepth 100000 in
set_option maxHeartbeats 1000000 in
theorem kntErr1 {b o n ca i tb tO : Nat} {x y : Kn} {w : World} (hnb : n ≤ 1152921504606846976) (hi : i < n) (ht : w.cell? ⟨tb, tO, none⟩ = some (.slice (some ⟨b, o, none⟩) n ca))
    (q0 : w.cell? ⟨b, o + i * 3, none⟩ = some (.int .i64 y.f)) (q1 : w.cell? ⟨b, o + i * 3 + 1, none⟩ = some (.int .i64 y.lo)) (q2 : w.cell? ⟨b, o + i * 3 + 2, none⟩ = some (.int .i64 y.hi)) :
    Calls Try.prog 90 #[.int .i64 ((i : Int) + 1), .agg #[.int .i64 x.f, .int .i64 x.lo, .int .i64 x.hi], .pointer (some ⟨tb, tO, none⟩)] w fun e w' => e = .returned (.int .i64 (kntE (!aftB x y) x)) ∧ Ext w w' := by
  have HE := Lib.hid (show kntE (!aftB x y) x = firstE [rangeE 0 2000 [x.f, x.lo, x.hi], errIf (decide (x.hi < x.lo)) 9, errIf (!aftB x y) 9] from rfl)
  have HAF := Lib.hid (fun W => isAfter_any x y W)
  obtain ⟨W0, hW0⟩ : ∃ W0, W0 = w.alloc (.cells #[.int .i64 x.f, .int .i64 x.lo, .int .i64 x.hi] 78) := ⟨_, rfl⟩
  have k0 : Blk W0 w.heap.size 78 #[.int .i64 x.f, .int .i64 x.lo, .int .i64 x.hi] := by rw [hW0]; exact Blk.new _ _ _
  have E0 := Lib.hid (show Ext w W0 by rw [hW0]; exact Ext.alloc _ _)
  have yt : W0.cell? ⟨tb, tO, none⟩ = some (.slice (some ⟨b, o, none⟩) n ca) := E0.out.cell ht
  have y0 : W0.cell? ⟨w.heap.size, 0, none⟩ = some (.int .i64 (x.f)) := k0.cell 0
  have y1 : W0.cell? ⟨w.heap.size, 1, none⟩ = some (.int .i64 (x.lo)) := k0.cell 1
  have y2 : W0.cell? ⟨w.heap.size, 2, none⟩ = some (.int .i64 (x.hi)) := k0.cell 2
  clear k0 ht
  have r0 := E0.out.cell q0
  have r1 := E0.out.cell q1
  have r2 := E0.out.cell q2
  clear q0 q1 q2
  go_enter Try.func90, Try.ntmps90
  go_wp2
  rw [← hW0]
  clear hW0
  go_wp2
  refine wp_region_eachG [(21, true), (21, true), (21, true), (21, true), (21, true), (21, true), (21, true), (21, true), (21, true)] [some 6, some 7, some 8, some 9, some 10, some 11, some 12, some 13, some 14, some 15, some 16, some 17, some 18, some 19, some 20, some 21, some 22, some 23, some 24, some 25, some 26, some 27, some 28, some 29, some 30, some 31, some 32, some 33, some 34, some 5] [[4], [6], [4], [8], [9], [4], [11], [12], [7, 10, 13], [14], [4], [16], [17], [0], [19], [20], [4, 21], [2, 21], [23, 21], [0, 21], [25, 21], [24, 26, 21], [27, 21], [22, 28, 21], [29, 21], [21, 30], [31], [15, 18, 32], [33], [34]]
    [Is (.pointer (some ⟨w.heap.size, 0, none⟩)), Is (.int .i64 (x.f)), Is (.pointer (some ⟨w.heap.size, 1, none⟩)), Is (.pointer (some ⟨w.heap.size, 1, none⟩)), Is (.int .i64 (x.lo)), Is (.pointer (some ⟨w.heap.size, 1, none⟩)), Is (.pointer (some ⟨w.heap.size, 2, none⟩)), Is (.int .i64 (x.hi)), Ints [x.f, x.lo, x.hi], Is (.int .i64 (rangeE (0) (2000) [x.f, x.lo, x.hi])), Is (.pointer (some ⟨w.heap.size, 1, none⟩)), Is (.agg #[.int .i64 (x.lo), .int .i64 (x.hi)]), Is (.int .i64 (errIf (decide (x.hi < x.lo)) 9)), Is (.int .i64 ((i : Int) + 1)), Is (.bool (true)), Is (.bool (true)), Is (.agg #[.int .i64 (x.f), .int .i64 (x.lo), .int .i64 (x.hi)]), Is (.pointer (some ⟨tb, tO, none⟩)), Is (.slice (some ⟨b, o, none⟩) n ca), Is (.int .i64 ((i : Int) + 1)), Is (.int .i64 ((i : Int))), Is (.pointer (some ⟨b, o + i * 3, none⟩)), Is (.agg #[.int .i64 y.f, .int .i64 y.lo, .int .i64 y.hi]), Is (.bool (aftB x y)), Is (.bool (!aftB x y)), Is (.bool (!aftB x y)), Is (.int .i64 (errIf (!aftB x y) 9)), Ints [rangeE (0) (2000) [x.f, x.lo, x.hi], errIf (decide (x.hi < x.lo)) 9, errIf (!aftB x y) 9], Is (.int .i64 (firstE [rangeE (0) (2000) [x.f, x.lo, x.hi], errIf (decide (x.hi < x.lo)) 9, errIf (!aftB x y) 9])), Is (.int .i64 (firstE [rangeE (0) (2000) [x.f, x.lo, x.hi], errIf (decide (x.hi < x.lo)) 9, errIf (!aftB x y) 9]))]
    (by kernel_rfl) (by kernel_rfl) (by kernel_rfl) (by kernel_rfl) (by kernel_rfl) Ext (fun W => Ext W0 W)
    (fun W _ => Ext.refl W) (fun W W' h k => h.trans k) ?_ (by intro p hp; simp at hp; first | (subst hp; exact ⟨_, rfl, fun _ _ h => h⟩) | (rcases hp with rfl | rfl <;> exact ⟨_, rfl, fun _ _ h => h⟩) | (rcases hp with rfl | rfl | rfl <;> exact ⟨_, rfl, fun _ _ h => h⟩)) (Ext.drew _) ?_ ?_
  · repeat (refine ⟨fun _ _ _ _ k h => (by first | exact h | exact (IntsAt.ext h k)), ?_⟩)
    exact trivial
  · refine ⟨?_, ?_, ?_, ?_, ?_, ?_, ?_, ?_, ?_, ?_, ?_, ?_, ?_, ?_, ?_, ?_, ?_, ?_, ?_, ?_, ?_, ?_, ?_, ?_, ?_, ?_, ?_, ?_, ?_, ?_, trivial⟩
    all_goals intro ρ W ⟨kc, kg, kf⟩ hF hs
    · obtain ⟨h0, -⟩ := hs
      replace h0 : ρ (.tmp 4) = .pointer (some ⟨w.heap.size, 0, none⟩) := h0
      go_simp
      exact ⟨Ext.refl _, rfl⟩
    · obtain ⟨h0, -⟩ := hs
      replace h0 : ρ (.tmp 6) = .pointer (some ⟨w.heap.size, 0, none⟩) := h0
      have hc0 : W.cell? ⟨w.heap.size, 0, none⟩ = some (.int .i64 (x.f)) := hF.cell (by assumption)
      go_simp
      exact ⟨Ext.refl _, rfl⟩
    · obtain ⟨h0, -⟩ := hs
      replace h0 : ρ (.tmp 4) = .pointer (some ⟨w.heap.size, 0, none⟩) := h0
      go_simp
      exact ⟨Ext.refl _, rfl⟩
    · obtain ⟨h0, -⟩ := hs
      replace h0 : ρ (.tmp 8) = .pointer (some ⟨w.heap.size, 1, none⟩) := h0
      go_simp
      exact ⟨Ext.refl _, rfl⟩
    · obtain ⟨h0, -⟩ := hs
      replace h0 : ρ (.tmp 9) = .pointer (some ⟨w.heap.size, 1, none⟩) := h0
      have hc0 : W.cell? ⟨w.heap.size, 1, none⟩ = some (.int .i64 (x.lo)) := hF.cell (by assumption)
      go_simp
      exact ⟨Ext.refl _, rfl⟩
    · obtain ⟨h0, -⟩ := hs
      replace h0 : ρ (.tmp 4) = .pointer (some ⟨w.heap.size, 0, none⟩) := h0
      go_simp
      exact ⟨Ext.refl _, rfl⟩
    · obtain ⟨h0, -⟩ := hs
      replace h0 : ρ (.tmp 11) = .pointer (some ⟨w.heap.size, 1, none⟩) := h0
      go_simp
      exact ⟨Ext.refl _, rfl⟩
    · obtain ⟨h0, -⟩ := hs
      replace h0 : ρ (.tmp 12) = .pointer (some ⟨w.heap.size, 2, none⟩) := h0
      have hc0 : W.cell? ⟨w.heap.size, 2, none⟩ = some (.int .i64 (x.hi)) := hF.cell (by assumption)
      go_simp
      exact ⟨Ext.refl _, rfl⟩
    · obtain ⟨h0, h1, h2, -⟩ := hs
      replace h0 : ρ (.tmp 7) = .int .i64 (x.f) := h0
      replace h1 : ρ (.tmp 10) = .int .i64 (x.lo) := h1
      replace h2 : ρ (.tmp 13) = .int .i64 (x.hi) := h2
      go_simp
      exact ⟨Ext.alloc _ _, ints_new _ [x.f, x.lo, x.hi] _ (by simp)⟩
    · obtain ⟨h0, -⟩ := hs
      replace h0 : (Ints [x.f, x.lo, x.hi]) (ρ (.tmp 14)) W := h0
      go_simp
      refine (rangeError_any _ _ _ _ _ h0).mono ?_; rintro e w' ⟨rfl, hx⟩; exact ⟨_, rfl, hx, rfl⟩
    · obtain ⟨h0, -⟩ := hs
      replace h0 : ρ (.tmp 4) = .pointer (some ⟨w.heap.size, 0, none⟩) := h0
      go_simp
      exact ⟨Ext.refl _, rfl⟩
    · obtain ⟨h0, -⟩ := hs
      replace h0 : ρ (.tmp 16) = .pointer (some ⟨w.heap.size, 1, none⟩) := h0
      have hc0 : W.cell? ⟨w.heap.size, 1, none⟩ = some (.int .i64 (x.lo)) := hF.cell (by assumption)
      have hc1 : W.cell? ⟨w.heap.size, 2, none⟩ = some (.int .i64 (x.hi)) := hF.cell (by assumption)
      go_simp
      exact ⟨Ext.refl _, rfl⟩
    · obtain ⟨h0, -⟩ := hs
      replace h0 : ρ (.tmp 17) = .agg #[.int .i64 (x.lo), .int .i64 (x.hi)] := h0
      go_simp
      refine (orderError_any _ _ _).mono ?_; rintro e w' ⟨rfl, hx⟩; exact ⟨_, rfl, hx, rfl⟩
    · obtain ⟨h0, -⟩ := hs
      replace h0 : ρ (.tmp 0) = .int .i64 ((i : Int) + 1) := h0
      go_simp
      exact ⟨Ext.refl _, rfl⟩
    · obtain ⟨h0, -⟩ := hs
      replace h0 : ρ (.tmp 19) = .int .i64 ((i : Int) + 1) := h0
      have hg : (0 : Int) < (i : Int) + 1 := by omega
      go_simp
      exact ⟨Ext.refl _, rfl⟩
    · obtain ⟨h0, -⟩ := hs
      replace h0 : ρ (.tmp 20) = .bool (true) := h0
      go_simp
      exact ⟨Ext.refl _, rfl⟩
    · obtain ⟨h0, h1, -⟩ := hs
      replace h0 : ρ (.tmp 4) = .pointer (some ⟨w.heap.size, 0, none⟩) := h0
      replace h1 : ρ (.tmp 21) = .bool (true) := h1
      have hc0 : W.cell? ⟨w.heap.size, 0, none⟩ = some (.int .i64 (x.f)) := hF.cell (by assumption)
      have hc1 : W.cell? ⟨w.heap.size, 1, none⟩ = some (.int .i64 (x.lo)) := hF.cell (by assumption)
      have hc2 : W.cell? ⟨w.heap.size, 2, none⟩ = some (.int .i64 (x.hi)) := hF.cell (by assumption)
      go_simp
      exact ⟨Ext.refl _, rfl⟩
    · obtain ⟨h0, h1, -⟩ := hs
      replace h0 : ρ (.tmp 2) = .pointer (some ⟨tb, tO, none⟩) := h0
      replace h1 : ρ (.tmp 21) = .bool (true) := h1
      go_simp
      exact ⟨Ext.refl _, rfl⟩
    · obtain ⟨h0, h1, -⟩ := hs
      replace h0 : ρ (.tmp 23) = .pointer (some ⟨tb, tO, none⟩) := h0
      replace h1 : ρ (.tmp 21) = .bool (true) := h1
      have hc0 : W.cell? ⟨tb, tO, none⟩ = some (.slice (some ⟨b, o, none⟩) n ca) := hF.cell (by assumption)
      go_simp
      exact ⟨Ext.refl _, rfl⟩
    · obtain ⟨h0, h1, -⟩ := hs
      replace h0 : ρ (.tmp 0) = .int .i64 ((i : Int) + 1) := h0
      replace h1 : ρ (.tmp 21) = .bool (true) := h1
      go_simp
      exact ⟨Ext.refl _, rfl⟩
    · obtain ⟨h0, h1, -⟩ := hs
      replace h0 : ρ (.tmp 25) = .int .i64 ((i : Int) + 1) := h0
      replace h1 : ρ (.tmp 21) = .bool (true) := h1
      have hw : IntKind.i64.wrap ((i : Int)) = (i : Int) := wrap_id _ (by omega) (by omega)
      go_simp
      exact ⟨Ext.refl _, rfl⟩
    · obtain ⟨h0, h1, h2, -⟩ := hs
      replace h0 : ρ (.tmp 24) = .slice (some ⟨b, o, none⟩) n ca := h0
      replace h1 : ρ (.tmp 26) = .int .i64 ((i : Int)) := h1
      replace h2 : ρ (.tmp 21) = .bool (true) := h2
      have hb2 : (i : Int) < (n : Int) := by omega
      have hb3 : i < n := by omega
      go_simp
      exact ⟨Ext.refl _, rfl⟩
    · obtain ⟨h0, h1, -⟩ := hs
      replace h0 : ρ (.tmp 27) = .pointer (some ⟨b, o + i * 3, none⟩) := h0
      replace h1 : ρ (.tmp 21) = .bool (true) := h1
      have hc0 : W.cell? ⟨b, o + i * 3, none⟩ = some (.int .i64 (y.f)) := hF.cell (by assumption)
      have hc1 : W.cell? ⟨b, o + i * 3 + 1, none⟩ = some (.int .i64 (y.lo)) := hF.cell (by assumption)
      have hc2 : W.cell? ⟨b, o + i * 3 + 2, none⟩ = some (.int .i64 (y.hi)) := hF.cell (by assumption)
      go_simp
      exact ⟨Ext.refl _, rfl⟩
    · obtain ⟨h0, h1, h2, -⟩ := hs
      replace h0 : ρ (.tmp 22) = .agg #[.int .i64 (x.f), .int .i64 (x.lo), .int .i64 (x.hi)] := h0
      replace h1 : ρ (.tmp 28) = .agg #[.int .i64 y.f, .int .i64 y.lo, .int .i64 y.hi] := h1
      replace h2 : ρ (.tmp 21) = .bool (true) := h2
      go_simp
      refine (HAF.out _).mono ?_; rintro e w' ⟨rfl, hx⟩; exact ⟨_, rfl, hx, rfl⟩
    · obtain ⟨h0, h1, -⟩ := hs
      replace h0 : ρ (.tmp 29) = .bool (aftB x y) := h0
      replace h1 : ρ (.tmp 21) = .bool (true) := h1
      go_simp
      exact ⟨Ext.refl _, rfl⟩
    · obtain ⟨h0, h1, -⟩ := hs
      replace h0 : ρ (.tmp 21) = .bool (true) := h0
      replace h1 : ρ (.tmp 30) = .bool (!aftB x y) := h1
      go_simp
      exact ⟨Ext.refl _, rfl⟩
    · obtain ⟨h0, -⟩ := hs
      replace h0 : ρ (.tmp 31) = .bool (!aftB x y) := h0
      go_simp
      refine (errorIf_any _ _ _).mono ?_; rintro e w' ⟨rfl, rfl⟩; exact ⟨_, rfl, Ext.refl _, rfl⟩
    · obtain ⟨h0, h1, h2, -⟩ := hs
      replace h0 : ρ (.tmp 15) = .int .i64 (rangeE (0) (2000) [x.f, x.lo, x.hi]) := h0
      replace h1 : ρ (.tmp 18) = .int .i64 (errIf (decide (x.hi < x.lo)) 9) := h1
      replace h2 : ρ (.tmp 32) = .int .i64 (errIf (!aftB x y) 9) := h2
      go_simp
      exact ⟨Ext.alloc _ _, ints_new _ [rangeE (0) (2000) [x.f, x.lo, x.hi], errIf (decide (x.hi < x.lo)) 9, errIf (!aftB x y) 9] _ (by simp)⟩
    · obtain ⟨h0, -⟩ := hs
      replace h0 : (Ints [rangeE (0) (2000) [x.f, x.lo, x.hi], errIf (decide (x.hi < x.lo)) 9, errIf (!aftB x y) 9]) (ρ (.tmp 33)) W := h0
      go_simp
      refine (firstOf_any _ _ _ h0).mono ?_; rintro e w' ⟨rfl, rfl⟩; exact ⟨_, rfl, Ext.refl _, rfl⟩
    · obtain ⟨h0, -⟩ := hs
      replace h0 : ρ (.tmp 34) = .int .i64 (firstE [rangeE (0) (2000) [x.f, x.lo, x.hi], errIf (decide (x.hi < x.lo)) 9, errIf (!aftB x y) 9]) := h0
      go_simp
      exact ⟨Ext.refl _, rfl⟩
  · intro fv W hF hs
    obtain ⟨-, -, -, -, -, -, -, -, -, -, -, -, -, -, -, -, -, -, -, -, -, -, -, -, -, -, -, -, -, h5, -⟩ := hs
    replace h5 : fv 5 = .int .i64 (firstE [rangeE (0) (2000) [x.f, x.lo, x.hi], errIf (decide (x.hi < x.lo)) 9, errIf (!aftB x y) 9]) := h5
    simp only [fin, List.filterMap]
    go_simp
    go_wp2
    go_ret
    exact ⟨ret_int HE.out.symm, E0.out.trans hF⟩
theorem kntErr_any {A : Option Addr} {n ca i tb tO : Nat} {xs : List Kn} {x : Kn} {w : World} (hn : xs.length = n) (hA : RowsAt 3 Kn.enc w A xs) (ht : w.cell? ⟨tb, tO, none⟩ = some (.slice A n ca)) (hx : xs[i]? = some x) :
    Calls Try.prog 90 #[.int .i64 (i : Int), .agg #[.int .i64 x.f, .int .i64 x.lo, .int .i64 x.hi], .pointer (some ⟨tb, tO, none⟩)] w fun e w' => e = .returned (.int .i64 (kntE (befK xs i) x)) ∧ Ext w w' := by
  have hl := hA.1
  have hin := (List.getElem?_eq_some_iff.1 hx).1
  obtain ⟨b, o, rfl, hb, hc⟩ := row_at hA hx
  cases i with
  | zero => exact kntErr0 ht
  | succ i =>
    have hy : xs[i]? = some (xs.getD i default) := by rw [List.getD_eq_getElem?_getD, List.getElem?_eq_getElem (by omega)]; rfl
    obtain ⟨b2, o2, he, _, hc2⟩ := row_at hA hy
    obtain ⟨rfl, rfl⟩ : b = b2 ∧ o = o2 := by simpa using he
    have := kntErr1 (x := x) (by omega) (show i < n by omega) ht (hc2 0 _ rfl) (hc2 1 _ rfl) (hc2 2 _ rfl)
    rw [show befK xs (i + 1) = !aftB x (xs.getD i default) by unfold befK; rw [if_neg (by omega), show xs.getD (i + 1) default = x by simp [hx]]; rfl]
    exact this

set_option maxRecDepth 100000 in
set_option maxHeartbeats 1000000 in
theorem firstError89_any {A : Option Addr} {n ca : Nat} {xs : List Kn} {w : World} {E : Nat → Int} {cp : Array Value} (hn : xs.length = n) (hA : RowsAt 3 Kn.enc w A xs)
    (hF : ∀ (i : Nat) (x : Kn) (W : World), xs[i]? = some x → Ext w W → Calls Try.prog 90 (#[.int .i64 (i : Int), .agg #[.int .i64 x.f, .int .i64 x.lo, .int .i64 x.hi]] ++ cp) W fun e w' => e = .returned (.int .i64 (E i)) ∧ Ext W w') :
    Calls Try.prog 89 #[.slice A n ca, .func (.func 90) #[] cp] w fun e w' => e = .returned (.tuple #[.int .i64 (firstAt E n 0).1, .int .i64 (firstAt E n 0).2]) ∧ Ext w w' := by
  have HN := Lib.hid hn
  have HA := Lib.hid hA
  have HF := Lib.hid hF
  have hnb : n ≤ 1152921504606846976 := by have := hA.1; omega
  clear hn hA hF
  go_enter Try.func89, Try.ntmps89
  go_wp2
  go_loopw [11] (fun i wr => ∃ k : Nat, k ≤ n ∧ i = .int .i64 k ∧ firstAt E n 0 = firstAt E (n - k) k ∧ Ext w wr) (fun i _ => n - (intOf i).toNat)
  case atStart => exact ⟨0, Nat.zero_le _, rfl, by rw [Nat.sub_zero], Ext.refl _⟩
  case round =>
    obtain ⟨k, hk, rfl, hr, hx⟩ := hrel
    have X := Lib.hid hx
    have R := Lib.hid hr
    clear hx hr
    by_cases hlt : k < n
    · have R2 := Lib.hid (R.out.trans (firstAt_step E hlt))
      clear R
      obtain ⟨x, hx⟩ : ∃ x, xs[k]? = some x := ⟨_, List.getElem?_eq_getElem (by rw [HN.out]; exact hlt)⟩
      obtain ⟨b, o, rfl, hb, hc⟩ := row_at (HA.out.ext X.out) hx
      have HX := Lib.hid hx
      have p0 := hc 0 _ rfl
      have p1 := hc 1 _ rfl
      have p2 := hc 2 _ rfl
      simp only [Nat.add_zero] at p0
      have HC := Lib.hid (fun W (e : Ext w W) => HF.out k x W HX.out e)
      clear hc hx
      have hki : (k : Int) < (n : Int) := by omega
      by_cases hz : E k = 0
      · have hz2 : (E k != 0) = false := by simp [hz]
        have HZ := Lib.hid hz
        clear hz
        generalize hE : E k = z at *
        have HE := Lib.hid hE
        clear hE
        go_wp2_with (go_at_call 90; refine (HC.out _ (X.out.trans (Ext.alloc _ _))).mono ?_; rintro e W1 ⟨rfl, hx⟩; have X1 := Lib.hid ((X.out.trans (Ext.alloc _ _)).trans hx); clear hx)
        go_roundw
        case rel => exact ⟨k + 1, by omega, by go_num, by rw [R2.out, if_neg (by simpa using HZ.out)], X1.out⟩
        case measure => simp [intOf]; omega
      · have hz2 : (E k != 0) = true := by simp [hz]
        have HZ := Lib.hid hz
        clear hz
        generalize hE : E k = z at *
        have HE := Lib.hid hE
        clear hE
        go_wp2_with (go_at_call 90; refine (HC.out _ (X.out.trans (Ext.alloc _ _))).mono ?_; rintro e W1 ⟨rfl, hx⟩; have X1 := Lib.hid ((X.out.trans (Ext.alloc _ _)).trans hx); clear hx)
        go_ret2
        exact ⟨ret_two (by rw [R2.out, if_pos HZ.out]) (by rw [R2.out, if_pos HZ.out]), X1.out⟩
    · have R2 := Lib.hid (show firstAt E n 0 = (0, 0) by rw [R.out, show n - k = 0 by omega]; rfl)
      have hkn : ¬ (k : Int) < (n : Int) := by omega
      go_wp2
      go_ret2
      exact ⟨ret_two (by rw [R2.out]) (by rw [R2.out]), X.out⟩

def tabAt (xs : List Kn) (i : Nat) : Int := kntE (befK xs i) (xs.getD i default)
def checkX (xs : List Kn) : Int × Int := if countE xs.length 2 12 ≠ 0 then (0, countE xs.length 2 12) else firstAt (tabAt xs) xs.length 0

set_option maxRecDepth 100000 in
set_option maxHeartbeats 1000000 in
theorem checkTable_any {A : Option Addr} {n ca : Nat} {xs : List Kn} {w : World} (hn : xs.length = n) (hA : RowsAt 3 Kn.enc w A xs) :
    Calls Try.prog 34 #[.agg #[.slice A n ca]] w fun e w' => e = .returned (.tuple #[.int .i64 (checkX xs).1, .int .i64 (checkX xs).2]) ∧ Ext w w' := by
  have hnb : n ≤ 1152921504606846976 := by have := hA.1; omega
  have HT := Lib.hid (show checkX xs = if countE n 2 12 ≠ 0 then (0, countE n 2 12) else firstAt (tabAt xs) n 0 by rw [← hn]; rfl)
  obtain ⟨W0, hW0⟩ : ∃ W0, W0 = w.alloc (.cells #[.slice A n ca] 64) := ⟨_, rfl⟩
  have k0 : Blk W0 w.heap.size 64 #[.slice A n ca] := by rw [hW0]; exact Blk.new _ _ _
  have E0 := Lib.hid (show Ext w W0 by rw [hW0]; exact Ext.alloc _ _)
  have y0 : W0.cell? ⟨w.heap.size, 0, none⟩ = some (.slice A n ca) := k0.cell 0
  have K0 := Lib.hid k0
  have HFE := Lib.hid (fun W (e : Ext W0 W) => firstError89_any (ca := ca) (E := tabAt xs) (cp := #[.pointer (some ⟨w.heap.size, 0, none⟩)]) hn (hA.ext (E0.out.trans e)) (fun i x W2 hx e2 => by
    have := kntErr_any (ca := ca) (i := i) (tb := w.heap.size) (tO := 0) hn (hA.ext (E0.out.trans (e.trans e2))) ((e.trans e2).cell (K0.out.cell 0)) hx
    have hd : xs.getD i default = x := by simp [hx]
    unfold tabAt
    rw [hd]
    exact this))
  generalize firstAt (tabAt xs) n 0 = fa at *
  clear k0 hA hn
  by_cases hz : countE n 2 12 = 0
  · have hz2 : (countE n 2 12 != 0) = false := by simp [hz]
    have HZ := Lib.hid hz
    clear hz
    have HC := Lib.hid (fun W => countError_any n 2 12 W)
    generalize countE n 2 12 = z at *
    go_enter Try.func34, Try.ntmps34
    go_wp2_with (fail)
    rw [← hW0]
    clear hW0
    go_wp2_with (go_at_call 75; refine (HC.out _).mono ?_; rintro e W1 ⟨rfl, hx⟩; have X1 := Lib.hid hx; have z0 := X1.out.cell y0; clear hx; refine Hid.out ?_)
    refine Lib.hid ?_
    go_wp2_with (go_at_call 89; refine (HFE.out _ X1.out).mono ?_; rintro e W2 ⟨rfl, hx⟩; have X2 := Lib.hid hx; clear hx)
    go_ret2
    exact ⟨ret_two (by rw [HT.out, if_neg (by simpa using HZ.out)]) (by rw [HT.out, if_neg (by simpa using HZ.out)]), E0.out.trans (X1.out.trans X2.out)⟩
  · have hz2 : (countE n 2 12 != 0) = true := by simp [hz]
    have HZ := Lib.hid hz
    clear hz
    have HC := Lib.hid (fun W => countError_any n 2 12 W)
    generalize countE n 2 12 = z at *
    go_enter Try.func34, Try.ntmps34
    go_wp2_with (fail)
    rw [← hW0]
    clear hW0
    go_wp2_with (go_at_call 75; refine (HC.out _).mono ?_; rintro e W1 ⟨rfl, hx⟩; have X1 := Lib.hid hx; have z0 := X1.out.cell y0; clear hx; refine Hid.out ?_)
    refine Lib.hid ?_
    go_wp2
    go_ret2
    exact ⟨ret_two (by rw [HT.out, if_pos HZ.out]) (by rw [HT.out, if_pos HZ.out]), E0.out.trans X1.out⟩
set_option maxRecDepth 100000 in
theorem tableError_any {A : Option Addr} {n ca : Nat} {xs : List Kn} {w : World} (hn : xs.length = n) (hA : RowsAt 3 Kn.enc w A xs) :
    Calls Try.prog 92 #[.agg #[.slice A n ca]] w fun e w' => e = .returned (.int .i64 (checkX xs).2) ∧ Ext w w' := by
  have HC := Lib.hid (fun W (e : Ext w W) => checkTable_any (ca := ca) hn (hA.ext e))
  clear hn hA
  go_enter Try.func92, Try.ntmps92
  go_wp2_with (go_at_call 34; refine (HC.out _ (Ext.alloc _ _)).mono ?_; rintro e W1 ⟨rfl, hx⟩; have X1 := Lib.hid hx; clear hx)
  go_ret
  exact ⟨rfl, (Ext.alloc _ _).trans X1.out⟩

def endsE (a b : Int) : Int := firstE [rangeE 0 10000 [a, b], errIf (decide (b < a)) 9]
set_option maxRecDepth 100000 in
set_option maxHeartbeats 1000000 in
theorem endsError_any (a b : Int) (w : World) : Calls Try.prog 93 #[.agg #[.int .i64 a, .int .i64 b]] w fun e w' => e = .returned (.int .i64 (endsE a b)) ∧ Ext w w' := by
  obtain ⟨W0, hW0⟩ : ∃ W0, W0 = w.alloc (.cells #[.int .i64 a, .int .i64 b] 41) := ⟨_, rfl⟩
  have k0 : Blk W0 w.heap.size 41 #[.int .i64 a, .int .i64 b] := by rw [hW0]; exact Blk.new _ _ _
  have E0 := Lib.hid (show Ext w W0 by rw [hW0]; exact Ext.alloc _ _)
  have y0 : W0.cell? ⟨w.heap.size, 0, none⟩ = some (.int .i64 (a)) := k0.cell 0
  have y1 : W0.cell? ⟨w.heap.size, 1, none⟩ = some (.int .i64 (b)) := k0.cell 1
  have HE := Lib.hid (show endsE a b = firstE [rangeE 0 10000 [a, b], errIf (decide (b < a)) 9] from rfl)
  clear k0
  go_enter Try.func93, Try.ntmps93
  go_wp2
  rw [← hW0]
  clear hW0
  go_wp2
  refine wp_region_each [some 3, some 4, some 5, some 6, some 7, some 8, some 9, some 10, some 11, some 12, some 2] [[1], [3], [1], [5], [4, 6], [7], [1], [9], [8, 10], [11], [12]]
    [Is (.pointer (some ⟨w.heap.size, 0, none⟩)), Is (.int .i64 (a)), Is (.pointer (some ⟨w.heap.size, 1, none⟩)), Is (.int .i64 (b)), Ints [a, b], Is (.int .i64 (rangeE (0) (10000) [a, b])), Is (.agg #[.int .i64 (a), .int .i64 (b)]), Is (.int .i64 (errIf (decide (b < a)) 9)), Ints [rangeE (0) (10000) [a, b], errIf (decide (b < a)) 9], Is (.int .i64 (firstE [rangeE (0) (10000) [a, b], errIf (decide (b < a)) 9])), Is (.int .i64 (firstE [rangeE (0) (10000) [a, b], errIf (decide (b < a)) 9]))]
    (by kernel_rfl) (by kernel_rfl) (by kernel_rfl) (by kernel_rfl) (by kernel_rfl) Ext (fun W => Ext W0 W)
    (fun W _ => Ext.refl W) (fun W W' h k => h.trans k) ?_ (Ext.drew _) ?_ ?_
  · repeat (refine ⟨fun _ _ _ _ k h => (by first | exact h | exact (IntsAt.ext h k)), ?_⟩)
    exact trivial
  · refine ⟨?_, ?_, ?_, ?_, ?_, ?_, ?_, ?_, ?_, ?_, ?_, trivial⟩
    all_goals intro ρ W ⟨kc, kg, kf⟩ hF hs
    · obtain ⟨h0, -⟩ := hs
      replace h0 : ρ (.tmp 1) = .pointer (some ⟨w.heap.size, 0, none⟩) := h0
      go_simp
      exact ⟨Ext.refl _, rfl⟩
    · obtain ⟨h0, -⟩ := hs
      replace h0 : ρ (.tmp 3) = .pointer (some ⟨w.heap.size, 0, none⟩) := h0
      have hc0 : W.cell? ⟨w.heap.size, 0, none⟩ = some (.int .i64 (a)) := hF.cell (by assumption)
      go_simp
      exact ⟨Ext.refl _, rfl⟩
    · obtain ⟨h0, -⟩ := hs
      replace h0 : ρ (.tmp 1) = .pointer (some ⟨w.heap.size, 0, none⟩) := h0
      go_simp
      exact ⟨Ext.refl _, rfl⟩
    · obtain ⟨h0, -⟩ := hs
      replace h0 : ρ (.tmp 5) = .pointer (some ⟨w.heap.size, 1, none⟩) := h0
      have hc0 : W.cell? ⟨w.heap.size, 1, none⟩ = some (.int .i64 (b)) := hF.cell (by assumption)
      go_simp
      exact ⟨Ext.refl _, rfl⟩
    · obtain ⟨h0, h1, -⟩ := hs
      replace h0 : ρ (.tmp 4) = .int .i64 (a) := h0
      replace h1 : ρ (.tmp 6) = .int .i64 (b) := h1
      go_simp
      exact ⟨Ext.alloc _ _, ints_new _ [a, b] _ (by simp)⟩
    · obtain ⟨h0, -⟩ := hs
      replace h0 : (Ints [a, b]) (ρ (.tmp 7)) W := h0
      go_simp
      refine (rangeError_any _ _ _ _ _ h0).mono ?_; rintro e w' ⟨rfl, hx⟩; exact ⟨_, rfl, hx, rfl⟩
    · obtain ⟨h0, -⟩ := hs
      replace h0 : ρ (.tmp 1) = .pointer (some ⟨w.heap.size, 0, none⟩) := h0
      have hc0 : W.cell? ⟨w.heap.size, 0, none⟩ = some (.int .i64 (a)) := hF.cell (by assumption)
      have hc1 : W.cell? ⟨w.heap.size, 1, none⟩ = some (.int .i64 (b)) := hF.cell (by assumption)
      go_simp
      exact ⟨Ext.refl _, rfl⟩
    · obtain ⟨h0, -⟩ := hs
      replace h0 : ρ (.tmp 9) = .agg #[.int .i64 (a), .int .i64 (b)] := h0
      go_simp
      refine (orderError_any _ _ _).mono ?_; rintro e w' ⟨rfl, hx⟩; exact ⟨_, rfl, hx, rfl⟩
    · obtain ⟨h0, h1, -⟩ := hs
      replace h0 : ρ (.tmp 8) = .int .i64 (rangeE (0) (10000) [a, b]) := h0
      replace h1 : ρ (.tmp 10) = .int .i64 (errIf (decide (b < a)) 9) := h1
      go_simp
      exact ⟨Ext.alloc _ _, ints_new _ [rangeE (0) (10000) [a, b], errIf (decide (b < a)) 9] _ (by simp)⟩
    · obtain ⟨h0, -⟩ := hs
      replace h0 : (Ints [rangeE (0) (10000) [a, b], errIf (decide (b < a)) 9]) (ρ (.tmp 11)) W := h0
      go_simp
      refine (firstOf_any _ _ _ h0).mono ?_; rintro e w' ⟨rfl, rfl⟩; exact ⟨_, rfl, Ext.refl _, rfl⟩
    · obtain ⟨h0, -⟩ := hs
      replace h0 : ρ (.tmp 12) = .int .i64 (firstE [rangeE (0) (10000) [a, b], errIf (decide (b < a)) 9]) := h0
      go_simp
      exact ⟨Ext.refl _, rfl⟩
  · intro fv W hF hs
    obtain ⟨-, -, -, -, -, -, -, -, -, -, h2, -⟩ := hs
    replace h2 : fv 2 = .int .i64 (firstE [rangeE (0) (10000) [a, b], errIf (decide (b < a)) 9]) := h2
    simp only [fin, List.filterMap]
    go_simp
    go_wp2
    go_ret
    exact ⟨ret_int HE.out.symm, E0.out.trans hF⟩
def missE (f0 f1 a b : Int) : Int := errIf (rangeE f0 f1 [a, b] != 0) 6
set_option maxRecDepth 100000 in
set_option maxHeartbeats 1000000 in
theorem missing_any {A : Option Addr} {n ca : Nat} {xs : List Kn} {x0 x1 : Kn} {w : World} (a c : Int) (hn : xs.length = n) (hA : RowsAt 3 Kn.enc w A xs) (h0 : xs[0]? = some x0) (h1 : xs[n - 1]? = some x1) :
    Calls Try.prog 94 #[.agg #[.slice A n ca], .agg #[.int .i64 a, .int .i64 c]] w fun e w' => e = .returned (.int .i64 (missE x0.f x1.f a c)) ∧ Ext w w' := by
  have hl := hA.1
  have hn0 := (List.getElem?_eq_some_iff.1 h0).1
  rw [hn] at hn0 hl
  obtain ⟨b, o, rfl, hb, hc⟩ := row_at hA h0
  obtain ⟨b2, o2, he, _, hc2⟩ := row_at hA h1
  obtain ⟨rfl, rfl⟩ : b = b2 ∧ o = o2 := by simpa using he
  have p0 := hc 0 _ rfl
  have p1 := hc2 0 _ rfl
  simp only [Nat.zero_mul, Nat.add_zero] at p0 p1
  obtain ⟨W0, hW0⟩ : ∃ W0, W0 = (w.alloc (.cells #[.slice (some ⟨b, o, none⟩) n ca] 64)).alloc (.cells #[.int .i64 a, .int .i64 c] 41) := ⟨_, rfl⟩
  have k0 : Blk W0 w.heap.size 64 #[.slice (some ⟨b, o, none⟩) n ca] := by rw [hW0]; exact (Blk.new _ _ _).alloc _
  have k1 : Blk W0 (w.heap.size + 1) 41 #[.int .i64 a, .int .i64 c] := by rw [hW0]; exact Blk.newAt _ _ _ (by simp)
  have E0 := Lib.hid (show Ext w W0 by rw [hW0]; exact (Ext.alloc _ _).trans (Ext.alloc _ _))
  have y0 : W0.cell? ⟨w.heap.size, 0, none⟩ = some (.slice (some ⟨b, o, none⟩) n ca) := k0.cell 0
  have r0 := E0.out.cell p0
  have r1 := E0.out.cell p1
  have K1 := Lib.hid k1
  clear k0 k1 p0 p1 hc hc2 h0 h1 hA hn he
  go_enter Try.func94, Try.ntmps94
  go_wp2
  rw [← hW0]
  clear hW0
  go_wp2
  refine wp_region_each [some 7, some 8, some 9, some 10, some 11, some 12, some 13, some 14, some 15, some 16, some 17, some 18, some 19, some 20, some 5, some 6] [[2], [7], [8], [9], [10], [2], [12], [2], [14], [15], [16], [13, 17], [18], [19], [11], [20]]
    [Is (.pointer (some ⟨w.heap.size, 0, none⟩)), Is (.slice (some ⟨b, o, none⟩) n ca), Is (.pointer (some ⟨b, o, none⟩)), Is (.pointer (some ⟨b, o, none⟩)), Is (.int .i64 (x0.f)), Is (.pointer (some ⟨w.heap.size, 0, none⟩)), Is (.slice (some ⟨b, o, none⟩) n ca), Is (.pointer (some ⟨w.heap.size, 0, none⟩)), Is (.slice (some ⟨b, o, none⟩) n ca), Is (.int .i64 ((n : Int))), Is (.int .i64 ((n : Int) - 1)), Is (.pointer (some ⟨b, o + (n - 1) * 3, none⟩)), Is (.pointer (some ⟨b, o + (n - 1) * 3, none⟩)), Is (.int .i64 (x1.f)), Is (.int .i64 (x0.f)), Is (.int .i64 (x1.f))]
    (by kernel_rfl) (by kernel_rfl) (by kernel_rfl) (by kernel_rfl) (by kernel_rfl) Ext (fun W => Ext W0 W)
    (fun W _ => Ext.refl W) (fun W W' h k => h.trans k) ?_ (Ext.drew _) ?_ ?_
  · repeat (refine ⟨fun _ _ _ _ k h => (by first | exact h | exact (IntsAt.ext h k)), ?_⟩)
    exact trivial
  · refine ⟨?_, ?_, ?_, ?_, ?_, ?_, ?_, ?_, ?_, ?_, ?_, ?_, ?_, ?_, ?_, ?_, trivial⟩
    all_goals intro ρ W ⟨kc, kg, kf⟩ hF hs
    · obtain ⟨h0, -⟩ := hs
      replace h0 : ρ (.tmp 2) = .pointer (some ⟨w.heap.size, 0, none⟩) := h0
      go_simp
      exact ⟨Ext.refl _, rfl⟩
    · obtain ⟨h0, -⟩ := hs
      replace h0 : ρ (.tmp 7) = .pointer (some ⟨w.heap.size, 0, none⟩) := h0
      have hc0 : W.cell? ⟨w.heap.size, 0, none⟩ = some (.slice (some ⟨b, o, none⟩) n ca) := hF.cell (by assumption)
      go_simp
      exact ⟨Ext.refl _, rfl⟩
    · obtain ⟨h0, -⟩ := hs
      replace h0 : ρ (.tmp 8) = .slice (some ⟨b, o, none⟩) n ca := h0
      have hb2 : (0 : Int) < (n : Int) := by omega
      have hb3 : 0 < n := by omega
      go_simp
      exact ⟨Ext.refl _, rfl⟩
    · obtain ⟨h0, -⟩ := hs
      replace h0 : ρ (.tmp 9) = .pointer (some ⟨b, o, none⟩) := h0
      go_simp
      exact ⟨Ext.refl _, rfl⟩
    · obtain ⟨h0, -⟩ := hs
      replace h0 : ρ (.tmp 10) = .pointer (some ⟨b, o, none⟩) := h0
      have hc0 : W.cell? ⟨b, o, none⟩ = some (.int .i64 (x0.f)) := hF.cell (by assumption)
      go_simp
      exact ⟨Ext.refl _, rfl⟩
    · obtain ⟨h0, -⟩ := hs
      replace h0 : ρ (.tmp 2) = .pointer (some ⟨w.heap.size, 0, none⟩) := h0
      go_simp
      exact ⟨Ext.refl _, rfl⟩
    · obtain ⟨h0, -⟩ := hs
      replace h0 : ρ (.tmp 12) = .pointer (some ⟨w.heap.size, 0, none⟩) := h0
      have hc0 : W.cell? ⟨w.heap.size, 0, none⟩ = some (.slice (some ⟨b, o, none⟩) n ca) := hF.cell (by assumption)
      go_simp
      exact ⟨Ext.refl _, rfl⟩
    · obtain ⟨h0, -⟩ := hs
      replace h0 : ρ (.tmp 2) = .pointer (some ⟨w.heap.size, 0, none⟩) := h0
      go_simp
      exact ⟨Ext.refl _, rfl⟩
    · obtain ⟨h0, -⟩ := hs
      replace h0 : ρ (.tmp 14) = .pointer (some ⟨w.heap.size, 0, none⟩) := h0
      have hc0 : W.cell? ⟨w.heap.size, 0, none⟩ = some (.slice (some ⟨b, o, none⟩) n ca) := hF.cell (by assumption)
      go_simp
      exact ⟨Ext.refl _, rfl⟩
    · obtain ⟨h0, -⟩ := hs
      replace h0 : ρ (.tmp 15) = .slice (some ⟨b, o, none⟩) n ca := h0
      go_simp
      exact ⟨Ext.refl _, rfl⟩
    · obtain ⟨h0, -⟩ := hs
      replace h0 : ρ (.tmp 16) = .int .i64 ((n : Int)) := h0
      have hw : IntKind.i64.wrap ((n : Int) - 1) = (n : Int) - 1 := wrap_id _ (by omega) (by omega)
      go_simp
      exact ⟨Ext.refl _, rfl⟩
    · obtain ⟨h0, h1, -⟩ := hs
      replace h0 : ρ (.tmp 13) = .slice (some ⟨b, o, none⟩) n ca := h0
      replace h1 : ρ (.tmp 17) = .int .i64 ((n : Int) - 1) := h1
      have hb6 : (1 : Int) ≤ (n : Int) := by omega
      have hb2 : (n : Int) - 1 < (n : Int) := by omega
      have hb3 : (0 : Int) ≤ (n : Int) - 1 := by omega
      have hb4 : ((n : Int) - 1).toNat = n - 1 := by omega
      have hb5 : n - 1 < n := by omega
      go_simp
      exact ⟨Ext.refl _, rfl⟩
    · obtain ⟨h0, -⟩ := hs
      replace h0 : ρ (.tmp 18) = .pointer (some ⟨b, o + (n - 1) * 3, none⟩) := h0
      go_simp
      exact ⟨Ext.refl _, rfl⟩
    · obtain ⟨h0, -⟩ := hs
      replace h0 : ρ (.tmp 19) = .pointer (some ⟨b, o + (n - 1) * 3, none⟩) := h0
      have hc0 : W.cell? ⟨b, o + (n - 1) * 3, none⟩ = some (.int .i64 (x1.f)) := hF.cell (by assumption)
      go_simp
      exact ⟨Ext.refl _, rfl⟩
    · obtain ⟨h0, -⟩ := hs
      replace h0 : ρ (.tmp 11) = .int .i64 (x0.f) := h0
      go_simp
      exact ⟨Ext.refl _, rfl⟩
    · obtain ⟨h0, -⟩ := hs
      replace h0 : ρ (.tmp 20) = .int .i64 (x1.f) := h0
      go_simp
      exact ⟨Ext.refl _, rfl⟩
  · intro fv W hF hs
    obtain ⟨-, -, -, -, -, -, -, -, -, -, -, -, -, -, h5, h6, -⟩ := hs
    replace h5 : fv 5 = .int .i64 (x0.f) := h5
    replace h6 : fv 6 = .int .i64 (x1.f) := h6
    simp only [fin, List.filterMap]
    go_simp
    have y2 : W.cell? ⟨w.heap.size + 1, 0, none⟩ = some (.int .i64 a) := (K1.out.ext hF).cell 0
    have y3 : W.cell? ⟨w.heap.size + 1, 1, none⟩ = some (.int .i64 c) := (K1.out.ext hF).cell 1
    have X1 := Lib.hid (E0.out.trans hF)
    clear hF y0 r0 r1
    go_wp2_with (first
      | (go_at_call 79; refine (rangeError_any x0.f x1.f _ [a, c] _ (ints_new _ [a, c] _ (by simp))).mono ?_; rintro e W2 ⟨rfl, hx⟩; have X2 := Lib.hid (X1.out.trans ((Ext.alloc _ _).trans hx)); clear hx)
      | (go_at_call 81; refine (errorIf_any _ _ _).mono ?_; rintro e w' ⟨rfl, rfl⟩))
    go_ret
    exact ⟨rfl, X2.out⟩

end Go.Proofs.Ytmddnpagfgilcaa

namespace Go.Proofs.Ytmddnpagfgilcaa
open Go.RowKit Go.Shelf Go.Mem Go.RegInv
attribute [local go_sem] RelUpon_value RelUpon_skip RelUpon_enter BigFrame.eval_const BigFrame.eval_global BigFrame.eval_func

set_option maxRecDepth 100000 in
set_option maxHeartbeats 1000000 in
theorem search_any {m : Nat} {P : Nat → Bool} {w : World} {cp : Array Value} (hm : m ≤ 1000) (hP : ∀ i j, i ≤ j → j < m → P i = true → P j = true)
    (hF : ∀ (h : Nat) (W : World), h < m → Ext w W → Calls Try.prog 122 (#[.int .i64 (h : Int)] ++ cp) W fun e w' => e = .returned (.bool (P h)) ∧ Ext W w') :
    Calls Try.prog 121 #[.int .i64 (m : Int), .func (.func 122) #[] cp] w fun e w' => ∃ i : Nat, e = .returned (.int .i64 (i : Int)) ∧ i ≤ m ∧ (∀ k, k < i → P k = false) ∧ (∀ k, i ≤ k → k < m → P k = true) ∧ Ext w w' := by
  have HP := Lib.hid hP
  have HF := Lib.hid hF
  clear hP hF
  go_enter Try.func121, Try.ntmps121
  go_wp2
  go_loopw [5, 6] (fun a b wr => ∃ i j : Nat, i ≤ j ∧ j ≤ m ∧ a = .int .i64 i ∧ b = .int .i64 j ∧ (∀ k, k < i → P k = false) ∧ (∀ k, j ≤ k → k < m → P k = true) ∧ Ext w wr) (fun a b _ => (intOf b - intOf a).toNat)
  case atStart => exact ⟨0, m, Nat.zero_le _, Nat.le_refl _, rfl, rfl, fun k h => by omega, fun k h1 h2 => by omega, Ext.refl _⟩
  case round =>
    obtain ⟨i, j, hij, hjm, rfl, rfl, hl, hh, hx⟩ := hrel
    have X := Lib.hid hx
    have L := Lib.hid hl
    have H := Lib.hid hh
    clear hx hl hh
    by_cases hlt : i < j
    · obtain ⟨h, hh⟩ : ∃ h, h = (i + j) / 2 := ⟨_, rfl⟩
      have b1 : i ≤ h := by omega
      have b2 : h < j := by omega
      have e1 : ((i : Int) + (j : Int)) / 2 = (h : Int) := by omega
      have E1 := Lib.hid e1
      have HC := Lib.hid (fun W (e : Ext w W) => HF.out h W (by omega) e)
      have hij2 : (i : Int) < (j : Int) := by omega
      clear hh
      cases hp : P h
      · have HPH := Lib.hid hp
        rw [hp] at HC
        clear hp
        go_wp2_with (go_at_call 122; refine (HC.out _ X.out).mono ?_; rintro e W1 ⟨rfl, hx⟩; have X1 := Lib.hid (X.out.trans hx); clear hx)
        go_roundw
        case rel => exact ⟨h + 1, j, by omega, hjm, by go_num, rfl, fun k hk => by
            rcases Bool.eq_false_or_eq_true (P k) with h1 | h1
            · have := HP.out k h (by omega) (by omega) h1
              rw [HPH.out] at this
              cases this
            · exact h1, H.out, X1.out⟩
        case measure => simp [intOf]; omega
      · have HPH := Lib.hid hp
        rw [hp] at HC
        clear hp
        go_wp2_with (go_at_call 122; refine (HC.out _ X.out).mono ?_; rintro e W1 ⟨rfl, hx⟩; have X1 := Lib.hid (X.out.trans hx); clear hx)
        go_roundw
        case rel => exact ⟨i, h, by omega, by omega, rfl, rfl, L.out, fun k h1 h2 => HP.out h k h1 h2 HPH.out, X1.out⟩
        case measure => simp [intOf]; omega
    · have HIJ := Lib.hid (show i = j by omega)
      have hij2 : ¬ (i : Int) < (j : Int) := by omega
      go_wp2
      go_ret
      exact ⟨i, rfl, by omega, L.out, fun k h1 h2 => H.out k (by have := HIJ.out; omega) h2, X.out⟩

/-- The knot, from place k on, at whose place or before it a depth lies. -/
def atJ (ps : List (Int × Int)) (d : Int) : Nat → Nat → Nat
  | 0, k => k
  | f + 1, k => if (ps.getD k default).1 < d then atJ ps d f (k + 1) else k
theorem atJ_eq {ps : List (Int × Int)} {d : Int} : ∀ {f k j : Nat}, k ≤ j → j ≤ k + f → (∀ i, k ≤ i → i < j → (ps.getD i default).1 < d) → d ≤ (ps.getD j default).1 → atJ ps d f k = j
  | 0, k, j, h1, h2, _, _ => by rw [atJ]; omega
  | f + 1, k, j, h1, h2, h3, h4 => by
    rw [atJ]
    rcases Nat.lt_or_ge k j with h | h
    · rw [if_pos (h3 k (Nat.le_refl _) h)]
      exact atJ_eq h (by omega) (fun i a b => h3 i (by omega) b) h4
    · obtain rfl : k = j := by omega
      rw [if_neg (by omega)]
/-- The number of a curve at a place. -/
def lineV (y z : Int × Int) (d : Int) : Int × Int := lowT (y.2 * (z.1 - y.1) + (z.2 - y.2) * (d - y.1)) (z.1 - y.1)
def atV (ps : List (Int × Int)) (d : Int) (n : Nat) : Int × Int := lineV (ps.getD (atJ ps d (n - 2) 1 - 1) default) (ps.getD (atJ ps d (n - 2) 1) default) d
theorem atV_eq {ps : List (Int × Int)} {d : Int} {n i : Nat} (_hn : ps.length = n) (hn2 : 2 ≤ n) (hi : i ≤ n - 2) (hl : d ≤ (ps.getD (n - 1) default).1) (h1 : ∀ k, k < i → decide (d ≤ (ps.getD (k + 1) default).1) = false) (h2 : ∀ k, i ≤ k → k < n - 2 → decide (d ≤ (ps.getD (k + 1) default).1) = true) :
    atV ps d n = lowT ((ps.getD i default).2 * ((ps.getD (i + 1) default).1 - (ps.getD i default).1) + ((ps.getD (i + 1) default).2 - (ps.getD i default).2) * (d - (ps.getD i default).1)) ((ps.getD (i + 1) default).1 - (ps.getD i default).1) := by
  have e : atJ ps d (n - 2) 1 = i + 1 := atJ_eq (by omega) (by omega) (fun k a b => by
    have := h1 (k - 1) (by omega)
    rw [show k - 1 + 1 = k by omega] at this
    simpa using this) (by
    rcases Nat.lt_or_ge i (n - 2) with h | h
    · simpa using h2 i (Nat.le_refl _) h
    · rw [show i + 1 = n - 1 by omega]; exact hl)
  unfold atV
  rw [e, Nat.add_sub_cancel]
  rfl
set_option maxRecDepth 100000 in
set_option maxHeartbeats 1000000 in
theorem pred119_any {n : Nat} {ps : List (Int × Int)} {d : Int} {h c1 c2 : Nat} {w : World} {cp : Array Value} (hn : ps.length = n) (hnb : n ≤ 1000) (hh : h + 1 < n)
    (hc : w.cell? ⟨c1, 0, none⟩ = some (.func (.func 119) #[] cp)) (hd : w.cell? ⟨c2, 0, none⟩ = some (.int .i64 d))
    (hF : ∀ (i : Nat) (p : Int × Int) (W : World), ps[i]? = some p → Ext w W → Calls Try.prog 119 (#[.int .i64 (i : Int)] ++ cp) W fun e w' => e = .returned (.tuple #[.int .i64 p.1, .int .i64 p.2]) ∧ Ext W w') :
    Calls Try.prog 122 #[.int .i64 (h : Int), .pointer (some ⟨c1, 0, none⟩), .pointer (some ⟨c2, 0, none⟩)] w fun e w' => e = .returned (.bool (decide (d ≤ (ps.getD (h + 1) default).1))) ∧ Ext w w' := by
  have hx : ps[h + 1]? = some (ps.getD (h + 1) default) := by rw [List.getD_eq_getElem?_getD, List.getElem?_eq_getElem (by omega)]; rfl
  have HC := Lib.hid (fun W (e : Ext w W) => show Calls Try.prog 119 (#[.int .i64 ((h : Int) + 1)] ++ cp) W fun e w' => e = .returned (.tuple #[.int .i64 (ps.getD (h + 1) default).1, .int .i64 (ps.getD (h + 1) default).2]) ∧ Ext W w' from hF (h + 1) _ W hx e)
  generalize ps.getD (h + 1) default = p at *
  have HD := Lib.hid hd
  clear hn hx hF hd
  go_enter Try.func122, Try.ntmps122
  go_wp2_with (go_at_call 119; refine (HC.out _ (Ext.refl _)).mono ?_; rintro e W1 ⟨rfl, hx⟩; have X1 := Lib.hid hx; have hd1 := X1.out.cell HD.out; clear hx)
  go_ret
  exact ⟨rfl, X1.out⟩
set_option maxRecDepth 100000 in
set_option maxHeartbeats 1000000 in
theorem at119_any {n : Nat} {ps : List (Int × Int)} {d : Int} {w : World} {cp : Array Value} (hn : ps.length = n) (hn2 : 2 ≤ n) (hnb : n ≤ 1000) (hd : 0 ≤ d ∧ d ≤ 10000) (hp : ∀ (i : Nat) (p : Int × Int), ps[i]? = some p → 0 ≤ p.1 ∧ p.1 ≤ 10000 ∧ 0 ≤ p.2 ∧ p.2 ≤ 2000)
    (hu : ∀ i j, i < j → j < n → (ps.getD i default).1 < (ps.getD j default).1) (hin : (ps.getD 0 default).1 ≤ d ∧ d ≤ (ps.getD (n - 1) default).1)
    (hF : ∀ (i : Nat) (p : Int × Int) (W : World), ps[i]? = some p → Ext w W → Calls Try.prog 119 (#[.int .i64 (i : Int)] ++ cp) W fun e w' => e = .returned (.tuple #[.int .i64 p.1, .int .i64 p.2]) ∧ Ext W w') :
    Calls Try.prog 85 #[.func (.func 119) #[] cp, .int .i64 d, .int .i64 (n : Int)] w fun e w' => e = .returned (.agg #[.int .i64 (atV ps d n).1, .int .i64 (atV ps d n).2]) ∧ Ext w w' := by
  obtain ⟨d0, d1⟩ := hd
  obtain ⟨W0, hW0⟩ : ∃ W0, W0 = ((w.alloc (.cells #[.func (.func 119) #[] cp] 134)).alloc (.cells #[.int .i64 d] 3)).alloc (.cells #[.int .i64 0, .int .i64 0] 32) := ⟨_, rfl⟩
  have k0 : Blk W0 w.heap.size 134 #[.func (.func 119) #[] cp] := by rw [hW0]; exact ((Blk.new _ _ _).alloc _).alloc _
  have k1 : Blk W0 (w.heap.size + 1) 3 #[.int .i64 d] := by rw [hW0]; exact (Blk.newAt _ _ _ (by simp)).alloc _
  have k2 : Blk W0 (w.heap.size + 1 + 1) 32 #[.int .i64 0, .int .i64 0] := by rw [hW0]; exact Blk.newAt _ _ _ (by simp)
  have E0 := Lib.hid (show Ext w W0 by rw [hW0]; exact ((Ext.alloc _ _).trans (Ext.alloc _ _)).trans (Ext.alloc _ _))
  have K0 := Lib.hid k0
  have K1 := Lib.hid k1
  have K2 := Lib.hid k2
  clear k0 k1 k2
  have hm : ((n - 2 : Nat) : Int) = (n : Int) - 2 := by omega
  have HS := Lib.hid (fun W (e : Ext W0 W) => show Calls Try.prog 121 #[.int .i64 ((n : Int) - 2), .func (.func 122) #[] #[.pointer (some ⟨w.heap.size, 0, none⟩), .pointer (some ⟨w.heap.size + 1, 0, none⟩)]] W fun e w' => ∃ i : Nat, e = .returned (.int .i64 (i : Int)) ∧ i ≤ n - 2 ∧ (∀ k, k < i → decide (d ≤ (ps.getD (k + 1) default).1) = false) ∧ (∀ k, i ≤ k → k < n - 2 → decide (d ≤ (ps.getD (k + 1) default).1) = true) ∧ Ext W w' from by
    have := search_any (m := n - 2) (P := fun k => decide (d ≤ (ps.getD (k + 1) default).1)) (w := W) (cp := #[.pointer (some ⟨w.heap.size, 0, none⟩), .pointer (some ⟨w.heap.size + 1, 0, none⟩)]) (by omega) (fun i j h1 h2 h3 => by
      simp only [decide_eq_true_eq] at h3 ⊢
      rcases Nat.lt_or_ge i j with h4 | h4
      · have := hu (i + 1) (j + 1) (by omega) (by omega); omega
      · obtain rfl : i = j := by omega
        exact h3) (fun h W2 h1 e2 => pred119_any hn hnb (by omega) ((K0.out.ext (e.trans e2)).cell 0) ((K1.out.ext (e.trans e2)).cell 0) (fun i p W3 h3 e3 => hF i p W3 h3 (E0.out.trans (e.trans (e2.trans e3)))))
    rw [hm] at this
    exact this)
  have HF := Lib.hid hF
  have HP := Lib.hid hp
  have HN := Lib.hid hn
  have HU := Lib.hid hu
  have HI := Lib.hid hin
  clear hF hp hn hu hin hm
  go_enter Try.func85, Try.ntmps85
  go_wp2_with (fail)
  rw [← hW0]
  clear hW0
  go_wp2_with (go_at_call 121; refine (HS.out _ (Ext.refl _)).mono ?_; rintro e W1 ⟨i, rfl, hi, hlo, hhi, hx⟩; have X1 := Lib.hid hx; have HLO := Lib.hid hlo; have HHI := Lib.hid hhi; clear hx hlo hhi; refine Hid.out ?_)
  refine Lib.hid ?_
  have hy : ps[i]? = some (ps.getD i default) := by rw [List.getD_eq_getElem?_getD, List.getElem?_eq_getElem (by rw [HN.out]; omega)]; rfl
  have hz : ps[i + 1]? = some (ps.getD (i + 1) default) := by rw [List.getD_eq_getElem?_getD, List.getElem?_eq_getElem (by rw [HN.out]; omega)]; rfl
  have HAT := Lib.hid (atV_eq HN.out hn2 hi HI.out.2 HLO.out HHI.out)
  have huy := HU.out i (i + 1) (by omega) (by omega)
  have hyd : (ps.getD i default).1 ≤ d := by
    cases i with
    | zero => exact HI.out.1
    | succ i => have := HLO.out i (by omega); simp at this; simp; omega
  have HY := Lib.hid (fun W (e : Ext w W) => show Calls Try.prog 119 (#[.int .i64 (1 + (i : Int) - 1)] ++ cp) W fun e w' => e = .returned (.tuple #[.int .i64 (ps.getD i default).1, .int .i64 (ps.getD i default).2]) ∧ Ext W w' from by
    rw [show 1 + (i : Int) - 1 = (i : Int) by omega]
    exact HF.out i _ W hy e)
  have HZ := Lib.hid (fun W (e : Ext w W) => show Calls Try.prog 119 (#[.int .i64 (1 + (i : Int))] ++ cp) W fun e w' => e = .returned (.tuple #[.int .i64 (ps.getD (i + 1) default).1, .int .i64 (ps.getD (i + 1) default).2]) ∧ Ext W w' from by
    rw [show 1 + (i : Int) = ((i + 1 : Nat) : Int) by omega]
    exact HF.out (i + 1) _ W hz e)
  obtain ⟨y0, y1, y2, y3⟩ := HP.out i _ hy
  obtain ⟨z0, z1, z2, z3⟩ := HP.out (i + 1) _ hz
  generalize ps.getD i default = y at *
  generalize ps.getD (i + 1) default = z at *
  have a0 : 0 ≤ y.2 * (z.1 - y.1) := Int.mul_nonneg (by omega) (by omega)
  have a1 : y.2 * (z.1 - y.1) ≤ 2000 * 10000 := Int.mul_le_mul (by omega) (by omega) (by omega) (by omega)
  have a2 : (z.2 - y.2) * (d - y.1) ≤ 2000 * 10000 := by
    have h1 : (z.2 - y.2) * (d - y.1) ≤ 2000 * (d - y.1) := Int.mul_le_mul_of_nonneg_right (by omega) (by omega)
    omega
  have a3 : -(2000 * 10000) ≤ (z.2 - y.2) * (d - y.1) := by
    have h1 : (-2000) * (d - y.1) ≤ (z.2 - y.2) * (d - y.1) := Int.mul_le_mul_of_nonneg_right (by omega) (by omega)
    omega
  have HL := Lib.hid (fun W => lowestP_any (y.2 * (z.1 - y.1) + (z.2 - y.2) * (d - y.1)) (z.1 - y.1) (by unfold Big; omega) (by omega) (by unfold Big; omega) W)
  clear hy hz
  generalize lowT (y.2 * (z.1 - y.1) + (z.2 - y.2) * (d - y.1)) (z.1 - y.1) = lo at *
  have m0 : W1.cell? ⟨w.heap.size, 0, none⟩ = some (.func (.func 119) #[] cp) := (K0.out.ext X1.out).cell 0
  have hin2 : (i : Int) + 1 < (n : Int) := by omega
  go_wp2_with (go_at_call 119; refine (HY.out _ (E0.out.trans X1.out)).mono ?_; rintro e W2 ⟨rfl, hx⟩; have X2 := Lib.hid (X1.out.trans hx); clear hx m0; refine Hid.out ?_)
  refine Lib.hid ?_
  have m0 : W2.cell? ⟨w.heap.size, 0, none⟩ = some (.func (.func 119) #[] cp) := (K0.out.ext X2.out).cell 0
  go_wp2_with (go_at_call 119; refine (HZ.out _ (E0.out.trans X2.out)).mono ?_; rintro e W3 ⟨rfl, hx⟩; have X3 := Lib.hid (X2.out.trans hx); clear hx m0; refine Hid.out ?_)
  refine Lib.hid ?_
  have m1 : W3.cell? ⟨w.heap.size + 1, 0, none⟩ = some (.int .i64 d) := (K1.out.ext X3.out).cell 0
  go_wp2_with (go_at_call 123; refine (HL.out _).mono ?_; rintro e W4 ⟨rfl, hx⟩; have X4 := Lib.hid (X3.out.trans hx); clear hx m1; refine Hid.out ?_)
  refine Lib.hid ?_
  have B2 := K2.out.ext X4.out
  have f0 := B2.free 0
  have f1 := B2.free 1
  have c0 : W4.cell? ⟨w.heap.size + 1 + 1, 0, none⟩ = some (.int .i64 0) := B2.cell 0
  have c1 : W4.cell? ⟨w.heap.size + 1 + 1, 1, none⟩ = some (.int .i64 0) := B2.cell 1
  clear B2 a0 a1 a2 a3
  go_wp2
  exact bodyPost_ret (v := .agg #[.int .i64 lo.1, .int .i64 lo.2]) (by simp [results, Try.f85, go_sem, c0, c1]) rfl ⟨by rw [HAT.out], Ext.set (Ext.set (E0.out.trans X4.out) (by dsimp only; omega) _) (by dsimp only; omega) _⟩
set_option maxRecDepth 100000 in
set_option maxHeartbeats 1000000 in
theorem pred120_any {n : Nat} {ps : List (Int × Int)} {d : Int} {h c1 c2 : Nat} {w : World} {cp : Array Value} (hn : ps.length = n) (hnb : n ≤ 1000) (hh : h + 1 < n)
    (hc : w.cell? ⟨c1, 0, none⟩ = some (.func (.func 120) #[] cp)) (hd : w.cell? ⟨c2, 0, none⟩ = some (.int .i64 d))
    (hF : ∀ (i : Nat) (p : Int × Int) (W : World), ps[i]? = some p → Ext w W → Calls Try.prog 120 (#[.int .i64 (i : Int)] ++ cp) W fun e w' => e = .returned (.tuple #[.int .i64 p.1, .int .i64 p.2]) ∧ Ext W w') :
    Calls Try.prog 122 #[.int .i64 (h : Int), .pointer (some ⟨c1, 0, none⟩), .pointer (some ⟨c2, 0, none⟩)] w fun e w' => e = .returned (.bool (decide (d ≤ (ps.getD (h + 1) default).1))) ∧ Ext w w' := by
  have hx : ps[h + 1]? = some (ps.getD (h + 1) default) := by rw [List.getD_eq_getElem?_getD, List.getElem?_eq_getElem (by omega)]; rfl
  have HC := Lib.hid (fun W (e : Ext w W) => show Calls Try.prog 120 (#[.int .i64 ((h : Int) + 1)] ++ cp) W fun e w' => e = .returned (.tuple #[.int .i64 (ps.getD (h + 1) default).1, .int .i64 (ps.getD (h + 1) default).2]) ∧ Ext W w' from hF (h + 1) _ W hx e)
  generalize ps.getD (h + 1) default = p at *
  have HD := Lib.hid hd
  clear hn hx hF hd
  go_enter Try.func122, Try.ntmps122
  go_wp2_with (go_at_call 120; refine (HC.out _ (Ext.refl _)).mono ?_; rintro e W1 ⟨rfl, hx⟩; have X1 := Lib.hid hx; have hd1 := X1.out.cell HD.out; clear hx)
  go_ret
  exact ⟨rfl, X1.out⟩
set_option maxRecDepth 100000 in
set_option maxHeartbeats 1000000 in
theorem at120_any {n : Nat} {ps : List (Int × Int)} {d : Int} {w : World} {cp : Array Value} (hn : ps.length = n) (hn2 : 2 ≤ n) (hnb : n ≤ 1000) (hd : 0 ≤ d ∧ d ≤ 10000) (hp : ∀ (i : Nat) (p : Int × Int), ps[i]? = some p → 0 ≤ p.1 ∧ p.1 ≤ 10000 ∧ 0 ≤ p.2 ∧ p.2 ≤ 2000)
    (hu : ∀ i j, i < j → j < n → (ps.getD i default).1 < (ps.getD j default).1) (hin : (ps.getD 0 default).1 ≤ d ∧ d ≤ (ps.getD (n - 1) default).1)
    (hF : ∀ (i : Nat) (p : Int × Int) (W : World), ps[i]? = some p → Ext w W → Calls Try.prog 120 (#[.int .i64 (i : Int)] ++ cp) W fun e w' => e = .returned (.tuple #[.int .i64 p.1, .int .i64 p.2]) ∧ Ext W w') :
    Calls Try.prog 85 #[.func (.func 120) #[] cp, .int .i64 d, .int .i64 (n : Int)] w fun e w' => e = .returned (.agg #[.int .i64 (atV ps d n).1, .int .i64 (atV ps d n).2]) ∧ Ext w w' := by
  obtain ⟨d0, d1⟩ := hd
  obtain ⟨W0, hW0⟩ : ∃ W0, W0 = ((w.alloc (.cells #[.func (.func 120) #[] cp] 134)).alloc (.cells #[.int .i64 d] 3)).alloc (.cells #[.int .i64 0, .int .i64 0] 32) := ⟨_, rfl⟩
  have k0 : Blk W0 w.heap.size 134 #[.func (.func 120) #[] cp] := by rw [hW0]; exact ((Blk.new _ _ _).alloc _).alloc _
  have k1 : Blk W0 (w.heap.size + 1) 3 #[.int .i64 d] := by rw [hW0]; exact (Blk.newAt _ _ _ (by simp)).alloc _
  have k2 : Blk W0 (w.heap.size + 1 + 1) 32 #[.int .i64 0, .int .i64 0] := by rw [hW0]; exact Blk.newAt _ _ _ (by simp)
  have E0 := Lib.hid (show Ext w W0 by rw [hW0]; exact ((Ext.alloc _ _).trans (Ext.alloc _ _)).trans (Ext.alloc _ _))
  have K0 := Lib.hid k0
  have K1 := Lib.hid k1
  have K2 := Lib.hid k2
  clear k0 k1 k2
  have hm : ((n - 2 : Nat) : Int) = (n : Int) - 2 := by omega
  have HS := Lib.hid (fun W (e : Ext W0 W) => show Calls Try.prog 121 #[.int .i64 ((n : Int) - 2), .func (.func 122) #[] #[.pointer (some ⟨w.heap.size, 0, none⟩), .pointer (some ⟨w.heap.size + 1, 0, none⟩)]] W fun e w' => ∃ i : Nat, e = .returned (.int .i64 (i : Int)) ∧ i ≤ n - 2 ∧ (∀ k, k < i → decide (d ≤ (ps.getD (k + 1) default).1) = false) ∧ (∀ k, i ≤ k → k < n - 2 → decide (d ≤ (ps.getD (k + 1) default).1) = true) ∧ Ext W w' from by
    have := search_any (m := n - 2) (P := fun k => decide (d ≤ (ps.getD (k + 1) default).1)) (w := W) (cp := #[.pointer (some ⟨w.heap.size, 0, none⟩), .pointer (some ⟨w.heap.size + 1, 0, none⟩)]) (by omega) (fun i j h1 h2 h3 => by
      simp only [decide_eq_true_eq] at h3 ⊢
      rcases Nat.lt_or_ge i j with h4 | h4
      · have := hu (i + 1) (j + 1) (by omega) (by omega); omega
      · obtain rfl : i = j := by omega
        exact h3) (fun h W2 h1 e2 => pred120_any hn hnb (by omega) ((K0.out.ext (e.trans e2)).cell 0) ((K1.out.ext (e.trans e2)).cell 0) (fun i p W3 h3 e3 => hF i p W3 h3 (E0.out.trans (e.trans (e2.trans e3)))))
    rw [hm] at this
    exact this)
  have HF := Lib.hid hF
  have HP := Lib.hid hp
  have HN := Lib.hid hn
  have HU := Lib.hid hu
  have HI := Lib.hid hin
  clear hF hp hn hu hin hm
  go_enter Try.func85, Try.ntmps85
  go_wp2_with (fail)
  rw [← hW0]
  clear hW0
  go_wp2_with (go_at_call 121; refine (HS.out _ (Ext.refl _)).mono ?_; rintro e W1 ⟨i, rfl, hi, hlo, hhi, hx⟩; have X1 := Lib.hid hx; have HLO := Lib.hid hlo; have HHI := Lib.hid hhi; clear hx hlo hhi; refine Hid.out ?_)
  refine Lib.hid ?_
  have hy : ps[i]? = some (ps.getD i default) := by rw [List.getD_eq_getElem?_getD, List.getElem?_eq_getElem (by rw [HN.out]; omega)]; rfl
  have hz : ps[i + 1]? = some (ps.getD (i + 1) default) := by rw [List.getD_eq_getElem?_getD, List.getElem?_eq_getElem (by rw [HN.out]; omega)]; rfl
  have HAT := Lib.hid (atV_eq HN.out hn2 hi HI.out.2 HLO.out HHI.out)
  have huy := HU.out i (i + 1) (by omega) (by omega)
  have hyd : (ps.getD i default).1 ≤ d := by
    cases i with
    | zero => exact HI.out.1
    | succ i => have := HLO.out i (by omega); simp at this; simp; omega
  have HY := Lib.hid (fun W (e : Ext w W) => show Calls Try.prog 120 (#[.int .i64 (1 + (i : Int) - 1)] ++ cp) W fun e w' => e = .returned (.tuple #[.int .i64 (ps.getD i default).1, .int .i64 (ps.getD i default).2]) ∧ Ext W w' from by
    rw [show 1 + (i : Int) - 1 = (i : Int) by omega]
    exact HF.out i _ W hy e)
  have HZ := Lib.hid (fun W (e : Ext w W) => show Calls Try.prog 120 (#[.int .i64 (1 + (i : Int))] ++ cp) W fun e w' => e = .returned (.tuple #[.int .i64 (ps.getD (i + 1) default).1, .int .i64 (ps.getD (i + 1) default).2]) ∧ Ext W w' from by
    rw [show 1 + (i : Int) = ((i + 1 : Nat) : Int) by omega]
    exact HF.out (i + 1) _ W hz e)
  obtain ⟨y0, y1, y2, y3⟩ := HP.out i _ hy
  obtain ⟨z0, z1, z2, z3⟩ := HP.out (i + 1) _ hz
  generalize ps.getD i default = y at *
  generalize ps.getD (i + 1) default = z at *
  have a0 : 0 ≤ y.2 * (z.1 - y.1) := Int.mul_nonneg (by omega) (by omega)
  have a1 : y.2 * (z.1 - y.1) ≤ 2000 * 10000 := Int.mul_le_mul (by omega) (by omega) (by omega) (by omega)
  have a2 : (z.2 - y.2) * (d - y.1) ≤ 2000 * 10000 := by
    have h1 : (z.2 - y.2) * (d - y.1) ≤ 2000 * (d - y.1) := Int.mul_le_mul_of_nonneg_right (by omega) (by omega)
    omega
  have a3 : -(2000 * 10000) ≤ (z.2 - y.2) * (d - y.1) := by
    have h1 : (-2000) * (d - y.1) ≤ (z.2 - y.2) * (d - y.1) := Int.mul_le_mul_of_nonneg_right (by omega) (by omega)
    omega
  have HL := Lib.hid (fun W => lowestP_any (y.2 * (z.1 - y.1) + (z.2 - y.2) * (d - y.1)) (z.1 - y.1) (by unfold Big; omega) (by omega) (by unfold Big; omega) W)
  clear hy hz
  generalize lowT (y.2 * (z.1 - y.1) + (z.2 - y.2) * (d - y.1)) (z.1 - y.1) = lo at *
  have m0 : W1.cell? ⟨w.heap.size, 0, none⟩ = some (.func (.func 120) #[] cp) := (K0.out.ext X1.out).cell 0
  have hin2 : (i : Int) + 1 < (n : Int) := by omega
  go_wp2_with (go_at_call 120; refine (HY.out _ (E0.out.trans X1.out)).mono ?_; rintro e W2 ⟨rfl, hx⟩; have X2 := Lib.hid (X1.out.trans hx); clear hx m0; refine Hid.out ?_)
  refine Lib.hid ?_
  have m0 : W2.cell? ⟨w.heap.size, 0, none⟩ = some (.func (.func 120) #[] cp) := (K0.out.ext X2.out).cell 0
  go_wp2_with (go_at_call 120; refine (HZ.out _ (E0.out.trans X2.out)).mono ?_; rintro e W3 ⟨rfl, hx⟩; have X3 := Lib.hid (X2.out.trans hx); clear hx m0; refine Hid.out ?_)
  refine Lib.hid ?_
  have m1 : W3.cell? ⟨w.heap.size + 1, 0, none⟩ = some (.int .i64 d) := (K1.out.ext X3.out).cell 0
  go_wp2_with (go_at_call 123; refine (HL.out _).mono ?_; rintro e W4 ⟨rfl, hx⟩; have X4 := Lib.hid (X3.out.trans hx); clear hx m1; refine Hid.out ?_)
  refine Lib.hid ?_
  have B2 := K2.out.ext X4.out
  have f0 := B2.free 0
  have f1 := B2.free 1
  have c0 : W4.cell? ⟨w.heap.size + 1 + 1, 0, none⟩ = some (.int .i64 0) := B2.cell 0
  have c1 : W4.cell? ⟨w.heap.size + 1 + 1, 1, none⟩ = some (.int .i64 0) := B2.cell 1
  clear B2 a0 a1 a2 a3
  go_wp2
  exact bodyPost_ret (v := .agg #[.int .i64 lo.1, .int .i64 lo.2]) (by simp [results, Try.f85, go_sem, c0, c1]) rfl ⟨by rw [HAT.out], Ext.set (Ext.set (E0.out.trans X4.out) (by dsimp only; omega) _) (by dsimp only; omega) _⟩
set_option maxRecDepth 100000 in
set_option maxHeartbeats 1000000 in
theorem pred124_any {n : Nat} {ps : List (Int × Int)} {d : Int} {h c1 c2 : Nat} {w : World} {cp : Array Value} (hn : ps.length = n) (hnb : n ≤ 1000) (hh : h + 1 < n)
    (hc : w.cell? ⟨c1, 0, none⟩ = some (.func (.func 124) #[] cp)) (hd : w.cell? ⟨c2, 0, none⟩ = some (.int .i64 d))
    (hF : ∀ (i : Nat) (p : Int × Int) (W : World), ps[i]? = some p → Ext w W → Calls Try.prog 124 (#[.int .i64 (i : Int)] ++ cp) W fun e w' => e = .returned (.tuple #[.int .i64 p.1, .int .i64 p.2]) ∧ Ext W w') :
    Calls Try.prog 122 #[.int .i64 (h : Int), .pointer (some ⟨c1, 0, none⟩), .pointer (some ⟨c2, 0, none⟩)] w fun e w' => e = .returned (.bool (decide (d ≤ (ps.getD (h + 1) default).1))) ∧ Ext w w' := by
  have hx : ps[h + 1]? = some (ps.getD (h + 1) default) := by rw [List.getD_eq_getElem?_getD, List.getElem?_eq_getElem (by omega)]; rfl
  have HC := Lib.hid (fun W (e : Ext w W) => show Calls Try.prog 124 (#[.int .i64 ((h : Int) + 1)] ++ cp) W fun e w' => e = .returned (.tuple #[.int .i64 (ps.getD (h + 1) default).1, .int .i64 (ps.getD (h + 1) default).2]) ∧ Ext W w' from hF (h + 1) _ W hx e)
  generalize ps.getD (h + 1) default = p at *
  have HD := Lib.hid hd
  clear hn hx hF hd
  go_enter Try.func122, Try.ntmps122
  go_wp2_with (go_at_call 124; refine (HC.out _ (Ext.refl _)).mono ?_; rintro e W1 ⟨rfl, hx⟩; have X1 := Lib.hid hx; have hd1 := X1.out.cell HD.out; clear hx)
  go_ret
  exact ⟨rfl, X1.out⟩
set_option maxRecDepth 100000 in
set_option maxHeartbeats 1000000 in
theorem at124_any {n : Nat} {ps : List (Int × Int)} {d : Int} {w : World} {cp : Array Value} (hn : ps.length = n) (hn2 : 2 ≤ n) (hnb : n ≤ 1000) (hd : 0 ≤ d ∧ d ≤ 10000) (hp : ∀ (i : Nat) (p : Int × Int), ps[i]? = some p → 0 ≤ p.1 ∧ p.1 ≤ 10000 ∧ 0 ≤ p.2 ∧ p.2 ≤ 2000)
    (hu : ∀ i j, i < j → j < n → (ps.getD i default).1 < (ps.getD j default).1) (hin : (ps.getD 0 default).1 ≤ d ∧ d ≤ (ps.getD (n - 1) default).1)
    (hF : ∀ (i : Nat) (p : Int × Int) (W : World), ps[i]? = some p → Ext w W → Calls Try.prog 124 (#[.int .i64 (i : Int)] ++ cp) W fun e w' => e = .returned (.tuple #[.int .i64 p.1, .int .i64 p.2]) ∧ Ext W w') :
    Calls Try.prog 85 #[.func (.func 124) #[] cp, .int .i64 d, .int .i64 (n : Int)] w fun e w' => e = .returned (.agg #[.int .i64 (atV ps d n).1, .int .i64 (atV ps d n).2]) ∧ Ext w w' := by
  obtain ⟨d0, d1⟩ := hd
  obtain ⟨W0, hW0⟩ : ∃ W0, W0 = ((w.alloc (.cells #[.func (.func 124) #[] cp] 134)).alloc (.cells #[.int .i64 d] 3)).alloc (.cells #[.int .i64 0, .int .i64 0] 32) := ⟨_, rfl⟩
  have k0 : Blk W0 w.heap.size 134 #[.func (.func 124) #[] cp] := by rw [hW0]; exact ((Blk.new _ _ _).alloc _).alloc _
  have k1 : Blk W0 (w.heap.size + 1) 3 #[.int .i64 d] := by rw [hW0]; exact (Blk.newAt _ _ _ (by simp)).alloc _
  have k2 : Blk W0 (w.heap.size + 1 + 1) 32 #[.int .i64 0, .int .i64 0] := by rw [hW0]; exact Blk.newAt _ _ _ (by simp)
  have E0 := Lib.hid (show Ext w W0 by rw [hW0]; exact ((Ext.alloc _ _).trans (Ext.alloc _ _)).trans (Ext.alloc _ _))
  have K0 := Lib.hid k0
  have K1 := Lib.hid k1
  have K2 := Lib.hid k2
  clear k0 k1 k2
  have hm : ((n - 2 : Nat) : Int) = (n : Int) - 2 := by omega
  have HS := Lib.hid (fun W (e : Ext W0 W) => show Calls Try.prog 121 #[.int .i64 ((n : Int) - 2), .func (.func 122) #[] #[.pointer (some ⟨w.heap.size, 0, none⟩), .pointer (some ⟨w.heap.size + 1, 0, none⟩)]] W fun e w' => ∃ i : Nat, e = .returned (.int .i64 (i : Int)) ∧ i ≤ n - 2 ∧ (∀ k, k < i → decide (d ≤ (ps.getD (k + 1) default).1) = false) ∧ (∀ k, i ≤ k → k < n - 2 → decide (d ≤ (ps.getD (k + 1) default).1) = true) ∧ Ext W w' from by
    have := search_any (m := n - 2) (P := fun k => decide (d ≤ (ps.getD (k + 1) default).1)) (w := W) (cp := #[.pointer (some ⟨w.heap.size, 0, none⟩), .pointer (some ⟨w.heap.size + 1, 0, none⟩)]) (by omega) (fun i j h1 h2 h3 => by
      simp only [decide_eq_true_eq] at h3 ⊢
      rcases Nat.lt_or_ge i j with h4 | h4
      · have := hu (i + 1) (j + 1) (by omega) (by omega); omega
      · obtain rfl : i = j := by omega
        exact h3) (fun h W2 h1 e2 => pred124_any hn hnb (by omega) ((K0.out.ext (e.trans e2)).cell 0) ((K1.out.ext (e.trans e2)).cell 0) (fun i p W3 h3 e3 => hF i p W3 h3 (E0.out.trans (e.trans (e2.trans e3)))))
    rw [hm] at this
    exact this)
  have HF := Lib.hid hF
  have HP := Lib.hid hp
  have HN := Lib.hid hn
  have HU := Lib.hid hu
  have HI := Lib.hid hin
  clear hF hp hn hu hin hm
  go_enter Try.func85, Try.ntmps85
  go_wp2_with (fail)
  rw [← hW0]
  clear hW0
  go_wp2_with (go_at_call 121; refine (HS.out _ (Ext.refl _)).mono ?_; rintro e W1 ⟨i, rfl, hi, hlo, hhi, hx⟩; have X1 := Lib.hid hx; have HLO := Lib.hid hlo; have HHI := Lib.hid hhi; clear hx hlo hhi; refine Hid.out ?_)
  refine Lib.hid ?_
  have hy : ps[i]? = some (ps.getD i default) := by rw [List.getD_eq_getElem?_getD, List.getElem?_eq_getElem (by rw [HN.out]; omega)]; rfl
  have hz : ps[i + 1]? = some (ps.getD (i + 1) default) := by rw [List.getD_eq_getElem?_getD, List.getElem?_eq_getElem (by rw [HN.out]; omega)]; rfl
  have HAT := Lib.hid (atV_eq HN.out hn2 hi HI.out.2 HLO.out HHI.out)
  have huy := HU.out i (i + 1) (by omega) (by omega)
  have hyd : (ps.getD i default).1 ≤ d := by
    cases i with
    | zero => exact HI.out.1
    | succ i => have := HLO.out i (by omega); simp at this; simp; omega
  have HY := Lib.hid (fun W (e : Ext w W) => show Calls Try.prog 124 (#[.int .i64 (1 + (i : Int) - 1)] ++ cp) W fun e w' => e = .returned (.tuple #[.int .i64 (ps.getD i default).1, .int .i64 (ps.getD i default).2]) ∧ Ext W w' from by
    rw [show 1 + (i : Int) - 1 = (i : Int) by omega]
    exact HF.out i _ W hy e)
  have HZ := Lib.hid (fun W (e : Ext w W) => show Calls Try.prog 124 (#[.int .i64 (1 + (i : Int))] ++ cp) W fun e w' => e = .returned (.tuple #[.int .i64 (ps.getD (i + 1) default).1, .int .i64 (ps.getD (i + 1) default).2]) ∧ Ext W w' from by
    rw [show 1 + (i : Int) = ((i + 1 : Nat) : Int) by omega]
    exact HF.out (i + 1) _ W hz e)
  obtain ⟨y0, y1, y2, y3⟩ := HP.out i _ hy
  obtain ⟨z0, z1, z2, z3⟩ := HP.out (i + 1) _ hz
  generalize ps.getD i default = y at *
  generalize ps.getD (i + 1) default = z at *
  have a0 : 0 ≤ y.2 * (z.1 - y.1) := Int.mul_nonneg (by omega) (by omega)
  have a1 : y.2 * (z.1 - y.1) ≤ 2000 * 10000 := Int.mul_le_mul (by omega) (by omega) (by omega) (by omega)
  have a2 : (z.2 - y.2) * (d - y.1) ≤ 2000 * 10000 := by
    have h1 : (z.2 - y.2) * (d - y.1) ≤ 2000 * (d - y.1) := Int.mul_le_mul_of_nonneg_right (by omega) (by omega)
    omega
  have a3 : -(2000 * 10000) ≤ (z.2 - y.2) * (d - y.1) := by
    have h1 : (-2000) * (d - y.1) ≤ (z.2 - y.2) * (d - y.1) := Int.mul_le_mul_of_nonneg_right (by omega) (by omega)
    omega
  have HL := Lib.hid (fun W => lowestP_any (y.2 * (z.1 - y.1) + (z.2 - y.2) * (d - y.1)) (z.1 - y.1) (by unfold Big; omega) (by omega) (by unfold Big; omega) W)
  clear hy hz
  generalize lowT (y.2 * (z.1 - y.1) + (z.2 - y.2) * (d - y.1)) (z.1 - y.1) = lo at *
  have m0 : W1.cell? ⟨w.heap.size, 0, none⟩ = some (.func (.func 124) #[] cp) := (K0.out.ext X1.out).cell 0
  have hin2 : (i : Int) + 1 < (n : Int) := by omega
  go_wp2_with (go_at_call 124; refine (HY.out _ (E0.out.trans X1.out)).mono ?_; rintro e W2 ⟨rfl, hx⟩; have X2 := Lib.hid (X1.out.trans hx); clear hx m0; refine Hid.out ?_)
  refine Lib.hid ?_
  have m0 : W2.cell? ⟨w.heap.size, 0, none⟩ = some (.func (.func 124) #[] cp) := (K0.out.ext X2.out).cell 0
  go_wp2_with (go_at_call 124; refine (HZ.out _ (E0.out.trans X2.out)).mono ?_; rintro e W3 ⟨rfl, hx⟩; have X3 := Lib.hid (X2.out.trans hx); clear hx m0; refine Hid.out ?_)
  refine Lib.hid ?_
  have m1 : W3.cell? ⟨w.heap.size + 1, 0, none⟩ = some (.int .i64 d) := (K1.out.ext X3.out).cell 0
  go_wp2_with (go_at_call 123; refine (HL.out _).mono ?_; rintro e W4 ⟨rfl, hx⟩; have X4 := Lib.hid (X3.out.trans hx); clear hx m1; refine Hid.out ?_)
  refine Lib.hid ?_
  have B2 := K2.out.ext X4.out
  have f0 := B2.free 0
  have f1 := B2.free 1
  have c0 : W4.cell? ⟨w.heap.size + 1 + 1, 0, none⟩ = some (.int .i64 0) := B2.cell 0
  have c1 : W4.cell? ⟨w.heap.size + 1 + 1, 1, none⟩ = some (.int .i64 0) := B2.cell 1
  clear B2 a0 a1 a2 a3
  go_wp2
  exact bodyPost_ret (v := .agg #[.int .i64 lo.1, .int .i64 lo.2]) (by simp [results, Try.f85, go_sem, c0, c1]) rfl ⟨by rw [HAT.out], Ext.set (Ext.set (E0.out.trans X4.out) (by dsimp only; omega) _) (by dsimp only; omega) _⟩
set_option maxRecDepth 100000 in
set_option maxHeartbeats 1000000 in
theorem pred125_any {n : Nat} {ps : List (Int × Int)} {d : Int} {h c1 c2 : Nat} {w : World} {cp : Array Value} (hn : ps.length = n) (hnb : n ≤ 1000) (hh : h + 1 < n)
    (hc : w.cell? ⟨c1, 0, none⟩ = some (.func (.func 125) #[] cp)) (hd : w.cell? ⟨c2, 0, none⟩ = some (.int .i64 d))
    (hF : ∀ (i : Nat) (p : Int × Int) (W : World), ps[i]? = some p → Ext w W → Calls Try.prog 125 (#[.int .i64 (i : Int)] ++ cp) W fun e w' => e = .returned (.tuple #[.int .i64 p.1, .int .i64 p.2]) ∧ Ext W w') :
    Calls Try.prog 122 #[.int .i64 (h : Int), .pointer (some ⟨c1, 0, none⟩), .pointer (some ⟨c2, 0, none⟩)] w fun e w' => e = .returned (.bool (decide (d ≤ (ps.getD (h + 1) default).1))) ∧ Ext w w' := by
  have hx : ps[h + 1]? = some (ps.getD (h + 1) default) := by rw [List.getD_eq_getElem?_getD, List.getElem?_eq_getElem (by omega)]; rfl
  have HC := Lib.hid (fun W (e : Ext w W) => show Calls Try.prog 125 (#[.int .i64 ((h : Int) + 1)] ++ cp) W fun e w' => e = .returned (.tuple #[.int .i64 (ps.getD (h + 1) default).1, .int .i64 (ps.getD (h + 1) default).2]) ∧ Ext W w' from hF (h + 1) _ W hx e)
  generalize ps.getD (h + 1) default = p at *
  have HD := Lib.hid hd
  clear hn hx hF hd
  go_enter Try.func122, Try.ntmps122
  go_wp2_with (go_at_call 125; refine (HC.out _ (Ext.refl _)).mono ?_; rintro e W1 ⟨rfl, hx⟩; have X1 := Lib.hid hx; have hd1 := X1.out.cell HD.out; clear hx)
  go_ret
  exact ⟨rfl, X1.out⟩
set_option maxRecDepth 100000 in
set_option maxHeartbeats 1000000 in
theorem at125_any {n : Nat} {ps : List (Int × Int)} {d : Int} {w : World} {cp : Array Value} (hn : ps.length = n) (hn2 : 2 ≤ n) (hnb : n ≤ 1000) (hd : 0 ≤ d ∧ d ≤ 10000) (hp : ∀ (i : Nat) (p : Int × Int), ps[i]? = some p → 0 ≤ p.1 ∧ p.1 ≤ 10000 ∧ 0 ≤ p.2 ∧ p.2 ≤ 2000)
    (hu : ∀ i j, i < j → j < n → (ps.getD i default).1 < (ps.getD j default).1) (hin : (ps.getD 0 default).1 ≤ d ∧ d ≤ (ps.getD (n - 1) default).1)
    (hF : ∀ (i : Nat) (p : Int × Int) (W : World), ps[i]? = some p → Ext w W → Calls Try.prog 125 (#[.int .i64 (i : Int)] ++ cp) W fun e w' => e = .returned (.tuple #[.int .i64 p.1, .int .i64 p.2]) ∧ Ext W w') :
    Calls Try.prog 85 #[.func (.func 125) #[] cp, .int .i64 d, .int .i64 (n : Int)] w fun e w' => e = .returned (.agg #[.int .i64 (atV ps d n).1, .int .i64 (atV ps d n).2]) ∧ Ext w w' := by
  obtain ⟨d0, d1⟩ := hd
  obtain ⟨W0, hW0⟩ : ∃ W0, W0 = ((w.alloc (.cells #[.func (.func 125) #[] cp] 134)).alloc (.cells #[.int .i64 d] 3)).alloc (.cells #[.int .i64 0, .int .i64 0] 32) := ⟨_, rfl⟩
  have k0 : Blk W0 w.heap.size 134 #[.func (.func 125) #[] cp] := by rw [hW0]; exact ((Blk.new _ _ _).alloc _).alloc _
  have k1 : Blk W0 (w.heap.size + 1) 3 #[.int .i64 d] := by rw [hW0]; exact (Blk.newAt _ _ _ (by simp)).alloc _
  have k2 : Blk W0 (w.heap.size + 1 + 1) 32 #[.int .i64 0, .int .i64 0] := by rw [hW0]; exact Blk.newAt _ _ _ (by simp)
  have E0 := Lib.hid (show Ext w W0 by rw [hW0]; exact ((Ext.alloc _ _).trans (Ext.alloc _ _)).trans (Ext.alloc _ _))
  have K0 := Lib.hid k0
  have K1 := Lib.hid k1
  have K2 := Lib.hid k2
  clear k0 k1 k2
  have hm : ((n - 2 : Nat) : Int) = (n : Int) - 2 := by omega
  have HS := Lib.hid (fun W (e : Ext W0 W) => show Calls Try.prog 121 #[.int .i64 ((n : Int) - 2), .func (.func 122) #[] #[.pointer (some ⟨w.heap.size, 0, none⟩), .pointer (some ⟨w.heap.size + 1, 0, none⟩)]] W fun e w' => ∃ i : Nat, e = .returned (.int .i64 (i : Int)) ∧ i ≤ n - 2 ∧ (∀ k, k < i → decide (d ≤ (ps.getD (k + 1) default).1) = false) ∧ (∀ k, i ≤ k → k < n - 2 → decide (d ≤ (ps.getD (k + 1) default).1) = true) ∧ Ext W w' from by
    have := search_any (m := n - 2) (P := fun k => decide (d ≤ (ps.getD (k + 1) default).1)) (w := W) (cp := #[.pointer (some ⟨w.heap.size, 0, none⟩), .pointer (some ⟨w.heap.size + 1, 0, none⟩)]) (by omega) (fun i j h1 h2 h3 => by
      simp only [decide_eq_true_eq] at h3 ⊢
      rcases Nat.lt_or_ge i j with h4 | h4
      · have := hu (i + 1) (j + 1) (by omega) (by omega); omega
      · obtain rfl : i = j := by omega
        exact h3) (fun h W2 h1 e2 => pred125_any hn hnb (by omega) ((K0.out.ext (e.trans e2)).cell 0) ((K1.out.ext (e.trans e2)).cell 0) (fun i p W3 h3 e3 => hF i p W3 h3 (E0.out.trans (e.trans (e2.trans e3)))))
    rw [hm] at this
    exact this)
  have HF := Lib.hid hF
  have HP := Lib.hid hp
  have HN := Lib.hid hn
  have HU := Lib.hid hu
  have HI := Lib.hid hin
  clear hF hp hn hu hin hm
  go_enter Try.func85, Try.ntmps85
  go_wp2_with (fail)
  rw [← hW0]
  clear hW0
  go_wp2_with (go_at_call 121; refine (HS.out _ (Ext.refl _)).mono ?_; rintro e W1 ⟨i, rfl, hi, hlo, hhi, hx⟩; have X1 := Lib.hid hx; have HLO := Lib.hid hlo; have HHI := Lib.hid hhi; clear hx hlo hhi; refine Hid.out ?_)
  refine Lib.hid ?_
  have hy : ps[i]? = some (ps.getD i default) := by rw [List.getD_eq_getElem?_getD, List.getElem?_eq_getElem (by rw [HN.out]; omega)]; rfl
  have hz : ps[i + 1]? = some (ps.getD (i + 1) default) := by rw [List.getD_eq_getElem?_getD, List.getElem?_eq_getElem (by rw [HN.out]; omega)]; rfl
  have HAT := Lib.hid (atV_eq HN.out hn2 hi HI.out.2 HLO.out HHI.out)
  have huy := HU.out i (i + 1) (by omega) (by omega)
  have hyd : (ps.getD i default).1 ≤ d := by
    cases i with
    | zero => exact HI.out.1
    | succ i => have := HLO.out i (by omega); simp at this; simp; omega
  have HY := Lib.hid (fun W (e : Ext w W) => show Calls Try.prog 125 (#[.int .i64 (1 + (i : Int) - 1)] ++ cp) W fun e w' => e = .returned (.tuple #[.int .i64 (ps.getD i default).1, .int .i64 (ps.getD i default).2]) ∧ Ext W w' from by
    rw [show 1 + (i : Int) - 1 = (i : Int) by omega]
    exact HF.out i _ W hy e)
  have HZ := Lib.hid (fun W (e : Ext w W) => show Calls Try.prog 125 (#[.int .i64 (1 + (i : Int))] ++ cp) W fun e w' => e = .returned (.tuple #[.int .i64 (ps.getD (i + 1) default).1, .int .i64 (ps.getD (i + 1) default).2]) ∧ Ext W w' from by
    rw [show 1 + (i : Int) = ((i + 1 : Nat) : Int) by omega]
    exact HF.out (i + 1) _ W hz e)
  obtain ⟨y0, y1, y2, y3⟩ := HP.out i _ hy
  obtain ⟨z0, z1, z2, z3⟩ := HP.out (i + 1) _ hz
  generalize ps.getD i default = y at *
  generalize ps.getD (i + 1) default = z at *
  have a0 : 0 ≤ y.2 * (z.1 - y.1) := Int.mul_nonneg (by omega) (by omega)
  have a1 : y.2 * (z.1 - y.1) ≤ 2000 * 10000 := Int.mul_le_mul (by omega) (by omega) (by omega) (by omega)
  have a2 : (z.2 - y.2) * (d - y.1) ≤ 2000 * 10000 := by
    have h1 : (z.2 - y.2) * (d - y.1) ≤ 2000 * (d - y.1) := Int.mul_le_mul_of_nonneg_right (by omega) (by omega)
    omega
  have a3 : -(2000 * 10000) ≤ (z.2 - y.2) * (d - y.1) := by
    have h1 : (-2000) * (d - y.1) ≤ (z.2 - y.2) * (d - y.1) := Int.mul_le_mul_of_nonneg_right (by omega) (by omega)
    omega
  have HL := Lib.hid (fun W => lowestP_any (y.2 * (z.1 - y.1) + (z.2 - y.2) * (d - y.1)) (z.1 - y.1) (by unfold Big; omega) (by omega) (by unfold Big; omega) W)
  clear hy hz
  generalize lowT (y.2 * (z.1 - y.1) + (z.2 - y.2) * (d - y.1)) (z.1 - y.1) = lo at *
  have m0 : W1.cell? ⟨w.heap.size, 0, none⟩ = some (.func (.func 125) #[] cp) := (K0.out.ext X1.out).cell 0
  have hin2 : (i : Int) + 1 < (n : Int) := by omega
  go_wp2_with (go_at_call 125; refine (HY.out _ (E0.out.trans X1.out)).mono ?_; rintro e W2 ⟨rfl, hx⟩; have X2 := Lib.hid (X1.out.trans hx); clear hx m0; refine Hid.out ?_)
  refine Lib.hid ?_
  have m0 : W2.cell? ⟨w.heap.size, 0, none⟩ = some (.func (.func 125) #[] cp) := (K0.out.ext X2.out).cell 0
  go_wp2_with (go_at_call 125; refine (HZ.out _ (E0.out.trans X2.out)).mono ?_; rintro e W3 ⟨rfl, hx⟩; have X3 := Lib.hid (X2.out.trans hx); clear hx m0; refine Hid.out ?_)
  refine Lib.hid ?_
  have m1 : W3.cell? ⟨w.heap.size + 1, 0, none⟩ = some (.int .i64 d) := (K1.out.ext X3.out).cell 0
  go_wp2_with (go_at_call 123; refine (HL.out _).mono ?_; rintro e W4 ⟨rfl, hx⟩; have X4 := Lib.hid (X3.out.trans hx); clear hx m1; refine Hid.out ?_)
  refine Lib.hid ?_
  have B2 := K2.out.ext X4.out
  have f0 := B2.free 0
  have f1 := B2.free 1
  have c0 : W4.cell? ⟨w.heap.size + 1 + 1, 0, none⟩ = some (.int .i64 0) := B2.cell 0
  have c1 : W4.cell? ⟨w.heap.size + 1 + 1, 1, none⟩ = some (.int .i64 0) := B2.cell 1
  clear B2 a0 a1 a2 a3
  go_wp2
  exact bodyPost_ret (v := .agg #[.int .i64 lo.1, .int .i64 lo.2]) (by simp [results, Try.f85, go_sem, c0, c1]) rfl ⟨by rw [HAT.out], Ext.set (Ext.set (E0.out.trans X4.out) (by dsimp only; omega) _) (by dsimp only; omega) _⟩

end Go.Proofs.Ytmddnpagfgilcaa

namespace Go.Proofs.Ytmddnpagfgilcaa
open Go.RowKit Go.Shelf Go.Mem Go.RegInv
attribute [local go_sem] RelUpon_value RelUpon_skip RelUpon_enter BigFrame.eval_const BigFrame.eval_global BigFrame.eval_func

theorem lowT_bd {a b : Int} (ha : -100000000 ≤ a ∧ a ≤ 100000000) (hb : 0 < b ∧ b ≤ 100000000) : -100000000 ≤ (lowT a b).1 ∧ (lowT a b).1 ≤ 100000000 ∧ 0 < (lowT a b).2 ∧ (lowT a b).2 ≤ 100000000 := by
  have h1 := Int.natAbs_tdiv_le_natAbs a (Nat.gcd a.natAbs b.natAbs : Int)
  have h2 := Int.natAbs_tdiv_le_natAbs b (Nat.gcd a.natAbs b.natAbs : Int)
  have h3 : 0 < Nat.gcd a.natAbs b.natAbs := Nat.gcd_pos_of_pos_right _ (by omega)
  have h4 : ((Nat.gcd a.natAbs b.natAbs : Nat) : Int) ∣ b := Int.ofNat_dvd_left.2 (Nat.gcd_dvd_right _ _)
  have h5 : b.tdiv (Nat.gcd a.natAbs b.natAbs : Int) ≠ 0 := by
    intro h
    have := Int.tdiv_mul_cancel h4
    rw [h] at this
    omega
  have h6 : 0 ≤ b.tdiv (Nat.gcd a.natAbs b.natAbs : Int) := Int.tdiv_nonneg (by omega) (by omega)
  unfold lowT
  dsimp only
  omega
set_option maxHeartbeats 1000000 in
theorem floorP_any (n b : Int) (hb : 0 < b ∧ b ≤ 5000000000000000000) (hn : -5000000000000000000 ≤ n ∧ n ≤ 5000000000000000000) (w : World) :
    Calls Try.prog 126 #[.agg #[.int .i64 n, .int .i64 b]] w fun e w' => e = .returned (.int .i64 (n / b)) ∧ Ext w w' := by
  obtain ⟨hb1, hb2⟩ := hb
  obtain ⟨hn1, hn2⟩ := hn
  by_cases h0 : 0 ≤ n
  · have h1 := Int.emod_nonneg n (show b ≠ 0 by omega)
    have h2 := Int.ediv_nonneg h0 (show 0 ≤ b by omega)
    have h3 := Int.ediv_le_self b h0
    have h4 : decide (n % b < 0) = false := by simp; omega
    go_enter Try.func126, Try.ntmps126
    go_wp2
    go_ret
    exact ⟨rfl, Ext.alloc _ _⟩
  · obtain ⟨q, r, hq, hr, r0, rb, he, hnq, hq0⟩ := neg_parts hb1 (show n < 0 by omega)
    by_cases hrz : r = 0
    · have HF := Lib.hid (show n / b = q from floor_unique hb1 (by omega) (by rw [Int.add_mul, Int.one_mul]; omega))
      have hd : decide (r < 0) = false := by simp; omega
      generalize n / b = s at *
      clear he hrz
      go_enter Try.func126, Try.ntmps126
      go_wp2
      go_ret
      exact ⟨ret_int HF.out.symm, Ext.alloc _ _⟩
    · have HF := Lib.hid (show n / b = q - 1 from floor_unique hb1 (by rw [Int.sub_mul, Int.one_mul]; omega) (by rw [show q - 1 + 1 = q by omega]; omega))
      have hd : decide (r < 0) = true := by simp; omega
      generalize n / b = s at *
      clear he hrz
      go_enter Try.func126, Try.ntmps126
      go_wp2
      go_ret
      exact ⟨ret_int HF.out.symm, Ext.alloc _ _⟩

theorem ceiling_any (n b : Int) (hb : 0 < b ∧ b ≤ 1000000000) (hn : -1000000000 ≤ n ∧ n ≤ 1000000000) (w : World) :
    Calls Try.prog 127 #[.agg #[.int .i64 n, .int .i64 b]] w fun e w' => e = .returned (.int .i64 (-(-n / b))) ∧ Ext w w' := by
  obtain ⟨hb1, hb2⟩ := hb
  obtain ⟨hn1, hn2⟩ := hn
  have HF := Lib.hid (fun W => floorP_any (-n) b ⟨by omega, by omega⟩ ⟨by omega, by omega⟩ W)
  have q1 : -n / b ≤ 1000000000 := by
    have := Int.ediv_le_of_le_mul hb1 (show -n ≤ 1000000000 * b by
      have : 1000000000 * 1 ≤ 1000000000 * b := Int.mul_le_mul_of_nonneg_left (by omega) (by omega)
      omega)
    exact this
  have q2 : -1000000000 ≤ -n / b := by
    refine Int.le_ediv_of_mul_le hb1 ?_
    have : (-1000000000) * b ≤ (-1000000000) * 1 := Int.mul_le_mul_of_nonpos_left (by omega) (by omega)
    omega
  generalize -n / b = q at *
  go_enter Try.func127, Try.ntmps127
  go_wp2_with (go_at_call 126; refine (HF.out _).mono ?_; rintro e W1 ⟨rfl, hx⟩; have X1 := Lib.hid ((Ext.alloc _ _).trans hx); clear hx)
  go_ret
  exact ⟨rfl, X1.out⟩
def loF (xs : List Kn) : List (Int × Int) := xs.map fun x => (x.f, x.lo)
def hiF (xs : List Kn) : List (Int × Int) := xs.map fun x => (x.f, x.hi)
theorem checkX_ok {xs : List Kn} (h : (checkX xs).2 = 0) : 2 ≤ xs.length ∧ xs.length ≤ 12 ∧ (∀ (i : Nat) (x : Kn), xs[i]? = some x → 0 ≤ x.f ∧ x.f ≤ 2000 ∧ 0 ≤ x.lo ∧ x.lo ≤ x.hi ∧ x.hi ≤ 2000) ∧ ∀ (i : Nat) (x y : Kn), xs[i]? = some y → xs[i + 1]? = some x → y.f < x.f ∧ y.lo ≤ x.lo ∧ y.hi ≤ x.hi := by
  unfold checkX at h
  by_cases hz : countE xs.length 2 12 = 0
  · rw [if_neg (by simpa using hz)] at h
    obtain ⟨c1, c2⟩ := count_ok hz
    have key : ∀ (i : Nat) (x : Kn), xs[i]? = some x → kntE (befK xs i) x = 0 := fun i x hx => by
      have hi := (List.getElem?_eq_some_iff.1 hx).1
      have e := firstAt_zero h i (by omega) (by omega)
      unfold tabAt at e
      rwa [show xs.getD i default = x by simp [hx]] at e
    refine ⟨by omega, by omega, fun i x hx => ?_, fun i x y hy hx => ?_⟩
    · have e := key i x hx
      have e1 := rangeE_zeros (firstE_zero e (rangeE 0 2000 [x.f, x.lo, x.hi]) (by simp))
      have e3 := firstE_zero e (errIf (decide (x.hi < x.lo)) 9) (by simp)
      have a1 := e1 x.f (by simp)
      have a3 := e1 x.lo (by simp)
      have a4 := e1 x.hi (by simp)
      simp [errIf] at e3
      exact ⟨a1.1, a1.2, a3.1, e3, a4.2⟩
    · have e := key (i + 1) x hx
      have e4 := firstE_zero e (errIf (befK xs (i + 1)) 9) (by simp)
      simp [errIf, befK, aftB, hx, hy] at e4
      omega
  · rw [if_pos hz] at h
    exact absurd h hz
theorem asc_all {xs : List Kn} (h : ∀ (i : Nat) (x y : Kn), xs[i]? = some y → xs[i + 1]? = some x → y.f < x.f ∧ y.lo ≤ x.lo ∧ y.hi ≤ x.hi) : ∀ i j, i < j → j < xs.length → (xs.getD i default).f < (xs.getD j default).f := by
  intro i j hij hj
  obtain ⟨d, rfl⟩ : ∃ d, j = i + 1 + d := ⟨j - (i + 1), by omega⟩
  induction d with
  | zero =>
    have a := h i (xs.getD (i + 1) default) (xs.getD i default) (by rw [List.getD_eq_getElem?_getD, List.getElem?_eq_getElem (by omega)]; rfl) (by rw [List.getD_eq_getElem?_getD, List.getElem?_eq_getElem (by omega)]; rfl)
    exact a.1
  | succ d ih =>
    have a := h (i + 1 + d) (xs.getD (i + 1 + d + 1) default) (xs.getD (i + 1 + d) default) (by rw [List.getD_eq_getElem?_getD, List.getElem?_eq_getElem (by omega)]; rfl) (by rw [List.getD_eq_getElem?_getD, List.getElem?_eq_getElem (by omega)]; rfl)
    exact Int.lt_trans (ih (by omega) (by omega)) a.1
/-- A converted range. -/
def convV (xs : List Kn) (a b : Int) : Int × Int := ((atV (loF xs) a xs.length).1 / (atV (loF xs) a xs.length).2, -(-(atV (hiF xs) b xs.length).1 / (atV (hiF xs) b xs.length).2))
theorem line_bd {y z : Int × Int} {d : Int} (hy : 0 ≤ y.1 ∧ y.1 ≤ 10000 ∧ 0 ≤ y.2 ∧ y.2 ≤ 2000) (hz : 0 ≤ z.1 ∧ z.1 ≤ 10000 ∧ 0 ≤ z.2 ∧ z.2 ≤ 2000) (h1 : y.1 < z.1) (h0 : y.1 ≤ d) (h2 : d ≤ z.1) : -100000000 ≤ (lineV y z d).1 ∧ (lineV y z d).1 ≤ 100000000 ∧ 0 < (lineV y z d).2 ∧ (lineV y z d).2 ≤ 100000000 := by
  have a0 : 0 ≤ y.2 * (z.1 - y.1) := Int.mul_nonneg (by omega) (by omega)
  have a1 : y.2 * (z.1 - y.1) ≤ 2000 * 10000 := Int.mul_le_mul (by omega) (by omega) (by omega) (by omega)
  have a2 : (z.2 - y.2) * (d - y.1) ≤ 2000 * 10000 := by
    have h1 : (z.2 - y.2) * (d - y.1) ≤ 2000 * (d - y.1) := Int.mul_le_mul_of_nonneg_right (by omega) (by omega)
    omega
  have a3 : -(2000 * 10000) ≤ (z.2 - y.2) * (d - y.1) := by
    have h1 : (-2000) * (d - y.1) ≤ (z.2 - y.2) * (d - y.1) := Int.mul_le_mul_of_nonneg_right (by omega) (by omega)
    omega
  exact lowT_bd ⟨by omega, by omega⟩ ⟨by omega, by omega⟩
theorem atJ_bd {ps : List (Int × Int)} {d : Int} : ∀ f k, k ≤ atJ ps d f k ∧ atJ ps d f k ≤ k + f ∧ (∀ i, k ≤ i → i < atJ ps d f k → (ps.getD i default).1 < d) ∧ (atJ ps d f k < k + f → d ≤ (ps.getD (atJ ps d f k) default).1)
  | 0, k => ⟨Nat.le_refl _, Nat.le_refl _, fun i h1 h2 => by rw [atJ] at h2; omega, fun h => by rw [atJ] at h; omega⟩
  | f + 1, k => by
    rw [atJ]
    split
    · rename_i h
      obtain ⟨h1, h2, h3, h4⟩ := atJ_bd (ps := ps) (d := d) f (k + 1)
      refine ⟨by omega, by omega, fun i a b => ?_, fun a => h4 (by omega)⟩
      rcases Nat.lt_or_ge k i with c | c
      · exact h3 i c b
      · obtain rfl : i = k := by omega
        exact h
    · rename_i h
      exact ⟨Nat.le_refl _, by omega, fun i a b => by omega, fun _ => by omega⟩
theorem at_bd {ps : List (Int × Int)} {d : Int} {n : Nat} (hn : ps.length = n) (hn2 : 2 ≤ n) (hp : ∀ (i : Nat) (p : Int × Int), ps[i]? = some p → 0 ≤ p.1 ∧ p.1 ≤ 10000 ∧ 0 ≤ p.2 ∧ p.2 ≤ 2000)
    (hu : ∀ i j, i < j → j < n → (ps.getD i default).1 < (ps.getD j default).1) (hin : (ps.getD 0 default).1 ≤ d ∧ d ≤ (ps.getD (n - 1) default).1) : -100000000 ≤ (atV ps d n).1 ∧ (atV ps d n).1 ≤ 100000000 ∧ 0 < (atV ps d n).2 ∧ (atV ps d n).2 ≤ 100000000 := by
  obtain ⟨h1, h2, h3, h4⟩ := atJ_bd (ps := ps) (d := d) (n - 2) 1
  unfold atV
  generalize atJ ps d (n - 2) 1 = j at *
  have g : ∀ i, i < n → ps[i]? = some (ps.getD i default) := fun i h => by rw [List.getD_eq_getElem?_getD, List.getElem?_eq_getElem (by omega)]; rfl
  refine line_bd (hp _ _ (g _ (by omega))) (hp _ _ (g _ (by omega))) (hu _ _ (by omega) (by omega)) ?_ ?_
  · rcases Nat.eq_zero_or_pos (j - 1) with h | h
    · rw [h]; exact hin.1
    · have := h3 (j - 1) (by omega) (by omega); omega
  · rcases Nat.lt_or_ge j (1 + (n - 2)) with h | h
    · exact h4 h
    · rw [show j = n - 1 by omega]; exact hin.2
theorem map_getD {xs : List Kn} {g : Kn → Int × Int} {i : Nat} (h : i < xs.length) : (xs.map g).getD i default = g (xs.getD i default) := by
  rw [List.getD_eq_getElem?_getD, List.getD_eq_getElem?_getD, List.getElem?_map, List.getElem?_eq_getElem h]; rfl
set_option maxRecDepth 100000 in
set_option maxHeartbeats 1000000 in
theorem converted_any {A : Option Addr} {n ca : Nat} {xs : List Kn} {w : World} (a b : Int) (hn : xs.length = n) (hA : RowsAt 3 Kn.enc w A xs) (hz : (checkX xs).2 = 0) (ha : (xs.getD 0 default).f ≤ a ∧ a ≤ (xs.getD (n - 1) default).f) (hb : (xs.getD 0 default).f ≤ b ∧ b ≤ (xs.getD (n - 1) default).f) :
    Calls Try.prog 95 #[.agg #[.slice A n ca], .agg #[.int .i64 a, .int .i64 b]] w fun e w' => e = .returned (.agg #[.int .i64 (convV xs a b).1, .int .i64 (convV xs a b).2]) ∧ Ext w w' := by
  obtain ⟨m2, m12, hok, hasc⟩ := checkX_ok hz
  have hall := asc_all hasc
  rw [hn] at m2 m12 hall
  have g : ∀ i, i < n → xs[i]? = some (xs.getD i default) := fun i h => by rw [List.getD_eq_getElem?_getD, List.getElem?_eq_getElem (by omega)]; rfl
  have hf0 := hok 0 _ (g 0 (by omega))
  have hf1 := hok (n - 1) _ (g (n - 1) (by omega))
  have hL : ∀ (i : Nat) (p : Int × Int), (loF xs)[i]? = some p → 0 ≤ p.1 ∧ p.1 ≤ 10000 ∧ 0 ≤ p.2 ∧ p.2 ≤ 2000 := fun i p h => by
    simp only [loF, List.getElem?_map, Option.map_eq_some_iff] at h
    obtain ⟨y, hy, rfl⟩ := h
    have := hok i y hy
    exact ⟨by dsimp only; omega, by dsimp only; omega, by dsimp only; omega, by dsimp only; omega⟩
  have hH : ∀ (i : Nat) (p : Int × Int), (hiF xs)[i]? = some p → 0 ≤ p.1 ∧ p.1 ≤ 10000 ∧ 0 ≤ p.2 ∧ p.2 ≤ 2000 := fun i p h => by
    simp only [hiF, List.getElem?_map, Option.map_eq_some_iff] at h
    obtain ⟨y, hy, rfl⟩ := h
    have := hok i y hy
    exact ⟨by dsimp only; omega, by dsimp only; omega, by dsimp only; omega, by dsimp only; omega⟩
  have uL : ∀ i j, i < j → j < n → ((loF xs).getD i default).1 < ((loF xs).getD j default).1 := fun i j h1 h2 => by
    unfold loF; rw [map_getD (by omega), map_getD (by omega)]; exact hall i j h1 h2
  have uH : ∀ i j, i < j → j < n → ((hiF xs).getD i default).1 < ((hiF xs).getD j default).1 := fun i j h1 h2 => by
    unfold hiF; rw [map_getD (by omega), map_getD (by omega)]; exact hall i j h1 h2
  have iL : ((loF xs).getD 0 default).1 ≤ a ∧ a ≤ ((loF xs).getD (n - 1) default).1 := by
    unfold loF; rw [map_getD (by omega), map_getD (by omega)]; exact ha
  have iH : ((hiF xs).getD 0 default).1 ≤ b ∧ b ≤ ((hiF xs).getD (n - 1) default).1 := by
    unfold hiF; rw [map_getD (by omega), map_getD (by omega)]; exact hb
  have nL : (loF xs).length = n := by simp [loF, hn]
  have nH : (hiF xs).length = n := by simp [hiF, hn]
  have bL := at_bd nL m2 hL uL iL
  have bH := at_bd nH m2 hH uH iH
  obtain ⟨W0, hW0⟩ : ∃ W0, W0 = ((w.alloc (.cells #[.slice A n ca] 64)).alloc (.cells #[.int .i64 a, .int .i64 b] 41)).alloc (.cells #[.int .i64 0, .int .i64 0] 41) := ⟨_, rfl⟩
  have k0 : Blk W0 w.heap.size 64 #[.slice A n ca] := by rw [hW0]; exact ((Blk.new _ _ _).alloc _).alloc _
  have k1 : Blk W0 (w.heap.size + 1) 41 #[.int .i64 a, .int .i64 b] := by rw [hW0]; exact (Blk.newAt _ _ _ (by simp)).alloc _
  have k2 : Blk W0 (w.heap.size + 1 + 1) 41 #[.int .i64 0, .int .i64 0] := by rw [hW0]; exact Blk.newAt _ _ _ (by simp)
  have E0 := Lib.hid (show Ext w W0 by rw [hW0]; exact ((Ext.alloc _ _).trans (Ext.alloc _ _)).trans (Ext.alloc _ _))
  have y0 : W0.cell? ⟨w.heap.size, 0, none⟩ = some (.slice A n ca) := k0.cell 0
  have y1 : W0.cell? ⟨w.heap.size + 1, 0, none⟩ = some (.int .i64 (a)) := k1.cell 0
  have y2 : W0.cell? ⟨w.heap.size + 1, 1, none⟩ = some (.int .i64 (b)) := k1.cell 1
  have K0 := Lib.hid k0
  have K1 := Lib.hid k1
  have K2 := Lib.hid k2
  clear k0 k1 k2

  have HL1 := Lib.hid (fun W (e : Ext W0 W) => at124_any (cp := #[.pointer (some ⟨w.heap.size, 0, none⟩)]) (w := W) nL m2 (by omega) ⟨by omega, by omega⟩ hL uL iL (fun i p W2 hp e2 => by
    simp only [loF, List.getElem?_map, Option.map_eq_some_iff] at hp
    obtain ⟨y, hy, rfl⟩ := hp
    exact clos124_any hn (hA.ext (E0.out.trans (e.trans e2))) ((K0.out.ext (e.trans e2)).cell 0) hy))
  have HH1 := Lib.hid (fun W (e : Ext W0 W) => at125_any (cp := #[.pointer (some ⟨w.heap.size, 0, none⟩)]) (w := W) nH m2 (by omega) ⟨by omega, by omega⟩ hH uH iH (fun i p W2 hp e2 => by
    simp only [hiF, List.getElem?_map, Option.map_eq_some_iff] at hp
    obtain ⟨y, hy, rfl⟩ := hp
    exact clos125_any hn (hA.ext (E0.out.trans (e.trans e2))) ((K0.out.ext (e.trans e2)).cell 0) hy))
  have HCV := Lib.hid (show convV xs a b = ((atV (loF xs) a n).1 / (atV (loF xs) a n).2, -(-(atV (hiF xs) b n).1 / (atV (hiF xs) b n).2)) by rw [← hn]; rfl)
  have HL2 := Lib.hid (fun W => floorP_any (atV (loF xs) a n).1 (atV (loF xs) a n).2 ⟨by omega, by omega⟩ ⟨by omega, by omega⟩ W)
  have HH2 := Lib.hid (fun W => ceiling_any (atV (hiF xs) b n).1 (atV (hiF xs) b n).2 ⟨by omega, by omega⟩ ⟨by omega, by omega⟩ W)
  clear bL bH hL hH uL uH iL iH nL nH ha hb hall hasc hok g hf0 hf1 hz hA hn
  generalize atV (loF xs) a n = lo at *
  generalize atV (hiF xs) b n = hi at *
  go_enter Try.func95, Try.ntmps95
  go_wp2
  rw [← hW0]
  clear hW0
  go_wp2
  refine wp_region_part 17 [some 9, some 10, some 11, some 12, some 13, some 14, some 15, some 16, some 17, some 18, some 19, some 20, some 21, some 22, some 23, some 24, some 25] [[5], [3], [10], [2], [12], [13], [9, 11, 14], [15], [6], [3], [18], [2], [20], [21], [17, 19, 22], [23], [16, 24]]
    [Is (.func (.func 124) #[] #[.pointer (some ⟨w.heap.size, 0, none⟩)]), Is (.pointer (some ⟨w.heap.size + 1, 0, none⟩)), Is (.int .i64 (a)), Is (.pointer (some ⟨w.heap.size, 0, none⟩)), Is (.slice A n ca), Is (.int .i64 ((n : Int))), Is (.agg #[.int .i64 lo.1, .int .i64 lo.2]), Is (.int .i64 (lo.1 / lo.2)), Is (.func (.func 125) #[] #[.pointer (some ⟨w.heap.size, 0, none⟩)]), Is (.pointer (some ⟨w.heap.size + 1, 1, none⟩)), Is (.int .i64 (b)), Is (.pointer (some ⟨w.heap.size, 0, none⟩)), Is (.slice A n ca), Is (.int .i64 ((n : Int))), Is (.agg #[.int .i64 hi.1, .int .i64 hi.2]), Is (.int .i64 (-(-hi.1 / hi.2))), Is (.agg #[.int .i64 (lo.1 / lo.2), .int .i64 (-(-hi.1 / hi.2))])]
    (by kernel_rfl) (by kernel_rfl) (by kernel_rfl) (by kernel_rfl) (by kernel_rfl) (by kernel_rfl) (by kernel_rfl) Ext (fun W => Ext W0 W)
    (fun W _ => Ext.refl W) (fun W W' h k => h.trans k) ?_ (Ext.drew _) ?_ ?_
  · repeat (refine ⟨fun _ _ _ _ k h => (by first | exact h | exact (IntsAt.ext h k)), ?_⟩)
    exact trivial
  · refine ⟨?_, ?_, ?_, ?_, ?_, ?_, ?_, ?_, ?_, ?_, ?_, ?_, ?_, ?_, ?_, ?_, ?_, trivial⟩
    all_goals intro ρ W ⟨kc, kg, kf⟩ hF hs
    · obtain ⟨h0, -⟩ := hs
      replace h0 : ρ (.tmp 5) = .func (.func 124) #[] #[.pointer (some ⟨w.heap.size, 0, none⟩)] := h0
      go_simp
      exact ⟨Ext.refl _, rfl⟩
    · obtain ⟨h0, -⟩ := hs
      replace h0 : ρ (.tmp 3) = .pointer (some ⟨w.heap.size + 1, 0, none⟩) := h0
      go_simp
      exact ⟨Ext.refl _, rfl⟩
    · obtain ⟨h0, -⟩ := hs
      replace h0 : ρ (.tmp 10) = .pointer (some ⟨w.heap.size + 1, 0, none⟩) := h0
      have hc0 : W.cell? ⟨w.heap.size + 1, 0, none⟩ = some (.int .i64 (a)) := hF.cell (by assumption)
      go_simp
      exact ⟨Ext.refl _, rfl⟩
    · obtain ⟨h0, -⟩ := hs
      replace h0 : ρ (.tmp 2) = .pointer (some ⟨w.heap.size, 0, none⟩) := h0
      go_simp
      exact ⟨Ext.refl _, rfl⟩
    · obtain ⟨h0, -⟩ := hs
      replace h0 : ρ (.tmp 12) = .pointer (some ⟨w.heap.size, 0, none⟩) := h0
      have hc0 : W.cell? ⟨w.heap.size, 0, none⟩ = some (.slice A n ca) := hF.cell (by assumption)
      go_simp
      exact ⟨Ext.refl _, rfl⟩
    · obtain ⟨h0, -⟩ := hs
      replace h0 : ρ (.tmp 13) = .slice A n ca := h0
      go_simp
      exact ⟨Ext.refl _, rfl⟩
    · obtain ⟨h0, h1, h2, -⟩ := hs
      replace h0 : ρ (.tmp 9) = .func (.func 124) #[] #[.pointer (some ⟨w.heap.size, 0, none⟩)] := h0
      replace h1 : ρ (.tmp 11) = .int .i64 (a) := h1
      replace h2 : ρ (.tmp 14) = .int .i64 ((n : Int)) := h2
      go_simp
      refine (HL1.out _ hF).mono ?_; rintro e w' ⟨rfl, hx⟩; exact ⟨_, rfl, hx, rfl⟩
    · obtain ⟨h0, -⟩ := hs
      replace h0 : ρ (.tmp 15) = .agg #[.int .i64 lo.1, .int .i64 lo.2] := h0
      go_simp
      refine (HL2.out _).mono ?_; rintro e w' ⟨rfl, hx⟩; exact ⟨_, rfl, hx, rfl⟩
    · obtain ⟨h0, -⟩ := hs
      replace h0 : ρ (.tmp 6) = .func (.func 125) #[] #[.pointer (some ⟨w.heap.size, 0, none⟩)] := h0
      go_simp
      exact ⟨Ext.refl _, rfl⟩
    · obtain ⟨h0, -⟩ := hs
      replace h0 : ρ (.tmp 3) = .pointer (some ⟨w.heap.size + 1, 0, none⟩) := h0
      go_simp
      exact ⟨Ext.refl _, rfl⟩
    · obtain ⟨h0, -⟩ := hs
      replace h0 : ρ (.tmp 18) = .pointer (some ⟨w.heap.size + 1, 1, none⟩) := h0
      have hc0 : W.cell? ⟨w.heap.size + 1, 1, none⟩ = some (.int .i64 (b)) := hF.cell (by assumption)
      go_simp
      exact ⟨Ext.refl _, rfl⟩
    · obtain ⟨h0, -⟩ := hs
      replace h0 : ρ (.tmp 2) = .pointer (some ⟨w.heap.size, 0, none⟩) := h0
      go_simp
      exact ⟨Ext.refl _, rfl⟩
    · obtain ⟨h0, -⟩ := hs
      replace h0 : ρ (.tmp 20) = .pointer (some ⟨w.heap.size, 0, none⟩) := h0
      have hc0 : W.cell? ⟨w.heap.size, 0, none⟩ = some (.slice A n ca) := hF.cell (by assumption)
      go_simp
      exact ⟨Ext.refl _, rfl⟩
    · obtain ⟨h0, -⟩ := hs
      replace h0 : ρ (.tmp 21) = .slice A n ca := h0
      go_simp
      exact ⟨Ext.refl _, rfl⟩
    · obtain ⟨h0, h1, h2, -⟩ := hs
      replace h0 : ρ (.tmp 17) = .func (.func 125) #[] #[.pointer (some ⟨w.heap.size, 0, none⟩)] := h0
      replace h1 : ρ (.tmp 19) = .int .i64 (b) := h1
      replace h2 : ρ (.tmp 22) = .int .i64 ((n : Int)) := h2
      go_simp
      refine (HH1.out _ hF).mono ?_; rintro e w' ⟨rfl, hx⟩; exact ⟨_, rfl, hx, rfl⟩
    · obtain ⟨h0, -⟩ := hs
      replace h0 : ρ (.tmp 23) = .agg #[.int .i64 hi.1, .int .i64 hi.2] := h0
      go_simp
      refine (HH2.out _).mono ?_; rintro e w' ⟨rfl, hx⟩; exact ⟨_, rfl, hx, rfl⟩
    · obtain ⟨h0, h1, -⟩ := hs
      replace h0 : ρ (.tmp 16) = .int .i64 (lo.1 / lo.2) := h0
      replace h1 : ρ (.tmp 24) = .int .i64 (-(-hi.1 / hi.2)) := h1
      go_simp
      exact ⟨Ext.refl _, rfl⟩
  · intro fv W hF hs
    obtain ⟨-, -, -, -, -, -, -, -, -, -, -, -, -, -, -, -, h25, -⟩ := hs
    replace h25 : fv 25 = .agg #[.int .i64 (lo.1 / lo.2), .int .i64 (-(-hi.1 / hi.2))] := h25
    simp only [fin, List.filterMap]
    go_simp
    have B2 := Lib.hid (K2.out.ext hF)
    have X1 := Lib.hid (E0.out.trans hF)
    clear hF y0 y1 y2 K0 K1 K2
    have f0 := B2.out.free 0
    have f1 := B2.out.free 1
    have c0 : W.cell? ⟨w.heap.size + 1 + 1, 0, none⟩ = some (.int .i64 0) := B2.out.cell 0
    have c1 : W.cell? ⟨w.heap.size + 1 + 1, 1, none⟩ = some (.int .i64 0) := B2.out.cell 1

    clear B2
    go_wp2
    exact bodyPost_ret (v := .agg #[.int .i64 (lo.1 / lo.2), .int .i64 (-(-hi.1 / hi.2))]) (by simp [results, Try.f95, go_sem, c0, c1]) rfl ⟨by rw [HCV.out], Ext.set (Ext.set (X1.out) (by dsimp only; omega) _) (by dsimp only; omega) _⟩
def convE (xs : List Kn) (a b : Int) : Int := firstE [(checkX xs).2, endsE a b]
set_option maxRecDepth 100000 in
set_option maxHeartbeats 1000000 in
theorem convertedOf_ok {A : Option Addr} {n ca : Nat} {xs : List Kn} {w : World} (a b : Int) (hn : xs.length = n) (hA : RowsAt 3 Kn.enc w A xs) (hz : convE xs a b = 0) (hm : missE (xs.getD 0 default).f (xs.getD (n - 1) default).f a b = 0) :
    Calls Try.prog 36 #[.agg #[.slice A n ca], .agg #[.int .i64 a, .int .i64 b]] w fun e w' => e = .returned (.tuple #[.agg #[.int .i64 (convV xs a b).1, .int .i64 (convV xs a b).2], .int .i64 0]) ∧ Ext w w' := by
  have HZ := Lib.hid (show firstE [(checkX xs).2, endsE a b] = 0 from hz)
  obtain ⟨m2, m12, -, -⟩ := checkX_ok (firstE_zero hz (checkX xs).2 (by simp))
  rw [hn] at m2 m12
  have g : ∀ i, i < n → xs[i]? = some (xs.getD i default) := fun i h => by rw [List.getD_eq_getElem?_getD, List.getElem?_eq_getElem (by omega)]; rfl
  have hr : rangeE (xs.getD 0 default).f (xs.getD (n - 1) default).f [a, b] = 0 := by
    unfold missE errIf at hm
    split at hm
    · cases hm
    · rename_i h; simpa using h
  have HM := Lib.hid (fun W (e : Ext w W) => show Calls Try.prog 94 #[.agg #[.slice A n ca], .agg #[.int .i64 a, .int .i64 b]] W fun e w' => e = .returned (.int .i64 0) ∧ Ext W w' from by
    have := missing_any (ca := ca) a b hn (hA.ext e) (g 0 (by omega)) (g (n - 1) (by omega))
    rw [hm] at this
    exact this)
  have HC := Lib.hid (fun W (e : Ext w W) => converted_any (ca := ca) a b hn (hA.ext e) (firstE_zero hz (checkX xs).2 (by simp)) (rangeE_zeros hr a (by simp)) (rangeE_zeros hr b (by simp)))
  generalize convV xs a b = cv at *
  have HT := Lib.hid (fun W (e : Ext w W) => tableError_any (ca := ca) hn (hA.ext e))
  clear hn hA hz hm g hr
  obtain ⟨W0, hW0⟩ : ∃ W0, W0 = ((w.alloc (.cells #[.slice A n ca] 64)).alloc (.cells #[.int .i64 a, .int .i64 b] 41)).alloc (.cells #[.int .i64 0, .int .i64 0] 41) := ⟨_, rfl⟩
  have k0 : Blk W0 w.heap.size 64 #[.slice A n ca] := by rw [hW0]; exact ((Blk.new _ _ _).alloc _).alloc _
  have k1 : Blk W0 (w.heap.size + 1) 41 #[.int .i64 a, .int .i64 b] := by rw [hW0]; exact (Blk.newAt _ _ _ (by simp)).alloc _
  have k2 : Blk W0 (w.heap.size + 1 + 1) 41 #[.int .i64 0, .int .i64 0] := by rw [hW0]; exact Blk.newAt _ _ _ (by simp)
  have E0 := Lib.hid (show Ext w W0 by rw [hW0]; exact ((Ext.alloc _ _).trans (Ext.alloc _ _)).trans (Ext.alloc _ _))
  have y0 : W0.cell? ⟨w.heap.size, 0, none⟩ = some (.slice A n ca) := k0.cell 0
  have y1 : W0.cell? ⟨w.heap.size + 1, 0, none⟩ = some (.int .i64 (a)) := k1.cell 0
  have y2 : W0.cell? ⟨w.heap.size + 1, 1, none⟩ = some (.int .i64 (b)) := k1.cell 1
  have K0 := Lib.hid k0
  have K1 := Lib.hid k1
  have K2 := Lib.hid k2
  clear k0 k1 k2
  go_enter Try.func36, Try.ntmps36
  go_wp2
  rw [← hW0]
  clear hW0
  go_wp2
  refine wp_region_each [some 8, some 9, some 10, some 11, some 12, some 13, some 6] [[2], [8], [3], [10], [9, 11], [12], [13]]
    [Is (.agg #[.slice A n ca]), Is (.int .i64 ((checkX xs).2)), Is (.agg #[.int .i64 (a), .int .i64 (b)]), Is (.int .i64 (endsE a b)), Ints [(checkX xs).2, endsE a b], Is (.int .i64 (firstE [(checkX xs).2, endsE a b])), Is (.int .i64 (firstE [(checkX xs).2, endsE a b]))]
    (by kernel_rfl) (by kernel_rfl) (by kernel_rfl) (by kernel_rfl) (by kernel_rfl) Ext (fun W => Ext W0 W)
    (fun W _ => Ext.refl W) (fun W W' h k => h.trans k) ?_ (Ext.drew _) ?_ ?_
  · repeat (refine ⟨fun _ _ _ _ k h => (by first | exact h | exact (IntsAt.ext h k)), ?_⟩)
    exact trivial
  · refine ⟨?_, ?_, ?_, ?_, ?_, ?_, ?_, trivial⟩
    all_goals intro ρ W ⟨kc, kg, kf⟩ hF hs
    · obtain ⟨h0, -⟩ := hs
      replace h0 : ρ (.tmp 2) = .pointer (some ⟨w.heap.size, 0, none⟩) := h0
      have hc0 : W.cell? ⟨w.heap.size, 0, none⟩ = some (.slice A n ca) := hF.cell (by assumption)
      go_simp
      exact ⟨Ext.refl _, rfl⟩
    · obtain ⟨h0, -⟩ := hs
      replace h0 : ρ (.tmp 8) = .agg #[.slice A n ca] := h0
      go_simp
      refine (HT.out _ (E0.out.trans hF)).mono ?_; rintro e w' ⟨rfl, hx⟩; exact ⟨_, rfl, hx, rfl⟩
    · obtain ⟨h0, -⟩ := hs
      replace h0 : ρ (.tmp 3) = .pointer (some ⟨w.heap.size + 1, 0, none⟩) := h0
      have hc0 : W.cell? ⟨w.heap.size + 1, 0, none⟩ = some (.int .i64 (a)) := hF.cell (by assumption)
      have hc1 : W.cell? ⟨w.heap.size + 1, 1, none⟩ = some (.int .i64 (b)) := hF.cell (by assumption)
      go_simp
      exact ⟨Ext.refl _, rfl⟩
    · obtain ⟨h0, -⟩ := hs
      replace h0 : ρ (.tmp 10) = .agg #[.int .i64 (a), .int .i64 (b)] := h0
      go_simp
      refine (endsError_any _ _ _).mono ?_; rintro e w' ⟨rfl, hx⟩; exact ⟨_, rfl, hx, rfl⟩
    · obtain ⟨h0, h1, -⟩ := hs
      replace h0 : ρ (.tmp 9) = .int .i64 ((checkX xs).2) := h0
      replace h1 : ρ (.tmp 11) = .int .i64 (endsE a b) := h1
      go_simp
      exact ⟨Ext.alloc _ _, ints_new _ [(checkX xs).2, endsE a b] _ (by simp)⟩
    · obtain ⟨h0, -⟩ := hs
      replace h0 : (Ints [(checkX xs).2, endsE a b]) (ρ (.tmp 12)) W := h0
      go_simp
      refine (firstOf_any _ _ _ h0).mono ?_; rintro e w' ⟨rfl, rfl⟩; exact ⟨_, rfl, Ext.refl _, rfl⟩
    · obtain ⟨h0, -⟩ := hs
      replace h0 : ρ (.tmp 13) = .int .i64 (firstE [(checkX xs).2, endsE a b]) := h0
      go_simp
      exact ⟨Ext.refl _, rfl⟩
  · intro fv W hF hs
    obtain ⟨-, -, -, -, -, -, h6, -⟩ := hs
    replace h6 : fv 6 = .int .i64 (firstE [(checkX xs).2, endsE a b]) := h6
    simp only [fin, List.filterMap]
    go_simp
    rw [HZ.out]
    clear h6
    have B0 := Lib.hid (K0.out.ext hF)
    have B1 := Lib.hid (K1.out.ext hF)
    have B2 := Lib.hid (K2.out.ext hF)
    have X1 := Lib.hid (E0.out.trans hF)
    clear hF y0 y1 y2 K0 K1 K2 E0

    have p0 : W.cell? ⟨w.heap.size, 0, none⟩ = some (.slice A n ca) := B0.out.cell 0
    have p1 : W.cell? ⟨w.heap.size + 1, 0, none⟩ = some (.int .i64 a) := B1.out.cell 0
    have p2 : W.cell? ⟨w.heap.size + 1, 1, none⟩ = some (.int .i64 b) := B1.out.cell 1
    clear HZ
    go_wp2_with (go_at_call 94; refine (HM.out _ X1.out).mono ?_; rintro e W2 ⟨rfl, hx⟩; have X2 := Lib.hid (X1.out.trans hx); have B0 := Lib.hid (B0.out.ext hx); have B1 := Lib.hid (B1.out.ext hx); have B2 := Lib.hid (B2.out.ext hx); clear hx p0 p1 p2; refine Hid.out ?_)
    refine Lib.hid ?_
    have p0 : W2.cell? ⟨w.heap.size, 0, none⟩ = some (.slice A n ca) := B0.out.cell 0
    have p1 : W2.cell? ⟨w.heap.size + 1, 0, none⟩ = some (.int .i64 a) := B1.out.cell 0
    have p2 : W2.cell? ⟨w.heap.size + 1, 1, none⟩ = some (.int .i64 b) := B1.out.cell 1
    go_wp2_with (go_at_call 95; refine (HC.out _ X2.out).mono ?_; rintro e W3 ⟨rfl, hx⟩; have X3 := Lib.hid (X2.out.trans hx); have B2 := Lib.hid (B2.out.ext hx); clear hx p0 p1 p2; refine Hid.out ?_)
    refine Lib.hid ?_
    have f0 := B2.out.free 0
    have f1 := B2.out.free 1
    have c0 : W3.cell? ⟨w.heap.size + 1 + 1, 0, none⟩ = some (.int .i64 0) := B2.out.cell 0
    have c1 : W3.cell? ⟨w.heap.size + 1 + 1, 1, none⟩ = some (.int .i64 0) := B2.out.cell 1
    clear B0 B1 B2
    go_wp2
    exact bodyPost_ret (v := .tuple #[.agg #[.int .i64 cv.1, .int .i64 cv.2], .int .i64 0]) (by simp [results, Try.f36, go_sem, c0, c1]) rfl ⟨rfl, Ext.set (Ext.set (X3.out) (by dsimp only; omega) _) (by dsimp only; omega) _⟩

end Go.Proofs.Ytmddnpagfgilcaa

namespace Go.Proofs.Ytmddnpagfgilcaa
open Go.RowKit Go.Shelf Go.Mem Go.RegInv
attribute [local go_sem] RelUpon_value RelUpon_skip RelUpon_enter BigFrame.eval_const BigFrame.eval_global BigFrame.eval_func

/-- A pair. -/
structure Pr where
  s : Int
  v : Int
deriving DecidableEq, Inhabited
def Pr.enc (x : Pr) : List Value := [.int .i64 x.s, .int .i64 x.v]
theorem sizeError_any (m : Int) (v : Value) (xs : List Int) (w : World) (hm : 0 ≤ m ∧ m ≤ 1000000000000) (hx : IntsAt w v xs) :
    Calls Try.prog 134 #[.int .i64 m, v] w fun e w' => e = .returned (.int .i64 (rangeE (-m) m xs)) ∧ Ext w w' := by
  have H := Lib.hid (rangeError_any (-m) m v xs w hx)
  obtain ⟨m0, m1⟩ := hm
  clear hx
  go_enter Try.func134, Try.ntmps134
  go_wp2_with (go_at_call 79; refine H.out.mono ?_; rintro e w' ⟨rfl, hx⟩)
  go_ret
  exact ⟨rfl, hx⟩
def prE (x : Pr) : Int := rangeE (-100) 100 [x.s, x.v]
set_option maxRecDepth 100000 in
theorem prErr_any (i : Int) (x : Pr) (w : World) : Calls Try.prog 133 #[.int .i64 i, .agg #[.int .i64 x.s, .int .i64 x.v]] w fun e w' => e = .returned (.int .i64 (prE x)) ∧ Ext w w' := by
  have HE := Lib.hid (show prE x = rangeE (-100) 100 [x.s, x.v] from rfl)
  generalize prE x = z at *
  have HS := Lib.hid (fun W v (h : IntsAt W v [x.s, x.v]) => sizeError_any 100 v [x.s, x.v] W ⟨by decide, by decide⟩ h)
  have HI := Lib.hid (show IntsAt ((w.alloc (.cells #[.int .i64 x.s, .int .i64 x.v] 162)).alloc (.cells #[.int .i64 x.s, .int .i64 x.v] 3)) (.slice (some ⟨w.heap.size + 1, 0, none⟩) 2 2) [x.s, x.v] from by
    have := ints_new (w.alloc (.cells #[.int .i64 x.s, .int .i64 x.v] 162)) [x.s, x.v] 3 (by simp)
    simpa using this)
  go_enter Try.func133, Try.ntmps133
  go_wp2_with (go_at_call 134; refine (HS.out _ _ HI.out).mono ?_; rintro e W1 ⟨rfl, hx⟩; have X1 := Lib.hid ((Ext.alloc _ _).trans ((Ext.alloc _ _).trans hx)); clear hx)
  go_ret
  exact ⟨ret_int HE.out.symm, X1.out⟩

set_option maxRecDepth 100000 in
set_option maxHeartbeats 1000000 in
theorem firstError132_any {A : Option Addr} {n ca : Nat} {xs : List Pr} {w : World} {E : Nat → Int} {cp : Array Value} (hn : xs.length = n) (hA : RowsAt 2 Pr.enc w A xs)
    (hF : ∀ (i : Nat) (x : Pr) (W : World), xs[i]? = some x → Ext w W → Calls Try.prog 133 (#[.int .i64 (i : Int), .agg #[.int .i64 x.s, .int .i64 x.v]] ++ cp) W fun e w' => e = .returned (.int .i64 (E i)) ∧ Ext W w') :
    Calls Try.prog 132 #[.slice A n ca, .func (.func 133) #[] cp] w fun e w' => e = .returned (.tuple #[.int .i64 (firstAt E n 0).1, .int .i64 (firstAt E n 0).2]) ∧ Ext w w' := by
  have HN := Lib.hid hn
  have HA := Lib.hid hA
  have HF := Lib.hid hF
  have hnb : n ≤ 1152921504606846976 := by have := hA.1; omega
  clear hn hA hF
  go_enter Try.func132, Try.ntmps132
  go_wp2
  go_loopw [11] (fun i wr => ∃ k : Nat, k ≤ n ∧ i = .int .i64 k ∧ firstAt E n 0 = firstAt E (n - k) k ∧ Ext w wr) (fun i _ => n - (intOf i).toNat)
  case atStart => exact ⟨0, Nat.zero_le _, rfl, by rw [Nat.sub_zero], Ext.refl _⟩
  case round =>
    obtain ⟨k, hk, rfl, hr, hx⟩ := hrel
    have X := Lib.hid hx
    have R := Lib.hid hr
    clear hx hr
    by_cases hlt : k < n
    · have R2 := Lib.hid (R.out.trans (firstAt_step E hlt))
      clear R
      obtain ⟨x, hx⟩ : ∃ x, xs[k]? = some x := ⟨_, List.getElem?_eq_getElem (by rw [HN.out]; exact hlt)⟩
      obtain ⟨b, o, rfl, hb, hc⟩ := row_at (HA.out.ext X.out) hx
      have HX := Lib.hid hx
      have p0 := hc 0 _ rfl
      have p1 := hc 1 _ rfl
      simp only [Nat.add_zero] at p0
      have HC := Lib.hid (fun W (e : Ext w W) => HF.out k x W HX.out e)
      clear hc hx
      have hki : (k : Int) < (n : Int) := by omega
      by_cases hz : E k = 0
      · have hz2 : (E k != 0) = false := by simp [hz]
        have HZ := Lib.hid hz
        clear hz
        generalize hE : E k = z at *
        have HE := Lib.hid hE
        clear hE
        go_wp2_with (go_at_call 133; refine (HC.out _ (X.out.trans (Ext.alloc _ _))).mono ?_; rintro e W1 ⟨rfl, hx⟩; have X1 := Lib.hid ((X.out.trans (Ext.alloc _ _)).trans hx); clear hx)
        go_roundw
        case rel => exact ⟨k + 1, by omega, by go_num, by rw [R2.out, if_neg (by simpa using HZ.out)], X1.out⟩
        case measure => simp [intOf]; omega
      · have hz2 : (E k != 0) = true := by simp [hz]
        have HZ := Lib.hid hz
        clear hz
        generalize hE : E k = z at *
        have HE := Lib.hid hE
        clear hE
        go_wp2_with (go_at_call 133; refine (HC.out _ (X.out.trans (Ext.alloc _ _))).mono ?_; rintro e W1 ⟨rfl, hx⟩; have X1 := Lib.hid ((X.out.trans (Ext.alloc _ _)).trans hx); clear hx)
        go_ret2
        exact ⟨ret_two (by rw [R2.out, if_pos HZ.out]) (by rw [R2.out, if_pos HZ.out]), X1.out⟩
    · have R2 := Lib.hid (show firstAt E n 0 = (0, 0) by rw [R.out, show n - k = 0 by omega]; rfl)
      have hkn : ¬ (k : Int) < (n : Int) := by omega
      go_wp2
      go_ret2
      exact ⟨ret_two (by rw [R2.out]) (by rw [R2.out]), X.out⟩

def prAt (xs : List Pr) (i : Nat) : Int := prE (xs.getD i default)
def pairsE (xs : List Pr) : Int := if countE xs.length 2 10 ≠ 0 then countE xs.length 2 10 else (firstAt (prAt xs) xs.length 0).2
set_option maxRecDepth 100000 in
set_option maxHeartbeats 1000000 in
theorem pairsError_any {A : Option Addr} {n ca : Nat} {xs : List Pr} {w : World} (hn : xs.length = n) (hA : RowsAt 2 Pr.enc w A xs) :
    Calls Try.prog 112 #[.slice A n ca] w fun e w' => e = .returned (.int .i64 (pairsE xs)) ∧ Ext w w' := by
  have hnb : n ≤ 1152921504606846976 := by have := hA.1; omega
  have HT := Lib.hid (show pairsE xs = if countE n 2 10 ≠ 0 then countE n 2 10 else (firstAt (prAt xs) n 0).2 by rw [← hn]; rfl)
  have HFE := Lib.hid (fun W (e : Ext w W) => firstError132_any (ca := ca) (E := prAt xs) (cp := #[]) hn (hA.ext e) (fun i x W2 hx e2 => by
    have := prErr_any i x W2
    have hd : xs.getD i default = x := by simp [hx]
    unfold prAt
    rw [hd]
    exact this))
  generalize firstAt (prAt xs) n 0 = fa at *
  clear hA hn
  by_cases hz : countE n 2 10 = 0
  · have hz2 : (countE n 2 10 != 0) = false := by simp [hz]
    have HZ := Lib.hid hz
    clear hz
    have HC := Lib.hid (fun W => countError_any n 2 10 W)
    generalize countE n 2 10 = z at *
    go_enter Try.func112, Try.ntmps112
    go_wp2_with (go_at_call 75; refine (HC.out _).mono ?_; rintro e W1 ⟨rfl, hx⟩; have X1 := Lib.hid hx; clear hx; refine Hid.out ?_)
    refine Lib.hid ?_
    go_wp2_with (go_at_call 132; refine (HFE.out _ X1.out).mono ?_; rintro e W2 ⟨rfl, hx⟩; have X2 := Lib.hid hx; clear hx)
    go_ret
    exact ⟨ret_int (by rw [HT.out, if_neg (by simpa using HZ.out)]), X1.out.trans X2.out⟩
  · have hz2 : (countE n 2 10 != 0) = true := by simp [hz]
    have HZ := Lib.hid hz
    clear hz
    have HC := Lib.hid (fun W => countError_any n 2 10 W)
    generalize countE n 2 10 = z at *
    go_enter Try.func112, Try.ntmps112
    go_wp2_with (go_at_call 75; refine (HC.out _).mono ?_; rintro e W1 ⟨rfl, hx⟩; have X1 := Lib.hid hx; clear hx; refine Hid.out ?_)
    refine Lib.hid ?_
    go_wp2
    go_ret
    exact ⟨ret_int (by rw [HT.out, if_pos HZ.out]), X1.out⟩

/-- A pointer tO a block of its own. -/
def NewP (base : Nat) (T : TypeId) (cs : Array Value) : Value → World → Prop := fun v W => ∃ q, v = .pointer (some ⟨q, 0, none⟩) ∧ base ≤ q ∧ Blk W q T cs
theorem NewP.ext {base : Nat} {T : TypeId} {cs : Array Value} {v : Value} {W W' : World} (h : NewP base T cs v W) (k : Ext W W') : NewP base T cs v W' := by
  obtain ⟨q, h1, h2, h3⟩ := h; exact ⟨q, h1, h2, h3.ext k⟩
/-- The window of the first k pairs. -/
def winK (xs : List Pr) : Nat → Int × Int
  | 0 => ((xs.getD 0 default).s, (xs.getD 0 default).s)
  | k + 1 => (min (winK xs k).1 (xs.getD k default).s, max (winK xs k).2 (xs.getD k default).s)
set_option maxRecDepth 100000 in
set_option maxHeartbeats 1000000 in
theorem windowOf_any {A : Option Addr} {n ca : Nat} {xs : List Pr} {w : World} (hn : xs.length = n) (hA : RowsAt 2 Pr.enc w A xs) (h0 : 0 < n) :
    Calls Try.prog 135 #[.slice A n ca] w fun e w' => e = .returned (.agg #[.int .i64 (winK xs n).1, .int .i64 (winK xs n).2]) ∧ Ext w w' := by
  have hl := hA.1
  rw [hn] at hl
  have g : ∀ i, i < n → xs[i]? = some (xs.getD i default) := fun i h => by rw [List.getD_eq_getElem?_getD, List.getElem?_eq_getElem (by omega)]; rfl
  have G := Lib.hid g
  have HW0 := Lib.hid (show winK xs 0 = ((xs.getD 0 default).s, (xs.getD 0 default).s) from rfl)
  have hx0 := g 0 h0
  obtain ⟨b, o, rfl, hb, hc⟩ := row_at hA hx0
  have p0 := hc 0 _ rfl
  simp only [Nat.zero_mul, Nat.add_zero] at p0
  generalize xs.getD 0 default = x0 at *
  have HA := Lib.hid hA
  have HN := Lib.hid hn
  obtain ⟨W0, hW0⟩ : ∃ W0, W0 = w.alloc (.cells #[.int .i64 0, .int .i64 0] 41) := ⟨_, rfl⟩
  have K0 := Lib.hid (show Blk W0 w.heap.size 41 #[.int .i64 0, .int .i64 0] by rw [hW0]; exact Blk.new _ _ _)
  have E0 := Lib.hid (show Ext w W0 by rw [hW0]; exact Ext.alloc _ _)
  have r0 := E0.out.cell p0
  clear g hc hb p0 hA hn hx0
  go_enter Try.func135, Try.ntmps135
  go_wp2
  rw [← hW0]
  clear hW0
  go_wp2
  refine wp_region_part 10 [some 6, some 7, some 8, some 9, some 10, some 11, some 12, some 13, some 14, some 3] [[0], [6], [7], [8], [0], [10], [11], [12], [9, 13], []]
    [Is (.slice (some ⟨b, o, none⟩) n ca), Is (.pointer (some ⟨b, o, none⟩)), Is (.pointer (some ⟨b, o, none⟩)), Is (.int .i64 (x0.s)), Is (.slice (some ⟨b, o, none⟩) n ca), Is (.pointer (some ⟨b, o, none⟩)), Is (.pointer (some ⟨b, o, none⟩)), Is (.int .i64 (x0.s)), Is (.agg #[.int .i64 x0.s, .int .i64 x0.s]), NewP W0.heap.size 41 #[.int .i64 0, .int .i64 0]]
    (by kernel_rfl) (by kernel_rfl) (by kernel_rfl) (by kernel_rfl) (by kernel_rfl) (by kernel_rfl) (by kernel_rfl) Ext (fun W => Ext W0 W)
    (fun W _ => Ext.refl W) (fun W W' h k => h.trans k) ?_ (Ext.drew _) ?_ ?_
  · repeat (refine ⟨fun _ _ _ _ k h => (by first | exact h | exact (by first | exact IntsAt.ext h k | exact NewP.ext h k)), ?_⟩)
    exact trivial
  · refine ⟨?_, ?_, ?_, ?_, ?_, ?_, ?_, ?_, ?_, ?_, trivial⟩
    all_goals intro ρ W ⟨kc, kg, kf⟩ hF hs
    · obtain ⟨h0, -⟩ := hs
      replace h0 : ρ (.tmp 0) = .slice (some ⟨b, o, none⟩) n ca := h0
      go_simp
      exact ⟨Ext.refl _, rfl⟩
    · obtain ⟨h0, -⟩ := hs
      replace h0 : ρ (.tmp 6) = .slice (some ⟨b, o, none⟩) n ca := h0
      have hb2 : (0 : Int) < (n : Int) := by omega
      have hb3 : 0 < n := by omega
      go_simp
      exact ⟨Ext.refl _, rfl⟩
    · obtain ⟨h0, -⟩ := hs
      replace h0 : ρ (.tmp 7) = .pointer (some ⟨b, o, none⟩) := h0
      go_simp
      exact ⟨Ext.refl _, rfl⟩
    · obtain ⟨h0, -⟩ := hs
      replace h0 : ρ (.tmp 8) = .pointer (some ⟨b, o, none⟩) := h0
      have hc0 : W.cell? ⟨b, o, none⟩ = some (.int .i64 (x0.s)) := hF.cell (by assumption)
      go_simp
      exact ⟨Ext.refl _, rfl⟩
    · obtain ⟨h0, -⟩ := hs
      replace h0 : ρ (.tmp 0) = .slice (some ⟨b, o, none⟩) n ca := h0
      go_simp
      exact ⟨Ext.refl _, rfl⟩
    · obtain ⟨h0, -⟩ := hs
      replace h0 : ρ (.tmp 10) = .slice (some ⟨b, o, none⟩) n ca := h0
      have hb2 : (0 : Int) < (n : Int) := by omega
      have hb3 : 0 < n := by omega
      go_simp
      exact ⟨Ext.refl _, rfl⟩
    · obtain ⟨h0, -⟩ := hs
      replace h0 : ρ (.tmp 11) = .pointer (some ⟨b, o, none⟩) := h0
      go_simp
      exact ⟨Ext.refl _, rfl⟩
    · obtain ⟨h0, -⟩ := hs
      replace h0 : ρ (.tmp 12) = .pointer (some ⟨b, o, none⟩) := h0
      have hc0 : W.cell? ⟨b, o, none⟩ = some (.int .i64 (x0.s)) := hF.cell (by assumption)
      go_simp
      exact ⟨Ext.refl _, rfl⟩
    · obtain ⟨h0, h1, -⟩ := hs
      replace h0 : ρ (.tmp 9) = .int .i64 (x0.s) := h0
      replace h1 : ρ (.tmp 13) = .int .i64 (x0.s) := h1
      go_simp
      exact ⟨Ext.refl _, rfl⟩
    · go_simp
      exact ⟨Ext.alloc _ _, _, rfl, hF.size, Blk.new _ _ _⟩
  · intro fv W hF hs
    obtain ⟨-, -, -, -, -, -, -, -, h14, h3, -⟩ := hs
    replace h14 : fv 14 = .agg #[.int .i64 x0.s, .int .i64 x0.s] := h14
    replace h3 : (NewP W0.heap.size 41 #[.int .i64 0, .int .i64 0]) (fv 3) W := h3
    simp only [fin, List.filterMap]
    go_simp
    have X1 := Lib.hid hF
    obtain ⟨q, hq, hqs, hbq⟩ := h3
    rw [hq]
    have f0 := hbq.free 0
    have f1 := hbq.free 1
    have c0 : W.cell? ⟨q, 0, none⟩ = some (.int .i64 0) := hbq.cell 0
    have c1 : W.cell? ⟨q, 1, none⟩ = some (.int .i64 0) := hbq.cell 1
    have HB := Lib.hid hbq
    clear hF r0 hq hbq
    go_wp2
    obtain ⟨W1, hW1⟩ : ∃ W1, W1 = (W.setCell ⟨q, 0, none⟩ (.int .i64 x0.s)).setCell ⟨q, 1, none⟩ (.int .i64 x0.s) := ⟨_, rfl⟩
    rw [← hW1]
    have KR := Lib.hid (show Blk W1 q 41 #[.int .i64 (winK xs 0).1, .int .i64 (winK xs 0).2] by rw [hW1, HW0.out]; exact (HB.out.setSame 0 _).setSame 1 _)
    have X2 := Lib.hid (show Ext W0 W1 by rw [hW1]; exact Ext.set (Ext.set X1.out hqs _) hqs _)
    clear hW1 h14 c0 c1 f0 f1 HB X1
    go_loopw [17] (fun i wr => ∃ k : Nat, k ≤ n ∧ i = .int .i64 k ∧ Blk wr q 41 #[.int .i64 (winK xs k).1, .int .i64 (winK xs k).2] ∧ Ext W0 wr) (fun i _ => n - (intOf i).toNat)
    case atStart => exact ⟨0, Nat.zero_le _, rfl, KR.out, X2.out⟩
    case round =>
      obtain ⟨k, hk, rfl, hb, hx⟩ := hrel
      have X := Lib.hid hx
      have B := Lib.hid hb
      clear hx hb KR X2
      by_cases hlt : k < n
      · have hxk := G.out k hlt
        obtain ⟨b2, o2, he, hb2, hc⟩ := row_at (HA.out.ext (E0.out.trans X.out)) hxk
        obtain ⟨rfl, rfl⟩ : b = b2 ∧ o = o2 := by simpa using he
        have p0 := hc 0 _ rfl
        have p1 := hc 1 _ rfl
        simp only [Nat.add_zero] at p0
        have HK := Lib.hid (show winK xs (k + 1) = (min (winK xs k).1 (xs.getD k default).s, max (winK xs k).2 (xs.getD k default).s) from rfl)
        generalize xs.getD k default = x at *
        have hki : (k : Int) < (n : Int) := by omega
        clear hc he hxk
        have c0 : ∀ o, (wr.alloc o).cell? ⟨q, 0, none⟩ = some (.int .i64 (winK xs k).1) := fun o => (B.out.alloc o).cell 0
        have c1 : ∀ o, (wr.alloc o).cell? ⟨q, 1, none⟩ = some (.int .i64 (winK xs k).2) := fun o => (B.out.alloc o).cell 1
        have f0 : ∀ o, (wr.alloc o).frozen? ⟨q, 0, none⟩ = false := fun o => (B.out.alloc o).free 0
        have f1 : ∀ o, (wr.alloc o).frozen? ⟨q, 1, none⟩ = false := fun o => (B.out.alloc o).free 1
        generalize winK xs k = z at *
        go_wp2
        go_roundw
        case rel => exact ⟨k + 1, by omega, by go_num, by rw [HK.out]; exact ((B.out.alloc _).setSame 0 _).setSame 1 _, Ext.set (Ext.set (X.out.trans (Ext.alloc _ _)) hqs _) hqs _⟩
        case measure => simp [intOf]; omega
      · have hkn : k = n := by omega
        rw [hkn] at B
        have hkn2 : ¬ (k : Int) < (n : Int) := by omega
        clear hkn
        have c0 : wr.cell? ⟨q, 0, none⟩ = some (.int .i64 (winK xs n).1) := B.out.cell 0
        have c1 : wr.cell? ⟨q, 1, none⟩ = some (.int .i64 (winK xs n).2) := B.out.cell 1
        have B2 := Lib.hid (K0.out.ext X.out)
        have f0 := B2.out.free 0
        have f1 := B2.out.free 1
        have d0 : wr.cell? ⟨w.heap.size, 0, none⟩ = some (.int .i64 0) := B2.out.cell 0
        have d1 : wr.cell? ⟨w.heap.size, 1, none⟩ = some (.int .i64 0) := B2.out.cell 1
        clear B B2
        go_wp2
        exact bodyPost_ret (v := .agg #[.int .i64 (winK xs n).1, .int .i64 (winK xs n).2]) (by simp [results, Try.f135, go_sem, d0, d1]) rfl ⟨rfl, Ext.set (Ext.set (E0.out.trans X.out) (by dsimp only; omega) _) (by dsimp only; omega) _⟩

end Go.Proofs.Ytmddnpagfgilcaa

namespace Go.Proofs.Ytmddnpagfgilcaa
open Go.RowKit Go.Shelf Go.Mem Go.RegInv
attribute [local go_sem] RelUpon_value RelUpon_skip RelUpon_enter BigFrame.eval_const BigFrame.eval_global BigFrame.eval_func

/-- The sums of the first k pairs. -/
structure Sm where
  x : Int
  y : Int
  xx : Int
  xy : Int
def sumK (xs : List Pr) : Nat → Sm
  | 0 => ⟨0, 0, 0, 0⟩
  | k + 1 => ⟨(sumK xs k).x + (xs.getD k default).s, (sumK xs k).y + (xs.getD k default).v, (sumK xs k).xx + (xs.getD k default).s * (xs.getD k default).s, (sumK xs k).xy + (xs.getD k default).s * (xs.getD k default).v⟩
theorem mul_bd {a b A B : Int} (ha : -A ≤ a ∧ a ≤ A) (hb : -B ≤ b ∧ b ≤ B) : -(A * B) ≤ a * b ∧ a * b ≤ A * B := by
  have h1 : a.natAbs ≤ A.toNat := by omega
  have h2 : b.natAbs ≤ B.toNat := by omega
  have h3 : (a * b).natAbs ≤ A.toNat * B.toNat := by rw [Int.natAbs_mul]; exact Nat.mul_le_mul h1 h2
  have h4 : ((A.toNat * B.toNat : Nat) : Int) = A * B := by rw [Int.natCast_mul, Int.toNat_of_nonneg (by omega), Int.toNat_of_nonneg (by omega)]
  rw [← h4]
  omega
def PrOK (x : Pr) : Prop := (-100 ≤ x.s ∧ x.s ≤ 100) ∧ -100 ≤ x.v ∧ x.v ≤ 100
theorem sumK_bd {xs : List Pr} (h : ∀ i, PrOK (xs.getD i default)) : ∀ k : Nat, -(100 * (k : Int)) ≤ (sumK xs k).x ∧ (sumK xs k).x ≤ 100 * k ∧ -(100 * (k : Int)) ≤ (sumK xs k).y ∧ (sumK xs k).y ≤ 100 * k ∧ -(10000 * (k : Int)) ≤ (sumK xs k).xx ∧ (sumK xs k).xx ≤ 10000 * k ∧ -(10000 * (k : Int)) ≤ (sumK xs k).xy ∧ (sumK xs k).xy ≤ 10000 * k
  | 0 => by simp [sumK]
  | k + 1 => by
    have ih := sumK_bd h k
    obtain ⟨h1, h2⟩ := h k
    have a := mul_bd h1 h1
    have b := mul_bd h1 h2
    simp only [sumK]
    omega
set_option maxRecDepth 100000 in
set_option maxHeartbeats 1000000 in
theorem sumsOf_any {A : Option Addr} {n ca : Nat} {xs : List Pr} {w : World} (hn : xs.length = n) (hA : RowsAt 2 Pr.enc w A xs) (h10 : n ≤ 10) (hok : ∀ i, PrOK (xs.getD i default)) :
    Calls Try.prog 114 #[.slice A n ca] w fun e w' => e = .returned (.agg #[.int .i64 (n : Int), .int .i64 (sumK xs n).x, .int .i64 (sumK xs n).y, .int .i64 (sumK xs n).xx, .int .i64 (sumK xs n).xy]) ∧ Ext w w' := by
  have G := Lib.hid (fun i (h : i < n) => show xs[i]? = some (xs.getD i default) by rw [List.getD_eq_getElem?_getD, List.getElem?_eq_getElem (by omega)]; rfl)
  have HB := Lib.hid (sumK_bd hok)
  have HO := Lib.hid hok
  have HA := Lib.hid hA
  obtain ⟨W0, hW0⟩ : ∃ W0, W0 = (w.alloc (.cells #[.int .i64 0, .int .i64 0, .int .i64 0, .int .i64 0, .int .i64 0] 157)).alloc (.cells #[.int .i64 (n : Int), .int .i64 0, .int .i64 0, .int .i64 0, .int .i64 0] 157) := ⟨_, rfl⟩
  have K0 := Lib.hid (show Blk W0 w.heap.size 157 #[.int .i64 0, .int .i64 0, .int .i64 0, .int .i64 0, .int .i64 0] by rw [hW0]; exact (Blk.new _ _ _).alloc _)
  have K1 := Lib.hid (show Blk W0 (w.heap.size + 1) 157 #[.int .i64 (n : Int), .int .i64 (sumK xs 0).x, .int .i64 (sumK xs 0).y, .int .i64 (sumK xs 0).xx, .int .i64 (sumK xs 0).xy] by rw [hW0]; exact Blk.newAt _ _ _ (by simp))
  have E0 := Lib.hid (show Ext w W0 by rw [hW0]; exact (Ext.alloc _ _).trans (Ext.alloc _ _))
  clear hn hA hok
  go_enter Try.func114, Try.ntmps114
  go_wp2
  rw [← hW0]
  clear hW0
  go_wp2
  go_loopw [11] (fun i wr => ∃ k : Nat, k ≤ n ∧ i = .int .i64 k ∧ Blk wr (w.heap.size + 1) 157 #[.int .i64 (n : Int), .int .i64 (sumK xs k).x, .int .i64 (sumK xs k).y, .int .i64 (sumK xs k).xx, .int .i64 (sumK xs k).xy] ∧ Blk wr w.heap.size 157 #[.int .i64 0, .int .i64 0, .int .i64 0, .int .i64 0, .int .i64 0] ∧ Ext w wr) (fun i _ => n - (intOf i).toNat)
  case atStart => exact ⟨0, Nat.zero_le _, rfl, K1.out, K0.out, E0.out⟩
  case round =>
    obtain ⟨k, hk, rfl, hb, hb0, hx⟩ := hrel
    have X := Lib.hid hx
    have B := Lib.hid hb
    have B0 := Lib.hid hb0
    have hws : w.heap.size < wr.heap.size := B0.out.lt
    clear hx hb hb0 K0 K1 E0
    by_cases hlt : k < n
    · have hxk := G.out k hlt
      obtain ⟨h1, h2⟩ := HO.out k
      have hbd := HB.out k
      obtain ⟨b, o, rfl, hb2, hc⟩ := row_at (HA.out.ext X.out) hxk
      have p0 := hc 0 _ rfl
      have p1 := hc 1 _ rfl
      simp only [Nat.add_zero] at p0
      have HK := Lib.hid (show sumK xs (k + 1) = ⟨(sumK xs k).x + (xs.getD k default).s, (sumK xs k).y + (xs.getD k default).v, (sumK xs k).xx + (xs.getD k default).s * (xs.getD k default).s, (sumK xs k).xy + (xs.getD k default).s * (xs.getD k default).v⟩ from rfl)
      generalize xs.getD k default = x at *
      generalize sumK xs k = z at *
      have hki : (k : Int) < (n : Int) := by omega
      have a1 := mul_bd h1 h1
      have a2 := mul_bd h1 h2
      obtain ⟨g1, g2⟩ := h1
      obtain ⟨g3, g4⟩ := h2
      obtain ⟨g5, g6⟩ := a1
      obtain ⟨g7, g8⟩ := a2
      obtain ⟨z1, z2, z3, z4, z5, z6, z7, z8⟩ := hbd
      clear hc hxk
      have c1 : ∀ o, (wr.alloc o).cell? ⟨w.heap.size + 1, 1, none⟩ = some (.int .i64 z.x) := fun o => (B.out.alloc o).cell 1
      have c2 : ∀ o, (wr.alloc o).cell? ⟨w.heap.size + 1, 2, none⟩ = some (.int .i64 z.y) := fun o => (B.out.alloc o).cell 2
      have c3 : ∀ o, (wr.alloc o).cell? ⟨w.heap.size + 1, 3, none⟩ = some (.int .i64 z.xx) := fun o => (B.out.alloc o).cell 3
      have c4 : ∀ o, (wr.alloc o).cell? ⟨w.heap.size + 1, 4, none⟩ = some (.int .i64 z.xy) := fun o => (B.out.alloc o).cell 4
      have f1 : ∀ o, (wr.alloc o).frozen? ⟨w.heap.size + 1, 1, none⟩ = false := fun o => (B.out.alloc o).free 1
      have f2 : ∀ o, (wr.alloc o).frozen? ⟨w.heap.size + 1, 2, none⟩ = false := fun o => (B.out.alloc o).free 2
      have f3 : ∀ o, (wr.alloc o).frozen? ⟨w.heap.size + 1, 3, none⟩ = false := fun o => (B.out.alloc o).free 3
      have f4 : ∀ o, (wr.alloc o).frozen? ⟨w.heap.size + 1, 4, none⟩ = false := fun o => (B.out.alloc o).free 4
      have hne : ¬ wr.heap.size = w.heap.size + 1 := by have := B.out.lt; omega
      have hne2 : ¬ w.heap.size + 1 = wr.heap.size := by have := B.out.lt; omega
      go_wp2
      go_roundw
      case rel => exact ⟨k + 1, by omega, by go_num, by rw [HK.out]; exact ((((B.out.alloc _).setSame 1 _).setSame 2 _).setSame 3 _).setSame 4 _, ((((B0.out.alloc _).setOther (by dsimp only; omega) _).setOther (by dsimp only; omega) _).setOther (by dsimp only; omega) _).setOther (by dsimp only; omega) _, Ext.set (Ext.set (Ext.set (Ext.set (X.out.trans (Ext.alloc _ _)) (by dsimp only; omega) _) (by dsimp only; omega) _) (by dsimp only; omega) _) (by dsimp only; omega) _⟩
      case measure => simp [intOf]; omega
    · have hkn : k = n := by omega
      rw [hkn] at B
      have hkn2 : ¬ (k : Int) < (n : Int) := by omega
      clear hkn
      have c0 : wr.cell? ⟨w.heap.size + 1, 0, none⟩ = some (.int .i64 (n : Int)) := B.out.cell 0
      have c1 : wr.cell? ⟨w.heap.size + 1, 1, none⟩ = some (.int .i64 (sumK xs n).x) := B.out.cell 1
      have c2 : wr.cell? ⟨w.heap.size + 1, 2, none⟩ = some (.int .i64 (sumK xs n).y) := B.out.cell 2
      have c3 : wr.cell? ⟨w.heap.size + 1, 3, none⟩ = some (.int .i64 (sumK xs n).xx) := B.out.cell 3
      have c4 : wr.cell? ⟨w.heap.size + 1, 4, none⟩ = some (.int .i64 (sumK xs n).xy) := B.out.cell 4
      have f0 := B0.out.free 0
      have f1 := B0.out.free 1
      have f2 := B0.out.free 2
      have f3 := B0.out.free 3
      have f4 := B0.out.free 4
      have d0 : wr.cell? ⟨w.heap.size, 0, none⟩ = some (.int .i64 0) := B0.out.cell 0
      have d1 : wr.cell? ⟨w.heap.size, 1, none⟩ = some (.int .i64 0) := B0.out.cell 1
      have d2 : wr.cell? ⟨w.heap.size, 2, none⟩ = some (.int .i64 0) := B0.out.cell 2
      have d3 : wr.cell? ⟨w.heap.size, 3, none⟩ = some (.int .i64 0) := B0.out.cell 3
      have d4 : wr.cell? ⟨w.heap.size, 4, none⟩ = some (.int .i64 0) := B0.out.cell 4
      clear B B0
      go_wp2
      exact bodyPost_ret (v := .agg #[.int .i64 (n : Int), .int .i64 (sumK xs n).x, .int .i64 (sumK xs n).y, .int .i64 (sumK xs n).xx, .int .i64 (sumK xs n).xy]) (by simp [results, Try.f114, go_sem, d0, d1, d2, d3, d4]) rfl ⟨rfl, Ext.set (Ext.set (Ext.set (Ext.set (Ext.set (X.out) (by dsimp only; omega) _) (by dsimp only; omega) _) (by dsimp only; omega) _) (by dsimp only; omega) _) (by dsimp only; omega) _⟩

end Go.Proofs.Ytmddnpagfgilcaa

namespace Go.Proofs.Ytmddnpagfgilcaa
open Go.RowKit Go.Shelf Go.Mem Go.RegInv
attribute [local go_sem] RelUpon_value RelUpon_skip RelUpon_enter BigFrame.eval_const BigFrame.eval_global BigFrame.eval_func

/-- The best line of sums. -/
def denV (n : Int) (s : Sm) : Int := n * s.xx - s.x * s.x
def slopeV (n : Int) (s : Sm) : Int × Int := lowT (n * s.xy - s.x * s.y) (denV n s)
def offsV (n : Int) (s : Sm) : Int × Int := lowT (s.xx * s.y - s.x * s.xy) (denV n s)
set_option maxRecDepth 100000 in
set_option maxHeartbeats 1000000 in
theorem line_any {n : Int} {s : Sm} (w : World) (hn : -10 ≤ n ∧ n ≤ 10) (hx : -1000 ≤ s.x ∧ s.x ≤ 1000) (hy : -1000 ≤ s.y ∧ s.y ≤ 1000) (hxx : -100000 ≤ s.xx ∧ s.xx ≤ 100000) (hxy : -100000 ≤ s.xy ∧ s.xy ≤ 100000) (hd : 0 < denV n s) :
    Calls Try.prog 115 #[.agg #[.int .i64 n, .int .i64 s.x, .int .i64 s.y, .int .i64 s.xx, .int .i64 s.xy]] w fun e w' => e = .returned (.tuple #[.agg #[.int .i64 (slopeV n s).1, .int .i64 (slopeV n s).2], .agg #[.int .i64 (offsV n s).1, .int .i64 (offsV n s).2]]) ∧ Ext w w' := by
  obtain ⟨a1, a2⟩ := mul_bd hn hxx
  obtain ⟨b1, b2⟩ := mul_bd hx hx
  obtain ⟨c1, c2⟩ := mul_bd hn hxy
  obtain ⟨d1, d2⟩ := mul_bd hx hy
  obtain ⟨e1, e2⟩ := mul_bd hxx hy
  obtain ⟨f1, f2⟩ := mul_bd hx hxy
  have HD := Lib.hid (show denV n s = n * s.xx - s.x * s.x from rfl)
  have hdd : 0 < n * s.xx - s.x * s.x := hd
  have HS := Lib.hid (fun W => show Calls Try.prog 123 #[.int .i64 (n * s.xy - s.x * s.y), .int .i64 (n * s.xx - s.x * s.x)] W fun e w' => e = .returned (.agg #[.int .i64 (slopeV n s).1, .int .i64 (slopeV n s).2]) ∧ Ext W w' from lowestP_any (n * s.xy - s.x * s.y) (n * s.xx - s.x * s.x) (by unfold Big; omega) hdd (by unfold Big; omega) W)
  have HO := Lib.hid (fun W => show Calls Try.prog 123 #[.int .i64 (s.xx * s.y - s.x * s.xy), .int .i64 (n * s.xx - s.x * s.x)] W fun e w' => e = .returned (.agg #[.int .i64 (offsV n s).1, .int .i64 (offsV n s).2]) ∧ Ext W w' from lowestP_any (s.xx * s.y - s.x * s.xy) (n * s.xx - s.x * s.x) (by unfold Big; omega) hdd (by unfold Big; omega) W)
  generalize slopeV n s = sl at *
  generalize offsV n s = of at *
  obtain ⟨n1, n2⟩ := hn
  obtain ⟨x1, x2⟩ := hx
  obtain ⟨y1, y2⟩ := hy
  obtain ⟨xx1, xx2⟩ := hxx
  obtain ⟨xy1, xy2⟩ := hxy
  clear hd
  obtain ⟨W0, hW0⟩ : ∃ W0, W0 = ((w.alloc (.cells #[.int .i64 n, .int .i64 s.x, .int .i64 s.y, .int .i64 s.xx, .int .i64 s.xy] 157)).alloc (.cells #[.int .i64 0, .int .i64 0] 32)).alloc (.cells #[.int .i64 0, .int .i64 0] 32) := ⟨_, rfl⟩
  have K0 := Lib.hid (show Blk W0 w.heap.size 157 #[.int .i64 n, .int .i64 s.x, .int .i64 s.y, .int .i64 s.xx, .int .i64 s.xy] by rw [hW0]; exact ((Blk.new _ _ _).alloc _).alloc _)
  have K1 := Lib.hid (show Blk W0 (w.heap.size + 1) 32 #[.int .i64 0, .int .i64 0] by rw [hW0]; exact (Blk.newAt _ _ _ (by simp)).alloc _)
  have K2 := Lib.hid (show Blk W0 (w.heap.size + 1 + 1) 32 #[.int .i64 0, .int .i64 0] by rw [hW0]; exact Blk.newAt _ _ _ (by simp))
  have E0 := Lib.hid (show Ext w W0 by rw [hW0]; exact ((Ext.alloc _ _).trans (Ext.alloc _ _)).trans (Ext.alloc _ _))
  have k0 : W0.cell? ⟨w.heap.size, 0, none⟩ = some (.int .i64 n) := K0.out.cell 0
  have k1 : W0.cell? ⟨w.heap.size, 1, none⟩ = some (.int .i64 s.x) := K0.out.cell 1
  have k2 : W0.cell? ⟨w.heap.size, 2, none⟩ = some (.int .i64 s.y) := K0.out.cell 2
  have k3 : W0.cell? ⟨w.heap.size, 3, none⟩ = some (.int .i64 s.xx) := K0.out.cell 3
  have k4 : W0.cell? ⟨w.heap.size, 4, none⟩ = some (.int .i64 s.xy) := K0.out.cell 4
  go_enter Try.func115, Try.ntmps115
  go_wp2_with (fail)
  rw [← hW0]
  clear hW0
  go_wp2_with (go_at_call 123; refine (HS.out _).mono ?_; rintro e W1 ⟨rfl, hx⟩; have X1 := Lib.hid hx; clear hx k0 k1 k2 k3 k4; refine Hid.out ?_)
  refine Lib.hid ?_
  have B0 := Lib.hid (K0.out.ext X1.out)
  have B1 := Lib.hid (K1.out.ext X1.out)
  have k1 : W1.cell? ⟨w.heap.size, 1, none⟩ = some (.int .i64 s.x) := B0.out.cell 1
  have k2 : W1.cell? ⟨w.heap.size, 2, none⟩ = some (.int .i64 s.y) := B0.out.cell 2
  have k3 : W1.cell? ⟨w.heap.size, 3, none⟩ = some (.int .i64 s.xx) := B0.out.cell 3
  have k4 : W1.cell? ⟨w.heap.size, 4, none⟩ = some (.int .i64 s.xy) := B0.out.cell 4
  have g0 := B1.out.free 0
  have g1 := B1.out.free 1
  have j0 : W1.cell? ⟨w.heap.size + 1, 0, none⟩ = some (.int .i64 0) := B1.out.cell 0
  have j1 : W1.cell? ⟨w.heap.size + 1, 1, none⟩ = some (.int .i64 0) := B1.out.cell 1
  go_wp2_with (go_at_call 123; refine (HO.out _).mono ?_; rintro e W2 ⟨rfl, hx⟩; have X2 := Lib.hid hx; clear hx k1 k2 k3 k4; refine Hid.out ?_)
  refine Lib.hid ?_
  have B2 := Lib.hid (((B1.out.setSame 0 (.int .i64 sl.1)).setSame 1 (.int .i64 sl.2)).ext X2.out)
  have B3 := Lib.hid ((((K2.out.ext X1.out).setOther (p := ⟨w.heap.size + 1, 0, none⟩) (by dsimp only; omega) (.int .i64 sl.1)).setOther (p := ⟨w.heap.size + 1, 1, none⟩) (by dsimp only; omega) (.int .i64 sl.2)).ext X2.out)
  have X4 := Lib.hid (show Ext w W2 from (Ext.set (Ext.set (E0.out.trans X1.out) (p := ⟨w.heap.size + 1, 0, none⟩) (by dsimp only; omega) (.int .i64 sl.1)) (p := ⟨w.heap.size + 1, 1, none⟩) (by dsimp only; omega) (.int .i64 sl.2)).trans X2.out)
  clear g0 g1 j0 j1 B0 B1 X1 X2 K0 K1 K2 E0 HS HO
  have g0 := B3.out.free 0
  have g1 := B3.out.free 1
  have j0 : W2.cell? ⟨w.heap.size + 1 + 1, 0, none⟩ = some (.int .i64 0) := B3.out.cell 0
  have j1 : W2.cell? ⟨w.heap.size + 1 + 1, 1, none⟩ = some (.int .i64 0) := B3.out.cell 1
  go_wp2
  obtain ⟨W3, hW3⟩ : ∃ W3, W3 = (W2.setCell ⟨w.heap.size + 1 + 1, 0, none⟩ (.int .i64 of.1)).setCell ⟨w.heap.size + 1 + 1, 1, none⟩ (.int .i64 of.2) := ⟨_, rfl⟩
  rw [← hW3]
  have C2 := Lib.hid (show Blk W3 (w.heap.size + 1) 32 #[.int .i64 sl.1, .int .i64 sl.2] by rw [hW3]; exact (B2.out.setOther (by dsimp only; omega) _).setOther (by dsimp only; omega) _)
  have C3 := Lib.hid (show Blk W3 (w.heap.size + 1 + 1) 32 #[.int .i64 of.1, .int .i64 of.2] by rw [hW3]; exact (B3.out.setSame 0 _).setSame 1 _)
  have X5 := Lib.hid (show Ext w W3 by rw [hW3]; exact Ext.set (Ext.set X4.out (by dsimp only; omega) _) (by dsimp only; omega) _)
  clear hW3 g0 g1 j0 j1 B2 B3 X4
  have q20 : W3.cell? ⟨w.heap.size + 1, 0, none⟩ = some (.int .i64 (sl.1)) := C2.out.cell 0
  have q21 : W3.cell? ⟨w.heap.size + 1, 1, none⟩ = some (.int .i64 (sl.2)) := C2.out.cell 1
  have q30 : W3.cell? ⟨w.heap.size + 1 + 1, 0, none⟩ = some (.int .i64 (of.1)) := C3.out.cell 0
  have q31 : W3.cell? ⟨w.heap.size + 1 + 1, 1, none⟩ = some (.int .i64 (of.2)) := C3.out.cell 1
  have f20 := C2.out.free 0
  have f21 := C2.out.free 1
  have f30 := C3.out.free 0
  have f31 := C3.out.free 1
  go_region
  go_wp2
  exact bodyPost_ret (v := .tuple #[.agg #[.int .i64 sl.1, .int .i64 sl.2], .agg #[.int .i64 of.1, .int .i64 of.2]]) (by simp [results, Try.f115, go_sem, q20, q21, q30, q31]) rfl ⟨rfl, (Ext.set (Ext.set (Ext.set (Ext.set (X5.out) (by dsimp only; omega) _) (by dsimp only; omega) _) (by dsimp only; omega) _) (by dsimp only; omega) _).trans (Ext.drew _)⟩

end Go.Proofs.Ytmddnpagfgilcaa
