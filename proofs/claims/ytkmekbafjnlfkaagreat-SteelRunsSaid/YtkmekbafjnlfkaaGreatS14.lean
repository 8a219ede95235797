/- Boxes. -/
import Derived.Test.YtkmekbafjnlfkaaGreatS13

namespace Go.Proofs.YtkmekbafjnlfkaaGreat
open Go.RowKit Go.Shelf Go.Mem Go.RegInv
attribute [local go_sem] RelUpon_value RelUpon_skip RelUpon_enter BigFrame.eval_const BigFrame.eval_global BigFrame.eval_func

def endsE (lo hi : Int) (r : Rg) : Int := firstE [rangeE lo hi [r.lo, r.hi], errIf (decide (r.hi < r.lo)) 9]
set_option maxRecDepth 100000 in
theorem endsError_any (lo hi : Int) (r : Rg) (w : World) : Calls Tryz.prog 109 #[.int .i64 lo, .int .i64 hi, .agg #[.int .i64 r.lo, .int .i64 r.hi]] w fun e w' => e = .returned (.int .i64 (endsE lo hi r)) ∧ Ext w w' := by
  obtain ⟨W0, hW0⟩ : ∃ W0, W0 = w.alloc (.cells #[.int .i64 r.lo, .int .i64 r.hi] 66) := ⟨_, rfl⟩
  have k0 : Blk W0 w.heap.size 66 #[.int .i64 r.lo, .int .i64 r.hi] := by rw [hW0]; exact Blk.new _ _ _
  have E0 := Lib.hid (show Ext w W0 by rw [hW0]; exact Ext.alloc _ _)
  have y0 : W0.cell? ⟨w.heap.size, 0, none⟩ = some (.int .i64 (r.lo)) := k0.cell 0
  have y1 : W0.cell? ⟨w.heap.size, 1, none⟩ = some (.int .i64 (r.hi)) := k0.cell 1
  have HE := Lib.hid (show endsE lo hi r = firstE [rangeE lo hi [r.lo, r.hi], errIf (decide (r.hi < r.lo)) 9] from rfl)
  clear k0
  go_enter Tryz.func109, Tryz.ntmps109
  go_wp2
  rw [← hW0]
  clear hW0
  go_wp2
  refine wp_region_each [some 7, some 8, some 9, some 10, some 11, some 12, some 13, some 14, some 15, some 16, some 17, some 18, some 19, some 20, some 21, some 22, some 6] [[0], [1], [5], [9], [5], [11], [10, 12], [7, 8, 13], [5], [15], [5], [17], [16, 18], [19], [14, 20], [21], [22]]
    [Is (.int .i64 (lo)), Is (.int .i64 (hi)), Is (.pointer (some ⟨w.heap.size, 0, none⟩)), Is (.int .i64 (r.lo)), Is (.pointer (some ⟨w.heap.size, 1, none⟩)), Is (.int .i64 (r.hi)), Ints [r.lo, r.hi], Is (.int .i64 (rangeE lo hi [r.lo, r.hi])), Is (.pointer (some ⟨w.heap.size, 0, none⟩)), Is (.int .i64 (r.lo)), Is (.pointer (some ⟨w.heap.size, 1, none⟩)), Is (.int .i64 (r.hi)), Is (.bool (decide (r.hi < r.lo))), Is (.int .i64 (errIf (decide (r.hi < r.lo)) 9)), Ints [rangeE lo hi [r.lo, r.hi], errIf (decide (r.hi < r.lo)) 9], Is (.int .i64 (firstE [rangeE lo hi [r.lo, r.hi], errIf (decide (r.hi < r.lo)) 9])), Is (.int .i64 (firstE [rangeE lo hi [r.lo, r.hi], errIf (decide (r.hi < r.lo)) 9]))]
    (by kernel_rfl) (by kernel_rfl) (by kernel_rfl) (by kernel_rfl) (by kernel_rfl) Ext (fun W => Ext W0 W)
    (fun W _ => Ext.refl W) (fun W W' h k => h.trans k) ?_ (Ext.drew _) ?_ ?_
  · repeat (refine ⟨fun _ _ _ _ k h => (by first | exact h | exact (by first | exact IntsAt.ext h k | exact KnV.ext h k | exact NumsV.ext h k)), ?_⟩)
    exact trivial
  · refine ⟨?_, ?_, ?_, ?_, ?_, ?_, ?_, ?_, ?_, ?_, ?_, ?_, ?_, ?_, ?_, ?_, ?_, trivial⟩
    all_goals intro ρ W ⟨kc, kg, kf⟩ hF hs
    · obtain ⟨h0, -⟩ := hs
      replace h0 : ρ (.tmp 0) = .int .i64 (lo) := h0
      go_simp
      exact ⟨Ext.refl _, rfl⟩
    · obtain ⟨h0, -⟩ := hs
      replace h0 : ρ (.tmp 1) = .int .i64 (hi) := h0
      go_simp
      exact ⟨Ext.refl _, rfl⟩
    · obtain ⟨h0, -⟩ := hs
      replace h0 : ρ (.tmp 5) = .pointer (some ⟨w.heap.size, 0, none⟩) := h0
      go_simp
      exact ⟨Ext.refl _, rfl⟩
    · obtain ⟨h0, -⟩ := hs
      replace h0 : ρ (.tmp 9) = .pointer (some ⟨w.heap.size, 0, none⟩) := h0
      have hc0 : W.cell? ⟨w.heap.size, 0, none⟩ = some (.int .i64 (r.lo)) := hF.cell (by assumption)
      go_simp
      exact ⟨Ext.refl _, rfl⟩
    · obtain ⟨h0, -⟩ := hs
      replace h0 : ρ (.tmp 5) = .pointer (some ⟨w.heap.size, 0, none⟩) := h0
      go_simp
      exact ⟨Ext.refl _, rfl⟩
    · obtain ⟨h0, -⟩ := hs
      replace h0 : ρ (.tmp 11) = .pointer (some ⟨w.heap.size, 1, none⟩) := h0
      have hc0 : W.cell? ⟨w.heap.size, 1, none⟩ = some (.int .i64 (r.hi)) := hF.cell (by assumption)
      go_simp
      exact ⟨Ext.refl _, rfl⟩
    · obtain ⟨h0, h1, -⟩ := hs
      replace h0 : ρ (.tmp 10) = .int .i64 (r.lo) := h0
      replace h1 : ρ (.tmp 12) = .int .i64 (r.hi) := h1
      go_simp
      exact ⟨Ext.alloc _ _, ints_new _ [r.lo, r.hi] _ (by simp)⟩
    · obtain ⟨h0, h1, h2, -⟩ := hs
      replace h0 : ρ (.tmp 7) = .int .i64 (lo) := h0
      replace h1 : ρ (.tmp 8) = .int .i64 (hi) := h1
      replace h2 : (Ints [r.lo, r.hi]) (ρ (.tmp 13)) W := h2
      go_simp
      refine (rangeError_any _ _ _ _ _ h2).mono ?_; rintro e w' ⟨rfl, hx⟩; exact ⟨_, rfl, hx, rfl⟩
    · obtain ⟨h0, -⟩ := hs
      replace h0 : ρ (.tmp 5) = .pointer (some ⟨w.heap.size, 0, none⟩) := h0
      go_simp
      exact ⟨Ext.refl _, rfl⟩
    · obtain ⟨h0, -⟩ := hs
      replace h0 : ρ (.tmp 15) = .pointer (some ⟨w.heap.size, 0, none⟩) := h0
      have hc0 : W.cell? ⟨w.heap.size, 0, none⟩ = some (.int .i64 (r.lo)) := hF.cell (by assumption)
      go_simp
      exact ⟨Ext.refl _, rfl⟩
    · obtain ⟨h0, -⟩ := hs
      replace h0 : ρ (.tmp 5) = .pointer (some ⟨w.heap.size, 0, none⟩) := h0
      go_simp
      exact ⟨Ext.refl _, rfl⟩
    · obtain ⟨h0, -⟩ := hs
      replace h0 : ρ (.tmp 17) = .pointer (some ⟨w.heap.size, 1, none⟩) := h0
      have hc0 : W.cell? ⟨w.heap.size, 1, none⟩ = some (.int .i64 (r.hi)) := hF.cell (by assumption)
      go_simp
      exact ⟨Ext.refl _, rfl⟩
    · obtain ⟨h0, h1, -⟩ := hs
      replace h0 : ρ (.tmp 16) = .int .i64 (r.lo) := h0
      replace h1 : ρ (.tmp 18) = .int .i64 (r.hi) := h1
      go_simp
      exact ⟨Ext.refl _, rfl⟩
    · obtain ⟨h0, -⟩ := hs
      replace h0 : ρ (.tmp 19) = .bool (decide (r.hi < r.lo)) := h0
      go_simp
      refine (errorIf_any _ _ _).mono ?_; rintro e w' ⟨rfl, rfl⟩; exact ⟨_, rfl, Ext.refl _, rfl⟩
    · obtain ⟨h0, h1, -⟩ := hs
      replace h0 : ρ (.tmp 14) = .int .i64 (rangeE lo hi [r.lo, r.hi]) := h0
      replace h1 : ρ (.tmp 20) = .int .i64 (errIf (decide (r.hi < r.lo)) 9) := h1
      go_simp
      exact ⟨Ext.alloc _ _, ints_new _ [rangeE lo hi [r.lo, r.hi], errIf (decide (r.hi < r.lo)) 9] _ (by simp)⟩
    · obtain ⟨h0, -⟩ := hs
      replace h0 : (Ints [rangeE lo hi [r.lo, r.hi], errIf (decide (r.hi < r.lo)) 9]) (ρ (.tmp 21)) W := h0
      go_simp
      refine (firstOf_any _ _ _ h0).mono ?_; rintro e w' ⟨rfl, rfl⟩; exact ⟨_, rfl, Ext.refl _, rfl⟩
    · obtain ⟨h0, -⟩ := hs
      replace h0 : ρ (.tmp 22) = .int .i64 (firstE [rangeE lo hi [r.lo, r.hi], errIf (decide (r.hi < r.lo)) 9]) := h0
      go_simp
      exact ⟨Ext.refl _, rfl⟩
  · intro fv W hF hs
    obtain ⟨-, -, -, -, -, -, -, -, -, -, -, -, -, -, -, -, h6, -⟩ := hs
    replace h6 : fv 6 = .int .i64 (firstE [rangeE lo hi [r.lo, r.hi], errIf (decide (r.hi < r.lo)) 9]) := h6
    simp only [fin, List.filterMap]
    go_simp
    go_wp2
    go_ret
    exact ⟨ret_int HE.out.symm, E0.out.trans hF⟩
theorem idx174_0 (q : Nat) (W : World) : Sem.run Tryz.prog (Instr.index 174 (.agg #[.pointer (some ⟨q, 0, none⟩), .pointer (some ⟨q, 2, none⟩), .pointer (some ⟨q, 4, none⟩), .pointer (some ⟨q, 6, none⟩), .pointer (some ⟨q, 8, none⟩), .pointer (some ⟨q, 10, none⟩), .pointer (some ⟨q, 12, none⟩)]) (.int .i64 ((0 : Nat) : Int))) W = .ok (.pointer (some ⟨q, 2 * 0, none⟩)) W := by kernel_rfl
theorem idx174_1 (q : Nat) (W : World) : Sem.run Tryz.prog (Instr.index 174 (.agg #[.pointer (some ⟨q, 0, none⟩), .pointer (some ⟨q, 2, none⟩), .pointer (some ⟨q, 4, none⟩), .pointer (some ⟨q, 6, none⟩), .pointer (some ⟨q, 8, none⟩), .pointer (some ⟨q, 10, none⟩), .pointer (some ⟨q, 12, none⟩)]) (.int .i64 ((1 : Nat) : Int))) W = .ok (.pointer (some ⟨q, 2 * 1, none⟩)) W := by kernel_rfl
theorem idx174_2 (q : Nat) (W : World) : Sem.run Tryz.prog (Instr.index 174 (.agg #[.pointer (some ⟨q, 0, none⟩), .pointer (some ⟨q, 2, none⟩), .pointer (some ⟨q, 4, none⟩), .pointer (some ⟨q, 6, none⟩), .pointer (some ⟨q, 8, none⟩), .pointer (some ⟨q, 10, none⟩), .pointer (some ⟨q, 12, none⟩)]) (.int .i64 ((2 : Nat) : Int))) W = .ok (.pointer (some ⟨q, 2 * 2, none⟩)) W := by kernel_rfl
theorem idx174_3 (q : Nat) (W : World) : Sem.run Tryz.prog (Instr.index 174 (.agg #[.pointer (some ⟨q, 0, none⟩), .pointer (some ⟨q, 2, none⟩), .pointer (some ⟨q, 4, none⟩), .pointer (some ⟨q, 6, none⟩), .pointer (some ⟨q, 8, none⟩), .pointer (some ⟨q, 10, none⟩), .pointer (some ⟨q, 12, none⟩)]) (.int .i64 ((3 : Nat) : Int))) W = .ok (.pointer (some ⟨q, 2 * 3, none⟩)) W := by kernel_rfl
theorem idx174_4 (q : Nat) (W : World) : Sem.run Tryz.prog (Instr.index 174 (.agg #[.pointer (some ⟨q, 0, none⟩), .pointer (some ⟨q, 2, none⟩), .pointer (some ⟨q, 4, none⟩), .pointer (some ⟨q, 6, none⟩), .pointer (some ⟨q, 8, none⟩), .pointer (some ⟨q, 10, none⟩), .pointer (some ⟨q, 12, none⟩)]) (.int .i64 ((4 : Nat) : Int))) W = .ok (.pointer (some ⟨q, 2 * 4, none⟩)) W := by kernel_rfl
theorem idx174_5 (q : Nat) (W : World) : Sem.run Tryz.prog (Instr.index 174 (.agg #[.pointer (some ⟨q, 0, none⟩), .pointer (some ⟨q, 2, none⟩), .pointer (some ⟨q, 4, none⟩), .pointer (some ⟨q, 6, none⟩), .pointer (some ⟨q, 8, none⟩), .pointer (some ⟨q, 10, none⟩), .pointer (some ⟨q, 12, none⟩)]) (.int .i64 ((5 : Nat) : Int))) W = .ok (.pointer (some ⟨q, 2 * 5, none⟩)) W := by kernel_rfl
theorem idx174_6 (q : Nat) (W : World) : Sem.run Tryz.prog (Instr.index 174 (.agg #[.pointer (some ⟨q, 0, none⟩), .pointer (some ⟨q, 2, none⟩), .pointer (some ⟨q, 4, none⟩), .pointer (some ⟨q, 6, none⟩), .pointer (some ⟨q, 8, none⟩), .pointer (some ⟨q, 10, none⟩), .pointer (some ⟨q, 12, none⟩)]) (.int .i64 ((6 : Nat) : Int))) W = .ok (.pointer (some ⟨q, 2 * 6, none⟩)) W := by kernel_rfl
theorem idx174 (q : Nat) (W : World) (k : Nat) (h : k < 7) : Sem.run Tryz.prog (Instr.index 174 (.agg #[.pointer (some ⟨q, 0, none⟩), .pointer (some ⟨q, 2, none⟩), .pointer (some ⟨q, 4, none⟩), .pointer (some ⟨q, 6, none⟩), .pointer (some ⟨q, 8, none⟩), .pointer (some ⟨q, 10, none⟩), .pointer (some ⟨q, 12, none⟩)]) (.int .i64 (k : Int))) W = .ok (.pointer (some ⟨q, 2 * k, none⟩)) W := by
  match k, h with
  | 0, _ => exact idx174_0 q W
  | 1, _ => exact idx174_1 q W
  | 2, _ => exact idx174_2 q W
  | 3, _ => exact idx174_3 q W
  | 4, _ => exact idx174_4 q W
  | 5, _ => exact idx174_5 q W
  | 6, _ => exact idx174_6 q W
  | k + 7, h => omega
theorem idx215_0 (a b c d e f g h : Int) (W : World) : Sem.run Tryz.prog (Instr.index 215 (.agg #[.int .i64 a, .int .i64 b, .int .i64 c, .int .i64 d, .int .i64 e, .int .i64 f, .int .i64 g, .int .i64 h]) (.int .i64 0)) W = .ok (.agg #[.int .i64 a, .int .i64 b]) W := by kernel_rfl
theorem idx215_1 (a b c d e f g h : Int) (W : World) : Sem.run Tryz.prog (Instr.index 215 (.agg #[.int .i64 a, .int .i64 b, .int .i64 c, .int .i64 d, .int .i64 e, .int .i64 f, .int .i64 g, .int .i64 h]) (.int .i64 1)) W = .ok (.agg #[.int .i64 c, .int .i64 d]) W := by kernel_rfl
theorem idx215_2 (a b c d e f g h : Int) (W : World) : Sem.run Tryz.prog (Instr.index 215 (.agg #[.int .i64 a, .int .i64 b, .int .i64 c, .int .i64 d, .int .i64 e, .int .i64 f, .int .i64 g, .int .i64 h]) (.int .i64 2)) W = .ok (.agg #[.int .i64 e, .int .i64 f]) W := by kernel_rfl
theorem idx215_3 (a b c d e f g h : Int) (W : World) : Sem.run Tryz.prog (Instr.index 215 (.agg #[.int .i64 a, .int .i64 b, .int .i64 c, .int .i64 d, .int .i64 e, .int .i64 f, .int .i64 g, .int .i64 h]) (.int .i64 3)) W = .ok (.agg #[.int .i64 g, .int .i64 h]) W := by kernel_rfl

theorem shareRangesOf_any (p0 p1 a0 a1 b0 b1 m0 m1 w0 w1 g0 g1 t0 t1 : Int) (w : World) : Calls Tryz.prog 139 #[.agg #[.int .i64 p0, .int .i64 p1, .int .i64 a0, .int .i64 a1, .int .i64 b0, .int .i64 b1, .int .i64 m0, .int .i64 m1, .int .i64 w0, .int .i64 w1, .int .i64 g0, .int .i64 g1, .int .i64 t0, .int .i64 t1]] w fun e w' => e = .returned (.agg #[.int .i64 p0, .int .i64 p1, .int .i64 a0, .int .i64 a1, .int .i64 b0, .int .i64 b1, .int .i64 m0, .int .i64 m1]) ∧ Ext w w' := by
  go_enter Tryz.func139, Tryz.ntmps139
  go_wp2
  exact bodyPost_ret (v := .agg #[.int .i64 p0, .int .i64 p1, .int .i64 a0, .int .i64 a1, .int .i64 b0, .int .i64 b1, .int .i64 m0, .int .i64 m1]) (by simp [results, Tryz.f139, go_sem]) rfl ⟨rfl, (Ext.alloc _ _).trans (Ext.alloc _ _)⟩

/-- Whether no shares in the ranges add up. -/
def emptyK (p0 p1 a0 a1 b0 b1 m0 m1 : Int) : Bool := decide (1000000 < p0 + a0 + b0 + m0) || decide (p1 + a1 + b1 + m1 < 1000000)
set_option maxRecDepth 100000 in
set_option maxHeartbeats 2000000 in
theorem isEmpty_any (p0 p1 a0 a1 b0 b1 m0 m1 w0 w1 g0 g1 t0 t1 : Int) (hp : 0 ≤ p0 ∧ p0 ≤ p1 ∧ p1 ≤ 1000000) (ha : 0 ≤ a0 ∧ a0 ≤ a1 ∧ a1 ≤ 1000000) (hb : 0 ≤ b0 ∧ b0 ≤ b1 ∧ b1 ≤ 1000000) (hm : 0 ≤ m0 ∧ m0 ≤ m1 ∧ m1 ≤ 1000000) (w : World) :
    Calls Tryz.prog 110 #[.agg #[.int .i64 p0, .int .i64 p1, .int .i64 a0, .int .i64 a1, .int .i64 b0, .int .i64 b1, .int .i64 m0, .int .i64 m1, .int .i64 w0, .int .i64 w1, .int .i64 g0, .int .i64 g1, .int .i64 t0, .int .i64 t1]] w fun e w' => e = .returned (.bool (emptyK p0 p1 a0 a1 b0 b1 m0 m1)) ∧ Ext w w' := by
  obtain ⟨W0, hW0⟩ : ∃ W0, W0 = w.alloc (.cells #[.int .i64 p0, .int .i64 p1, .int .i64 a0, .int .i64 a1, .int .i64 b0, .int .i64 b1, .int .i64 m0, .int .i64 m1, .int .i64 w0, .int .i64 w1, .int .i64 g0, .int .i64 g1, .int .i64 t0, .int .i64 t1] 74) := ⟨_, rfl⟩
  have E0 := Lib.hid (show Ext w W0 by rw [hW0]; exact Ext.alloc _ _)
  obtain ⟨p2, p3, p4⟩ := hp
  obtain ⟨a2, a3, a4⟩ := ha
  obtain ⟨b2, b3, b4⟩ := hb
  obtain ⟨m2, m3, m4⟩ := hm
  have i0 := fun W => idx215_0 p0 p1 a0 a1 b0 b1 m0 m1 W
  have i1 := fun W => idx215_1 p0 p1 a0 a1 b0 b1 m0 m1 W
  have i2 := fun W => idx215_2 p0 p1 a0 a1 b0 b1 m0 m1 W
  have i3 := fun W => idx215_3 p0 p1 a0 a1 b0 b1 m0 m1 W
  have HW := Lib.hid hW0
  clear hW0
  have HE := Lib.hid (show emptyK p0 p1 a0 a1 b0 b1 m0 m1 = (decide (1000000 < p0 + a0 + b0 + m0) || decide (p1 + a1 + b1 + m1 < 1000000)) from rfl)
  by_cases hs : 1000000 < p0 + a0 + b0 + m0
  all_goals
    go_enter Tryz.func110, Tryz.ntmps110
    go_wp2_with (go_at_call 139; rw [← HW.out]; refine (shareRangesOf_any _ _ _ _ _ _ _ _ _ _ _ _ _ _ _).mono ?_; rintro e W1 ⟨rfl, hx⟩; have X1 := Lib.hid hx; clear hx)
    refine wp_loop_rounds 5 ?_
    rw [rounds_succ]
    go_wp2
    rw [rounds_succ]
    go_wp2
    rw [rounds_succ]
    go_wp2
    rw [rounds_succ]
    go_wp2
    rw [rounds_succ]
    go_wp2
    go_ret
    exact ⟨ret_bool (by first | (rw [HE.out]; done) | (rw [HE.out]; by_cases h2 : 1000000 < p0 + a0 + b0 + m0 <;> first | (simp [h2]; done) | omega)), E0.out.trans (X1.out.trans ((((Ext.alloc _ _).trans (Ext.alloc _ _)).trans (Ext.alloc _ _)).trans (Ext.alloc _ _)))⟩

def bxE (l : List Rg) (k : Nat) : Int := endsE 0 (lims.getD k 0) (l.getD k default)
/-- What CheckBox answers. -/
def boxE (l : List Rg) : Int := if (firstAt (bxE l) 7 0).2 ≠ 0 then (firstAt (bxE l) 7 0).2 else errIf (emptyK (l.getD 0 default).lo (l.getD 0 default).hi (l.getD 1 default).lo (l.getD 1 default).hi (l.getD 2 default).lo (l.getD 2 default).hi (l.getD 3 default).lo (l.getD 3 default).hi) 12
theorem endsE_zero {lo hi : Int} {r : Rg} (h : endsE lo hi r = 0) : lo ≤ r.lo ∧ r.lo ≤ r.hi ∧ r.hi ≤ hi := by
  have h1 := rangeE_zeros (firstE_zero h (rangeE lo hi [r.lo, r.hi]) (by simp))
  have h2 := errIf_zero (firstE_zero h (errIf (decide (r.hi < r.lo)) 9) (by simp)) (by decide)
  have a := h1 r.lo (by simp)
  have b := h1 r.hi (by simp)
  simp at h2
  omega
theorem box_lo_at (p0 p1 a0 a1 b0 b1 m0 m1 w0 w1 g0 g1 t0 t1 : Int) (k : Nat) (h : k < 7) : (#[.int .i64 p0, .int .i64 p1, .int .i64 a0, .int .i64 a1, .int .i64 b0, .int .i64 b1, .int .i64 m0, .int .i64 m1, .int .i64 w0, .int .i64 w1, .int .i64 g0, .int .i64 g1, .int .i64 t0, .int .i64 t1] : Array Value)[2 * k]? = some (.int .i64 ((([⟨p0, p1⟩, ⟨a0, a1⟩, ⟨b0, b1⟩, ⟨m0, m1⟩, ⟨w0, w1⟩, ⟨g0, g1⟩, ⟨t0, t1⟩] : List Rg).getD k default).lo)) := by
  match k, h with
  | 0, _ => rfl
  | 1, _ => rfl
  | 2, _ => rfl
  | 3, _ => rfl
  | 4, _ => rfl
  | 5, _ => rfl
  | 6, _ => rfl
  | k + 7, h => omega
theorem box_hi_at (p0 p1 a0 a1 b0 b1 m0 m1 w0 w1 g0 g1 t0 t1 : Int) (k : Nat) (h : k < 7) : (#[.int .i64 p0, .int .i64 p1, .int .i64 a0, .int .i64 a1, .int .i64 b0, .int .i64 b1, .int .i64 m0, .int .i64 m1, .int .i64 w0, .int .i64 w1, .int .i64 g0, .int .i64 g1, .int .i64 t0, .int .i64 t1] : Array Value)[2 * k + 1]? = some (.int .i64 ((([⟨p0, p1⟩, ⟨a0, a1⟩, ⟨b0, b1⟩, ⟨m0, m1⟩, ⟨w0, w1⟩, ⟨g0, g1⟩, ⟨t0, t1⟩] : List Rg).getD k default).hi)) := by
  match k, h with
  | 0, _ => rfl
  | 1, _ => rfl
  | 2, _ => rfl
  | 3, _ => rfl
  | 4, _ => rfl
  | 5, _ => rfl
  | 6, _ => rfl
  | k + 7, h => omega

set_option maxRecDepth 100000 in
set_option maxHeartbeats 2000000 in
theorem checkBox_any (p0 p1 a0 a1 b0 b1 m0 m1 w0 w1 g0 g1 t0 t1 : Int) (w : World) : Calls Tryz.prog 42 #[.agg #[.int .i64 p0, .int .i64 p1, .int .i64 a0, .int .i64 a1, .int .i64 b0, .int .i64 b1, .int .i64 m0, .int .i64 m1, .int .i64 w0, .int .i64 w1, .int .i64 g0, .int .i64 g1, .int .i64 t0, .int .i64 t1]] w fun e w' => e = .returned (.int .i64 (boxE [⟨p0, p1⟩, ⟨a0, a1⟩, ⟨b0, b1⟩, ⟨m0, m1⟩, ⟨w0, w1⟩, ⟨g0, g1⟩, ⟨t0, t1⟩])) ∧ Ext w w' := by
  obtain ⟨W0, hW0⟩ : ∃ W0, W0 = w.alloc (.cells #[.int .i64 p0, .int .i64 p1, .int .i64 a0, .int .i64 a1, .int .i64 b0, .int .i64 b1, .int .i64 m0, .int .i64 m1, .int .i64 w0, .int .i64 w1, .int .i64 g0, .int .i64 g1, .int .i64 t0, .int .i64 t1] 74) := ⟨_, rfl⟩
  have k0 : Blk W0 w.heap.size 74 #[.int .i64 p0, .int .i64 p1, .int .i64 a0, .int .i64 a1, .int .i64 b0, .int .i64 b1, .int .i64 m0, .int .i64 m1, .int .i64 w0, .int .i64 w1, .int .i64 g0, .int .i64 g1, .int .i64 t0, .int .i64 t1] := by rw [hW0]; exact Blk.new _ _ _
  have E0 := Lib.hid (show Ext w W0 by rw [hW0]; exact Ext.alloc _ _)
  have K0 := Lib.hid k0
  have HW := Lib.hid hW0
  clear k0 hW0
  go_enter Tryz.func42, Tryz.ntmps42
  go_wp2_with (first
    | (go_at_call 87; rw [← HW.out]; refine (limitsOf_any _).mono ?_; rintro e W1 ⟨rfl, hx⟩; have X1 := Lib.hid hx; clear hx)
    | (go_at_call 108; refine (rangesOf_any _ _).mono ?_; rintro e W2 ⟨rfl, hx⟩; have X2 := Lib.hid ((Ext.alloc _ _).trans hx); have K3 := Lib.hid ((Blk.new W1 150 #[.int .i64 1000000, .int .i64 1000000, .int .i64 1000000, .int .i64 1000000, .int .i64 1000000, .int .i64 100000, .int .i64 1000000]).ext hx); clear hx))
  have KX := Lib.hid (K0.out.ext (X1.out.trans X2.out))
  have EX := Lib.hid (E0.out.trans (X1.out.trans X2.out))
  clear K0 E0 X1 X2 HW
  generalize W1.heap.size = q3 at *
  go_loopw [9] (fun i wr => ∃ k : Nat, k ≤ 7 ∧ i = .int .i64 k ∧ firstAt (bxE [⟨p0, p1⟩, ⟨a0, a1⟩, ⟨b0, b1⟩, ⟨m0, m1⟩, ⟨w0, w1⟩, ⟨g0, g1⟩, ⟨t0, t1⟩]) 7 0 = firstAt (bxE [⟨p0, p1⟩, ⟨a0, a1⟩, ⟨b0, b1⟩, ⟨m0, m1⟩, ⟨w0, w1⟩, ⟨g0, g1⟩, ⟨t0, t1⟩]) (7 - k) k ∧ Ext W2 wr) (fun i _ => 7 - (intOf i).toNat)
  case atStart => exact ⟨0, by omega, rfl, rfl, Ext.refl _⟩
  case round =>
    obtain ⟨k, hk, rfl, hr, hx⟩ := hrel
    have HR := Lib.hid hr
    have HX := Lib.hid hx
    clear hr hx
    by_cases hlt : k < 7
    · have HD := Lib.hid (firstAt_step (bxE [⟨p0, p1⟩, ⟨a0, a1⟩, ⟨b0, b1⟩, ⟨m0, m1⟩, ⟨w0, w1⟩, ⟨g0, g1⟩, ⟨t0, t1⟩]) hlt)
      have HIX := Lib.hid (idx174 w.heap.size wr k hlt)
      have HL3 := Lib.hid (show wr.cell? ⟨q3, k, none⟩ = some (.int .i64 (lims.getD k 0)) from HX.out.cell (((K3.out).cell k).trans (lims_at k hlt)))
      have HX3 := Lib.hid (show wr.cell? ⟨w.heap.size, 2 * k, none⟩ = some (.int .i64 ((([⟨p0, p1⟩, ⟨a0, a1⟩, ⟨b0, b1⟩, ⟨m0, m1⟩, ⟨w0, w1⟩, ⟨g0, g1⟩, ⟨t0, t1⟩] : List Rg).getD k default).lo)) from HX.out.cell (((KX.out).cell _).trans (box_lo_at p0 p1 a0 a1 b0 b1 m0 m1 w0 w1 g0 g1 t0 t1 k hlt)))
      have HX4 := Lib.hid (show wr.cell? ⟨w.heap.size, 2 * k + 1, none⟩ = some (.int .i64 ((([⟨p0, p1⟩, ⟨a0, a1⟩, ⟨b0, b1⟩, ⟨m0, m1⟩, ⟨w0, w1⟩, ⟨g0, g1⟩, ⟨t0, t1⟩] : List Rg).getD k default).hi)) from HX.out.cell (((KX.out).cell _).trans (box_hi_at p0 p1 a0 a1 b0 b1 m0 m1 w0 w1 g0 g1 t0 t1 k hlt)))
      have HE := Lib.hid (show bxE [⟨p0, p1⟩, ⟨a0, a1⟩, ⟨b0, b1⟩, ⟨m0, m1⟩, ⟨w0, w1⟩, ⟨g0, g1⟩, ⟨t0, t1⟩] k = endsE 0 (lims.getD k 0) (([⟨p0, p1⟩, ⟨a0, a1⟩, ⟨b0, b1⟩, ⟨m0, m1⟩, ⟨w0, w1⟩, ⟨g0, g1⟩, ⟨t0, t1⟩] : List Rg).getD k default) from rfl)
      generalize lims.getD k 0 = lm at HL3 HE
      generalize ([⟨p0, p1⟩, ⟨a0, a1⟩, ⟨b0, b1⟩, ⟨m0, m1⟩, ⟨w0, w1⟩, ⟨g0, g1⟩, ⟨t0, t1⟩] : List Rg).getD k default = x at HX3 HX4 HE
      have hk7 : (k : Int) < 7 := by omega
      have hix := HIX.out
      go_wp2
      clear hix
      refine wp_region_each [some 13, some 14, some 15, some 16, some 17, some 18, some 19, some 6] [[4], [3, 13], [14], [5], [16], [17], [15, 18], [19]]
        [Is (.int .i64 ((k : Int))), Is (.pointer (some ⟨q3, k, none⟩)), Is (.int .i64 (lm)), Is (.pointer (some ⟨w.heap.size, 2 * k, none⟩)), Is (.pointer (some ⟨w.heap.size, 2 * k, none⟩)), Is (.agg #[.int .i64 x.lo, .int .i64 x.hi]), Is (.int .i64 (endsE 0 lm x)), Is (.int .i64 (endsE 0 lm x))]
        (by kernel_rfl) (by kernel_rfl) (by kernel_rfl) (by kernel_rfl) (by kernel_rfl) Ext (fun W => Ext wr W)
        (fun W _ => Ext.refl W) (fun W W' h k => h.trans k) ?_ (Ext.drew _) ?_ ?_
      · repeat (refine ⟨fun _ _ _ _ k h => (by first | exact h | exact (by first | exact IntsAt.ext h k | exact KnV.ext h k | exact NumsV.ext h k)), ?_⟩)
        exact trivial
      · refine ⟨?_, ?_, ?_, ?_, ?_, ?_, ?_, ?_, trivial⟩
        all_goals intro ρ W ⟨kc, kg, kf⟩ hF hs
        · obtain ⟨h0, -⟩ := hs
          replace h0 : ρ (.tmp 4) = .int .i64 ((k : Int)) := h0
          go_simp
          exact ⟨Ext.refl _, rfl⟩
        · obtain ⟨h0, h1, -⟩ := hs
          replace h0 : ρ (.tmp 3) = .pointer (some ⟨q3, 0, none⟩) := h0
          replace h1 : ρ (.tmp 13) = .int .i64 ((k : Int)) := h1
          have hk7 : (k : Int) < 7 := by omega
          go_simp
          exact ⟨Ext.refl _, rfl⟩
        · obtain ⟨h0, -⟩ := hs
          replace h0 : ρ (.tmp 14) = .pointer (some ⟨q3, k, none⟩) := h0
          have hc0 : W.cell? ⟨q3, k, none⟩ = some (.int .i64 lm) := hF.cell HL3.out
          go_simp
          exact ⟨Ext.refl _, rfl⟩
        · obtain ⟨h0, -⟩ := hs
          replace h0 : ρ (.tmp 5) = .pointer (some ⟨w.heap.size, 2 * k, none⟩) := h0
          go_simp
          exact ⟨Ext.refl _, rfl⟩
        · obtain ⟨h0, -⟩ := hs
          replace h0 : ρ (.tmp 16) = .pointer (some ⟨w.heap.size, 2 * k, none⟩) := h0
          go_simp
          exact ⟨Ext.refl _, rfl⟩
        · obtain ⟨h0, -⟩ := hs
          replace h0 : ρ (.tmp 17) = .pointer (some ⟨w.heap.size, 2 * k, none⟩) := h0
          have hc0 : W.cell? ⟨w.heap.size, 2 * k, none⟩ = some (.int .i64 x.lo) := hF.cell HX3.out
          have hc1 : W.cell? ⟨w.heap.size, 2 * k + 1, none⟩ = some (.int .i64 x.hi) := hF.cell HX4.out
          go_simp
          exact ⟨Ext.refl _, rfl⟩
        · obtain ⟨h0, h1, -⟩ := hs
          replace h0 : ρ (.tmp 15) = .int .i64 (lm) := h0
          replace h1 : ρ (.tmp 18) = .agg #[.int .i64 x.lo, .int .i64 x.hi] := h1
          go_simp
          refine (endsError_any _ _ _ _).mono ?_; rintro e w' ⟨rfl, hx⟩; exact ⟨_, rfl, hx, rfl⟩
        · obtain ⟨h0, -⟩ := hs
          replace h0 : ρ (.tmp 19) = .int .i64 (endsE 0 lm x) := h0
          go_simp
          exact ⟨Ext.refl _, rfl⟩
      · intro fv W hF hs
        obtain ⟨-, -, -, -, -, -, -, h6, -⟩ := hs
        replace h6 : fv 6 = .int .i64 (endsE 0 lm x) := h6
        simp only [fin, List.filterMap]
        go_simp
        have X3 := Lib.hid (HX.out.trans hF)
        clear hF h6
        generalize endsE 0 lm x = z at HE
        by_cases hz : z = 0
        · have hz' : (z != 0) = false := by simp [hz]
          have HZ := Lib.hid hz
          clear hz
          go_wp2
          go_roundw
          case rel => exact ⟨k + 1, by omega, by go_num, by rw [HR.out, HD.out, if_neg (by rw [HE.out, HZ.out]; simp)], X3.out⟩
          case measure => simp [intOf]; omega
        · have hz' : (z != 0) = true := by simp [hz]
          have HZ := Lib.hid hz
          have HA := Lib.hid (show boxE [⟨p0, p1⟩, ⟨a0, a1⟩, ⟨b0, b1⟩, ⟨m0, m1⟩, ⟨w0, w1⟩, ⟨g0, g1⟩, ⟨t0, t1⟩] = z by
            have : (firstAt (bxE [⟨p0, p1⟩, ⟨a0, a1⟩, ⟨b0, b1⟩, ⟨m0, m1⟩, ⟨w0, w1⟩, ⟨g0, g1⟩, ⟨t0, t1⟩]) 7 0).2 = z := by rw [HR.out, HD.out, if_pos (by rw [HE.out]; exact HZ.out), HE.out]
            rw [boxE, this, if_pos HZ.out])
          clear hz
          go_wp2
          go_ret
          exact ⟨ret_int HA.out.symm, EX.out.trans X3.out⟩
    · obtain rfl : k = 7 := by omega
      have h0 : (firstAt (bxE [⟨p0, p1⟩, ⟨a0, a1⟩, ⟨b0, b1⟩, ⟨m0, m1⟩, ⟨w0, w1⟩, ⟨g0, g1⟩, ⟨t0, t1⟩]) 7 0).2 = 0 := by rw [HR.out]; rfl
      have HA := Lib.hid (show boxE [⟨p0, p1⟩, ⟨a0, a1⟩, ⟨b0, b1⟩, ⟨m0, m1⟩, ⟨w0, w1⟩, ⟨g0, g1⟩, ⟨t0, t1⟩] = errIf (emptyK p0 p1 a0 a1 b0 b1 m0 m1) 12 by rw [boxE, if_neg (by rw [h0]; simp)]; rfl)
      have y0 : 0 ≤ p0 ∧ p0 ≤ p1 ∧ p1 ≤ 1000000 := endsE_zero (firstAt_zero h0 0 (by omega) (by omega))
      have y1 : 0 ≤ a0 ∧ a0 ≤ a1 ∧ a1 ≤ 1000000 := endsE_zero (firstAt_zero h0 1 (by omega) (by omega))
      have y2 : 0 ≤ b0 ∧ b0 ≤ b1 ∧ b1 ≤ 1000000 := endsE_zero (firstAt_zero h0 2 (by omega) (by omega))
      have y3 : 0 ≤ m0 ∧ m0 ≤ m1 ∧ m1 ≤ 1000000 := endsE_zero (firstAt_zero h0 3 (by omega) (by omega))
      have HM := Lib.hid (fun W => isEmpty_any p0 p1 a0 a1 b0 b1 m0 m1 w0 w1 g0 g1 t0 t1 y0 y1 y2 y3 W)
      have hk := KX.out.ext HX.out
      have c0 : wr.cell? ⟨w.heap.size, 0, none⟩ = some (.int .i64 p0) := hk.cell 0
      have c1 : wr.cell? ⟨w.heap.size, 1, none⟩ = some (.int .i64 p1) := hk.cell 1
      have c2 : wr.cell? ⟨w.heap.size, 2, none⟩ = some (.int .i64 a0) := hk.cell 2
      have c3 : wr.cell? ⟨w.heap.size, 3, none⟩ = some (.int .i64 a1) := hk.cell 3
      have c4 : wr.cell? ⟨w.heap.size, 4, none⟩ = some (.int .i64 b0) := hk.cell 4
      have c5 : wr.cell? ⟨w.heap.size, 5, none⟩ = some (.int .i64 b1) := hk.cell 5
      have c6 : wr.cell? ⟨w.heap.size, 6, none⟩ = some (.int .i64 m0) := hk.cell 6
      have c7 : wr.cell? ⟨w.heap.size, 7, none⟩ = some (.int .i64 m1) := hk.cell 7
      have c8 : wr.cell? ⟨w.heap.size, 8, none⟩ = some (.int .i64 w0) := hk.cell 8
      have c9 : wr.cell? ⟨w.heap.size, 9, none⟩ = some (.int .i64 w1) := hk.cell 9
      have c10 : wr.cell? ⟨w.heap.size, 10, none⟩ = some (.int .i64 g0) := hk.cell 10
      have c11 : wr.cell? ⟨w.heap.size, 11, none⟩ = some (.int .i64 g1) := hk.cell 11
      have c12 : wr.cell? ⟨w.heap.size, 12, none⟩ = some (.int .i64 t0) := hk.cell 12
      have c13 : wr.cell? ⟨w.heap.size, 13, none⟩ = some (.int .i64 t1) := hk.cell 13
      clear hk h0 y0 y1 y2 y3
      generalize emptyK p0 p1 a0 a1 b0 b1 m0 m1 = em at HM HA
      go_wp2_with (first
        | (go_at_call 110; refine (HM.out _).mono ?_; rintro e W3 ⟨rfl, hx⟩; have X3 := Lib.hid hx; clear hx)
        | (go_at_call 72; refine (errorIf_any _ _ _).mono ?_; rintro e w' ⟨rfl, rfl⟩))
      go_ret
      exact ⟨ret_int HA.out.symm, EX.out.trans (HX.out.trans X3.out)⟩

end Go.Proofs.YtkmekbafjnlfkaaGreat
