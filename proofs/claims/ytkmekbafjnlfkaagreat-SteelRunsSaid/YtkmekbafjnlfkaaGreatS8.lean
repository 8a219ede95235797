/- Clashes, hardness. -/
import Derived.Test.YtkmekbafjnlfkaaGreatS7
import Derived.Lib.MinMax

namespace Go.Proofs.YtkmekbafjnlfkaaGreat
open Go.RowKit Go.Shelf Go.Mem Go.RegInv
attribute [local go_sem] RelUpon_value RelUpon_skip RelUpon_enter BigFrame.eval_const BigFrame.eval_global BigFrame.eval_func

def hardE (a b c d : Int) : Int := firstE [rangeE 0 2000 [a, b, c, d], errIf (!downK [a, b, c, d] 3) 9]

set_option maxRecDepth 100000 in
set_option maxHeartbeats 1000000 in
theorem hardsError_any (a b c d : Int) (w : World) : Calls Tryz.prog 85 #[.agg #[.int .i64 a, .int .i64 b, .int .i64 c, .int .i64 d]] w fun e w' => e = .returned (.int .i64 (hardE a b c d)) ∧ Ext w w' := by
  obtain ⟨W0, hW0⟩ : ∃ W0, W0 = w.alloc (.cells #[.int .i64 a, .int .i64 b, .int .i64 c, .int .i64 d] 26) := ⟨_, rfl⟩
  have k0 : Blk W0 w.heap.size 26 #[.int .i64 a, .int .i64 b, .int .i64 c, .int .i64 d] := by rw [hW0]; exact Blk.new _ _ _
  have E0 := Lib.hid (show Ext w W0 by rw [hW0]; exact Ext.alloc _ _)
  have HI := Lib.hid (show IntsAt W0 (.slice (some ⟨w.heap.size, 0, none⟩) 4 4) [a, b, c, d] from ints_own (own_new k0 (Nat.le_refl _) 1 4 rfl (by decide)) (by decide))
  have HO := Lib.hid (show hardE a b c d = firstE [rangeE 0 2000 [a, b, c, d], errIf (!downK [a, b, c, d] 3) 9] from rfl)
  clear k0
  go_enter Tryz.func85, Tryz.ntmps85
  go_wp2
  rw [← hW0]
  clear hW0
  go_wp2
  refine wp_region_each [some 3, some 4, some 5, some 6, some 7, some 8, some 9, some 10, some 2] [[1], [3], [1], [5], [6], [7], [4, 8], [9], [10]]
    [Ints [a, b, c, d], Is (.int .i64 (rangeE 0 2000 [a, b, c, d])), Ints [a, b, c, d], Is (.bool (downK [a, b, c, d] 3)), Is (.bool (!downK [a, b, c, d] 3)), Is (.int .i64 (errIf (!downK [a, b, c, d] 3) 9)), Ints [rangeE 0 2000 [a, b, c, d], errIf (!downK [a, b, c, d] 3) 9], Is (.int .i64 (firstE [rangeE 0 2000 [a, b, c, d], errIf (!downK [a, b, c, d] 3) 9])), Is (.int .i64 (firstE [rangeE 0 2000 [a, b, c, d], errIf (!downK [a, b, c, d] 3) 9]))]
    (by kernel_rfl) (by kernel_rfl) (by kernel_rfl) (by kernel_rfl) (by kernel_rfl) Ext (fun W => Ext W0 W)
    (fun W _ => Ext.refl W) (fun W W' h k => h.trans k) ?_ (Ext.drew _) ?_ ?_
  · repeat (refine ⟨fun _ _ _ _ k h => (by first | exact h | exact (by first | exact IntsAt.ext h k | exact KnV.ext h k | exact NumsV.ext h k)), ?_⟩)
    exact trivial
  · refine ⟨?_, ?_, ?_, ?_, ?_, ?_, ?_, ?_, ?_, trivial⟩
    all_goals intro ρ W ⟨kc, kg, kf⟩ hF hs
    · obtain ⟨h0, -⟩ := hs
      replace h0 : ρ (.tmp 1) = .pointer (some ⟨w.heap.size, 0, none⟩) := h0
      go_simp
      exact ⟨Ext.refl _, HI.out.ext hF⟩
    · obtain ⟨h0, -⟩ := hs
      replace h0 : (Ints [a, b, c, d]) (ρ (.tmp 3)) W := h0
      go_simp
      refine (rangeError_any _ _ _ _ _ h0).mono ?_; rintro e w' ⟨rfl, hx⟩; exact ⟨_, rfl, hx, rfl⟩
    · obtain ⟨h0, -⟩ := hs
      replace h0 : ρ (.tmp 1) = .pointer (some ⟨w.heap.size, 0, none⟩) := h0
      go_simp
      exact ⟨Ext.refl _, HI.out.ext hF⟩
    · obtain ⟨h0, -⟩ := hs
      replace h0 : (Ints [a, b, c, d]) (ρ (.tmp 5)) W := h0
      go_simp
      refine (isSorted_any h0 (by simp)).mono ?_; rintro e w' ⟨rfl, hx⟩; exact ⟨_, rfl, hx, rfl⟩
    · obtain ⟨h0, -⟩ := hs
      replace h0 : ρ (.tmp 6) = .bool (downK [a, b, c, d] 3) := h0
      go_simp
      exact ⟨Ext.refl _, rfl⟩
    · obtain ⟨h0, -⟩ := hs
      replace h0 : ρ (.tmp 7) = .bool (!downK [a, b, c, d] 3) := h0
      go_simp
      refine (errorIf_any _ _ _).mono ?_; rintro e w' ⟨rfl, rfl⟩; exact ⟨_, rfl, Ext.refl _, rfl⟩
    · obtain ⟨h0, h1, -⟩ := hs
      replace h0 : ρ (.tmp 4) = .int .i64 (rangeE 0 2000 [a, b, c, d]) := h0
      replace h1 : ρ (.tmp 8) = .int .i64 (errIf (!downK [a, b, c, d] 3) 9) := h1
      go_simp
      exact ⟨Ext.alloc _ _, ints_new _ [rangeE 0 2000 [a, b, c, d], errIf (!downK [a, b, c, d] 3) 9] _ (by simp)⟩
    · obtain ⟨h0, -⟩ := hs
      replace h0 : (Ints [rangeE 0 2000 [a, b, c, d], errIf (!downK [a, b, c, d] 3) 9]) (ρ (.tmp 9)) W := h0
      go_simp
      refine (firstOf_any _ _ _ h0).mono ?_; rintro e w' ⟨rfl, rfl⟩; exact ⟨_, rfl, Ext.refl _, rfl⟩
    · obtain ⟨h0, -⟩ := hs
      replace h0 : ρ (.tmp 10) = .int .i64 (firstE [rangeE 0 2000 [a, b, c, d], errIf (!downK [a, b, c, d] 3) 9]) := h0
      go_simp
      exact ⟨Ext.refl _, rfl⟩
  · intro fv W hF hs
    obtain ⟨-, -, -, -, -, -, -, -, h2, -⟩ := hs
    replace h2 : fv 2 = .int .i64 (firstE [rangeE 0 2000 [a, b, c, d], errIf (!downK [a, b, c, d] 3) 9]) := h2
    simp only [fin, List.filterMap]
    go_simp
    go_wp2
    go_ret
    exact ⟨ret_int HO.out.symm, E0.out.trans hF⟩

/-- Rules. -/
structure Ru where
  hs : List HK
  cs : List CK
  ds : List DK
  ts : List TK
  h0 : Int
  h1 : Int
  h2 : Int
  h3 : Int
/-- How rules lie in memory. -/
structure RuAt (W : World) (r : Ru) (A0 A1 A2 A3 : Option Addr) (n0 n1 n2 n3 : Nat) : Prop where
  l0 : r.hs.length = n0
  l1 : r.cs.length = n1
  l2 : r.ds.length = n2
  l3 : r.ts.length = n3
  r0 : RowsAt 4 HK.enc W A0 r.hs
  r1 : RowsAt 5 CK.enc W A1 r.cs
  r2 : RowsAt 3 DK.enc W A2 r.ds
  r3 : RowsAt 2 TK.enc W A3 r.ts
theorem RuAt.ext {W W' : World} {r : Ru} {A0 A1 A2 A3 : Option Addr} {n0 n1 n2 n3 : Nat} (h : RuAt W r A0 A1 A2 A3 n0 n1 n2 n3) (e : Ext W W') : RuAt W' r A0 A1 A2 A3 n0 n1 n2 n3 :=
  ⟨h.l0, h.l1, h.l2, h.l3, h.r0.ext e, h.r1.ext e, h.r2.ext e, h.r3.ext e⟩
def RuV (r : Ru) : Value → World → Prop := fun u W => ∃ A0 A1 A2 A3 n0 n1 n2 n3 c0 c1 c2 c3, u = .agg #[.slice A0 n0 c0, .slice A1 n1 c1, .slice A2 n2 c2, .slice A3 n3 c3, .int .i64 r.h0, .int .i64 r.h1, .int .i64 r.h2, .int .i64 r.h3] ∧ RuAt W r A0 A1 A2 A3 n0 n1 n2 n3
theorem RuV.ext {r : Ru} {u : Value} {W W' : World} (h : RuV r u W) (e : Ext W W') : RuV r u W' := by
  obtain ⟨A0, A1, A2, A3, n0, n1, n2, n3, c0, c1, c2, c3, h1, h2⟩ := h; exact ⟨A0, A1, A2, A3, n0, n1, n2, n3, c0, c1, c2, c3, h1, h2.ext e⟩

def clashK (r : Ru) : Int :=
  match r.hs with
  | [] => 0
  | x :: _ => errIf (reachK (r.cs.map CK.kn) x.k || reachK (r.ds.map DK.kn) x.k || reachK (r.ts.map TK.kn) x.k) 13

set_option maxRecDepth 100000 in
set_option maxHeartbeats 2000000 in
theorem clashError_any {r : Ru} {u : Value} {w : World} (hR : RuV r u w) : Calls Tryz.prog 84 #[u] w fun e w' => e = .returned (.int .i64 (clashK r)) ∧ Ext w w' := by
  obtain ⟨A0, A1, A2, A3, n0, n1, n2, n3, c0, c1, c2, c3, rfl, H⟩ := hR
  obtain ⟨W0, hW0⟩ : ∃ W0, W0 = w.alloc (.cells #[.slice A0 n0 c0, .slice A1 n1 c1, .slice A2 n2 c2, .slice A3 n3 c3, .int .i64 r.h0, .int .i64 r.h1, .int .i64 r.h2, .int .i64 r.h3] 28) := ⟨_, rfl⟩
  have k0 : Blk W0 w.heap.size 28 #[.slice A0 n0 c0, .slice A1 n1 c1, .slice A2 n2 c2, .slice A3 n3 c3, .int .i64 r.h0, .int .i64 r.h1, .int .i64 r.h2, .int .i64 r.h3] := by rw [hW0]; exact Blk.new _ _ _
  have e0 : Ext w W0 := by rw [hW0]; exact Ext.alloc _ _
  by_cases hz : n0 = 0
  · have HC := Lib.hid (show clashK r = 0 by unfold clashK; rw [List.length_eq_zero_iff.1 (by have := H.l0; omega : r.hs.length = 0)])
    subst hz
    clear H k0 e0 hW0
    go_enter Tryz.func84, Tryz.ntmps84
    go_wp2
    go_ret
    exact ⟨ret_int HC.out.symm, Ext.alloc _ _⟩
  · obtain ⟨x, l, hx⟩ : ∃ x l, r.hs = x :: l := by
      cases h : r.hs with
      | nil => have := H.l0; rw [h] at this; simp at this; omega
      | cons x l => exact ⟨x, l, rfl⟩
    obtain ⟨b, o, rfl, hb, hc⟩ := H.r0.2 0 x (by rw [hx]; rfl)
    have c : w.cell? ⟨b, o, none⟩ = some (.int .i64 x.k) := by have := hc 0 _ rfl; simpa using this
    have cW : ∀ o1, (w.alloc o1).cell? ⟨b, o, none⟩ = some (.int .i64 x.k) := fun o1 => (Ext.alloc w o1).cell c
    have HX := Lib.hid (show clashK r = errIf (reachK (r.cs.map CK.kn) x.k || reachK (r.ds.map DK.kn) x.k || reachK (r.ts.map TK.kn) x.k) 13 by unfold clashK; rw [hx])
    have h1 := Lib.hid (fun (W : World) (e : Ext W0 W) => reaches125_any (ca := c1) (kelvin := x.k) H.l1 ((H.r1.ext e0).ext e))
    have h2 := Lib.hid (fun (W : World) (e : Ext W0 W) => reaches126_any (ca := c2) (kelvin := x.k) H.l2 ((H.r2.ext e0).ext e))
    have h3 := Lib.hid (fun (W : World) (e : Ext W0 W) => reaches127_any (ca := c3) (kelvin := x.k) H.l3 ((H.r3.ext e0).ext e))
    have K0 := Lib.hid k0
    have E0 := Lib.hid e0
    have hzz : ((n0 : Int) == 0) = false := by simp [hz]
    have hdd : decide (0 < n0) = true := decide_eq_true (by omega)
    have hn : 0 < n0 := by omega
    have hn' : (0 : Int) < (n0 : Int) := by omega
    clear hx hb hc H e0 k0 hz c
    generalize reachK (r.cs.map CK.kn) x.k = b1 at *
    generalize reachK (r.ds.map DK.kn) x.k = b2 at *
    generalize reachK (r.ts.map TK.kn) x.k = b3 at *
    generalize x.k = hot at *
    generalize r.h0 = z0 at *
    generalize r.h1 = z1 at *
    generalize r.h2 = z2 at *
    generalize r.h3 = z3 at *
    cases b1 <;> cases b2
    all_goals
      go_enter Tryz.func84, Tryz.ntmps84
      have hW := Lib.hid hW0
      clear hW0
      go_wp2_with (first
        | (go_at_call 125; rw [← hW.out]; refine (h1.out _ (Ext.refl _)).mono ?_; rintro e W1 ⟨rfl, hx⟩; have X1 := Lib.hid hx; have y2 : W1.cell? ⟨w.heap.size, 2, none⟩ = some (.slice A2 n2 c2) := (K0.out.ext hx).cell 2; have y3 : W1.cell? ⟨w.heap.size, 3, none⟩ = some (.slice A3 n3 c3) := (K0.out.ext hx).cell 3; clear hx)
        | (go_at_call 126; refine (h2.out _ X1.out).mono ?_; rintro e W2 ⟨rfl, hx⟩; have X1 := Lib.hid (X1.out.trans hx); have y3 : W2.cell? ⟨w.heap.size, 3, none⟩ = some (.slice A3 n3 c3) := (K0.out.ext X1.out).cell 3; clear hx)
        | (go_at_call 127; refine (h3.out _ X1.out).mono ?_; rintro e W3 ⟨rfl, hx⟩; have X1 := Lib.hid (X1.out.trans hx); clear hx)
        | (go_at_call 72; refine (errorIf_any _ _ _).mono ?_; rintro e w' ⟨rfl, rfl⟩))
      go_ret
      exact ⟨ret_int (by rw [HX.out]; simp), E0.out.trans X1.out⟩

end Go.Proofs.YtkmekbafjnlfkaaGreat
