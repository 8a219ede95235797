/- Presses: kinks and amounts. -/
import Derived.Test.YtjdilmmpdlcimaaGreatB5
import Derived.Lib.MinMax
import Derived.Deep.DeepCutAuto

namespace Go.Proofs.YtjdilmmpdlcimaaGreat
open Go.RowKit Go.Shelf Go.Mem Go.RegInv
attribute [local go_sem] RelUpon_value RelUpon_skip RelUpon_enter BigFrame.eval_const BigFrame.eval_global BigFrame.eval_func


/-- A valid press. -/
structure PrOK (am : List Int) (sp ga li : Int) : Prop where
  one : 1 ≤ am.length
  three : am.length ≤ 3
  am1 : ∀ i, i < am.length → 1 ≤ am.getD i 0 ∧ am.getD i 0 ≤ 10000
  up : ∀ i, i + 1 < am.length → am.getD i 0 < am.getD (i + 1) 0
  sp1 : 0 ≤ sp ∧ sp ≤ 10000
  ga1 : 0 ≤ ga ∧ ga ≤ 1000
  li1 : 0 ≤ li ∧ li ≤ 40000
def kinkV (ga sp a : Int) : Int := ga * max (a - sp) 0
theorem kinkV_bd {ga sp a : Int} (h1 : 0 ≤ sp ∧ sp ≤ 10000) (h2 : 0 ≤ ga ∧ ga ≤ 1000) (h3 : 0 ≤ a ∧ a ≤ 10000) : 0 ≤ kinkV ga sp a ∧ kinkV ga sp a ≤ 10000000 := by
  have m := mul_bd (a := ga) (b := max (a - sp) 0) (A := 1000) (B := 10000) (by omega) (by omega)
  have p : 0 ≤ ga * max (a - sp) 0 := Int.mul_nonneg (by omega) (by omega)
  unfold kinkV
  omega
set_option maxRecDepth 100000 in
set_option maxHeartbeats 1000000 in
theorem kinkBy_any {P : Option Addr} {np cp : Nat} {sp ga li a : Int} (w : World) (h1 : 0 ≤ sp ∧ sp ≤ 10000) (h2 : 0 ≤ ga ∧ ga ≤ 1000) (h3 : 0 ≤ a ∧ a ≤ 10000) :
    Calls Tryz.prog 84 #[.agg #[.slice P np cp, .int .i64 sp, .int .i64 ga, .int .i64 li], .int .i64 a] w fun e w' => e = .returned (.int .i64 (kinkV ga sp a)) ∧ Ext w w' := by
  have hb := kinkV_bd h1 h2 h3
  unfold kinkV at hb ⊢
  obtain ⟨W0, hW0⟩ : ∃ W0, W0 = w.alloc (.cells #[.slice P np cp, .int .i64 sp, .int .i64 ga, .int .i64 li] 27) := ⟨_, rfl⟩
  have K0 := Lib.hid (show Blk W0 (w.heap.size) 27 #[.slice P np cp, .int .i64 sp, .int .i64 ga, .int .i64 li] by rw [hW0]; exact Blk.new _ _ _)
  have E0 := Lib.hid (show Ext w W0 by rw [hW0]; exact Ext.alloc _ _)
  have y0_0 : W0.cell? ⟨w.heap.size, 0, none⟩ = some (.slice P np cp) := K0.out.cell 0
  have y0_1 : W0.cell? ⟨w.heap.size, 1, none⟩ = some (.int .i64 sp) := K0.out.cell 1
  have y0_2 : W0.cell? ⟨w.heap.size, 2, none⟩ = some (.int .i64 ga) := K0.out.cell 2
  have y0_3 : W0.cell? ⟨w.heap.size, 3, none⟩ = some (.int .i64 li) := K0.out.cell 3
  go_enter Tryz.func84, Tryz.ntmps84
  go_upto_region 1 with (fail)
  rw [← hW0]
  clear hW0
  go_wp2
  go_ret
  exact ⟨rfl, E0.out⟩
def bentV (ga sp : Int) (x : Sk) : Int := if x.u then -kinkV ga sp x.a else kinkV ga sp x.a
set_option maxRecDepth 100000 in
set_option maxHeartbeats 1000000 in
theorem bentBy_any {P : Option Addr} {np cp : Nat} {sp ga li : Int} {x : Sk} (w : World) (h1 : 0 ≤ sp ∧ sp ≤ 10000) (h2 : 0 ≤ ga ∧ ga ≤ 1000) (h3 : 0 ≤ x.a ∧ x.a ≤ 10000) :
    Calls Tryz.prog 94 #[.agg #[.slice P np cp, .int .i64 sp, .int .i64 ga, .int .i64 li], .agg #[.int .i64 x.j, .int .i64 x.a, .bool x.u]] w fun e w' => e = .returned (.int .i64 (bentV ga sp x)) ∧ Ext w w' := by
  have HK := Lib.hid (fun W => kinkBy_any (P := P) (np := np) (cp := cp) (li := li) (a := x.a) W h1 h2 h3)
  have hb := kinkV_bd h1 h2 h3
  unfold bentV
  generalize kinkV ga sp x.a = k at *
  generalize hu : x.u = u
  clear h1 h2 h3
  obtain ⟨W0, hW0⟩ : ∃ W0, W0 = (w.alloc (.cells #[.slice P np cp, .int .i64 sp, .int .i64 ga, .int .i64 li] 27)).alloc (.cells #[.int .i64 x.j, .int .i64 x.a, .bool u] 68) := ⟨_, rfl⟩
  have K0 := Lib.hid (show Blk W0 (w.heap.size) 27 #[.slice P np cp, .int .i64 sp, .int .i64 ga, .int .i64 li] by rw [hW0]; exact (Blk.new _ _ _).alloc _)
  have K1 := Lib.hid (show Blk W0 (w.heap.size + 1) 68 #[.int .i64 x.j, .int .i64 x.a, .bool u] by rw [hW0]; exact Blk.newAt _ _ _ (by simp))
  have E0 := Lib.hid (show Ext w W0 by rw [hW0]; exact (Ext.alloc _ _).trans (Ext.alloc _ _))
  have y0_0 : W0.cell? ⟨w.heap.size, 0, none⟩ = some (.slice P np cp) := K0.out.cell 0
  have y0_1 : W0.cell? ⟨w.heap.size, 1, none⟩ = some (.int .i64 sp) := K0.out.cell 1
  have y0_2 : W0.cell? ⟨w.heap.size, 2, none⟩ = some (.int .i64 ga) := K0.out.cell 2
  have y0_3 : W0.cell? ⟨w.heap.size, 3, none⟩ = some (.int .i64 li) := K0.out.cell 3
  have y1_0 : W0.cell? ⟨w.heap.size + 1, 0, none⟩ = some (.int .i64 x.j) := K1.out.cell 0
  have y1_1 : W0.cell? ⟨w.heap.size + 1, 1, none⟩ = some (.int .i64 x.a) := K1.out.cell 1
  have y1_2 : W0.cell? ⟨w.heap.size + 1, 2, none⟩ = some (.bool u) := K1.out.cell 2
  cases u
  all_goals
    go_enter Tryz.func94, Tryz.ntmps94
    go_upto_region 1 with (fail)
    rw [← hW0]
    clear hW0
    go_wp2_with (go_at_call 84; refine (HK.out _).mono ?_; rintro e W1 ⟨rfl, hx⟩; have X := Lib.hid (E0.out.trans hx); clear hx)
    go_ret
    exact ⟨rfl, X.out⟩
def hasB (am : List Int) (a : Int) : Bool := am.any fun x => a == x
theorem hasB_ok {am : List Int} {a : Int} (h : hasB am a = true) : ∃ i, i < am.length ∧ am.getD i 0 = a := by
  unfold hasB at h
  rw [List.any_eq_true] at h
  obtain ⟨x, hx, he⟩ := h
  obtain ⟨i, hi, rfl⟩ := List.mem_iff_getElem.1 hx
  refine ⟨i, hi, ?_⟩
  have : a = am[i] := by simpa using he
  simp [hi, this]

end Go.Proofs.YtjdilmmpdlcimaaGreat
