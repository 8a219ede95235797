/- Bows of a station. -/
import Derived.Test.YtjdilmmpdlcimaaYA
import Derived.Test.YtjdilmmpdlcimaaA5
import Derived.Lib.MinMax
import Derived.Deep.DeepCutAuto
import Derived.BigRegion

namespace Go.Proofs.Ytjdilmmpdlcimaa
open Go.RowKit Go.Shelf Go.Mem Go.RegInv
attribute [local go_sem] RelUpon_value RelUpon_skip RelUpon_enter BigFrame.eval_const BigFrame.eval_global BigFrame.eval_func


def bowN (n a b part whole : Int) : Int := (n - a) * whole - (b - a) * part
def bowR (n a b part whole : Int) : Rg := (bowN n a b part whole / whole, ceilD (bowN n a b part whole) whole)
/-- The bow of a station between a first and a last one. -/
def bowS (f x l : Sn) : Rg × Rg := (bowR x.x f.x l.x (x.t - f.t) (l.t - f.t), bowR x.y f.y l.y (x.t - f.t) (l.t - f.t))
theorem bowR_none {n a b part whole : Int} (h : bowN n a b part whole = 0) : bowR n a b part whole = (0, 0) := by
  unfold bowR
  rw [h]
  simp [ceilD]
theorem bowS_first (f l : Sn) : bowS f f l = ((0, 0), (0, 0)) := by
  unfold bowS
  rw [bowR_none (by simp [bowN]), bowR_none (by simp [bowN])]
theorem bowS_last (f l : Sn) : bowS f l l = ((0, 0), (0, 0)) := by
  unfold bowS
  rw [bowR_none (by simp [bowN]), bowR_none (by simp [bowN])]
def movS (b0 b1 b2 : Int) (x : Sn) : Sn := ⟨x.t, x.x + b0 + b1 * x.t, x.y + b2 * x.t⟩
theorem bowN_moved (n a b t t0 t1 c d : Int) : bowN (n + c + d * t) (a + c + d * t0) (b + c + d * t1) (t - t0) (t1 - t0) = bowN n a b (t - t0) (t1 - t0) := by
  unfold bowN
  grind
theorem bowN_moved0 (n a b t t0 t1 d : Int) : bowN (n + d * t) (a + d * t0) (b + d * t1) (t - t0) (t1 - t0) = bowN n a b (t - t0) (t1 - t0) := by
  unfold bowN
  grind
theorem bowS_moved (b0 b1 b2 : Int) (f x l : Sn) : bowS (movS b0 b1 b2 f) (movS b0 b1 b2 x) (movS b0 b1 b2 l) = bowS f x l := by
  unfold bowS bowR movS
  dsimp only
  rw [bowN_moved, bowN_moved0]

theorem bowN_bd {n a b pt wh : Int} (hw : 1 ≤ wh ∧ wh ≤ 10000) (hp : 0 ≤ pt ∧ pt ≤ 10000) (hn : -1000000 ≤ n ∧ n ≤ 1000000) (ha : -1000000 ≤ a ∧ a ≤ 1000000) (hb : -1000000 ≤ b ∧ b ≤ 1000000) : -200000000000 ≤ bowN n a b pt wh ∧ bowN n a b pt wh ≤ 200000000000 := by
  have m1 := mul_bd (a := n - a) (b := wh) (A := 2000000) (B := 10000) (by omega) (by omega)
  have m2 := mul_bd (a := b - a) (b := pt) (A := 2000000) (B := 10000) (by omega) (by omega)
  unfold bowN
  omega
set_option maxRecDepth 100000 in
set_option maxHeartbeats 1000000 in
theorem rounded_any (n d : Int) (hd : 0 < d ∧ d ≤ 1000000) (hn : -1000000000000 ≤ n ∧ n ≤ 1000000000000) (w : World) :
    Calls Try.prog 140 #[.int .i64 n, .int .i64 d] w fun e w' => e = .returned (.agg #[.int .i64 (n / d), .int .i64 (ceilD n d)]) ∧ Ext w w' := by
  have HF := Lib.hid (fun W => floorP_any n d (by omega) (by omega) W)
  have HC := Lib.hid (fun W => ceilP_any n d (by omega) (by omega) W)
  generalize n / d = f at *
  generalize ceilD n d = c at *
  obtain ⟨W0, hW0⟩ : ∃ W0, W0 = w.alloc (.cells #[.int .i64 0, .int .i64 0] 33) := ⟨_, rfl⟩
  have k0 : Blk W0 w.heap.size 33 #[.int .i64 0, .int .i64 0] := by rw [hW0]; exact Blk.new _ _ _
  have E0 := Lib.hid (show Ext w W0 by rw [hW0]; exact Ext.alloc _ _)
  have y0 : W0.cell? ⟨w.heap.size, 0, none⟩ = some (.int .i64 0) := k0.cell 0
  have y1 : W0.cell? ⟨w.heap.size, 1, none⟩ = some (.int .i64 0) := k0.cell 1
  have K0 := Lib.hid k0
  clear k0
  go_enter Try.func140, Try.ntmps140
  go_upto_region 1 with (fail)
  rw [← hW0]
  clear hW0
  have f0 := K0.out.free 0
  have f1 := K0.out.free 1
  go_wp2_with (first | (go_at_call 117; refine (HF.out _).mono ?_; rintro e w' ⟨rfl, rfl⟩) | (go_at_call 118; refine (HC.out _).mono ?_; rintro e w' ⟨rfl, rfl⟩))
  exact bodyPost_ret (v := .agg #[.int .i64 f, .int .i64 c]) (by simp [results, Try.f140, go_sem, y0, y1]) rfl ⟨rfl, Ext.set (Ext.set E0.out (by dsimp only; omega) _) (by dsimp only; omega) _⟩
set_option maxRecDepth 100000 in
set_option maxHeartbeats 1000000 in
theorem off_any (n a b pt wh : Int) (hw : 1 ≤ wh ∧ wh ≤ 10000) (hp : 0 ≤ pt ∧ pt ≤ 10000) (hn : -1000000 ≤ n ∧ n ≤ 1000000) (ha : -1000000 ≤ a ∧ a ≤ 1000000) (hb : -1000000 ≤ b ∧ b ≤ 1000000) (w : World) :
    Calls Try.prog 108 #[.int .i64 n, .int .i64 a, .int .i64 b, .int .i64 pt, .int .i64 wh] w fun e w' => e = .returned (.agg #[.int .i64 (bowR n a b pt wh).1, .int .i64 (bowR n a b pt wh).2]) ∧ Ext w w' := by
  have hbd := bowN_bd hw hp hn ha hb
  have HF := Lib.hid (fun W => floor_any (bowN n a b pt wh) wh (by omega) (by omega) W)
  have HC := Lib.hid (fun W => ceil_any (bowN n a b pt wh) wh (by omega) (by omega) W)
  have HV := Lib.hid (show bowR n a b pt wh = (bowN n a b pt wh / wh, ceilD (bowN n a b pt wh) wh) from rfl)
  have HNE := Lib.hid (show bowN n a b pt wh = (n - a) * wh - (b - a) * pt from rfl)
  rw [HNE.out] at HF HC HV hbd
  generalize bowR n a b pt wh = v at *
  have m1 := mul_bd (a := n - a) (b := wh) (A := 2000000) (B := 10000) (by omega) (by omega)
  have m2 := mul_bd (a := b - a) (b := pt) (A := 2000000) (B := 10000) (by omega) (by omega)
  generalize hf : ((n - a) * wh - (b - a) * pt) / wh = fl at *
  generalize hc : ceilD ((n - a) * wh - (b - a) * pt) wh = ce at *
  clear hf hc HNE
  obtain ⟨W0, hW0⟩ : ∃ W0, W0 = w.alloc (.cells #[.int .i64 0, .int .i64 0] 33) := ⟨_, rfl⟩
  have k0 : Blk W0 w.heap.size 33 #[.int .i64 0, .int .i64 0] := by rw [hW0]; exact Blk.new _ _ _
  have E0 := Lib.hid (show Ext w W0 by rw [hW0]; exact Ext.alloc _ _)
  have y0 : W0.cell? ⟨w.heap.size, 0, none⟩ = some (.int .i64 0) := k0.cell 0
  have y1 : W0.cell? ⟨w.heap.size, 1, none⟩ = some (.int .i64 0) := k0.cell 1
  have K0 := Lib.hid k0
  clear k0
  go_enter Try.func108, Try.ntmps108
  go_upto_region 1 with (fail)
  rw [← hW0]
  clear hW0
  have f0 := K0.out.free 0
  have f1 := K0.out.free 1
  go_wp2_with (first | (go_at_call 81; refine (HF.out _).mono ?_; rintro e w' ⟨rfl, rfl⟩) | (go_at_call 82; refine (HC.out _).mono ?_; rintro e w' ⟨rfl, rfl⟩))
  exact bodyPost_ret (v := .agg #[.int .i64 fl, .int .i64 ce]) (by simp [results, Try.f108, go_sem, y0, y1]) rfl ⟨by rw [HV.out], Ext.set (Ext.set E0.out (by dsimp only; omega) _) (by dsimp only; omega) _⟩
set_option maxRecDepth 100000 in
set_option maxHeartbeats 1000000 in
theorem bowOff_any (n a b pt wh : Int) (hw : 1 ≤ wh ∧ wh ≤ 10000) (hp : 0 ≤ pt ∧ pt ≤ 10000) (hn : -1000000 ≤ n ∧ n ≤ 1000000) (ha : -1000000 ≤ a ∧ a ≤ 1000000) (hb : -1000000 ≤ b ∧ b ≤ 1000000) {w : World} {q r : Nat} (hq : w.cell? ⟨q, 0, none⟩ = some (.int .i64 wh)) (hr : w.cell? ⟨r, 0, none⟩ = some (.int .i64 pt)) :
    Calls Try.prog 139 #[.int .i64 a, .int .i64 n, .int .i64 b, .pointer (some ⟨q, 0, none⟩), .pointer (some ⟨r, 0, none⟩)] w fun e w' => e = .returned (.agg #[.int .i64 (bowR n a b pt wh).1, .int .i64 (bowR n a b pt wh).2]) ∧ Ext w w' := by
  have hbd := bowN_bd hw hp hn ha hb
  have HR := Lib.hid (fun W => rounded_any (bowN n a b pt wh) wh (by omega) (by omega) W)
  have HV := Lib.hid (show bowR n a b pt wh = (bowN n a b pt wh / wh, ceilD (bowN n a b pt wh) wh) from rfl)
  have HNE := Lib.hid (show bowN n a b pt wh = (n - a) * wh - (b - a) * pt from rfl)
  rw [HNE.out] at HR HV hbd
  generalize bowR n a b pt wh = v at *
  have m1 := mul_bd (a := n - a) (b := wh) (A := 2000000) (B := 10000) (by omega) (by omega)
  have m2 := mul_bd (a := b - a) (b := pt) (A := 2000000) (B := 10000) (by omega) (by omega)
  generalize hf : ((n - a) * wh - (b - a) * pt) / wh = fl at *
  generalize hc : ceilD ((n - a) * wh - (b - a) * pt) wh = ce at *
  clear hf hc HNE
  obtain ⟨W0, hW0⟩ : ∃ W0, W0 = w.alloc (.cells #[.int .i64 0, .int .i64 0] 33) := ⟨_, rfl⟩
  have k0 : Blk W0 w.heap.size 33 #[.int .i64 0, .int .i64 0] := by rw [hW0]; exact Blk.new _ _ _
  have E0 := Lib.hid (show Ext w W0 by rw [hW0]; exact Ext.alloc _ _)
  have y0 : W0.cell? ⟨w.heap.size, 0, none⟩ = some (.int .i64 0) := k0.cell 0
  have y1 : W0.cell? ⟨w.heap.size, 1, none⟩ = some (.int .i64 0) := k0.cell 1
  have K0 := Lib.hid k0
  clear k0
  have y4 := E0.out.cell hq
  have y5 := E0.out.cell hr
  clear hq hr y0 y1
  go_enter Try.func139, Try.ntmps139
  go_upto_region 1 with (fail)
  rw [← hW0]
  clear hW0
  go_wp2_with (go_at_call 140; refine (HR.out _).mono ?_; rintro e w1 ⟨rfl, hx⟩; have X := Lib.hid (E0.out.trans hx); replace K0 := Lib.hid (K0.out.ext hx); clear hx; have f0 := K0.out.free 0; have f1 := K0.out.free 1; have y0 : w1.cell? ⟨w.heap.size, 0, none⟩ = some (.int .i64 0) := K0.out.cell 0; have y1 : w1.cell? ⟨w.heap.size, 1, none⟩ = some (.int .i64 0) := K0.out.cell 1)
  exact bodyPost_ret (v := .agg #[.int .i64 fl, .int .i64 ce]) (by simp [results, Try.f139, go_sem, y0, y1]) rfl ⟨by rw [HV.out], Ext.set (Ext.set X.out (by dsimp only; omega) _) (by dsimp only; omega) _⟩
theorem bowS_eq (f x l : Sn) : bowS f x l = ((bowR x.x f.x l.x (x.t - f.t) (l.t - f.t)), (bowR x.y f.y l.y (x.t - f.t) (l.t - f.t))) := rfl
set_option maxRecDepth 100000 in
set_option maxHeartbeats 1000000 in
theorem bowOf_any (f x l : Sn) (hw : 1 ≤ l.t - f.t ∧ l.t - f.t ≤ 10000) (hp : 0 ≤ x.t - f.t ∧ x.t - f.t ≤ 10000) (h1 : -1000000 ≤ f.x ∧ f.x ≤ 1000000) (h2 : -1000000 ≤ f.y ∧ f.y ≤ 1000000) (h3 : -1000000 ≤ x.x ∧ x.x ≤ 1000000) (h4 : -1000000 ≤ x.y ∧ x.y ≤ 1000000) (h5 : -1000000 ≤ l.x ∧ l.x ≤ 1000000) (h6 : -1000000 ≤ l.y ∧ l.y ≤ 1000000) (w : World) :
    Calls Try.prog 105 #[.agg #[.int .i64 f.t, .int .i64 f.x, .int .i64 f.y], .agg #[.int .i64 x.t, .int .i64 x.x, .int .i64 x.y], .agg #[.int .i64 l.t, .int .i64 l.x, .int .i64 l.y]] w fun e w' => e = .returned (.agg #[.int .i64 (bowS f x l).1.1, .int .i64 (bowS f x l).1.2, .int .i64 (bowS f x l).2.1, .int .i64 (bowS f x l).2.2]) ∧ Ext w w' := by
  have HBXo := Lib.hid (fun (W : World) (q r : Nat) hq hr => bowOff_any x.x f.x l.x (x.t - f.t) (l.t - f.t) hw hp h3 h1 h5 (w := W) (q := q) (r := r) hq hr)
  have HBYo := Lib.hid (fun (W : World) (q r : Nat) hq hr => bowOff_any x.y f.y l.y (x.t - f.t) (l.t - f.t) hw hp h4 h2 h6 (w := W) (q := q) (r := r) hq hr)
  rw [bowS_eq]
  generalize (bowR x.x f.x l.x (x.t - f.t) (l.t - f.t)) = bx at *
  generalize (bowR x.y f.y l.y (x.t - f.t) (l.t - f.t)) = by_ at *
  have HWB := Lib.hid (And.intro hw hp)
  clear h1 h2 h3 h4 h5 h6 hw hp
  obtain ⟨W0, hW0⟩ : ∃ W0, W0 = (((w.alloc (.cells #[.int .i64 f.t, .int .i64 f.x, .int .i64 f.y] 109)).alloc (.cells #[.int .i64 x.t, .int .i64 x.x, .int .i64 x.y] 109)).alloc (.cells #[.int .i64 l.t, .int .i64 l.x, .int .i64 l.y] 109)).alloc (.cells #[.int .i64 0, .int .i64 0, .int .i64 0, .int .i64 0] 107) := ⟨_, rfl⟩
  have K0 := Lib.hid (show Blk W0 (w.heap.size) 109 #[.int .i64 f.t, .int .i64 f.x, .int .i64 f.y] by rw [hW0]; exact (((Blk.new _ _ _).alloc _).alloc _).alloc _)
  have K1 := Lib.hid (show Blk W0 (w.heap.size + 1) 109 #[.int .i64 x.t, .int .i64 x.x, .int .i64 x.y] by rw [hW0]; exact ((Blk.newAt _ _ _ (by simp)).alloc _).alloc _)
  have K2 := Lib.hid (show Blk W0 (w.heap.size + 1 + 1) 109 #[.int .i64 l.t, .int .i64 l.x, .int .i64 l.y] by rw [hW0]; exact (Blk.newAt _ _ _ (by simp)).alloc _)
  have K3 := Lib.hid (show Blk W0 (w.heap.size + 1 + 1 + 1) 107 #[.int .i64 0, .int .i64 0, .int .i64 0, .int .i64 0] by rw [hW0]; exact Blk.newAt _ _ _ (by simp))
  have E0 := Lib.hid (show Ext w W0 by rw [hW0]; exact (((Ext.alloc _ _).trans (Ext.alloc _ _)).trans (Ext.alloc _ _)).trans (Ext.alloc _ _))
  have y0_0 : W0.cell? ⟨w.heap.size, 0, none⟩ = some (.int .i64 f.t) := K0.out.cell 0
  have y0_1 : W0.cell? ⟨w.heap.size, 1, none⟩ = some (.int .i64 f.x) := K0.out.cell 1
  have y0_2 : W0.cell? ⟨w.heap.size, 2, none⟩ = some (.int .i64 f.y) := K0.out.cell 2
  have y1_0 : W0.cell? ⟨w.heap.size + 1, 0, none⟩ = some (.int .i64 x.t) := K1.out.cell 0
  have y1_1 : W0.cell? ⟨w.heap.size + 1, 1, none⟩ = some (.int .i64 x.x) := K1.out.cell 1
  have y1_2 : W0.cell? ⟨w.heap.size + 1, 2, none⟩ = some (.int .i64 x.y) := K1.out.cell 2
  have y2_0 : W0.cell? ⟨w.heap.size + 1 + 1, 0, none⟩ = some (.int .i64 l.t) := K2.out.cell 0
  have y2_1 : W0.cell? ⟨w.heap.size + 1 + 1, 1, none⟩ = some (.int .i64 l.x) := K2.out.cell 1
  have y2_2 : W0.cell? ⟨w.heap.size + 1 + 1, 2, none⟩ = some (.int .i64 l.y) := K2.out.cell 2
  have y3_0 : W0.cell? ⟨w.heap.size + 1 + 1 + 1, 0, none⟩ = some (.int .i64 0) := K3.out.cell 0
  have y3_1 : W0.cell? ⟨w.heap.size + 1 + 1 + 1, 1, none⟩ = some (.int .i64 0) := K3.out.cell 1
  have y3_2 : W0.cell? ⟨w.heap.size + 1 + 1 + 1, 2, none⟩ = some (.int .i64 0) := K3.out.cell 2
  have y3_3 : W0.cell? ⟨w.heap.size + 1 + 1 + 1, 3, none⟩ = some (.int .i64 0) := K3.out.cell 3
  go_enter Try.func105, Try.ntmps105
  go_upto_region 1 with (fail)
  have hsz : W0.heap.size = w.heap.size + 4 := by rw [hW0]; simp
  rw [← hW0]
  clear hW0 y3_0 y3_1 y3_2 y3_3
  have hw1 : IntKind.i64.wrap (l.t - f.t) = l.t - f.t := wrap_id _ (by have := HWB.out; omega) (by have := HWB.out; omega)
  have hw2 : IntKind.i64.wrap (x.t - f.t) = x.t - f.t := wrap_id _ (by have := HWB.out; omega) (by have := HWB.out; omega)
  go_region
  · obtain ⟨V, hV⟩ : ∃ V, V = ((W0.alloc (.cells #[.int .i64 (l.t - f.t)] 3)).alloc (.cells #[.int .i64 (x.t - f.t)] 3)).drew := ⟨_, rfl⟩
    rw [← hV]
    have XN := Lib.hid (show Ext W0 V by rw [hV]; exact ((Ext.alloc _ _).trans (Ext.alloc _ _)).trans (Ext.drew _))
    have Ka := Lib.hid (show Blk V (w.heap.size + 4) 3 #[.int .i64 (l.t - f.t)] by rw [hV]; exact ((Blk.newAt _ _ _ hsz.symm).alloc _).drew)
    have Kb := Lib.hid (show Blk V (w.heap.size + 4 + 1) 3 #[.int .i64 (x.t - f.t)] by rw [hV]; exact (Blk.newAt _ _ _ (by simp [hsz])).drew)
    clear hV
    have K7 := Ka
    have K8 := Kb
    clear Ka Kb
    have X := Lib.hid (E0.out.trans XN.out)
    replace K0 := Lib.hid (K0.out.ext XN.out)
    replace K1 := Lib.hid (K1.out.ext XN.out)
    replace K2 := Lib.hid (K2.out.ext XN.out)
    replace K3 := Lib.hid (K3.out.ext XN.out)
    clear hw1 hw2 hsz XN y0_0 y0_1 y0_2 y1_0 y1_1 y1_2 y2_0 y2_1 y2_2 HWB E0
    have HBX := Lib.hid (fun W (e : Ext V W) => HBXo.out W (w.heap.size + 4) (w.heap.size + 4 + 1) ((K7.out.ext e).cell 0) ((K8.out.ext e).cell 0))
    have HBY := Lib.hid (fun W (e : Ext V W) => HBYo.out W (w.heap.size + 4) (w.heap.size + 4 + 1) ((K7.out.ext e).cell 0) ((K8.out.ext e).cell 0))
    clear HBXo HBYo
    obtain ⟨V2, hV2⟩ : ∃ V2, V2 = V := ⟨_, rfl⟩
    rw [← hV2] at X K0 K1 K2 K3 K7 K8 HBX HBY ⊢
    clear hV2
    have y0_0 : V2.cell? ⟨w.heap.size, 0, none⟩ = some (.int .i64 f.t) := K0.out.cell 0
    have y0_1 : V2.cell? ⟨w.heap.size, 1, none⟩ = some (.int .i64 f.x) := K0.out.cell 1
    have y0_2 : V2.cell? ⟨w.heap.size, 2, none⟩ = some (.int .i64 f.y) := K0.out.cell 2
    have y1_0 : V2.cell? ⟨w.heap.size + 1, 0, none⟩ = some (.int .i64 x.t) := K1.out.cell 0
    have y1_1 : V2.cell? ⟨w.heap.size + 1, 1, none⟩ = some (.int .i64 x.x) := K1.out.cell 1
    have y1_2 : V2.cell? ⟨w.heap.size + 1, 2, none⟩ = some (.int .i64 x.y) := K1.out.cell 2
    have y2_0 : V2.cell? ⟨w.heap.size + 1 + 1, 0, none⟩ = some (.int .i64 l.t) := K2.out.cell 0
    have y2_1 : V2.cell? ⟨w.heap.size + 1 + 1, 1, none⟩ = some (.int .i64 l.x) := K2.out.cell 1
    have y2_2 : V2.cell? ⟨w.heap.size + 1 + 1, 2, none⟩ = some (.int .i64 l.y) := K2.out.cell 2
    go_upto_region 3 with (fail)
    refine wp_region_partR 17 [some 21, some 22, some 23, some 24, some 25, some 26, some 27, some 28, some 29, some 30, some 31, some 32, some 33, some 34, some 35, some 36, some 37] [[9], [3], [22], [4], [24], [5], [26], [21, 23, 25, 27], [9], [3], [30], [4], [32], [5], [34], [29, 31, 33, 35], [28, 36]]
      [Is (.func (.func 139) #[] #[.pointer (some ⟨w.heap.size + 4, 0, none⟩), .pointer (some ⟨w.heap.size + 4 + 1, 0, none⟩)]), Is (.pointer (some ⟨w.heap.size, 1, none⟩)), Is (.int .i64 (f.x)), Is (.pointer (some ⟨w.heap.size + 1, 1, none⟩)), Is (.int .i64 (x.x)), Is (.pointer (some ⟨w.heap.size + 1 + 1, 1, none⟩)), Is (.int .i64 (l.x)), Is (.agg #[.int .i64 bx.1, .int .i64 bx.2]), Is (.func (.func 139) #[] #[.pointer (some ⟨w.heap.size + 4, 0, none⟩), .pointer (some ⟨w.heap.size + 4 + 1, 0, none⟩)]), Is (.pointer (some ⟨w.heap.size, 2, none⟩)), Is (.int .i64 (f.y)), Is (.pointer (some ⟨w.heap.size + 1, 2, none⟩)), Is (.int .i64 (x.y)), Is (.pointer (some ⟨w.heap.size + 1 + 1, 2, none⟩)), Is (.int .i64 (l.y)), Is (.agg #[.int .i64 by_.1, .int .i64 by_.2]), Is (.agg #[.int .i64 bx.1, .int .i64 bx.2, .int .i64 by_.1, .int .i64 by_.2])]
      (by kernel_rfl) (by kernel_rfl) (by kernel_rfl) (by kernel_rfl) (by kernel_rfl) (by kernel_rfl) (by kernel_rfl) Ext (fun W => Ext V2 W)
      (fun W _ => Ext.refl W) (fun W W' h k => h.trans k) ?_ (Ext.drew _) ?_ ?_
    · repeat (refine ⟨fun _ _ _ _ k h => (by first | exact h | exact (IntsAt.ext h k)), ?_⟩)
      exact trivial
    · refine ⟨?_, ?_, ?_, ?_, ?_, ?_, ?_, ?_, ?_, ?_, ?_, ?_, ?_, ?_, ?_, ?_, ?_, trivial⟩
      all_goals intro ρ W ⟨kc, kg, kf⟩ hF hs
      · obtain ⟨h0, -⟩ := hs
        replace h0 : ρ (.tmp 9) = .func (.func 139) #[] #[.pointer (some ⟨w.heap.size + 4, 0, none⟩), .pointer (some ⟨w.heap.size + 4 + 1, 0, none⟩)] := h0
        go_simp
        exact ⟨Ext.refl _, rfl⟩
      · obtain ⟨h0, -⟩ := hs
        replace h0 : ρ (.tmp 3) = .pointer (some ⟨w.heap.size, 0, none⟩) := h0
        go_simp
        exact ⟨Ext.refl _, rfl⟩
      · obtain ⟨h0, -⟩ := hs
        replace h0 : ρ (.tmp 22) = .pointer (some ⟨w.heap.size, 1, none⟩) := h0
        have hc0 : W.cell? ⟨w.heap.size, 1, none⟩ = some (.int .i64 (f.x)) := hF.cell (by assumption)
        go_simp
        exact ⟨Ext.refl _, rfl⟩
      · obtain ⟨h0, -⟩ := hs
        replace h0 : ρ (.tmp 4) = .pointer (some ⟨w.heap.size + 1, 0, none⟩) := h0
        go_simp
        exact ⟨Ext.refl _, rfl⟩
      · obtain ⟨h0, -⟩ := hs
        replace h0 : ρ (.tmp 24) = .pointer (some ⟨w.heap.size + 1, 1, none⟩) := h0
        have hc0 : W.cell? ⟨w.heap.size + 1, 1, none⟩ = some (.int .i64 (x.x)) := hF.cell (by assumption)
        go_simp
        exact ⟨Ext.refl _, rfl⟩
      · obtain ⟨h0, -⟩ := hs
        replace h0 : ρ (.tmp 5) = .pointer (some ⟨w.heap.size + 1 + 1, 0, none⟩) := h0
        go_simp
        exact ⟨Ext.refl _, rfl⟩
      · obtain ⟨h0, -⟩ := hs
        replace h0 : ρ (.tmp 26) = .pointer (some ⟨w.heap.size + 1 + 1, 1, none⟩) := h0
        have hc0 : W.cell? ⟨w.heap.size + 1 + 1, 1, none⟩ = some (.int .i64 (l.x)) := hF.cell (by assumption)
        go_simp
        exact ⟨Ext.refl _, rfl⟩
      · obtain ⟨h0, h1, h2, h3, -⟩ := hs
        replace h0 : ρ (.tmp 21) = .func (.func 139) #[] #[.pointer (some ⟨w.heap.size + 4, 0, none⟩), .pointer (some ⟨w.heap.size + 4 + 1, 0, none⟩)] := h0
        replace h1 : ρ (.tmp 23) = .int .i64 (f.x) := h1
        replace h2 : ρ (.tmp 25) = .int .i64 (x.x) := h2
        replace h3 : ρ (.tmp 27) = .int .i64 (l.x) := h3
        go_simp
        refine (HBX.out _ hF).mono ?_; rintro e w' ⟨rfl, hx⟩; exact ⟨_, rfl, hx, rfl⟩
      · obtain ⟨h0, -⟩ := hs
        replace h0 : ρ (.tmp 9) = .func (.func 139) #[] #[.pointer (some ⟨w.heap.size + 4, 0, none⟩), .pointer (some ⟨w.heap.size + 4 + 1, 0, none⟩)] := h0
        go_simp
        exact ⟨Ext.refl _, rfl⟩
      · obtain ⟨h0, -⟩ := hs
        replace h0 : ρ (.tmp 3) = .pointer (some ⟨w.heap.size, 0, none⟩) := h0
        go_simp
        exact ⟨Ext.refl _, rfl⟩
      · obtain ⟨h0, -⟩ := hs
        replace h0 : ρ (.tmp 30) = .pointer (some ⟨w.heap.size, 2, none⟩) := h0
        have hc0 : W.cell? ⟨w.heap.size, 2, none⟩ = some (.int .i64 (f.y)) := hF.cell (by assumption)
        go_simp
        exact ⟨Ext.refl _, rfl⟩
      · obtain ⟨h0, -⟩ := hs
        replace h0 : ρ (.tmp 4) = .pointer (some ⟨w.heap.size + 1, 0, none⟩) := h0
        go_simp
        exact ⟨Ext.refl _, rfl⟩
      · obtain ⟨h0, -⟩ := hs
        replace h0 : ρ (.tmp 32) = .pointer (some ⟨w.heap.size + 1, 2, none⟩) := h0
        have hc0 : W.cell? ⟨w.heap.size + 1, 2, none⟩ = some (.int .i64 (x.y)) := hF.cell (by assumption)
        go_simp
        exact ⟨Ext.refl _, rfl⟩
      · obtain ⟨h0, -⟩ := hs
        replace h0 : ρ (.tmp 5) = .pointer (some ⟨w.heap.size + 1 + 1, 0, none⟩) := h0
        go_simp
        exact ⟨Ext.refl _, rfl⟩
      · obtain ⟨h0, -⟩ := hs
        replace h0 : ρ (.tmp 34) = .pointer (some ⟨w.heap.size + 1 + 1, 2, none⟩) := h0
        have hc0 : W.cell? ⟨w.heap.size + 1 + 1, 2, none⟩ = some (.int .i64 (l.y)) := hF.cell (by assumption)
        go_simp
        exact ⟨Ext.refl _, rfl⟩
      · obtain ⟨h0, h1, h2, h3, -⟩ := hs
        replace h0 : ρ (.tmp 29) = .func (.func 139) #[] #[.pointer (some ⟨w.heap.size + 4, 0, none⟩), .pointer (some ⟨w.heap.size + 4 + 1, 0, none⟩)] := h0
        replace h1 : ρ (.tmp 31) = .int .i64 (f.y) := h1
        replace h2 : ρ (.tmp 33) = .int .i64 (x.y) := h2
        replace h3 : ρ (.tmp 35) = .int .i64 (l.y) := h3
        go_simp
        refine (HBY.out _ hF).mono ?_; rintro e w' ⟨rfl, hx⟩; exact ⟨_, rfl, hx, rfl⟩
      · obtain ⟨h0, h1, -⟩ := hs
        replace h0 : ρ (.tmp 28) = .agg #[.int .i64 bx.1, .int .i64 bx.2] := h0
        replace h1 : ρ (.tmp 36) = .agg #[.int .i64 by_.1, .int .i64 by_.2] := h1
        go_simp
        exact ⟨Ext.refl _, rfl⟩
    · intro fv V3 hF hs
      obtain ⟨-, -, -, -, -, -, -, -, -, -, -, -, -, -, -, -, h37, -⟩ := hs
      replace h37 : fv 37 = .agg #[.int .i64 bx.1, .int .i64 bx.2, .int .i64 by_.1, .int .i64 by_.2] := h37
      simp only [fin, List.filterMap]
      go_simp
      replace K3 := Lib.hid (K3.out.ext hF)
      replace X := Lib.hid (X.out.trans hF)
      clear hF
      have f0 := K3.out.free 0
      have u0 : V3.cell? ⟨w.heap.size + 1 + 1 + 1, 0, none⟩ = some (.int .i64 0) := K3.out.cell 0
      have f1 := K3.out.free 1
      have u1 : V3.cell? ⟨w.heap.size + 1 + 1 + 1, 1, none⟩ = some (.int .i64 0) := K3.out.cell 1
      have f2 := K3.out.free 2
      have u2 : V3.cell? ⟨w.heap.size + 1 + 1 + 1, 2, none⟩ = some (.int .i64 0) := K3.out.cell 2
      have f3 := K3.out.free 3
      have u3 : V3.cell? ⟨w.heap.size + 1 + 1 + 1, 3, none⟩ = some (.int .i64 0) := K3.out.cell 3
      clear y0_0 y0_1 y0_2 y1_0 y1_1 y1_2 y2_0 y2_1 y2_2
      go_wp2
      exact bodyPost_ret (v := .agg #[.int .i64 bx.1, .int .i64 bx.2, .int .i64 by_.1, .int .i64 by_.2]) (by simp [results, Try.f105, go_sem, u0, u1, u2, u3]) rfl ⟨rfl, Ext.set (Ext.set (Ext.set (Ext.set X.out (by dsimp only; omega) _) (by dsimp only; omega) _) (by dsimp only; omega) _) (by dsimp only; omega) _⟩
  · obtain ⟨V, hV⟩ : ∃ V, V = ((W0.alloc (.cells #[.int .i64 (x.t - f.t)] 3)).alloc (.cells #[.int .i64 (l.t - f.t)] 3)).drew := ⟨_, rfl⟩
    rw [← hV]
    have XN := Lib.hid (show Ext W0 V by rw [hV]; exact ((Ext.alloc _ _).trans (Ext.alloc _ _)).trans (Ext.drew _))
    have Ka := Lib.hid (show Blk V (w.heap.size + 4) 3 #[.int .i64 (x.t - f.t)] by rw [hV]; exact ((Blk.newAt _ _ _ hsz.symm).alloc _).drew)
    have Kb := Lib.hid (show Blk V (w.heap.size + 4 + 1) 3 #[.int .i64 (l.t - f.t)] by rw [hV]; exact (Blk.newAt _ _ _ (by simp [hsz])).drew)
    clear hV
    have K7 := Kb
    have K8 := Ka
    clear Ka Kb
    have X := Lib.hid (E0.out.trans XN.out)
    replace K0 := Lib.hid (K0.out.ext XN.out)
    replace K1 := Lib.hid (K1.out.ext XN.out)
    replace K2 := Lib.hid (K2.out.ext XN.out)
    replace K3 := Lib.hid (K3.out.ext XN.out)
    clear hw1 hw2 hsz XN y0_0 y0_1 y0_2 y1_0 y1_1 y1_2 y2_0 y2_1 y2_2 HWB E0
    have HBX := Lib.hid (fun W (e : Ext V W) => HBXo.out W (w.heap.size + 4 + 1) (w.heap.size + 4) ((K7.out.ext e).cell 0) ((K8.out.ext e).cell 0))
    have HBY := Lib.hid (fun W (e : Ext V W) => HBYo.out W (w.heap.size + 4 + 1) (w.heap.size + 4) ((K7.out.ext e).cell 0) ((K8.out.ext e).cell 0))
    clear HBXo HBYo
    obtain ⟨V2, hV2⟩ : ∃ V2, V2 = V := ⟨_, rfl⟩
    rw [← hV2] at X K0 K1 K2 K3 K7 K8 HBX HBY ⊢
    clear hV2
    have y0_0 : V2.cell? ⟨w.heap.size, 0, none⟩ = some (.int .i64 f.t) := K0.out.cell 0
    have y0_1 : V2.cell? ⟨w.heap.size, 1, none⟩ = some (.int .i64 f.x) := K0.out.cell 1
    have y0_2 : V2.cell? ⟨w.heap.size, 2, none⟩ = some (.int .i64 f.y) := K0.out.cell 2
    have y1_0 : V2.cell? ⟨w.heap.size + 1, 0, none⟩ = some (.int .i64 x.t) := K1.out.cell 0
    have y1_1 : V2.cell? ⟨w.heap.size + 1, 1, none⟩ = some (.int .i64 x.x) := K1.out.cell 1
    have y1_2 : V2.cell? ⟨w.heap.size + 1, 2, none⟩ = some (.int .i64 x.y) := K1.out.cell 2
    have y2_0 : V2.cell? ⟨w.heap.size + 1 + 1, 0, none⟩ = some (.int .i64 l.t) := K2.out.cell 0
    have y2_1 : V2.cell? ⟨w.heap.size + 1 + 1, 1, none⟩ = some (.int .i64 l.x) := K2.out.cell 1
    have y2_2 : V2.cell? ⟨w.heap.size + 1 + 1, 2, none⟩ = some (.int .i64 l.y) := K2.out.cell 2
    go_upto_region 3 with (fail)
    refine wp_region_partR 17 [some 21, some 22, some 23, some 24, some 25, some 26, some 27, some 28, some 29, some 30, some 31, some 32, some 33, some 34, some 35, some 36, some 37] [[9], [3], [22], [4], [24], [5], [26], [21, 23, 25, 27], [9], [3], [30], [4], [32], [5], [34], [29, 31, 33, 35], [28, 36]]
      [Is (.func (.func 139) #[] #[.pointer (some ⟨w.heap.size + 4 + 1, 0, none⟩), .pointer (some ⟨w.heap.size + 4, 0, none⟩)]), Is (.pointer (some ⟨w.heap.size, 1, none⟩)), Is (.int .i64 (f.x)), Is (.pointer (some ⟨w.heap.size + 1, 1, none⟩)), Is (.int .i64 (x.x)), Is (.pointer (some ⟨w.heap.size + 1 + 1, 1, none⟩)), Is (.int .i64 (l.x)), Is (.agg #[.int .i64 bx.1, .int .i64 bx.2]), Is (.func (.func 139) #[] #[.pointer (some ⟨w.heap.size + 4 + 1, 0, none⟩), .pointer (some ⟨w.heap.size + 4, 0, none⟩)]), Is (.pointer (some ⟨w.heap.size, 2, none⟩)), Is (.int .i64 (f.y)), Is (.pointer (some ⟨w.heap.size + 1, 2, none⟩)), Is (.int .i64 (x.y)), Is (.pointer (some ⟨w.heap.size + 1 + 1, 2, none⟩)), Is (.int .i64 (l.y)), Is (.agg #[.int .i64 by_.1, .int .i64 by_.2]), Is (.agg #[.int .i64 bx.1, .int .i64 bx.2, .int .i64 by_.1, .int .i64 by_.2])]
      (by kernel_rfl) (by kernel_rfl) (by kernel_rfl) (by kernel_rfl) (by kernel_rfl) (by kernel_rfl) (by kernel_rfl) Ext (fun W => Ext V2 W)
      (fun W _ => Ext.refl W) (fun W W' h k => h.trans k) ?_ (Ext.drew _) ?_ ?_
    · repeat (refine ⟨fun _ _ _ _ k h => (by first | exact h | exact (IntsAt.ext h k)), ?_⟩)
      exact trivial
    · refine ⟨?_, ?_, ?_, ?_, ?_, ?_, ?_, ?_, ?_, ?_, ?_, ?_, ?_, ?_, ?_, ?_, ?_, trivial⟩
      all_goals intro ρ W ⟨kc, kg, kf⟩ hF hs
      · obtain ⟨h0, -⟩ := hs
        replace h0 : ρ (.tmp 9) = .func (.func 139) #[] #[.pointer (some ⟨w.heap.size + 4 + 1, 0, none⟩), .pointer (some ⟨w.heap.size + 4, 0, none⟩)] := h0
        go_simp
        exact ⟨Ext.refl _, rfl⟩
      · obtain ⟨h0, -⟩ := hs
        replace h0 : ρ (.tmp 3) = .pointer (some ⟨w.heap.size, 0, none⟩) := h0
        go_simp
        exact ⟨Ext.refl _, rfl⟩
      · obtain ⟨h0, -⟩ := hs
        replace h0 : ρ (.tmp 22) = .pointer (some ⟨w.heap.size, 1, none⟩) := h0
        have hc0 : W.cell? ⟨w.heap.size, 1, none⟩ = some (.int .i64 (f.x)) := hF.cell (by assumption)
        go_simp
        exact ⟨Ext.refl _, rfl⟩
      · obtain ⟨h0, -⟩ := hs
        replace h0 : ρ (.tmp 4) = .pointer (some ⟨w.heap.size + 1, 0, none⟩) := h0
        go_simp
        exact ⟨Ext.refl _, rfl⟩
      · obtain ⟨h0, -⟩ := hs
        replace h0 : ρ (.tmp 24) = .pointer (some ⟨w.heap.size + 1, 1, none⟩) := h0
        have hc0 : W.cell? ⟨w.heap.size + 1, 1, none⟩ = some (.int .i64 (x.x)) := hF.cell (by assumption)
        go_simp
        exact ⟨Ext.refl _, rfl⟩
      · obtain ⟨h0, -⟩ := hs
        replace h0 : ρ (.tmp 5) = .pointer (some ⟨w.heap.size + 1 + 1, 0, none⟩) := h0
        go_simp
        exact ⟨Ext.refl _, rfl⟩
      · obtain ⟨h0, -⟩ := hs
        replace h0 : ρ (.tmp 26) = .pointer (some ⟨w.heap.size + 1 + 1, 1, none⟩) := h0
        have hc0 : W.cell? ⟨w.heap.size + 1 + 1, 1, none⟩ = some (.int .i64 (l.x)) := hF.cell (by assumption)
        go_simp
        exact ⟨Ext.refl _, rfl⟩
      · obtain ⟨h0, h1, h2, h3, -⟩ := hs
        replace h0 : ρ (.tmp 21) = .func (.func 139) #[] #[.pointer (some ⟨w.heap.size + 4 + 1, 0, none⟩), .pointer (some ⟨w.heap.size + 4, 0, none⟩)] := h0
        replace h1 : ρ (.tmp 23) = .int .i64 (f.x) := h1
        replace h2 : ρ (.tmp 25) = .int .i64 (x.x) := h2
        replace h3 : ρ (.tmp 27) = .int .i64 (l.x) := h3
        go_simp
        refine (HBX.out _ hF).mono ?_; rintro e w' ⟨rfl, hx⟩; exact ⟨_, rfl, hx, rfl⟩
      · obtain ⟨h0, -⟩ := hs
        replace h0 : ρ (.tmp 9) = .func (.func 139) #[] #[.pointer (some ⟨w.heap.size + 4 + 1, 0, none⟩), .pointer (some ⟨w.heap.size + 4, 0, none⟩)] := h0
        go_simp
        exact ⟨Ext.refl _, rfl⟩
      · obtain ⟨h0, -⟩ := hs
        replace h0 : ρ (.tmp 3) = .pointer (some ⟨w.heap.size, 0, none⟩) := h0
        go_simp
        exact ⟨Ext.refl _, rfl⟩
      · obtain ⟨h0, -⟩ := hs
        replace h0 : ρ (.tmp 30) = .pointer (some ⟨w.heap.size, 2, none⟩) := h0
        have hc0 : W.cell? ⟨w.heap.size, 2, none⟩ = some (.int .i64 (f.y)) := hF.cell (by assumption)
        go_simp
        exact ⟨Ext.refl _, rfl⟩
      · obtain ⟨h0, -⟩ := hs
        replace h0 : ρ (.tmp 4) = .pointer (some ⟨w.heap.size + 1, 0, none⟩) := h0
        go_simp
        exact ⟨Ext.refl _, rfl⟩
      · obtain ⟨h0, -⟩ := hs
        replace h0 : ρ (.tmp 32) = .pointer (some ⟨w.heap.size + 1, 2, none⟩) := h0
        have hc0 : W.cell? ⟨w.heap.size + 1, 2, none⟩ = some (.int .i64 (x.y)) := hF.cell (by assumption)
        go_simp
        exact ⟨Ext.refl _, rfl⟩
      · obtain ⟨h0, -⟩ := hs
        replace h0 : ρ (.tmp 5) = .pointer (some ⟨w.heap.size + 1 + 1, 0, none⟩) := h0
        go_simp
        exact ⟨Ext.refl _, rfl⟩
      · obtain ⟨h0, -⟩ := hs
        replace h0 : ρ (.tmp 34) = .pointer (some ⟨w.heap.size + 1 + 1, 2, none⟩) := h0
        have hc0 : W.cell? ⟨w.heap.size + 1 + 1, 2, none⟩ = some (.int .i64 (l.y)) := hF.cell (by assumption)
        go_simp
        exact ⟨Ext.refl _, rfl⟩
      · obtain ⟨h0, h1, h2, h3, -⟩ := hs
        replace h0 : ρ (.tmp 29) = .func (.func 139) #[] #[.pointer (some ⟨w.heap.size + 4 + 1, 0, none⟩), .pointer (some ⟨w.heap.size + 4, 0, none⟩)] := h0
        replace h1 : ρ (.tmp 31) = .int .i64 (f.y) := h1
        replace h2 : ρ (.tmp 33) = .int .i64 (x.y) := h2
        replace h3 : ρ (.tmp 35) = .int .i64 (l.y) := h3
        go_simp
        refine (HBY.out _ hF).mono ?_; rintro e w' ⟨rfl, hx⟩; exact ⟨_, rfl, hx, rfl⟩
      · obtain ⟨h0, h1, -⟩ := hs
        replace h0 : ρ (.tmp 28) = .agg #[.int .i64 bx.1, .int .i64 bx.2] := h0
        replace h1 : ρ (.tmp 36) = .agg #[.int .i64 by_.1, .int .i64 by_.2] := h1
        go_simp
        exact ⟨Ext.refl _, rfl⟩
    · intro fv V3 hF hs
      obtain ⟨-, -, -, -, -, -, -, -, -, -, -, -, -, -, -, -, h37, -⟩ := hs
      replace h37 : fv 37 = .agg #[.int .i64 bx.1, .int .i64 bx.2, .int .i64 by_.1, .int .i64 by_.2] := h37
      simp only [fin, List.filterMap]
      go_simp
      replace K3 := Lib.hid (K3.out.ext hF)
      replace X := Lib.hid (X.out.trans hF)
      clear hF
      have f0 := K3.out.free 0
      have u0 : V3.cell? ⟨w.heap.size + 1 + 1 + 1, 0, none⟩ = some (.int .i64 0) := K3.out.cell 0
      have f1 := K3.out.free 1
      have u1 : V3.cell? ⟨w.heap.size + 1 + 1 + 1, 1, none⟩ = some (.int .i64 0) := K3.out.cell 1
      have f2 := K3.out.free 2
      have u2 : V3.cell? ⟨w.heap.size + 1 + 1 + 1, 2, none⟩ = some (.int .i64 0) := K3.out.cell 2
      have f3 := K3.out.free 3
      have u3 : V3.cell? ⟨w.heap.size + 1 + 1 + 1, 3, none⟩ = some (.int .i64 0) := K3.out.cell 3
      clear y0_0 y0_1 y0_2 y1_0 y1_1 y1_2 y2_0 y2_1 y2_2
      go_wp2
      exact bodyPost_ret (v := .agg #[.int .i64 bx.1, .int .i64 bx.2, .int .i64 by_.1, .int .i64 by_.2]) (by simp [results, Try.f105, go_sem, u0, u1, u2, u3]) rfl ⟨rfl, Ext.set (Ext.set (Ext.set (Ext.set X.out (by dsimp only; omega) _) (by dsimp only; omega) _) (by dsimp only; omega) _) (by dsimp only; omega) _⟩

end Go.Proofs.Ytjdilmmpdlcimaa
