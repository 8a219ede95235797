/- What deeds do to a state. -/
import Derived.Test.YtkmekbafjnlfkaaGreatS19

namespace Go.Proofs.YtkmekbafjnlfkaaGreat
open Go.RowKit Go.Shelf Go.Mem Go.RegInv
attribute [local go_sem] RelUpon_value RelUpon_skip RelUpon_enter BigFrame.eval_const BigFrame.eval_global BigFrame.eval_func

structure St where
  p : Int
  a : Int
  b : Int
  m : Int
  wt : Int
  g : Int
  t : Int
structure Pk where
  h : Int
  c : Int
  d : Int
/-- What a deed does to a state. -/
def stepD : Deed → Pk → St → St
  | .h x, k, s => ⟨max 0 (1000000 - s.a - pickK x.lo x.hi k.h), 1000000 - max 0 (1000000 - s.a - pickK x.lo x.hi k.h), 0, 0, 0, grownK s.g x.g (1000000 - max 0 (1000000 - s.a - pickK x.lo x.hi k.h)), 0⟩
  | .c x, k, s => ⟨s.p, s.a - min s.a (formedK (waitedK s.wt (pickK x.wlo x.whi k.c)) (pickK x.rlo x.rhi k.c)), s.b + min s.a (formedK (waitedK s.wt (pickK x.wlo x.whi k.c)) (pickK x.rlo x.rhi k.c)), s.m, waitedK s.wt (pickK x.wlo x.whi k.c), s.g, s.t⟩
  | .d x, k, s => ⟨s.p, s.a - frozenK s.a s.m (pickK x.lo x.hi k.d), s.b, s.m + frozenK s.a s.m (pickK x.lo x.hi k.d), s.wt, s.g, s.t⟩
  | .t x, _, s => ⟨s.p, s.a, s.b, s.m, s.wt, s.g, min 1000000 (s.t + x.r)⟩
def St.agg (s : St) : Value := .agg #[.int .i64 s.p, .int .i64 s.a, .int .i64 s.b, .int .i64 s.m, .int .i64 s.wt, .int .i64 s.g, .int .i64 s.t]
def rgOK (lo hi : Int) : Prop := 0 ≤ lo ∧ lo ≤ hi ∧ hi ≤ 1000000
theorem frozen_bd {a m s : Int} (h0 : 0 ≤ a) (h1 : 0 ≤ m) (h3 : 0 ≤ s) (h4 : s ≤ 1000000) : 0 ≤ frozenK a m s ∧ frozenK a m s ≤ a := by
  obtain ⟨b0, b1⟩ := mul_bd (a := a + m) (A := a + m) (by omega) (Int.le_refl _) h3 h4
  unfold frozenK
  omega

set_option maxRecDepth 100000 in
set_option maxHeartbeats 2000000 in
theorem heatS_any {k lo hi gr : Int} {q : Nat} {w : World} (hq : Blk w q 68 #[.int .i64 k, .int .i64 lo, .int .i64 hi, .int .i64 gr]) (hk : rgOK lo hi) (hgr : 0 ≤ gr ∧ gr ≤ 1000000) (p a b m wt g t ph pc pd : Int) (hs : StOK p a b m wt g t) (hpk : 0 ≤ ph ∧ ph ≤ 1000 ∧ 0 ≤ pc ∧ pc ≤ 1000 ∧ 0 ≤ pd ∧ pd ≤ 1000) :
    Calls Tryz.prog 164 #[.agg #[.int .i64 p, .int .i64 a, .int .i64 b, .int .i64 m, .int .i64 wt, .int .i64 g, .int .i64 t], .agg #[.int .i64 ph, .int .i64 pc, .int .i64 pd], .pointer (some ⟨q, 0, none⟩)] w fun e w' => e = .returned (St.agg (stepD (.h ⟨k, lo, hi, gr⟩) ⟨ph, pc, pd⟩ ⟨p, a, b, m, wt, g, t⟩)) ∧ Ext w w' := by
  obtain ⟨k1', k2', k3'⟩ := hk
  obtain ⟨g1', g2'⟩ := hgr
  obtain ⟨q0, q1, -⟩ := hpk
  have pb := pick_bd k1' k2' k3' q0 q1
  have HP := Lib.hid (fun (W : World) => picked_any lo hi ph W k1' k2' k3' q0 q1)
  have HS := Lib.hid (show stepD (.h ⟨k, lo, hi, gr⟩) ⟨ph, pc, pd⟩ ⟨p, a, b, m, wt, g, t⟩ = ⟨max 0 (1000000 - a - pickK lo hi ph), 1000000 - max 0 (1000000 - a - pickK lo hi ph), 0, 0, 0, grownK g gr (1000000 - max 0 (1000000 - a - pickK lo hi ph)), 0⟩ from rfl)
  generalize pickK lo hi ph = P at *
  obtain ⟨pb0, pb1⟩ := pb
  obtain ⟨a0, a1⟩ := hs.ha
  obtain ⟨gg0, gg1⟩ := hs.hg
  obtain ⟨W0, hW0⟩ : ∃ W0, W0 = ((w.alloc (.cells #[.int .i64 p, .int .i64 a, .int .i64 b, .int .i64 m, .int .i64 wt, .int .i64 g, .int .i64 t] 30)).alloc (.cells #[.int .i64 ph, .int .i64 pc, .int .i64 pd] 32)).alloc (.cells #[.int .i64 0, .int .i64 0, .int .i64 0, .int .i64 0, .int .i64 0, .int .i64 0, .int .i64 0] 30) := ⟨_, rfl⟩
  have k0 : Blk W0 w.heap.size 30 #[.int .i64 p, .int .i64 a, .int .i64 b, .int .i64 m, .int .i64 wt, .int .i64 g, .int .i64 t] := by rw [hW0]; exact ((Blk.new _ _ _).alloc _).alloc _
  have k1 : Blk W0 (w.heap.size + 1) 32 #[.int .i64 ph, .int .i64 pc, .int .i64 pd] := by rw [hW0]; exact (Blk.newAt _ _ _ (by simp)).alloc _
  have K2 := Lib.hid (show Blk W0 (w.heap.size + 1 + 1) 30 #[.int .i64 0, .int .i64 0, .int .i64 0, .int .i64 0, .int .i64 0, .int .i64 0, .int .i64 0] by rw [hW0]; exact Blk.newAt _ _ _ (by simp))
  have e0 : Ext w W0 := by rw [hW0]; exact ((Ext.alloc _ _).trans (Ext.alloc _ _)).trans (Ext.alloc _ _)
  have kq := hq.ext e0
  have E0 := Lib.hid e0
  have K0 := Lib.hid k0
  have K1 := Lib.hid k1
  have KQ := Lib.hid kq
  have HQL := Lib.hid (show q < w.heap.size from hq.lt)
  have y0 : W0.cell? ⟨w.heap.size, 0, none⟩ = some (.int .i64 (p)) := k0.cell 0
  have y1 : W0.cell? ⟨w.heap.size, 1, none⟩ = some (.int .i64 (a)) := k0.cell 1
  have y2 : W0.cell? ⟨w.heap.size, 2, none⟩ = some (.int .i64 (b)) := k0.cell 2
  have y3 : W0.cell? ⟨w.heap.size, 3, none⟩ = some (.int .i64 (m)) := k0.cell 3
  have y4 : W0.cell? ⟨w.heap.size, 4, none⟩ = some (.int .i64 (wt)) := k0.cell 4
  have y5 : W0.cell? ⟨w.heap.size, 5, none⟩ = some (.int .i64 (g)) := k0.cell 5
  have y6 : W0.cell? ⟨w.heap.size, 6, none⟩ = some (.int .i64 (t)) := k0.cell 6
  have x0 : W0.cell? ⟨w.heap.size + 1, 0, none⟩ = some (.int .i64 (ph)) := k1.cell 0
  have x1 : W0.cell? ⟨w.heap.size + 1, 1, none⟩ = some (.int .i64 (pc)) := k1.cell 1
  have x2 : W0.cell? ⟨w.heap.size + 1, 2, none⟩ = some (.int .i64 (pd)) := k1.cell 2
  have v0 : W0.cell? ⟨q, 0, none⟩ = some (.int .i64 (k)) := kq.cell 0
  have v1 : W0.cell? ⟨q, 1, none⟩ = some (.int .i64 (lo)) := kq.cell 1
  have v2 : W0.cell? ⟨q, 2, none⟩ = some (.int .i64 (hi)) := kq.cell 2
  have v3 : W0.cell? ⟨q, 3, none⟩ = some (.int .i64 (gr)) := kq.cell 3

  clear hs hq k0 k1 kq e0
  go_enter Tryz.func164, Tryz.ntmps164
  go_wp2
  rw [← hW0]
  clear hW0
  refine wp_region_each [some 8, some 9, some 10, some 11, some 12, some 13, some 14, some 15, some 16, some 17, some 6] [[3], [8], [9], [2], [11], [4], [13], [12, 14], [10, 15], [16], [17]]
    [Is (.pointer (some ⟨w.heap.size, 1, none⟩)), Is (.int .i64 (a)), Is (.int .i64 (1000000 - a)), Is (.pointer (some ⟨q, 1, none⟩)), Is (.agg #[.int .i64 (lo), .int .i64 (hi)]), Is (.pointer (some ⟨w.heap.size + 1, 0, none⟩)), Is (.int .i64 (ph)), Is (.int .i64 (P)), Is (.int .i64 (1000000 - a - P)), Is (.int .i64 (max 0 (1000000 - a - P))), Is (.int .i64 (max 0 (1000000 - a - P)))]
    (by kernel_rfl) (by kernel_rfl) (by kernel_rfl) (by kernel_rfl) (by kernel_rfl) Ext (fun W => Ext W0 W)
    (fun W _ => Ext.refl W) (fun W W' h k => h.trans k) ?_ (Ext.drew _) ?_ ?_
  · repeat (refine ⟨fun _ _ _ _ k h => (by first | exact h | exact (by first | exact IntsAt.ext h k | exact KnV.ext h k | exact NumsV.ext h k)), ?_⟩)
    exact trivial
  · refine ⟨?_, ?_, ?_, ?_, ?_, ?_, ?_, ?_, ?_, ?_, ?_, trivial⟩
    all_goals intro ρ W ⟨kc, kg, kf⟩ hF hs
    · obtain ⟨h0, -⟩ := hs
      replace h0 : ρ (.tmp 3) = .pointer (some ⟨w.heap.size, 0, none⟩) := h0
      go_simp
      exact ⟨Ext.refl _, rfl⟩
    · obtain ⟨h0, -⟩ := hs
      replace h0 : ρ (.tmp 8) = .pointer (some ⟨w.heap.size, 1, none⟩) := h0
      have hc0 : W.cell? ⟨w.heap.size, 1, none⟩ = some (.int .i64 (a)) := hF.cell (by assumption)
      go_simp
      exact ⟨Ext.refl _, rfl⟩
    · obtain ⟨h0, -⟩ := hs
      replace h0 : ρ (.tmp 9) = .int .i64 (a) := h0
      have hw : IntKind.i64.wrap (1000000 - a) = 1000000 - a := wrap_id _ (by omega) (by omega)
      go_simp
      exact ⟨Ext.refl _, rfl⟩
    · obtain ⟨h0, -⟩ := hs
      replace h0 : ρ (.tmp 2) = .pointer (some ⟨q, 0, none⟩) := h0
      go_simp
      exact ⟨Ext.refl _, rfl⟩
    · obtain ⟨h0, -⟩ := hs
      replace h0 : ρ (.tmp 11) = .pointer (some ⟨q, 1, none⟩) := h0
      have hc0 : W.cell? ⟨q, 1, none⟩ = some (.int .i64 (lo)) := hF.cell (by assumption)
      have hc1 : W.cell? ⟨q, 2, none⟩ = some (.int .i64 (hi)) := hF.cell (by assumption)
      go_simp
      exact ⟨Ext.refl _, rfl⟩
    · obtain ⟨h0, -⟩ := hs
      replace h0 : ρ (.tmp 4) = .pointer (some ⟨w.heap.size + 1, 0, none⟩) := h0
      go_simp
      exact ⟨Ext.refl _, rfl⟩
    · obtain ⟨h0, -⟩ := hs
      replace h0 : ρ (.tmp 13) = .pointer (some ⟨w.heap.size + 1, 0, none⟩) := h0
      have hc0 : W.cell? ⟨w.heap.size + 1, 0, none⟩ = some (.int .i64 (ph)) := hF.cell (by assumption)
      go_simp
      exact ⟨Ext.refl _, rfl⟩
    · obtain ⟨h0, h1, -⟩ := hs
      replace h0 : ρ (.tmp 12) = .agg #[.int .i64 (lo), .int .i64 (hi)] := h0
      replace h1 : ρ (.tmp 14) = .int .i64 (ph) := h1
      go_simp
      refine (HP.out _).mono ?_; rintro e w' ⟨rfl, hx⟩; exact ⟨_, rfl, hx, rfl⟩
    · obtain ⟨h0, h1, -⟩ := hs
      replace h0 : ρ (.tmp 10) = .int .i64 (1000000 - a) := h0
      replace h1 : ρ (.tmp 15) = .int .i64 (P) := h1
      have hw : IntKind.i64.wrap (1000000 - a - P) = 1000000 - a - P := wrap_id _ (by omega) (by omega)
      go_simp
      exact ⟨Ext.refl _, rfl⟩
    · obtain ⟨h0, -⟩ := hs
      replace h0 : ρ (.tmp 16) = .int .i64 (1000000 - a - P) := h0
      go_simp
      exact ⟨Ext.refl _, rfl⟩
    · obtain ⟨h0, -⟩ := hs
      replace h0 : ρ (.tmp 17) = .int .i64 (max 0 (1000000 - a - P)) := h0
      go_simp
      exact ⟨Ext.refl _, rfl⟩
  · intro fv W1 hF hs
    obtain ⟨-, -, -, -, -, -, -, -, -, -, h6, -⟩ := hs
    replace h6 : fv 6 = .int .i64 (max 0 (1000000 - a - P)) := h6
    simp only [fin, List.filterMap]
    go_simp
    have X1 := Lib.hid hF
    have kk := K0.out.ext hF
    have y5 : W1.cell? ⟨w.heap.size, 5, none⟩ = some (.int .i64 g) := kk.cell 5
    have v3 : W1.cell? ⟨q, 3, none⟩ = some (.int .i64 gr) := (KQ.out.ext hF).cell 3
    have k2 := K2.out.ext hF
    have z0 : W1.cell? ⟨w.heap.size + 1 + 1, 0, none⟩ = some (.int .i64 0) := k2.cell 0
    have zf0 := k2.free 0
    have z1 : W1.cell? ⟨w.heap.size + 1 + 1, 1, none⟩ = some (.int .i64 0) := k2.cell 1
    have zf1 := k2.free 1
    have z2 : W1.cell? ⟨w.heap.size + 1 + 1, 2, none⟩ = some (.int .i64 0) := k2.cell 2
    have zf2 := k2.free 2
    have z3 : W1.cell? ⟨w.heap.size + 1 + 1, 3, none⟩ = some (.int .i64 0) := k2.cell 3
    have zf3 := k2.free 3
    have z4 : W1.cell? ⟨w.heap.size + 1 + 1, 4, none⟩ = some (.int .i64 0) := k2.cell 4
    have zf4 := k2.free 4
    have z5 : W1.cell? ⟨w.heap.size + 1 + 1, 5, none⟩ = some (.int .i64 0) := k2.cell 5
    have zf5 := k2.free 5
    have z6 : W1.cell? ⟨w.heap.size + 1 + 1, 6, none⟩ = some (.int .i64 0) := k2.cell 6
    have zf6 := k2.free 6
    clear hF h6 kk k2
    have n0 : 0 ≤ max 0 (1000000 - a - P) := by omega
    have n1 : max 0 (1000000 - a - P) ≤ 1000000 := by omega
    generalize hN : max 0 (1000000 - a - P) = N at *
    clear hN
    have HG := Lib.hid (fun (W : World) => grown_any g gr (1000000 - N) W gg0 gg1 g1' g2')
    generalize grownK g gr (1000000 - N) = G at HG HS
    clear HP
    go_wp2_with (go_at_call 166; refine (HG.out _).mono ?_; rintro e w' ⟨rfl, rfl⟩)
    exact bodyPost_ret (v := .agg #[.int .i64 N, .int .i64 (1000000 - N), .int .i64 0, .int .i64 0, .int .i64 0, .int .i64 G, .int .i64 0]) (by simp [results, Tryz.f164, go_sem, z0, z1, z2, z3, z4, z5, z6]) rfl
      ⟨by rw [HS.out]; rfl, Ext.set (Ext.set (Ext.set (Ext.set (Ext.set (Ext.set (Ext.set (E0.out.trans X1.out) (by dsimp only; omega) _) (by dsimp only; omega) _) (by dsimp only; omega) _) (by dsimp only; omega) _) (by dsimp only; omega) _) (by dsimp only; omega) _) (by dsimp only; omega) _⟩

set_option maxRecDepth 100000 in
set_option maxHeartbeats 4000000 in
theorem coolS_any {k wlo whi rlo rhi : Int} {q : Nat} {w : World} (hq : Blk w q 137 #[.int .i64 k, .int .i64 wlo, .int .i64 whi, .int .i64 rlo, .int .i64 rhi]) (hk : rgOK wlo whi) (hk2 : rgOK rlo rhi) (p a b m wt g t ph pc pd : Int) (hs : StOK p a b m wt g t) (hpk : 0 ≤ ph ∧ ph ≤ 1000 ∧ 0 ≤ pc ∧ pc ≤ 1000 ∧ 0 ≤ pd ∧ pd ≤ 1000) :
    Calls Tryz.prog 168 #[.agg #[.int .i64 p, .int .i64 a, .int .i64 b, .int .i64 m, .int .i64 wt, .int .i64 g, .int .i64 t], .agg #[.int .i64 ph, .int .i64 pc, .int .i64 pd], .pointer (some ⟨q, 0, none⟩)] w fun e w' => e = .returned (St.agg (stepD (.c ⟨k, wlo, whi, rlo, rhi⟩) ⟨ph, pc, pd⟩ ⟨p, a, b, m, wt, g, t⟩)) ∧ Ext w w' := by
  obtain ⟨k1', k2', k3'⟩ := hk
  obtain ⟨j1, j2, j3⟩ := hk2
  obtain ⟨-, -, q0, q1, -⟩ := hpk
  have pb := pick_bd k1' k2' k3' q0 q1
  have rb := pick_bd j1 j2 j3 q0 q1
  have HP := Lib.hid (fun (W : World) => picked_any wlo whi pc W k1' k2' k3' q0 q1)
  have HR := Lib.hid (fun (W : World) => picked_any rlo rhi pc W j1 j2 j3 q0 q1)
  have HS := Lib.hid (show stepD (.c ⟨k, wlo, whi, rlo, rhi⟩) ⟨ph, pc, pd⟩ ⟨p, a, b, m, wt, g, t⟩ = ⟨p, a - min a (formedK (waitedK wt (pickK wlo whi pc)) (pickK rlo rhi pc)), b + min a (formedK (waitedK wt (pickK wlo whi pc)) (pickK rlo rhi pc)), m, waitedK wt (pickK wlo whi pc), g, t⟩ from rfl)
  generalize pickK wlo whi pc = P at *
  generalize pickK rlo rhi pc = R at *
  obtain ⟨pb0, pb1⟩ := pb
  obtain ⟨rb0, rb1⟩ := rb
  obtain ⟨a0, a1⟩ := hs.ha
  obtain ⟨bb0, bb1⟩ := hs.hb
  obtain ⟨ww0, ww1⟩ := hs.hw
  have HV := Lib.hid (fun (W : World) => waited_any wt P W ww0 ww1 (by omega) (by omega))
  have HF := Lib.hid (fun (W : World) => formed_any (waitedK wt P) R W)
  have fb : 0 ≤ formedK (waitedK wt P) R ∧ formedK (waitedK wt P) R ≤ 1000000 := by unfold formedK; split <;> omega
  generalize formedK (waitedK wt P) R = F at *
  generalize waitedK wt P = V at *
  obtain ⟨fb0, fb1⟩ := fb
  obtain ⟨W0, hW0⟩ : ∃ W0, W0 = ((w.alloc (.cells #[.int .i64 p, .int .i64 a, .int .i64 b, .int .i64 m, .int .i64 wt, .int .i64 g, .int .i64 t] 30)).alloc (.cells #[.int .i64 ph, .int .i64 pc, .int .i64 pd] 32)).alloc (.cells #[.int .i64 0, .int .i64 0, .int .i64 0, .int .i64 0, .int .i64 0, .int .i64 0, .int .i64 0] 30) := ⟨_, rfl⟩
  have k0 : Blk W0 w.heap.size 30 #[.int .i64 p, .int .i64 a, .int .i64 b, .int .i64 m, .int .i64 wt, .int .i64 g, .int .i64 t] := by rw [hW0]; exact ((Blk.new _ _ _).alloc _).alloc _
  have k1 : Blk W0 (w.heap.size + 1) 32 #[.int .i64 ph, .int .i64 pc, .int .i64 pd] := by rw [hW0]; exact (Blk.newAt _ _ _ (by simp)).alloc _
  have K2 := Lib.hid (show Blk W0 (w.heap.size + 1 + 1) 30 #[.int .i64 0, .int .i64 0, .int .i64 0, .int .i64 0, .int .i64 0, .int .i64 0, .int .i64 0] by rw [hW0]; exact Blk.newAt _ _ _ (by simp))
  have e0 : Ext w W0 := by rw [hW0]; exact ((Ext.alloc _ _).trans (Ext.alloc _ _)).trans (Ext.alloc _ _)
  have kq := hq.ext e0
  have E0 := Lib.hid e0
  have K0 := Lib.hid k0
  have K1 := Lib.hid k1
  have KQ := Lib.hid kq
  have HQL := Lib.hid (show q < w.heap.size from hq.lt)
  have y0 : W0.cell? ⟨w.heap.size, 0, none⟩ = some (.int .i64 (p)) := k0.cell 0
  have y1 : W0.cell? ⟨w.heap.size, 1, none⟩ = some (.int .i64 (a)) := k0.cell 1
  have y2 : W0.cell? ⟨w.heap.size, 2, none⟩ = some (.int .i64 (b)) := k0.cell 2
  have y3 : W0.cell? ⟨w.heap.size, 3, none⟩ = some (.int .i64 (m)) := k0.cell 3
  have y4 : W0.cell? ⟨w.heap.size, 4, none⟩ = some (.int .i64 (wt)) := k0.cell 4
  have y5 : W0.cell? ⟨w.heap.size, 5, none⟩ = some (.int .i64 (g)) := k0.cell 5
  have y6 : W0.cell? ⟨w.heap.size, 6, none⟩ = some (.int .i64 (t)) := k0.cell 6
  have x0 : W0.cell? ⟨w.heap.size + 1, 0, none⟩ = some (.int .i64 (ph)) := k1.cell 0
  have x1 : W0.cell? ⟨w.heap.size + 1, 1, none⟩ = some (.int .i64 (pc)) := k1.cell 1
  have x2 : W0.cell? ⟨w.heap.size + 1, 2, none⟩ = some (.int .i64 (pd)) := k1.cell 2
  have v0 : W0.cell? ⟨q, 0, none⟩ = some (.int .i64 (k)) := kq.cell 0
  have v1 : W0.cell? ⟨q, 1, none⟩ = some (.int .i64 (wlo)) := kq.cell 1
  have v2 : W0.cell? ⟨q, 2, none⟩ = some (.int .i64 (whi)) := kq.cell 2
  have v3 : W0.cell? ⟨q, 3, none⟩ = some (.int .i64 (rlo)) := kq.cell 3
  have v4 : W0.cell? ⟨q, 4, none⟩ = some (.int .i64 (rhi)) := kq.cell 4

  clear hs hq k0 k1 kq e0
  go_enter Tryz.func168, Tryz.ntmps168
  go_wp2
  rw [← hW0]
  clear hW0
  refine wp_region_partR 9 [some 7, some 8, some 9, some 10, some 11, some 12, some 13, some 14, some 15] [[3], [7], [2], [9], [4], [11], [10, 12], [8, 13], [3]]
    [Is (.pointer (some ⟨w.heap.size, 4, none⟩)), Is (.int .i64 (wt)), Is (.pointer (some ⟨q, 1, none⟩)), Is (.agg #[.int .i64 (wlo), .int .i64 (whi)]), Is (.pointer (some ⟨w.heap.size + 1, 1, none⟩)), Is (.int .i64 (pc)), Is (.int .i64 (P)), Is (.int .i64 (V)), Is (.pointer (some ⟨w.heap.size, 4, none⟩))]
    (by kernel_rfl) (by kernel_rfl) (by kernel_rfl) (by kernel_rfl) (by kernel_rfl) (by kernel_rfl) (by kernel_rfl) Ext (fun W => Ext W0 W)
    (fun W _ => Ext.refl W) (fun W W' h k => h.trans k) ?_ (Ext.drew _) ?_ ?_
  · repeat (refine ⟨fun _ _ _ _ k h => (by first | exact h | exact (by first | exact IntsAt.ext h k | exact KnV.ext h k | exact NumsV.ext h k)), ?_⟩)
    exact trivial
  · refine ⟨?_, ?_, ?_, ?_, ?_, ?_, ?_, ?_, ?_, trivial⟩
    all_goals intro ρ W ⟨kc, kg, kf⟩ hF hs
    · obtain ⟨h0, -⟩ := hs
      replace h0 : ρ (.tmp 3) = .pointer (some ⟨w.heap.size, 0, none⟩) := h0
      go_simp
      exact ⟨Ext.refl _, rfl⟩
    · obtain ⟨h0, -⟩ := hs
      replace h0 : ρ (.tmp 7) = .pointer (some ⟨w.heap.size, 4, none⟩) := h0
      have hc0 : W.cell? ⟨w.heap.size, 4, none⟩ = some (.int .i64 (wt)) := hF.cell (by assumption)
      go_simp
      exact ⟨Ext.refl _, rfl⟩
    · obtain ⟨h0, -⟩ := hs
      replace h0 : ρ (.tmp 2) = .pointer (some ⟨q, 0, none⟩) := h0
      go_simp
      exact ⟨Ext.refl _, rfl⟩
    · obtain ⟨h0, -⟩ := hs
      replace h0 : ρ (.tmp 9) = .pointer (some ⟨q, 1, none⟩) := h0
      have hc0 : W.cell? ⟨q, 1, none⟩ = some (.int .i64 (wlo)) := hF.cell (by assumption)
      have hc1 : W.cell? ⟨q, 2, none⟩ = some (.int .i64 (whi)) := hF.cell (by assumption)
      go_simp
      exact ⟨Ext.refl _, rfl⟩
    · obtain ⟨h0, -⟩ := hs
      replace h0 : ρ (.tmp 4) = .pointer (some ⟨w.heap.size + 1, 0, none⟩) := h0
      go_simp
      exact ⟨Ext.refl _, rfl⟩
    · obtain ⟨h0, -⟩ := hs
      replace h0 : ρ (.tmp 11) = .pointer (some ⟨w.heap.size + 1, 1, none⟩) := h0
      have hc0 : W.cell? ⟨w.heap.size + 1, 1, none⟩ = some (.int .i64 (pc)) := hF.cell (by assumption)
      go_simp
      exact ⟨Ext.refl _, rfl⟩
    · obtain ⟨h0, h1, -⟩ := hs
      replace h0 : ρ (.tmp 10) = .agg #[.int .i64 (wlo), .int .i64 (whi)] := h0
      replace h1 : ρ (.tmp 12) = .int .i64 (pc) := h1
      go_simp
      refine (HP.out _).mono ?_; rintro e w' ⟨rfl, hx⟩; exact ⟨_, rfl, hx, rfl⟩
    · obtain ⟨h0, h1, -⟩ := hs
      replace h0 : ρ (.tmp 8) = .int .i64 (wt) := h0
      replace h1 : ρ (.tmp 13) = .int .i64 (P) := h1
      go_simp
      refine (HV.out _).mono ?_; rintro e w' ⟨rfl, rfl⟩; exact ⟨_, rfl, Ext.refl _, rfl⟩
    · obtain ⟨h0, -⟩ := hs
      replace h0 : ρ (.tmp 3) = .pointer (some ⟨w.heap.size, 0, none⟩) := h0
      go_simp
      exact ⟨Ext.refl _, rfl⟩
  · intro fv W1 hF hs
    obtain ⟨-, -, -, -, -, -, -, h14, h15, -⟩ := hs
    replace h14 : fv 14 = .int .i64 (V) := h14
    replace h15 : fv 15 = .pointer (some ⟨w.heap.size, 4, none⟩) := h15
    simp only [fin, List.filterMap]
    go_simp
    have X1 := Lib.hid hF
    have kk := K0.out.ext hF
    have c4 : W1.cell? ⟨w.heap.size, 4, none⟩ = some (.int .i64 wt) := kk.cell 4
    have f4 := kk.free 4
    clear hF h14 h15
    go_wp2
    obtain ⟨W2, hW2⟩ : ∃ W2, W2 = W1.setCell ⟨w.heap.size, 4, none⟩ (.int .i64 V) := ⟨_, rfl⟩
    have L0 := Lib.hid (show Blk W2 w.heap.size 30 #[.int .i64 p, .int .i64 a, .int .i64 b, .int .i64 m, .int .i64 V, .int .i64 g, .int .i64 t] by rw [hW2]; exact kk.setSame 4 _)
    have L1 := Lib.hid (show Blk W2 (w.heap.size + 1) 32 #[.int .i64 ph, .int .i64 pc, .int .i64 pd] by rw [hW2]; exact (K1.out.ext X1.out).setOther (by dsimp only; omega) _)
    have LQ := Lib.hid (show Blk W2 q 137 #[.int .i64 k, .int .i64 wlo, .int .i64 whi, .int .i64 rlo, .int .i64 rhi] by rw [hW2]; exact (KQ.out.ext X1.out).setOther (by have := HQL.out; dsimp only; omega) _)
    have L2 := Lib.hid (show Blk W2 (w.heap.size + 1 + 1) 30 #[.int .i64 0, .int .i64 0, .int .i64 0, .int .i64 0, .int .i64 0, .int .i64 0, .int .i64 0] by rw [hW2]; exact (K2.out.ext X1.out).setOther (by dsimp only; omega) _)
    have E2 := Lib.hid (show Ext w W2 by rw [hW2]; exact Ext.set (E0.out.trans X1.out) (by dsimp only; omega) _)
    rw [← hW2]
    clear hW2 c4 f4 kk y0 y1 y2 y3 y4 y5 y6 x0 x1 x2 v0 v1 v2 v3 v4 X1 K0 K1 KQ K2 E0
    have y1 : W2.cell? ⟨w.heap.size, 1, none⟩ = some (.int .i64 (a)) := L0.out.cell 1
    have y4 : W2.cell? ⟨w.heap.size, 4, none⟩ = some (.int .i64 (V)) := L0.out.cell 4
    have x1 : W2.cell? ⟨w.heap.size + 1, 1, none⟩ = some (.int .i64 (pc)) := L1.out.cell 1
    have v3 : W2.cell? ⟨q, 3, none⟩ = some (.int .i64 (rlo)) := LQ.out.cell 3
    have v4 : W2.cell? ⟨q, 4, none⟩ = some (.int .i64 (rhi)) := LQ.out.cell 4
    go_wp2
    refine wp_region_each [some 16, some 17, some 18, some 19, some 20, some 21, some 22, some 23, some 24, some 25, some 26, some 6] [[3], [16], [3], [18], [2], [20], [4], [22], [21, 23], [19, 24], [17, 25], [26]]
      [Is (.pointer (some ⟨w.heap.size, 1, none⟩)), Is (.int .i64 (a)), Is (.pointer (some ⟨w.heap.size, 4, none⟩)), Is (.int .i64 (V)), Is (.pointer (some ⟨q, 3, none⟩)), Is (.agg #[.int .i64 (rlo), .int .i64 (rhi)]), Is (.pointer (some ⟨w.heap.size + 1, 1, none⟩)), Is (.int .i64 (pc)), Is (.int .i64 (R)), Is (.int .i64 (F)), Is (.int .i64 (min a F)), Is (.int .i64 (min a F))]
      (by kernel_rfl) (by kernel_rfl) (by kernel_rfl) (by kernel_rfl) (by kernel_rfl) Ext (fun W => Ext W2 W)
      (fun W _ => Ext.refl W) (fun W W' h k => h.trans k) ?_ (Ext.drew _) ?_ ?_
    · repeat (refine ⟨fun _ _ _ _ k h => (by first | exact h | exact (by first | exact IntsAt.ext h k | exact KnV.ext h k | exact NumsV.ext h k)), ?_⟩)
      exact trivial
    · refine ⟨?_, ?_, ?_, ?_, ?_, ?_, ?_, ?_, ?_, ?_, ?_, ?_, trivial⟩
      all_goals intro ρ W ⟨kc, kg, kf⟩ hF hs
      · obtain ⟨h0, -⟩ := hs
        replace h0 : ρ (.tmp 3) = .pointer (some ⟨w.heap.size, 0, none⟩) := h0
        go_simp
        exact ⟨Ext.refl _, rfl⟩
      · obtain ⟨h0, -⟩ := hs
        replace h0 : ρ (.tmp 16) = .pointer (some ⟨w.heap.size, 1, none⟩) := h0
        have hc0 : W.cell? ⟨w.heap.size, 1, none⟩ = some (.int .i64 (a)) := hF.cell (by assumption)
        go_simp
        exact ⟨Ext.refl _, rfl⟩
      · obtain ⟨h0, -⟩ := hs
        replace h0 : ρ (.tmp 3) = .pointer (some ⟨w.heap.size, 0, none⟩) := h0
        go_simp
        exact ⟨Ext.refl _, rfl⟩
      · obtain ⟨h0, -⟩ := hs
        replace h0 : ρ (.tmp 18) = .pointer (some ⟨w.heap.size, 4, none⟩) := h0
        have hc0 : W.cell? ⟨w.heap.size, 4, none⟩ = some (.int .i64 (V)) := hF.cell (by assumption)
        go_simp
        exact ⟨Ext.refl _, rfl⟩
      · obtain ⟨h0, -⟩ := hs
        replace h0 : ρ (.tmp 2) = .pointer (some ⟨q, 0, none⟩) := h0
        go_simp
        exact ⟨Ext.refl _, rfl⟩
      · obtain ⟨h0, -⟩ := hs
        replace h0 : ρ (.tmp 20) = .pointer (some ⟨q, 3, none⟩) := h0
        have hc0 : W.cell? ⟨q, 3, none⟩ = some (.int .i64 (rlo)) := hF.cell (by assumption)
        have hc1 : W.cell? ⟨q, 4, none⟩ = some (.int .i64 (rhi)) := hF.cell (by assumption)
        go_simp
        exact ⟨Ext.refl _, rfl⟩
      · obtain ⟨h0, -⟩ := hs
        replace h0 : ρ (.tmp 4) = .pointer (some ⟨w.heap.size + 1, 0, none⟩) := h0
        go_simp
        exact ⟨Ext.refl _, rfl⟩
      · obtain ⟨h0, -⟩ := hs
        replace h0 : ρ (.tmp 22) = .pointer (some ⟨w.heap.size + 1, 1, none⟩) := h0
        have hc0 : W.cell? ⟨w.heap.size + 1, 1, none⟩ = some (.int .i64 (pc)) := hF.cell (by assumption)
        go_simp
        exact ⟨Ext.refl _, rfl⟩
      · obtain ⟨h0, h1, -⟩ := hs
        replace h0 : ρ (.tmp 21) = .agg #[.int .i64 (rlo), .int .i64 (rhi)] := h0
        replace h1 : ρ (.tmp 23) = .int .i64 (pc) := h1
        go_simp
        refine (HR.out _).mono ?_; rintro e w' ⟨rfl, hx⟩; exact ⟨_, rfl, hx, rfl⟩
      · obtain ⟨h0, h1, -⟩ := hs
        replace h0 : ρ (.tmp 19) = .int .i64 (V) := h0
        replace h1 : ρ (.tmp 24) = .int .i64 (R) := h1
        go_simp
        refine (HF.out _).mono ?_; rintro e w' ⟨rfl, rfl⟩; exact ⟨_, rfl, Ext.refl _, rfl⟩
      · obtain ⟨h0, h1, -⟩ := hs
        replace h0 : ρ (.tmp 17) = .int .i64 (a) := h0
        replace h1 : ρ (.tmp 25) = .int .i64 (F) := h1
        go_simp
        exact ⟨Ext.refl _, rfl⟩
      · obtain ⟨h0, -⟩ := hs
        replace h0 : ρ (.tmp 26) = .int .i64 (min a F) := h0
        go_simp
        exact ⟨Ext.refl _, rfl⟩
    · intro fv W3 hF hs
      obtain ⟨-, -, -, -, -, -, -, -, -, -, -, h6, -⟩ := hs
      replace h6 : fv 6 = .int .i64 (min a F) := h6
      simp only [fin, List.filterMap]
      go_simp
      have X3 := Lib.hid hF
      have kk := L0.out.ext hF
      have c0 : W3.cell? ⟨w.heap.size, 0, none⟩ = some (.int .i64 (p)) := kk.cell 0
      have c1 : W3.cell? ⟨w.heap.size, 1, none⟩ = some (.int .i64 (a)) := kk.cell 1
      have c2 : W3.cell? ⟨w.heap.size, 2, none⟩ = some (.int .i64 (b)) := kk.cell 2
      have c3 : W3.cell? ⟨w.heap.size, 3, none⟩ = some (.int .i64 (m)) := kk.cell 3
      have c4 : W3.cell? ⟨w.heap.size, 4, none⟩ = some (.int .i64 (V)) := kk.cell 4
      have c5 : W3.cell? ⟨w.heap.size, 5, none⟩ = some (.int .i64 (g)) := kk.cell 5
      have c6 : W3.cell? ⟨w.heap.size, 6, none⟩ = some (.int .i64 (t)) := kk.cell 6
      have f1 := kk.free 1
      have f2 := kk.free 2
      have k2 := L2.out.ext hF
      have z0 : W3.cell? ⟨w.heap.size + 1 + 1, 0, none⟩ = some (.int .i64 0) := k2.cell 0
      have zf0 := k2.free 0
      have z1 : W3.cell? ⟨w.heap.size + 1 + 1, 1, none⟩ = some (.int .i64 0) := k2.cell 1
      have zf1 := k2.free 1
      have z2 : W3.cell? ⟨w.heap.size + 1 + 1, 2, none⟩ = some (.int .i64 0) := k2.cell 2
      have zf2 := k2.free 2
      have z3 : W3.cell? ⟨w.heap.size + 1 + 1, 3, none⟩ = some (.int .i64 0) := k2.cell 3
      have zf3 := k2.free 3
      have z4 : W3.cell? ⟨w.heap.size + 1 + 1, 4, none⟩ = some (.int .i64 0) := k2.cell 4
      have zf4 := k2.free 4
      have z5 : W3.cell? ⟨w.heap.size + 1 + 1, 5, none⟩ = some (.int .i64 0) := k2.cell 5
      have zf5 := k2.free 5
      have z6 : W3.cell? ⟨w.heap.size + 1 + 1, 6, none⟩ = some (.int .i64 0) := k2.cell 6
      have zf6 := k2.free 6
      clear hF h6 kk k2 y1 y4 x1 v3 v4
      have n0 : 0 ≤ min a F := by omega
      have n1 : min a F ≤ a := by omega
      generalize hN : min a F = N at *
      clear hN
      have ne1 : ¬ (w.heap.size + 1 + 1 = w.heap.size) := by omega
      have ne2 : ¬ (w.heap.size = w.heap.size + 1 + 1) := by omega
      go_wp2
      exact bodyPost_ret (v := .agg #[.int .i64 p, .int .i64 (a - N), .int .i64 (b + N), .int .i64 m, .int .i64 V, .int .i64 g, .int .i64 t]) (by simp [results, Tryz.f168, go_sem, z0, z1, z2, z3, z4, z5, z6]) rfl
        ⟨by rw [HS.out]; rfl, Ext.set (Ext.set (Ext.set (Ext.set (Ext.set (Ext.set (Ext.set (Ext.set (Ext.set (E2.out.trans X3.out) (by dsimp only; omega) _) (by dsimp only; omega) _) (by dsimp only; omega) _) (by dsimp only; omega) _) (by dsimp only; omega) _) (by dsimp only; omega) _) (by dsimp only; omega) _) (by dsimp only; omega) _) (by dsimp only; omega) _⟩

set_option maxRecDepth 100000 in
set_option maxHeartbeats 4000000 in
theorem coldS_any {k lo hi : Int} {q : Nat} {w : World} (hq : Blk w q 141 #[.int .i64 k, .int .i64 lo, .int .i64 hi]) (hk : rgOK lo hi) (p a b m wt g t ph pc pd : Int) (hs : StOK p a b m wt g t) (hpk : 0 ≤ ph ∧ ph ≤ 1000 ∧ 0 ≤ pc ∧ pc ≤ 1000 ∧ 0 ≤ pd ∧ pd ≤ 1000) :
    Calls Tryz.prog 172 #[.agg #[.int .i64 p, .int .i64 a, .int .i64 b, .int .i64 m, .int .i64 wt, .int .i64 g, .int .i64 t], .agg #[.int .i64 ph, .int .i64 pc, .int .i64 pd], .pointer (some ⟨q, 0, none⟩)] w fun e w' => e = .returned (St.agg (stepD (.d ⟨k, lo, hi⟩) ⟨ph, pc, pd⟩ ⟨p, a, b, m, wt, g, t⟩)) ∧ Ext w w' := by
  obtain ⟨k1', k2', k3'⟩ := hk
  obtain ⟨-, -, -, -, q0, q1⟩ := hpk
  have pb := pick_bd k1' k2' k3' q0 q1
  have HP := Lib.hid (fun (W : World) => picked_any lo hi pd W k1' k2' k3' q0 q1)
  have HS := Lib.hid (show stepD (.d ⟨k, lo, hi⟩) ⟨ph, pc, pd⟩ ⟨p, a, b, m, wt, g, t⟩ = ⟨p, a - frozenK a m (pickK lo hi pd), b, m + frozenK a m (pickK lo hi pd), wt, g, t⟩ from rfl)
  generalize pickK lo hi pd = P at *
  obtain ⟨pb0, pb1⟩ := pb
  obtain ⟨a0, a1⟩ := hs.ha
  obtain ⟨mm0, mm1⟩ := hs.hm
  have HF := Lib.hid (fun (W : World) => frozen_any a m P W a0 mm0 a1 mm1 (by omega) (by omega))
  have nb := frozen_bd (a := a) (m := m) (s := P) a0 mm0 (by omega) (by omega)
  generalize frozenK a m P = N at *
  obtain ⟨n0, n1⟩ := nb
  obtain ⟨W0, hW0⟩ : ∃ W0, W0 = ((w.alloc (.cells #[.int .i64 p, .int .i64 a, .int .i64 b, .int .i64 m, .int .i64 wt, .int .i64 g, .int .i64 t] 30)).alloc (.cells #[.int .i64 ph, .int .i64 pc, .int .i64 pd] 32)).alloc (.cells #[.int .i64 0, .int .i64 0, .int .i64 0, .int .i64 0, .int .i64 0, .int .i64 0, .int .i64 0] 30) := ⟨_, rfl⟩
  have k0 : Blk W0 w.heap.size 30 #[.int .i64 p, .int .i64 a, .int .i64 b, .int .i64 m, .int .i64 wt, .int .i64 g, .int .i64 t] := by rw [hW0]; exact ((Blk.new _ _ _).alloc _).alloc _
  have k1 : Blk W0 (w.heap.size + 1) 32 #[.int .i64 ph, .int .i64 pc, .int .i64 pd] := by rw [hW0]; exact (Blk.newAt _ _ _ (by simp)).alloc _
  have K2 := Lib.hid (show Blk W0 (w.heap.size + 1 + 1) 30 #[.int .i64 0, .int .i64 0, .int .i64 0, .int .i64 0, .int .i64 0, .int .i64 0, .int .i64 0] by rw [hW0]; exact Blk.newAt _ _ _ (by simp))
  have e0 : Ext w W0 := by rw [hW0]; exact ((Ext.alloc _ _).trans (Ext.alloc _ _)).trans (Ext.alloc _ _)
  have kq := hq.ext e0
  have E0 := Lib.hid e0
  have K0 := Lib.hid k0
  have K1 := Lib.hid k1
  have KQ := Lib.hid kq
  have HQL := Lib.hid (show q < w.heap.size from hq.lt)
  have y0 : W0.cell? ⟨w.heap.size, 0, none⟩ = some (.int .i64 (p)) := k0.cell 0
  have y1 : W0.cell? ⟨w.heap.size, 1, none⟩ = some (.int .i64 (a)) := k0.cell 1
  have y2 : W0.cell? ⟨w.heap.size, 2, none⟩ = some (.int .i64 (b)) := k0.cell 2
  have y3 : W0.cell? ⟨w.heap.size, 3, none⟩ = some (.int .i64 (m)) := k0.cell 3
  have y4 : W0.cell? ⟨w.heap.size, 4, none⟩ = some (.int .i64 (wt)) := k0.cell 4
  have y5 : W0.cell? ⟨w.heap.size, 5, none⟩ = some (.int .i64 (g)) := k0.cell 5
  have y6 : W0.cell? ⟨w.heap.size, 6, none⟩ = some (.int .i64 (t)) := k0.cell 6
  have x0 : W0.cell? ⟨w.heap.size + 1, 0, none⟩ = some (.int .i64 (ph)) := k1.cell 0
  have x1 : W0.cell? ⟨w.heap.size + 1, 1, none⟩ = some (.int .i64 (pc)) := k1.cell 1
  have x2 : W0.cell? ⟨w.heap.size + 1, 2, none⟩ = some (.int .i64 (pd)) := k1.cell 2
  have v0 : W0.cell? ⟨q, 0, none⟩ = some (.int .i64 (k)) := kq.cell 0
  have v1 : W0.cell? ⟨q, 1, none⟩ = some (.int .i64 (lo)) := kq.cell 1
  have v2 : W0.cell? ⟨q, 2, none⟩ = some (.int .i64 (hi)) := kq.cell 2

  clear hs hq k0 k1 kq e0
  go_enter Tryz.func172, Tryz.ntmps172
  go_wp2
  rw [← hW0]
  clear hW0
  refine wp_region_each [some 7, some 8, some 9, some 10, some 11, some 12, some 13, some 14, some 15, some 16, some 6] [[3], [7], [3], [9], [2], [11], [4], [13], [12, 14], [8, 10, 15], [16]]
    [Is (.pointer (some ⟨w.heap.size, 1, none⟩)), Is (.int .i64 (a)), Is (.pointer (some ⟨w.heap.size, 3, none⟩)), Is (.int .i64 (m)), Is (.pointer (some ⟨q, 1, none⟩)), Is (.agg #[.int .i64 (lo), .int .i64 (hi)]), Is (.pointer (some ⟨w.heap.size + 1, 2, none⟩)), Is (.int .i64 (pd)), Is (.int .i64 (P)), Is (.int .i64 (N)), Is (.int .i64 (N))]
    (by kernel_rfl) (by kernel_rfl) (by kernel_rfl) (by kernel_rfl) (by kernel_rfl) Ext (fun W => Ext W0 W)
    (fun W _ => Ext.refl W) (fun W W' h k => h.trans k) ?_ (Ext.drew _) ?_ ?_
  · repeat (refine ⟨fun _ _ _ _ k h => (by first | exact h | exact (by first | exact IntsAt.ext h k | exact KnV.ext h k | exact NumsV.ext h k)), ?_⟩)
    exact trivial
  · refine ⟨?_, ?_, ?_, ?_, ?_, ?_, ?_, ?_, ?_, ?_, ?_, trivial⟩
    all_goals intro ρ W ⟨kc, kg, kf⟩ hF hs
    · obtain ⟨h0, -⟩ := hs
      replace h0 : ρ (.tmp 3) = .pointer (some ⟨w.heap.size, 0, none⟩) := h0
      go_simp
      exact ⟨Ext.refl _, rfl⟩
    · obtain ⟨h0, -⟩ := hs
      replace h0 : ρ (.tmp 7) = .pointer (some ⟨w.heap.size, 1, none⟩) := h0
      have hc0 : W.cell? ⟨w.heap.size, 1, none⟩ = some (.int .i64 (a)) := hF.cell (by assumption)
      go_simp
      exact ⟨Ext.refl _, rfl⟩
    · obtain ⟨h0, -⟩ := hs
      replace h0 : ρ (.tmp 3) = .pointer (some ⟨w.heap.size, 0, none⟩) := h0
      go_simp
      exact ⟨Ext.refl _, rfl⟩
    · obtain ⟨h0, -⟩ := hs
      replace h0 : ρ (.tmp 9) = .pointer (some ⟨w.heap.size, 3, none⟩) := h0
      have hc0 : W.cell? ⟨w.heap.size, 3, none⟩ = some (.int .i64 (m)) := hF.cell (by assumption)
      go_simp
      exact ⟨Ext.refl _, rfl⟩
    · obtain ⟨h0, -⟩ := hs
      replace h0 : ρ (.tmp 2) = .pointer (some ⟨q, 0, none⟩) := h0
      go_simp
      exact ⟨Ext.refl _, rfl⟩
    · obtain ⟨h0, -⟩ := hs
      replace h0 : ρ (.tmp 11) = .pointer (some ⟨q, 1, none⟩) := h0
      have hc0 : W.cell? ⟨q, 1, none⟩ = some (.int .i64 (lo)) := hF.cell (by assumption)
      have hc1 : W.cell? ⟨q, 2, none⟩ = some (.int .i64 (hi)) := hF.cell (by assumption)
      go_simp
      exact ⟨Ext.refl _, rfl⟩
    · obtain ⟨h0, -⟩ := hs
      replace h0 : ρ (.tmp 4) = .pointer (some ⟨w.heap.size + 1, 0, none⟩) := h0
      go_simp
      exact ⟨Ext.refl _, rfl⟩
    · obtain ⟨h0, -⟩ := hs
      replace h0 : ρ (.tmp 13) = .pointer (some ⟨w.heap.size + 1, 2, none⟩) := h0
      have hc0 : W.cell? ⟨w.heap.size + 1, 2, none⟩ = some (.int .i64 (pd)) := hF.cell (by assumption)
      go_simp
      exact ⟨Ext.refl _, rfl⟩
    · obtain ⟨h0, h1, -⟩ := hs
      replace h0 : ρ (.tmp 12) = .agg #[.int .i64 (lo), .int .i64 (hi)] := h0
      replace h1 : ρ (.tmp 14) = .int .i64 (pd) := h1
      go_simp
      refine (HP.out _).mono ?_; rintro e w' ⟨rfl, hx⟩; exact ⟨_, rfl, hx, rfl⟩
    · obtain ⟨h0, h1, h2, -⟩ := hs
      replace h0 : ρ (.tmp 8) = .int .i64 (a) := h0
      replace h1 : ρ (.tmp 10) = .int .i64 (m) := h1
      replace h2 : ρ (.tmp 15) = .int .i64 (P) := h2
      go_simp
      refine (HF.out _).mono ?_; rintro e w' ⟨rfl, rfl⟩; exact ⟨_, rfl, Ext.refl _, rfl⟩
    · obtain ⟨h0, -⟩ := hs
      replace h0 : ρ (.tmp 16) = .int .i64 (N) := h0
      go_simp
      exact ⟨Ext.refl _, rfl⟩
  · intro fv W3 hF hs
    obtain ⟨-, -, -, -, -, -, -, -, -, -, h6, -⟩ := hs
    replace h6 : fv 6 = .int .i64 (N) := h6
    simp only [fin, List.filterMap]
    go_simp
    have X3 := Lib.hid hF
    have kk := K0.out.ext hF
    have c0 : W3.cell? ⟨w.heap.size, 0, none⟩ = some (.int .i64 (p)) := kk.cell 0
    have c1 : W3.cell? ⟨w.heap.size, 1, none⟩ = some (.int .i64 (a)) := kk.cell 1
    have c2 : W3.cell? ⟨w.heap.size, 2, none⟩ = some (.int .i64 (b)) := kk.cell 2
    have c3 : W3.cell? ⟨w.heap.size, 3, none⟩ = some (.int .i64 (m)) := kk.cell 3
    have c4 : W3.cell? ⟨w.heap.size, 4, none⟩ = some (.int .i64 (wt)) := kk.cell 4
    have c5 : W3.cell? ⟨w.heap.size, 5, none⟩ = some (.int .i64 (g)) := kk.cell 5
    have c6 : W3.cell? ⟨w.heap.size, 6, none⟩ = some (.int .i64 (t)) := kk.cell 6
    have f1 := kk.free 1
    have f3 := kk.free 3
    have k2 := K2.out.ext hF
    have z0 : W3.cell? ⟨w.heap.size + 1 + 1, 0, none⟩ = some (.int .i64 0) := k2.cell 0
    have zf0 := k2.free 0
    have z1 : W3.cell? ⟨w.heap.size + 1 + 1, 1, none⟩ = some (.int .i64 0) := k2.cell 1
    have zf1 := k2.free 1
    have z2 : W3.cell? ⟨w.heap.size + 1 + 1, 2, none⟩ = some (.int .i64 0) := k2.cell 2
    have zf2 := k2.free 2
    have z3 : W3.cell? ⟨w.heap.size + 1 + 1, 3, none⟩ = some (.int .i64 0) := k2.cell 3
    have zf3 := k2.free 3
    have z4 : W3.cell? ⟨w.heap.size + 1 + 1, 4, none⟩ = some (.int .i64 0) := k2.cell 4
    have zf4 := k2.free 4
    have z5 : W3.cell? ⟨w.heap.size + 1 + 1, 5, none⟩ = some (.int .i64 0) := k2.cell 5
    have zf5 := k2.free 5
    have z6 : W3.cell? ⟨w.heap.size + 1 + 1, 6, none⟩ = some (.int .i64 0) := k2.cell 6
    have zf6 := k2.free 6
    clear hF h6 kk k2
    have ne1 : ¬ (w.heap.size + 1 + 1 = w.heap.size) := by omega
    have ne2 : ¬ (w.heap.size = w.heap.size + 1 + 1) := by omega
    go_wp2
    exact bodyPost_ret (v := .agg #[.int .i64 p, .int .i64 (a - N), .int .i64 b, .int .i64 (m + N), .int .i64 wt, .int .i64 g, .int .i64 t]) (by simp [results, Tryz.f172, go_sem, z0, z1, z2, z3, z4, z5, z6]) rfl
      ⟨by rw [HS.out]; rfl, Ext.set (Ext.set (Ext.set (Ext.set (Ext.set (Ext.set (Ext.set (Ext.set (Ext.set (E0.out.trans X3.out) (by dsimp only; omega) _) (by dsimp only; omega) _) (by dsimp only; omega) _) (by dsimp only; omega) _) (by dsimp only; omega) _) (by dsimp only; omega) _) (by dsimp only; omega) _) (by dsimp only; omega) _) (by dsimp only; omega) _⟩

set_option maxRecDepth 100000 in
set_option maxHeartbeats 4000000 in
theorem temperS_any {k r : Int} {q q' : Nat} {w : World} (hq : Blk w q 145 #[.int .i64 k, .int .i64 r]) (hq' : Blk w q' 60 #[.func (.func 175) #[] #[.pointer (some ⟨q, 0, none⟩)]]) (hr : 0 ≤ r ∧ r ≤ 1000000) (p a b m wt g t ph pc pd : Int) (hs : StOK p a b m wt g t) :
    Calls Tryz.prog 176 #[.agg #[.int .i64 p, .int .i64 a, .int .i64 b, .int .i64 m, .int .i64 wt, .int .i64 g, .int .i64 t], .agg #[.int .i64 ph, .int .i64 pc, .int .i64 pd], .pointer (some ⟨q', 0, none⟩)] w fun e w' => e = .returned (St.agg (stepD (.t ⟨k, r⟩) ⟨ph, pc, pd⟩ ⟨p, a, b, m, wt, g, t⟩)) ∧ Ext w w' := by
  have HS := Lib.hid (show stepD (.t ⟨k, r⟩) ⟨ph, pc, pd⟩ ⟨p, a, b, m, wt, g, t⟩ = ⟨p, a, b, m, wt, g, min 1000000 (t + r)⟩ from rfl)
  obtain ⟨r0, r1⟩ := hr
  obtain ⟨t0, t1⟩ := hs.ht
  have c0 : ∀ o1 o2 o3, (((w.alloc o1).alloc o2).alloc o3).cell? ⟨q', 0, none⟩ = some (.func (.func 175) #[] #[.pointer (some ⟨q, 0, none⟩)]) := fun o1 o2 o3 => (((hq'.alloc o1).alloc o2).alloc o3).cell 0
  have c1 : ∀ o1 o2 o3, (((w.alloc o1).alloc o2).alloc o3).cell? ⟨q, 1, none⟩ = some (.int .i64 r) := fun o1 o2 o3 => (((hq.alloc o1).alloc o2).alloc o3).cell 1
  clear hs hq hq'
  go_enter Tryz.func176, Tryz.ntmps176
  go_wp2
  exact bodyPost_ret (v := .agg #[.int .i64 p, .int .i64 a, .int .i64 b, .int .i64 m, .int .i64 wt, .int .i64 g, .int .i64 (min 1000000 (t + r))]) (by simp [results, Tryz.f176, go_sem]) rfl
    ⟨by rw [HS.out]; rfl, ((Ext.alloc _ _).trans (Ext.alloc _ _)).trans (Ext.alloc _ _)⟩

end Go.Proofs.YtkmekbafjnlfkaaGreat
