/- Step and Run, as the examples have them. -/
import Derived.Test.YtkmekbafjnlfkaaGreatSA
import Derived.Test.YtkmekbafjnlfkaaGreatS53
import Derived.Lib.MinMax
import Derived.Test.YtkmekbafjnlfkaaGreatS42
import Derived.Deep.DeepCutAuto

/- A hot step, as the examples have it. -/

namespace Go.Proofs.YtkmekbafjnlfkaaGreat
open Go.RowKit Go.Shelf Go.Mem Go.RegInv
attribute [local go_sem] RelUpon_value RelUpon_skip RelUpon_enter BigFrame.eval_const BigFrame.eval_global BigFrame.eval_func

set_option maxRecDepth 100000 in
set_option maxHeartbeats 8000000 in
theorem refStep_hot {r : Ru} {A0 A1 A2 A3 : Option Addr} {n0 n1 n2 n3 c0 c1 c2 c3 : Nat} {w : World} (s : St) (k : Pk) (x : Int) (h : RuAt w r A0 A1 A2 A3 n0 n1 n2 n3) (hs : StK s) (hk : PkOK k) {j : Nat} {y : HK} (hv : lastLe (fun y : HK => decide (y.k ≤ x)) r.hs n0 = (j : Int)) (hy : r.hs[j]? = some y) (hd : deedOK (.h y)) :
    Calls Tryz.prog 31 #[.agg #[.slice A0 n0 c0, .slice A1 n1 c1, .slice A2 n2 c2, .slice A3 n3 c3, .int .i64 r.h0, .int .i64 r.h1, .int .i64 r.h2, .int .i64 r.h3], .agg #[.int .i64 s.p, .int .i64 s.a, .int .i64 s.b, .int .i64 s.m, .int .i64 s.wt, .int .i64 s.g, .int .i64 s.t], .int .i64 x, .agg #[.int .i64 k.h, .int .i64 k.c, .int .i64 k.d]] w fun e w' => e = .returned (.agg #[.int .i64 (stepD (.h y) k s).p, .int .i64 (stepD (.h y) k s).a, .int .i64 (stepD (.h y) k s).b, .int .i64 (stepD (.h y) k s).m, .int .i64 (stepD (.h y) k s).wt, .int .i64 (stepD (.h y) k s).g, .int .i64 (stepD (.h y) k s).t]) ∧ Ext w w' := by
  obtain ⟨⟨d1, d2, d3⟩, g1, g2⟩ := hd
  obtain ⟨k1, k2, -⟩ := hk
  have hp := hs.hp
  have ha := hs.ha
  have hb := hs.hb
  have hm := hs.hm
  have hg := hs.hg
  have hsum := hs.sum
  obtain ⟨pk1, pk2⟩ := pick_bd d1 d2 d3 k1 k2
  have HPK := Lib.hid (fun W => refPicked_any y.lo y.hi k.h W d1 d2 d3 k1 k2)
  have hz : stepD (.h y) k s = ⟨max 0 (1000000 - s.a - pickK y.lo y.hi k.h), 1000000 - max 0 (1000000 - s.a - pickK y.lo y.hi k.h), 0, 0, 0, grownK s.g y.g (1000000 - max 0 (1000000 - s.a - pickK y.lo y.hi k.h)), 0⟩ := rfl
  generalize pickK y.lo y.hi k.h = pk at HPK hz pk1 pk2
  obtain ⟨zp, hzp⟩ : ∃ zp, zp = s.p + s.b + s.m := ⟨_, rfl⟩
  obtain ⟨mv, hmv⟩ : ∃ mv, mv = min zp pk := ⟨_, rfl⟩
  have e1 : max 0 (1000000 - s.a - pk) = zp - mv := by omega
  have e2 : 1000000 - max 0 (1000000 - s.a - pk) = s.a + mv := by omega
  rw [e2, e1] at hz
  have HST := Lib.hid hz
  generalize stepD (.h y) k s = fz at HST ⊢
  have z1 : 0 ≤ zp ∧ zp ≤ 1000000 := by omega
  have z2 : 0 ≤ mv ∧ mv ≤ zp := by omega
  have z3 : s.a + mv ≤ 1000000 := by omega
  obtain ⟨z11, z12⟩ := z1
  obtain ⟨z21, z22⟩ := z2
  obtain ⟨ha1, ha2⟩ := ha
  obtain ⟨hg1, hg2⟩ := hg
  have hwg : IntKind.i64.wrap (s.g + y.g) = s.g + y.g := wrap_id _ (by omega) (by omega)
  have HZP := Lib.hid hzp
  have HMV := Lib.hid hmv
  have hjn : j < n0 := by have := (List.getElem?_eq_some_iff.1 hy).1; have := h.l0; omega
  have hji : (j : Int) < (n0 : Int) := by omega
  have hnb : n0 ≤ 1152921504606846976 := by have := h.r0.1; have := h.l0; omega
  obtain ⟨b, o, hAe, hbx, hc⟩ := h.r0.2 j y hy
  subst hAe
  have C := Lib.hid hc
  have HHA := Lib.hid (fun (W : World) (e : Ext w W) => heatAt_any (c0 := c0) (c1 := c1) (c2 := c2) (c3 := c3) (h.ext e) x)
  rw [hv] at HHA
  obtain ⟨hp1, hp2⟩ := hp
  obtain ⟨hb1, hb2⟩ := hb
  obtain ⟨hm1, hm2⟩ := hm
  have sb : s.p + s.b ≤ 1000000 := by omega
  have sm : s.p + s.b + s.m ≤ 1000000 := by omega
  clear hs h hc hbx hv hy hz e1 e2 hmv hzp z3 pk1 pk2 d1 d2 d3 k1 k2
  obtain ⟨W0, hW0⟩ : ∃ W0, W0 = (((w.alloc (.cells #[.slice (some ⟨b, o, none⟩) n0 c0, .slice A1 n1 c1, .slice A2 n2 c2, .slice A3 n3 c3, .int .i64 r.h0, .int .i64 r.h1, .int .i64 r.h2, .int .i64 r.h3] 28)).alloc (.cells #[.int .i64 s.p, .int .i64 s.a, .int .i64 s.b, .int .i64 s.m, .int .i64 s.wt, .int .i64 s.g, .int .i64 s.t] 30)).alloc (.cells #[.int .i64 k.h, .int .i64 k.c, .int .i64 k.d] 32)).alloc (.cells #[.int .i64 0, .int .i64 0, .int .i64 0, .int .i64 0, .int .i64 0, .int .i64 0, .int .i64 0] 30) := ⟨_, rfl⟩
  have HI := Lib.hid (show BoxI w W0 32 #[.slice (some ⟨b, o, none⟩) n0 c0, .slice A1 n1 c1, .slice A2 n2 c2, .slice A3 n3 c3, .int .i64 r.h0, .int .i64 r.h1, .int .i64 r.h2, .int .i64 r.h3] s #[.int .i64 k.h, .int .i64 k.c, .int .i64 k.d] by rw [hW0]; exact (BoxI.new _ _ _ _ _).ext (Ext.alloc _ _))
  have K8 := Lib.hid (show Blk W0 (w.heap.size + 1 + 1 + 1) 30 #[.int .i64 0, .int .i64 0, .int .i64 0, .int .i64 0, .int .i64 0, .int .i64 0, .int .i64 0] by rw [hW0]; exact Blk.newAt _ _ _ (by simp))
  go_enter Tryz.func31, Tryz.ntmps31
  go_wp2_with (go_at_call 65; rw [← hW0]; refine (HHA.out _ HI.out.e).mono ?_; rintro e W1 ⟨rfl, hx⟩; have XT := Lib.hid hx; clear hx hW0; refine Hid.out ?_)
  refine Lib.hid ?_
  replace HI := Lib.hid (HI.out.ext XT.out)
  replace K8 := Lib.hid (K8.out.ext XT.out)
  clear XT HHA
  have y0 : W1.cell? ⟨w.heap.size, 0, none⟩ = some (.slice (some ⟨b, o, none⟩) n0 c0) := HI.out.k0.cell 0
  have y1 : W1.cell? ⟨w.heap.size, 1, none⟩ = some (.slice A1 n1 c1) := HI.out.k0.cell 1
  have y2 : W1.cell? ⟨w.heap.size, 2, none⟩ = some (.slice A2 n2 c2) := HI.out.k0.cell 2
  have y3 : W1.cell? ⟨w.heap.size, 3, none⟩ = some (.slice A3 n3 c3) := HI.out.k0.cell 3
  have y4 : W1.cell? ⟨w.heap.size, 4, none⟩ = some (.int .i64 r.h0) := HI.out.k0.cell 4
  have y5 : W1.cell? ⟨w.heap.size, 5, none⟩ = some (.int .i64 r.h1) := HI.out.k0.cell 5
  have y6 : W1.cell? ⟨w.heap.size, 6, none⟩ = some (.int .i64 r.h2) := HI.out.k0.cell 6
  have y7 : W1.cell? ⟨w.heap.size, 7, none⟩ = some (.int .i64 r.h3) := HI.out.k0.cell 7
  have x0 : W1.cell? ⟨w.heap.size + 1, 0, none⟩ = some (.int .i64 s.p) := HI.out.k1.cell 0
  have x1 : W1.cell? ⟨w.heap.size + 1, 1, none⟩ = some (.int .i64 s.a) := HI.out.k1.cell 1
  have x2 : W1.cell? ⟨w.heap.size + 1, 2, none⟩ = some (.int .i64 s.b) := HI.out.k1.cell 2
  have x3 : W1.cell? ⟨w.heap.size + 1, 3, none⟩ = some (.int .i64 s.m) := HI.out.k1.cell 3
  have x4 : W1.cell? ⟨w.heap.size + 1, 4, none⟩ = some (.int .i64 s.wt) := HI.out.k1.cell 4
  have x5 : W1.cell? ⟨w.heap.size + 1, 5, none⟩ = some (.int .i64 s.g) := HI.out.k1.cell 5
  have x6 : W1.cell? ⟨w.heap.size + 1, 6, none⟩ = some (.int .i64 s.t) := HI.out.k1.cell 6
  have v0 : W1.cell? ⟨w.heap.size + 1 + 1, 0, none⟩ = some (.int .i64 k.h) := HI.out.k2.cell 0
  have v1 : W1.cell? ⟨w.heap.size + 1 + 1, 1, none⟩ = some (.int .i64 k.c) := HI.out.k2.cell 1
  have v2 : W1.cell? ⟨w.heap.size + 1 + 1, 2, none⟩ = some (.int .i64 k.d) := HI.out.k2.cell 2
  have xf0 := HI.out.k1.free 0
  have xf1 := HI.out.k1.free 1
  have xf2 := HI.out.k1.free 2
  have xf3 := HI.out.k1.free 3
  have xf4 := HI.out.k1.free 4
  have xf5 := HI.out.k1.free 5
  have xf6 := HI.out.k1.free 6
  go_wp2
  clear y0 y1 y2 y3 y4 y5 y6 y7 x0 x1 x2 x3 x4 x5 x6 v0 v1 v2 xf0 xf1 xf2 xf3 xf4 xf5 xf6
  rw [← HZP.out]
  obtain ⟨W2, hWn⟩ : ∃ V, V = ((((W1.setCell ⟨w.heap.size + 1, 0, none⟩ (.int .i64 zp)).setCell ⟨w.heap.size + 1, 2, none⟩ (.int .i64 0)).setCell ⟨w.heap.size + 1, 3, none⟩ (.int .i64 0)).setCell ⟨w.heap.size + 1, 4, none⟩ (.int .i64 0)).setCell ⟨w.heap.size + 1, 6, none⟩ (.int .i64 0) := ⟨_, rfl⟩
  have HIn := Lib.hid (show BoxI w W2 32 #[.slice (some ⟨b, o, none⟩) n0 c0, .slice A1 n1 c1, .slice A2 n2 c2, .slice A3 n3 c3, .int .i64 r.h0, .int .i64 r.h1, .int .i64 r.h2, .int .i64 r.h3] ⟨zp, s.a, 0, 0, 0, s.g, 0⟩ #[.int .i64 k.h, .int .i64 k.c, .int .i64 k.d] by
    rw [hWn]
    have h7 := (((((HI.out.k1.setSame 0 (.int .i64 zp)).setSame 2 (.int .i64 0)).setSame 3 (.int .i64 0)).setSame 4 (.int .i64 0)).setSame 6 (.int .i64 0))
    simp only [List.setIfInBounds_toArray, List.set_cons_zero, List.set_cons_succ] at h7
    exact ⟨(((((HI.out.k0.setOther (by dsimp only; omega) _).setOther (by dsimp only; omega) _).setOther (by dsimp only; omega) _).setOther (by dsimp only; omega) _).setOther (by dsimp only; omega) _), h7, (((((HI.out.k2.setOther (by dsimp only; omega) _).setOther (by dsimp only; omega) _).setOther (by dsimp only; omega) _).setOther (by dsimp only; omega) _).setOther (by dsimp only; omega) _), Ext.set (Ext.set (Ext.set (Ext.set (Ext.set (HI.out.e) (by dsimp only; omega) _) (by dsimp only; omega) _) (by dsimp only; omega) _) (by dsimp only; omega) _) (by dsimp only; omega) _⟩)
  replace K8 := Lib.hid (show Blk W2 (w.heap.size + 1 + 1 + 1) 30 #[.int .i64 0, .int .i64 0, .int .i64 0, .int .i64 0, .int .i64 0, .int .i64 0, .int .i64 0] by rw [hWn]; exact (((((K8.out.setOther (by dsimp only; omega) _).setOther (by dsimp only; omega) _).setOther (by dsimp only; omega) _).setOther (by dsimp only; omega) _).setOther (by dsimp only; omega) _))
  rw [← hWn]
  clear hWn
  replace HI := HIn
  clear HIn
  have y0 : W2.cell? ⟨w.heap.size, 0, none⟩ = some (.slice (some ⟨b, o, none⟩) n0 c0) := HI.out.k0.cell 0
  have y1 : W2.cell? ⟨w.heap.size, 1, none⟩ = some (.slice A1 n1 c1) := HI.out.k0.cell 1
  have y2 : W2.cell? ⟨w.heap.size, 2, none⟩ = some (.slice A2 n2 c2) := HI.out.k0.cell 2
  have y3 : W2.cell? ⟨w.heap.size, 3, none⟩ = some (.slice A3 n3 c3) := HI.out.k0.cell 3
  have y4 : W2.cell? ⟨w.heap.size, 4, none⟩ = some (.int .i64 r.h0) := HI.out.k0.cell 4
  have y5 : W2.cell? ⟨w.heap.size, 5, none⟩ = some (.int .i64 r.h1) := HI.out.k0.cell 5
  have y6 : W2.cell? ⟨w.heap.size, 6, none⟩ = some (.int .i64 r.h2) := HI.out.k0.cell 6
  have y7 : W2.cell? ⟨w.heap.size, 7, none⟩ = some (.int .i64 r.h3) := HI.out.k0.cell 7
  have x0 : W2.cell? ⟨w.heap.size + 1, 0, none⟩ = some (.int .i64 zp) := HI.out.k1.cell 0
  have x1 : W2.cell? ⟨w.heap.size + 1, 1, none⟩ = some (.int .i64 s.a) := HI.out.k1.cell 1
  have x2 : W2.cell? ⟨w.heap.size + 1, 2, none⟩ = some (.int .i64 0) := HI.out.k1.cell 2
  have x3 : W2.cell? ⟨w.heap.size + 1, 3, none⟩ = some (.int .i64 0) := HI.out.k1.cell 3
  have x4 : W2.cell? ⟨w.heap.size + 1, 4, none⟩ = some (.int .i64 0) := HI.out.k1.cell 4
  have x5 : W2.cell? ⟨w.heap.size + 1, 5, none⟩ = some (.int .i64 s.g) := HI.out.k1.cell 5
  have x6 : W2.cell? ⟨w.heap.size + 1, 6, none⟩ = some (.int .i64 0) := HI.out.k1.cell 6
  have v0 : W2.cell? ⟨w.heap.size + 1 + 1, 0, none⟩ = some (.int .i64 k.h) := HI.out.k2.cell 0
  have v1 : W2.cell? ⟨w.heap.size + 1 + 1, 1, none⟩ = some (.int .i64 k.c) := HI.out.k2.cell 1
  have v2 : W2.cell? ⟨w.heap.size + 1 + 1, 2, none⟩ = some (.int .i64 k.d) := HI.out.k2.cell 2
  have r1 : W2.cell? ⟨b, o + j * 4 + 1, none⟩ = some (.int .i64 y.lo) := HI.out.e.cell (C.out 1 _ rfl)
  have r2 : W2.cell? ⟨b, o + j * 4 + 1 + 1, none⟩ = some (.int .i64 y.hi) := HI.out.e.cell (C.out 2 _ rfl)
  refine wp_region_each [some 34, some 35, some 36, some 37, some 38, some 39, some 40, some 41, some 42, some 43, some 44, some 45, some 10] [[5], [34], [4], [36], [9], [37, 38], [39], [40], [7], [42], [41, 43], [35, 44], [45]]
    [Is (.pointer (some ⟨w.heap.size + 1, 0, none⟩)), Is (.int .i64 (zp)), Is (.pointer (some ⟨w.heap.size, 0, none⟩)), Is (.slice (some ⟨b, o, none⟩) n0 c0), Is (.int .i64 ((j : Int))), Is (.pointer (some ⟨b, o + j * 4, none⟩)), Is (.pointer (some ⟨b, o + j * 4 + 1, none⟩)), Is (.agg #[.int .i64 (y.lo), .int .i64 (y.hi)]), Is (.pointer (some ⟨w.heap.size + 1 + 1, 0, none⟩)), Is (.int .i64 (k.h)), Is (.int .i64 (pk)), Is (.int .i64 (min zp pk)), Is (.int .i64 (min zp pk))]
    (by kernel_rfl) (by kernel_rfl) (by kernel_rfl) (by kernel_rfl) (by kernel_rfl) Ext (fun W => Ext W2 W)
    (fun W _ => Ext.refl W) (fun W W' h k => h.trans k) ?_ (Ext.drew _) ?_ ?_
  · repeat (refine ⟨fun _ _ _ _ k h => (by first | exact h | exact (by first | exact IntsAt.ext h k | exact KnV.ext h k | exact NumsV.ext h k)), ?_⟩)
    exact trivial
  · refine ⟨?_, ?_, ?_, ?_, ?_, ?_, ?_, ?_, ?_, ?_, ?_, ?_, ?_, trivial⟩
    all_goals intro ρ W ⟨kc, kg, kf⟩ hF hs
    · obtain ⟨h0, -⟩ := hs
      replace h0 : ρ (.tmp 5) = .pointer (some ⟨w.heap.size + 1, 0, none⟩) := h0
      go_simp
      exact ⟨Ext.refl _, rfl⟩
    · obtain ⟨h0, -⟩ := hs
      replace h0 : ρ (.tmp 34) = .pointer (some ⟨w.heap.size + 1, 0, none⟩) := h0
      have hc0 : W.cell? ⟨w.heap.size + 1, 0, none⟩ = some (.int .i64 (zp)) := hF.cell (by assumption)
      go_simp
      exact ⟨Ext.refl _, rfl⟩
    · obtain ⟨h0, -⟩ := hs
      replace h0 : ρ (.tmp 4) = .pointer (some ⟨w.heap.size, 0, none⟩) := h0
      go_simp
      exact ⟨Ext.refl _, rfl⟩
    · obtain ⟨h0, -⟩ := hs
      replace h0 : ρ (.tmp 36) = .pointer (some ⟨w.heap.size, 0, none⟩) := h0
      have hc0 : W.cell? ⟨w.heap.size, 0, none⟩ = some (.slice (some ⟨b, o, none⟩) n0 c0) := hF.cell (by assumption)
      go_simp
      exact ⟨Ext.refl _, rfl⟩
    · obtain ⟨h0, -⟩ := hs
      replace h0 : ρ (.tmp 9) = .int .i64 ((j : Int)) := h0
      go_simp
      exact ⟨Ext.refl _, rfl⟩
    · obtain ⟨h0, h1, -⟩ := hs
      replace h0 : ρ (.tmp 37) = .slice (some ⟨b, o, none⟩) n0 c0 := h0
      replace h1 : ρ (.tmp 38) = .int .i64 ((j : Int)) := h1
      go_simp
      exact ⟨Ext.refl _, rfl⟩
    · obtain ⟨h0, -⟩ := hs
      replace h0 : ρ (.tmp 39) = .pointer (some ⟨b, o + j * 4, none⟩) := h0
      go_simp
      exact ⟨Ext.refl _, rfl⟩
    · obtain ⟨h0, -⟩ := hs
      replace h0 : ρ (.tmp 40) = .pointer (some ⟨b, o + j * 4 + 1, none⟩) := h0
      have hc0 : W.cell? ⟨b, o + j * 4 + 1, none⟩ = some (.int .i64 (y.lo)) := hF.cell (by assumption)
      have hc1 : W.cell? ⟨b, o + j * 4 + 1 + 1, none⟩ = some (.int .i64 (y.hi)) := hF.cell (by assumption)
      go_simp
      exact ⟨Ext.refl _, rfl⟩
    · obtain ⟨h0, -⟩ := hs
      replace h0 : ρ (.tmp 7) = .pointer (some ⟨w.heap.size + 1 + 1, 0, none⟩) := h0
      go_simp
      exact ⟨Ext.refl _, rfl⟩
    · obtain ⟨h0, -⟩ := hs
      replace h0 : ρ (.tmp 42) = .pointer (some ⟨w.heap.size + 1 + 1, 0, none⟩) := h0
      have hc0 : W.cell? ⟨w.heap.size + 1 + 1, 0, none⟩ = some (.int .i64 (k.h)) := hF.cell (by assumption)
      go_simp
      exact ⟨Ext.refl _, rfl⟩
    · obtain ⟨h0, h1, -⟩ := hs
      replace h0 : ρ (.tmp 41) = .agg #[.int .i64 (y.lo), .int .i64 (y.hi)] := h0
      replace h1 : ρ (.tmp 43) = .int .i64 (k.h) := h1
      go_simp
      refine (HPK.out _).mono ?_; rintro e w' ⟨rfl, hx⟩; exact ⟨_, rfl, hx, rfl⟩
    · obtain ⟨h0, h1, -⟩ := hs
      replace h0 : ρ (.tmp 35) = .int .i64 (zp) := h0
      replace h1 : ρ (.tmp 44) = .int .i64 (pk) := h1
      go_simp
      exact ⟨Ext.refl _, rfl⟩
    · obtain ⟨h0, -⟩ := hs
      replace h0 : ρ (.tmp 45) = .int .i64 (min zp pk) := h0
      go_simp
      exact ⟨Ext.refl _, rfl⟩
  · intro fv W3 hF hs
    obtain ⟨-, -, -, -, -, -, -, -, -, -, -, -, h10, -⟩ := hs
    replace h10 : fv 10 = .int .i64 (min zp pk) := h10
    simp only [fin, List.filterMap]
    go_simp
    rw [← HMV.out]
    replace HI := Lib.hid (HI.out.ext hF)
    replace K8 := Lib.hid (K8.out.ext hF)
    clear h10 hF r1 r2
    clear y0 y1 y2 y3 y4 y5 y6 y7 x0 x1 x2 x3 x4 x5 x6 v0 v1 v2
    have y0 : W3.cell? ⟨w.heap.size, 0, none⟩ = some (.slice (some ⟨b, o, none⟩) n0 c0) := HI.out.k0.cell 0
    have y1 : W3.cell? ⟨w.heap.size, 1, none⟩ = some (.slice A1 n1 c1) := HI.out.k0.cell 1
    have y2 : W3.cell? ⟨w.heap.size, 2, none⟩ = some (.slice A2 n2 c2) := HI.out.k0.cell 2
    have y3 : W3.cell? ⟨w.heap.size, 3, none⟩ = some (.slice A3 n3 c3) := HI.out.k0.cell 3
    have y4 : W3.cell? ⟨w.heap.size, 4, none⟩ = some (.int .i64 r.h0) := HI.out.k0.cell 4
    have y5 : W3.cell? ⟨w.heap.size, 5, none⟩ = some (.int .i64 r.h1) := HI.out.k0.cell 5
    have y6 : W3.cell? ⟨w.heap.size, 6, none⟩ = some (.int .i64 r.h2) := HI.out.k0.cell 6
    have y7 : W3.cell? ⟨w.heap.size, 7, none⟩ = some (.int .i64 r.h3) := HI.out.k0.cell 7
    have x0 : W3.cell? ⟨w.heap.size + 1, 0, none⟩ = some (.int .i64 zp) := HI.out.k1.cell 0
    have x1 : W3.cell? ⟨w.heap.size + 1, 1, none⟩ = some (.int .i64 s.a) := HI.out.k1.cell 1
    have x2 : W3.cell? ⟨w.heap.size + 1, 2, none⟩ = some (.int .i64 0) := HI.out.k1.cell 2
    have x3 : W3.cell? ⟨w.heap.size + 1, 3, none⟩ = some (.int .i64 0) := HI.out.k1.cell 3
    have x4 : W3.cell? ⟨w.heap.size + 1, 4, none⟩ = some (.int .i64 0) := HI.out.k1.cell 4
    have x5 : W3.cell? ⟨w.heap.size + 1, 5, none⟩ = some (.int .i64 s.g) := HI.out.k1.cell 5
    have x6 : W3.cell? ⟨w.heap.size + 1, 6, none⟩ = some (.int .i64 0) := HI.out.k1.cell 6
    have v0 : W3.cell? ⟨w.heap.size + 1 + 1, 0, none⟩ = some (.int .i64 k.h) := HI.out.k2.cell 0
    have v1 : W3.cell? ⟨w.heap.size + 1 + 1, 1, none⟩ = some (.int .i64 k.c) := HI.out.k2.cell 1
    have v2 : W3.cell? ⟨w.heap.size + 1 + 1, 2, none⟩ = some (.int .i64 k.d) := HI.out.k2.cell 2
    have xf0 := HI.out.k1.free 0
    have xf1 := HI.out.k1.free 1
    have xf2 := HI.out.k1.free 2
    have xf3 := HI.out.k1.free 3
    have xf4 := HI.out.k1.free 4
    have xf5 := HI.out.k1.free 5
    have xf6 := HI.out.k1.free 6
    have z8 := K8.out
    have w0 : W3.cell? ⟨w.heap.size + 1 + 1 + 1, 0, none⟩ = some (.int .i64 0) := z8.cell 0
    have wf0 := z8.free 0
    have w1 : W3.cell? ⟨w.heap.size + 1 + 1 + 1, 1, none⟩ = some (.int .i64 0) := z8.cell 1
    have wf1 := z8.free 1
    have w2 : W3.cell? ⟨w.heap.size + 1 + 1 + 1, 2, none⟩ = some (.int .i64 0) := z8.cell 2
    have wf2 := z8.free 2
    have w3 : W3.cell? ⟨w.heap.size + 1 + 1 + 1, 3, none⟩ = some (.int .i64 0) := z8.cell 3
    have wf3 := z8.free 3
    have w4 : W3.cell? ⟨w.heap.size + 1 + 1 + 1, 4, none⟩ = some (.int .i64 0) := z8.cell 4
    have wf4 := z8.free 4
    have w5 : W3.cell? ⟨w.heap.size + 1 + 1 + 1, 5, none⟩ = some (.int .i64 0) := z8.cell 5
    have wf5 := z8.free 5
    have w6 : W3.cell? ⟨w.heap.size + 1 + 1 + 1, 6, none⟩ = some (.int .i64 0) := z8.cell 6
    have wf6 := z8.free 6
    by_cases hA : 0 < s.a + mv
    · have hA' : decide (0 < s.a + mv) = true := decide_eq_true hA
      clear w0 w1 w2 w3 w4 w5 w6 wf0 wf1 wf2 wf3 wf4 wf5 wf6 z8
      go_wp2
      clear y0 y1 y2 y3 y4 y5 y6 y7 x0 x1 x2 x3 x4 x5 x6 v0 v1 v2 xf0 xf1 xf2 xf3 xf4 xf5 xf6
      obtain ⟨W4, hWn⟩ : ∃ V, V = (W3.setCell ⟨w.heap.size + 1, 0, none⟩ (.int .i64 (zp - mv))).setCell ⟨w.heap.size + 1, 1, none⟩ (.int .i64 (s.a + mv)) := ⟨_, rfl⟩
      have HIn := Lib.hid (show BoxI w W4 32 #[.slice (some ⟨b, o, none⟩) n0 c0, .slice A1 n1 c1, .slice A2 n2 c2, .slice A3 n3 c3, .int .i64 r.h0, .int .i64 r.h1, .int .i64 r.h2, .int .i64 r.h3] ⟨(zp - mv), (s.a + mv), 0, 0, 0, s.g, 0⟩ #[.int .i64 k.h, .int .i64 k.c, .int .i64 k.d] by
        rw [hWn]
        have h7 := ((HI.out.k1.setSame 0 (.int .i64 (zp - mv))).setSame 1 (.int .i64 (s.a + mv)))
        simp only [List.setIfInBounds_toArray, List.set_cons_zero, List.set_cons_succ] at h7
        exact ⟨((HI.out.k0.setOther (by dsimp only; omega) _).setOther (by dsimp only; omega) _), h7, ((HI.out.k2.setOther (by dsimp only; omega) _).setOther (by dsimp only; omega) _), Ext.set (Ext.set (HI.out.e) (by dsimp only; omega) _) (by dsimp only; omega) _⟩)
      replace K8 := Lib.hid (show Blk W4 (w.heap.size + 1 + 1 + 1) 30 #[.int .i64 0, .int .i64 0, .int .i64 0, .int .i64 0, .int .i64 0, .int .i64 0, .int .i64 0] by rw [hWn]; exact ((K8.out.setOther (by dsimp only; omega) _).setOther (by dsimp only; omega) _))
      rw [← hWn]
      clear hWn
      replace HI := HIn
      clear HIn
      have y0 : W4.cell? ⟨w.heap.size, 0, none⟩ = some (.slice (some ⟨b, o, none⟩) n0 c0) := HI.out.k0.cell 0
      have y1 : W4.cell? ⟨w.heap.size, 1, none⟩ = some (.slice A1 n1 c1) := HI.out.k0.cell 1
      have y2 : W4.cell? ⟨w.heap.size, 2, none⟩ = some (.slice A2 n2 c2) := HI.out.k0.cell 2
      have y3 : W4.cell? ⟨w.heap.size, 3, none⟩ = some (.slice A3 n3 c3) := HI.out.k0.cell 3
      have y4 : W4.cell? ⟨w.heap.size, 4, none⟩ = some (.int .i64 r.h0) := HI.out.k0.cell 4
      have y5 : W4.cell? ⟨w.heap.size, 5, none⟩ = some (.int .i64 r.h1) := HI.out.k0.cell 5
      have y6 : W4.cell? ⟨w.heap.size, 6, none⟩ = some (.int .i64 r.h2) := HI.out.k0.cell 6
      have y7 : W4.cell? ⟨w.heap.size, 7, none⟩ = some (.int .i64 r.h3) := HI.out.k0.cell 7
      have x0 : W4.cell? ⟨w.heap.size + 1, 0, none⟩ = some (.int .i64 (zp - mv)) := HI.out.k1.cell 0
      have x1 : W4.cell? ⟨w.heap.size + 1, 1, none⟩ = some (.int .i64 (s.a + mv)) := HI.out.k1.cell 1
      have x2 : W4.cell? ⟨w.heap.size + 1, 2, none⟩ = some (.int .i64 0) := HI.out.k1.cell 2
      have x3 : W4.cell? ⟨w.heap.size + 1, 3, none⟩ = some (.int .i64 0) := HI.out.k1.cell 3
      have x4 : W4.cell? ⟨w.heap.size + 1, 4, none⟩ = some (.int .i64 0) := HI.out.k1.cell 4
      have x5 : W4.cell? ⟨w.heap.size + 1, 5, none⟩ = some (.int .i64 s.g) := HI.out.k1.cell 5
      have x6 : W4.cell? ⟨w.heap.size + 1, 6, none⟩ = some (.int .i64 0) := HI.out.k1.cell 6
      have v0 : W4.cell? ⟨w.heap.size + 1 + 1, 0, none⟩ = some (.int .i64 k.h) := HI.out.k2.cell 0
      have v1 : W4.cell? ⟨w.heap.size + 1 + 1, 1, none⟩ = some (.int .i64 k.c) := HI.out.k2.cell 1
      have v2 : W4.cell? ⟨w.heap.size + 1 + 1, 2, none⟩ = some (.int .i64 k.d) := HI.out.k2.cell 2
      have r3 : W4.cell? ⟨b, o + j * 4 + 3, none⟩ = some (.int .i64 y.g) := HI.out.e.cell (C.out 3 _ rfl)
      refine wp_region_part 11 [some 59, some 60, some 61, some 62, some 63, some 64, some 65, some 66, some 67, some 68, some 69] [[5], [59], [4], [61], [9], [62, 63], [64], [65], [60, 66], [67], [5]]
        [Is (.pointer (some ⟨w.heap.size + 1, 5, none⟩)), Is (.int .i64 (s.g)), Is (.pointer (some ⟨w.heap.size, 0, none⟩)), Is (.slice (some ⟨b, o, none⟩) n0 c0), Is (.int .i64 ((j : Int))), Is (.pointer (some ⟨b, o + j * 4, none⟩)), Is (.pointer (some ⟨b, o + j * 4 + 3, none⟩)), Is (.int .i64 (y.g)), Is (.int .i64 (s.g + y.g)), Is (.int .i64 (min 100000 (s.g + y.g))), Is (.pointer (some ⟨w.heap.size + 1, 5, none⟩))]
        (by kernel_rfl) (by kernel_rfl) (by kernel_rfl) (by kernel_rfl) (by kernel_rfl) (by kernel_rfl) (by kernel_rfl) Ext (fun W => Ext W4 W)
        (fun W _ => Ext.refl W) (fun W W' h k => h.trans k) ?_ (Ext.drew _) ?_ ?_
      · repeat (refine ⟨fun _ _ _ _ k h => (by first | exact h | exact (by first | exact IntsAt.ext h k | exact KnV.ext h k | exact NumsV.ext h k)), ?_⟩)
        exact trivial
      · refine ⟨?_, ?_, ?_, ?_, ?_, ?_, ?_, ?_, ?_, ?_, ?_, trivial⟩
        all_goals intro ρ W ⟨kc, kg, kf⟩ hF hs
        · obtain ⟨h0, -⟩ := hs
          replace h0 : ρ (.tmp 5) = .pointer (some ⟨w.heap.size + 1, 0, none⟩) := h0
          go_simp
          exact ⟨Ext.refl _, rfl⟩
        · obtain ⟨h0, -⟩ := hs
          replace h0 : ρ (.tmp 59) = .pointer (some ⟨w.heap.size + 1, 5, none⟩) := h0
          have hc0 : W.cell? ⟨w.heap.size + 1, 5, none⟩ = some (.int .i64 (s.g)) := hF.cell (by assumption)
          go_simp
          exact ⟨Ext.refl _, rfl⟩
        · obtain ⟨h0, -⟩ := hs
          replace h0 : ρ (.tmp 4) = .pointer (some ⟨w.heap.size, 0, none⟩) := h0
          go_simp
          exact ⟨Ext.refl _, rfl⟩
        · obtain ⟨h0, -⟩ := hs
          replace h0 : ρ (.tmp 61) = .pointer (some ⟨w.heap.size, 0, none⟩) := h0
          have hc0 : W.cell? ⟨w.heap.size, 0, none⟩ = some (.slice (some ⟨b, o, none⟩) n0 c0) := hF.cell (by assumption)
          go_simp
          exact ⟨Ext.refl _, rfl⟩
        · obtain ⟨h0, -⟩ := hs
          replace h0 : ρ (.tmp 9) = .int .i64 ((j : Int)) := h0
          go_simp
          exact ⟨Ext.refl _, rfl⟩
        · obtain ⟨h0, h1, -⟩ := hs
          replace h0 : ρ (.tmp 62) = .slice (some ⟨b, o, none⟩) n0 c0 := h0
          replace h1 : ρ (.tmp 63) = .int .i64 ((j : Int)) := h1
          go_simp
          exact ⟨Ext.refl _, rfl⟩
        · obtain ⟨h0, -⟩ := hs
          replace h0 : ρ (.tmp 64) = .pointer (some ⟨b, o + j * 4, none⟩) := h0
          go_simp
          exact ⟨Ext.refl _, rfl⟩
        · obtain ⟨h0, -⟩ := hs
          replace h0 : ρ (.tmp 65) = .pointer (some ⟨b, o + j * 4 + 3, none⟩) := h0
          have hc0 : W.cell? ⟨b, o + j * 4 + 3, none⟩ = some (.int .i64 (y.g)) := hF.cell (by assumption)
          go_simp
          exact ⟨Ext.refl _, rfl⟩
        · obtain ⟨h0, h1, -⟩ := hs
          replace h0 : ρ (.tmp 60) = .int .i64 (s.g) := h0
          replace h1 : ρ (.tmp 66) = .int .i64 (y.g) := h1
          go_simp
          exact ⟨Ext.refl _, rfl⟩
        · obtain ⟨h0, -⟩ := hs
          replace h0 : ρ (.tmp 67) = .int .i64 (s.g + y.g) := h0
          go_simp
          exact ⟨Ext.refl _, rfl⟩
        · obtain ⟨h0, -⟩ := hs
          replace h0 : ρ (.tmp 5) = .pointer (some ⟨w.heap.size + 1, 0, none⟩) := h0
          go_simp
          exact ⟨Ext.refl _, rfl⟩
      · intro fv W5 hF hs
        obtain ⟨-, -, -, -, -, -, -, -, h67, h68, h69, -⟩ := hs
        replace h67 : fv 67 = .int .i64 (s.g + y.g) := h67
        replace h68 : fv 68 = .int .i64 (min 100000 (s.g + y.g)) := h68
        replace h69 : fv 69 = .pointer (some ⟨w.heap.size + 1, 5, none⟩) := h69
        simp only [fin, List.filterMap]
        go_simp
        have HX5 := Lib.hid hF
        replace HI := Lib.hid (HI.out.ext hF)
        replace K8 := Lib.hid (K8.out.ext hF)
        have z8 := K8.out
        clear hF r3
        clear y0 y1 y2 y3 y4 y5 y6 y7 x0 x1 x2 x3 x4 x5 x6 v0 v1 v2
        have y0 : W5.cell? ⟨w.heap.size, 0, none⟩ = some (.slice (some ⟨b, o, none⟩) n0 c0) := HI.out.k0.cell 0
        have y1 : W5.cell? ⟨w.heap.size, 1, none⟩ = some (.slice A1 n1 c1) := HI.out.k0.cell 1
        have y2 : W5.cell? ⟨w.heap.size, 2, none⟩ = some (.slice A2 n2 c2) := HI.out.k0.cell 2
        have y3 : W5.cell? ⟨w.heap.size, 3, none⟩ = some (.slice A3 n3 c3) := HI.out.k0.cell 3
        have y4 : W5.cell? ⟨w.heap.size, 4, none⟩ = some (.int .i64 r.h0) := HI.out.k0.cell 4
        have y5 : W5.cell? ⟨w.heap.size, 5, none⟩ = some (.int .i64 r.h1) := HI.out.k0.cell 5
        have y6 : W5.cell? ⟨w.heap.size, 6, none⟩ = some (.int .i64 r.h2) := HI.out.k0.cell 6
        have y7 : W5.cell? ⟨w.heap.size, 7, none⟩ = some (.int .i64 r.h3) := HI.out.k0.cell 7
        have x0 : W5.cell? ⟨w.heap.size + 1, 0, none⟩ = some (.int .i64 (zp - mv)) := HI.out.k1.cell 0
        have x1 : W5.cell? ⟨w.heap.size + 1, 1, none⟩ = some (.int .i64 (s.a + mv)) := HI.out.k1.cell 1
        have x2 : W5.cell? ⟨w.heap.size + 1, 2, none⟩ = some (.int .i64 0) := HI.out.k1.cell 2
        have x3 : W5.cell? ⟨w.heap.size + 1, 3, none⟩ = some (.int .i64 0) := HI.out.k1.cell 3
        have x4 : W5.cell? ⟨w.heap.size + 1, 4, none⟩ = some (.int .i64 0) := HI.out.k1.cell 4
        have x5 : W5.cell? ⟨w.heap.size + 1, 5, none⟩ = some (.int .i64 s.g) := HI.out.k1.cell 5
        have x6 : W5.cell? ⟨w.heap.size + 1, 6, none⟩ = some (.int .i64 0) := HI.out.k1.cell 6
        have v0 : W5.cell? ⟨w.heap.size + 1 + 1, 0, none⟩ = some (.int .i64 k.h) := HI.out.k2.cell 0
        have v1 : W5.cell? ⟨w.heap.size + 1 + 1, 1, none⟩ = some (.int .i64 k.c) := HI.out.k2.cell 1
        have v2 : W5.cell? ⟨w.heap.size + 1 + 1, 2, none⟩ = some (.int .i64 k.d) := HI.out.k2.cell 2
        have xf0 := HI.out.k1.free 0
        have xf1 := HI.out.k1.free 1
        have xf2 := HI.out.k1.free 2
        have xf3 := HI.out.k1.free 3
        have xf4 := HI.out.k1.free 4
        have xf5 := HI.out.k1.free 5
        have xf6 := HI.out.k1.free 6
        have w0 : W5.cell? ⟨w.heap.size + 1 + 1 + 1, 0, none⟩ = some (.int .i64 0) := z8.cell 0
        have wf0 := z8.free 0
        have w1 : W5.cell? ⟨w.heap.size + 1 + 1 + 1, 1, none⟩ = some (.int .i64 0) := z8.cell 1
        have wf1 := z8.free 1
        have w2 : W5.cell? ⟨w.heap.size + 1 + 1 + 1, 2, none⟩ = some (.int .i64 0) := z8.cell 2
        have wf2 := z8.free 2
        have w3 : W5.cell? ⟨w.heap.size + 1 + 1 + 1, 3, none⟩ = some (.int .i64 0) := z8.cell 3
        have wf3 := z8.free 3
        have w4 : W5.cell? ⟨w.heap.size + 1 + 1 + 1, 4, none⟩ = some (.int .i64 0) := z8.cell 4
        have wf4 := z8.free 4
        have w5 : W5.cell? ⟨w.heap.size + 1 + 1 + 1, 5, none⟩ = some (.int .i64 0) := z8.cell 5
        have wf5 := z8.free 5
        have w6 : W5.cell? ⟨w.heap.size + 1 + 1 + 1, 6, none⟩ = some (.int .i64 0) := z8.cell 6
        have wf6 := z8.free 6
        clear z8
        go_wp2
        exact bodyPost_ret (v := .agg #[.int .i64 (zp - mv), .int .i64 (s.a + mv), .int .i64 0, .int .i64 0, .int .i64 0, .int .i64 (min 100000 (s.g + y.g)), .int .i64 0]) (by simp [results, Tryz.f31, go_sem, w0, w1, w2, w3, w4, w5, w6]) rfl
          ⟨by rw [HST.out, show grownK s.g y.g (s.a + mv) = min 100000 (s.g + y.g) from if_neg (by omega)], Ext.set (Ext.set (Ext.set (Ext.set (Ext.set (Ext.set (Ext.set (Ext.set (HI.out.e) (by dsimp only; omega) _) (by dsimp only; omega) _) (by dsimp only; omega) _) (by dsimp only; omega) _) (by dsimp only; omega) _) (by dsimp only; omega) _) (by dsimp only; omega) _) (by dsimp only; omega) _⟩
    · have hA' : decide (0 < s.a + mv) = false := decide_eq_false hA
      go_wp2
      exact bodyPost_ret (v := .agg #[.int .i64 (zp - mv), .int .i64 (s.a + mv), .int .i64 0, .int .i64 0, .int .i64 0, .int .i64 s.g, .int .i64 0]) (by simp [results, Tryz.f31, go_sem, w0, w1, w2, w3, w4, w5, w6]) rfl
        ⟨by rw [HST.out, show grownK s.g y.g (s.a + mv) = s.g from if_pos (by omega)], Ext.set (Ext.set (Ext.set (Ext.set (Ext.set (Ext.set (Ext.set (Ext.set (Ext.set (HI.out.e) (by dsimp only; omega) _) (by dsimp only; omega) _) (by dsimp only; omega) _) (by dsimp only; omega) _) (by dsimp only; omega) _) (by dsimp only; omega) _) (by dsimp only; omega) _) (by dsimp only; omega) _) (by dsimp only; omega) _⟩

end Go.Proofs.YtkmekbafjnlfkaaGreat

/- A step that is not hot, as the examples have it. -/

namespace Go.Proofs.YtkmekbafjnlfkaaGreat
open Go.RowKit Go.Shelf Go.Mem Go.RegInv
attribute [local go_sem] RelUpon_value RelUpon_skip RelUpon_enter BigFrame.eval_const BigFrame.eval_global BigFrame.eval_func

set_option maxRecDepth 100000 in
set_option maxHeartbeats 16000000 in
theorem refStep_cool {r : Ru} {A0 A1 A2 A3 : Option Addr} {n0 n1 n2 n3 c0 c1 c2 c3 : Nat} {w : World} (s : St) (k : Pk) (x : Int) (h : RuAt w r A0 A1 A2 A3 n0 n1 n2 n3) (hok : RuOK r) (hs : StK s) (hk : PkOK k) {lc ld lt : List Deed} (hv : lastLe (fun y : HK => decide (y.k ≤ x)) r.hs n0 < 0) (hc : (firstK CK.k x r.cs < 0 ∧ lc = []) ∨ ∃ (j : Nat) (y : CK), firstK CK.k x r.cs = (j : Int) ∧ r.cs[j]? = some y ∧ lc = [.c y]) (hd : (firstK DK.k x r.ds < 0 ∧ ld = []) ∨ ∃ (j : Nat) (y : DK), firstK DK.k x r.ds = (j : Int) ∧ r.ds[j]? = some y ∧ ld = [.d y]) (ht : (lastLe (fun y : TK => decide (y.k ≤ x)) r.ts n3 < 0 ∧ lt = []) ∨ ∃ (j : Nat) (y : TK), lastLe (fun y : TK => decide (y.k ≤ x)) r.ts n3 = (j : Int) ∧ r.ts[j]? = some y ∧ lt = [.t y]) :
    Calls Tryz.prog 31 #[.agg #[.slice A0 n0 c0, .slice A1 n1 c1, .slice A2 n2 c2, .slice A3 n3 c3, .int .i64 r.h0, .int .i64 r.h1, .int .i64 r.h2, .int .i64 r.h3], .agg #[.int .i64 s.p, .int .i64 s.a, .int .i64 s.b, .int .i64 s.m, .int .i64 s.wt, .int .i64 s.g, .int .i64 s.t], .int .i64 x, .agg #[.int .i64 k.h, .int .i64 k.c, .int .i64 k.d]] w fun e w' => e = .returned (.agg #[.int .i64 ((lc ++ (ld ++ lt)).foldl (fun s d => stepD d k s) s).p, .int .i64 ((lc ++ (ld ++ lt)).foldl (fun s d => stepD d k s) s).a, .int .i64 ((lc ++ (ld ++ lt)).foldl (fun s d => stepD d k s) s).b, .int .i64 ((lc ++ (ld ++ lt)).foldl (fun s d => stepD d k s) s).m, .int .i64 ((lc ++ (ld ++ lt)).foldl (fun s d => stepD d k s) s).wt, .int .i64 ((lc ++ (ld ++ lt)).foldl (fun s d => stepD d k s) s).g, .int .i64 ((lc ++ (ld ++ lt)).foldl (fun s d => stepD d k s) s).t]) ∧ Ext w w' := by
  have oklc : ∀ d ∈ lc, deedOK d := by
    rcases hc with ⟨_, rfl⟩ | ⟨j, y, _, hy, rfl⟩
    · intro d hd9; cases hd9
    · intro d hd9
      obtain rfl : d = .c y := by simpa using hd9
      exact hok.c y (List.mem_of_getElem? hy)
  have okld : ∀ d ∈ ld, deedOK d := by
    rcases hd with ⟨_, rfl⟩ | ⟨j, y, _, hy, rfl⟩
    · intro d hd9; cases hd9
    · intro d hd9
      obtain rfl : d = .d y := by simpa using hd9
      exact hok.d y (List.mem_of_getElem? hy)
  obtain ⟨z1, hz1⟩ : ∃ z, z = lc.foldl (fun s d => stepD d k s) s := ⟨_, rfl⟩
  obtain ⟨z2, hz2⟩ : ∃ z, z = ld.foldl (fun s d => stepD d k s) z1 := ⟨_, rfl⟩
  obtain ⟨z3, hz3⟩ : ∃ z, z = lt.foldl (fun s d => stepD d k s) z2 := ⟨_, rfl⟩
  rw [show (lc ++ (ld ++ lt)).foldl (fun s d => stepD d k s) s = z3 by rw [hz3, hz2, hz1, List.foldl_append, List.foldl_append]]
  have HAT := Lib.hid h
  have HOK := Lib.hid hok
  have HZs := Lib.hid hs
  have HZz1 := Lib.hid (show StK z1 by rw [hz1]; exact fold_ok hk oklc hs)
  have HZz2 := Lib.hid (show StK z2 by rw [hz2]; exact fold_ok hk okld HZz1.out)
  have HY1 := Lib.hid hz1
  have HY2 := Lib.hid hz2
  have HY3 := Lib.hid hz3
  have HPK := Lib.hid hk
  have HHA := Lib.hid (fun (W : World) (e : Ext w W) => heatAt_any (c0 := c0) (c1 := c1) (c2 := c2) (c3 := c3) (h.ext e) x)
  have HCA := Lib.hid (fun (W : World) (e : Ext w W) => coolAt_any (c0 := c0) (c1 := c1) (c2 := c2) (c3 := c3) (h.ext e) x)
  have HDA := Lib.hid (fun (W : World) (e : Ext w W) => coldAt_any (c0 := c0) (c1 := c1) (c2 := c2) (c3 := c3) (h.ext e) x)
  have HTA := Lib.hid (fun (W : World) (e : Ext w W) => temperAt_any (c0 := c0) (c1 := c1) (c2 := c2) (c3 := c3) (h.ext e) x)
  generalize lastLe (fun y : HK => decide (y.k ≤ x)) r.hs n0 = vh at HHA hv
  generalize firstK CK.k x r.cs = vc at HCA hc
  generalize firstK DK.k x r.ds = vd at HDA hd
  generalize lastLe (fun y : TK => decide (y.k ≤ x)) r.ts n3 = vt at HTA ht
  have dv : decide (0 ≤ vh) = false := decide_eq_false (by omega)
  clear h hok hs hk hz1 hz2 hz3 oklc okld
  obtain ⟨W0, hW0⟩ : ∃ W0, W0 = (((w.alloc (.cells #[.slice A0 n0 c0, .slice A1 n1 c1, .slice A2 n2 c2, .slice A3 n3 c3, .int .i64 r.h0, .int .i64 r.h1, .int .i64 r.h2, .int .i64 r.h3] 28)).alloc (.cells #[.int .i64 s.p, .int .i64 s.a, .int .i64 s.b, .int .i64 s.m, .int .i64 s.wt, .int .i64 s.g, .int .i64 s.t] 30)).alloc (.cells #[.int .i64 k.h, .int .i64 k.c, .int .i64 k.d] 32)).alloc (.cells #[.int .i64 0, .int .i64 0, .int .i64 0, .int .i64 0, .int .i64 0, .int .i64 0, .int .i64 0] 30) := ⟨_, rfl⟩
  have HI := Lib.hid (show BoxI w W0 32 #[.slice A0 n0 c0, .slice A1 n1 c1, .slice A2 n2 c2, .slice A3 n3 c3, .int .i64 r.h0, .int .i64 r.h1, .int .i64 r.h2, .int .i64 r.h3] s #[.int .i64 k.h, .int .i64 k.c, .int .i64 k.d] by rw [hW0]; exact (BoxI.new _ _ _ _ _).ext (Ext.alloc _ _))
  have K8 := Lib.hid (show Blk W0 (w.heap.size + 1 + 1 + 1) 30 #[.int .i64 0, .int .i64 0, .int .i64 0, .int .i64 0, .int .i64 0, .int .i64 0, .int .i64 0] by rw [hW0]; exact Blk.newAt _ _ _ (by simp))
  go_enter Tryz.func31, Tryz.ntmps31
  go_wp2_with (go_at_call 65; rw [← hW0]; refine (HHA.out _ HI.out.e).mono ?_; rintro e W1 ⟨rfl, hx⟩; have XT := Lib.hid hx; clear hx hW0; refine Hid.out ?_)
  refine Lib.hid ?_
  replace HI := Lib.hid (HI.out.ext XT.out)
  replace K8 := Lib.hid (K8.out.ext XT.out)
  clear XT
  have y0 : W1.cell? ⟨w.heap.size, 0, none⟩ = some (.slice A0 n0 c0) := HI.out.k0.cell 0
  have y1 : W1.cell? ⟨w.heap.size, 1, none⟩ = some (.slice A1 n1 c1) := HI.out.k0.cell 1
  have y2 : W1.cell? ⟨w.heap.size, 2, none⟩ = some (.slice A2 n2 c2) := HI.out.k0.cell 2
  have y3 : W1.cell? ⟨w.heap.size, 3, none⟩ = some (.slice A3 n3 c3) := HI.out.k0.cell 3
  have y4 : W1.cell? ⟨w.heap.size, 4, none⟩ = some (.int .i64 r.h0) := HI.out.k0.cell 4
  have y5 : W1.cell? ⟨w.heap.size, 5, none⟩ = some (.int .i64 r.h1) := HI.out.k0.cell 5
  have y6 : W1.cell? ⟨w.heap.size, 6, none⟩ = some (.int .i64 r.h2) := HI.out.k0.cell 6
  have y7 : W1.cell? ⟨w.heap.size, 7, none⟩ = some (.int .i64 r.h3) := HI.out.k0.cell 7
  have x0 : W1.cell? ⟨w.heap.size + 1, 0, none⟩ = some (.int .i64 s.p) := HI.out.k1.cell 0
  have x1 : W1.cell? ⟨w.heap.size + 1, 1, none⟩ = some (.int .i64 s.a) := HI.out.k1.cell 1
  have x2 : W1.cell? ⟨w.heap.size + 1, 2, none⟩ = some (.int .i64 s.b) := HI.out.k1.cell 2
  have x3 : W1.cell? ⟨w.heap.size + 1, 3, none⟩ = some (.int .i64 s.m) := HI.out.k1.cell 3
  have x4 : W1.cell? ⟨w.heap.size + 1, 4, none⟩ = some (.int .i64 s.wt) := HI.out.k1.cell 4
  have x5 : W1.cell? ⟨w.heap.size + 1, 5, none⟩ = some (.int .i64 s.g) := HI.out.k1.cell 5
  have x6 : W1.cell? ⟨w.heap.size + 1, 6, none⟩ = some (.int .i64 s.t) := HI.out.k1.cell 6
  have v0 : W1.cell? ⟨w.heap.size + 1 + 1, 0, none⟩ = some (.int .i64 k.h) := HI.out.k2.cell 0
  have v1 : W1.cell? ⟨w.heap.size + 1 + 1, 1, none⟩ = some (.int .i64 k.c) := HI.out.k2.cell 1
  have v2 : W1.cell? ⟨w.heap.size + 1 + 1, 2, none⟩ = some (.int .i64 k.d) := HI.out.k2.cell 2
  go_upto_if 75 with (go_at_call 66; refine (HCA.out _ HI.out.e).mono ?_; rintro e Wc ⟨rfl, hx⟩; have XT := Lib.hid hx; clear hx)
  replace HI := Lib.hid (HI.out.ext XT.out)
  replace K8 := Lib.hid (K8.out.ext XT.out)
  clear XT HCA
  clear y0 y1 y2 y3 y4 y5 y6 y7 x0 x1 x2 x3 x4 x5 x6 v0 v1 v2
  have y0 : Wc.cell? ⟨w.heap.size, 0, none⟩ = some (.slice A0 n0 c0) := HI.out.k0.cell 0
  have y1 : Wc.cell? ⟨w.heap.size, 1, none⟩ = some (.slice A1 n1 c1) := HI.out.k0.cell 1
  have y2 : Wc.cell? ⟨w.heap.size, 2, none⟩ = some (.slice A2 n2 c2) := HI.out.k0.cell 2
  have y3 : Wc.cell? ⟨w.heap.size, 3, none⟩ = some (.slice A3 n3 c3) := HI.out.k0.cell 3
  have y4 : Wc.cell? ⟨w.heap.size, 4, none⟩ = some (.int .i64 r.h0) := HI.out.k0.cell 4
  have y5 : Wc.cell? ⟨w.heap.size, 5, none⟩ = some (.int .i64 r.h1) := HI.out.k0.cell 5
  have y6 : Wc.cell? ⟨w.heap.size, 6, none⟩ = some (.int .i64 r.h2) := HI.out.k0.cell 6
  have y7 : Wc.cell? ⟨w.heap.size, 7, none⟩ = some (.int .i64 r.h3) := HI.out.k0.cell 7
  have x0 : Wc.cell? ⟨w.heap.size + 1, 0, none⟩ = some (.int .i64 s.p) := HI.out.k1.cell 0
  have x1 : Wc.cell? ⟨w.heap.size + 1, 1, none⟩ = some (.int .i64 s.a) := HI.out.k1.cell 1
  have x2 : Wc.cell? ⟨w.heap.size + 1, 2, none⟩ = some (.int .i64 s.b) := HI.out.k1.cell 2
  have x3 : Wc.cell? ⟨w.heap.size + 1, 3, none⟩ = some (.int .i64 s.m) := HI.out.k1.cell 3
  have x4 : Wc.cell? ⟨w.heap.size + 1, 4, none⟩ = some (.int .i64 s.wt) := HI.out.k1.cell 4
  have x5 : Wc.cell? ⟨w.heap.size + 1, 5, none⟩ = some (.int .i64 s.g) := HI.out.k1.cell 5
  have x6 : Wc.cell? ⟨w.heap.size + 1, 6, none⟩ = some (.int .i64 s.t) := HI.out.k1.cell 6
  have v0 : Wc.cell? ⟨w.heap.size + 1 + 1, 0, none⟩ = some (.int .i64 k.h) := HI.out.k2.cell 0
  have v1 : Wc.cell? ⟨w.heap.size + 1 + 1, 1, none⟩ = some (.int .i64 k.c) := HI.out.k2.cell 1
  have v2 : Wc.cell? ⟨w.heap.size + 1 + 1, 2, none⟩ = some (.int .i64 k.d) := HI.out.k2.cell 2
  go_cut [12] from 75 to 114 (fun s12 wx => BoxI w wx 32 #[.slice A0 n0 c0, .slice A1 n1 c1, .slice A2 n2 c2, .slice A3 n3 c3, .int .i64 r.h0, .int .i64 r.h1, .int .i64 r.h2, .int .i64 r.h3] z1 #[.int .i64 k.h, .int .i64 k.c, .int .i64 k.d] ∧ Blk wx (w.heap.size + 1 + 1 + 1) 30 #[.int .i64 0, .int .i64 0, .int .i64 0, .int .i64 0, .int .i64 0, .int .i64 0, .int .i64 0])
  case first =>
    rcases hc with ⟨hq, rfl⟩ | ⟨j1, u1, hq, hu, rfl⟩
    · have dq : decide (0 ≤ vc) = false := decide_eq_false (by omega)
      go_wp2
      go_meet
      exact ⟨by rw [HY1.out]; exact HI.out, K8.out⟩
    · subst hq
      obtain ⟨b1, o1, hAe, hbx, hcx⟩ := HAT.out.r1.2 j1 u1 hu
      have hjn : j1 < n1 := by have := (List.getElem?_eq_some_iff.1 hu).1; have := HAT.out.l1; omega
      have hji : (j1 : Int) < (n1 : Int) := by omega
      have hmem := List.mem_of_getElem? hu
      subst hAe
      have C1 := Lib.hid hcx
      clear hbx hcx hu
      obtain ⟨hp1, hp2⟩ := HZs.out.hp
      obtain ⟨ha1, ha2⟩ := HZs.out.ha
      obtain ⟨hb1, hb2⟩ := HZs.out.hb
      obtain ⟨hm1, hm2⟩ := HZs.out.hm
      obtain ⟨hw1, hw2⟩ := HZs.out.hw
      obtain ⟨ht1, ht2⟩ := HZs.out.ht
      have hsum := HZs.out.sum
      obtain ⟨⟨g1, g2, g3⟩, g4, g5, g6⟩ := HOK.out.c u1 hmem
      obtain ⟨kk1, kk2, kk3, kk4, kk5, kk6⟩ := HPK.out
      obtain ⟨pb1, pb2⟩ := pick_bd (part := k.c) g1 g2 g3 kk3 kk4
      obtain ⟨pb3, pb4⟩ := pick_bd (part := k.c) g4 g5 g6 kk3 kk4
      have HP := Lib.hid (fun W => refPicked_any u1.wlo u1.whi k.c W g1 g2 g3 kk3 kk4)
      have HQ := Lib.hid (fun W => refPicked_any u1.rlo u1.rhi k.c W g4 g5 g6 kk3 kk4)
      have hze : z1 = ⟨s.p, s.a - min s.a (formedK (waitedK s.wt (pickK u1.wlo u1.whi k.c)) (pickK u1.rlo u1.rhi k.c)), s.b + min s.a (formedK (waitedK s.wt (pickK u1.wlo u1.whi k.c)) (pickK u1.rlo u1.rhi k.c)), s.m, waitedK s.wt (pickK u1.wlo u1.whi k.c), s.g, s.t⟩ := HY1.out
      generalize pickK u1.wlo u1.whi k.c = pw at HP hze pb1 pb2
      generalize pickK u1.rlo u1.rhi k.c = pr at HQ hze pb3 pb4
      obtain ⟨nw, hnw⟩ : ∃ nw, nw = min 1000000 (s.wt + pw) := ⟨_, rfl⟩
      rw [show waitedK s.wt pw = nw from hnw.symm] at hze
      have nb1 : 0 ≤ nw := by omega
      have nb2 : nw ≤ 1000000 := by omega
      have pr0 : 0 ≤ pr := by omega
      have hwr : IntKind.i64.wrap (s.wt + pw) = s.wt + pw := wrap_id _ (by omega) (by omega)
      have HNW := Lib.hid hnw
      have HZE := Lib.hid hze
      have q1 : Wc.cell? ⟨b1, o1 + j1 * 5 + 1, none⟩ = some (.int .i64 u1.wlo) := HI.out.e.cell (C1.out 1 _ rfl)
      have q2 : Wc.cell? ⟨b1, o1 + j1 * 5 + 1 + 1, none⟩ = some (.int .i64 u1.whi) := HI.out.e.cell (C1.out 2 _ rfl)
      clear hnw hze g1 g2 g3 g4 g5 g6 kk1 kk2 kk3 kk4 kk5 kk6 pb1 pb2
      go_wp2
      refine wp_region_part 14 [some 76, some 77, some 78, some 79, some 80, some 81, some 82, some 83, some 84, some 85, some 86, some 87, some 88, some 89] [[5], [76], [4], [78], [11], [79, 80], [81], [82], [7], [84], [83, 85], [77, 86], [87], [5]]
        [Is (.pointer (some ⟨w.heap.size + 1, 4, none⟩)), Is (.int .i64 (s.wt)), Is (.pointer (some ⟨w.heap.size, 1, none⟩)), Is (.slice (some ⟨b1, o1, none⟩) n1 c1), Is (.int .i64 ((j1 : Int))), Is (.pointer (some ⟨b1, o1 + j1 * 5, none⟩)), Is (.pointer (some ⟨b1, o1 + j1 * 5 + 1, none⟩)), Is (.agg #[.int .i64 (u1.wlo), .int .i64 (u1.whi)]), Is (.pointer (some ⟨w.heap.size + 1 + 1, 1, none⟩)), Is (.int .i64 (k.c)), Is (.int .i64 (pw)), Is (.int .i64 (s.wt + pw)), Is (.int .i64 (min 1000000 (s.wt + pw))), Is (.pointer (some ⟨w.heap.size + 1, 4, none⟩))]
        (by kernel_rfl) (by kernel_rfl) (by kernel_rfl) (by kernel_rfl) (by kernel_rfl) (by kernel_rfl) (by kernel_rfl) Ext (fun W => Ext Wc W)
        (fun W _ => Ext.refl W) (fun W W' h k => h.trans k) ?_ (Ext.drew _) ?_ ?_
      · repeat (refine ⟨fun _ _ _ _ k h => (by first | exact h | exact (by first | exact IntsAt.ext h k | exact KnV.ext h k | exact NumsV.ext h k)), ?_⟩)
        exact trivial
      · refine ⟨?_, ?_, ?_, ?_, ?_, ?_, ?_, ?_, ?_, ?_, ?_, ?_, ?_, ?_, trivial⟩
        all_goals intro ρ W ⟨kc, kg, kf⟩ hF hs
        · obtain ⟨h0, -⟩ := hs
          replace h0 : ρ (.tmp 5) = .pointer (some ⟨w.heap.size + 1, 0, none⟩) := h0
          go_simp
          exact ⟨Ext.refl _, rfl⟩
        · obtain ⟨h0, -⟩ := hs
          replace h0 : ρ (.tmp 76) = .pointer (some ⟨w.heap.size + 1, 4, none⟩) := h0
          have hc0 : W.cell? ⟨w.heap.size + 1, 4, none⟩ = some (.int .i64 (s.wt)) := hF.cell (by assumption)
          go_simp
          exact ⟨Ext.refl _, rfl⟩
        · obtain ⟨h0, -⟩ := hs
          replace h0 : ρ (.tmp 4) = .pointer (some ⟨w.heap.size, 0, none⟩) := h0
          go_simp
          exact ⟨Ext.refl _, rfl⟩
        · obtain ⟨h0, -⟩ := hs
          replace h0 : ρ (.tmp 78) = .pointer (some ⟨w.heap.size, 1, none⟩) := h0
          have hc0 : W.cell? ⟨w.heap.size, 1, none⟩ = some (.slice (some ⟨b1, o1, none⟩) n1 c1) := hF.cell (by assumption)
          go_simp
          exact ⟨Ext.refl _, rfl⟩
        · obtain ⟨h0, -⟩ := hs
          replace h0 : ρ (.tmp 11) = .int .i64 ((j1 : Int)) := h0
          go_simp
          exact ⟨Ext.refl _, rfl⟩
        · obtain ⟨h0, h1, -⟩ := hs
          replace h0 : ρ (.tmp 79) = .slice (some ⟨b1, o1, none⟩) n1 c1 := h0
          replace h1 : ρ (.tmp 80) = .int .i64 ((j1 : Int)) := h1
          go_simp
          exact ⟨Ext.refl _, rfl⟩
        · obtain ⟨h0, -⟩ := hs
          replace h0 : ρ (.tmp 81) = .pointer (some ⟨b1, o1 + j1 * 5, none⟩) := h0
          go_simp
          exact ⟨Ext.refl _, rfl⟩
        · obtain ⟨h0, -⟩ := hs
          replace h0 : ρ (.tmp 82) = .pointer (some ⟨b1, o1 + j1 * 5 + 1, none⟩) := h0
          have hc0 : W.cell? ⟨b1, o1 + j1 * 5 + 1, none⟩ = some (.int .i64 (u1.wlo)) := hF.cell (by assumption)
          have hc1 : W.cell? ⟨b1, o1 + j1 * 5 + 1 + 1, none⟩ = some (.int .i64 (u1.whi)) := hF.cell (by assumption)
          go_simp
          exact ⟨Ext.refl _, rfl⟩
        · obtain ⟨h0, -⟩ := hs
          replace h0 : ρ (.tmp 7) = .pointer (some ⟨w.heap.size + 1 + 1, 0, none⟩) := h0
          go_simp
          exact ⟨Ext.refl _, rfl⟩
        · obtain ⟨h0, -⟩ := hs
          replace h0 : ρ (.tmp 84) = .pointer (some ⟨w.heap.size + 1 + 1, 1, none⟩) := h0
          have hc0 : W.cell? ⟨w.heap.size + 1 + 1, 1, none⟩ = some (.int .i64 (k.c)) := hF.cell (by assumption)
          go_simp
          exact ⟨Ext.refl _, rfl⟩
        · obtain ⟨h0, h1, -⟩ := hs
          replace h0 : ρ (.tmp 83) = .agg #[.int .i64 (u1.wlo), .int .i64 (u1.whi)] := h0
          replace h1 : ρ (.tmp 85) = .int .i64 (k.c) := h1
          go_simp
          refine (HP.out _).mono ?_; rintro e w' ⟨rfl, hx⟩; exact ⟨_, rfl, hx, rfl⟩
        · obtain ⟨h0, h1, -⟩ := hs
          replace h0 : ρ (.tmp 77) = .int .i64 (s.wt) := h0
          replace h1 : ρ (.tmp 86) = .int .i64 (pw) := h1
          go_simp
          exact ⟨Ext.refl _, rfl⟩
        · obtain ⟨h0, -⟩ := hs
          replace h0 : ρ (.tmp 87) = .int .i64 (s.wt + pw) := h0
          go_simp
          exact ⟨Ext.refl _, rfl⟩
        · obtain ⟨h0, -⟩ := hs
          replace h0 : ρ (.tmp 5) = .pointer (some ⟨w.heap.size + 1, 0, none⟩) := h0
          go_simp
          exact ⟨Ext.refl _, rfl⟩
      · intro fv Wg hF hs
        obtain ⟨-, -, -, -, -, -, -, -, -, -, -, h87, h88, h89, -⟩ := hs
        replace h87 : fv 87 = .int .i64 (s.wt + pw) := h87
        replace h88 : fv 88 = .int .i64 (min 1000000 (s.wt + pw)) := h88
        replace h89 : fv 89 = .pointer (some ⟨w.heap.size + 1, 4, none⟩) := h89
        simp only [fin, List.filterMap]
        go_simp
        replace HI := Lib.hid (HI.out.ext hF)
        replace K8 := Lib.hid (K8.out.ext hF)
        clear hF q1 q2 HP hwr
        clear y0 y1 y2 y3 y4 y5 y6 y7 x0 x1 x2 x3 x4 x5 x6 v0 v1 v2
        have y0 : Wg.cell? ⟨w.heap.size, 0, none⟩ = some (.slice A0 n0 c0) := HI.out.k0.cell 0
        have y1 : Wg.cell? ⟨w.heap.size, 1, none⟩ = some (.slice (some ⟨b1, o1, none⟩) n1 c1) := HI.out.k0.cell 1
        have y2 : Wg.cell? ⟨w.heap.size, 2, none⟩ = some (.slice A2 n2 c2) := HI.out.k0.cell 2
        have y3 : Wg.cell? ⟨w.heap.size, 3, none⟩ = some (.slice A3 n3 c3) := HI.out.k0.cell 3
        have y4 : Wg.cell? ⟨w.heap.size, 4, none⟩ = some (.int .i64 r.h0) := HI.out.k0.cell 4
        have y5 : Wg.cell? ⟨w.heap.size, 5, none⟩ = some (.int .i64 r.h1) := HI.out.k0.cell 5
        have y6 : Wg.cell? ⟨w.heap.size, 6, none⟩ = some (.int .i64 r.h2) := HI.out.k0.cell 6
        have y7 : Wg.cell? ⟨w.heap.size, 7, none⟩ = some (.int .i64 r.h3) := HI.out.k0.cell 7
        have x0 : Wg.cell? ⟨w.heap.size + 1, 0, none⟩ = some (.int .i64 s.p) := HI.out.k1.cell 0
        have x1 : Wg.cell? ⟨w.heap.size + 1, 1, none⟩ = some (.int .i64 s.a) := HI.out.k1.cell 1
        have x2 : Wg.cell? ⟨w.heap.size + 1, 2, none⟩ = some (.int .i64 s.b) := HI.out.k1.cell 2
        have x3 : Wg.cell? ⟨w.heap.size + 1, 3, none⟩ = some (.int .i64 s.m) := HI.out.k1.cell 3
        have x4 : Wg.cell? ⟨w.heap.size + 1, 4, none⟩ = some (.int .i64 s.wt) := HI.out.k1.cell 4
        have x5 : Wg.cell? ⟨w.heap.size + 1, 5, none⟩ = some (.int .i64 s.g) := HI.out.k1.cell 5
        have x6 : Wg.cell? ⟨w.heap.size + 1, 6, none⟩ = some (.int .i64 s.t) := HI.out.k1.cell 6
        have v0 : Wg.cell? ⟨w.heap.size + 1 + 1, 0, none⟩ = some (.int .i64 k.h) := HI.out.k2.cell 0
        have v1 : Wg.cell? ⟨w.heap.size + 1 + 1, 1, none⟩ = some (.int .i64 k.c) := HI.out.k2.cell 1
        have v2 : Wg.cell? ⟨w.heap.size + 1 + 1, 2, none⟩ = some (.int .i64 k.d) := HI.out.k2.cell 2
        have xf0 := HI.out.k1.free 0
        have xf1 := HI.out.k1.free 1
        have xf2 := HI.out.k1.free 2
        have xf3 := HI.out.k1.free 3
        have xf4 := HI.out.k1.free 4
        have xf5 := HI.out.k1.free 5
        have xf6 := HI.out.k1.free 6
        have HIn := Lib.hid (show BoxI w (Wg.setCell ⟨w.heap.size + 1, 4, none⟩ (.int .i64 nw)) 32 #[.slice A0 n0 c0, .slice (some ⟨b1, o1, none⟩) n1 c1, .slice A2 n2 c2, .slice A3 n3 c3, .int .i64 r.h0, .int .i64 r.h1, .int .i64 r.h2, .int .i64 r.h3] ⟨s.p, s.a, s.b, s.m, nw, s.g, s.t⟩ #[.int .i64 k.h, .int .i64 k.c, .int .i64 k.d] by
          have h7 := (HI.out.k1.setSame 4 (.int .i64 nw))
          simp only [List.setIfInBounds_toArray, List.set_cons_zero, List.set_cons_succ] at h7
          exact ⟨(HI.out.k0.setOther (by dsimp only; omega) _), h7, (HI.out.k2.setOther (by dsimp only; omega) _), Ext.set (HI.out.e) (by dsimp only; omega) _⟩)
        have K8n := Lib.hid (show Blk (Wg.setCell ⟨w.heap.size + 1, 4, none⟩ (.int .i64 nw)) (w.heap.size + 1 + 1 + 1) 30 #[.int .i64 0, .int .i64 0, .int .i64 0, .int .i64 0, .int .i64 0, .int .i64 0, .int .i64 0] from (K8.out.setOther (by dsimp only; omega) _))
        refine wpList_plain rfl (fun K hK => ?_)
        go_simp
        rw [← HNW.out]
        obtain ⟨Wh, hWn⟩ : ∃ V, V = Wg.setCell ⟨w.heap.size + 1, 4, none⟩ (.int .i64 nw) := ⟨_, rfl⟩
        rw [← hWn] at HIn K8n ⊢
        clear hWn
        refine hK _ _ ?_
        clear hK
        clear y0 y1 y2 y3 y4 y5 y6 y7 x0 x1 x2 x3 x4 x5 x6 v0 v1 v2 xf0 xf1 xf2 xf3 xf4 xf5 xf6
        replace HI := HIn
        replace K8 := K8n
        clear HIn K8n
        have y0 : Wh.cell? ⟨w.heap.size, 0, none⟩ = some (.slice A0 n0 c0) := HI.out.k0.cell 0
        have y1 : Wh.cell? ⟨w.heap.size, 1, none⟩ = some (.slice (some ⟨b1, o1, none⟩) n1 c1) := HI.out.k0.cell 1
        have y2 : Wh.cell? ⟨w.heap.size, 2, none⟩ = some (.slice A2 n2 c2) := HI.out.k0.cell 2
        have y3 : Wh.cell? ⟨w.heap.size, 3, none⟩ = some (.slice A3 n3 c3) := HI.out.k0.cell 3
        have y4 : Wh.cell? ⟨w.heap.size, 4, none⟩ = some (.int .i64 r.h0) := HI.out.k0.cell 4
        have y5 : Wh.cell? ⟨w.heap.size, 5, none⟩ = some (.int .i64 r.h1) := HI.out.k0.cell 5
        have y6 : Wh.cell? ⟨w.heap.size, 6, none⟩ = some (.int .i64 r.h2) := HI.out.k0.cell 6
        have y7 : Wh.cell? ⟨w.heap.size, 7, none⟩ = some (.int .i64 r.h3) := HI.out.k0.cell 7
        have x0 : Wh.cell? ⟨w.heap.size + 1, 0, none⟩ = some (.int .i64 s.p) := HI.out.k1.cell 0
        have x1 : Wh.cell? ⟨w.heap.size + 1, 1, none⟩ = some (.int .i64 s.a) := HI.out.k1.cell 1
        have x2 : Wh.cell? ⟨w.heap.size + 1, 2, none⟩ = some (.int .i64 s.b) := HI.out.k1.cell 2
        have x3 : Wh.cell? ⟨w.heap.size + 1, 3, none⟩ = some (.int .i64 s.m) := HI.out.k1.cell 3
        have x4 : Wh.cell? ⟨w.heap.size + 1, 4, none⟩ = some (.int .i64 nw) := HI.out.k1.cell 4
        have x5 : Wh.cell? ⟨w.heap.size + 1, 5, none⟩ = some (.int .i64 s.g) := HI.out.k1.cell 5
        have x6 : Wh.cell? ⟨w.heap.size + 1, 6, none⟩ = some (.int .i64 s.t) := HI.out.k1.cell 6
        have v0 : Wh.cell? ⟨w.heap.size + 1 + 1, 0, none⟩ = some (.int .i64 k.h) := HI.out.k2.cell 0
        have v1 : Wh.cell? ⟨w.heap.size + 1 + 1, 1, none⟩ = some (.int .i64 k.c) := HI.out.k2.cell 1
        have v2 : Wh.cell? ⟨w.heap.size + 1 + 1, 2, none⟩ = some (.int .i64 k.d) := HI.out.k2.cell 2
        by_cases hW : nw = 1000000
        · have hWd : (nw == 1000000) = true := by simp [hW]
          obtain ⟨mv, hmv⟩ : ∃ mv, mv = min s.a pr := ⟨_, rfl⟩
          have HZS := Lib.hid (show (⟨s.p, (s.a - mv), (s.b + mv), s.m, nw, s.g, s.t⟩ : St) = z1 by rw [HZE.out, show formedK nw pr = pr from if_neg (by omega), ← hmv])
          have mb1 : 0 ≤ mv := by omega
          have mb2 : mv ≤ s.a := by omega
          have HMV := Lib.hid hmv
          have q3 : Wh.cell? ⟨b1, o1 + j1 * 5 + 3, none⟩ = some (.int .i64 u1.rlo) := HI.out.e.cell (C1.out 3 _ rfl)
          have q4 : Wh.cell? ⟨b1, o1 + j1 * 5 + 3 + 1, none⟩ = some (.int .i64 u1.rhi) := HI.out.e.cell (C1.out 4 _ rfl)
          clear hmv hW
          go_wp2
          refine wp_region_each [some 93, some 94, some 95, some 96, some 97, some 98, some 99, some 100, some 101, some 102, some 103, some 104, some 12] [[5], [93], [4], [95], [11], [96, 97], [98], [99], [7], [101], [100, 102], [94, 103], [104]]
            [Is (.pointer (some ⟨w.heap.size + 1, 1, none⟩)), Is (.int .i64 (s.a)), Is (.pointer (some ⟨w.heap.size, 1, none⟩)), Is (.slice (some ⟨b1, o1, none⟩) n1 c1), Is (.int .i64 ((j1 : Int))), Is (.pointer (some ⟨b1, o1 + j1 * 5, none⟩)), Is (.pointer (some ⟨b1, o1 + j1 * 5 + 3, none⟩)), Is (.agg #[.int .i64 (u1.rlo), .int .i64 (u1.rhi)]), Is (.pointer (some ⟨w.heap.size + 1 + 1, 1, none⟩)), Is (.int .i64 (k.c)), Is (.int .i64 (pr)), Is (.int .i64 (min s.a pr)), Is (.int .i64 (min s.a pr))]
            (by kernel_rfl) (by kernel_rfl) (by kernel_rfl) (by kernel_rfl) (by kernel_rfl) Ext (fun W => Ext Wh W)
            (fun W _ => Ext.refl W) (fun W W' h k => h.trans k) ?_ (Ext.drew _) ?_ ?_
          · repeat (refine ⟨fun _ _ _ _ k h => (by first | exact h | exact (by first | exact IntsAt.ext h k | exact KnV.ext h k | exact NumsV.ext h k)), ?_⟩)
            exact trivial
          · refine ⟨?_, ?_, ?_, ?_, ?_, ?_, ?_, ?_, ?_, ?_, ?_, ?_, ?_, trivial⟩
            all_goals intro ρ W ⟨kc, kg, kf⟩ hF hs
            · obtain ⟨h0, -⟩ := hs
              replace h0 : ρ (.tmp 5) = .pointer (some ⟨w.heap.size + 1, 0, none⟩) := h0
              go_simp
              exact ⟨Ext.refl _, rfl⟩
            · obtain ⟨h0, -⟩ := hs
              replace h0 : ρ (.tmp 93) = .pointer (some ⟨w.heap.size + 1, 1, none⟩) := h0
              have hc0 : W.cell? ⟨w.heap.size + 1, 1, none⟩ = some (.int .i64 (s.a)) := hF.cell (by assumption)
              go_simp
              exact ⟨Ext.refl _, rfl⟩
            · obtain ⟨h0, -⟩ := hs
              replace h0 : ρ (.tmp 4) = .pointer (some ⟨w.heap.size, 0, none⟩) := h0
              go_simp
              exact ⟨Ext.refl _, rfl⟩
            · obtain ⟨h0, -⟩ := hs
              replace h0 : ρ (.tmp 95) = .pointer (some ⟨w.heap.size, 1, none⟩) := h0
              have hc0 : W.cell? ⟨w.heap.size, 1, none⟩ = some (.slice (some ⟨b1, o1, none⟩) n1 c1) := hF.cell (by assumption)
              go_simp
              exact ⟨Ext.refl _, rfl⟩
            · obtain ⟨h0, -⟩ := hs
              replace h0 : ρ (.tmp 11) = .int .i64 ((j1 : Int)) := h0
              go_simp
              exact ⟨Ext.refl _, rfl⟩
            · obtain ⟨h0, h1, -⟩ := hs
              replace h0 : ρ (.tmp 96) = .slice (some ⟨b1, o1, none⟩) n1 c1 := h0
              replace h1 : ρ (.tmp 97) = .int .i64 ((j1 : Int)) := h1
              go_simp
              exact ⟨Ext.refl _, rfl⟩
            · obtain ⟨h0, -⟩ := hs
              replace h0 : ρ (.tmp 98) = .pointer (some ⟨b1, o1 + j1 * 5, none⟩) := h0
              go_simp
              exact ⟨Ext.refl _, rfl⟩
            · obtain ⟨h0, -⟩ := hs
              replace h0 : ρ (.tmp 99) = .pointer (some ⟨b1, o1 + j1 * 5 + 3, none⟩) := h0
              have hc0 : W.cell? ⟨b1, o1 + j1 * 5 + 3, none⟩ = some (.int .i64 (u1.rlo)) := hF.cell (by assumption)
              have hc1 : W.cell? ⟨b1, o1 + j1 * 5 + 3 + 1, none⟩ = some (.int .i64 (u1.rhi)) := hF.cell (by assumption)
              go_simp
              exact ⟨Ext.refl _, rfl⟩
            · obtain ⟨h0, -⟩ := hs
              replace h0 : ρ (.tmp 7) = .pointer (some ⟨w.heap.size + 1 + 1, 0, none⟩) := h0
              go_simp
              exact ⟨Ext.refl _, rfl⟩
            · obtain ⟨h0, -⟩ := hs
              replace h0 : ρ (.tmp 101) = .pointer (some ⟨w.heap.size + 1 + 1, 1, none⟩) := h0
              have hc0 : W.cell? ⟨w.heap.size + 1 + 1, 1, none⟩ = some (.int .i64 (k.c)) := hF.cell (by assumption)
              go_simp
              exact ⟨Ext.refl _, rfl⟩
            · obtain ⟨h0, h1, -⟩ := hs
              replace h0 : ρ (.tmp 100) = .agg #[.int .i64 (u1.rlo), .int .i64 (u1.rhi)] := h0
              replace h1 : ρ (.tmp 102) = .int .i64 (k.c) := h1
              go_simp
              refine (HQ.out _).mono ?_; rintro e w' ⟨rfl, hx⟩; exact ⟨_, rfl, hx, rfl⟩
            · obtain ⟨h0, h1, -⟩ := hs
              replace h0 : ρ (.tmp 94) = .int .i64 (s.a) := h0
              replace h1 : ρ (.tmp 103) = .int .i64 (pr) := h1
              go_simp
              exact ⟨Ext.refl _, rfl⟩
            · obtain ⟨h0, -⟩ := hs
              replace h0 : ρ (.tmp 104) = .int .i64 (min s.a pr) := h0
              go_simp
              exact ⟨Ext.refl _, rfl⟩
          · intro fv Wi hF hs
            obtain ⟨-, -, -, -, -, -, -, -, -, -, -, -, h12, -⟩ := hs
            replace h12 : fv 12 = .int .i64 (min s.a pr) := h12
            simp only [fin, List.filterMap]
            go_simp
            rw [← HMV.out]
            replace HI := Lib.hid (HI.out.ext hF)
            replace K8 := Lib.hid (K8.out.ext hF)
            clear hF q3 q4 h12 HQ
            clear y0 y1 y2 y3 y4 y5 y6 y7 x0 x1 x2 x3 x4 x5 x6 v0 v1 v2
            have y0 : Wi.cell? ⟨w.heap.size, 0, none⟩ = some (.slice A0 n0 c0) := HI.out.k0.cell 0
            have y1 : Wi.cell? ⟨w.heap.size, 1, none⟩ = some (.slice (some ⟨b1, o1, none⟩) n1 c1) := HI.out.k0.cell 1
            have y2 : Wi.cell? ⟨w.heap.size, 2, none⟩ = some (.slice A2 n2 c2) := HI.out.k0.cell 2
            have y3 : Wi.cell? ⟨w.heap.size, 3, none⟩ = some (.slice A3 n3 c3) := HI.out.k0.cell 3
            have y4 : Wi.cell? ⟨w.heap.size, 4, none⟩ = some (.int .i64 r.h0) := HI.out.k0.cell 4
            have y5 : Wi.cell? ⟨w.heap.size, 5, none⟩ = some (.int .i64 r.h1) := HI.out.k0.cell 5
            have y6 : Wi.cell? ⟨w.heap.size, 6, none⟩ = some (.int .i64 r.h2) := HI.out.k0.cell 6
            have y7 : Wi.cell? ⟨w.heap.size, 7, none⟩ = some (.int .i64 r.h3) := HI.out.k0.cell 7
            have x0 : Wi.cell? ⟨w.heap.size + 1, 0, none⟩ = some (.int .i64 s.p) := HI.out.k1.cell 0
            have x1 : Wi.cell? ⟨w.heap.size + 1, 1, none⟩ = some (.int .i64 s.a) := HI.out.k1.cell 1
            have x2 : Wi.cell? ⟨w.heap.size + 1, 2, none⟩ = some (.int .i64 s.b) := HI.out.k1.cell 2
            have x3 : Wi.cell? ⟨w.heap.size + 1, 3, none⟩ = some (.int .i64 s.m) := HI.out.k1.cell 3
            have x4 : Wi.cell? ⟨w.heap.size + 1, 4, none⟩ = some (.int .i64 nw) := HI.out.k1.cell 4
            have x5 : Wi.cell? ⟨w.heap.size + 1, 5, none⟩ = some (.int .i64 s.g) := HI.out.k1.cell 5
            have x6 : Wi.cell? ⟨w.heap.size + 1, 6, none⟩ = some (.int .i64 s.t) := HI.out.k1.cell 6
            have v0 : Wi.cell? ⟨w.heap.size + 1 + 1, 0, none⟩ = some (.int .i64 k.h) := HI.out.k2.cell 0
            have v1 : Wi.cell? ⟨w.heap.size + 1 + 1, 1, none⟩ = some (.int .i64 k.c) := HI.out.k2.cell 1
            have v2 : Wi.cell? ⟨w.heap.size + 1 + 1, 2, none⟩ = some (.int .i64 k.d) := HI.out.k2.cell 2
            have xf0 := HI.out.k1.free 0
            have xf1 := HI.out.k1.free 1
            have xf2 := HI.out.k1.free 2
            have xf3 := HI.out.k1.free 3
            have xf4 := HI.out.k1.free 4
            have xf5 := HI.out.k1.free 5
            have xf6 := HI.out.k1.free 6
            have HIn := Lib.hid (show BoxI w ((Wi.setCell ⟨w.heap.size + 1, 1, none⟩ (.int .i64 (s.a - mv))).setCell ⟨w.heap.size + 1, 2, none⟩ (.int .i64 (s.b + mv))) 32 #[.slice A0 n0 c0, .slice (some ⟨b1, o1, none⟩) n1 c1, .slice A2 n2 c2, .slice A3 n3 c3, .int .i64 r.h0, .int .i64 r.h1, .int .i64 r.h2, .int .i64 r.h3] ⟨s.p, (s.a - mv), (s.b + mv), s.m, nw, s.g, s.t⟩ #[.int .i64 k.h, .int .i64 k.c, .int .i64 k.d] by
              have h7 := ((HI.out.k1.setSame 1 (.int .i64 (s.a - mv))).setSame 2 (.int .i64 (s.b + mv)))
              simp only [List.setIfInBounds_toArray, List.set_cons_zero, List.set_cons_succ] at h7
              exact ⟨((HI.out.k0.setOther (by dsimp only; omega) _).setOther (by dsimp only; omega) _), h7, ((HI.out.k2.setOther (by dsimp only; omega) _).setOther (by dsimp only; omega) _), Ext.set (Ext.set (HI.out.e) (by dsimp only; omega) _) (by dsimp only; omega) _⟩)
            have K8n := Lib.hid (show Blk ((Wi.setCell ⟨w.heap.size + 1, 1, none⟩ (.int .i64 (s.a - mv))).setCell ⟨w.heap.size + 1, 2, none⟩ (.int .i64 (s.b + mv))) (w.heap.size + 1 + 1 + 1) 30 #[.int .i64 0, .int .i64 0, .int .i64 0, .int .i64 0, .int .i64 0, .int .i64 0, .int .i64 0] from ((K8.out.setOther (by dsimp only; omega) _).setOther (by dsimp only; omega) _))
            rw [HZS.out] at HIn
            go_wp2
            go_meet
            exact ⟨HIn.out, K8n.out⟩
        · have hWd : (nw == 1000000) = false := by simp [hW]
          have HZS := Lib.hid (show (⟨s.p, s.a, s.b, s.m, nw, s.g, s.t⟩ : St) = z1 by
            rw [HZE.out, show formedK nw pr = 0 from if_pos (by omega), show min s.a 0 = 0 by omega]
            congr 1 <;> omega)
          rw [HZS.out] at HI
          clear hW
          go_wp2
          go_meet
          exact ⟨HI.out, K8.out⟩
  case rest =>
    obtain ⟨hI, h8⟩ := hcut
    have HI := Lib.hid hI
    have K8 := Lib.hid h8
    clear hI h8
    clear y0 y1 y2 y3 y4 y5 y6 y7 x0 x1 x2 x3 x4 x5 x6 v0 v1 v2
    have y0 : wc.cell? ⟨w.heap.size, 0, none⟩ = some (.slice A0 n0 c0) := HI.out.k0.cell 0
    have y1 : wc.cell? ⟨w.heap.size, 1, none⟩ = some (.slice A1 n1 c1) := HI.out.k0.cell 1
    have y2 : wc.cell? ⟨w.heap.size, 2, none⟩ = some (.slice A2 n2 c2) := HI.out.k0.cell 2
    have y3 : wc.cell? ⟨w.heap.size, 3, none⟩ = some (.slice A3 n3 c3) := HI.out.k0.cell 3
    have y4 : wc.cell? ⟨w.heap.size, 4, none⟩ = some (.int .i64 r.h0) := HI.out.k0.cell 4
    have y5 : wc.cell? ⟨w.heap.size, 5, none⟩ = some (.int .i64 r.h1) := HI.out.k0.cell 5
    have y6 : wc.cell? ⟨w.heap.size, 6, none⟩ = some (.int .i64 r.h2) := HI.out.k0.cell 6
    have y7 : wc.cell? ⟨w.heap.size, 7, none⟩ = some (.int .i64 r.h3) := HI.out.k0.cell 7
    have x0 : wc.cell? ⟨w.heap.size + 1, 0, none⟩ = some (.int .i64 z1.p) := HI.out.k1.cell 0
    have x1 : wc.cell? ⟨w.heap.size + 1, 1, none⟩ = some (.int .i64 z1.a) := HI.out.k1.cell 1
    have x2 : wc.cell? ⟨w.heap.size + 1, 2, none⟩ = some (.int .i64 z1.b) := HI.out.k1.cell 2
    have x3 : wc.cell? ⟨w.heap.size + 1, 3, none⟩ = some (.int .i64 z1.m) := HI.out.k1.cell 3
    have x4 : wc.cell? ⟨w.heap.size + 1, 4, none⟩ = some (.int .i64 z1.wt) := HI.out.k1.cell 4
    have x5 : wc.cell? ⟨w.heap.size + 1, 5, none⟩ = some (.int .i64 z1.g) := HI.out.k1.cell 5
    have x6 : wc.cell? ⟨w.heap.size + 1, 6, none⟩ = some (.int .i64 z1.t) := HI.out.k1.cell 6
    have v0 : wc.cell? ⟨w.heap.size + 1 + 1, 0, none⟩ = some (.int .i64 k.h) := HI.out.k2.cell 0
    have v1 : wc.cell? ⟨w.heap.size + 1 + 1, 1, none⟩ = some (.int .i64 k.c) := HI.out.k2.cell 1
    have v2 : wc.cell? ⟨w.heap.size + 1 + 1, 2, none⟩ = some (.int .i64 k.d) := HI.out.k2.cell 2
    clear dv
    go_upto_if 119 with (go_at_call 67; refine (HDA.out _ HI.out.e).mono ?_; rintro e Wd ⟨rfl, hx⟩; have XT := Lib.hid hx; clear hx)
    replace HI := Lib.hid (HI.out.ext XT.out)
    replace K8 := Lib.hid (K8.out.ext XT.out)
    clear XT HDA
    clear y0 y1 y2 y3 y4 y5 y6 y7 x0 x1 x2 x3 x4 x5 x6 v0 v1 v2
    have y0 : Wd.cell? ⟨w.heap.size, 0, none⟩ = some (.slice A0 n0 c0) := HI.out.k0.cell 0
    have y1 : Wd.cell? ⟨w.heap.size, 1, none⟩ = some (.slice A1 n1 c1) := HI.out.k0.cell 1
    have y2 : Wd.cell? ⟨w.heap.size, 2, none⟩ = some (.slice A2 n2 c2) := HI.out.k0.cell 2
    have y3 : Wd.cell? ⟨w.heap.size, 3, none⟩ = some (.slice A3 n3 c3) := HI.out.k0.cell 3
    have y4 : Wd.cell? ⟨w.heap.size, 4, none⟩ = some (.int .i64 r.h0) := HI.out.k0.cell 4
    have y5 : Wd.cell? ⟨w.heap.size, 5, none⟩ = some (.int .i64 r.h1) := HI.out.k0.cell 5
    have y6 : Wd.cell? ⟨w.heap.size, 6, none⟩ = some (.int .i64 r.h2) := HI.out.k0.cell 6
    have y7 : Wd.cell? ⟨w.heap.size, 7, none⟩ = some (.int .i64 r.h3) := HI.out.k0.cell 7
    have x0 : Wd.cell? ⟨w.heap.size + 1, 0, none⟩ = some (.int .i64 z1.p) := HI.out.k1.cell 0
    have x1 : Wd.cell? ⟨w.heap.size + 1, 1, none⟩ = some (.int .i64 z1.a) := HI.out.k1.cell 1
    have x2 : Wd.cell? ⟨w.heap.size + 1, 2, none⟩ = some (.int .i64 z1.b) := HI.out.k1.cell 2
    have x3 : Wd.cell? ⟨w.heap.size + 1, 3, none⟩ = some (.int .i64 z1.m) := HI.out.k1.cell 3
    have x4 : Wd.cell? ⟨w.heap.size + 1, 4, none⟩ = some (.int .i64 z1.wt) := HI.out.k1.cell 4
    have x5 : Wd.cell? ⟨w.heap.size + 1, 5, none⟩ = some (.int .i64 z1.g) := HI.out.k1.cell 5
    have x6 : Wd.cell? ⟨w.heap.size + 1, 6, none⟩ = some (.int .i64 z1.t) := HI.out.k1.cell 6
    have v0 : Wd.cell? ⟨w.heap.size + 1 + 1, 0, none⟩ = some (.int .i64 k.h) := HI.out.k2.cell 0
    have v1 : Wd.cell? ⟨w.heap.size + 1 + 1, 1, none⟩ = some (.int .i64 k.c) := HI.out.k2.cell 1
    have v2 : Wd.cell? ⟨w.heap.size + 1 + 1, 2, none⟩ = some (.int .i64 k.d) := HI.out.k2.cell 2
    go_cut [14] from 119 to 143 (fun s14 wx => BoxI w wx 32 #[.slice A0 n0 c0, .slice A1 n1 c1, .slice A2 n2 c2, .slice A3 n3 c3, .int .i64 r.h0, .int .i64 r.h1, .int .i64 r.h2, .int .i64 r.h3] z2 #[.int .i64 k.h, .int .i64 k.c, .int .i64 k.d] ∧ Blk wx (w.heap.size + 1 + 1 + 1) 30 #[.int .i64 0, .int .i64 0, .int .i64 0, .int .i64 0, .int .i64 0, .int .i64 0, .int .i64 0])
    case first =>
      rcases hd with ⟨hq, rfl⟩ | ⟨j2, u2, hq, hu, rfl⟩
      · have dq : decide (0 ≤ vd) = false := decide_eq_false (by omega)
        go_wp2
        go_meet
        exact ⟨by rw [HY2.out]; exact HI.out, K8.out⟩
      · subst hq
        obtain ⟨b2, o2, hAe, hbx, hcx⟩ := HAT.out.r2.2 j2 u2 hu
        have hjn : j2 < n2 := by have := (List.getElem?_eq_some_iff.1 hu).1; have := HAT.out.l2; omega
        have hji : (j2 : Int) < (n2 : Int) := by omega
        have hmem := List.mem_of_getElem? hu
        subst hAe
        have C2 := Lib.hid hcx
        clear hbx hcx hu
        obtain ⟨hp1, hp2⟩ := HZz1.out.hp
        obtain ⟨ha1, ha2⟩ := HZz1.out.ha
        obtain ⟨hb1, hb2⟩ := HZz1.out.hb
        obtain ⟨hm1, hm2⟩ := HZz1.out.hm
        obtain ⟨hw1, hw2⟩ := HZz1.out.hw
        obtain ⟨ht1, ht2⟩ := HZz1.out.ht
        have hsum := HZz1.out.sum
        obtain ⟨g1, g2, g3⟩ := HOK.out.d u2 hmem
        obtain ⟨kk1, kk2, kk3, kk4, kk5, kk6⟩ := HPK.out
        obtain ⟨pb1, pb2⟩ := pick_bd (part := k.d) g1 g2 g3 kk5 kk6
        have HP := Lib.hid (fun W => refPicked_any u2.lo u2.hi k.d W g1 g2 g3 kk5 kk6)
        have hze : z2 = ⟨z1.p, z1.a - frozenK z1.a z1.m (pickK u2.lo u2.hi k.d), z1.b, z1.m + frozenK z1.a z1.m (pickK u2.lo u2.hi k.d), z1.wt, z1.g, z1.t⟩ := HY2.out
        generalize pickK u2.lo u2.hi k.d = ps at HP hze pb1 pb2
        have HQ := Lib.hid (fun W => refMart_any z1.a z1.m ps W ha1 hm1 ha2 hm2 (by omega) (by omega))
        obtain ⟨fb1, fb2⟩ := frozen_bd (a := z1.a) (m := z1.m) (s := ps) ha1 hm1 (by omega) (by omega)
        have hfm := frozen_max (a := z1.a) (m := z1.m) (s := ps)
        obtain ⟨mm, hmm⟩ : ∃ mm, mm = max z1.m ((z1.a + z1.m) * ps / 1000000) := ⟨_, rfl⟩
        have hm3 : z1.m ≤ mm := by omega
        have hm4 : mm ≤ z1.a + z1.m := by omega
        have hzs : (⟨z1.p, (z1.a + z1.m - mm), z1.b, mm, z1.wt, z1.g, z1.t⟩ : St) = z2 := by
          rw [hze, hfm, ← hmm]
          congr 1
          omega
        have HMM := Lib.hid hmm
        have q1 : Wd.cell? ⟨b2, o2 + j2 * 3 + 1, none⟩ = some (.int .i64 u2.lo) := HI.out.e.cell (C2.out 1 _ rfl)
        have q2 : Wd.cell? ⟨b2, o2 + j2 * 3 + 1 + 1, none⟩ = some (.int .i64 u2.hi) := HI.out.e.cell (C2.out 2 _ rfl)
        clear hze hfm hmm fb1 fb2 pb1 pb2 g1 g2 g3 kk1 kk2 kk3 kk4 kk5 kk6
        have HZS := Lib.hid hzs
        clear hzs
        go_wp2
        refine wp_region_each [some 120, some 121, some 122, some 123, some 124, some 125, some 126, some 127, some 128, some 129, some 130, some 131, some 132, some 133, some 14] [[5], [120], [5], [122], [4], [124], [13], [125, 126], [127], [128], [7], [130], [129, 131], [121, 123, 132], [133]]
          [Is (.pointer (some ⟨w.heap.size + 1, 1, none⟩)), Is (.int .i64 (z1.a)), Is (.pointer (some ⟨w.heap.size + 1, 3, none⟩)), Is (.int .i64 (z1.m)), Is (.pointer (some ⟨w.heap.size, 2, none⟩)), Is (.slice (some ⟨b2, o2, none⟩) n2 c2), Is (.int .i64 ((j2 : Int))), Is (.pointer (some ⟨b2, o2 + j2 * 3, none⟩)), Is (.pointer (some ⟨b2, o2 + j2 * 3 + 1, none⟩)), Is (.agg #[.int .i64 (u2.lo), .int .i64 (u2.hi)]), Is (.pointer (some ⟨w.heap.size + 1 + 1, 2, none⟩)), Is (.int .i64 (k.d)), Is (.int .i64 (ps)), Is (.int .i64 (max z1.m ((z1.a + z1.m) * ps / 1000000))), Is (.int .i64 (max z1.m ((z1.a + z1.m) * ps / 1000000)))]
          (by kernel_rfl) (by kernel_rfl) (by kernel_rfl) (by kernel_rfl) (by kernel_rfl) Ext (fun W => Ext Wd W)
          (fun W _ => Ext.refl W) (fun W W' h k => h.trans k) ?_ (Ext.drew _) ?_ ?_
        · repeat (refine ⟨fun _ _ _ _ k h => (by first | exact h | exact (by first | exact IntsAt.ext h k | exact KnV.ext h k | exact NumsV.ext h k)), ?_⟩)
          exact trivial
        · refine ⟨?_, ?_, ?_, ?_, ?_, ?_, ?_, ?_, ?_, ?_, ?_, ?_, ?_, ?_, ?_, trivial⟩
          all_goals intro ρ W ⟨kc, kg, kf⟩ hF hs
          · obtain ⟨h0, -⟩ := hs
            replace h0 : ρ (.tmp 5) = .pointer (some ⟨w.heap.size + 1, 0, none⟩) := h0
            go_simp
            exact ⟨Ext.refl _, rfl⟩
          · obtain ⟨h0, -⟩ := hs
            replace h0 : ρ (.tmp 120) = .pointer (some ⟨w.heap.size + 1, 1, none⟩) := h0
            have hc0 : W.cell? ⟨w.heap.size + 1, 1, none⟩ = some (.int .i64 (z1.a)) := hF.cell (by assumption)
            go_simp
            exact ⟨Ext.refl _, rfl⟩
          · obtain ⟨h0, -⟩ := hs
            replace h0 : ρ (.tmp 5) = .pointer (some ⟨w.heap.size + 1, 0, none⟩) := h0
            go_simp
            exact ⟨Ext.refl _, rfl⟩
          · obtain ⟨h0, -⟩ := hs
            replace h0 : ρ (.tmp 122) = .pointer (some ⟨w.heap.size + 1, 3, none⟩) := h0
            have hc0 : W.cell? ⟨w.heap.size + 1, 3, none⟩ = some (.int .i64 (z1.m)) := hF.cell (by assumption)
            go_simp
            exact ⟨Ext.refl _, rfl⟩
          · obtain ⟨h0, -⟩ := hs
            replace h0 : ρ (.tmp 4) = .pointer (some ⟨w.heap.size, 0, none⟩) := h0
            go_simp
            exact ⟨Ext.refl _, rfl⟩
          · obtain ⟨h0, -⟩ := hs
            replace h0 : ρ (.tmp 124) = .pointer (some ⟨w.heap.size, 2, none⟩) := h0
            have hc0 : W.cell? ⟨w.heap.size, 2, none⟩ = some (.slice (some ⟨b2, o2, none⟩) n2 c2) := hF.cell (by assumption)
            go_simp
            exact ⟨Ext.refl _, rfl⟩
          · obtain ⟨h0, -⟩ := hs
            replace h0 : ρ (.tmp 13) = .int .i64 ((j2 : Int)) := h0
            go_simp
            exact ⟨Ext.refl _, rfl⟩
          · obtain ⟨h0, h1, -⟩ := hs
            replace h0 : ρ (.tmp 125) = .slice (some ⟨b2, o2, none⟩) n2 c2 := h0
            replace h1 : ρ (.tmp 126) = .int .i64 ((j2 : Int)) := h1
            go_simp
            exact ⟨Ext.refl _, rfl⟩
          · obtain ⟨h0, -⟩ := hs
            replace h0 : ρ (.tmp 127) = .pointer (some ⟨b2, o2 + j2 * 3, none⟩) := h0
            go_simp
            exact ⟨Ext.refl _, rfl⟩
          · obtain ⟨h0, -⟩ := hs
            replace h0 : ρ (.tmp 128) = .pointer (some ⟨b2, o2 + j2 * 3 + 1, none⟩) := h0
            have hc0 : W.cell? ⟨b2, o2 + j2 * 3 + 1, none⟩ = some (.int .i64 (u2.lo)) := hF.cell (by assumption)
            have hc1 : W.cell? ⟨b2, o2 + j2 * 3 + 1 + 1, none⟩ = some (.int .i64 (u2.hi)) := hF.cell (by assumption)
            go_simp
            exact ⟨Ext.refl _, rfl⟩
          · obtain ⟨h0, -⟩ := hs
            replace h0 : ρ (.tmp 7) = .pointer (some ⟨w.heap.size + 1 + 1, 0, none⟩) := h0
            go_simp
            exact ⟨Ext.refl _, rfl⟩
          · obtain ⟨h0, -⟩ := hs
            replace h0 : ρ (.tmp 130) = .pointer (some ⟨w.heap.size + 1 + 1, 2, none⟩) := h0
            have hc0 : W.cell? ⟨w.heap.size + 1 + 1, 2, none⟩ = some (.int .i64 (k.d)) := hF.cell (by assumption)
            go_simp
            exact ⟨Ext.refl _, rfl⟩
          · obtain ⟨h0, h1, -⟩ := hs
            replace h0 : ρ (.tmp 129) = .agg #[.int .i64 (u2.lo), .int .i64 (u2.hi)] := h0
            replace h1 : ρ (.tmp 131) = .int .i64 (k.d) := h1
            go_simp
            refine (HP.out _).mono ?_; rintro e w' ⟨rfl, hx⟩; exact ⟨_, rfl, hx, rfl⟩
          · obtain ⟨h0, h1, h2, -⟩ := hs
            replace h0 : ρ (.tmp 121) = .int .i64 (z1.a) := h0
            replace h1 : ρ (.tmp 123) = .int .i64 (z1.m) := h1
            replace h2 : ρ (.tmp 132) = .int .i64 (ps) := h2
            go_simp
            refine (HQ.out _).mono ?_; rintro e w' ⟨rfl, hx⟩; exact ⟨_, rfl, hx, rfl⟩
          · obtain ⟨h0, -⟩ := hs
            replace h0 : ρ (.tmp 133) = .int .i64 (max z1.m ((z1.a + z1.m) * ps / 1000000)) := h0
            go_simp
            exact ⟨Ext.refl _, rfl⟩
        · intro fv We hF hs
          obtain ⟨-, -, -, -, -, -, -, -, -, -, -, -, -, -, h14, -⟩ := hs
          replace h14 : fv 14 = .int .i64 (max z1.m ((z1.a + z1.m) * ps / 1000000)) := h14
          simp only [fin, List.filterMap]
          go_simp
          rw [← HMM.out]
          replace HI := Lib.hid (HI.out.ext hF)
          replace K8 := Lib.hid (K8.out.ext hF)
          clear hF q1 q2 h14 HP HQ
          clear y0 y1 y2 y3 y4 y5 y6 y7 x0 x1 x2 x3 x4 x5 x6 v0 v1 v2
          have y0 : We.cell? ⟨w.heap.size, 0, none⟩ = some (.slice A0 n0 c0) := HI.out.k0.cell 0
          have y1 : We.cell? ⟨w.heap.size, 1, none⟩ = some (.slice A1 n1 c1) := HI.out.k0.cell 1
          have y2 : We.cell? ⟨w.heap.size, 2, none⟩ = some (.slice (some ⟨b2, o2, none⟩) n2 c2) := HI.out.k0.cell 2
          have y3 : We.cell? ⟨w.heap.size, 3, none⟩ = some (.slice A3 n3 c3) := HI.out.k0.cell 3
          have y4 : We.cell? ⟨w.heap.size, 4, none⟩ = some (.int .i64 r.h0) := HI.out.k0.cell 4
          have y5 : We.cell? ⟨w.heap.size, 5, none⟩ = some (.int .i64 r.h1) := HI.out.k0.cell 5
          have y6 : We.cell? ⟨w.heap.size, 6, none⟩ = some (.int .i64 r.h2) := HI.out.k0.cell 6
          have y7 : We.cell? ⟨w.heap.size, 7, none⟩ = some (.int .i64 r.h3) := HI.out.k0.cell 7
          have x0 : We.cell? ⟨w.heap.size + 1, 0, none⟩ = some (.int .i64 z1.p) := HI.out.k1.cell 0
          have x1 : We.cell? ⟨w.heap.size + 1, 1, none⟩ = some (.int .i64 z1.a) := HI.out.k1.cell 1
          have x2 : We.cell? ⟨w.heap.size + 1, 2, none⟩ = some (.int .i64 z1.b) := HI.out.k1.cell 2
          have x3 : We.cell? ⟨w.heap.size + 1, 3, none⟩ = some (.int .i64 z1.m) := HI.out.k1.cell 3
          have x4 : We.cell? ⟨w.heap.size + 1, 4, none⟩ = some (.int .i64 z1.wt) := HI.out.k1.cell 4
          have x5 : We.cell? ⟨w.heap.size + 1, 5, none⟩ = some (.int .i64 z1.g) := HI.out.k1.cell 5
          have x6 : We.cell? ⟨w.heap.size + 1, 6, none⟩ = some (.int .i64 z1.t) := HI.out.k1.cell 6
          have v0 : We.cell? ⟨w.heap.size + 1 + 1, 0, none⟩ = some (.int .i64 k.h) := HI.out.k2.cell 0
          have v1 : We.cell? ⟨w.heap.size + 1 + 1, 1, none⟩ = some (.int .i64 k.c) := HI.out.k2.cell 1
          have v2 : We.cell? ⟨w.heap.size + 1 + 1, 2, none⟩ = some (.int .i64 k.d) := HI.out.k2.cell 2
          have xf0 := HI.out.k1.free 0
          have xf1 := HI.out.k1.free 1
          have xf2 := HI.out.k1.free 2
          have xf3 := HI.out.k1.free 3
          have xf4 := HI.out.k1.free 4
          have xf5 := HI.out.k1.free 5
          have xf6 := HI.out.k1.free 6
          have HIn := Lib.hid (show BoxI w ((We.setCell ⟨w.heap.size + 1, 1, none⟩ (.int .i64 (z1.a + z1.m - mm))).setCell ⟨w.heap.size + 1, 3, none⟩ (.int .i64 mm)) 32 #[.slice A0 n0 c0, .slice A1 n1 c1, .slice (some ⟨b2, o2, none⟩) n2 c2, .slice A3 n3 c3, .int .i64 r.h0, .int .i64 r.h1, .int .i64 r.h2, .int .i64 r.h3] ⟨z1.p, (z1.a + z1.m - mm), z1.b, mm, z1.wt, z1.g, z1.t⟩ #[.int .i64 k.h, .int .i64 k.c, .int .i64 k.d] by
            have h7 := ((HI.out.k1.setSame 1 (.int .i64 (z1.a + z1.m - mm))).setSame 3 (.int .i64 mm))
            simp only [List.setIfInBounds_toArray, List.set_cons_zero, List.set_cons_succ] at h7
            exact ⟨((HI.out.k0.setOther (by dsimp only; omega) _).setOther (by dsimp only; omega) _), h7, ((HI.out.k2.setOther (by dsimp only; omega) _).setOther (by dsimp only; omega) _), Ext.set (Ext.set (HI.out.e) (by dsimp only; omega) _) (by dsimp only; omega) _⟩)
          have K8n := Lib.hid (show Blk ((We.setCell ⟨w.heap.size + 1, 1, none⟩ (.int .i64 (z1.a + z1.m - mm))).setCell ⟨w.heap.size + 1, 3, none⟩ (.int .i64 mm)) (w.heap.size + 1 + 1 + 1) 30 #[.int .i64 0, .int .i64 0, .int .i64 0, .int .i64 0, .int .i64 0, .int .i64 0, .int .i64 0] from ((K8.out.setOther (by dsimp only; omega) _).setOther (by dsimp only; omega) _))
          rw [HZS.out] at HIn
          go_wp2
          go_meet
          exact ⟨HIn.out, K8n.out⟩
    case rest =>
      obtain ⟨hI, h8⟩ := hcut
      have HI := Lib.hid hI
      have K8 := Lib.hid h8
      clear hI h8
      clear y0 y1 y2 y3 y4 y5 y6 y7 x0 x1 x2 x3 x4 x5 x6 v0 v1 v2
      have y0 : wc.cell? ⟨w.heap.size, 0, none⟩ = some (.slice A0 n0 c0) := HI.out.k0.cell 0
      have y1 : wc.cell? ⟨w.heap.size, 1, none⟩ = some (.slice A1 n1 c1) := HI.out.k0.cell 1
      have y2 : wc.cell? ⟨w.heap.size, 2, none⟩ = some (.slice A2 n2 c2) := HI.out.k0.cell 2
      have y3 : wc.cell? ⟨w.heap.size, 3, none⟩ = some (.slice A3 n3 c3) := HI.out.k0.cell 3
      have y4 : wc.cell? ⟨w.heap.size, 4, none⟩ = some (.int .i64 r.h0) := HI.out.k0.cell 4
      have y5 : wc.cell? ⟨w.heap.size, 5, none⟩ = some (.int .i64 r.h1) := HI.out.k0.cell 5
      have y6 : wc.cell? ⟨w.heap.size, 6, none⟩ = some (.int .i64 r.h2) := HI.out.k0.cell 6
      have y7 : wc.cell? ⟨w.heap.size, 7, none⟩ = some (.int .i64 r.h3) := HI.out.k0.cell 7
      have x0 : wc.cell? ⟨w.heap.size + 1, 0, none⟩ = some (.int .i64 z2.p) := HI.out.k1.cell 0
      have x1 : wc.cell? ⟨w.heap.size + 1, 1, none⟩ = some (.int .i64 z2.a) := HI.out.k1.cell 1
      have x2 : wc.cell? ⟨w.heap.size + 1, 2, none⟩ = some (.int .i64 z2.b) := HI.out.k1.cell 2
      have x3 : wc.cell? ⟨w.heap.size + 1, 3, none⟩ = some (.int .i64 z2.m) := HI.out.k1.cell 3
      have x4 : wc.cell? ⟨w.heap.size + 1, 4, none⟩ = some (.int .i64 z2.wt) := HI.out.k1.cell 4
      have x5 : wc.cell? ⟨w.heap.size + 1, 5, none⟩ = some (.int .i64 z2.g) := HI.out.k1.cell 5
      have x6 : wc.cell? ⟨w.heap.size + 1, 6, none⟩ = some (.int .i64 z2.t) := HI.out.k1.cell 6
      have v0 : wc.cell? ⟨w.heap.size + 1 + 1, 0, none⟩ = some (.int .i64 k.h) := HI.out.k2.cell 0
      have v1 : wc.cell? ⟨w.heap.size + 1 + 1, 1, none⟩ = some (.int .i64 k.c) := HI.out.k2.cell 1
      have v2 : wc.cell? ⟨w.heap.size + 1 + 1, 2, none⟩ = some (.int .i64 k.d) := HI.out.k2.cell 2
      go_upto_if 148 with (go_at_call 101; refine (HTA.out _ HI.out.e).mono ?_; rintro e Wt ⟨rfl, hx⟩; have XT := Lib.hid hx; clear hx)
      replace HI := Lib.hid (HI.out.ext XT.out)
      replace K8 := Lib.hid (K8.out.ext XT.out)
      clear XT HTA
      clear y0 y1 y2 y3 y4 y5 y6 y7 x0 x1 x2 x3 x4 x5 x6 v0 v1 v2
      have y0 : Wt.cell? ⟨w.heap.size, 0, none⟩ = some (.slice A0 n0 c0) := HI.out.k0.cell 0
      have y1 : Wt.cell? ⟨w.heap.size, 1, none⟩ = some (.slice A1 n1 c1) := HI.out.k0.cell 1
      have y2 : Wt.cell? ⟨w.heap.size, 2, none⟩ = some (.slice A2 n2 c2) := HI.out.k0.cell 2
      have y3 : Wt.cell? ⟨w.heap.size, 3, none⟩ = some (.slice A3 n3 c3) := HI.out.k0.cell 3
      have y4 : Wt.cell? ⟨w.heap.size, 4, none⟩ = some (.int .i64 r.h0) := HI.out.k0.cell 4
      have y5 : Wt.cell? ⟨w.heap.size, 5, none⟩ = some (.int .i64 r.h1) := HI.out.k0.cell 5
      have y6 : Wt.cell? ⟨w.heap.size, 6, none⟩ = some (.int .i64 r.h2) := HI.out.k0.cell 6
      have y7 : Wt.cell? ⟨w.heap.size, 7, none⟩ = some (.int .i64 r.h3) := HI.out.k0.cell 7
      have x0 : Wt.cell? ⟨w.heap.size + 1, 0, none⟩ = some (.int .i64 z2.p) := HI.out.k1.cell 0
      have x1 : Wt.cell? ⟨w.heap.size + 1, 1, none⟩ = some (.int .i64 z2.a) := HI.out.k1.cell 1
      have x2 : Wt.cell? ⟨w.heap.size + 1, 2, none⟩ = some (.int .i64 z2.b) := HI.out.k1.cell 2
      have x3 : Wt.cell? ⟨w.heap.size + 1, 3, none⟩ = some (.int .i64 z2.m) := HI.out.k1.cell 3
      have x4 : Wt.cell? ⟨w.heap.size + 1, 4, none⟩ = some (.int .i64 z2.wt) := HI.out.k1.cell 4
      have x5 : Wt.cell? ⟨w.heap.size + 1, 5, none⟩ = some (.int .i64 z2.g) := HI.out.k1.cell 5
      have x6 : Wt.cell? ⟨w.heap.size + 1, 6, none⟩ = some (.int .i64 z2.t) := HI.out.k1.cell 6
      have v0 : Wt.cell? ⟨w.heap.size + 1 + 1, 0, none⟩ = some (.int .i64 k.h) := HI.out.k2.cell 0
      have v1 : Wt.cell? ⟨w.heap.size + 1 + 1, 1, none⟩ = some (.int .i64 k.c) := HI.out.k2.cell 1
      have v2 : Wt.cell? ⟨w.heap.size + 1 + 1, 2, none⟩ = some (.int .i64 k.d) := HI.out.k2.cell 2
      go_cut [] from 148 to 159 (fun wx => BoxI w wx 32 #[.slice A0 n0 c0, .slice A1 n1 c1, .slice A2 n2 c2, .slice A3 n3 c3, .int .i64 r.h0, .int .i64 r.h1, .int .i64 r.h2, .int .i64 r.h3] z3 #[.int .i64 k.h, .int .i64 k.c, .int .i64 k.d] ∧ Blk wx (w.heap.size + 1 + 1 + 1) 30 #[.int .i64 0, .int .i64 0, .int .i64 0, .int .i64 0, .int .i64 0, .int .i64 0, .int .i64 0])
      case first =>
        rcases ht with ⟨hq, rfl⟩ | ⟨j3, u3, hq, hu, rfl⟩
        · have dq : decide (0 ≤ vt) = false := decide_eq_false (by omega)
          go_wp2
          go_meet
          exact ⟨by rw [HY3.out]; exact HI.out, K8.out⟩
        · subst hq
          obtain ⟨b3, o3, hAe, hbx, hcx⟩ := HAT.out.r3.2 j3 u3 hu
          have hjn : j3 < n3 := by have := (List.getElem?_eq_some_iff.1 hu).1; have := HAT.out.l3; omega
          have hji : (j3 : Int) < (n3 : Int) := by omega
          have hmem := List.mem_of_getElem? hu
          subst hAe
          have C3 := Lib.hid hcx
          clear hbx hcx hu
          obtain ⟨hp1, hp2⟩ := HZz2.out.hp
          obtain ⟨ha1, ha2⟩ := HZz2.out.ha
          obtain ⟨hb1, hb2⟩ := HZz2.out.hb
          obtain ⟨hm1, hm2⟩ := HZz2.out.hm
          obtain ⟨hw1, hw2⟩ := HZz2.out.hw
          obtain ⟨ht1, ht2⟩ := HZz2.out.ht
          have hsum := HZz2.out.sum
          obtain ⟨g1, g2⟩ := HOK.out.t u3 hmem
          have hwr : IntKind.i64.wrap (z2.t + u3.r) = z2.t + u3.r := wrap_id _ (by omega) (by omega)
          have q1 : Wt.cell? ⟨b3, o3 + j3 * 2 + 1, none⟩ = some (.int .i64 u3.r) := HI.out.e.cell (C3.out 1 _ rfl)
          have hzs : (⟨z2.p, z2.a, z2.b, z2.m, z2.wt, z2.g, (min 1000000 (z2.t + u3.r))⟩ : St) = z3 := by rw [HY3.out]; rfl
          go_wp2
          refine wp_region_part 11 [some 149, some 150, some 151, some 152, some 153, some 154, some 155, some 156, some 157, some 158, some 159] [[5], [149], [4], [151], [15], [152, 153], [154], [155], [150, 156], [157], [5]]
            [Is (.pointer (some ⟨w.heap.size + 1, 6, none⟩)), Is (.int .i64 (z2.t)), Is (.pointer (some ⟨w.heap.size, 3, none⟩)), Is (.slice (some ⟨b3, o3, none⟩) n3 c3), Is (.int .i64 ((j3 : Int))), Is (.pointer (some ⟨b3, o3 + j3 * 2, none⟩)), Is (.pointer (some ⟨b3, o3 + j3 * 2 + 1, none⟩)), Is (.int .i64 (u3.r)), Is (.int .i64 (z2.t + u3.r)), Is (.int .i64 (min 1000000 (z2.t + u3.r))), Is (.pointer (some ⟨w.heap.size + 1, 6, none⟩))]
            (by kernel_rfl) (by kernel_rfl) (by kernel_rfl) (by kernel_rfl) (by kernel_rfl) (by kernel_rfl) (by kernel_rfl) Ext (fun W => Ext Wt W)
            (fun W _ => Ext.refl W) (fun W W' h k => h.trans k) ?_ (Ext.drew _) ?_ ?_
          · repeat (refine ⟨fun _ _ _ _ k h => (by first | exact h | exact (by first | exact IntsAt.ext h k | exact KnV.ext h k | exact NumsV.ext h k)), ?_⟩)
            exact trivial
          · refine ⟨?_, ?_, ?_, ?_, ?_, ?_, ?_, ?_, ?_, ?_, ?_, trivial⟩
            all_goals intro ρ W ⟨kc, kg, kf⟩ hF hs
            · obtain ⟨h0, -⟩ := hs
              replace h0 : ρ (.tmp 5) = .pointer (some ⟨w.heap.size + 1, 0, none⟩) := h0
              go_simp
              exact ⟨Ext.refl _, rfl⟩
            · obtain ⟨h0, -⟩ := hs
              replace h0 : ρ (.tmp 149) = .pointer (some ⟨w.heap.size + 1, 6, none⟩) := h0
              have hc0 : W.cell? ⟨w.heap.size + 1, 6, none⟩ = some (.int .i64 (z2.t)) := hF.cell (by assumption)
              go_simp
              exact ⟨Ext.refl _, rfl⟩
            · obtain ⟨h0, -⟩ := hs
              replace h0 : ρ (.tmp 4) = .pointer (some ⟨w.heap.size, 0, none⟩) := h0
              go_simp
              exact ⟨Ext.refl _, rfl⟩
            · obtain ⟨h0, -⟩ := hs
              replace h0 : ρ (.tmp 151) = .pointer (some ⟨w.heap.size, 3, none⟩) := h0
              have hc0 : W.cell? ⟨w.heap.size, 3, none⟩ = some (.slice (some ⟨b3, o3, none⟩) n3 c3) := hF.cell (by assumption)
              go_simp
              exact ⟨Ext.refl _, rfl⟩
            · obtain ⟨h0, -⟩ := hs
              replace h0 : ρ (.tmp 15) = .int .i64 ((j3 : Int)) := h0
              go_simp
              exact ⟨Ext.refl _, rfl⟩
            · obtain ⟨h0, h1, -⟩ := hs
              replace h0 : ρ (.tmp 152) = .slice (some ⟨b3, o3, none⟩) n3 c3 := h0
              replace h1 : ρ (.tmp 153) = .int .i64 ((j3 : Int)) := h1
              go_simp
              exact ⟨Ext.refl _, rfl⟩
            · obtain ⟨h0, -⟩ := hs
              replace h0 : ρ (.tmp 154) = .pointer (some ⟨b3, o3 + j3 * 2, none⟩) := h0
              go_simp
              exact ⟨Ext.refl _, rfl⟩
            · obtain ⟨h0, -⟩ := hs
              replace h0 : ρ (.tmp 155) = .pointer (some ⟨b3, o3 + j3 * 2 + 1, none⟩) := h0
              have hc0 : W.cell? ⟨b3, o3 + j3 * 2 + 1, none⟩ = some (.int .i64 (u3.r)) := hF.cell (by assumption)
              go_simp
              exact ⟨Ext.refl _, rfl⟩
            · obtain ⟨h0, h1, -⟩ := hs
              replace h0 : ρ (.tmp 150) = .int .i64 (z2.t) := h0
              replace h1 : ρ (.tmp 156) = .int .i64 (u3.r) := h1
              go_simp
              exact ⟨Ext.refl _, rfl⟩
            · obtain ⟨h0, -⟩ := hs
              replace h0 : ρ (.tmp 157) = .int .i64 (z2.t + u3.r) := h0
              go_simp
              exact ⟨Ext.refl _, rfl⟩
            · obtain ⟨h0, -⟩ := hs
              replace h0 : ρ (.tmp 5) = .pointer (some ⟨w.heap.size + 1, 0, none⟩) := h0
              go_simp
              exact ⟨Ext.refl _, rfl⟩
          · intro fv Wu hF hs
            obtain ⟨-, -, -, -, -, -, -, -, h157, h158, h159, -⟩ := hs
            replace h157 : fv 157 = .int .i64 (z2.t + u3.r) := h157
            replace h158 : fv 158 = .int .i64 (min 1000000 (z2.t + u3.r)) := h158
            replace h159 : fv 159 = .pointer (some ⟨w.heap.size + 1, 6, none⟩) := h159
            simp only [fin, List.filterMap]
            go_simp
            replace HI := Lib.hid (HI.out.ext hF)
            replace K8 := Lib.hid (K8.out.ext hF)
            clear hF q1
            clear y0 y1 y2 y3 y4 y5 y6 y7 x0 x1 x2 x3 x4 x5 x6 v0 v1 v2
            have y0 : Wu.cell? ⟨w.heap.size, 0, none⟩ = some (.slice A0 n0 c0) := HI.out.k0.cell 0
            have y1 : Wu.cell? ⟨w.heap.size, 1, none⟩ = some (.slice A1 n1 c1) := HI.out.k0.cell 1
            have y2 : Wu.cell? ⟨w.heap.size, 2, none⟩ = some (.slice A2 n2 c2) := HI.out.k0.cell 2
            have y3 : Wu.cell? ⟨w.heap.size, 3, none⟩ = some (.slice (some ⟨b3, o3, none⟩) n3 c3) := HI.out.k0.cell 3
            have y4 : Wu.cell? ⟨w.heap.size, 4, none⟩ = some (.int .i64 r.h0) := HI.out.k0.cell 4
            have y5 : Wu.cell? ⟨w.heap.size, 5, none⟩ = some (.int .i64 r.h1) := HI.out.k0.cell 5
            have y6 : Wu.cell? ⟨w.heap.size, 6, none⟩ = some (.int .i64 r.h2) := HI.out.k0.cell 6
            have y7 : Wu.cell? ⟨w.heap.size, 7, none⟩ = some (.int .i64 r.h3) := HI.out.k0.cell 7
            have x0 : Wu.cell? ⟨w.heap.size + 1, 0, none⟩ = some (.int .i64 z2.p) := HI.out.k1.cell 0
            have x1 : Wu.cell? ⟨w.heap.size + 1, 1, none⟩ = some (.int .i64 z2.a) := HI.out.k1.cell 1
            have x2 : Wu.cell? ⟨w.heap.size + 1, 2, none⟩ = some (.int .i64 z2.b) := HI.out.k1.cell 2
            have x3 : Wu.cell? ⟨w.heap.size + 1, 3, none⟩ = some (.int .i64 z2.m) := HI.out.k1.cell 3
            have x4 : Wu.cell? ⟨w.heap.size + 1, 4, none⟩ = some (.int .i64 z2.wt) := HI.out.k1.cell 4
            have x5 : Wu.cell? ⟨w.heap.size + 1, 5, none⟩ = some (.int .i64 z2.g) := HI.out.k1.cell 5
            have x6 : Wu.cell? ⟨w.heap.size + 1, 6, none⟩ = some (.int .i64 z2.t) := HI.out.k1.cell 6
            have v0 : Wu.cell? ⟨w.heap.size + 1 + 1, 0, none⟩ = some (.int .i64 k.h) := HI.out.k2.cell 0
            have v1 : Wu.cell? ⟨w.heap.size + 1 + 1, 1, none⟩ = some (.int .i64 k.c) := HI.out.k2.cell 1
            have v2 : Wu.cell? ⟨w.heap.size + 1 + 1, 2, none⟩ = some (.int .i64 k.d) := HI.out.k2.cell 2
            have xf0 := HI.out.k1.free 0
            have xf1 := HI.out.k1.free 1
            have xf2 := HI.out.k1.free 2
            have xf3 := HI.out.k1.free 3
            have xf4 := HI.out.k1.free 4
            have xf5 := HI.out.k1.free 5
            have xf6 := HI.out.k1.free 6
            have HIn := Lib.hid (show BoxI w (Wu.setCell ⟨w.heap.size + 1, 6, none⟩ (.int .i64 (min 1000000 (z2.t + u3.r)))) 32 #[.slice A0 n0 c0, .slice A1 n1 c1, .slice A2 n2 c2, .slice (some ⟨b3, o3, none⟩) n3 c3, .int .i64 r.h0, .int .i64 r.h1, .int .i64 r.h2, .int .i64 r.h3] ⟨z2.p, z2.a, z2.b, z2.m, z2.wt, z2.g, (min 1000000 (z2.t + u3.r))⟩ #[.int .i64 k.h, .int .i64 k.c, .int .i64 k.d] by
              have h7 := (HI.out.k1.setSame 6 (.int .i64 (min 1000000 (z2.t + u3.r))))
              simp only [List.setIfInBounds_toArray, List.set_cons_zero, List.set_cons_succ] at h7
              exact ⟨(HI.out.k0.setOther (by dsimp only; omega) _), h7, (HI.out.k2.setOther (by dsimp only; omega) _), Ext.set (HI.out.e) (by dsimp only; omega) _⟩)
            have K8n := Lib.hid (show Blk (Wu.setCell ⟨w.heap.size + 1, 6, none⟩ (.int .i64 (min 1000000 (z2.t + u3.r)))) (w.heap.size + 1 + 1 + 1) 30 #[.int .i64 0, .int .i64 0, .int .i64 0, .int .i64 0, .int .i64 0, .int .i64 0, .int .i64 0] from (K8.out.setOther (by dsimp only; omega) _))
            rw [hzs] at HIn
            clear hzs
            go_wp2
            go_meet
            exact ⟨HIn.out, K8n.out⟩
      case rest =>
        obtain ⟨hI, h8⟩ := hcut
        have HI := Lib.hid hI
        have K8 := Lib.hid h8
        clear hI h8
        clear y0 y1 y2 y3 y4 y5 y6 y7 x0 x1 x2 x3 x4 x5 x6 v0 v1 v2
        have y0 : wc.cell? ⟨w.heap.size, 0, none⟩ = some (.slice A0 n0 c0) := HI.out.k0.cell 0
        have y1 : wc.cell? ⟨w.heap.size, 1, none⟩ = some (.slice A1 n1 c1) := HI.out.k0.cell 1
        have y2 : wc.cell? ⟨w.heap.size, 2, none⟩ = some (.slice A2 n2 c2) := HI.out.k0.cell 2
        have y3 : wc.cell? ⟨w.heap.size, 3, none⟩ = some (.slice A3 n3 c3) := HI.out.k0.cell 3
        have y4 : wc.cell? ⟨w.heap.size, 4, none⟩ = some (.int .i64 r.h0) := HI.out.k0.cell 4
        have y5 : wc.cell? ⟨w.heap.size, 5, none⟩ = some (.int .i64 r.h1) := HI.out.k0.cell 5
        have y6 : wc.cell? ⟨w.heap.size, 6, none⟩ = some (.int .i64 r.h2) := HI.out.k0.cell 6
        have y7 : wc.cell? ⟨w.heap.size, 7, none⟩ = some (.int .i64 r.h3) := HI.out.k0.cell 7
        have x0 : wc.cell? ⟨w.heap.size + 1, 0, none⟩ = some (.int .i64 z3.p) := HI.out.k1.cell 0
        have x1 : wc.cell? ⟨w.heap.size + 1, 1, none⟩ = some (.int .i64 z3.a) := HI.out.k1.cell 1
        have x2 : wc.cell? ⟨w.heap.size + 1, 2, none⟩ = some (.int .i64 z3.b) := HI.out.k1.cell 2
        have x3 : wc.cell? ⟨w.heap.size + 1, 3, none⟩ = some (.int .i64 z3.m) := HI.out.k1.cell 3
        have x4 : wc.cell? ⟨w.heap.size + 1, 4, none⟩ = some (.int .i64 z3.wt) := HI.out.k1.cell 4
        have x5 : wc.cell? ⟨w.heap.size + 1, 5, none⟩ = some (.int .i64 z3.g) := HI.out.k1.cell 5
        have x6 : wc.cell? ⟨w.heap.size + 1, 6, none⟩ = some (.int .i64 z3.t) := HI.out.k1.cell 6
        have v0 : wc.cell? ⟨w.heap.size + 1 + 1, 0, none⟩ = some (.int .i64 k.h) := HI.out.k2.cell 0
        have v1 : wc.cell? ⟨w.heap.size + 1 + 1, 1, none⟩ = some (.int .i64 k.c) := HI.out.k2.cell 1
        have v2 : wc.cell? ⟨w.heap.size + 1 + 1, 2, none⟩ = some (.int .i64 k.d) := HI.out.k2.cell 2
        have xf0 := HI.out.k1.free 0
        have xf1 := HI.out.k1.free 1
        have xf2 := HI.out.k1.free 2
        have xf3 := HI.out.k1.free 3
        have xf4 := HI.out.k1.free 4
        have xf5 := HI.out.k1.free 5
        have xf6 := HI.out.k1.free 6
        have z8 := K8.out
        have w0 : wc.cell? ⟨w.heap.size + 1 + 1 + 1, 0, none⟩ = some (.int .i64 0) := z8.cell 0
        have wf0 := z8.free 0
        have w1 : wc.cell? ⟨w.heap.size + 1 + 1 + 1, 1, none⟩ = some (.int .i64 0) := z8.cell 1
        have wf1 := z8.free 1
        have w2 : wc.cell? ⟨w.heap.size + 1 + 1 + 1, 2, none⟩ = some (.int .i64 0) := z8.cell 2
        have wf2 := z8.free 2
        have w3 : wc.cell? ⟨w.heap.size + 1 + 1 + 1, 3, none⟩ = some (.int .i64 0) := z8.cell 3
        have wf3 := z8.free 3
        have w4 : wc.cell? ⟨w.heap.size + 1 + 1 + 1, 4, none⟩ = some (.int .i64 0) := z8.cell 4
        have wf4 := z8.free 4
        have w5 : wc.cell? ⟨w.heap.size + 1 + 1 + 1, 5, none⟩ = some (.int .i64 0) := z8.cell 5
        have wf5 := z8.free 5
        have w6 : wc.cell? ⟨w.heap.size + 1 + 1 + 1, 6, none⟩ = some (.int .i64 0) := z8.cell 6
        have wf6 := z8.free 6
        clear z8
        go_wp2
        exact bodyPost_ret (v := .agg #[.int .i64 z3.p, .int .i64 z3.a, .int .i64 z3.b, .int .i64 z3.m, .int .i64 z3.wt, .int .i64 z3.g, .int .i64 z3.t]) (by simp [results, Tryz.f31, go_sem, w0, w1, w2, w3, w4, w5, w6]) rfl
          ⟨rfl, Ext.set (Ext.set (Ext.set (Ext.set (Ext.set (Ext.set (Ext.set (HI.out.e) (by dsimp only; omega) _) (by dsimp only; omega) _) (by dsimp only; omega) _) (by dsimp only; omega) _) (by dsimp only; omega) _) (by dsimp only; omega) _) (by dsimp only; omega) _⟩

end Go.Proofs.YtkmekbafjnlfkaaGreat

/- Step and Run, as the examples have them. -/

namespace Go.Proofs.YtkmekbafjnlfkaaGreat
open Go.RowKit Go.Shelf Go.Mem Go.RegInv
attribute [local go_sem] RelUpon_value RelUpon_skip RelUpon_enter BigFrame.eval_const BigFrame.eval_global BigFrame.eval_func

set_option maxRecDepth 100000 in
theorem refStep_any {r : Ru} {A0 A1 A2 A3 : Option Addr} {n0 n1 n2 n3 c0 c1 c2 c3 : Nat} {w : World} (h : RuAt w r A0 A1 A2 A3 n0 n1 n2 n3) (hr : rulesE r = 0) (s : St) (hs : StK s) (k : Pk) (hk : PkOK k) (x : Int) :
    Calls Tryz.prog 31 #[.agg #[.slice A0 n0 c0, .slice A1 n1 c1, .slice A2 n2 c2, .slice A3 n3 c3, .int .i64 r.h0, .int .i64 r.h1, .int .i64 r.h2, .int .i64 r.h3], .agg #[.int .i64 s.p, .int .i64 s.a, .int .i64 s.b, .int .i64 s.m, .int .i64 s.wt, .int .i64 s.g, .int .i64 s.t], .int .i64 x, .agg #[.int .i64 k.h, .int .i64 k.c, .int .i64 k.d]] w fun e w' => e = .returned (.agg #[.int .i64 (tickK r k s x).p, .int .i64 (tickK r k s x).a, .int .i64 (tickK r k s x).b, .int .i64 (tickK r k s x).m, .int .i64 (tickK r k s x).wt, .int .i64 (tickK r k s x).g, .int .i64 (tickK r k s x).t]) ∧ Ext w w' := by
  have hok := rulesOK hr
  obtain ⟨a1, a2⟩ := rules_asc hr
  have e1 := lastLe_lastK (k := HK.k) h.l0 a1 x
  have e2 := lastLe_lastK (k := TK.k) h.l3 a2 x
  rcases lastK_at HK.k x r.hs with hh | ⟨j, y, hh, hy⟩
  · have he : tickK r k s x = (optD (firstK CK.k x r.cs) r.cs .c ++ (optD (firstK DK.k x r.ds) r.ds .d ++ optD (lastK TK.k x r.ts) r.ts .t)).foldl (fun s d => stepD d k s) s := by
      unfold tickK tickD deedsK
      rw [if_neg (by omega)]
    rw [he]
    have hd : (firstK DK.k x r.ds < 0 ∧ optD (firstK DK.k x r.ds) r.ds .d = []) ∨ ∃ (j : Nat) (y : DK), firstK DK.k x r.ds = (j : Int) ∧ r.ds[j]? = some y ∧ optD (firstK DK.k x r.ds) r.ds .d = [.d y] := by
      rcases firstK_at DK.k x r.ds with q | ⟨j, y, q, hy⟩
      · exact .inl ⟨q, optD_neg (by omega)⟩
      · exact .inr ⟨j, y, q, hy, optD_pos q hy⟩
    have ht : (lastLe (fun y : TK => decide (y.k ≤ x)) r.ts n3 < 0 ∧ optD (lastK TK.k x r.ts) r.ts .t = []) ∨ ∃ (j : Nat) (y : TK), lastLe (fun y : TK => decide (y.k ≤ x)) r.ts n3 = (j : Int) ∧ r.ts[j]? = some y ∧ optD (lastK TK.k x r.ts) r.ts .t = [.t y] := by
      rw [e2]
      rcases lastK_at TK.k x r.ts with q | ⟨j, y, q, hy⟩
      · exact .inl ⟨q, optD_neg (by omega)⟩
      · exact .inr ⟨j, y, q, hy, optD_pos q hy⟩
    have hc : (firstK CK.k x r.cs < 0 ∧ optD (firstK CK.k x r.cs) r.cs .c = []) ∨ ∃ (j : Nat) (y : CK), firstK CK.k x r.cs = (j : Int) ∧ r.cs[j]? = some y ∧ optD (firstK CK.k x r.cs) r.cs .c = [.c y] := by
      rcases firstK_at CK.k x r.cs with q | ⟨j, y, q, hy⟩
      · exact .inl ⟨q, optD_neg (by omega)⟩
      · exact .inr ⟨j, y, q, hy, optD_pos q hy⟩
    exact refStep_cool s k x h hok hs hk (by rw [e1]; exact hh) hc hd ht
  · have he : tickK r k s x = stepD (.h y) k s := by
      unfold tickK tickD deedsK
      rw [if_pos (by omega), optD_pos hh hy]
      rfl
    rw [he]
    exact refStep_hot s k x h hs hk (by rw [e1]; exact hh) hy (hok.h y (List.mem_of_getElem? hy))
set_option maxRecDepth 100000 in
set_option maxHeartbeats 4000000 in
theorem refRun_any {r : Ru} {A0 A1 A2 A3 : Option Addr} {n0 n1 n2 n3 c0 c1 c2 c3 : Nat} {w : World} (h : RuAt w r A0 A1 A2 A3 n0 n1 n2 n3) (hr : rulesE r = 0) (s : St) (hs : StK s) (k : Pk) (hk : PkOK k) {A : Option Addr} {n ca : Nat} {xs : List Int} (hx : IntsAt w (.slice A n ca) xs) :
    Calls Tryz.prog 33 #[.agg #[.slice A0 n0 c0, .slice A1 n1 c1, .slice A2 n2 c2, .slice A3 n3 c3, .int .i64 r.h0, .int .i64 r.h1, .int .i64 r.h2, .int .i64 r.h3], .agg #[.int .i64 s.p, .int .i64 s.a, .int .i64 s.b, .int .i64 s.m, .int .i64 s.wt, .int .i64 s.g, .int .i64 s.t], .slice A n ca, .agg #[.int .i64 k.h, .int .i64 k.c, .int .i64 k.d]] w fun e w' => e = .returned (.agg #[.int .i64 (runK r k s xs).p, .int .i64 (runK r k s xs).a, .int .i64 (runK r k s xs).b, .int .i64 (runK r k s xs).m, .int .i64 (runK r k s xs).wt, .int .i64 (runK r k s xs).g, .int .i64 (runK r k s xs).t]) ∧ Ext w w' := by
  have hn : xs.length = n := by
    rcases hx with ⟨_, _, h1, h2⟩ | ⟨_, _, _, h1, _, _, _⟩
    · simp only [Value.slice.injEq] at h1; rw [h2, h1.2.1]; rfl
    · simp only [Value.slice.injEq] at h1; exact h1.2.1.symm
  have hnb : n ≤ 1152921504606846976 := by
    rcases hx with ⟨_, _, _, h2⟩ | ⟨_, _, _, _, _, hm, _⟩
    · rw [h2] at hn; simp at hn; omega
    · omega
  have HN := Lib.hid hn
  have HX := Lib.hid hx
  have HS := Lib.hid hs
  have HAT := Lib.hid h
  have HRO := Lib.hid (rulesOK hr)
  have HPK := Lib.hid hk
  have HSTEP := Lib.hid (fun (W : World) (e : Ext w W) (z : St) (hz : StK z) (x : Int) => refStep_any (c0 := c0) (c1 := c1) (c2 := c2) (c3 := c3) (h.ext e) hr z hz k hk x)
  obtain ⟨fz, hfz⟩ : ∃ fz, fz = runK r k s (xs.drop 0) := ⟨_, rfl⟩
  rw [show runK r k s xs = fz from hfz.symm]
  have HFZ := Lib.hid hfz
  clear hs h hk hx hn hfz hr
  obtain ⟨W0, hW0⟩ : ∃ W0, W0 = (((w.alloc (.cells #[.slice A0 n0 c0, .slice A1 n1 c1, .slice A2 n2 c2, .slice A3 n3 c3, .int .i64 r.h0, .int .i64 r.h1, .int .i64 r.h2, .int .i64 r.h3] 28)).alloc (.cells #[.int .i64 s.p, .int .i64 s.a, .int .i64 s.b, .int .i64 s.m, .int .i64 s.wt, .int .i64 s.g, .int .i64 s.t] 30)).alloc (.cells #[.int .i64 k.h, .int .i64 k.c, .int .i64 k.d] 32)).alloc (.cells #[.int .i64 0, .int .i64 0, .int .i64 0, .int .i64 0, .int .i64 0, .int .i64 0, .int .i64 0] 30) := ⟨_, rfl⟩
  have HI := Lib.hid (show BoxI w W0 32 #[.slice A0 n0 c0, .slice A1 n1 c1, .slice A2 n2 c2, .slice A3 n3 c3, .int .i64 r.h0, .int .i64 r.h1, .int .i64 r.h2, .int .i64 r.h3] s #[.int .i64 k.h, .int .i64 k.c, .int .i64 k.d] by rw [hW0]; exact (BoxI.new _ _ _ _ _).ext (Ext.alloc _ _))
  have K8 := Lib.hid (show Blk W0 (w.heap.size + 1 + 1 + 1) 30 #[.int .i64 0, .int .i64 0, .int .i64 0, .int .i64 0, .int .i64 0, .int .i64 0, .int .i64 0] by rw [hW0]; exact Blk.newAt _ _ _ (by simp))
  go_enter Tryz.func33, Tryz.ntmps33
  go_wp2
  rw [← hW0]
  clear hW0
  go_loopw [9] (fun i wr => ∃ (j : Nat) (z : St), j ≤ n ∧ i = .int .i64 j ∧ StK z ∧ fz = runK r k z (xs.drop j) ∧ BoxI w wr 32 #[.slice A0 n0 c0, .slice A1 n1 c1, .slice A2 n2 c2, .slice A3 n3 c3, .int .i64 r.h0, .int .i64 r.h1, .int .i64 r.h2, .int .i64 r.h3] z #[.int .i64 k.h, .int .i64 k.c, .int .i64 k.d] ∧ Blk wr (w.heap.size + 1 + 1 + 1) 30 #[.int .i64 0, .int .i64 0, .int .i64 0, .int .i64 0, .int .i64 0, .int .i64 0, .int .i64 0]) (fun i _ => n - (intOf i).toNat)
  case atStart => exact ⟨0, s, Nat.zero_le _, rfl, HS.out, HFZ.out, HI.out, K8.out⟩
  case round =>
    obtain ⟨j, z, hj, rfl, hz, hf, hI, h8⟩ := hrel
    clear HI K8 HS HFZ
    have HI := Lib.hid hI
    have K8 := Lib.hid h8
    have HZ := Lib.hid hz
    have HF := Lib.hid hf
    clear hI h8 hz hf
    by_cases hlt : j < n
    · obtain ⟨x, hxx⟩ : ∃ x, xs[j]? = some x := ⟨_, List.getElem?_eq_getElem (by rw [HN.out]; exact hlt)⟩
      have hji : (j : Int) < (n : Int) := by omega
      obtain ⟨b, o, hA, hc⟩ : ∃ b o, A = some ⟨b, o, none⟩ ∧ w.cell? ⟨b, o + j, none⟩ = some (.int .i64 x) := by
        rcases HX.out with ⟨_, _, _, h2⟩ | ⟨b, o, ca', h1, hb, hm, hc⟩
        · rw [h2] at hxx; simp at hxx
        · have h3 := hc j (by rw [HN.out]; exact hlt)
          rw [List.getD_eq_getElem?_getD, hxx] at h3
          simp only [Value.slice.injEq] at h1
          exact ⟨b, o, h1.1, h3⟩
      subst hA
      have HD := Lib.hid (show xs.drop j = x :: xs.drop (j + 1) by
        obtain ⟨h1, h2⟩ := List.getElem?_eq_some_iff.1 hxx
        rw [List.drop_eq_getElem_cons h1, h2])
      have cj : wr.cell? ⟨b, o + j, none⟩ = some (.int .i64 x) := HI.out.e.cell hc
      have HST := Lib.hid (fun (W : World) (e : Ext w W) => HSTEP.out W e z HZ.out x)
      have HYK := Lib.hid (tick_ok HRO.out HPK.out HZ.out x)
      have HFY := Lib.hid (show fz = runK r k (tickK r k z x) (xs.drop (j + 1)) by rw [HF.out, HD.out]; rfl)
      clear hc hxx HF
      generalize tickK r k z x = y at HST HYK HFY
      have y0 : wr.cell? ⟨w.heap.size, 0, none⟩ = some (.slice A0 n0 c0) := HI.out.k0.cell 0
      have y1 : wr.cell? ⟨w.heap.size, 1, none⟩ = some (.slice A1 n1 c1) := HI.out.k0.cell 1
      have y2 : wr.cell? ⟨w.heap.size, 2, none⟩ = some (.slice A2 n2 c2) := HI.out.k0.cell 2
      have y3 : wr.cell? ⟨w.heap.size, 3, none⟩ = some (.slice A3 n3 c3) := HI.out.k0.cell 3
      have y4 : wr.cell? ⟨w.heap.size, 4, none⟩ = some (.int .i64 r.h0) := HI.out.k0.cell 4
      have y5 : wr.cell? ⟨w.heap.size, 5, none⟩ = some (.int .i64 r.h1) := HI.out.k0.cell 5
      have y6 : wr.cell? ⟨w.heap.size, 6, none⟩ = some (.int .i64 r.h2) := HI.out.k0.cell 6
      have y7 : wr.cell? ⟨w.heap.size, 7, none⟩ = some (.int .i64 r.h3) := HI.out.k0.cell 7
      have x0 : wr.cell? ⟨w.heap.size + 1, 0, none⟩ = some (.int .i64 z.p) := HI.out.k1.cell 0
      have x1 : wr.cell? ⟨w.heap.size + 1, 1, none⟩ = some (.int .i64 z.a) := HI.out.k1.cell 1
      have x2 : wr.cell? ⟨w.heap.size + 1, 2, none⟩ = some (.int .i64 z.b) := HI.out.k1.cell 2
      have x3 : wr.cell? ⟨w.heap.size + 1, 3, none⟩ = some (.int .i64 z.m) := HI.out.k1.cell 3
      have x4 : wr.cell? ⟨w.heap.size + 1, 4, none⟩ = some (.int .i64 z.wt) := HI.out.k1.cell 4
      have x5 : wr.cell? ⟨w.heap.size + 1, 5, none⟩ = some (.int .i64 z.g) := HI.out.k1.cell 5
      have x6 : wr.cell? ⟨w.heap.size + 1, 6, none⟩ = some (.int .i64 z.t) := HI.out.k1.cell 6
      have v0 : wr.cell? ⟨w.heap.size + 1 + 1, 0, none⟩ = some (.int .i64 k.h) := HI.out.k2.cell 0
      have v1 : wr.cell? ⟨w.heap.size + 1 + 1, 1, none⟩ = some (.int .i64 k.c) := HI.out.k2.cell 1
      have v2 : wr.cell? ⟨w.heap.size + 1 + 1, 2, none⟩ = some (.int .i64 k.d) := HI.out.k2.cell 2
      go_wp2
      refine wp_region_part 8 [some 16, some 17, some 18, some 19, some 20, some 21, some 22, some 23] [[4], [5], [2], [9], [18, 19], [20], [7], [16, 17, 21, 22]]
        [Is (.agg #[.slice A0 n0 c0, .slice A1 n1 c1, .slice A2 n2 c2, .slice A3 n3 c3, .int .i64 (r.h0), .int .i64 (r.h1), .int .i64 (r.h2), .int .i64 (r.h3)]), Is (.agg #[.int .i64 (z.p), .int .i64 (z.a), .int .i64 (z.b), .int .i64 (z.m), .int .i64 (z.wt), .int .i64 (z.g), .int .i64 (z.t)]), Is (.slice (some ⟨b, o, none⟩) n ca), Is (.int .i64 ((j : Int))), Is (.pointer (some ⟨b, o + j, none⟩)), Is (.int .i64 (x)), Is (.agg #[.int .i64 (k.h), .int .i64 (k.c), .int .i64 (k.d)]), Is (.agg #[.int .i64 y.p, .int .i64 y.a, .int .i64 y.b, .int .i64 y.m, .int .i64 y.wt, .int .i64 y.g, .int .i64 y.t])]
        (by kernel_rfl) (by kernel_rfl) (by kernel_rfl) (by kernel_rfl) (by kernel_rfl) (by kernel_rfl) (by kernel_rfl) Ext (fun W => Ext wr W)
        (fun W _ => Ext.refl W) (fun W W' h k => h.trans k) ?_ (Ext.drew _) ?_ ?_
      · repeat (refine ⟨fun _ _ _ _ k h => (by first | exact h | exact (by first | exact IntsAt.ext h k | exact KnV.ext h k | exact NumsV.ext h k)), ?_⟩)
        exact trivial
      · refine ⟨?_, ?_, ?_, ?_, ?_, ?_, ?_, ?_, trivial⟩
        all_goals intro ρ W ⟨kc, kg, kf⟩ hF hs
        · obtain ⟨h0, -⟩ := hs
          replace h0 : ρ (.tmp 4) = .pointer (some ⟨w.heap.size, 0, none⟩) := h0
          have hc0 : W.cell? ⟨w.heap.size, 0, none⟩ = some (.slice A0 n0 c0) := hF.cell (by assumption)
          have hc1 : W.cell? ⟨w.heap.size, 1, none⟩ = some (.slice A1 n1 c1) := hF.cell (by assumption)
          have hc2 : W.cell? ⟨w.heap.size, 2, none⟩ = some (.slice A2 n2 c2) := hF.cell (by assumption)
          have hc3 : W.cell? ⟨w.heap.size, 3, none⟩ = some (.slice A3 n3 c3) := hF.cell (by assumption)
          have hc4 : W.cell? ⟨w.heap.size, 4, none⟩ = some (.int .i64 (r.h0)) := hF.cell (by assumption)
          have hc5 : W.cell? ⟨w.heap.size, 5, none⟩ = some (.int .i64 (r.h1)) := hF.cell (by assumption)
          have hc6 : W.cell? ⟨w.heap.size, 6, none⟩ = some (.int .i64 (r.h2)) := hF.cell (by assumption)
          have hc7 : W.cell? ⟨w.heap.size, 7, none⟩ = some (.int .i64 (r.h3)) := hF.cell (by assumption)
          go_simp
          exact ⟨Ext.refl _, rfl⟩
        · obtain ⟨h0, -⟩ := hs
          replace h0 : ρ (.tmp 5) = .pointer (some ⟨w.heap.size + 1, 0, none⟩) := h0
          have hc0 : W.cell? ⟨w.heap.size + 1, 0, none⟩ = some (.int .i64 (z.p)) := hF.cell (by assumption)
          have hc1 : W.cell? ⟨w.heap.size + 1, 1, none⟩ = some (.int .i64 (z.a)) := hF.cell (by assumption)
          have hc2 : W.cell? ⟨w.heap.size + 1, 2, none⟩ = some (.int .i64 (z.b)) := hF.cell (by assumption)
          have hc3 : W.cell? ⟨w.heap.size + 1, 3, none⟩ = some (.int .i64 (z.m)) := hF.cell (by assumption)
          have hc4 : W.cell? ⟨w.heap.size + 1, 4, none⟩ = some (.int .i64 (z.wt)) := hF.cell (by assumption)
          have hc5 : W.cell? ⟨w.heap.size + 1, 5, none⟩ = some (.int .i64 (z.g)) := hF.cell (by assumption)
          have hc6 : W.cell? ⟨w.heap.size + 1, 6, none⟩ = some (.int .i64 (z.t)) := hF.cell (by assumption)
          go_simp
          exact ⟨Ext.refl _, rfl⟩
        · obtain ⟨h0, -⟩ := hs
          replace h0 : ρ (.tmp 2) = .slice (some ⟨b, o, none⟩) n ca := h0
          go_simp
          exact ⟨Ext.refl _, rfl⟩
        · obtain ⟨h0, -⟩ := hs
          replace h0 : ρ (.tmp 9) = .int .i64 ((j : Int)) := h0
          go_simp
          exact ⟨Ext.refl _, rfl⟩
        · obtain ⟨h0, h1, -⟩ := hs
          replace h0 : ρ (.tmp 18) = .slice (some ⟨b, o, none⟩) n ca := h0
          replace h1 : ρ (.tmp 19) = .int .i64 ((j : Int)) := h1
          go_simp
          exact ⟨Ext.refl _, rfl⟩
        · obtain ⟨h0, -⟩ := hs
          replace h0 : ρ (.tmp 20) = .pointer (some ⟨b, o + j, none⟩) := h0
          have hc0 : W.cell? ⟨b, o + j, none⟩ = some (.int .i64 (x)) := hF.cell (by assumption)
          go_simp
          exact ⟨Ext.refl _, rfl⟩
        · obtain ⟨h0, -⟩ := hs
          replace h0 : ρ (.tmp 7) = .pointer (some ⟨w.heap.size + 1 + 1, 0, none⟩) := h0
          have hc0 : W.cell? ⟨w.heap.size + 1 + 1, 0, none⟩ = some (.int .i64 (k.h)) := hF.cell (by assumption)
          have hc1 : W.cell? ⟨w.heap.size + 1 + 1, 1, none⟩ = some (.int .i64 (k.c)) := hF.cell (by assumption)
          have hc2 : W.cell? ⟨w.heap.size + 1 + 1, 2, none⟩ = some (.int .i64 (k.d)) := hF.cell (by assumption)
          go_simp
          exact ⟨Ext.refl _, rfl⟩
        · obtain ⟨h0, h1, h2, h3, -⟩ := hs
          replace h0 : ρ (.tmp 16) = .agg #[.slice A0 n0 c0, .slice A1 n1 c1, .slice A2 n2 c2, .slice A3 n3 c3, .int .i64 (r.h0), .int .i64 (r.h1), .int .i64 (r.h2), .int .i64 (r.h3)] := h0
          replace h1 : ρ (.tmp 17) = .agg #[.int .i64 (z.p), .int .i64 (z.a), .int .i64 (z.b), .int .i64 (z.m), .int .i64 (z.wt), .int .i64 (z.g), .int .i64 (z.t)] := h1
          replace h2 : ρ (.tmp 21) = .int .i64 (x) := h2
          replace h3 : ρ (.tmp 22) = .agg #[.int .i64 (k.h), .int .i64 (k.c), .int .i64 (k.d)] := h3
          go_simp
          refine (HST.out _ (HI.out.e.trans hF)).mono ?_; rintro e w' ⟨rfl, hx⟩; exact ⟨_, rfl, hx, rfl⟩
      · intro fv W1 hF hs
        obtain ⟨-, -, -, -, -, -, -, h23, -⟩ := hs
        replace h23 : fv 23 = .agg #[.int .i64 y.p, .int .i64 y.a, .int .i64 y.b, .int .i64 y.m, .int .i64 y.wt, .int .i64 y.g, .int .i64 y.t] := h23
        simp only [fin, List.filterMap]
        go_simp
        replace HI := Lib.hid (HI.out.ext hF)
        replace K8 := Lib.hid (K8.out.ext hF)
        clear hF cj
        clear y0 y1 y2 y3 y4 y5 y6 y7 x0 x1 x2 x3 x4 x5 x6 v0 v1 v2
        have y0 : W1.cell? ⟨w.heap.size, 0, none⟩ = some (.slice A0 n0 c0) := HI.out.k0.cell 0
        have y1 : W1.cell? ⟨w.heap.size, 1, none⟩ = some (.slice A1 n1 c1) := HI.out.k0.cell 1
        have y2 : W1.cell? ⟨w.heap.size, 2, none⟩ = some (.slice A2 n2 c2) := HI.out.k0.cell 2
        have y3 : W1.cell? ⟨w.heap.size, 3, none⟩ = some (.slice A3 n3 c3) := HI.out.k0.cell 3
        have y4 : W1.cell? ⟨w.heap.size, 4, none⟩ = some (.int .i64 r.h0) := HI.out.k0.cell 4
        have y5 : W1.cell? ⟨w.heap.size, 5, none⟩ = some (.int .i64 r.h1) := HI.out.k0.cell 5
        have y6 : W1.cell? ⟨w.heap.size, 6, none⟩ = some (.int .i64 r.h2) := HI.out.k0.cell 6
        have y7 : W1.cell? ⟨w.heap.size, 7, none⟩ = some (.int .i64 r.h3) := HI.out.k0.cell 7
        have x0 : W1.cell? ⟨w.heap.size + 1, 0, none⟩ = some (.int .i64 z.p) := HI.out.k1.cell 0
        have x1 : W1.cell? ⟨w.heap.size + 1, 1, none⟩ = some (.int .i64 z.a) := HI.out.k1.cell 1
        have x2 : W1.cell? ⟨w.heap.size + 1, 2, none⟩ = some (.int .i64 z.b) := HI.out.k1.cell 2
        have x3 : W1.cell? ⟨w.heap.size + 1, 3, none⟩ = some (.int .i64 z.m) := HI.out.k1.cell 3
        have x4 : W1.cell? ⟨w.heap.size + 1, 4, none⟩ = some (.int .i64 z.wt) := HI.out.k1.cell 4
        have x5 : W1.cell? ⟨w.heap.size + 1, 5, none⟩ = some (.int .i64 z.g) := HI.out.k1.cell 5
        have x6 : W1.cell? ⟨w.heap.size + 1, 6, none⟩ = some (.int .i64 z.t) := HI.out.k1.cell 6
        have v0 : W1.cell? ⟨w.heap.size + 1 + 1, 0, none⟩ = some (.int .i64 k.h) := HI.out.k2.cell 0
        have v1 : W1.cell? ⟨w.heap.size + 1 + 1, 1, none⟩ = some (.int .i64 k.c) := HI.out.k2.cell 1
        have v2 : W1.cell? ⟨w.heap.size + 1 + 1, 2, none⟩ = some (.int .i64 k.d) := HI.out.k2.cell 2
        have xf0 := HI.out.k1.free 0
        have xf1 := HI.out.k1.free 1
        have xf2 := HI.out.k1.free 2
        have xf3 := HI.out.k1.free 3
        have xf4 := HI.out.k1.free 4
        have xf5 := HI.out.k1.free 5
        have xf6 := HI.out.k1.free 6
        go_wp2
        go_roundw
        case rel => exact ⟨j + 1, y, by omega, by go_num, HYK.out, HFY.out, HI.out.step, (((((((K8.out.setOther (by dsimp only; omega) _).setOther (by dsimp only; omega) _).setOther (by dsimp only; omega) _).setOther (by dsimp only; omega) _).setOther (by dsimp only; omega) _).setOther (by dsimp only; omega) _).setOther (by dsimp only; omega) _)⟩
        case measure => simp [intOf]; omega
    · have HE := Lib.hid (show fz = z by rw [HF.out, List.drop_of_length_le (by rw [HN.out]; omega)]; rfl)
      have y0 : wr.cell? ⟨w.heap.size, 0, none⟩ = some (.slice A0 n0 c0) := HI.out.k0.cell 0
      have y1 : wr.cell? ⟨w.heap.size, 1, none⟩ = some (.slice A1 n1 c1) := HI.out.k0.cell 1
      have y2 : wr.cell? ⟨w.heap.size, 2, none⟩ = some (.slice A2 n2 c2) := HI.out.k0.cell 2
      have y3 : wr.cell? ⟨w.heap.size, 3, none⟩ = some (.slice A3 n3 c3) := HI.out.k0.cell 3
      have y4 : wr.cell? ⟨w.heap.size, 4, none⟩ = some (.int .i64 r.h0) := HI.out.k0.cell 4
      have y5 : wr.cell? ⟨w.heap.size, 5, none⟩ = some (.int .i64 r.h1) := HI.out.k0.cell 5
      have y6 : wr.cell? ⟨w.heap.size, 6, none⟩ = some (.int .i64 r.h2) := HI.out.k0.cell 6
      have y7 : wr.cell? ⟨w.heap.size, 7, none⟩ = some (.int .i64 r.h3) := HI.out.k0.cell 7
      have x0 : wr.cell? ⟨w.heap.size + 1, 0, none⟩ = some (.int .i64 z.p) := HI.out.k1.cell 0
      have x1 : wr.cell? ⟨w.heap.size + 1, 1, none⟩ = some (.int .i64 z.a) := HI.out.k1.cell 1
      have x2 : wr.cell? ⟨w.heap.size + 1, 2, none⟩ = some (.int .i64 z.b) := HI.out.k1.cell 2
      have x3 : wr.cell? ⟨w.heap.size + 1, 3, none⟩ = some (.int .i64 z.m) := HI.out.k1.cell 3
      have x4 : wr.cell? ⟨w.heap.size + 1, 4, none⟩ = some (.int .i64 z.wt) := HI.out.k1.cell 4
      have x5 : wr.cell? ⟨w.heap.size + 1, 5, none⟩ = some (.int .i64 z.g) := HI.out.k1.cell 5
      have x6 : wr.cell? ⟨w.heap.size + 1, 6, none⟩ = some (.int .i64 z.t) := HI.out.k1.cell 6
      have v0 : wr.cell? ⟨w.heap.size + 1 + 1, 0, none⟩ = some (.int .i64 k.h) := HI.out.k2.cell 0
      have v1 : wr.cell? ⟨w.heap.size + 1 + 1, 1, none⟩ = some (.int .i64 k.c) := HI.out.k2.cell 1
      have v2 : wr.cell? ⟨w.heap.size + 1 + 1, 2, none⟩ = some (.int .i64 k.d) := HI.out.k2.cell 2
      have xf0 := HI.out.k1.free 0
      have xf1 := HI.out.k1.free 1
      have xf2 := HI.out.k1.free 2
      have xf3 := HI.out.k1.free 3
      have xf4 := HI.out.k1.free 4
      have xf5 := HI.out.k1.free 5
      have xf6 := HI.out.k1.free 6
      have z8 := K8.out
      have w0 : wr.cell? ⟨w.heap.size + 1 + 1 + 1, 0, none⟩ = some (.int .i64 0) := z8.cell 0
      have wf0 := z8.free 0
      have w1 : wr.cell? ⟨w.heap.size + 1 + 1 + 1, 1, none⟩ = some (.int .i64 0) := z8.cell 1
      have wf1 := z8.free 1
      have w2 : wr.cell? ⟨w.heap.size + 1 + 1 + 1, 2, none⟩ = some (.int .i64 0) := z8.cell 2
      have wf2 := z8.free 2
      have w3 : wr.cell? ⟨w.heap.size + 1 + 1 + 1, 3, none⟩ = some (.int .i64 0) := z8.cell 3
      have wf3 := z8.free 3
      have w4 : wr.cell? ⟨w.heap.size + 1 + 1 + 1, 4, none⟩ = some (.int .i64 0) := z8.cell 4
      have wf4 := z8.free 4
      have w5 : wr.cell? ⟨w.heap.size + 1 + 1 + 1, 5, none⟩ = some (.int .i64 0) := z8.cell 5
      have wf5 := z8.free 5
      have w6 : wr.cell? ⟨w.heap.size + 1 + 1 + 1, 6, none⟩ = some (.int .i64 0) := z8.cell 6
      have wf6 := z8.free 6
      clear z8
      go_wp2
      exact bodyPost_ret (v := .agg #[.int .i64 z.p, .int .i64 z.a, .int .i64 z.b, .int .i64 z.m, .int .i64 z.wt, .int .i64 z.g, .int .i64 z.t]) (by simp [results, Tryz.f33, go_sem, w0, w1, w2, w3, w4, w5, w6]) rfl
        ⟨by rw [HE.out], Ext.set (Ext.set (Ext.set (Ext.set (Ext.set (Ext.set (Ext.set (HI.out.e) (by dsimp only; omega) _) (by dsimp only; omega) _) (by dsimp only; omega) _) (by dsimp only; omega) _) (by dsimp only; omega) _) (by dsimp only; omega) _) (by dsimp only; omega) _⟩

end Go.Proofs.YtkmekbafjnlfkaaGreat

