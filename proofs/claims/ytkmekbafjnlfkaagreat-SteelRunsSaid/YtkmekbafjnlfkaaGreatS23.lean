/- RunOf. -/
import Derived.Test.YtkmekbafjnlfkaaGreatS22

namespace Go.Proofs.YtkmekbafjnlfkaaGreat
open Go.RowKit Go.Shelf Go.Mem Go.RegInv
attribute [local go_sem] RelUpon_value RelUpon_skip RelUpon_enter BigFrame.eval_const BigFrame.eval_global BigFrame.eval_func

/-- The error of a run. -/
def runE (r : Ru) (s : St) (xs : List Int) (k : Pk) : Int := firstE [rulesE r, stateE [s.p, s.a, s.b, s.m, s.wt, s.g, s.t], curveE xs, pickE k.h k.c k.d]
theorem run_ok {r : Ru} {s : St} {xs : List Int} {k : Pk} (h : runE r s xs k = 0) : rulesE r = 0 ∧ StK s ∧ PkOK k := by
  have h1 := firstE_zero h (rulesE r) (by simp)
  have h2 := firstE_zero h (stateE [s.p, s.a, s.b, s.m, s.wt, s.g, s.t]) (by simp)
  have h4 := rangeE_zeros (firstE_zero h (pickE k.h k.c k.d) (by simp))
  have a := h4 k.h (by simp)
  have b := h4 k.c (by simp)
  have c := h4 k.d (by simp)
  exact ⟨h1, state_ok h2, a.1, a.2, b.1, b.2, c.1, c.2⟩
set_option maxRecDepth 100000 in
set_option maxHeartbeats 8000000 in
theorem runOf_any {r : Ru} {u : Value} {w : World} (hR : RuV r u w) (hok : rulesE r = 0 → RuOK r) (s : St) (k : Pk) {A : Option Addr} {n ca : Nat} {xs : List Int} (hx : IntsAt w (.slice A n ca) xs) :
    Calls Tryz.prog 24 #[u, .agg #[.int .i64 s.p, .int .i64 s.a, .int .i64 s.b, .int .i64 s.m, .int .i64 s.wt, .int .i64 s.g, .int .i64 s.t], .agg #[.slice A n ca, .int .i64 k.h, .int .i64 k.c, .int .i64 k.d]] w fun e w' => e = .returned (.tuple #[.agg #[.int .i64 (if runE r s xs k = 0 then runK r k s xs else ⟨0, 0, 0, 0, 0, 0, 0⟩).p, .int .i64 (if runE r s xs k = 0 then runK r k s xs else ⟨0, 0, 0, 0, 0, 0, 0⟩).a, .int .i64 (if runE r s xs k = 0 then runK r k s xs else ⟨0, 0, 0, 0, 0, 0, 0⟩).b, .int .i64 (if runE r s xs k = 0 then runK r k s xs else ⟨0, 0, 0, 0, 0, 0, 0⟩).m, .int .i64 (if runE r s xs k = 0 then runK r k s xs else ⟨0, 0, 0, 0, 0, 0, 0⟩).wt, .int .i64 (if runE r s xs k = 0 then runK r k s xs else ⟨0, 0, 0, 0, 0, 0, 0⟩).g, .int .i64 (if runE r s xs k = 0 then runK r k s xs else ⟨0, 0, 0, 0, 0, 0, 0⟩).t], .int .i64 (runE r s xs k)]) ∧ Ext w w' := by
  have HXS := Lib.hid hx
  have HR := Lib.hid hR
  have HK := Lib.hid hok
  obtain ⟨A0, A1, A2, A3, n0, n1, n2, n3, c0, c1, c2, c3, rfl, -⟩ := hR
  obtain ⟨W0, hW0⟩ : ∃ W0, W0 = (((w.alloc (.cells #[.slice A0 n0 c0, .slice A1 n1 c1, .slice A2 n2 c2, .slice A3 n3 c3, .int .i64 r.h0, .int .i64 r.h1, .int .i64 r.h2, .int .i64 r.h3] 28)).alloc (.cells #[.int .i64 s.p, .int .i64 s.a, .int .i64 s.b, .int .i64 s.m, .int .i64 s.wt, .int .i64 s.g, .int .i64 s.t] 30)).alloc (.cells #[.slice A n ca, .int .i64 k.h, .int .i64 k.c, .int .i64 k.d] 48)).alloc (.cells #[.int .i64 0, .int .i64 0, .int .i64 0, .int .i64 0, .int .i64 0, .int .i64 0, .int .i64 0] 30) := ⟨_, rfl⟩
  have k0 : Blk W0 (w.heap.size) 28 #[.slice A0 n0 c0, .slice A1 n1 c1, .slice A2 n2 c2, .slice A3 n3 c3, .int .i64 r.h0, .int .i64 r.h1, .int .i64 r.h2, .int .i64 r.h3] := by rw [hW0]; exact (((Blk.new _ _ _).alloc _).alloc _).alloc _
  have k1 : Blk W0 (w.heap.size + 1) 30 #[.int .i64 s.p, .int .i64 s.a, .int .i64 s.b, .int .i64 s.m, .int .i64 s.wt, .int .i64 s.g, .int .i64 s.t] := by rw [hW0]; exact ((Blk.newAt _ _ _ (by simp)).alloc _).alloc _
  have k2 : Blk W0 (w.heap.size + 1 + 1) 48 #[.slice A n ca, .int .i64 k.h, .int .i64 k.c, .int .i64 k.d] := by rw [hW0]; exact (Blk.newAt _ _ _ (by simp)).alloc _
  have k3 : Blk W0 (w.heap.size + 1 + 1 + 1) 30 #[.int .i64 0, .int .i64 0, .int .i64 0, .int .i64 0, .int .i64 0, .int .i64 0, .int .i64 0] := by rw [hW0]; exact Blk.newAt _ _ _ (by simp)
  have e0 : Ext w W0 := by rw [hW0]; exact (((Ext.alloc _ _).trans (Ext.alloc _ _)).trans (Ext.alloc _ _)).trans (Ext.alloc _ _)
  have E0 := Lib.hid e0
  have K0 := Lib.hid k0
  have K1 := Lib.hid k1
  have K2 := Lib.hid k2
  have K3 := Lib.hid k3
  have y0 : W0.cell? ⟨w.heap.size, 0, none⟩ = some (.slice A0 n0 c0) := k0.cell 0
  have y1 : W0.cell? ⟨w.heap.size, 1, none⟩ = some (.slice A1 n1 c1) := k0.cell 1
  have y2 : W0.cell? ⟨w.heap.size, 2, none⟩ = some (.slice A2 n2 c2) := k0.cell 2
  have y3 : W0.cell? ⟨w.heap.size, 3, none⟩ = some (.slice A3 n3 c3) := k0.cell 3
  have y4 : W0.cell? ⟨w.heap.size, 4, none⟩ = some (.int .i64 (r.h0)) := k0.cell 4
  have y5 : W0.cell? ⟨w.heap.size, 5, none⟩ = some (.int .i64 (r.h1)) := k0.cell 5
  have y6 : W0.cell? ⟨w.heap.size, 6, none⟩ = some (.int .i64 (r.h2)) := k0.cell 6
  have y7 : W0.cell? ⟨w.heap.size, 7, none⟩ = some (.int .i64 (r.h3)) := k0.cell 7
  have x0 : W0.cell? ⟨w.heap.size + 1, 0, none⟩ = some (.int .i64 s.p) := k1.cell 0
  have x1 : W0.cell? ⟨w.heap.size + 1, 1, none⟩ = some (.int .i64 s.a) := k1.cell 1
  have x2 : W0.cell? ⟨w.heap.size + 1, 2, none⟩ = some (.int .i64 s.b) := k1.cell 2
  have x3 : W0.cell? ⟨w.heap.size + 1, 3, none⟩ = some (.int .i64 s.m) := k1.cell 3
  have x4 : W0.cell? ⟨w.heap.size + 1, 4, none⟩ = some (.int .i64 s.wt) := k1.cell 4
  have x5 : W0.cell? ⟨w.heap.size + 1, 5, none⟩ = some (.int .i64 s.g) := k1.cell 5
  have x6 : W0.cell? ⟨w.heap.size + 1, 6, none⟩ = some (.int .i64 s.t) := k1.cell 6
  have v0 : W0.cell? ⟨w.heap.size + 1 + 1, 0, none⟩ = some (.slice A n ca) := k2.cell 0
  have v1 : W0.cell? ⟨w.heap.size + 1 + 1, 1, none⟩ = some (.int .i64 k.h) := k2.cell 1
  have v2 : W0.cell? ⟨w.heap.size + 1 + 1, 2, none⟩ = some (.int .i64 k.c) := k2.cell 2
  have v3 : W0.cell? ⟨w.heap.size + 1 + 1, 3, none⟩ = some (.int .i64 k.d) := k2.cell 3
  have HB := Lib.hid (show runE r s xs k = firstE [rulesE r, stateE [s.p, s.a, s.b, s.m, s.wt, s.g, s.t], curveE xs, pickE k.h k.c k.d] from rfl)
  have HOK := Lib.hid (fun h => run_ok (r := r) (s := s) (xs := xs) (k := k) h)
  generalize runE r s xs k = ez at HB HOK ⊢
  obtain ⟨fz, hfz⟩ : ∃ fz, fz = if ez = 0 then runK r k s xs else ⟨0, 0, 0, 0, 0, 0, 0⟩ := ⟨_, rfl⟩
  rw [← hfz]
  have HFZ := Lib.hid hfz
  clear hfz
  clear hx hok k0 k1 k2 k3 e0
  go_enter Tryz.func24, Tryz.ntmps24
  go_wp2
  rw [← hW0]
  clear hW0
  refine wp_region_each [some 9, some 10, some 11, some 12, some 13, some 14, some 15, some 16, some 17, some 18, some 19, some 20, some 8] [[3], [9], [4], [11], [5], [13], [14], [5], [16], [17], [10, 12, 15, 18], [19], [20]]
    [Is (.agg #[.slice A0 n0 c0, .slice A1 n1 c1, .slice A2 n2 c2, .slice A3 n3 c3, .int .i64 (r.h0), .int .i64 (r.h1), .int .i64 (r.h2), .int .i64 (r.h3)]), Is (.int .i64 (rulesE r)), Is (.agg #[.int .i64 (s.p), .int .i64 (s.a), .int .i64 (s.b), .int .i64 (s.m), .int .i64 (s.wt), .int .i64 (s.g), .int .i64 (s.t)]), Is (.int .i64 (stateE [s.p, s.a, s.b, s.m, s.wt, s.g, s.t])), Is (.pointer (some ⟨w.heap.size + 1 + 1, 0, none⟩)), Is (.slice A n ca), Is (.int .i64 (curveE xs)), Is (.pointer (some ⟨w.heap.size + 1 + 1, 1, none⟩)), Is (.agg #[.int .i64 (k.h), .int .i64 (k.c), .int .i64 (k.d)]), Is (.int .i64 (pickE k.h k.c k.d)), Ints [rulesE r, stateE [s.p, s.a, s.b, s.m, s.wt, s.g, s.t], curveE xs, pickE k.h k.c k.d], Is (.int .i64 (firstE [rulesE r, stateE [s.p, s.a, s.b, s.m, s.wt, s.g, s.t], curveE xs, pickE k.h k.c k.d])), Is (.int .i64 (firstE [rulesE r, stateE [s.p, s.a, s.b, s.m, s.wt, s.g, s.t], curveE xs, pickE k.h k.c k.d]))]
    (by kernel_rfl) (by kernel_rfl) (by kernel_rfl) (by kernel_rfl) (by kernel_rfl) Ext (fun W => Ext W0 W)
    (fun W _ => Ext.refl W) (fun W W' h k => h.trans k) ?_ (Ext.drew _) ?_ ?_
  · repeat (refine ⟨fun _ _ _ _ k h => (by first | exact h | exact (by first | exact IntsAt.ext h k | exact KnV.ext h k | exact NumsV.ext h k)), ?_⟩)
    exact trivial
  · refine ⟨?_, ?_, ?_, ?_, ?_, ?_, ?_, ?_, ?_, ?_, ?_, ?_, ?_, trivial⟩
    all_goals intro ρ W ⟨kc, kg, kf⟩ hF hs
    · obtain ⟨h0, -⟩ := hs
      replace h0 : ρ (.tmp 3) = .pointer (some ⟨w.heap.size, 0, none⟩) := h0
      have hc0 : W.cell? ⟨w.heap.size, 0, none⟩ = some (.slice A0 n0 c0) := hF.cell (by assumption)
      have hc1 : W.cell? ⟨w.heap.size, 1, none⟩ = some (.slice A1 n1 c1) := hF.cell (by assumption)
      have hc2 : W.cell? ⟨w.heap.size, 2, none⟩ = some (.slice A2 n2 c2) := hF.cell (by assumption)
      have hc3 : W.cell? ⟨w.heap.size, 3, none⟩ = some (.slice A3 n3 c3) := hF.cell (by assumption)
      have hc4 : W.cell? ⟨w.heap.size, 4, none⟩ = some (.int .i64 (r.h0)) := hF.cell (by assumption)
      have hc5 : W.cell? ⟨w.heap.size, 5, none⟩ = some (.int .i64 (r.h1)) := hF.cell (by assumption)
      have hc6 : W.cell? ⟨w.heap.size, 6, none⟩ = some (.int .i64 (r.h2)) := hF.cell (by assumption)
      have hc7 : W.cell? ⟨w.heap.size, 7, none⟩ = some (.int .i64 (r.h3)) := hF.cell (by assumption)
      go_simp
      exact ⟨Ext.refl _, rfl⟩
    · obtain ⟨h0, -⟩ := hs
      replace h0 : ρ (.tmp 9) = .agg #[.slice A0 n0 c0, .slice A1 n1 c1, .slice A2 n2 c2, .slice A3 n3 c3, .int .i64 (r.h0), .int .i64 (r.h1), .int .i64 (r.h2), .int .i64 (r.h3)] := h0
      go_simp
      refine (rulesError_any (HR.out.ext (E0.out.trans hF))).mono ?_; rintro e w' ⟨rfl, hx⟩; exact ⟨_, rfl, hx, rfl⟩
    · obtain ⟨h0, -⟩ := hs
      replace h0 : ρ (.tmp 4) = .pointer (some ⟨w.heap.size + 1, 0, none⟩) := h0
      have hc0 : W.cell? ⟨w.heap.size + 1, 0, none⟩ = some (.int .i64 (s.p)) := hF.cell (by assumption)
      have hc1 : W.cell? ⟨w.heap.size + 1, 1, none⟩ = some (.int .i64 (s.a)) := hF.cell (by assumption)
      have hc2 : W.cell? ⟨w.heap.size + 1, 2, none⟩ = some (.int .i64 (s.b)) := hF.cell (by assumption)
      have hc3 : W.cell? ⟨w.heap.size + 1, 3, none⟩ = some (.int .i64 (s.m)) := hF.cell (by assumption)
      have hc4 : W.cell? ⟨w.heap.size + 1, 4, none⟩ = some (.int .i64 (s.wt)) := hF.cell (by assumption)
      have hc5 : W.cell? ⟨w.heap.size + 1, 5, none⟩ = some (.int .i64 (s.g)) := hF.cell (by assumption)
      have hc6 : W.cell? ⟨w.heap.size + 1, 6, none⟩ = some (.int .i64 (s.t)) := hF.cell (by assumption)
      go_simp
      exact ⟨Ext.refl _, rfl⟩
    · obtain ⟨h0, -⟩ := hs
      replace h0 : ρ (.tmp 11) = .agg #[.int .i64 (s.p), .int .i64 (s.a), .int .i64 (s.b), .int .i64 (s.m), .int .i64 (s.wt), .int .i64 (s.g), .int .i64 (s.t)] := h0
      go_simp
      refine (checkState_any _ _ _ _ _ _ _ _).mono ?_; rintro e w' ⟨rfl, hx⟩; exact ⟨_, rfl, hx, rfl⟩
    · obtain ⟨h0, -⟩ := hs
      replace h0 : ρ (.tmp 5) = .pointer (some ⟨w.heap.size + 1 + 1, 0, none⟩) := h0
      go_simp
      exact ⟨Ext.refl _, rfl⟩
    · obtain ⟨h0, -⟩ := hs
      replace h0 : ρ (.tmp 13) = .pointer (some ⟨w.heap.size + 1 + 1, 0, none⟩) := h0
      have hc0 : W.cell? ⟨w.heap.size + 1 + 1, 0, none⟩ = some (.slice A n ca) := hF.cell (by assumption)
      go_simp
      exact ⟨Ext.refl _, rfl⟩
    · obtain ⟨h0, -⟩ := hs
      replace h0 : ρ (.tmp 14) = .slice A n ca := h0
      go_simp
      refine (curveError_any (HXS.out.ext (E0.out.trans hF))).mono ?_; rintro e w' ⟨rfl, hx⟩; exact ⟨_, rfl, hx, rfl⟩
    · obtain ⟨h0, -⟩ := hs
      replace h0 : ρ (.tmp 5) = .pointer (some ⟨w.heap.size + 1 + 1, 0, none⟩) := h0
      go_simp
      exact ⟨Ext.refl _, rfl⟩
    · obtain ⟨h0, -⟩ := hs
      replace h0 : ρ (.tmp 16) = .pointer (some ⟨w.heap.size + 1 + 1, 1, none⟩) := h0
      have hc0 : W.cell? ⟨w.heap.size + 1 + 1, 1, none⟩ = some (.int .i64 (k.h)) := hF.cell (by assumption)
      have hc1 : W.cell? ⟨w.heap.size + 1 + 1, 2, none⟩ = some (.int .i64 (k.c)) := hF.cell (by assumption)
      have hc2 : W.cell? ⟨w.heap.size + 1 + 1, 3, none⟩ = some (.int .i64 (k.d)) := hF.cell (by assumption)
      go_simp
      exact ⟨Ext.refl _, rfl⟩
    · obtain ⟨h0, -⟩ := hs
      replace h0 : ρ (.tmp 17) = .agg #[.int .i64 (k.h), .int .i64 (k.c), .int .i64 (k.d)] := h0
      go_simp
      refine (checkPick_any _ _ _ _).mono ?_; rintro e w' ⟨rfl, hx⟩; exact ⟨_, rfl, hx, rfl⟩
    · obtain ⟨h0, h1, h2, h3, -⟩ := hs
      replace h0 : ρ (.tmp 10) = .int .i64 (rulesE r) := h0
      replace h1 : ρ (.tmp 12) = .int .i64 (stateE [s.p, s.a, s.b, s.m, s.wt, s.g, s.t]) := h1
      replace h2 : ρ (.tmp 15) = .int .i64 (curveE xs) := h2
      replace h3 : ρ (.tmp 18) = .int .i64 (pickE k.h k.c k.d) := h3
      go_simp
      exact ⟨Ext.alloc _ _, ints_new _ [rulesE r, stateE [s.p, s.a, s.b, s.m, s.wt, s.g, s.t], curveE xs, pickE k.h k.c k.d] _ (by simp)⟩
    · obtain ⟨h0, -⟩ := hs
      replace h0 : (Ints [rulesE r, stateE [s.p, s.a, s.b, s.m, s.wt, s.g, s.t], curveE xs, pickE k.h k.c k.d]) (ρ (.tmp 19)) W := h0
      go_simp
      refine (firstOf_any _ _ _ h0).mono ?_; rintro e w' ⟨rfl, rfl⟩; exact ⟨_, rfl, Ext.refl _, rfl⟩
    · obtain ⟨h0, -⟩ := hs
      replace h0 : ρ (.tmp 20) = .int .i64 (firstE [rulesE r, stateE [s.p, s.a, s.b, s.m, s.wt, s.g, s.t], curveE xs, pickE k.h k.c k.d]) := h0
      go_simp
      exact ⟨Ext.refl _, rfl⟩
  · intro fv W1 hF hs
    obtain ⟨-, -, -, -, -, -, -, -, -, -, -, -, h8, -⟩ := hs
    replace h8 : fv 8 = .int .i64 (firstE [rulesE r, stateE [s.p, s.a, s.b, s.m, s.wt, s.g, s.t], curveE xs, pickE k.h k.c k.d]) := h8
    simp only [fin, List.filterMap]
    go_simp
    have X1 := Lib.hid hF
    clear hF y0 y1 y2 y3 y4 y5 y6 y7 x0 x1 x2 x3 x4 x5 x6 v0 v1 v2 v3
    rw [← HB.out] at *
    clear HB
    by_cases hz : ez = 0
    · obtain ⟨hr0, hs0, hk0⟩ := HOK.out hz
      have HRK := Lib.hid (HK.out hr0)
      have HS := Lib.hid hs0
      have HPK := Lib.hid hk0
      have hfz := HFZ.out
      rw [if_pos hz] at hfz
      subst hz
      clear HFZ
      clear hr0 hs0 hk0 HOK HK
      have h00 : ((0 : Int) != 0) = false := rfl
      have k0 := K0.out.ext X1.out
      have k1 := K1.out.ext X1.out
      have k2 := K2.out.ext X1.out
      have y0 : W1.cell? ⟨w.heap.size, 0, none⟩ = some (.slice A0 n0 c0) := k0.cell 0
      have y1 : W1.cell? ⟨w.heap.size, 1, none⟩ = some (.slice A1 n1 c1) := k0.cell 1
      have y2 : W1.cell? ⟨w.heap.size, 2, none⟩ = some (.slice A2 n2 c2) := k0.cell 2
      have y3 : W1.cell? ⟨w.heap.size, 3, none⟩ = some (.slice A3 n3 c3) := k0.cell 3
      have y4 : W1.cell? ⟨w.heap.size, 4, none⟩ = some (.int .i64 (r.h0)) := k0.cell 4
      have y5 : W1.cell? ⟨w.heap.size, 5, none⟩ = some (.int .i64 (r.h1)) := k0.cell 5
      have y6 : W1.cell? ⟨w.heap.size, 6, none⟩ = some (.int .i64 (r.h2)) := k0.cell 6
      have y7 : W1.cell? ⟨w.heap.size, 7, none⟩ = some (.int .i64 (r.h3)) := k0.cell 7
      have x0 : W1.cell? ⟨w.heap.size + 1, 0, none⟩ = some (.int .i64 s.p) := k1.cell 0
      have x1 : W1.cell? ⟨w.heap.size + 1, 1, none⟩ = some (.int .i64 s.a) := k1.cell 1
      have x2 : W1.cell? ⟨w.heap.size + 1, 2, none⟩ = some (.int .i64 s.b) := k1.cell 2
      have x3 : W1.cell? ⟨w.heap.size + 1, 3, none⟩ = some (.int .i64 s.m) := k1.cell 3
      have x4 : W1.cell? ⟨w.heap.size + 1, 4, none⟩ = some (.int .i64 s.wt) := k1.cell 4
      have x5 : W1.cell? ⟨w.heap.size + 1, 5, none⟩ = some (.int .i64 s.g) := k1.cell 5
      have x6 : W1.cell? ⟨w.heap.size + 1, 6, none⟩ = some (.int .i64 s.t) := k1.cell 6
      have v0 : W1.cell? ⟨w.heap.size + 1 + 1, 0, none⟩ = some (.slice A n ca) := k2.cell 0
      have v1 : W1.cell? ⟨w.heap.size + 1 + 1, 1, none⟩ = some (.int .i64 k.h) := k2.cell 1
      have v2 : W1.cell? ⟨w.heap.size + 1 + 1, 2, none⟩ = some (.int .i64 k.c) := k2.cell 2
      have v3 : W1.cell? ⟨w.heap.size + 1 + 1, 3, none⟩ = some (.int .i64 k.d) := k2.cell 3
      have HRUN := Lib.hid (run_any (HR.out.ext (E0.out.trans X1.out)) HRK.out s HS.out k HPK.out (HXS.out.ext (E0.out.trans X1.out)))
      rw [← hfz] at HRUN
      clear hfz
      clear k0 k1 k2
      go_wp2_with (go_at_call 94; refine HRUN.out.mono ?_; rintro e W2 ⟨rfl, hx⟩; have X2 := Lib.hid hx; have kk := K3.out.ext (X1.out.trans hx); have z0 : W2.cell? ⟨w.heap.size + 1 + 1 + 1, 0, none⟩ = some (.int .i64 0) := kk.cell 0; have zf0 := kk.free 0; have z1 : W2.cell? ⟨w.heap.size + 1 + 1 + 1, 1, none⟩ = some (.int .i64 0) := kk.cell 1; have zf1 := kk.free 1; have z2 : W2.cell? ⟨w.heap.size + 1 + 1 + 1, 2, none⟩ = some (.int .i64 0) := kk.cell 2; have zf2 := kk.free 2; have z3 : W2.cell? ⟨w.heap.size + 1 + 1 + 1, 3, none⟩ = some (.int .i64 0) := kk.cell 3; have zf3 := kk.free 3; have z4 : W2.cell? ⟨w.heap.size + 1 + 1 + 1, 4, none⟩ = some (.int .i64 0) := kk.cell 4; have zf4 := kk.free 4; have z5 : W2.cell? ⟨w.heap.size + 1 + 1 + 1, 5, none⟩ = some (.int .i64 0) := kk.cell 5; have zf5 := kk.free 5; have z6 : W2.cell? ⟨w.heap.size + 1 + 1 + 1, 6, none⟩ = some (.int .i64 0) := kk.cell 6; have zf6 := kk.free 6; clear hx kk)
      exact bodyPost_ret (v := .tuple #[.agg #[.int .i64 fz.p, .int .i64 fz.a, .int .i64 fz.b, .int .i64 fz.m, .int .i64 fz.wt, .int .i64 fz.g, .int .i64 fz.t], .int .i64 0]) (by simp [results, Tryz.f24, go_sem, z0, z1, z2, z3, z4, z5, z6]) rfl
        ⟨rfl, Ext.set (Ext.set (Ext.set (Ext.set (Ext.set (Ext.set (Ext.set ((E0.out.trans X1.out).trans X2.out) (by dsimp only; omega) _) (by dsimp only; omega) _) (by dsimp only; omega) _) (by dsimp only; omega) _) (by dsimp only; omega) _) (by dsimp only; omega) _) (by dsimp only; omega) _⟩
    · have hz' : (ez != 0) = true := by simp [hz]
      have hfz := HFZ.out
      rw [if_neg hz] at hfz
      subst hfz
      have kk := K3.out.ext X1.out
      have z0 : W1.cell? ⟨w.heap.size + 1 + 1 + 1, 0, none⟩ = some (.int .i64 0) := kk.cell 0
      have zf0 := kk.free 0
      have z1 : W1.cell? ⟨w.heap.size + 1 + 1 + 1, 1, none⟩ = some (.int .i64 0) := kk.cell 1
      have zf1 := kk.free 1
      have z2 : W1.cell? ⟨w.heap.size + 1 + 1 + 1, 2, none⟩ = some (.int .i64 0) := kk.cell 2
      have zf2 := kk.free 2
      have z3 : W1.cell? ⟨w.heap.size + 1 + 1 + 1, 3, none⟩ = some (.int .i64 0) := kk.cell 3
      have zf3 := kk.free 3
      have z4 : W1.cell? ⟨w.heap.size + 1 + 1 + 1, 4, none⟩ = some (.int .i64 0) := kk.cell 4
      have zf4 := kk.free 4
      have z5 : W1.cell? ⟨w.heap.size + 1 + 1 + 1, 5, none⟩ = some (.int .i64 0) := kk.cell 5
      have zf5 := kk.free 5
      have z6 : W1.cell? ⟨w.heap.size + 1 + 1 + 1, 6, none⟩ = some (.int .i64 0) := kk.cell 6
      have zf6 := kk.free 6
      clear kk
      go_wp2
      exact bodyPost_ret (v := .tuple #[.agg #[.int .i64 0, .int .i64 0, .int .i64 0, .int .i64 0, .int .i64 0, .int .i64 0, .int .i64 0], .int .i64 ez]) (by simp [results, Tryz.f24, go_sem, z0, z1, z2, z3, z4, z5, z6]) rfl
        ⟨rfl, Ext.set (Ext.set (Ext.set (Ext.set (Ext.set (Ext.set (Ext.set (E0.out.trans X1.out) (by dsimp only; omega) _) (by dsimp only; omega) _) (by dsimp only; omega) _) (by dsimp only; omega) _) (by dsimp only; omega) _) (by dsimp only; omega) _) (by dsimp only; omega) _⟩

end Go.Proofs.YtkmekbafjnlfkaaGreat
