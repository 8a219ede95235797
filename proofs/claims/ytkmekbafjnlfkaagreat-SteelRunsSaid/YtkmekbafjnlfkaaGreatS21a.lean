/- Places. -/
import Derived.Test.YtkmekbafjnlfkaaGreatS18
import Derived.Test.YtkmekbafjnlfkaaGreatS20

namespace Go.Proofs.YtkmekbafjnlfkaaGreat
open Go.RowKit Go.Shelf Go.Mem Go.RegInv
attribute [local go_sem] RelUpon_value RelUpon_skip RelUpon_enter BigFrame.eval_const BigFrame.eval_global BigFrame.eval_func

set_option maxRecDepth 100000 in
set_option maxHeartbeats 4000000 in
theorem placeAt_any {r : Ru} {u : Value} {w : World} (hR : RuV r u w) (kelvin : Int) : Calls Tryz.prog 134 #[u, .int .i64 kelvin] w fun e w' => e = .returned (.agg #[.int .i64 (lastK HK.k kelvin r.hs), .int .i64 (firstK CK.k kelvin r.cs), .int .i64 (firstK DK.k kelvin r.ds), .int .i64 (lastK TK.k kelvin r.ts)]) ∧ Ext w w' := by
  obtain ⟨A0, A1, A2, A3, n0, n1, n2, n3, c0, c1, c2, c3, rfl, h⟩ := hR
  obtain ⟨W0, hW0⟩ : ∃ W0, W0 = (w.alloc (.cells #[.slice A0 n0 c0, .slice A1 n1 c1, .slice A2 n2 c2, .slice A3 n3 c3, .int .i64 r.h0, .int .i64 r.h1, .int .i64 r.h2, .int .i64 r.h3] 161)).alloc (.cells #[.int .i64 0, .int .i64 0, .int .i64 0, .int .i64 0] 202) := ⟨_, rfl⟩
  have k0 : Blk W0 w.heap.size 161 #[.slice A0 n0 c0, .slice A1 n1 c1, .slice A2 n2 c2, .slice A3 n3 c3, .int .i64 r.h0, .int .i64 r.h1, .int .i64 r.h2, .int .i64 r.h3] := by rw [hW0]; exact (Blk.new _ _ _).alloc _
  have K1 := Lib.hid (show Blk W0 (w.heap.size + 1) 202 #[.int .i64 0, .int .i64 0, .int .i64 0, .int .i64 0] by rw [hW0]; exact Blk.newAt _ _ _ (by simp))
  have e0 : Ext w W0 := by rw [hW0]; exact (Ext.alloc _ _).trans (Ext.alloc _ _)
  have H := Lib.hid (h.ext e0)
  have E0 := Lib.hid e0
  have y0 : W0.cell? ⟨w.heap.size, 0, none⟩ = some (.slice A0 n0 c0) := k0.cell 0
  have y1 : W0.cell? ⟨w.heap.size, 1, none⟩ = some (.slice A1 n1 c1) := k0.cell 1
  have y2 : W0.cell? ⟨w.heap.size, 2, none⟩ = some (.slice A2 n2 c2) := k0.cell 2
  have y3 : W0.cell? ⟨w.heap.size, 3, none⟩ = some (.slice A3 n3 c3) := k0.cell 3
  have y4 : W0.cell? ⟨w.heap.size, 4, none⟩ = some (.int .i64 (r.h0)) := k0.cell 4
  have y5 : W0.cell? ⟨w.heap.size, 5, none⟩ = some (.int .i64 (r.h1)) := k0.cell 5
  have y6 : W0.cell? ⟨w.heap.size, 6, none⟩ = some (.int .i64 (r.h2)) := k0.cell 6
  have y7 : W0.cell? ⟨w.heap.size, 7, none⟩ = some (.int .i64 (r.h3)) := k0.cell 7
  clear h k0 e0
  go_enter Tryz.func134, Tryz.ntmps134
  go_wp2
  rw [← hW0]
  clear hW0
  refine wp_region_partR 21 [some 5, some 6, some 7, some 8, some 9, some 10, some 11, some 12, some 13, some 14, some 15, some 16, some 17, some 18, some 19, some 20, some 21, some 22, some 23, some 24, some 25] [[2], [5], [6], [1], [7, 8], [2], [10], [11], [1], [12, 13], [2], [15], [16], [1], [17, 18], [2], [20], [21], [1], [22, 23], [9, 14, 19, 24]]
    [Is (.pointer (some ⟨w.heap.size, 0, none⟩)), Is (.pointer (some ⟨w.heap.size, 0, none⟩)), Is (.slice A0 n0 c0), Is (.int .i64 (kelvin)), Is (.int .i64 (lastK HK.k kelvin r.hs)), Is (.pointer (some ⟨w.heap.size, 0, none⟩)), Is (.pointer (some ⟨w.heap.size, 1, none⟩)), Is (.slice A1 n1 c1), Is (.int .i64 (kelvin)), Is (.int .i64 (firstK CK.k kelvin r.cs)), Is (.pointer (some ⟨w.heap.size, 0, none⟩)), Is (.pointer (some ⟨w.heap.size, 2, none⟩)), Is (.slice A2 n2 c2), Is (.int .i64 (kelvin)), Is (.int .i64 (firstK DK.k kelvin r.ds)), Is (.pointer (some ⟨w.heap.size, 0, none⟩)), Is (.pointer (some ⟨w.heap.size, 3, none⟩)), Is (.slice A3 n3 c3), Is (.int .i64 (kelvin)), Is (.int .i64 (lastK TK.k kelvin r.ts)), Is (.agg #[.int .i64 (lastK HK.k kelvin r.hs), .int .i64 (firstK CK.k kelvin r.cs), .int .i64 (firstK DK.k kelvin r.ds), .int .i64 (lastK TK.k kelvin r.ts)])]
    (by kernel_rfl) (by kernel_rfl) (by kernel_rfl) (by kernel_rfl) (by kernel_rfl) (by kernel_rfl) (by kernel_rfl) Ext (fun W => Ext W0 W)
    (fun W _ => Ext.refl W) (fun W W' h k => h.trans k) ?_ (Ext.drew _) ?_ ?_
  · repeat (refine ⟨fun _ _ _ _ k h => (by first | exact h | exact (by first | exact IntsAt.ext h k | exact KnV.ext h k | exact NumsV.ext h k)), ?_⟩)
    exact trivial
  · refine ⟨?_, ?_, ?_, ?_, ?_, ?_, ?_, ?_, ?_, ?_, ?_, ?_, ?_, ?_, ?_, ?_, ?_, ?_, ?_, ?_, ?_, trivial⟩
    all_goals intro ρ W ⟨kc, kg, kf⟩ hF hs
    · obtain ⟨h0, -⟩ := hs
      replace h0 : ρ (.tmp 2) = .pointer (some ⟨w.heap.size, 0, none⟩) := h0
      go_simp
      exact ⟨Ext.refl _, rfl⟩
    · obtain ⟨h0, -⟩ := hs
      replace h0 : ρ (.tmp 5) = .pointer (some ⟨w.heap.size, 0, none⟩) := h0
      go_simp
      exact ⟨Ext.refl _, rfl⟩
    · obtain ⟨h0, -⟩ := hs
      replace h0 : ρ (.tmp 6) = .pointer (some ⟨w.heap.size, 0, none⟩) := h0
      have hc0 : W.cell? ⟨w.heap.size, 0, none⟩ = some (.slice A0 n0 c0) := hF.cell (by assumption)
      go_simp
      exact ⟨Ext.refl _, rfl⟩
    · obtain ⟨h0, -⟩ := hs
      replace h0 : ρ (.tmp 1) = .int .i64 (kelvin) := h0
      go_simp
      exact ⟨Ext.refl _, rfl⟩
    · obtain ⟨h0, h1, -⟩ := hs
      replace h0 : ρ (.tmp 7) = .slice A0 n0 c0 := h0
      replace h1 : ρ (.tmp 8) = .int .i64 (kelvin) := h1
      go_simp
      refine (lastUpTo154_any kelvin H.out.l0 (H.out.r0.ext hF)).mono ?_; rintro e w' ⟨rfl, hx⟩; exact ⟨_, rfl, hx, rfl⟩
    · obtain ⟨h0, -⟩ := hs
      replace h0 : ρ (.tmp 2) = .pointer (some ⟨w.heap.size, 0, none⟩) := h0
      go_simp
      exact ⟨Ext.refl _, rfl⟩
    · obtain ⟨h0, -⟩ := hs
      replace h0 : ρ (.tmp 10) = .pointer (some ⟨w.heap.size, 0, none⟩) := h0
      go_simp
      exact ⟨Ext.refl _, rfl⟩
    · obtain ⟨h0, -⟩ := hs
      replace h0 : ρ (.tmp 11) = .pointer (some ⟨w.heap.size, 1, none⟩) := h0
      have hc0 : W.cell? ⟨w.heap.size, 1, none⟩ = some (.slice A1 n1 c1) := hF.cell (by assumption)
      go_simp
      exact ⟨Ext.refl _, rfl⟩
    · obtain ⟨h0, -⟩ := hs
      replace h0 : ρ (.tmp 1) = .int .i64 (kelvin) := h0
      go_simp
      exact ⟨Ext.refl _, rfl⟩
    · obtain ⟨h0, h1, -⟩ := hs
      replace h0 : ρ (.tmp 12) = .slice A1 n1 c1 := h0
      replace h1 : ρ (.tmp 13) = .int .i64 (kelvin) := h1
      go_simp
      refine (firstFrom156_any kelvin H.out.l1 (H.out.r1.ext hF)).mono ?_; rintro e w' ⟨rfl, hx⟩; exact ⟨_, rfl, hx, rfl⟩
    · obtain ⟨h0, -⟩ := hs
      replace h0 : ρ (.tmp 2) = .pointer (some ⟨w.heap.size, 0, none⟩) := h0
      go_simp
      exact ⟨Ext.refl _, rfl⟩
    · obtain ⟨h0, -⟩ := hs
      replace h0 : ρ (.tmp 15) = .pointer (some ⟨w.heap.size, 0, none⟩) := h0
      go_simp
      exact ⟨Ext.refl _, rfl⟩
    · obtain ⟨h0, -⟩ := hs
      replace h0 : ρ (.tmp 16) = .pointer (some ⟨w.heap.size, 2, none⟩) := h0
      have hc0 : W.cell? ⟨w.heap.size, 2, none⟩ = some (.slice A2 n2 c2) := hF.cell (by assumption)
      go_simp
      exact ⟨Ext.refl _, rfl⟩
    · obtain ⟨h0, -⟩ := hs
      replace h0 : ρ (.tmp 1) = .int .i64 (kelvin) := h0
      go_simp
      exact ⟨Ext.refl _, rfl⟩
    · obtain ⟨h0, h1, -⟩ := hs
      replace h0 : ρ (.tmp 17) = .slice A2 n2 c2 := h0
      replace h1 : ρ (.tmp 18) = .int .i64 (kelvin) := h1
      go_simp
      refine (firstFrom158_any kelvin H.out.l2 (H.out.r2.ext hF)).mono ?_; rintro e w' ⟨rfl, hx⟩; exact ⟨_, rfl, hx, rfl⟩
    · obtain ⟨h0, -⟩ := hs
      replace h0 : ρ (.tmp 2) = .pointer (some ⟨w.heap.size, 0, none⟩) := h0
      go_simp
      exact ⟨Ext.refl _, rfl⟩
    · obtain ⟨h0, -⟩ := hs
      replace h0 : ρ (.tmp 20) = .pointer (some ⟨w.heap.size, 0, none⟩) := h0
      go_simp
      exact ⟨Ext.refl _, rfl⟩
    · obtain ⟨h0, -⟩ := hs
      replace h0 : ρ (.tmp 21) = .pointer (some ⟨w.heap.size, 3, none⟩) := h0
      have hc0 : W.cell? ⟨w.heap.size, 3, none⟩ = some (.slice A3 n3 c3) := hF.cell (by assumption)
      go_simp
      exact ⟨Ext.refl _, rfl⟩
    · obtain ⟨h0, -⟩ := hs
      replace h0 : ρ (.tmp 1) = .int .i64 (kelvin) := h0
      go_simp
      exact ⟨Ext.refl _, rfl⟩
    · obtain ⟨h0, h1, -⟩ := hs
      replace h0 : ρ (.tmp 22) = .slice A3 n3 c3 := h0
      replace h1 : ρ (.tmp 23) = .int .i64 (kelvin) := h1
      go_simp
      refine (lastUpTo160_any kelvin H.out.l3 (H.out.r3.ext hF)).mono ?_; rintro e w' ⟨rfl, hx⟩; exact ⟨_, rfl, hx, rfl⟩
    · obtain ⟨h0, h1, h2, h3, -⟩ := hs
      replace h0 : ρ (.tmp 9) = .int .i64 (lastK HK.k kelvin r.hs) := h0
      replace h1 : ρ (.tmp 14) = .int .i64 (firstK CK.k kelvin r.cs) := h1
      replace h2 : ρ (.tmp 19) = .int .i64 (firstK DK.k kelvin r.ds) := h2
      replace h3 : ρ (.tmp 24) = .int .i64 (lastK TK.k kelvin r.ts) := h3
      go_simp
      exact ⟨Ext.refl _, rfl⟩
  · intro fv W1 hF hs
    obtain ⟨-, -, -, -, -, -, -, -, -, -, -, -, -, -, -, -, -, -, -, -, h25, -⟩ := hs
    replace h25 : fv 25 = .agg #[.int .i64 (lastK HK.k kelvin r.hs), .int .i64 (firstK CK.k kelvin r.cs), .int .i64 (firstK DK.k kelvin r.ds), .int .i64 (lastK TK.k kelvin r.ts)] := h25
    simp only [fin, List.filterMap]
    go_simp
    have X1 := Lib.hid (E0.out.trans hF)
    have k1 := K1.out.ext hF
    have z0 : W1.cell? ⟨w.heap.size + 1, 0, none⟩ = some (.int .i64 0) := k1.cell 0
    have z1 : W1.cell? ⟨w.heap.size + 1, 1, none⟩ = some (.int .i64 0) := k1.cell 1
    have z2 : W1.cell? ⟨w.heap.size + 1, 2, none⟩ = some (.int .i64 0) := k1.cell 2
    have z3 : W1.cell? ⟨w.heap.size + 1, 3, none⟩ = some (.int .i64 0) := k1.cell 3
    have g0 := k1.free 0
    have g1 := k1.free 1
    have g2 := k1.free 2
    have g3 := k1.free 3
    clear hF h25 k1
    go_wp2
    exact bodyPost_ret (v := .agg #[.int .i64 (lastK HK.k kelvin r.hs), .int .i64 (firstK CK.k kelvin r.cs), .int .i64 (firstK DK.k kelvin r.ds), .int .i64 (lastK TK.k kelvin r.ts)]) (by simp [results, Tryz.f134, go_sem, z0, z1, z2, z3]) rfl
      ⟨rfl, Ext.set (Ext.set (Ext.set (Ext.set X1.out (by dsimp only; omega) _) (by dsimp only; omega) _) (by dsimp only; omega) _) (by dsimp only; omega) _⟩

def prV (p : Value × Value) : List Value := [p.1, p.2]
/-- How deeds lie in memory. -/
def DeedsV (ds : List Deed) : Value → World → Prop := fun u W => ∃ A n c rows, u = .slice A n c ∧ Hid (ds.length = n) ∧ Hid (rows.length = n) ∧ n ≤ 3 ∧ RowsAt 2 prV W A rows ∧ ∀ (i : Nat) (d : Deed) (p : Value × Value), ds[i]? = some d → rows[i]? = some p → DeedC W d p.1 p.2
def optD {α : Type} (i : Int) (l : List α) (f : α → Deed) : List Deed := if 0 ≤ i then (l[i.toNat]?.map f).toList else []
def deedsK (r : Ru) (ih ic id it : Int) : List Deed := if 0 ≤ ih then optD ih r.hs .h else optD ic r.cs .c ++ (optD id r.ds .d ++ optD it r.ts .t)
theorem optD_neg {α : Type} {i : Int} {l : List α} {f : α → Deed} (h : ¬ 0 ≤ i) : optD i l f = [] := if_neg h
theorem optD_pos {α : Type} {i : Int} {l : List α} {f : α → Deed} {j : Nat} {x : α} (h : i = j) (hx : l[j]? = some x) : optD i l f = [f x] := by
  subst h
  rw [optD, if_pos (by omega), Int.toNat_natCast, hx]
  rfl
theorem info207 : (Tryz.prog.info? 207).map (fun i => (i.zero, i.size, i.bytes)) = some (some (.agg #[.nilFunc, .nilFunc]), 2, 16) := by kernel_rfl

end Go.Proofs.YtkmekbafjnlfkaaGreat
