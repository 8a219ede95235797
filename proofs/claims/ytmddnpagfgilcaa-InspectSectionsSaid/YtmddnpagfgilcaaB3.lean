/- Curves: their closures, and where they fall. -/
import Derived.Test.YtmddnpagfgilcaaB2
import Derived.Lib.MinMax

namespace Go.Proofs.Ytmddnpagfgilcaa
open Go.RowKit Go.Shelf Go.Mem Go.RegInv
attribute [local go_sem] RelUpon_value RelUpon_skip RelUpon_enter BigFrame.eval_const BigFrame.eval_global BigFrame.eval_func


/-- A knot of a table. -/
structure Kn where
  f : Int
  lo : Int
  hi : Int
deriving DecidableEq, Inhabited
def Kn.enc (x : Kn) : List Value := [.int .i64 x.f, .int .i64 x.lo, .int .i64 x.hi]


set_option maxRecDepth 100000 in
set_option maxHeartbeats 1000000 in
theorem clos119_any {A : Option Addr} {n ca i tb to : Nat} {xs : List In} {x : In} {w : World} (hn : xs.length = n) (hA : RowsAt 4 In.enc w A xs) (ht : w.cell? ⟨tb, to, none⟩ = some (.slice A n ca)) (hx : xs[i]? = some x) :
    Calls Try.prog 119 #[.int .i64 (i : Int), .pointer (some ⟨tb, to, none⟩)] w fun e w' => e = .returned (.tuple #[.int .i64 (x.d), .int .i64 (x.lo)]) ∧ Ext w w' := by
  have hl := hA.1
  have hin := (List.getElem?_eq_some_iff.1 hx).1
  rw [hn] at hl hin
  obtain ⟨b, o, rfl, hb, hc⟩ := row_at hA hx
  have p0 : w.cell? ⟨b, o + i * 4, none⟩ = some (.int .i64 (x.d)) := hc 0 _ rfl
  have p1 : w.cell? ⟨b, o + i * 4 + 2, none⟩ = some (.int .i64 (x.lo)) := hc 2 _ rfl
  clear hA hx hn hc
  go_enter Try.func119, Try.ntmps119
  go_wp2
  refine wp_region_each [some 5, some 6, some 7, some 8, some 9, some 10, some 11, some 12, some 13, some 14, some 15, some 16, some 17, some 3, some 4] [[1], [5], [0], [6, 7], [8], [9], [1], [11], [0], [12, 13], [14], [15], [16], [10], [17]]
    [Is (.pointer (some ⟨tb, to, none⟩)), Is (.slice (some ⟨b, o, none⟩) n ca), Is (.int .i64 ((i : Int))), Is (.pointer (some ⟨b, o + i * 4, none⟩)), Is (.pointer (some ⟨b, o + i * 4, none⟩)), Is (.int .i64 (x.d)), Is (.pointer (some ⟨tb, to, none⟩)), Is (.slice (some ⟨b, o, none⟩) n ca), Is (.int .i64 ((i : Int))), Is (.pointer (some ⟨b, o + i * 4, none⟩)), Is (.pointer (some ⟨b, o + i * 4 + 2, none⟩)), Is (.pointer (some ⟨b, o + i * 4 + 2, none⟩)), Is (.int .i64 (x.lo)), Is (.int .i64 (x.d)), Is (.int .i64 (x.lo))]
    (by kernel_rfl) (by kernel_rfl) (by kernel_rfl) (by kernel_rfl) (by kernel_rfl) Ext (fun W => Ext w W)
    (fun W _ => Ext.refl W) (fun W W' h k => h.trans k) ?_ (Ext.drew _) ?_ ?_
  · repeat (refine ⟨fun _ _ _ _ k h => (by first | exact h | exact (IntsAt.ext h k)), ?_⟩)
    exact trivial
  · refine ⟨?_, ?_, ?_, ?_, ?_, ?_, ?_, ?_, ?_, ?_, ?_, ?_, ?_, ?_, ?_, trivial⟩
    all_goals intro ρ W ⟨kc, kg, kf⟩ hF hs
    · obtain ⟨h0, -⟩ := hs
      replace h0 : ρ (.tmp 1) = .pointer (some ⟨tb, to, none⟩) := h0
      go_simp
      exact ⟨Ext.refl _, rfl⟩
    · obtain ⟨h0, -⟩ := hs
      replace h0 : ρ (.tmp 5) = .pointer (some ⟨tb, to, none⟩) := h0
      have hc0 : W.cell? ⟨tb, to, none⟩ = some (.slice (some ⟨b, o, none⟩) n ca) := hF.cell (by assumption)
      go_simp
      exact ⟨Ext.refl _, rfl⟩
    · obtain ⟨h0, -⟩ := hs
      replace h0 : ρ (.tmp 0) = .int .i64 ((i : Int)) := h0
      go_simp
      exact ⟨Ext.refl _, rfl⟩
    · obtain ⟨h0, h1, -⟩ := hs
      replace h0 : ρ (.tmp 6) = .slice (some ⟨b, o, none⟩) n ca := h0
      replace h1 : ρ (.tmp 7) = .int .i64 ((i : Int)) := h1
      have hb2 : (i : Int) < (n : Int) := by omega
      have hb3 : i < n := by omega
      go_simp
      exact ⟨Ext.refl _, rfl⟩
    · obtain ⟨h0, -⟩ := hs
      replace h0 : ρ (.tmp 8) = .pointer (some ⟨b, o + i * 4, none⟩) := h0
      go_simp
      exact ⟨Ext.refl _, rfl⟩
    · obtain ⟨h0, -⟩ := hs
      replace h0 : ρ (.tmp 9) = .pointer (some ⟨b, o + i * 4, none⟩) := h0
      have hc0 : W.cell? ⟨b, o + i * 4, none⟩ = some (.int .i64 (x.d)) := hF.cell (by assumption)
      go_simp
      exact ⟨Ext.refl _, rfl⟩
    · obtain ⟨h0, -⟩ := hs
      replace h0 : ρ (.tmp 1) = .pointer (some ⟨tb, to, none⟩) := h0
      go_simp
      exact ⟨Ext.refl _, rfl⟩
    · obtain ⟨h0, -⟩ := hs
      replace h0 : ρ (.tmp 11) = .pointer (some ⟨tb, to, none⟩) := h0
      have hc0 : W.cell? ⟨tb, to, none⟩ = some (.slice (some ⟨b, o, none⟩) n ca) := hF.cell (by assumption)
      go_simp
      exact ⟨Ext.refl _, rfl⟩
    · obtain ⟨h0, -⟩ := hs
      replace h0 : ρ (.tmp 0) = .int .i64 ((i : Int)) := h0
      go_simp
      exact ⟨Ext.refl _, rfl⟩
    · obtain ⟨h0, h1, -⟩ := hs
      replace h0 : ρ (.tmp 12) = .slice (some ⟨b, o, none⟩) n ca := h0
      replace h1 : ρ (.tmp 13) = .int .i64 ((i : Int)) := h1
      have hb2 : (i : Int) < (n : Int) := by omega
      have hb3 : i < n := by omega
      go_simp
      exact ⟨Ext.refl _, rfl⟩
    · obtain ⟨h0, -⟩ := hs
      replace h0 : ρ (.tmp 14) = .pointer (some ⟨b, o + i * 4, none⟩) := h0
      go_simp
      exact ⟨Ext.refl _, rfl⟩
    · obtain ⟨h0, -⟩ := hs
      replace h0 : ρ (.tmp 15) = .pointer (some ⟨b, o + i * 4 + 2, none⟩) := h0
      go_simp
      exact ⟨Ext.refl _, rfl⟩
    · obtain ⟨h0, -⟩ := hs
      replace h0 : ρ (.tmp 16) = .pointer (some ⟨b, o + i * 4 + 2, none⟩) := h0
      have hc0 : W.cell? ⟨b, o + i * 4 + 2, none⟩ = some (.int .i64 (x.lo)) := hF.cell (by assumption)
      go_simp
      exact ⟨Ext.refl _, rfl⟩
    · obtain ⟨h0, -⟩ := hs
      replace h0 : ρ (.tmp 10) = .int .i64 (x.d) := h0
      go_simp
      exact ⟨Ext.refl _, rfl⟩
    · obtain ⟨h0, -⟩ := hs
      replace h0 : ρ (.tmp 17) = .int .i64 (x.lo) := h0
      go_simp
      exact ⟨Ext.refl _, rfl⟩
  · intro fv W hF hs
    obtain ⟨-, -, -, -, -, -, -, -, -, -, -, -, -, h3, h4, -⟩ := hs
    replace h3 : fv 3 = .int .i64 (x.d) := h3
    replace h4 : fv 4 = .int .i64 (x.lo) := h4
    simp only [fin, List.filterMap]
    go_simp
    go_wp2
    go_ret2
    exact ⟨ret_two rfl rfl, hF⟩


set_option maxRecDepth 100000 in
set_option maxHeartbeats 1000000 in
theorem clos120_any {A : Option Addr} {n ca i tb to : Nat} {xs : List In} {x : In} {w : World} (hn : xs.length = n) (hA : RowsAt 4 In.enc w A xs) (ht : w.cell? ⟨tb, to, none⟩ = some (.slice A n ca)) (hx : xs[i]? = some x) :
    Calls Try.prog 120 #[.int .i64 (i : Int), .pointer (some ⟨tb, to, none⟩)] w fun e w' => e = .returned (.tuple #[.int .i64 (x.d), .int .i64 (x.hi)]) ∧ Ext w w' := by
  have hl := hA.1
  have hin := (List.getElem?_eq_some_iff.1 hx).1
  rw [hn] at hl hin
  obtain ⟨b, o, rfl, hb, hc⟩ := row_at hA hx
  have p0 : w.cell? ⟨b, o + i * 4, none⟩ = some (.int .i64 (x.d)) := hc 0 _ rfl
  have p1 : w.cell? ⟨b, o + i * 4 + 2 + 1, none⟩ = some (.int .i64 (x.hi)) := hc 3 _ rfl
  clear hA hx hn hc
  go_enter Try.func120, Try.ntmps120
  go_wp2
  refine wp_region_each [some 5, some 6, some 7, some 8, some 9, some 10, some 11, some 12, some 13, some 14, some 15, some 16, some 17, some 3, some 4] [[1], [5], [0], [6, 7], [8], [9], [1], [11], [0], [12, 13], [14], [15], [16], [10], [17]]
    [Is (.pointer (some ⟨tb, to, none⟩)), Is (.slice (some ⟨b, o, none⟩) n ca), Is (.int .i64 ((i : Int))), Is (.pointer (some ⟨b, o + i * 4, none⟩)), Is (.pointer (some ⟨b, o + i * 4, none⟩)), Is (.int .i64 (x.d)), Is (.pointer (some ⟨tb, to, none⟩)), Is (.slice (some ⟨b, o, none⟩) n ca), Is (.int .i64 ((i : Int))), Is (.pointer (some ⟨b, o + i * 4, none⟩)), Is (.pointer (some ⟨b, o + i * 4 + 2, none⟩)), Is (.pointer (some ⟨b, o + i * 4 + 2 + 1, none⟩)), Is (.int .i64 (x.hi)), Is (.int .i64 (x.d)), Is (.int .i64 (x.hi))]
    (by kernel_rfl) (by kernel_rfl) (by kernel_rfl) (by kernel_rfl) (by kernel_rfl) Ext (fun W => Ext w W)
    (fun W _ => Ext.refl W) (fun W W' h k => h.trans k) ?_ (Ext.drew _) ?_ ?_
  · repeat (refine ⟨fun _ _ _ _ k h => (by first | exact h | exact (IntsAt.ext h k)), ?_⟩)
    exact trivial
  · refine ⟨?_, ?_, ?_, ?_, ?_, ?_, ?_, ?_, ?_, ?_, ?_, ?_, ?_, ?_, ?_, trivial⟩
    all_goals intro ρ W ⟨kc, kg, kf⟩ hF hs
    · obtain ⟨h0, -⟩ := hs
      replace h0 : ρ (.tmp 1) = .pointer (some ⟨tb, to, none⟩) := h0
      go_simp
      exact ⟨Ext.refl _, rfl⟩
    · obtain ⟨h0, -⟩ := hs
      replace h0 : ρ (.tmp 5) = .pointer (some ⟨tb, to, none⟩) := h0
      have hc0 : W.cell? ⟨tb, to, none⟩ = some (.slice (some ⟨b, o, none⟩) n ca) := hF.cell (by assumption)
      go_simp
      exact ⟨Ext.refl _, rfl⟩
    · obtain ⟨h0, -⟩ := hs
      replace h0 : ρ (.tmp 0) = .int .i64 ((i : Int)) := h0
      go_simp
      exact ⟨Ext.refl _, rfl⟩
    · obtain ⟨h0, h1, -⟩ := hs
      replace h0 : ρ (.tmp 6) = .slice (some ⟨b, o, none⟩) n ca := h0
      replace h1 : ρ (.tmp 7) = .int .i64 ((i : Int)) := h1
      have hb2 : (i : Int) < (n : Int) := by omega
      have hb3 : i < n := by omega
      go_simp
      exact ⟨Ext.refl _, rfl⟩
    · obtain ⟨h0, -⟩ := hs
      replace h0 : ρ (.tmp 8) = .pointer (some ⟨b, o + i * 4, none⟩) := h0
      go_simp
      exact ⟨Ext.refl _, rfl⟩
    · obtain ⟨h0, -⟩ := hs
      replace h0 : ρ (.tmp 9) = .pointer (some ⟨b, o + i * 4, none⟩) := h0
      have hc0 : W.cell? ⟨b, o + i * 4, none⟩ = some (.int .i64 (x.d)) := hF.cell (by assumption)
      go_simp
      exact ⟨Ext.refl _, rfl⟩
    · obtain ⟨h0, -⟩ := hs
      replace h0 : ρ (.tmp 1) = .pointer (some ⟨tb, to, none⟩) := h0
      go_simp
      exact ⟨Ext.refl _, rfl⟩
    · obtain ⟨h0, -⟩ := hs
      replace h0 : ρ (.tmp 11) = .pointer (some ⟨tb, to, none⟩) := h0
      have hc0 : W.cell? ⟨tb, to, none⟩ = some (.slice (some ⟨b, o, none⟩) n ca) := hF.cell (by assumption)
      go_simp
      exact ⟨Ext.refl _, rfl⟩
    · obtain ⟨h0, -⟩ := hs
      replace h0 : ρ (.tmp 0) = .int .i64 ((i : Int)) := h0
      go_simp
      exact ⟨Ext.refl _, rfl⟩
    · obtain ⟨h0, h1, -⟩ := hs
      replace h0 : ρ (.tmp 12) = .slice (some ⟨b, o, none⟩) n ca := h0
      replace h1 : ρ (.tmp 13) = .int .i64 ((i : Int)) := h1
      have hb2 : (i : Int) < (n : Int) := by omega
      have hb3 : i < n := by omega
      go_simp
      exact ⟨Ext.refl _, rfl⟩
    · obtain ⟨h0, -⟩ := hs
      replace h0 : ρ (.tmp 14) = .pointer (some ⟨b, o + i * 4, none⟩) := h0
      go_simp
      exact ⟨Ext.refl _, rfl⟩
    · obtain ⟨h0, -⟩ := hs
      replace h0 : ρ (.tmp 15) = .pointer (some ⟨b, o + i * 4 + 2, none⟩) := h0
      go_simp
      exact ⟨Ext.refl _, rfl⟩
    · obtain ⟨h0, -⟩ := hs
      replace h0 : ρ (.tmp 16) = .pointer (some ⟨b, o + i * 4 + 2 + 1, none⟩) := h0
      have hc0 : W.cell? ⟨b, o + i * 4 + 2 + 1, none⟩ = some (.int .i64 (x.hi)) := hF.cell (by assumption)
      go_simp
      exact ⟨Ext.refl _, rfl⟩
    · obtain ⟨h0, -⟩ := hs
      replace h0 : ρ (.tmp 10) = .int .i64 (x.d) := h0
      go_simp
      exact ⟨Ext.refl _, rfl⟩
    · obtain ⟨h0, -⟩ := hs
      replace h0 : ρ (.tmp 17) = .int .i64 (x.hi) := h0
      go_simp
      exact ⟨Ext.refl _, rfl⟩
  · intro fv W hF hs
    obtain ⟨-, -, -, -, -, -, -, -, -, -, -, -, -, h3, h4, -⟩ := hs
    replace h3 : fv 3 = .int .i64 (x.d) := h3
    replace h4 : fv 4 = .int .i64 (x.hi) := h4
    simp only [fin, List.filterMap]
    go_simp
    go_wp2
    go_ret2
    exact ⟨ret_two rfl rfl, hF⟩


set_option maxRecDepth 100000 in
set_option maxHeartbeats 1000000 in
theorem clos124_any {A : Option Addr} {n ca i tb to : Nat} {xs : List Kn} {x : Kn} {w : World} (hn : xs.length = n) (hA : RowsAt 3 Kn.enc w A xs) (ht : w.cell? ⟨tb, to, none⟩ = some (.slice A n ca)) (hx : xs[i]? = some x) :
    Calls Try.prog 124 #[.int .i64 (i : Int), .pointer (some ⟨tb, to, none⟩)] w fun e w' => e = .returned (.tuple #[.int .i64 (x.f), .int .i64 (x.lo)]) ∧ Ext w w' := by
  have hl := hA.1
  have hin := (List.getElem?_eq_some_iff.1 hx).1
  rw [hn] at hl hin
  obtain ⟨b, o, rfl, hb, hc⟩ := row_at hA hx
  have p0 : w.cell? ⟨b, o + i * 3, none⟩ = some (.int .i64 (x.f)) := hc 0 _ rfl
  have p1 : w.cell? ⟨b, o + i * 3 + 1, none⟩ = some (.int .i64 (x.lo)) := hc 1 _ rfl
  clear hA hx hn hc
  go_enter Try.func124, Try.ntmps124
  go_wp2
  refine wp_region_each [some 5, some 6, some 7, some 8, some 9, some 10, some 11, some 12, some 13, some 14, some 15, some 16, some 17, some 3, some 4] [[1], [5], [0], [6, 7], [8], [9], [1], [11], [0], [12, 13], [14], [15], [16], [10], [17]]
    [Is (.pointer (some ⟨tb, to, none⟩)), Is (.slice (some ⟨b, o, none⟩) n ca), Is (.int .i64 ((i : Int))), Is (.pointer (some ⟨b, o + i * 3, none⟩)), Is (.pointer (some ⟨b, o + i * 3, none⟩)), Is (.int .i64 (x.f)), Is (.pointer (some ⟨tb, to, none⟩)), Is (.slice (some ⟨b, o, none⟩) n ca), Is (.int .i64 ((i : Int))), Is (.pointer (some ⟨b, o + i * 3, none⟩)), Is (.pointer (some ⟨b, o + i * 3 + 1, none⟩)), Is (.pointer (some ⟨b, o + i * 3 + 1, none⟩)), Is (.int .i64 (x.lo)), Is (.int .i64 (x.f)), Is (.int .i64 (x.lo))]
    (by kernel_rfl) (by kernel_rfl) (by kernel_rfl) (by kernel_rfl) (by kernel_rfl) Ext (fun W => Ext w W)
    (fun W _ => Ext.refl W) (fun W W' h k => h.trans k) ?_ (Ext.drew _) ?_ ?_
  · repeat (refine ⟨fun _ _ _ _ k h => (by first | exact h | exact (IntsAt.ext h k)), ?_⟩)
    exact trivial
  · refine ⟨?_, ?_, ?_, ?_, ?_, ?_, ?_, ?_, ?_, ?_, ?_, ?_, ?_, ?_, ?_, trivial⟩
    all_goals intro ρ W ⟨kc, kg, kf⟩ hF hs
    · obtain ⟨h0, -⟩ := hs
      replace h0 : ρ (.tmp 1) = .pointer (some ⟨tb, to, none⟩) := h0
      go_simp
      exact ⟨Ext.refl _, rfl⟩
    · obtain ⟨h0, -⟩ := hs
      replace h0 : ρ (.tmp 5) = .pointer (some ⟨tb, to, none⟩) := h0
      have hc0 : W.cell? ⟨tb, to, none⟩ = some (.slice (some ⟨b, o, none⟩) n ca) := hF.cell (by assumption)
      go_simp
      exact ⟨Ext.refl _, rfl⟩
    · obtain ⟨h0, -⟩ := hs
      replace h0 : ρ (.tmp 0) = .int .i64 ((i : Int)) := h0
      go_simp
      exact ⟨Ext.refl _, rfl⟩
    · obtain ⟨h0, h1, -⟩ := hs
      replace h0 : ρ (.tmp 6) = .slice (some ⟨b, o, none⟩) n ca := h0
      replace h1 : ρ (.tmp 7) = .int .i64 ((i : Int)) := h1
      have hb2 : (i : Int) < (n : Int) := by omega
      have hb3 : i < n := by omega
      go_simp
      exact ⟨Ext.refl _, rfl⟩
    · obtain ⟨h0, -⟩ := hs
      replace h0 : ρ (.tmp 8) = .pointer (some ⟨b, o + i * 3, none⟩) := h0
      go_simp
      exact ⟨Ext.refl _, rfl⟩
    · obtain ⟨h0, -⟩ := hs
      replace h0 : ρ (.tmp 9) = .pointer (some ⟨b, o + i * 3, none⟩) := h0
      have hc0 : W.cell? ⟨b, o + i * 3, none⟩ = some (.int .i64 (x.f)) := hF.cell (by assumption)
      go_simp
      exact ⟨Ext.refl _, rfl⟩
    · obtain ⟨h0, -⟩ := hs
      replace h0 : ρ (.tmp 1) = .pointer (some ⟨tb, to, none⟩) := h0
      go_simp
      exact ⟨Ext.refl _, rfl⟩
    · obtain ⟨h0, -⟩ := hs
      replace h0 : ρ (.tmp 11) = .pointer (some ⟨tb, to, none⟩) := h0
      have hc0 : W.cell? ⟨tb, to, none⟩ = some (.slice (some ⟨b, o, none⟩) n ca) := hF.cell (by assumption)
      go_simp
      exact ⟨Ext.refl _, rfl⟩
    · obtain ⟨h0, -⟩ := hs
      replace h0 : ρ (.tmp 0) = .int .i64 ((i : Int)) := h0
      go_simp
      exact ⟨Ext.refl _, rfl⟩
    · obtain ⟨h0, h1, -⟩ := hs
      replace h0 : ρ (.tmp 12) = .slice (some ⟨b, o, none⟩) n ca := h0
      replace h1 : ρ (.tmp 13) = .int .i64 ((i : Int)) := h1
      have hb2 : (i : Int) < (n : Int) := by omega
      have hb3 : i < n := by omega
      go_simp
      exact ⟨Ext.refl _, rfl⟩
    · obtain ⟨h0, -⟩ := hs
      replace h0 : ρ (.tmp 14) = .pointer (some ⟨b, o + i * 3, none⟩) := h0
      go_simp
      exact ⟨Ext.refl _, rfl⟩
    · obtain ⟨h0, -⟩ := hs
      replace h0 : ρ (.tmp 15) = .pointer (some ⟨b, o + i * 3 + 1, none⟩) := h0
      go_simp
      exact ⟨Ext.refl _, rfl⟩
    · obtain ⟨h0, -⟩ := hs
      replace h0 : ρ (.tmp 16) = .pointer (some ⟨b, o + i * 3 + 1, none⟩) := h0
      have hc0 : W.cell? ⟨b, o + i * 3 + 1, none⟩ = some (.int .i64 (x.lo)) := hF.cell (by assumption)
      go_simp
      exact ⟨Ext.refl _, rfl⟩
    · obtain ⟨h0, -⟩ := hs
      replace h0 : ρ (.tmp 10) = .int .i64 (x.f) := h0
      go_simp
      exact ⟨Ext.refl _, rfl⟩
    · obtain ⟨h0, -⟩ := hs
      replace h0 : ρ (.tmp 17) = .int .i64 (x.lo) := h0
      go_simp
      exact ⟨Ext.refl _, rfl⟩
  · intro fv W hF hs
    obtain ⟨-, -, -, -, -, -, -, -, -, -, -, -, -, h3, h4, -⟩ := hs
    replace h3 : fv 3 = .int .i64 (x.f) := h3
    replace h4 : fv 4 = .int .i64 (x.lo) := h4
    simp only [fin, List.filterMap]
    go_simp
    go_wp2
    go_ret2
    exact ⟨ret_two rfl rfl, hF⟩


set_option maxRecDepth 100000 in
set_option maxHeartbeats 1000000 in
theorem clos125_any {A : Option Addr} {n ca i tb to : Nat} {xs : List Kn} {x : Kn} {w : World} (hn : xs.length = n) (hA : RowsAt 3 Kn.enc w A xs) (ht : w.cell? ⟨tb, to, none⟩ = some (.slice A n ca)) (hx : xs[i]? = some x) :
    Calls Try.prog 125 #[.int .i64 (i : Int), .pointer (some ⟨tb, to, none⟩)] w fun e w' => e = .returned (.tuple #[.int .i64 (x.f), .int .i64 (x.hi)]) ∧ Ext w w' := by
  have hl := hA.1
  have hin := (List.getElem?_eq_some_iff.1 hx).1
  rw [hn] at hl hin
  obtain ⟨b, o, rfl, hb, hc⟩ := row_at hA hx
  have p0 : w.cell? ⟨b, o + i * 3, none⟩ = some (.int .i64 (x.f)) := hc 0 _ rfl
  have p1 : w.cell? ⟨b, o + i * 3 + 1 + 1, none⟩ = some (.int .i64 (x.hi)) := hc 2 _ rfl
  clear hA hx hn hc
  go_enter Try.func125, Try.ntmps125
  go_wp2
  refine wp_region_each [some 5, some 6, some 7, some 8, some 9, some 10, some 11, some 12, some 13, some 14, some 15, some 16, some 17, some 3, some 4] [[1], [5], [0], [6, 7], [8], [9], [1], [11], [0], [12, 13], [14], [15], [16], [10], [17]]
    [Is (.pointer (some ⟨tb, to, none⟩)), Is (.slice (some ⟨b, o, none⟩) n ca), Is (.int .i64 ((i : Int))), Is (.pointer (some ⟨b, o + i * 3, none⟩)), Is (.pointer (some ⟨b, o + i * 3, none⟩)), Is (.int .i64 (x.f)), Is (.pointer (some ⟨tb, to, none⟩)), Is (.slice (some ⟨b, o, none⟩) n ca), Is (.int .i64 ((i : Int))), Is (.pointer (some ⟨b, o + i * 3, none⟩)), Is (.pointer (some ⟨b, o + i * 3 + 1, none⟩)), Is (.pointer (some ⟨b, o + i * 3 + 1 + 1, none⟩)), Is (.int .i64 (x.hi)), Is (.int .i64 (x.f)), Is (.int .i64 (x.hi))]
    (by kernel_rfl) (by kernel_rfl) (by kernel_rfl) (by kernel_rfl) (by kernel_rfl) Ext (fun W => Ext w W)
    (fun W _ => Ext.refl W) (fun W W' h k => h.trans k) ?_ (Ext.drew _) ?_ ?_
  · repeat (refine ⟨fun _ _ _ _ k h => (by first | exact h | exact (IntsAt.ext h k)), ?_⟩)
    exact trivial
  · refine ⟨?_, ?_, ?_, ?_, ?_, ?_, ?_, ?_, ?_, ?_, ?_, ?_, ?_, ?_, ?_, trivial⟩
    all_goals intro ρ W ⟨kc, kg, kf⟩ hF hs
    · obtain ⟨h0, -⟩ := hs
      replace h0 : ρ (.tmp 1) = .pointer (some ⟨tb, to, none⟩) := h0
      go_simp
      exact ⟨Ext.refl _, rfl⟩
    · obtain ⟨h0, -⟩ := hs
      replace h0 : ρ (.tmp 5) = .pointer (some ⟨tb, to, none⟩) := h0
      have hc0 : W.cell? ⟨tb, to, none⟩ = some (.slice (some ⟨b, o, none⟩) n ca) := hF.cell (by assumption)
      go_simp
      exact ⟨Ext.refl _, rfl⟩
    · obtain ⟨h0, -⟩ := hs
      replace h0 : ρ (.tmp 0) = .int .i64 ((i : Int)) := h0
      go_simp
      exact ⟨Ext.refl _, rfl⟩
    · obtain ⟨h0, h1, -⟩ := hs
      replace h0 : ρ (.tmp 6) = .slice (some ⟨b, o, none⟩) n ca := h0
      replace h1 : ρ (.tmp 7) = .int .i64 ((i : Int)) := h1
      have hb2 : (i : Int) < (n : Int) := by omega
      have hb3 : i < n := by omega
      go_simp
      exact ⟨Ext.refl _, rfl⟩
    · obtain ⟨h0, -⟩ := hs
      replace h0 : ρ (.tmp 8) = .pointer (some ⟨b, o + i * 3, none⟩) := h0
      go_simp
      exact ⟨Ext.refl _, rfl⟩
    · obtain ⟨h0, -⟩ := hs
      replace h0 : ρ (.tmp 9) = .pointer (some ⟨b, o + i * 3, none⟩) := h0
      have hc0 : W.cell? ⟨b, o + i * 3, none⟩ = some (.int .i64 (x.f)) := hF.cell (by assumption)
      go_simp
      exact ⟨Ext.refl _, rfl⟩
    · obtain ⟨h0, -⟩ := hs
      replace h0 : ρ (.tmp 1) = .pointer (some ⟨tb, to, none⟩) := h0
      go_simp
      exact ⟨Ext.refl _, rfl⟩
    · obtain ⟨h0, -⟩ := hs
      replace h0 : ρ (.tmp 11) = .pointer (some ⟨tb, to, none⟩) := h0
      have hc0 : W.cell? ⟨tb, to, none⟩ = some (.slice (some ⟨b, o, none⟩) n ca) := hF.cell (by assumption)
      go_simp
      exact ⟨Ext.refl _, rfl⟩
    · obtain ⟨h0, -⟩ := hs
      replace h0 : ρ (.tmp 0) = .int .i64 ((i : Int)) := h0
      go_simp
      exact ⟨Ext.refl _, rfl⟩
    · obtain ⟨h0, h1, -⟩ := hs
      replace h0 : ρ (.tmp 12) = .slice (some ⟨b, o, none⟩) n ca := h0
      replace h1 : ρ (.tmp 13) = .int .i64 ((i : Int)) := h1
      have hb2 : (i : Int) < (n : Int) := by omega
      have hb3 : i < n := by omega
      go_simp
      exact ⟨Ext.refl _, rfl⟩
    · obtain ⟨h0, -⟩ := hs
      replace h0 : ρ (.tmp 14) = .pointer (some ⟨b, o + i * 3, none⟩) := h0
      go_simp
      exact ⟨Ext.refl _, rfl⟩
    · obtain ⟨h0, -⟩ := hs
      replace h0 : ρ (.tmp 15) = .pointer (some ⟨b, o + i * 3 + 1, none⟩) := h0
      go_simp
      exact ⟨Ext.refl _, rfl⟩
    · obtain ⟨h0, -⟩ := hs
      replace h0 : ρ (.tmp 16) = .pointer (some ⟨b, o + i * 3 + 1 + 1, none⟩) := h0
      have hc0 : W.cell? ⟨b, o + i * 3 + 1 + 1, none⟩ = some (.int .i64 (x.hi)) := hF.cell (by assumption)
      go_simp
      exact ⟨Ext.refl _, rfl⟩
    · obtain ⟨h0, -⟩ := hs
      replace h0 : ρ (.tmp 10) = .int .i64 (x.f) := h0
      go_simp
      exact ⟨Ext.refl _, rfl⟩
    · obtain ⟨h0, -⟩ := hs
      replace h0 : ρ (.tmp 17) = .int .i64 (x.hi) := h0
      go_simp
      exact ⟨Ext.refl _, rfl⟩
  · intro fv W hF hs
    obtain ⟨-, -, -, -, -, -, -, -, -, -, -, -, -, h3, h4, -⟩ := hs
    replace h3 : fv 3 = .int .i64 (x.f) := h3
    replace h4 : fv 4 = .int .i64 (x.hi) := h4
    simp only [fin, List.filterMap]
    go_simp
    go_wp2
    go_ret2
    exact ⟨ret_two rfl rfl, hF⟩

/-- Where a curve falls below a limit; from place k on. -/
def fallK (ps : List (Int × Int)) (l : Int) : Nat → Nat → Option (Int × Int)
  | 0, _ => none
  | f + 1, k =>
    if l ≤ (ps.getD k default).2 then fallK ps l f (k + 1)
    else if k = 0 then some (lowT (ps.getD k default).1 1)
    else some (lowT ((ps.getD (k - 1) default).1 * ((ps.getD (k - 1) default).2 - (ps.getD k default).2) + ((ps.getD (k - 1) default).2 - l) * ((ps.getD k default).1 - (ps.getD (k - 1) default).1)) ((ps.getD (k - 1) default).2 - (ps.getD k default).2))
theorem fallK_step {ps : List (Int × Int)} {l : Int} {n k : Nat} {p : Int × Int} (h : k < n) (hp : ps[k]? = some p) : fallK ps l (n - k) k = if l ≤ p.2 then fallK ps l (n - (k + 1)) (k + 1) else if k = 0 then some (lowT p.1 1) else some (lowT ((ps.getD (k - 1) default).1 * ((ps.getD (k - 1) default).2 - p.2) + ((ps.getD (k - 1) default).2 - l) * (p.1 - (ps.getD (k - 1) default).1)) ((ps.getD (k - 1) default).2 - p.2)) := by
  obtain ⟨d, hd⟩ : ∃ d, n - k = d + 1 := ⟨n - k - 1, by omega⟩
  have e : ps.getD k default = p := by simp [hp]
  rw [hd, fallK, show n - (k + 1) = d by omega, e]

set_option maxRecDepth 100000 in
set_option maxHeartbeats 1000000 in
theorem fall119_any {n : Nat} {ps : List (Int × Int)} {l : Int} {w : World} {cp : Array Value} (hn : ps.length = n) (hnb : n ≤ 1000) (hl : 0 ≤ l ∧ l ≤ 2000) (hp : ∀ (i : Nat) (p : Int × Int), ps[i]? = some p → 0 ≤ p.1 ∧ p.1 ≤ 10000 ∧ 0 ≤ p.2 ∧ p.2 ≤ 2000)
    (hF : ∀ (i : Nat) (p : Int × Int) (W : World), ps[i]? = some p → Ext w W → Calls Try.prog 119 (#[.int .i64 (i : Int)] ++ cp) W fun e w' => e = .returned (.tuple #[.int .i64 p.1, .int .i64 p.2]) ∧ Ext W w') :
    Calls Try.prog 86 #[.func (.func 119) #[] cp, .int .i64 l, .int .i64 (n : Int)] w fun e w' => e = .returned (.tuple #[.agg #[.int .i64 ((fallK ps l n 0).getD (0, 0)).1, .int .i64 ((fallK ps l n 0).getD (0, 0)).2], .bool (fallK ps l n 0).isSome]) ∧ Ext w w' := by
  have HN := Lib.hid hn
  have HP := Lib.hid hp
  have HF := Lib.hid hF
  obtain ⟨l0, l1⟩ := hl
  clear hn hp hF
  obtain ⟨W0, hW0⟩ : ∃ W0, W0 = w.alloc (.cells #[.int .i64 0, .int .i64 0] 32) := ⟨_, rfl⟩
  have K0 := Lib.hid (show Blk W0 w.heap.size 32 #[.int .i64 0, .int .i64 0] by rw [hW0]; exact Blk.new _ _ _)
  have E0 := Lib.hid (show Ext w W0 by rw [hW0]; exact Ext.alloc _ _)
  go_enter Try.func86, Try.ntmps86
  go_wp2
  rw [← hW0]
  clear hW0
  go_loopw [14] (fun i wr => ∃ k : Nat, k ≤ n ∧ i = .int .i64 k ∧ fallK ps l n 0 = fallK ps l (n - k) k ∧ (k = 0 ∨ ∃ p, ps[k - 1]? = some p ∧ l ≤ p.2) ∧ Ext W0 wr) (fun i _ => n - (intOf i).toNat)
  case atStart => exact ⟨0, Nat.zero_le _, rfl, by rw [Nat.sub_zero], .inl rfl, Ext.refl _⟩
  case round =>
    obtain ⟨k, hk, rfl, hr, hb, hx⟩ := hrel
    have X := Lib.hid hx
    have R := Lib.hid hr
    have HB := Lib.hid hb
    clear hx hr hb
    by_cases hlt : k < n
    · have hki : (k : Int) < (n : Int) := by omega
      obtain ⟨p, hp⟩ : ∃ p, ps[k]? = some p := ⟨_, List.getElem?_eq_getElem (by rw [HN.out]; exact hlt)⟩
      have R2 := Lib.hid (R.out.trans (fallK_step hlt hp))
      obtain ⟨q0, q1, q2, q3⟩ := HP.out k p hp
      have HC := Lib.hid (fun W (e : Ext w W) => HF.out k p W hp e)
      have HPK := Lib.hid hp
      clear R hp
      by_cases hz : l ≤ p.2
      · have HZ := Lib.hid hz
        go_wp2_with (go_at_call 119; refine (HC.out _ (E0.out.trans X.out)).mono ?_; rintro e W1 ⟨rfl, hx⟩; have X1 := Lib.hid (X.out.trans hx); clear hx)
        go_roundw
        case rel => exact ⟨k + 1, by omega, by go_num, by rw [R2.out, if_pos HZ.out], .inr ⟨p, by rw [Nat.add_sub_cancel]; exact HPK.out, HZ.out⟩, X1.out⟩
        case measure => simp [intOf]; omega
      · have HZ := Lib.hid hz
        by_cases hk0 : k = 0
        · subst hk0
          have HL := Lib.hid (fun W => lowestP_any p.1 1 (by unfold Big; omega) (by omega) (by unfold Big; omega) W)
          have R3 := Lib.hid (show fallK ps l n 0 = some (lowT p.1 1) by rw [R2.out, if_neg HZ.out, if_pos rfl])
          generalize lowT p.1 1 = lo at *
          go_wp2_with (first
            | (go_at_call 119; refine (HC.out _ (E0.out.trans X.out)).mono ?_; rintro e W1 ⟨rfl, hx⟩; have X1 := Lib.hid (X.out.trans hx); clear hx)
            | (go_at_call 123; refine (HL.out _).mono ?_; rintro e W2 ⟨rfl, hx⟩; have X2 := Lib.hid (X1.out.trans hx); clear hx; refine Hid.out ?_))
          refine Lib.hid ?_
          have B2 := K0.out.ext X2.out
          have f0 := B2.free 0
          have f1 := B2.free 1
          have c0 : W2.cell? ⟨w.heap.size, 0, none⟩ = some (.int .i64 0) := B2.cell 0
          have c1 : W2.cell? ⟨w.heap.size, 1, none⟩ = some (.int .i64 0) := B2.cell 1
          clear B2
          go_wp2
          exact bodyPost_ret (v := .tuple #[.agg #[.int .i64 lo.1, .int .i64 lo.2], .bool true]) (by simp [results, Try.f86, go_sem, c0, c1]) rfl ⟨by rw [R3.out]; rfl, Ext.set (Ext.set (E0.out.trans X2.out) (by dsimp only; omega) _) (by dsimp only; omega) _⟩
        · obtain ⟨p', hp', hlp⟩ : ∃ p', ps[k - 1]? = some p' ∧ l ≤ p'.2 := by
            rcases HB.out with h | ⟨p', h1, h2⟩
            · omega
            · exact ⟨p', h1, h2⟩
          obtain ⟨t0, t1, t2, t3⟩ := HP.out (k - 1) p' hp'
          have hj1 : (((k - 1 : Nat)) : Int) = (k : Int) - 1 := by omega
          have HC2 := Lib.hid (fun W (e : Ext w W) => show Calls Try.prog 119 (#[.int .i64 ((k : Int) - 1)] ++ cp) W fun e w' => e = .returned (.tuple #[.int .i64 p'.1, .int .i64 p'.2]) ∧ Ext W w' from by
            have := HF.out (k - 1) p' W hp' e
            rw [hj1] at this
            exact this)
          have hk1 : (1 : Int) ≤ (k : Int) := by omega
          clear hj1
          have a0 : 0 ≤ p'.1 * (p'.2 - p.2) := Int.mul_nonneg (by omega) (by omega)
          have a1 : p'.1 * (p'.2 - p.2) ≤ 10000 * 2000 := Int.mul_le_mul (by omega) (by omega) (by omega) (by omega)
          have a2 : (p'.2 - l) * (p.1 - p'.1) ≤ 2000 * 10000 := by
            have h1 : (p'.2 - l) * (p.1 - p'.1) ≤ (p'.2 - l) * 10000 := Int.mul_le_mul_of_nonneg_left (by omega) (by omega)
            omega
          have a3 : -(2000 * 10000) ≤ (p'.2 - l) * (p.1 - p'.1) := by
            have h1 : (p'.2 - l) * (-10000) ≤ (p'.2 - l) * (p.1 - p'.1) := Int.mul_le_mul_of_nonneg_left (by omega) (by omega)
            omega
          have HL := Lib.hid (fun W => lowestP_any (p'.1 * (p'.2 - p.2) + (p'.2 - l) * (p.1 - p'.1)) (p'.2 - p.2) (by unfold Big; omega) (by omega) (by unfold Big; omega) W)
          have R3 := Lib.hid (show fallK ps l n 0 = some (lowT (p'.1 * (p'.2 - p.2) + (p'.2 - l) * (p.1 - p'.1)) (p'.2 - p.2)) by
            rw [R2.out, if_neg HZ.out, if_neg hk0, List.getD_eq_getElem?_getD, hp']; rfl)
          have hk0' : ((k : Int) == 0) = false := by simp; omega
          clear R2 HB hk0 HZ hp'
          generalize lowT (p'.1 * (p'.2 - p.2) + (p'.2 - l) * (p.1 - p'.1)) (p'.2 - p.2) = lo at *
          go_wp2_with (first
            | (go_at_call 119; (with_reducible refine (HC.out _ (E0.out.trans X.out)).mono ?_); rintro e W1 ⟨rfl, hx⟩; have X1 := Lib.hid (X.out.trans hx); clear hx)
            | (go_at_call 119; (with_reducible refine (HC2.out _ (E0.out.trans X1.out)).mono ?_); rintro e W3 ⟨rfl, hx⟩; have X3 := Lib.hid (X1.out.trans hx); clear hx)
            | (go_at_call 123; refine (HL.out _).mono ?_; rintro e W2 ⟨rfl, hx⟩; have X2 := Lib.hid (X3.out.trans hx); clear hx; refine Hid.out ?_))
          refine Lib.hid ?_
          have B2 := K0.out.ext X2.out
          have f0 := B2.free 0
          have f1 := B2.free 1
          have c0 : W2.cell? ⟨w.heap.size, 0, none⟩ = some (.int .i64 0) := B2.cell 0
          have c1 : W2.cell? ⟨w.heap.size, 1, none⟩ = some (.int .i64 0) := B2.cell 1
          clear B2
          go_wp2
          exact bodyPost_ret (v := .tuple #[.agg #[.int .i64 lo.1, .int .i64 lo.2], .bool true]) (by simp [results, Try.f86, go_sem, c0, c1]) rfl ⟨by rw [R3.out]; rfl, Ext.set (Ext.set (E0.out.trans X2.out) (by dsimp only; omega) _) (by dsimp only; omega) _⟩
    · have R2 := Lib.hid (show fallK ps l n 0 = none by rw [R.out, show n - k = 0 by omega]; rfl)
      have hkn : ¬ (k : Int) < (n : Int) := by omega
      have B2 := K0.out.ext X.out
      have f0 := B2.free 0
      have f1 := B2.free 1
      have c0 : wr.cell? ⟨w.heap.size, 0, none⟩ = some (.int .i64 0) := B2.cell 0
      have c1 : wr.cell? ⟨w.heap.size, 1, none⟩ = some (.int .i64 0) := B2.cell 1
      clear B2 R
      go_wp2
      exact bodyPost_ret (v := .tuple #[.agg #[.int .i64 0, .int .i64 0], .bool false]) (by simp [results, Try.f86, go_sem, c0, c1]) rfl ⟨by rw [R2.out]; rfl, Ext.set (Ext.set (E0.out.trans X.out) (by dsimp only; omega) _) (by dsimp only; omega) _⟩


set_option maxRecDepth 100000 in
set_option maxHeartbeats 1000000 in
theorem fall120_any {n : Nat} {ps : List (Int × Int)} {l : Int} {w : World} {cp : Array Value} (hn : ps.length = n) (hnb : n ≤ 1000) (hl : 0 ≤ l ∧ l ≤ 2000) (hp : ∀ (i : Nat) (p : Int × Int), ps[i]? = some p → 0 ≤ p.1 ∧ p.1 ≤ 10000 ∧ 0 ≤ p.2 ∧ p.2 ≤ 2000)
    (hF : ∀ (i : Nat) (p : Int × Int) (W : World), ps[i]? = some p → Ext w W → Calls Try.prog 120 (#[.int .i64 (i : Int)] ++ cp) W fun e w' => e = .returned (.tuple #[.int .i64 p.1, .int .i64 p.2]) ∧ Ext W w') :
    Calls Try.prog 86 #[.func (.func 120) #[] cp, .int .i64 l, .int .i64 (n : Int)] w fun e w' => e = .returned (.tuple #[.agg #[.int .i64 ((fallK ps l n 0).getD (0, 0)).1, .int .i64 ((fallK ps l n 0).getD (0, 0)).2], .bool (fallK ps l n 0).isSome]) ∧ Ext w w' := by
  have HN := Lib.hid hn
  have HP := Lib.hid hp
  have HF := Lib.hid hF
  obtain ⟨l0, l1⟩ := hl
  clear hn hp hF
  obtain ⟨W0, hW0⟩ : ∃ W0, W0 = w.alloc (.cells #[.int .i64 0, .int .i64 0] 32) := ⟨_, rfl⟩
  have K0 := Lib.hid (show Blk W0 w.heap.size 32 #[.int .i64 0, .int .i64 0] by rw [hW0]; exact Blk.new _ _ _)
  have E0 := Lib.hid (show Ext w W0 by rw [hW0]; exact Ext.alloc _ _)
  go_enter Try.func86, Try.ntmps86
  go_wp2
  rw [← hW0]
  clear hW0
  go_loopw [14] (fun i wr => ∃ k : Nat, k ≤ n ∧ i = .int .i64 k ∧ fallK ps l n 0 = fallK ps l (n - k) k ∧ (k = 0 ∨ ∃ p, ps[k - 1]? = some p ∧ l ≤ p.2) ∧ Ext W0 wr) (fun i _ => n - (intOf i).toNat)
  case atStart => exact ⟨0, Nat.zero_le _, rfl, by rw [Nat.sub_zero], .inl rfl, Ext.refl _⟩
  case round =>
    obtain ⟨k, hk, rfl, hr, hb, hx⟩ := hrel
    have X := Lib.hid hx
    have R := Lib.hid hr
    have HB := Lib.hid hb
    clear hx hr hb
    by_cases hlt : k < n
    · have hki : (k : Int) < (n : Int) := by omega
      obtain ⟨p, hp⟩ : ∃ p, ps[k]? = some p := ⟨_, List.getElem?_eq_getElem (by rw [HN.out]; exact hlt)⟩
      have R2 := Lib.hid (R.out.trans (fallK_step hlt hp))
      obtain ⟨q0, q1, q2, q3⟩ := HP.out k p hp
      have HC := Lib.hid (fun W (e : Ext w W) => HF.out k p W hp e)
      have HPK := Lib.hid hp
      clear R hp
      by_cases hz : l ≤ p.2
      · have HZ := Lib.hid hz
        go_wp2_with (go_at_call 120; refine (HC.out _ (E0.out.trans X.out)).mono ?_; rintro e W1 ⟨rfl, hx⟩; have X1 := Lib.hid (X.out.trans hx); clear hx)
        go_roundw
        case rel => exact ⟨k + 1, by omega, by go_num, by rw [R2.out, if_pos HZ.out], .inr ⟨p, by rw [Nat.add_sub_cancel]; exact HPK.out, HZ.out⟩, X1.out⟩
        case measure => simp [intOf]; omega
      · have HZ := Lib.hid hz
        by_cases hk0 : k = 0
        · subst hk0
          have HL := Lib.hid (fun W => lowestP_any p.1 1 (by unfold Big; omega) (by omega) (by unfold Big; omega) W)
          have R3 := Lib.hid (show fallK ps l n 0 = some (lowT p.1 1) by rw [R2.out, if_neg HZ.out, if_pos rfl])
          generalize lowT p.1 1 = lo at *
          go_wp2_with (first
            | (go_at_call 120; refine (HC.out _ (E0.out.trans X.out)).mono ?_; rintro e W1 ⟨rfl, hx⟩; have X1 := Lib.hid (X.out.trans hx); clear hx)
            | (go_at_call 123; refine (HL.out _).mono ?_; rintro e W2 ⟨rfl, hx⟩; have X2 := Lib.hid (X1.out.trans hx); clear hx; refine Hid.out ?_))
          refine Lib.hid ?_
          have B2 := K0.out.ext X2.out
          have f0 := B2.free 0
          have f1 := B2.free 1
          have c0 : W2.cell? ⟨w.heap.size, 0, none⟩ = some (.int .i64 0) := B2.cell 0
          have c1 : W2.cell? ⟨w.heap.size, 1, none⟩ = some (.int .i64 0) := B2.cell 1
          clear B2
          go_wp2
          exact bodyPost_ret (v := .tuple #[.agg #[.int .i64 lo.1, .int .i64 lo.2], .bool true]) (by simp [results, Try.f86, go_sem, c0, c1]) rfl ⟨by rw [R3.out]; rfl, Ext.set (Ext.set (E0.out.trans X2.out) (by dsimp only; omega) _) (by dsimp only; omega) _⟩
        · obtain ⟨p', hp', hlp⟩ : ∃ p', ps[k - 1]? = some p' ∧ l ≤ p'.2 := by
            rcases HB.out with h | ⟨p', h1, h2⟩
            · omega
            · exact ⟨p', h1, h2⟩
          obtain ⟨t0, t1, t2, t3⟩ := HP.out (k - 1) p' hp'
          have hj1 : (((k - 1 : Nat)) : Int) = (k : Int) - 1 := by omega
          have HC2 := Lib.hid (fun W (e : Ext w W) => show Calls Try.prog 120 (#[.int .i64 ((k : Int) - 1)] ++ cp) W fun e w' => e = .returned (.tuple #[.int .i64 p'.1, .int .i64 p'.2]) ∧ Ext W w' from by
            have := HF.out (k - 1) p' W hp' e
            rw [hj1] at this
            exact this)
          have hk1 : (1 : Int) ≤ (k : Int) := by omega
          clear hj1
          have a0 : 0 ≤ p'.1 * (p'.2 - p.2) := Int.mul_nonneg (by omega) (by omega)
          have a1 : p'.1 * (p'.2 - p.2) ≤ 10000 * 2000 := Int.mul_le_mul (by omega) (by omega) (by omega) (by omega)
          have a2 : (p'.2 - l) * (p.1 - p'.1) ≤ 2000 * 10000 := by
            have h1 : (p'.2 - l) * (p.1 - p'.1) ≤ (p'.2 - l) * 10000 := Int.mul_le_mul_of_nonneg_left (by omega) (by omega)
            omega
          have a3 : -(2000 * 10000) ≤ (p'.2 - l) * (p.1 - p'.1) := by
            have h1 : (p'.2 - l) * (-10000) ≤ (p'.2 - l) * (p.1 - p'.1) := Int.mul_le_mul_of_nonneg_left (by omega) (by omega)
            omega
          have HL := Lib.hid (fun W => lowestP_any (p'.1 * (p'.2 - p.2) + (p'.2 - l) * (p.1 - p'.1)) (p'.2 - p.2) (by unfold Big; omega) (by omega) (by unfold Big; omega) W)
          have R3 := Lib.hid (show fallK ps l n 0 = some (lowT (p'.1 * (p'.2 - p.2) + (p'.2 - l) * (p.1 - p'.1)) (p'.2 - p.2)) by
            rw [R2.out, if_neg HZ.out, if_neg hk0, List.getD_eq_getElem?_getD, hp']; rfl)
          have hk0' : ((k : Int) == 0) = false := by simp; omega
          clear R2 HB hk0 HZ hp'
          generalize lowT (p'.1 * (p'.2 - p.2) + (p'.2 - l) * (p.1 - p'.1)) (p'.2 - p.2) = lo at *
          go_wp2_with (first
            | (go_at_call 120; (with_reducible refine (HC.out _ (E0.out.trans X.out)).mono ?_); rintro e W1 ⟨rfl, hx⟩; have X1 := Lib.hid (X.out.trans hx); clear hx)
            | (go_at_call 120; (with_reducible refine (HC2.out _ (E0.out.trans X1.out)).mono ?_); rintro e W3 ⟨rfl, hx⟩; have X3 := Lib.hid (X1.out.trans hx); clear hx)
            | (go_at_call 123; refine (HL.out _).mono ?_; rintro e W2 ⟨rfl, hx⟩; have X2 := Lib.hid (X3.out.trans hx); clear hx; refine Hid.out ?_))
          refine Lib.hid ?_
          have B2 := K0.out.ext X2.out
          have f0 := B2.free 0
          have f1 := B2.free 1
          have c0 : W2.cell? ⟨w.heap.size, 0, none⟩ = some (.int .i64 0) := B2.cell 0
          have c1 : W2.cell? ⟨w.heap.size, 1, none⟩ = some (.int .i64 0) := B2.cell 1
          clear B2
          go_wp2
          exact bodyPost_ret (v := .tuple #[.agg #[.int .i64 lo.1, .int .i64 lo.2], .bool true]) (by simp [results, Try.f86, go_sem, c0, c1]) rfl ⟨by rw [R3.out]; rfl, Ext.set (Ext.set (E0.out.trans X2.out) (by dsimp only; omega) _) (by dsimp only; omega) _⟩
    · have R2 := Lib.hid (show fallK ps l n 0 = none by rw [R.out, show n - k = 0 by omega]; rfl)
      have hkn : ¬ (k : Int) < (n : Int) := by omega
      have B2 := K0.out.ext X.out
      have f0 := B2.free 0
      have f1 := B2.free 1
      have c0 : wr.cell? ⟨w.heap.size, 0, none⟩ = some (.int .i64 0) := B2.cell 0
      have c1 : wr.cell? ⟨w.heap.size, 1, none⟩ = some (.int .i64 0) := B2.cell 1
      clear B2 R
      go_wp2
      exact bodyPost_ret (v := .tuple #[.agg #[.int .i64 0, .int .i64 0], .bool false]) (by simp [results, Try.f86, go_sem, c0, c1]) rfl ⟨by rw [R2.out]; rfl, Ext.set (Ext.set (E0.out.trans X.out) (by dsimp only; omega) _) (by dsimp only; omega) _⟩


end Go.Proofs.Ytmddnpagfgilcaa
