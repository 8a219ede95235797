/- CheckRules. -/
import Derived.Test.YtkmekbafjnlfkaaGreatS9a
import Derived.Test.YtkmekbafjnlfkaaGreatS5b
import Derived.Test.YtkmekbafjnlfkaaGreatS5c
import Derived.Test.YtkmekbafjnlfkaaGreatS5d

namespace Go.Proofs.YtkmekbafjnlfkaaGreat
open Go.RowKit Go.Shelf Go.Mem Go.RegInv
attribute [local go_sem] RelUpon_value RelUpon_skip RelUpon_enter BigFrame.eval_const BigFrame.eval_global BigFrame.eval_func

theorem run_max4 (w : World) (x y z u : Int) : Sem.run Tryz.prog (Builtin.max_ #[3, 3, 3, 3] 3 #[.int .i64 x, .int .i64 y, .int .i64 z, .int .i64 u]) w = .ok (.int .i64 (max (max (max x y) z) u)) w := by
  have e : ∀ a b : Int, (if b > a then b else a) = max a b := by
    intro a b
    rw [Int.max_def]
    split <;> split <;> omega
  simp [Builtin.max_, Builtin.max2, e, go_sem]

/-- What CheckRules answers, mx the greatest length. -/
def checkR (r : Ru) (mx : Int) : Int × Int := firstFlt [(0, errIf (decide (8 < mx)) 8), firstAt (knotE HK.kn risingK r.hs) r.hs.length 0, firstAt (knotE CK.kn laterK r.cs) r.cs.length 0, firstAt (knotE DK.kn fallingK r.ds) r.ds.length 0, firstAt (knotE TK.kn laterK r.ts) r.ts.length 0, (0, clashK r), (0, hardE r.h0 r.h1 r.h2 r.h3)]
def mostR (r : Ru) : Int := max (max (max (r.hs.length : Int) r.cs.length) r.ds.length) r.ts.length

set_option maxRecDepth 100000 in
set_option maxHeartbeats 4000000 in
theorem checkRules_any {r : Ru} {u : Value} {w : World} (hR : RuV r u w) : Calls Tryz.prog 15 #[u] w fun e w' => e = .returned (.tuple #[.int .i64 (checkR r (mostR r)).1, .int .i64 (checkR r (mostR r)).2]) ∧ Ext w w' := by
  have hR0 := hR
  obtain ⟨A0, A1, A2, A3, n0, n1, n2, n3, c0, c1, c2, c3, rfl, h⟩ := hR
  obtain ⟨W0, hW0⟩ : ∃ W0, W0 = w.alloc (.cells #[.slice A0 n0 c0, .slice A1 n1 c1, .slice A2 n2 c2, .slice A3 n3 c3, .int .i64 r.h0, .int .i64 r.h1, .int .i64 r.h2, .int .i64 r.h3] 28) := ⟨_, rfl⟩
  have k0 : Blk W0 w.heap.size 28 #[.slice A0 n0 c0, .slice A1 n1 c1, .slice A2 n2 c2, .slice A3 n3 c3, .int .i64 r.h0, .int .i64 r.h1, .int .i64 r.h2, .int .i64 r.h3] := by rw [hW0]; exact Blk.new _ _ _
  have e0 : Ext w W0 := by rw [hW0]; exact Ext.alloc _ _
  have H := Lib.hid (h.ext e0)
  have HV := Lib.hid (hR0.ext e0)
  have E0 := Lib.hid e0
  have y0 : W0.cell? ⟨w.heap.size, 0, none⟩ = some (.slice A0 n0 c0) := k0.cell 0
  have y1 : W0.cell? ⟨w.heap.size, 1, none⟩ = some (.slice A1 n1 c1) := k0.cell 1
  have y2 : W0.cell? ⟨w.heap.size, 2, none⟩ = some (.slice A2 n2 c2) := k0.cell 2
  have y3 : W0.cell? ⟨w.heap.size, 3, none⟩ = some (.slice A3 n3 c3) := k0.cell 3
  have y4 : W0.cell? ⟨w.heap.size, 4, none⟩ = some (.int .i64 (r.h0)) := k0.cell 4
  have y5 : W0.cell? ⟨w.heap.size, 5, none⟩ = some (.int .i64 (r.h1)) := k0.cell 5
  have y6 : W0.cell? ⟨w.heap.size, 6, none⟩ = some (.int .i64 (r.h2)) := k0.cell 6
  have y7 : W0.cell? ⟨w.heap.size, 7, none⟩ = some (.int .i64 (r.h3)) := k0.cell 7
  have HO := Lib.hid (show checkR r (mostR r) = checkR r (max (max (max (n0 : Int) n1) n2) n3) by rw [mostR, h.l0, h.l1, h.l2, h.l3])
  have HL := Lib.hid (show ∀ mx, checkR r mx = firstFlt [(0, errIf (decide (8 < mx)) 8), firstAt (knotE HK.kn risingK r.hs) n0 0, firstAt (knotE CK.kn laterK r.cs) n1 0, firstAt (knotE DK.kn fallingK r.ds) n2 0, firstAt (knotE TK.kn laterK r.ts) n3 0, (0, clashK r), (0, hardE r.h0 r.h1 r.h2 r.h3)] by intro mx; rw [checkR, h.l0, h.l1, h.l2, h.l3])
  obtain ⟨mx, hmx⟩ : ∃ mx : Int, max (max (max (n0 : Int) n1) n2) n3 = mx := ⟨_, rfl⟩
  have hmax := run_max4 W0 n0 n1 n2 n3
  rw [hmx] at hmax
  rw [HO.out, hmx]
  clear hR0 h k0 e0 HO hmx
  go_enter Tryz.func15, Tryz.ntmps15
  go_wp2
  rw [← hW0]
  clear hW0
  rw [hmax]
  clear hmax
  go_wp2
  refine wp_region_each [some 18, some 19, some 20, some 21, some 22, some 23, some 24, some 25, some 26, some 27, some 28, some 29, some 30, some 31, some 32, some 33, some 34, some 35, some 36, some 37, some 38, some 39, some 40, some 41, some 42, some 43, some 44, some 2, some 3] [[4], [18], [19], [20], [1], [22], [23], [1], [25], [26], [1], [28], [29], [1], [31], [32], [1], [34], [35], [1], [37], [38], [39], [21, 24, 27, 30, 33, 36, 40], [41], [42], [42], [43], [44]]
    [Is (.int .i64 (mx)), Is (.bool (decide (8 < mx))), Is (.int .i64 (errIf (decide (8 < mx)) 8)), Is (.agg #[.int .i64 0, .int .i64 (errIf (decide (8 < mx)) 8)]), Is (.pointer (some ⟨w.heap.size, 0, none⟩)), Is (.slice A0 n0 c0), Is (.agg #[.int .i64 (firstAt (knotE HK.kn risingK r.hs) n0 0).1, .int .i64 (firstAt (knotE HK.kn risingK r.hs) n0 0).2]), Is (.pointer (some ⟨w.heap.size, 1, none⟩)), Is (.slice A1 n1 c1), Is (.agg #[.int .i64 (firstAt (knotE CK.kn laterK r.cs) n1 0).1, .int .i64 (firstAt (knotE CK.kn laterK r.cs) n1 0).2]), Is (.pointer (some ⟨w.heap.size, 2, none⟩)), Is (.slice A2 n2 c2), Is (.agg #[.int .i64 (firstAt (knotE DK.kn fallingK r.ds) n2 0).1, .int .i64 (firstAt (knotE DK.kn fallingK r.ds) n2 0).2]), Is (.pointer (some ⟨w.heap.size, 3, none⟩)), Is (.slice A3 n3 c3), Is (.agg #[.int .i64 (firstAt (knotE TK.kn laterK r.ts) n3 0).1, .int .i64 (firstAt (knotE TK.kn laterK r.ts) n3 0).2]), Is (.agg #[.slice A0 n0 c0, .slice A1 n1 c1, .slice A2 n2 c2, .slice A3 n3 c3, .int .i64 (r.h0), .int .i64 (r.h1), .int .i64 (r.h2), .int .i64 (r.h3)]), Is (.int .i64 (clashK r)), Is (.agg #[.int .i64 0, .int .i64 (clashK r)]), Is (.pointer (some ⟨w.heap.size, 4, none⟩)), Is (.agg #[.int .i64 (r.h0), .int .i64 (r.h1), .int .i64 (r.h2), .int .i64 (r.h3)]), Is (.int .i64 (hardE r.h0 r.h1 r.h2 r.h3)), Is (.agg #[.int .i64 0, .int .i64 (hardE r.h0 r.h1 r.h2 r.h3)]), FltV [(0, errIf (decide (8 < mx)) 8), firstAt (knotE HK.kn risingK r.hs) n0 0, firstAt (knotE CK.kn laterK r.cs) n1 0, firstAt (knotE DK.kn fallingK r.ds) n2 0, firstAt (knotE TK.kn laterK r.ts) n3 0, (0, clashK r), (0, hardE r.h0 r.h1 r.h2 r.h3)], Is (.tuple #[.int .i64 (firstFlt [(0, errIf (decide (8 < mx)) 8), firstAt (knotE HK.kn risingK r.hs) n0 0, firstAt (knotE CK.kn laterK r.cs) n1 0, firstAt (knotE DK.kn fallingK r.ds) n2 0, firstAt (knotE TK.kn laterK r.ts) n3 0, (0, clashK r), (0, hardE r.h0 r.h1 r.h2 r.h3)]).1, .int .i64 (firstFlt [(0, errIf (decide (8 < mx)) 8), firstAt (knotE HK.kn risingK r.hs) n0 0, firstAt (knotE CK.kn laterK r.cs) n1 0, firstAt (knotE DK.kn fallingK r.ds) n2 0, firstAt (knotE TK.kn laterK r.ts) n3 0, (0, clashK r), (0, hardE r.h0 r.h1 r.h2 r.h3)]).2]), Is (.int .i64 ((firstFlt [(0, errIf (decide (8 < mx)) 8), firstAt (knotE HK.kn risingK r.hs) n0 0, firstAt (knotE CK.kn laterK r.cs) n1 0, firstAt (knotE DK.kn fallingK r.ds) n2 0, firstAt (knotE TK.kn laterK r.ts) n3 0, (0, clashK r), (0, hardE r.h0 r.h1 r.h2 r.h3)]).1)), Is (.int .i64 ((firstFlt [(0, errIf (decide (8 < mx)) 8), firstAt (knotE HK.kn risingK r.hs) n0 0, firstAt (knotE CK.kn laterK r.cs) n1 0, firstAt (knotE DK.kn fallingK r.ds) n2 0, firstAt (knotE TK.kn laterK r.ts) n3 0, (0, clashK r), (0, hardE r.h0 r.h1 r.h2 r.h3)]).2)), Is (.int .i64 ((firstFlt [(0, errIf (decide (8 < mx)) 8), firstAt (knotE HK.kn risingK r.hs) n0 0, firstAt (knotE CK.kn laterK r.cs) n1 0, firstAt (knotE DK.kn fallingK r.ds) n2 0, firstAt (knotE TK.kn laterK r.ts) n3 0, (0, clashK r), (0, hardE r.h0 r.h1 r.h2 r.h3)]).1)), Is (.int .i64 ((firstFlt [(0, errIf (decide (8 < mx)) 8), firstAt (knotE HK.kn risingK r.hs) n0 0, firstAt (knotE CK.kn laterK r.cs) n1 0, firstAt (knotE DK.kn fallingK r.ds) n2 0, firstAt (knotE TK.kn laterK r.ts) n3 0, (0, clashK r), (0, hardE r.h0 r.h1 r.h2 r.h3)]).2))]
    (by kernel_rfl) (by kernel_rfl) (by kernel_rfl) (by kernel_rfl) (by kernel_rfl) Ext (fun W => Ext W0 W)
    (fun W _ => Ext.refl W) (fun W W' h k => h.trans k) ?_ (Ext.drew _) ?_ ?_
  · repeat (refine ⟨fun _ _ _ _ k h => (by first | exact h | exact (by first | exact FltV.ext h k | exact IntsAt.ext h k)), ?_⟩)
    exact trivial
  · refine ⟨?_, ?_, ?_, ?_, ?_, ?_, ?_, ?_, ?_, ?_, ?_, ?_, ?_, ?_, ?_, ?_, ?_, ?_, ?_, ?_, ?_, ?_, ?_, ?_, ?_, ?_, ?_, ?_, ?_, trivial⟩
    all_goals intro ρ W ⟨kc, kg, kf⟩ hF hs
    · obtain ⟨h0, -⟩ := hs
      replace h0 : ρ (.tmp 4) = .int .i64 (mx) := h0
      go_simp
      exact ⟨Ext.refl _, rfl⟩
    · obtain ⟨h0, -⟩ := hs
      replace h0 : ρ (.tmp 18) = .int .i64 (mx) := h0
      go_simp
      exact ⟨Ext.refl _, rfl⟩
    · obtain ⟨h0, -⟩ := hs
      replace h0 : ρ (.tmp 19) = .bool (decide (8 < mx)) := h0
      go_simp
      refine (errorIf_any _ _ _).mono ?_; rintro e w' ⟨rfl, rfl⟩; exact ⟨_, rfl, Ext.refl _, rfl⟩
    · obtain ⟨h0, -⟩ := hs
      replace h0 : ρ (.tmp 20) = .int .i64 (errIf (decide (8 < mx)) 8) := h0
      go_simp
      exact ⟨Ext.refl _, rfl⟩
    · obtain ⟨h0, -⟩ := hs
      replace h0 : ρ (.tmp 1) = .pointer (some ⟨w.heap.size, 0, none⟩) := h0
      go_simp
      exact ⟨Ext.refl _, rfl⟩
    · obtain ⟨h0, -⟩ := hs
      replace h0 : ρ (.tmp 22) = .pointer (some ⟨w.heap.size, 0, none⟩) := h0
      have hc0 : W.cell? ⟨w.heap.size, 0, none⟩ = some (.slice A0 n0 c0) := hF.cell (by assumption)
      go_simp
      exact ⟨Ext.refl _, rfl⟩
    · obtain ⟨h0, -⟩ := hs
      replace h0 : ρ (.tmp 23) = .slice A0 n0 c0 := h0
      go_simp
      refine (knotsFault73_any H.out.l0 (H.out.r0.ext hF)).mono ?_; rintro e w' ⟨rfl, hx⟩; exact ⟨_, rfl, hx, rfl⟩
    · obtain ⟨h0, -⟩ := hs
      replace h0 : ρ (.tmp 1) = .pointer (some ⟨w.heap.size, 0, none⟩) := h0
      go_simp
      exact ⟨Ext.refl _, rfl⟩
    · obtain ⟨h0, -⟩ := hs
      replace h0 : ρ (.tmp 25) = .pointer (some ⟨w.heap.size, 1, none⟩) := h0
      have hc0 : W.cell? ⟨w.heap.size, 1, none⟩ = some (.slice A1 n1 c1) := hF.cell (by assumption)
      go_simp
      exact ⟨Ext.refl _, rfl⟩
    · obtain ⟨h0, -⟩ := hs
      replace h0 : ρ (.tmp 26) = .slice A1 n1 c1 := h0
      go_simp
      refine (knotsFault76_any H.out.l1 (H.out.r1.ext hF)).mono ?_; rintro e w' ⟨rfl, hx⟩; exact ⟨_, rfl, hx, rfl⟩
    · obtain ⟨h0, -⟩ := hs
      replace h0 : ρ (.tmp 1) = .pointer (some ⟨w.heap.size, 0, none⟩) := h0
      go_simp
      exact ⟨Ext.refl _, rfl⟩
    · obtain ⟨h0, -⟩ := hs
      replace h0 : ρ (.tmp 28) = .pointer (some ⟨w.heap.size, 2, none⟩) := h0
      have hc0 : W.cell? ⟨w.heap.size, 2, none⟩ = some (.slice A2 n2 c2) := hF.cell (by assumption)
      go_simp
      exact ⟨Ext.refl _, rfl⟩
    · obtain ⟨h0, -⟩ := hs
      replace h0 : ρ (.tmp 29) = .slice A2 n2 c2 := h0
      go_simp
      refine (knotsFault79_any H.out.l2 (H.out.r2.ext hF)).mono ?_; rintro e w' ⟨rfl, hx⟩; exact ⟨_, rfl, hx, rfl⟩
    · obtain ⟨h0, -⟩ := hs
      replace h0 : ρ (.tmp 1) = .pointer (some ⟨w.heap.size, 0, none⟩) := h0
      go_simp
      exact ⟨Ext.refl _, rfl⟩
    · obtain ⟨h0, -⟩ := hs
      replace h0 : ρ (.tmp 31) = .pointer (some ⟨w.heap.size, 3, none⟩) := h0
      have hc0 : W.cell? ⟨w.heap.size, 3, none⟩ = some (.slice A3 n3 c3) := hF.cell (by assumption)
      go_simp
      exact ⟨Ext.refl _, rfl⟩
    · obtain ⟨h0, -⟩ := hs
      replace h0 : ρ (.tmp 32) = .slice A3 n3 c3 := h0
      go_simp
      refine (knotsFault82_any H.out.l3 (H.out.r3.ext hF)).mono ?_; rintro e w' ⟨rfl, hx⟩; exact ⟨_, rfl, hx, rfl⟩
    · obtain ⟨h0, -⟩ := hs
      replace h0 : ρ (.tmp 1) = .pointer (some ⟨w.heap.size, 0, none⟩) := h0
      have hc0 : W.cell? ⟨w.heap.size, 0, none⟩ = some (.slice A0 n0 c0) := hF.cell (by assumption)
      have hc1 : W.cell? ⟨w.heap.size, 1, none⟩ = some (.slice A1 n1 c1) := hF.cell (by assumption)
      have hc2 : W.cell? ⟨w.heap.size, 2, none⟩ = some (.slice A2 n2 c2) := hF.cell (by assumption)
      have hc3 : W.cell? ⟨w.heap.size, 3, none⟩ = some (.slice A3 n3 c3) := hF.cell (by assumption)
      have hc4 : W.cell? ⟨w.heap.size, 4, none⟩ = some (.int .i64 (r.h0)) := hF.cell (by assumption)
      have hc5 : W.cell? ⟨w.heap.size, 5, none⟩ = some (.int .i64 (r.h1)) := hF.cell (by assumption)
      have hc6 : W.cell? ⟨w.heap.size, 6, none⟩ = some (.int .i64 (r.h2)) := hF.cell (by assumption)
      have hc7 : W.cell? ⟨w.heap.size, 7, none⟩ = some (.int .i64 (r.h3)) := hF.cell (by assumption)
      go_simp
      exact ⟨Ext.refl _, rfl⟩
    · obtain ⟨h0, -⟩ := hs
      replace h0 : ρ (.tmp 34) = .agg #[.slice A0 n0 c0, .slice A1 n1 c1, .slice A2 n2 c2, .slice A3 n3 c3, .int .i64 (r.h0), .int .i64 (r.h1), .int .i64 (r.h2), .int .i64 (r.h3)] := h0
      go_simp
      refine (clashError_any (HV.out.ext hF)).mono ?_; rintro e w' ⟨rfl, hx⟩; exact ⟨_, rfl, hx, rfl⟩
    · obtain ⟨h0, -⟩ := hs
      replace h0 : ρ (.tmp 35) = .int .i64 (clashK r) := h0
      go_simp
      exact ⟨Ext.refl _, rfl⟩
    · obtain ⟨h0, -⟩ := hs
      replace h0 : ρ (.tmp 1) = .pointer (some ⟨w.heap.size, 0, none⟩) := h0
      go_simp
      exact ⟨Ext.refl _, rfl⟩
    · obtain ⟨h0, -⟩ := hs
      replace h0 : ρ (.tmp 37) = .pointer (some ⟨w.heap.size, 4, none⟩) := h0
      have hc0 : W.cell? ⟨w.heap.size, 4, none⟩ = some (.int .i64 (r.h0)) := hF.cell (by assumption)
      have hc1 : W.cell? ⟨w.heap.size, 5, none⟩ = some (.int .i64 (r.h1)) := hF.cell (by assumption)
      have hc2 : W.cell? ⟨w.heap.size, 6, none⟩ = some (.int .i64 (r.h2)) := hF.cell (by assumption)
      have hc3 : W.cell? ⟨w.heap.size, 7, none⟩ = some (.int .i64 (r.h3)) := hF.cell (by assumption)
      go_simp
      exact ⟨Ext.refl _, rfl⟩
    · obtain ⟨h0, -⟩ := hs
      replace h0 : ρ (.tmp 38) = .agg #[.int .i64 (r.h0), .int .i64 (r.h1), .int .i64 (r.h2), .int .i64 (r.h3)] := h0
      go_simp
      refine (hardsError_any _ _ _ _ _).mono ?_; rintro e w' ⟨rfl, hx⟩; exact ⟨_, rfl, hx, rfl⟩
    · obtain ⟨h0, -⟩ := hs
      replace h0 : ρ (.tmp 39) = .int .i64 (hardE r.h0 r.h1 r.h2 r.h3) := h0
      go_simp
      exact ⟨Ext.refl _, rfl⟩
    · obtain ⟨h0, h1, h2, h3, h4, h5, h6, -⟩ := hs
      replace h0 : ρ (.tmp 21) = .agg #[.int .i64 0, .int .i64 (errIf (decide (8 < mx)) 8)] := h0
      replace h1 : ρ (.tmp 24) = .agg #[.int .i64 (firstAt (knotE HK.kn risingK r.hs) n0 0).1, .int .i64 (firstAt (knotE HK.kn risingK r.hs) n0 0).2] := h1
      replace h2 : ρ (.tmp 27) = .agg #[.int .i64 (firstAt (knotE CK.kn laterK r.cs) n1 0).1, .int .i64 (firstAt (knotE CK.kn laterK r.cs) n1 0).2] := h2
      replace h3 : ρ (.tmp 30) = .agg #[.int .i64 (firstAt (knotE DK.kn fallingK r.ds) n2 0).1, .int .i64 (firstAt (knotE DK.kn fallingK r.ds) n2 0).2] := h3
      replace h4 : ρ (.tmp 33) = .agg #[.int .i64 (firstAt (knotE TK.kn laterK r.ts) n3 0).1, .int .i64 (firstAt (knotE TK.kn laterK r.ts) n3 0).2] := h4
      replace h5 : ρ (.tmp 36) = .agg #[.int .i64 0, .int .i64 (clashK r)] := h5
      replace h6 : ρ (.tmp 40) = .agg #[.int .i64 0, .int .i64 (hardE r.h0 r.h1 r.h2 r.h3)] := h6
      go_simp
      exact ⟨Ext.alloc _ _, _, 7, rfl, Lib.hid rfl, rows_blk (n := 7) (Blk.new _ _ _) (fun _ => rfl) rfl rfl (by decide)⟩
    · obtain ⟨h0, -⟩ := hs
      replace h0 : (FltV [(0, errIf (decide (8 < mx)) 8), firstAt (knotE HK.kn risingK r.hs) n0 0, firstAt (knotE CK.kn laterK r.cs) n1 0, firstAt (knotE DK.kn fallingK r.ds) n2 0, firstAt (knotE TK.kn laterK r.ts) n3 0, (0, clashK r), (0, hardE r.h0 r.h1 r.h2 r.h3)]) (ρ (.tmp 41)) W := h0
      go_simp
      refine (firstFault_any h0).mono ?_; rintro e w' ⟨rfl, hx⟩; exact ⟨_, rfl, hx, rfl⟩
    · obtain ⟨h0, -⟩ := hs
      replace h0 : ρ (.tmp 42) = .tuple #[.int .i64 (firstFlt [(0, errIf (decide (8 < mx)) 8), firstAt (knotE HK.kn risingK r.hs) n0 0, firstAt (knotE CK.kn laterK r.cs) n1 0, firstAt (knotE DK.kn fallingK r.ds) n2 0, firstAt (knotE TK.kn laterK r.ts) n3 0, (0, clashK r), (0, hardE r.h0 r.h1 r.h2 r.h3)]).1, .int .i64 (firstFlt [(0, errIf (decide (8 < mx)) 8), firstAt (knotE HK.kn risingK r.hs) n0 0, firstAt (knotE CK.kn laterK r.cs) n1 0, firstAt (knotE DK.kn fallingK r.ds) n2 0, firstAt (knotE TK.kn laterK r.ts) n3 0, (0, clashK r), (0, hardE r.h0 r.h1 r.h2 r.h3)]).2] := h0
      go_simp
      exact ⟨Ext.refl _, rfl⟩
    · obtain ⟨h0, -⟩ := hs
      replace h0 : ρ (.tmp 42) = .tuple #[.int .i64 (firstFlt [(0, errIf (decide (8 < mx)) 8), firstAt (knotE HK.kn risingK r.hs) n0 0, firstAt (knotE CK.kn laterK r.cs) n1 0, firstAt (knotE DK.kn fallingK r.ds) n2 0, firstAt (knotE TK.kn laterK r.ts) n3 0, (0, clashK r), (0, hardE r.h0 r.h1 r.h2 r.h3)]).1, .int .i64 (firstFlt [(0, errIf (decide (8 < mx)) 8), firstAt (knotE HK.kn risingK r.hs) n0 0, firstAt (knotE CK.kn laterK r.cs) n1 0, firstAt (knotE DK.kn fallingK r.ds) n2 0, firstAt (knotE TK.kn laterK r.ts) n3 0, (0, clashK r), (0, hardE r.h0 r.h1 r.h2 r.h3)]).2] := h0
      go_simp
      exact ⟨Ext.refl _, rfl⟩
    · obtain ⟨h0, -⟩ := hs
      replace h0 : ρ (.tmp 43) = .int .i64 ((firstFlt [(0, errIf (decide (8 < mx)) 8), firstAt (knotE HK.kn risingK r.hs) n0 0, firstAt (knotE CK.kn laterK r.cs) n1 0, firstAt (knotE DK.kn fallingK r.ds) n2 0, firstAt (knotE TK.kn laterK r.ts) n3 0, (0, clashK r), (0, hardE r.h0 r.h1 r.h2 r.h3)]).1) := h0
      go_simp
      exact ⟨Ext.refl _, rfl⟩
    · obtain ⟨h0, -⟩ := hs
      replace h0 : ρ (.tmp 44) = .int .i64 ((firstFlt [(0, errIf (decide (8 < mx)) 8), firstAt (knotE HK.kn risingK r.hs) n0 0, firstAt (knotE CK.kn laterK r.cs) n1 0, firstAt (knotE DK.kn fallingK r.ds) n2 0, firstAt (knotE TK.kn laterK r.ts) n3 0, (0, clashK r), (0, hardE r.h0 r.h1 r.h2 r.h3)]).2) := h0
      go_simp
      exact ⟨Ext.refl _, rfl⟩
  · intro fv W hF hs
    obtain ⟨-, -, -, -, -, -, -, -, -, -, -, -, -, -, -, -, -, -, -, -, -, -, -, -, -, -, -, h2, h3, -⟩ := hs
    replace h2 : fv 2 = .int .i64 ((firstFlt [(0, errIf (decide (8 < mx)) 8), firstAt (knotE HK.kn risingK r.hs) n0 0, firstAt (knotE CK.kn laterK r.cs) n1 0, firstAt (knotE DK.kn fallingK r.ds) n2 0, firstAt (knotE TK.kn laterK r.ts) n3 0, (0, clashK r), (0, hardE r.h0 r.h1 r.h2 r.h3)]).1) := h2
    replace h3 : fv 3 = .int .i64 ((firstFlt [(0, errIf (decide (8 < mx)) 8), firstAt (knotE HK.kn risingK r.hs) n0 0, firstAt (knotE CK.kn laterK r.cs) n1 0, firstAt (knotE DK.kn fallingK r.ds) n2 0, firstAt (knotE TK.kn laterK r.ts) n3 0, (0, clashK r), (0, hardE r.h0 r.h1 r.h2 r.h3)]).2) := h3
    simp only [fin, List.filterMap]
    go_simp
    go_wp2
    rw [HL.out]
    go_ret2
    exact ⟨rfl, E0.out.trans hF⟩

end Go.Proofs.YtkmekbafjnlfkaaGreat
