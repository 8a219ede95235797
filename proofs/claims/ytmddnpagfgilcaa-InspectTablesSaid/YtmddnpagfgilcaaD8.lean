/- InspectTables. -/
import Derived.Test.YtmddnpagfgilcaaG7
import Derived.Lib.MinMax

namespace Go.Proofs.Ytmddnpagfgilcaa
open Go.RowKit Go.Shelf Go.Mem Go.RegInv
attribute [local go_sem] RelUpon_value RelUpon_skip RelUpon_enter BigFrame.eval_const BigFrame.eval_global BigFrame.eval_func


theorem missE_in {f0 f1 a b : Int} (h : withinB a f0 f1 = false ∨ withinB b f0 f1 = false) : missE f0 f1 a b = 6 := by
  unfold missE rangeE errIf outB
  rw [withinB_eq, withinB_eq] at h
  simp only [decide_eq_false_iff_not] at h
  have : ([a, b].any fun v => decide (v < f0) || decide (f1 < v)) = true := by
    simp only [List.any_cons, List.any_nil, Bool.or_false, Bool.or_eq_true, decide_eq_true_eq]
    omega
  simp [this]
theorem missE_ok {f0 f1 a b : Int} (h1 : withinB a f0 f1 = true) (h2 : withinB b f0 f1 = true) : missE f0 f1 a b = 0 := by
  rw [withinB_eq] at h1 h2
  have h1 := of_decide_eq_true h1
  have h2 := of_decide_eq_true h2
  unfold missE
  rw [rangeE_ok (fun v hv => by
      simp only [List.mem_cons, List.not_mem_nil, or_false] at hv
      rcases hv with rfl | rfl
      · exact h1
      · exact h2)]
  rfl

set_option maxRecDepth 100000 in
set_option maxHeartbeats 8000000 in
theorem tables_bad {A : Option Addr} {n ca : Nat} {xs : List Kn} {w : World} (a b : Int) (hn : xs.length = n) (hr : RowsAt 3 Kn.enc w A xs) (hnil : A = none → ca = 0) (h14 : n ≤ 14) (hz : (checkX xs).2 ≠ 0) : Calls Try.prog 5 #[.agg #[.slice A n ca], .agg #[.int .i64 a, .int .i64 b]] w fun e w' => e = .returned (.bool true) ∧ Ext w w' := by
  have HFW := Lib.hid (fun W => show Calls Try.prog 33 #[.agg #[.slice A n ca]] W fun e w' => e = .returned (.bool true) ∧ Ext W w' from by
    have := fewKnots_any (A := A) (n := n) (ca := ca) W
    rw [show decide ((n : Int) ≤ 14) = true by simp; omega] at this
    exact this)
  have HCP := Lib.hid (fun W (e : Ext w W) => copyTable_any (ca := ca) hn (hr.ext e) (by omega) hnil)
  have HCT := Lib.hid (fun W A c (h : RowsAt 3 Kn.enc W A xs) => show Calls Try.prog 34 #[.agg #[.slice A n c]] W fun e w' => e = .returned (.tuple #[.int .i64 (checkX xs).1, .int .i64 (checkX xs).2]) ∧ Ext W w' from by
    have := checkTable_any (ca := c) hn h
  
    exact this)
  have HRT := Lib.hid (fun W (e : Ext w W) => show Calls Try.prog 37 #[.agg #[.slice A n ca]] W fun e w' => e = .returned (.tuple #[.int .i64 (checkX xs).1, .int .i64 (checkX xs).2]) ∧ Ext W w' from by
    have := refTable_any (ca := ca) hn (by omega) (hr.ext e)
  
    exact this)
  have HCV := Lib.hid (fun W A c (h : RowsAt 3 Kn.enc W A xs) => show Calls Try.prog 36 #[.agg #[.slice A n c], .agg #[.int .i64 a, .int .i64 b]] W fun e w' => e = .returned (.tuple #[.agg #[.int .i64 0, .int .i64 0], .int .i64 (checkX xs).2]) ∧ Ext W w' from by
    have hc : convE xs a b = (checkX xs).2 := by simp [convE, firstE, hz]
    have := convertedOf_bad (ca := c) a b hn h (by rw [hc]; exact hz)
    rw [hc] at this
    exact this)

  clear hr hn hnil h14
  generalize (checkX xs).1 = ei at *
  generalize (checkX xs).2 = ez at *
  have hz1 : (ez == 0) = false := by simp [hz]
  have hz2 : (ez != 0) = true := by simp [hz]
  clear hz
  have P0 := Lib.hid (show Blk ((w.alloc (.cells #[.slice A n ca] 64)).alloc (.cells #[.int .i64 a, .int .i64 b] 41)) w.heap.size 64 #[.slice A n ca] from (Blk.new _ _ _).alloc _)
  have P1 := Lib.hid (show Blk ((w.alloc (.cells #[.slice A n ca] 64)).alloc (.cells #[.int .i64 a, .int .i64 b] 41)) (w.heap.size + 1) 41 #[.int .i64 a, .int .i64 b] from Blk.newAt _ _ _ (by simp))
  go_enter Try.func5, Try.ntmps5
  go_wp2_with (go_at_call 13; refine (awake_any _).mono ?_; rintro e W1 ⟨rfl, hx⟩; have X := Lib.hid (((Ext.alloc _ _).trans (Ext.alloc _ _)).trans hx); have K0 := Lib.hid (P0.out.ext hx); have K1 := Lib.hid (P1.out.ext hx); clear hx; refine Hid.out ?_)
  refine Lib.hid ?_
  clear P0 P1
  have y0 : W1.cell? ⟨w.heap.size, 0, none⟩ = some (.slice A n ca) := K0.out.cell 0
  have y1 : W1.cell? ⟨w.heap.size + 1, 0, none⟩ = some (.int .i64 a) := K1.out.cell 0
  have y2 : W1.cell? ⟨w.heap.size + 1, 1, none⟩ = some (.int .i64 b) := K1.out.cell 1
  go_wp2_with (go_at_call 33; refine (HFW.out _).mono ?_; rintro e W2 ⟨rfl, hx⟩; have X := Lib.hid (X.out.trans hx); have K0 := Lib.hid (K0.out.ext hx); have K1 := Lib.hid (K1.out.ext hx); clear hx y0 y1 y2; refine Hid.out ?_)
  refine Lib.hid ?_
  have y0 : W2.cell? ⟨w.heap.size, 0, none⟩ = some (.slice A n ca) := K0.out.cell 0
  have y1 : W2.cell? ⟨w.heap.size + 1, 0, none⟩ = some (.int .i64 a) := K1.out.cell 0
  have y2 : W2.cell? ⟨w.heap.size + 1, 1, none⟩ = some (.int .i64 b) := K1.out.cell 1
  go_wp2_with (go_at_call 35; refine (HCP.out _ X.out).mono ?_; rintro e W3 ⟨A2, c2, rfl, hr2, -, hx⟩; have X := Lib.hid (X.out.trans hx); have K0 := Lib.hid (K0.out.ext hx); have K1 := Lib.hid (K1.out.ext hx); have R2 := Lib.hid hr2; clear hx hr2 y0 y1 y2; refine Hid.out ?_)
  refine Lib.hid ?_
  have y0 : W3.cell? ⟨w.heap.size, 0, none⟩ = some (.slice A n ca) := K0.out.cell 0
  have y1 : W3.cell? ⟨w.heap.size + 1, 0, none⟩ = some (.int .i64 a) := K1.out.cell 0
  have y2 : W3.cell? ⟨w.heap.size + 1, 1, none⟩ = some (.int .i64 b) := K1.out.cell 1
  go_wp2_with (go_at_call 34; refine (HCT.out _ _ _ R2.out).mono ?_; rintro e W4 ⟨rfl, hx⟩; have X := Lib.hid (X.out.trans hx); have K0 := Lib.hid (K0.out.ext hx); have K1 := Lib.hid (K1.out.ext hx); clear R2; clear hx y0 y1 y2; refine Hid.out ?_)
  refine Lib.hid ?_
  have y0 : W4.cell? ⟨w.heap.size, 0, none⟩ = some (.slice A n ca) := K0.out.cell 0
  have y1 : W4.cell? ⟨w.heap.size + 1, 0, none⟩ = some (.int .i64 a) := K1.out.cell 0
  have y2 : W4.cell? ⟨w.heap.size + 1, 1, none⟩ = some (.int .i64 b) := K1.out.cell 1
  go_wp2
  refine wp_region_free [.op, .op, .op, .op, .op, .op, .late (.int .i64 (ez)), .new, .store, .late (.int .i64 (ez))] [8] [7, 27] [7] [some 23, some 24, some 25, some 26, some 22, some 27, some 28, some 7, none, some 8] [[2], [23], [3], [24, 25], [26], [22], [22], [], [7, 27], [28]]
    [Is (.agg #[.slice A n ca]), TabC n xs, Is (.agg #[.int .i64 a, .int .i64 b]), Is (.tuple #[.agg #[.int .i64 0, .int .i64 0], .int .i64 ez]), Is (.tuple #[.agg #[.int .i64 0, .int .i64 0], .int .i64 ez]), Is (.agg #[.int .i64 0, .int .i64 0]), Is (.int .i64 (ez)), NewP W4.heap.size 41 #[.int .i64 0, .int .i64 0], fun _ _ => True, Is (.int .i64 (ez))]
    (by kernel_rfl) (by kernel_rfl) (by kernel_rfl) (by kernel_rfl) (by kernel_rfl) (by kernel_rfl) (by kernel_rfl) (by kernel_rfl) (by kernel_rfl) Ext (fun W => Ext W4 W)
    (fun W _ => Ext.refl W) (fun W W' h k => h.trans k) (fun W W' h => h.size) ?_ (Ext.drew _) ?_ ?_
  · repeat (refine ⟨fun _ _ _ _ k h => (by first | exact h | exact (by first | exact IntsAt.ext h k | exact NewP.ext h k | exact TabC.ext h k)), ?_⟩)
    exact trivial
  · refine ⟨?_, ?_, ?_, ?_, ?_, ?_, ?_, ?_, ?_, trivial⟩
    · intro ρ W ⟨kc, kg, kf⟩ hF hs
      obtain ⟨h0, -⟩ := hs
      replace h0 : ρ (.tmp 2) = .pointer (some ⟨w.heap.size, 0, none⟩) := h0
      have hc0 : W.cell? ⟨w.heap.size, 0, none⟩ = some (.slice A n ca) := hF.cell (by assumption)
      go_simp
      exact ⟨Ext.refl _, rfl⟩
    · intro ρ W ⟨kc, kg, kf⟩ hF hs
      obtain ⟨h0, -⟩ := hs
      replace h0 : ρ (.tmp 23) = .agg #[.slice A n ca] := h0
      go_simp
      refine (HCP.out _ (X.out.trans hF)).mono ?_; rintro e w' ⟨A2, c2, rfl, hr2, -, hx⟩; exact ⟨_, rfl, hx, A2, c2, rfl, hr2⟩
    · intro ρ W ⟨kc, kg, kf⟩ hF hs
      obtain ⟨h0, -⟩ := hs
      replace h0 : ρ (.tmp 3) = .pointer (some ⟨w.heap.size + 1, 0, none⟩) := h0
      have hc0 : W.cell? ⟨w.heap.size + 1, 0, none⟩ = some (.int .i64 (a)) := hF.cell (by assumption)
      have hc1 : W.cell? ⟨w.heap.size + 1, 1, none⟩ = some (.int .i64 (b)) := hF.cell (by assumption)
      go_simp
      exact ⟨Ext.refl _, rfl⟩
    · intro ρ W ⟨kc, kg, kf⟩ hF hs
      obtain ⟨h0, h1, -⟩ := hs
      replace h0 : (TabC n xs) (ρ (.tmp 24)) W := h0
      replace h1 : ρ (.tmp 25) = .agg #[.int .i64 a, .int .i64 b] := h1
      obtain ⟨A2, c2, hv, hr2⟩ := h0
      have hv2 : ρ (.tmp 24) = .agg #[.slice A2 n c2] := hv
      clear hv
      go_simp
      refine (HCV.out _ _ _ hr2).mono ?_; rintro e w' ⟨rfl, hx⟩; exact ⟨_, rfl, hx, rfl⟩
    · intro ρ W ⟨kc, kg, kf⟩ hF hs
      obtain ⟨h0, -⟩ := hs
      replace h0 : ρ (.tmp 26) = .tuple #[.agg #[.int .i64 0, .int .i64 0], .int .i64 ez] := h0
      go_simp
      exact ⟨Ext.refl _, rfl⟩
    · intro ρ W ⟨kc, kg, kf⟩ hF hs
      obtain ⟨h0, -⟩ := hs
      replace h0 : ρ (.tmp 22) = .tuple #[.agg #[.int .i64 0, .int .i64 0], .int .i64 ez] := h0
      go_simp
      exact ⟨Ext.refl _, rfl⟩
    · refine ⟨rfl, fun ρ W ⟨kc, kg, kf⟩ hF hs W' => ?_⟩
      obtain ⟨h0, -⟩ := hs
      replace h0 : ρ (.tmp 22) = .tuple #[.agg #[.int .i64 0, .int .i64 0], .int .i64 ez] := h0
      go_simp
    · intro ρ W ⟨kc, kg, kf⟩ hF hs
      exact ⟨W.alloc (.cells #[.int .i64 0, .int .i64 0] 41), (by go_simp), by simp, Ext.alloc _ _, _, rfl, hF.size, Blk.new _ _ _⟩
    · refine ⟨rfl, fun ρ W ⟨kc, kg, kf⟩ hF hs W' => ?_⟩
      obtain ⟨h0, -⟩ := hs
      replace h0 : ρ (.tmp 28) = .int .i64 (ez) := h0
      go_simp
  · intro fv U hF hs hap σ hσ ρ ⟨kc, kg, kf⟩ hr
    obtain ⟨-, -, -, -, -, h27, h28, h7, h8, -⟩ := hs
    replace h27 : fv 27 = .agg #[.int .i64 0, .int .i64 0] := h27
    replace h28 : fv 28 = .int .i64 (ez) := h28
    replace h7 : (NewP W4.heap.size 41 #[.int .i64 0, .int .i64 0]) (fv 7) U := h7
    replace h8 : fv 8 = .int .i64 (ez) := h8
    obtain ⟨r0, r1, -⟩ := hr
    replace r0 : ρ (.tmp 7) = fv 7 := r0
    replace r1 : ρ (.tmp 27) = .agg #[.int .i64 0, .int .i64 0] := r1.trans h27
    obtain ⟨q7, hq7, hqs7, hb7⟩ := h7
    rw [hq7] at r0
    have f7_0 := hb7.free 0
    have c7_0 : U.cell? ⟨q7, 0, none⟩ = some (.int .i64 0) := hb7.cell 0
    have f7_1 := hb7.free 1
    have c7_1 : U.cell? ⟨q7, 1, none⟩ = some (.int .i64 0) := hb7.cell 1
    refine stores_one _ rfl hσ ((U.setCell ⟨q7, 0, none⟩ (.int .i64 0)).setCell ⟨q7, 1, none⟩ (.int .i64 0)) (by go_simp) ?_
    obtain ⟨W5, hW5⟩ : ∃ Vx, Vx = (U.setCell ⟨q7, 0, none⟩ (.int .i64 0)).setCell ⟨q7, 1, none⟩ (.int .i64 0) := ⟨_, rfl⟩
    rw [← hW5]
    have K7 := Lib.hid (show Blk W5 q7 41 #[.int .i64 0, .int .i64 0] by rw [hW5]; exact (hb7.setSame 0 _).setSame 1 _)
    have XN := Lib.hid (show Ext W4 W5 by rw [hW5]; exact Ext.set (Ext.set hF (by dsimp only; exact hqs7) _) (by dsimp only; exact hqs7) _)
    have L7 := Lib.hid hqs7
    clear f7_0 c7_0 f7_1 c7_1
    clear hW5 hF hap hσ r0 r1 kc kg kf hb7 hqs7
    simp only [fin, List.filterMap]
    go_simp
    try rw [hq7]
    clear hq7
    clear ρ σ h27 h28 h8
    have X := Lib.hid (X.out.trans XN.out)
    have K0 := Lib.hid (K0.out.ext XN.out)
    have K1 := Lib.hid (K1.out.ext XN.out)
    clear XN y0 y1 y2 L7
    have y0 : W5.cell? ⟨w.heap.size, 0, none⟩ = some (.slice A n ca) := K0.out.cell 0
    have y1 : W5.cell? ⟨w.heap.size + 1, 0, none⟩ = some (.int .i64 a) := K1.out.cell 0
    have y2 : W5.cell? ⟨w.heap.size + 1, 1, none⟩ = some (.int .i64 b) := K1.out.cell 1
    go_wp2_with (go_at_call 37; refine (HRT.out _ X.out).mono ?_; rintro e W6 ⟨rfl, hx⟩; have X := Lib.hid (X.out.trans hx); have K0 := Lib.hid (K0.out.ext hx); have K1 := Lib.hid (K1.out.ext hx); have K7 := Lib.hid (K7.out.ext hx); clear hx y0 y1 y2; refine Hid.out ?_)
    refine Lib.hid ?_
    have y0 : W6.cell? ⟨w.heap.size, 0, none⟩ = some (.slice A n ca) := K0.out.cell 0
    have y1 : W6.cell? ⟨w.heap.size + 1, 0, none⟩ = some (.int .i64 a) := K1.out.cell 0
    have y2 : W6.cell? ⟨w.heap.size + 1, 1, none⟩ = some (.int .i64 b) := K1.out.cell 1
    have z0 : W6.cell? ⟨q7, 0, none⟩ = some (.int .i64 0) := K7.out.cell 0
    have z1 : W6.cell? ⟨q7, 1, none⟩ = some (.int .i64 0) := K7.out.cell 1
    go_wp2
    go_ret
    exact ⟨rfl, X.out⟩

set_option maxRecDepth 100000 in
set_option maxHeartbeats 8000000 in
theorem tables_ends {A : Option Addr} {n ca : Nat} {xs : List Kn} {w : World} (a b : Int) (hn : xs.length = n) (hr : RowsAt 3 Kn.enc w A xs) (hnil : A = none → ca = 0) (hz : (checkX xs).2 = 0) (he : endsE a b ≠ 0) : Calls Try.prog 5 #[.agg #[.slice A n ca], .agg #[.int .i64 a, .int .i64 b]] w fun e w' => e = .returned (.bool true) ∧ Ext w w' := by
  obtain ⟨m2, m12, -, -⟩ := checkX_ok hz
  rw [hn] at m2 m12
  have HFW := Lib.hid (fun W => show Calls Try.prog 33 #[.agg #[.slice A n ca]] W fun e w' => e = .returned (.bool true) ∧ Ext W w' from by
    have := fewKnots_any (A := A) (n := n) (ca := ca) W
    rw [show decide ((n : Int) ≤ 14) = true by simp; omega] at this
    exact this)
  have HCP := Lib.hid (fun W (e : Ext w W) => copyTable_any (ca := ca) hn (hr.ext e) (by omega) hnil)
  have HCT := Lib.hid (fun W A c (h : RowsAt 3 Kn.enc W A xs) => show Calls Try.prog 34 #[.agg #[.slice A n c]] W fun e w' => e = .returned (.tuple #[.int .i64 (checkX xs).1, .int .i64 0]) ∧ Ext W w' from by
    have := checkTable_any (ca := c) hn h
    rw [hz] at this
    exact this)
  have HRT := Lib.hid (fun W (e : Ext w W) => show Calls Try.prog 37 #[.agg #[.slice A n ca]] W fun e w' => e = .returned (.tuple #[.int .i64 (checkX xs).1, .int .i64 0]) ∧ Ext W w' from by
    have := refTable_any (ca := ca) hn (by omega) (hr.ext e)
    rw [hz] at this
    exact this)
  have HCV := Lib.hid (fun W A c (h : RowsAt 3 Kn.enc W A xs) => show Calls Try.prog 36 #[.agg #[.slice A n c], .agg #[.int .i64 a, .int .i64 b]] W fun e w' => e = .returned (.tuple #[.agg #[.int .i64 0, .int .i64 0], .int .i64 (endsE a b)]) ∧ Ext W w' from by
    have hc : convE xs a b = endsE a b := by simp [convE, firstE, hz, he]
    have := convertedOf_bad (ca := c) a b hn h (by rw [hc]; exact he)
    rw [hc] at this
    exact this)

  have HRE := Lib.hid (fun W => refRangeErr_any a b W)
  clear hr hn hnil hz m2 m12
  generalize (checkX xs).1 = ei at *
  generalize endsE a b = ez at *
  have hz1 : (ez == 0) = false := by simp [he]
  have hz2 : (ez != 0) = true := by simp [he]
  clear he
  have P0 := Lib.hid (show Blk ((w.alloc (.cells #[.slice A n ca] 64)).alloc (.cells #[.int .i64 a, .int .i64 b] 41)) w.heap.size 64 #[.slice A n ca] from (Blk.new _ _ _).alloc _)
  have P1 := Lib.hid (show Blk ((w.alloc (.cells #[.slice A n ca] 64)).alloc (.cells #[.int .i64 a, .int .i64 b] 41)) (w.heap.size + 1) 41 #[.int .i64 a, .int .i64 b] from Blk.newAt _ _ _ (by simp))
  go_enter Try.func5, Try.ntmps5
  go_wp2_with (go_at_call 13; refine (awake_any _).mono ?_; rintro e W1 ⟨rfl, hx⟩; have X := Lib.hid (((Ext.alloc _ _).trans (Ext.alloc _ _)).trans hx); have K0 := Lib.hid (P0.out.ext hx); have K1 := Lib.hid (P1.out.ext hx); clear hx; refine Hid.out ?_)
  refine Lib.hid ?_
  clear P0 P1
  have y0 : W1.cell? ⟨w.heap.size, 0, none⟩ = some (.slice A n ca) := K0.out.cell 0
  have y1 : W1.cell? ⟨w.heap.size + 1, 0, none⟩ = some (.int .i64 a) := K1.out.cell 0
  have y2 : W1.cell? ⟨w.heap.size + 1, 1, none⟩ = some (.int .i64 b) := K1.out.cell 1
  go_wp2_with (go_at_call 33; refine (HFW.out _).mono ?_; rintro e W2 ⟨rfl, hx⟩; have X := Lib.hid (X.out.trans hx); have K0 := Lib.hid (K0.out.ext hx); have K1 := Lib.hid (K1.out.ext hx); clear hx y0 y1 y2; refine Hid.out ?_)
  refine Lib.hid ?_
  have y0 : W2.cell? ⟨w.heap.size, 0, none⟩ = some (.slice A n ca) := K0.out.cell 0
  have y1 : W2.cell? ⟨w.heap.size + 1, 0, none⟩ = some (.int .i64 a) := K1.out.cell 0
  have y2 : W2.cell? ⟨w.heap.size + 1, 1, none⟩ = some (.int .i64 b) := K1.out.cell 1
  go_wp2_with (go_at_call 35; refine (HCP.out _ X.out).mono ?_; rintro e W3 ⟨A2, c2, rfl, hr2, -, hx⟩; have X := Lib.hid (X.out.trans hx); have K0 := Lib.hid (K0.out.ext hx); have K1 := Lib.hid (K1.out.ext hx); have R2 := Lib.hid hr2; clear hx hr2 y0 y1 y2; refine Hid.out ?_)
  refine Lib.hid ?_
  have y0 : W3.cell? ⟨w.heap.size, 0, none⟩ = some (.slice A n ca) := K0.out.cell 0
  have y1 : W3.cell? ⟨w.heap.size + 1, 0, none⟩ = some (.int .i64 a) := K1.out.cell 0
  have y2 : W3.cell? ⟨w.heap.size + 1, 1, none⟩ = some (.int .i64 b) := K1.out.cell 1
  go_wp2_with (go_at_call 34; refine (HCT.out _ _ _ R2.out).mono ?_; rintro e W4 ⟨rfl, hx⟩; have X := Lib.hid (X.out.trans hx); have K0 := Lib.hid (K0.out.ext hx); have K1 := Lib.hid (K1.out.ext hx); clear R2; clear hx y0 y1 y2; refine Hid.out ?_)
  refine Lib.hid ?_
  have y0 : W4.cell? ⟨w.heap.size, 0, none⟩ = some (.slice A n ca) := K0.out.cell 0
  have y1 : W4.cell? ⟨w.heap.size + 1, 0, none⟩ = some (.int .i64 a) := K1.out.cell 0
  have y2 : W4.cell? ⟨w.heap.size + 1, 1, none⟩ = some (.int .i64 b) := K1.out.cell 1
  go_wp2
  refine wp_region_free [.op, .op, .op, .op, .op, .op, .late (.int .i64 (ez)), .new, .store, .late (.int .i64 (ez))] [8] [7, 27] [7] [some 23, some 24, some 25, some 26, some 22, some 27, some 28, some 7, none, some 8] [[2], [23], [3], [24, 25], [26], [22], [22], [], [7, 27], [28]]
    [Is (.agg #[.slice A n ca]), TabC n xs, Is (.agg #[.int .i64 a, .int .i64 b]), Is (.tuple #[.agg #[.int .i64 0, .int .i64 0], .int .i64 ez]), Is (.tuple #[.agg #[.int .i64 0, .int .i64 0], .int .i64 ez]), Is (.agg #[.int .i64 0, .int .i64 0]), Is (.int .i64 (ez)), NewP W4.heap.size 41 #[.int .i64 0, .int .i64 0], fun _ _ => True, Is (.int .i64 (ez))]
    (by kernel_rfl) (by kernel_rfl) (by kernel_rfl) (by kernel_rfl) (by kernel_rfl) (by kernel_rfl) (by kernel_rfl) (by kernel_rfl) (by kernel_rfl) Ext (fun W => Ext W4 W)
    (fun W _ => Ext.refl W) (fun W W' h k => h.trans k) (fun W W' h => h.size) ?_ (Ext.drew _) ?_ ?_
  · repeat (refine ⟨fun _ _ _ _ k h => (by first | exact h | exact (by first | exact IntsAt.ext h k | exact NewP.ext h k | exact TabC.ext h k)), ?_⟩)
    exact trivial
  · refine ⟨?_, ?_, ?_, ?_, ?_, ?_, ?_, ?_, ?_, trivial⟩
    · intro ρ W ⟨kc, kg, kf⟩ hF hs
      obtain ⟨h0, -⟩ := hs
      replace h0 : ρ (.tmp 2) = .pointer (some ⟨w.heap.size, 0, none⟩) := h0
      have hc0 : W.cell? ⟨w.heap.size, 0, none⟩ = some (.slice A n ca) := hF.cell (by assumption)
      go_simp
      exact ⟨Ext.refl _, rfl⟩
    · intro ρ W ⟨kc, kg, kf⟩ hF hs
      obtain ⟨h0, -⟩ := hs
      replace h0 : ρ (.tmp 23) = .agg #[.slice A n ca] := h0
      go_simp
      refine (HCP.out _ (X.out.trans hF)).mono ?_; rintro e w' ⟨A2, c2, rfl, hr2, -, hx⟩; exact ⟨_, rfl, hx, A2, c2, rfl, hr2⟩
    · intro ρ W ⟨kc, kg, kf⟩ hF hs
      obtain ⟨h0, -⟩ := hs
      replace h0 : ρ (.tmp 3) = .pointer (some ⟨w.heap.size + 1, 0, none⟩) := h0
      have hc0 : W.cell? ⟨w.heap.size + 1, 0, none⟩ = some (.int .i64 (a)) := hF.cell (by assumption)
      have hc1 : W.cell? ⟨w.heap.size + 1, 1, none⟩ = some (.int .i64 (b)) := hF.cell (by assumption)
      go_simp
      exact ⟨Ext.refl _, rfl⟩
    · intro ρ W ⟨kc, kg, kf⟩ hF hs
      obtain ⟨h0, h1, -⟩ := hs
      replace h0 : (TabC n xs) (ρ (.tmp 24)) W := h0
      replace h1 : ρ (.tmp 25) = .agg #[.int .i64 a, .int .i64 b] := h1
      obtain ⟨A2, c2, hv, hr2⟩ := h0
      have hv2 : ρ (.tmp 24) = .agg #[.slice A2 n c2] := hv
      clear hv
      go_simp
      refine (HCV.out _ _ _ hr2).mono ?_; rintro e w' ⟨rfl, hx⟩; exact ⟨_, rfl, hx, rfl⟩
    · intro ρ W ⟨kc, kg, kf⟩ hF hs
      obtain ⟨h0, -⟩ := hs
      replace h0 : ρ (.tmp 26) = .tuple #[.agg #[.int .i64 0, .int .i64 0], .int .i64 ez] := h0
      go_simp
      exact ⟨Ext.refl _, rfl⟩
    · intro ρ W ⟨kc, kg, kf⟩ hF hs
      obtain ⟨h0, -⟩ := hs
      replace h0 : ρ (.tmp 22) = .tuple #[.agg #[.int .i64 0, .int .i64 0], .int .i64 ez] := h0
      go_simp
      exact ⟨Ext.refl _, rfl⟩
    · refine ⟨rfl, fun ρ W ⟨kc, kg, kf⟩ hF hs W' => ?_⟩
      obtain ⟨h0, -⟩ := hs
      replace h0 : ρ (.tmp 22) = .tuple #[.agg #[.int .i64 0, .int .i64 0], .int .i64 ez] := h0
      go_simp
    · intro ρ W ⟨kc, kg, kf⟩ hF hs
      exact ⟨W.alloc (.cells #[.int .i64 0, .int .i64 0] 41), (by go_simp), by simp, Ext.alloc _ _, _, rfl, hF.size, Blk.new _ _ _⟩
    · refine ⟨rfl, fun ρ W ⟨kc, kg, kf⟩ hF hs W' => ?_⟩
      obtain ⟨h0, -⟩ := hs
      replace h0 : ρ (.tmp 28) = .int .i64 (ez) := h0
      go_simp
  · intro fv U hF hs hap σ hσ ρ ⟨kc, kg, kf⟩ hr
    obtain ⟨-, -, -, -, -, h27, h28, h7, h8, -⟩ := hs
    replace h27 : fv 27 = .agg #[.int .i64 0, .int .i64 0] := h27
    replace h28 : fv 28 = .int .i64 (ez) := h28
    replace h7 : (NewP W4.heap.size 41 #[.int .i64 0, .int .i64 0]) (fv 7) U := h7
    replace h8 : fv 8 = .int .i64 (ez) := h8
    obtain ⟨r0, r1, -⟩ := hr
    replace r0 : ρ (.tmp 7) = fv 7 := r0
    replace r1 : ρ (.tmp 27) = .agg #[.int .i64 0, .int .i64 0] := r1.trans h27
    obtain ⟨q7, hq7, hqs7, hb7⟩ := h7
    rw [hq7] at r0
    have f7_0 := hb7.free 0
    have c7_0 : U.cell? ⟨q7, 0, none⟩ = some (.int .i64 0) := hb7.cell 0
    have f7_1 := hb7.free 1
    have c7_1 : U.cell? ⟨q7, 1, none⟩ = some (.int .i64 0) := hb7.cell 1
    refine stores_one _ rfl hσ ((U.setCell ⟨q7, 0, none⟩ (.int .i64 0)).setCell ⟨q7, 1, none⟩ (.int .i64 0)) (by go_simp) ?_
    obtain ⟨W5, hW5⟩ : ∃ Vx, Vx = (U.setCell ⟨q7, 0, none⟩ (.int .i64 0)).setCell ⟨q7, 1, none⟩ (.int .i64 0) := ⟨_, rfl⟩
    rw [← hW5]
    have K7 := Lib.hid (show Blk W5 q7 41 #[.int .i64 0, .int .i64 0] by rw [hW5]; exact (hb7.setSame 0 _).setSame 1 _)
    have XN := Lib.hid (show Ext W4 W5 by rw [hW5]; exact Ext.set (Ext.set hF (by dsimp only; exact hqs7) _) (by dsimp only; exact hqs7) _)
    have L7 := Lib.hid hqs7
    clear f7_0 c7_0 f7_1 c7_1
    clear hW5 hF hap hσ r0 r1 kc kg kf hb7 hqs7
    simp only [fin, List.filterMap]
    go_simp
    try rw [hq7]
    clear hq7
    clear ρ σ h27 h28 h8
    have X := Lib.hid (X.out.trans XN.out)
    have K0 := Lib.hid (K0.out.ext XN.out)
    have K1 := Lib.hid (K1.out.ext XN.out)
    clear XN y0 y1 y2 L7
    have y0 : W5.cell? ⟨w.heap.size, 0, none⟩ = some (.slice A n ca) := K0.out.cell 0
    have y1 : W5.cell? ⟨w.heap.size + 1, 0, none⟩ = some (.int .i64 a) := K1.out.cell 0
    have y2 : W5.cell? ⟨w.heap.size + 1, 1, none⟩ = some (.int .i64 b) := K1.out.cell 1
    go_wp2_with (go_at_call 37; refine (HRT.out _ X.out).mono ?_; rintro e W6 ⟨rfl, hx⟩; have X := Lib.hid (X.out.trans hx); have K0 := Lib.hid (K0.out.ext hx); have K1 := Lib.hid (K1.out.ext hx); have K7 := Lib.hid (K7.out.ext hx); clear hx y0 y1 y2; refine Hid.out ?_)
    refine Lib.hid ?_
    have y0 : W6.cell? ⟨w.heap.size, 0, none⟩ = some (.slice A n ca) := K0.out.cell 0
    have y1 : W6.cell? ⟨w.heap.size + 1, 0, none⟩ = some (.int .i64 a) := K1.out.cell 0
    have y2 : W6.cell? ⟨w.heap.size + 1, 1, none⟩ = some (.int .i64 b) := K1.out.cell 1
    go_wp2_with (go_at_call 38; refine (HRE.out _).mono ?_; rintro e W7 ⟨rfl, hx⟩; have X := Lib.hid (X.out.trans hx); have K0 := Lib.hid (K0.out.ext hx); have K1 := Lib.hid (K1.out.ext hx); have K7 := Lib.hid (K7.out.ext hx); clear hx y0 y1 y2; refine Hid.out ?_)
    refine Lib.hid ?_
    have y0 : W7.cell? ⟨w.heap.size, 0, none⟩ = some (.slice A n ca) := K0.out.cell 0
    have y1 : W7.cell? ⟨w.heap.size + 1, 0, none⟩ = some (.int .i64 a) := K1.out.cell 0
    have y2 : W7.cell? ⟨w.heap.size + 1, 1, none⟩ = some (.int .i64 b) := K1.out.cell 1
    have z0 : W7.cell? ⟨q7, 0, none⟩ = some (.int .i64 0) := K7.out.cell 0
    have z1 : W7.cell? ⟨q7, 1, none⟩ = some (.int .i64 0) := K7.out.cell 1
    go_wp2
    go_ret
    exact ⟨rfl, X.out⟩

set_option maxRecDepth 100000 in
set_option maxHeartbeats 8000000 in
theorem tables_missA {A : Option Addr} {n ca : Nat} {xs : List Kn} {w : World} (a b : Int) (hn : xs.length = n) (hr : RowsAt 3 Kn.enc w A xs) (hnil : A = none → ca = 0) (hz : (checkX xs).2 = 0) (he : endsE a b = 0) (h1 : withinB a (xs.getD 0 default).f (xs.getD (n - 1) default).f = false) : Calls Try.prog 5 #[.agg #[.slice A n ca], .agg #[.int .i64 a, .int .i64 b]] w fun e w' => e = .returned (.bool true) ∧ Ext w w' := by
  obtain ⟨m2, m12, -, -⟩ := checkX_ok hz
  rw [hn] at m2 m12
  have HFW := Lib.hid (fun W => show Calls Try.prog 33 #[.agg #[.slice A n ca]] W fun e w' => e = .returned (.bool true) ∧ Ext W w' from by
    have := fewKnots_any (A := A) (n := n) (ca := ca) W
    rw [show decide ((n : Int) ≤ 14) = true by simp; omega] at this
    exact this)
  have HCP := Lib.hid (fun W (e : Ext w W) => copyTable_any (ca := ca) hn (hr.ext e) (by omega) hnil)
  have HCT := Lib.hid (fun W A c (h : RowsAt 3 Kn.enc W A xs) => show Calls Try.prog 34 #[.agg #[.slice A n c]] W fun e w' => e = .returned (.tuple #[.int .i64 (checkX xs).1, .int .i64 0]) ∧ Ext W w' from by
    have := checkTable_any (ca := c) hn h
    rw [hz] at this
    exact this)
  have HRT := Lib.hid (fun W (e : Ext w W) => show Calls Try.prog 37 #[.agg #[.slice A n ca]] W fun e w' => e = .returned (.tuple #[.int .i64 (checkX xs).1, .int .i64 0]) ∧ Ext W w' from by
    have := refTable_any (ca := ca) hn (by omega) (hr.ext e)
    rw [hz] at this
    exact this)
  have HCV := Lib.hid (fun W A c (h : RowsAt 3 Kn.enc W A xs) => show Calls Try.prog 36 #[.agg #[.slice A n c], .agg #[.int .i64 a, .int .i64 b]] W fun e w' => e = .returned (.tuple #[.agg #[.int .i64 0, .int .i64 0], .int .i64 6]) ∧ Ext W w' from by
    exact convertedOf_miss (ca := c) a b hn h (by simp [convE, firstE, hz, he]) (missE_in (Or.inl h1)))

  have HRE := Lib.hid (fun W => show Calls Try.prog 38 #[.agg #[.int .i64 a, .int .i64 b]] W fun e w' => e = .returned (.int .i64 0) ∧ Ext W w' from by
    have := refRangeErr_any a b W
    rw [he] at this
    exact this)
  have HI1 := Lib.hid (fun W (e : Ext w W) => show Calls Try.prog 39 #[.agg #[.slice A n ca], .int .i64 a] W fun e w' => e = .returned (.bool false) ∧ Ext W w' from by
    have := refIsIn_any (ca := ca) a hn (hr.ext e) (getK (xs := xs) (i := 0) (by omega)) (getK (xs := xs) (i := n - 1) (by omega))
    rw [h1] at this
    exact this)
  clear hr hn hnil hz m2 m12 he h1
  generalize (checkX xs).1 = ei at *

  have P0 := Lib.hid (show Blk ((w.alloc (.cells #[.slice A n ca] 64)).alloc (.cells #[.int .i64 a, .int .i64 b] 41)) w.heap.size 64 #[.slice A n ca] from (Blk.new _ _ _).alloc _)
  have P1 := Lib.hid (show Blk ((w.alloc (.cells #[.slice A n ca] 64)).alloc (.cells #[.int .i64 a, .int .i64 b] 41)) (w.heap.size + 1) 41 #[.int .i64 a, .int .i64 b] from Blk.newAt _ _ _ (by simp))
  go_enter Try.func5, Try.ntmps5
  go_wp2_with (go_at_call 13; refine (awake_any _).mono ?_; rintro e W1 ⟨rfl, hx⟩; have X := Lib.hid (((Ext.alloc _ _).trans (Ext.alloc _ _)).trans hx); have K0 := Lib.hid (P0.out.ext hx); have K1 := Lib.hid (P1.out.ext hx); clear hx; refine Hid.out ?_)
  refine Lib.hid ?_
  clear P0 P1
  have y0 : W1.cell? ⟨w.heap.size, 0, none⟩ = some (.slice A n ca) := K0.out.cell 0
  have y1 : W1.cell? ⟨w.heap.size + 1, 0, none⟩ = some (.int .i64 a) := K1.out.cell 0
  have y2 : W1.cell? ⟨w.heap.size + 1, 1, none⟩ = some (.int .i64 b) := K1.out.cell 1
  go_wp2_with (go_at_call 33; refine (HFW.out _).mono ?_; rintro e W2 ⟨rfl, hx⟩; have X := Lib.hid (X.out.trans hx); have K0 := Lib.hid (K0.out.ext hx); have K1 := Lib.hid (K1.out.ext hx); clear hx y0 y1 y2; refine Hid.out ?_)
  refine Lib.hid ?_
  have y0 : W2.cell? ⟨w.heap.size, 0, none⟩ = some (.slice A n ca) := K0.out.cell 0
  have y1 : W2.cell? ⟨w.heap.size + 1, 0, none⟩ = some (.int .i64 a) := K1.out.cell 0
  have y2 : W2.cell? ⟨w.heap.size + 1, 1, none⟩ = some (.int .i64 b) := K1.out.cell 1
  go_wp2_with (go_at_call 35; refine (HCP.out _ X.out).mono ?_; rintro e W3 ⟨A2, c2, rfl, hr2, -, hx⟩; have X := Lib.hid (X.out.trans hx); have K0 := Lib.hid (K0.out.ext hx); have K1 := Lib.hid (K1.out.ext hx); have R2 := Lib.hid hr2; clear hx hr2 y0 y1 y2; refine Hid.out ?_)
  refine Lib.hid ?_
  have y0 : W3.cell? ⟨w.heap.size, 0, none⟩ = some (.slice A n ca) := K0.out.cell 0
  have y1 : W3.cell? ⟨w.heap.size + 1, 0, none⟩ = some (.int .i64 a) := K1.out.cell 0
  have y2 : W3.cell? ⟨w.heap.size + 1, 1, none⟩ = some (.int .i64 b) := K1.out.cell 1
  go_wp2_with (go_at_call 34; refine (HCT.out _ _ _ R2.out).mono ?_; rintro e W4 ⟨rfl, hx⟩; have X := Lib.hid (X.out.trans hx); have K0 := Lib.hid (K0.out.ext hx); have K1 := Lib.hid (K1.out.ext hx); clear R2; clear hx y0 y1 y2; refine Hid.out ?_)
  refine Lib.hid ?_
  have y0 : W4.cell? ⟨w.heap.size, 0, none⟩ = some (.slice A n ca) := K0.out.cell 0
  have y1 : W4.cell? ⟨w.heap.size + 1, 0, none⟩ = some (.int .i64 a) := K1.out.cell 0
  have y2 : W4.cell? ⟨w.heap.size + 1, 1, none⟩ = some (.int .i64 b) := K1.out.cell 1
  go_wp2
  refine wp_region_free [.op, .op, .op, .op, .op, .op, .late (.int .i64 (6)), .new, .store, .late (.int .i64 (6))] [8] [7, 27] [7] [some 23, some 24, some 25, some 26, some 22, some 27, some 28, some 7, none, some 8] [[2], [23], [3], [24, 25], [26], [22], [22], [], [7, 27], [28]]
    [Is (.agg #[.slice A n ca]), TabC n xs, Is (.agg #[.int .i64 a, .int .i64 b]), Is (.tuple #[.agg #[.int .i64 0, .int .i64 0], .int .i64 6]), Is (.tuple #[.agg #[.int .i64 0, .int .i64 0], .int .i64 6]), Is (.agg #[.int .i64 0, .int .i64 0]), Is (.int .i64 (6)), NewP W4.heap.size 41 #[.int .i64 0, .int .i64 0], fun _ _ => True, Is (.int .i64 (6))]
    (by kernel_rfl) (by kernel_rfl) (by kernel_rfl) (by kernel_rfl) (by kernel_rfl) (by kernel_rfl) (by kernel_rfl) (by kernel_rfl) (by kernel_rfl) Ext (fun W => Ext W4 W)
    (fun W _ => Ext.refl W) (fun W W' h k => h.trans k) (fun W W' h => h.size) ?_ (Ext.drew _) ?_ ?_
  · repeat (refine ⟨fun _ _ _ _ k h => (by first | exact h | exact (by first | exact IntsAt.ext h k | exact NewP.ext h k | exact TabC.ext h k)), ?_⟩)
    exact trivial
  · refine ⟨?_, ?_, ?_, ?_, ?_, ?_, ?_, ?_, ?_, trivial⟩
    · intro ρ W ⟨kc, kg, kf⟩ hF hs
      obtain ⟨h0, -⟩ := hs
      replace h0 : ρ (.tmp 2) = .pointer (some ⟨w.heap.size, 0, none⟩) := h0
      have hc0 : W.cell? ⟨w.heap.size, 0, none⟩ = some (.slice A n ca) := hF.cell (by assumption)
      go_simp
      exact ⟨Ext.refl _, rfl⟩
    · intro ρ W ⟨kc, kg, kf⟩ hF hs
      obtain ⟨h0, -⟩ := hs
      replace h0 : ρ (.tmp 23) = .agg #[.slice A n ca] := h0
      go_simp
      refine (HCP.out _ (X.out.trans hF)).mono ?_; rintro e w' ⟨A2, c2, rfl, hr2, -, hx⟩; exact ⟨_, rfl, hx, A2, c2, rfl, hr2⟩
    · intro ρ W ⟨kc, kg, kf⟩ hF hs
      obtain ⟨h0, -⟩ := hs
      replace h0 : ρ (.tmp 3) = .pointer (some ⟨w.heap.size + 1, 0, none⟩) := h0
      have hc0 : W.cell? ⟨w.heap.size + 1, 0, none⟩ = some (.int .i64 (a)) := hF.cell (by assumption)
      have hc1 : W.cell? ⟨w.heap.size + 1, 1, none⟩ = some (.int .i64 (b)) := hF.cell (by assumption)
      go_simp
      exact ⟨Ext.refl _, rfl⟩
    · intro ρ W ⟨kc, kg, kf⟩ hF hs
      obtain ⟨h0, h1, -⟩ := hs
      replace h0 : (TabC n xs) (ρ (.tmp 24)) W := h0
      replace h1 : ρ (.tmp 25) = .agg #[.int .i64 a, .int .i64 b] := h1
      obtain ⟨A2, c2, hv, hr2⟩ := h0
      have hv2 : ρ (.tmp 24) = .agg #[.slice A2 n c2] := hv
      clear hv
      go_simp
      refine (HCV.out _ _ _ hr2).mono ?_; rintro e w' ⟨rfl, hx⟩; exact ⟨_, rfl, hx, rfl⟩
    · intro ρ W ⟨kc, kg, kf⟩ hF hs
      obtain ⟨h0, -⟩ := hs
      replace h0 : ρ (.tmp 26) = .tuple #[.agg #[.int .i64 0, .int .i64 0], .int .i64 6] := h0
      go_simp
      exact ⟨Ext.refl _, rfl⟩
    · intro ρ W ⟨kc, kg, kf⟩ hF hs
      obtain ⟨h0, -⟩ := hs
      replace h0 : ρ (.tmp 22) = .tuple #[.agg #[.int .i64 0, .int .i64 0], .int .i64 6] := h0
      go_simp
      exact ⟨Ext.refl _, rfl⟩
    · refine ⟨rfl, fun ρ W ⟨kc, kg, kf⟩ hF hs W' => ?_⟩
      obtain ⟨h0, -⟩ := hs
      replace h0 : ρ (.tmp 22) = .tuple #[.agg #[.int .i64 0, .int .i64 0], .int .i64 6] := h0
      go_simp
    · intro ρ W ⟨kc, kg, kf⟩ hF hs
      exact ⟨W.alloc (.cells #[.int .i64 0, .int .i64 0] 41), (by go_simp), by simp, Ext.alloc _ _, _, rfl, hF.size, Blk.new _ _ _⟩
    · refine ⟨rfl, fun ρ W ⟨kc, kg, kf⟩ hF hs W' => ?_⟩
      obtain ⟨h0, -⟩ := hs
      replace h0 : ρ (.tmp 28) = .int .i64 (6) := h0
      go_simp
  · intro fv U hF hs hap σ hσ ρ ⟨kc, kg, kf⟩ hr
    obtain ⟨-, -, -, -, -, h27, h28, h7, h8, -⟩ := hs
    replace h27 : fv 27 = .agg #[.int .i64 0, .int .i64 0] := h27
    replace h28 : fv 28 = .int .i64 (6) := h28
    replace h7 : (NewP W4.heap.size 41 #[.int .i64 0, .int .i64 0]) (fv 7) U := h7
    replace h8 : fv 8 = .int .i64 (6) := h8
    obtain ⟨r0, r1, -⟩ := hr
    replace r0 : ρ (.tmp 7) = fv 7 := r0
    replace r1 : ρ (.tmp 27) = .agg #[.int .i64 0, .int .i64 0] := r1.trans h27
    obtain ⟨q7, hq7, hqs7, hb7⟩ := h7
    rw [hq7] at r0
    have f7_0 := hb7.free 0
    have c7_0 : U.cell? ⟨q7, 0, none⟩ = some (.int .i64 0) := hb7.cell 0
    have f7_1 := hb7.free 1
    have c7_1 : U.cell? ⟨q7, 1, none⟩ = some (.int .i64 0) := hb7.cell 1
    refine stores_one _ rfl hσ ((U.setCell ⟨q7, 0, none⟩ (.int .i64 0)).setCell ⟨q7, 1, none⟩ (.int .i64 0)) (by go_simp) ?_
    obtain ⟨W5, hW5⟩ : ∃ Vx, Vx = (U.setCell ⟨q7, 0, none⟩ (.int .i64 0)).setCell ⟨q7, 1, none⟩ (.int .i64 0) := ⟨_, rfl⟩
    rw [← hW5]
    have K7 := Lib.hid (show Blk W5 q7 41 #[.int .i64 0, .int .i64 0] by rw [hW5]; exact (hb7.setSame 0 _).setSame 1 _)
    have XN := Lib.hid (show Ext W4 W5 by rw [hW5]; exact Ext.set (Ext.set hF (by dsimp only; exact hqs7) _) (by dsimp only; exact hqs7) _)
    have L7 := Lib.hid hqs7
    clear f7_0 c7_0 f7_1 c7_1
    clear hW5 hF hap hσ r0 r1 kc kg kf hb7 hqs7
    simp only [fin, List.filterMap]
    go_simp
    try rw [hq7]
    clear hq7
    clear ρ σ h27 h28 h8
    have X := Lib.hid (X.out.trans XN.out)
    have K0 := Lib.hid (K0.out.ext XN.out)
    have K1 := Lib.hid (K1.out.ext XN.out)
    clear XN y0 y1 y2 L7
    have y0 : W5.cell? ⟨w.heap.size, 0, none⟩ = some (.slice A n ca) := K0.out.cell 0
    have y1 : W5.cell? ⟨w.heap.size + 1, 0, none⟩ = some (.int .i64 a) := K1.out.cell 0
    have y2 : W5.cell? ⟨w.heap.size + 1, 1, none⟩ = some (.int .i64 b) := K1.out.cell 1
    go_wp2_with (go_at_call 37; refine (HRT.out _ X.out).mono ?_; rintro e W6 ⟨rfl, hx⟩; have X := Lib.hid (X.out.trans hx); have K0 := Lib.hid (K0.out.ext hx); have K1 := Lib.hid (K1.out.ext hx); have K7 := Lib.hid (K7.out.ext hx); clear hx y0 y1 y2; refine Hid.out ?_)
    refine Lib.hid ?_
    have y0 : W6.cell? ⟨w.heap.size, 0, none⟩ = some (.slice A n ca) := K0.out.cell 0
    have y1 : W6.cell? ⟨w.heap.size + 1, 0, none⟩ = some (.int .i64 a) := K1.out.cell 0
    have y2 : W6.cell? ⟨w.heap.size + 1, 1, none⟩ = some (.int .i64 b) := K1.out.cell 1
    go_wp2_with (go_at_call 38; refine (HRE.out _).mono ?_; rintro e W7 ⟨rfl, hx⟩; have X := Lib.hid (X.out.trans hx); have K0 := Lib.hid (K0.out.ext hx); have K1 := Lib.hid (K1.out.ext hx); have K7 := Lib.hid (K7.out.ext hx); clear hx y0 y1 y2; refine Hid.out ?_)
    refine Lib.hid ?_
    have y0 : W7.cell? ⟨w.heap.size, 0, none⟩ = some (.slice A n ca) := K0.out.cell 0
    have y1 : W7.cell? ⟨w.heap.size + 1, 0, none⟩ = some (.int .i64 a) := K1.out.cell 0
    have y2 : W7.cell? ⟨w.heap.size + 1, 1, none⟩ = some (.int .i64 b) := K1.out.cell 1
    go_wp2_with (go_at_call 39; refine (HI1.out _ X.out).mono ?_; rintro e W8 ⟨rfl, hx⟩; have X := Lib.hid (X.out.trans hx); have K0 := Lib.hid (K0.out.ext hx); have K1 := Lib.hid (K1.out.ext hx); have K7 := Lib.hid (K7.out.ext hx); clear hx y0 y1 y2; refine Hid.out ?_)
    refine Lib.hid ?_
    have y0 : W8.cell? ⟨w.heap.size, 0, none⟩ = some (.slice A n ca) := K0.out.cell 0
    have y1 : W8.cell? ⟨w.heap.size + 1, 0, none⟩ = some (.int .i64 a) := K1.out.cell 0
    have y2 : W8.cell? ⟨w.heap.size + 1, 1, none⟩ = some (.int .i64 b) := K1.out.cell 1
    have z0 : W8.cell? ⟨q7, 0, none⟩ = some (.int .i64 0) := K7.out.cell 0
    have z1 : W8.cell? ⟨q7, 1, none⟩ = some (.int .i64 0) := K7.out.cell 1
    go_wp2
    go_ret
    exact ⟨rfl, X.out⟩

set_option maxRecDepth 100000 in
set_option maxHeartbeats 8000000 in
theorem tables_missB {A : Option Addr} {n ca : Nat} {xs : List Kn} {w : World} (a b : Int) (hn : xs.length = n) (hr : RowsAt 3 Kn.enc w A xs) (hnil : A = none → ca = 0) (hz : (checkX xs).2 = 0) (he : endsE a b = 0) (h1 : withinB a (xs.getD 0 default).f (xs.getD (n - 1) default).f = true) (h2 : withinB b (xs.getD 0 default).f (xs.getD (n - 1) default).f = false) : Calls Try.prog 5 #[.agg #[.slice A n ca], .agg #[.int .i64 a, .int .i64 b]] w fun e w' => e = .returned (.bool true) ∧ Ext w w' := by
  obtain ⟨m2, m12, -, -⟩ := checkX_ok hz
  rw [hn] at m2 m12
  have HFW := Lib.hid (fun W => show Calls Try.prog 33 #[.agg #[.slice A n ca]] W fun e w' => e = .returned (.bool true) ∧ Ext W w' from by
    have := fewKnots_any (A := A) (n := n) (ca := ca) W
    rw [show decide ((n : Int) ≤ 14) = true by simp; omega] at this
    exact this)
  have HCP := Lib.hid (fun W (e : Ext w W) => copyTable_any (ca := ca) hn (hr.ext e) (by omega) hnil)
  have HCT := Lib.hid (fun W A c (h : RowsAt 3 Kn.enc W A xs) => show Calls Try.prog 34 #[.agg #[.slice A n c]] W fun e w' => e = .returned (.tuple #[.int .i64 (checkX xs).1, .int .i64 0]) ∧ Ext W w' from by
    have := checkTable_any (ca := c) hn h
    rw [hz] at this
    exact this)
  have HRT := Lib.hid (fun W (e : Ext w W) => show Calls Try.prog 37 #[.agg #[.slice A n ca]] W fun e w' => e = .returned (.tuple #[.int .i64 (checkX xs).1, .int .i64 0]) ∧ Ext W w' from by
    have := refTable_any (ca := ca) hn (by omega) (hr.ext e)
    rw [hz] at this
    exact this)
  have HCV := Lib.hid (fun W A c (h : RowsAt 3 Kn.enc W A xs) => show Calls Try.prog 36 #[.agg #[.slice A n c], .agg #[.int .i64 a, .int .i64 b]] W fun e w' => e = .returned (.tuple #[.agg #[.int .i64 0, .int .i64 0], .int .i64 6]) ∧ Ext W w' from by
    exact convertedOf_miss (ca := c) a b hn h (by simp [convE, firstE, hz, he]) (missE_in (Or.inr h2)))

  have HRE := Lib.hid (fun W => show Calls Try.prog 38 #[.agg #[.int .i64 a, .int .i64 b]] W fun e w' => e = .returned (.int .i64 0) ∧ Ext W w' from by
    have := refRangeErr_any a b W
    rw [he] at this
    exact this)
  have HI1 := Lib.hid (fun W (e : Ext w W) => show Calls Try.prog 39 #[.agg #[.slice A n ca], .int .i64 a] W fun e w' => e = .returned (.bool true) ∧ Ext W w' from by
    have := refIsIn_any (ca := ca) a hn (hr.ext e) (getK (xs := xs) (i := 0) (by omega)) (getK (xs := xs) (i := n - 1) (by omega))
    rw [h1] at this
    exact this)
  have HI2 := Lib.hid (fun W (e : Ext w W) => show Calls Try.prog 39 #[.agg #[.slice A n ca], .int .i64 b] W fun e w' => e = .returned (.bool false) ∧ Ext W w' from by
    have := refIsIn_any (ca := ca) b hn (hr.ext e) (getK (xs := xs) (i := 0) (by omega)) (getK (xs := xs) (i := n - 1) (by omega))
    rw [h2] at this
    exact this)
  clear hr hn hnil hz m2 m12 he h1 h2
  generalize (checkX xs).1 = ei at *

  have P0 := Lib.hid (show Blk ((w.alloc (.cells #[.slice A n ca] 64)).alloc (.cells #[.int .i64 a, .int .i64 b] 41)) w.heap.size 64 #[.slice A n ca] from (Blk.new _ _ _).alloc _)
  have P1 := Lib.hid (show Blk ((w.alloc (.cells #[.slice A n ca] 64)).alloc (.cells #[.int .i64 a, .int .i64 b] 41)) (w.heap.size + 1) 41 #[.int .i64 a, .int .i64 b] from Blk.newAt _ _ _ (by simp))
  go_enter Try.func5, Try.ntmps5
  go_wp2_with (go_at_call 13; refine (awake_any _).mono ?_; rintro e W1 ⟨rfl, hx⟩; have X := Lib.hid (((Ext.alloc _ _).trans (Ext.alloc _ _)).trans hx); have K0 := Lib.hid (P0.out.ext hx); have K1 := Lib.hid (P1.out.ext hx); clear hx; refine Hid.out ?_)
  refine Lib.hid ?_
  clear P0 P1
  have y0 : W1.cell? ⟨w.heap.size, 0, none⟩ = some (.slice A n ca) := K0.out.cell 0
  have y1 : W1.cell? ⟨w.heap.size + 1, 0, none⟩ = some (.int .i64 a) := K1.out.cell 0
  have y2 : W1.cell? ⟨w.heap.size + 1, 1, none⟩ = some (.int .i64 b) := K1.out.cell 1
  go_wp2_with (go_at_call 33; refine (HFW.out _).mono ?_; rintro e W2 ⟨rfl, hx⟩; have X := Lib.hid (X.out.trans hx); have K0 := Lib.hid (K0.out.ext hx); have K1 := Lib.hid (K1.out.ext hx); clear hx y0 y1 y2; refine Hid.out ?_)
  refine Lib.hid ?_
  have y0 : W2.cell? ⟨w.heap.size, 0, none⟩ = some (.slice A n ca) := K0.out.cell 0
  have y1 : W2.cell? ⟨w.heap.size + 1, 0, none⟩ = some (.int .i64 a) := K1.out.cell 0
  have y2 : W2.cell? ⟨w.heap.size + 1, 1, none⟩ = some (.int .i64 b) := K1.out.cell 1
  go_wp2_with (go_at_call 35; refine (HCP.out _ X.out).mono ?_; rintro e W3 ⟨A2, c2, rfl, hr2, -, hx⟩; have X := Lib.hid (X.out.trans hx); have K0 := Lib.hid (K0.out.ext hx); have K1 := Lib.hid (K1.out.ext hx); have R2 := Lib.hid hr2; clear hx hr2 y0 y1 y2; refine Hid.out ?_)
  refine Lib.hid ?_
  have y0 : W3.cell? ⟨w.heap.size, 0, none⟩ = some (.slice A n ca) := K0.out.cell 0
  have y1 : W3.cell? ⟨w.heap.size + 1, 0, none⟩ = some (.int .i64 a) := K1.out.cell 0
  have y2 : W3.cell? ⟨w.heap.size + 1, 1, none⟩ = some (.int .i64 b) := K1.out.cell 1
  go_wp2_with (go_at_call 34; refine (HCT.out _ _ _ R2.out).mono ?_; rintro e W4 ⟨rfl, hx⟩; have X := Lib.hid (X.out.trans hx); have K0 := Lib.hid (K0.out.ext hx); have K1 := Lib.hid (K1.out.ext hx); clear R2; clear hx y0 y1 y2; refine Hid.out ?_)
  refine Lib.hid ?_
  have y0 : W4.cell? ⟨w.heap.size, 0, none⟩ = some (.slice A n ca) := K0.out.cell 0
  have y1 : W4.cell? ⟨w.heap.size + 1, 0, none⟩ = some (.int .i64 a) := K1.out.cell 0
  have y2 : W4.cell? ⟨w.heap.size + 1, 1, none⟩ = some (.int .i64 b) := K1.out.cell 1
  go_wp2
  refine wp_region_free [.op, .op, .op, .op, .op, .op, .late (.int .i64 (6)), .new, .store, .late (.int .i64 (6))] [8] [7, 27] [7] [some 23, some 24, some 25, some 26, some 22, some 27, some 28, some 7, none, some 8] [[2], [23], [3], [24, 25], [26], [22], [22], [], [7, 27], [28]]
    [Is (.agg #[.slice A n ca]), TabC n xs, Is (.agg #[.int .i64 a, .int .i64 b]), Is (.tuple #[.agg #[.int .i64 0, .int .i64 0], .int .i64 6]), Is (.tuple #[.agg #[.int .i64 0, .int .i64 0], .int .i64 6]), Is (.agg #[.int .i64 0, .int .i64 0]), Is (.int .i64 (6)), NewP W4.heap.size 41 #[.int .i64 0, .int .i64 0], fun _ _ => True, Is (.int .i64 (6))]
    (by kernel_rfl) (by kernel_rfl) (by kernel_rfl) (by kernel_rfl) (by kernel_rfl) (by kernel_rfl) (by kernel_rfl) (by kernel_rfl) (by kernel_rfl) Ext (fun W => Ext W4 W)
    (fun W _ => Ext.refl W) (fun W W' h k => h.trans k) (fun W W' h => h.size) ?_ (Ext.drew _) ?_ ?_
  · repeat (refine ⟨fun _ _ _ _ k h => (by first | exact h | exact (by first | exact IntsAt.ext h k | exact NewP.ext h k | exact TabC.ext h k)), ?_⟩)
    exact trivial
  · refine ⟨?_, ?_, ?_, ?_, ?_, ?_, ?_, ?_, ?_, trivial⟩
    · intro ρ W ⟨kc, kg, kf⟩ hF hs
      obtain ⟨h0, -⟩ := hs
      replace h0 : ρ (.tmp 2) = .pointer (some ⟨w.heap.size, 0, none⟩) := h0
      have hc0 : W.cell? ⟨w.heap.size, 0, none⟩ = some (.slice A n ca) := hF.cell (by assumption)
      go_simp
      exact ⟨Ext.refl _, rfl⟩
    · intro ρ W ⟨kc, kg, kf⟩ hF hs
      obtain ⟨h0, -⟩ := hs
      replace h0 : ρ (.tmp 23) = .agg #[.slice A n ca] := h0
      go_simp
      refine (HCP.out _ (X.out.trans hF)).mono ?_; rintro e w' ⟨A2, c2, rfl, hr2, -, hx⟩; exact ⟨_, rfl, hx, A2, c2, rfl, hr2⟩
    · intro ρ W ⟨kc, kg, kf⟩ hF hs
      obtain ⟨h0, -⟩ := hs
      replace h0 : ρ (.tmp 3) = .pointer (some ⟨w.heap.size + 1, 0, none⟩) := h0
      have hc0 : W.cell? ⟨w.heap.size + 1, 0, none⟩ = some (.int .i64 (a)) := hF.cell (by assumption)
      have hc1 : W.cell? ⟨w.heap.size + 1, 1, none⟩ = some (.int .i64 (b)) := hF.cell (by assumption)
      go_simp
      exact ⟨Ext.refl _, rfl⟩
    · intro ρ W ⟨kc, kg, kf⟩ hF hs
      obtain ⟨h0, h1, -⟩ := hs
      replace h0 : (TabC n xs) (ρ (.tmp 24)) W := h0
      replace h1 : ρ (.tmp 25) = .agg #[.int .i64 a, .int .i64 b] := h1
      obtain ⟨A2, c2, hv, hr2⟩ := h0
      have hv2 : ρ (.tmp 24) = .agg #[.slice A2 n c2] := hv
      clear hv
      go_simp
      refine (HCV.out _ _ _ hr2).mono ?_; rintro e w' ⟨rfl, hx⟩; exact ⟨_, rfl, hx, rfl⟩
    · intro ρ W ⟨kc, kg, kf⟩ hF hs
      obtain ⟨h0, -⟩ := hs
      replace h0 : ρ (.tmp 26) = .tuple #[.agg #[.int .i64 0, .int .i64 0], .int .i64 6] := h0
      go_simp
      exact ⟨Ext.refl _, rfl⟩
    · intro ρ W ⟨kc, kg, kf⟩ hF hs
      obtain ⟨h0, -⟩ := hs
      replace h0 : ρ (.tmp 22) = .tuple #[.agg #[.int .i64 0, .int .i64 0], .int .i64 6] := h0
      go_simp
      exact ⟨Ext.refl _, rfl⟩
    · refine ⟨rfl, fun ρ W ⟨kc, kg, kf⟩ hF hs W' => ?_⟩
      obtain ⟨h0, -⟩ := hs
      replace h0 : ρ (.tmp 22) = .tuple #[.agg #[.int .i64 0, .int .i64 0], .int .i64 6] := h0
      go_simp
    · intro ρ W ⟨kc, kg, kf⟩ hF hs
      exact ⟨W.alloc (.cells #[.int .i64 0, .int .i64 0] 41), (by go_simp), by simp, Ext.alloc _ _, _, rfl, hF.size, Blk.new _ _ _⟩
    · refine ⟨rfl, fun ρ W ⟨kc, kg, kf⟩ hF hs W' => ?_⟩
      obtain ⟨h0, -⟩ := hs
      replace h0 : ρ (.tmp 28) = .int .i64 (6) := h0
      go_simp
  · intro fv U hF hs hap σ hσ ρ ⟨kc, kg, kf⟩ hr
    obtain ⟨-, -, -, -, -, h27, h28, h7, h8, -⟩ := hs
    replace h27 : fv 27 = .agg #[.int .i64 0, .int .i64 0] := h27
    replace h28 : fv 28 = .int .i64 (6) := h28
    replace h7 : (NewP W4.heap.size 41 #[.int .i64 0, .int .i64 0]) (fv 7) U := h7
    replace h8 : fv 8 = .int .i64 (6) := h8
    obtain ⟨r0, r1, -⟩ := hr
    replace r0 : ρ (.tmp 7) = fv 7 := r0
    replace r1 : ρ (.tmp 27) = .agg #[.int .i64 0, .int .i64 0] := r1.trans h27
    obtain ⟨q7, hq7, hqs7, hb7⟩ := h7
    rw [hq7] at r0
    have f7_0 := hb7.free 0
    have c7_0 : U.cell? ⟨q7, 0, none⟩ = some (.int .i64 0) := hb7.cell 0
    have f7_1 := hb7.free 1
    have c7_1 : U.cell? ⟨q7, 1, none⟩ = some (.int .i64 0) := hb7.cell 1
    refine stores_one _ rfl hσ ((U.setCell ⟨q7, 0, none⟩ (.int .i64 0)).setCell ⟨q7, 1, none⟩ (.int .i64 0)) (by go_simp) ?_
    obtain ⟨W5, hW5⟩ : ∃ Vx, Vx = (U.setCell ⟨q7, 0, none⟩ (.int .i64 0)).setCell ⟨q7, 1, none⟩ (.int .i64 0) := ⟨_, rfl⟩
    rw [← hW5]
    have K7 := Lib.hid (show Blk W5 q7 41 #[.int .i64 0, .int .i64 0] by rw [hW5]; exact (hb7.setSame 0 _).setSame 1 _)
    have XN := Lib.hid (show Ext W4 W5 by rw [hW5]; exact Ext.set (Ext.set hF (by dsimp only; exact hqs7) _) (by dsimp only; exact hqs7) _)
    have L7 := Lib.hid hqs7
    clear f7_0 c7_0 f7_1 c7_1
    clear hW5 hF hap hσ r0 r1 kc kg kf hb7 hqs7
    simp only [fin, List.filterMap]
    go_simp
    try rw [hq7]
    clear hq7
    clear ρ σ h27 h28 h8
    have X := Lib.hid (X.out.trans XN.out)
    have K0 := Lib.hid (K0.out.ext XN.out)
    have K1 := Lib.hid (K1.out.ext XN.out)
    clear XN y0 y1 y2 L7
    have y0 : W5.cell? ⟨w.heap.size, 0, none⟩ = some (.slice A n ca) := K0.out.cell 0
    have y1 : W5.cell? ⟨w.heap.size + 1, 0, none⟩ = some (.int .i64 a) := K1.out.cell 0
    have y2 : W5.cell? ⟨w.heap.size + 1, 1, none⟩ = some (.int .i64 b) := K1.out.cell 1
    go_wp2_with (go_at_call 37; refine (HRT.out _ X.out).mono ?_; rintro e W6 ⟨rfl, hx⟩; have X := Lib.hid (X.out.trans hx); have K0 := Lib.hid (K0.out.ext hx); have K1 := Lib.hid (K1.out.ext hx); have K7 := Lib.hid (K7.out.ext hx); clear hx y0 y1 y2; refine Hid.out ?_)
    refine Lib.hid ?_
    have y0 : W6.cell? ⟨w.heap.size, 0, none⟩ = some (.slice A n ca) := K0.out.cell 0
    have y1 : W6.cell? ⟨w.heap.size + 1, 0, none⟩ = some (.int .i64 a) := K1.out.cell 0
    have y2 : W6.cell? ⟨w.heap.size + 1, 1, none⟩ = some (.int .i64 b) := K1.out.cell 1
    go_wp2_with (go_at_call 38; refine (HRE.out _).mono ?_; rintro e W7 ⟨rfl, hx⟩; have X := Lib.hid (X.out.trans hx); have K0 := Lib.hid (K0.out.ext hx); have K1 := Lib.hid (K1.out.ext hx); have K7 := Lib.hid (K7.out.ext hx); clear hx y0 y1 y2; refine Hid.out ?_)
    refine Lib.hid ?_
    have y0 : W7.cell? ⟨w.heap.size, 0, none⟩ = some (.slice A n ca) := K0.out.cell 0
    have y1 : W7.cell? ⟨w.heap.size + 1, 0, none⟩ = some (.int .i64 a) := K1.out.cell 0
    have y2 : W7.cell? ⟨w.heap.size + 1, 1, none⟩ = some (.int .i64 b) := K1.out.cell 1
    go_wp2_with (go_at_call 39; refine (HI1.out _ X.out).mono ?_; rintro e W8 ⟨rfl, hx⟩; have X := Lib.hid (X.out.trans hx); have K0 := Lib.hid (K0.out.ext hx); have K1 := Lib.hid (K1.out.ext hx); have K7 := Lib.hid (K7.out.ext hx); clear hx y0 y1 y2; refine Hid.out ?_)
    refine Lib.hid ?_
    have y0 : W8.cell? ⟨w.heap.size, 0, none⟩ = some (.slice A n ca) := K0.out.cell 0
    have y1 : W8.cell? ⟨w.heap.size + 1, 0, none⟩ = some (.int .i64 a) := K1.out.cell 0
    have y2 : W8.cell? ⟨w.heap.size + 1, 1, none⟩ = some (.int .i64 b) := K1.out.cell 1
    go_wp2_with (go_at_call 39; refine (HI2.out _ X.out).mono ?_; rintro e W9 ⟨rfl, hx⟩; have X := Lib.hid (X.out.trans hx); have K0 := Lib.hid (K0.out.ext hx); have K1 := Lib.hid (K1.out.ext hx); have K7 := Lib.hid (K7.out.ext hx); clear hx y0 y1 y2; refine Hid.out ?_)
    refine Lib.hid ?_
    have y0 : W9.cell? ⟨w.heap.size, 0, none⟩ = some (.slice A n ca) := K0.out.cell 0
    have y1 : W9.cell? ⟨w.heap.size + 1, 0, none⟩ = some (.int .i64 a) := K1.out.cell 0
    have y2 : W9.cell? ⟨w.heap.size + 1, 1, none⟩ = some (.int .i64 b) := K1.out.cell 1
    have z0 : W9.cell? ⟨q7, 0, none⟩ = some (.int .i64 0) := K7.out.cell 0
    have z1 : W9.cell? ⟨q7, 1, none⟩ = some (.int .i64 0) := K7.out.cell 1
    go_wp2
    go_ret
    exact ⟨rfl, X.out⟩

set_option maxRecDepth 100000 in
set_option maxHeartbeats 8000000 in
theorem tables_ok {A : Option Addr} {n ca : Nat} {xs : List Kn} {w : World} (a b : Int) (hn : xs.length = n) (hr : RowsAt 3 Kn.enc w A xs) (hnil : A = none → ca = 0) (hz : (checkX xs).2 = 0) (he : endsE a b = 0) (h1 : withinB a (xs.getD 0 default).f (xs.getD (n - 1) default).f = true) (h2 : withinB b (xs.getD 0 default).f (xs.getD (n - 1) default).f = true) : Calls Try.prog 5 #[.agg #[.slice A n ca], .agg #[.int .i64 a, .int .i64 b]] w fun e w' => e = .returned (.bool true) ∧ Ext w w' := by
  obtain ⟨m2, m12, -, -⟩ := checkX_ok hz
  rw [hn] at m2 m12
  have HFW := Lib.hid (fun W => show Calls Try.prog 33 #[.agg #[.slice A n ca]] W fun e w' => e = .returned (.bool true) ∧ Ext W w' from by
    have := fewKnots_any (A := A) (n := n) (ca := ca) W
    rw [show decide ((n : Int) ≤ 14) = true by simp; omega] at this
    exact this)
  have HCP := Lib.hid (fun W (e : Ext w W) => copyTable_any (ca := ca) hn (hr.ext e) (by omega) hnil)
  have HCT := Lib.hid (fun W A c (h : RowsAt 3 Kn.enc W A xs) => show Calls Try.prog 34 #[.agg #[.slice A n c]] W fun e w' => e = .returned (.tuple #[.int .i64 (checkX xs).1, .int .i64 0]) ∧ Ext W w' from by
    have := checkTable_any (ca := c) hn h
    rw [hz] at this
    exact this)
  have HRT := Lib.hid (fun W (e : Ext w W) => show Calls Try.prog 37 #[.agg #[.slice A n ca]] W fun e w' => e = .returned (.tuple #[.int .i64 (checkX xs).1, .int .i64 0]) ∧ Ext W w' from by
    have := refTable_any (ca := ca) hn (by omega) (hr.ext e)
    rw [hz] at this
    exact this)
  have HCV := Lib.hid (fun W A c (h : RowsAt 3 Kn.enc W A xs) => show Calls Try.prog 36 #[.agg #[.slice A n c], .agg #[.int .i64 a, .int .i64 b]] W fun e w' => e = .returned (.tuple #[.agg #[.int .i64 (convV xs a b).1, .int .i64 (convV xs a b).2], .int .i64 0]) ∧ Ext W w' from by
    exact convertedOf_ok (ca := c) a b hn h (by simp [convE, firstE, hz, he]) (missE_ok h1 h2))

  have HRE := Lib.hid (fun W => show Calls Try.prog 38 #[.agg #[.int .i64 a, .int .i64 b]] W fun e w' => e = .returned (.int .i64 0) ∧ Ext W w' from by
    have := refRangeErr_any a b W
    rw [he] at this
    exact this)
  have HI1 := Lib.hid (fun W (e : Ext w W) => show Calls Try.prog 39 #[.agg #[.slice A n ca], .int .i64 a] W fun e w' => e = .returned (.bool true) ∧ Ext W w' from by
    have := refIsIn_any (ca := ca) a hn (hr.ext e) (getK (xs := xs) (i := 0) (by omega)) (getK (xs := xs) (i := n - 1) (by omega))
    rw [h1] at this
    exact this)
  have HI2 := Lib.hid (fun W (e : Ext w W) => show Calls Try.prog 39 #[.agg #[.slice A n ca], .int .i64 b] W fun e w' => e = .returned (.bool true) ∧ Ext W w' from by
    have := refIsIn_any (ca := ca) b hn (hr.ext e) (getK (xs := xs) (i := 0) (by omega)) (getK (xs := xs) (i := n - 1) (by omega))
    rw [h2] at this
    exact this)
  have HRC := Lib.hid (fun W (e : Ext w W) => refConverted_any (ca := ca) a b hn (hr.ext e) hz (by rw [withinB_eq] at h1; exact of_decide_eq_true h1) (by rw [withinB_eq] at h2; exact of_decide_eq_true h2))
  clear hr hn hnil hz m2 m12 he h1 h2
  generalize (checkX xs).1 = ei at *
  generalize convV xs a b = cv at *

  have P0 := Lib.hid (show Blk ((w.alloc (.cells #[.slice A n ca] 64)).alloc (.cells #[.int .i64 a, .int .i64 b] 41)) w.heap.size 64 #[.slice A n ca] from (Blk.new _ _ _).alloc _)
  have P1 := Lib.hid (show Blk ((w.alloc (.cells #[.slice A n ca] 64)).alloc (.cells #[.int .i64 a, .int .i64 b] 41)) (w.heap.size + 1) 41 #[.int .i64 a, .int .i64 b] from Blk.newAt _ _ _ (by simp))
  go_enter Try.func5, Try.ntmps5
  go_wp2_with (go_at_call 13; refine (awake_any _).mono ?_; rintro e W1 ⟨rfl, hx⟩; have X := Lib.hid (((Ext.alloc _ _).trans (Ext.alloc _ _)).trans hx); have K0 := Lib.hid (P0.out.ext hx); have K1 := Lib.hid (P1.out.ext hx); clear hx; refine Hid.out ?_)
  refine Lib.hid ?_
  clear P0 P1
  have y0 : W1.cell? ⟨w.heap.size, 0, none⟩ = some (.slice A n ca) := K0.out.cell 0
  have y1 : W1.cell? ⟨w.heap.size + 1, 0, none⟩ = some (.int .i64 a) := K1.out.cell 0
  have y2 : W1.cell? ⟨w.heap.size + 1, 1, none⟩ = some (.int .i64 b) := K1.out.cell 1
  go_wp2_with (go_at_call 33; refine (HFW.out _).mono ?_; rintro e W2 ⟨rfl, hx⟩; have X := Lib.hid (X.out.trans hx); have K0 := Lib.hid (K0.out.ext hx); have K1 := Lib.hid (K1.out.ext hx); clear hx y0 y1 y2; refine Hid.out ?_)
  refine Lib.hid ?_
  have y0 : W2.cell? ⟨w.heap.size, 0, none⟩ = some (.slice A n ca) := K0.out.cell 0
  have y1 : W2.cell? ⟨w.heap.size + 1, 0, none⟩ = some (.int .i64 a) := K1.out.cell 0
  have y2 : W2.cell? ⟨w.heap.size + 1, 1, none⟩ = some (.int .i64 b) := K1.out.cell 1
  go_wp2_with (go_at_call 35; refine (HCP.out _ X.out).mono ?_; rintro e W3 ⟨A2, c2, rfl, hr2, -, hx⟩; have X := Lib.hid (X.out.trans hx); have K0 := Lib.hid (K0.out.ext hx); have K1 := Lib.hid (K1.out.ext hx); have R2 := Lib.hid hr2; clear hx hr2 y0 y1 y2; refine Hid.out ?_)
  refine Lib.hid ?_
  have y0 : W3.cell? ⟨w.heap.size, 0, none⟩ = some (.slice A n ca) := K0.out.cell 0
  have y1 : W3.cell? ⟨w.heap.size + 1, 0, none⟩ = some (.int .i64 a) := K1.out.cell 0
  have y2 : W3.cell? ⟨w.heap.size + 1, 1, none⟩ = some (.int .i64 b) := K1.out.cell 1
  go_wp2_with (go_at_call 34; refine (HCT.out _ _ _ R2.out).mono ?_; rintro e W4 ⟨rfl, hx⟩; have X := Lib.hid (X.out.trans hx); have K0 := Lib.hid (K0.out.ext hx); have K1 := Lib.hid (K1.out.ext hx); clear R2; clear hx y0 y1 y2; refine Hid.out ?_)
  refine Lib.hid ?_
  have y0 : W4.cell? ⟨w.heap.size, 0, none⟩ = some (.slice A n ca) := K0.out.cell 0
  have y1 : W4.cell? ⟨w.heap.size + 1, 0, none⟩ = some (.int .i64 a) := K1.out.cell 0
  have y2 : W4.cell? ⟨w.heap.size + 1, 1, none⟩ = some (.int .i64 b) := K1.out.cell 1
  go_wp2
  refine wp_region_free [.op, .op, .op, .op, .op, .op, .late (.int .i64 (0)), .new, .store, .late (.int .i64 (0))] [8] [7, 27] [7] [some 23, some 24, some 25, some 26, some 22, some 27, some 28, some 7, none, some 8] [[2], [23], [3], [24, 25], [26], [22], [22], [], [7, 27], [28]]
    [Is (.agg #[.slice A n ca]), TabC n xs, Is (.agg #[.int .i64 a, .int .i64 b]), Is (.tuple #[.agg #[.int .i64 cv.1, .int .i64 cv.2], .int .i64 0]), Is (.tuple #[.agg #[.int .i64 cv.1, .int .i64 cv.2], .int .i64 0]), Is (.agg #[.int .i64 cv.1, .int .i64 cv.2]), Is (.int .i64 (0)), NewP W4.heap.size 41 #[.int .i64 0, .int .i64 0], fun _ _ => True, Is (.int .i64 (0))]
    (by kernel_rfl) (by kernel_rfl) (by kernel_rfl) (by kernel_rfl) (by kernel_rfl) (by kernel_rfl) (by kernel_rfl) (by kernel_rfl) (by kernel_rfl) Ext (fun W => Ext W4 W)
    (fun W _ => Ext.refl W) (fun W W' h k => h.trans k) (fun W W' h => h.size) ?_ (Ext.drew _) ?_ ?_
  · repeat (refine ⟨fun _ _ _ _ k h => (by first | exact h | exact (by first | exact IntsAt.ext h k | exact NewP.ext h k | exact TabC.ext h k)), ?_⟩)
    exact trivial
  · refine ⟨?_, ?_, ?_, ?_, ?_, ?_, ?_, ?_, ?_, trivial⟩
    · intro ρ W ⟨kc, kg, kf⟩ hF hs
      obtain ⟨h0, -⟩ := hs
      replace h0 : ρ (.tmp 2) = .pointer (some ⟨w.heap.size, 0, none⟩) := h0
      have hc0 : W.cell? ⟨w.heap.size, 0, none⟩ = some (.slice A n ca) := hF.cell (by assumption)
      go_simp
      exact ⟨Ext.refl _, rfl⟩
    · intro ρ W ⟨kc, kg, kf⟩ hF hs
      obtain ⟨h0, -⟩ := hs
      replace h0 : ρ (.tmp 23) = .agg #[.slice A n ca] := h0
      go_simp
      refine (HCP.out _ (X.out.trans hF)).mono ?_; rintro e w' ⟨A2, c2, rfl, hr2, -, hx⟩; exact ⟨_, rfl, hx, A2, c2, rfl, hr2⟩
    · intro ρ W ⟨kc, kg, kf⟩ hF hs
      obtain ⟨h0, -⟩ := hs
      replace h0 : ρ (.tmp 3) = .pointer (some ⟨w.heap.size + 1, 0, none⟩) := h0
      have hc0 : W.cell? ⟨w.heap.size + 1, 0, none⟩ = some (.int .i64 (a)) := hF.cell (by assumption)
      have hc1 : W.cell? ⟨w.heap.size + 1, 1, none⟩ = some (.int .i64 (b)) := hF.cell (by assumption)
      go_simp
      exact ⟨Ext.refl _, rfl⟩
    · intro ρ W ⟨kc, kg, kf⟩ hF hs
      obtain ⟨h0, h1, -⟩ := hs
      replace h0 : (TabC n xs) (ρ (.tmp 24)) W := h0
      replace h1 : ρ (.tmp 25) = .agg #[.int .i64 a, .int .i64 b] := h1
      obtain ⟨A2, c2, hv, hr2⟩ := h0
      have hv2 : ρ (.tmp 24) = .agg #[.slice A2 n c2] := hv
      clear hv
      go_simp
      refine (HCV.out _ _ _ hr2).mono ?_; rintro e w' ⟨rfl, hx⟩; exact ⟨_, rfl, hx, rfl⟩
    · intro ρ W ⟨kc, kg, kf⟩ hF hs
      obtain ⟨h0, -⟩ := hs
      replace h0 : ρ (.tmp 26) = .tuple #[.agg #[.int .i64 cv.1, .int .i64 cv.2], .int .i64 0] := h0
      go_simp
      exact ⟨Ext.refl _, rfl⟩
    · intro ρ W ⟨kc, kg, kf⟩ hF hs
      obtain ⟨h0, -⟩ := hs
      replace h0 : ρ (.tmp 22) = .tuple #[.agg #[.int .i64 cv.1, .int .i64 cv.2], .int .i64 0] := h0
      go_simp
      exact ⟨Ext.refl _, rfl⟩
    · refine ⟨rfl, fun ρ W ⟨kc, kg, kf⟩ hF hs W' => ?_⟩
      obtain ⟨h0, -⟩ := hs
      replace h0 : ρ (.tmp 22) = .tuple #[.agg #[.int .i64 cv.1, .int .i64 cv.2], .int .i64 0] := h0
      go_simp
    · intro ρ W ⟨kc, kg, kf⟩ hF hs
      exact ⟨W.alloc (.cells #[.int .i64 0, .int .i64 0] 41), (by go_simp), by simp, Ext.alloc _ _, _, rfl, hF.size, Blk.new _ _ _⟩
    · refine ⟨rfl, fun ρ W ⟨kc, kg, kf⟩ hF hs W' => ?_⟩
      obtain ⟨h0, -⟩ := hs
      replace h0 : ρ (.tmp 28) = .int .i64 (0) := h0
      go_simp
  · intro fv U hF hs hap σ hσ ρ ⟨kc, kg, kf⟩ hr
    obtain ⟨-, -, -, -, -, h27, h28, h7, h8, -⟩ := hs
    replace h27 : fv 27 = .agg #[.int .i64 cv.1, .int .i64 cv.2] := h27
    replace h28 : fv 28 = .int .i64 (0) := h28
    replace h7 : (NewP W4.heap.size 41 #[.int .i64 0, .int .i64 0]) (fv 7) U := h7
    replace h8 : fv 8 = .int .i64 (0) := h8
    obtain ⟨r0, r1, -⟩ := hr
    replace r0 : ρ (.tmp 7) = fv 7 := r0
    replace r1 : ρ (.tmp 27) = .agg #[.int .i64 cv.1, .int .i64 cv.2] := r1.trans h27
    obtain ⟨q7, hq7, hqs7, hb7⟩ := h7
    rw [hq7] at r0
    have f7_0 := hb7.free 0
    have c7_0 : U.cell? ⟨q7, 0, none⟩ = some (.int .i64 0) := hb7.cell 0
    have f7_1 := hb7.free 1
    have c7_1 : U.cell? ⟨q7, 1, none⟩ = some (.int .i64 0) := hb7.cell 1
    refine stores_one _ rfl hσ ((U.setCell ⟨q7, 0, none⟩ (.int .i64 cv.1)).setCell ⟨q7, 1, none⟩ (.int .i64 cv.2)) (by go_simp) ?_
    obtain ⟨W5, hW5⟩ : ∃ Vx, Vx = (U.setCell ⟨q7, 0, none⟩ (.int .i64 cv.1)).setCell ⟨q7, 1, none⟩ (.int .i64 cv.2) := ⟨_, rfl⟩
    rw [← hW5]
    have K7 := Lib.hid (show Blk W5 q7 41 #[.int .i64 cv.1, .int .i64 cv.2] by rw [hW5]; exact (hb7.setSame 0 _).setSame 1 _)
    have XN := Lib.hid (show Ext W4 W5 by rw [hW5]; exact Ext.set (Ext.set hF (by dsimp only; exact hqs7) _) (by dsimp only; exact hqs7) _)
    have L7 := Lib.hid hqs7
    clear f7_0 c7_0 f7_1 c7_1
    clear hW5 hF hap hσ r0 r1 kc kg kf hb7 hqs7
    simp only [fin, List.filterMap]
    go_simp
    try rw [hq7]
    clear hq7
    clear ρ σ h27 h28 h8
    have X := Lib.hid (X.out.trans XN.out)
    have K0 := Lib.hid (K0.out.ext XN.out)
    have K1 := Lib.hid (K1.out.ext XN.out)
    clear XN y0 y1 y2 L7
    have y0 : W5.cell? ⟨w.heap.size, 0, none⟩ = some (.slice A n ca) := K0.out.cell 0
    have y1 : W5.cell? ⟨w.heap.size + 1, 0, none⟩ = some (.int .i64 a) := K1.out.cell 0
    have y2 : W5.cell? ⟨w.heap.size + 1, 1, none⟩ = some (.int .i64 b) := K1.out.cell 1
    go_wp2_with (go_at_call 37; refine (HRT.out _ X.out).mono ?_; rintro e W6 ⟨rfl, hx⟩; have X := Lib.hid (X.out.trans hx); have K0 := Lib.hid (K0.out.ext hx); have K1 := Lib.hid (K1.out.ext hx); have K7 := Lib.hid (K7.out.ext hx); clear hx y0 y1 y2; refine Hid.out ?_)
    refine Lib.hid ?_
    have y0 : W6.cell? ⟨w.heap.size, 0, none⟩ = some (.slice A n ca) := K0.out.cell 0
    have y1 : W6.cell? ⟨w.heap.size + 1, 0, none⟩ = some (.int .i64 a) := K1.out.cell 0
    have y2 : W6.cell? ⟨w.heap.size + 1, 1, none⟩ = some (.int .i64 b) := K1.out.cell 1
    go_wp2_with (go_at_call 38; refine (HRE.out _).mono ?_; rintro e W7 ⟨rfl, hx⟩; have X := Lib.hid (X.out.trans hx); have K0 := Lib.hid (K0.out.ext hx); have K1 := Lib.hid (K1.out.ext hx); have K7 := Lib.hid (K7.out.ext hx); clear hx y0 y1 y2; refine Hid.out ?_)
    refine Lib.hid ?_
    have y0 : W7.cell? ⟨w.heap.size, 0, none⟩ = some (.slice A n ca) := K0.out.cell 0
    have y1 : W7.cell? ⟨w.heap.size + 1, 0, none⟩ = some (.int .i64 a) := K1.out.cell 0
    have y2 : W7.cell? ⟨w.heap.size + 1, 1, none⟩ = some (.int .i64 b) := K1.out.cell 1
    go_wp2_with (go_at_call 39; refine (HI1.out _ X.out).mono ?_; rintro e W8 ⟨rfl, hx⟩; have X := Lib.hid (X.out.trans hx); have K0 := Lib.hid (K0.out.ext hx); have K1 := Lib.hid (K1.out.ext hx); have K7 := Lib.hid (K7.out.ext hx); clear hx y0 y1 y2; refine Hid.out ?_)
    refine Lib.hid ?_
    have y0 : W8.cell? ⟨w.heap.size, 0, none⟩ = some (.slice A n ca) := K0.out.cell 0
    have y1 : W8.cell? ⟨w.heap.size + 1, 0, none⟩ = some (.int .i64 a) := K1.out.cell 0
    have y2 : W8.cell? ⟨w.heap.size + 1, 1, none⟩ = some (.int .i64 b) := K1.out.cell 1
    go_wp2_with (go_at_call 39; refine (HI2.out _ X.out).mono ?_; rintro e W9 ⟨rfl, hx⟩; have X := Lib.hid (X.out.trans hx); have K0 := Lib.hid (K0.out.ext hx); have K1 := Lib.hid (K1.out.ext hx); have K7 := Lib.hid (K7.out.ext hx); clear hx y0 y1 y2; refine Hid.out ?_)
    refine Lib.hid ?_
    have y0 : W9.cell? ⟨w.heap.size, 0, none⟩ = some (.slice A n ca) := K0.out.cell 0
    have y1 : W9.cell? ⟨w.heap.size + 1, 0, none⟩ = some (.int .i64 a) := K1.out.cell 0
    have y2 : W9.cell? ⟨w.heap.size + 1, 1, none⟩ = some (.int .i64 b) := K1.out.cell 1
    have z0 : W9.cell? ⟨q7, 0, none⟩ = some (.int .i64 cv.1) := K7.out.cell 0
    have z1 : W9.cell? ⟨q7, 1, none⟩ = some (.int .i64 cv.2) := K7.out.cell 1
    go_wp2
    refine wp_region_eachG [(74, true), (74, true), (74, true), (74, true), (74, true)] [some 72, some 73, some 74, some 75, some 76, some 77, some 78, some 79, some 80, some 4] [[8], [72], [73], [7, 74], [2, 74], [3, 74], [76, 77, 74], [75, 78, 74], [74, 79], [80]]
      [Is (.int .i64 (0)), Is (.bool (true)), Is (.bool (true)), Is (.agg #[.int .i64 (cv.1), .int .i64 (cv.2)]), Is (.agg #[.slice A n ca]), Is (.agg #[.int .i64 (a), .int .i64 (b)]), Is (.agg #[.int .i64 cv.1, .int .i64 cv.2]), Is (.bool (true)), Is (.bool (true)), Is (.bool (true))]
      (by kernel_rfl) (by kernel_rfl) (by kernel_rfl) (by kernel_rfl) (by kernel_rfl) Ext (fun W => Ext W9 W)
      (fun W _ => Ext.refl W) (fun W W' h k => h.trans k) ?_ (by intro p hp; simp only [List.mem_cons, List.not_mem_nil, or_false] at hp; rcases hp with rfl | rfl | rfl | rfl | rfl <;> exact ⟨_, rfl, fun _ _ h => h⟩) (Ext.drew _) ?_ ?_
    · repeat (refine ⟨fun _ _ _ _ k h => (by first | exact h | exact (IntsAt.ext h k)), ?_⟩)
      exact trivial
    · refine ⟨?_, ?_, ?_, ?_, ?_, ?_, ?_, ?_, ?_, ?_, trivial⟩
      all_goals intro ρ W ⟨kc, kg, kf⟩ hF hs
      · obtain ⟨h0, -⟩ := hs
        replace h0 : ρ (.tmp 8) = .int .i64 (0) := h0
        go_simp
        exact ⟨Ext.refl _, rfl⟩
      · obtain ⟨h0, -⟩ := hs
        replace h0 : ρ (.tmp 72) = .int .i64 (0) := h0
        go_simp
        exact ⟨Ext.refl _, rfl⟩
      · obtain ⟨h0, -⟩ := hs
        replace h0 : ρ (.tmp 73) = .bool (true) := h0
        go_simp
        exact ⟨Ext.refl _, rfl⟩
      · obtain ⟨h0, h1, -⟩ := hs
        replace h0 : ρ (.tmp 7) = .pointer (some ⟨q7, 0, none⟩) := h0
        replace h1 : ρ (.tmp 74) = .bool (true) := h1
        have hc0 : W.cell? ⟨q7, 0, none⟩ = some (.int .i64 (cv.1)) := hF.cell (by assumption)
        have hc1 : W.cell? ⟨q7, 1, none⟩ = some (.int .i64 (cv.2)) := hF.cell (by assumption)
        go_simp
        exact ⟨Ext.refl _, rfl⟩
      · obtain ⟨h0, h1, -⟩ := hs
        replace h0 : ρ (.tmp 2) = .pointer (some ⟨w.heap.size, 0, none⟩) := h0
        replace h1 : ρ (.tmp 74) = .bool (true) := h1
        have hc0 : W.cell? ⟨w.heap.size, 0, none⟩ = some (.slice A n ca) := hF.cell (by assumption)
        go_simp
        exact ⟨Ext.refl _, rfl⟩
      · obtain ⟨h0, h1, -⟩ := hs
        replace h0 : ρ (.tmp 3) = .pointer (some ⟨w.heap.size + 1, 0, none⟩) := h0
        replace h1 : ρ (.tmp 74) = .bool (true) := h1
        have hc0 : W.cell? ⟨w.heap.size + 1, 0, none⟩ = some (.int .i64 (a)) := hF.cell (by assumption)
        have hc1 : W.cell? ⟨w.heap.size + 1, 1, none⟩ = some (.int .i64 (b)) := hF.cell (by assumption)
        go_simp
        exact ⟨Ext.refl _, rfl⟩
      · obtain ⟨h0, h1, h2, -⟩ := hs
        replace h0 : ρ (.tmp 76) = .agg #[.slice A n ca] := h0
        replace h1 : ρ (.tmp 77) = .agg #[.int .i64 (a), .int .i64 (b)] := h1
        replace h2 : ρ (.tmp 74) = .bool (true) := h2
        go_simp
        refine (HRC.out _ (X.out.trans hF)).mono ?_; rintro e w' ⟨rfl, hx⟩; exact ⟨_, rfl, hx, rfl⟩
      · obtain ⟨h0, h1, h2, -⟩ := hs
        replace h0 : ρ (.tmp 75) = .agg #[.int .i64 (cv.1), .int .i64 (cv.2)] := h0
        replace h1 : ρ (.tmp 78) = .agg #[.int .i64 cv.1, .int .i64 cv.2] := h1
        replace h2 : ρ (.tmp 74) = .bool (true) := h2
        go_simp
        exact ⟨Ext.refl _, rfl⟩
      · obtain ⟨h0, h1, -⟩ := hs
        replace h0 : ρ (.tmp 74) = .bool (true) := h0
        replace h1 : ρ (.tmp 79) = .bool (true) := h1
        go_simp
        exact ⟨Ext.refl _, rfl⟩
      · obtain ⟨h0, -⟩ := hs
        replace h0 : ρ (.tmp 80) = .bool (true) := h0
        go_simp
        exact ⟨Ext.refl _, rfl⟩
    · intro fv V9 hF hs
      obtain ⟨-, -, -, -, -, -, -, -, -, h4, -⟩ := hs
      replace h4 : fv 4 = .bool (true) := h4
      simp only [fin, List.filterMap]
      go_simp
      have X9 := Lib.hid (X.out.trans hF)
      clear hF y0 y1 y2 z0 z1
      go_wp2
      go_ret
      exact ⟨rfl, X9.out⟩

set_option maxRecDepth 100000 in
set_option maxHeartbeats 8000000 in
theorem tables_few {A : Option Addr} {n ca : Nat} {w : World} (a b : Int) (h14 : 14 < n) : Calls Try.prog 5 #[.agg #[.slice A n ca], .agg #[.int .i64 a, .int .i64 b]] w fun e w' => e = .returned (.bool true) ∧ Ext w w' := by
  have HFW := Lib.hid (fun W => show Calls Try.prog 33 #[.agg #[.slice A n ca]] W fun e w' => e = .returned (.bool false) ∧ Ext W w' from by
    have := fewKnots_any (A := A) (n := n) (ca := ca) W
    rw [show decide ((n : Int) ≤ 14) = false by simp; omega] at this
    exact this)
  clear h14
  have P0 := Lib.hid (show Blk ((w.alloc (.cells #[.slice A n ca] 64)).alloc (.cells #[.int .i64 a, .int .i64 b] 41)) w.heap.size 64 #[.slice A n ca] from (Blk.new _ _ _).alloc _)
  have P1 := Lib.hid (show Blk ((w.alloc (.cells #[.slice A n ca] 64)).alloc (.cells #[.int .i64 a, .int .i64 b] 41)) (w.heap.size + 1) 41 #[.int .i64 a, .int .i64 b] from Blk.newAt _ _ _ (by simp))
  go_enter Try.func5, Try.ntmps5
  go_wp2_with (go_at_call 13; refine (awake_any _).mono ?_; rintro e W1 ⟨rfl, hx⟩; have X := Lib.hid (((Ext.alloc _ _).trans (Ext.alloc _ _)).trans hx); have K0 := Lib.hid (P0.out.ext hx); have K1 := Lib.hid (P1.out.ext hx); clear hx; refine Hid.out ?_)
  refine Lib.hid ?_
  clear P0 P1
  have y0 : W1.cell? ⟨w.heap.size, 0, none⟩ = some (.slice A n ca) := K0.out.cell 0
  have y1 : W1.cell? ⟨w.heap.size + 1, 0, none⟩ = some (.int .i64 a) := K1.out.cell 0
  have y2 : W1.cell? ⟨w.heap.size + 1, 1, none⟩ = some (.int .i64 b) := K1.out.cell 1
  go_wp2_with (go_at_call 33; refine (HFW.out _).mono ?_; rintro e W2 ⟨rfl, hx⟩; have X := Lib.hid (X.out.trans hx); have K0 := Lib.hid (K0.out.ext hx); have K1 := Lib.hid (K1.out.ext hx); clear hx y0 y1 y2; refine Hid.out ?_)
  refine Lib.hid ?_
  have y0 : W2.cell? ⟨w.heap.size, 0, none⟩ = some (.slice A n ca) := K0.out.cell 0
  have y1 : W2.cell? ⟨w.heap.size + 1, 0, none⟩ = some (.int .i64 a) := K1.out.cell 0
  have y2 : W2.cell? ⟨w.heap.size + 1, 1, none⟩ = some (.int .i64 b) := K1.out.cell 1
  go_wp2
  go_ret
  exact ⟨rfl, X.out⟩
theorem tables_any {A : Option Addr} {n ca : Nat} {xs : List Kn} {w : World} (a b : Int) (hnil : A = none → ca = 0) (hn : xs.length = n) (hr : n ≤ 1000 → RowsAt 3 Kn.enc w A xs) : Calls Try.prog 5 #[.agg #[.slice A n ca], .agg #[.int .i64 a, .int .i64 b]] w fun e w' => e = .returned (.bool true) ∧ Ext w w' := by
  rcases Nat.lt_or_ge 14 n with h | h
  · exact tables_few a b h
  · have hr := hr (by omega)
    by_cases hz : (checkX xs).2 = 0
    · by_cases he : endsE a b = 0
      · cases h1 : withinB a (xs.getD 0 default).f (xs.getD (n - 1) default).f with
        | false => exact tables_missA a b hn hr hnil hz he h1
        | true =>
          cases h2 : withinB b (xs.getD 0 default).f (xs.getD (n - 1) default).f with
          | false => exact tables_missB a b hn hr hnil hz he h1 h2
          | true => exact tables_ok a b hn hr hnil hz he h1 h2
      · exact tables_ends a b hn hr hnil hz he
    · exact tables_bad a b hn hr hnil h hz

end Go.Proofs.Ytmddnpagfgilcaa
