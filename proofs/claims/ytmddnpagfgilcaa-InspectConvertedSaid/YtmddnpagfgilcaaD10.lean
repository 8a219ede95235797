/- InspectConverted. -/
import Derived.Test.YtmddnpagfgilcaaG15
import Derived.Test.YtmddnpagfgilcaaR7
import Derived.Test.YtmddnpagfgilcaaC5
import Derived.Lib.MinMax

namespace Go.Proofs.Ytmddnpagfgilcaa
open Go.RowKit Go.Shelf Go.Mem Go.RegInv
attribute [local go_sem] RelUpon_value RelUpon_skip RelUpon_enter BigFrame.eval_const BigFrame.eval_global BigFrame.eval_func


def TrvC (m : Nat) (xs : List In) : Value → World → Prop := fun u W => ∃ A' c', u = .agg #[.slice A' m c'] ∧ RowsAt 4 In.enc W A' xs
theorem TrvC.ext {m : Nat} {xs : List In} {u : Value} {W W' : World} (h : TrvC m xs u W) (k : Ext W W') : TrvC m xs u W' := by
  obtain ⟨A', c', e, hr⟩ := h
  exact ⟨A', c', e, hr.ext k⟩
def CvC (m : Nat) (xs : List In) : Value → World → Prop := fun u W => ∃ A' c', u = .tuple #[.agg #[.slice A' m c'], .int .i64 0, .int .i64 0] ∧ RowsAt 4 In.enc W A' xs
theorem CvC.ext {m : Nat} {xs : List In} {u : Value} {W W' : World} (h : CvC m xs u W) (k : Ext W W') : CvC m xs u W' := by
  obtain ⟨A', c', e, hr⟩ := h
  exact ⟨A', c', e, hr.ext k⟩
theorem rows_fresh {W : World} {A : Option Addr} {xs : List In} (h : RowsAt 4 In.enc W A xs) {q : Nat} (hq : Blk W q 24 #[.slice none 0 0]) (v : Value) : RowsAt 4 In.enc (W.setCell ⟨q, 0, none⟩ v) A xs :=
  ⟨h.1, fun i x hx => by
    obtain ⟨b, o, hA, hb, hc⟩ := h.2 i x hx
    have hne : b ≠ q := by
      rintro rfl
      have h0 := hc 0 _ rfl
      rw [hq.cell] at h0
      rcases Nat.eq_zero_or_pos (o + i * 4 + 0) with h1 | h1
      · rw [h1] at h0; simp at h0
      · obtain ⟨j, hj⟩ : ∃ j, o + i * 4 + 0 = j + 1 := ⟨o + i * 4 + 0 - 1, by omega⟩
        rw [hj] at h0; simp at h0
    refine ⟨b, o, hA, by simpa using hb, fun j u hu => ?_⟩
    have hs : (W.setCell ⟨q, 0, none⟩ v).heap[b]? = W.heap[b]? := Below.heap_setCell W ⟨q, 0, none⟩ v b hne
    have := hc j u hu
    simpa [World.cell?, hs] using this⟩

set_option maxRecDepth 100000 in
set_option maxHeartbeats 8000000 in
theorem cvt_fewA {A B : Option Addr} {n m ca cb : Nat} {w : World} (h14 : 14 < n) : Calls Try.prog 7 #[.agg #[.slice A n ca], .agg #[.slice B m cb]] w fun e w' => e = .returned (.bool true) ∧ Ext w w' := by
  have HFK := Lib.hid (fun W => show Calls Try.prog 33 #[.agg #[.slice A n ca]] W fun e w' => e = .returned (.bool false) ∧ Ext W w' from by
    have := fewKnots_any (A := A) (n := n) (ca := ca) W
    rw [show decide ((n : Int) ≤ 14) = false by simp; omega] at this
    exact this)
  clear h14
  have P0 := Lib.hid (show Blk ((w.alloc (.cells #[.slice A n ca] 64)).alloc (.cells #[.slice B m cb] 24)) w.heap.size 64 #[.slice A n ca] from (Blk.new _ _ _).alloc _)
  have P1 := Lib.hid (show Blk ((w.alloc (.cells #[.slice A n ca] 64)).alloc (.cells #[.slice B m cb] 24)) (w.heap.size + 1) 24 #[.slice B m cb] from Blk.newAt _ _ _ (by simp))
  go_enter Try.func7, Try.ntmps7
  go_wp2_with (go_at_call 13; refine (awake_any _).mono ?_; rintro e W1 ⟨rfl, hx⟩; have X := Lib.hid (((Ext.alloc _ _).trans (Ext.alloc _ _)).trans hx); have K0 := Lib.hid (P0.out.ext hx); have K1 := Lib.hid (P1.out.ext hx); clear hx; refine Hid.out ?_)
  refine Lib.hid ?_
  clear P0 P1
  have y0 : W1.cell? ⟨w.heap.size, 0, none⟩ = some (.slice A n ca) := K0.out.cell 0
  have y1 : W1.cell? ⟨w.heap.size + 1, 0, none⟩ = some (.slice B m cb) := K1.out.cell 0
  go_wp2_with (go_at_call 33; refine (HFK.out _).mono ?_; rintro e W2 ⟨rfl, hx⟩; have X := Lib.hid (X.out.trans hx); have K0 := Lib.hid (K0.out.ext hx); have K1 := Lib.hid (K1.out.ext hx); clear hx y0 y1; refine Hid.out ?_)
  refine Lib.hid ?_
  have y0 : W2.cell? ⟨w.heap.size, 0, none⟩ = some (.slice A n ca) := K0.out.cell 0
  have y1 : W2.cell? ⟨w.heap.size + 1, 0, none⟩ = some (.slice B m cb) := K1.out.cell 0
  go_wp2
  go_ret
  exact ⟨rfl, X.out⟩
set_option maxRecDepth 100000 in
set_option maxHeartbeats 8000000 in
theorem cvt_fewB {A B : Option Addr} {n m ca cb : Nat} {w : World} (h14 : n ≤ 14) (h22 : 22 < m) : Calls Try.prog 7 #[.agg #[.slice A n ca], .agg #[.slice B m cb]] w fun e w' => e = .returned (.bool true) ∧ Ext w w' := by
  have HFK := Lib.hid (fun W => show Calls Try.prog 33 #[.agg #[.slice A n ca]] W fun e w' => e = .returned (.bool true) ∧ Ext W w' from by
    have := fewKnots_any (A := A) (n := n) (ca := ca) W
    rw [show decide ((n : Int) ≤ 14) = true by simp; omega] at this
    exact this)
  have HFT := Lib.hid (fun W => show Calls Try.prog 14 #[.agg #[.slice B m cb]] W fun e w' => e = .returned (.bool false) ∧ Ext W w' from by
    have := few_any (A := B) (n := m) (ca := cb) W
    rw [show decide ((m : Int) ≤ 22) = false by simp; omega] at this
    exact this)
  clear h14 h22
  have P0 := Lib.hid (show Blk ((w.alloc (.cells #[.slice A n ca] 64)).alloc (.cells #[.slice B m cb] 24)) w.heap.size 64 #[.slice A n ca] from (Blk.new _ _ _).alloc _)
  have P1 := Lib.hid (show Blk ((w.alloc (.cells #[.slice A n ca] 64)).alloc (.cells #[.slice B m cb] 24)) (w.heap.size + 1) 24 #[.slice B m cb] from Blk.newAt _ _ _ (by simp))
  go_enter Try.func7, Try.ntmps7
  go_wp2_with (go_at_call 13; refine (awake_any _).mono ?_; rintro e W1 ⟨rfl, hx⟩; have X := Lib.hid (((Ext.alloc _ _).trans (Ext.alloc _ _)).trans hx); have K0 := Lib.hid (P0.out.ext hx); have K1 := Lib.hid (P1.out.ext hx); clear hx; refine Hid.out ?_)
  refine Lib.hid ?_
  clear P0 P1
  have y0 : W1.cell? ⟨w.heap.size, 0, none⟩ = some (.slice A n ca) := K0.out.cell 0
  have y1 : W1.cell? ⟨w.heap.size + 1, 0, none⟩ = some (.slice B m cb) := K1.out.cell 0
  go_wp2_with (go_at_call 33; refine (HFK.out _).mono ?_; rintro e W2 ⟨rfl, hx⟩; have X := Lib.hid (X.out.trans hx); have K0 := Lib.hid (K0.out.ext hx); have K1 := Lib.hid (K1.out.ext hx); clear hx y0 y1; refine Hid.out ?_)
  refine Lib.hid ?_
  have y0 : W2.cell? ⟨w.heap.size, 0, none⟩ = some (.slice A n ca) := K0.out.cell 0
  have y1 : W2.cell? ⟨w.heap.size + 1, 0, none⟩ = some (.slice B m cb) := K1.out.cell 0
  go_wp2_with (go_at_call 14; refine (HFT.out _).mono ?_; rintro e W3 ⟨rfl, hx⟩; have X := Lib.hid (X.out.trans hx); have K0 := Lib.hid (K0.out.ext hx); have K1 := Lib.hid (K1.out.ext hx); clear hx y0 y1; refine Hid.out ?_)
  refine Lib.hid ?_
  have y0 : W3.cell? ⟨w.heap.size, 0, none⟩ = some (.slice A n ca) := K0.out.cell 0
  have y1 : W3.cell? ⟨w.heap.size + 1, 0, none⟩ = some (.slice B m cb) := K1.out.cell 0
  go_wp2
  go_ret
  exact ⟨rfl, X.out⟩

set_option maxRecDepth 100000 in
set_option maxHeartbeats 8000000 in
theorem cvt_badX {A B : Option Addr} {n m ca cb : Nat} {ks : List Kn} {xs : List In} {w : World} (hn : ks.length = n) (hm : xs.length = m) (hA : RowsAt 3 Kn.enc w A ks) (hB : RowsAt 4 In.enc w B xs) (hnA : A = none → ca = 0) (hnB : B = none → cb = 0) (h14 : n ≤ 14) (h22 : m ≤ 22) (hz : (checkX ks).2 ≠ 0) : Calls Try.prog 7 #[.agg #[.slice A n ca], .agg #[.slice B m cb]] w fun e w' => e = .returned (.bool true) ∧ Ext w w' := by
  have HFK := Lib.hid (fun W => show Calls Try.prog 33 #[.agg #[.slice A n ca]] W fun e w' => e = .returned (.bool true) ∧ Ext W w' from by
    have := fewKnots_any (A := A) (n := n) (ca := ca) W
    rw [show decide ((n : Int) ≤ 14) = true by simp; omega] at this
    exact this)
  have HFT := Lib.hid (fun W => show Calls Try.prog 14 #[.agg #[.slice B m cb]] W fun e w' => e = .returned (.bool true) ∧ Ext W w' from by
    have := few_any (A := B) (n := m) (ca := cb) W
    rw [show decide ((m : Int) ≤ 22) = true by simp; omega] at this
    exact this)
  have HCA := Lib.hid (fun W (e : Ext w W) => copyTable_any (ca := ca) hn (hA.ext e) (by omega) hnA)
  have HCB := Lib.hid (fun W (e : Ext w W) => copyTraverse_any (ca := cb) hm (hB.ext e) (by omega) hnB)
  have HSM := Lib.hid (fun W => sameTraverse_any (A := none) (B := none) (n := 0) (ca := 0) (cb := 0) (xs := []) (w := W) rfl ⟨by simp, fun i x hx => by simp at hx⟩ ⟨by simp, fun i x hx => by simp at hx⟩)
  have hE : firstE [(checkX ks).2, (checkT xs).2] = (checkX ks).2 := by simp [firstE, hz]
  have HCV := Lib.hid (fun W A2 c2 A3 c3 (h : RowsAt 3 Kn.enc W A2 ks) (h' : RowsAt 4 In.enc W A3 xs) => show Calls Try.prog 42 #[.agg #[.slice A2 n c2], .agg #[.slice A3 m c3]] W fun e w' => e = .returned (.tuple #[.agg #[.slice none 0 0], .int .i64 0, .int .i64 (checkX ks).2]) ∧ Ext W w' from by
    have := convT_bad (ca := c2) (cb := c3) hn hm h h' (by rw [hE]; exact hz)
    rw [hE] at this
    exact this)
  have HTE := Lib.hid (fun W (e : Ext w W) => show Calls Try.prog 41 #[.agg #[.slice A n ca]] W fun e w' => e = .returned (.int .i64 (checkX ks).2) ∧ Ext W w' from by
    have := refTableErr_any (ca := ca) hn (by omega) (hA.ext e)
  
    exact this)
  clear hn hm hA hB hnA hnB h14 h22 hE 
  generalize (checkX ks).2 = ez at *
  have hz1 : (ez == 0) = false := by simp [hz]
  have hz2 : (ez != 0) = true := by simp [hz]
  clear hz
  have P0 := Lib.hid (show Blk ((w.alloc (.cells #[.slice A n ca] 64)).alloc (.cells #[.slice B m cb] 24)) w.heap.size 64 #[.slice A n ca] from (Blk.new _ _ _).alloc _)
  have P1 := Lib.hid (show Blk ((w.alloc (.cells #[.slice A n ca] 64)).alloc (.cells #[.slice B m cb] 24)) (w.heap.size + 1) 24 #[.slice B m cb] from Blk.newAt _ _ _ (by simp))
  go_enter Try.func7, Try.ntmps7
  go_wp2_with (go_at_call 13; refine (awake_any _).mono ?_; rintro e W1 ⟨rfl, hx⟩; have X := Lib.hid (((Ext.alloc _ _).trans (Ext.alloc _ _)).trans hx); have K0 := Lib.hid (P0.out.ext hx); have K1 := Lib.hid (P1.out.ext hx); clear hx; refine Hid.out ?_)
  refine Lib.hid ?_
  clear P0 P1
  have y0 : W1.cell? ⟨w.heap.size, 0, none⟩ = some (.slice A n ca) := K0.out.cell 0
  have y1 : W1.cell? ⟨w.heap.size + 1, 0, none⟩ = some (.slice B m cb) := K1.out.cell 0
  go_wp2_with (go_at_call 33; refine (HFK.out _).mono ?_; rintro e W2 ⟨rfl, hx⟩; have X := Lib.hid (X.out.trans hx); have K0 := Lib.hid (K0.out.ext hx); have K1 := Lib.hid (K1.out.ext hx); clear hx y0 y1; refine Hid.out ?_)
  refine Lib.hid ?_
  have y0 : W2.cell? ⟨w.heap.size, 0, none⟩ = some (.slice A n ca) := K0.out.cell 0
  have y1 : W2.cell? ⟨w.heap.size + 1, 0, none⟩ = some (.slice B m cb) := K1.out.cell 0
  go_wp2_with (go_at_call 14; refine (HFT.out _).mono ?_; rintro e W3 ⟨rfl, hx⟩; have X := Lib.hid (X.out.trans hx); have K0 := Lib.hid (K0.out.ext hx); have K1 := Lib.hid (K1.out.ext hx); clear hx y0 y1; refine Hid.out ?_)
  refine Lib.hid ?_
  have y0 : W3.cell? ⟨w.heap.size, 0, none⟩ = some (.slice A n ca) := K0.out.cell 0
  have y1 : W3.cell? ⟨w.heap.size + 1, 0, none⟩ = some (.slice B m cb) := K1.out.cell 0
  go_wp2
  refine wp_region_free [.op, .op, .op, .op, .op, .op, .op, .late (.int .i64 (0)), .late (.int .i64 (ez)), .new, .store, .late (.int .i64 (0)), .late (.int .i64 (ez))] [10] [5, 27] [5] [some 22, some 23, some 24, some 25, some 26, some 21, some 27, some 28, some 29, some 5, none, some 6, some 7] [[2], [22], [3], [24], [23, 25], [26], [21], [21], [21], [], [5, 27], [28], [29]]
    [Is (.agg #[.slice A n ca]), TabC n ks, Is (.agg #[.slice B m cb]), TrvC m xs, Is (.tuple #[.agg #[.slice none 0 0], .int .i64 0, .int .i64 ez]), Is (.tuple #[.agg #[.slice none 0 0], .int .i64 0, .int .i64 ez]), Is (.agg #[.slice none 0 0]), Is (.int .i64 (0)), Is (.int .i64 (ez)), NewP W3.heap.size 24 #[.slice none 0 0], fun _ _ => True, Is (.int .i64 (0)), Is (.int .i64 (ez))]
    (by kernel_rfl) (by kernel_rfl) (by kernel_rfl) (by kernel_rfl) (by kernel_rfl) (by kernel_rfl) (by kernel_rfl) (by kernel_rfl) (by kernel_rfl) Ext (fun W => Ext W3 W)
    (fun W _ => Ext.refl W) (fun W W' h k => h.trans k) (fun W W' h => h.size) ?_ (Ext.drew _) ?_ ?_
  · repeat (refine ⟨fun _ _ _ _ k h => (by first | exact h | exact (by first | exact IntsAt.ext h k | exact NewP.ext h k | exact TabC.ext h k | exact TrvC.ext h k | exact CvC.ext h k)), ?_⟩)
    exact trivial
  · refine ⟨?_, ?_, ?_, ?_, ?_, ?_, ?_, ?_, ?_, ?_, ?_, ?_, trivial⟩
    · intro ρ W ⟨kc, kg, kf⟩ hF hs
      obtain ⟨h0, -⟩ := hs
      replace h0 : ρ (.tmp 2) = .pointer (some ⟨w.heap.size, 0, none⟩) := h0
      have hc0 : W.cell? ⟨w.heap.size, 0, none⟩ = some (.slice A n ca) := hF.cell (by assumption)
      go_simp
      exact ⟨Ext.refl _, rfl⟩
    · intro ρ W ⟨kc, kg, kf⟩ hF hs
      obtain ⟨h0, -⟩ := hs
      replace h0 : ρ (.tmp 22) = .agg #[.slice A n ca] := h0
      go_simp
      refine (HCA.out _ (X.out.trans hF)).mono ?_; rintro e w' ⟨A2, c2, rfl, hr2, -, hx⟩; exact ⟨_, rfl, hx, A2, c2, rfl, hr2⟩
    · intro ρ W ⟨kc, kg, kf⟩ hF hs
      obtain ⟨h0, -⟩ := hs
      replace h0 : ρ (.tmp 3) = .pointer (some ⟨w.heap.size + 1, 0, none⟩) := h0
      have hc0 : W.cell? ⟨w.heap.size + 1, 0, none⟩ = some (.slice B m cb) := hF.cell (by assumption)
      go_simp
      exact ⟨Ext.refl _, rfl⟩
    · intro ρ W ⟨kc, kg, kf⟩ hF hs
      obtain ⟨h0, -⟩ := hs
      replace h0 : ρ (.tmp 24) = .agg #[.slice B m cb] := h0
      go_simp
      refine (HCB.out _ (X.out.trans hF)).mono ?_; rintro e w' ⟨A2, c2, rfl, hr2, -, hx⟩; exact ⟨_, rfl, hx, A2, c2, rfl, hr2⟩
    · intro ρ W ⟨kc, kg, kf⟩ hF hs
      obtain ⟨h0, h1, -⟩ := hs
      replace h0 : (TabC n ks) (ρ (.tmp 23)) W := h0
      replace h1 : (TrvC m xs) (ρ (.tmp 25)) W := h1
      obtain ⟨A2, c2, hv, hr2⟩ := h0
      have hv2 : ρ (.tmp 23) = .agg #[.slice A2 n c2] := hv
      clear hv
      obtain ⟨A3, c3, hv, hr3⟩ := h1
      have hv3 : ρ (.tmp 25) = .agg #[.slice A3 m c3] := hv
      clear hv
      go_simp
      refine (HCV.out _ _ _ _ _ hr2 hr3).mono ?_; rintro e w' ⟨rfl, hx⟩; exact ⟨_, rfl, hx, rfl⟩
    · intro ρ W ⟨kc, kg, kf⟩ hF hs
      obtain ⟨h0, -⟩ := hs
      replace h0 : ρ (.tmp 26) = .tuple #[.agg #[.slice none 0 0], .int .i64 0, .int .i64 ez] := h0
      go_simp
      exact ⟨Ext.refl _, rfl⟩
    · intro ρ W ⟨kc, kg, kf⟩ hF hs
      obtain ⟨h0, -⟩ := hs
      replace h0 : ρ (.tmp 21) = .tuple #[.agg #[.slice none 0 0], .int .i64 0, .int .i64 ez] := h0
      go_simp
      exact ⟨Ext.refl _, rfl⟩
    · refine ⟨rfl, fun ρ W ⟨kc, kg, kf⟩ hF hs W' => ?_⟩
      obtain ⟨h0, -⟩ := hs
      replace h0 : ρ (.tmp 21) = .tuple #[.agg #[.slice none 0 0], .int .i64 0, .int .i64 ez] := h0
      go_simp
    · refine ⟨rfl, fun ρ W ⟨kc, kg, kf⟩ hF hs W' => ?_⟩
      obtain ⟨h0, -⟩ := hs
      replace h0 : ρ (.tmp 21) = .tuple #[.agg #[.slice none 0 0], .int .i64 0, .int .i64 ez] := h0
      go_simp
    · intro ρ W ⟨kc, kg, kf⟩ hF hs
      exact ⟨W.alloc (.cells #[.slice none 0 0] 24), (by go_simp), by simp, Ext.alloc _ _, _, rfl, hF.size, Blk.new _ _ _⟩
    · refine ⟨rfl, fun ρ W ⟨kc, kg, kf⟩ hF hs W' => ?_⟩
      obtain ⟨h0, -⟩ := hs
      replace h0 : ρ (.tmp 28) = .int .i64 (0) := h0
      go_simp
    · refine ⟨rfl, fun ρ W ⟨kc, kg, kf⟩ hF hs W' => ?_⟩
      obtain ⟨h0, -⟩ := hs
      replace h0 : ρ (.tmp 29) = .int .i64 (ez) := h0
      go_simp
  · intro fv U hF hs hap σ hσ ρ ⟨kc, kg, kf⟩ hr
    obtain ⟨-, -, -, -, -, -, h27, h28, h29, h5, h6, h7, -⟩ := hs
    replace h27 : fv 27 = .agg #[.slice none 0 0] := h27
    replace h28 : fv 28 = .int .i64 (0) := h28
    replace h29 : fv 29 = .int .i64 (ez) := h29
    replace h5 : (NewP W3.heap.size 24 #[.slice none 0 0]) (fv 5) U := h5
    replace h6 : fv 6 = .int .i64 (0) := h6
    replace h7 : fv 7 = .int .i64 (ez) := h7
    obtain ⟨r0, r1, -⟩ := hr
    replace r0 : ρ (.tmp 5) = fv 5 := r0
    replace r1 : ρ (.tmp 27) = .agg #[.slice none 0 0] := r1.trans h27
    obtain ⟨q5, hq5, hqs5, hb5⟩ := h5
    rw [hq5] at r0
    have f5_0 := hb5.free 0
    have c5_0 : U.cell? ⟨q5, 0, none⟩ = some (.slice none 0 0) := hb5.cell 0
    refine stores_one _ rfl hσ (U.setCell ⟨q5, 0, none⟩ (.slice none 0 0)) (by go_simp) ?_
    obtain ⟨W4, hW4⟩ : ∃ Vx, Vx = U.setCell ⟨q5, 0, none⟩ (.slice none 0 0) := ⟨_, rfl⟩
    rw [← hW4]
    have K5 := Lib.hid (show Blk W4 q5 24 #[.slice none 0 0] by rw [hW4]; exact hb5.setSame 0 _)
    have XN := Lib.hid (show Ext W3 W4 by rw [hW4]; exact Ext.set hF (by dsimp only; exact hqs5) _)
    have L5 := Lib.hid hqs5
    clear f5_0 c5_0
    clear hW4 hF hap hσ r0 r1 kc kg kf hb5 hqs5
    simp only [fin, List.filterMap]
    go_simp
    try rw [hq5]
    clear hq5
    clear ρ σ h27 h28 h29 h6 h7
    have X := Lib.hid (X.out.trans XN.out)
    have K0 := Lib.hid (K0.out.ext XN.out)
    have K1 := Lib.hid (K1.out.ext XN.out)

    clear XN y0 y1 L5
    have y0 : W4.cell? ⟨w.heap.size, 0, none⟩ = some (.slice A n ca) := K0.out.cell 0
    have y1 : W4.cell? ⟨w.heap.size + 1, 0, none⟩ = some (.slice B m cb) := K1.out.cell 0
    go_wp2_with (go_at_call 41; refine (HTE.out _ X.out).mono ?_; rintro e W5 ⟨rfl, hx⟩; have X := Lib.hid (X.out.trans hx); have K0 := Lib.hid (K0.out.ext hx); have K1 := Lib.hid (K1.out.ext hx); have K5 := Lib.hid (K5.out.ext hx); clear hx y0 y1; refine Hid.out ?_)
    refine Lib.hid ?_
    have y0 : W5.cell? ⟨w.heap.size, 0, none⟩ = some (.slice A n ca) := K0.out.cell 0
    have y1 : W5.cell? ⟨w.heap.size + 1, 0, none⟩ = some (.slice B m cb) := K1.out.cell 0
    have z5 : W5.cell? ⟨q5, 0, none⟩ = some (.slice none 0 0) := K5.out.cell 0
    go_wp2_with (go_at_call 43; refine (HSM.out _).mono ?_; rintro e W7 ⟨rfl, hx⟩; have X := Lib.hid (X.out.trans hx); have K0 := Lib.hid (K0.out.ext hx); have K1 := Lib.hid (K1.out.ext hx); clear hx y0 y1; refine Hid.out ?_)
    refine Lib.hid ?_
    have y0 : W7.cell? ⟨w.heap.size, 0, none⟩ = some (.slice A n ca) := K0.out.cell 0
    have y1 : W7.cell? ⟨w.heap.size + 1, 0, none⟩ = some (.slice B m cb) := K1.out.cell 0
    go_wp2
    go_ret
    exact ⟨rfl, X.out⟩

set_option maxRecDepth 100000 in
set_option maxHeartbeats 8000000 in
theorem cvt_badT {A B : Option Addr} {n m ca cb : Nat} {ks : List Kn} {xs : List In} {w : World} (hn : ks.length = n) (hm : xs.length = m) (hA : RowsAt 3 Kn.enc w A ks) (hB : RowsAt 4 In.enc w B xs) (hnA : A = none → ca = 0) (hnB : B = none → cb = 0) (h14 : n ≤ 14) (h22 : m ≤ 22) (hz : (checkX ks).2 = 0) (hy : (checkT xs).2 ≠ 0) : Calls Try.prog 7 #[.agg #[.slice A n ca], .agg #[.slice B m cb]] w fun e w' => e = .returned (.bool true) ∧ Ext w w' := by
  have HFK := Lib.hid (fun W => show Calls Try.prog 33 #[.agg #[.slice A n ca]] W fun e w' => e = .returned (.bool true) ∧ Ext W w' from by
    have := fewKnots_any (A := A) (n := n) (ca := ca) W
    rw [show decide ((n : Int) ≤ 14) = true by simp; omega] at this
    exact this)
  have HFT := Lib.hid (fun W => show Calls Try.prog 14 #[.agg #[.slice B m cb]] W fun e w' => e = .returned (.bool true) ∧ Ext W w' from by
    have := few_any (A := B) (n := m) (ca := cb) W
    rw [show decide ((m : Int) ≤ 22) = true by simp; omega] at this
    exact this)
  have HCA := Lib.hid (fun W (e : Ext w W) => copyTable_any (ca := ca) hn (hA.ext e) (by omega) hnA)
  have HCB := Lib.hid (fun W (e : Ext w W) => copyTraverse_any (ca := cb) hm (hB.ext e) (by omega) hnB)
  have HSM := Lib.hid (fun W => sameTraverse_any (A := none) (B := none) (n := 0) (ca := 0) (cb := 0) (xs := []) (w := W) rfl ⟨by simp, fun i x hx => by simp at hx⟩ ⟨by simp, fun i x hx => by simp at hx⟩)
  have hE : firstE [(checkX ks).2, (checkT xs).2] = (checkT xs).2 := by simp [firstE, hz, hy]
  have HCV := Lib.hid (fun W A2 c2 A3 c3 (h : RowsAt 3 Kn.enc W A2 ks) (h' : RowsAt 4 In.enc W A3 xs) => show Calls Try.prog 42 #[.agg #[.slice A2 n c2], .agg #[.slice A3 m c3]] W fun e w' => e = .returned (.tuple #[.agg #[.slice none 0 0], .int .i64 0, .int .i64 (checkT xs).2]) ∧ Ext W w' from by
    have := convT_bad (ca := c2) (cb := c3) hn hm h h' (by rw [hE]; exact hy)
    rw [hE] at this
    exact this)
  have HTE := Lib.hid (fun W (e : Ext w W) => show Calls Try.prog 41 #[.agg #[.slice A n ca]] W fun e w' => e = .returned (.int .i64 0) ∧ Ext W w' from by
    have := refTableErr_any (ca := ca) hn (by omega) (hA.ext e)
    rw [hz] at this
    exact this)
  have HRE := Lib.hid (fun W (e : Ext w W) => refTraverseErr_any (ca := cb) hm (by omega) (hB.ext e))
  clear hn hm hA hB hnA hnB h14 h22 hE hz
  generalize (checkT xs).2 = ez at *
  have hz1 : (ez == 0) = false := by simp [hy]
  have hz2 : (ez != 0) = true := by simp [hy]
  clear hy
  have P0 := Lib.hid (show Blk ((w.alloc (.cells #[.slice A n ca] 64)).alloc (.cells #[.slice B m cb] 24)) w.heap.size 64 #[.slice A n ca] from (Blk.new _ _ _).alloc _)
  have P1 := Lib.hid (show Blk ((w.alloc (.cells #[.slice A n ca] 64)).alloc (.cells #[.slice B m cb] 24)) (w.heap.size + 1) 24 #[.slice B m cb] from Blk.newAt _ _ _ (by simp))
  go_enter Try.func7, Try.ntmps7
  go_wp2_with (go_at_call 13; refine (awake_any _).mono ?_; rintro e W1 ⟨rfl, hx⟩; have X := Lib.hid (((Ext.alloc _ _).trans (Ext.alloc _ _)).trans hx); have K0 := Lib.hid (P0.out.ext hx); have K1 := Lib.hid (P1.out.ext hx); clear hx; refine Hid.out ?_)
  refine Lib.hid ?_
  clear P0 P1
  have y0 : W1.cell? ⟨w.heap.size, 0, none⟩ = some (.slice A n ca) := K0.out.cell 0
  have y1 : W1.cell? ⟨w.heap.size + 1, 0, none⟩ = some (.slice B m cb) := K1.out.cell 0
  go_wp2_with (go_at_call 33; refine (HFK.out _).mono ?_; rintro e W2 ⟨rfl, hx⟩; have X := Lib.hid (X.out.trans hx); have K0 := Lib.hid (K0.out.ext hx); have K1 := Lib.hid (K1.out.ext hx); clear hx y0 y1; refine Hid.out ?_)
  refine Lib.hid ?_
  have y0 : W2.cell? ⟨w.heap.size, 0, none⟩ = some (.slice A n ca) := K0.out.cell 0
  have y1 : W2.cell? ⟨w.heap.size + 1, 0, none⟩ = some (.slice B m cb) := K1.out.cell 0
  go_wp2_with (go_at_call 14; refine (HFT.out _).mono ?_; rintro e W3 ⟨rfl, hx⟩; have X := Lib.hid (X.out.trans hx); have K0 := Lib.hid (K0.out.ext hx); have K1 := Lib.hid (K1.out.ext hx); clear hx y0 y1; refine Hid.out ?_)
  refine Lib.hid ?_
  have y0 : W3.cell? ⟨w.heap.size, 0, none⟩ = some (.slice A n ca) := K0.out.cell 0
  have y1 : W3.cell? ⟨w.heap.size + 1, 0, none⟩ = some (.slice B m cb) := K1.out.cell 0
  go_wp2
  refine wp_region_free [.op, .op, .op, .op, .op, .op, .op, .late (.int .i64 (0)), .late (.int .i64 (ez)), .new, .store, .late (.int .i64 (0)), .late (.int .i64 (ez))] [10] [5, 27] [5] [some 22, some 23, some 24, some 25, some 26, some 21, some 27, some 28, some 29, some 5, none, some 6, some 7] [[2], [22], [3], [24], [23, 25], [26], [21], [21], [21], [], [5, 27], [28], [29]]
    [Is (.agg #[.slice A n ca]), TabC n ks, Is (.agg #[.slice B m cb]), TrvC m xs, Is (.tuple #[.agg #[.slice none 0 0], .int .i64 0, .int .i64 ez]), Is (.tuple #[.agg #[.slice none 0 0], .int .i64 0, .int .i64 ez]), Is (.agg #[.slice none 0 0]), Is (.int .i64 (0)), Is (.int .i64 (ez)), NewP W3.heap.size 24 #[.slice none 0 0], fun _ _ => True, Is (.int .i64 (0)), Is (.int .i64 (ez))]
    (by kernel_rfl) (by kernel_rfl) (by kernel_rfl) (by kernel_rfl) (by kernel_rfl) (by kernel_rfl) (by kernel_rfl) (by kernel_rfl) (by kernel_rfl) Ext (fun W => Ext W3 W)
    (fun W _ => Ext.refl W) (fun W W' h k => h.trans k) (fun W W' h => h.size) ?_ (Ext.drew _) ?_ ?_
  · repeat (refine ⟨fun _ _ _ _ k h => (by first | exact h | exact (by first | exact IntsAt.ext h k | exact NewP.ext h k | exact TabC.ext h k | exact TrvC.ext h k | exact CvC.ext h k)), ?_⟩)
    exact trivial
  · refine ⟨?_, ?_, ?_, ?_, ?_, ?_, ?_, ?_, ?_, ?_, ?_, ?_, trivial⟩
    · intro ρ W ⟨kc, kg, kf⟩ hF hs
      obtain ⟨h0, -⟩ := hs
      replace h0 : ρ (.tmp 2) = .pointer (some ⟨w.heap.size, 0, none⟩) := h0
      have hc0 : W.cell? ⟨w.heap.size, 0, none⟩ = some (.slice A n ca) := hF.cell (by assumption)
      go_simp
      exact ⟨Ext.refl _, rfl⟩
    · intro ρ W ⟨kc, kg, kf⟩ hF hs
      obtain ⟨h0, -⟩ := hs
      replace h0 : ρ (.tmp 22) = .agg #[.slice A n ca] := h0
      go_simp
      refine (HCA.out _ (X.out.trans hF)).mono ?_; rintro e w' ⟨A2, c2, rfl, hr2, -, hx⟩; exact ⟨_, rfl, hx, A2, c2, rfl, hr2⟩
    · intro ρ W ⟨kc, kg, kf⟩ hF hs
      obtain ⟨h0, -⟩ := hs
      replace h0 : ρ (.tmp 3) = .pointer (some ⟨w.heap.size + 1, 0, none⟩) := h0
      have hc0 : W.cell? ⟨w.heap.size + 1, 0, none⟩ = some (.slice B m cb) := hF.cell (by assumption)
      go_simp
      exact ⟨Ext.refl _, rfl⟩
    · intro ρ W ⟨kc, kg, kf⟩ hF hs
      obtain ⟨h0, -⟩ := hs
      replace h0 : ρ (.tmp 24) = .agg #[.slice B m cb] := h0
      go_simp
      refine (HCB.out _ (X.out.trans hF)).mono ?_; rintro e w' ⟨A2, c2, rfl, hr2, -, hx⟩; exact ⟨_, rfl, hx, A2, c2, rfl, hr2⟩
    · intro ρ W ⟨kc, kg, kf⟩ hF hs
      obtain ⟨h0, h1, -⟩ := hs
      replace h0 : (TabC n ks) (ρ (.tmp 23)) W := h0
      replace h1 : (TrvC m xs) (ρ (.tmp 25)) W := h1
      obtain ⟨A2, c2, hv, hr2⟩ := h0
      have hv2 : ρ (.tmp 23) = .agg #[.slice A2 n c2] := hv
      clear hv
      obtain ⟨A3, c3, hv, hr3⟩ := h1
      have hv3 : ρ (.tmp 25) = .agg #[.slice A3 m c3] := hv
      clear hv
      go_simp
      refine (HCV.out _ _ _ _ _ hr2 hr3).mono ?_; rintro e w' ⟨rfl, hx⟩; exact ⟨_, rfl, hx, rfl⟩
    · intro ρ W ⟨kc, kg, kf⟩ hF hs
      obtain ⟨h0, -⟩ := hs
      replace h0 : ρ (.tmp 26) = .tuple #[.agg #[.slice none 0 0], .int .i64 0, .int .i64 ez] := h0
      go_simp
      exact ⟨Ext.refl _, rfl⟩
    · intro ρ W ⟨kc, kg, kf⟩ hF hs
      obtain ⟨h0, -⟩ := hs
      replace h0 : ρ (.tmp 21) = .tuple #[.agg #[.slice none 0 0], .int .i64 0, .int .i64 ez] := h0
      go_simp
      exact ⟨Ext.refl _, rfl⟩
    · refine ⟨rfl, fun ρ W ⟨kc, kg, kf⟩ hF hs W' => ?_⟩
      obtain ⟨h0, -⟩ := hs
      replace h0 : ρ (.tmp 21) = .tuple #[.agg #[.slice none 0 0], .int .i64 0, .int .i64 ez] := h0
      go_simp
    · refine ⟨rfl, fun ρ W ⟨kc, kg, kf⟩ hF hs W' => ?_⟩
      obtain ⟨h0, -⟩ := hs
      replace h0 : ρ (.tmp 21) = .tuple #[.agg #[.slice none 0 0], .int .i64 0, .int .i64 ez] := h0
      go_simp
    · intro ρ W ⟨kc, kg, kf⟩ hF hs
      exact ⟨W.alloc (.cells #[.slice none 0 0] 24), (by go_simp), by simp, Ext.alloc _ _, _, rfl, hF.size, Blk.new _ _ _⟩
    · refine ⟨rfl, fun ρ W ⟨kc, kg, kf⟩ hF hs W' => ?_⟩
      obtain ⟨h0, -⟩ := hs
      replace h0 : ρ (.tmp 28) = .int .i64 (0) := h0
      go_simp
    · refine ⟨rfl, fun ρ W ⟨kc, kg, kf⟩ hF hs W' => ?_⟩
      obtain ⟨h0, -⟩ := hs
      replace h0 : ρ (.tmp 29) = .int .i64 (ez) := h0
      go_simp
  · intro fv U hF hs hap σ hσ ρ ⟨kc, kg, kf⟩ hr
    obtain ⟨-, -, -, -, -, -, h27, h28, h29, h5, h6, h7, -⟩ := hs
    replace h27 : fv 27 = .agg #[.slice none 0 0] := h27
    replace h28 : fv 28 = .int .i64 (0) := h28
    replace h29 : fv 29 = .int .i64 (ez) := h29
    replace h5 : (NewP W3.heap.size 24 #[.slice none 0 0]) (fv 5) U := h5
    replace h6 : fv 6 = .int .i64 (0) := h6
    replace h7 : fv 7 = .int .i64 (ez) := h7
    obtain ⟨r0, r1, -⟩ := hr
    replace r0 : ρ (.tmp 5) = fv 5 := r0
    replace r1 : ρ (.tmp 27) = .agg #[.slice none 0 0] := r1.trans h27
    obtain ⟨q5, hq5, hqs5, hb5⟩ := h5
    rw [hq5] at r0
    have f5_0 := hb5.free 0
    have c5_0 : U.cell? ⟨q5, 0, none⟩ = some (.slice none 0 0) := hb5.cell 0
    refine stores_one _ rfl hσ (U.setCell ⟨q5, 0, none⟩ (.slice none 0 0)) (by go_simp) ?_
    obtain ⟨W4, hW4⟩ : ∃ Vx, Vx = U.setCell ⟨q5, 0, none⟩ (.slice none 0 0) := ⟨_, rfl⟩
    rw [← hW4]
    have K5 := Lib.hid (show Blk W4 q5 24 #[.slice none 0 0] by rw [hW4]; exact hb5.setSame 0 _)
    have XN := Lib.hid (show Ext W3 W4 by rw [hW4]; exact Ext.set hF (by dsimp only; exact hqs5) _)
    have L5 := Lib.hid hqs5
    clear f5_0 c5_0
    clear hW4 hF hap hσ r0 r1 kc kg kf hb5 hqs5
    simp only [fin, List.filterMap]
    go_simp
    try rw [hq5]
    clear hq5
    clear ρ σ h27 h28 h29 h6 h7
    have X := Lib.hid (X.out.trans XN.out)
    have K0 := Lib.hid (K0.out.ext XN.out)
    have K1 := Lib.hid (K1.out.ext XN.out)

    clear XN y0 y1 L5
    have y0 : W4.cell? ⟨w.heap.size, 0, none⟩ = some (.slice A n ca) := K0.out.cell 0
    have y1 : W4.cell? ⟨w.heap.size + 1, 0, none⟩ = some (.slice B m cb) := K1.out.cell 0
    go_wp2_with (go_at_call 41; refine (HTE.out _ X.out).mono ?_; rintro e W5 ⟨rfl, hx⟩; have X := Lib.hid (X.out.trans hx); have K0 := Lib.hid (K0.out.ext hx); have K1 := Lib.hid (K1.out.ext hx); have K5 := Lib.hid (K5.out.ext hx); clear hx y0 y1; refine Hid.out ?_)
    refine Lib.hid ?_
    have y0 : W5.cell? ⟨w.heap.size, 0, none⟩ = some (.slice A n ca) := K0.out.cell 0
    have y1 : W5.cell? ⟨w.heap.size + 1, 0, none⟩ = some (.slice B m cb) := K1.out.cell 0
    go_wp2_with (go_at_call 25; refine (HRE.out _ X.out).mono ?_; rintro e W6 ⟨rfl, hx⟩; have X := Lib.hid (X.out.trans hx); have K0 := Lib.hid (K0.out.ext hx); have K1 := Lib.hid (K1.out.ext hx); have K5 := Lib.hid (K5.out.ext hx); clear hx y0 y1; refine Hid.out ?_)
    refine Lib.hid ?_
    have y0 : W6.cell? ⟨w.heap.size, 0, none⟩ = some (.slice A n ca) := K0.out.cell 0
    have y1 : W6.cell? ⟨w.heap.size + 1, 0, none⟩ = some (.slice B m cb) := K1.out.cell 0
    have z5 : W6.cell? ⟨q5, 0, none⟩ = some (.slice none 0 0) := K5.out.cell 0
    go_wp2_with (go_at_call 43; refine (HSM.out _).mono ?_; rintro e W7 ⟨rfl, hx⟩; have X := Lib.hid (X.out.trans hx); have K0 := Lib.hid (K0.out.ext hx); have K1 := Lib.hid (K1.out.ext hx); clear hx y0 y1; refine Hid.out ?_)
    refine Lib.hid ?_
    have y0 : W7.cell? ⟨w.heap.size, 0, none⟩ = some (.slice A n ca) := K0.out.cell 0
    have y1 : W7.cell? ⟨w.heap.size + 1, 0, none⟩ = some (.slice B m cb) := K1.out.cell 0
    go_wp2
    go_ret
    exact ⟨rfl, X.out⟩

set_option maxRecDepth 100000 in
set_option maxHeartbeats 8000000 in
theorem cvt_miss {A B : Option Addr} {n m ca cb : Nat} {ks : List Kn} {xs : List In} {w : World} (hn : ks.length = n) (hm : xs.length = m) (hA : RowsAt 3 Kn.enc w A ks) (hB : RowsAt 4 In.enc w B xs) (hnA : A = none → ca = 0) (hnB : B = none → cb = 0) (hz : (checkX ks).2 = 0) (hy : (checkT xs).2 = 0) (hf : (firstAt (missAt ks xs) m 0).2 ≠ 0) : Calls Try.prog 7 #[.agg #[.slice A n ca], .agg #[.slice B m cb]] w fun e w' => e = .returned (.bool true) ∧ Ext w w' := by
  obtain ⟨n2, n12, -, -⟩ := checkX_ok hz
  obtain ⟨m2, m20, -⟩ := checkT_ok hy
  rw [hn] at n2 n12
  rw [hm] at m2 m20
  obtain ⟨b, o, rfl, -, -⟩ := row_at hB (getI (xs := xs) (i := 0) hm (by omega))
  have HFK := Lib.hid (fun W => show Calls Try.prog 33 #[.agg #[.slice A n ca]] W fun e w' => e = .returned (.bool true) ∧ Ext W w' from by
    have := fewKnots_any (A := A) (n := n) (ca := ca) W
    rw [show decide ((n : Int) ≤ 14) = true by simp; omega] at this
    exact this)
  have HFT := Lib.hid (fun W => show Calls Try.prog 14 #[.agg #[.slice (some ⟨b, o, none⟩) m cb]] W fun e w' => e = .returned (.bool true) ∧ Ext W w' from by
    have := few_any (A := some ⟨b, o, none⟩) (n := m) (ca := cb) W
    rw [show decide ((m : Int) ≤ 22) = true by simp; omega] at this
    exact this)
  have HCA := Lib.hid (fun W (e : Ext w W) => copyTable_any (ca := ca) hn (hA.ext e) (by omega) hnA)
  have HCB := Lib.hid (fun W (e : Ext w W) => copyTraverse_any (ca := cb) hm (hB.ext e) (by omega) hnB)
  have HSM := Lib.hid (fun W => sameTraverse_any (A := none) (B := none) (n := 0) (ca := 0) (cb := 0) (xs := []) (w := W) rfl ⟨by simp, fun i x hx => by simp at hx⟩ ⟨by simp, fun i x hx => by simp at hx⟩)
  have HCV := Lib.hid (fun W A2 c2 A3 c3 (h : RowsAt 3 Kn.enc W A2 ks) (h' : RowsAt 4 In.enc W A3 xs) => convT_miss (ca := c2) (cb := c3) hn hm h h' hz hy hf)
  have HRC := Lib.hid (fun W (e : Ext w W) => show Calls Try.prog 44 #[.agg #[.slice A n ca], .agg #[.slice (some ⟨b, o, none⟩) m cb]] W fun e w' => e = .returned (.tuple #[.agg #[.slice none 0 0], .int .i64 (firstAt (missAt ks xs) m 0).1, .int .i64 (firstAt (missAt ks xs) m 0).2]) ∧ Ext W w' from
    (refConvT_any (ca := ca) (cb := cb) hn hm (hA.ext e) (hB.ext e) hz (by omega) (by omega)).mono fun e w' ⟨_, h, hx⟩ => ⟨h hf, hx⟩)
  have HTE := Lib.hid (fun W (e : Ext w W) => show Calls Try.prog 41 #[.agg #[.slice A n ca]] W fun e w' => e = .returned (.int .i64 0) ∧ Ext W w' from by
    have := refTableErr_any (ca := ca) hn (by omega) (hA.ext e)
    rw [hz] at this
    exact this)
  have HRE := Lib.hid (fun W (e : Ext w W) => show Calls Try.prog 25 #[.agg #[.slice (some ⟨b, o, none⟩) m cb]] W fun e w' => e = .returned (.int .i64 0) ∧ Ext W w' from by
    have := refTraverseErr_any (ca := cb) hm (by omega) (hB.ext e)
    rw [hy] at this
    exact this)
  clear hn hm hA hB hnA hnB hz hy hf
  generalize firstAt (missAt ks xs) m 0 = fa at *
  have P0 := Lib.hid (show Blk ((w.alloc (.cells #[.slice A n ca] 64)).alloc (.cells #[.slice (some ⟨b, o, none⟩) m cb] 24)) w.heap.size 64 #[.slice A n ca] from (Blk.new _ _ _).alloc _)
  have P1 := Lib.hid (show Blk ((w.alloc (.cells #[.slice A n ca] 64)).alloc (.cells #[.slice (some ⟨b, o, none⟩) m cb] 24)) (w.heap.size + 1) 24 #[.slice (some ⟨b, o, none⟩) m cb] from Blk.newAt _ _ _ (by simp))
  go_enter Try.func7, Try.ntmps7
  go_wp2_with (go_at_call 13; refine (awake_any _).mono ?_; rintro e W1 ⟨rfl, hx⟩; have X := Lib.hid (((Ext.alloc _ _).trans (Ext.alloc _ _)).trans hx); have K0 := Lib.hid (P0.out.ext hx); have K1 := Lib.hid (P1.out.ext hx); clear hx; refine Hid.out ?_)
  refine Lib.hid ?_
  clear P0 P1
  have y0 : W1.cell? ⟨w.heap.size, 0, none⟩ = some (.slice A n ca) := K0.out.cell 0
  have y1 : W1.cell? ⟨w.heap.size + 1, 0, none⟩ = some (.slice (some ⟨b, o, none⟩) m cb) := K1.out.cell 0
  go_wp2_with (go_at_call 33; refine (HFK.out _).mono ?_; rintro e W2 ⟨rfl, hx⟩; have X := Lib.hid (X.out.trans hx); have K0 := Lib.hid (K0.out.ext hx); have K1 := Lib.hid (K1.out.ext hx); clear hx y0 y1; refine Hid.out ?_)
  refine Lib.hid ?_
  have y0 : W2.cell? ⟨w.heap.size, 0, none⟩ = some (.slice A n ca) := K0.out.cell 0
  have y1 : W2.cell? ⟨w.heap.size + 1, 0, none⟩ = some (.slice (some ⟨b, o, none⟩) m cb) := K1.out.cell 0
  go_wp2_with (go_at_call 14; refine (HFT.out _).mono ?_; rintro e W3 ⟨rfl, hx⟩; have X := Lib.hid (X.out.trans hx); have K0 := Lib.hid (K0.out.ext hx); have K1 := Lib.hid (K1.out.ext hx); clear hx y0 y1; refine Hid.out ?_)
  refine Lib.hid ?_
  have y0 : W3.cell? ⟨w.heap.size, 0, none⟩ = some (.slice A n ca) := K0.out.cell 0
  have y1 : W3.cell? ⟨w.heap.size + 1, 0, none⟩ = some (.slice (some ⟨b, o, none⟩) m cb) := K1.out.cell 0
  go_wp2
  refine wp_region_free [.op, .op, .op, .op, .op, .op, .op, .late (.int .i64 (fa.1)), .late (.int .i64 (fa.2)), .new, .store, .late (.int .i64 (fa.1)), .late (.int .i64 (fa.2))] [10] [5, 27] [5] [some 22, some 23, some 24, some 25, some 26, some 21, some 27, some 28, some 29, some 5, none, some 6, some 7] [[2], [22], [3], [24], [23, 25], [26], [21], [21], [21], [], [5, 27], [28], [29]]
    [Is (.agg #[.slice A n ca]), TabC n ks, Is (.agg #[.slice (some ⟨b, o, none⟩) m cb]), TrvC m xs, Is (.tuple #[.agg #[.slice none 0 0], .int .i64 fa.1, .int .i64 fa.2]), Is (.tuple #[.agg #[.slice none 0 0], .int .i64 fa.1, .int .i64 fa.2]), Is (.agg #[.slice none 0 0]), Is (.int .i64 (fa.1)), Is (.int .i64 (fa.2)), NewP W3.heap.size 24 #[.slice none 0 0], fun _ _ => True, Is (.int .i64 (fa.1)), Is (.int .i64 (fa.2))]
    (by kernel_rfl) (by kernel_rfl) (by kernel_rfl) (by kernel_rfl) (by kernel_rfl) (by kernel_rfl) (by kernel_rfl) (by kernel_rfl) (by kernel_rfl) Ext (fun W => Ext W3 W)
    (fun W _ => Ext.refl W) (fun W W' h k => h.trans k) (fun W W' h => h.size) ?_ (Ext.drew _) ?_ ?_
  · repeat (refine ⟨fun _ _ _ _ k h => (by first | exact h | exact (by first | exact IntsAt.ext h k | exact NewP.ext h k | exact TabC.ext h k | exact TrvC.ext h k | exact CvC.ext h k)), ?_⟩)
    exact trivial
  · refine ⟨?_, ?_, ?_, ?_, ?_, ?_, ?_, ?_, ?_, ?_, ?_, ?_, trivial⟩
    · intro ρ W ⟨kc, kg, kf⟩ hF hs
      obtain ⟨h0, -⟩ := hs
      replace h0 : ρ (.tmp 2) = .pointer (some ⟨w.heap.size, 0, none⟩) := h0
      have hc0 : W.cell? ⟨w.heap.size, 0, none⟩ = some (.slice A n ca) := hF.cell (by assumption)
      go_simp
      exact ⟨Ext.refl _, rfl⟩
    · intro ρ W ⟨kc, kg, kf⟩ hF hs
      obtain ⟨h0, -⟩ := hs
      replace h0 : ρ (.tmp 22) = .agg #[.slice A n ca] := h0
      go_simp
      refine (HCA.out _ (X.out.trans hF)).mono ?_; rintro e w' ⟨A2, c2, rfl, hr2, -, hx⟩; exact ⟨_, rfl, hx, A2, c2, rfl, hr2⟩
    · intro ρ W ⟨kc, kg, kf⟩ hF hs
      obtain ⟨h0, -⟩ := hs
      replace h0 : ρ (.tmp 3) = .pointer (some ⟨w.heap.size + 1, 0, none⟩) := h0
      have hc0 : W.cell? ⟨w.heap.size + 1, 0, none⟩ = some (.slice (some ⟨b, o, none⟩) m cb) := hF.cell (by assumption)
      go_simp
      exact ⟨Ext.refl _, rfl⟩
    · intro ρ W ⟨kc, kg, kf⟩ hF hs
      obtain ⟨h0, -⟩ := hs
      replace h0 : ρ (.tmp 24) = .agg #[.slice (some ⟨b, o, none⟩) m cb] := h0
      go_simp
      refine (HCB.out _ (X.out.trans hF)).mono ?_; rintro e w' ⟨A2, c2, rfl, hr2, -, hx⟩; exact ⟨_, rfl, hx, A2, c2, rfl, hr2⟩
    · intro ρ W ⟨kc, kg, kf⟩ hF hs
      obtain ⟨h0, h1, -⟩ := hs
      replace h0 : (TabC n ks) (ρ (.tmp 23)) W := h0
      replace h1 : (TrvC m xs) (ρ (.tmp 25)) W := h1
      obtain ⟨A2, c2, hv, hr2⟩ := h0
      have hv2 : ρ (.tmp 23) = .agg #[.slice A2 n c2] := hv
      clear hv
      obtain ⟨A3, c3, hv, hr3⟩ := h1
      have hv3 : ρ (.tmp 25) = .agg #[.slice A3 m c3] := hv
      clear hv
      go_simp
      refine (HCV.out _ _ _ _ _ hr2 hr3).mono ?_; rintro e w' ⟨rfl, hx⟩; exact ⟨_, rfl, hx, rfl⟩
    · intro ρ W ⟨kc, kg, kf⟩ hF hs
      obtain ⟨h0, -⟩ := hs
      replace h0 : ρ (.tmp 26) = .tuple #[.agg #[.slice none 0 0], .int .i64 fa.1, .int .i64 fa.2] := h0
      go_simp
      exact ⟨Ext.refl _, rfl⟩
    · intro ρ W ⟨kc, kg, kf⟩ hF hs
      obtain ⟨h0, -⟩ := hs
      replace h0 : ρ (.tmp 21) = .tuple #[.agg #[.slice none 0 0], .int .i64 fa.1, .int .i64 fa.2] := h0
      go_simp
      exact ⟨Ext.refl _, rfl⟩
    · refine ⟨rfl, fun ρ W ⟨kc, kg, kf⟩ hF hs W' => ?_⟩
      obtain ⟨h0, -⟩ := hs
      replace h0 : ρ (.tmp 21) = .tuple #[.agg #[.slice none 0 0], .int .i64 fa.1, .int .i64 fa.2] := h0
      go_simp
    · refine ⟨rfl, fun ρ W ⟨kc, kg, kf⟩ hF hs W' => ?_⟩
      obtain ⟨h0, -⟩ := hs
      replace h0 : ρ (.tmp 21) = .tuple #[.agg #[.slice none 0 0], .int .i64 fa.1, .int .i64 fa.2] := h0
      go_simp
    · intro ρ W ⟨kc, kg, kf⟩ hF hs
      exact ⟨W.alloc (.cells #[.slice none 0 0] 24), (by go_simp), by simp, Ext.alloc _ _, _, rfl, hF.size, Blk.new _ _ _⟩
    · refine ⟨rfl, fun ρ W ⟨kc, kg, kf⟩ hF hs W' => ?_⟩
      obtain ⟨h0, -⟩ := hs
      replace h0 : ρ (.tmp 28) = .int .i64 (fa.1) := h0
      go_simp
    · refine ⟨rfl, fun ρ W ⟨kc, kg, kf⟩ hF hs W' => ?_⟩
      obtain ⟨h0, -⟩ := hs
      replace h0 : ρ (.tmp 29) = .int .i64 (fa.2) := h0
      go_simp
  · intro fv U hF hs hap σ hσ ρ ⟨kc, kg, kf⟩ hr
    obtain ⟨-, -, -, -, -, -, h27, h28, h29, h5, h6, h7, -⟩ := hs
    replace h27 : fv 27 = .agg #[.slice none 0 0] := h27
    replace h28 : fv 28 = .int .i64 (fa.1) := h28
    replace h29 : fv 29 = .int .i64 (fa.2) := h29
    replace h5 : (NewP W3.heap.size 24 #[.slice none 0 0]) (fv 5) U := h5
    replace h6 : fv 6 = .int .i64 (fa.1) := h6
    replace h7 : fv 7 = .int .i64 (fa.2) := h7
    obtain ⟨r0, r1, -⟩ := hr
    replace r0 : ρ (.tmp 5) = fv 5 := r0
    replace r1 : ρ (.tmp 27) = .agg #[.slice none 0 0] := r1.trans h27
    obtain ⟨q5, hq5, hqs5, hb5⟩ := h5
    rw [hq5] at r0
    have f5_0 := hb5.free 0
    have c5_0 : U.cell? ⟨q5, 0, none⟩ = some (.slice none 0 0) := hb5.cell 0
    refine stores_one _ rfl hσ (U.setCell ⟨q5, 0, none⟩ (.slice none 0 0)) (by go_simp) ?_
    obtain ⟨W4, hW4⟩ : ∃ Vx, Vx = U.setCell ⟨q5, 0, none⟩ (.slice none 0 0) := ⟨_, rfl⟩
    rw [← hW4]
    have K5 := Lib.hid (show Blk W4 q5 24 #[.slice none 0 0] by rw [hW4]; exact hb5.setSame 0 _)
    have XN := Lib.hid (show Ext W3 W4 by rw [hW4]; exact Ext.set hF (by dsimp only; exact hqs5) _)
    have L5 := Lib.hid hqs5
    clear f5_0 c5_0
    clear hW4 hF hap hσ r0 r1 kc kg kf hb5 hqs5
    simp only [fin, List.filterMap]
    go_simp
    try rw [hq5]
    clear hq5
    clear ρ σ h27 h28 h29 h6 h7
    have X := Lib.hid (X.out.trans XN.out)
    have K0 := Lib.hid (K0.out.ext XN.out)
    have K1 := Lib.hid (K1.out.ext XN.out)

    clear XN y0 y1 L5
    have y0 : W4.cell? ⟨w.heap.size, 0, none⟩ = some (.slice A n ca) := K0.out.cell 0
    have y1 : W4.cell? ⟨w.heap.size + 1, 0, none⟩ = some (.slice (some ⟨b, o, none⟩) m cb) := K1.out.cell 0
    go_wp2_with (go_at_call 41; refine (HTE.out _ X.out).mono ?_; rintro e W5 ⟨rfl, hx⟩; have X := Lib.hid (X.out.trans hx); have K0 := Lib.hid (K0.out.ext hx); have K1 := Lib.hid (K1.out.ext hx); have K5 := Lib.hid (K5.out.ext hx); clear hx y0 y1; refine Hid.out ?_)
    refine Lib.hid ?_
    have y0 : W5.cell? ⟨w.heap.size, 0, none⟩ = some (.slice A n ca) := K0.out.cell 0
    have y1 : W5.cell? ⟨w.heap.size + 1, 0, none⟩ = some (.slice (some ⟨b, o, none⟩) m cb) := K1.out.cell 0
    go_wp2_with (go_at_call 25; refine (HRE.out _ X.out).mono ?_; rintro e W6 ⟨rfl, hx⟩; have X := Lib.hid (X.out.trans hx); have K0 := Lib.hid (K0.out.ext hx); have K1 := Lib.hid (K1.out.ext hx); have K5 := Lib.hid (K5.out.ext hx); clear hx y0 y1; refine Hid.out ?_)
    refine Lib.hid ?_
    have y0 : W6.cell? ⟨w.heap.size, 0, none⟩ = some (.slice A n ca) := K0.out.cell 0
    have y1 : W6.cell? ⟨w.heap.size + 1, 0, none⟩ = some (.slice (some ⟨b, o, none⟩) m cb) := K1.out.cell 0
    go_wp2_with (go_at_call 44; refine (HRC.out _ X.out).mono ?_; rintro e W7 ⟨rfl, hx⟩; have X := Lib.hid (X.out.trans hx); have K0 := Lib.hid (K0.out.ext hx); have K1 := Lib.hid (K1.out.ext hx); have K5 := Lib.hid (K5.out.ext hx); clear hx y0 y1; refine Hid.out ?_)
    refine Lib.hid ?_
    have z5 : ∀ o1, (W7.alloc o1).cell? ⟨q5, 0, none⟩ = some (.slice none 0 0) := fun o1 => (K5.out.alloc o1).cell 0
    go_wp2_with (go_at_call 43; refine (HSM.out _).mono ?_; rintro e W8 ⟨rfl, hx⟩; have X := Lib.hid ((X.out.trans (Ext.alloc _ _)).trans hx); clear hx)
    go_ret
    exact ⟨rfl, X.out⟩

set_option maxRecDepth 100000 in
set_option maxHeartbeats 8000000 in
theorem cvt_ok {A B : Option Addr} {n m ca cb : Nat} {ks : List Kn} {xs : List In} {w : World} (hn : ks.length = n) (hm : xs.length = m) (hA : RowsAt 3 Kn.enc w A ks) (hB : RowsAt 4 In.enc w B xs) (hnA : A = none → ca = 0) (hnB : B = none → cb = 0) (hz : (checkX ks).2 = 0) (hy : (checkT xs).2 = 0) (hf : (firstAt (missAt ks xs) m 0).2 = 0) : Calls Try.prog 7 #[.agg #[.slice A n ca], .agg #[.slice B m cb]] w fun e w' => e = .returned (.bool true) ∧ Ext w w' := by
  obtain ⟨n2, n12, -, -⟩ := checkX_ok hz
  obtain ⟨m2, m20, -⟩ := checkT_ok hy
  rw [hn] at n2 n12
  rw [hm] at m2 m20
  obtain ⟨b, o, rfl, -, -⟩ := row_at hB (getI (xs := xs) (i := 0) hm (by omega))
  have HFK := Lib.hid (fun W => show Calls Try.prog 33 #[.agg #[.slice A n ca]] W fun e w' => e = .returned (.bool true) ∧ Ext W w' from by
    have := fewKnots_any (A := A) (n := n) (ca := ca) W
    rw [show decide ((n : Int) ≤ 14) = true by simp; omega] at this
    exact this)
  have HFT := Lib.hid (fun W => show Calls Try.prog 14 #[.agg #[.slice (some ⟨b, o, none⟩) m cb]] W fun e w' => e = .returned (.bool true) ∧ Ext W w' from by
    have := few_any (A := some ⟨b, o, none⟩) (n := m) (ca := cb) W
    rw [show decide ((m : Int) ≤ 22) = true by simp; omega] at this
    exact this)
  have HCA := Lib.hid (fun W (e : Ext w W) => copyTable_any (ca := ca) hn (hA.ext e) (by omega) hnA)
  have HCB := Lib.hid (fun W (e : Ext w W) => copyTraverse_any (ca := cb) hm (hB.ext e) (by omega) hnB)
  have HCV := Lib.hid (fun W A2 c2 A3 c3 (h : RowsAt 3 Kn.enc W A2 ks) (h' : RowsAt 4 In.enc W A3 xs) => convT_ok (ca := c2) (cb := c3) hn hm h h' hz hy hf)
  have HRC := Lib.hid (fun W (e : Ext w W) => show Calls Try.prog 44 #[.agg #[.slice A n ca], .agg #[.slice (some ⟨b, o, none⟩) m cb]] W fun e w' => ∃ A' c', e = .returned (.tuple #[.agg #[.slice A' m c'], .int .i64 0, .int .i64 0]) ∧ RowsAt 4 In.enc w' A' (xs.map (cvI ks)) ∧ Ext W w' from
    (refConvT_any (ca := ca) (cb := cb) hn hm (hA.ext e) (hB.ext e) hz (by omega) (by omega)).mono fun e w' ⟨h, _, hx⟩ => by
      obtain ⟨A', c', h1, h2⟩ := h hf
      exact ⟨A', c', h1, h2, hx⟩)
  have HSM := Lib.hid (fun W A2 c2 A3 c3 (h : RowsAt 4 In.enc W A2 (xs.map (cvI ks))) (h' : RowsAt 4 In.enc W A3 (xs.map (cvI ks))) => sameTraverse_any (n := m) (ca := c2) (cb := c3) (by simp [hm]) h h')
  have HTE := Lib.hid (fun W (e : Ext w W) => show Calls Try.prog 41 #[.agg #[.slice A n ca]] W fun e w' => e = .returned (.int .i64 0) ∧ Ext W w' from by
    have := refTableErr_any (ca := ca) hn (by omega) (hA.ext e)
    rw [hz] at this
    exact this)
  have HRE := Lib.hid (fun W (e : Ext w W) => show Calls Try.prog 25 #[.agg #[.slice (some ⟨b, o, none⟩) m cb]] W fun e w' => e = .returned (.int .i64 0) ∧ Ext W w' from by
    have := refTraverseErr_any (ca := cb) hm (by omega) (hB.ext e)
    rw [hy] at this
    exact this)
  clear hn hm hA hB hnA hnB hz hy hf
  generalize xs.map (cvI ks) = ys at *
  have P0 := Lib.hid (show Blk ((w.alloc (.cells #[.slice A n ca] 64)).alloc (.cells #[.slice (some ⟨b, o, none⟩) m cb] 24)) w.heap.size 64 #[.slice A n ca] from (Blk.new _ _ _).alloc _)
  have P1 := Lib.hid (show Blk ((w.alloc (.cells #[.slice A n ca] 64)).alloc (.cells #[.slice (some ⟨b, o, none⟩) m cb] 24)) (w.heap.size + 1) 24 #[.slice (some ⟨b, o, none⟩) m cb] from Blk.newAt _ _ _ (by simp))
  go_enter Try.func7, Try.ntmps7
  go_wp2_with (go_at_call 13; refine (awake_any _).mono ?_; rintro e W1 ⟨rfl, hx⟩; have X := Lib.hid (((Ext.alloc _ _).trans (Ext.alloc _ _)).trans hx); have K0 := Lib.hid (P0.out.ext hx); have K1 := Lib.hid (P1.out.ext hx); clear hx; refine Hid.out ?_)
  refine Lib.hid ?_
  clear P0 P1
  have y0 : W1.cell? ⟨w.heap.size, 0, none⟩ = some (.slice A n ca) := K0.out.cell 0
  have y1 : W1.cell? ⟨w.heap.size + 1, 0, none⟩ = some (.slice (some ⟨b, o, none⟩) m cb) := K1.out.cell 0
  go_wp2_with (go_at_call 33; refine (HFK.out _).mono ?_; rintro e W2 ⟨rfl, hx⟩; have X := Lib.hid (X.out.trans hx); have K0 := Lib.hid (K0.out.ext hx); have K1 := Lib.hid (K1.out.ext hx); clear hx y0 y1; refine Hid.out ?_)
  refine Lib.hid ?_
  have y0 : W2.cell? ⟨w.heap.size, 0, none⟩ = some (.slice A n ca) := K0.out.cell 0
  have y1 : W2.cell? ⟨w.heap.size + 1, 0, none⟩ = some (.slice (some ⟨b, o, none⟩) m cb) := K1.out.cell 0
  go_wp2_with (go_at_call 14; refine (HFT.out _).mono ?_; rintro e W3 ⟨rfl, hx⟩; have X := Lib.hid (X.out.trans hx); have K0 := Lib.hid (K0.out.ext hx); have K1 := Lib.hid (K1.out.ext hx); clear hx y0 y1; refine Hid.out ?_)
  refine Lib.hid ?_
  have y0 : W3.cell? ⟨w.heap.size, 0, none⟩ = some (.slice A n ca) := K0.out.cell 0
  have y1 : W3.cell? ⟨w.heap.size + 1, 0, none⟩ = some (.slice (some ⟨b, o, none⟩) m cb) := K1.out.cell 0
  go_wp2
  refine wp_region_free [.op, .op, .op, .op, .op, .op, .op, .late (.int .i64 (0)), .late (.int .i64 (0)), .new, .store, .late (.int .i64 (0)), .late (.int .i64 (0))] [10] [5, 27] [5] [some 22, some 23, some 24, some 25, some 26, some 21, some 27, some 28, some 29, some 5, none, some 6, some 7] [[2], [22], [3], [24], [23, 25], [26], [21], [21], [21], [], [5, 27], [28], [29]]
    [Is (.agg #[.slice A n ca]), TabC n ks, Is (.agg #[.slice (some ⟨b, o, none⟩) m cb]), TrvC m xs, CvC m ys, CvC m ys, TrvC m ys, Is (.int .i64 (0)), Is (.int .i64 (0)), NewP W3.heap.size 24 #[.slice none 0 0], fun _ _ => True, Is (.int .i64 (0)), Is (.int .i64 (0))]
    (by kernel_rfl) (by kernel_rfl) (by kernel_rfl) (by kernel_rfl) (by kernel_rfl) (by kernel_rfl) (by kernel_rfl) (by kernel_rfl) (by kernel_rfl) Ext (fun W => Ext W3 W)
    (fun W _ => Ext.refl W) (fun W W' h k => h.trans k) (fun W W' h => h.size) ?_ (Ext.drew _) ?_ ?_
  · repeat (refine ⟨fun _ _ _ _ k h => (by first | exact h | exact (by first | exact IntsAt.ext h k | exact NewP.ext h k | exact TabC.ext h k | exact TrvC.ext h k | exact CvC.ext h k)), ?_⟩)
    exact trivial
  · refine ⟨?_, ?_, ?_, ?_, ?_, ?_, ?_, ?_, ?_, ?_, ?_, ?_, trivial⟩
    · intro ρ W ⟨kc, kg, kf⟩ hF hs
      obtain ⟨h0, -⟩ := hs
      replace h0 : ρ (.tmp 2) = .pointer (some ⟨w.heap.size, 0, none⟩) := h0
      have hc0 : W.cell? ⟨w.heap.size, 0, none⟩ = some (.slice A n ca) := hF.cell (by assumption)
      go_simp
      exact ⟨Ext.refl _, rfl⟩
    · intro ρ W ⟨kc, kg, kf⟩ hF hs
      obtain ⟨h0, -⟩ := hs
      replace h0 : ρ (.tmp 22) = .agg #[.slice A n ca] := h0
      go_simp
      refine (HCA.out _ (X.out.trans hF)).mono ?_; rintro e w' ⟨A2, c2, rfl, hr2, -, hx⟩; exact ⟨_, rfl, hx, A2, c2, rfl, hr2⟩
    · intro ρ W ⟨kc, kg, kf⟩ hF hs
      obtain ⟨h0, -⟩ := hs
      replace h0 : ρ (.tmp 3) = .pointer (some ⟨w.heap.size + 1, 0, none⟩) := h0
      have hc0 : W.cell? ⟨w.heap.size + 1, 0, none⟩ = some (.slice (some ⟨b, o, none⟩) m cb) := hF.cell (by assumption)
      go_simp
      exact ⟨Ext.refl _, rfl⟩
    · intro ρ W ⟨kc, kg, kf⟩ hF hs
      obtain ⟨h0, -⟩ := hs
      replace h0 : ρ (.tmp 24) = .agg #[.slice (some ⟨b, o, none⟩) m cb] := h0
      go_simp
      refine (HCB.out _ (X.out.trans hF)).mono ?_; rintro e w' ⟨A2, c2, rfl, hr2, -, hx⟩; exact ⟨_, rfl, hx, A2, c2, rfl, hr2⟩
    · intro ρ W ⟨kc, kg, kf⟩ hF hs
      obtain ⟨h0, h1, -⟩ := hs
      replace h0 : (TabC n ks) (ρ (.tmp 23)) W := h0
      replace h1 : (TrvC m xs) (ρ (.tmp 25)) W := h1
      obtain ⟨A2, c2, hv, hr2⟩ := h0
      have hv2 : ρ (.tmp 23) = .agg #[.slice A2 n c2] := hv
      clear hv
      obtain ⟨A3, c3, hv, hr3⟩ := h1
      have hv3 : ρ (.tmp 25) = .agg #[.slice A3 m c3] := hv
      clear hv
      go_simp
      refine (HCV.out _ _ _ _ _ hr2 hr3).mono ?_; rintro e w' ⟨A4, c4, rfl, hr4, hx⟩; exact ⟨_, rfl, hx, A4, c4, rfl, hr4⟩
    · intro ρ W ⟨kc, kg, kf⟩ hF hs
      obtain ⟨h0, -⟩ := hs
      replace h0 : (CvC m ys) (ρ (.tmp 26)) W := h0
      go_simp
      first | exact ⟨Ext.refl _, h0⟩ | exact Ext.refl _
    · intro ρ W ⟨kc, kg, kf⟩ hF hs
      obtain ⟨h0, -⟩ := hs
      replace h0 : (CvC m ys) (ρ (.tmp 21)) W := h0
      obtain ⟨A4, c4, hv, hr4⟩ := h0
      have hv4 : ρ (.tmp 21) = .tuple #[.agg #[.slice A4 m c4], .int .i64 0, .int .i64 0] := hv
      clear hv
      go_simp
      exact ⟨Ext.refl _, _, _, rfl, hr4⟩
    · refine ⟨rfl, fun ρ W ⟨kc, kg, kf⟩ hF hs W' => ?_⟩
      obtain ⟨h0, -⟩ := hs
      replace h0 : (CvC m ys) (ρ (.tmp 21)) W := h0
      obtain ⟨A4, c4, hv, hr4⟩ := h0
      have hv4 : ρ (.tmp 21) = .tuple #[.agg #[.slice A4 m c4], .int .i64 0, .int .i64 0] := hv
      clear hv
      go_simp
    · refine ⟨rfl, fun ρ W ⟨kc, kg, kf⟩ hF hs W' => ?_⟩
      obtain ⟨h0, -⟩ := hs
      replace h0 : (CvC m ys) (ρ (.tmp 21)) W := h0
      obtain ⟨A4, c4, hv, hr4⟩ := h0
      have hv4 : ρ (.tmp 21) = .tuple #[.agg #[.slice A4 m c4], .int .i64 0, .int .i64 0] := hv
      clear hv
      go_simp
    · intro ρ W ⟨kc, kg, kf⟩ hF hs
      exact ⟨W.alloc (.cells #[.slice none 0 0] 24), (by go_simp), by simp, Ext.alloc _ _, _, rfl, hF.size, Blk.new _ _ _⟩
    · refine ⟨rfl, fun ρ W ⟨kc, kg, kf⟩ hF hs W' => ?_⟩
      obtain ⟨h0, -⟩ := hs
      replace h0 : ρ (.tmp 28) = .int .i64 (0) := h0
      go_simp
    · refine ⟨rfl, fun ρ W ⟨kc, kg, kf⟩ hF hs W' => ?_⟩
      obtain ⟨h0, -⟩ := hs
      replace h0 : ρ (.tmp 29) = .int .i64 (0) := h0
      go_simp
  · intro fv U hF hs hap σ hσ ρ ⟨kc, kg, kf⟩ hr
    obtain ⟨-, -, -, -, -, -, h27, h28, h29, h5, h6, h7, -⟩ := hs
    replace h27 : (TrvC m ys) (fv 27) U := h27
    replace h28 : fv 28 = .int .i64 (0) := h28
    replace h29 : fv 29 = .int .i64 (0) := h29
    replace h5 : (NewP W3.heap.size 24 #[.slice none 0 0]) (fv 5) U := h5
    replace h6 : fv 6 = .int .i64 (0) := h6
    replace h7 : fv 7 = .int .i64 (0) := h7
    obtain ⟨r0, r1, -⟩ := hr
    replace r0 : ρ (.tmp 5) = fv 5 := r0
    replace r1 : ρ (.tmp 27) = fv 27 := r1
    obtain ⟨A4, c4, hv27, hr27⟩ := h27
    rw [hv27] at r1
    obtain ⟨q5, hq5, hqs5, hb5⟩ := h5
    rw [hq5] at r0
    have f5_0 := hb5.free 0
    have c5_0 : U.cell? ⟨q5, 0, none⟩ = some (.slice none 0 0) := hb5.cell 0
    refine stores_one _ rfl hσ (U.setCell ⟨q5, 0, none⟩ (.slice A4 m c4)) (by go_simp) ?_
    obtain ⟨W4, hW4⟩ : ∃ Vx, Vx = U.setCell ⟨q5, 0, none⟩ (.slice A4 m c4) := ⟨_, rfl⟩
    rw [← hW4]
    have K5 := Lib.hid (show Blk W4 q5 24 #[.slice A4 m c4] by rw [hW4]; exact hb5.setSame 0 _)
    have XN := Lib.hid (show Ext W3 W4 by rw [hW4]; exact Ext.set hF (by dsimp only; exact hqs5) _)
    have L5 := Lib.hid hqs5
    have HR5 := Lib.hid (show RowsAt 4 In.enc W4 A4 ys by rw [hW4]; exact rows_fresh hr27 hb5 _)
    have HV27 := Lib.hid hv27
    clear hr27 hv27
    clear f5_0 c5_0
    clear hW4 hF hap hσ r0 r1 kc kg kf hb5 hqs5
    simp only [fin, List.filterMap]
    go_simp
    try rw [hq5]
    clear hq5
    clear ρ σ h28 h29 h6 h7
    have X := Lib.hid (X.out.trans XN.out)
    have K0 := Lib.hid (K0.out.ext XN.out)
    have K1 := Lib.hid (K1.out.ext XN.out)

    clear XN y0 y1 L5
    have y0 : W4.cell? ⟨w.heap.size, 0, none⟩ = some (.slice A n ca) := K0.out.cell 0
    have y1 : W4.cell? ⟨w.heap.size + 1, 0, none⟩ = some (.slice (some ⟨b, o, none⟩) m cb) := K1.out.cell 0
    go_wp2_with (go_at_call 41; refine (HTE.out _ X.out).mono ?_; rintro e W5 ⟨rfl, hx⟩; have X := Lib.hid (X.out.trans hx); have K0 := Lib.hid (K0.out.ext hx); have K1 := Lib.hid (K1.out.ext hx); have K5 := Lib.hid (K5.out.ext hx); have HR5 := Lib.hid (HR5.out.ext hx); clear hx y0 y1; refine Hid.out ?_)
    refine Lib.hid ?_
    have y0 : W5.cell? ⟨w.heap.size, 0, none⟩ = some (.slice A n ca) := K0.out.cell 0
    have y1 : W5.cell? ⟨w.heap.size + 1, 0, none⟩ = some (.slice (some ⟨b, o, none⟩) m cb) := K1.out.cell 0
    go_wp2_with (go_at_call 25; refine (HRE.out _ X.out).mono ?_; rintro e W6 ⟨rfl, hx⟩; have X := Lib.hid (X.out.trans hx); have K0 := Lib.hid (K0.out.ext hx); have K1 := Lib.hid (K1.out.ext hx); have K5 := Lib.hid (K5.out.ext hx); have HR5 := Lib.hid (HR5.out.ext hx); clear hx y0 y1; refine Hid.out ?_)
    refine Lib.hid ?_
    have y0 : W6.cell? ⟨w.heap.size, 0, none⟩ = some (.slice A n ca) := K0.out.cell 0
    have y1 : W6.cell? ⟨w.heap.size + 1, 0, none⟩ = some (.slice (some ⟨b, o, none⟩) m cb) := K1.out.cell 0
    go_wp2_with (go_at_call 44; refine (HRC.out _ X.out).mono ?_; rintro e W7 ⟨A5, c5, rfl, hr5, hx⟩; have X := Lib.hid (X.out.trans hx); have K0 := Lib.hid (K0.out.ext hx); have K1 := Lib.hid (K1.out.ext hx); have K5 := Lib.hid (K5.out.ext hx); have HR5 := Lib.hid (HR5.out.ext hx); have HR9 := Lib.hid hr5; clear hr5; clear hx y0 y1; refine Hid.out ?_)
    refine Lib.hid ?_
    have z5 : ∀ o1, (W7.alloc o1).cell? ⟨q5, 0, none⟩ = some (.slice A4 m c4) := fun o1 => (K5.out.alloc o1).cell 0
    go_wp2_with (go_at_call 43; refine (HSM.out _ _ _ _ _ (HR5.out.ext (Ext.alloc _ _)) (HR9.out.ext (Ext.alloc _ _))).mono ?_; rintro e W8 ⟨rfl, hx⟩; have X := Lib.hid ((X.out.trans (Ext.alloc _ _)).trans hx); clear hx)
    go_ret
    exact ⟨rfl, X.out⟩

theorem cvt_any {A B : Option Addr} {n m ca cb : Nat} {ks : List Kn} {xs : List In} {w : World} (hnA : A = none → ca = 0) (hnB : B = none → cb = 0) (hn : ks.length = n) (hm : xs.length = m) (hA : n ≤ 1000 → RowsAt 3 Kn.enc w A ks) (hB : m ≤ 1000 → RowsAt 4 In.enc w B xs) : Calls Try.prog 7 #[.agg #[.slice A n ca], .agg #[.slice B m cb]] w fun e w' => e = .returned (.bool true) ∧ Ext w w' := by
  rcases Nat.lt_or_ge 14 n with h | h
  · exact cvt_fewA h
  · rcases Nat.lt_or_ge 22 m with h' | h'
    · exact cvt_fewB h h'
    · have hA := hA (by omega)
      have hB := hB (by omega)
      by_cases hz : (checkX ks).2 = 0
      · by_cases hy : (checkT xs).2 = 0
        · by_cases hf : (firstAt (missAt ks xs) m 0).2 = 0
          · exact cvt_ok hn hm hA hB hnA hnB hz hy hf
          · exact cvt_miss hn hm hA hB hnA hnB hz hy hf
        · exact cvt_badT hn hm hA hB hnA hnB h h' hz hy
      · exact cvt_badX hn hm hA hB hnA hnB h h' hz

end Go.Proofs.Ytmddnpagfgilcaa
