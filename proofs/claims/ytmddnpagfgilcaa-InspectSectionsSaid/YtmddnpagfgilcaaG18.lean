/- Sections: AgreedOf. -/
import Derived.Test.YtmddnpagfgilcaaG17
import Derived.Lib.MinMax
import Derived.Deep.DeepCutAuto

namespace Go.Proofs.Ytmddnpagfgilcaa
open Go.RowKit Go.Shelf Go.Mem Go.RegInv
attribute [local go_sem] RelUpon_value RelUpon_skip RelUpon_enter BigFrame.eval_const BigFrame.eval_global BigFrame.eval_func


def RgC (k : Nat) (ys : List (Int × Int)) : Value → World → Prop := fun u W => ∃ A2 c2, u = .slice A2 k c2 ∧ RowsAt 2 frEnc W A2 ys
theorem RgC.ext {k : Nat} {ys : List (Int × Int)} {u : Value} {W W' : World} (h : RgC k ys u W) (e : Ext W W') : RgC k ys u W' := by
  obtain ⟨A2, c2, hv, hr⟩ := h
  exact ⟨A2, c2, hv, hr.ext e⟩
theorem rows_drop {W : World} {b o : Nat} {xs : List (Int × Int)} (h : RowsAt 2 frEnc W (some ⟨b, o, none⟩) xs) (l : Nat) : RowsAt 2 frEnc W (some ⟨b, o + l * 2, none⟩) (xs.drop l) :=
  ⟨by have := h.1; simp; omega, fun i x hx => by
    rw [List.getElem?_drop] at hx
    obtain ⟨b', o', he, hb, hc⟩ := h.2 _ x hx
    obtain ⟨rfl, rfl⟩ : b = b' ∧ o = o' := by simpa using he
    exact ⟨b, o + l * 2, rfl, hb, fun j u hu => by
      have := hc j u hu
      rw [show o + l * 2 + i * 2 + j = o + (l + i) * 2 + j by omega]; exact this⟩⟩
theorem rows_nil (W : World) (A : Option Addr) : RowsAt 2 frEnc W A [] := ⟨by simp, fun i x hx => by simp at hx⟩
theorem rows_tail {W : World} {b o n c l : Nat} {xs : List (Int × Int)} (hn : xs.length = n) (h : RowsAt 2 frEnc W (some ⟨b, o, none⟩) xs) (hc : n ≤ c) : RowsAt 2 frEnc W (some (if c = l then ⟨b, o, none⟩ else ⟨b, o + l * 2, none⟩)) (xs.drop l) := by
  by_cases he : c = l
  · rw [List.drop_of_length_le (by omega)]; exact rows_nil _ _
  · rw [if_neg he]; exact rows_drop h l

set_option maxRecDepth 100000 in
set_option maxHeartbeats 4000000 in
theorem agreedOf_bad {A : Option Addr} {n ca : Nat} {xs : List (Int × Int)} {w : World} (hn : xs.length = n) (hA : RowsAt 2 frEnc w A xs) (hz : rngE xs ≠ 0) :
    Calls Try.prog 46 #[.slice A n ca] w fun e w' => e = .returned (.tuple #[.agg #[.int .i64 0, .int .i64 0], .int .i64 (rngE xs)]) ∧ Ext w w' := by
  have HR := Lib.hid (fun W (e : Ext w W) => rangesError_any (ca := ca) hn (hA.ext e))
  generalize rngE xs = rz at *
  have hz2 : (rz != 0) = true := by simp [hz]
  have P1 := Lib.hid (Blk.new w 41 #[.int .i64 0, .int .i64 0])
  clear hn hA hz
  go_enter Try.func46, Try.ntmps46
  go_wp2_with (go_at_call 99; refine (HR.out _ (Ext.alloc _ _)).mono ?_; rintro e W1 ⟨rfl, hx⟩; have K1 := Lib.hid (P1.out.ext hx); have X := Lib.hid ((Ext.alloc _ _).trans hx); clear hx; refine Hid.out ?_)
  refine Lib.hid ?_
  have c0 : W1.cell? ⟨w.heap.size, 0, none⟩ = some (.int .i64 0) := K1.out.cell 0
  have c1 : W1.cell? ⟨w.heap.size, 1, none⟩ = some (.int .i64 0) := K1.out.cell 1
  have f0 := K1.out.free 0
  have f1 := K1.out.free 1
  go_wp2
  exact bodyPost_ret (v := .tuple #[.agg #[.int .i64 0, .int .i64 0], .int .i64 rz]) (by simp [results, Try.f46, go_sem, c0, c1]) rfl ⟨rfl, Ext.set (Ext.set X.out (Nat.le_refl _) _) (Nat.le_refl _) _⟩

set_option maxRecDepth 100000 in
set_option maxHeartbeats 4000000 in
theorem agreedOf_clash {b1 o1 : Nat} {n ca : Nat} {xs : List (Int × Int)} {w : World} (hn : xs.length = n) (hA : RowsAt 2 frEnc w (some ⟨b1, o1, none⟩) xs) (hc : n ≤ ca) (hz : rngE xs = 0) (hk : ¬ (comK (xs.getD 0 default) (xs.drop 1)).1 ≤ (comK (xs.getD 0 default) (xs.drop 1)).2) :
    Calls Try.prog 46 #[.slice (some ⟨b1, o1, none⟩) n ca] w fun e w' => e = .returned (.tuple #[.agg #[.int .i64 0, .int .i64 0], .int .i64 13]) ∧ Ext w w' := by
  obtain ⟨m1, m12, -⟩ := rngE_ok hz
  rw [hn] at m1 m12
  have HR := Lib.hid (fun W (e : Ext w W) => show Calls Try.prog 99 #[.slice (some ⟨b1, o1, none⟩) n ca] W fun e w' => e = .returned (.int .i64 0) ∧ Ext W w' from by
    have := rangesError_any (ca := ca) hn (hA.ext e)
    rw [hz] at this
    exact this)
  have HCO := Lib.hid (fun W A2 c2 (h : RowsAt 2 frEnc W A2 (xs.drop 1)) => show Calls Try.prog 100 #[.agg #[.int .i64 (xs.getD 0 default).1, .int .i64 (xs.getD 0 default).2], .slice A2 (n - 1) c2] W fun e w' => e = .returned (.tuple #[.agg #[.int .i64 (comK (xs.getD 0 default) (xs.drop 1)).1, .int .i64 (comK (xs.getD 0 default) (xs.drop 1)).2], .bool false]) ∧ Ext W w' from by
    have := common_any (n := n - 1) (ca := c2) (xs.getD 0 default).1 (xs.getD 0 default).2 (by simp [hn]) h
    rw [show decide ((comK (xs.getD 0 default) (xs.drop 1)).1 ≤ (comK (xs.getD 0 default) (xs.drop 1)).2) = false by simp only [decide_eq_false_iff_not]; exact hk] at this
    exact this)
  generalize comK (xs.getD 0 default) (xs.drop 1) = cv at *
  obtain ⟨x0, hx0⟩ : ∃ x0, x0 = xs.getD 0 default := ⟨_, rfl⟩
  have g0 : xs[0]? = some x0 := by rw [hx0, List.getD_eq_getElem?_getD, List.getElem?_eq_getElem (by omega)]; rfl
  rw [← hx0] at HCO
  obtain ⟨b2, o2, he, hbl, hcc⟩ := row_at hA g0
  obtain ⟨rfl, rfl⟩ : b1 = b2 ∧ o1 = o2 := by simpa using he
  have P0 := Lib.hid (show w.cell? ⟨b1, o1, none⟩ = some (.int .i64 x0.1) by have := hcc 0 _ rfl; simpa using this)
  have P1 := Lib.hid (show w.cell? ⟨b1, o1 + 1, none⟩ = some (.int .i64 x0.2) by have := hcc 1 _ rfl; simpa using this)
  have HT := Lib.hid (fun W (e : Ext w W) => rows_tail (l := 1) hn (hA.ext e) hc)
  have HA := Lib.hid hA
  have HN := Lib.hid hn
  clear hn hA hz hk hx0 he hcc g0 hbl
  have PB := Lib.hid (Blk.new w 41 #[.int .i64 0, .int .i64 0])
  go_enter Try.func46, Try.ntmps46
  go_wp2_with (go_at_call 99; refine (HR.out _ (Ext.alloc _ _)).mono ?_; rintro e W1 ⟨rfl, hx⟩; have K1 := Lib.hid (PB.out.ext hx); have X := Lib.hid ((Ext.alloc _ _).trans hx); clear hx; refine Hid.out ?_)
  refine Lib.hid ?_
  have p0 := X.out.cell P0.out
  have p1 := X.out.cell P1.out
  go_wp2
  refine wp_region_free [.op, .op, .op, .op, .op, .op, .op, .op, .late (.bool (false)), .new, .store, .late (.bool (false))] [10] [5, 20] [5] [some 14, some 15, some 16, some 17, some 18, some 19, some 13, some 20, some 21, some 5, none, some 6] [[0], [14], [15], [0], [17], [16, 18], [19], [13], [13], [], [5, 20], [21]]
    [Is (.slice (some ⟨b1, o1, none⟩) n ca), Is (.pointer (some ⟨b1, o1, none⟩)), Is (.agg #[.int .i64 (x0.1), .int .i64 (x0.2)]), Is (.slice (some ⟨b1, o1, none⟩) n ca), RgC (n - 1) (xs.drop 1), Is (.tuple #[.agg #[.int .i64 cv.1, .int .i64 cv.2], .bool false]), Is (.tuple #[.agg #[.int .i64 cv.1, .int .i64 cv.2], .bool false]), Is (.agg #[.int .i64 cv.1, .int .i64 cv.2]), Is (.bool (false)), NewP W1.heap.size 41 #[.int .i64 0, .int .i64 0], fun _ _ => True, Is (.bool (false))]
    (by kernel_rfl) (by kernel_rfl) (by kernel_rfl) (by kernel_rfl) (by kernel_rfl) (by kernel_rfl) (by kernel_rfl) (by kernel_rfl) (by kernel_rfl) Ext (fun W => Ext W1 W)
    (fun W _ => Ext.refl W) (fun W W' h k => h.trans k) (fun W W' h => h.size) ?_ (Ext.drew _) ?_ ?_
  · repeat (refine ⟨fun _ _ _ _ k h => (by first | exact h | exact (by first | exact IntsAt.ext h k | exact NewP.ext h k | exact RgC.ext h k)), ?_⟩)
    exact trivial
  · refine ⟨?_, ?_, ?_, ?_, ?_, ?_, ?_, ?_, ?_, ?_, ?_, trivial⟩
    · intro ρ W ⟨kc, kg, kf⟩ hF hs
      obtain ⟨h0, -⟩ := hs
      replace h0 : ρ (.tmp 0) = .slice (some ⟨b1, o1, none⟩) n ca := h0
      go_simp
      exact ⟨Ext.refl _, rfl⟩
    · intro ρ W ⟨kc, kg, kf⟩ hF hs
      obtain ⟨h0, -⟩ := hs
      replace h0 : ρ (.tmp 14) = .slice (some ⟨b1, o1, none⟩) n ca := h0
      have hb2 : (0 : Int) < (n : Int) := by omega
      have hb3 : 0 < n := by omega
      go_simp
      exact ⟨Ext.refl _, rfl⟩
    · intro ρ W ⟨kc, kg, kf⟩ hF hs
      obtain ⟨h0, -⟩ := hs
      replace h0 : ρ (.tmp 15) = .pointer (some ⟨b1, o1, none⟩) := h0
      have hc0 : W.cell? ⟨b1, o1, none⟩ = some (.int .i64 (x0.1)) := hF.cell (by assumption)
      have hc1 : W.cell? ⟨b1, o1 + 1, none⟩ = some (.int .i64 (x0.2)) := hF.cell (by assumption)
      go_simp
      exact ⟨Ext.refl _, rfl⟩
    · intro ρ W ⟨kc, kg, kf⟩ hF hs
      obtain ⟨h0, -⟩ := hs
      replace h0 : ρ (.tmp 0) = .slice (some ⟨b1, o1, none⟩) n ca := h0
      go_simp
      exact ⟨Ext.refl _, rfl⟩
    · intro ρ W ⟨kc, kg, kf⟩ hF hs
      obtain ⟨h0, -⟩ := hs
      replace h0 : ρ (.tmp 17) = .slice (some ⟨b1, o1, none⟩) n ca := h0
      have hn1i : (1 : Int) ≤ (n : Int) := by omega
      by_cases hca : ca = 1
      · have hT := HT.out W (X.out.trans hF)
        simp only [hca, if_true] at hT
        go_simp
        exact ⟨Ext.refl _, _, _, rfl, by simpa using hT⟩
      · have hT := HT.out W (X.out.trans hF)
        rw [if_neg hca] at hT
        go_simp
        exact ⟨Ext.refl _, _, _, rfl, by simpa using hT⟩
    · intro ρ W ⟨kc, kg, kf⟩ hF hs
      obtain ⟨h0, h1, -⟩ := hs
      replace h0 : ρ (.tmp 16) = .agg #[.int .i64 (x0.1), .int .i64 (x0.2)] := h0
      replace h1 : (RgC (n - 1) (xs.drop 1)) (ρ (.tmp 18)) W := h1
      obtain ⟨A2, c2, hv, hr2⟩ := h1
      have hv2 : ρ (.tmp 18) = .slice A2 (n - 1) c2 := hv
      clear hv
      go_simp
      refine (HCO.out _ _ _ hr2).mono ?_; rintro e w' ⟨rfl, hx⟩; exact ⟨_, rfl, hx, rfl⟩
    · intro ρ W ⟨kc, kg, kf⟩ hF hs
      obtain ⟨h0, -⟩ := hs
      replace h0 : ρ (.tmp 19) = .tuple #[.agg #[.int .i64 cv.1, .int .i64 cv.2], .bool false] := h0
      go_simp
      exact ⟨Ext.refl _, rfl⟩
    · intro ρ W ⟨kc, kg, kf⟩ hF hs
      obtain ⟨h0, -⟩ := hs
      replace h0 : ρ (.tmp 13) = .tuple #[.agg #[.int .i64 cv.1, .int .i64 cv.2], .bool false] := h0
      go_simp
      exact ⟨Ext.refl _, rfl⟩
    · refine ⟨rfl, fun ρ W ⟨kc, kg, kf⟩ hF hs W' => ?_⟩
      obtain ⟨h0, -⟩ := hs
      replace h0 : ρ (.tmp 13) = .tuple #[.agg #[.int .i64 cv.1, .int .i64 cv.2], .bool false] := h0
      go_simp
    · intro ρ W ⟨kc, kg, kf⟩ hF hs
      exact ⟨W.alloc (.cells #[.int .i64 0, .int .i64 0] 41), (by go_simp), by simp, Ext.alloc _ _, _, rfl, hF.size, Blk.new _ _ _⟩
    · refine ⟨rfl, fun ρ W ⟨kc, kg, kf⟩ hF hs W' => ?_⟩
      obtain ⟨h0, -⟩ := hs
      replace h0 : ρ (.tmp 21) = .bool (false) := h0
      go_simp
  · intro fv U hF hs hap σ hσ ρ ⟨kc, kg, kf⟩ hr
    obtain ⟨-, -, -, -, -, -, -, h20, h21, h5, h6, -⟩ := hs
    replace h20 : fv 20 = .agg #[.int .i64 cv.1, .int .i64 cv.2] := h20
    replace h21 : fv 21 = .bool (false) := h21
    replace h5 : (NewP W1.heap.size 41 #[.int .i64 0, .int .i64 0]) (fv 5) U := h5
    replace h6 : fv 6 = .bool (false) := h6
    obtain ⟨r0, r1, -⟩ := hr
    replace r0 : ρ (.tmp 5) = fv 5 := r0
    replace r1 : ρ (.tmp 20) = .agg #[.int .i64 cv.1, .int .i64 cv.2] := r1.trans h20
    obtain ⟨q5, hq5, hqs5, hb5⟩ := h5
    rw [hq5] at r0
    have f5_0 := hb5.free 0
    have c5_0 : U.cell? ⟨q5, 0, none⟩ = some (.int .i64 0) := hb5.cell 0
    have f5_1 := hb5.free 1
    have c5_1 : U.cell? ⟨q5, 1, none⟩ = some (.int .i64 0) := hb5.cell 1
    refine stores_one _ rfl hσ ((U.setCell ⟨q5, 0, none⟩ (.int .i64 cv.1)).setCell ⟨q5, 1, none⟩ (.int .i64 cv.2)) (by go_simp) ?_
    obtain ⟨V, hV⟩ : ∃ Vx, Vx = (U.setCell ⟨q5, 0, none⟩ (.int .i64 cv.1)).setCell ⟨q5, 1, none⟩ (.int .i64 cv.2) := ⟨_, rfl⟩
    rw [← hV]
    have K5 := Lib.hid (show Blk V q5 41 #[.int .i64 cv.1, .int .i64 cv.2] by rw [hV]; exact (hb5.setSame 0 _).setSame 1 _)
    have XN := Lib.hid (show Ext W1 V by rw [hV]; exact Ext.set (Ext.set hF (by dsimp only; exact hqs5) _) (by dsimp only; exact hqs5) _)
    have L5 := Lib.hid hqs5
    clear f5_0 c5_0 f5_1 c5_1
    clear hV hF hap hσ r0 r1 kc kg kf hb5 hqs5
    simp only [fin, List.filterMap]
    go_simp
    try rw [hq5]
    clear hq5
    clear ρ σ h20 h21 h6
    have X := Lib.hid (X.out.trans XN.out)
    have K1 := Lib.hid (K1.out.ext XN.out)
    have l0 : V.cell? ⟨q5, 0, none⟩ = some (.int .i64 cv.1) := K5.out.cell 0
    have l1 : V.cell? ⟨q5, 1, none⟩ = some (.int .i64 cv.2) := K5.out.cell 1
    have c0 : V.cell? ⟨w.heap.size, 0, none⟩ = some (.int .i64 0) := K1.out.cell 0
    have c1 : V.cell? ⟨w.heap.size, 1, none⟩ = some (.int .i64 0) := K1.out.cell 1
    have f0 := K1.out.free 0
    have f1 := K1.out.free 1
    clear XN p0 p1 L5
    go_wp2
    exact bodyPost_ret (v := .tuple #[.agg #[.int .i64 0, .int .i64 0], .int .i64 13]) (by simp [results, Try.f46, go_sem, c0, c1]) rfl ⟨rfl, Ext.set (Ext.set X.out (Nat.le_refl _) _) (Nat.le_refl _) _⟩

set_option maxRecDepth 100000 in
set_option maxHeartbeats 4000000 in
theorem agreedOf_ok {b1 o1 : Nat} {n ca : Nat} {xs : List (Int × Int)} {w : World} (hn : xs.length = n) (hA : RowsAt 2 frEnc w (some ⟨b1, o1, none⟩) xs) (hc : n ≤ ca) (hz : rngE xs = 0) (hk : (comK (xs.getD 0 default) (xs.drop 1)).1 ≤ (comK (xs.getD 0 default) (xs.drop 1)).2) :
    Calls Try.prog 46 #[.slice (some ⟨b1, o1, none⟩) n ca] w fun e w' => e = .returned (.tuple #[.agg #[.int .i64 (comK (xs.getD 0 default) (xs.drop 1)).1, .int .i64 (comK (xs.getD 0 default) (xs.drop 1)).2], .int .i64 0]) ∧ Ext w w' := by
  obtain ⟨m1, m12, -⟩ := rngE_ok hz
  rw [hn] at m1 m12
  have HR := Lib.hid (fun W (e : Ext w W) => show Calls Try.prog 99 #[.slice (some ⟨b1, o1, none⟩) n ca] W fun e w' => e = .returned (.int .i64 0) ∧ Ext W w' from by
    have := rangesError_any (ca := ca) hn (hA.ext e)
    rw [hz] at this
    exact this)
  have HCO := Lib.hid (fun W A2 c2 (h : RowsAt 2 frEnc W A2 (xs.drop 1)) => show Calls Try.prog 100 #[.agg #[.int .i64 (xs.getD 0 default).1, .int .i64 (xs.getD 0 default).2], .slice A2 (n - 1) c2] W fun e w' => e = .returned (.tuple #[.agg #[.int .i64 (comK (xs.getD 0 default) (xs.drop 1)).1, .int .i64 (comK (xs.getD 0 default) (xs.drop 1)).2], .bool true]) ∧ Ext W w' from by
    have := common_any (n := n - 1) (ca := c2) (xs.getD 0 default).1 (xs.getD 0 default).2 (by simp [hn]) h
    rw [show decide ((comK (xs.getD 0 default) (xs.drop 1)).1 ≤ (comK (xs.getD 0 default) (xs.drop 1)).2) = true by simp only [decide_eq_true_eq]; exact hk] at this
    exact this)
  generalize comK (xs.getD 0 default) (xs.drop 1) = cv at *
  obtain ⟨x0, hx0⟩ : ∃ x0, x0 = xs.getD 0 default := ⟨_, rfl⟩
  have g0 : xs[0]? = some x0 := by rw [hx0, List.getD_eq_getElem?_getD, List.getElem?_eq_getElem (by omega)]; rfl
  rw [← hx0] at HCO
  obtain ⟨b2, o2, he, hbl, hcc⟩ := row_at hA g0
  obtain ⟨rfl, rfl⟩ : b1 = b2 ∧ o1 = o2 := by simpa using he
  have P0 := Lib.hid (show w.cell? ⟨b1, o1, none⟩ = some (.int .i64 x0.1) by have := hcc 0 _ rfl; simpa using this)
  have P1 := Lib.hid (show w.cell? ⟨b1, o1 + 1, none⟩ = some (.int .i64 x0.2) by have := hcc 1 _ rfl; simpa using this)
  have HT := Lib.hid (fun W (e : Ext w W) => rows_tail (l := 1) hn (hA.ext e) hc)
  have HA := Lib.hid hA
  have HN := Lib.hid hn
  clear hn hA hz hk hx0 he hcc g0 hbl
  have PB := Lib.hid (Blk.new w 41 #[.int .i64 0, .int .i64 0])
  go_enter Try.func46, Try.ntmps46
  go_wp2_with (go_at_call 99; refine (HR.out _ (Ext.alloc _ _)).mono ?_; rintro e W1 ⟨rfl, hx⟩; have K1 := Lib.hid (PB.out.ext hx); have X := Lib.hid ((Ext.alloc _ _).trans hx); clear hx; refine Hid.out ?_)
  refine Lib.hid ?_
  have p0 := X.out.cell P0.out
  have p1 := X.out.cell P1.out
  go_wp2
  refine wp_region_free [.op, .op, .op, .op, .op, .op, .op, .op, .late (.bool (true)), .new, .store, .late (.bool (true))] [10] [5, 20] [5] [some 14, some 15, some 16, some 17, some 18, some 19, some 13, some 20, some 21, some 5, none, some 6] [[0], [14], [15], [0], [17], [16, 18], [19], [13], [13], [], [5, 20], [21]]
    [Is (.slice (some ⟨b1, o1, none⟩) n ca), Is (.pointer (some ⟨b1, o1, none⟩)), Is (.agg #[.int .i64 (x0.1), .int .i64 (x0.2)]), Is (.slice (some ⟨b1, o1, none⟩) n ca), RgC (n - 1) (xs.drop 1), Is (.tuple #[.agg #[.int .i64 cv.1, .int .i64 cv.2], .bool true]), Is (.tuple #[.agg #[.int .i64 cv.1, .int .i64 cv.2], .bool true]), Is (.agg #[.int .i64 cv.1, .int .i64 cv.2]), Is (.bool (true)), NewP W1.heap.size 41 #[.int .i64 0, .int .i64 0], fun _ _ => True, Is (.bool (true))]
    (by kernel_rfl) (by kernel_rfl) (by kernel_rfl) (by kernel_rfl) (by kernel_rfl) (by kernel_rfl) (by kernel_rfl) (by kernel_rfl) (by kernel_rfl) Ext (fun W => Ext W1 W)
    (fun W _ => Ext.refl W) (fun W W' h k => h.trans k) (fun W W' h => h.size) ?_ (Ext.drew _) ?_ ?_
  · repeat (refine ⟨fun _ _ _ _ k h => (by first | exact h | exact (by first | exact IntsAt.ext h k | exact NewP.ext h k | exact RgC.ext h k)), ?_⟩)
    exact trivial
  · refine ⟨?_, ?_, ?_, ?_, ?_, ?_, ?_, ?_, ?_, ?_, ?_, trivial⟩
    · intro ρ W ⟨kc, kg, kf⟩ hF hs
      obtain ⟨h0, -⟩ := hs
      replace h0 : ρ (.tmp 0) = .slice (some ⟨b1, o1, none⟩) n ca := h0
      go_simp
      exact ⟨Ext.refl _, rfl⟩
    · intro ρ W ⟨kc, kg, kf⟩ hF hs
      obtain ⟨h0, -⟩ := hs
      replace h0 : ρ (.tmp 14) = .slice (some ⟨b1, o1, none⟩) n ca := h0
      have hb2 : (0 : Int) < (n : Int) := by omega
      have hb3 : 0 < n := by omega
      go_simp
      exact ⟨Ext.refl _, rfl⟩
    · intro ρ W ⟨kc, kg, kf⟩ hF hs
      obtain ⟨h0, -⟩ := hs
      replace h0 : ρ (.tmp 15) = .pointer (some ⟨b1, o1, none⟩) := h0
      have hc0 : W.cell? ⟨b1, o1, none⟩ = some (.int .i64 (x0.1)) := hF.cell (by assumption)
      have hc1 : W.cell? ⟨b1, o1 + 1, none⟩ = some (.int .i64 (x0.2)) := hF.cell (by assumption)
      go_simp
      exact ⟨Ext.refl _, rfl⟩
    · intro ρ W ⟨kc, kg, kf⟩ hF hs
      obtain ⟨h0, -⟩ := hs
      replace h0 : ρ (.tmp 0) = .slice (some ⟨b1, o1, none⟩) n ca := h0
      go_simp
      exact ⟨Ext.refl _, rfl⟩
    · intro ρ W ⟨kc, kg, kf⟩ hF hs
      obtain ⟨h0, -⟩ := hs
      replace h0 : ρ (.tmp 17) = .slice (some ⟨b1, o1, none⟩) n ca := h0
      have hn1i : (1 : Int) ≤ (n : Int) := by omega
      by_cases hca : ca = 1
      · have hT := HT.out W (X.out.trans hF)
        simp only [hca, if_true] at hT
        go_simp
        exact ⟨Ext.refl _, _, _, rfl, by simpa using hT⟩
      · have hT := HT.out W (X.out.trans hF)
        rw [if_neg hca] at hT
        go_simp
        exact ⟨Ext.refl _, _, _, rfl, by simpa using hT⟩
    · intro ρ W ⟨kc, kg, kf⟩ hF hs
      obtain ⟨h0, h1, -⟩ := hs
      replace h0 : ρ (.tmp 16) = .agg #[.int .i64 (x0.1), .int .i64 (x0.2)] := h0
      replace h1 : (RgC (n - 1) (xs.drop 1)) (ρ (.tmp 18)) W := h1
      obtain ⟨A2, c2, hv, hr2⟩ := h1
      have hv2 : ρ (.tmp 18) = .slice A2 (n - 1) c2 := hv
      clear hv
      go_simp
      refine (HCO.out _ _ _ hr2).mono ?_; rintro e w' ⟨rfl, hx⟩; exact ⟨_, rfl, hx, rfl⟩
    · intro ρ W ⟨kc, kg, kf⟩ hF hs
      obtain ⟨h0, -⟩ := hs
      replace h0 : ρ (.tmp 19) = .tuple #[.agg #[.int .i64 cv.1, .int .i64 cv.2], .bool true] := h0
      go_simp
      exact ⟨Ext.refl _, rfl⟩
    · intro ρ W ⟨kc, kg, kf⟩ hF hs
      obtain ⟨h0, -⟩ := hs
      replace h0 : ρ (.tmp 13) = .tuple #[.agg #[.int .i64 cv.1, .int .i64 cv.2], .bool true] := h0
      go_simp
      exact ⟨Ext.refl _, rfl⟩
    · refine ⟨rfl, fun ρ W ⟨kc, kg, kf⟩ hF hs W' => ?_⟩
      obtain ⟨h0, -⟩ := hs
      replace h0 : ρ (.tmp 13) = .tuple #[.agg #[.int .i64 cv.1, .int .i64 cv.2], .bool true] := h0
      go_simp
    · intro ρ W ⟨kc, kg, kf⟩ hF hs
      exact ⟨W.alloc (.cells #[.int .i64 0, .int .i64 0] 41), (by go_simp), by simp, Ext.alloc _ _, _, rfl, hF.size, Blk.new _ _ _⟩
    · refine ⟨rfl, fun ρ W ⟨kc, kg, kf⟩ hF hs W' => ?_⟩
      obtain ⟨h0, -⟩ := hs
      replace h0 : ρ (.tmp 21) = .bool (true) := h0
      go_simp
  · intro fv U hF hs hap σ hσ ρ ⟨kc, kg, kf⟩ hr
    obtain ⟨-, -, -, -, -, -, -, h20, h21, h5, h6, -⟩ := hs
    replace h20 : fv 20 = .agg #[.int .i64 cv.1, .int .i64 cv.2] := h20
    replace h21 : fv 21 = .bool (true) := h21
    replace h5 : (NewP W1.heap.size 41 #[.int .i64 0, .int .i64 0]) (fv 5) U := h5
    replace h6 : fv 6 = .bool (true) := h6
    obtain ⟨r0, r1, -⟩ := hr
    replace r0 : ρ (.tmp 5) = fv 5 := r0
    replace r1 : ρ (.tmp 20) = .agg #[.int .i64 cv.1, .int .i64 cv.2] := r1.trans h20
    obtain ⟨q5, hq5, hqs5, hb5⟩ := h5
    rw [hq5] at r0
    have f5_0 := hb5.free 0
    have c5_0 : U.cell? ⟨q5, 0, none⟩ = some (.int .i64 0) := hb5.cell 0
    have f5_1 := hb5.free 1
    have c5_1 : U.cell? ⟨q5, 1, none⟩ = some (.int .i64 0) := hb5.cell 1
    refine stores_one _ rfl hσ ((U.setCell ⟨q5, 0, none⟩ (.int .i64 cv.1)).setCell ⟨q5, 1, none⟩ (.int .i64 cv.2)) (by go_simp) ?_
    obtain ⟨V, hV⟩ : ∃ Vx, Vx = (U.setCell ⟨q5, 0, none⟩ (.int .i64 cv.1)).setCell ⟨q5, 1, none⟩ (.int .i64 cv.2) := ⟨_, rfl⟩
    rw [← hV]
    have K5 := Lib.hid (show Blk V q5 41 #[.int .i64 cv.1, .int .i64 cv.2] by rw [hV]; exact (hb5.setSame 0 _).setSame 1 _)
    have XN := Lib.hid (show Ext W1 V by rw [hV]; exact Ext.set (Ext.set hF (by dsimp only; exact hqs5) _) (by dsimp only; exact hqs5) _)
    have L5 := Lib.hid hqs5
    clear f5_0 c5_0 f5_1 c5_1
    clear hV hF hap hσ r0 r1 kc kg kf hb5 hqs5
    simp only [fin, List.filterMap]
    go_simp
    try rw [hq5]
    clear hq5
    clear ρ σ h20 h21 h6
    have X := Lib.hid (X.out.trans XN.out)
    have K1 := Lib.hid (K1.out.ext XN.out)
    have l0 : V.cell? ⟨q5, 0, none⟩ = some (.int .i64 cv.1) := K5.out.cell 0
    have l1 : V.cell? ⟨q5, 1, none⟩ = some (.int .i64 cv.2) := K5.out.cell 1
    have c0 : V.cell? ⟨w.heap.size, 0, none⟩ = some (.int .i64 0) := K1.out.cell 0
    have c1 : V.cell? ⟨w.heap.size, 1, none⟩ = some (.int .i64 0) := K1.out.cell 1
    have f0 := K1.out.free 0
    have f1 := K1.out.free 1
    clear XN p0 p1 L5
    go_wp2
    exact bodyPost_ret (v := .tuple #[.agg #[.int .i64 cv.1, .int .i64 cv.2], .int .i64 0]) (by simp [results, Try.f46, go_sem, c0, c1]) rfl ⟨rfl, Ext.set (Ext.set X.out (Nat.le_refl _) _) (Nat.le_refl _) _⟩

end Go.Proofs.Ytmddnpagfgilcaa
