/- ref.Converted, fewKnots. -/
import Derived.Test.YtmddnpagfgilcaaG6
import Derived.Test.YtmddnpagfgilcaaR7
import Derived.Lib.MinMax

namespace Go.Proofs.Ytmddnpagfgilcaa
open Go.RowKit Go.Shelf Go.Mem Go.RegInv
attribute [local go_sem] RelUpon_value RelUpon_skip RelUpon_enter BigFrame.eval_const BigFrame.eval_global BigFrame.eval_func


def TabC (n : Nat) (xs : List Kn) : Value → World → Prop := fun u W => ∃ A' c', u = .agg #[.slice A' n c'] ∧ RowsAt 3 Kn.enc W A' xs
theorem TabC.ext {n : Nat} {xs : List Kn} {u : Value} {W W' : World} (h : TabC n xs u W) (k : Ext W W') : TabC n xs u W' := by
  obtain ⟨A', c', e, hr⟩ := h
  exact ⟨A', c', e, hr.ext k⟩
def PtsC (n : Nat) (ps : List (Int × Int)) : Value → World → Prop := fun u W => ∃ A' c', u = .slice A' n c' ∧ RowsAt 2 frEnc W A' ps
theorem PtsC.ext {n : Nat} {ps : List (Int × Int)} {u : Value} {W W' : World} (h : PtsC n ps u W) (k : Ext W W') : PtsC n ps u W' := by
  obtain ⟨A', c', e, hr⟩ := h
  exact ⟨A', c', e, hr.ext k⟩
set_option maxRecDepth 100000 in
set_option maxHeartbeats 4000000 in
theorem refConverted_any {A : Option Addr} {n ca : Nat} {xs : List Kn} {w : World} (a b : Int) (hn : xs.length = n) (hA : RowsAt 3 Kn.enc w A xs) (hz : (checkX xs).2 = 0) (ha : (xs.getD 0 default).f ≤ a ∧ a ≤ (xs.getD (n - 1) default).f) (hb : (xs.getD 0 default).f ≤ b ∧ b ≤ (xs.getD (n - 1) default).f) :
    Calls Try.prog 40 #[.agg #[.slice A n ca], .agg #[.int .i64 a, .int .i64 b]] w fun e w' => e = .returned (.agg #[.int .i64 (convV xs a b).1, .int .i64 (convV xs a b).2]) ∧ Ext w w' := by
  obtain ⟨m2, m12, hok, hasc⟩ := checkX_ok hz
  have hall := asc_all hasc
  rw [hn] at m2 m12 hall
  have g : ∀ i, i < n → xs[i]? = some (xs.getD i default) := fun i h => by rw [List.getD_eq_getElem?_getD, List.getElem?_eq_getElem (by omega)]; rfl
  have hf0 := hok 0 _ (g 0 (by omega))
  have hf1 := hok (n - 1) _ (g (n - 1) (by omega))
  have hL : ∀ (i : Nat) (p : Int × Int), (loF xs)[i]? = some p → 0 ≤ p.1 ∧ p.1 ≤ 10000 ∧ 0 ≤ p.2 ∧ p.2 ≤ 2000 := fun i p h => by
    simp only [loF, List.getElem?_map, Option.map_eq_some_iff] at h
    obtain ⟨y, hy, rfl⟩ := h
    have := hok i y hy
    exact ⟨by dsimp only; omega, by dsimp only; omega, by dsimp only; omega, by dsimp only; omega⟩
  have hH : ∀ (i : Nat) (p : Int × Int), (hiF xs)[i]? = some p → 0 ≤ p.1 ∧ p.1 ≤ 10000 ∧ 0 ≤ p.2 ∧ p.2 ≤ 2000 := fun i p h => by
    simp only [hiF, List.getElem?_map, Option.map_eq_some_iff] at h
    obtain ⟨y, hy, rfl⟩ := h
    have := hok i y hy
    exact ⟨by dsimp only; omega, by dsimp only; omega, by dsimp only; omega, by dsimp only; omega⟩
  have uL : ∀ i j, i < j → j < n → ((loF xs).getD i default).1 < ((loF xs).getD j default).1 := fun i j h1 h2 => by
    unfold loF; rw [map_getD (by omega), map_getD (by omega)]; exact hall i j h1 h2
  have uH : ∀ i j, i < j → j < n → ((hiF xs).getD i default).1 < ((hiF xs).getD j default).1 := fun i j h1 h2 => by
    unfold hiF; rw [map_getD (by omega), map_getD (by omega)]; exact hall i j h1 h2
  have iL : ((loF xs).getD 0 default).1 ≤ a ∧ a ≤ ((loF xs).getD (n - 1) default).1 := by
    unfold loF; rw [map_getD (by omega), map_getD (by omega)]; exact ha
  have iH : ((hiF xs).getD 0 default).1 ≤ b ∧ b ≤ ((hiF xs).getD (n - 1) default).1 := by
    unfold hiF; rw [map_getD (by omega), map_getD (by omega)]; exact hb
  have nL : (loF xs).length = n := by simp [loF, hn]
  have nH : (hiF xs).length = n := by simp [hiF, hn]
  have bL := at_bd nL m2 hL uL iL
  have bH := at_bd nH m2 hH uH iH
  obtain ⟨W0, hW0⟩ : ∃ W0, W0 = ((w.alloc (.cells #[.slice A n ca] 64)).alloc (.cells #[.int .i64 a, .int .i64 b] 41)).alloc (.cells #[.int .i64 0, .int .i64 0] 41) := ⟨_, rfl⟩
  have k0 : Blk W0 w.heap.size 64 #[.slice A n ca] := by rw [hW0]; exact ((Blk.new _ _ _).alloc _).alloc _
  have k1 : Blk W0 (w.heap.size + 1) 41 #[.int .i64 a, .int .i64 b] := by rw [hW0]; exact (Blk.newAt _ _ _ (by simp)).alloc _
  have k2 : Blk W0 (w.heap.size + 1 + 1) 41 #[.int .i64 0, .int .i64 0] := by rw [hW0]; exact Blk.newAt _ _ _ (by simp)
  have E0 := Lib.hid (show Ext w W0 by rw [hW0]; exact ((Ext.alloc _ _).trans (Ext.alloc _ _)).trans (Ext.alloc _ _))
  have y0 : W0.cell? ⟨w.heap.size, 0, none⟩ = some (.slice A n ca) := k0.cell 0
  have y1 : W0.cell? ⟨w.heap.size + 1, 0, none⟩ = some (.int .i64 (a)) := k1.cell 0
  have y2 : W0.cell? ⟨w.heap.size + 1, 1, none⟩ = some (.int .i64 (b)) := k1.cell 1
  have K0 := Lib.hid k0
  have K1 := Lib.hid k1
  have K2 := Lib.hid k2
  clear k0 k1 k2
  have HEL := Lib.hid (fun W (e : Ext W0 W) => endsLo_any (ca := ca) hn (by omega) (hA.ext (E0.out.trans e)))
  have HEH := Lib.hid (fun W (e : Ext W0 W) => endsHi_any (ca := ca) hn (by omega) (hA.ext (E0.out.trans e)))
  have HAL := Lib.hid (fun W A c (h : RowsAt 2 frEnc W A (loF xs)) => refAt_any (ca := c) (d := a) nL m2 (by omega) ⟨by omega, by omega⟩ hL uL iL h)
  have HAH := Lib.hid (fun W A c (h : RowsAt 2 frEnc W A (hiF xs)) => refAt_any (ca := c) (d := b) nH m2 (by omega) ⟨by omega, by omega⟩ hH uH iH h)
  have HCV := Lib.hid (show convV xs a b = ((atV (loF xs) a n).1 / (atV (loF xs) a n).2, -(-(atV (hiF xs) b n).1 / (atV (hiF xs) b n).2)) by rw [← hn]; rfl)
  have HFL := Lib.hid (fun W => floor_any (atV (loF xs) a n).1 (atV (loF xs) a n).2 ⟨by omega, by omega⟩ ⟨by omega, by omega⟩ W)
  have HCE := Lib.hid (fun W => refCeil_any (atV (hiF xs) b n).1 (atV (hiF xs) b n).2 ⟨by omega, by omega⟩ ⟨by omega, by omega⟩ W)
  clear bL bH hL hH uL uH iL iH nL nH ha hb hall hasc hok g hf0 hf1 hz hA hn
  generalize atV (loF xs) a n = lo at *
  generalize atV (hiF xs) b n = hi at *
  go_enter Try.func40, Try.ntmps40
  go_wp2
  rw [← hW0]
  clear hW0
  go_wp2
  refine wp_region_free [.op, .op, .op, .op, .op, .op, .op, .op, .op, .op, .new, .new, .store, .store] [12, 13] [5, 11, 6, 16] [5, 6] [some 7, some 8, some 9, some 10, some 11, some 12, some 13, some 14, some 15, some 16, some 5, some 6, none, none] [[2], [7], [3], [9], [8, 10], [2], [12], [3], [14], [13, 15], [], [], [5, 11], [6, 16]]
    [Is (.agg #[.slice A n ca]), PtsC n (loF xs), Is (.pointer (some ⟨w.heap.size + 1, 0, none⟩)), Is (.int .i64 (a)), Is (.agg #[.int .i64 lo.1, .int .i64 lo.2]), Is (.agg #[.slice A n ca]), PtsC n (hiF xs), Is (.pointer (some ⟨w.heap.size + 1, 1, none⟩)), Is (.int .i64 (b)), Is (.agg #[.int .i64 hi.1, .int .i64 hi.2]), NewP W0.heap.size 32 #[.int .i64 0, .int .i64 0], NewP W0.heap.size 32 #[.int .i64 0, .int .i64 0], fun _ _ => True, fun _ _ => True]
    (by kernel_rfl) (by kernel_rfl) (by kernel_rfl) (by kernel_rfl) (by kernel_rfl) (by kernel_rfl) (by kernel_rfl) (by kernel_rfl) (by kernel_rfl) Ext (fun W => Ext W0 W)
    (fun W _ => Ext.refl W) (fun W W' h k => h.trans k) (fun W W' h => h.size) ?_ (Ext.drew _) ?_ ?_
  · repeat (refine ⟨fun _ _ _ _ k h => (by first | exact h | exact (by first | exact IntsAt.ext h k | exact NewP.ext h k | exact PtsC.ext h k)), ?_⟩)
    exact trivial
  · refine ⟨?_, ?_, ?_, ?_, ?_, ?_, ?_, ?_, ?_, ?_, ?_, ?_, trivial⟩
    · intro ρ W ⟨kc, kg, kf⟩ hF hs
      obtain ⟨h0, -⟩ := hs
      replace h0 : ρ (.tmp 2) = .pointer (some ⟨w.heap.size, 0, none⟩) := h0
      have hc0 : W.cell? ⟨w.heap.size, 0, none⟩ = some (.slice A n ca) := hF.cell (by assumption)
      go_simp
      exact ⟨Ext.refl _, rfl⟩
    · intro ρ W ⟨kc, kg, kf⟩ hF hs
      obtain ⟨h0, -⟩ := hs
      replace h0 : ρ (.tmp 7) = .agg #[.slice A n ca] := h0
      go_simp
      refine (HEL.out _ hF).mono ?_; rintro e w' ⟨A2, c2, rfl, hr2, hx⟩; exact ⟨_, rfl, hx, A2, c2, rfl, hr2⟩
    · intro ρ W ⟨kc, kg, kf⟩ hF hs
      obtain ⟨h0, -⟩ := hs
      replace h0 : ρ (.tmp 3) = .pointer (some ⟨w.heap.size + 1, 0, none⟩) := h0
      go_simp
      exact ⟨Ext.refl _, rfl⟩
    · intro ρ W ⟨kc, kg, kf⟩ hF hs
      obtain ⟨h0, -⟩ := hs
      replace h0 : ρ (.tmp 9) = .pointer (some ⟨w.heap.size + 1, 0, none⟩) := h0
      have hc0 : W.cell? ⟨w.heap.size + 1, 0, none⟩ = some (.int .i64 (a)) := hF.cell (by assumption)
      go_simp
      exact ⟨Ext.refl _, rfl⟩
    · intro ρ W ⟨kc, kg, kf⟩ hF hs
      obtain ⟨h0, h1, -⟩ := hs
      replace h0 : (PtsC n (loF xs)) (ρ (.tmp 8)) W := h0
      replace h1 : ρ (.tmp 10) = .int .i64 (a) := h1
      obtain ⟨A2, c2, hv, hr2⟩ := h0
      have hv2 : ρ (.tmp 8) = .slice A2 n c2 := hv
      clear hv
      go_simp
      refine (HAL.out _ _ _ hr2).mono ?_; rintro e w' ⟨rfl, hx⟩; exact ⟨_, rfl, hx, rfl⟩
    · intro ρ W ⟨kc, kg, kf⟩ hF hs
      obtain ⟨h0, -⟩ := hs
      replace h0 : ρ (.tmp 2) = .pointer (some ⟨w.heap.size, 0, none⟩) := h0
      have hc0 : W.cell? ⟨w.heap.size, 0, none⟩ = some (.slice A n ca) := hF.cell (by assumption)
      go_simp
      exact ⟨Ext.refl _, rfl⟩
    · intro ρ W ⟨kc, kg, kf⟩ hF hs
      obtain ⟨h0, -⟩ := hs
      replace h0 : ρ (.tmp 12) = .agg #[.slice A n ca] := h0
      go_simp
      refine (HEH.out _ hF).mono ?_; rintro e w' ⟨A2, c2, rfl, hr2, hx⟩; exact ⟨_, rfl, hx, A2, c2, rfl, hr2⟩
    · intro ρ W ⟨kc, kg, kf⟩ hF hs
      obtain ⟨h0, -⟩ := hs
      replace h0 : ρ (.tmp 3) = .pointer (some ⟨w.heap.size + 1, 0, none⟩) := h0
      go_simp
      exact ⟨Ext.refl _, rfl⟩
    · intro ρ W ⟨kc, kg, kf⟩ hF hs
      obtain ⟨h0, -⟩ := hs
      replace h0 : ρ (.tmp 14) = .pointer (some ⟨w.heap.size + 1, 1, none⟩) := h0
      have hc0 : W.cell? ⟨w.heap.size + 1, 1, none⟩ = some (.int .i64 (b)) := hF.cell (by assumption)
      go_simp
      exact ⟨Ext.refl _, rfl⟩
    · intro ρ W ⟨kc, kg, kf⟩ hF hs
      obtain ⟨h0, h1, -⟩ := hs
      replace h0 : (PtsC n (hiF xs)) (ρ (.tmp 13)) W := h0
      replace h1 : ρ (.tmp 15) = .int .i64 (b) := h1
      obtain ⟨A2, c2, hv, hr2⟩ := h0
      have hv2 : ρ (.tmp 13) = .slice A2 n c2 := hv
      clear hv
      go_simp
      refine (HAH.out _ _ _ hr2).mono ?_; rintro e w' ⟨rfl, hx⟩; exact ⟨_, rfl, hx, rfl⟩
    · intro ρ W ⟨kc, kg, kf⟩ hF hs
      exact ⟨W.alloc (.cells #[.int .i64 0, .int .i64 0] 32), (by go_simp), by simp, Ext.alloc _ _, _, rfl, hF.size, Blk.new _ _ _⟩
    · intro ρ W ⟨kc, kg, kf⟩ hF hs
      exact ⟨W.alloc (.cells #[.int .i64 0, .int .i64 0] 32), (by go_simp), by simp, Ext.alloc _ _, _, rfl, hF.size, Blk.new _ _ _⟩
  · intro fv U hF hs hap σ hσ ρ ⟨kc, kg, kf⟩ hr
    obtain ⟨-, -, -, -, h11, -, -, -, -, h16, h5, h6, -⟩ := hs
    replace h11 : fv 11 = .agg #[.int .i64 lo.1, .int .i64 lo.2] := h11
    replace h16 : fv 16 = .agg #[.int .i64 hi.1, .int .i64 hi.2] := h16
    replace h5 : (NewP W0.heap.size 32 #[.int .i64 0, .int .i64 0]) (fv 5) U := h5
    replace h6 : (NewP W0.heap.size 32 #[.int .i64 0, .int .i64 0]) (fv 6) U := h6
    obtain ⟨r0, r1, r2, r3, -⟩ := hr
    replace r0 : ρ (.tmp 5) = fv 5 := r0
    replace r1 : ρ (.tmp 11) = .agg #[.int .i64 lo.1, .int .i64 lo.2] := r1.trans h11
    replace r2 : ρ (.tmp 6) = fv 6 := r2
    replace r3 : ρ (.tmp 16) = .agg #[.int .i64 hi.1, .int .i64 hi.2] := r3.trans h16
    obtain ⟨q5, hq5, hqs5, hb5⟩ := h5
    rw [hq5] at r0
    have f5_0 := hb5.free 0
    have c5_0 : U.cell? ⟨q5, 0, none⟩ = some (.int .i64 0) := hb5.cell 0
    have f5_1 := hb5.free 1
    have c5_1 : U.cell? ⟨q5, 1, none⟩ = some (.int .i64 0) := hb5.cell 1
    obtain ⟨q6, hq6, hqs6, hb6⟩ := h6
    rw [hq6] at r2
    have f6_0 := hb6.free 0
    have c6_0 : U.cell? ⟨q6, 0, none⟩ = some (.int .i64 0) := hb6.cell 0
    have f6_1 := hb6.free 1
    have c6_1 : U.cell? ⟨q6, 1, none⟩ = some (.int .i64 0) := hb6.cell 1
    obtain ⟨ha0, -⟩ := hap
    have hne : q5 ≠ q6 := by
      have := ha0 6 (by simp)
      rw [hq5, hq6] at this
      intro h; exact this (by rw [h])
    have hne2 := Ne.symm hne
    refine stores_two (R := fun V => Ext W0 V ∧ Blk V q5 32 #[.int .i64 lo.1, .int .i64 lo.2] ∧ Blk V q6 32 #[.int .i64 hi.1, .int .i64 hi.2]) _ _ rfl rfl hσ ((U.setCell ⟨q5, 0, none⟩ (.int .i64 lo.1)).setCell ⟨q5, 1, none⟩ (.int .i64 lo.2)) ((((U.setCell ⟨q5, 0, none⟩ (.int .i64 lo.1)).setCell ⟨q5, 1, none⟩ (.int .i64 lo.2)).setCell ⟨q6, 0, none⟩ (.int .i64 hi.1)).setCell ⟨q6, 1, none⟩ (.int .i64 hi.2)) ((U.setCell ⟨q6, 0, none⟩ (.int .i64 hi.1)).setCell ⟨q6, 1, none⟩ (.int .i64 hi.2)) ((((U.setCell ⟨q6, 0, none⟩ (.int .i64 hi.1)).setCell ⟨q6, 1, none⟩ (.int .i64 hi.2)).setCell ⟨q5, 0, none⟩ (.int .i64 lo.1)).setCell ⟨q5, 1, none⟩ (.int .i64 lo.2)) (by go_simp) (by go_simp) (by go_simp) (by go_simp) ⟨Ext.set (Ext.set (Ext.set (Ext.set hF (by dsimp only; exact hqs5) _) (by dsimp only; exact hqs5) _) (by dsimp only; exact hqs6) _) (by dsimp only; exact hqs6) _, (((hb5.setSame 0 _).setSame 1 _).setOther (by dsimp only; first | exact hne | exact hne2) _).setOther (by dsimp only; first | exact hne | exact hne2) _, (((hb6.setOther (by dsimp only; first | exact hne | exact hne2) _).setOther (by dsimp only; first | exact hne | exact hne2) _).setSame 0 _).setSame 1 _⟩ ⟨Ext.set (Ext.set (Ext.set (Ext.set hF (by dsimp only; exact hqs6) _) (by dsimp only; exact hqs6) _) (by dsimp only; exact hqs5) _) (by dsimp only; exact hqs5) _, (((hb5.setOther (by dsimp only; first | exact hne | exact hne2) _).setOther (by dsimp only; first | exact hne | exact hne2) _).setSame 0 _).setSame 1 _, (((hb6.setSame 0 _).setSame 1 _).setOther (by dsimp only; first | exact hne | exact hne2) _).setOther (by dsimp only; first | exact hne | exact hne2) _⟩ ?_
    rintro V ⟨XN, K5, K6⟩
    replace XN := Lib.hid XN
    replace K5 := Lib.hid K5
    replace K6 := Lib.hid K6
    have L5 := Lib.hid hqs5
    have L6 := Lib.hid hqs6
    have NE := Lib.hid hne
    clear f5_0 c5_0 f5_1 c5_1 f6_0 c6_0 f6_1 c6_1
    clear hF hσ hne hne2 ha0 r0 r1 r2 r3 kc kg kf hb5 hqs5 hb6 hqs6
    simp only [fin, List.filterMap]
    go_simp
    try rw [hq5]; try rw [hq6]
    clear hq5 hq6
    clear ρ σ h11 h16
    have X := Lib.hid (E0.out.trans XN.out)
    have B2 := Lib.hid (K2.out.ext XN.out)
    clear XN y0 y1 y2 K0 K1 K2 E0 L5 L6 NE
    have l0 : V.cell? ⟨q5, 0, none⟩ = some (.int .i64 lo.1) := K5.out.cell 0
    have l1 : V.cell? ⟨q5, 1, none⟩ = some (.int .i64 lo.2) := K5.out.cell 1
    have l2 : V.cell? ⟨q6, 0, none⟩ = some (.int .i64 hi.1) := K6.out.cell 0
    have l3 : V.cell? ⟨q6, 1, none⟩ = some (.int .i64 hi.2) := K6.out.cell 1
    go_wp2
    refine wp_region_part 11 [some 17, some 18, some 19, some 20, some 21, some 22, some 23, some 24, some 25, some 26, some 27] [[5], [17], [5], [19], [18, 20], [6], [22], [6], [24], [23, 25], [21, 26]]
      [Is (.pointer (some ⟨q5, 0, none⟩)), Is (.int .i64 (lo.1)), Is (.pointer (some ⟨q5, 1, none⟩)), Is (.int .i64 (lo.2)), Is (.int .i64 (lo.1 / lo.2)), Is (.pointer (some ⟨q6, 0, none⟩)), Is (.int .i64 (hi.1)), Is (.pointer (some ⟨q6, 1, none⟩)), Is (.int .i64 (hi.2)), Is (.int .i64 (-(-hi.1 / hi.2))), Is (.agg #[.int .i64 (lo.1 / lo.2), .int .i64 (-(-hi.1 / hi.2))])]
      (by kernel_rfl) (by kernel_rfl) (by kernel_rfl) (by kernel_rfl) (by kernel_rfl) (by kernel_rfl) (by kernel_rfl) Ext (fun W => Ext V W)
      (fun W _ => Ext.refl W) (fun W W' h k => h.trans k) ?_ (Ext.drew _) ?_ ?_
    · repeat (refine ⟨fun _ _ _ _ k h => (by first | exact h | exact (IntsAt.ext h k)), ?_⟩)
      exact trivial
    · refine ⟨?_, ?_, ?_, ?_, ?_, ?_, ?_, ?_, ?_, ?_, ?_, trivial⟩
      all_goals intro ρ W ⟨kc, kg, kf⟩ hF hs
      · obtain ⟨h0, -⟩ := hs
        replace h0 : ρ (.tmp 5) = .pointer (some ⟨q5, 0, none⟩) := h0
        go_simp
        exact ⟨Ext.refl _, rfl⟩
      · obtain ⟨h0, -⟩ := hs
        replace h0 : ρ (.tmp 17) = .pointer (some ⟨q5, 0, none⟩) := h0
        have hc0 : W.cell? ⟨q5, 0, none⟩ = some (.int .i64 (lo.1)) := hF.cell (by assumption)
        go_simp
        exact ⟨Ext.refl _, rfl⟩
      · obtain ⟨h0, -⟩ := hs
        replace h0 : ρ (.tmp 5) = .pointer (some ⟨q5, 0, none⟩) := h0
        go_simp
        exact ⟨Ext.refl _, rfl⟩
      · obtain ⟨h0, -⟩ := hs
        replace h0 : ρ (.tmp 19) = .pointer (some ⟨q5, 1, none⟩) := h0
        have hc0 : W.cell? ⟨q5, 1, none⟩ = some (.int .i64 (lo.2)) := hF.cell (by assumption)
        go_simp
        exact ⟨Ext.refl _, rfl⟩
      · obtain ⟨h0, h1, -⟩ := hs
        replace h0 : ρ (.tmp 18) = .int .i64 (lo.1) := h0
        replace h1 : ρ (.tmp 20) = .int .i64 (lo.2) := h1
        go_simp
        refine (HFL.out _).mono ?_; rintro e w' ⟨rfl, rfl⟩; exact ⟨_, rfl, Ext.refl _, rfl⟩
      · obtain ⟨h0, -⟩ := hs
        replace h0 : ρ (.tmp 6) = .pointer (some ⟨q6, 0, none⟩) := h0
        go_simp
        exact ⟨Ext.refl _, rfl⟩
      · obtain ⟨h0, -⟩ := hs
        replace h0 : ρ (.tmp 22) = .pointer (some ⟨q6, 0, none⟩) := h0
        have hc0 : W.cell? ⟨q6, 0, none⟩ = some (.int .i64 (hi.1)) := hF.cell (by assumption)
        go_simp
        exact ⟨Ext.refl _, rfl⟩
      · obtain ⟨h0, -⟩ := hs
        replace h0 : ρ (.tmp 6) = .pointer (some ⟨q6, 0, none⟩) := h0
        go_simp
        exact ⟨Ext.refl _, rfl⟩
      · obtain ⟨h0, -⟩ := hs
        replace h0 : ρ (.tmp 24) = .pointer (some ⟨q6, 1, none⟩) := h0
        have hc0 : W.cell? ⟨q6, 1, none⟩ = some (.int .i64 (hi.2)) := hF.cell (by assumption)
        go_simp
        exact ⟨Ext.refl _, rfl⟩
      · obtain ⟨h0, h1, -⟩ := hs
        replace h0 : ρ (.tmp 23) = .int .i64 (hi.1) := h0
        replace h1 : ρ (.tmp 25) = .int .i64 (hi.2) := h1
        go_simp
        refine (HCE.out _).mono ?_; rintro e w' ⟨rfl, rfl⟩; exact ⟨_, rfl, Ext.refl _, rfl⟩
      · obtain ⟨h0, h1, -⟩ := hs
        replace h0 : ρ (.tmp 21) = .int .i64 (lo.1 / lo.2) := h0
        replace h1 : ρ (.tmp 26) = .int .i64 (-(-hi.1 / hi.2)) := h1
        go_simp
        exact ⟨Ext.refl _, rfl⟩
    · intro fv V2 hF hs
      obtain ⟨-, -, -, -, -, -, -, -, -, -, h27, -⟩ := hs
      replace h27 : fv 27 = .agg #[.int .i64 (lo.1 / lo.2), .int .i64 (-(-hi.1 / hi.2))] := h27
      simp only [fin, List.filterMap]
      go_simp
      have X1 := Lib.hid (X.out.trans hF)
      replace B2 := Lib.hid (B2.out.ext hF)
      clear hF l0 l1 l2 l3 K5 K6
      have f0 := B2.out.free 0
      have f1 := B2.out.free 1
      have c0 : V2.cell? ⟨w.heap.size + 1 + 1, 0, none⟩ = some (.int .i64 0) := B2.out.cell 0
      have c1 : V2.cell? ⟨w.heap.size + 1 + 1, 1, none⟩ = some (.int .i64 0) := B2.out.cell 1
      clear B2
      go_wp2
      exact bodyPost_ret (v := .agg #[.int .i64 (lo.1 / lo.2), .int .i64 (-(-hi.1 / hi.2))]) (by simp [results, Try.f40, go_sem, c0, c1]) rfl ⟨by rw [HCV.out], Ext.set (Ext.set (X1.out) (by dsimp only; omega) _) (by dsimp only; omega) _⟩
set_option maxRecDepth 100000 in
theorem fewKnots_any {A : Option Addr} {n ca : Nat} (w : World) : Calls Try.prog 33 #[.agg #[.slice A n ca]] w fun e w' => e = .returned (.bool (decide ((n : Int) ≤ 14))) ∧ Ext w w' := by
  go_enter Try.func33, Try.ntmps33
  go_wp2
  go_ret
  exact ⟨rfl, Ext.alloc _ _⟩

end Go.Proofs.Ytmddnpagfgilcaa
