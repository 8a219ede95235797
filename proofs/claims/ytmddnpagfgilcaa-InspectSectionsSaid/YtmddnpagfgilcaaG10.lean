/- HardnessAt, ref.LimitErr. -/
import Derived.Test.YtmddnpagfgilcaaG9
import Derived.Lib.MinMax

namespace Go.Proofs.Ytmddnpagfgilcaa
open Go.RowKit Go.Shelf Go.Mem Go.RegInv
attribute [local go_sem] RelUpon_value RelUpon_skip RelUpon_enter BigFrame.eval_const BigFrame.eval_global BigFrame.eval_func


theorem refLimit_any (l : Int) (w : World) : Calls Try.prog 23 #[.int .i64 l] w fun e w' => e = .returned (.int .i64 (errIf (!hardB l) 2)) ∧ w = w' := by
  have H1 := Lib.hid (fun W => isHard_any l W)
  generalize hardB l = b1 at *
  cases b1 with
  | false =>
    go_enter Try.func23, Try.ntmps23
    go_wp2_with (go_at_call 87; (with_reducible refine (H1.out _).mono ?_); rintro e w' ⟨rfl, rfl⟩)
    go_ret
    exact ⟨rfl, rfl⟩
  | true =>
    go_enter Try.func23, Try.ntmps23
    go_wp2_with (go_at_call 87; (with_reducible refine (H1.out _).mono ?_); rintro e w' ⟨rfl, rfl⟩)
    go_ret
    exact ⟨rfl, rfl⟩
theorem limE_eq (l : Int) : rangeE 0 2000 [l] = errIf (!hardB l) 2 := by
  unfold rangeE errIf hardB withinB outB
  by_cases h1 : 0 ≤ l <;> by_cases h2 : l ≤ 2000 <;> simp [h1, h2] <;> omega
theorem getI {xs : List In} {n i : Nat} (hn : xs.length = n) (h : i < n) : xs[i]? = some (xs.getD i default) := by
  rw [List.getD_eq_getElem?_getD, List.getElem?_eq_getElem (by omega)]; rfl
theorem w64_in (n : Int) (h : -9223372036854775808 ≤ n ∧ n ≤ 9223372036854775807) : wrap64 n = n := by unfold wrap64; omega
theorem depth_next {xs : List In} {n : Nat} (hn : xs.length = n) (hz : (checkT xs).2 = 0) {i : Nat} (h : i + 1 < n) : (xs.getD i default).d < (xs.getD (i + 1) default).d := by
  obtain ⟨-, -, hok⟩ := checkT_ok hz
  obtain ⟨a0, a1, a2, a3, -, -, -, -⟩ := hok i _ (getI hn (by omega))
  obtain ⟨b0, b1, b2, b3, -, -, -, hd⟩ := hok (i + 1) _ (getI hn h)
  unfold distK dist1 at hd
  rw [if_neg (by omega), Nat.add_sub_cancel] at hd
  have hd := of_decide_eq_false hd
  rw [w64_in _ (by omega), w64_in _ (by omega)] at hd
  omega
theorem depth_lt {xs : List In} {n : Nat} (hn : xs.length = n) (hz : (checkT xs).2 = 0) {i : Nat} : ∀ {j : Nat}, i < j → j < n → (xs.getD i default).d < (xs.getD j default).d
  | 0, h, _ => by omega
  | j + 1, h, hj => by
    have h1 := depth_next hn hz hj
    rcases Nat.lt_or_ge i j with h2 | h2
    · have := depth_lt hn hz h2 (show j < n by omega); omega
    · rw [show i = j by omega]; exact h1
theorem mapI {xs : List In} {n i : Nat} {g : In → Int × Int} (hn : xs.length = n) (h : i < n) : (xs.map g).getD i default = g (xs.getD i default) := by
  rw [List.getD_eq_getElem?_getD, List.getD_eq_getElem?_getD, List.getElem?_map, List.getElem?_eq_getElem (by omega)]; rfl
/-- What the values of a curve want. -/
structure Crv (ps : List (Int × Int)) (n : Nat) (d : Int) : Prop where
  len : ps.length = n
  two : 2 ≤ n
  most : n ≤ 20
  dep : 0 ≤ d ∧ d ≤ 10000
  bd : ∀ (i : Nat) (p : Int × Int), ps[i]? = some p → 0 ≤ p.1 ∧ p.1 ≤ 10000 ∧ 0 ≤ p.2 ∧ p.2 ≤ 2000
  asc : ∀ i j, i < j → j < n → (ps.getD i default).1 < (ps.getD j default).1
  inn : (ps.getD 0 default).1 ≤ d ∧ d ≤ (ps.getD (n - 1) default).1
theorem crv_lo {xs : List In} {n : Nat} {d : Int} (hn : xs.length = n) (hz : (checkT xs).2 = 0) (hd : (xs.getD 0 default).d ≤ d ∧ d ≤ (xs.getD (n - 1) default).d) : Crv (loP xs) n d := by
  obtain ⟨m2, m20, hok⟩ := checkT_ok hz
  rw [hn] at m2 m20
  have x0 := hok 0 _ (getI hn (by omega))
  have x1 := hok (n - 1) _ (getI hn (by omega))
  refine ⟨by simp [loP, hn], m2, m20, ⟨by omega, by omega⟩, fun i p h => ?_, fun i j h1 h2 => ?_, ?_⟩
  · simp only [loP, List.getElem?_map, Option.map_eq_some_iff] at h
    obtain ⟨y, hy, rfl⟩ := h
    have := hok i y hy
    exact ⟨by dsimp only; omega, by dsimp only; omega, by dsimp only; omega, by dsimp only; omega⟩
  · unfold loP; rw [mapI hn (by omega), mapI hn (by omega)]; exact depth_lt hn hz h1 h2
  · unfold loP; rw [mapI hn (by omega), mapI hn (by omega)]; exact hd
theorem crv_up {xs : List In} {n : Nat} {d : Int} (hn : xs.length = n) (hz : (checkT xs).2 = 0) (hd : (xs.getD 0 default).d ≤ d ∧ d ≤ (xs.getD (n - 1) default).d) : Crv (upP xs) n d := by
  obtain ⟨m2, m20, hok⟩ := checkT_ok hz
  rw [hn] at m2 m20
  have x0 := hok 0 _ (getI hn (by omega))
  have x1 := hok (n - 1) _ (getI hn (by omega))
  refine ⟨by simp [upP, hn], m2, m20, ⟨by omega, by omega⟩, fun i p h => ?_, fun i j h1 h2 => ?_, ?_⟩
  · simp only [upP, List.getElem?_map, Option.map_eq_some_iff] at h
    obtain ⟨y, hy, rfl⟩ := h
    have := hok i y hy
    exact ⟨by dsimp only; omega, by dsimp only; omega, by dsimp only; omega, by dsimp only; omega⟩
  · unfold upP; rw [mapI hn (by omega), mapI hn (by omega)]; exact depth_lt hn hz h1 h2
  · unfold upP; rw [mapI hn (by omega), mapI hn (by omega)]; exact hd

set_option maxRecDepth 100000 in
set_option maxHeartbeats 4000000 in
theorem hardAt_bad {A : Option Addr} {n ca : Nat} {xs : List In} {w : World} (d : Int) (hn : xs.length = n) (hA : RowsAt 4 In.enc w A xs) (hz : (checkT xs).2 ≠ 0) :
    Calls Try.prog 17 #[.agg #[.slice A n ca], .int .i64 d] w fun e w' => e = .returned (.tuple #[.agg #[.int .i64 0, .int .i64 0, .int .i64 0, .int .i64 0], .int .i64 (checkT xs).2]) ∧ Ext w w' := by
  have HTE := Lib.hid (fun W (e : Ext w W) => traverseError_any (ca := ca) hn (hA.ext e))
  have hz2 : ((checkT xs).2 != 0) = true := by simp [hz]
  generalize (checkT xs).2 = z at *
  clear hn hA hz
  obtain ⟨W0, hW0⟩ : ∃ W0, W0 = (w.alloc (.cells #[.slice A n ca] 24)).alloc (.cells #[.int .i64 0, .int .i64 0, .int .i64 0, .int .i64 0] 34) := ⟨_, rfl⟩
  have K0 := Lib.hid (show Blk W0 w.heap.size 24 #[.slice A n ca] by rw [hW0]; exact (Blk.new _ _ _).alloc _)
  have K1 := Lib.hid (show Blk W0 (w.heap.size + 1) 34 #[.int .i64 0, .int .i64 0, .int .i64 0, .int .i64 0] by rw [hW0]; exact Blk.newAt _ _ _ (by simp))
  have E0 := Lib.hid (show Ext w W0 by rw [hW0]; exact (Ext.alloc _ _).trans (Ext.alloc _ _))
  have y0 : W0.cell? ⟨w.heap.size, 0, none⟩ = some (.slice A n ca) := K0.out.cell 0
  go_enter Try.func17, Try.ntmps17
  go_wp2_with (fail)
  rw [← hW0]
  clear hW0
  go_wp2_with (go_at_call 83; refine (HTE.out _ E0.out).mono ?_; rintro e W1 ⟨rfl, hx⟩; have X1 := Lib.hid hx; clear hx y0; refine Hid.out ?_)
  refine Lib.hid ?_
  have B1 := Lib.hid (K1.out.ext X1.out)
  clear K0 K1
  have f0 := B1.out.free 0
  have f1 := B1.out.free 1
  have f2 := B1.out.free 2
  have f3 := B1.out.free 3
  have c0 : W1.cell? ⟨w.heap.size + 1, 0, none⟩ = some (.int .i64 0) := B1.out.cell 0
  have c1 : W1.cell? ⟨w.heap.size + 1, 1, none⟩ = some (.int .i64 0) := B1.out.cell 1
  have c2 : W1.cell? ⟨w.heap.size + 1, 2, none⟩ = some (.int .i64 0) := B1.out.cell 2
  have c3 : W1.cell? ⟨w.heap.size + 1, 3, none⟩ = some (.int .i64 0) := B1.out.cell 3
  clear B1
  go_wp2
  exact bodyPost_ret (v := .tuple #[.agg #[.int .i64 0, .int .i64 0, .int .i64 0, .int .i64 0], .int .i64 z]) (by simp [results, Try.f17, go_sem, c0, c1, c2, c3]) rfl ⟨rfl, (Ext.set (Ext.set (Ext.set (Ext.set (E0.out.trans X1.out) (by dsimp only; omega) _) (by dsimp only; omega) _) (by dsimp only; omega) _) (by dsimp only; omega) _)⟩

set_option maxRecDepth 100000 in
set_option maxHeartbeats 4000000 in
theorem hardAt_miss {A : Option Addr} {n ca : Nat} {xs : List In} {w : World} (d : Int) (hn : xs.length = n) (hA : RowsAt 4 In.enc w A xs) (hz : (checkT xs).2 = 0) (hd : withinB d (xs.getD 0 default).d (xs.getD (n - 1) default).d = false) :
    Calls Try.prog 17 #[.agg #[.slice A n ca], .int .i64 d] w fun e w' => e = .returned (.tuple #[.agg #[.int .i64 0, .int .i64 0, .int .i64 0, .int .i64 0], .int .i64 2]) ∧ Ext w w' := by
  obtain ⟨m2, m20, hok⟩ := checkT_ok hz
  rw [hn] at m2 m20
  have HTE := Lib.hid (fun W (e : Ext w W) => show Calls Try.prog 83 #[.agg #[.slice A n ca]] W fun e w' => e = .returned (.int .i64 0) ∧ Ext W w' from by
    have := traverseError_any (ca := ca) hn (hA.ext e)
    rw [hz] at this
    exact this)
  obtain ⟨x0, hx0⟩ : ∃ x0, x0 = xs.getD 0 default := ⟨_, rfl⟩
  obtain ⟨x1, hx1⟩ : ∃ x1, x1 = xs.getD (n - 1) default := ⟨_, rfl⟩
  have g0 : xs[0]? = some x0 := by rw [hx0]; exact getI hn (by omega)
  have g1 : xs[n - 1]? = some x1 := by rw [hx1]; exact getI hn (by omega)
  obtain ⟨b, o, rfl, hb, hc⟩ := row_at hA g0
  obtain ⟨b2, o2, he, _, hc2⟩ := row_at hA g1
  obtain ⟨rfl, rfl⟩ : b = b2 ∧ o = o2 := by simpa using he
  have P0 := Lib.hid (show w.cell? ⟨b, o, none⟩ = some (.int .i64 x0.d) by have := hc 0 _ rfl; simpa using this)
  have P1 := Lib.hid (show w.cell? ⟨b, o + (n - 1) * 4, none⟩ = some (.int .i64 x1.d) from hc2 0 _ rfl)
  clear hc hc2 he g0 g1 hb
  rw [← hx0, ← hx1] at hd
  have HRG := Lib.hid (fun W s (hI : IntsAt W s [d]) => show Calls Try.prog 79 #[.int .i64 x0.d, .int .i64 x1.d, s] W fun e w' => e = .returned (.int .i64 2) ∧ Ext W w' from by
    have := rangeError_any x0.d x1.d _ [d] _ hI
    rw [show rangeE x0.d x1.d [d] = 2 by rw [rangeE_one, hd]; rfl] at this
    exact this)
  clear hn hA hz hok hx0 hx1 hd
  obtain ⟨W0, hW0⟩ : ∃ W0, W0 = (w.alloc (.cells #[.slice (some ⟨b, o, none⟩) n ca] 24)).alloc (.cells #[.int .i64 0, .int .i64 0, .int .i64 0, .int .i64 0] 34) := ⟨_, rfl⟩
  have K0 := Lib.hid (show Blk W0 w.heap.size 24 #[.slice (some ⟨b, o, none⟩) n ca] by rw [hW0]; exact (Blk.new _ _ _).alloc _)
  have K1 := Lib.hid (show Blk W0 (w.heap.size + 1) 34 #[.int .i64 0, .int .i64 0, .int .i64 0, .int .i64 0] by rw [hW0]; exact Blk.newAt _ _ _ (by simp))
  have E0 := Lib.hid (show Ext w W0 by rw [hW0]; exact (Ext.alloc _ _).trans (Ext.alloc _ _))
  have y0 : W0.cell? ⟨w.heap.size, 0, none⟩ = some (.slice (some ⟨b, o, none⟩) n ca) := K0.out.cell 0
  go_enter Try.func17, Try.ntmps17
  go_wp2_with (fail)
  rw [← hW0]
  clear hW0
  go_wp2_with (go_at_call 83; refine (HTE.out _ E0.out).mono ?_; rintro e W1 ⟨rfl, hx⟩; have X1 := Lib.hid hx; clear hx y0; refine Hid.out ?_)
  refine Lib.hid ?_
  have B0 := Lib.hid (K0.out.ext X1.out)
  have B1 := Lib.hid (K1.out.ext X1.out)
  have X := Lib.hid (E0.out.trans X1.out)
  have y0 : W1.cell? ⟨w.heap.size, 0, none⟩ = some (.slice (some ⟨b, o, none⟩) n ca) := B0.out.cell 0
  have t0 := X.out.cell P0.out
  have t1 := X.out.cell P1.out
  clear K0 K1 X1
  go_wp2
  refine wp_region_each [some 20, some 21, some 22, some 23, some 24, some 25, some 26, some 27, some 28, some 29, some 30, some 31, some 32, some 33, some 34, some 8] [[2], [20], [21], [22], [23], [2], [25], [7], [27], [26, 28], [29], [30], [1], [32], [24, 31, 33], [34]]
    [Is (.pointer (some ⟨w.heap.size, 0, none⟩)), Is (.slice (some ⟨b, o, none⟩) n ca), Is (.pointer (some ⟨b, o, none⟩)), Is (.pointer (some ⟨b, o, none⟩)), Is (.int .i64 (x0.d)), Is (.pointer (some ⟨w.heap.size, 0, none⟩)), Is (.slice (some ⟨b, o, none⟩) n ca), Is (.int .i64 ((n : Int))), Is (.int .i64 ((n : Int) - 1)), Is (.pointer (some ⟨b, o + (n - 1) * 4, none⟩)), Is (.pointer (some ⟨b, o + (n - 1) * 4, none⟩)), Is (.int .i64 (x1.d)), Is (.int .i64 (d)), Ints [d], Is (.int .i64 (2)), Is (.int .i64 (2))]
    (by kernel_rfl) (by kernel_rfl) (by kernel_rfl) (by kernel_rfl) (by kernel_rfl) Ext (fun W => Ext W1 W)
    (fun W _ => Ext.refl W) (fun W W' h k => h.trans k) ?_ (Ext.drew _) ?_ ?_
  · repeat (refine ⟨fun _ _ _ _ k h => (by first | exact h | exact (IntsAt.ext h k)), ?_⟩)
    exact trivial
  · refine ⟨?_, ?_, ?_, ?_, ?_, ?_, ?_, ?_, ?_, ?_, ?_, ?_, ?_, ?_, ?_, ?_, trivial⟩
    all_goals intro ρ W ⟨kc, kg, kf⟩ hF hs
    · obtain ⟨h0, -⟩ := hs
      replace h0 : ρ (.tmp 2) = .pointer (some ⟨w.heap.size, 0, none⟩) := h0
      go_simp
      exact ⟨Ext.refl _, rfl⟩
    · obtain ⟨h0, -⟩ := hs
      replace h0 : ρ (.tmp 20) = .pointer (some ⟨w.heap.size, 0, none⟩) := h0
      have hc0 : W.cell? ⟨w.heap.size, 0, none⟩ = some (.slice (some ⟨b, o, none⟩) n ca) := hF.cell (by assumption)
      go_simp
      exact ⟨Ext.refl _, rfl⟩
    · obtain ⟨h0, -⟩ := hs
      replace h0 : ρ (.tmp 21) = .slice (some ⟨b, o, none⟩) n ca := h0
      have hb2 : (0 : Int) < (n : Int) := by omega
      have hb3 : 0 < n := by omega
      go_simp
      exact ⟨Ext.refl _, rfl⟩
    · obtain ⟨h0, -⟩ := hs
      replace h0 : ρ (.tmp 22) = .pointer (some ⟨b, o, none⟩) := h0
      go_simp
      exact ⟨Ext.refl _, rfl⟩
    · obtain ⟨h0, -⟩ := hs
      replace h0 : ρ (.tmp 23) = .pointer (some ⟨b, o, none⟩) := h0
      have hc0 : W.cell? ⟨b, o, none⟩ = some (.int .i64 (x0.d)) := hF.cell (by assumption)
      go_simp
      exact ⟨Ext.refl _, rfl⟩
    · obtain ⟨h0, -⟩ := hs
      replace h0 : ρ (.tmp 2) = .pointer (some ⟨w.heap.size, 0, none⟩) := h0
      go_simp
      exact ⟨Ext.refl _, rfl⟩
    · obtain ⟨h0, -⟩ := hs
      replace h0 : ρ (.tmp 25) = .pointer (some ⟨w.heap.size, 0, none⟩) := h0
      have hc0 : W.cell? ⟨w.heap.size, 0, none⟩ = some (.slice (some ⟨b, o, none⟩) n ca) := hF.cell (by assumption)
      go_simp
      exact ⟨Ext.refl _, rfl⟩
    · obtain ⟨h0, -⟩ := hs
      replace h0 : ρ (.tmp 7) = .int .i64 ((n : Int)) := h0
      go_simp
      exact ⟨Ext.refl _, rfl⟩
    · obtain ⟨h0, -⟩ := hs
      replace h0 : ρ (.tmp 27) = .int .i64 ((n : Int)) := h0
      have hw : IntKind.i64.wrap ((n : Int) - 1) = (n : Int) - 1 := wrap_id _ (by omega) (by omega)
      go_simp
      exact ⟨Ext.refl _, rfl⟩
    · obtain ⟨h0, h1, -⟩ := hs
      replace h0 : ρ (.tmp 26) = .slice (some ⟨b, o, none⟩) n ca := h0
      replace h1 : ρ (.tmp 28) = .int .i64 ((n : Int) - 1) := h1
      have hb6 : (1 : Int) ≤ (n : Int) := by omega
      have hb2 : (n : Int) - 1 < (n : Int) := by omega
      have hb3 : (0 : Int) ≤ (n : Int) - 1 := by omega
      have hb4 : ((n : Int) - 1).toNat = n - 1 := by omega
      have hb5 : n - 1 < n := by omega
      go_simp
      exact ⟨Ext.refl _, rfl⟩
    · obtain ⟨h0, -⟩ := hs
      replace h0 : ρ (.tmp 29) = .pointer (some ⟨b, o + (n - 1) * 4, none⟩) := h0
      go_simp
      exact ⟨Ext.refl _, rfl⟩
    · obtain ⟨h0, -⟩ := hs
      replace h0 : ρ (.tmp 30) = .pointer (some ⟨b, o + (n - 1) * 4, none⟩) := h0
      have hc0 : W.cell? ⟨b, o + (n - 1) * 4, none⟩ = some (.int .i64 (x1.d)) := hF.cell (by assumption)
      go_simp
      exact ⟨Ext.refl _, rfl⟩
    · obtain ⟨h0, -⟩ := hs
      replace h0 : ρ (.tmp 1) = .int .i64 (d) := h0
      go_simp
      exact ⟨Ext.refl _, rfl⟩
    · obtain ⟨h0, -⟩ := hs
      replace h0 : ρ (.tmp 32) = .int .i64 (d) := h0
      go_simp
      exact ⟨Ext.alloc _ _, ints_new _ [d] _ (by simp)⟩
    · obtain ⟨h0, h1, h2, -⟩ := hs
      replace h0 : ρ (.tmp 24) = .int .i64 (x0.d) := h0
      replace h1 : ρ (.tmp 31) = .int .i64 (x1.d) := h1
      replace h2 : (Ints [d]) (ρ (.tmp 33)) W := h2
      go_simp
      refine (HRG.out _ _ h2).mono ?_; rintro e w' ⟨rfl, hx⟩; exact ⟨_, rfl, hx, rfl⟩
    · obtain ⟨h0, -⟩ := hs
      replace h0 : ρ (.tmp 34) = .int .i64 (2) := h0
      go_simp
      exact ⟨Ext.refl _, rfl⟩
  · intro fv W2 hF hs
    obtain ⟨-, -, -, -, -, -, -, -, -, -, -, -, -, -, -, h8, -⟩ := hs
    replace h8 : fv 8 = .int .i64 (2) := h8
    simp only [fin, List.filterMap]
    go_simp
    have X := Lib.hid (X.out.trans hF)
    have B0 := Lib.hid (B0.out.ext hF)
    have B1 := Lib.hid (B1.out.ext hF)
    clear hF y0 t0 t1 h8
    have f0 := B1.out.free 0
    have f1 := B1.out.free 1
    have f2 := B1.out.free 2
    have f3 := B1.out.free 3
    have c0 : W2.cell? ⟨w.heap.size + 1, 0, none⟩ = some (.int .i64 0) := B1.out.cell 0
    have c1 : W2.cell? ⟨w.heap.size + 1, 1, none⟩ = some (.int .i64 0) := B1.out.cell 1
    have c2 : W2.cell? ⟨w.heap.size + 1, 2, none⟩ = some (.int .i64 0) := B1.out.cell 2
    have c3 : W2.cell? ⟨w.heap.size + 1, 3, none⟩ = some (.int .i64 0) := B1.out.cell 3
    clear B0 B1
    go_wp2
    exact bodyPost_ret (v := .tuple #[.agg #[.int .i64 0, .int .i64 0, .int .i64 0, .int .i64 0], .int .i64 2]) (by simp [results, Try.f17, go_sem, c0, c1, c2, c3]) rfl ⟨rfl, (Ext.set (Ext.set (Ext.set (Ext.set X.out (by dsimp only; omega) _) (by dsimp only; omega) _) (by dsimp only; omega) _) (by dsimp only; omega) _)⟩

set_option maxRecDepth 100000 in
set_option maxHeartbeats 4000000 in
theorem hardAt_ok {A : Option Addr} {n ca : Nat} {xs : List In} {w : World} (d : Int) (hn : xs.length = n) (hA : RowsAt 4 In.enc w A xs) (hz : (checkT xs).2 = 0) (hd : withinB d (xs.getD 0 default).d (xs.getD (n - 1) default).d = true) :
    Calls Try.prog 17 #[.agg #[.slice A n ca], .int .i64 d] w fun e w' => e = .returned (.tuple #[.agg #[.int .i64 (atV (loP xs) d n).1, .int .i64 (atV (loP xs) d n).2, .int .i64 (atV (upP xs) d n).1, .int .i64 (atV (upP xs) d n).2], .int .i64 0]) ∧ Ext w w' := by
  obtain ⟨m2, m20, hok⟩ := checkT_ok hz
  rw [hn] at m2 m20
  have HTE := Lib.hid (fun W (e : Ext w W) => show Calls Try.prog 83 #[.agg #[.slice A n ca]] W fun e w' => e = .returned (.int .i64 0) ∧ Ext W w' from by
    have := traverseError_any (ca := ca) hn (hA.ext e)
    rw [hz] at this
    exact this)
  obtain ⟨x0, hx0⟩ : ∃ x0, x0 = xs.getD 0 default := ⟨_, rfl⟩
  obtain ⟨x1, hx1⟩ : ∃ x1, x1 = xs.getD (n - 1) default := ⟨_, rfl⟩
  have g0 : xs[0]? = some x0 := by rw [hx0]; exact getI hn (by omega)
  have g1 : xs[n - 1]? = some x1 := by rw [hx1]; exact getI hn (by omega)
  obtain ⟨b, o, rfl, hb, hc⟩ := row_at hA g0
  obtain ⟨b2, o2, he, _, hc2⟩ := row_at hA g1
  obtain ⟨rfl, rfl⟩ : b = b2 ∧ o = o2 := by simpa using he
  have P0 := Lib.hid (show w.cell? ⟨b, o, none⟩ = some (.int .i64 x0.d) by have := hc 0 _ rfl; simpa using this)
  have P1 := Lib.hid (show w.cell? ⟨b, o + (n - 1) * 4, none⟩ = some (.int .i64 x1.d) from hc2 0 _ rfl)
  clear hc hc2 he g0 g1 hb
  have CL := crv_lo hn hz (by rw [withinB_eq] at hd; exact of_decide_eq_true hd)
  have CU := crv_up hn hz (by rw [withinB_eq] at hd; exact of_decide_eq_true hd)
  rw [← hx0, ← hx1] at hd
  have HRG := Lib.hid (fun W s (hI : IntsAt W s [d]) => show Calls Try.prog 79 #[.int .i64 x0.d, .int .i64 x1.d, s] W fun e w' => e = .returned (.int .i64 0) ∧ Ext W w' from by
    have := rangeError_any x0.d x1.d _ [d] _ hI
    rw [show rangeE x0.d x1.d [d] = 0 by rw [rangeE_one, hd]; rfl] at this
    exact this)
  have HCO := Lib.hid (fun W => curvesOf_any (A := some ⟨b, o, none⟩) (n := n) (ca := ca) W)
  have HL := Lib.hid (fun W tb (e : Ext w W) (k : Blk W tb 24 #[.slice (some ⟨b, o, none⟩) n ca]) => at119_any (cp := #[.pointer (some ⟨tb, 0, none⟩)]) (w := W) CL.len CL.two (by have := CL.most; omega) CL.dep CL.bd CL.asc CL.inn (fun i p W2 hp e2 => by
    simp only [loP, List.getElem?_map, Option.map_eq_some_iff] at hp
    obtain ⟨y, hy, rfl⟩ := hp
    exact clos119_any hn (hA.ext (e.trans e2)) ((k.ext e2).cell 0) hy))
  have HH := Lib.hid (fun W tb (e : Ext w W) (k : Blk W tb 24 #[.slice (some ⟨b, o, none⟩) n ca]) => at120_any (cp := #[.pointer (some ⟨tb, 0, none⟩)]) (w := W) CU.len CU.two (by have := CU.most; omega) CU.dep CU.bd CU.asc CU.inn (fun i p W2 hp e2 => by
    simp only [upP, List.getElem?_map, Option.map_eq_some_iff] at hp
    obtain ⟨y, hy, rfl⟩ := hp
    exact clos120_any hn (hA.ext (e.trans e2)) ((k.ext e2).cell 0) hy))
  clear hn hA hz hok hx0 hx1 hd CL CU
  generalize atV (loP xs) d n = lo at *
  generalize atV (upP xs) d n = hi at *

  obtain ⟨W0, hW0⟩ : ∃ W0, W0 = (w.alloc (.cells #[.slice (some ⟨b, o, none⟩) n ca] 24)).alloc (.cells #[.int .i64 0, .int .i64 0, .int .i64 0, .int .i64 0] 34) := ⟨_, rfl⟩
  have K0 := Lib.hid (show Blk W0 w.heap.size 24 #[.slice (some ⟨b, o, none⟩) n ca] by rw [hW0]; exact (Blk.new _ _ _).alloc _)
  have K1 := Lib.hid (show Blk W0 (w.heap.size + 1) 34 #[.int .i64 0, .int .i64 0, .int .i64 0, .int .i64 0] by rw [hW0]; exact Blk.newAt _ _ _ (by simp))
  have E0 := Lib.hid (show Ext w W0 by rw [hW0]; exact (Ext.alloc _ _).trans (Ext.alloc _ _))
  have y0 : W0.cell? ⟨w.heap.size, 0, none⟩ = some (.slice (some ⟨b, o, none⟩) n ca) := K0.out.cell 0
  go_enter Try.func17, Try.ntmps17
  go_wp2_with (fail)
  rw [← hW0]
  clear hW0
  go_wp2_with (go_at_call 83; refine (HTE.out _ E0.out).mono ?_; rintro e W1 ⟨rfl, hx⟩; have X1 := Lib.hid hx; clear hx y0; refine Hid.out ?_)
  refine Lib.hid ?_
  have B0 := Lib.hid (K0.out.ext X1.out)
  have B1 := Lib.hid (K1.out.ext X1.out)
  have X := Lib.hid (E0.out.trans X1.out)
  have y0 : W1.cell? ⟨w.heap.size, 0, none⟩ = some (.slice (some ⟨b, o, none⟩) n ca) := B0.out.cell 0
  have t0 := X.out.cell P0.out
  have t1 := X.out.cell P1.out
  clear K0 K1 X1
  go_wp2
  refine wp_region_each [some 20, some 21, some 22, some 23, some 24, some 25, some 26, some 27, some 28, some 29, some 30, some 31, some 32, some 33, some 34, some 8] [[2], [20], [21], [22], [23], [2], [25], [7], [27], [26, 28], [29], [30], [1], [32], [24, 31, 33], [34]]
    [Is (.pointer (some ⟨w.heap.size, 0, none⟩)), Is (.slice (some ⟨b, o, none⟩) n ca), Is (.pointer (some ⟨b, o, none⟩)), Is (.pointer (some ⟨b, o, none⟩)), Is (.int .i64 (x0.d)), Is (.pointer (some ⟨w.heap.size, 0, none⟩)), Is (.slice (some ⟨b, o, none⟩) n ca), Is (.int .i64 ((n : Int))), Is (.int .i64 ((n : Int) - 1)), Is (.pointer (some ⟨b, o + (n - 1) * 4, none⟩)), Is (.pointer (some ⟨b, o + (n - 1) * 4, none⟩)), Is (.int .i64 (x1.d)), Is (.int .i64 (d)), Ints [d], Is (.int .i64 (0)), Is (.int .i64 (0))]
    (by kernel_rfl) (by kernel_rfl) (by kernel_rfl) (by kernel_rfl) (by kernel_rfl) Ext (fun W => Ext W1 W)
    (fun W _ => Ext.refl W) (fun W W' h k => h.trans k) ?_ (Ext.drew _) ?_ ?_
  · repeat (refine ⟨fun _ _ _ _ k h => (by first | exact h | exact (IntsAt.ext h k)), ?_⟩)
    exact trivial
  · refine ⟨?_, ?_, ?_, ?_, ?_, ?_, ?_, ?_, ?_, ?_, ?_, ?_, ?_, ?_, ?_, ?_, trivial⟩
    all_goals intro ρ W ⟨kc, kg, kf⟩ hF hs
    · obtain ⟨h0, -⟩ := hs
      replace h0 : ρ (.tmp 2) = .pointer (some ⟨w.heap.size, 0, none⟩) := h0
      go_simp
      exact ⟨Ext.refl _, rfl⟩
    · obtain ⟨h0, -⟩ := hs
      replace h0 : ρ (.tmp 20) = .pointer (some ⟨w.heap.size, 0, none⟩) := h0
      have hc0 : W.cell? ⟨w.heap.size, 0, none⟩ = some (.slice (some ⟨b, o, none⟩) n ca) := hF.cell (by assumption)
      go_simp
      exact ⟨Ext.refl _, rfl⟩
    · obtain ⟨h0, -⟩ := hs
      replace h0 : ρ (.tmp 21) = .slice (some ⟨b, o, none⟩) n ca := h0
      have hb2 : (0 : Int) < (n : Int) := by omega
      have hb3 : 0 < n := by omega
      go_simp
      exact ⟨Ext.refl _, rfl⟩
    · obtain ⟨h0, -⟩ := hs
      replace h0 : ρ (.tmp 22) = .pointer (some ⟨b, o, none⟩) := h0
      go_simp
      exact ⟨Ext.refl _, rfl⟩
    · obtain ⟨h0, -⟩ := hs
      replace h0 : ρ (.tmp 23) = .pointer (some ⟨b, o, none⟩) := h0
      have hc0 : W.cell? ⟨b, o, none⟩ = some (.int .i64 (x0.d)) := hF.cell (by assumption)
      go_simp
      exact ⟨Ext.refl _, rfl⟩
    · obtain ⟨h0, -⟩ := hs
      replace h0 : ρ (.tmp 2) = .pointer (some ⟨w.heap.size, 0, none⟩) := h0
      go_simp
      exact ⟨Ext.refl _, rfl⟩
    · obtain ⟨h0, -⟩ := hs
      replace h0 : ρ (.tmp 25) = .pointer (some ⟨w.heap.size, 0, none⟩) := h0
      have hc0 : W.cell? ⟨w.heap.size, 0, none⟩ = some (.slice (some ⟨b, o, none⟩) n ca) := hF.cell (by assumption)
      go_simp
      exact ⟨Ext.refl _, rfl⟩
    · obtain ⟨h0, -⟩ := hs
      replace h0 : ρ (.tmp 7) = .int .i64 ((n : Int)) := h0
      go_simp
      exact ⟨Ext.refl _, rfl⟩
    · obtain ⟨h0, -⟩ := hs
      replace h0 : ρ (.tmp 27) = .int .i64 ((n : Int)) := h0
      have hw : IntKind.i64.wrap ((n : Int) - 1) = (n : Int) - 1 := wrap_id _ (by omega) (by omega)
      go_simp
      exact ⟨Ext.refl _, rfl⟩
    · obtain ⟨h0, h1, -⟩ := hs
      replace h0 : ρ (.tmp 26) = .slice (some ⟨b, o, none⟩) n ca := h0
      replace h1 : ρ (.tmp 28) = .int .i64 ((n : Int) - 1) := h1
      have hb6 : (1 : Int) ≤ (n : Int) := by omega
      have hb2 : (n : Int) - 1 < (n : Int) := by omega
      have hb3 : (0 : Int) ≤ (n : Int) - 1 := by omega
      have hb4 : ((n : Int) - 1).toNat = n - 1 := by omega
      have hb5 : n - 1 < n := by omega
      go_simp
      exact ⟨Ext.refl _, rfl⟩
    · obtain ⟨h0, -⟩ := hs
      replace h0 : ρ (.tmp 29) = .pointer (some ⟨b, o + (n - 1) * 4, none⟩) := h0
      go_simp
      exact ⟨Ext.refl _, rfl⟩
    · obtain ⟨h0, -⟩ := hs
      replace h0 : ρ (.tmp 30) = .pointer (some ⟨b, o + (n - 1) * 4, none⟩) := h0
      have hc0 : W.cell? ⟨b, o + (n - 1) * 4, none⟩ = some (.int .i64 (x1.d)) := hF.cell (by assumption)
      go_simp
      exact ⟨Ext.refl _, rfl⟩
    · obtain ⟨h0, -⟩ := hs
      replace h0 : ρ (.tmp 1) = .int .i64 (d) := h0
      go_simp
      exact ⟨Ext.refl _, rfl⟩
    · obtain ⟨h0, -⟩ := hs
      replace h0 : ρ (.tmp 32) = .int .i64 (d) := h0
      go_simp
      exact ⟨Ext.alloc _ _, ints_new _ [d] _ (by simp)⟩
    · obtain ⟨h0, h1, h2, -⟩ := hs
      replace h0 : ρ (.tmp 24) = .int .i64 (x0.d) := h0
      replace h1 : ρ (.tmp 31) = .int .i64 (x1.d) := h1
      replace h2 : (Ints [d]) (ρ (.tmp 33)) W := h2
      go_simp
      refine (HRG.out _ _ h2).mono ?_; rintro e w' ⟨rfl, hx⟩; exact ⟨_, rfl, hx, rfl⟩
    · obtain ⟨h0, -⟩ := hs
      replace h0 : ρ (.tmp 34) = .int .i64 (0) := h0
      go_simp
      exact ⟨Ext.refl _, rfl⟩
  · intro fv W2 hF hs
    obtain ⟨-, -, -, -, -, -, -, -, -, -, -, -, -, -, -, h8, -⟩ := hs
    replace h8 : fv 8 = .int .i64 (0) := h8
    simp only [fin, List.filterMap]
    go_simp
    have X := Lib.hid (X.out.trans hF)
    have B0 := Lib.hid (B0.out.ext hF)
    have B1 := Lib.hid (B1.out.ext hF)
    clear hF y0 t0 t1 h8
    have y0 : W2.cell? ⟨w.heap.size, 0, none⟩ = some (.slice (some ⟨b, o, none⟩) n ca) := B0.out.cell 0
    go_wp2_with (go_at_call 84; refine (HCO.out _).mono ?_; rintro e W3 ⟨tb, rfl, hk, hx⟩; have X3 := Lib.hid (X.out.trans hx); have B3 := Lib.hid (B1.out.ext hx); have KT := Lib.hid hk; clear hx hk y0; refine Hid.out ?_)
    refine Lib.hid ?_
    go_wp2_with (go_at_call 85; refine (HL.out _ _ X3.out KT.out).mono ?_; rintro e W4 ⟨rfl, hx⟩; have X4 := Lib.hid (X3.out.trans hx); have B4 := Lib.hid (B3.out.ext hx); have KT4 := Lib.hid (KT.out.ext hx); clear hx; refine Hid.out ?_)
    refine Lib.hid ?_
    go_wp2_with (go_at_call 85; refine (HH.out _ _ X4.out KT4.out).mono ?_; rintro e W5 ⟨rfl, hx⟩; have X5 := Lib.hid (X4.out.trans hx); have B5 := Lib.hid (B4.out.ext hx); clear hx; refine Hid.out ?_)
    refine Lib.hid ?_
    have f0 := B5.out.free 0
    have f1 := B5.out.free 1
    have f2 := B5.out.free 2
    have f3 := B5.out.free 3
    have c0 : W5.cell? ⟨w.heap.size + 1, 0, none⟩ = some (.int .i64 0) := B5.out.cell 0
    have c1 : W5.cell? ⟨w.heap.size + 1, 1, none⟩ = some (.int .i64 0) := B5.out.cell 1
    have c2 : W5.cell? ⟨w.heap.size + 1, 2, none⟩ = some (.int .i64 0) := B5.out.cell 2
    have c3 : W5.cell? ⟨w.heap.size + 1, 3, none⟩ = some (.int .i64 0) := B5.out.cell 3
    clear B5 B4 B3 B0 B1 KT KT4
    go_wp2
    exact bodyPost_ret (v := .tuple #[.agg #[.int .i64 lo.1, .int .i64 lo.2, .int .i64 hi.1, .int .i64 hi.2], .int .i64 0]) (by simp [results, Try.f17, go_sem, c0, c1, c2, c3]) rfl ⟨rfl, (Ext.set (Ext.set (Ext.set (Ext.set X5.out (by dsimp only; omega) _) (by dsimp only; omega) _) (by dsimp only; omega) _) (by dsimp only; omega) _)⟩

end Go.Proofs.Ytmddnpagfgilcaa
