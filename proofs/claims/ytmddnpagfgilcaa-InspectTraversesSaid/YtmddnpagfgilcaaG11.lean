/- ref.Case. -/
import Derived.Test.YtmddnpagfgilcaaG10
import Derived.Lib.MinMax

namespace Go.Proofs.Ytmddnpagfgilcaa
open Go.RowKit Go.Shelf Go.Mem Go.RegInv
attribute [local go_sem] RelUpon_value RelUpon_skip RelUpon_enter BigFrame.eval_const BigFrame.eval_global BigFrame.eval_func


theorem fallK_none {ps : List (Int × Int)} {l : Int} : ∀ {f k : Nat}, fallK ps l f k = none ↔ ∀ i, k ≤ i → i < k + f → l ≤ (ps.getD i default).2
  | 0, k => by simp [fallK]; intro i h1 h2; omega
  | f + 1, k => by
    rw [fallK]
    by_cases h : l ≤ (ps.getD k default).2
    · rw [if_pos h, fallK_none]
      constructor
      · intro hh i h1 h2
        rcases Nat.lt_or_ge k i with h3 | h3
        · exact hh i h3 (by omega)
        · rw [show i = k by omega]; exact h
      · intro hh i h1 h2
        exact hh i (by omega) (by omega)
    · rw [if_neg h]
      constructor
      · intro hh
        exfalso
        revert hh
        split <;> intro hh <;> cases hh
      · intro hh
        exact absurd (hh k (Nat.le_refl _) (by omega)) h
theorem bd_loP {xs : List In} (hok : ∀ (i : Nat) (x : In), xs[i]? = some x → 1 ≤ x.d ∧ x.d ≤ 10000 ∧ 1 ≤ x.g ∧ x.g ≤ 10000 ∧ 0 ≤ x.lo ∧ x.lo ≤ x.hi ∧ x.hi ≤ 2000 ∧ distK xs i = false) (i : Nat) (p : Int × Int) (h : (loP xs)[i]? = some p) : 0 ≤ p.1 ∧ p.1 ≤ 10000 ∧ 0 ≤ p.2 ∧ p.2 ≤ 2000 := by
  simp only [loP, List.getElem?_map, Option.map_eq_some_iff] at h
  obtain ⟨y, hy, rfl⟩ := h
  have := hok i y hy
  exact ⟨by dsimp only; omega, by dsimp only; omega, by dsimp only; omega, by dsimp only; omega⟩
theorem bd_upP {xs : List In} (hok : ∀ (i : Nat) (x : In), xs[i]? = some x → 1 ≤ x.d ∧ x.d ≤ 10000 ∧ 1 ≤ x.g ∧ x.g ≤ 10000 ∧ 0 ≤ x.lo ∧ x.lo ≤ x.hi ∧ x.hi ≤ 2000 ∧ distK xs i = false) (i : Nat) (p : Int × Int) (h : (upP xs)[i]? = some p) : 0 ≤ p.1 ∧ p.1 ≤ 10000 ∧ 0 ≤ p.2 ∧ p.2 ≤ 2000 := by
  simp only [upP, List.getElem?_map, Option.map_eq_some_iff] at h
  obtain ⟨y, hy, rfl⟩ := h
  have := hok i y hy
  exact ⟨by dsimp only; omega, by dsimp only; omega, by dsimp only; omega, by dsimp only; omega⟩
theorem fall_both {xs : List In} {n : Nat} {l : Int} (hn : xs.length = n) (hz : (checkT xs).2 = 0) {hi : Int × Int} (h : fallK (upP xs) l n 0 = some hi) : ∃ lo, fallK (loP xs) l n 0 = some lo := by
  obtain ⟨m2, m20, hok⟩ := checkT_ok hz
  cases hl : fallK (loP xs) l n 0 with
  | some lo => exact ⟨lo, rfl⟩
  | none =>
    exfalso
    have h2 : fallK (upP xs) l n 0 = none := fallK_none.2 fun i h1 h2 => by
      have h3 := fallK_none.1 hl i h1 h2
      unfold loP at h3
      unfold upP
      rw [mapI hn (by omega)] at h3 ⊢
      have := hok i _ (getI hn (by omega))
      dsimp only at h3 ⊢
      omega
    rw [h2] at h; cases h

set_option maxRecDepth 100000 in
set_option maxHeartbeats 4000000 in
theorem refCase_none {A : Option Addr} {n ca : Nat} {xs : List In} {w : World} (l : Int) (hn : xs.length = n) (hA : RowsAt 4 In.enc w A xs) (hz : (checkT xs).2 = 0) (_hl : 0 ≤ l ∧ l ≤ 2000) (hh : (xs.getD 0 default).hi < l) : Calls Try.prog 24 #[.agg #[.slice A n ca], .int .i64 l] w fun e w' => e = .returned (.tuple #[.agg #[.int .i64 0, .int .i64 0, .int .i64 0, .int .i64 0], .int .i64 12]) ∧ Ext w w' := by
  obtain ⟨m2, m20, hok⟩ := checkT_ok hz
  rw [hn] at m2 m20
  obtain ⟨x0, hx0⟩ : ∃ x0, x0 = xs.getD 0 default := ⟨_, rfl⟩
  have g0 : xs[0]? = some x0 := by rw [hx0]; exact getI hn (by omega)
  obtain ⟨b, o, rfl, hb, hc⟩ := row_at hA g0
  have hp3 : w.cell? ⟨b, o + 3, none⟩ = some (.int .i64 x0.hi) := by have := hc 3 _ rfl; simpa using this
  have p3 : ∀ o1 o2, ((w.alloc o1).alloc o2).cell? ⟨b, o + 3, none⟩ = some (.int .i64 x0.hi) := fun o1 o2 => ((Ext.alloc _ _).trans (Ext.alloc _ _)).cell hp3
  have hp32 : ∀ o1 o2, ((w.alloc o1).alloc o2).cell? ⟨b, o + 2 + 1, none⟩ = some (.int .i64 x0.hi) := p3
  rw [← hx0] at hh
  clear hc g0 hb hp3
  have hn0 : (0 : Int) < (n : Int) := by omega
  have hn1 : 0 < n := by omega
  clear hn hA hz hok hx0 _hl
  go_enter Try.func24, Try.ntmps24
  go_wp2
  exact bodyPost_ret (v := .tuple #[.agg #[.int .i64 0, .int .i64 0, .int .i64 0, .int .i64 0], .int .i64 12]) (by simp [results, Try.f24, go_sem]) rfl ⟨rfl, (Ext.alloc _ _).trans (Ext.alloc _ _)⟩

set_option maxRecDepth 100000 in
set_option maxHeartbeats 4000000 in
theorem refCase_open {A : Option Addr} {n ca : Nat} {xs : List In} {w : World} (l : Int) (hn : xs.length = n) (hA : RowsAt 4 In.enc w A xs) (hz : (checkT xs).2 = 0) (hl : 0 ≤ l ∧ l ≤ 2000) (hh : ¬ (xs.getD 0 default).hi < l) (hf : fallK (upP xs) l n 0 = none) : Calls Try.prog 24 #[.agg #[.slice A n ca], .int .i64 l] w fun e w' => e = .returned (.tuple #[.agg #[.int .i64 0, .int .i64 0, .int .i64 0, .int .i64 0], .int .i64 21]) ∧ Ext w w' := by
  obtain ⟨m2, m20, hok⟩ := checkT_ok hz
  rw [hn] at m2 m20
  obtain ⟨x0, hx0⟩ : ∃ x0, x0 = xs.getD 0 default := ⟨_, rfl⟩
  have g0 : xs[0]? = some x0 := by rw [hx0]; exact getI hn (by omega)
  obtain ⟨b, o, rfl, hb, hc⟩ := row_at hA g0
  have hp3 : w.cell? ⟨b, o + 3, none⟩ = some (.int .i64 x0.hi) := by have := hc 3 _ rfl; simpa using this
  have p3 : ∀ o1 o2, ((w.alloc o1).alloc o2).cell? ⟨b, o + 3, none⟩ = some (.int .i64 x0.hi) := fun o1 o2 => ((Ext.alloc _ _).trans (Ext.alloc _ _)).cell hp3
  have hp32 : ∀ o1 o2, ((w.alloc o1).alloc o2).cell? ⟨b, o + 2 + 1, none⟩ = some (.int .i64 x0.hi) := p3
  rw [← hx0] at hh
  clear hc g0 hb hp3
  have hn0 : (0 : Int) < (n : Int) := by omega
  have hn1 : 0 < n := by omega
  have HCU := Lib.hid (fun W (e : Ext w W) => curveHi_any (ca := ca) hn (by omega) (hA.ext e))
  have HCL := Lib.hid (fun W (e : Ext w W) => curveLo_any (ca := ca) hn (by omega) (hA.ext e))
  have HFU := Lib.hid (fun W A c (h : RowsAt 2 frEnc W A (upP xs)) => refFalls_any (ca := c) (n := n) (ps := upP xs) (l := l) (by simp [upP, hn]) (by omega) hl (bd_upP hok) h)
  rw [hf] at HFU
  replace HFU := Lib.hid HFU
  clear hn hA hz hok hx0 hl hf
  have P0 := Lib.hid (show Blk ((w.alloc (.cells #[.slice (some ⟨b, o, none⟩) n ca] 24)).alloc (.cells #[.int .i64 0, .int .i64 0, .int .i64 0, .int .i64 0] 34)) w.heap.size 24 #[.slice (some ⟨b, o, none⟩) n ca] from (Blk.new _ _ _).alloc _)
  have P1 := Lib.hid (show Blk ((w.alloc (.cells #[.slice (some ⟨b, o, none⟩) n ca] 24)).alloc (.cells #[.int .i64 0, .int .i64 0, .int .i64 0, .int .i64 0] 34)) (w.heap.size + 1) 34 #[.int .i64 0, .int .i64 0, .int .i64 0, .int .i64 0] from Blk.newAt _ _ _ (by simp))
  go_enter Try.func24, Try.ntmps24
  go_wp2_with (go_at_call 22; refine (HCU.out _ ((Ext.alloc _ _).trans (Ext.alloc _ _))).mono ?_; rintro e W1 ⟨A2, c2, rfl, hr2, hx⟩; have X := Lib.hid (((Ext.alloc _ _).trans (Ext.alloc _ _)).trans hx); have K0 := Lib.hid (P0.out.ext hx); have K1 := Lib.hid (P1.out.ext hx); have R2 := Lib.hid hr2; clear hx hr2; refine Hid.out ?_)
  refine Lib.hid ?_
  go_wp2_with (go_at_call 88; refine (HFU.out _ _ _ R2.out).mono ?_; rintro e W2 ⟨rfl, hx⟩; have X := Lib.hid (X.out.trans hx); have K0 := Lib.hid (K0.out.ext hx); have K1 := Lib.hid (K1.out.ext hx); clear hx R2; refine Hid.out ?_)
  refine Lib.hid ?_
  have SZ := Lib.hid (show w.heap.size + 1 < W2.heap.size from K1.out.lt)
  have f0 : ∀ o, (W2.alloc o).frozen? ⟨w.heap.size + 1, 0, none⟩ = false := fun o => (K1.out.alloc o).free 0
  have c0 : ∀ o, (W2.alloc o).cell? ⟨w.heap.size + 1, 0, none⟩ = some (.int .i64 0) := fun o => (K1.out.alloc o).cell 0
  have f1 : ∀ o, (W2.alloc o).frozen? ⟨w.heap.size + 1, 1, none⟩ = false := fun o => (K1.out.alloc o).free 1
  have c1 : ∀ o, (W2.alloc o).cell? ⟨w.heap.size + 1, 1, none⟩ = some (.int .i64 0) := fun o => (K1.out.alloc o).cell 1
  have f2 : ∀ o, (W2.alloc o).frozen? ⟨w.heap.size + 1, 2, none⟩ = false := fun o => (K1.out.alloc o).free 2
  have c2 : ∀ o, (W2.alloc o).cell? ⟨w.heap.size + 1, 2, none⟩ = some (.int .i64 0) := fun o => (K1.out.alloc o).cell 2
  have f3 : ∀ o, (W2.alloc o).frozen? ⟨w.heap.size + 1, 3, none⟩ = false := fun o => (K1.out.alloc o).free 3
  have c3 : ∀ o, (W2.alloc o).cell? ⟨w.heap.size + 1, 3, none⟩ = some (.int .i64 0) := fun o => (K1.out.alloc o).cell 3
  go_wp2
  exact bodyPost_ret (v := .tuple #[.agg #[.int .i64 0, .int .i64 0, .int .i64 0, .int .i64 0], .int .i64 21]) (by simp [results, Try.f24, go_sem, c0, c1, c2, c3]) rfl ⟨rfl, (Ext.set (Ext.set (Ext.set (Ext.set (X.out.trans (Ext.alloc _ _)) (by dsimp only; omega) _) (by dsimp only; omega) _) (by dsimp only; omega) _) (by dsimp only; omega) _)⟩

set_option maxRecDepth 100000 in
set_option maxHeartbeats 4000000 in
theorem refCase_ok {A : Option Addr} {n ca : Nat} {xs : List In} {w : World} (l : Int) (hn : xs.length = n) (hA : RowsAt 4 In.enc w A xs) (hz : (checkT xs).2 = 0) (hl : 0 ≤ l ∧ l ≤ 2000) {lo hi : Int × Int} (hh : ¬ (xs.getD 0 default).hi < l) (hf : fallK (upP xs) l n 0 = some hi) (hg : fallK (loP xs) l n 0 = some lo) : Calls Try.prog 24 #[.agg #[.slice A n ca], .int .i64 l] w fun e w' => e = .returned (.tuple #[.agg #[.int .i64 lo.1, .int .i64 lo.2, .int .i64 hi.1, .int .i64 hi.2], .int .i64 0]) ∧ Ext w w' := by
  obtain ⟨m2, m20, hok⟩ := checkT_ok hz
  rw [hn] at m2 m20
  obtain ⟨x0, hx0⟩ : ∃ x0, x0 = xs.getD 0 default := ⟨_, rfl⟩
  have g0 : xs[0]? = some x0 := by rw [hx0]; exact getI hn (by omega)
  obtain ⟨b, o, rfl, hb, hc⟩ := row_at hA g0
  have hp3 : w.cell? ⟨b, o + 3, none⟩ = some (.int .i64 x0.hi) := by have := hc 3 _ rfl; simpa using this
  have p3 : ∀ o1 o2, ((w.alloc o1).alloc o2).cell? ⟨b, o + 3, none⟩ = some (.int .i64 x0.hi) := fun o1 o2 => ((Ext.alloc _ _).trans (Ext.alloc _ _)).cell hp3
  have hp32 : ∀ o1 o2, ((w.alloc o1).alloc o2).cell? ⟨b, o + 2 + 1, none⟩ = some (.int .i64 x0.hi) := p3
  rw [← hx0] at hh
  clear hc g0 hb hp3
  have hn0 : (0 : Int) < (n : Int) := by omega
  have hn1 : 0 < n := by omega
  have HCU := Lib.hid (fun W (e : Ext w W) => curveHi_any (ca := ca) hn (by omega) (hA.ext e))
  have HCL := Lib.hid (fun W (e : Ext w W) => curveLo_any (ca := ca) hn (by omega) (hA.ext e))
  have HFU := Lib.hid (fun W A c (h : RowsAt 2 frEnc W A (upP xs)) => refFalls_any (ca := c) (n := n) (ps := upP xs) (l := l) (by simp [upP, hn]) (by omega) hl (bd_upP hok) h)
  rw [hf] at HFU
  have HFL := Lib.hid (fun W A c (h : RowsAt 2 frEnc W A (loP xs)) => refFalls_any (ca := c) (n := n) (ps := loP xs) (l := l) (by simp [loP, hn]) (by omega) hl (bd_loP hok) h)
  rw [hg] at HFL
  replace HFU := Lib.hid HFU
  replace HFL := Lib.hid HFL
  clear hn hA hz hok hx0 hl hf hg
  have P0 := Lib.hid (show Blk ((w.alloc (.cells #[.slice (some ⟨b, o, none⟩) n ca] 24)).alloc (.cells #[.int .i64 0, .int .i64 0, .int .i64 0, .int .i64 0] 34)) w.heap.size 24 #[.slice (some ⟨b, o, none⟩) n ca] from (Blk.new _ _ _).alloc _)
  have P1 := Lib.hid (show Blk ((w.alloc (.cells #[.slice (some ⟨b, o, none⟩) n ca] 24)).alloc (.cells #[.int .i64 0, .int .i64 0, .int .i64 0, .int .i64 0] 34)) (w.heap.size + 1) 34 #[.int .i64 0, .int .i64 0, .int .i64 0, .int .i64 0] from Blk.newAt _ _ _ (by simp))
  go_enter Try.func24, Try.ntmps24
  go_wp2_with (go_at_call 22; refine (HCU.out _ ((Ext.alloc _ _).trans (Ext.alloc _ _))).mono ?_; rintro e W1 ⟨A2, c2, rfl, hr2, hx⟩; have X := Lib.hid (((Ext.alloc _ _).trans (Ext.alloc _ _)).trans hx); have K0 := Lib.hid (P0.out.ext hx); have K1 := Lib.hid (P1.out.ext hx); have R2 := Lib.hid hr2; clear hx hr2; refine Hid.out ?_)
  refine Lib.hid ?_
  go_wp2_with (go_at_call 88; refine (HFU.out _ _ _ R2.out).mono ?_; rintro e W2 ⟨rfl, hx⟩; have X := Lib.hid (X.out.trans hx); have K0 := Lib.hid (K0.out.ext hx); have K1 := Lib.hid (K1.out.ext hx); clear hx R2; refine Hid.out ?_)
  refine Lib.hid ?_
  have y0 : ∀ o1, (W2.alloc o1).cell? ⟨w.heap.size, 0, none⟩ = some (.slice (some ⟨b, o, none⟩) n ca) := fun o1 => (K0.out.alloc o1).cell 0
  go_wp2_with (fail)
  obtain ⟨V, hV⟩ : ∃ V, V = W2.alloc (.cells #[.int .i64 hi.1, .int .i64 hi.2] 32) := ⟨_, rfl⟩
  obtain ⟨q6, hq6⟩ : ∃ q, q = W2.heap.size := ⟨_, rfl⟩
  rw [← hV, ← hq6]
  have K6 := Lib.hid (show Blk V q6 32 #[.int .i64 hi.1, .int .i64 hi.2] by rw [hV, hq6]; exact Blk.new _ _ _)
  have hx : Ext W2 V := by rw [hV]; exact Ext.alloc _ _
  have X := Lib.hid (X.out.trans hx); have K0 := Lib.hid (K0.out.ext hx); have K1 := Lib.hid (K1.out.ext hx);
  clear hx hV hq6 y0 p3 hp32
  go_wp2_with (go_at_call 22; refine (HCL.out _ X.out).mono ?_; rintro e W3 ⟨A2, c2, rfl, hr2, hx⟩; have X := Lib.hid (X.out.trans hx); have K0 := Lib.hid (K0.out.ext hx); have K1 := Lib.hid (K1.out.ext hx); have K6 := Lib.hid (K6.out.ext hx); have R2 := Lib.hid hr2; clear hx hr2; refine Hid.out ?_)
  refine Lib.hid ?_
  go_wp2_with (go_at_call 88; refine (HFL.out _ _ _ R2.out).mono ?_; rintro e W4 ⟨rfl, hx⟩; have X := Lib.hid (X.out.trans hx); have K0 := Lib.hid (K0.out.ext hx); have K1 := Lib.hid (K1.out.ext hx); have K6 := Lib.hid (K6.out.ext hx); clear hx R2; refine Hid.out ?_)
  refine Lib.hid ?_
  have SZ := Lib.hid (show w.heap.size + 1 < W4.heap.size from K1.out.lt)
  have f0 : ∀ o, (W4.alloc o).frozen? ⟨w.heap.size + 1, 0, none⟩ = false := fun o => (K1.out.alloc o).free 0
  have c0 : ∀ o, (W4.alloc o).cell? ⟨w.heap.size + 1, 0, none⟩ = some (.int .i64 0) := fun o => (K1.out.alloc o).cell 0
  have f1 : ∀ o, (W4.alloc o).frozen? ⟨w.heap.size + 1, 1, none⟩ = false := fun o => (K1.out.alloc o).free 1
  have c1 : ∀ o, (W4.alloc o).cell? ⟨w.heap.size + 1, 1, none⟩ = some (.int .i64 0) := fun o => (K1.out.alloc o).cell 1
  have f2 : ∀ o, (W4.alloc o).frozen? ⟨w.heap.size + 1, 2, none⟩ = false := fun o => (K1.out.alloc o).free 2
  have c2 : ∀ o, (W4.alloc o).cell? ⟨w.heap.size + 1, 2, none⟩ = some (.int .i64 0) := fun o => (K1.out.alloc o).cell 2
  have f3 : ∀ o, (W4.alloc o).frozen? ⟨w.heap.size + 1, 3, none⟩ = false := fun o => (K1.out.alloc o).free 3
  have c3 : ∀ o, (W4.alloc o).cell? ⟨w.heap.size + 1, 3, none⟩ = some (.int .i64 0) := fun o => (K1.out.alloc o).cell 3
  have z0 : ∀ o, (W4.alloc o).cell? ⟨q6, 0, none⟩ = some (.int .i64 hi.1) := fun o => (K6.out.alloc o).cell 0
  have z1 : ∀ o, (W4.alloc o).cell? ⟨q6, 1, none⟩ = some (.int .i64 hi.2) := fun o => (K6.out.alloc o).cell 1
  go_wp2
  exact bodyPost_ret (v := .tuple #[.agg #[.int .i64 lo.1, .int .i64 lo.2, .int .i64 hi.1, .int .i64 hi.2], .int .i64 0]) (by simp [results, Try.f24, go_sem, c0, c1, c2, c3]) rfl ⟨rfl, (Ext.set (Ext.set (Ext.set (Ext.set (X.out.trans (Ext.alloc _ _)) (by dsimp only; omega) _) (by dsimp only; omega) _) (by dsimp only; omega) _) (by dsimp only; omega) _)⟩

end Go.Proofs.Ytmddnpagfgilcaa
