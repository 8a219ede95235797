/- Tables: Converted. -/
import Derived.Test.YtmddnpagfgilcaaB6
import Derived.Lib.MinMax

namespace Go.Proofs.Ytmddnpagfgilcaa
open Go.RowKit Go.Shelf Go.Mem Go.RegInv
attribute [local go_sem] RelUpon_value RelUpon_skip RelUpon_enter BigFrame.eval_const BigFrame.eval_global BigFrame.eval_func


theorem lowT_bd {a b : Int} (ha : -100000000 ≤ a ∧ a ≤ 100000000) (hb : 0 < b ∧ b ≤ 100000000) : -100000000 ≤ (lowT a b).1 ∧ (lowT a b).1 ≤ 100000000 ∧ 0 < (lowT a b).2 ∧ (lowT a b).2 ≤ 100000000 := by
  have h1 := Int.natAbs_tdiv_le_natAbs a (Nat.gcd a.natAbs b.natAbs : Int)
  have h2 := Int.natAbs_tdiv_le_natAbs b (Nat.gcd a.natAbs b.natAbs : Int)
  have h3 : 0 < Nat.gcd a.natAbs b.natAbs := Nat.gcd_pos_of_pos_right _ (by omega)
  have h4 : ((Nat.gcd a.natAbs b.natAbs : Nat) : Int) ∣ b := Int.ofNat_dvd_left.2 (Nat.gcd_dvd_right _ _)
  have h5 : b.tdiv (Nat.gcd a.natAbs b.natAbs : Int) ≠ 0 := by
    intro h
    have := Int.tdiv_mul_cancel h4
    rw [h] at this
    omega
  have h6 : 0 ≤ b.tdiv (Nat.gcd a.natAbs b.natAbs : Int) := Int.tdiv_nonneg (by omega) (by omega)
  unfold lowT
  dsimp only
  omega
set_option maxHeartbeats 1000000 in
theorem floorP_any (n b : Int) (hb : 0 < b ∧ b ≤ 5000000000000000000) (hn : -5000000000000000000 ≤ n ∧ n ≤ 5000000000000000000) (w : World) :
    Calls Try.prog 126 #[.agg #[.int .i64 n, .int .i64 b]] w fun e w' => e = .returned (.int .i64 (n / b)) ∧ Ext w w' := by
  obtain ⟨hb1, hb2⟩ := hb
  obtain ⟨hn1, hn2⟩ := hn
  by_cases h0 : 0 ≤ n
  · have h1 := Int.emod_nonneg n (show b ≠ 0 by omega)
    have h2 := Int.ediv_nonneg h0 (show 0 ≤ b by omega)
    have h3 := Int.ediv_le_self b h0
    have h4 : decide (n % b < 0) = false := by simp; omega
    go_enter Try.func126, Try.ntmps126
    go_wp2
    go_ret
    exact ⟨rfl, Ext.alloc _ _⟩
  · obtain ⟨q, r, hq, hr, r0, rb, he, hnq, hq0⟩ := neg_parts hb1 (show n < 0 by omega)
    by_cases hrz : r = 0
    · have HF := Lib.hid (show n / b = q from floor_unique hb1 (by omega) (by rw [Int.add_mul, Int.one_mul]; omega))
      have hd : decide (r < 0) = false := by simp; omega
      generalize n / b = s at *
      clear he hrz
      go_enter Try.func126, Try.ntmps126
      go_wp2
      go_ret
      exact ⟨ret_int HF.out.symm, Ext.alloc _ _⟩
    · have HF := Lib.hid (show n / b = q - 1 from floor_unique hb1 (by rw [Int.sub_mul, Int.one_mul]; omega) (by rw [show q - 1 + 1 = q by omega]; omega))
      have hd : decide (r < 0) = true := by simp; omega
      generalize n / b = s at *
      clear he hrz
      go_enter Try.func126, Try.ntmps126
      go_wp2
      go_ret
      exact ⟨ret_int HF.out.symm, Ext.alloc _ _⟩



theorem ceiling_any (n b : Int) (hb : 0 < b ∧ b ≤ 1000000000) (hn : -1000000000 ≤ n ∧ n ≤ 1000000000) (w : World) :
    Calls Try.prog 127 #[.agg #[.int .i64 n, .int .i64 b]] w fun e w' => e = .returned (.int .i64 (-(-n / b))) ∧ Ext w w' := by
  obtain ⟨hb1, hb2⟩ := hb
  obtain ⟨hn1, hn2⟩ := hn
  have HF := Lib.hid (fun W => floorP_any (-n) b ⟨by omega, by omega⟩ ⟨by omega, by omega⟩ W)
  have q1 : -n / b ≤ 1000000000 := by
    have := Int.ediv_le_of_le_mul hb1 (show -n ≤ 1000000000 * b by
      have : 1000000000 * 1 ≤ 1000000000 * b := Int.mul_le_mul_of_nonneg_left (by omega) (by omega)
      omega)
    exact this
  have q2 : -1000000000 ≤ -n / b := by
    refine Int.le_ediv_of_mul_le hb1 ?_
    have : (-1000000000) * b ≤ (-1000000000) * 1 := Int.mul_le_mul_of_nonpos_left (by omega) (by omega)
    omega
  generalize -n / b = q at *
  go_enter Try.func127, Try.ntmps127
  go_wp2_with (go_at_call 126; refine (HF.out _).mono ?_; rintro e W1 ⟨rfl, hx⟩; have X1 := Lib.hid ((Ext.alloc _ _).trans hx); clear hx)
  go_ret
  exact ⟨rfl, X1.out⟩
def loF (xs : List Kn) : List (Int × Int) := xs.map fun x => (x.f, x.lo)
def hiF (xs : List Kn) : List (Int × Int) := xs.map fun x => (x.f, x.hi)
theorem checkX_ok {xs : List Kn} (h : (checkX xs).2 = 0) : 2 ≤ xs.length ∧ xs.length ≤ 12 ∧ (∀ (i : Nat) (x : Kn), xs[i]? = some x → 0 ≤ x.f ∧ x.f ≤ 2000 ∧ 0 ≤ x.lo ∧ x.lo ≤ x.hi ∧ x.hi ≤ 2000) ∧ ∀ (i : Nat) (x y : Kn), xs[i]? = some y → xs[i + 1]? = some x → y.f < x.f ∧ y.lo ≤ x.lo ∧ y.hi ≤ x.hi := by
  unfold checkX at h
  by_cases hz : countE xs.length 2 12 = 0
  · rw [if_neg (by simpa using hz)] at h
    obtain ⟨c1, c2⟩ := count_ok hz
    have key : ∀ (i : Nat) (x : Kn), xs[i]? = some x → kntE (befK xs i) x = 0 := fun i x hx => by
      have hi := (List.getElem?_eq_some_iff.1 hx).1
      have e := firstAt_zero h i (by omega) (by omega)
      unfold tabAt at e
      rwa [show xs.getD i default = x by simp [hx]] at e
    refine ⟨by omega, by omega, fun i x hx => ?_, fun i x y hy hx => ?_⟩
    · have e := key i x hx
      have e1 := rangeE_zeros (firstE_zero e (rangeE 0 2000 [x.f, x.lo, x.hi]) (by simp))
      have e3 := firstE_zero e (errIf (decide (x.hi < x.lo)) 9) (by simp)
      have a1 := e1 x.f (by simp)
      have a3 := e1 x.lo (by simp)
      have a4 := e1 x.hi (by simp)
      simp [errIf] at e3
      exact ⟨a1.1, a1.2, a3.1, e3, a4.2⟩
    · have e := key (i + 1) x hx
      have e4 := firstE_zero e (errIf (befK xs (i + 1)) 9) (by simp)
      simp [errIf, befK, aftB, hx, hy] at e4
      omega
  · rw [if_pos hz] at h
    exact absurd h hz
theorem asc_all {xs : List Kn} (h : ∀ (i : Nat) (x y : Kn), xs[i]? = some y → xs[i + 1]? = some x → y.f < x.f ∧ y.lo ≤ x.lo ∧ y.hi ≤ x.hi) : ∀ i j, i < j → j < xs.length → (xs.getD i default).f < (xs.getD j default).f := by
  intro i j hij hj
  obtain ⟨d, rfl⟩ : ∃ d, j = i + 1 + d := ⟨j - (i + 1), by omega⟩
  induction d with
  | zero =>
    have a := h i (xs.getD (i + 1) default) (xs.getD i default) (by rw [List.getD_eq_getElem?_getD, List.getElem?_eq_getElem (by omega)]; rfl) (by rw [List.getD_eq_getElem?_getD, List.getElem?_eq_getElem (by omega)]; rfl)
    exact a.1
  | succ d ih =>
    have a := h (i + 1 + d) (xs.getD (i + 1 + d + 1) default) (xs.getD (i + 1 + d) default) (by rw [List.getD_eq_getElem?_getD, List.getElem?_eq_getElem (by omega)]; rfl) (by rw [List.getD_eq_getElem?_getD, List.getElem?_eq_getElem (by omega)]; rfl)
    exact Int.lt_trans (ih (by omega) (by omega)) a.1
/-- A converted range. -/
def convV (xs : List Kn) (a b : Int) : Int × Int := ((atV (loF xs) a xs.length).1 / (atV (loF xs) a xs.length).2, -(-(atV (hiF xs) b xs.length).1 / (atV (hiF xs) b xs.length).2))
theorem line_bd {y z : Int × Int} {d : Int} (hy : 0 ≤ y.1 ∧ y.1 ≤ 10000 ∧ 0 ≤ y.2 ∧ y.2 ≤ 2000) (hz : 0 ≤ z.1 ∧ z.1 ≤ 10000 ∧ 0 ≤ z.2 ∧ z.2 ≤ 2000) (h1 : y.1 < z.1) (h0 : y.1 ≤ d) (h2 : d ≤ z.1) : -100000000 ≤ (lineV y z d).1 ∧ (lineV y z d).1 ≤ 100000000 ∧ 0 < (lineV y z d).2 ∧ (lineV y z d).2 ≤ 100000000 := by
  have a0 : 0 ≤ y.2 * (z.1 - y.1) := Int.mul_nonneg (by omega) (by omega)
  have a1 : y.2 * (z.1 - y.1) ≤ 2000 * 10000 := Int.mul_le_mul (by omega) (by omega) (by omega) (by omega)
  have a2 : (z.2 - y.2) * (d - y.1) ≤ 2000 * 10000 := by
    have h1 : (z.2 - y.2) * (d - y.1) ≤ 2000 * (d - y.1) := Int.mul_le_mul_of_nonneg_right (by omega) (by omega)
    omega
  have a3 : -(2000 * 10000) ≤ (z.2 - y.2) * (d - y.1) := by
    have h1 : (-2000) * (d - y.1) ≤ (z.2 - y.2) * (d - y.1) := Int.mul_le_mul_of_nonneg_right (by omega) (by omega)
    omega
  exact lowT_bd ⟨by omega, by omega⟩ ⟨by omega, by omega⟩
theorem atJ_bd {ps : List (Int × Int)} {d : Int} : ∀ f k, k ≤ atJ ps d f k ∧ atJ ps d f k ≤ k + f ∧ (∀ i, k ≤ i → i < atJ ps d f k → (ps.getD i default).1 < d) ∧ (atJ ps d f k < k + f → d ≤ (ps.getD (atJ ps d f k) default).1)
  | 0, k => ⟨Nat.le_refl _, Nat.le_refl _, fun i h1 h2 => by rw [atJ] at h2; omega, fun h => by rw [atJ] at h; omega⟩
  | f + 1, k => by
    rw [atJ]
    split
    · rename_i h
      obtain ⟨h1, h2, h3, h4⟩ := atJ_bd (ps := ps) (d := d) f (k + 1)
      refine ⟨by omega, by omega, fun i a b => ?_, fun a => h4 (by omega)⟩
      rcases Nat.lt_or_ge k i with c | c
      · exact h3 i c b
      · obtain rfl : i = k := by omega
        exact h
    · rename_i h
      exact ⟨Nat.le_refl _, by omega, fun i a b => by omega, fun _ => by omega⟩
theorem at_bd {ps : List (Int × Int)} {d : Int} {n : Nat} (hn : ps.length = n) (hn2 : 2 ≤ n) (hp : ∀ (i : Nat) (p : Int × Int), ps[i]? = some p → 0 ≤ p.1 ∧ p.1 ≤ 10000 ∧ 0 ≤ p.2 ∧ p.2 ≤ 2000)
    (hu : ∀ i j, i < j → j < n → (ps.getD i default).1 < (ps.getD j default).1) (hin : (ps.getD 0 default).1 ≤ d ∧ d ≤ (ps.getD (n - 1) default).1) : -100000000 ≤ (atV ps d n).1 ∧ (atV ps d n).1 ≤ 100000000 ∧ 0 < (atV ps d n).2 ∧ (atV ps d n).2 ≤ 100000000 := by
  obtain ⟨h1, h2, h3, h4⟩ := atJ_bd (ps := ps) (d := d) (n - 2) 1
  unfold atV
  generalize atJ ps d (n - 2) 1 = j at *
  have g : ∀ i, i < n → ps[i]? = some (ps.getD i default) := fun i h => by rw [List.getD_eq_getElem?_getD, List.getElem?_eq_getElem (by omega)]; rfl
  refine line_bd (hp _ _ (g _ (by omega))) (hp _ _ (g _ (by omega))) (hu _ _ (by omega) (by omega)) ?_ ?_
  · rcases Nat.eq_zero_or_pos (j - 1) with h | h
    · rw [h]; exact hin.1
    · have := h3 (j - 1) (by omega) (by omega); omega
  · rcases Nat.lt_or_ge j (1 + (n - 2)) with h | h
    · exact h4 h
    · rw [show j = n - 1 by omega]; exact hin.2
theorem map_getD {xs : List Kn} {g : Kn → Int × Int} {i : Nat} (h : i < xs.length) : (xs.map g).getD i default = g (xs.getD i default) := by
  rw [List.getD_eq_getElem?_getD, List.getD_eq_getElem?_getD, List.getElem?_map, List.getElem?_eq_getElem h]; rfl
set_option maxRecDepth 100000 in
set_option maxHeartbeats 1000000 in
theorem converted_any {A : Option Addr} {n ca : Nat} {xs : List Kn} {w : World} (a b : Int) (hn : xs.length = n) (hA : RowsAt 3 Kn.enc w A xs) (hz : (checkX xs).2 = 0) (ha : (xs.getD 0 default).f ≤ a ∧ a ≤ (xs.getD (n - 1) default).f) (hb : (xs.getD 0 default).f ≤ b ∧ b ≤ (xs.getD (n - 1) default).f) :
    Calls Try.prog 95 #[.agg #[.slice A n ca], .agg #[.int .i64 a, .int .i64 b]] w fun e w' => e = .returned (.agg #[.int .i64 (convV xs a b).1, .int .i64 (convV xs a b).2]) ∧ Ext w w' := by
  obtain ⟨m2, m12, hok, hasc⟩ := checkX_ok hz
  have hall := asc_all hasc
  rw [hn] at m2 m12 hall
  have g : ∀ i, i < n → xs[i]? = some (xs.getD i default) := fun i h => by rw [List.getD_eq_getElem?_getD, List.getElem?_eq_getElem (by omega)]; rfl
  have hf0 := hok 0 _ (g 0 (by omega))
  have hf1 := hok (n - 1) _ (g (n - 1) (by omega))
  have hL : ∀ (i : Nat) (p : Int × Int), (loF xs)[i]? = some p → 0 ≤ p.1 ∧ p.1 ≤ 10000 ∧ 0 ≤ p.2 ∧ p.2 ≤ 2000 := fun i p h => by
    simp only [loF, List.getElem?_map, Option.map_eq_some_iff] at h
    obtain ⟨y, hy, rfl⟩ := h
    have := hok i y hy
    exact ⟨by dsimp only; omega, by dsimp only; omega, by dsimp only; omega, by dsimp only; omega⟩
  have hH : ∀ (i : Nat) (p : Int × Int), (hiF xs)[i]? = some p → 0 ≤ p.1 ∧ p.1 ≤ 10000 ∧ 0 ≤ p.2 ∧ p.2 ≤ 2000 := fun i p h => by
    simp only [hiF, List.getElem?_map, Option.map_eq_some_iff] at h
    obtain ⟨y, hy, rfl⟩ := h
    have := hok i y hy
    exact ⟨by dsimp only; omega, by dsimp only; omega, by dsimp only; omega, by dsimp only; omega⟩
  have uL : ∀ i j, i < j → j < n → ((loF xs).getD i default).1 < ((loF xs).getD j default).1 := fun i j h1 h2 => by
    unfold loF; rw [map_getD (by omega), map_getD (by omega)]; exact hall i j h1 h2
  have uH : ∀ i j, i < j → j < n → ((hiF xs).getD i default).1 < ((hiF xs).getD j default).1 := fun i j h1 h2 => by
    unfold hiF; rw [map_getD (by omega), map_getD (by omega)]; exact hall i j h1 h2
  have iL : ((loF xs).getD 0 default).1 ≤ a ∧ a ≤ ((loF xs).getD (n - 1) default).1 := by
    unfold loF; rw [map_getD (by omega), map_getD (by omega)]; exact ha
  have iH : ((hiF xs).getD 0 default).1 ≤ b ∧ b ≤ ((hiF xs).getD (n - 1) default).1 := by
    unfold hiF; rw [map_getD (by omega), map_getD (by omega)]; exact hb
  have nL : (loF xs).length = n := by simp [loF, hn]
  have nH : (hiF xs).length = n := by simp [hiF, hn]
  have bL := at_bd nL m2 hL uL iL
  have bH := at_bd nH m2 hH uH iH
  obtain ⟨W0, hW0⟩ : ∃ W0, W0 = ((w.alloc (.cells #[.slice A n ca] 64)).alloc (.cells #[.int .i64 a, .int .i64 b] 41)).alloc (.cells #[.int .i64 0, .int .i64 0] 41) := ⟨_, rfl⟩
  have k0 : Blk W0 w.heap.size 64 #[.slice A n ca] := by rw [hW0]; exact ((Blk.new _ _ _).alloc _).alloc _
  have k1 : Blk W0 (w.heap.size + 1) 41 #[.int .i64 a, .int .i64 b] := by rw [hW0]; exact (Blk.newAt _ _ _ (by simp)).alloc _
  have k2 : Blk W0 (w.heap.size + 1 + 1) 41 #[.int .i64 0, .int .i64 0] := by rw [hW0]; exact Blk.newAt _ _ _ (by simp)
  have E0 := Lib.hid (show Ext w W0 by rw [hW0]; exact ((Ext.alloc _ _).trans (Ext.alloc _ _)).trans (Ext.alloc _ _))
  have y0 : W0.cell? ⟨w.heap.size, 0, none⟩ = some (.slice A n ca) := k0.cell 0
  have y1 : W0.cell? ⟨w.heap.size + 1, 0, none⟩ = some (.int .i64 (a)) := k1.cell 0
  have y2 : W0.cell? ⟨w.heap.size + 1, 1, none⟩ = some (.int .i64 (b)) := k1.cell 1
  have K0 := Lib.hid k0
  have K1 := Lib.hid k1
  have K2 := Lib.hid k2
  clear k0 k1 k2

  have HL1 := Lib.hid (fun W (e : Ext W0 W) => at124_any (cp := #[.pointer (some ⟨w.heap.size, 0, none⟩)]) (w := W) nL m2 (by omega) ⟨by omega, by omega⟩ hL uL iL (fun i p W2 hp e2 => by
    simp only [loF, List.getElem?_map, Option.map_eq_some_iff] at hp
    obtain ⟨y, hy, rfl⟩ := hp
    exact clos124_any hn (hA.ext (E0.out.trans (e.trans e2))) ((K0.out.ext (e.trans e2)).cell 0) hy))
  have HH1 := Lib.hid (fun W (e : Ext W0 W) => at125_any (cp := #[.pointer (some ⟨w.heap.size, 0, none⟩)]) (w := W) nH m2 (by omega) ⟨by omega, by omega⟩ hH uH iH (fun i p W2 hp e2 => by
    simp only [hiF, List.getElem?_map, Option.map_eq_some_iff] at hp
    obtain ⟨y, hy, rfl⟩ := hp
    exact clos125_any hn (hA.ext (E0.out.trans (e.trans e2))) ((K0.out.ext (e.trans e2)).cell 0) hy))
  have HCV := Lib.hid (show convV xs a b = ((atV (loF xs) a n).1 / (atV (loF xs) a n).2, -(-(atV (hiF xs) b n).1 / (atV (hiF xs) b n).2)) by rw [← hn]; rfl)
  have HL2 := Lib.hid (fun W => floorP_any (atV (loF xs) a n).1 (atV (loF xs) a n).2 ⟨by omega, by omega⟩ ⟨by omega, by omega⟩ W)
  have HH2 := Lib.hid (fun W => ceiling_any (atV (hiF xs) b n).1 (atV (hiF xs) b n).2 ⟨by omega, by omega⟩ ⟨by omega, by omega⟩ W)
  clear bL bH hL hH uL uH iL iH nL nH ha hb hall hasc hok g hf0 hf1 hz hA hn
  generalize atV (loF xs) a n = lo at *
  generalize atV (hiF xs) b n = hi at *
  go_enter Try.func95, Try.ntmps95
  go_wp2
  rw [← hW0]
  clear hW0
  go_wp2
  refine wp_region_part 17 [some 9, some 10, some 11, some 12, some 13, some 14, some 15, some 16, some 17, some 18, some 19, some 20, some 21, some 22, some 23, some 24, some 25] [[5], [3], [10], [2], [12], [13], [9, 11, 14], [15], [6], [3], [18], [2], [20], [21], [17, 19, 22], [23], [16, 24]]
    [Is (.func (.func 124) #[] #[.pointer (some ⟨w.heap.size, 0, none⟩)]), Is (.pointer (some ⟨w.heap.size + 1, 0, none⟩)), Is (.int .i64 (a)), Is (.pointer (some ⟨w.heap.size, 0, none⟩)), Is (.slice A n ca), Is (.int .i64 ((n : Int))), Is (.agg #[.int .i64 lo.1, .int .i64 lo.2]), Is (.int .i64 (lo.1 / lo.2)), Is (.func (.func 125) #[] #[.pointer (some ⟨w.heap.size, 0, none⟩)]), Is (.pointer (some ⟨w.heap.size + 1, 1, none⟩)), Is (.int .i64 (b)), Is (.pointer (some ⟨w.heap.size, 0, none⟩)), Is (.slice A n ca), Is (.int .i64 ((n : Int))), Is (.agg #[.int .i64 hi.1, .int .i64 hi.2]), Is (.int .i64 (-(-hi.1 / hi.2))), Is (.agg #[.int .i64 (lo.1 / lo.2), .int .i64 (-(-hi.1 / hi.2))])]
    (by kernel_rfl) (by kernel_rfl) (by kernel_rfl) (by kernel_rfl) (by kernel_rfl) (by kernel_rfl) (by kernel_rfl) Ext (fun W => Ext W0 W)
    (fun W _ => Ext.refl W) (fun W W' h k => h.trans k) ?_ (Ext.drew _) ?_ ?_
  · repeat (refine ⟨fun _ _ _ _ k h => (by first | exact h | exact (IntsAt.ext h k)), ?_⟩)
    exact trivial
  · refine ⟨?_, ?_, ?_, ?_, ?_, ?_, ?_, ?_, ?_, ?_, ?_, ?_, ?_, ?_, ?_, ?_, ?_, trivial⟩
    all_goals intro ρ W ⟨kc, kg, kf⟩ hF hs
    · obtain ⟨h0, -⟩ := hs
      replace h0 : ρ (.tmp 5) = .func (.func 124) #[] #[.pointer (some ⟨w.heap.size, 0, none⟩)] := h0
      go_simp
      exact ⟨Ext.refl _, rfl⟩
    · obtain ⟨h0, -⟩ := hs
      replace h0 : ρ (.tmp 3) = .pointer (some ⟨w.heap.size + 1, 0, none⟩) := h0
      go_simp
      exact ⟨Ext.refl _, rfl⟩
    · obtain ⟨h0, -⟩ := hs
      replace h0 : ρ (.tmp 10) = .pointer (some ⟨w.heap.size + 1, 0, none⟩) := h0
      have hc0 : W.cell? ⟨w.heap.size + 1, 0, none⟩ = some (.int .i64 (a)) := hF.cell (by assumption)
      go_simp
      exact ⟨Ext.refl _, rfl⟩
    · obtain ⟨h0, -⟩ := hs
      replace h0 : ρ (.tmp 2) = .pointer (some ⟨w.heap.size, 0, none⟩) := h0
      go_simp
      exact ⟨Ext.refl _, rfl⟩
    · obtain ⟨h0, -⟩ := hs
      replace h0 : ρ (.tmp 12) = .pointer (some ⟨w.heap.size, 0, none⟩) := h0
      have hc0 : W.cell? ⟨w.heap.size, 0, none⟩ = some (.slice A n ca) := hF.cell (by assumption)
      go_simp
      exact ⟨Ext.refl _, rfl⟩
    · obtain ⟨h0, -⟩ := hs
      replace h0 : ρ (.tmp 13) = .slice A n ca := h0
      go_simp
      exact ⟨Ext.refl _, rfl⟩
    · obtain ⟨h0, h1, h2, -⟩ := hs
      replace h0 : ρ (.tmp 9) = .func (.func 124) #[] #[.pointer (some ⟨w.heap.size, 0, none⟩)] := h0
      replace h1 : ρ (.tmp 11) = .int .i64 (a) := h1
      replace h2 : ρ (.tmp 14) = .int .i64 ((n : Int)) := h2
      go_simp
      refine (HL1.out _ hF).mono ?_; rintro e w' ⟨rfl, hx⟩; exact ⟨_, rfl, hx, rfl⟩
    · obtain ⟨h0, -⟩ := hs
      replace h0 : ρ (.tmp 15) = .agg #[.int .i64 lo.1, .int .i64 lo.2] := h0
      go_simp
      refine (HL2.out _).mono ?_; rintro e w' ⟨rfl, hx⟩; exact ⟨_, rfl, hx, rfl⟩
    · obtain ⟨h0, -⟩ := hs
      replace h0 : ρ (.tmp 6) = .func (.func 125) #[] #[.pointer (some ⟨w.heap.size, 0, none⟩)] := h0
      go_simp
      exact ⟨Ext.refl _, rfl⟩
    · obtain ⟨h0, -⟩ := hs
      replace h0 : ρ (.tmp 3) = .pointer (some ⟨w.heap.size + 1, 0, none⟩) := h0
      go_simp
      exact ⟨Ext.refl _, rfl⟩
    · obtain ⟨h0, -⟩ := hs
      replace h0 : ρ (.tmp 18) = .pointer (some ⟨w.heap.size + 1, 1, none⟩) := h0
      have hc0 : W.cell? ⟨w.heap.size + 1, 1, none⟩ = some (.int .i64 (b)) := hF.cell (by assumption)
      go_simp
      exact ⟨Ext.refl _, rfl⟩
    · obtain ⟨h0, -⟩ := hs
      replace h0 : ρ (.tmp 2) = .pointer (some ⟨w.heap.size, 0, none⟩) := h0
      go_simp
      exact ⟨Ext.refl _, rfl⟩
    · obtain ⟨h0, -⟩ := hs
      replace h0 : ρ (.tmp 20) = .pointer (some ⟨w.heap.size, 0, none⟩) := h0
      have hc0 : W.cell? ⟨w.heap.size, 0, none⟩ = some (.slice A n ca) := hF.cell (by assumption)
      go_simp
      exact ⟨Ext.refl _, rfl⟩
    · obtain ⟨h0, -⟩ := hs
      replace h0 : ρ (.tmp 21) = .slice A n ca := h0
      go_simp
      exact ⟨Ext.refl _, rfl⟩
    · obtain ⟨h0, h1, h2, -⟩ := hs
      replace h0 : ρ (.tmp 17) = .func (.func 125) #[] #[.pointer (some ⟨w.heap.size, 0, none⟩)] := h0
      replace h1 : ρ (.tmp 19) = .int .i64 (b) := h1
      replace h2 : ρ (.tmp 22) = .int .i64 ((n : Int)) := h2
      go_simp
      refine (HH1.out _ hF).mono ?_; rintro e w' ⟨rfl, hx⟩; exact ⟨_, rfl, hx, rfl⟩
    · obtain ⟨h0, -⟩ := hs
      replace h0 : ρ (.tmp 23) = .agg #[.int .i64 hi.1, .int .i64 hi.2] := h0
      go_simp
      refine (HH2.out _).mono ?_; rintro e w' ⟨rfl, hx⟩; exact ⟨_, rfl, hx, rfl⟩
    · obtain ⟨h0, h1, -⟩ := hs
      replace h0 : ρ (.tmp 16) = .int .i64 (lo.1 / lo.2) := h0
      replace h1 : ρ (.tmp 24) = .int .i64 (-(-hi.1 / hi.2)) := h1
      go_simp
      exact ⟨Ext.refl _, rfl⟩
  · intro fv W hF hs
    obtain ⟨-, -, -, -, -, -, -, -, -, -, -, -, -, -, -, -, h25, -⟩ := hs
    replace h25 : fv 25 = .agg #[.int .i64 (lo.1 / lo.2), .int .i64 (-(-hi.1 / hi.2))] := h25
    simp only [fin, List.filterMap]
    go_simp
    have B2 := Lib.hid (K2.out.ext hF)
    have X1 := Lib.hid (E0.out.trans hF)
    clear hF y0 y1 y2 K0 K1 K2
    have f0 := B2.out.free 0
    have f1 := B2.out.free 1
    have c0 : W.cell? ⟨w.heap.size + 1 + 1, 0, none⟩ = some (.int .i64 0) := B2.out.cell 0
    have c1 : W.cell? ⟨w.heap.size + 1 + 1, 1, none⟩ = some (.int .i64 0) := B2.out.cell 1

    clear B2
    go_wp2
    exact bodyPost_ret (v := .agg #[.int .i64 (lo.1 / lo.2), .int .i64 (-(-hi.1 / hi.2))]) (by simp [results, Try.f95, go_sem, c0, c1]) rfl ⟨by rw [HCV.out], Ext.set (Ext.set (X1.out) (by dsimp only; omega) _) (by dsimp only; omega) _⟩
def convE (xs : List Kn) (a b : Int) : Int := firstE [(checkX xs).2, endsE a b]
set_option maxRecDepth 100000 in
set_option maxHeartbeats 1000000 in
theorem convertedOf_bad {A : Option Addr} {n ca : Nat} {xs : List Kn} {w : World} (a b : Int) (hn : xs.length = n) (hA : RowsAt 3 Kn.enc w A xs) (hz : convE xs a b ≠ 0) :
    Calls Try.prog 36 #[.agg #[.slice A n ca], .agg #[.int .i64 a, .int .i64 b]] w fun e w' => e = .returned (.tuple #[.agg #[.int .i64 0, .int .i64 0], .int .i64 (convE xs a b)]) ∧ Ext w w' := by
  have HZ := Lib.hid (show firstE [(checkX xs).2, endsE a b] = convE xs a b from rfl)
  have hz2 : (convE xs a b != 0) = true := by simp [hz]
  generalize convE xs a b = z at *
  have HT := Lib.hid (fun W (e : Ext w W) => tableError_any (ca := ca) hn (hA.ext e))
  clear hn hA hz
  obtain ⟨W0, hW0⟩ : ∃ W0, W0 = ((w.alloc (.cells #[.slice A n ca] 64)).alloc (.cells #[.int .i64 a, .int .i64 b] 41)).alloc (.cells #[.int .i64 0, .int .i64 0] 41) := ⟨_, rfl⟩
  have k0 : Blk W0 w.heap.size 64 #[.slice A n ca] := by rw [hW0]; exact ((Blk.new _ _ _).alloc _).alloc _
  have k1 : Blk W0 (w.heap.size + 1) 41 #[.int .i64 a, .int .i64 b] := by rw [hW0]; exact (Blk.newAt _ _ _ (by simp)).alloc _
  have k2 : Blk W0 (w.heap.size + 1 + 1) 41 #[.int .i64 0, .int .i64 0] := by rw [hW0]; exact Blk.newAt _ _ _ (by simp)
  have E0 := Lib.hid (show Ext w W0 by rw [hW0]; exact ((Ext.alloc _ _).trans (Ext.alloc _ _)).trans (Ext.alloc _ _))
  have y0 : W0.cell? ⟨w.heap.size, 0, none⟩ = some (.slice A n ca) := k0.cell 0
  have y1 : W0.cell? ⟨w.heap.size + 1, 0, none⟩ = some (.int .i64 (a)) := k1.cell 0
  have y2 : W0.cell? ⟨w.heap.size + 1, 1, none⟩ = some (.int .i64 (b)) := k1.cell 1
  have K0 := Lib.hid k0
  have K1 := Lib.hid k1
  have K2 := Lib.hid k2
  clear k0 k1 k2
  go_enter Try.func36, Try.ntmps36
  go_wp2
  rw [← hW0]
  clear hW0
  go_wp2
  refine wp_region_each [some 8, some 9, some 10, some 11, some 12, some 13, some 6] [[2], [8], [3], [10], [9, 11], [12], [13]]
    [Is (.agg #[.slice A n ca]), Is (.int .i64 ((checkX xs).2)), Is (.agg #[.int .i64 (a), .int .i64 (b)]), Is (.int .i64 (endsE a b)), Ints [(checkX xs).2, endsE a b], Is (.int .i64 (firstE [(checkX xs).2, endsE a b])), Is (.int .i64 (firstE [(checkX xs).2, endsE a b]))]
    (by kernel_rfl) (by kernel_rfl) (by kernel_rfl) (by kernel_rfl) (by kernel_rfl) Ext (fun W => Ext W0 W)
    (fun W _ => Ext.refl W) (fun W W' h k => h.trans k) ?_ (Ext.drew _) ?_ ?_
  · repeat (refine ⟨fun _ _ _ _ k h => (by first | exact h | exact (IntsAt.ext h k)), ?_⟩)
    exact trivial
  · refine ⟨?_, ?_, ?_, ?_, ?_, ?_, ?_, trivial⟩
    all_goals intro ρ W ⟨kc, kg, kf⟩ hF hs
    · obtain ⟨h0, -⟩ := hs
      replace h0 : ρ (.tmp 2) = .pointer (some ⟨w.heap.size, 0, none⟩) := h0
      have hc0 : W.cell? ⟨w.heap.size, 0, none⟩ = some (.slice A n ca) := hF.cell (by assumption)
      go_simp
      exact ⟨Ext.refl _, rfl⟩
    · obtain ⟨h0, -⟩ := hs
      replace h0 : ρ (.tmp 8) = .agg #[.slice A n ca] := h0
      go_simp
      refine (HT.out _ (E0.out.trans hF)).mono ?_; rintro e w' ⟨rfl, hx⟩; exact ⟨_, rfl, hx, rfl⟩
    · obtain ⟨h0, -⟩ := hs
      replace h0 : ρ (.tmp 3) = .pointer (some ⟨w.heap.size + 1, 0, none⟩) := h0
      have hc0 : W.cell? ⟨w.heap.size + 1, 0, none⟩ = some (.int .i64 (a)) := hF.cell (by assumption)
      have hc1 : W.cell? ⟨w.heap.size + 1, 1, none⟩ = some (.int .i64 (b)) := hF.cell (by assumption)
      go_simp
      exact ⟨Ext.refl _, rfl⟩
    · obtain ⟨h0, -⟩ := hs
      replace h0 : ρ (.tmp 10) = .agg #[.int .i64 (a), .int .i64 (b)] := h0
      go_simp
      refine (endsError_any _ _ _).mono ?_; rintro e w' ⟨rfl, hx⟩; exact ⟨_, rfl, hx, rfl⟩
    · obtain ⟨h0, h1, -⟩ := hs
      replace h0 : ρ (.tmp 9) = .int .i64 ((checkX xs).2) := h0
      replace h1 : ρ (.tmp 11) = .int .i64 (endsE a b) := h1
      go_simp
      exact ⟨Ext.alloc _ _, ints_new _ [(checkX xs).2, endsE a b] _ (by simp)⟩
    · obtain ⟨h0, -⟩ := hs
      replace h0 : (Ints [(checkX xs).2, endsE a b]) (ρ (.tmp 12)) W := h0
      go_simp
      refine (firstOf_any _ _ _ h0).mono ?_; rintro e w' ⟨rfl, rfl⟩; exact ⟨_, rfl, Ext.refl _, rfl⟩
    · obtain ⟨h0, -⟩ := hs
      replace h0 : ρ (.tmp 13) = .int .i64 (firstE [(checkX xs).2, endsE a b]) := h0
      go_simp
      exact ⟨Ext.refl _, rfl⟩
  · intro fv W hF hs
    obtain ⟨-, -, -, -, -, -, h6, -⟩ := hs
    replace h6 : fv 6 = .int .i64 (firstE [(checkX xs).2, endsE a b]) := h6
    simp only [fin, List.filterMap]
    go_simp
    rw [HZ.out]
    clear h6
    have B0 := Lib.hid (K0.out.ext hF)
    have B1 := Lib.hid (K1.out.ext hF)
    have B2 := Lib.hid (K2.out.ext hF)
    have X1 := Lib.hid (E0.out.trans hF)
    clear hF y0 y1 y2 K0 K1 K2 E0

    have f0 := B2.out.free 0
    have f1 := B2.out.free 1
    have c0 : W.cell? ⟨w.heap.size + 1 + 1, 0, none⟩ = some (.int .i64 0) := B2.out.cell 0
    have c1 : W.cell? ⟨w.heap.size + 1 + 1, 1, none⟩ = some (.int .i64 0) := B2.out.cell 1
    clear B0 B1 B2 HZ
    go_wp2
    exact bodyPost_ret (v := .tuple #[.agg #[.int .i64 0, .int .i64 0], .int .i64 z]) (by simp [results, Try.f36, go_sem, c0, c1]) rfl ⟨rfl, Ext.set (Ext.set (X1.out) (by dsimp only; omega) _) (by dsimp only; omega) _⟩
set_option maxRecDepth 100000 in
set_option maxHeartbeats 1000000 in
theorem convertedOf_miss {A : Option Addr} {n ca : Nat} {xs : List Kn} {w : World} (a b : Int) (hn : xs.length = n) (hA : RowsAt 3 Kn.enc w A xs) (hz : convE xs a b = 0) (hm : missE (xs.getD 0 default).f (xs.getD (n - 1) default).f a b = 6) :
    Calls Try.prog 36 #[.agg #[.slice A n ca], .agg #[.int .i64 a, .int .i64 b]] w fun e w' => e = .returned (.tuple #[.agg #[.int .i64 0, .int .i64 0], .int .i64 6]) ∧ Ext w w' := by
  have HZ := Lib.hid (show firstE [(checkX xs).2, endsE a b] = 0 from hz)
  obtain ⟨m2, m12, -, -⟩ := checkX_ok (firstE_zero hz (checkX xs).2 (by simp))
  rw [hn] at m2 m12
  have g : ∀ i, i < n → xs[i]? = some (xs.getD i default) := fun i h => by rw [List.getD_eq_getElem?_getD, List.getElem?_eq_getElem (by omega)]; rfl
  have HM := Lib.hid (fun W (e : Ext w W) => show Calls Try.prog 94 #[.agg #[.slice A n ca], .agg #[.int .i64 a, .int .i64 b]] W fun e w' => e = .returned (.int .i64 6) ∧ Ext W w' from by
    have := missing_any (ca := ca) a b hn (hA.ext e) (g 0 (by omega)) (g (n - 1) (by omega))
    rw [hm] at this
    exact this)
  have HT := Lib.hid (fun W (e : Ext w W) => tableError_any (ca := ca) hn (hA.ext e))
  clear hn hA hz hm g
  obtain ⟨W0, hW0⟩ : ∃ W0, W0 = ((w.alloc (.cells #[.slice A n ca] 64)).alloc (.cells #[.int .i64 a, .int .i64 b] 41)).alloc (.cells #[.int .i64 0, .int .i64 0] 41) := ⟨_, rfl⟩
  have k0 : Blk W0 w.heap.size 64 #[.slice A n ca] := by rw [hW0]; exact ((Blk.new _ _ _).alloc _).alloc _
  have k1 : Blk W0 (w.heap.size + 1) 41 #[.int .i64 a, .int .i64 b] := by rw [hW0]; exact (Blk.newAt _ _ _ (by simp)).alloc _
  have k2 : Blk W0 (w.heap.size + 1 + 1) 41 #[.int .i64 0, .int .i64 0] := by rw [hW0]; exact Blk.newAt _ _ _ (by simp)
  have E0 := Lib.hid (show Ext w W0 by rw [hW0]; exact ((Ext.alloc _ _).trans (Ext.alloc _ _)).trans (Ext.alloc _ _))
  have y0 : W0.cell? ⟨w.heap.size, 0, none⟩ = some (.slice A n ca) := k0.cell 0
  have y1 : W0.cell? ⟨w.heap.size + 1, 0, none⟩ = some (.int .i64 (a)) := k1.cell 0
  have y2 : W0.cell? ⟨w.heap.size + 1, 1, none⟩ = some (.int .i64 (b)) := k1.cell 1
  have K0 := Lib.hid k0
  have K1 := Lib.hid k1
  have K2 := Lib.hid k2
  clear k0 k1 k2
  go_enter Try.func36, Try.ntmps36
  go_wp2
  rw [← hW0]
  clear hW0
  go_wp2
  refine wp_region_each [some 8, some 9, some 10, some 11, some 12, some 13, some 6] [[2], [8], [3], [10], [9, 11], [12], [13]]
    [Is (.agg #[.slice A n ca]), Is (.int .i64 ((checkX xs).2)), Is (.agg #[.int .i64 (a), .int .i64 (b)]), Is (.int .i64 (endsE a b)), Ints [(checkX xs).2, endsE a b], Is (.int .i64 (firstE [(checkX xs).2, endsE a b])), Is (.int .i64 (firstE [(checkX xs).2, endsE a b]))]
    (by kernel_rfl) (by kernel_rfl) (by kernel_rfl) (by kernel_rfl) (by kernel_rfl) Ext (fun W => Ext W0 W)
    (fun W _ => Ext.refl W) (fun W W' h k => h.trans k) ?_ (Ext.drew _) ?_ ?_
  · repeat (refine ⟨fun _ _ _ _ k h => (by first | exact h | exact (IntsAt.ext h k)), ?_⟩)
    exact trivial
  · refine ⟨?_, ?_, ?_, ?_, ?_, ?_, ?_, trivial⟩
    all_goals intro ρ W ⟨kc, kg, kf⟩ hF hs
    · obtain ⟨h0, -⟩ := hs
      replace h0 : ρ (.tmp 2) = .pointer (some ⟨w.heap.size, 0, none⟩) := h0
      have hc0 : W.cell? ⟨w.heap.size, 0, none⟩ = some (.slice A n ca) := hF.cell (by assumption)
      go_simp
      exact ⟨Ext.refl _, rfl⟩
    · obtain ⟨h0, -⟩ := hs
      replace h0 : ρ (.tmp 8) = .agg #[.slice A n ca] := h0
      go_simp
      refine (HT.out _ (E0.out.trans hF)).mono ?_; rintro e w' ⟨rfl, hx⟩; exact ⟨_, rfl, hx, rfl⟩
    · obtain ⟨h0, -⟩ := hs
      replace h0 : ρ (.tmp 3) = .pointer (some ⟨w.heap.size + 1, 0, none⟩) := h0
      have hc0 : W.cell? ⟨w.heap.size + 1, 0, none⟩ = some (.int .i64 (a)) := hF.cell (by assumption)
      have hc1 : W.cell? ⟨w.heap.size + 1, 1, none⟩ = some (.int .i64 (b)) := hF.cell (by assumption)
      go_simp
      exact ⟨Ext.refl _, rfl⟩
    · obtain ⟨h0, -⟩ := hs
      replace h0 : ρ (.tmp 10) = .agg #[.int .i64 (a), .int .i64 (b)] := h0
      go_simp
      refine (endsError_any _ _ _).mono ?_; rintro e w' ⟨rfl, hx⟩; exact ⟨_, rfl, hx, rfl⟩
    · obtain ⟨h0, h1, -⟩ := hs
      replace h0 : ρ (.tmp 9) = .int .i64 ((checkX xs).2) := h0
      replace h1 : ρ (.tmp 11) = .int .i64 (endsE a b) := h1
      go_simp
      exact ⟨Ext.alloc _ _, ints_new _ [(checkX xs).2, endsE a b] _ (by simp)⟩
    · obtain ⟨h0, -⟩ := hs
      replace h0 : (Ints [(checkX xs).2, endsE a b]) (ρ (.tmp 12)) W := h0
      go_simp
      refine (firstOf_any _ _ _ h0).mono ?_; rintro e w' ⟨rfl, rfl⟩; exact ⟨_, rfl, Ext.refl _, rfl⟩
    · obtain ⟨h0, -⟩ := hs
      replace h0 : ρ (.tmp 13) = .int .i64 (firstE [(checkX xs).2, endsE a b]) := h0
      go_simp
      exact ⟨Ext.refl _, rfl⟩
  · intro fv W hF hs
    obtain ⟨-, -, -, -, -, -, h6, -⟩ := hs
    replace h6 : fv 6 = .int .i64 (firstE [(checkX xs).2, endsE a b]) := h6
    simp only [fin, List.filterMap]
    go_simp
    rw [HZ.out]
    clear h6
    have B0 := Lib.hid (K0.out.ext hF)
    have B1 := Lib.hid (K1.out.ext hF)
    have B2 := Lib.hid (K2.out.ext hF)
    have X1 := Lib.hid (E0.out.trans hF)
    clear hF y0 y1 y2 K0 K1 K2 E0

    have p0 : W.cell? ⟨w.heap.size, 0, none⟩ = some (.slice A n ca) := B0.out.cell 0
    have p1 : W.cell? ⟨w.heap.size + 1, 0, none⟩ = some (.int .i64 a) := B1.out.cell 0
    have p2 : W.cell? ⟨w.heap.size + 1, 1, none⟩ = some (.int .i64 b) := B1.out.cell 1
    clear HZ
    go_wp2_with (go_at_call 94; refine (HM.out _ X1.out).mono ?_; rintro e W2 ⟨rfl, hx⟩; have X2 := Lib.hid (X1.out.trans hx); have B2 := Lib.hid (B2.out.ext hx); clear hx p0 p1 p2; refine Hid.out ?_)
    refine Lib.hid ?_
    have f0 := B2.out.free 0
    have f1 := B2.out.free 1
    have c0 : W2.cell? ⟨w.heap.size + 1 + 1, 0, none⟩ = some (.int .i64 0) := B2.out.cell 0
    have c1 : W2.cell? ⟨w.heap.size + 1 + 1, 1, none⟩ = some (.int .i64 0) := B2.out.cell 1
    clear B0 B1 B2
    go_wp2
    exact bodyPost_ret (v := .tuple #[.agg #[.int .i64 0, .int .i64 0], .int .i64 6]) (by simp [results, Try.f36, go_sem, c0, c1]) rfl ⟨rfl, Ext.set (Ext.set (X2.out) (by dsimp only; omega) _) (by dsimp only; omega) _⟩
set_option maxRecDepth 100000 in
set_option maxHeartbeats 1000000 in
theorem convertedOf_ok {A : Option Addr} {n ca : Nat} {xs : List Kn} {w : World} (a b : Int) (hn : xs.length = n) (hA : RowsAt 3 Kn.enc w A xs) (hz : convE xs a b = 0) (hm : missE (xs.getD 0 default).f (xs.getD (n - 1) default).f a b = 0) :
    Calls Try.prog 36 #[.agg #[.slice A n ca], .agg #[.int .i64 a, .int .i64 b]] w fun e w' => e = .returned (.tuple #[.agg #[.int .i64 (convV xs a b).1, .int .i64 (convV xs a b).2], .int .i64 0]) ∧ Ext w w' := by
  have HZ := Lib.hid (show firstE [(checkX xs).2, endsE a b] = 0 from hz)
  obtain ⟨m2, m12, -, -⟩ := checkX_ok (firstE_zero hz (checkX xs).2 (by simp))
  rw [hn] at m2 m12
  have g : ∀ i, i < n → xs[i]? = some (xs.getD i default) := fun i h => by rw [List.getD_eq_getElem?_getD, List.getElem?_eq_getElem (by omega)]; rfl
  have hr : rangeE (xs.getD 0 default).f (xs.getD (n - 1) default).f [a, b] = 0 := by
    unfold missE errIf at hm
    split at hm
    · cases hm
    · rename_i h; simpa using h
  have HM := Lib.hid (fun W (e : Ext w W) => show Calls Try.prog 94 #[.agg #[.slice A n ca], .agg #[.int .i64 a, .int .i64 b]] W fun e w' => e = .returned (.int .i64 0) ∧ Ext W w' from by
    have := missing_any (ca := ca) a b hn (hA.ext e) (g 0 (by omega)) (g (n - 1) (by omega))
    rw [hm] at this
    exact this)
  have HC := Lib.hid (fun W (e : Ext w W) => converted_any (ca := ca) a b hn (hA.ext e) (firstE_zero hz (checkX xs).2 (by simp)) (rangeE_zeros hr a (by simp)) (rangeE_zeros hr b (by simp)))
  generalize convV xs a b = cv at *
  have HT := Lib.hid (fun W (e : Ext w W) => tableError_any (ca := ca) hn (hA.ext e))
  clear hn hA hz hm g hr
  obtain ⟨W0, hW0⟩ : ∃ W0, W0 = ((w.alloc (.cells #[.slice A n ca] 64)).alloc (.cells #[.int .i64 a, .int .i64 b] 41)).alloc (.cells #[.int .i64 0, .int .i64 0] 41) := ⟨_, rfl⟩
  have k0 : Blk W0 w.heap.size 64 #[.slice A n ca] := by rw [hW0]; exact ((Blk.new _ _ _).alloc _).alloc _
  have k1 : Blk W0 (w.heap.size + 1) 41 #[.int .i64 a, .int .i64 b] := by rw [hW0]; exact (Blk.newAt _ _ _ (by simp)).alloc _
  have k2 : Blk W0 (w.heap.size + 1 + 1) 41 #[.int .i64 0, .int .i64 0] := by rw [hW0]; exact Blk.newAt _ _ _ (by simp)
  have E0 := Lib.hid (show Ext w W0 by rw [hW0]; exact ((Ext.alloc _ _).trans (Ext.alloc _ _)).trans (Ext.alloc _ _))
  have y0 : W0.cell? ⟨w.heap.size, 0, none⟩ = some (.slice A n ca) := k0.cell 0
  have y1 : W0.cell? ⟨w.heap.size + 1, 0, none⟩ = some (.int .i64 (a)) := k1.cell 0
  have y2 : W0.cell? ⟨w.heap.size + 1, 1, none⟩ = some (.int .i64 (b)) := k1.cell 1
  have K0 := Lib.hid k0
  have K1 := Lib.hid k1
  have K2 := Lib.hid k2
  clear k0 k1 k2
  go_enter Try.func36, Try.ntmps36
  go_wp2
  rw [← hW0]
  clear hW0
  go_wp2
  refine wp_region_each [some 8, some 9, some 10, some 11, some 12, some 13, some 6] [[2], [8], [3], [10], [9, 11], [12], [13]]
    [Is (.agg #[.slice A n ca]), Is (.int .i64 ((checkX xs).2)), Is (.agg #[.int .i64 (a), .int .i64 (b)]), Is (.int .i64 (endsE a b)), Ints [(checkX xs).2, endsE a b], Is (.int .i64 (firstE [(checkX xs).2, endsE a b])), Is (.int .i64 (firstE [(checkX xs).2, endsE a b]))]
    (by kernel_rfl) (by kernel_rfl) (by kernel_rfl) (by kernel_rfl) (by kernel_rfl) Ext (fun W => Ext W0 W)
    (fun W _ => Ext.refl W) (fun W W' h k => h.trans k) ?_ (Ext.drew _) ?_ ?_
  · repeat (refine ⟨fun _ _ _ _ k h => (by first | exact h | exact (IntsAt.ext h k)), ?_⟩)
    exact trivial
  · refine ⟨?_, ?_, ?_, ?_, ?_, ?_, ?_, trivial⟩
    all_goals intro ρ W ⟨kc, kg, kf⟩ hF hs
    · obtain ⟨h0, -⟩ := hs
      replace h0 : ρ (.tmp 2) = .pointer (some ⟨w.heap.size, 0, none⟩) := h0
      have hc0 : W.cell? ⟨w.heap.size, 0, none⟩ = some (.slice A n ca) := hF.cell (by assumption)
      go_simp
      exact ⟨Ext.refl _, rfl⟩
    · obtain ⟨h0, -⟩ := hs
      replace h0 : ρ (.tmp 8) = .agg #[.slice A n ca] := h0
      go_simp
      refine (HT.out _ (E0.out.trans hF)).mono ?_; rintro e w' ⟨rfl, hx⟩; exact ⟨_, rfl, hx, rfl⟩
    · obtain ⟨h0, -⟩ := hs
      replace h0 : ρ (.tmp 3) = .pointer (some ⟨w.heap.size + 1, 0, none⟩) := h0
      have hc0 : W.cell? ⟨w.heap.size + 1, 0, none⟩ = some (.int .i64 (a)) := hF.cell (by assumption)
      have hc1 : W.cell? ⟨w.heap.size + 1, 1, none⟩ = some (.int .i64 (b)) := hF.cell (by assumption)
      go_simp
      exact ⟨Ext.refl _, rfl⟩
    · obtain ⟨h0, -⟩ := hs
      replace h0 : ρ (.tmp 10) = .agg #[.int .i64 (a), .int .i64 (b)] := h0
      go_simp
      refine (endsError_any _ _ _).mono ?_; rintro e w' ⟨rfl, hx⟩; exact ⟨_, rfl, hx, rfl⟩
    · obtain ⟨h0, h1, -⟩ := hs
      replace h0 : ρ (.tmp 9) = .int .i64 ((checkX xs).2) := h0
      replace h1 : ρ (.tmp 11) = .int .i64 (endsE a b) := h1
      go_simp
      exact ⟨Ext.alloc _ _, ints_new _ [(checkX xs).2, endsE a b] _ (by simp)⟩
    · obtain ⟨h0, -⟩ := hs
      replace h0 : (Ints [(checkX xs).2, endsE a b]) (ρ (.tmp 12)) W := h0
      go_simp
      refine (firstOf_any _ _ _ h0).mono ?_; rintro e w' ⟨rfl, rfl⟩; exact ⟨_, rfl, Ext.refl _, rfl⟩
    · obtain ⟨h0, -⟩ := hs
      replace h0 : ρ (.tmp 13) = .int .i64 (firstE [(checkX xs).2, endsE a b]) := h0
      go_simp
      exact ⟨Ext.refl _, rfl⟩
  · intro fv W hF hs
    obtain ⟨-, -, -, -, -, -, h6, -⟩ := hs
    replace h6 : fv 6 = .int .i64 (firstE [(checkX xs).2, endsE a b]) := h6
    simp only [fin, List.filterMap]
    go_simp
    rw [HZ.out]
    clear h6
    have B0 := Lib.hid (K0.out.ext hF)
    have B1 := Lib.hid (K1.out.ext hF)
    have B2 := Lib.hid (K2.out.ext hF)
    have X1 := Lib.hid (E0.out.trans hF)
    clear hF y0 y1 y2 K0 K1 K2 E0

    have p0 : W.cell? ⟨w.heap.size, 0, none⟩ = some (.slice A n ca) := B0.out.cell 0
    have p1 : W.cell? ⟨w.heap.size + 1, 0, none⟩ = some (.int .i64 a) := B1.out.cell 0
    have p2 : W.cell? ⟨w.heap.size + 1, 1, none⟩ = some (.int .i64 b) := B1.out.cell 1
    clear HZ
    go_wp2_with (go_at_call 94; refine (HM.out _ X1.out).mono ?_; rintro e W2 ⟨rfl, hx⟩; have X2 := Lib.hid (X1.out.trans hx); have B0 := Lib.hid (B0.out.ext hx); have B1 := Lib.hid (B1.out.ext hx); have B2 := Lib.hid (B2.out.ext hx); clear hx p0 p1 p2; refine Hid.out ?_)
    refine Lib.hid ?_
    have p0 : W2.cell? ⟨w.heap.size, 0, none⟩ = some (.slice A n ca) := B0.out.cell 0
    have p1 : W2.cell? ⟨w.heap.size + 1, 0, none⟩ = some (.int .i64 a) := B1.out.cell 0
    have p2 : W2.cell? ⟨w.heap.size + 1, 1, none⟩ = some (.int .i64 b) := B1.out.cell 1
    go_wp2_with (go_at_call 95; refine (HC.out _ X2.out).mono ?_; rintro e W3 ⟨rfl, hx⟩; have X3 := Lib.hid (X2.out.trans hx); have B2 := Lib.hid (B2.out.ext hx); clear hx p0 p1 p2; refine Hid.out ?_)
    refine Lib.hid ?_
    have f0 := B2.out.free 0
    have f1 := B2.out.free 1
    have c0 : W3.cell? ⟨w.heap.size + 1 + 1, 0, none⟩ = some (.int .i64 0) := B2.out.cell 0
    have c1 : W3.cell? ⟨w.heap.size + 1 + 1, 1, none⟩ = some (.int .i64 0) := B2.out.cell 1
    clear B0 B1 B2
    go_wp2
    exact bodyPost_ret (v := .tuple #[.agg #[.int .i64 cv.1, .int .i64 cv.2], .int .i64 0]) (by simp [results, Try.f36, go_sem, c0, c1]) rfl ⟨rfl, Ext.set (Ext.set (X3.out) (by dsimp only; omega) _) (by dsimp only; omega) _⟩

end Go.Proofs.Ytmddnpagfgilcaa
