/- Curves at a place. -/
import Derived.Test.YtmddnpagfgilcaaB5
import Derived.Lib.MinMax

namespace Go.Proofs.Ytmddnpagfgilcaa
open Go.RowKit Go.Shelf Go.Mem Go.RegInv
attribute [local go_sem] RelUpon_value RelUpon_skip RelUpon_enter BigFrame.eval_const BigFrame.eval_global BigFrame.eval_func

set_option maxRecDepth 100000 in
set_option maxHeartbeats 1000000 in
theorem search_any {m : Nat} {P : Nat → Bool} {w : World} {cp : Array Value} (hm : m ≤ 1000) (hP : ∀ i j, i ≤ j → j < m → P i = true → P j = true)
    (hF : ∀ (h : Nat) (W : World), h < m → Ext w W → Calls Try.prog 122 (#[.int .i64 (h : Int)] ++ cp) W fun e w' => e = .returned (.bool (P h)) ∧ Ext W w') :
    Calls Try.prog 121 #[.int .i64 (m : Int), .func (.func 122) #[] cp] w fun e w' => ∃ i : Nat, e = .returned (.int .i64 (i : Int)) ∧ i ≤ m ∧ (∀ k, k < i → P k = false) ∧ (∀ k, i ≤ k → k < m → P k = true) ∧ Ext w w' := by
  have HP := Lib.hid hP
  have HF := Lib.hid hF
  clear hP hF
  go_enter Try.func121, Try.ntmps121
  go_wp2
  go_loopw [5, 6] (fun a b wr => ∃ i j : Nat, i ≤ j ∧ j ≤ m ∧ a = .int .i64 i ∧ b = .int .i64 j ∧ (∀ k, k < i → P k = false) ∧ (∀ k, j ≤ k → k < m → P k = true) ∧ Ext w wr) (fun a b _ => (intOf b - intOf a).toNat)
  case atStart => exact ⟨0, m, Nat.zero_le _, Nat.le_refl _, rfl, rfl, fun k h => by omega, fun k h1 h2 => by omega, Ext.refl _⟩
  case round =>
    obtain ⟨i, j, hij, hjm, rfl, rfl, hl, hh, hx⟩ := hrel
    have X := Lib.hid hx
    have L := Lib.hid hl
    have H := Lib.hid hh
    clear hx hl hh
    by_cases hlt : i < j
    · obtain ⟨h, hh⟩ : ∃ h, h = (i + j) / 2 := ⟨_, rfl⟩
      have b1 : i ≤ h := by omega
      have b2 : h < j := by omega
      have e1 : ((i : Int) + (j : Int)) / 2 = (h : Int) := by omega
      have E1 := Lib.hid e1
      have HC := Lib.hid (fun W (e : Ext w W) => HF.out h W (by omega) e)
      have hij2 : (i : Int) < (j : Int) := by omega
      clear hh
      cases hp : P h
      · have HPH := Lib.hid hp
        rw [hp] at HC
        clear hp
        go_wp2_with (go_at_call 122; refine (HC.out _ X.out).mono ?_; rintro e W1 ⟨rfl, hx⟩; have X1 := Lib.hid (X.out.trans hx); clear hx)
        go_roundw
        case rel => exact ⟨h + 1, j, by omega, hjm, by go_num, rfl, fun k hk => by
            rcases Bool.eq_false_or_eq_true (P k) with h1 | h1
            · have := HP.out k h (by omega) (by omega) h1
              rw [HPH.out] at this
              cases this
            · exact h1, H.out, X1.out⟩
        case measure => simp [intOf]; omega
      · have HPH := Lib.hid hp
        rw [hp] at HC
        clear hp
        go_wp2_with (go_at_call 122; refine (HC.out _ X.out).mono ?_; rintro e W1 ⟨rfl, hx⟩; have X1 := Lib.hid (X.out.trans hx); clear hx)
        go_roundw
        case rel => exact ⟨i, h, by omega, by omega, rfl, rfl, L.out, fun k h1 h2 => HP.out h k h1 h2 HPH.out, X1.out⟩
        case measure => simp [intOf]; omega
    · have HIJ := Lib.hid (show i = j by omega)
      have hij2 : ¬ (i : Int) < (j : Int) := by omega
      go_wp2
      go_ret
      exact ⟨i, rfl, by omega, L.out, fun k h1 h2 => H.out k (by have := HIJ.out; omega) h2, X.out⟩

/-- The knot, from place k on, at whose place or before it a depth lies. -/
def atJ (ps : List (Int × Int)) (d : Int) : Nat → Nat → Nat
  | 0, k => k
  | f + 1, k => if (ps.getD k default).1 < d then atJ ps d f (k + 1) else k
theorem atJ_eq {ps : List (Int × Int)} {d : Int} : ∀ {f k j : Nat}, k ≤ j → j ≤ k + f → (∀ i, k ≤ i → i < j → (ps.getD i default).1 < d) → d ≤ (ps.getD j default).1 → atJ ps d f k = j
  | 0, k, j, h1, h2, _, _ => by rw [atJ]; omega
  | f + 1, k, j, h1, h2, h3, h4 => by
    rw [atJ]
    rcases Nat.lt_or_ge k j with h | h
    · rw [if_pos (h3 k (Nat.le_refl _) h)]
      exact atJ_eq h (by omega) (fun i a b => h3 i (by omega) b) h4
    · obtain rfl : k = j := by omega
      rw [if_neg (by omega)]
/-- The number of a curve at a place. -/
def lineV (y z : Int × Int) (d : Int) : Int × Int := lowT (y.2 * (z.1 - y.1) + (z.2 - y.2) * (d - y.1)) (z.1 - y.1)
def atV (ps : List (Int × Int)) (d : Int) (n : Nat) : Int × Int := lineV (ps.getD (atJ ps d (n - 2) 1 - 1) default) (ps.getD (atJ ps d (n - 2) 1) default) d
theorem atV_eq {ps : List (Int × Int)} {d : Int} {n i : Nat} (_hn : ps.length = n) (hn2 : 2 ≤ n) (hi : i ≤ n - 2) (hl : d ≤ (ps.getD (n - 1) default).1) (h1 : ∀ k, k < i → decide (d ≤ (ps.getD (k + 1) default).1) = false) (h2 : ∀ k, i ≤ k → k < n - 2 → decide (d ≤ (ps.getD (k + 1) default).1) = true) :
    atV ps d n = lowT ((ps.getD i default).2 * ((ps.getD (i + 1) default).1 - (ps.getD i default).1) + ((ps.getD (i + 1) default).2 - (ps.getD i default).2) * (d - (ps.getD i default).1)) ((ps.getD (i + 1) default).1 - (ps.getD i default).1) := by
  have e : atJ ps d (n - 2) 1 = i + 1 := atJ_eq (by omega) (by omega) (fun k a b => by
    have := h1 (k - 1) (by omega)
    rw [show k - 1 + 1 = k by omega] at this
    simpa using this) (by
    rcases Nat.lt_or_ge i (n - 2) with h | h
    · simpa using h2 i (Nat.le_refl _) h
    · rw [show i + 1 = n - 1 by omega]; exact hl)
  unfold atV
  rw [e, Nat.add_sub_cancel]
  rfl
set_option maxRecDepth 100000 in
set_option maxHeartbeats 1000000 in
theorem pred119_any {n : Nat} {ps : List (Int × Int)} {d : Int} {h c1 c2 : Nat} {w : World} {cp : Array Value} (hn : ps.length = n) (hnb : n ≤ 1000) (hh : h + 1 < n)
    (hc : w.cell? ⟨c1, 0, none⟩ = some (.func (.func 119) #[] cp)) (hd : w.cell? ⟨c2, 0, none⟩ = some (.int .i64 d))
    (hF : ∀ (i : Nat) (p : Int × Int) (W : World), ps[i]? = some p → Ext w W → Calls Try.prog 119 (#[.int .i64 (i : Int)] ++ cp) W fun e w' => e = .returned (.tuple #[.int .i64 p.1, .int .i64 p.2]) ∧ Ext W w') :
    Calls Try.prog 122 #[.int .i64 (h : Int), .pointer (some ⟨c1, 0, none⟩), .pointer (some ⟨c2, 0, none⟩)] w fun e w' => e = .returned (.bool (decide (d ≤ (ps.getD (h + 1) default).1))) ∧ Ext w w' := by
  have hx : ps[h + 1]? = some (ps.getD (h + 1) default) := by rw [List.getD_eq_getElem?_getD, List.getElem?_eq_getElem (by omega)]; rfl
  have HC := Lib.hid (fun W (e : Ext w W) => show Calls Try.prog 119 (#[.int .i64 ((h : Int) + 1)] ++ cp) W fun e w' => e = .returned (.tuple #[.int .i64 (ps.getD (h + 1) default).1, .int .i64 (ps.getD (h + 1) default).2]) ∧ Ext W w' from hF (h + 1) _ W hx e)
  generalize ps.getD (h + 1) default = p at *
  have HD := Lib.hid hd
  clear hn hx hF hd
  go_enter Try.func122, Try.ntmps122
  go_wp2_with (go_at_call 119; refine (HC.out _ (Ext.refl _)).mono ?_; rintro e W1 ⟨rfl, hx⟩; have X1 := Lib.hid hx; have hd1 := X1.out.cell HD.out; clear hx)
  go_ret
  exact ⟨rfl, X1.out⟩
set_option maxRecDepth 100000 in
set_option maxHeartbeats 1000000 in
theorem at119_any {n : Nat} {ps : List (Int × Int)} {d : Int} {w : World} {cp : Array Value} (hn : ps.length = n) (hn2 : 2 ≤ n) (hnb : n ≤ 1000) (hd : 0 ≤ d ∧ d ≤ 10000) (hp : ∀ (i : Nat) (p : Int × Int), ps[i]? = some p → 0 ≤ p.1 ∧ p.1 ≤ 10000 ∧ 0 ≤ p.2 ∧ p.2 ≤ 2000)
    (hu : ∀ i j, i < j → j < n → (ps.getD i default).1 < (ps.getD j default).1) (hin : (ps.getD 0 default).1 ≤ d ∧ d ≤ (ps.getD (n - 1) default).1)
    (hF : ∀ (i : Nat) (p : Int × Int) (W : World), ps[i]? = some p → Ext w W → Calls Try.prog 119 (#[.int .i64 (i : Int)] ++ cp) W fun e w' => e = .returned (.tuple #[.int .i64 p.1, .int .i64 p.2]) ∧ Ext W w') :
    Calls Try.prog 85 #[.func (.func 119) #[] cp, .int .i64 d, .int .i64 (n : Int)] w fun e w' => e = .returned (.agg #[.int .i64 (atV ps d n).1, .int .i64 (atV ps d n).2]) ∧ Ext w w' := by
  obtain ⟨d0, d1⟩ := hd
  obtain ⟨W0, hW0⟩ : ∃ W0, W0 = ((w.alloc (.cells #[.func (.func 119) #[] cp] 134)).alloc (.cells #[.int .i64 d] 3)).alloc (.cells #[.int .i64 0, .int .i64 0] 32) := ⟨_, rfl⟩
  have k0 : Blk W0 w.heap.size 134 #[.func (.func 119) #[] cp] := by rw [hW0]; exact ((Blk.new _ _ _).alloc _).alloc _
  have k1 : Blk W0 (w.heap.size + 1) 3 #[.int .i64 d] := by rw [hW0]; exact (Blk.newAt _ _ _ (by simp)).alloc _
  have k2 : Blk W0 (w.heap.size + 1 + 1) 32 #[.int .i64 0, .int .i64 0] := by rw [hW0]; exact Blk.newAt _ _ _ (by simp)
  have E0 := Lib.hid (show Ext w W0 by rw [hW0]; exact ((Ext.alloc _ _).trans (Ext.alloc _ _)).trans (Ext.alloc _ _))
  have K0 := Lib.hid k0
  have K1 := Lib.hid k1
  have K2 := Lib.hid k2
  clear k0 k1 k2
  have hm : ((n - 2 : Nat) : Int) = (n : Int) - 2 := by omega
  have HS := Lib.hid (fun W (e : Ext W0 W) => show Calls Try.prog 121 #[.int .i64 ((n : Int) - 2), .func (.func 122) #[] #[.pointer (some ⟨w.heap.size, 0, none⟩), .pointer (some ⟨w.heap.size + 1, 0, none⟩)]] W fun e w' => ∃ i : Nat, e = .returned (.int .i64 (i : Int)) ∧ i ≤ n - 2 ∧ (∀ k, k < i → decide (d ≤ (ps.getD (k + 1) default).1) = false) ∧ (∀ k, i ≤ k → k < n - 2 → decide (d ≤ (ps.getD (k + 1) default).1) = true) ∧ Ext W w' from by
    have := search_any (m := n - 2) (P := fun k => decide (d ≤ (ps.getD (k + 1) default).1)) (w := W) (cp := #[.pointer (some ⟨w.heap.size, 0, none⟩), .pointer (some ⟨w.heap.size + 1, 0, none⟩)]) (by omega) (fun i j h1 h2 h3 => by
      simp only [decide_eq_true_eq] at h3 ⊢
      rcases Nat.lt_or_ge i j with h4 | h4
      · have := hu (i + 1) (j + 1) (by omega) (by omega); omega
      · obtain rfl : i = j := by omega
        exact h3) (fun h W2 h1 e2 => pred119_any hn hnb (by omega) ((K0.out.ext (e.trans e2)).cell 0) ((K1.out.ext (e.trans e2)).cell 0) (fun i p W3 h3 e3 => hF i p W3 h3 (E0.out.trans (e.trans (e2.trans e3)))))
    rw [hm] at this
    exact this)
  have HF := Lib.hid hF
  have HP := Lib.hid hp
  have HN := Lib.hid hn
  have HU := Lib.hid hu
  have HI := Lib.hid hin
  clear hF hp hn hu hin hm
  go_enter Try.func85, Try.ntmps85
  go_wp2_with (fail)
  rw [← hW0]
  clear hW0
  go_wp2_with (go_at_call 121; refine (HS.out _ (Ext.refl _)).mono ?_; rintro e W1 ⟨i, rfl, hi, hlo, hhi, hx⟩; have X1 := Lib.hid hx; have HLO := Lib.hid hlo; have HHI := Lib.hid hhi; clear hx hlo hhi; refine Hid.out ?_)
  refine Lib.hid ?_
  have hy : ps[i]? = some (ps.getD i default) := by rw [List.getD_eq_getElem?_getD, List.getElem?_eq_getElem (by rw [HN.out]; omega)]; rfl
  have hz : ps[i + 1]? = some (ps.getD (i + 1) default) := by rw [List.getD_eq_getElem?_getD, List.getElem?_eq_getElem (by rw [HN.out]; omega)]; rfl
  have HAT := Lib.hid (atV_eq HN.out hn2 hi HI.out.2 HLO.out HHI.out)
  have huy := HU.out i (i + 1) (by omega) (by omega)
  have hyd : (ps.getD i default).1 ≤ d := by
    cases i with
    | zero => exact HI.out.1
    | succ i => have := HLO.out i (by omega); simp at this; simp; omega
  have HY := Lib.hid (fun W (e : Ext w W) => show Calls Try.prog 119 (#[.int .i64 (1 + (i : Int) - 1)] ++ cp) W fun e w' => e = .returned (.tuple #[.int .i64 (ps.getD i default).1, .int .i64 (ps.getD i default).2]) ∧ Ext W w' from by
    rw [show 1 + (i : Int) - 1 = (i : Int) by omega]
    exact HF.out i _ W hy e)
  have HZ := Lib.hid (fun W (e : Ext w W) => show Calls Try.prog 119 (#[.int .i64 (1 + (i : Int))] ++ cp) W fun e w' => e = .returned (.tuple #[.int .i64 (ps.getD (i + 1) default).1, .int .i64 (ps.getD (i + 1) default).2]) ∧ Ext W w' from by
    rw [show 1 + (i : Int) = ((i + 1 : Nat) : Int) by omega]
    exact HF.out (i + 1) _ W hz e)
  obtain ⟨y0, y1, y2, y3⟩ := HP.out i _ hy
  obtain ⟨z0, z1, z2, z3⟩ := HP.out (i + 1) _ hz
  generalize ps.getD i default = y at *
  generalize ps.getD (i + 1) default = z at *
  have a0 : 0 ≤ y.2 * (z.1 - y.1) := Int.mul_nonneg (by omega) (by omega)
  have a1 : y.2 * (z.1 - y.1) ≤ 2000 * 10000 := Int.mul_le_mul (by omega) (by omega) (by omega) (by omega)
  have a2 : (z.2 - y.2) * (d - y.1) ≤ 2000 * 10000 := by
    have h1 : (z.2 - y.2) * (d - y.1) ≤ 2000 * (d - y.1) := Int.mul_le_mul_of_nonneg_right (by omega) (by omega)
    omega
  have a3 : -(2000 * 10000) ≤ (z.2 - y.2) * (d - y.1) := by
    have h1 : (-2000) * (d - y.1) ≤ (z.2 - y.2) * (d - y.1) := Int.mul_le_mul_of_nonneg_right (by omega) (by omega)
    omega
  have HL := Lib.hid (fun W => lowestP_any (y.2 * (z.1 - y.1) + (z.2 - y.2) * (d - y.1)) (z.1 - y.1) (by unfold Big; omega) (by omega) (by unfold Big; omega) W)
  clear hy hz
  generalize lowT (y.2 * (z.1 - y.1) + (z.2 - y.2) * (d - y.1)) (z.1 - y.1) = lo at *
  have m0 : W1.cell? ⟨w.heap.size, 0, none⟩ = some (.func (.func 119) #[] cp) := (K0.out.ext X1.out).cell 0
  have hin2 : (i : Int) + 1 < (n : Int) := by omega
  go_wp2_with (go_at_call 119; refine (HY.out _ (E0.out.trans X1.out)).mono ?_; rintro e W2 ⟨rfl, hx⟩; have X2 := Lib.hid (X1.out.trans hx); clear hx m0; refine Hid.out ?_)
  refine Lib.hid ?_
  have m0 : W2.cell? ⟨w.heap.size, 0, none⟩ = some (.func (.func 119) #[] cp) := (K0.out.ext X2.out).cell 0
  go_wp2_with (go_at_call 119; refine (HZ.out _ (E0.out.trans X2.out)).mono ?_; rintro e W3 ⟨rfl, hx⟩; have X3 := Lib.hid (X2.out.trans hx); clear hx m0; refine Hid.out ?_)
  refine Lib.hid ?_
  have m1 : W3.cell? ⟨w.heap.size + 1, 0, none⟩ = some (.int .i64 d) := (K1.out.ext X3.out).cell 0
  go_wp2_with (go_at_call 123; refine (HL.out _).mono ?_; rintro e W4 ⟨rfl, hx⟩; have X4 := Lib.hid (X3.out.trans hx); clear hx m1; refine Hid.out ?_)
  refine Lib.hid ?_
  have B2 := K2.out.ext X4.out
  have f0 := B2.free 0
  have f1 := B2.free 1
  have c0 : W4.cell? ⟨w.heap.size + 1 + 1, 0, none⟩ = some (.int .i64 0) := B2.cell 0
  have c1 : W4.cell? ⟨w.heap.size + 1 + 1, 1, none⟩ = some (.int .i64 0) := B2.cell 1
  clear B2 a0 a1 a2 a3
  go_wp2
  exact bodyPost_ret (v := .agg #[.int .i64 lo.1, .int .i64 lo.2]) (by simp [results, Try.f85, go_sem, c0, c1]) rfl ⟨by rw [HAT.out], Ext.set (Ext.set (E0.out.trans X4.out) (by dsimp only; omega) _) (by dsimp only; omega) _⟩
set_option maxRecDepth 100000 in
set_option maxHeartbeats 1000000 in
theorem pred120_any {n : Nat} {ps : List (Int × Int)} {d : Int} {h c1 c2 : Nat} {w : World} {cp : Array Value} (hn : ps.length = n) (hnb : n ≤ 1000) (hh : h + 1 < n)
    (hc : w.cell? ⟨c1, 0, none⟩ = some (.func (.func 120) #[] cp)) (hd : w.cell? ⟨c2, 0, none⟩ = some (.int .i64 d))
    (hF : ∀ (i : Nat) (p : Int × Int) (W : World), ps[i]? = some p → Ext w W → Calls Try.prog 120 (#[.int .i64 (i : Int)] ++ cp) W fun e w' => e = .returned (.tuple #[.int .i64 p.1, .int .i64 p.2]) ∧ Ext W w') :
    Calls Try.prog 122 #[.int .i64 (h : Int), .pointer (some ⟨c1, 0, none⟩), .pointer (some ⟨c2, 0, none⟩)] w fun e w' => e = .returned (.bool (decide (d ≤ (ps.getD (h + 1) default).1))) ∧ Ext w w' := by
  have hx : ps[h + 1]? = some (ps.getD (h + 1) default) := by rw [List.getD_eq_getElem?_getD, List.getElem?_eq_getElem (by omega)]; rfl
  have HC := Lib.hid (fun W (e : Ext w W) => show Calls Try.prog 120 (#[.int .i64 ((h : Int) + 1)] ++ cp) W fun e w' => e = .returned (.tuple #[.int .i64 (ps.getD (h + 1) default).1, .int .i64 (ps.getD (h + 1) default).2]) ∧ Ext W w' from hF (h + 1) _ W hx e)
  generalize ps.getD (h + 1) default = p at *
  have HD := Lib.hid hd
  clear hn hx hF hd
  go_enter Try.func122, Try.ntmps122
  go_wp2_with (go_at_call 120; refine (HC.out _ (Ext.refl _)).mono ?_; rintro e W1 ⟨rfl, hx⟩; have X1 := Lib.hid hx; have hd1 := X1.out.cell HD.out; clear hx)
  go_ret
  exact ⟨rfl, X1.out⟩
set_option maxRecDepth 100000 in
set_option maxHeartbeats 1000000 in
theorem at120_any {n : Nat} {ps : List (Int × Int)} {d : Int} {w : World} {cp : Array Value} (hn : ps.length = n) (hn2 : 2 ≤ n) (hnb : n ≤ 1000) (hd : 0 ≤ d ∧ d ≤ 10000) (hp : ∀ (i : Nat) (p : Int × Int), ps[i]? = some p → 0 ≤ p.1 ∧ p.1 ≤ 10000 ∧ 0 ≤ p.2 ∧ p.2 ≤ 2000)
    (hu : ∀ i j, i < j → j < n → (ps.getD i default).1 < (ps.getD j default).1) (hin : (ps.getD 0 default).1 ≤ d ∧ d ≤ (ps.getD (n - 1) default).1)
    (hF : ∀ (i : Nat) (p : Int × Int) (W : World), ps[i]? = some p → Ext w W → Calls Try.prog 120 (#[.int .i64 (i : Int)] ++ cp) W fun e w' => e = .returned (.tuple #[.int .i64 p.1, .int .i64 p.2]) ∧ Ext W w') :
    Calls Try.prog 85 #[.func (.func 120) #[] cp, .int .i64 d, .int .i64 (n : Int)] w fun e w' => e = .returned (.agg #[.int .i64 (atV ps d n).1, .int .i64 (atV ps d n).2]) ∧ Ext w w' := by
  obtain ⟨d0, d1⟩ := hd
  obtain ⟨W0, hW0⟩ : ∃ W0, W0 = ((w.alloc (.cells #[.func (.func 120) #[] cp] 134)).alloc (.cells #[.int .i64 d] 3)).alloc (.cells #[.int .i64 0, .int .i64 0] 32) := ⟨_, rfl⟩
  have k0 : Blk W0 w.heap.size 134 #[.func (.func 120) #[] cp] := by rw [hW0]; exact ((Blk.new _ _ _).alloc _).alloc _
  have k1 : Blk W0 (w.heap.size + 1) 3 #[.int .i64 d] := by rw [hW0]; exact (Blk.newAt _ _ _ (by simp)).alloc _
  have k2 : Blk W0 (w.heap.size + 1 + 1) 32 #[.int .i64 0, .int .i64 0] := by rw [hW0]; exact Blk.newAt _ _ _ (by simp)
  have E0 := Lib.hid (show Ext w W0 by rw [hW0]; exact ((Ext.alloc _ _).trans (Ext.alloc _ _)).trans (Ext.alloc _ _))
  have K0 := Lib.hid k0
  have K1 := Lib.hid k1
  have K2 := Lib.hid k2
  clear k0 k1 k2
  have hm : ((n - 2 : Nat) : Int) = (n : Int) - 2 := by omega
  have HS := Lib.hid (fun W (e : Ext W0 W) => show Calls Try.prog 121 #[.int .i64 ((n : Int) - 2), .func (.func 122) #[] #[.pointer (some ⟨w.heap.size, 0, none⟩), .pointer (some ⟨w.heap.size + 1, 0, none⟩)]] W fun e w' => ∃ i : Nat, e = .returned (.int .i64 (i : Int)) ∧ i ≤ n - 2 ∧ (∀ k, k < i → decide (d ≤ (ps.getD (k + 1) default).1) = false) ∧ (∀ k, i ≤ k → k < n - 2 → decide (d ≤ (ps.getD (k + 1) default).1) = true) ∧ Ext W w' from by
    have := search_any (m := n - 2) (P := fun k => decide (d ≤ (ps.getD (k + 1) default).1)) (w := W) (cp := #[.pointer (some ⟨w.heap.size, 0, none⟩), .pointer (some ⟨w.heap.size + 1, 0, none⟩)]) (by omega) (fun i j h1 h2 h3 => by
      simp only [decide_eq_true_eq] at h3 ⊢
      rcases Nat.lt_or_ge i j with h4 | h4
      · have := hu (i + 1) (j + 1) (by omega) (by omega); omega
      · obtain rfl : i = j := by omega
        exact h3) (fun h W2 h1 e2 => pred120_any hn hnb (by omega) ((K0.out.ext (e.trans e2)).cell 0) ((K1.out.ext (e.trans e2)).cell 0) (fun i p W3 h3 e3 => hF i p W3 h3 (E0.out.trans (e.trans (e2.trans e3)))))
    rw [hm] at this
    exact this)
  have HF := Lib.hid hF
  have HP := Lib.hid hp
  have HN := Lib.hid hn
  have HU := Lib.hid hu
  have HI := Lib.hid hin
  clear hF hp hn hu hin hm
  go_enter Try.func85, Try.ntmps85
  go_wp2_with (fail)
  rw [← hW0]
  clear hW0
  go_wp2_with (go_at_call 121; refine (HS.out _ (Ext.refl _)).mono ?_; rintro e W1 ⟨i, rfl, hi, hlo, hhi, hx⟩; have X1 := Lib.hid hx; have HLO := Lib.hid hlo; have HHI := Lib.hid hhi; clear hx hlo hhi; refine Hid.out ?_)
  refine Lib.hid ?_
  have hy : ps[i]? = some (ps.getD i default) := by rw [List.getD_eq_getElem?_getD, List.getElem?_eq_getElem (by rw [HN.out]; omega)]; rfl
  have hz : ps[i + 1]? = some (ps.getD (i + 1) default) := by rw [List.getD_eq_getElem?_getD, List.getElem?_eq_getElem (by rw [HN.out]; omega)]; rfl
  have HAT := Lib.hid (atV_eq HN.out hn2 hi HI.out.2 HLO.out HHI.out)
  have huy := HU.out i (i + 1) (by omega) (by omega)
  have hyd : (ps.getD i default).1 ≤ d := by
    cases i with
    | zero => exact HI.out.1
    | succ i => have := HLO.out i (by omega); simp at this; simp; omega
  have HY := Lib.hid (fun W (e : Ext w W) => show Calls Try.prog 120 (#[.int .i64 (1 + (i : Int) - 1)] ++ cp) W fun e w' => e = .returned (.tuple #[.int .i64 (ps.getD i default).1, .int .i64 (ps.getD i default).2]) ∧ Ext W w' from by
    rw [show 1 + (i : Int) - 1 = (i : Int) by omega]
    exact HF.out i _ W hy e)
  have HZ := Lib.hid (fun W (e : Ext w W) => show Calls Try.prog 120 (#[.int .i64 (1 + (i : Int))] ++ cp) W fun e w' => e = .returned (.tuple #[.int .i64 (ps.getD (i + 1) default).1, .int .i64 (ps.getD (i + 1) default).2]) ∧ Ext W w' from by
    rw [show 1 + (i : Int) = ((i + 1 : Nat) : Int) by omega]
    exact HF.out (i + 1) _ W hz e)
  obtain ⟨y0, y1, y2, y3⟩ := HP.out i _ hy
  obtain ⟨z0, z1, z2, z3⟩ := HP.out (i + 1) _ hz
  generalize ps.getD i default = y at *
  generalize ps.getD (i + 1) default = z at *
  have a0 : 0 ≤ y.2 * (z.1 - y.1) := Int.mul_nonneg (by omega) (by omega)
  have a1 : y.2 * (z.1 - y.1) ≤ 2000 * 10000 := Int.mul_le_mul (by omega) (by omega) (by omega) (by omega)
  have a2 : (z.2 - y.2) * (d - y.1) ≤ 2000 * 10000 := by
    have h1 : (z.2 - y.2) * (d - y.1) ≤ 2000 * (d - y.1) := Int.mul_le_mul_of_nonneg_right (by omega) (by omega)
    omega
  have a3 : -(2000 * 10000) ≤ (z.2 - y.2) * (d - y.1) := by
    have h1 : (-2000) * (d - y.1) ≤ (z.2 - y.2) * (d - y.1) := Int.mul_le_mul_of_nonneg_right (by omega) (by omega)
    omega
  have HL := Lib.hid (fun W => lowestP_any (y.2 * (z.1 - y.1) + (z.2 - y.2) * (d - y.1)) (z.1 - y.1) (by unfold Big; omega) (by omega) (by unfold Big; omega) W)
  clear hy hz
  generalize lowT (y.2 * (z.1 - y.1) + (z.2 - y.2) * (d - y.1)) (z.1 - y.1) = lo at *
  have m0 : W1.cell? ⟨w.heap.size, 0, none⟩ = some (.func (.func 120) #[] cp) := (K0.out.ext X1.out).cell 0
  have hin2 : (i : Int) + 1 < (n : Int) := by omega
  go_wp2_with (go_at_call 120; refine (HY.out _ (E0.out.trans X1.out)).mono ?_; rintro e W2 ⟨rfl, hx⟩; have X2 := Lib.hid (X1.out.trans hx); clear hx m0; refine Hid.out ?_)
  refine Lib.hid ?_
  have m0 : W2.cell? ⟨w.heap.size, 0, none⟩ = some (.func (.func 120) #[] cp) := (K0.out.ext X2.out).cell 0
  go_wp2_with (go_at_call 120; refine (HZ.out _ (E0.out.trans X2.out)).mono ?_; rintro e W3 ⟨rfl, hx⟩; have X3 := Lib.hid (X2.out.trans hx); clear hx m0; refine Hid.out ?_)
  refine Lib.hid ?_
  have m1 : W3.cell? ⟨w.heap.size + 1, 0, none⟩ = some (.int .i64 d) := (K1.out.ext X3.out).cell 0
  go_wp2_with (go_at_call 123; refine (HL.out _).mono ?_; rintro e W4 ⟨rfl, hx⟩; have X4 := Lib.hid (X3.out.trans hx); clear hx m1; refine Hid.out ?_)
  refine Lib.hid ?_
  have B2 := K2.out.ext X4.out
  have f0 := B2.free 0
  have f1 := B2.free 1
  have c0 : W4.cell? ⟨w.heap.size + 1 + 1, 0, none⟩ = some (.int .i64 0) := B2.cell 0
  have c1 : W4.cell? ⟨w.heap.size + 1 + 1, 1, none⟩ = some (.int .i64 0) := B2.cell 1
  clear B2 a0 a1 a2 a3
  go_wp2
  exact bodyPost_ret (v := .agg #[.int .i64 lo.1, .int .i64 lo.2]) (by simp [results, Try.f85, go_sem, c0, c1]) rfl ⟨by rw [HAT.out], Ext.set (Ext.set (E0.out.trans X4.out) (by dsimp only; omega) _) (by dsimp only; omega) _⟩
set_option maxRecDepth 100000 in
set_option maxHeartbeats 1000000 in
theorem pred124_any {n : Nat} {ps : List (Int × Int)} {d : Int} {h c1 c2 : Nat} {w : World} {cp : Array Value} (hn : ps.length = n) (hnb : n ≤ 1000) (hh : h + 1 < n)
    (hc : w.cell? ⟨c1, 0, none⟩ = some (.func (.func 124) #[] cp)) (hd : w.cell? ⟨c2, 0, none⟩ = some (.int .i64 d))
    (hF : ∀ (i : Nat) (p : Int × Int) (W : World), ps[i]? = some p → Ext w W → Calls Try.prog 124 (#[.int .i64 (i : Int)] ++ cp) W fun e w' => e = .returned (.tuple #[.int .i64 p.1, .int .i64 p.2]) ∧ Ext W w') :
    Calls Try.prog 122 #[.int .i64 (h : Int), .pointer (some ⟨c1, 0, none⟩), .pointer (some ⟨c2, 0, none⟩)] w fun e w' => e = .returned (.bool (decide (d ≤ (ps.getD (h + 1) default).1))) ∧ Ext w w' := by
  have hx : ps[h + 1]? = some (ps.getD (h + 1) default) := by rw [List.getD_eq_getElem?_getD, List.getElem?_eq_getElem (by omega)]; rfl
  have HC := Lib.hid (fun W (e : Ext w W) => show Calls Try.prog 124 (#[.int .i64 ((h : Int) + 1)] ++ cp) W fun e w' => e = .returned (.tuple #[.int .i64 (ps.getD (h + 1) default).1, .int .i64 (ps.getD (h + 1) default).2]) ∧ Ext W w' from hF (h + 1) _ W hx e)
  generalize ps.getD (h + 1) default = p at *
  have HD := Lib.hid hd
  clear hn hx hF hd
  go_enter Try.func122, Try.ntmps122
  go_wp2_with (go_at_call 124; refine (HC.out _ (Ext.refl _)).mono ?_; rintro e W1 ⟨rfl, hx⟩; have X1 := Lib.hid hx; have hd1 := X1.out.cell HD.out; clear hx)
  go_ret
  exact ⟨rfl, X1.out⟩
set_option maxRecDepth 100000 in
set_option maxHeartbeats 1000000 in
theorem at124_any {n : Nat} {ps : List (Int × Int)} {d : Int} {w : World} {cp : Array Value} (hn : ps.length = n) (hn2 : 2 ≤ n) (hnb : n ≤ 1000) (hd : 0 ≤ d ∧ d ≤ 10000) (hp : ∀ (i : Nat) (p : Int × Int), ps[i]? = some p → 0 ≤ p.1 ∧ p.1 ≤ 10000 ∧ 0 ≤ p.2 ∧ p.2 ≤ 2000)
    (hu : ∀ i j, i < j → j < n → (ps.getD i default).1 < (ps.getD j default).1) (hin : (ps.getD 0 default).1 ≤ d ∧ d ≤ (ps.getD (n - 1) default).1)
    (hF : ∀ (i : Nat) (p : Int × Int) (W : World), ps[i]? = some p → Ext w W → Calls Try.prog 124 (#[.int .i64 (i : Int)] ++ cp) W fun e w' => e = .returned (.tuple #[.int .i64 p.1, .int .i64 p.2]) ∧ Ext W w') :
    Calls Try.prog 85 #[.func (.func 124) #[] cp, .int .i64 d, .int .i64 (n : Int)] w fun e w' => e = .returned (.agg #[.int .i64 (atV ps d n).1, .int .i64 (atV ps d n).2]) ∧ Ext w w' := by
  obtain ⟨d0, d1⟩ := hd
  obtain ⟨W0, hW0⟩ : ∃ W0, W0 = ((w.alloc (.cells #[.func (.func 124) #[] cp] 134)).alloc (.cells #[.int .i64 d] 3)).alloc (.cells #[.int .i64 0, .int .i64 0] 32) := ⟨_, rfl⟩
  have k0 : Blk W0 w.heap.size 134 #[.func (.func 124) #[] cp] := by rw [hW0]; exact ((Blk.new _ _ _).alloc _).alloc _
  have k1 : Blk W0 (w.heap.size + 1) 3 #[.int .i64 d] := by rw [hW0]; exact (Blk.newAt _ _ _ (by simp)).alloc _
  have k2 : Blk W0 (w.heap.size + 1 + 1) 32 #[.int .i64 0, .int .i64 0] := by rw [hW0]; exact Blk.newAt _ _ _ (by simp)
  have E0 := Lib.hid (show Ext w W0 by rw [hW0]; exact ((Ext.alloc _ _).trans (Ext.alloc _ _)).trans (Ext.alloc _ _))
  have K0 := Lib.hid k0
  have K1 := Lib.hid k1
  have K2 := Lib.hid k2
  clear k0 k1 k2
  have hm : ((n - 2 : Nat) : Int) = (n : Int) - 2 := by omega
  have HS := Lib.hid (fun W (e : Ext W0 W) => show Calls Try.prog 121 #[.int .i64 ((n : Int) - 2), .func (.func 122) #[] #[.pointer (some ⟨w.heap.size, 0, none⟩), .pointer (some ⟨w.heap.size + 1, 0, none⟩)]] W fun e w' => ∃ i : Nat, e = .returned (.int .i64 (i : Int)) ∧ i ≤ n - 2 ∧ (∀ k, k < i → decide (d ≤ (ps.getD (k + 1) default).1) = false) ∧ (∀ k, i ≤ k → k < n - 2 → decide (d ≤ (ps.getD (k + 1) default).1) = true) ∧ Ext W w' from by
    have := search_any (m := n - 2) (P := fun k => decide (d ≤ (ps.getD (k + 1) default).1)) (w := W) (cp := #[.pointer (some ⟨w.heap.size, 0, none⟩), .pointer (some ⟨w.heap.size + 1, 0, none⟩)]) (by omega) (fun i j h1 h2 h3 => by
      simp only [decide_eq_true_eq] at h3 ⊢
      rcases Nat.lt_or_ge i j with h4 | h4
      · have := hu (i + 1) (j + 1) (by omega) (by omega); omega
      · obtain rfl : i = j := by omega
        exact h3) (fun h W2 h1 e2 => pred124_any hn hnb (by omega) ((K0.out.ext (e.trans e2)).cell 0) ((K1.out.ext (e.trans e2)).cell 0) (fun i p W3 h3 e3 => hF i p W3 h3 (E0.out.trans (e.trans (e2.trans e3)))))
    rw [hm] at this
    exact this)
  have HF := Lib.hid hF
  have HP := Lib.hid hp
  have HN := Lib.hid hn
  have HU := Lib.hid hu
  have HI := Lib.hid hin
  clear hF hp hn hu hin hm
  go_enter Try.func85, Try.ntmps85
  go_wp2_with (fail)
  rw [← hW0]
  clear hW0
  go_wp2_with (go_at_call 121; refine (HS.out _ (Ext.refl _)).mono ?_; rintro e W1 ⟨i, rfl, hi, hlo, hhi, hx⟩; have X1 := Lib.hid hx; have HLO := Lib.hid hlo; have HHI := Lib.hid hhi; clear hx hlo hhi; refine Hid.out ?_)
  refine Lib.hid ?_
  have hy : ps[i]? = some (ps.getD i default) := by rw [List.getD_eq_getElem?_getD, List.getElem?_eq_getElem (by rw [HN.out]; omega)]; rfl
  have hz : ps[i + 1]? = some (ps.getD (i + 1) default) := by rw [List.getD_eq_getElem?_getD, List.getElem?_eq_getElem (by rw [HN.out]; omega)]; rfl
  have HAT := Lib.hid (atV_eq HN.out hn2 hi HI.out.2 HLO.out HHI.out)
  have huy := HU.out i (i + 1) (by omega) (by omega)
  have hyd : (ps.getD i default).1 ≤ d := by
    cases i with
    | zero => exact HI.out.1
    | succ i => have := HLO.out i (by omega); simp at this; simp; omega
  have HY := Lib.hid (fun W (e : Ext w W) => show Calls Try.prog 124 (#[.int .i64 (1 + (i : Int) - 1)] ++ cp) W fun e w' => e = .returned (.tuple #[.int .i64 (ps.getD i default).1, .int .i64 (ps.getD i default).2]) ∧ Ext W w' from by
    rw [show 1 + (i : Int) - 1 = (i : Int) by omega]
    exact HF.out i _ W hy e)
  have HZ := Lib.hid (fun W (e : Ext w W) => show Calls Try.prog 124 (#[.int .i64 (1 + (i : Int))] ++ cp) W fun e w' => e = .returned (.tuple #[.int .i64 (ps.getD (i + 1) default).1, .int .i64 (ps.getD (i + 1) default).2]) ∧ Ext W w' from by
    rw [show 1 + (i : Int) = ((i + 1 : Nat) : Int) by omega]
    exact HF.out (i + 1) _ W hz e)
  obtain ⟨y0, y1, y2, y3⟩ := HP.out i _ hy
  obtain ⟨z0, z1, z2, z3⟩ := HP.out (i + 1) _ hz
  generalize ps.getD i default = y at *
  generalize ps.getD (i + 1) default = z at *
  have a0 : 0 ≤ y.2 * (z.1 - y.1) := Int.mul_nonneg (by omega) (by omega)
  have a1 : y.2 * (z.1 - y.1) ≤ 2000 * 10000 := Int.mul_le_mul (by omega) (by omega) (by omega) (by omega)
  have a2 : (z.2 - y.2) * (d - y.1) ≤ 2000 * 10000 := by
    have h1 : (z.2 - y.2) * (d - y.1) ≤ 2000 * (d - y.1) := Int.mul_le_mul_of_nonneg_right (by omega) (by omega)
    omega
  have a3 : -(2000 * 10000) ≤ (z.2 - y.2) * (d - y.1) := by
    have h1 : (-2000) * (d - y.1) ≤ (z.2 - y.2) * (d - y.1) := Int.mul_le_mul_of_nonneg_right (by omega) (by omega)
    omega
  have HL := Lib.hid (fun W => lowestP_any (y.2 * (z.1 - y.1) + (z.2 - y.2) * (d - y.1)) (z.1 - y.1) (by unfold Big; omega) (by omega) (by unfold Big; omega) W)
  clear hy hz
  generalize lowT (y.2 * (z.1 - y.1) + (z.2 - y.2) * (d - y.1)) (z.1 - y.1) = lo at *
  have m0 : W1.cell? ⟨w.heap.size, 0, none⟩ = some (.func (.func 124) #[] cp) := (K0.out.ext X1.out).cell 0
  have hin2 : (i : Int) + 1 < (n : Int) := by omega
  go_wp2_with (go_at_call 124; refine (HY.out _ (E0.out.trans X1.out)).mono ?_; rintro e W2 ⟨rfl, hx⟩; have X2 := Lib.hid (X1.out.trans hx); clear hx m0; refine Hid.out ?_)
  refine Lib.hid ?_
  have m0 : W2.cell? ⟨w.heap.size, 0, none⟩ = some (.func (.func 124) #[] cp) := (K0.out.ext X2.out).cell 0
  go_wp2_with (go_at_call 124; refine (HZ.out _ (E0.out.trans X2.out)).mono ?_; rintro e W3 ⟨rfl, hx⟩; have X3 := Lib.hid (X2.out.trans hx); clear hx m0; refine Hid.out ?_)
  refine Lib.hid ?_
  have m1 : W3.cell? ⟨w.heap.size + 1, 0, none⟩ = some (.int .i64 d) := (K1.out.ext X3.out).cell 0
  go_wp2_with (go_at_call 123; refine (HL.out _).mono ?_; rintro e W4 ⟨rfl, hx⟩; have X4 := Lib.hid (X3.out.trans hx); clear hx m1; refine Hid.out ?_)
  refine Lib.hid ?_
  have B2 := K2.out.ext X4.out
  have f0 := B2.free 0
  have f1 := B2.free 1
  have c0 : W4.cell? ⟨w.heap.size + 1 + 1, 0, none⟩ = some (.int .i64 0) := B2.cell 0
  have c1 : W4.cell? ⟨w.heap.size + 1 + 1, 1, none⟩ = some (.int .i64 0) := B2.cell 1
  clear B2 a0 a1 a2 a3
  go_wp2
  exact bodyPost_ret (v := .agg #[.int .i64 lo.1, .int .i64 lo.2]) (by simp [results, Try.f85, go_sem, c0, c1]) rfl ⟨by rw [HAT.out], Ext.set (Ext.set (E0.out.trans X4.out) (by dsimp only; omega) _) (by dsimp only; omega) _⟩
set_option maxRecDepth 100000 in
set_option maxHeartbeats 1000000 in
theorem pred125_any {n : Nat} {ps : List (Int × Int)} {d : Int} {h c1 c2 : Nat} {w : World} {cp : Array Value} (hn : ps.length = n) (hnb : n ≤ 1000) (hh : h + 1 < n)
    (hc : w.cell? ⟨c1, 0, none⟩ = some (.func (.func 125) #[] cp)) (hd : w.cell? ⟨c2, 0, none⟩ = some (.int .i64 d))
    (hF : ∀ (i : Nat) (p : Int × Int) (W : World), ps[i]? = some p → Ext w W → Calls Try.prog 125 (#[.int .i64 (i : Int)] ++ cp) W fun e w' => e = .returned (.tuple #[.int .i64 p.1, .int .i64 p.2]) ∧ Ext W w') :
    Calls Try.prog 122 #[.int .i64 (h : Int), .pointer (some ⟨c1, 0, none⟩), .pointer (some ⟨c2, 0, none⟩)] w fun e w' => e = .returned (.bool (decide (d ≤ (ps.getD (h + 1) default).1))) ∧ Ext w w' := by
  have hx : ps[h + 1]? = some (ps.getD (h + 1) default) := by rw [List.getD_eq_getElem?_getD, List.getElem?_eq_getElem (by omega)]; rfl
  have HC := Lib.hid (fun W (e : Ext w W) => show Calls Try.prog 125 (#[.int .i64 ((h : Int) + 1)] ++ cp) W fun e w' => e = .returned (.tuple #[.int .i64 (ps.getD (h + 1) default).1, .int .i64 (ps.getD (h + 1) default).2]) ∧ Ext W w' from hF (h + 1) _ W hx e)
  generalize ps.getD (h + 1) default = p at *
  have HD := Lib.hid hd
  clear hn hx hF hd
  go_enter Try.func122, Try.ntmps122
  go_wp2_with (go_at_call 125; refine (HC.out _ (Ext.refl _)).mono ?_; rintro e W1 ⟨rfl, hx⟩; have X1 := Lib.hid hx; have hd1 := X1.out.cell HD.out; clear hx)
  go_ret
  exact ⟨rfl, X1.out⟩
set_option maxRecDepth 100000 in
set_option maxHeartbeats 1000000 in
theorem at125_any {n : Nat} {ps : List (Int × Int)} {d : Int} {w : World} {cp : Array Value} (hn : ps.length = n) (hn2 : 2 ≤ n) (hnb : n ≤ 1000) (hd : 0 ≤ d ∧ d ≤ 10000) (hp : ∀ (i : Nat) (p : Int × Int), ps[i]? = some p → 0 ≤ p.1 ∧ p.1 ≤ 10000 ∧ 0 ≤ p.2 ∧ p.2 ≤ 2000)
    (hu : ∀ i j, i < j → j < n → (ps.getD i default).1 < (ps.getD j default).1) (hin : (ps.getD 0 default).1 ≤ d ∧ d ≤ (ps.getD (n - 1) default).1)
    (hF : ∀ (i : Nat) (p : Int × Int) (W : World), ps[i]? = some p → Ext w W → Calls Try.prog 125 (#[.int .i64 (i : Int)] ++ cp) W fun e w' => e = .returned (.tuple #[.int .i64 p.1, .int .i64 p.2]) ∧ Ext W w') :
    Calls Try.prog 85 #[.func (.func 125) #[] cp, .int .i64 d, .int .i64 (n : Int)] w fun e w' => e = .returned (.agg #[.int .i64 (atV ps d n).1, .int .i64 (atV ps d n).2]) ∧ Ext w w' := by
  obtain ⟨d0, d1⟩ := hd
  obtain ⟨W0, hW0⟩ : ∃ W0, W0 = ((w.alloc (.cells #[.func (.func 125) #[] cp] 134)).alloc (.cells #[.int .i64 d] 3)).alloc (.cells #[.int .i64 0, .int .i64 0] 32) := ⟨_, rfl⟩
  have k0 : Blk W0 w.heap.size 134 #[.func (.func 125) #[] cp] := by rw [hW0]; exact ((Blk.new _ _ _).alloc _).alloc _
  have k1 : Blk W0 (w.heap.size + 1) 3 #[.int .i64 d] := by rw [hW0]; exact (Blk.newAt _ _ _ (by simp)).alloc _
  have k2 : Blk W0 (w.heap.size + 1 + 1) 32 #[.int .i64 0, .int .i64 0] := by rw [hW0]; exact Blk.newAt _ _ _ (by simp)
  have E0 := Lib.hid (show Ext w W0 by rw [hW0]; exact ((Ext.alloc _ _).trans (Ext.alloc _ _)).trans (Ext.alloc _ _))
  have K0 := Lib.hid k0
  have K1 := Lib.hid k1
  have K2 := Lib.hid k2
  clear k0 k1 k2
  have hm : ((n - 2 : Nat) : Int) = (n : Int) - 2 := by omega
  have HS := Lib.hid (fun W (e : Ext W0 W) => show Calls Try.prog 121 #[.int .i64 ((n : Int) - 2), .func (.func 122) #[] #[.pointer (some ⟨w.heap.size, 0, none⟩), .pointer (some ⟨w.heap.size + 1, 0, none⟩)]] W fun e w' => ∃ i : Nat, e = .returned (.int .i64 (i : Int)) ∧ i ≤ n - 2 ∧ (∀ k, k < i → decide (d ≤ (ps.getD (k + 1) default).1) = false) ∧ (∀ k, i ≤ k → k < n - 2 → decide (d ≤ (ps.getD (k + 1) default).1) = true) ∧ Ext W w' from by
    have := search_any (m := n - 2) (P := fun k => decide (d ≤ (ps.getD (k + 1) default).1)) (w := W) (cp := #[.pointer (some ⟨w.heap.size, 0, none⟩), .pointer (some ⟨w.heap.size + 1, 0, none⟩)]) (by omega) (fun i j h1 h2 h3 => by
      simp only [decide_eq_true_eq] at h3 ⊢
      rcases Nat.lt_or_ge i j with h4 | h4
      · have := hu (i + 1) (j + 1) (by omega) (by omega); omega
      · obtain rfl : i = j := by omega
        exact h3) (fun h W2 h1 e2 => pred125_any hn hnb (by omega) ((K0.out.ext (e.trans e2)).cell 0) ((K1.out.ext (e.trans e2)).cell 0) (fun i p W3 h3 e3 => hF i p W3 h3 (E0.out.trans (e.trans (e2.trans e3)))))
    rw [hm] at this
    exact this)
  have HF := Lib.hid hF
  have HP := Lib.hid hp
  have HN := Lib.hid hn
  have HU := Lib.hid hu
  have HI := Lib.hid hin
  clear hF hp hn hu hin hm
  go_enter Try.func85, Try.ntmps85
  go_wp2_with (fail)
  rw [← hW0]
  clear hW0
  go_wp2_with (go_at_call 121; refine (HS.out _ (Ext.refl _)).mono ?_; rintro e W1 ⟨i, rfl, hi, hlo, hhi, hx⟩; have X1 := Lib.hid hx; have HLO := Lib.hid hlo; have HHI := Lib.hid hhi; clear hx hlo hhi; refine Hid.out ?_)
  refine Lib.hid ?_
  have hy : ps[i]? = some (ps.getD i default) := by rw [List.getD_eq_getElem?_getD, List.getElem?_eq_getElem (by rw [HN.out]; omega)]; rfl
  have hz : ps[i + 1]? = some (ps.getD (i + 1) default) := by rw [List.getD_eq_getElem?_getD, List.getElem?_eq_getElem (by rw [HN.out]; omega)]; rfl
  have HAT := Lib.hid (atV_eq HN.out hn2 hi HI.out.2 HLO.out HHI.out)
  have huy := HU.out i (i + 1) (by omega) (by omega)
  have hyd : (ps.getD i default).1 ≤ d := by
    cases i with
    | zero => exact HI.out.1
    | succ i => have := HLO.out i (by omega); simp at this; simp; omega
  have HY := Lib.hid (fun W (e : Ext w W) => show Calls Try.prog 125 (#[.int .i64 (1 + (i : Int) - 1)] ++ cp) W fun e w' => e = .returned (.tuple #[.int .i64 (ps.getD i default).1, .int .i64 (ps.getD i default).2]) ∧ Ext W w' from by
    rw [show 1 + (i : Int) - 1 = (i : Int) by omega]
    exact HF.out i _ W hy e)
  have HZ := Lib.hid (fun W (e : Ext w W) => show Calls Try.prog 125 (#[.int .i64 (1 + (i : Int))] ++ cp) W fun e w' => e = .returned (.tuple #[.int .i64 (ps.getD (i + 1) default).1, .int .i64 (ps.getD (i + 1) default).2]) ∧ Ext W w' from by
    rw [show 1 + (i : Int) = ((i + 1 : Nat) : Int) by omega]
    exact HF.out (i + 1) _ W hz e)
  obtain ⟨y0, y1, y2, y3⟩ := HP.out i _ hy
  obtain ⟨z0, z1, z2, z3⟩ := HP.out (i + 1) _ hz
  generalize ps.getD i default = y at *
  generalize ps.getD (i + 1) default = z at *
  have a0 : 0 ≤ y.2 * (z.1 - y.1) := Int.mul_nonneg (by omega) (by omega)
  have a1 : y.2 * (z.1 - y.1) ≤ 2000 * 10000 := Int.mul_le_mul (by omega) (by omega) (by omega) (by omega)
  have a2 : (z.2 - y.2) * (d - y.1) ≤ 2000 * 10000 := by
    have h1 : (z.2 - y.2) * (d - y.1) ≤ 2000 * (d - y.1) := Int.mul_le_mul_of_nonneg_right (by omega) (by omega)
    omega
  have a3 : -(2000 * 10000) ≤ (z.2 - y.2) * (d - y.1) := by
    have h1 : (-2000) * (d - y.1) ≤ (z.2 - y.2) * (d - y.1) := Int.mul_le_mul_of_nonneg_right (by omega) (by omega)
    omega
  have HL := Lib.hid (fun W => lowestP_any (y.2 * (z.1 - y.1) + (z.2 - y.2) * (d - y.1)) (z.1 - y.1) (by unfold Big; omega) (by omega) (by unfold Big; omega) W)
  clear hy hz
  generalize lowT (y.2 * (z.1 - y.1) + (z.2 - y.2) * (d - y.1)) (z.1 - y.1) = lo at *
  have m0 : W1.cell? ⟨w.heap.size, 0, none⟩ = some (.func (.func 125) #[] cp) := (K0.out.ext X1.out).cell 0
  have hin2 : (i : Int) + 1 < (n : Int) := by omega
  go_wp2_with (go_at_call 125; refine (HY.out _ (E0.out.trans X1.out)).mono ?_; rintro e W2 ⟨rfl, hx⟩; have X2 := Lib.hid (X1.out.trans hx); clear hx m0; refine Hid.out ?_)
  refine Lib.hid ?_
  have m0 : W2.cell? ⟨w.heap.size, 0, none⟩ = some (.func (.func 125) #[] cp) := (K0.out.ext X2.out).cell 0
  go_wp2_with (go_at_call 125; refine (HZ.out _ (E0.out.trans X2.out)).mono ?_; rintro e W3 ⟨rfl, hx⟩; have X3 := Lib.hid (X2.out.trans hx); clear hx m0; refine Hid.out ?_)
  refine Lib.hid ?_
  have m1 : W3.cell? ⟨w.heap.size + 1, 0, none⟩ = some (.int .i64 d) := (K1.out.ext X3.out).cell 0
  go_wp2_with (go_at_call 123; refine (HL.out _).mono ?_; rintro e W4 ⟨rfl, hx⟩; have X4 := Lib.hid (X3.out.trans hx); clear hx m1; refine Hid.out ?_)
  refine Lib.hid ?_
  have B2 := K2.out.ext X4.out
  have f0 := B2.free 0
  have f1 := B2.free 1
  have c0 : W4.cell? ⟨w.heap.size + 1 + 1, 0, none⟩ = some (.int .i64 0) := B2.cell 0
  have c1 : W4.cell? ⟨w.heap.size + 1 + 1, 1, none⟩ = some (.int .i64 0) := B2.cell 1
  clear B2 a0 a1 a2 a3
  go_wp2
  exact bodyPost_ret (v := .agg #[.int .i64 lo.1, .int .i64 lo.2]) (by simp [results, Try.f85, go_sem, c0, c1]) rfl ⟨by rw [HAT.out], Ext.set (Ext.set (E0.out.trans X4.out) (by dsimp only; omega) _) (by dsimp only; omega) _⟩

end Go.Proofs.Ytmddnpagfgilcaa
