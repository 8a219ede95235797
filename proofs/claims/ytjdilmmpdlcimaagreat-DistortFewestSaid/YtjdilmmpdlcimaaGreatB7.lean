/- Roots. -/
import Derived.Test.YtjdilmmpdlcimaaGreatB6
import Derived.Lib.MinMax
import Derived.Deep.DeepCutAuto

namespace Go.Proofs.YtjdilmmpdlcimaaGreat
open Go.RowKit Go.Shelf Go.Mem Go.RegInv
attribute [local go_sem] RelUpon_value RelUpon_skip RelUpon_enter BigFrame.eval_const BigFrame.eval_global BigFrame.eval_func

set_option maxRecDepth 100000 in
set_option maxHeartbeats 1000000 in
theorem search_any {m : Nat} {P : Nat → Bool} {w : World} {cp : Array Value} (hm : m ≤ 4000000) (hP : ∀ i j, i ≤ j → j < m → P i = true → P j = true)
    (hF : ∀ (h : Nat) (W : World), h < m → Ext w W → Calls Tryz.prog 68 (#[.int .i64 (h : Int)] ++ cp) W fun e w' => e = .returned (.bool (P h)) ∧ Ext W w') :
    Calls Tryz.prog 67 #[.int .i64 (m : Int), .func (.func 68) #[] cp] w fun e w' => ∃ i : Nat, e = .returned (.int .i64 (i : Int)) ∧ i ≤ m ∧ (∀ k, k < i → P k = false) ∧ (∀ k, i ≤ k → k < m → P k = true) ∧ Ext w w' := by
  have HP := Lib.hid hP
  have HF := Lib.hid hF
  clear hP hF
  go_enter Tryz.func67, Tryz.ntmps67
  go_wp2
  go_loopw [5, 6] (fun a b wr => ∃ i j : Nat, i ≤ j ∧ j ≤ m ∧ a = .int .i64 i ∧ b = .int .i64 j ∧ (∀ k, k < i → P k = false) ∧ (∀ k, j ≤ k → k < m → P k = true) ∧ Ext w wr) (fun a b _ => (intOf b - intOf a).toNat)
  case atStart => exact ⟨0, m, Nat.zero_le _, Nat.le_refl _, rfl, rfl, fun k h => by omega, fun k h1 h2 => by omega, Ext.refl _⟩
  case round =>
    obtain ⟨i, j, hij, hjm, rfl, rfl, hl, hh, hx⟩ := hrel
    have X := Lib.hid hx
    have L := Lib.hid hl
    have H := Lib.hid hh
    clear hx hl hh
    by_cases hlt : i < j
    · obtain ⟨h, hh⟩ : ∃ h, h = (i + j) / 2 := ⟨_, rfl⟩
      have b1 : i ≤ h := by omega
      have b2 : h < j := by omega
      have e1 : ((i : Int) + (j : Int)) / 2 = (h : Int) := by omega
      have E1 := Lib.hid e1
      have HC := Lib.hid (fun W (e : Ext w W) => HF.out h W (by omega) e)
      have hij2 : (i : Int) < (j : Int) := by omega
      clear hh
      cases hp : P h
      · have HPH := Lib.hid hp
        rw [hp] at HC
        clear hp
        go_wp2_with (go_at_call 68; refine (HC.out _ X.out).mono ?_; rintro e W1 ⟨rfl, hx⟩; have X1 := Lib.hid (X.out.trans hx); clear hx)
        go_roundw
        case rel => exact ⟨h + 1, j, by omega, hjm, by go_num, rfl, fun k hk => by
            rcases Bool.eq_false_or_eq_true (P k) with h1 | h1
            · have := HP.out k h (by omega) (by omega) h1
              rw [HPH.out] at this
              cases this
            · exact h1, H.out, X1.out⟩
        case measure => simp [intOf]; omega
      · have HPH := Lib.hid hp
        rw [hp] at HC
        clear hp
        go_wp2_with (go_at_call 68; refine (HC.out _ X.out).mono ?_; rintro e W1 ⟨rfl, hx⟩; have X1 := Lib.hid (X.out.trans hx); clear hx)
        go_roundw
        case rel => exact ⟨i, h, by omega, by omega, rfl, rfl, L.out, fun k h1 h2 => HP.out h k h1 h2 HPH.out, X1.out⟩
        case measure => simp [intOf]; omega
    · have HIJ := Lib.hid (show i = j by omega)
      have hij2 : ¬ (i : Int) < (j : Int) := by omega
      go_wp2
      go_ret
      exact ⟨i, rfl, by omega, L.out, fun k h1 h2 => H.out k (by have := HIJ.out; omega) h2, X.out⟩

def upF (n : Int) : Nat → Nat → Nat
  | 0, k => k
  | f + 1, k => if n ≤ (k : Int) * k then k else upF n f (k + 1)
def upR (n : Int) : Nat := upF n 3000000 0
def rootR (n : Int) : Rg := (if n < (upR n : Int) * upR n then (upR n : Int) - 1 else upR n, upR n)
theorem upF_eq {n : Int} {u : Nat} (h2 : n ≤ (u : Int) * u) : ∀ {f k : Nat}, k ≤ u → u ≤ k + f → (∀ j : Nat, k ≤ j → j < u → (j : Int) * j < n) → upF n f k = u
  | 0, k, a, b, _ => by rw [upF]; omega
  | f + 1, k, a, b, h1 => by
    rw [upF]
    by_cases h : k = u
    · subst h; rw [if_pos h2]
    · rw [if_neg (by have := h1 k (by omega) (by omega); omega)]
      exact upF_eq h2 (by omega) (by omega) (fun j x y => h1 j (by omega) y)
theorem upR_eq {n : Int} {u : Nat} (h0 : u ≤ 3000000) (h1 : ∀ k : Nat, k < u → (k : Int) * k < n) (h2 : n ≤ (u : Int) * u) : upR n = u :=
  upF_eq h2 (by omega) (by omega) (fun j _ y => h1 j y)
theorem sq_mono {a b : Nat} (h : a ≤ b) : (a : Int) * a ≤ (b : Int) * b := Int.mul_le_mul (by omega) (by omega) (by omega) (by omega)
theorem sqLess_any (h : Nat) (n : Int) (a : Addr) (w : World) (hh : h < 4000000) (ha : w.cell? a = some (.int .i64 n)) :
    Calls Tryz.prog 68 #[.int .i64 (h : Int), .pointer (some a)] w fun e w' => e = .returned (.bool (decide (n ≤ (h : Int) * h))) ∧ Ext w w' := by
  have hb := mul_bd (a := (h : Int)) (b := (h : Int)) (A := 4000000) (B := 4000000) (by omega) (by omega)
  generalize hm : (h : Int) * h = s at *
  have HM := Lib.hid hm
  clear hm
  by_cases hs : n ≤ s
  all_goals
    go_enter Tryz.func68, Tryz.ntmps68
    go_upto_region 1 with (fail)
    have hm : (h : Int) * (h : Int) = s := HM.out
    have hw : IntKind.i64.wrap s = s := wrap_id _ (by omega) (by omega)
    go_wp2
    go_ret
    exact ⟨by simp [hs], Ext.refl _⟩

set_option maxRecDepth 100000 in
set_option maxHeartbeats 1000000 in
theorem rootOf_any (n : Int) (h0 : 0 ≤ n ∧ n ≤ 9000000000000) (w : World) :
    Calls Tryz.prog 43 #[.int .i64 n, .int .i64 3000000] w fun e w' => e = .returned (.agg #[.int .i64 (rootR n).1, .int .i64 (rootR n).2]) ∧ Ext w w' := by
  obtain ⟨W0, hW0⟩ : ∃ W0, W0 = (w.alloc (.cells #[.int .i64 n] 3)).alloc (.cells #[.int .i64 0, .int .i64 0] 49) := ⟨_, rfl⟩
  have K0 := Lib.hid (show Blk W0 (w.heap.size) 3 #[.int .i64 n] by rw [hW0]; exact (Blk.new _ _ _).alloc _)
  have K1 := Lib.hid (show Blk W0 (w.heap.size + 1) 49 #[.int .i64 0, .int .i64 0] by rw [hW0]; exact Blk.newAt _ _ _ (by simp))
  have E0 := Lib.hid (show Ext w W0 by rw [hW0]; exact (Ext.alloc _ _).trans (Ext.alloc _ _))
  have y0_0 : W0.cell? ⟨w.heap.size, 0, none⟩ = some (.int .i64 n) := K0.out.cell 0
  have y1_0 : W0.cell? ⟨w.heap.size + 1, 0, none⟩ = some (.int .i64 0) := K1.out.cell 0
  have y1_1 : W0.cell? ⟨w.heap.size + 1, 1, none⟩ = some (.int .i64 0) := K1.out.cell 1
  have HS := Lib.hid (show Calls Tryz.prog 67 #[.int .i64 3000000, .func (.func 68) #[] #[.pointer (some ⟨w.heap.size, 0, none⟩)]] W0 fun e w' => ∃ u : Nat, e = .returned (.int .i64 (u : Int)) ∧ (0 ≤ (u : Int) * u ∧ (u : Int) * u ≤ 9000000000000) ∧ u ≤ 3000000 ∧ upR n = u ∧ (0 < u ∨ ¬ n < (u : Int) * u) ∧ Ext W0 w' from by
    refine (search_any (m := 3000000) (P := fun h => decide (n ≤ (h : Int) * h)) (cp := #[.pointer (some ⟨w.heap.size, 0, none⟩)]) (by omega) (fun i j hij _ hi => ?_) (fun h W hh e => sqLess_any h n _ W (by omega) (e.cell y0_0))).mono ?_
    · have h1 : n ≤ (i : Int) * i := by simpa using hi
      have h2 := sq_mono hij
      simpa using Int.le_trans h1 h2
    · rintro e w' ⟨u, rfl, hu, hl, hh, hx⟩
      have h3 := mul_bd (a := (u : Int)) (b := (u : Int)) (A := 3000000) (B := 3000000) (by omega) (by omega)
      have h4 : 0 ≤ (u : Int) * u := Int.mul_nonneg (by omega) (by omega)
      have h5 : n ≤ (u : Int) * u := by
        rcases Nat.lt_or_ge u 3000000 with h | h
        · simpa using hh u (by omega) h
        · obtain rfl : u = 3000000 := by omega
          omega
      refine ⟨u, rfl, ⟨h4, by omega⟩, hu, upR_eq hu (fun k hk => ?_) h5, ?_, hx⟩
      · have := hl k hk
        simpa using this
      · rcases Nat.eq_zero_or_pos u with h | h
        · right; subst h; simp; omega
        · exact .inl h)
  have HR := Lib.hid (show rootR n = (if n < (upR n : Int) * upR n then (upR n : Int) - 1 else (upR n : Int), (upR n : Int)) from rfl)
  generalize rootR n = rr at *
  generalize upR n = v at *
  go_enter Tryz.func43, Tryz.ntmps43
  go_upto_region 1 with (fail)
  rw [← hW0]
  clear hW0
  go_wp2_with (go_at_call 67; refine HS.out.mono ?_; rintro e W1 ⟨u, rfl, hu2, hu, hv, hu0, hx⟩; have HV := Lib.hid hv; have HU := Lib.hid hu0; have X := Lib.hid (E0.out.trans hx); replace K0 := Lib.hid (K0.out.ext hx); replace K1 := Lib.hid (K1.out.ext hx); clear hx hv hu0 y0_0 y1_0 y1_1; refine Hid.out ?_)
  refine Lib.hid ?_
  clear HS E0
  have HM : Hid (rr = (if n < (u : Int) * u then (u : Int) - 1 else u, (u : Int))) := Lib.hid (by rw [HR.out, HV.out])
  clear HR
  generalize hm : (u : Int) * u = s at *
  have HMM := Lib.hid hm
  clear hm
  have y0 : W1.cell? ⟨w.heap.size, 0, none⟩ = some (.int .i64 n) := K0.out.cell 0
  have u0 : W1.cell? ⟨w.heap.size + 1, 0, none⟩ = some (.int .i64 0) := K1.out.cell 0
  have u1 : W1.cell? ⟨w.heap.size + 1, 1, none⟩ = some (.int .i64 0) := K1.out.cell 1
  have f0 := K1.out.free 0
  have f1 := K1.out.free 1
  have hw : (u : Int) * (u : Int) = s := HMM.out
  by_cases hs : n < s
  · have hd : decide (n < s) = true := by simp [hs]
    have HE := Lib.hid (show rr = ((u : Int) - 1, (u : Int)) by rw [HM.out, if_pos hs])
    have hpos : 1 ≤ (u : Int) := by have := HU.out; omega
    clear HM HU
    go_wp2
    exact bodyPost_ret (v := .agg #[.int .i64 ((u : Int) - 1), .int .i64 (u : Int)]) (by simp [results, Tryz.f43, go_sem, u0, u1]) rfl ⟨by rw [HE.out], Ext.set (Ext.set X.out (by dsimp only; omega) _) (by dsimp only; omega) _⟩
  · have hd : decide (n < s) = false := by simp; omega
    have HE := Lib.hid (show rr = ((u : Int), (u : Int)) by rw [HM.out, if_neg hs])
    clear HM HU
    go_wp2
    exact bodyPost_ret (v := .agg #[.int .i64 (u : Int), .int .i64 (u : Int)]) (by simp [results, Tryz.f43, go_sem, u0, u1]) rfl ⟨by rw [HE.out], Ext.set (Ext.set X.out (by dsimp only; omega) _) (by dsimp only; omega) _⟩

def readE (r0 r1 r2 r3 : Int) : Int := rangeE (-1000000) 1000000 [r0, r1, r2, r3]
/-- What follows from readings. -/
def runV (r0 r1 r2 r3 : Int) : Int × Int × Int × Rg := (r0 - r2, r1 - r3, r0 + r2 - r1 - r3, rootR ((r0 - r2) * (r0 - r2) + (r1 - r3) * (r1 - r3)))
theorem sq_nn (x : Int) : 0 ≤ x * x := by
  rcases Int.le_total 0 x with h | h
  · exact Int.mul_nonneg h h
  · exact Int.mul_nonneg_of_nonpos_of_nonpos h h
set_option maxRecDepth 100000 in
set_option maxHeartbeats 1000000 in
theorem runOutOf_bad {r0 r1 r2 r3 : Int} (hz : readE r0 r1 r2 r3 ≠ 0) (w : World) :
    Calls Tryz.prog 20 #[.agg #[.int .i64 r0, .int .i64 r1, .int .i64 r2, .int .i64 r3]] w fun e w' => e = .returned (.tuple #[.agg #[.int .i64 0, .int .i64 0, .int .i64 0, .int .i64 0, .int .i64 0], .int .i64 (readE r0 r1 r2 r3)]) ∧ Ext w w' := by
  obtain ⟨W0, hW0⟩ : ∃ W0, W0 = (w.alloc (.cells #[.int .i64 r0, .int .i64 r1, .int .i64 r2, .int .i64 r3] 58)).alloc (.cells #[.int .i64 0, .int .i64 0, .int .i64 0, .int .i64 0, .int .i64 0] 55) := ⟨_, rfl⟩
  have K0 := Lib.hid (show Blk W0 (w.heap.size) 58 #[.int .i64 r0, .int .i64 r1, .int .i64 r2, .int .i64 r3] by rw [hW0]; exact (Blk.new _ _ _).alloc _)
  have K1 := Lib.hid (show Blk W0 (w.heap.size + 1) 55 #[.int .i64 0, .int .i64 0, .int .i64 0, .int .i64 0, .int .i64 0] by rw [hW0]; exact Blk.newAt _ _ _ (by simp))
  have E0 := Lib.hid (show Ext w W0 by rw [hW0]; exact (Ext.alloc _ _).trans (Ext.alloc _ _))
  have y0_0 : W0.cell? ⟨w.heap.size, 0, none⟩ = some (.int .i64 r0) := K0.out.cell 0
  have y0_1 : W0.cell? ⟨w.heap.size, 1, none⟩ = some (.int .i64 r1) := K0.out.cell 1
  have y0_2 : W0.cell? ⟨w.heap.size, 2, none⟩ = some (.int .i64 r2) := K0.out.cell 2
  have y0_3 : W0.cell? ⟨w.heap.size, 3, none⟩ = some (.int .i64 r3) := K0.out.cell 3
  have y1_0 : W0.cell? ⟨w.heap.size + 1, 0, none⟩ = some (.int .i64 0) := K1.out.cell 0
  have y1_1 : W0.cell? ⟨w.heap.size + 1, 1, none⟩ = some (.int .i64 0) := K1.out.cell 1
  have y1_2 : W0.cell? ⟨w.heap.size + 1, 2, none⟩ = some (.int .i64 0) := K1.out.cell 2
  have y1_3 : W0.cell? ⟨w.heap.size + 1, 3, none⟩ = some (.int .i64 0) := K1.out.cell 3
  have y1_4 : W0.cell? ⟨w.heap.size + 1, 4, none⟩ = some (.int .i64 0) := K1.out.cell 4
  have HI : Hid (IntsAt W0 (.slice (some ⟨w.heap.size, 0, none⟩) 4 4) [r0, r1, r2, r3]) := Lib.hid (.inr ⟨w.heap.size, 0, 4, rfl, K0.out.lt, by simp, fun i hi => by
    rcases (show i = 0 ∨ i = 1 ∨ i = 2 ∨ i = 3 by simp at hi; omega) with rfl | rfl | rfl | rfl
    · exact y0_0
    · exact y0_1
    · exact y0_2
    · exact y0_3⟩)
  have HS := Lib.hid (show Calls Tryz.prog 42 #[.int .i64 1000000, .slice (some ⟨w.heap.size, 0, none⟩) 4 4] W0 fun e w' => e = .returned (.int .i64 (readE r0 r1 r2 r3)) ∧ Ext W0 w' from sizeError_any 1000000 (by omega) _ _ _ HI.out)
  have hz2 : (readE r0 r1 r2 r3 != 0) = true := by simp [hz]
  clear HI hz
  generalize readE r0 r1 r2 r3 = z at *
  go_enter Tryz.func20, Tryz.ntmps20
  go_upto_region 1 with (fail)
  rw [← hW0]
  clear hW0
  go_wp2_with (go_at_call 42; refine HS.out.mono ?_; rintro e W1 ⟨rfl, hx⟩; have X := Lib.hid (E0.out.trans hx); replace K1 := Lib.hid (K1.out.ext hx); clear hx y1_0 y1_1 y1_2 y1_3 y1_4; refine Hid.out ?_)
  refine Lib.hid ?_
  have u0 : W1.cell? ⟨w.heap.size + 1, 0, none⟩ = some (.int .i64 0) := K1.out.cell 0
  have f0 := K1.out.free 0
  have u1 : W1.cell? ⟨w.heap.size + 1, 1, none⟩ = some (.int .i64 0) := K1.out.cell 1
  have f1 := K1.out.free 1
  have u2 : W1.cell? ⟨w.heap.size + 1, 2, none⟩ = some (.int .i64 0) := K1.out.cell 2
  have f2 := K1.out.free 2
  have u3 : W1.cell? ⟨w.heap.size + 1, 3, none⟩ = some (.int .i64 0) := K1.out.cell 3
  have f3 := K1.out.free 3
  have u4 : W1.cell? ⟨w.heap.size + 1, 4, none⟩ = some (.int .i64 0) := K1.out.cell 4
  have f4 := K1.out.free 4
  go_wp2
  exact bodyPost_ret (v := .tuple #[.agg #[.int .i64 0, .int .i64 0, .int .i64 0, .int .i64 0, .int .i64 0], .int .i64 z]) (by simp [results, Tryz.f20, go_sem, u0, u1, u2, u3, u4]) rfl ⟨rfl, Ext.set (Ext.set (Ext.set (Ext.set (Ext.set (X.out) (by dsimp only; omega) _) (by dsimp only; omega) _) (by dsimp only; omega) _) (by dsimp only; omega) _) (by dsimp only; omega) _⟩
set_option maxRecDepth 100000 in
set_option maxHeartbeats 1000000 in
theorem runOutOf_ok {r0 r1 r2 r3 : Int} (hz : readE r0 r1 r2 r3 = 0) (w : World) :
    Calls Tryz.prog 20 #[.agg #[.int .i64 r0, .int .i64 r1, .int .i64 r2, .int .i64 r3]] w fun e w' => e = .returned (.tuple #[.agg #[.int .i64 (runV r0 r1 r2 r3).1, .int .i64 (runV r0 r1 r2 r3).2.1, .int .i64 (runV r0 r1 r2 r3).2.2.1, .int .i64 (runV r0 r1 r2 r3).2.2.2.1, .int .i64 (runV r0 r1 r2 r3).2.2.2.2], .int .i64 0]) ∧ Ext w w' := by
  obtain ⟨W0, hW0⟩ : ∃ W0, W0 = (w.alloc (.cells #[.int .i64 r0, .int .i64 r1, .int .i64 r2, .int .i64 r3] 58)).alloc (.cells #[.int .i64 0, .int .i64 0, .int .i64 0, .int .i64 0, .int .i64 0] 55) := ⟨_, rfl⟩
  have K0 := Lib.hid (show Blk W0 (w.heap.size) 58 #[.int .i64 r0, .int .i64 r1, .int .i64 r2, .int .i64 r3] by rw [hW0]; exact (Blk.new _ _ _).alloc _)
  have K1 := Lib.hid (show Blk W0 (w.heap.size + 1) 55 #[.int .i64 0, .int .i64 0, .int .i64 0, .int .i64 0, .int .i64 0] by rw [hW0]; exact Blk.newAt _ _ _ (by simp))
  have E0 := Lib.hid (show Ext w W0 by rw [hW0]; exact (Ext.alloc _ _).trans (Ext.alloc _ _))
  have y0_0 : W0.cell? ⟨w.heap.size, 0, none⟩ = some (.int .i64 r0) := K0.out.cell 0
  have y0_1 : W0.cell? ⟨w.heap.size, 1, none⟩ = some (.int .i64 r1) := K0.out.cell 1
  have y0_2 : W0.cell? ⟨w.heap.size, 2, none⟩ = some (.int .i64 r2) := K0.out.cell 2
  have y0_3 : W0.cell? ⟨w.heap.size, 3, none⟩ = some (.int .i64 r3) := K0.out.cell 3
  have y1_0 : W0.cell? ⟨w.heap.size + 1, 0, none⟩ = some (.int .i64 0) := K1.out.cell 0
  have y1_1 : W0.cell? ⟨w.heap.size + 1, 1, none⟩ = some (.int .i64 0) := K1.out.cell 1
  have y1_2 : W0.cell? ⟨w.heap.size + 1, 2, none⟩ = some (.int .i64 0) := K1.out.cell 2
  have y1_3 : W0.cell? ⟨w.heap.size + 1, 3, none⟩ = some (.int .i64 0) := K1.out.cell 3
  have y1_4 : W0.cell? ⟨w.heap.size + 1, 4, none⟩ = some (.int .i64 0) := K1.out.cell 4
  have HI : Hid (IntsAt W0 (.slice (some ⟨w.heap.size, 0, none⟩) 4 4) [r0, r1, r2, r3]) := Lib.hid (.inr ⟨w.heap.size, 0, 4, rfl, K0.out.lt, by simp, fun i hi => by
    rcases (show i = 0 ∨ i = 1 ∨ i = 2 ∨ i = 3 by simp at hi; omega) with rfl | rfl | rfl | rfl
    · exact y0_0
    · exact y0_1
    · exact y0_2
    · exact y0_3⟩)
  have HS := Lib.hid (show Calls Tryz.prog 42 #[.int .i64 1000000, .slice (some ⟨w.heap.size, 0, none⟩) 4 4] W0 fun e w' => e = .returned (.int .i64 (readE r0 r1 r2 r3)) ∧ Ext W0 w' from sizeError_any 1000000 (by omega) _ _ _ HI.out)
  rw [hz] at HS
  have hr := rangeE_zeros hz
  have g0 := hr r0 (by simp)
  have g1 := hr r1 (by simp)
  have g2 := hr r2 (by simp)
  have g3 := hr r3 (by simp)
  obtain ⟨x, hx⟩ : ∃ x, x = r0 - r2 := ⟨_, rfl⟩
  obtain ⟨y, hy⟩ : ∃ y, y = r1 - r3 := ⟨_, rfl⟩
  have m1 := mul_bd (a := x) (b := x) (A := 2000000) (B := 2000000) (by omega) (by omega)
  have m2 := mul_bd (a := y) (b := y) (A := 2000000) (B := 2000000) (by omega) (by omega)
  have s1 := sq_nn x
  have s2 := sq_nn y
  have HRO := Lib.hid (fun W => rootOf_any (x * x + y * y) (by omega) W)
  have HV := Lib.hid (show runV r0 r1 r2 r3 = (x, y, r0 + r2 - r1 - r3, rootR (x * x + y * y)) by rw [hx, hy]; rfl)
  have HR := Lib.hid (show (-2000000 ≤ r0 - r2 ∧ r0 - r2 ≤ 2000000) ∧ (-2000000 ≤ r1 - r3 ∧ r1 - r3 ≤ 2000000) ∧ (-2000000 ≤ r0 + r2 ∧ r0 + r2 ≤ 2000000) ∧ (-3000000 ≤ r0 + r2 - r1 ∧ r0 + r2 - r1 ≤ 3000000) ∧ (-4000000 ≤ r0 + r2 - r1 - r3 ∧ r0 + r2 - r1 - r3 ≤ 4000000) ∧ (0 ≤ x * x ∧ x * x ≤ 4000000000000) ∧ (0 ≤ y * y ∧ y * y ≤ 4000000000000) ∧ x * x + y * y ≤ 8000000000000 by omega)
  generalize rootR (x * x + y * y) = ro at *
  generalize runV r0 r1 r2 r3 = rv at *
  have HX := Lib.hid hx
  have HY := Lib.hid hy
  clear HI hz hr m1 m2 s1 s2 hx hy g0 g1 g2 g3
  go_enter Tryz.func20, Tryz.ntmps20
  go_upto_region 1 with (fail)
  rw [← hW0]
  clear hW0
  go_wp2_with (go_at_call 42; refine HS.out.mono ?_; rintro e W1 ⟨rfl, hx⟩; have X := Lib.hid (E0.out.trans hx); replace K0 := Lib.hid (K0.out.ext hx); replace K1 := Lib.hid (K1.out.ext hx); clear hx y0_0 y0_1 y0_2 y0_3 y1_0 y1_1 y1_2 y1_3 y1_4; refine Hid.out ?_)
  refine Lib.hid ?_
  have y0 : W1.cell? ⟨w.heap.size, 0, none⟩ = some (.int .i64 r0) := K0.out.cell 0
  have y1 : W1.cell? ⟨w.heap.size, 1, none⟩ = some (.int .i64 r1) := K0.out.cell 1
  have y2 : W1.cell? ⟨w.heap.size, 2, none⟩ = some (.int .i64 r2) := K0.out.cell 2
  have y3 : W1.cell? ⟨w.heap.size, 3, none⟩ = some (.int .i64 r3) := K0.out.cell 3
  go_upto_region 4 with (fail)
  refine wp_region_each [some 13, some 14, some 15, some 16, some 17, some 18, some 19, some 20, some 21, some 22, some 5, some 6] [[1], [13], [1], [15], [14, 16], [1], [18], [1], [20], [19, 21], [17], [22]]
    [Is (.pointer (some ⟨w.heap.size, 0, none⟩)), Is (.int .i64 (r0)), Is (.pointer (some ⟨w.heap.size, 2, none⟩)), Is (.int .i64 (r2)), Is (.int .i64 (r0 - r2)), Is (.pointer (some ⟨w.heap.size, 1, none⟩)), Is (.int .i64 (r1)), Is (.pointer (some ⟨w.heap.size, 3, none⟩)), Is (.int .i64 (r3)), Is (.int .i64 (r1 - r3)), Is (.int .i64 (r0 - r2)), Is (.int .i64 (r1 - r3))]
    (by kernel_rfl) (by kernel_rfl) (by kernel_rfl) (by kernel_rfl) (by kernel_rfl) Ext (fun W => Ext W1 W)
    (fun W _ => Ext.refl W) (fun W W' h k => h.trans k) ?_ (Ext.drew _) ?_ ?_
  · repeat (refine ⟨fun _ _ _ _ k h => (by first | exact h | exact (IntsAt.ext h k)), ?_⟩)
    exact trivial
  · refine ⟨?_, ?_, ?_, ?_, ?_, ?_, ?_, ?_, ?_, ?_, ?_, ?_, trivial⟩
    all_goals intro ρ W ⟨kc, kg, kf⟩ hF hs
    · obtain ⟨h0, -⟩ := hs
      replace h0 : ρ (.tmp 1) = .pointer (some ⟨w.heap.size, 0, none⟩) := h0
      go_simp
      exact ⟨Ext.refl _, rfl⟩
    · obtain ⟨h0, -⟩ := hs
      replace h0 : ρ (.tmp 13) = .pointer (some ⟨w.heap.size, 0, none⟩) := h0
      have hc0 : W.cell? ⟨w.heap.size, 0, none⟩ = some (.int .i64 (r0)) := hF.cell (by assumption)
      go_simp
      exact ⟨Ext.refl _, rfl⟩
    · obtain ⟨h0, -⟩ := hs
      replace h0 : ρ (.tmp 1) = .pointer (some ⟨w.heap.size, 0, none⟩) := h0
      go_simp
      exact ⟨Ext.refl _, rfl⟩
    · obtain ⟨h0, -⟩ := hs
      replace h0 : ρ (.tmp 15) = .pointer (some ⟨w.heap.size, 2, none⟩) := h0
      have hc0 : W.cell? ⟨w.heap.size, 2, none⟩ = some (.int .i64 (r2)) := hF.cell (by assumption)
      go_simp
      exact ⟨Ext.refl _, rfl⟩
    · obtain ⟨h0, h1, -⟩ := hs
      replace h0 : ρ (.tmp 14) = .int .i64 (r0) := h0
      replace h1 : ρ (.tmp 16) = .int .i64 (r2) := h1
      have hw : IntKind.i64.wrap (r0 - r2) = r0 - r2 := wrap_id _ (by have := HR.out; omega) (by have := HR.out; omega)
      go_simp
      exact ⟨Ext.refl _, rfl⟩
    · obtain ⟨h0, -⟩ := hs
      replace h0 : ρ (.tmp 1) = .pointer (some ⟨w.heap.size, 0, none⟩) := h0
      go_simp
      exact ⟨Ext.refl _, rfl⟩
    · obtain ⟨h0, -⟩ := hs
      replace h0 : ρ (.tmp 18) = .pointer (some ⟨w.heap.size, 1, none⟩) := h0
      have hc0 : W.cell? ⟨w.heap.size, 1, none⟩ = some (.int .i64 (r1)) := hF.cell (by assumption)
      go_simp
      exact ⟨Ext.refl _, rfl⟩
    · obtain ⟨h0, -⟩ := hs
      replace h0 : ρ (.tmp 1) = .pointer (some ⟨w.heap.size, 0, none⟩) := h0
      go_simp
      exact ⟨Ext.refl _, rfl⟩
    · obtain ⟨h0, -⟩ := hs
      replace h0 : ρ (.tmp 20) = .pointer (some ⟨w.heap.size, 3, none⟩) := h0
      have hc0 : W.cell? ⟨w.heap.size, 3, none⟩ = some (.int .i64 (r3)) := hF.cell (by assumption)
      go_simp
      exact ⟨Ext.refl _, rfl⟩
    · obtain ⟨h0, h1, -⟩ := hs
      replace h0 : ρ (.tmp 19) = .int .i64 (r1) := h0
      replace h1 : ρ (.tmp 21) = .int .i64 (r3) := h1
      have hw : IntKind.i64.wrap (r1 - r3) = r1 - r3 := wrap_id _ (by have := HR.out; omega) (by have := HR.out; omega)
      go_simp
      exact ⟨Ext.refl _, rfl⟩
    · obtain ⟨h0, -⟩ := hs
      replace h0 : ρ (.tmp 17) = .int .i64 (r0 - r2) := h0
      go_simp
      exact ⟨Ext.refl _, rfl⟩
    · obtain ⟨h0, -⟩ := hs
      replace h0 : ρ (.tmp 22) = .int .i64 (r1 - r3) := h0
      go_simp
      exact ⟨Ext.refl _, rfl⟩
  · intro fv W hF hs
    obtain ⟨-, -, -, -, -, -, -, -, -, -, h5, h6, -⟩ := hs
    replace h5 : fv 5 = .int .i64 (r0 - r2) := h5
    replace h6 : fv 6 = .int .i64 (r1 - r3) := h6
    simp only [fin, List.filterMap]
    go_simp

    rw [← HX.out, ← HY.out]
    have X2 := Lib.hid (X.out.trans hF)
    replace K0 := Lib.hid (K0.out.ext hF)
    replace K1 := Lib.hid (K1.out.ext hF)
    clear y0 y1 y2 y3 hF X
    obtain ⟨W2, hW2⟩ : ∃ V, V = W := ⟨_, rfl⟩
    rw [← hW2] at X2 K0 K1 ⊢
    clear hW2 HX HY
    have y0 : W2.cell? ⟨w.heap.size, 0, none⟩ = some (.int .i64 r0) := K0.out.cell 0
    have y1 : W2.cell? ⟨w.heap.size, 1, none⟩ = some (.int .i64 r1) := K0.out.cell 1
    have y2 : W2.cell? ⟨w.heap.size, 2, none⟩ = some (.int .i64 r2) := K0.out.cell 2
    have y3 : W2.cell? ⟨w.heap.size, 3, none⟩ = some (.int .i64 r3) := K0.out.cell 3
    go_upto_region 5 with (fail)
    refine wp_region_part 22 [some 23, some 24, some 25, some 26, some 27, some 28, some 29, some 30, some 31, some 32, some 33, some 34, some 35, some 36, some 37, some 38, some 39, some 40, some 41, some 42, some 43, some 44] [[5], [6], [1], [25], [1], [27], [26, 28], [1], [30], [29, 31], [1], [33], [32, 34], [5], [5], [36, 37], [6], [6], [39, 40], [38, 41], [42], [23, 24, 35, 43]]
      [Is (.int .i64 (x)), Is (.int .i64 (y)), Is (.pointer (some ⟨w.heap.size, 0, none⟩)), Is (.int .i64 (r0)), Is (.pointer (some ⟨w.heap.size, 2, none⟩)), Is (.int .i64 (r2)), Is (.int .i64 (r0 + r2)), Is (.pointer (some ⟨w.heap.size, 1, none⟩)), Is (.int .i64 (r1)), Is (.int .i64 (r0 + r2 - r1)), Is (.pointer (some ⟨w.heap.size, 3, none⟩)), Is (.int .i64 (r3)), Is (.int .i64 (r0 + r2 - r1 - r3)), Is (.int .i64 (x)), Is (.int .i64 (x)), Is (.int .i64 (x * x)), Is (.int .i64 (y)), Is (.int .i64 (y)), Is (.int .i64 (y * y)), Is (.int .i64 (x * x + y * y)), Is (.agg #[.int .i64 ro.1, .int .i64 ro.2]), Is (.agg #[.int .i64 x, .int .i64 y, .int .i64 (r0 + r2 - r1 - r3), .int .i64 ro.1, .int .i64 ro.2])]
      (by kernel_rfl) (by kernel_rfl) (by kernel_rfl) (by kernel_rfl) (by kernel_rfl) (by kernel_rfl) (by kernel_rfl) Ext (fun W => Ext W2 W)
      (fun W _ => Ext.refl W) (fun W W' h k => h.trans k) ?_ (Ext.drew _) ?_ ?_
    · repeat (refine ⟨fun _ _ _ _ k h => (by first | exact h | exact (IntsAt.ext h k)), ?_⟩)
      exact trivial
    · refine ⟨?_, ?_, ?_, ?_, ?_, ?_, ?_, ?_, ?_, ?_, ?_, ?_, ?_, ?_, ?_, ?_, ?_, ?_, ?_, ?_, ?_, ?_, trivial⟩
      all_goals intro ρ W ⟨kc, kg, kf⟩ hF hs
      · obtain ⟨h0, -⟩ := hs
        replace h0 : ρ (.tmp 5) = .int .i64 (x) := h0
        go_simp
        exact ⟨Ext.refl _, rfl⟩
      · obtain ⟨h0, -⟩ := hs
        replace h0 : ρ (.tmp 6) = .int .i64 (y) := h0
        go_simp
        exact ⟨Ext.refl _, rfl⟩
      · obtain ⟨h0, -⟩ := hs
        replace h0 : ρ (.tmp 1) = .pointer (some ⟨w.heap.size, 0, none⟩) := h0
        go_simp
        exact ⟨Ext.refl _, rfl⟩
      · obtain ⟨h0, -⟩ := hs
        replace h0 : ρ (.tmp 25) = .pointer (some ⟨w.heap.size, 0, none⟩) := h0
        have hc0 : W.cell? ⟨w.heap.size, 0, none⟩ = some (.int .i64 (r0)) := hF.cell (by assumption)
        go_simp
        exact ⟨Ext.refl _, rfl⟩
      · obtain ⟨h0, -⟩ := hs
        replace h0 : ρ (.tmp 1) = .pointer (some ⟨w.heap.size, 0, none⟩) := h0
        go_simp
        exact ⟨Ext.refl _, rfl⟩
      · obtain ⟨h0, -⟩ := hs
        replace h0 : ρ (.tmp 27) = .pointer (some ⟨w.heap.size, 2, none⟩) := h0
        have hc0 : W.cell? ⟨w.heap.size, 2, none⟩ = some (.int .i64 (r2)) := hF.cell (by assumption)
        go_simp
        exact ⟨Ext.refl _, rfl⟩
      · obtain ⟨h0, h1, -⟩ := hs
        replace h0 : ρ (.tmp 26) = .int .i64 (r0) := h0
        replace h1 : ρ (.tmp 28) = .int .i64 (r2) := h1
        have hw : IntKind.i64.wrap (r0 + r2) = r0 + r2 := wrap_id _ (by have := HR.out; omega) (by have := HR.out; omega)
        go_simp
        exact ⟨Ext.refl _, rfl⟩
      · obtain ⟨h0, -⟩ := hs
        replace h0 : ρ (.tmp 1) = .pointer (some ⟨w.heap.size, 0, none⟩) := h0
        go_simp
        exact ⟨Ext.refl _, rfl⟩
      · obtain ⟨h0, -⟩ := hs
        replace h0 : ρ (.tmp 30) = .pointer (some ⟨w.heap.size, 1, none⟩) := h0
        have hc0 : W.cell? ⟨w.heap.size, 1, none⟩ = some (.int .i64 (r1)) := hF.cell (by assumption)
        go_simp
        exact ⟨Ext.refl _, rfl⟩
      · obtain ⟨h0, h1, -⟩ := hs
        replace h0 : ρ (.tmp 29) = .int .i64 (r0 + r2) := h0
        replace h1 : ρ (.tmp 31) = .int .i64 (r1) := h1
        have hw : IntKind.i64.wrap (r0 + r2 - r1) = r0 + r2 - r1 := wrap_id _ (by have := HR.out; omega) (by have := HR.out; omega)
        go_simp
        exact ⟨Ext.refl _, rfl⟩
      · obtain ⟨h0, -⟩ := hs
        replace h0 : ρ (.tmp 1) = .pointer (some ⟨w.heap.size, 0, none⟩) := h0
        go_simp
        exact ⟨Ext.refl _, rfl⟩
      · obtain ⟨h0, -⟩ := hs
        replace h0 : ρ (.tmp 33) = .pointer (some ⟨w.heap.size, 3, none⟩) := h0
        have hc0 : W.cell? ⟨w.heap.size, 3, none⟩ = some (.int .i64 (r3)) := hF.cell (by assumption)
        go_simp
        exact ⟨Ext.refl _, rfl⟩
      · obtain ⟨h0, h1, -⟩ := hs
        replace h0 : ρ (.tmp 32) = .int .i64 (r0 + r2 - r1) := h0
        replace h1 : ρ (.tmp 34) = .int .i64 (r3) := h1
        have hw : IntKind.i64.wrap (r0 + r2 - r1 - r3) = r0 + r2 - r1 - r3 := wrap_id _ (by have := HR.out; omega) (by have := HR.out; omega)
        go_simp
        exact ⟨Ext.refl _, rfl⟩
      · obtain ⟨h0, -⟩ := hs
        replace h0 : ρ (.tmp 5) = .int .i64 (x) := h0
        go_simp
        exact ⟨Ext.refl _, rfl⟩
      · obtain ⟨h0, -⟩ := hs
        replace h0 : ρ (.tmp 5) = .int .i64 (x) := h0
        go_simp
        exact ⟨Ext.refl _, rfl⟩
      · obtain ⟨h0, h1, -⟩ := hs
        replace h0 : ρ (.tmp 36) = .int .i64 (x) := h0
        replace h1 : ρ (.tmp 37) = .int .i64 (x) := h1
        have hw : IntKind.i64.wrap (x * x) = x * x := wrap_id _ (by have := HR.out; omega) (by have := HR.out; omega)
        go_simp
        exact ⟨Ext.refl _, rfl⟩
      · obtain ⟨h0, -⟩ := hs
        replace h0 : ρ (.tmp 6) = .int .i64 (y) := h0
        go_simp
        exact ⟨Ext.refl _, rfl⟩
      · obtain ⟨h0, -⟩ := hs
        replace h0 : ρ (.tmp 6) = .int .i64 (y) := h0
        go_simp
        exact ⟨Ext.refl _, rfl⟩
      · obtain ⟨h0, h1, -⟩ := hs
        replace h0 : ρ (.tmp 39) = .int .i64 (y) := h0
        replace h1 : ρ (.tmp 40) = .int .i64 (y) := h1
        have hw : IntKind.i64.wrap (y * y) = y * y := wrap_id _ (by have := HR.out; omega) (by have := HR.out; omega)
        go_simp
        exact ⟨Ext.refl _, rfl⟩
      · obtain ⟨h0, h1, -⟩ := hs
        replace h0 : ρ (.tmp 38) = .int .i64 (x * x) := h0
        replace h1 : ρ (.tmp 41) = .int .i64 (y * y) := h1
        have hw : IntKind.i64.wrap (x * x + y * y) = x * x + y * y := wrap_id _ (by have := HR.out; omega) (by have := HR.out; omega)
        go_simp
        exact ⟨Ext.refl _, rfl⟩
      · obtain ⟨h0, -⟩ := hs
        replace h0 : ρ (.tmp 42) = .int .i64 (x * x + y * y) := h0
        go_simp
        refine (HRO.out _).mono ?_; rintro e w' ⟨rfl, hx⟩; exact ⟨_, rfl, hx, rfl⟩
      · obtain ⟨h0, h1, h2, h3, -⟩ := hs
        replace h0 : ρ (.tmp 23) = .int .i64 (x) := h0
        replace h1 : ρ (.tmp 24) = .int .i64 (y) := h1
        replace h2 : ρ (.tmp 35) = .int .i64 (r0 + r2 - r1 - r3) := h2
        replace h3 : ρ (.tmp 43) = .agg #[.int .i64 ro.1, .int .i64 ro.2] := h3
        go_simp
        exact ⟨Ext.refl _, rfl⟩
    · intro fv W hF hs
      obtain ⟨-, -, -, -, -, -, -, -, -, -, -, -, -, -, -, -, -, -, -, -, -, h44, -⟩ := hs
      replace h44 : fv 44 = .agg #[.int .i64 x, .int .i64 y, .int .i64 (r0 + r2 - r1 - r3), .int .i64 ro.1, .int .i64 ro.2] := h44
      simp only [fin, List.filterMap]
      go_simp
      replace K1 := Lib.hid (K1.out.ext hF)
      have u0 : W.cell? ⟨w.heap.size + 1, 0, none⟩ = some (.int .i64 0) := K1.out.cell 0
      have f0 := K1.out.free 0
      have u1 : W.cell? ⟨w.heap.size + 1, 1, none⟩ = some (.int .i64 0) := K1.out.cell 1
      have f1 := K1.out.free 1
      have u2 : W.cell? ⟨w.heap.size + 1, 2, none⟩ = some (.int .i64 0) := K1.out.cell 2
      have f2 := K1.out.free 2
      have u3 : W.cell? ⟨w.heap.size + 1, 3, none⟩ = some (.int .i64 0) := K1.out.cell 3
      have f3 := K1.out.free 3
      have u4 : W.cell? ⟨w.heap.size + 1, 4, none⟩ = some (.int .i64 0) := K1.out.cell 4
      have f4 := K1.out.free 4
      go_wp2
      exact bodyPost_ret (v := .tuple #[.agg #[.int .i64 x, .int .i64 y, .int .i64 (r0 + r2 - r1 - r3), .int .i64 ro.1, .int .i64 ro.2], .int .i64 0]) (by simp [results, Tryz.f20, go_sem, u0, u1, u2, u3, u4]) rfl ⟨by rw [HV.out], Ext.set (Ext.set (Ext.set (Ext.set (Ext.set (X2.out.trans hF) (by dsimp only; omega) _) (by dsimp only; omega) _) (by dsimp only; omega) _) (by dsimp only; omega) _) (by dsimp only; omega) _⟩

end Go.Proofs.YtjdilmmpdlcimaaGreat
