/- Values of a curve: the reference. -/
import Derived.Test.YtmddnpagfgilcaaG3
import Derived.Lib.MinMax

namespace Go.Proofs.Ytmddnpagfgilcaa
open Go.RowKit Go.Shelf Go.Mem Go.RegInv
attribute [local go_sem] RelUpon_value RelUpon_skip RelUpon_enter BigFrame.eval_const BigFrame.eval_global BigFrame.eval_func


theorem lineV_alt (y z : Int × Int) (d : Int) : lineV y z d = lowT (y.2 * (z.1 - d) + z.2 * (d - y.1)) (z.1 - y.1) := by
  unfold lineV
  rw [show y.2 * (z.1 - y.1) + (z.2 - y.2) * (d - y.1) = y.2 * (z.1 - d) + z.2 * (d - y.1) by
    simp only [Int.mul_sub, Int.sub_mul]; omega]
theorem atV_at {ps : List (Int × Int)} {d : Int} {n j : Nat} (hj : j + 1 < n) (hlo : ∀ i, 1 ≤ i → i < j + 1 → (ps.getD i default).1 < d) (hd : d ≤ (ps.getD (j + 1) default).1) : atV ps d n = lineV (ps.getD j default) (ps.getD (j + 1) default) d := by
  have e : atJ ps d (n - 2) 1 = j + 1 := atJ_eq (by omega) (by omega) hlo hd
  unfold atV
  rw [e, Nat.add_sub_cancel]
theorem getD_some {ps : List (Int × Int)} {i : Nat} (h : i < ps.length) : ps[i]? = some (ps.getD i default) := by
  rw [List.getD_eq_getElem?_getD, List.getElem?_eq_getElem h]; rfl

set_option maxRecDepth 100000 in
set_option maxHeartbeats 4000000 in
theorem refAt_any {A : Option Addr} {n ca : Nat} {ps : List (Int × Int)} {d : Int} {w : World} (hn : ps.length = n) (hn2 : 2 ≤ n) (hnb : n ≤ 100) (hd : 0 ≤ d ∧ d ≤ 10000) (hp : ∀ (i : Nat) (p : Int × Int), ps[i]? = some p → 0 ≤ p.1 ∧ p.1 ≤ 10000 ∧ 0 ≤ p.2 ∧ p.2 ≤ 2000)
    (hu : ∀ i j, i < j → j < n → (ps.getD i default).1 < (ps.getD j default).1) (hin : (ps.getD 0 default).1 ≤ d ∧ d ≤ (ps.getD (n - 1) default).1) (hA : RowsAt 2 frEnc w A ps) :
    Calls Try.prog 21 #[.slice A n ca, .int .i64 d] w fun e w' => e = .returned (.agg #[.int .i64 (atV ps d n).1, .int .i64 (atV ps d n).2]) ∧ Ext w w' := by
  obtain ⟨d0, d1⟩ := hd
  obtain ⟨W0, hW0⟩ : ∃ W0, W0 = w.alloc (.cells #[.int .i64 0, .int .i64 0] 32) := ⟨_, rfl⟩
  have K0 := Lib.hid (show Blk W0 w.heap.size 32 #[.int .i64 0, .int .i64 0] by rw [hW0]; exact Blk.new _ _ _)
  have E0 := Lib.hid (show Ext w W0 by rw [hW0]; exact Ext.alloc _ _)
  have HA := Lib.hid hA
  have HN := Lib.hid hn
  have HP := Lib.hid hp
  have HU := Lib.hid hu
  have HI := Lib.hid hin
  clear hA hn hp hu hin
  go_enter Try.func21, Try.ntmps21
  go_wp2
  rw [← hW0]
  clear hW0
  go_wp2
  go_loopw [5] (fun i wr => ∃ k : Nat, k + 1 < n ∧ i = .int .i64 ((k : Int) + 1) ∧ Blk wr w.heap.size 32 #[.int .i64 0, .int .i64 0] ∧ Ext W0 wr ∧ ∀ j, 1 ≤ j → j < k + 1 → (ps.getD j default).1 < d) (fun i _ => n - (intOf i).toNat)
  case atStart => exact ⟨0, by omega, rfl, K0.out, Ext.refl _, fun j h1 h2 => by omega⟩
  case round =>
    obtain ⟨k, hk, rfl, hb, hx, hlo⟩ := hrel
    have X := Lib.hid hx
    have B := Lib.hid hb
    have LO := Lib.hid hlo
    clear hx hb hlo
    have hzk : ps[k + 1]? = some (ps.getD (k + 1) default) := getD_some (by have := HN.out; omega)
    have hyk : ps[k]? = some (ps.getD k default) := getD_some (by have := HN.out; omega)
    have HAT := Lib.hid (fun h => atV_at hk LO.out h)
    have hzy := HU.out k (k + 1) (by omega) (by omega)
    have hlast := Lib.hid (fun (h : k + 1 = n - 1) => show d ≤ (ps.getD (k + 1) default).1 by rw [h]; exact HI.out.2)
    have LS := Lib.hid (fun (h : (ps.getD (k + 1) default).1 < d) (j : Nat) (h1 : 1 ≤ j) (h2 : j < k + 1 + 1) => show (ps.getD j default).1 < d by
      rcases Nat.lt_or_ge j (k + 1) with h3 | h3
      · exact LO.out j h1 h3
      · rw [show j = k + 1 by omega]; exact h)
    have hyd : (ps.getD k default).1 ≤ d := by
      cases k with
      | zero => exact HI.out.1
      | succ k => have := LO.out (k + 1) (by omega) (by omega); omega
    obtain ⟨b, o, rfl, hb, hc⟩ := row_at (HA.out.ext (E0.out.trans X.out)) hzk
    obtain ⟨b2, o2, he, _, hc2⟩ := row_at (HA.out.ext (E0.out.trans X.out)) hyk
    obtain ⟨rfl, rfl⟩ : b = b2 ∧ o = o2 := by simpa using he
    have t2 := hc 0 _ rfl
    have t3 := hc 1 _ rfl
    have t4 := hc2 0 _ rfl
    have t5 := hc2 1 _ rfl
    simp only [Nat.add_zero] at t2 t4
    obtain ⟨z0, z1, z2, z3⟩ := HP.out (k + 1) _ hzk
    obtain ⟨y0, y1, y2, y3⟩ := HP.out k _ hyk
    have HBN := Lib.hid hb
    clear hc hc2 he hzk hyk hb LO
    generalize ps.getD (k + 1) default = z at *
    generalize ps.getD k default = y at *
    have hlt2 : (k : Int) + 1 < (n : Int) := by omega
    have hb1 : ((k : Int) + 1).toNat = k + 1 := by omega
    by_cases hlt : z.1 < d
    · have hk2 : k + 1 + 1 < n := by
        have := hlast.out
        rcases Nat.lt_or_ge (k + 1 + 1) n with h | h
        · exact h
        · have := this (by omega); omega
      have LS2 := Lib.hid (LS.out hlt)
      clear LS HAT hlast t3 t4 t5
      go_wp2
      go_roundw
      case rel => exact ⟨k + 1, hk2, by go_num, B.out, X.out, LS2.out⟩
      case measure => simp [intOf]; omega
    · have HL0 := Lib.hid (HAT.out (by omega))
      have HL := Lib.hid (show atV ps d n = lowT (y.2 * (z.1 - d) + z.2 * (d - y.1)) (z.1 - y.1) by rw [HL0.out, lineV_alt])
      have a0 : 0 ≤ y.2 * (z.1 - d) := Int.mul_nonneg (by omega) (by omega)
      have a1 : y.2 * (z.1 - d) ≤ 2000 * 10000 := Int.mul_le_mul (by omega) (by omega) (by omega) (by omega)
      have a2 : 0 ≤ z.2 * (d - y.1) := Int.mul_nonneg (by omega) (by omega)
      have a3 : z.2 * (d - y.1) ≤ 2000 * 10000 := Int.mul_le_mul (by omega) (by omega) (by omega) (by omega)
      have HLC := Lib.hid (fun W => lowest_any (y.2 * (z.1 - d) + z.2 * (d - y.1)) (z.1 - y.1) (by unfold Big; omega) (by omega) (by unfold Big; omega) W)
      clear LS HAT hlast HL0
      generalize lowT (y.2 * (z.1 - d) + z.2 * (d - y.1)) (z.1 - y.1) = lo at *
      have hb2 : ((k : Int) + 1 - 1).toNat = k := by omega
      have hb3 : (k : Int) < (n : Int) := by omega
      go_wp2
      go_region
      · obtain ⟨W5, hW5⟩ : ∃ W5, W5 = ((wr.alloc (.cells #[.int .i64 y.1, .int .i64 y.2] 141)).alloc (.cells #[.int .i64 z.1, .int .i64 z.2] 141)).drew := ⟨_, rfl⟩
        rw [← hW5]
        have hx5 : Ext wr W5 := by rw [hW5]; exact ((Ext.alloc _ _).trans (Ext.alloc _ _)).trans (Ext.drew _)
        have ky : Blk W5 wr.heap.size 141 #[.int .i64 y.1, .int .i64 y.2] := by rw [hW5]; exact ((Blk.new _ _ _).alloc _).ext (Ext.drew _)
        have kz : Blk W5 (wr.heap.size + 1) 141 #[.int .i64 z.1, .int .i64 z.2] := by rw [hW5]; exact (Blk.newAt _ _ _ (by simp)).ext (Ext.drew _)
        have l0 := ky.cell 0
        have l1 := ky.cell 1
        have l2 := kz.cell 0
        have l3 := kz.cell 1
        have B5 := Lib.hid (B.out.ext hx5)
        have X5 := Lib.hid (X.out.trans hx5)
        clear hW5 hx5 ky kz t2 t3 t4 t5
        have l0 : W5.cell? ⟨wr.heap.size, 0, none⟩ = some (.int .i64 y.1) := l0
        have l1 : W5.cell? ⟨wr.heap.size, 1, none⟩ = some (.int .i64 y.2) := l1
        have l2 : W5.cell? ⟨wr.heap.size + 1, 0, none⟩ = some (.int .i64 z.1) := l2
        have l3 : W5.cell? ⟨wr.heap.size + 1, 1, none⟩ = some (.int .i64 z.2) := l3
        go_wp2_with (go_at_call 74; refine (HLC.out _).mono ?_; rintro e W6 ⟨rfl, hx⟩; have X6 := Lib.hid (X5.out.trans hx); have B6 := Lib.hid (B5.out.ext hx); clear hx l0 l1 l2 l3; refine Hid.out ?_)
        refine Lib.hid ?_
        have f0 := B6.out.free 0
        have f1 := B6.out.free 1
        have c0 : W6.cell? ⟨w.heap.size, 0, none⟩ = some (.int .i64 0) := B6.out.cell 0
        have c1 : W6.cell? ⟨w.heap.size, 1, none⟩ = some (.int .i64 0) := B6.out.cell 1
        clear a0 a1 a2 a3
        go_wp2
        exact bodyPost_ret (v := .agg #[.int .i64 lo.1, .int .i64 lo.2]) (by simp [results, Try.f21, go_sem, c0, c1]) rfl ⟨by rw [HL.out], Ext.set (Ext.set (E0.out.trans X6.out) (by dsimp only; omega) _) (by dsimp only; omega) _⟩
      · obtain ⟨W5, hW5⟩ : ∃ W5, W5 = ((wr.alloc (.cells #[.int .i64 z.1, .int .i64 z.2] 141)).alloc (.cells #[.int .i64 y.1, .int .i64 y.2] 141)).drew := ⟨_, rfl⟩
        rw [← hW5]
        have hx5 : Ext wr W5 := by rw [hW5]; exact ((Ext.alloc _ _).trans (Ext.alloc _ _)).trans (Ext.drew _)
        have kz : Blk W5 wr.heap.size 141 #[.int .i64 z.1, .int .i64 z.2] := by rw [hW5]; exact ((Blk.new _ _ _).alloc _).ext (Ext.drew _)
        have ky : Blk W5 (wr.heap.size + 1) 141 #[.int .i64 y.1, .int .i64 y.2] := by rw [hW5]; exact (Blk.newAt _ _ _ (by simp)).ext (Ext.drew _)
        have l0 := ky.cell 0
        have l1 := ky.cell 1
        have l2 := kz.cell 0
        have l3 := kz.cell 1
        have B5 := Lib.hid (B.out.ext hx5)
        have X5 := Lib.hid (X.out.trans hx5)
        clear hW5 hx5 ky kz t2 t3 t4 t5
        have l0 : W5.cell? ⟨wr.heap.size + 1, 0, none⟩ = some (.int .i64 y.1) := l0
        have l1 : W5.cell? ⟨wr.heap.size + 1, 1, none⟩ = some (.int .i64 y.2) := l1
        have l2 : W5.cell? ⟨wr.heap.size, 0, none⟩ = some (.int .i64 z.1) := l2
        have l3 : W5.cell? ⟨wr.heap.size, 1, none⟩ = some (.int .i64 z.2) := l3
        go_wp2_with (go_at_call 74; refine (HLC.out _).mono ?_; rintro e W6 ⟨rfl, hx⟩; have X6 := Lib.hid (X5.out.trans hx); have B6 := Lib.hid (B5.out.ext hx); clear hx l0 l1 l2 l3; refine Hid.out ?_)
        refine Lib.hid ?_
        have f0 := B6.out.free 0
        have f1 := B6.out.free 1
        have c0 : W6.cell? ⟨w.heap.size, 0, none⟩ = some (.int .i64 0) := B6.out.cell 0
        have c1 : W6.cell? ⟨w.heap.size, 1, none⟩ = some (.int .i64 0) := B6.out.cell 1
        clear a0 a1 a2 a3
        go_wp2
        exact bodyPost_ret (v := .agg #[.int .i64 lo.1, .int .i64 lo.2]) (by simp [results, Try.f21, go_sem, c0, c1]) rfl ⟨by rw [HL.out], Ext.set (Ext.set (E0.out.trans X6.out) (by dsimp only; omega) _) (by dsimp only; omega) _⟩

end Go.Proofs.Ytmddnpagfgilcaa
