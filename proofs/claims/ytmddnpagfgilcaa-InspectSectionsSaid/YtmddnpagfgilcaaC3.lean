/- Pairs: FitOf. -/
import Derived.Test.YtmddnpagfgilcaaC2
import Derived.Lib.MinMax

namespace Go.Proofs.Ytmddnpagfgilcaa
open Go.RowKit Go.Shelf Go.Mem Go.RegInv
attribute [local go_sem] RelUpon_value RelUpon_skip RelUpon_enter BigFrame.eval_const BigFrame.eval_global BigFrame.eval_func


def zeroE (xs : List Pr) (n : Nat) : Int := errIf ((winK xs n).1 == (winK xs n).2) 11
theorem zeroError_any {A : Option Addr} {n ca : Nat} {xs : List Pr} {w : World} (hn : xs.length = n) (hA : RowsAt 2 Pr.enc w A xs) (h0 : 0 < n) : Calls Try.prog 113 #[.slice A n ca] w fun e w' => e = .returned (.int .i64 (zeroE xs n)) ∧ Ext w w' := by
  have HW := Lib.hid (windowOf_any (ca := ca) hn hA h0)
  unfold zeroE
  generalize winK xs n = z at *
  clear hn hA
  go_enter Try.func113, Try.ntmps113
  go_wp2_with (first
    | (go_at_call 135; refine HW.out.mono ?_; rintro e W1 ⟨rfl, hx⟩; have X1 := Lib.hid hx; clear hx)
    | (go_at_call 81; refine (errorIf_any _ _ _).mono ?_; rintro e w' ⟨rfl, rfl⟩))
  go_ret
  exact ⟨rfl, X1.out.trans (Ext.alloc _ _)⟩
set_option maxRecDepth 100000 in
set_option maxHeartbeats 1000000 in
theorem fitOf_bad {A : Option Addr} {n ca : Nat} {xs : List Pr} {w : World} (hn : xs.length = n) (hA : RowsAt 2 Pr.enc w A xs) (hz : pairsE xs ≠ 0) :
    Calls Try.prog 72 #[.slice A n ca] w fun e w' => e = .returned (.tuple #[.agg #[.int .i64 0, .int .i64 0, .int .i64 0, .int .i64 0, .int .i64 0, .int .i64 0, .int .i64 0, .int .i64 0], .int .i64 (pairsE xs)]) ∧ Ext w w' := by
  have HPE := Lib.hid (fun W (e : Ext w W) => pairsError_any (ca := ca) hn (hA.ext e))
  have hz2 : (pairsE xs != 0) = true := by simp [hz]
  generalize pairsE xs = z at *
  clear hn hA hz
  obtain ⟨W0, hW0⟩ : ∃ W0, W0 = w.alloc (.cells #[.int .i64 0, .int .i64 0, .int .i64 0, .int .i64 0, .int .i64 0, .int .i64 0, .int .i64 0, .int .i64 0] 118) := ⟨_, rfl⟩
  have K0 := Lib.hid (show Blk W0 w.heap.size 118 #[.int .i64 0, .int .i64 0, .int .i64 0, .int .i64 0, .int .i64 0, .int .i64 0, .int .i64 0, .int .i64 0] by rw [hW0]; exact Blk.new _ _ _)
  have E0 := Lib.hid (show Ext w W0 by rw [hW0]; exact Ext.alloc _ _)
  go_enter Try.func72, Try.ntmps72
  go_wp2_with (fail)
  rw [← hW0]
  clear hW0
  go_wp2_with (go_at_call 112; refine (HPE.out _ E0.out).mono ?_; rintro e W1 ⟨rfl, hx⟩; have X1 := Lib.hid (E0.out.trans hx); have B := Lib.hid (K0.out.ext hx); clear hx; refine Hid.out ?_)
  refine Lib.hid ?_
  clear K0 E0
  have f0 := B.out.free 0
  have c0 : W1.cell? ⟨w.heap.size, 0, none⟩ = some (.int .i64 0) := B.out.cell 0
  have f1 := B.out.free 1
  have c1 : W1.cell? ⟨w.heap.size, 1, none⟩ = some (.int .i64 0) := B.out.cell 1
  have f2 := B.out.free 2
  have c2 : W1.cell? ⟨w.heap.size, 2, none⟩ = some (.int .i64 0) := B.out.cell 2
  have f3 := B.out.free 3
  have c3 : W1.cell? ⟨w.heap.size, 3, none⟩ = some (.int .i64 0) := B.out.cell 3
  have f4 := B.out.free 4
  have c4 : W1.cell? ⟨w.heap.size, 4, none⟩ = some (.int .i64 0) := B.out.cell 4
  have f5 := B.out.free 5
  have c5 : W1.cell? ⟨w.heap.size, 5, none⟩ = some (.int .i64 0) := B.out.cell 5
  have f6 := B.out.free 6
  have c6 : W1.cell? ⟨w.heap.size, 6, none⟩ = some (.int .i64 0) := B.out.cell 6
  have f7 := B.out.free 7
  have c7 : W1.cell? ⟨w.heap.size, 7, none⟩ = some (.int .i64 0) := B.out.cell 7
  clear B
  go_wp2
  exact bodyPost_ret (v := .tuple #[.agg #[.int .i64 0, .int .i64 0, .int .i64 0, .int .i64 0, .int .i64 0, .int .i64 0, .int .i64 0, .int .i64 0], .int .i64 z]) (by simp [results, Try.f72, go_sem, c0, c1, c2, c3, c4, c5, c6, c7]) rfl ⟨rfl, Ext.set (Ext.set (Ext.set (Ext.set (Ext.set (Ext.set (Ext.set (Ext.set (X1.out) (by dsimp only; omega) _) (by dsimp only; omega) _) (by dsimp only; omega) _) (by dsimp only; omega) _) (by dsimp only; omega) _) (by dsimp only; omega) _) (by dsimp only; omega) _) (by dsimp only; omega) _⟩
set_option maxRecDepth 100000 in
set_option maxHeartbeats 1000000 in
theorem fitOf_zero {A : Option Addr} {n ca : Nat} {xs : List Pr} {w : World} (hn : xs.length = n) (hA : RowsAt 2 Pr.enc w A xs) (hz : pairsE xs = 0) (h0 : 0 < n) (hw : zeroE xs n = 11) :
    Calls Try.prog 72 #[.slice A n ca] w fun e w' => e = .returned (.tuple #[.agg #[.int .i64 0, .int .i64 0, .int .i64 0, .int .i64 0, .int .i64 0, .int .i64 0, .int .i64 0, .int .i64 0], .int .i64 11]) ∧ Ext w w' := by
  have HPE := Lib.hid (fun W (e : Ext w W) => pairsError_any (ca := ca) hn (hA.ext e))
  have HZE := Lib.hid (fun W (e : Ext w W) => zeroError_any (ca := ca) hn (hA.ext e) h0)
  rw [hz] at HPE
  rw [hw] at HZE
  clear hn hA hz hw
  obtain ⟨W0, hW0⟩ : ∃ W0, W0 = w.alloc (.cells #[.int .i64 0, .int .i64 0, .int .i64 0, .int .i64 0, .int .i64 0, .int .i64 0, .int .i64 0, .int .i64 0] 118) := ⟨_, rfl⟩
  have K0 := Lib.hid (show Blk W0 w.heap.size 118 #[.int .i64 0, .int .i64 0, .int .i64 0, .int .i64 0, .int .i64 0, .int .i64 0, .int .i64 0, .int .i64 0] by rw [hW0]; exact Blk.new _ _ _)
  have E0 := Lib.hid (show Ext w W0 by rw [hW0]; exact Ext.alloc _ _)
  go_enter Try.func72, Try.ntmps72
  go_wp2_with (fail)
  rw [← hW0]
  clear hW0
  go_wp2_with (go_at_call 112; refine (HPE.out _ E0.out).mono ?_; rintro e W1 ⟨rfl, hx⟩; have X1 := Lib.hid (E0.out.trans hx); have B := Lib.hid (K0.out.ext hx); clear hx; refine Hid.out ?_)
  refine Lib.hid ?_
  clear K0 E0
  go_wp2_with (go_at_call 113; refine (HZE.out _ X1.out).mono ?_; rintro e W2 ⟨rfl, hx⟩; have X2 := Lib.hid (X1.out.trans hx); have B := Lib.hid (B.out.ext hx); clear hx; refine Hid.out ?_)
  refine Lib.hid ?_
  have f0 := B.out.free 0
  have c0 : W2.cell? ⟨w.heap.size, 0, none⟩ = some (.int .i64 0) := B.out.cell 0
  have f1 := B.out.free 1
  have c1 : W2.cell? ⟨w.heap.size, 1, none⟩ = some (.int .i64 0) := B.out.cell 1
  have f2 := B.out.free 2
  have c2 : W2.cell? ⟨w.heap.size, 2, none⟩ = some (.int .i64 0) := B.out.cell 2
  have f3 := B.out.free 3
  have c3 : W2.cell? ⟨w.heap.size, 3, none⟩ = some (.int .i64 0) := B.out.cell 3
  have f4 := B.out.free 4
  have c4 : W2.cell? ⟨w.heap.size, 4, none⟩ = some (.int .i64 0) := B.out.cell 4
  have f5 := B.out.free 5
  have c5 : W2.cell? ⟨w.heap.size, 5, none⟩ = some (.int .i64 0) := B.out.cell 5
  have f6 := B.out.free 6
  have c6 : W2.cell? ⟨w.heap.size, 6, none⟩ = some (.int .i64 0) := B.out.cell 6
  have f7 := B.out.free 7
  have c7 : W2.cell? ⟨w.heap.size, 7, none⟩ = some (.int .i64 0) := B.out.cell 7
  clear B
  go_wp2
  exact bodyPost_ret (v := .tuple #[.agg #[.int .i64 0, .int .i64 0, .int .i64 0, .int .i64 0, .int .i64 0, .int .i64 0, .int .i64 0, .int .i64 0], .int .i64 11]) (by simp [results, Try.f72, go_sem, c0, c1, c2, c3, c4, c5, c6, c7]) rfl ⟨rfl, Ext.set (Ext.set (Ext.set (Ext.set (Ext.set (Ext.set (Ext.set (Ext.set (X2.out) (by dsimp only; omega) _) (by dsimp only; omega) _) (by dsimp only; omega) _) (by dsimp only; omega) _) (by dsimp only; omega) _) (by dsimp only; omega) _) (by dsimp only; omega) _) (by dsimp only; omega) _⟩
theorem lowT_bd2 {a b A B : Int} (ha : -A ≤ a ∧ a ≤ A) (hb : 0 < b ∧ b ≤ B) : (-A ≤ (lowT a b).1 ∧ (lowT a b).1 ≤ A) ∧ 1 ≤ (lowT a b).2 ∧ (lowT a b).2 ≤ B := by
  have h1 := Int.natAbs_tdiv_le_natAbs a (Nat.gcd a.natAbs b.natAbs : Int)
  have h2 := Int.natAbs_tdiv_le_natAbs b (Nat.gcd a.natAbs b.natAbs : Int)
  have h3 : 0 < Nat.gcd a.natAbs b.natAbs := Nat.gcd_pos_of_pos_right _ (by omega)
  have h4 : ((Nat.gcd a.natAbs b.natAbs : Nat) : Int) ∣ b := Int.ofNat_dvd_left.2 (Nat.gcd_dvd_right _ _)
  have h5 : b.tdiv (Nat.gcd a.natAbs b.natAbs : Int) ≠ 0 := by
    intro h
    have := Int.tdiv_mul_cancel h4
    rw [h] at this
    omega
  have h6 : 0 ≤ b.tdiv (Nat.gcd a.natAbs b.natAbs : Int) := Int.tdiv_nonneg (by omega) (by omega)
  unfold lowT
  dsimp only
  omega
theorem pairs_ok {xs : List Pr} (h : pairsE xs = 0) : 2 ≤ xs.length ∧ xs.length ≤ 10 ∧ ∀ i, PrOK (xs.getD i default) := by
  unfold pairsE at h
  by_cases hz : countE xs.length 2 10 = 0
  · rw [if_neg (by simpa using hz)] at h
    obtain ⟨c1, c2⟩ := count_ok hz
    refine ⟨by omega, by omega, fun i => ?_⟩
    rcases Nat.lt_or_ge i xs.length with hi | hi
    · have e := firstAt_zero h i (by omega) (by omega)
      unfold prAt prE at e
      have e1 := rangeE_zeros e
      exact ⟨e1 _ (by simp), e1 _ (by simp)⟩
    · rw [List.getD_eq_getElem?_getD, List.getElem?_eq_none hi]
      exact ⟨⟨by decide, by decide⟩, by decide, by decide⟩
  · rw [if_pos hz] at h
    exact absurd h hz
set_option maxRecDepth 100000 in
set_option maxHeartbeats 1000000 in
theorem fitOf_ok {A : Option Addr} {n ca : Nat} {xs : List Pr} {w : World} (hn : xs.length = n) (hA : RowsAt 2 Pr.enc w A xs) {sl of win lo : Int × Int} (hz : pairsE xs = 0) (hw : zeroE xs n = 0) (hd : 0 < denV n (sumK xs n)) (e1 : slopeV n (sumK xs n) = sl) (e2 : offsV n (sumK xs n) = of) (e3 : winK xs n = win) (e4 : lowT (mostK sl.1 sl.2 of.1 of.2 xs n) (sl.2 * of.2) = lo) :
    Calls Try.prog 72 #[.slice A n ca] w fun e w' => e = .returned (.tuple #[.agg #[.int .i64 sl.1, .int .i64 sl.2, .int .i64 of.1, .int .i64 of.2, .int .i64 win.1, .int .i64 win.2, .int .i64 lo.1, .int .i64 lo.2], .int .i64 0]) ∧ Ext w w' := by
  obtain ⟨m2, m10, hok⟩ := pairs_ok hz
  rw [hn] at m2 m10
  have h0 : 0 < n := by omega
  have HPE := Lib.hid (fun W (e : Ext w W) => pairsError_any (ca := ca) hn (hA.ext e))
  have HZE := Lib.hid (fun W (e : Ext w W) => zeroError_any (ca := ca) hn (hA.ext e) h0)
  rw [hz] at HPE
  rw [hw] at HZE
  have sb := sumK_bd hok n
  have bx : -1000 ≤ (sumK xs n).x ∧ (sumK xs n).x ≤ 1000 := by omega
  have by' : -1000 ≤ (sumK xs n).y ∧ (sumK xs n).y ≤ 1000 := by omega
  have bxx : -100000 ≤ (sumK xs n).xx ∧ (sumK xs n).xx ≤ 100000 := by omega
  have bxy : -100000 ≤ (sumK xs n).xy ∧ (sumK xs n).xy ≤ 100000 := by omega
  have bn : -10 ≤ (n : Int) ∧ (n : Int) ≤ 10 := by omega
  have HSU := Lib.hid (fun W (e : Ext w W) => sumsOf_any (ca := ca) hn (hA.ext e) (by omega) hok)
  have HLI := Lib.hid (fun W => show Calls Try.prog 115 #[.agg #[.int .i64 (n : Int), .int .i64 (sumK xs n).x, .int .i64 (sumK xs n).y, .int .i64 (sumK xs n).xx, .int .i64 (sumK xs n).xy]] W fun e w' => e = .returned (.tuple #[.agg #[.int .i64 sl.1, .int .i64 sl.2], .agg #[.int .i64 of.1, .int .i64 of.2]]) ∧ Ext W w' from by
    rw [← e1, ← e2]; exact line_any W bn bx by' bxx bxy hd)
  have m1 := mul_bd bn bxx
  have m2' := mul_bd bx bx
  have m3 := mul_bd bn bxy
  have m4 := mul_bd bx by'
  have m5 := mul_bd bxx by'
  have m6 := mul_bd bx bxy
  have hden : denV n (sumK xs n) ≤ 1000000 := by
    have : 0 ≤ (sumK xs n).x * (sumK xs n).x := by
      rcases Int.le_total 0 (sumK xs n).x with h | h
      · exact Int.mul_nonneg h h
      · exact Int.mul_nonneg_of_nonpos_of_nonpos h h
    unfold denV; omega
  have q1 := lowT_bd2 (a := n * (sumK xs n).xy - (sumK xs n).x * (sumK xs n).y) (A := 2000000) ⟨by omega, by omega⟩ ⟨hd, hden⟩
  have q2 := lowT_bd2 (a := (sumK xs n).xx * (sumK xs n).y - (sumK xs n).x * (sumK xs n).xy) (A := 200000000) ⟨by omega, by omega⟩ ⟨hd, hden⟩
  rw [show lowT (n * (sumK xs n).xy - (sumK xs n).x * (sumK xs n).y) (denV n (sumK xs n)) = sl from e1] at q1
  rw [show lowT ((sumK xs n).xx * (sumK xs n).y - (sumK xs n).x * (sumK xs n).xy) (denV n (sumK xs n)) = of from e2] at q2
  have HFI := Lib.hid (fun W (e : Ext w W) => fitOn_any (ca := ca) sl.1 sl.2 of.1 of.2 hn (hA.ext e) h0 m10 hok ⟨by omega, by omega⟩ ⟨by omega, by omega⟩ ⟨by omega, by omega⟩ ⟨by omega, by omega⟩ e3 e4)
  generalize sumK xs n = s at *
  clear hn hA hz hw hok sb bx by' bxx bxy bn m1 m2' m3 m4 m5 m6 hden q1 q2 e1 e2 e3 e4 hd
  obtain ⟨W0, hW0⟩ : ∃ W0, W0 = w.alloc (.cells #[.int .i64 0, .int .i64 0, .int .i64 0, .int .i64 0, .int .i64 0, .int .i64 0, .int .i64 0, .int .i64 0] 118) := ⟨_, rfl⟩
  have K0 := Lib.hid (show Blk W0 w.heap.size 118 #[.int .i64 0, .int .i64 0, .int .i64 0, .int .i64 0, .int .i64 0, .int .i64 0, .int .i64 0, .int .i64 0] by rw [hW0]; exact Blk.new _ _ _)
  have E0 := Lib.hid (show Ext w W0 by rw [hW0]; exact Ext.alloc _ _)
  go_enter Try.func72, Try.ntmps72
  go_wp2_with (fail)
  rw [← hW0]
  clear hW0
  go_wp2_with (go_at_call 112; refine (HPE.out _ E0.out).mono ?_; rintro e W1 ⟨rfl, hx⟩; have X1 := Lib.hid (E0.out.trans hx); have B := Lib.hid (K0.out.ext hx); clear hx; refine Hid.out ?_)
  refine Lib.hid ?_
  clear K0 E0
  go_wp2_with (go_at_call 113; refine (HZE.out _ X1.out).mono ?_; rintro e W2 ⟨rfl, hx⟩; have X2 := Lib.hid (X1.out.trans hx); have B := Lib.hid (B.out.ext hx); clear hx; refine Hid.out ?_)
  refine Lib.hid ?_
  go_wp2_with (go_at_call 114; refine (HSU.out _ X2.out).mono ?_; rintro e W3 ⟨rfl, hx⟩; have X3 := Lib.hid (X2.out.trans hx); have B := Lib.hid (B.out.ext hx); clear hx; refine Hid.out ?_)
  refine Lib.hid ?_
  go_wp2_with (go_at_call 115; refine (HLI.out _).mono ?_; rintro e W4 ⟨rfl, hx⟩; have X4 := Lib.hid (X3.out.trans hx); have B := Lib.hid (B.out.ext hx); clear hx; refine Hid.out ?_)
  refine Lib.hid ?_
  go_wp2_with (go_at_call 116; refine (HFI.out _ (X4.out.trans ((Ext.alloc _ _).trans (Ext.alloc _ _)))).mono ?_; rintro e W6 ⟨rfl, hx⟩; have X6 := Lib.hid (X4.out.trans (((Ext.alloc _ _).trans (Ext.alloc _ _)).trans hx)); have B := Lib.hid (((B.out.alloc _).alloc _).ext hx); clear hx; refine Hid.out ?_)
  refine Lib.hid ?_
  have f0 := B.out.free 0
  have c0 : W6.cell? ⟨w.heap.size, 0, none⟩ = some (.int .i64 0) := B.out.cell 0
  have f1 := B.out.free 1
  have c1 : W6.cell? ⟨w.heap.size, 1, none⟩ = some (.int .i64 0) := B.out.cell 1
  have f2 := B.out.free 2
  have c2 : W6.cell? ⟨w.heap.size, 2, none⟩ = some (.int .i64 0) := B.out.cell 2
  have f3 := B.out.free 3
  have c3 : W6.cell? ⟨w.heap.size, 3, none⟩ = some (.int .i64 0) := B.out.cell 3
  have f4 := B.out.free 4
  have c4 : W6.cell? ⟨w.heap.size, 4, none⟩ = some (.int .i64 0) := B.out.cell 4
  have f5 := B.out.free 5
  have c5 : W6.cell? ⟨w.heap.size, 5, none⟩ = some (.int .i64 0) := B.out.cell 5
  have f6 := B.out.free 6
  have c6 : W6.cell? ⟨w.heap.size, 6, none⟩ = some (.int .i64 0) := B.out.cell 6
  have f7 := B.out.free 7
  have c7 : W6.cell? ⟨w.heap.size, 7, none⟩ = some (.int .i64 0) := B.out.cell 7
  clear B
  go_wp2
  exact bodyPost_ret (v := .tuple #[.agg #[.int .i64 sl.1, .int .i64 sl.2, .int .i64 of.1, .int .i64 of.2, .int .i64 win.1, .int .i64 win.2, .int .i64 lo.1, .int .i64 lo.2], .int .i64 0]) (by simp [results, Try.f72, go_sem, c0, c1, c2, c3, c4, c5, c6, c7]) rfl ⟨rfl, Ext.set (Ext.set (Ext.set (Ext.set (Ext.set (Ext.set (Ext.set (Ext.set (X6.out) (by dsimp only; omega) _) (by dsimp only; omega) _) (by dsimp only; omega) _) (by dsimp only; omega) _) (by dsimp only; omega) _) (by dsimp only; omega) _) (by dsimp only; omega) _) (by dsimp only; omega) _⟩

end Go.Proofs.Ytmddnpagfgilcaa
