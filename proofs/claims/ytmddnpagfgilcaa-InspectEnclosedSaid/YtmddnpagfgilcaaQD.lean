/- Part 4 of what the row builds on. -/
import Derived.Test.YtmddnpagfgilcaaQC


namespace Go.Proofs.Ytmddnpagfgilcaa
open Go.RowKit Go.Shelf Go.Mem Go.RegInv
attribute [local go_sem] RelUpon_value RelUpon_skip RelUpon_enter BigFrame.eval_const BigFrame.eval_global BigFrame.eval_func

/-- The distance of a pair from a line, times both denominators. -/
def offD (sn sd on od : Int) (x : Pr) : Int := (x.v * sd - x.s * sn) * od - on * sd
def mostK (sn sd on od : Int) (xs : List Pr) : Nat → Int
  | 0 => 0
  | k + 1 => max (max (mostK sn sd on od xs k) (offD sn sd on od (xs.getD k default))) (-offD sn sd on od (xs.getD k default))
set_option maxRecDepth 100000 in
set_option maxHeartbeats 1000000 in
theorem fitOn_any {A : Option Addr} {n ca : Nat} {xs : List Pr} {w : World} (sn sd on od : Int) {win lo : Int × Int} (hn : xs.length = n) (hA : RowsAt 2 Pr.enc w A xs) (h0 : 0 < n) (h10 : n ≤ 10) (hok : ∀ i, PrOK (xs.getD i default))
    (h1 : -10000000 ≤ sn ∧ sn ≤ 10000000) (h2 : 1 ≤ sd ∧ sd ≤ 1000000) (h3 : -1000000000 ≤ on ∧ on ≤ 1000000000) (h4 : 1 ≤ od ∧ od ≤ 1000000) (hw : winK xs n = win) (hl : lowT (mostK sn sd on od xs n) (sd * od) = lo) :
    Calls Try.prog 116 #[.slice A n ca, .agg #[.int .i64 sn, .int .i64 sd], .agg #[.int .i64 on, .int .i64 od]] w fun e w' => e = .returned (.agg #[.int .i64 sn, .int .i64 sd, .int .i64 on, .int .i64 od, .int .i64 win.1, .int .i64 win.2, .int .i64 lo.1, .int .i64 lo.2]) ∧ Ext w w' := by
  have G := Lib.hid (fun i (h : i < n) => show xs[i]? = some (xs.getD i default) by rw [List.getD_eq_getElem?_getD, List.getElem?_eq_getElem (by omega)]; rfl)
  have HO := Lib.hid hok
  have HA := Lib.hid hA
  have HWI := Lib.hid (fun W (e : Ext w W) => show Calls Try.prog 135 #[.slice A n ca] W fun e w' => e = .returned (.agg #[.int .i64 win.1, .int .i64 win.2]) ∧ Ext W w' from by rw [← hw]; exact windowOf_any hn (hA.ext e) h0)
  have h2' : -1000000 ≤ sd ∧ sd ≤ 1000000 := ⟨by omega, by omega⟩
  have h4' : -1000000 ≤ od ∧ od ≤ 1000000 := ⟨by omega, by omega⟩
  have s0 : 0 < sd * od := Int.mul_pos (by omega) (by omega)
  obtain ⟨s1, s2⟩ := mul_bd h2' h4'
  obtain ⟨t1, t2⟩ := mul_bd h3 h2'
  have HDV := Lib.hid (fun (x : Pr) (h : PrOK x) => show (-(100 * 1000000) ≤ x.v * sd ∧ x.v * sd ≤ 100 * 1000000) ∧ (-(100 * 10000000) ≤ x.s * sn ∧ x.s * sn ≤ 100 * 10000000) ∧ (-(1100000000 * 1000000) ≤ (x.v * sd - x.s * sn) * od ∧ (x.v * sd - x.s * sn) * od ≤ 1100000000 * 1000000) from by
    obtain ⟨q1, q2⟩ := h
    have a := mul_bd q2 h2'
    have b := mul_bd q1 h1
    exact ⟨a, b, mul_bd ⟨by omega, by omega⟩ h4'⟩)
  have HLO := Lib.hid (fun (m : Int) (hm : mostK sn sd on od xs n = m) (m0 : 0 ≤ m) (m1 : m ≤ 2100000000000000) W => show Calls Try.prog 123 #[.int .i64 m, .int .i64 (sd * od)] W fun e w' => e = .returned (.agg #[.int .i64 lo.1, .int .i64 lo.2]) ∧ Ext W w' from by
    rw [← hl, hm]
    exact lowestP_any m (sd * od) (by unfold Big; omega) s0 (by unfold Big; omega) W)
  obtain ⟨W0, hW0⟩ : ∃ W0, W0 = ((w.alloc (.cells #[.int .i64 sn, .int .i64 sd] 32)).alloc (.cells #[.int .i64 on, .int .i64 od] 32)).alloc (.cells #[.int .i64 0, .int .i64 0, .int .i64 0, .int .i64 0, .int .i64 0, .int .i64 0, .int .i64 0, .int .i64 0] 118) := ⟨_, rfl⟩
  have K0 := Lib.hid (show Blk W0 w.heap.size 32 #[.int .i64 sn, .int .i64 sd] by rw [hW0]; exact ((Blk.new _ _ _).alloc _).alloc _)
  have K1 := Lib.hid (show Blk W0 (w.heap.size + 1) 32 #[.int .i64 on, .int .i64 od] by rw [hW0]; exact (Blk.newAt _ _ _ (by simp)).alloc _)
  have K2 := Lib.hid (show Blk W0 (w.heap.size + 1 + 1) 118 #[.int .i64 0, .int .i64 0, .int .i64 0, .int .i64 0, .int .i64 0, .int .i64 0, .int .i64 0, .int .i64 0] by rw [hW0]; exact Blk.newAt _ _ _ (by simp))
  have E0 := Lib.hid (show Ext w W0 by rw [hW0]; exact ((Ext.alloc _ _).trans (Ext.alloc _ _)).trans (Ext.alloc _ _))
  obtain ⟨sn0, sn1⟩ := h1
  obtain ⟨sd0, sd1⟩ := h2
  obtain ⟨on0, on1⟩ := h3
  obtain ⟨od0, od1⟩ := h4
  clear hn hA hok hw hl h2' h4'
  go_enter Try.func116, Try.ntmps116
  go_wp2
  rw [← hW0]
  clear hW0
  go_wp2
  go_loopw [7, 13] (fun u i wr => ∃ (k : Nat) (m : Int), k ≤ n ∧ i = .int .i64 k ∧ u = .int .i64 m ∧ 0 ≤ m ∧ m ≤ 2100000000000000 ∧ mostK sn sd on od xs k = m ∧ Ext W0 wr) (fun _ i _ => n - (intOf i).toNat)
  case atStart => exact ⟨0, 0, Nat.zero_le _, rfl, rfl, by omega, by omega, rfl, Ext.refl _⟩
  case round =>
    obtain ⟨k, m, hk, rfl, rfl, m0, m1, hm, hx⟩ := hrel
    have X := Lib.hid hx
    have HM := Lib.hid hm
    clear hx hm
    by_cases hlt : k < n
    · have hxk := G.out k hlt
      obtain ⟨⟨a1, a2⟩, ⟨a3, a4⟩, a5, a6⟩ := HDV.out _ (HO.out k)
      obtain ⟨b, o, rfl, hb2, hc⟩ := row_at (HA.out.ext (E0.out.trans X.out)) hxk
      have p0 := hc 0 _ rfl
      have p1 := hc 1 _ rfl
      simp only [Nat.add_zero] at p0
      have HK := Lib.hid (show mostK sn sd on od xs (k + 1) = max (max (mostK sn sd on od xs k) ((((xs.getD k default).v * sd - (xs.getD k default).s * sn) * od - on * sd))) (-((((xs.getD k default).v * sd - (xs.getD k default).s * sn) * od - on * sd))) from rfl)
      obtain ⟨v0, v1⟩ := (HO.out k).2
      obtain ⟨u0, u1⟩ := (HO.out k).1
      generalize xs.getD k default = x at *
      have hki : (k : Int) < (n : Int) := by omega
      clear hc hxk HDV HLO HWI
      have c0 : ∀ o, (wr.alloc o).cell? ⟨w.heap.size, 0, none⟩ = some (.int .i64 sn) := fun o => ((K0.out.ext X.out).alloc o).cell 0
      have c1 : ∀ o, (wr.alloc o).cell? ⟨w.heap.size, 1, none⟩ = some (.int .i64 sd) := fun o => ((K0.out.ext X.out).alloc o).cell 1
      have c2 : ∀ o, (wr.alloc o).cell? ⟨w.heap.size + 1, 0, none⟩ = some (.int .i64 on) := fun o => ((K1.out.ext X.out).alloc o).cell 0
      have c3 : ∀ o, (wr.alloc o).cell? ⟨w.heap.size + 1, 1, none⟩ = some (.int .i64 od) := fun o => ((K1.out.ext X.out).alloc o).cell 1
      go_wp2
      go_roundw
      case rel => exact ⟨k + 1, _, by omega, by go_num, rfl, by omega, by omega, by rw [HK.out, HM.out]; generalize (x.v * sd - x.s * sn) * od - on * sd = d; (repeat' split) <;> omega, X.out.trans (Ext.alloc _ _)⟩
      case measure => simp [intOf]; omega
    · have hkn : k = n := by omega
      have HMN := Lib.hid (show mostK sn sd on od xs n = m by rw [← hkn]; exact HM.out)
      have HLO := Lib.hid (HLO.out m HMN.out m0 m1)
      have hkn2 : ¬ (k : Int) < (n : Int) := by omega
      clear hkn HM HDV
      have y0 : wr.cell? ⟨w.heap.size, 0, none⟩ = some (.int .i64 (sn)) := (K0.out.ext X.out).cell 0
      have y1 : wr.cell? ⟨w.heap.size, 1, none⟩ = some (.int .i64 (sd)) := (K0.out.ext X.out).cell 1
      have y2 : wr.cell? ⟨w.heap.size + 1, 0, none⟩ = some (.int .i64 (on)) := (K1.out.ext X.out).cell 0
      have y3 : wr.cell? ⟨w.heap.size + 1, 1, none⟩ = some (.int .i64 (od)) := (K1.out.ext X.out).cell 1
      go_wp2
      refine wp_region_part 12 [some 43, some 44, some 45, some 46, some 47, some 48, some 49, some 50, some 51, some 52, some 53, some 54] [[4], [5], [0], [45], [7], [4], [48], [5], [50], [49, 51], [47, 52], [43, 44, 46, 53]]
        [Is (.agg #[.int .i64 (sn), .int .i64 (sd)]), Is (.agg #[.int .i64 (on), .int .i64 (od)]), Is (.slice A n ca), Is (.agg #[.int .i64 win.1, .int .i64 win.2]), Is (.int .i64 (m)), Is (.pointer (some ⟨w.heap.size, 1, none⟩)), Is (.int .i64 (sd)), Is (.pointer (some ⟨w.heap.size + 1, 1, none⟩)), Is (.int .i64 (od)), Is (.int .i64 (sd * od)), Is (.agg #[.int .i64 lo.1, .int .i64 lo.2]), Is (.agg #[.int .i64 sn, .int .i64 sd, .int .i64 on, .int .i64 od, .int .i64 win.1, .int .i64 win.2, .int .i64 lo.1, .int .i64 lo.2])]
        (by kernel_rfl) (by kernel_rfl) (by kernel_rfl) (by kernel_rfl) (by kernel_rfl) (by kernel_rfl) (by kernel_rfl) Ext (fun W => Ext wr W)
        (fun W _ => Ext.refl W) (fun W W' h k => h.trans k) ?_ (Ext.drew _) ?_ ?_
      · repeat (refine ⟨fun _ _ _ _ k h => (by first | exact h | exact (IntsAt.ext h k)), ?_⟩)
        exact trivial
      · refine ⟨?_, ?_, ?_, ?_, ?_, ?_, ?_, ?_, ?_, ?_, ?_, ?_, trivial⟩
        all_goals intro ρ W ⟨kc, kg, kf⟩ hF hs
        · obtain ⟨h0, -⟩ := hs
          replace h0 : ρ (.tmp 4) = .pointer (some ⟨w.heap.size, 0, none⟩) := h0
          have hc0 : W.cell? ⟨w.heap.size, 0, none⟩ = some (.int .i64 (sn)) := hF.cell (by assumption)
          have hc1 : W.cell? ⟨w.heap.size, 1, none⟩ = some (.int .i64 (sd)) := hF.cell (by assumption)
          go_simp
          exact ⟨Ext.refl _, rfl⟩
        · obtain ⟨h0, -⟩ := hs
          replace h0 : ρ (.tmp 5) = .pointer (some ⟨w.heap.size + 1, 0, none⟩) := h0
          have hc0 : W.cell? ⟨w.heap.size + 1, 0, none⟩ = some (.int .i64 (on)) := hF.cell (by assumption)
          have hc1 : W.cell? ⟨w.heap.size + 1, 1, none⟩ = some (.int .i64 (od)) := hF.cell (by assumption)
          go_simp
          exact ⟨Ext.refl _, rfl⟩
        · obtain ⟨h0, -⟩ := hs
          replace h0 : ρ (.tmp 0) = .slice A n ca := h0
          go_simp
          exact ⟨Ext.refl _, rfl⟩
        · obtain ⟨h0, -⟩ := hs
          replace h0 : ρ (.tmp 45) = .slice A n ca := h0
          go_simp
          refine (HWI.out _ (E0.out.trans (X.out.trans hF))).mono ?_; rintro e w' ⟨rfl, hx⟩; exact ⟨_, rfl, hx, rfl⟩
        · obtain ⟨h0, -⟩ := hs
          replace h0 : ρ (.tmp 7) = .int .i64 (m) := h0
          go_simp
          exact ⟨Ext.refl _, rfl⟩
        · obtain ⟨h0, -⟩ := hs
          replace h0 : ρ (.tmp 4) = .pointer (some ⟨w.heap.size, 0, none⟩) := h0
          go_simp
          exact ⟨Ext.refl _, rfl⟩
        · obtain ⟨h0, -⟩ := hs
          replace h0 : ρ (.tmp 48) = .pointer (some ⟨w.heap.size, 1, none⟩) := h0
          have hc0 : W.cell? ⟨w.heap.size, 1, none⟩ = some (.int .i64 (sd)) := hF.cell (by assumption)
          go_simp
          exact ⟨Ext.refl _, rfl⟩
        · obtain ⟨h0, -⟩ := hs
          replace h0 : ρ (.tmp 5) = .pointer (some ⟨w.heap.size + 1, 0, none⟩) := h0
          go_simp
          exact ⟨Ext.refl _, rfl⟩
        · obtain ⟨h0, -⟩ := hs
          replace h0 : ρ (.tmp 50) = .pointer (some ⟨w.heap.size + 1, 1, none⟩) := h0
          have hc0 : W.cell? ⟨w.heap.size + 1, 1, none⟩ = some (.int .i64 (od)) := hF.cell (by assumption)
          go_simp
          exact ⟨Ext.refl _, rfl⟩
        · obtain ⟨h0, h1, -⟩ := hs
          replace h0 : ρ (.tmp 49) = .int .i64 (sd) := h0
          replace h1 : ρ (.tmp 51) = .int .i64 (od) := h1
          have hw : IntKind.i64.wrap (sd * od) = sd * od := wrap_id _ (by omega) (by omega)
          go_simp
          exact ⟨Ext.refl _, rfl⟩
        · obtain ⟨h0, h1, -⟩ := hs
          replace h0 : ρ (.tmp 47) = .int .i64 (m) := h0
          replace h1 : ρ (.tmp 52) = .int .i64 (sd * od) := h1
          go_simp
          refine (HLO.out _).mono ?_; rintro e w' ⟨rfl, hx⟩; exact ⟨_, rfl, hx, rfl⟩
        · obtain ⟨h0, h1, h2, h3, -⟩ := hs
          replace h0 : ρ (.tmp 43) = .agg #[.int .i64 (sn), .int .i64 (sd)] := h0
          replace h1 : ρ (.tmp 44) = .agg #[.int .i64 (on), .int .i64 (od)] := h1
          replace h2 : ρ (.tmp 46) = .agg #[.int .i64 win.1, .int .i64 win.2] := h2
          replace h3 : ρ (.tmp 53) = .agg #[.int .i64 lo.1, .int .i64 lo.2] := h3
          go_simp
          exact ⟨Ext.refl _, rfl⟩
      · intro fv W hF hs
        obtain ⟨-, -, -, -, -, -, -, -, -, -, -, h54, -⟩ := hs
        replace h54 : fv 54 = .agg #[.int .i64 sn, .int .i64 sd, .int .i64 on, .int .i64 od, .int .i64 win.1, .int .i64 win.2, .int .i64 lo.1, .int .i64 lo.2] := h54
        simp only [fin, List.filterMap]
        go_simp
        have B2 := Lib.hid (K2.out.ext (X.out.trans hF))
        have X2 := Lib.hid (E0.out.trans (X.out.trans hF))
        clear hF y0 y1 y2 y3 K0 K1 K2
        have f0 := B2.out.free 0
        have c0 : W.cell? ⟨w.heap.size + 1 + 1, 0, none⟩ = some (.int .i64 0) := B2.out.cell 0
        have f1 := B2.out.free 1
        have c1 : W.cell? ⟨w.heap.size + 1 + 1, 1, none⟩ = some (.int .i64 0) := B2.out.cell 1
        have f2 := B2.out.free 2
        have c2 : W.cell? ⟨w.heap.size + 1 + 1, 2, none⟩ = some (.int .i64 0) := B2.out.cell 2
        have f3 := B2.out.free 3
        have c3 : W.cell? ⟨w.heap.size + 1 + 1, 3, none⟩ = some (.int .i64 0) := B2.out.cell 3
        have f4 := B2.out.free 4
        have c4 : W.cell? ⟨w.heap.size + 1 + 1, 4, none⟩ = some (.int .i64 0) := B2.out.cell 4
        have f5 := B2.out.free 5
        have c5 : W.cell? ⟨w.heap.size + 1 + 1, 5, none⟩ = some (.int .i64 0) := B2.out.cell 5
        have f6 := B2.out.free 6
        have c6 : W.cell? ⟨w.heap.size + 1 + 1, 6, none⟩ = some (.int .i64 0) := B2.out.cell 6
        have f7 := B2.out.free 7
        have c7 : W.cell? ⟨w.heap.size + 1 + 1, 7, none⟩ = some (.int .i64 0) := B2.out.cell 7
        clear B2
        go_wp2
        exact bodyPost_ret (v := .agg #[.int .i64 sn, .int .i64 sd, .int .i64 on, .int .i64 od, .int .i64 win.1, .int .i64 win.2, .int .i64 lo.1, .int .i64 lo.2]) (by simp [results, Try.f116, go_sem, c0, c1, c2, c3, c4, c5, c6, c7]) rfl ⟨rfl, Ext.set (Ext.set (Ext.set (Ext.set (Ext.set (Ext.set (Ext.set (Ext.set (X2.out) (by dsimp only; omega) _) (by dsimp only; omega) _) (by dsimp only; omega) _) (by dsimp only; omega) _) (by dsimp only; omega) _) (by dsimp only; omega) _) (by dsimp only; omega) _) (by dsimp only; omega) _⟩

end Go.Proofs.Ytmddnpagfgilcaa

namespace Go.Proofs.Ytmddnpagfgilcaa
open Go.RowKit Go.Shelf Go.Mem Go.RegInv
attribute [local go_sem] RelUpon_value RelUpon_skip RelUpon_enter BigFrame.eval_const BigFrame.eval_global BigFrame.eval_func

def zeroE (xs : List Pr) (n : Nat) : Int := errIf ((winK xs n).1 == (winK xs n).2) 11
theorem zeroError_any {A : Option Addr} {n ca : Nat} {xs : List Pr} {w : World} (hn : xs.length = n) (hA : RowsAt 2 Pr.enc w A xs) (h0 : 0 < n) : Calls Try.prog 113 #[.slice A n ca] w fun e w' => e = .returned (.int .i64 (zeroE xs n)) ∧ Ext w w' := by
  have HW := Lib.hid (windowOf_any (ca := ca) hn hA h0)
  unfold zeroE
  generalize winK xs n = z at *
  clear hn hA
  go_enter Try.func113, Try.ntmps113
  go_wp2_with (first
    | (go_at_call 135; refine HW.out.mono ?_; rintro e W1 ⟨rfl, hx⟩; have X1 := Lib.hid hx; clear hx)
    | (go_at_call 81; refine (errorIf_any _ _ _).mono ?_; rintro e w' ⟨rfl, rfl⟩))
  go_ret
  exact ⟨rfl, X1.out.trans (Ext.alloc _ _)⟩
theorem lowT_bd2 {a b A B : Int} (ha : -A ≤ a ∧ a ≤ A) (hb : 0 < b ∧ b ≤ B) : (-A ≤ (lowT a b).1 ∧ (lowT a b).1 ≤ A) ∧ 1 ≤ (lowT a b).2 ∧ (lowT a b).2 ≤ B := by
  have h1 := Int.natAbs_tdiv_le_natAbs a (Nat.gcd a.natAbs b.natAbs : Int)
  have h2 := Int.natAbs_tdiv_le_natAbs b (Nat.gcd a.natAbs b.natAbs : Int)
  have h3 : 0 < Nat.gcd a.natAbs b.natAbs := Nat.gcd_pos_of_pos_right _ (by omega)
  have h4 : ((Nat.gcd a.natAbs b.natAbs : Nat) : Int) ∣ b := Int.ofNat_dvd_left.2 (Nat.gcd_dvd_right _ _)
  have h5 : b.tdiv (Nat.gcd a.natAbs b.natAbs : Int) ≠ 0 := by
    intro h
    have := Int.tdiv_mul_cancel h4
    rw [h] at this
    omega
  have h6 : 0 ≤ b.tdiv (Nat.gcd a.natAbs b.natAbs : Int) := Int.tdiv_nonneg (by omega) (by omega)
  unfold lowT
  dsimp only
  omega
theorem pairs_ok {xs : List Pr} (h : pairsE xs = 0) : 2 ≤ xs.length ∧ xs.length ≤ 10 ∧ ∀ i, PrOK (xs.getD i default) := by
  unfold pairsE at h
  by_cases hz : countE xs.length 2 10 = 0
  · rw [if_neg (by simpa using hz)] at h
    obtain ⟨c1, c2⟩ := count_ok hz
    refine ⟨by omega, by omega, fun i => ?_⟩
    rcases Nat.lt_or_ge i xs.length with hi | hi
    · have e := firstAt_zero h i (by omega) (by omega)
      unfold prAt prE at e
      have e1 := rangeE_zeros e
      exact ⟨e1 _ (by simp), e1 _ (by simp)⟩
    · rw [List.getD_eq_getElem?_getD, List.getElem?_eq_none hi]
      exact ⟨⟨by decide, by decide⟩, by decide, by decide⟩
  · rw [if_pos hz] at h
    exact absurd h hz
set_option maxRecDepth 100000 in
set_option maxHeartbeats 1000000 in
theorem fitOf_ok {A : Option Addr} {n ca : Nat} {xs : List Pr} {w : World} (hn : xs.length = n) (hA : RowsAt 2 Pr.enc w A xs) {sl of win lo : Int × Int} (hz : pairsE xs = 0) (hw : zeroE xs n = 0) (hd : 0 < denV n (sumK xs n)) (e1 : slopeV n (sumK xs n) = sl) (e2 : offsV n (sumK xs n) = of) (e3 : winK xs n = win) (e4 : lowT (mostK sl.1 sl.2 of.1 of.2 xs n) (sl.2 * of.2) = lo) :
    Calls Try.prog 72 #[.slice A n ca] w fun e w' => e = .returned (.tuple #[.agg #[.int .i64 sl.1, .int .i64 sl.2, .int .i64 of.1, .int .i64 of.2, .int .i64 win.1, .int .i64 win.2, .int .i64 lo.1, .int .i64 lo.2], .int .i64 0]) ∧ Ext w w' := by
  obtain ⟨m2, m10, hok⟩ := pairs_ok hz
  rw [hn] at m2 m10
  have h0 : 0 < n := by omega
  have HPE := Lib.hid (fun W (e : Ext w W) => pairsError_any (ca := ca) hn (hA.ext e))
  have HZE := Lib.hid (fun W (e : Ext w W) => zeroError_any (ca := ca) hn (hA.ext e) h0)
  rw [hz] at HPE
  rw [hw] at HZE
  have sb := sumK_bd hok n
  have bx : -1000 ≤ (sumK xs n).x ∧ (sumK xs n).x ≤ 1000 := by omega
  have by' : -1000 ≤ (sumK xs n).y ∧ (sumK xs n).y ≤ 1000 := by omega
  have bxx : -100000 ≤ (sumK xs n).xx ∧ (sumK xs n).xx ≤ 100000 := by omega
  have bxy : -100000 ≤ (sumK xs n).xy ∧ (sumK xs n).xy ≤ 100000 := by omega
  have bn : -10 ≤ (n : Int) ∧ (n : Int) ≤ 10 := by omega
  have HSU := Lib.hid (fun W (e : Ext w W) => sumsOf_any (ca := ca) hn (hA.ext e) (by omega) hok)
  have HLI := Lib.hid (fun W => show Calls Try.prog 115 #[.agg #[.int .i64 (n : Int), .int .i64 (sumK xs n).x, .int .i64 (sumK xs n).y, .int .i64 (sumK xs n).xx, .int .i64 (sumK xs n).xy]] W fun e w' => e = .returned (.tuple #[.agg #[.int .i64 sl.1, .int .i64 sl.2], .agg #[.int .i64 of.1, .int .i64 of.2]]) ∧ Ext W w' from by
    rw [← e1, ← e2]; exact line_any W bn bx by' bxx bxy hd)
  have m1 := mul_bd bn bxx
  have m2' := mul_bd bx bx
  have m3 := mul_bd bn bxy
  have m4 := mul_bd bx by'
  have m5 := mul_bd bxx by'
  have m6 := mul_bd bx bxy
  have hden : denV n (sumK xs n) ≤ 1000000 := by
    have : 0 ≤ (sumK xs n).x * (sumK xs n).x := by
      rcases Int.le_total 0 (sumK xs n).x with h | h
      · exact Int.mul_nonneg h h
      · exact Int.mul_nonneg_of_nonpos_of_nonpos h h
    unfold denV; omega
  have q1 := lowT_bd2 (a := n * (sumK xs n).xy - (sumK xs n).x * (sumK xs n).y) (A := 2000000) ⟨by omega, by omega⟩ ⟨hd, hden⟩
  have q2 := lowT_bd2 (a := (sumK xs n).xx * (sumK xs n).y - (sumK xs n).x * (sumK xs n).xy) (A := 200000000) ⟨by omega, by omega⟩ ⟨hd, hden⟩
  rw [show lowT (n * (sumK xs n).xy - (sumK xs n).x * (sumK xs n).y) (denV n (sumK xs n)) = sl from e1] at q1
  rw [show lowT ((sumK xs n).xx * (sumK xs n).y - (sumK xs n).x * (sumK xs n).xy) (denV n (sumK xs n)) = of from e2] at q2
  have HFI := Lib.hid (fun W (e : Ext w W) => fitOn_any (ca := ca) sl.1 sl.2 of.1 of.2 hn (hA.ext e) h0 m10 hok ⟨by omega, by omega⟩ ⟨by omega, by omega⟩ ⟨by omega, by omega⟩ ⟨by omega, by omega⟩ e3 e4)
  generalize sumK xs n = s at *
  clear hn hA hz hw hok sb bx by' bxx bxy bn m1 m2' m3 m4 m5 m6 hden q1 q2 e1 e2 e3 e4 hd
  obtain ⟨W0, hW0⟩ : ∃ W0, W0 = w.alloc (.cells #[.int .i64 0, .int .i64 0, .int .i64 0, .int .i64 0, .int .i64 0, .int .i64 0, .int .i64 0, .int .i64 0] 118) := ⟨_, rfl⟩
  have K0 := Lib.hid (show Blk W0 w.heap.size 118 #[.int .i64 0, .int .i64 0, .int .i64 0, .int .i64 0, .int .i64 0, .int .i64 0, .int .i64 0, .int .i64 0] by rw [hW0]; exact Blk.new _ _ _)
  have E0 := Lib.hid (show Ext w W0 by rw [hW0]; exact Ext.alloc _ _)
  go_enter Try.func72, Try.ntmps72
  go_wp2_with (fail)
  rw [← hW0]
  clear hW0
  go_wp2_with (go_at_call 112; refine (HPE.out _ E0.out).mono ?_; rintro e W1 ⟨rfl, hx⟩; have X1 := Lib.hid (E0.out.trans hx); have B := Lib.hid (K0.out.ext hx); clear hx; refine Hid.out ?_)
  refine Lib.hid ?_
  clear K0 E0
  go_wp2_with (go_at_call 113; refine (HZE.out _ X1.out).mono ?_; rintro e W2 ⟨rfl, hx⟩; have X2 := Lib.hid (X1.out.trans hx); have B := Lib.hid (B.out.ext hx); clear hx; refine Hid.out ?_)
  refine Lib.hid ?_
  go_wp2_with (go_at_call 114; refine (HSU.out _ X2.out).mono ?_; rintro e W3 ⟨rfl, hx⟩; have X3 := Lib.hid (X2.out.trans hx); have B := Lib.hid (B.out.ext hx); clear hx; refine Hid.out ?_)
  refine Lib.hid ?_
  go_wp2_with (go_at_call 115; refine (HLI.out _).mono ?_; rintro e W4 ⟨rfl, hx⟩; have X4 := Lib.hid (X3.out.trans hx); have B := Lib.hid (B.out.ext hx); clear hx; refine Hid.out ?_)
  refine Lib.hid ?_
  go_wp2_with (go_at_call 116; refine (HFI.out _ (X4.out.trans ((Ext.alloc _ _).trans (Ext.alloc _ _)))).mono ?_; rintro e W6 ⟨rfl, hx⟩; have X6 := Lib.hid (X4.out.trans (((Ext.alloc _ _).trans (Ext.alloc _ _)).trans hx)); have B := Lib.hid (((B.out.alloc _).alloc _).ext hx); clear hx; refine Hid.out ?_)
  refine Lib.hid ?_
  have f0 := B.out.free 0
  have c0 : W6.cell? ⟨w.heap.size, 0, none⟩ = some (.int .i64 0) := B.out.cell 0
  have f1 := B.out.free 1
  have c1 : W6.cell? ⟨w.heap.size, 1, none⟩ = some (.int .i64 0) := B.out.cell 1
  have f2 := B.out.free 2
  have c2 : W6.cell? ⟨w.heap.size, 2, none⟩ = some (.int .i64 0) := B.out.cell 2
  have f3 := B.out.free 3
  have c3 : W6.cell? ⟨w.heap.size, 3, none⟩ = some (.int .i64 0) := B.out.cell 3
  have f4 := B.out.free 4
  have c4 : W6.cell? ⟨w.heap.size, 4, none⟩ = some (.int .i64 0) := B.out.cell 4
  have f5 := B.out.free 5
  have c5 : W6.cell? ⟨w.heap.size, 5, none⟩ = some (.int .i64 0) := B.out.cell 5
  have f6 := B.out.free 6
  have c6 : W6.cell? ⟨w.heap.size, 6, none⟩ = some (.int .i64 0) := B.out.cell 6
  have f7 := B.out.free 7
  have c7 : W6.cell? ⟨w.heap.size, 7, none⟩ = some (.int .i64 0) := B.out.cell 7
  clear B
  go_wp2
  exact bodyPost_ret (v := .tuple #[.agg #[.int .i64 sl.1, .int .i64 sl.2, .int .i64 of.1, .int .i64 of.2, .int .i64 win.1, .int .i64 win.2, .int .i64 lo.1, .int .i64 lo.2], .int .i64 0]) (by simp [results, Try.f72, go_sem, c0, c1, c2, c3, c4, c5, c6, c7]) rfl ⟨rfl, Ext.set (Ext.set (Ext.set (Ext.set (Ext.set (Ext.set (Ext.set (Ext.set (X6.out) (by dsimp only; omega) _) (by dsimp only; omega) _) (by dsimp only; omega) _) (by dsimp only; omega) _) (by dsimp only; omega) _) (by dsimp only; omega) _) (by dsimp only; omega) _) (by dsimp only; omega) _⟩

end Go.Proofs.Ytmddnpagfgilcaa

namespace Go.Proofs.Ytmddnpagfgilcaa
open Go.RowKit Go.Shelf Go.Mem Go.RegInv
attribute [local go_sem] RelUpon_value RelUpon_skip RelUpon_enter BigFrame.eval_const BigFrame.eval_global BigFrame.eval_func

end Go.Proofs.Ytmddnpagfgilcaa

namespace Go.Proofs.Ytmddnpagfgilcaa
open Go.RowKit Go.Shelf Go.Mem Go.RegInv
attribute [local go_sem] RelUpon_value RelUpon_skip RelUpon_enter BigFrame.eval_const BigFrame.eval_global BigFrame.eval_func

theorem own_base {W : World} {base : Nat} {e : TypeId} {size : Nat} {v : Value} {n : Nat} {xs : List Value} (r : W.ownsRow base e size v n xs) {g : Nat} (h : v.ownBlock = some g) : base ≤ g := by
  rcases r.2 with ⟨rfl, _⟩ | ⟨g', cap, cur, rfl, h2, _⟩
  · simp [Value.ownBlock] at h
  · simp [Value.ownBlock] at h; omega
theorem own_slice {W : World} {base n k : Nat} {e : TypeId} {v : Value} {xs : List Value} (h : W.ownsRow base e k v n xs) : ∃ A c, v = .slice A n c := by
  rcases h.2 with ⟨rfl, rfl⟩ | ⟨g, cap, cu, rfl, _⟩
  · exact ⟨none, 0, by have := h.1; simp⟩
  · exact ⟨_, cap, rfl⟩
theorem own_ext {W W' : World} {base n k : Nat} {e : TypeId} {v : Value} {xs : List Value} (h : W.ownsRow base e k v n xs) (x : Ext W W') : W'.ownsRow base e k v n xs := by
  refine ⟨h.1, ?_⟩
  rcases h.2 with h2 | ⟨g, cap, cu, hv, hg, hh, r⟩
  · exact .inl h2
  · exact .inr ⟨g, cap, cu, hv, hg, (show Blk W' g e cu from (show Blk W g e cu from hh).ext x), r⟩
theorem own_cells {W : World} {base n k : Nat} {e : TypeId} {v : Value} {xs : List Value} (h : W.ownsRow base e k v n xs) (h1 : 1 ≤ n) : ∃ g c cu, v = .slice (some ⟨g, 0, none⟩) n c ∧ base ≤ g ∧ n ≤ c ∧ Blk W g e cu ∧ ∀ (i : Nat) (u : Value), xs[i]? = some u → cu[i]? = some u := by
  rcases h.2 with ⟨_, rfl⟩ | ⟨g, cap, cu, rfl, hb, hh, hc, _, hs, ht⟩
  · omega
  · refine ⟨g, cap, cu, rfl, hb, hc, hh, fun i u hi => ?_⟩
    rw [← ht] at hi
    have := (List.getElem?_eq_some_iff.1 hi).1
    rw [List.getElem?_take_of_lt (by simp at this; omega)] at hi
    simpa using hi
theorem rows_own {α : Type} {W : World} {base n k : Nat} {e : TypeId} {A : Option Addr} {c : Nat} {enc : α → List Value} {xs : List α} (hl : xs.length = n) (hk : ∀ x, (enc x).length = k) (h : W.ownsRow base e k (.slice A n c) n (xs.flatMap enc)) (hn : n ≤ 1152921504606846976) : RowsAt k enc W A xs := by
  refine ⟨by omega, fun i x hx => ?_⟩
  have hi := (List.getElem?_eq_some_iff.1 hx).1
  obtain ⟨g, c', cu, he, _, _, hb, hc⟩ := own_cells h (by omega)
  obtain ⟨rfl, rfl⟩ : A = some ⟨g, 0, none⟩ ∧ c = c' := by simpa using he
  refine ⟨g, 0, rfl, hb.lt, fun j u hu => ?_⟩
  rw [hb.cell]
  have hj := (List.getElem?_eq_some_iff.1 hu).1
  rw [hk] at hj
  rw [show 0 + i * k + j = i * k + j by omega]
  refine hc _ _ ?_
  have key : ∀ (l : List α) (i : Nat), l[i]? = some x → (l.flatMap enc)[i * k + j]? = some u := by
    intro l
    induction l with
    | nil => intro i h; simp at h
    | cons y l ih =>
      intro i h
      cases i with
      | zero =>
        obtain rfl : y = x := by simpa using h
        rw [List.flatMap_cons, List.getElem?_append_left (by rw [hk]; omega)]
        simpa using hu
      | succ i =>
        rw [List.flatMap_cons, List.getElem?_append_right (by rw [hk, Nat.succ_mul]; omega), hk, show (i + 1) * k + j - k = i * k + j by rw [Nat.succ_mul]; omega]
        exact ih i (by simpa using h)
  exact key xs i hx

theorem own_notBlk {W : World} {base : Nat} {e : TypeId} {size : Nat} {v : Value} {n : Nat} {xs : List Value} (r : W.ownsRow base e size v n xs) {g : Nat} {t : TypeId} {cs : Array Value} (b : Blk W g t cs) (hne : t ≠ e) : some g ≠ v.ownBlock := by
  rcases r.2 with ⟨rfl, _⟩ | ⟨g', cap, cur, rfl, h2, h3, _⟩
  · simp [Value.ownBlock]
  · intro he
    obtain rfl : g = g' := by simpa [Value.ownBlock] using he
    unfold Blk at b
    rw [h3] at b
    simp at b
    exact hne b.2.symm
def frEnc (p : Int × Int) : List Value := [.int .i64 p.1, .int .i64 p.2]
end Go.Proofs.Ytmddnpagfgilcaa

namespace Go.Proofs.Ytmddnpagfgilcaa
open Go.RowKit Go.Shelf Go.Mem Go.RegInv
attribute [local go_sem] RelUpon_value RelUpon_skip RelUpon_enter BigFrame.eval_const BigFrame.eval_global BigFrame.eval_func

theorem flat_idx {α : Type} {k : Nat} {enc : α → List Value} (hp : 0 < k) (hk : ∀ x, (enc x).length = k) : ∀ (xs : List α) (j : Nat) (u : Value), (xs.flatMap enc)[j]? = some u → ∃ x, xs[j / k]? = some x ∧ (enc x)[j % k]? = some u
  | [], j, u, h => by simp at h
  | s :: l, j, u, h => by
    rw [List.flatMap_cons] at h
    by_cases hj : j < k
    · rw [List.getElem?_append_left (by rw [hk]; exact hj)] at h
      exact ⟨s, by rw [Nat.div_eq_of_lt hj]; rfl, by rw [Nat.mod_eq_of_lt hj]; exact h⟩
    · rw [List.getElem?_append_right (by rw [hk]; omega), hk] at h
      obtain ⟨x, h1, h2⟩ := flat_idx hp hk l (j - k) u h
      exact ⟨x, by rw [Nat.div_eq_sub_div hp (by omega)]; simpa using h1, by rw [Nat.mod_eq_sub_mod (by omega)]; exact h2⟩
theorem flat_lenG {α : Type} {k : Nat} {enc : α → List Value} (hk : ∀ x, (enc x).length = k) : ∀ (xs : List α), (xs.flatMap enc).length = xs.length * k
  | [] => by simp
  | s :: l => by rw [List.flatMap_cons, List.length_append, flat_lenG hk l, hk, List.length_cons, Nat.succ_mul]; omega
theorem flat_one {α : Type} {enc : α → List Value} (h : ∀ x, ∀ u ∈ enc x, u.oneCell' = true) (xs : List α) : ∀ u ∈ xs.flatMap enc, u.oneCell' = true := by
  intro u hu
  obtain ⟨x, _, hx⟩ := List.mem_flatMap.1 hu
  exact h x u hx

theorem wpList_copy {α : Type} {W : World} {ops : Array Oper} {rest : List Oper} {o : Oper} {a : Act} {Q : Exit → Act → World → Prop} (hgd : o.guard = none) (s x : Operand) (t : TypeId)
    (ho : o.op = .call { callee := .builtin .append, args := #[s, x], argTypes := #[t, t] })
    (e : TypeId) (i : TypeInfo) (z : Value) (size bytes : Nat) (ht : Try.prog.underlying t = some (.slice e)) (hi : Try.prog.info? e = some i) (hz : i.zero = some z)
    (hsize : i.size = size) (hby : i.bytes = bytes) (hzs : z.cells.size = size) (hsz : 0 < size) (hb1 : bytes ≤ 1000)
    (enc : α → List Value) (hk : ∀ x, (enc x).length = size) (h1 : ∀ x, ∀ u ∈ enc x, u.oneCell' = true)
    (hs : a.eval s = .slice (some ⟨W.heap.size, 0, none⟩) 0 0) (A : Option Addr) (n ca : Nat) (xs : List α) (hx : a.eval x = .slice A n ca) (hn : xs.length = n) (hA : RowsAt size enc W A xs) (h6 : n ≤ 1000) (hnil : A = none → ca = 0)
    (h : ∀ A' c' w', RowsAt size enc w' A' xs → Ext W w' → (∀ b o, A' = some ⟨b, o, none⟩ → W.heap.size ≤ b) → (A' = none → c' = 0) → wpList Try.prog ops Q rest (a.put o.dst (.slice A' n c')) w') :
    wpList Try.prog ops Q (o :: rest) a (W.alloc (.cells #[] e)) := by
  have hown : (W.alloc (.cells #[] e)).ownsRow W.heap.size e size (.slice (some ⟨W.heap.size, 0, none⟩) 0 0) 0 [] :=
    ⟨by simp, .inr ⟨W.heap.size, 0, #[], rfl, Nat.le_refl _, Blk.new W e #[], Nat.le_refl _, by unfold maxLen; omega, by simp, by simp⟩⟩
  cases A with
  | none =>
    obtain rfl : xs = [] := by
      cases xs with
      | nil => rfl
      | cons x l => obtain ⟨b, o, h, _⟩ := hA.2 0 x rfl; cases h
    obtain rfl := hnil rfl
    obtain rfl : n = 0 := by simpa using hn.symm
    refine wpList_append_own_none hgd s x t ho W.heap.size e i size ht hi _ _ _ hs hown hx ?_
    exact h _ _ _ ⟨by simp, fun i x hx => by simp at hx⟩ (Ext.alloc _ _) (fun b o hb => by simp at hb; omega) (fun h => by cases h)
  | some ad =>
    have hnews : ∀ j u, (xs.flatMap enc)[j]? = some u → (W.alloc (.cells #[] e)).cell? (ad.add j) = some u := fun j u hu => by
      obtain ⟨s, hs, hj⟩ := flat_idx (k := size) (enc := enc) hsz hk xs j u hu
      obtain ⟨b, o, e', _, hc⟩ := hA.2 _ s hs
      obtain rfl : ad = ⟨b, o, none⟩ := by simpa using e'
      have := (Ext.alloc W (.cells #[] e)).cell (hc _ _ hj)
      have hdm := Nat.div_add_mod j size
      rw [Nat.mul_comm] at hdm
      rw [WideShapes.add_plain, show o + j = o + j / size * size + j % size by omega]; exact this
    refine wpList_append_own _ hgd s x t ho W.heap.size e i z size bytes ht hi hz hsize hby hzs hsz _ _ _ hs hown ad n ca (xs.flatMap enc) hx (by rw [flat_lenG hk, hn]) hnews (flat_one h1 xs) (by unfold maxLen; omega) (by
      have := Nat.mul_le_mul h6 hb1
      rw [Nat.zero_add]; omega) (by simp) ?_
    intro v' w1 hown' hgrow hnone
    have hE : Ext W w1 := Ext.grownBy (Ext.alloc W _) hgrow (fun g hg => own_base hown hg)
    obtain ⟨A', c', hv'⟩ := own_slice hown'
    rw [Nat.zero_add] at hv'
    subst hv'
    rw [Nat.zero_add, List.nil_append] at hown'
    refine h A' c' w1 (rows_own hn hk hown' (by omega)) hE (fun b o hb => own_base hown' (by rw [hb]; rfl)) (fun hA' => ?_)
    rcases hown'.2 with ⟨h2, _⟩ | ⟨g, cap, cu, h2, _⟩
    · exact (by simpa using h2 : A' = none ∧ n = 0 ∧ c' = 0).2.2
    · rw [hA'] at h2; simp at h2
theorem rows_setOther {α : Type} {k : Nat} {enc : α → List Value} {W : World} {A : Option Addr} {xs : List α} (h : RowsAt k enc W A xs) {p : Addr} (hp : ∀ b o, A = some ⟨b, o, none⟩ → b ≠ p.block) (v : Value) : RowsAt k enc (W.setCell p v) A xs :=
  ⟨h.1, fun i x hx => by
    obtain ⟨b, o, hA, hb, hc⟩ := h.2 i x hx
    refine ⟨b, o, hA, by simpa using hb, fun j u hu => ?_⟩
    have hs : (W.setCell p v).heap[b]? = W.heap[b]? := Below.heap_setCell W p v b (hp b o hA)
    have := hc j u hu
    simpa [World.cell?, hs] using this⟩

theorem In_one : ∀ x, ∀ u ∈ In.enc x, u.oneCell' = true := by intro x u hu; simp [In.enc] at hu; rcases hu with rfl | rfl | rfl | rfl <;> rfl

theorem info43G : (Try.prog.info? 43).map (fun i => (i.zero, i.size, i.bytes)) = some (some (.agg #[.int .i64 0, .int .i64 0, .int .i64 0, .int .i64 0]), 4, 32) := by kernel_rfl
set_option maxRecDepth 100000 in
set_option maxHeartbeats 1000000 in
theorem copyTraverse_any {A : Option Addr} {n ca : Nat} {xs : List In} {w : World} (hn : xs.length = n) (hA : RowsAt 4 In.enc w A xs) (h6 : n ≤ 1000) (hnil : A = none → ca = 0) :
    Calls Try.prog 16 #[.agg #[.slice A n ca]] w fun e w' => ∃ A' c', e = .returned (.agg #[.slice A' n c']) ∧ RowsAt 4 In.enc w' A' xs ∧ (A' = none → c' = 0) ∧ Ext w w' := by
  obtain ⟨i0, hi0, hz0, ha0, hb0⟩ := info_parts info43G
  have I0 := Lib.hid hz0
  obtain ⟨W0, hW0⟩ : ∃ W0, W0 = (w.alloc (.cells #[.slice A n ca] 24)).alloc (.cells #[.slice none 0 0] 24) := ⟨_, rfl⟩
  have K1 := Lib.hid (show Blk W0 (w.heap.size + 1) 24 #[.slice none 0 0] by rw [hW0]; exact Blk.newAt _ _ _ (by simp))
  have E0 := Lib.hid (show Ext w W0 by rw [hW0]; exact (Ext.alloc _ _).trans (Ext.alloc _ _))
  have HSZ := Lib.hid (show W0.heap.size = w.heap.size + 1 + 1 by rw [hW0]; simp)
  have HN := Lib.hid hn
  have HA := Lib.hid (hA.ext E0.out)
  have HL := Lib.hid hnil
  clear hn hA hnil hz0
  go_enter Try.func16, Try.ntmps16
  refine Hid.out ?_
  refine Lib.hid ?_
  go_wp2_with (at_builtin; rw [← hW0]; refine wpList_copy rfl _ _ 22 rfl 43 i0 (.agg #[.int .i64 0, .int .i64 0, .int .i64 0, .int .i64 0]) 4 32 Try.underlying22 hi0 I0.out ha0 hb0 rfl (by decide) (by decide) In.enc (fun _ => rfl) In_one (by first | rfl | (rw [HSZ.out]; rfl)) A n ca xs rfl HN.out HA.out (by omega) HL.out ?_; intro A' c' V0 hro hx hlo hnl; have XR := Lib.hid hro; have XX := Lib.hid (E0.out.trans hx); have XL := Lib.hid hlo; have LN := Lib.hid hnl; have k0 := K1.out.ext hx; have f0 := k0.free 0; have x0 : V0.cell? ⟨w.heap.size + 1, 0, none⟩ = some (.slice none 0 0) := k0.cell 0; clear hro hlo hnl hx k0 hW0; refine Hid.out ?_)
  refine Lib.hid ?_
  go_wp2
  exact bodyPost_ret (v := .agg #[.slice A' n c']) (by simp [results, Try.f16, go_sem, x0]) rfl ⟨_, _, rfl, rows_setOther XR.out (fun b o hb => by have := XL.out b o hb; have := HSZ.out; dsimp only; omega) _, LN.out, Ext.set XX.out (by dsimp only; omega) _⟩

end Go.Proofs.Ytmddnpagfgilcaa
namespace Go.RegInv

variable {P : Program} {Le : World → World → Prop} {F : World → Prop} {Ψ : Tmp → Value → World → Prop}
section
variable {n : Nat} {ops : Array Oper}

/-- The slots that guards ask, each with the answer that is wanted, and whether the operation runs. -/
def guardsM (n : Nat) (all : List Oper) : List Oper → List Bool → Option (List (Tmp × Bool × Bool))
  | o :: l, m :: ms => (match o.guard with
    | none => if m then guardsM n all l ms else none
    | some p => match (all[p.1]?).bind (·.dst) with
      | some t => if t < n then (guardsM n all l ms).map (fun g => (t, p.2, m) :: g) else none
      | none => none)
  | [], _ => some []
  | _ :: _, [] => none
theorem guardsM_at {n : Nat} {all : List Oper} : ∀ {l : List Oper} {ms : List Bool} {gs : List (Tmp × Bool × Bool)}, guardsM n all l ms = some gs → ∀ {i : Nat} {o : Oper}, l[i]? = some o →
    ∃ m, ms[i]? = some m ∧ (o.guard = none → m = true) ∧ ∀ j want, o.guard = some (j, want) → ∃ t, ((all[j]?).bind (·.dst)) = some t ∧ t < n ∧ (t, want, m) ∈ gs
  | o' :: l, m :: ms, gs, h, i, o, hi => by
    unfold guardsM at h
    cases hgo : o'.guard with
    | none =>
      rw [hgo] at h
      dsimp only at h
      split at h
      · rename_i hm
        cases i with
        | zero =>
          obtain rfl : o' = o := by simpa using hi
          exact ⟨m, rfl, fun _ => hm, fun j want h' => by rw [hgo] at h'; cases h'⟩
        | succ i =>
          obtain ⟨m2, h1, h2, h3⟩ := guardsM_at h (i := i) (o := o) (by simpa using hi)
          exact ⟨m2, by simpa using h1, h2, h3⟩
      · cases h
    | some p =>
      rw [hgo] at h
      dsimp only at h
      cases ht : (all[p.1]?).bind (·.dst) with
      | none => rw [ht] at h; cases h
      | some t =>
        rw [ht] at h
        dsimp only at h
        split at h
        · rename_i hlt
          cases hr : guardsM n all l ms with
          | none => rw [hr] at h; cases h
          | some g =>
            rw [hr] at h
            obtain rfl : (t, p.2, m) :: g = gs := by simpa using h
            cases i with
            | zero =>
              obtain rfl : o' = o := by simpa using hi
              refine ⟨m, rfl, fun h' => (by rw [hgo] at h'; cases h'), fun j want h' => ?_⟩
              rw [hgo] at h'
              obtain rfl : p = (j, want) := by simpa using h'
              exact ⟨t, ht, hlt, by simp⟩
            | succ i =>
              obtain ⟨m2, h1, h2, h3⟩ := guardsM_at hr (i := i) (o := o) (by simpa using hi)
              refine ⟨m2, by simpa using h1, h2, fun j want h' => ?_⟩
              obtain ⟨t2, h4, h5, h6⟩ := h3 j want h'
              exact ⟨t2, h4, h5, by simp [h6]⟩
        · cases h
  | [], _, _, _, i, o, hi => by simp at hi
  | _ :: _, [], _, h, _, _, _ => by simp [guardsM] at h

/-- What is asked of the operations: of a refused one only that its slot may be empty. -/
def AsksM (P : Program) (Le : World → World → Prop) (F : World → Prop) (ds : List (Option Tmp)) (φs : List (Value → World → Prop)) (a0 : Act) : List Oper → List (Value → World → Prop) → List (List Tmp) → List Bool → Prop
  | o :: l, φ :: rest, t :: ts, m :: ms => (match m with | true => ∀ (ρ : Operand → Value) (W : World), Std ρ → F W → slotsAt ds φs a0 ρ W t → RelUpon P Le φ W ((execOp ρ o).run P W) | false => ∀ W, φ undef W) ∧ AsksM P Le F ds φs a0 l rest ts ms
  | [], _, _, _ => True
  | _, _, _, _ => False
theorem asksM_at {ds : List (Option Tmp)} {φs : List (Value → World → Prop)} {a0 : Act} : ∀ {l : List Oper} {rest : List (Value → World → Prop)} {ts : List (List Tmp)} {ms : List Bool}, AsksM P Le F ds φs a0 l rest ts ms → ∀ {i : Nat} {o : Oper}, l[i]? = some o →
    ∃ φ t m, rest[i]? = some φ ∧ ts[i]? = some t ∧ ms[i]? = some m ∧ (m = true → ∀ (ρ : Operand → Value) (W : World), Std ρ → F W → slotsAt ds φs a0 ρ W t → RelUpon P Le φ W ((execOp ρ o).run P W)) ∧ (m = false → ∀ W, φ undef W)
  | o' :: _, φ :: _, t :: _, m :: _, h, 0, o, hi => by
    obtain rfl : o' = o := by simpa using hi
    cases m with
    | true => exact ⟨φ, t, true, rfl, rfl, rfl, fun _ => h.1, (fun hg => by cases hg)⟩
    | false => exact ⟨φ, t, false, rfl, rfl, rfl, (fun hg => by cases hg), fun _ => h.1⟩
  | _ :: _, _ :: _, _ :: _, _ :: _, h, i + 1, o, hi => by
    obtain ⟨φ, t, m, h1, h2, h3, h4⟩ := asksM_at h.2 (i := i) (o := o) (by simpa using hi)
    exact ⟨φ, t, m, by simpa using h1, by simpa using h2, by simpa using h3, h4⟩
  | [], _, _, _, _, _, _, hi => by simp at hi
  | _ :: _, [], _, _, h, _, _, _ => h.elim
  | _ :: _, _ :: _, [], _, h, _, _, _ => h.elim
  | _ :: _, _ :: _, _ :: _, [], h, _, _, _ => h.elim

/-- **EVERY ORDER AT ONCE, each guard known tO let its operation run, or tO refuse it.** -/
theorem wp_region_eachM {id : Nat} {Q : Exit → Act → World → Prop} {a : Act} {w : World} {l : List Oper} (ms : List Bool) (gs : List (Tmp × Bool × Bool)) (ds : List (Option Tmp)) (ts : List (List Tmp)) (φs : List (Value → World → Prop))
    (hm : P.follows .mixedOrders = true) (hB : depsB a.tmps.size l.toArray = true) (hg : guardsM a.tmps.size l l ms = some gs) (hds : l.map (·.dst) = ds) (hts : l.map (·.looksAt l.toArray) = ts)
    (Le : World → World → Prop) (F : World → Prop)
    (hrefl : ∀ W, F W → Le W W) (hF : ∀ W W', F W → Le W W' → F W') (hφ : Keeps Le F φs)
    (hG : ∀ p ∈ gs, ∃ φ, look ds φs p.1 = some φ ∧ ∀ v W, φ v W → (v = .bool p.2.1 ↔ p.2.2 = true))
    (h0 : F w.drew) (hO : AsksM P Le F ds φs a l φs ts ms)
    (hend : ∀ (f : Tmp → Value) (W : World), F W → Ends f W ds φs → Q .normal (fin a (ds.filterMap (fun d => d)) f) W) : (Code.region id l.toArray true).wp P Q a w := by
  have hdsts : dsts l.toArray = ds.filterMap (fun d => d) := by rw [← hds]; unfold dsts; rw [List.filterMap_map]; rfl
  have hat : ∀ {i : Nat} {o : Oper} {t : Tmp} {φ : Value → World → Prop}, l[i]? = some o → o.dst = some t → φs[i]? = some φ → look ds φs t = some φ := by
    intro i o t φ hi hd hp
    refine look_at (i := i) (by rw [← hds, List.getElem?_map, hi]; simp [hd]) hp fun j hj => ?_
    rw [← hds, List.getElem?_map] at hj
    cases hlj : l[j]? with
    | none => rw [hlj] at hj; cases hj
    | some oj =>
      rw [hlj] at hj
      exact ((depsB_at hB (i := i) (o := o) (by simpa using hi)).1 t hd).2 j oj (by simpa using hlj) (by simpa using hj)
  refine wp_region_inv (Ψ := fun t => (look ds φs t).getD (fun _ _ => True)) (ds.filterMap (fun d => d)) ts hm hB hdsts hts Le F hrefl hF ?_ h0 ?_ ?_
  · intro t v W W' h1 h2 h3
    cases hl : look ds φs t with
    | none => simp
    | some φ =>
      simp only [hl, Option.getD_some] at h3 ⊢
      exact look_keeps hφ hl v W W' h1 h2 h3
  · refine obls_of fun i o hi => ?_
    obtain ⟨φ, t, m, h1, h2, hm', h3, hU⟩ := asksM_at hO hi
    have ht : ts.getD i [] = t := by simp [h2]
    rw [ht]
    intro A W hF' hs
    have hE : ∀ d, o.dst = some d → (dstPost (fun t => (look ds φs t).getD (fun _ _ => True)) o = φ) := by
      intro d hd
      funext v W
      simp [dstPost, hd, hat hi hd h1]
    obtain ⟨m', hm'', hg0, hg1⟩ := guardsM_at hg hi
    obtain rfl : m' = m := by rw [hm''] at hm'; simpa using hm'
    -- what the guard's slot holds, and whether the operation runs
    have hsl : ∀ (j : Nat) (want : Bool), o.guard = some (j, want) → ∃ t', ((l[j]?).bind (·.dst)) = some t' ∧ (A.eval (.tmp t') = .bool want ↔ m' = true) := by
      intro j want hgo
      obtain ⟨t', h6, h7, h8⟩ := hg1 j want hgo
      obtain ⟨φ', h9, h10⟩ := hG _ h8
      have hmem : t' ∈ t := by
        have h11 : o.looksAt l.toArray = t := by
          rw [← hts, List.getElem?_map, hi] at h2
          simpa using h2
        rw [← h11]
        unfold Oper.looksAt
        rw [hgo]
        simp [h6]
      have h11 := slots_mem hs t' hmem
      have h12 : t' ∈ ds.filterMap (fun d => d) := by
        rw [← hds, List.filterMap_map]
        cases hlj : l[j]? with
        | none => rw [hlj] at h6; cases h6
        | some oj =>
          rw [hlj] at h6
          exact List.mem_filterMap.2 ⟨oj, List.mem_of_getElem? hlj, by simpa using h6⟩
      unfold slot at h11
      rw [if_pos (by simpa using h12)] at h11
      simp only [h9, Option.getD_some] at h11
      exact ⟨t', h6, h10 _ _ h11⟩
    have hyi : ∀ (j : Nat) (want : Bool) (t' : Tmp), ((l[j]?).bind (·.dst)) = some t' → (A.eval (.tmp t') = .bool want ↔ yielded l.toArray A.tmps j = some want) := by
      intro j want t' h6
      have h16 : (l.toArray[j]?).bind (·.dst) = some t' := by simpa using h6
      unfold yielded
      rw [h16]
      simp only [Act.eval, Option.bind_some]
      cases hq : A.tmps[t']? with
      | none =>
        have : A.tmps.size ≤ t' := by simpa using hq
        simp [Array.getD, Nat.not_lt.2 this, undef]
      | some u =>
        have hlt : t' < A.tmps.size := (Array.getElem?_eq_some_iff.1 hq).1
        have h17 : A.tmps[t'] = u := (Array.getElem?_eq_some_iff.1 hq).2
        simp only [Array.getD, hlt, dif_pos]
        rw [show A.tmps.getInternal t' hlt = u from h17]
        cases u <;> simp
    cases m' with
    | false =>
      refine ⟨fun hw => ?_, fun _ => ?_⟩
      · exfalso
        cases hgo : o.guard with
        | none => simpa using hg0 hgo
        | some p =>
          obtain ⟨j, want⟩ := p
          obtain ⟨t', h6, h10⟩ := hsl j want hgo
          have h18 : ¬ yielded l.toArray A.tmps j = some want := fun h => by simpa using h10.1 ((hyi j want t' h6).2 h)
          simp [Region.wanted, hgo, h18] at hw
      · cases hd : o.dst with
        | none => simp [dstPost, hd]
        | some d => rw [hE d hd]; exact hU rfl W
    | true =>
    refine ⟨fun _ => ?_, fun hw => ?_⟩
    case' refine_2 =>
      exfalso
      cases hgo : o.guard with
      | none => simp [Region.wanted, hgo] at hw
      | some p =>
        obtain ⟨j, want⟩ := p
        obtain ⟨t', h6, h10⟩ := hsl j want hgo
        have h15 := (hyi j want t' h6).1 (h10.2 rfl)
        simp [Region.wanted, hgo, h15] at hw
    case' refine_1 => skip
    have h4 := h3 rfl A.eval W (Std.eval A) hF' (slotsAt_of fun u hu => by
      have h5 := slots_mem hs u hu
      unfold slot at h5
      unfold slotAt
      split at h5
      · rename_i hc
        cases hl : look ds φs u with
        | some φ' => simpa [hl] using h5
        | none =>
          exfalso
          have hmem : u ∈ dsts l.toArray := by rw [hdsts]; simpa using hc
          obtain ⟨j, oj, hj, hdj⟩ := mem_dsts.1 hmem
          obtain ⟨φj, _, _, hj1, _⟩ := asksM_at hO (i := j) (o := oj) (by simpa using hj)
          rw [hat (by simpa using hj) hdj hj1] at hl
          cases hl
      · rename_i hc
        cases hl : look ds φs u with
        | none => exact h5
        | some φ' =>
          exfalso
          refine hc ?_
          have : u ∈ ds.filterMap (fun d => d) := by
            clear hc h5
            have aux : ∀ {ds : List (Option Tmp)} {φs : List (Value → World → Prop)}, look ds φs u = some φ' → some u ∈ ds := by
              intro ds
              induction ds with
              | nil => intro φs h; cases φs <;> cases h
              | cons d ds ih =>
                intro φs h
                cases φs with
                | nil => cases d <;> cases h
                | cons φ φs =>
                  cases d with
                  | none => exact List.mem_cons_of_mem _ (ih h)
                  | some d =>
                    unfold look at h
                    cases hb : Nat.beq d u
                    · rw [hb] at h; exact List.mem_cons_of_mem _ (ih h)
                    · have e : d = u := Nat.eq_of_beq_eq_true hb
                      rw [e]; exact List.mem_cons_self
            exact List.mem_filterMap.2 ⟨some u, aux hl, rfl⟩
          simpa using this)
    cases hd : o.dst with
    | none =>
      have e : ∀ v W, dstPost (fun t => (look ds φs t).getD (fun _ _ => True)) o v W := fun v W => by simp [dstPost, hd]
      generalize (execOp A.eval o).run P W = r at h4
      cases r with
      | ok nx W' =>
        cases nx <;> simp only [RelUpon] at h4 ⊢
        case value v => exact ⟨h4.1, e _ _⟩
        case skip => exact ⟨h4.1, e _ _⟩
        case enter f args => exact h4.mono fun _ _ ⟨v, h5, h6, _⟩ => ⟨v, h5, h6, e _ _⟩
      | halt x W' => simp only [RelUpon] at h4
    | some d =>
      have e : dstPost (fun t => (look ds φs t).getD (fun _ _ => True)) o = φ := by
        funext v W
        simp [dstPost, hd, hat hi hd h1]
      rw [e]; exact h4
  · intro f W hFW hall
    refine hend f W hFW (ends_of fun i t φ h1 h2 => ?_)
    have h3 := hall t (List.mem_filterMap.2 ⟨some t, List.mem_of_getElem? h1, rfl⟩)
    rw [← hds, List.getElem?_map] at h1
    cases hli : l[i]? with
    | none => rw [hli] at h1; cases h1
    | some o =>
      rw [hli] at h1
      rw [hat hli (by simpa using h1) h2] at h3
      exact h3
end
end Go.RegInv

namespace Go.Proofs.Ytmddnpagfgilcaa
open Go.RowKit Go.Shelf Go.Mem Go.RegInv
attribute [local go_sem] RelUpon_value RelUpon_skip RelUpon_enter BigFrame.eval_const BigFrame.eval_global BigFrame.eval_func

def hardB (v : Int) : Bool := withinB v 0 2000
theorem isHard_any (v : Int) (w : World) : Calls Try.prog 87 #[.int .i64 v] w fun e w' => e = .returned (.bool (hardB v)) ∧ w = w' := by
  have H1 := Lib.hid (fun W => show Calls Try.prog 20 #[.int .i64 v, .int .i64 0, .int .i64 2000] W fun e w' => e = .returned (.bool (hardB v)) ∧ W = w' from within_any v 0 2000 W)
  generalize hardB v = b1 at *
  go_enter Try.func87, Try.ntmps87
  go_wp2_with (go_at_call 20; (with_reducible refine (H1.out _).mono ?_); rintro e w' ⟨rfl, rfl⟩)
  go_ret
  exact ⟨rfl, rfl⟩
end Go.Proofs.Ytmddnpagfgilcaa

namespace Go.Proofs.Ytmddnpagfgilcaa
open Go.RowKit Go.Shelf Go.Mem Go.RegInv
attribute [local go_sem] RelUpon_value RelUpon_skip RelUpon_enter BigFrame.eval_const BigFrame.eval_global BigFrame.eval_func

def CellP (v : Int) : Value → World → Prop := fun u W => ∃ p, u = .pointer (some p) ∧ W.cell? p = some (.int .i64 v)
def SlP (T : TypeId) (cs : Array Value) : Value → World → Prop := fun u W => ∃ q, u = .slice (some ⟨q, 0, none⟩) 1 1 ∧ Blk W q T cs
theorem SlP.ext {T : TypeId} {cs : Array Value} {u : Value} {W W' : World} (h : SlP T cs u W) (k : Ext W W') : SlP T cs u W' := by
  obtain ⟨q, e, hb⟩ := h
  exact ⟨q, e, hb.ext k⟩
theorem CellP.ext {v : Int} {u : Value} {W W' : World} (h : CellP v u W) (k : Ext W W') : CellP v u W' := by
  obtain ⟨p, e, hc⟩ := h
  exact ⟨p, e, k.cell hc⟩

end Go.Proofs.Ytmddnpagfgilcaa

namespace Go.Proofs.Ytmddnpagfgilcaa
open Go.RowKit Go.Shelf Go.Mem Go.RegInv
attribute [local go_sem] RelUpon_value RelUpon_skip RelUpon_enter BigFrame.eval_const BigFrame.eval_global BigFrame.eval_func

theorem lineV_alt (y z : Int × Int) (d : Int) : lineV y z d = lowT (y.2 * (z.1 - d) + z.2 * (d - y.1)) (z.1 - y.1) := by
  unfold lineV
  rw [show y.2 * (z.1 - y.1) + (z.2 - y.2) * (d - y.1) = y.2 * (z.1 - d) + z.2 * (d - y.1) by
    simp only [Int.mul_sub, Int.sub_mul]; omega]
theorem atV_at {ps : List (Int × Int)} {d : Int} {n j : Nat} (hj : j + 1 < n) (hlo : ∀ i, 1 ≤ i → i < j + 1 → (ps.getD i default).1 < d) (hd : d ≤ (ps.getD (j + 1) default).1) : atV ps d n = lineV (ps.getD j default) (ps.getD (j + 1) default) d := by
  have e : atJ ps d (n - 2) 1 = j + 1 := atJ_eq (by omega) (by omega) hlo hd
  unfold atV
  rw [e, Nat.add_sub_cancel]
theorem getD_some {ps : List (Int × Int)} {i : Nat} (h : i < ps.length) : ps[i]? = some (ps.getD i default) := by
  rw [List.getD_eq_getElem?_getD, List.getElem?_eq_getElem h]; rfl

end Go.Proofs.Ytmddnpagfgilcaa

namespace Go.Proofs.Ytmddnpagfgilcaa
open Go.RowKit Go.Shelf Go.Mem Go.RegInv
attribute [local go_sem] RelUpon_value RelUpon_skip RelUpon_enter BigFrame.eval_const BigFrame.eval_global BigFrame.eval_func

theorem low_parts {a b : Int} (hb : 0 < b) : ∃ g : Int, 0 < g ∧ a = g * (lowT a b).1 ∧ b = g * (lowT a b).2 := by
  have h3 : 0 < Nat.gcd a.natAbs b.natAbs := Nat.gcd_pos_of_pos_right _ (by omega)
  have h4 : ((Nat.gcd a.natAbs b.natAbs : Nat) : Int) ∣ b := Int.ofNat_dvd_left.2 (Nat.gcd_dvd_right _ _)
  have h5 : ((Nat.gcd a.natAbs b.natAbs : Nat) : Int) ∣ a := Int.ofNat_dvd_left.2 (Nat.gcd_dvd_left _ _)
  exact ⟨(Nat.gcd a.natAbs b.natAbs : Nat), by omega, (Int.mul_tdiv_cancel' h5).symm, (Int.mul_tdiv_cancel' h4).symm⟩
/-- Where a number lies between the points of a curve. -/
theorem seg_at {ps : List (Int × Int)} {d : Int} {n : Nat} (hn2 : 2 ≤ n) (hin : (ps.getD 0 default).1 ≤ d ∧ d ≤ (ps.getD (n - 1) default).1) :
    ∃ j, j + 1 < n ∧ (ps.getD j default).1 ≤ d ∧ d ≤ (ps.getD (j + 1) default).1 ∧ (∀ i, 1 ≤ i → i < j + 1 → (ps.getD i default).1 < d) ∧ atV ps d n = lineV (ps.getD j default) (ps.getD (j + 1) default) d := by
  obtain ⟨h1, h2, h3, h4⟩ := atJ_bd (ps := ps) (d := d) (n - 2) 1
  obtain ⟨j, hj⟩ : ∃ j, atJ ps d (n - 2) 1 = j + 1 := ⟨atJ ps d (n - 2) 1 - 1, by omega⟩
  rw [hj] at h1 h2 h3 h4
  have hd : d ≤ (ps.getD (j + 1) default).1 := by
    rcases Nat.lt_or_ge (j + 1) (1 + (n - 2)) with h | h
    · exact h4 h
    · rw [show j + 1 = n - 1 by omega]; exact hin.2
  refine ⟨j, by omega, ?_, hd, h3, atV_at (by omega) h3 hd⟩
  rcases Nat.eq_zero_or_pos j with h | h
  · rw [h]; exact hin.1
  · have := h3 j h (by omega); omega
end Go.Proofs.Ytmddnpagfgilcaa

namespace Go.Proofs.Ytmddnpagfgilcaa
open Go.RowKit Go.Shelf Go.Mem Go.RegInv
attribute [local go_sem] RelUpon_value RelUpon_skip RelUpon_enter BigFrame.eval_const BigFrame.eval_global BigFrame.eval_func

theorem lowT_nat (n d : Nat) : lowT (n : Int) (d : Int) = (((n / Nat.gcd n d : Nat) : Int), ((d / Nat.gcd n d : Nat) : Int)) := by
  unfold lowT
  simp only [Int.natAbs_natCast]
  rw [Int.tdiv_eq_ediv_of_nonneg (Int.natCast_nonneg _), Int.tdiv_eq_ediv_of_nonneg (Int.natCast_nonneg _)]
  rfl
theorem low_coprime {n d : Nat} (h : 0 < d) : Nat.gcd (n / Nat.gcd n d) (d / Nat.gcd n d) = 1 := by
  have := Nat.gcd_pos_of_pos_right n h
  rw [Nat.gcd_div (Nat.gcd_dvd_left n d) (Nat.gcd_dvd_right n d), Nat.div_self this]
theorem low_pos {n d : Nat} (h : 0 < d) : 0 < d / Nat.gcd n d := Nat.div_pos (Nat.le_of_dvd h (Nat.gcd_dvd_right n d)) (Nat.gcd_pos_of_pos_right n h)
/-- Cmp's answer. -/
def cmpV (x y : Int) : Int := if x < y then -1 else if y < x then 1 else 0
set_option maxRecDepth 100000 in
set_option maxHeartbeats 1000000 in
theorem cmp_any (a b c d : Int) (w : World) (h1 : -9000000000000000000 ≤ a * d ∧ a * d ≤ 9000000000000000000) (h2 : -9000000000000000000 ≤ c * b ∧ c * b ≤ 9000000000000000000) :
    Calls Try.prog 29 #[.agg #[.int .i64 a, .int .i64 b], .agg #[.int .i64 c, .int .i64 d]] w fun e w' => e = .returned (.int .i64 (cmpV (a * d) (c * b))) ∧ Ext w w' := by
  obtain ⟨W0, hW0⟩ : ∃ W0, W0 = (w.alloc (.cells #[.int .i64 a, .int .i64 b] 32)).alloc (.cells #[.int .i64 c, .int .i64 d] 32) := ⟨_, rfl⟩
  have k0 : Blk W0 w.heap.size 32 #[.int .i64 a, .int .i64 b] := by rw [hW0]; exact (Blk.new _ _ _).alloc _
  have k1 : Blk W0 (w.heap.size + 1) 32 #[.int .i64 c, .int .i64 d] := by rw [hW0]; exact Blk.newAt _ _ _ (by simp)
  have E0 := Lib.hid (show Ext w W0 by rw [hW0]; exact (Ext.alloc _ _).trans (Ext.alloc _ _))
  have y0 : W0.cell? ⟨w.heap.size, 0, none⟩ = some (.int .i64 (a)) := k0.cell 0
  have y1 : W0.cell? ⟨w.heap.size, 1, none⟩ = some (.int .i64 (b)) := k0.cell 1
  have y2 : W0.cell? ⟨w.heap.size + 1, 0, none⟩ = some (.int .i64 (c)) := k1.cell 0
  have y3 : W0.cell? ⟨w.heap.size + 1, 1, none⟩ = some (.int .i64 (d)) := k1.cell 1
  clear k0 k1
  obtain ⟨h3, h4⟩ := h1
  obtain ⟨h5, h6⟩ := h2
  go_enter Try.func29, Try.ntmps29
  go_wp2
  rw [← hW0]
  clear hW0
  go_wp2
  refine wp_region_each [some 7, some 8, some 9, some 10, some 11, some 12, some 13, some 14, some 15, some 16, some 5, some 6] [[2], [7], [3], [9], [8, 10], [3], [12], [2], [14], [13, 15], [11], [16]]
    [Is (.pointer (some ⟨w.heap.size, 0, none⟩)), Is (.int .i64 (a)), Is (.pointer (some ⟨w.heap.size + 1, 1, none⟩)), Is (.int .i64 (d)), Is (.int .i64 (a * d)), Is (.pointer (some ⟨w.heap.size + 1, 0, none⟩)), Is (.int .i64 (c)), Is (.pointer (some ⟨w.heap.size, 1, none⟩)), Is (.int .i64 (b)), Is (.int .i64 (c * b)), Is (.int .i64 (a * d)), Is (.int .i64 (c * b))]
    (by kernel_rfl) (by kernel_rfl) (by kernel_rfl) (by kernel_rfl) (by kernel_rfl) Ext (fun W => Ext W0 W)
    (fun W _ => Ext.refl W) (fun W W' h k => h.trans k) ?_ (Ext.drew _) ?_ ?_
  · repeat (refine ⟨fun _ _ _ _ k h => (by first | exact h | exact (IntsAt.ext h k)), ?_⟩)
    exact trivial
  · refine ⟨?_, ?_, ?_, ?_, ?_, ?_, ?_, ?_, ?_, ?_, ?_, ?_, trivial⟩
    all_goals intro ρ W ⟨kc, kg, kf⟩ hF hs
    · obtain ⟨h0, -⟩ := hs
      replace h0 : ρ (.tmp 2) = .pointer (some ⟨w.heap.size, 0, none⟩) := h0
      go_simp
      exact ⟨Ext.refl _, rfl⟩
    · obtain ⟨h0, -⟩ := hs
      replace h0 : ρ (.tmp 7) = .pointer (some ⟨w.heap.size, 0, none⟩) := h0
      have hc0 : W.cell? ⟨w.heap.size, 0, none⟩ = some (.int .i64 (a)) := hF.cell (by assumption)
      go_simp
      exact ⟨Ext.refl _, rfl⟩
    · obtain ⟨h0, -⟩ := hs
      replace h0 : ρ (.tmp 3) = .pointer (some ⟨w.heap.size + 1, 0, none⟩) := h0
      go_simp
      exact ⟨Ext.refl _, rfl⟩
    · obtain ⟨h0, -⟩ := hs
      replace h0 : ρ (.tmp 9) = .pointer (some ⟨w.heap.size + 1, 1, none⟩) := h0
      have hc0 : W.cell? ⟨w.heap.size + 1, 1, none⟩ = some (.int .i64 (d)) := hF.cell (by assumption)
      go_simp
      exact ⟨Ext.refl _, rfl⟩
    · obtain ⟨h0, h1, -⟩ := hs
      replace h0 : ρ (.tmp 8) = .int .i64 (a) := h0
      replace h1 : ρ (.tmp 10) = .int .i64 (d) := h1
      have hw : IntKind.i64.wrap (a * d) = a * d := wrap_id _ (by omega) (by omega)
      go_simp
      exact ⟨Ext.refl _, rfl⟩
    · obtain ⟨h0, -⟩ := hs
      replace h0 : ρ (.tmp 3) = .pointer (some ⟨w.heap.size + 1, 0, none⟩) := h0
      go_simp
      exact ⟨Ext.refl _, rfl⟩
    · obtain ⟨h0, -⟩ := hs
      replace h0 : ρ (.tmp 12) = .pointer (some ⟨w.heap.size + 1, 0, none⟩) := h0
      have hc0 : W.cell? ⟨w.heap.size + 1, 0, none⟩ = some (.int .i64 (c)) := hF.cell (by assumption)
      go_simp
      exact ⟨Ext.refl _, rfl⟩
    · obtain ⟨h0, -⟩ := hs
      replace h0 : ρ (.tmp 2) = .pointer (some ⟨w.heap.size, 0, none⟩) := h0
      go_simp
      exact ⟨Ext.refl _, rfl⟩
    · obtain ⟨h0, -⟩ := hs
      replace h0 : ρ (.tmp 14) = .pointer (some ⟨w.heap.size, 1, none⟩) := h0
      have hc0 : W.cell? ⟨w.heap.size, 1, none⟩ = some (.int .i64 (b)) := hF.cell (by assumption)
      go_simp
      exact ⟨Ext.refl _, rfl⟩
    · obtain ⟨h0, h1, -⟩ := hs
      replace h0 : ρ (.tmp 13) = .int .i64 (c) := h0
      replace h1 : ρ (.tmp 15) = .int .i64 (b) := h1
      have hw : IntKind.i64.wrap (c * b) = c * b := wrap_id _ (by omega) (by omega)
      go_simp
      exact ⟨Ext.refl _, rfl⟩
    · obtain ⟨h0, -⟩ := hs
      replace h0 : ρ (.tmp 11) = .int .i64 (a * d) := h0
      go_simp
      exact ⟨Ext.refl _, rfl⟩
    · obtain ⟨h0, -⟩ := hs
      replace h0 : ρ (.tmp 16) = .int .i64 (c * b) := h0
      go_simp
      exact ⟨Ext.refl _, rfl⟩
  · intro fv W hF hs
    obtain ⟨-, -, -, -, -, -, -, -, -, -, h5, h6, -⟩ := hs
    replace h5 : fv 5 = .int .i64 (a * d) := h5
    replace h6 : fv 6 = .int .i64 (c * b) := h6
    simp only [fin, List.filterMap]
    go_simp
    have X1 := Lib.hid (E0.out.trans hF)
    clear hF y0 y1 y2 y3
    have HV := Lib.hid (show cmpV (a * d) (c * b) = if a * d < c * b then -1 else if c * b < a * d then 1 else 0 from rfl)
    by_cases l1 : a * d < c * b
    · have Z := Lib.hid (HV.out.trans (if_pos l1))
      go_wp2
      go_ret
      exact ⟨ret_int Z.out.symm, X1.out⟩
    · by_cases l2 : c * b < a * d
      · have Z := Lib.hid ((HV.out.trans (if_neg l1)).trans (if_pos l2))
        go_wp2
        go_ret
        exact ⟨ret_int Z.out.symm, X1.out⟩
      · have Z := Lib.hid ((HV.out.trans (if_neg l1)).trans (if_neg l2))
        go_wp2
        go_ret
        exact ⟨ret_int Z.out.symm, X1.out⟩
set_option maxRecDepth 100000 in
set_option maxHeartbeats 1000000 in
theorem isSmall_ok (a b : Int) (w : World) (h1 : -1000000000 ≤ a ∧ a ≤ 1000000000) (h2 : 1 ≤ b ∧ b ≤ 1000000000) : Calls Try.prog 31 #[.agg #[.int .i64 a, .int .i64 b]] w fun e w' => e = .returned (.bool true) ∧ Ext w w' := by
  have H1 := Lib.hid (fun W => show Calls Try.prog 20 #[.int .i64 a, .int .i64 (-1000000000), .int .i64 1000000000] W fun e w' => e = .returned (.bool true) ∧ W = w' from by
    have := within_any a (-1000000000) 1000000000 W
    rw [withinB_eq, decide_eq_true h1] at this
    exact this)
  have H2 := Lib.hid (fun W => show Calls Try.prog 20 #[.int .i64 b, .int .i64 1, .int .i64 1000000000] W fun e w' => e = .returned (.bool true) ∧ W = w' from by
    have := within_any b 1 1000000000 W
    rw [withinB_eq, decide_eq_true h2] at this
    exact this)
  clear h1 h2
  go_enter Try.func31, Try.ntmps31
  go_wp2_with (first
    | (go_at_call 20; (with_reducible refine (H1.out _).mono ?_); rintro e w' ⟨rfl, rfl⟩)
    | (go_at_call 20; (with_reducible refine (H2.out _).mono ?_); rintro e w' ⟨rfl, rfl⟩))
  go_ret
  exact ⟨rfl, Ext.alloc _ _⟩
set_option maxRecDepth 100000 in
set_option maxHeartbeats 1000000 in
theorem isLowest_ok (a b : Int) (w : World) (h1 : -1000000000 ≤ a ∧ a ≤ 1000000000) (h2 : 1 ≤ b ∧ b ≤ 1000000000) (hg : Nat.gcd a.natAbs b.natAbs = 1) : Calls Try.prog 68 #[.agg #[.int .i64 a, .int .i64 b]] w fun e w' => e = .returned (.bool true) ∧ Ext w w' := by
  have H1 := Lib.hid (fun W => show Calls Try.prog 111 #[.int .i64 a, .int .i64 b] W fun e w' => e = .returned (.int .i64 1) ∧ Ext W w' from by
    have := gcd_any a b (by unfold Big; omega) (by unfold Big; omega) W
    rw [hg] at this
    exact this)
  have hb : 0 < b := by omega
  clear h1 h2 hg
  go_enter Try.func68, Try.ntmps68
  go_wp2_with (go_at_call 111; refine (H1.out _).mono ?_; rintro e W1 ⟨rfl, hx⟩; have X1 := Lib.hid ((Ext.alloc _ _).trans hx); clear hx)
  go_ret
  exact ⟨rfl, X1.out⟩

end Go.Proofs.Ytmddnpagfgilcaa

namespace Go.Proofs.Ytmddnpagfgilcaa
open Go.RowKit Go.Shelf Go.Mem Go.RegInv
attribute [local go_sem] RelUpon_value RelUpon_skip RelUpon_enter BigFrame.eval_const BigFrame.eval_global BigFrame.eval_func

/-- Where a curve falls below a limit, before it is reduced. -/
def fallQ (ps : List (Int × Int)) (l : Int) (i : Nat) : Int × Int :=
  if i = 0 then ((ps.getD 0 default).1, 1)
  else ((ps.getD (i - 1) default).1 * ((ps.getD (i - 1) default).2 - (ps.getD i default).2) + ((ps.getD (i - 1) default).2 - l) * ((ps.getD i default).1 - (ps.getD (i - 1) default).1), (ps.getD (i - 1) default).2 - (ps.getD i default).2)
theorem fall_spec {ps : List (Int × Int)} {l : Int} {q : Int × Int} : ∀ {f k : Nat}, fallK ps l f k = some q → (∀ m, m < k → l ≤ (ps.getD m default).2) → ∃ i, k ≤ i ∧ i < k + f ∧ (ps.getD i default).2 < l ∧ (∀ m, m < i → l ≤ (ps.getD m default).2) ∧ q = lowT (fallQ ps l i).1 (fallQ ps l i).2
  | 0, k, h, _ => by cases h
  | f + 1, k, h, hb => by
    rw [fallK] at h
    by_cases hl : l ≤ (ps.getD k default).2
    · rw [if_pos hl] at h
      obtain ⟨i, h1, h2, h3, h4, h5⟩ := fall_spec h (fun m hm => by
        rcases Nat.lt_or_ge m k with h | h
        · exact hb m h
        · rw [show m = k by omega]; exact hl)
      exact ⟨i, by omega, by omega, h3, h4, h5⟩
    · rw [if_neg hl] at h
      refine ⟨k, Nat.le_refl _, by omega, by omega, hb, ?_⟩
      unfold fallQ
      by_cases hk : k = 0
      · rw [if_pos hk] at h ⊢
        subst hk
        exact (Option.some.inj h).symm
      · rw [if_neg hk] at h ⊢
        exact (Option.some.inj h).symm
/-- A curve whose depths ascend. -/
structure Asc (ps : List (Int × Int)) (n : Nat) : Prop where
  n2 : 1 ≤ n
  u : ∀ i j, i < j → j < n → (ps.getD i default).1 < (ps.getD j default).1
theorem Asc.le {ps : List (Int × Int)} {n : Nat} (A : Asc ps n) {i j : Nat} (h : i ≤ j) (hj : j < n) : (ps.getD i default).1 ≤ (ps.getD j default).1 := by
  rcases Nat.lt_or_ge i j with h1 | h1
  · exact Int.le_of_lt (A.u i j h1 hj)
  · rw [show i = j by omega]; exact Int.le_refl _
theorem fallQ_pos {ps : List (Int × Int)} {l : Int} {n i : Nat} (_hi : i < n) (h1 : (ps.getD i default).2 < l) (h2 : ∀ m, m < i → l ≤ (ps.getD m default).2) : 0 < (fallQ ps l i).2 := by
  unfold fallQ
  by_cases h : i = 0
  · rw [if_pos h]; exact Int.one_pos
  · rw [if_neg h]
    have := h2 (i - 1) (by omega)
    dsimp only
    omega
/-- It lies between the two depths. -/
theorem fallQ_bds {ps : List (Int × Int)} {l : Int} {n i : Nat} (A : Asc ps n) (hi : i < n) (h1 : (ps.getD i default).2 < l) (h2 : ∀ m, m < i → l ≤ (ps.getD m default).2) :
    (ps.getD (i - 1) default).1 * (fallQ ps l i).2 ≤ (fallQ ps l i).1 ∧ (fallQ ps l i).1 ≤ (ps.getD i default).1 * (fallQ ps l i).2 := by
  unfold fallQ
  by_cases h : i = 0
  · rw [if_pos h, h]; dsimp only; simp
  · rw [if_neg h]
    have h3 := h2 (i - 1) (by omega)
    have h4 := A.u (i - 1) i (by omega) hi
    generalize ps.getD (i - 1) default = a at *
    generalize ps.getD i default = b at *
    dsimp only
    have e1 : 0 ≤ (a.2 - l) * (b.1 - a.1) := Int.mul_nonneg (by omega) (by omega)
    have e2 : (a.2 - l) * (b.1 - a.1) ≤ (a.2 - b.2) * (b.1 - a.1) := Int.mul_le_mul_of_nonneg_right (by omega) (by omega)
    refine ⟨by omega, ?_⟩
    have e3 : b.1 * (a.2 - b.2) = a.1 * (a.2 - b.2) + (a.2 - b.2) * (b.1 - a.1) := by grind
    omega
theorem low_cmp {a b c d : Int} (hb : 0 < b) (hd : 0 < d) (h : a * d ≤ c * b) : (lowT a b).1 * (lowT c d).2 ≤ (lowT c d).1 * (lowT a b).2 := by
  obtain ⟨g, hg, h1, h2⟩ := low_parts (a := a) hb
  obtain ⟨k, hk, h3, h4⟩ := low_parts (a := c) hd
  generalize lowT a b = p at *
  generalize lowT c d = q at *
  rw [h1, h2, h3, h4] at h
  have e1 : g * p.1 * (k * q.2) = (g * k) * (p.1 * q.2) := by grind
  have e2 : k * q.1 * (g * p.2) = (g * k) * (q.1 * p.2) := by grind
  rw [e1, e2] at h
  exact Int.le_of_mul_le_mul_left h (Int.mul_pos hg hk)
/-- A curve that lies nowhere higher above its limit falls no later. -/
theorem fall_le {ps qs : List (Int × Int)} {l l' : Int} {n : Nat} (A : Asc ps n) (hd : ∀ i, i < n → (ps.getD i default).1 = (qs.getD i default).1) (hv : ∀ i, i < n → (ps.getD i default).2 - l ≤ (qs.getD i default).2 - l')
    {p q : Int × Int} (hp : fallK ps l n 0 = some p) (hq : fallK qs l' n 0 = some q) : p.1 * q.2 ≤ q.1 * p.2 := by
  have B : Asc qs n := ⟨A.n2, fun i j h1 h2 => by rw [← hd i (by omega), ← hd j h2]; exact A.u i j h1 h2⟩
  obtain ⟨i, -, hi, p1, p2, rfl⟩ := fall_spec hp (fun m h => by omega)
  obtain ⟨j, -, hj, q1, q2, rfl⟩ := fall_spec hq (fun m h => by omega)
  have hi : i < n := by omega
  have hj : j < n := by omega
  have P := fallQ_pos hi p1 p2
  have Q := fallQ_pos hj q1 q2
  have bp := fallQ_bds A hi p1 p2
  have bq := fallQ_bds B hj q1 q2
  have hij : i ≤ j := by
    rcases Nat.lt_or_ge j i with h | h
    · have h1 := p2 j h
      have h2 := hv j hj
      omega
    · exact h
  refine low_cmp P Q ?_
  rcases Nat.lt_or_ge i j with h | h
  · -- it falls in an earlier stretch
    have h1 := B.le (i := i) (j := j - 1) (by omega) (by omega)
    rw [← hd i hi] at h1
    generalize fallQ ps l i = x at *
    generalize fallQ qs l' j = y at *
    generalize (ps.getD i default).1 = d at *
    generalize (qs.getD (j - 1) default).1 = e at *
    have e1 : x.1 * y.2 ≤ d * x.2 * y.2 := Int.mul_le_mul_of_nonneg_right bp.2 (by omega)
    have e2 : d * y.2 ≤ e * y.2 := Int.mul_le_mul_of_nonneg_right h1 (by omega)
    have e3 : d * y.2 * x.2 ≤ y.1 * x.2 := Int.mul_le_mul_of_nonneg_right (by omega) (by omega)
    have e4 : d * x.2 * y.2 = d * y.2 * x.2 := by grind
    omega
  · obtain rfl : i = j := by omega
    unfold fallQ
    by_cases h0 : i = 0
    · rw [if_pos h0, if_pos h0, hd 0 (by omega)]; exact Int.le_refl _
    · rw [if_neg h0, if_neg h0]
      have a1 := p2 (i - 1) (by omega)
      have a2 := q2 (i - 1) (by omega)
      have v1 := hv (i - 1) (by omega)
      have v2 := hv i hi
      have d1 := hd (i - 1) (by omega)
      have d2 := hd i hi
      have hw := A.u (i - 1) i (by omega) hi
      generalize ps.getD (i - 1) default = a at *
      generalize ps.getD i default = b at *
      generalize qs.getD (i - 1) default = c at *
      generalize qs.getD i default = e at *
      dsimp only
      rw [← d1, ← d2]
      have e1 : (a.2 - l) * (l' - e.2) ≤ (c.2 - l') * (l - b.2) := Int.mul_le_mul (by omega) (by omega) (by omega) (by omega)
      have e2 : (b.1 - a.1) * ((a.2 - l) * (l' - e.2)) ≤ (b.1 - a.1) * ((c.2 - l') * (l - b.2)) := Int.mul_le_mul_of_nonneg_left e1 (by omega)
      have e3 : (a.1 * (c.2 - e.2) + (c.2 - l') * (b.1 - a.1)) * (a.2 - b.2) - (a.1 * (a.2 - b.2) + (a.2 - l) * (b.1 - a.1)) * (c.2 - e.2) = (b.1 - a.1) * ((c.2 - l') * (l - b.2)) - (b.1 - a.1) * ((a.2 - l) * (l' - e.2)) := by grind
      omega
/-- Where it falls: within the depths, as a reduced fraction. -/
theorem fall_in {ps : List (Int × Int)} {l : Int} {n : Nat} (A : Asc ps n) {p : Int × Int} (hp : fallK ps l n 0 = some p) :
    0 < p.2 ∧ (ps.getD 0 default).1 * p.2 ≤ p.1 ∧ p.1 ≤ (ps.getD (n - 1) default).1 * p.2 := by
  obtain ⟨i, -, hi, p1, p2, rfl⟩ := fall_spec hp (fun m h => by omega)
  have hi : i < n := by omega
  have P := fallQ_pos hi p1 p2
  have bp := fallQ_bds A hi p1 p2
  have h1 := A.le (i := 0) (j := i - 1) (by omega) (by omega)
  have h2 := A.le (i := i) (j := n - 1) (by omega) (by omega)
  obtain ⟨g, hg, e1, e2⟩ := low_parts (a := (fallQ ps l i).1) P
  generalize lowT (fallQ ps l i).1 (fallQ ps l i).2 = x at *
  generalize fallQ ps l i = q at *
  generalize (ps.getD (i - 1) default).1 = d at *
  generalize (ps.getD i default).1 = e at *
  generalize (ps.getD 0 default).1 = d0 at *
  generalize (ps.getD (n - 1) default).1 = dn at *
  have e3 : d0 * q.2 ≤ d * q.2 := Int.mul_le_mul_of_nonneg_right h1 (by omega)
  have e4 : e * q.2 ≤ dn * q.2 := Int.mul_le_mul_of_nonneg_right h2 (by omega)
  have hx : 0 < x.2 := by
    rcases Int.lt_or_le 0 x.2 with h | h
    · exact h
    · have := Int.mul_nonneg (show 0 ≤ g by omega) (show 0 ≤ -x.2 by omega)
      rw [Int.mul_neg] at this
      omega
  refine ⟨hx, ?_, ?_⟩
  · refine Int.le_of_mul_le_mul_left (a := g) ?_ hg
    have : g * (d0 * x.2) = d0 * (g * x.2) := by grind
    rw [this, ← e2, ← e1]; omega
  · refine Int.le_of_mul_le_mul_left (a := g) ?_ hg
    have : g * (dn * x.2) = dn * (g * x.2) := by grind
    rw [this, ← e2, ← e1]; omega
/-- Just before it falls the curve still has the limit (but at its first depth). -/
theorem fall_val {ps : List (Int × Int)} {l d : Int} {n : Nat} (hn2 : 2 ≤ n) (A : Asc ps n) {p : Int × Int} (hp : fallK ps l n 0 = some p) (hd0 : (ps.getD 0 default).1 < d) (hdn : d ≤ (ps.getD (n - 1) default).1) (hdp : d * p.2 ≤ p.1) :
    l * (atV ps d n).2 ≤ (atV ps d n).1 := by
  obtain ⟨i, -, hi, p1, p2, rfl⟩ := fall_spec hp (fun m h => by omega)
  have hi : i < n := by omega
  have P := fallQ_pos hi p1 p2
  have bp := fallQ_bds A hi p1 p2
  -- d is no deeper than where it falls, not reduced
  have hdq : d * (fallQ ps l i).2 ≤ (fallQ ps l i).1 := by
    obtain ⟨g, hg, e1, e2⟩ := low_parts (a := (fallQ ps l i).1) P
    generalize lowT (fallQ ps l i).1 (fallQ ps l i).2 = x at *
    rw [e1, e2]
    have := Int.mul_le_mul_of_nonneg_left hdp (show 0 ≤ g by omega)
    have e3 : g * (d * x.2) = d * (g * x.2) := by grind
    omega
  obtain ⟨j, hj, j1, j2, j3, j4⟩ := seg_at hn2 ⟨Int.le_of_lt hd0, hdn⟩
  rw [j4, lineV_alt]
  have hw := A.u j (j + 1) (by omega) hj
  have key : l * ((ps.getD (j + 1) default).1 - (ps.getD j default).1) ≤ (ps.getD j default).2 * ((ps.getD (j + 1) default).1 - d) + (ps.getD (j + 1) default).2 * (d - (ps.getD j default).1) := by
    rcases Nat.lt_trichotomy (j + 1) i with h | h | h
    · have a1 := p2 j (by omega)
      have a2 := p2 (j + 1) h
      generalize ps.getD j default = y at *
      generalize ps.getD (j + 1) default = z at *
      have e1 : l * (z.1 - d) ≤ y.2 * (z.1 - d) := Int.mul_le_mul_of_nonneg_right a1 (by omega)
      have e2 : l * (d - y.1) ≤ z.2 * (d - y.1) := Int.mul_le_mul_of_nonneg_right a2 (by omega)
      have e3 : l * (z.1 - y.1) = l * (z.1 - d) + l * (d - y.1) := by grind
      omega
    · subst h
      unfold fallQ at hdq
      rw [if_neg (by omega), Nat.add_sub_cancel] at hdq
      generalize ps.getD j default = y at *
      generalize ps.getD (j + 1) default = z at *
      dsimp only at hdq
      have e3 : y.2 * (z.1 - d) + z.2 * (d - y.1) - l * (z.1 - y.1) = y.1 * (y.2 - z.2) + (y.2 - l) * (z.1 - y.1) - d * (y.2 - z.2) := by grind
      omega
    · exfalso
      have h5 : d ≤ (ps.getD i default).1 := by
        have h6 := bp.2
        refine Int.le_of_mul_le_mul_right (a := (fallQ ps l i).2) ?_ P
        omega
      rcases Nat.eq_zero_or_pos j with h0 | h0
      · have : i = 0 := by omega
        rw [this] at h5; omega
      · have h6 := j3 j h0 (by omega)
        have h7 := A.le (i := i) (j := j) (by omega) (by omega)
        omega
  have P2 : 0 < (ps.getD (j + 1) default).1 - (ps.getD j default).1 := by omega
  generalize (ps.getD j default).2 * ((ps.getD (j + 1) default).1 - d) + (ps.getD (j + 1) default).2 * (d - (ps.getD j default).1) = nn at *
  generalize (ps.getD (j + 1) default).1 - (ps.getD j default).1 = dd at *
  obtain ⟨g, hg, e1, e2⟩ := low_parts (a := nn) P2
  generalize lowT nn dd = x at *
  refine Int.le_of_mul_le_mul_left (a := g) ?_ hg
  have e3 : g * (l * x.2) = l * (g * x.2) := by grind
  rw [e3, ← e2, ← e1]
  exact key

end Go.Proofs.Ytmddnpagfgilcaa

namespace Go.Proofs.Ytmddnpagfgilcaa
open Go.RowKit Go.Shelf Go.Mem Go.RegInv
attribute [local go_sem] RelUpon_value RelUpon_skip RelUpon_enter BigFrame.eval_const BigFrame.eval_global BigFrame.eval_func

def exT : List In := [⟨50, 10, 700, 720⟩, ⟨100, 12, 600, 620⟩, ⟨150, 12, 400, 420⟩]
def exX : List Kn := [⟨400, 40, 41⟩, ⟨600, 55, 56⟩, ⟨700, 60, 61⟩]
def exP : List Pr := [⟨0, 0⟩, ⟨1, 0⟩, ⟨2, 3⟩]
theorem rows_flat {α : Type} {enc : α → List Value} {k : Nat} (hk : ∀ x, (enc x).length = k) : ∀ (xs : List α) (i : Nat) (x : α), xs[i]? = some x → ∀ j u, (enc x)[j]? = some u → (xs.flatMap enc)[i * k + j]? = some u
  | [], i, x, h, _, _, _ => by simp at h
  | y :: l, 0, x, h, j, u, hu => by
    obtain rfl : y = x := by simpa using h
    have hj := (List.getElem?_eq_some_iff.1 hu).1
    rw [hk] at hj
    rw [List.flatMap_cons, List.getElem?_append_left (by rw [hk]; omega)]
    simpa using hu
  | y :: l, i + 1, x, h, j, u, hu => by
    rw [List.flatMap_cons, List.getElem?_append_right (by rw [hk, Nat.succ_mul]; omega), hk, show (i + 1) * k + j - k = i * k + j by rw [Nat.succ_mul]; omega]
    exact rows_flat hk l i x (by simpa using h) j u hu
theorem own_rows {α : Type} {enc : α → List Value} {W : World} {g k : Nat} {T : TypeId} {cs : Array Value} {xs : List α} (h : Blk W g T cs) (hk : ∀ x, (enc x).length = k) (hc : cs.toList = xs.flatMap enc) (hl : xs.length ≤ 1000) : RowsAt k enc W (some ⟨g, 0, none⟩) xs :=
  ⟨by omega, fun i x hx => ⟨g, 0, rfl, h.lt, fun j u hu => by
    rw [Nat.zero_add, h.cell, ← Array.getElem?_toList, hc]; exact rows_flat hk xs i x hx j u hu⟩⟩
theorem traverse_any (w : World) : Calls Try.prog 70 #[] w fun e w' => ∃ g, e = .returned (.agg #[.slice (some ⟨g, 0, none⟩) 3 3]) ∧ RowsAt 4 In.enc w' (some ⟨g, 0, none⟩) exT ∧ Ext w w' := by
  go_enter Try.func70, Try.ntmps70
  go_wp2
  exact bodyPost_ret (v := .agg #[.slice (some ⟨w.heap.size + 1, 0, none⟩) 3 3]) (by simp [results, Try.f70, go_sem]) rfl ⟨_, rfl, own_rows (Blk.newAt _ _ #[.int .i64 50, .int .i64 10, .int .i64 700, .int .i64 720, .int .i64 100, .int .i64 12, .int .i64 600, .int .i64 620, .int .i64 150, .int .i64 12, .int .i64 400, .int .i64 420] (by simp)) (fun _ => rfl) rfl (by decide), (Ext.alloc _ _).trans (Ext.alloc _ _)⟩
theorem table_any (w : World) : Calls Try.prog 71 #[] w fun e w' => ∃ g, e = .returned (.agg #[.slice (some ⟨g, 0, none⟩) 3 3]) ∧ RowsAt 3 Kn.enc w' (some ⟨g, 0, none⟩) exX ∧ Ext w w' := by
  go_enter Try.func71, Try.ntmps71
  go_wp2
  exact bodyPost_ret (v := .agg #[.slice (some ⟨w.heap.size + 1, 0, none⟩) 3 3]) (by simp [results, Try.f71, go_sem]) rfl ⟨_, rfl, own_rows (Blk.newAt _ _ #[.int .i64 400, .int .i64 40, .int .i64 41, .int .i64 600, .int .i64 55, .int .i64 56, .int .i64 700, .int .i64 60, .int .i64 61] (by simp)) (fun _ => rfl) rfl (by decide), (Ext.alloc _ _).trans (Ext.alloc _ _)⟩
theorem pairs_any (w : World) : Calls Try.prog 73 #[] w fun e w' => ∃ g, e = .returned (.slice (some ⟨g, 0, none⟩) 3 3) ∧ RowsAt 2 Pr.enc w' (some ⟨g, 0, none⟩) exP ∧ Ext w w' := by
  go_enter Try.func73, Try.ntmps73
  go_wp2
  go_ret
  refine ⟨w.heap.size, rfl, own_rows (Blk.new w 162 #[.int .i64 0, .int .i64 0, .int .i64 1, .int .i64 0, .int .i64 2, .int .i64 3]) (fun _ => rfl) rfl (by decide), Ext.alloc _ _⟩
theorem whole_any (n : Int) (w : World) : Calls Try.prog 32 #[.int .i64 n] w fun e w' => e = .returned (.agg #[.int .i64 n, .int .i64 1]) ∧ Ext w w' := by
  go_enter Try.func32, Try.ntmps32
  go_wp2
  exact bodyPost_ret (v := .agg #[.int .i64 n, .int .i64 1]) (by simp [results, Try.f32, go_sem]) rfl ⟨rfl, Ext.alloc _ _⟩
theorem ex1 : caseE exT 550 = 0 ∧ ¬ (exT.getD 0 default).hi < 550 ∧ fallK (upP exT) 550 3 0 = some (235, 2) ∧ fallK (loP exT) 550 3 0 = some (225, 2) := by decide +kernel
theorem ex2 : convE exX 450 600 = 0 ∧ missE (exX.getD 0 default).f (exX.getD 2 default).f 450 600 = 0 ∧ convV exX 450 600 = (43, 56) := by decide +kernel
theorem ex3 : lowF 10 10 50 = 7 ∧ lowG 10 10 50 = 0 := by decide +kernel
theorem ex4 : accV 10 2 0 3 = (7, 15) ∧ accE 10 2 0 3 = 0 := by decide +kernel
theorem ex5 : pairsE exP = 0 ∧ zeroE exP 3 = 0 ∧ 0 < denV 3 (sumK exP 3) ∧ slopeV 3 (sumK exP 3) = (3, 2) ∧ offsV 3 (sumK exP 3) = (-1, 2) ∧ winK exP 3 = (0, 2) ∧ lowT (mostK 3 2 (-1) 2 exP 3) (2 * 2) = (1, 1) := by decide +kernel
theorem ex6 : lowT 225 2 = (225, 2) ∧ lowT 235 2 = (235, 2) ∧ lowT 3 2 = (3, 2) ∧ lowT (-1) 2 = (-1, 2) := by decide +kernel

end Go.Proofs.Ytmddnpagfgilcaa

namespace Go.Proofs.Ytmddnpagfgilcaa
open Go.RowKit Go.Shelf Go.Mem Go.RegInv
attribute [local go_sem] RelUpon_value RelUpon_skip RelUpon_enter BigFrame.eval_const BigFrame.eval_global BigFrame.eval_func

theorem i64w (n : Int) : IntKind.i64.wrap n = wrap64 n := by rw [IntKind.wrap_i64]; unfold wrap64; rfl
theorem indE_eq (b : Bool) (x : In) : indE b x = if withinB x.d 1 10000 = true then (if withinB x.g 1 10000 = true then (if hardB x.lo = true then (if hardB x.hi = true then (if x.hi < x.lo then 9 else if b = true then 17 else 0) else 2) else 2) else 2) else 2 := by
  unfold indE
  rw [show rangeE 1 10000 [x.d, x.g] = if withinB x.d 1 10000 = true then (if withinB x.g 1 10000 = true then 0 else 2) else 2 by
    unfold rangeE errIf withinB outB
    by_cases h1 : 1 ≤ x.d <;> by_cases h2 : x.d ≤ 10000 <;> by_cases h3 : 1 ≤ x.g <;> by_cases h4 : x.g ≤ 10000 <;> simp [h1, h2, h3, h4] <;> omega,
   show rangeE 0 2000 [x.lo, x.hi] = if hardB x.lo = true then (if hardB x.hi = true then 0 else 2) else 2 by
    unfold rangeE errIf hardB withinB outB
    by_cases h1 : 0 ≤ x.lo <;> by_cases h2 : x.lo ≤ 2000 <;> by_cases h3 : 0 ≤ x.hi <;> by_cases h4 : x.hi ≤ 2000 <;> simp [h1, h2, h3, h4] <;> omega]
  cases withinB x.d 1 10000 <;> cases withinB x.g 1 10000 <;> cases hardB x.lo <;> cases hardB x.hi <;> cases b <;> by_cases h : x.hi < x.lo <;> simp [firstE, errIf, h]
theorem checkT_stop {xs : List In} {n k : Nat} {x : In} {v : Int} (hk : k < n) (hx : xs[k]? = some x) (hp : checkT xs = firstAt (indAt xs) (n - k) k) (hv : indE (distK xs k) x = v) (h : v ≠ 0) : checkT xs = ((k : Int), v) := by
  have e : indAt xs k = v := by unfold indAt; rw [show xs.getD k default = x by simp [hx]]; exact hv
  rw [hp, firstAt_step _ hk, e, if_pos h]
theorem checkT_next {xs : List In} {n k : Nat} {x : In} (hk : k < n) (hx : xs[k]? = some x) (hp : checkT xs = firstAt (indAt xs) (n - k) k) (hv : indE (distK xs k) x = 0) : checkT xs = firstAt (indAt xs) (n - (k + 1)) (k + 1) := by
  have e : indAt xs k = 0 := by unfold indAt; rw [show xs.getD k default = x by simp [hx]]; exact hv
  rw [hp, firstAt_step _ hk, e, if_neg (by simp)]
theorem countT_lo {n : Nat} (h : n < 2) : countE n 2 20 = 10 := by
  unfold countE; simp [firstE, errIf]; omega
theorem countT_hi {n : Nat} (h : 20 < n) : countE n 2 20 = 8 := by
  unfold countE; simp [firstE, errIf]; omega
theorem countT_in {n : Nat} (h : 2 ≤ n) (h2 : n ≤ 20) : countE n 2 20 = 0 := by
  unfold countE; simp [firstE, errIf]; omega

set_option maxRecDepth 100000 in
set_option maxHeartbeats 4000000 in
theorem refTraverse_any {A : Option Addr} {n ca : Nat} {xs : List In} {w : World} (hn : xs.length = n) (hn2 : n ≤ 1000) (hA : RowsAt 4 In.enc w A xs) :
    Calls Try.prog 19 #[.agg #[.slice A n ca]] w fun e w' => e = .returned (.tuple #[.int .i64 (checkT xs).1, .int .i64 (checkT xs).2]) ∧ Ext w w' := by
  obtain ⟨W0, hW0⟩ : ∃ W0, W0 = w.alloc (.cells #[.slice A n ca] 24) := ⟨_, rfl⟩
  have K0 := Lib.hid (show Blk W0 w.heap.size 24 #[.slice A n ca] by rw [hW0]; exact Blk.new _ _ _)
  have E0 := Lib.hid (show Ext w W0 by rw [hW0]; exact Ext.alloc _ _)
  have y0 : W0.cell? ⟨w.heap.size, 0, none⟩ = some (.slice A n ca) := K0.out.cell 0
  rcases Nat.lt_or_ge n 2 with hlo | hlo
  · have HC := Lib.hid (show checkT xs = (0, 10) by unfold checkT; rw [hn, countT_lo hlo]; rfl)
    have hlo2 : (n : Int) < 2 := by omega
    clear hA
    go_enter Try.func19, Try.ntmps19
    go_wp2
    rw [← hW0]
    clear hW0
    go_wp2
    go_ret2
    exact ⟨by rw [HC.out]; rfl, E0.out⟩
  have hlo2 : ¬ (n : Int) < 2 := by omega
  rcases Nat.lt_or_ge 20 n with hhi | hhi
  · have HC := Lib.hid (show checkT xs = (0, 8) by unfold checkT; rw [hn, countT_hi hhi]; rfl)
    have hhi2 : (20 : Int) < n := by omega
    clear hA
    go_enter Try.func19, Try.ntmps19
    go_wp2
    rw [← hW0]
    clear hW0
    go_wp2
    go_ret2
    exact ⟨by rw [HC.out]; rfl, E0.out⟩
  have hhi2 : ¬ (20 : Int) < n := by omega
  have HC0 := Lib.hid (show checkT xs = firstAt (indAt xs) n 0 by unfold checkT; rw [hn, countT_in hlo hhi]; rfl)
  have HA := Lib.hid hA
  have HN := Lib.hid hn
  clear hA hn
  go_enter Try.func19, Try.ntmps19
  go_wp2
  rw [← hW0]
  clear hW0
  go_wp2
  clear y0
  go_loopw [4] (fun i wr => ∃ k : Nat, k ≤ n ∧ i = .int .i64 k ∧ Ext W0 wr ∧ checkT xs = firstAt (indAt xs) (n - k) k) (fun i _ => n - (intOf i).toNat)
  case atStart => exact ⟨0, Nat.zero_le _, rfl, Ext.refl _, HC0.out⟩
  case round =>
    obtain ⟨k, hk, rfl, hx, hcx⟩ := hrel
    have X := Lib.hid hx
    have HCX := Lib.hid hcx
    clear hx hcx
    have y0 : wr.cell? ⟨w.heap.size, 0, none⟩ = some (.slice A n ca) := (K0.out.ext X.out).cell 0
    by_cases hlt : k < n
    · obtain ⟨x, hxk⟩ : ∃ x, xs[k]? = some x := ⟨_, List.getElem?_eq_getElem (by have := HN.out; omega)⟩
      obtain ⟨b, o, rfl, hb, hc⟩ := row_at (HA.out.ext (E0.out.trans X.out)) hxk
      have p0 : wr.cell? ⟨b, o + k * 4, none⟩ = some (.int .i64 x.d) := hc 0 _ rfl
      have p1 : wr.cell? ⟨b, o + k * 4 + 1, none⟩ = some (.int .i64 x.g) := hc 1 _ rfl
      have p2 : wr.cell? ⟨b, o + k * 4 + 2, none⟩ = some (.int .i64 x.lo) := hc 2 _ rfl
      have p3 : wr.cell? ⟨b, o + k * 4 + 3, none⟩ = some (.int .i64 x.hi) := hc 3 _ rfl
      have HX := Lib.hid hxk
      clear hb hc hxk
      have hlt2 : (k : Int) < (n : Int) := by omega
      have hbk : ((k : Int)).toNat = k := by omega
      have HKE := Lib.hid (indE_eq (distK xs k) x)
      have H1 := Lib.hid (fun W => within_any x.d 1 10000 W)
      have H2 := Lib.hid (fun W => within_any x.g 1 10000 W)
      have H3 := Lib.hid (fun W => isHard_any x.lo W)
      have H4 := Lib.hid (fun W => isHard_any x.hi W)
      generalize withinB x.d 1 10000 = b1 at *
      generalize withinB x.g 1 10000 = b2 at *
      generalize hardB x.lo = b3 at *
      generalize hardB x.hi = b4 at *
      cases b1 with
      | false =>
        have HC := Lib.hid (checkT_stop (v := 2) hlt HX.out HCX.out (by rw [HKE.out]; rfl) (by decide))
        clear HKE
        go_wp2_with (first
          | (go_at_call 20; (with_reducible refine (H1.out _).mono ?_); rintro e w' ⟨rfl, rfl⟩)
          | (go_at_call 20; (with_reducible refine (H2.out _).mono ?_); rintro e w' ⟨rfl, rfl⟩)
          | (go_at_call 87; (with_reducible refine (H3.out _).mono ?_); rintro e w' ⟨rfl, rfl⟩)
          | (go_at_call 87; (with_reducible refine (H4.out _).mono ?_); rintro e w' ⟨rfl, rfl⟩))
        go_ret2
        exact ⟨by rw [HC.out]; rfl, E0.out.trans (X.out.trans (Ext.alloc wr (.cells #[.int .i64 x.d, .int .i64 x.g, .int .i64 x.lo, .int .i64 x.hi] 43)))⟩
      | true =>
        cases b2 with
        | false =>
          have HC := Lib.hid (checkT_stop (v := 2) hlt HX.out HCX.out (by rw [HKE.out]; rfl) (by decide))
          clear HKE
          go_wp2_with (first
            | (go_at_call 20; (with_reducible refine (H1.out _).mono ?_); rintro e w' ⟨rfl, rfl⟩)
            | (go_at_call 20; (with_reducible refine (H2.out _).mono ?_); rintro e w' ⟨rfl, rfl⟩)
            | (go_at_call 87; (with_reducible refine (H3.out _).mono ?_); rintro e w' ⟨rfl, rfl⟩)
            | (go_at_call 87; (with_reducible refine (H4.out _).mono ?_); rintro e w' ⟨rfl, rfl⟩))
          go_ret2
          exact ⟨by rw [HC.out]; rfl, E0.out.trans (X.out.trans (Ext.alloc wr (.cells #[.int .i64 x.d, .int .i64 x.g, .int .i64 x.lo, .int .i64 x.hi] 43)))⟩
        | true =>
          cases b3 with
          | false =>
            have HC := Lib.hid (checkT_stop (v := 2) hlt HX.out HCX.out (by rw [HKE.out]; rfl) (by decide))
            clear HKE
            go_wp2_with (first
              | (go_at_call 20; (with_reducible refine (H1.out _).mono ?_); rintro e w' ⟨rfl, rfl⟩)
              | (go_at_call 20; (with_reducible refine (H2.out _).mono ?_); rintro e w' ⟨rfl, rfl⟩)
              | (go_at_call 87; (with_reducible refine (H3.out _).mono ?_); rintro e w' ⟨rfl, rfl⟩)
              | (go_at_call 87; (with_reducible refine (H4.out _).mono ?_); rintro e w' ⟨rfl, rfl⟩))
            go_ret2
            exact ⟨by rw [HC.out]; rfl, E0.out.trans (X.out.trans (Ext.alloc wr (.cells #[.int .i64 x.d, .int .i64 x.g, .int .i64 x.lo, .int .i64 x.hi] 43)))⟩
          | true =>
            cases b4 with
            | false =>
              have HC := Lib.hid (checkT_stop (v := 2) hlt HX.out HCX.out (by rw [HKE.out]; rfl) (by decide))
              clear HKE
              go_wp2_with (first
                | (go_at_call 20; (with_reducible refine (H1.out _).mono ?_); rintro e w' ⟨rfl, rfl⟩)
                | (go_at_call 20; (with_reducible refine (H2.out _).mono ?_); rintro e w' ⟨rfl, rfl⟩)
                | (go_at_call 87; (with_reducible refine (H3.out _).mono ?_); rintro e w' ⟨rfl, rfl⟩)
                | (go_at_call 87; (with_reducible refine (H4.out _).mono ?_); rintro e w' ⟨rfl, rfl⟩))
              go_ret2
              exact ⟨by rw [HC.out]; rfl, E0.out.trans (X.out.trans (Ext.alloc wr (.cells #[.int .i64 x.d, .int .i64 x.g, .int .i64 x.lo, .int .i64 x.hi] 43)))⟩
            | true =>
              have HK := Lib.hid (show indE (distK xs k) x = if x.hi < x.lo then 9 else if distK xs k = true then 17 else 0 by rw [HKE.out]; rfl)
              clear HKE
              by_cases hA : x.hi < x.lo
              · have HC := Lib.hid (checkT_stop (v := 9) hlt HX.out HCX.out (by rw [HK.out, if_pos hA]) (by decide))
                clear HK
                go_wp2_with (first
                  | (go_at_call 20; (with_reducible refine (H1.out _).mono ?_); rintro e w' ⟨rfl, rfl⟩)
                  | (go_at_call 20; (with_reducible refine (H2.out _).mono ?_); rintro e w' ⟨rfl, rfl⟩)
                  | (go_at_call 87; (with_reducible refine (H3.out _).mono ?_); rintro e w' ⟨rfl, rfl⟩)
                  | (go_at_call 87; (with_reducible refine (H4.out _).mono ?_); rintro e w' ⟨rfl, rfl⟩))
                go_ret2
                exact ⟨by rw [HC.out]; rfl, E0.out.trans (X.out.trans (Ext.alloc wr (.cells #[.int .i64 x.d, .int .i64 x.g, .int .i64 x.lo, .int .i64 x.hi] 43)))⟩
              · have HK := Lib.hid (show indE (distK xs k) x = if distK xs k = true then 17 else 0 by rw [HK.out, if_neg hA])
                rcases Nat.eq_zero_or_pos k with hk0 | hk0
                · have HB := Lib.hid (show distK xs k = decide (wrap64 (2 * x.d) < wrap64 (5 * x.g)) by
                    have := HX.out
                    rw [hk0] at this ⊢
                    unfold distK dist0
                    rw [if_pos rfl, show xs.getD 0 default = x by simp [this]])
                  have HK0 := Lib.hid hk0
                  have hk1 : ¬ (0 : Int) < (k : Int) := by omega
                  have hk2 : ((k : Int) == 0) = true := by simp [hk0]
                  clear hk0
                  by_cases hD : wrap64 (2 * x.d) < wrap64 (5 * x.g)
                  · have HC := Lib.hid (checkT_stop (v := 17) hlt HX.out HCX.out (by rw [HK.out, HB.out, if_pos (decide_eq_true hD)]) (by decide))
                    clear HK HB
                    go_wp2_with (first
                      | (go_at_call 20; (with_reducible refine (H1.out _).mono ?_); rintro e w' ⟨rfl, rfl⟩)
                      | (go_at_call 20; (with_reducible refine (H2.out _).mono ?_); rintro e w' ⟨rfl, rfl⟩)
                      | (go_at_call 87; (with_reducible refine (H3.out _).mono ?_); rintro e w' ⟨rfl, rfl⟩)
                      | (go_at_call 87; (with_reducible refine (H4.out _).mono ?_); rintro e w' ⟨rfl, rfl⟩))
                    go_ret2
                    exact ⟨by rw [HC.out]; rfl, E0.out.trans (X.out.trans (Ext.alloc wr (.cells #[.int .i64 x.d, .int .i64 x.g, .int .i64 x.lo, .int .i64 x.hi] 43)))⟩
                  · have HC := Lib.hid (checkT_next hlt HX.out HCX.out (by rw [HK.out, HB.out, if_neg (by simpa using hD)]))
                    clear HK HB
                    go_wp2_with (first
                      | (go_at_call 20; (with_reducible refine (H1.out _).mono ?_); rintro e w' ⟨rfl, rfl⟩)
                      | (go_at_call 20; (with_reducible refine (H2.out _).mono ?_); rintro e w' ⟨rfl, rfl⟩)
                      | (go_at_call 87; (with_reducible refine (H3.out _).mono ?_); rintro e w' ⟨rfl, rfl⟩)
                      | (go_at_call 87; (with_reducible refine (H4.out _).mono ?_); rintro e w' ⟨rfl, rfl⟩))
                    obtain ⟨W5, hW5⟩ : ∃ W5, W5 = wr.alloc (.cells #[.int .i64 x.d, .int .i64 x.g, .int .i64 x.lo, .int .i64 x.hi] 43) := ⟨_, rfl⟩
                    rw [← hW5]
                    have Q := Lib.hid (show Blk W5 wr.heap.size 43 #[.int .i64 x.d, .int .i64 x.g, .int .i64 x.lo, .int .i64 x.hi] by rw [hW5]; exact Blk.new _ _ _)
                    have hx5 : Ext wr W5 := by rw [hW5]; exact Ext.alloc _ _
                    have X5 := Lib.hid (X.out.trans hx5)
                    have l0 : W5.cell? ⟨wr.heap.size, 0, none⟩ = some (.int .i64 x.d) := Q.out.cell 0
                    have l1 : W5.cell? ⟨wr.heap.size, 1, none⟩ = some (.int .i64 x.g) := Q.out.cell 1
                    have l2 : W5.cell? ⟨wr.heap.size, 2, none⟩ = some (.int .i64 x.lo) := Q.out.cell 2
                    have l3 : W5.cell? ⟨wr.heap.size, 3, none⟩ = some (.int .i64 x.hi) := Q.out.cell 3
                    clear y0 p0 p1 p2 p3 hx5 hW5 Q
                    have y0 : W5.cell? ⟨w.heap.size, 0, none⟩ = some (.slice (some ⟨b, o, none⟩) n ca) := (K0.out.ext X5.out).cell 0
                    generalize wr.heap.size = q at *
                    refine wp_region_eachM [true, true, true, false, false, false, false, false, false, false, false, false, false, false, false, false, false, false, false, false, false, false, false, false, false, true] [(73, true, false), (73, true, false), (73, true, false), (73, true, false), (73, true, false), (73, true, false), (73, true, false), (73, true, false), (73, true, false), (73, true, false), (73, true, false), (73, true, false), (73, true, false), (73, true, false), (73, true, false), (73, true, false), (73, true, false), (73, true, false), (73, true, false), (73, true, false), (73, true, false), (73, true, false)] [some 71, some 72, some 73, some 74, some 75, some 76, some 77, some 78, some 79, some 80, some 81, some 82, some 83, some 84, some 85, some 86, some 87, some 88, some 89, some 90, some 91, some 92, some 93, some 94, some 95, some 96] [[4], [71], [72], [5, 73], [74, 73], [1, 73], [76, 73], [4, 73], [78, 73], [77, 79, 73], [80, 73], [81, 73], [75, 82, 73], [5, 73], [84, 73], [1, 73], [86, 73], [4, 73], [88, 73], [87, 89, 73], [90, 73], [91, 73], [85, 92, 73], [93, 73], [83, 94, 73], [73, 95]]
                      [Is (.int .i64 ((k : Int))), Is (.bool (false)), Is (.bool (false)), Is (undef), Is (undef), Is (undef), Is (undef), Is (undef), Is (undef), Is (undef), Is (undef), Is (undef), Is (undef), Is (undef), Is (undef), Is (undef), Is (undef), Is (undef), Is (undef), Is (undef), Is (undef), Is (undef), Is (undef), Is (undef), Is (undef), Is (.bool (false))]
                      (by kernel_rfl) (by kernel_rfl) (by kernel_rfl) (by kernel_rfl) (by kernel_rfl) Ext (fun W => Ext W5 W)
                      (fun W _ => Ext.refl W) (fun W W' h k => h.trans k) ?_ (by intro p hp; simp only [List.mem_cons, List.not_mem_nil, or_false] at hp; rcases hp with rfl | rfl | rfl | rfl | rfl | rfl | rfl | rfl | rfl | rfl | rfl | rfl | rfl | rfl | rfl | rfl | rfl | rfl | rfl | rfl | rfl | rfl <;> exact ⟨_, rfl, fun v W h => by rw [show v = _ from h]; first | (simp; done) | (simp [undef]; done)⟩) (Ext.drew _) ?_ ?_
                    · repeat (refine ⟨fun _ _ _ _ k h => (by first | exact h | exact (IntsAt.ext h k)), ?_⟩)
                      exact trivial
                    · refine ⟨?_, ?_, ?_, ?_, ?_, ?_, ?_, ?_, ?_, ?_, ?_, ?_, ?_, ?_, ?_, ?_, ?_, ?_, ?_, ?_, ?_, ?_, ?_, ?_, ?_, ?_, trivial⟩
                      · intro ρ W ⟨kc, kg, kf⟩ hF hs
                        obtain ⟨h0, -⟩ := hs
                        replace h0 : ρ (.tmp 4) = .int .i64 ((k : Int)) := h0
                        go_simp
                        exact ⟨Ext.refl _, rfl⟩
                      · intro ρ W ⟨kc, kg, kf⟩ hF hs
                        obtain ⟨h0, -⟩ := hs
                        replace h0 : ρ (.tmp 71) = .int .i64 ((k : Int)) := h0
                        have hd2 : ¬ 0 < k := by have := HK0.out; omega
                        go_simp
                        exact ⟨Ext.refl _, rfl⟩
                      · intro ρ W ⟨kc, kg, kf⟩ hF hs
                        obtain ⟨h0, -⟩ := hs
                        replace h0 : ρ (.tmp 72) = .bool (false) := h0
                        go_simp
                        exact ⟨Ext.refl _, rfl⟩
                      · exact fun _ => rfl
                      · exact fun _ => rfl
                      · exact fun _ => rfl
                      · exact fun _ => rfl
                      · exact fun _ => rfl
                      · exact fun _ => rfl
                      · exact fun _ => rfl
                      · exact fun _ => rfl
                      · exact fun _ => rfl
                      · exact fun _ => rfl
                      · exact fun _ => rfl
                      · exact fun _ => rfl
                      · exact fun _ => rfl
                      · exact fun _ => rfl
                      · exact fun _ => rfl
                      · exact fun _ => rfl
                      · exact fun _ => rfl
                      · exact fun _ => rfl
                      · exact fun _ => rfl
                      · exact fun _ => rfl
                      · exact fun _ => rfl
                      · exact fun _ => rfl
                      · intro ρ W ⟨kc, kg, kf⟩ hF hs
                        obtain ⟨h0, h1, -⟩ := hs
                        replace h0 : ρ (.tmp 73) = .bool (false) := h0
                        replace h1 : ρ (.tmp 95) = undef := h1
                        go_simp
                        exact ⟨Ext.refl _, rfl⟩
                    · intro fv W hF hs
                      obtain ⟨-, -, -, -, -, -, -, -, -, -, -, -, -, -, -, -, -, -, -, -, -, -, -, -, -, h96, -⟩ := hs
                      replace h96 : fv 96 = .bool (false) := h96
                      simp only [fin, List.filterMap]
                      go_simp
                      have X6 := Lib.hid (X5.out.trans hF)
                      clear hF y0 l0 l1 l2 l3
                      go_wp2
                      go_roundw
                      case rel => exact ⟨k + 1, by omega, by go_num, X6.out, HC.out⟩
                      case measure => simp [intOf]; omega
                · obtain ⟨j, hj⟩ : ∃ j, k = j + 1 := ⟨k - 1, by omega⟩
                  obtain ⟨y, hyj⟩ : ∃ y, xs[j]? = some y := ⟨_, List.getElem?_eq_getElem (by have := HN.out; omega)⟩
                  have HB := Lib.hid (show distK xs k = decide (wrap64 (x.d - y.d) < wrap64 (3 * max x.g y.g)) by
                    have := HX.out
                    rw [hj] at this ⊢
                    unfold distK dist1
                    rw [if_neg (by omega), show xs.getD (j + 1) default = x by simp [this], show xs.getD (j + 1 - 1) default = y by simp [hyj]])
                  have HR := Lib.hid (fun W (e : Ext w W) => row_at (HA.out.ext e) hyj)
                  have hj1 : j < k := by omega
                  have hj2 : k ≤ j + 1 := by omega
                  have hk2 : ((k : Int) == 0) = false := by simp; omega
                  clear hj hyj
                  by_cases hD : wrap64 (x.d - y.d) < wrap64 (3 * max x.g y.g)
                  · have HC := Lib.hid (checkT_stop (v := 17) hlt HX.out HCX.out (by rw [HK.out, HB.out, if_pos (decide_eq_true hD)]) (by decide))
                    have HDD := Lib.hid (show decide (IntKind.i64.wrap (x.d - y.d) < IntKind.i64.wrap (3 * max x.g y.g)) = true by rw [i64w, i64w]; exact decide_eq_true hD)
                    clear HK HB hD
                    go_wp2_with (first
                      | (go_at_call 20; (with_reducible refine (H1.out _).mono ?_); rintro e w' ⟨rfl, rfl⟩)
                      | (go_at_call 20; (with_reducible refine (H2.out _).mono ?_); rintro e w' ⟨rfl, rfl⟩)
                      | (go_at_call 87; (with_reducible refine (H3.out _).mono ?_); rintro e w' ⟨rfl, rfl⟩)
                      | (go_at_call 87; (with_reducible refine (H4.out _).mono ?_); rintro e w' ⟨rfl, rfl⟩))
                    obtain ⟨W5, hW5⟩ : ∃ W5, W5 = wr.alloc (.cells #[.int .i64 x.d, .int .i64 x.g, .int .i64 x.lo, .int .i64 x.hi] 43) := ⟨_, rfl⟩
                    rw [← hW5]
                    have Q := Lib.hid (show Blk W5 wr.heap.size 43 #[.int .i64 x.d, .int .i64 x.g, .int .i64 x.lo, .int .i64 x.hi] by rw [hW5]; exact Blk.new _ _ _)
                    have hx5 : Ext wr W5 := by rw [hW5]; exact Ext.alloc _ _
                    have X5 := Lib.hid (X.out.trans hx5)
                    have l0 : W5.cell? ⟨wr.heap.size, 0, none⟩ = some (.int .i64 x.d) := Q.out.cell 0
                    have l1 : W5.cell? ⟨wr.heap.size, 1, none⟩ = some (.int .i64 x.g) := Q.out.cell 1
                    have l2 : W5.cell? ⟨wr.heap.size, 2, none⟩ = some (.int .i64 x.lo) := Q.out.cell 2
                    have l3 : W5.cell? ⟨wr.heap.size, 3, none⟩ = some (.int .i64 x.hi) := Q.out.cell 3
                    clear y0 p0 p1 p2 p3 hx5 hW5 Q
                    have y0 : W5.cell? ⟨w.heap.size, 0, none⟩ = some (.slice (some ⟨b, o, none⟩) n ca) := (K0.out.ext X5.out).cell 0
                    generalize wr.heap.size = q at *
                    obtain ⟨b2, o2, he, -, hc⟩ := HR.out W5 (E0.out.trans X5.out)
                    obtain ⟨rfl, rfl⟩ : b = b2 ∧ o = o2 := by simpa using he
                    have t0 : W5.cell? ⟨b, o + j * 4, none⟩ = some (.int .i64 y.d) := hc 0 _ rfl
                    have t1 : W5.cell? ⟨b, o + j * 4 + 1, none⟩ = some (.int .i64 y.g) := hc 1 _ rfl
                    have t2 : W5.cell? ⟨b, o + j * 4 + 2, none⟩ = some (.int .i64 y.lo) := hc 2 _ rfl
                    have t3 : W5.cell? ⟨b, o + j * 4 + 3, none⟩ = some (.int .i64 y.hi) := hc 3 _ rfl
                    clear hc he HR
                    refine wp_region_eachG [(73, true), (73, true), (73, true), (73, true), (73, true), (73, true), (73, true), (73, true), (73, true), (73, true), (73, true), (73, true), (73, true), (73, true), (73, true), (73, true), (73, true), (73, true), (73, true), (73, true), (73, true), (73, true)] [some 71, some 72, some 73, some 74, some 75, some 76, some 77, some 78, some 79, some 80, some 81, some 82, some 83, some 84, some 85, some 86, some 87, some 88, some 89, some 90, some 91, some 92, some 93, some 94, some 95, some 96] [[4], [71], [72], [5, 73], [74, 73], [1, 73], [76, 73], [4, 73], [78, 73], [77, 79, 73], [80, 73], [81, 73], [75, 82, 73], [5, 73], [84, 73], [1, 73], [86, 73], [4, 73], [88, 73], [87, 89, 73], [90, 73], [91, 73], [85, 92, 73], [93, 73], [83, 94, 73], [73, 95]]
                      [Is (.int .i64 ((k : Int))), Is (.bool (true)), Is (.bool (true)), Is (.pointer (some ⟨q, 0, none⟩)), Is (.int .i64 (x.d)), Is (.pointer (some ⟨w.heap.size, 0, none⟩)), Is (.slice (some ⟨b, o, none⟩) n ca), Is (.int .i64 ((k : Int))), Is (.int .i64 ((k : Int) - 1)), Is (.pointer (some ⟨b, o + j * 4, none⟩)), Is (.pointer (some ⟨b, o + j * 4, none⟩)), Is (.int .i64 (y.d)), Is (.int .i64 (IntKind.i64.wrap (x.d - y.d))), Is (.pointer (some ⟨q, 1, none⟩)), Is (.int .i64 (x.g)), Is (.pointer (some ⟨w.heap.size, 0, none⟩)), Is (.slice (some ⟨b, o, none⟩) n ca), Is (.int .i64 ((k : Int))), Is (.int .i64 ((k : Int) - 1)), Is (.pointer (some ⟨b, o + j * 4, none⟩)), Is (.pointer (some ⟨b, o + j * 4 + 1, none⟩)), Is (.int .i64 (y.g)), Is (.int .i64 (max x.g y.g)), Is (.int .i64 (IntKind.i64.wrap (3 * max x.g y.g))), Is (.bool (true)), Is (.bool (true))]
                      (by kernel_rfl) (by kernel_rfl) (by kernel_rfl) (by kernel_rfl) (by kernel_rfl) Ext (fun W => Ext W5 W)
                      (fun W _ => Ext.refl W) (fun W W' h k => h.trans k) ?_ (by intro p hp; simp only [List.mem_cons, List.not_mem_nil, or_false] at hp; rcases hp with rfl | rfl | rfl | rfl | rfl | rfl | rfl | rfl | rfl | rfl | rfl | rfl | rfl | rfl | rfl | rfl | rfl | rfl | rfl | rfl | rfl | rfl <;> exact ⟨_, rfl, fun _ _ h => h⟩) (Ext.drew _) ?_ ?_
                    · repeat (refine ⟨fun _ _ _ _ k h => (by first | exact h | exact (IntsAt.ext h k)), ?_⟩)
                      exact trivial
                    · refine ⟨?_, ?_, ?_, ?_, ?_, ?_, ?_, ?_, ?_, ?_, ?_, ?_, ?_, ?_, ?_, ?_, ?_, ?_, ?_, ?_, ?_, ?_, ?_, ?_, ?_, ?_, trivial⟩
                      all_goals intro ρ W ⟨kc, kg, kf⟩ hF hs
                      · obtain ⟨h0, -⟩ := hs
                        replace h0 : ρ (.tmp 4) = .int .i64 ((k : Int)) := h0
                        go_simp
                        exact ⟨Ext.refl _, rfl⟩
                      · obtain ⟨h0, -⟩ := hs
                        replace h0 : ρ (.tmp 71) = .int .i64 ((k : Int)) := h0
                        have hd : decide ((0 : Int) < (k : Int)) = true := by simp; omega
                        go_simp
                        exact ⟨Ext.refl _, rfl⟩
                      · obtain ⟨h0, -⟩ := hs
                        replace h0 : ρ (.tmp 72) = .bool (true) := h0
                        go_simp
                        exact ⟨Ext.refl _, rfl⟩
                      · obtain ⟨h0, h1, -⟩ := hs
                        replace h0 : ρ (.tmp 5) = .pointer (some ⟨q, 0, none⟩) := h0
                        replace h1 : ρ (.tmp 73) = .bool (true) := h1
                        go_simp
                        exact ⟨Ext.refl _, rfl⟩
                      · obtain ⟨h0, h1, -⟩ := hs
                        replace h0 : ρ (.tmp 74) = .pointer (some ⟨q, 0, none⟩) := h0
                        replace h1 : ρ (.tmp 73) = .bool (true) := h1
                        have hc0 : W.cell? ⟨q, 0, none⟩ = some (.int .i64 (x.d)) := hF.cell (by assumption)
                        go_simp
                        exact ⟨Ext.refl _, rfl⟩
                      · obtain ⟨h0, h1, -⟩ := hs
                        replace h0 : ρ (.tmp 1) = .pointer (some ⟨w.heap.size, 0, none⟩) := h0
                        replace h1 : ρ (.tmp 73) = .bool (true) := h1
                        go_simp
                        exact ⟨Ext.refl _, rfl⟩
                      · obtain ⟨h0, h1, -⟩ := hs
                        replace h0 : ρ (.tmp 76) = .pointer (some ⟨w.heap.size, 0, none⟩) := h0
                        replace h1 : ρ (.tmp 73) = .bool (true) := h1
                        have hc0 : W.cell? ⟨w.heap.size, 0, none⟩ = some (.slice (some ⟨b, o, none⟩) n ca) := hF.cell (by assumption)
                        go_simp
                        exact ⟨Ext.refl _, rfl⟩
                      · obtain ⟨h0, h1, -⟩ := hs
                        replace h0 : ρ (.tmp 4) = .int .i64 ((k : Int)) := h0
                        replace h1 : ρ (.tmp 73) = .bool (true) := h1
                        go_simp
                        exact ⟨Ext.refl _, rfl⟩
                      · obtain ⟨h0, h1, -⟩ := hs
                        replace h0 : ρ (.tmp 78) = .int .i64 ((k : Int)) := h0
                        replace h1 : ρ (.tmp 73) = .bool (true) := h1
                        have hw : IntKind.i64.wrap ((k : Int) - 1) = (k : Int) - 1 := wrap_id _ (by omega) (by omega)
                        go_simp
                        exact ⟨Ext.refl _, rfl⟩
                      · obtain ⟨h0, h1, h2, -⟩ := hs
                        replace h0 : ρ (.tmp 77) = .slice (some ⟨b, o, none⟩) n ca := h0
                        replace h1 : ρ (.tmp 79) = .int .i64 ((k : Int) - 1) := h1
                        replace h2 : ρ (.tmp 73) = .bool (true) := h2
                        have hb6 : (1 : Int) ≤ (k : Int) := by omega
                        have hb1 : (k : Int) - 1 < (n : Int) := by omega
                        have hb3 : (0 : Int) ≤ (k : Int) - 1 := by omega
                        have hb4 : ((k : Int) - 1).toNat = j := by omega
                        have hb7 : k - 1 = j := by omega
                        have hb5 : (k : Int) ≤ (n : Int) := by omega
                        have hb8 : j < n := by omega
                        go_simp
                        exact ⟨Ext.refl _, rfl⟩
                      · obtain ⟨h0, h1, -⟩ := hs
                        replace h0 : ρ (.tmp 80) = .pointer (some ⟨b, o + j * 4, none⟩) := h0
                        replace h1 : ρ (.tmp 73) = .bool (true) := h1
                        go_simp
                        exact ⟨Ext.refl _, rfl⟩
                      · obtain ⟨h0, h1, -⟩ := hs
                        replace h0 : ρ (.tmp 81) = .pointer (some ⟨b, o + j * 4, none⟩) := h0
                        replace h1 : ρ (.tmp 73) = .bool (true) := h1
                        have hc0 : W.cell? ⟨b, o + j * 4, none⟩ = some (.int .i64 (y.d)) := hF.cell (by assumption)
                        go_simp
                        exact ⟨Ext.refl _, rfl⟩
                      · obtain ⟨h0, h1, h2, -⟩ := hs
                        replace h0 : ρ (.tmp 75) = .int .i64 (x.d) := h0
                        replace h1 : ρ (.tmp 82) = .int .i64 (y.d) := h1
                        replace h2 : ρ (.tmp 73) = .bool (true) := h2
                        go_simp
                        exact ⟨Ext.refl _, rfl⟩
                      · obtain ⟨h0, h1, -⟩ := hs
                        replace h0 : ρ (.tmp 5) = .pointer (some ⟨q, 0, none⟩) := h0
                        replace h1 : ρ (.tmp 73) = .bool (true) := h1
                        go_simp
                        exact ⟨Ext.refl _, rfl⟩
                      · obtain ⟨h0, h1, -⟩ := hs
                        replace h0 : ρ (.tmp 84) = .pointer (some ⟨q, 1, none⟩) := h0
                        replace h1 : ρ (.tmp 73) = .bool (true) := h1
                        have hc0 : W.cell? ⟨q, 1, none⟩ = some (.int .i64 (x.g)) := hF.cell (by assumption)
                        go_simp
                        exact ⟨Ext.refl _, rfl⟩
                      · obtain ⟨h0, h1, -⟩ := hs
                        replace h0 : ρ (.tmp 1) = .pointer (some ⟨w.heap.size, 0, none⟩) := h0
                        replace h1 : ρ (.tmp 73) = .bool (true) := h1
                        go_simp
                        exact ⟨Ext.refl _, rfl⟩
                      · obtain ⟨h0, h1, -⟩ := hs
                        replace h0 : ρ (.tmp 86) = .pointer (some ⟨w.heap.size, 0, none⟩) := h0
                        replace h1 : ρ (.tmp 73) = .bool (true) := h1
                        have hc0 : W.cell? ⟨w.heap.size, 0, none⟩ = some (.slice (some ⟨b, o, none⟩) n ca) := hF.cell (by assumption)
                        go_simp
                        exact ⟨Ext.refl _, rfl⟩
                      · obtain ⟨h0, h1, -⟩ := hs
                        replace h0 : ρ (.tmp 4) = .int .i64 ((k : Int)) := h0
                        replace h1 : ρ (.tmp 73) = .bool (true) := h1
                        go_simp
                        exact ⟨Ext.refl _, rfl⟩
                      · obtain ⟨h0, h1, -⟩ := hs
                        replace h0 : ρ (.tmp 88) = .int .i64 ((k : Int)) := h0
                        replace h1 : ρ (.tmp 73) = .bool (true) := h1
                        have hw : IntKind.i64.wrap ((k : Int) - 1) = (k : Int) - 1 := wrap_id _ (by omega) (by omega)
                        go_simp
                        exact ⟨Ext.refl _, rfl⟩
                      · obtain ⟨h0, h1, h2, -⟩ := hs
                        replace h0 : ρ (.tmp 87) = .slice (some ⟨b, o, none⟩) n ca := h0
                        replace h1 : ρ (.tmp 89) = .int .i64 ((k : Int) - 1) := h1
                        replace h2 : ρ (.tmp 73) = .bool (true) := h2
                        have hb6 : (1 : Int) ≤ (k : Int) := by omega
                        have hb1 : (k : Int) - 1 < (n : Int) := by omega
                        have hb3 : (0 : Int) ≤ (k : Int) - 1 := by omega
                        have hb4 : ((k : Int) - 1).toNat = j := by omega
                        have hb7 : k - 1 = j := by omega
                        have hb5 : (k : Int) ≤ (n : Int) := by omega
                        have hb8 : j < n := by omega
                        go_simp
                        exact ⟨Ext.refl _, rfl⟩
                      · obtain ⟨h0, h1, -⟩ := hs
                        replace h0 : ρ (.tmp 90) = .pointer (some ⟨b, o + j * 4, none⟩) := h0
                        replace h1 : ρ (.tmp 73) = .bool (true) := h1
                        go_simp
                        exact ⟨Ext.refl _, rfl⟩
                      · obtain ⟨h0, h1, -⟩ := hs
                        replace h0 : ρ (.tmp 91) = .pointer (some ⟨b, o + j * 4 + 1, none⟩) := h0
                        replace h1 : ρ (.tmp 73) = .bool (true) := h1
                        have hc0 : W.cell? ⟨b, o + j * 4 + 1, none⟩ = some (.int .i64 (y.g)) := hF.cell (by assumption)
                        go_simp
                        exact ⟨Ext.refl _, rfl⟩
                      · obtain ⟨h0, h1, h2, -⟩ := hs
                        replace h0 : ρ (.tmp 85) = .int .i64 (x.g) := h0
                        replace h1 : ρ (.tmp 92) = .int .i64 (y.g) := h1
                        replace h2 : ρ (.tmp 73) = .bool (true) := h2
                        go_simp
                        exact ⟨Ext.refl _, rfl⟩
                      · obtain ⟨h0, h1, -⟩ := hs
                        replace h0 : ρ (.tmp 93) = .int .i64 (max x.g y.g) := h0
                        replace h1 : ρ (.tmp 73) = .bool (true) := h1
                        go_simp
                        exact ⟨Ext.refl _, rfl⟩
                      · obtain ⟨h0, h1, h2, -⟩ := hs
                        replace h0 : ρ (.tmp 83) = .int .i64 (IntKind.i64.wrap (x.d - y.d)) := h0
                        replace h1 : ρ (.tmp 94) = .int .i64 (IntKind.i64.wrap (3 * max x.g y.g)) := h1
                        replace h2 : ρ (.tmp 73) = .bool (true) := h2
                        have hd := HDD.out
                        go_simp
                        exact ⟨Ext.refl _, rfl⟩
                      · obtain ⟨h0, h1, -⟩ := hs
                        replace h0 : ρ (.tmp 73) = .bool (true) := h0
                        replace h1 : ρ (.tmp 95) = .bool (true) := h1
                        go_simp
                        exact ⟨Ext.refl _, rfl⟩
                    · intro fv W hF hs
                      obtain ⟨-, -, -, -, -, -, -, -, -, -, -, -, -, -, -, -, -, -, -, -, -, -, -, -, -, h96, -⟩ := hs
                      replace h96 : fv 96 = .bool (true) := h96
                      simp only [fin, List.filterMap]
                      go_simp
                      have X6 := Lib.hid (E0.out.trans (X5.out.trans hF))
                      clear hF y0 l0 l1 l2 l3 t0 t1 t2 t3
                      go_wp2
                      go_ret2
                      exact ⟨by rw [HC.out]; rfl, X6.out⟩
                  · have HC := Lib.hid (checkT_next hlt HX.out HCX.out (by rw [HK.out, HB.out, if_neg (by simpa using hD)]))
                    have HDD := Lib.hid (show decide (IntKind.i64.wrap (x.d - y.d) < IntKind.i64.wrap (3 * max x.g y.g)) = false by rw [i64w, i64w]; exact decide_eq_false hD)
                    clear HK HB hD
                    go_wp2_with (first
                      | (go_at_call 20; (with_reducible refine (H1.out _).mono ?_); rintro e w' ⟨rfl, rfl⟩)
                      | (go_at_call 20; (with_reducible refine (H2.out _).mono ?_); rintro e w' ⟨rfl, rfl⟩)
                      | (go_at_call 87; (with_reducible refine (H3.out _).mono ?_); rintro e w' ⟨rfl, rfl⟩)
                      | (go_at_call 87; (with_reducible refine (H4.out _).mono ?_); rintro e w' ⟨rfl, rfl⟩))
                    obtain ⟨W5, hW5⟩ : ∃ W5, W5 = wr.alloc (.cells #[.int .i64 x.d, .int .i64 x.g, .int .i64 x.lo, .int .i64 x.hi] 43) := ⟨_, rfl⟩
                    rw [← hW5]
                    have Q := Lib.hid (show Blk W5 wr.heap.size 43 #[.int .i64 x.d, .int .i64 x.g, .int .i64 x.lo, .int .i64 x.hi] by rw [hW5]; exact Blk.new _ _ _)
                    have hx5 : Ext wr W5 := by rw [hW5]; exact Ext.alloc _ _
                    have X5 := Lib.hid (X.out.trans hx5)
                    have l0 : W5.cell? ⟨wr.heap.size, 0, none⟩ = some (.int .i64 x.d) := Q.out.cell 0
                    have l1 : W5.cell? ⟨wr.heap.size, 1, none⟩ = some (.int .i64 x.g) := Q.out.cell 1
                    have l2 : W5.cell? ⟨wr.heap.size, 2, none⟩ = some (.int .i64 x.lo) := Q.out.cell 2
                    have l3 : W5.cell? ⟨wr.heap.size, 3, none⟩ = some (.int .i64 x.hi) := Q.out.cell 3
                    clear y0 p0 p1 p2 p3 hx5 hW5 Q
                    have y0 : W5.cell? ⟨w.heap.size, 0, none⟩ = some (.slice (some ⟨b, o, none⟩) n ca) := (K0.out.ext X5.out).cell 0
                    generalize wr.heap.size = q at *
                    obtain ⟨b2, o2, he, -, hc⟩ := HR.out W5 (E0.out.trans X5.out)
                    obtain ⟨rfl, rfl⟩ : b = b2 ∧ o = o2 := by simpa using he
                    have t0 : W5.cell? ⟨b, o + j * 4, none⟩ = some (.int .i64 y.d) := hc 0 _ rfl
                    have t1 : W5.cell? ⟨b, o + j * 4 + 1, none⟩ = some (.int .i64 y.g) := hc 1 _ rfl
                    have t2 : W5.cell? ⟨b, o + j * 4 + 2, none⟩ = some (.int .i64 y.lo) := hc 2 _ rfl
                    have t3 : W5.cell? ⟨b, o + j * 4 + 3, none⟩ = some (.int .i64 y.hi) := hc 3 _ rfl
                    clear hc he HR
                    refine wp_region_eachG [(73, true), (73, true), (73, true), (73, true), (73, true), (73, true), (73, true), (73, true), (73, true), (73, true), (73, true), (73, true), (73, true), (73, true), (73, true), (73, true), (73, true), (73, true), (73, true), (73, true), (73, true), (73, true)] [some 71, some 72, some 73, some 74, some 75, some 76, some 77, some 78, some 79, some 80, some 81, some 82, some 83, some 84, some 85, some 86, some 87, some 88, some 89, some 90, some 91, some 92, some 93, some 94, some 95, some 96] [[4], [71], [72], [5, 73], [74, 73], [1, 73], [76, 73], [4, 73], [78, 73], [77, 79, 73], [80, 73], [81, 73], [75, 82, 73], [5, 73], [84, 73], [1, 73], [86, 73], [4, 73], [88, 73], [87, 89, 73], [90, 73], [91, 73], [85, 92, 73], [93, 73], [83, 94, 73], [73, 95]]
                      [Is (.int .i64 ((k : Int))), Is (.bool (true)), Is (.bool (true)), Is (.pointer (some ⟨q, 0, none⟩)), Is (.int .i64 (x.d)), Is (.pointer (some ⟨w.heap.size, 0, none⟩)), Is (.slice (some ⟨b, o, none⟩) n ca), Is (.int .i64 ((k : Int))), Is (.int .i64 ((k : Int) - 1)), Is (.pointer (some ⟨b, o + j * 4, none⟩)), Is (.pointer (some ⟨b, o + j * 4, none⟩)), Is (.int .i64 (y.d)), Is (.int .i64 (IntKind.i64.wrap (x.d - y.d))), Is (.pointer (some ⟨q, 1, none⟩)), Is (.int .i64 (x.g)), Is (.pointer (some ⟨w.heap.size, 0, none⟩)), Is (.slice (some ⟨b, o, none⟩) n ca), Is (.int .i64 ((k : Int))), Is (.int .i64 ((k : Int) - 1)), Is (.pointer (some ⟨b, o + j * 4, none⟩)), Is (.pointer (some ⟨b, o + j * 4 + 1, none⟩)), Is (.int .i64 (y.g)), Is (.int .i64 (max x.g y.g)), Is (.int .i64 (IntKind.i64.wrap (3 * max x.g y.g))), Is (.bool (false)), Is (.bool (false))]
                      (by kernel_rfl) (by kernel_rfl) (by kernel_rfl) (by kernel_rfl) (by kernel_rfl) Ext (fun W => Ext W5 W)
                      (fun W _ => Ext.refl W) (fun W W' h k => h.trans k) ?_ (by intro p hp; simp only [List.mem_cons, List.not_mem_nil, or_false] at hp; rcases hp with rfl | rfl | rfl | rfl | rfl | rfl | rfl | rfl | rfl | rfl | rfl | rfl | rfl | rfl | rfl | rfl | rfl | rfl | rfl | rfl | rfl | rfl <;> exact ⟨_, rfl, fun _ _ h => h⟩) (Ext.drew _) ?_ ?_
                    · repeat (refine ⟨fun _ _ _ _ k h => (by first | exact h | exact (IntsAt.ext h k)), ?_⟩)
                      exact trivial
                    · refine ⟨?_, ?_, ?_, ?_, ?_, ?_, ?_, ?_, ?_, ?_, ?_, ?_, ?_, ?_, ?_, ?_, ?_, ?_, ?_, ?_, ?_, ?_, ?_, ?_, ?_, ?_, trivial⟩
                      all_goals intro ρ W ⟨kc, kg, kf⟩ hF hs
                      · obtain ⟨h0, -⟩ := hs
                        replace h0 : ρ (.tmp 4) = .int .i64 ((k : Int)) := h0
                        go_simp
                        exact ⟨Ext.refl _, rfl⟩
                      · obtain ⟨h0, -⟩ := hs
                        replace h0 : ρ (.tmp 71) = .int .i64 ((k : Int)) := h0
                        have hd : decide ((0 : Int) < (k : Int)) = true := by simp; omega
                        go_simp
                        exact ⟨Ext.refl _, rfl⟩
                      · obtain ⟨h0, -⟩ := hs
                        replace h0 : ρ (.tmp 72) = .bool (true) := h0
                        go_simp
                        exact ⟨Ext.refl _, rfl⟩
                      · obtain ⟨h0, h1, -⟩ := hs
                        replace h0 : ρ (.tmp 5) = .pointer (some ⟨q, 0, none⟩) := h0
                        replace h1 : ρ (.tmp 73) = .bool (true) := h1
                        go_simp
                        exact ⟨Ext.refl _, rfl⟩
                      · obtain ⟨h0, h1, -⟩ := hs
                        replace h0 : ρ (.tmp 74) = .pointer (some ⟨q, 0, none⟩) := h0
                        replace h1 : ρ (.tmp 73) = .bool (true) := h1
                        have hc0 : W.cell? ⟨q, 0, none⟩ = some (.int .i64 (x.d)) := hF.cell (by assumption)
                        go_simp
                        exact ⟨Ext.refl _, rfl⟩
                      · obtain ⟨h0, h1, -⟩ := hs
                        replace h0 : ρ (.tmp 1) = .pointer (some ⟨w.heap.size, 0, none⟩) := h0
                        replace h1 : ρ (.tmp 73) = .bool (true) := h1
                        go_simp
                        exact ⟨Ext.refl _, rfl⟩
                      · obtain ⟨h0, h1, -⟩ := hs
                        replace h0 : ρ (.tmp 76) = .pointer (some ⟨w.heap.size, 0, none⟩) := h0
                        replace h1 : ρ (.tmp 73) = .bool (true) := h1
                        have hc0 : W.cell? ⟨w.heap.size, 0, none⟩ = some (.slice (some ⟨b, o, none⟩) n ca) := hF.cell (by assumption)
                        go_simp
                        exact ⟨Ext.refl _, rfl⟩
                      · obtain ⟨h0, h1, -⟩ := hs
                        replace h0 : ρ (.tmp 4) = .int .i64 ((k : Int)) := h0
                        replace h1 : ρ (.tmp 73) = .bool (true) := h1
                        go_simp
                        exact ⟨Ext.refl _, rfl⟩
                      · obtain ⟨h0, h1, -⟩ := hs
                        replace h0 : ρ (.tmp 78) = .int .i64 ((k : Int)) := h0
                        replace h1 : ρ (.tmp 73) = .bool (true) := h1
                        have hw : IntKind.i64.wrap ((k : Int) - 1) = (k : Int) - 1 := wrap_id _ (by omega) (by omega)
                        go_simp
                        exact ⟨Ext.refl _, rfl⟩
                      · obtain ⟨h0, h1, h2, -⟩ := hs
                        replace h0 : ρ (.tmp 77) = .slice (some ⟨b, o, none⟩) n ca := h0
                        replace h1 : ρ (.tmp 79) = .int .i64 ((k : Int) - 1) := h1
                        replace h2 : ρ (.tmp 73) = .bool (true) := h2
                        have hb6 : (1 : Int) ≤ (k : Int) := by omega
                        have hb1 : (k : Int) - 1 < (n : Int) := by omega
                        have hb3 : (0 : Int) ≤ (k : Int) - 1 := by omega
                        have hb4 : ((k : Int) - 1).toNat = j := by omega
                        have hb7 : k - 1 = j := by omega
                        have hb5 : (k : Int) ≤ (n : Int) := by omega
                        have hb8 : j < n := by omega
                        go_simp
                        exact ⟨Ext.refl _, rfl⟩
                      · obtain ⟨h0, h1, -⟩ := hs
                        replace h0 : ρ (.tmp 80) = .pointer (some ⟨b, o + j * 4, none⟩) := h0
                        replace h1 : ρ (.tmp 73) = .bool (true) := h1
                        go_simp
                        exact ⟨Ext.refl _, rfl⟩
                      · obtain ⟨h0, h1, -⟩ := hs
                        replace h0 : ρ (.tmp 81) = .pointer (some ⟨b, o + j * 4, none⟩) := h0
                        replace h1 : ρ (.tmp 73) = .bool (true) := h1
                        have hc0 : W.cell? ⟨b, o + j * 4, none⟩ = some (.int .i64 (y.d)) := hF.cell (by assumption)
                        go_simp
                        exact ⟨Ext.refl _, rfl⟩
                      · obtain ⟨h0, h1, h2, -⟩ := hs
                        replace h0 : ρ (.tmp 75) = .int .i64 (x.d) := h0
                        replace h1 : ρ (.tmp 82) = .int .i64 (y.d) := h1
                        replace h2 : ρ (.tmp 73) = .bool (true) := h2
                        go_simp
                        exact ⟨Ext.refl _, rfl⟩
                      · obtain ⟨h0, h1, -⟩ := hs
                        replace h0 : ρ (.tmp 5) = .pointer (some ⟨q, 0, none⟩) := h0
                        replace h1 : ρ (.tmp 73) = .bool (true) := h1
                        go_simp
                        exact ⟨Ext.refl _, rfl⟩
                      · obtain ⟨h0, h1, -⟩ := hs
                        replace h0 : ρ (.tmp 84) = .pointer (some ⟨q, 1, none⟩) := h0
                        replace h1 : ρ (.tmp 73) = .bool (true) := h1
                        have hc0 : W.cell? ⟨q, 1, none⟩ = some (.int .i64 (x.g)) := hF.cell (by assumption)
                        go_simp
                        exact ⟨Ext.refl _, rfl⟩
                      · obtain ⟨h0, h1, -⟩ := hs
                        replace h0 : ρ (.tmp 1) = .pointer (some ⟨w.heap.size, 0, none⟩) := h0
                        replace h1 : ρ (.tmp 73) = .bool (true) := h1
                        go_simp
                        exact ⟨Ext.refl _, rfl⟩
                      · obtain ⟨h0, h1, -⟩ := hs
                        replace h0 : ρ (.tmp 86) = .pointer (some ⟨w.heap.size, 0, none⟩) := h0
                        replace h1 : ρ (.tmp 73) = .bool (true) := h1
                        have hc0 : W.cell? ⟨w.heap.size, 0, none⟩ = some (.slice (some ⟨b, o, none⟩) n ca) := hF.cell (by assumption)
                        go_simp
                        exact ⟨Ext.refl _, rfl⟩
                      · obtain ⟨h0, h1, -⟩ := hs
                        replace h0 : ρ (.tmp 4) = .int .i64 ((k : Int)) := h0
                        replace h1 : ρ (.tmp 73) = .bool (true) := h1
                        go_simp
                        exact ⟨Ext.refl _, rfl⟩
                      · obtain ⟨h0, h1, -⟩ := hs
                        replace h0 : ρ (.tmp 88) = .int .i64 ((k : Int)) := h0
                        replace h1 : ρ (.tmp 73) = .bool (true) := h1
                        have hw : IntKind.i64.wrap ((k : Int) - 1) = (k : Int) - 1 := wrap_id _ (by omega) (by omega)
                        go_simp
                        exact ⟨Ext.refl _, rfl⟩
                      · obtain ⟨h0, h1, h2, -⟩ := hs
                        replace h0 : ρ (.tmp 87) = .slice (some ⟨b, o, none⟩) n ca := h0
                        replace h1 : ρ (.tmp 89) = .int .i64 ((k : Int) - 1) := h1
                        replace h2 : ρ (.tmp 73) = .bool (true) := h2
                        have hb6 : (1 : Int) ≤ (k : Int) := by omega
                        have hb1 : (k : Int) - 1 < (n : Int) := by omega
                        have hb3 : (0 : Int) ≤ (k : Int) - 1 := by omega
                        have hb4 : ((k : Int) - 1).toNat = j := by omega
                        have hb7 : k - 1 = j := by omega
                        have hb5 : (k : Int) ≤ (n : Int) := by omega
                        have hb8 : j < n := by omega
                        go_simp
                        exact ⟨Ext.refl _, rfl⟩
                      · obtain ⟨h0, h1, -⟩ := hs
                        replace h0 : ρ (.tmp 90) = .pointer (some ⟨b, o + j * 4, none⟩) := h0
                        replace h1 : ρ (.tmp 73) = .bool (true) := h1
                        go_simp
                        exact ⟨Ext.refl _, rfl⟩
                      · obtain ⟨h0, h1, -⟩ := hs
                        replace h0 : ρ (.tmp 91) = .pointer (some ⟨b, o + j * 4 + 1, none⟩) := h0
                        replace h1 : ρ (.tmp 73) = .bool (true) := h1
                        have hc0 : W.cell? ⟨b, o + j * 4 + 1, none⟩ = some (.int .i64 (y.g)) := hF.cell (by assumption)
                        go_simp
                        exact ⟨Ext.refl _, rfl⟩
                      · obtain ⟨h0, h1, h2, -⟩ := hs
                        replace h0 : ρ (.tmp 85) = .int .i64 (x.g) := h0
                        replace h1 : ρ (.tmp 92) = .int .i64 (y.g) := h1
                        replace h2 : ρ (.tmp 73) = .bool (true) := h2
                        go_simp
                        exact ⟨Ext.refl _, rfl⟩
                      · obtain ⟨h0, h1, -⟩ := hs
                        replace h0 : ρ (.tmp 93) = .int .i64 (max x.g y.g) := h0
                        replace h1 : ρ (.tmp 73) = .bool (true) := h1
                        go_simp
                        exact ⟨Ext.refl _, rfl⟩
                      · obtain ⟨h0, h1, h2, -⟩ := hs
                        replace h0 : ρ (.tmp 83) = .int .i64 (IntKind.i64.wrap (x.d - y.d)) := h0
                        replace h1 : ρ (.tmp 94) = .int .i64 (IntKind.i64.wrap (3 * max x.g y.g)) := h1
                        replace h2 : ρ (.tmp 73) = .bool (true) := h2
                        have hd := HDD.out
                        go_simp
                        exact ⟨Ext.refl _, rfl⟩
                      · obtain ⟨h0, h1, -⟩ := hs
                        replace h0 : ρ (.tmp 73) = .bool (true) := h0
                        replace h1 : ρ (.tmp 95) = .bool (false) := h1
                        go_simp
                        exact ⟨Ext.refl _, rfl⟩
                    · intro fv W hF hs
                      obtain ⟨-, -, -, -, -, -, -, -, -, -, -, -, -, -, -, -, -, -, -, -, -, -, -, -, -, h96, -⟩ := hs
                      replace h96 : fv 96 = .bool (false) := h96
                      simp only [fin, List.filterMap]
                      go_simp
                      have X6 := Lib.hid (X5.out.trans hF)
                      clear hF y0 l0 l1 l2 l3 t0 t1 t2 t3
                      go_wp2
                      go_roundw
                      case rel => exact ⟨k + 1, by omega, by go_num, X6.out, HC.out⟩
                      case measure => simp [intOf]; omega
    · have hkn : k = n := by omega
      have hlt2 : ¬ (k : Int) < (n : Int) := by omega
      have HC := Lib.hid (show checkT xs = (0, 0) by rw [HCX.out, hkn, Nat.sub_self]; rfl)
      have X6 := Lib.hid (E0.out.trans X.out)
      clear hkn hlt
      go_wp2
      go_ret2
      exact ⟨by rw [HC.out]; rfl, X6.out⟩

set_option maxRecDepth 100000 in
set_option maxHeartbeats 4000000 in
theorem refTraverseErr_any {A : Option Addr} {n ca : Nat} {xs : List In} {w : World} (hn : xs.length = n) (hn2 : n ≤ 1000) (hA : RowsAt 4 In.enc w A xs) :
    Calls Try.prog 25 #[.agg #[.slice A n ca]] w fun e w' => e = .returned (.int .i64 (checkT xs).2) ∧ Ext w w' := by
  have HT := Lib.hid (fun W (e : Ext w W) => refTraverse_any (ca := ca) hn hn2 (hA.ext e))
  clear hA hn
  generalize checkT xs = ck at *
  go_enter Try.func25, Try.ntmps25
  go_wp2_with (go_at_call 19; refine (HT.out _ (Ext.alloc _ _)).mono ?_; rintro e W1 ⟨rfl, hx⟩; have X1 := Lib.hid ((Ext.alloc _ _).trans hx); clear hx)
  go_ret
  exact ⟨rfl, X1.out⟩
end Go.Proofs.Ytmddnpagfgilcaa
