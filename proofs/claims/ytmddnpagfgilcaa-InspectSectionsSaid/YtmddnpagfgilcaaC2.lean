/- Pairs: the fit on a line. -/
import Derived.Test.YtmddnpagfgilcaaC1
import Derived.Lib.MinMax

namespace Go.Proofs.Ytmddnpagfgilcaa
open Go.RowKit Go.Shelf Go.Mem Go.RegInv
attribute [local go_sem] RelUpon_value RelUpon_skip RelUpon_enter BigFrame.eval_const BigFrame.eval_global BigFrame.eval_func


/-- The distance of a pair from a line, times both denominators. -/
def offD (sn sd on od : Int) (x : Pr) : Int := (x.v * sd - x.s * sn) * od - on * sd
def mostK (sn sd on od : Int) (xs : List Pr) : Nat → Int
  | 0 => 0
  | k + 1 => max (max (mostK sn sd on od xs k) (offD sn sd on od (xs.getD k default))) (-offD sn sd on od (xs.getD k default))
set_option maxRecDepth 100000 in
set_option maxHeartbeats 1000000 in
theorem fitOn_any {A : Option Addr} {n ca : Nat} {xs : List Pr} {w : World} (sn sd on od : Int) {win lo : Int × Int} (hn : xs.length = n) (hA : RowsAt 2 Pr.enc w A xs) (h0 : 0 < n) (h10 : n ≤ 10) (hok : ∀ i, PrOK (xs.getD i default))
    (h1 : -10000000 ≤ sn ∧ sn ≤ 10000000) (h2 : 1 ≤ sd ∧ sd ≤ 1000000) (h3 : -1000000000 ≤ on ∧ on ≤ 1000000000) (h4 : 1 ≤ od ∧ od ≤ 1000000) (hw : winK xs n = win) (hl : lowT (mostK sn sd on od xs n) (sd * od) = lo) :
    Calls Try.prog 116 #[.slice A n ca, .agg #[.int .i64 sn, .int .i64 sd], .agg #[.int .i64 on, .int .i64 od]] w fun e w' => e = .returned (.agg #[.int .i64 sn, .int .i64 sd, .int .i64 on, .int .i64 od, .int .i64 win.1, .int .i64 win.2, .int .i64 lo.1, .int .i64 lo.2]) ∧ Ext w w' := by
  have G := Lib.hid (fun i (h : i < n) => show xs[i]? = some (xs.getD i default) by rw [List.getD_eq_getElem?_getD, List.getElem?_eq_getElem (by omega)]; rfl)
  have HO := Lib.hid hok
  have HA := Lib.hid hA
  have HWI := Lib.hid (fun W (e : Ext w W) => show Calls Try.prog 135 #[.slice A n ca] W fun e w' => e = .returned (.agg #[.int .i64 win.1, .int .i64 win.2]) ∧ Ext W w' from by rw [← hw]; exact windowOf_any hn (hA.ext e) h0)
  have h2' : -1000000 ≤ sd ∧ sd ≤ 1000000 := ⟨by omega, by omega⟩
  have h4' : -1000000 ≤ od ∧ od ≤ 1000000 := ⟨by omega, by omega⟩
  have s0 : 0 < sd * od := Int.mul_pos (by omega) (by omega)
  obtain ⟨s1, s2⟩ := mul_bd h2' h4'
  obtain ⟨t1, t2⟩ := mul_bd h3 h2'
  have HDV := Lib.hid (fun (x : Pr) (h : PrOK x) => show (-(100 * 1000000) ≤ x.v * sd ∧ x.v * sd ≤ 100 * 1000000) ∧ (-(100 * 10000000) ≤ x.s * sn ∧ x.s * sn ≤ 100 * 10000000) ∧ (-(1100000000 * 1000000) ≤ (x.v * sd - x.s * sn) * od ∧ (x.v * sd - x.s * sn) * od ≤ 1100000000 * 1000000) from by
    obtain ⟨q1, q2⟩ := h
    have a := mul_bd q2 h2'
    have b := mul_bd q1 h1
    exact ⟨a, b, mul_bd ⟨by omega, by omega⟩ h4'⟩)
  have HLO := Lib.hid (fun (m : Int) (hm : mostK sn sd on od xs n = m) (m0 : 0 ≤ m) (m1 : m ≤ 2100000000000000) W => show Calls Try.prog 123 #[.int .i64 m, .int .i64 (sd * od)] W fun e w' => e = .returned (.agg #[.int .i64 lo.1, .int .i64 lo.2]) ∧ Ext W w' from by
    rw [← hl, hm]
    exact lowestP_any m (sd * od) (by unfold Big; omega) s0 (by unfold Big; omega) W)
  obtain ⟨W0, hW0⟩ : ∃ W0, W0 = ((w.alloc (.cells #[.int .i64 sn, .int .i64 sd] 32)).alloc (.cells #[.int .i64 on, .int .i64 od] 32)).alloc (.cells #[.int .i64 0, .int .i64 0, .int .i64 0, .int .i64 0, .int .i64 0, .int .i64 0, .int .i64 0, .int .i64 0] 118) := ⟨_, rfl⟩
  have K0 := Lib.hid (show Blk W0 w.heap.size 32 #[.int .i64 sn, .int .i64 sd] by rw [hW0]; exact ((Blk.new _ _ _).alloc _).alloc _)
  have K1 := Lib.hid (show Blk W0 (w.heap.size + 1) 32 #[.int .i64 on, .int .i64 od] by rw [hW0]; exact (Blk.newAt _ _ _ (by simp)).alloc _)
  have K2 := Lib.hid (show Blk W0 (w.heap.size + 1 + 1) 118 #[.int .i64 0, .int .i64 0, .int .i64 0, .int .i64 0, .int .i64 0, .int .i64 0, .int .i64 0, .int .i64 0] by rw [hW0]; exact Blk.newAt _ _ _ (by simp))
  have E0 := Lib.hid (show Ext w W0 by rw [hW0]; exact ((Ext.alloc _ _).trans (Ext.alloc _ _)).trans (Ext.alloc _ _))
  obtain ⟨sn0, sn1⟩ := h1
  obtain ⟨sd0, sd1⟩ := h2
  obtain ⟨on0, on1⟩ := h3
  obtain ⟨od0, od1⟩ := h4
  clear hn hA hok hw hl h2' h4'
  go_enter Try.func116, Try.ntmps116
  go_wp2
  rw [← hW0]
  clear hW0
  go_wp2
  go_loopw [7, 13] (fun u i wr => ∃ (k : Nat) (m : Int), k ≤ n ∧ i = .int .i64 k ∧ u = .int .i64 m ∧ 0 ≤ m ∧ m ≤ 2100000000000000 ∧ mostK sn sd on od xs k = m ∧ Ext W0 wr) (fun _ i _ => n - (intOf i).toNat)
  case atStart => exact ⟨0, 0, Nat.zero_le _, rfl, rfl, by omega, by omega, rfl, Ext.refl _⟩
  case round =>
    obtain ⟨k, m, hk, rfl, rfl, m0, m1, hm, hx⟩ := hrel
    have X := Lib.hid hx
    have HM := Lib.hid hm
    clear hx hm
    by_cases hlt : k < n
    · have hxk := G.out k hlt
      obtain ⟨⟨a1, a2⟩, ⟨a3, a4⟩, a5, a6⟩ := HDV.out _ (HO.out k)
      obtain ⟨b, o, rfl, hb2, hc⟩ := row_at (HA.out.ext (E0.out.trans X.out)) hxk
      have p0 := hc 0 _ rfl
      have p1 := hc 1 _ rfl
      simp only [Nat.add_zero] at p0
      have HK := Lib.hid (show mostK sn sd on od xs (k + 1) = max (max (mostK sn sd on od xs k) ((((xs.getD k default).v * sd - (xs.getD k default).s * sn) * od - on * sd))) (-((((xs.getD k default).v * sd - (xs.getD k default).s * sn) * od - on * sd))) from rfl)
      obtain ⟨v0, v1⟩ := (HO.out k).2
      obtain ⟨u0, u1⟩ := (HO.out k).1
      generalize xs.getD k default = x at *
      have hki : (k : Int) < (n : Int) := by omega
      clear hc hxk HDV HLO HWI
      have c0 : ∀ o, (wr.alloc o).cell? ⟨w.heap.size, 0, none⟩ = some (.int .i64 sn) := fun o => ((K0.out.ext X.out).alloc o).cell 0
      have c1 : ∀ o, (wr.alloc o).cell? ⟨w.heap.size, 1, none⟩ = some (.int .i64 sd) := fun o => ((K0.out.ext X.out).alloc o).cell 1
      have c2 : ∀ o, (wr.alloc o).cell? ⟨w.heap.size + 1, 0, none⟩ = some (.int .i64 on) := fun o => ((K1.out.ext X.out).alloc o).cell 0
      have c3 : ∀ o, (wr.alloc o).cell? ⟨w.heap.size + 1, 1, none⟩ = some (.int .i64 od) := fun o => ((K1.out.ext X.out).alloc o).cell 1
      go_wp2
      go_roundw
      case rel => exact ⟨k + 1, _, by omega, by go_num, rfl, by omega, by omega, by rw [HK.out, HM.out]; generalize (x.v * sd - x.s * sn) * od - on * sd = d; (repeat' split) <;> omega, X.out.trans (Ext.alloc _ _)⟩
      case measure => simp [intOf]; omega
    · have hkn : k = n := by omega
      have HMN := Lib.hid (show mostK sn sd on od xs n = m by rw [← hkn]; exact HM.out)
      have HLO := Lib.hid (HLO.out m HMN.out m0 m1)
      have hkn2 : ¬ (k : Int) < (n : Int) := by omega
      clear hkn HM HDV
      have y0 : wr.cell? ⟨w.heap.size, 0, none⟩ = some (.int .i64 (sn)) := (K0.out.ext X.out).cell 0
      have y1 : wr.cell? ⟨w.heap.size, 1, none⟩ = some (.int .i64 (sd)) := (K0.out.ext X.out).cell 1
      have y2 : wr.cell? ⟨w.heap.size + 1, 0, none⟩ = some (.int .i64 (on)) := (K1.out.ext X.out).cell 0
      have y3 : wr.cell? ⟨w.heap.size + 1, 1, none⟩ = some (.int .i64 (od)) := (K1.out.ext X.out).cell 1
      go_wp2
      refine wp_region_part 12 [some 43, some 44, some 45, some 46, some 47, some 48, some 49, some 50, some 51, some 52, some 53, some 54] [[4], [5], [0], [45], [7], [4], [48], [5], [50], [49, 51], [47, 52], [43, 44, 46, 53]]
        [Is (.agg #[.int .i64 (sn), .int .i64 (sd)]), Is (.agg #[.int .i64 (on), .int .i64 (od)]), Is (.slice A n ca), Is (.agg #[.int .i64 win.1, .int .i64 win.2]), Is (.int .i64 (m)), Is (.pointer (some ⟨w.heap.size, 1, none⟩)), Is (.int .i64 (sd)), Is (.pointer (some ⟨w.heap.size + 1, 1, none⟩)), Is (.int .i64 (od)), Is (.int .i64 (sd * od)), Is (.agg #[.int .i64 lo.1, .int .i64 lo.2]), Is (.agg #[.int .i64 sn, .int .i64 sd, .int .i64 on, .int .i64 od, .int .i64 win.1, .int .i64 win.2, .int .i64 lo.1, .int .i64 lo.2])]
        (by kernel_rfl) (by kernel_rfl) (by kernel_rfl) (by kernel_rfl) (by kernel_rfl) (by kernel_rfl) (by kernel_rfl) Ext (fun W => Ext wr W)
        (fun W _ => Ext.refl W) (fun W W' h k => h.trans k) ?_ (Ext.drew _) ?_ ?_
      · repeat (refine ⟨fun _ _ _ _ k h => (by first | exact h | exact (IntsAt.ext h k)), ?_⟩)
        exact trivial
      · refine ⟨?_, ?_, ?_, ?_, ?_, ?_, ?_, ?_, ?_, ?_, ?_, ?_, trivial⟩
        all_goals intro ρ W ⟨kc, kg, kf⟩ hF hs
        · obtain ⟨h0, -⟩ := hs
          replace h0 : ρ (.tmp 4) = .pointer (some ⟨w.heap.size, 0, none⟩) := h0
          have hc0 : W.cell? ⟨w.heap.size, 0, none⟩ = some (.int .i64 (sn)) := hF.cell (by assumption)
          have hc1 : W.cell? ⟨w.heap.size, 1, none⟩ = some (.int .i64 (sd)) := hF.cell (by assumption)
          go_simp
          exact ⟨Ext.refl _, rfl⟩
        · obtain ⟨h0, -⟩ := hs
          replace h0 : ρ (.tmp 5) = .pointer (some ⟨w.heap.size + 1, 0, none⟩) := h0
          have hc0 : W.cell? ⟨w.heap.size + 1, 0, none⟩ = some (.int .i64 (on)) := hF.cell (by assumption)
          have hc1 : W.cell? ⟨w.heap.size + 1, 1, none⟩ = some (.int .i64 (od)) := hF.cell (by assumption)
          go_simp
          exact ⟨Ext.refl _, rfl⟩
        · obtain ⟨h0, -⟩ := hs
          replace h0 : ρ (.tmp 0) = .slice A n ca := h0
          go_simp
          exact ⟨Ext.refl _, rfl⟩
        · obtain ⟨h0, -⟩ := hs
          replace h0 : ρ (.tmp 45) = .slice A n ca := h0
          go_simp
          refine (HWI.out _ (E0.out.trans (X.out.trans hF))).mono ?_; rintro e w' ⟨rfl, hx⟩; exact ⟨_, rfl, hx, rfl⟩
        · obtain ⟨h0, -⟩ := hs
          replace h0 : ρ (.tmp 7) = .int .i64 (m) := h0
          go_simp
          exact ⟨Ext.refl _, rfl⟩
        · obtain ⟨h0, -⟩ := hs
          replace h0 : ρ (.tmp 4) = .pointer (some ⟨w.heap.size, 0, none⟩) := h0
          go_simp
          exact ⟨Ext.refl _, rfl⟩
        · obtain ⟨h0, -⟩ := hs
          replace h0 : ρ (.tmp 48) = .pointer (some ⟨w.heap.size, 1, none⟩) := h0
          have hc0 : W.cell? ⟨w.heap.size, 1, none⟩ = some (.int .i64 (sd)) := hF.cell (by assumption)
          go_simp
          exact ⟨Ext.refl _, rfl⟩
        · obtain ⟨h0, -⟩ := hs
          replace h0 : ρ (.tmp 5) = .pointer (some ⟨w.heap.size + 1, 0, none⟩) := h0
          go_simp
          exact ⟨Ext.refl _, rfl⟩
        · obtain ⟨h0, -⟩ := hs
          replace h0 : ρ (.tmp 50) = .pointer (some ⟨w.heap.size + 1, 1, none⟩) := h0
          have hc0 : W.cell? ⟨w.heap.size + 1, 1, none⟩ = some (.int .i64 (od)) := hF.cell (by assumption)
          go_simp
          exact ⟨Ext.refl _, rfl⟩
        · obtain ⟨h0, h1, -⟩ := hs
          replace h0 : ρ (.tmp 49) = .int .i64 (sd) := h0
          replace h1 : ρ (.tmp 51) = .int .i64 (od) := h1
          have hw : IntKind.i64.wrap (sd * od) = sd * od := wrap_id _ (by omega) (by omega)
          go_simp
          exact ⟨Ext.refl _, rfl⟩
        · obtain ⟨h0, h1, -⟩ := hs
          replace h0 : ρ (.tmp 47) = .int .i64 (m) := h0
          replace h1 : ρ (.tmp 52) = .int .i64 (sd * od) := h1
          go_simp
          refine (HLO.out _).mono ?_; rintro e w' ⟨rfl, hx⟩; exact ⟨_, rfl, hx, rfl⟩
        · obtain ⟨h0, h1, h2, h3, -⟩ := hs
          replace h0 : ρ (.tmp 43) = .agg #[.int .i64 (sn), .int .i64 (sd)] := h0
          replace h1 : ρ (.tmp 44) = .agg #[.int .i64 (on), .int .i64 (od)] := h1
          replace h2 : ρ (.tmp 46) = .agg #[.int .i64 win.1, .int .i64 win.2] := h2
          replace h3 : ρ (.tmp 53) = .agg #[.int .i64 lo.1, .int .i64 lo.2] := h3
          go_simp
          exact ⟨Ext.refl _, rfl⟩
      · intro fv W hF hs
        obtain ⟨-, -, -, -, -, -, -, -, -, -, -, h54, -⟩ := hs
        replace h54 : fv 54 = .agg #[.int .i64 sn, .int .i64 sd, .int .i64 on, .int .i64 od, .int .i64 win.1, .int .i64 win.2, .int .i64 lo.1, .int .i64 lo.2] := h54
        simp only [fin, List.filterMap]
        go_simp
        have B2 := Lib.hid (K2.out.ext (X.out.trans hF))
        have X2 := Lib.hid (E0.out.trans (X.out.trans hF))
        clear hF y0 y1 y2 y3 K0 K1 K2
        have f0 := B2.out.free 0
        have c0 : W.cell? ⟨w.heap.size + 1 + 1, 0, none⟩ = some (.int .i64 0) := B2.out.cell 0
        have f1 := B2.out.free 1
        have c1 : W.cell? ⟨w.heap.size + 1 + 1, 1, none⟩ = some (.int .i64 0) := B2.out.cell 1
        have f2 := B2.out.free 2
        have c2 : W.cell? ⟨w.heap.size + 1 + 1, 2, none⟩ = some (.int .i64 0) := B2.out.cell 2
        have f3 := B2.out.free 3
        have c3 : W.cell? ⟨w.heap.size + 1 + 1, 3, none⟩ = some (.int .i64 0) := B2.out.cell 3
        have f4 := B2.out.free 4
        have c4 : W.cell? ⟨w.heap.size + 1 + 1, 4, none⟩ = some (.int .i64 0) := B2.out.cell 4
        have f5 := B2.out.free 5
        have c5 : W.cell? ⟨w.heap.size + 1 + 1, 5, none⟩ = some (.int .i64 0) := B2.out.cell 5
        have f6 := B2.out.free 6
        have c6 : W.cell? ⟨w.heap.size + 1 + 1, 6, none⟩ = some (.int .i64 0) := B2.out.cell 6
        have f7 := B2.out.free 7
        have c7 : W.cell? ⟨w.heap.size + 1 + 1, 7, none⟩ = some (.int .i64 0) := B2.out.cell 7
        clear B2
        go_wp2
        exact bodyPost_ret (v := .agg #[.int .i64 sn, .int .i64 sd, .int .i64 on, .int .i64 od, .int .i64 win.1, .int .i64 win.2, .int .i64 lo.1, .int .i64 lo.2]) (by simp [results, Try.f116, go_sem, c0, c1, c2, c3, c4, c5, c6, c7]) rfl ⟨rfl, Ext.set (Ext.set (Ext.set (Ext.set (Ext.set (Ext.set (Ext.set (Ext.set (X2.out) (by dsimp only; omega) _) (by dsimp only; omega) _) (by dsimp only; omega) _) (by dsimp only; omega) _) (by dsimp only; omega) _) (by dsimp only; omega) _) (by dsimp only; omega) _) (by dsimp only; omega) _⟩

end Go.Proofs.Ytmddnpagfgilcaa
