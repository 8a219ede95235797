/- Copies of shafts and of presses. -/
import Derived.Test.YtjdilmmpdlcimaaGreatQ0
import Derived.Lib.MinMax
import Derived.Deep.DeepCutAuto

namespace Go.Proofs.YtjdilmmpdlcimaaGreat
open Go.RowKit Go.Shelf Go.Mem Go.RegInv
attribute [local go_sem] RelUpon_value RelUpon_skip RelUpon_enter BigFrame.eval_const BigFrame.eval_global BigFrame.eval_func


def IntC (base : Nat) (xs : List Int) (n : Nat) (v : Value) (W : World) : Prop := ∃ A c, v = .slice A n c ∧ RowsAt 1 I1 W A xs ∧ (A = none → c = 0) ∧ ∀ b o, A = some ⟨b, o, none⟩ → base ≤ b
theorem IntC.ext {base : Nat} {xs : List Int} {n : Nat} {v : Value} {W W' : World} (h : IntC base xs n v W) (e : Ext W W') : IntC base xs n v W' := by
  obtain ⟨A, c, h1, h2, h3⟩ := h
  exact ⟨A, c, h1, h2.ext e, h3⟩

def RgC (base : Nat) (xs : List Rg) (n : Nat) (v : Value) (W : World) : Prop := ∃ A c, v = .slice A n c ∧ RowsAt 2 Rg.enc W A xs ∧ (A = none → c = 0) ∧ ∀ b o, A = some ⟨b, o, none⟩ → base ≤ b
theorem RgC.ext {base : Nat} {xs : List Rg} {n : Nat} {v : Value} {W W' : World} (h : RgC base xs n v W) (e : Ext W W') : RgC base xs n v W' := by
  obtain ⟨A, c, h1, h2, h3⟩ := h
  exact ⟨A, c, h1, h2.ext e, h3⟩

def SkC (base : Nat) (xs : List Sk) (n : Nat) (v : Value) (W : World) : Prop := ∃ A c, v = .slice A n c ∧ RowsAt 3 Sk.enc W A xs ∧ (A = none → c = 0) ∧ ∀ b o, A = some ⟨b, o, none⟩ → base ≤ b
theorem SkC.ext {base : Nat} {xs : List Sk} {n : Nat} {v : Value} {W W' : World} (h : SkC base xs n v W) (e : Ext W W') : SkC base xs n v W' := by
  obtain ⟨A, c, h1, h2, h3⟩ := h
  exact ⟨A, c, h1, h2.ext e, h3⟩

def ShC (base : Nat) (L : Int) (js : List Int) (ks : List Rg) (n m : Nat) (v : Value) (W : World) : Prop := ∃ J cj K ck, v = .agg #[.int .i64 L, .slice J n cj, .slice K m ck] ∧ RowsAt 1 I1 W J js ∧ RowsAt 2 Rg.enc W K ks ∧ (J = none → cj = 0) ∧ (K = none → ck = 0) ∧ (∀ b o, J = some ⟨b, o, none⟩ → base ≤ b) ∧ ∀ b o, K = some ⟨b, o, none⟩ → base ≤ b
theorem ShC.ext {base : Nat} {L : Int} {js : List Int} {ks : List Rg} {n m : Nat} {v : Value} {W W' : World} (h : ShC base L js ks n m v W) (e : Ext W W') : ShC base L js ks n m v W' := by
  obtain ⟨J, cj, K, ck, h1, h2, h3, h4⟩ := h
  exact ⟨J, cj, K, ck, h1, h2.ext e, h3.ext e, h4⟩
def PrC (base : Nat) (am : List Int) (sp ga li : Int) (np : Nat) (v : Value) (W : World) : Prop := ∃ P cp, v = .agg #[.slice P np cp, .int .i64 sp, .int .i64 ga, .int .i64 li] ∧ RowsAt 1 I1 W P am ∧ (P = none → cp = 0) ∧ ∀ b o, P = some ⟨b, o, none⟩ → base ≤ b
theorem PrC.ext {base : Nat} {am : List Int} {sp ga li : Int} {np : Nat} {v : Value} {W W' : World} (h : PrC base am sp ga li np v W) (e : Ext W W') : PrC base am sp ga li np v W' := by
  obtain ⟨P, cp, h1, h2, h3⟩ := h
  exact ⟨P, cp, h1, h2.ext e, h3⟩
set_option maxRecDepth 100000 in
set_option maxHeartbeats 1000000 in
theorem copyShaft_any {L : Int} {J K : Option Addr} {n m cj ck : Nat} {js : List Int} {ks : List Rg} {w : World} (hn : js.length = n) (hJ : RowsAt 1 I1 w J js) (hm : ks.length = m) (hK : RowsAt 2 Rg.enc w K ks) (hjn : J = none → cj = 0) (hkn : K = none → ck = 0) (h1 : n ≤ 1000) (h2 : m ≤ 1000) :
    Calls Tryz.prog 9 #[.agg #[.int .i64 L, .slice J n cj, .slice K m ck]] w fun e w' => ∃ v, e = .returned v ∧ ShC w.heap.size L js ks n m v w' ∧ Ext w w' := by
  have HCI := Lib.hid (fun W (e : Ext w W) => copyInts_any (ca := cj) hn (hJ.ext e) h1 hjn)
  have HCR := Lib.hid (fun W (e : Ext w W) => copyRanges_any (ca := ck) hm (hK.ext e) h2 hkn)
  clear hn hJ hm hK hjn hkn
  obtain ⟨W0, hW0⟩ : ∃ W0, W0 = (w.alloc (.cells #[.int .i64 L, .slice J n cj, .slice K m ck] 25)).alloc (.cells #[.int .i64 0, .slice none 0 0, .slice none 0 0] 25) := ⟨_, rfl⟩
  have K0 := Lib.hid (show Blk W0 (w.heap.size) 25 #[.int .i64 L, .slice J n cj, .slice K m ck] by rw [hW0]; exact (Blk.new _ _ _).alloc _)
  have K1 := Lib.hid (show Blk W0 (w.heap.size + 1) 25 #[.int .i64 0, .slice none 0 0, .slice none 0 0] by rw [hW0]; exact Blk.newAt _ _ _ (by simp))
  have E0 := Lib.hid (show Ext w W0 by rw [hW0]; exact (Ext.alloc _ _).trans (Ext.alloc _ _))
  have y0_0 : W0.cell? ⟨w.heap.size, 0, none⟩ = some (.int .i64 L) := K0.out.cell 0
  have y0_1 : W0.cell? ⟨w.heap.size, 1, none⟩ = some (.slice J n cj) := K0.out.cell 1
  have y0_2 : W0.cell? ⟨w.heap.size, 2, none⟩ = some (.slice K m ck) := K0.out.cell 2
  have y1_0 : W0.cell? ⟨w.heap.size + 1, 0, none⟩ = some (.int .i64 0) := K1.out.cell 0
  have y1_1 : W0.cell? ⟨w.heap.size + 1, 1, none⟩ = some (.slice none 0 0) := K1.out.cell 1
  have y1_2 : W0.cell? ⟨w.heap.size + 1, 2, none⟩ = some (.slice none 0 0) := K1.out.cell 2
  have HSZ := Lib.hid (show W0.heap.size = w.heap.size + 2 by rw [hW0]; simp)
  go_enter Tryz.func9, Tryz.ntmps9
  go_wp2
  rw [← hW0]
  clear hW0
  go_wp2
  refine wp_region_part 9 [some 3, some 4, some 5, some 6, some 7, some 8, some 9, some 10, some 11] [[1], [3], [1], [5], [6], [1], [8], [9], [4, 7, 10]]
    [Is (.pointer (some ⟨w.heap.size, 0, none⟩)), Is (.int .i64 (L)), Is (.pointer (some ⟨w.heap.size, 1, none⟩)), Is (.slice J n cj), IntC (w.heap.size + 2) js n, Is (.pointer (some ⟨w.heap.size, 2, none⟩)), Is (.slice K m ck), RgC (w.heap.size + 2) ks m, ShC (w.heap.size + 2) L js ks n m]
    (by kernel_rfl) (by kernel_rfl) (by kernel_rfl) (by kernel_rfl) (by kernel_rfl) (by kernel_rfl) (by kernel_rfl) Ext (fun W => Ext W0 W)
    (fun W _ => Ext.refl W) (fun W W' h k => h.trans k) ?_ (Ext.drew _) ?_ ?_
  · repeat (refine ⟨fun _ _ _ _ k h => (by first | exact h | exact (by first | exact IntsAt.ext h k | exact IntC.ext h k | exact RgC.ext h k | exact ShC.ext h k | exact PrC.ext h k | exact SkC.ext h k)), ?_⟩)
    exact trivial
  · refine ⟨?_, ?_, ?_, ?_, ?_, ?_, ?_, ?_, ?_, trivial⟩
    all_goals intro ρ W ⟨kc, kg, kf⟩ hF hs
    · obtain ⟨h0, -⟩ := hs
      replace h0 : ρ (.tmp 1) = .pointer (some ⟨w.heap.size, 0, none⟩) := h0
      go_simp
      exact ⟨Ext.refl _, rfl⟩
    · obtain ⟨h0, -⟩ := hs
      replace h0 : ρ (.tmp 3) = .pointer (some ⟨w.heap.size, 0, none⟩) := h0
      have hc0 : W.cell? ⟨w.heap.size, 0, none⟩ = some (.int .i64 (L)) := hF.cell (by assumption)
      go_simp
      exact ⟨Ext.refl _, rfl⟩
    · obtain ⟨h0, -⟩ := hs
      replace h0 : ρ (.tmp 1) = .pointer (some ⟨w.heap.size, 0, none⟩) := h0
      go_simp
      exact ⟨Ext.refl _, rfl⟩
    · obtain ⟨h0, -⟩ := hs
      replace h0 : ρ (.tmp 5) = .pointer (some ⟨w.heap.size, 1, none⟩) := h0
      have hc0 : W.cell? ⟨w.heap.size, 1, none⟩ = some (.slice J n cj) := hF.cell (by assumption)
      go_simp
      exact ⟨Ext.refl _, rfl⟩
    · obtain ⟨h0, -⟩ := hs
      replace h0 : ρ (.tmp 6) = .slice J n cj := h0
      go_simp
      refine (HCI.out _ (E0.out.trans hF)).mono ?_; rintro e w' ⟨A', c', rfl, hr, hn1, hc1, hl1, hx⟩; exact ⟨_, rfl, hx, A', c', rfl, hr, hn1, fun b o hb => by have := HSZ.out; have := hF.size; have := hl1 b o hb; omega⟩
    · obtain ⟨h0, -⟩ := hs
      replace h0 : ρ (.tmp 1) = .pointer (some ⟨w.heap.size, 0, none⟩) := h0
      go_simp
      exact ⟨Ext.refl _, rfl⟩
    · obtain ⟨h0, -⟩ := hs
      replace h0 : ρ (.tmp 8) = .pointer (some ⟨w.heap.size, 2, none⟩) := h0
      have hc0 : W.cell? ⟨w.heap.size, 2, none⟩ = some (.slice K m ck) := hF.cell (by assumption)
      go_simp
      exact ⟨Ext.refl _, rfl⟩
    · obtain ⟨h0, -⟩ := hs
      replace h0 : ρ (.tmp 9) = .slice K m ck := h0
      go_simp
      refine (HCR.out _ (E0.out.trans hF)).mono ?_; rintro e w' ⟨A', c', rfl, hr, hn1, hc1, hl1, hx⟩; exact ⟨_, rfl, hx, A', c', rfl, hr, hn1, fun b o hb => by have := HSZ.out; have := hF.size; have := hl1 b o hb; omega⟩
    · obtain ⟨h0, h1, h2, -⟩ := hs
      replace h0 : ρ (.tmp 4) = .int .i64 (L) := h0
      replace h1 : (IntC (w.heap.size + 2) js n) (ρ (.tmp 7)) W := h1
      replace h2 : (RgC (w.heap.size + 2) ks m) (ρ (.tmp 10)) W := h2
      obtain ⟨A1, c1, e1, r1, n1, b1⟩ := h1
      obtain ⟨A2, c2, e2, r2, n2, b2⟩ := h2
      replace e1 : ρ (.tmp 7) = .slice A1 n c1 := e1
      replace e2 : ρ (.tmp 10) = .slice A2 m c2 := e2
      go_simp
      exact ⟨Ext.refl _, A1, c1, A2, c2, rfl, r1, r2, n1, n2, b1, b2⟩
  · intro fv W hF hs
    obtain ⟨-, -, -, -, -, -, -, -, h11, -⟩ := hs
    replace h11 : (ShC (w.heap.size + 2) L js ks n m) (fv 11) W := h11
    simp only [fin, List.filterMap]
    go_simp
    replace K1 := Lib.hid (K1.out.ext hF)
    clear y1_0 y1_1 y1_2
    have u0 : W.cell? ⟨w.heap.size + 1, 0, none⟩ = some (.int .i64 0) := K1.out.cell 0
    have u1 : W.cell? ⟨w.heap.size + 1, 1, none⟩ = some (.slice none 0 0) := K1.out.cell 1
    have u2 : W.cell? ⟨w.heap.size + 1, 2, none⟩ = some (.slice none 0 0) := K1.out.cell 2
    have f0 := K1.out.free 0
    have f1 := K1.out.free 1
    have f2 := K1.out.free 2
    obtain ⟨J', cj', K', ck', hv, hr1, hr2, hn1, hn2, hb1, hb2⟩ := h11
    have HV := Lib.hid hv
    have R1 := Lib.hid hr1
    have R2 := Lib.hid hr2
    have X := Lib.hid (E0.out.trans hF)
    have B1 := Lib.hid hb1
    have B2 := Lib.hid hb2
    have N1 := Lib.hid hn1
    have N2 := Lib.hid hn2
    clear hr1 hr2 hb1 hb2 hn1 hn2 hF
    rw [HV.out]
    clear hv HV
    go_wp2
    exact bodyPost_ret (v := .agg #[.int .i64 L, .slice J' n cj', .slice K' m ck']) (by simp [results, Tryz.f9, go_sem, u0, u1, u2]) rfl ⟨_, rfl, ⟨_, _, _, _, rfl, (rows_setOther (rows_setOther (rows_setOther R1.out (fun b o hb => by have := B1.out b o hb; dsimp only; omega) _) (fun b o hb => by have := B1.out b o hb; dsimp only; omega) _) (fun b o hb => by have := B1.out b o hb; dsimp only; omega) _), (rows_setOther (rows_setOther (rows_setOther R2.out (fun b o hb => by have := B2.out b o hb; dsimp only; omega) _) (fun b o hb => by have := B2.out b o hb; dsimp only; omega) _) (fun b o hb => by have := B2.out b o hb; dsimp only; omega) _), N1.out, N2.out, fun b o hb => by have := B1.out b o hb; omega, fun b o hb => by have := B2.out b o hb; omega⟩, (Ext.set (Ext.set (Ext.set X.out (by dsimp only; omega) _) (by dsimp only; omega) _) (by dsimp only; omega) _)⟩
set_option maxRecDepth 100000 in
set_option maxHeartbeats 1000000 in
theorem copyPress_any {P : Option Addr} {np cp : Nat} {am : List Int} {sp ga li : Int} {w : World} (hn : am.length = np) (hP : RowsAt 1 I1 w P am) (hpn : P = none → cp = 0) (h1 : np ≤ 1000) :
    Calls Tryz.prog 10 #[.agg #[.slice P np cp, .int .i64 sp, .int .i64 ga, .int .i64 li]] w fun e w' => ∃ v, e = .returned v ∧ PrC w.heap.size am sp ga li np v w' ∧ Ext w w' := by
  have HCI := Lib.hid (fun W (e : Ext w W) => copyInts_any (ca := cp) hn (hP.ext e) h1 hpn)
  clear hn hP hpn
  obtain ⟨W0, hW0⟩ : ∃ W0, W0 = (w.alloc (.cells #[.slice P np cp, .int .i64 sp, .int .i64 ga, .int .i64 li] 27)).alloc (.cells #[.slice none 0 0, .int .i64 0, .int .i64 0, .int .i64 0] 27) := ⟨_, rfl⟩
  have K0 := Lib.hid (show Blk W0 (w.heap.size) 27 #[.slice P np cp, .int .i64 sp, .int .i64 ga, .int .i64 li] by rw [hW0]; exact (Blk.new _ _ _).alloc _)
  have K1 := Lib.hid (show Blk W0 (w.heap.size + 1) 27 #[.slice none 0 0, .int .i64 0, .int .i64 0, .int .i64 0] by rw [hW0]; exact Blk.newAt _ _ _ (by simp))
  have E0 := Lib.hid (show Ext w W0 by rw [hW0]; exact (Ext.alloc _ _).trans (Ext.alloc _ _))
  have y0_0 : W0.cell? ⟨w.heap.size, 0, none⟩ = some (.slice P np cp) := K0.out.cell 0
  have y0_1 : W0.cell? ⟨w.heap.size, 1, none⟩ = some (.int .i64 sp) := K0.out.cell 1
  have y0_2 : W0.cell? ⟨w.heap.size, 2, none⟩ = some (.int .i64 ga) := K0.out.cell 2
  have y0_3 : W0.cell? ⟨w.heap.size, 3, none⟩ = some (.int .i64 li) := K0.out.cell 3
  have y1_0 : W0.cell? ⟨w.heap.size + 1, 0, none⟩ = some (.slice none 0 0) := K1.out.cell 0
  have y1_1 : W0.cell? ⟨w.heap.size + 1, 1, none⟩ = some (.int .i64 0) := K1.out.cell 1
  have y1_2 : W0.cell? ⟨w.heap.size + 1, 2, none⟩ = some (.int .i64 0) := K1.out.cell 2
  have y1_3 : W0.cell? ⟨w.heap.size + 1, 3, none⟩ = some (.int .i64 0) := K1.out.cell 3
  have HSZ := Lib.hid (show W0.heap.size = w.heap.size + 2 by rw [hW0]; simp)
  go_enter Tryz.func10, Tryz.ntmps10
  go_wp2
  rw [← hW0]
  clear hW0
  go_wp2
  refine wp_region_part 10 [some 3, some 4, some 5, some 6, some 7, some 8, some 9, some 10, some 11, some 12] [[1], [3], [4], [1], [6], [1], [8], [1], [10], [5, 7, 9, 11]]
    [Is (.pointer (some ⟨w.heap.size, 0, none⟩)), Is (.slice P np cp), IntC (w.heap.size + 2) am np, Is (.pointer (some ⟨w.heap.size, 1, none⟩)), Is (.int .i64 (sp)), Is (.pointer (some ⟨w.heap.size, 2, none⟩)), Is (.int .i64 (ga)), Is (.pointer (some ⟨w.heap.size, 3, none⟩)), Is (.int .i64 (li)), PrC (w.heap.size + 2) am sp ga li np]
    (by kernel_rfl) (by kernel_rfl) (by kernel_rfl) (by kernel_rfl) (by kernel_rfl) (by kernel_rfl) (by kernel_rfl) Ext (fun W => Ext W0 W)
    (fun W _ => Ext.refl W) (fun W W' h k => h.trans k) ?_ (Ext.drew _) ?_ ?_
  · repeat (refine ⟨fun _ _ _ _ k h => (by first | exact h | exact (by first | exact IntsAt.ext h k | exact IntC.ext h k | exact RgC.ext h k | exact ShC.ext h k | exact PrC.ext h k | exact SkC.ext h k)), ?_⟩)
    exact trivial
  · refine ⟨?_, ?_, ?_, ?_, ?_, ?_, ?_, ?_, ?_, ?_, trivial⟩
    all_goals intro ρ W ⟨kc, kg, kf⟩ hF hs
    · obtain ⟨h0, -⟩ := hs
      replace h0 : ρ (.tmp 1) = .pointer (some ⟨w.heap.size, 0, none⟩) := h0
      go_simp
      exact ⟨Ext.refl _, rfl⟩
    · obtain ⟨h0, -⟩ := hs
      replace h0 : ρ (.tmp 3) = .pointer (some ⟨w.heap.size, 0, none⟩) := h0
      have hc0 : W.cell? ⟨w.heap.size, 0, none⟩ = some (.slice P np cp) := hF.cell (by assumption)
      go_simp
      exact ⟨Ext.refl _, rfl⟩
    · obtain ⟨h0, -⟩ := hs
      replace h0 : ρ (.tmp 4) = .slice P np cp := h0
      go_simp
      refine (HCI.out _ (E0.out.trans hF)).mono ?_; rintro e w' ⟨A', c', rfl, hr, hn1, hc1, hl1, hx⟩; exact ⟨_, rfl, hx, A', c', rfl, hr, hn1, fun b o hb => by have := HSZ.out; have := hF.size; have := hl1 b o hb; omega⟩
    · obtain ⟨h0, -⟩ := hs
      replace h0 : ρ (.tmp 1) = .pointer (some ⟨w.heap.size, 0, none⟩) := h0
      go_simp
      exact ⟨Ext.refl _, rfl⟩
    · obtain ⟨h0, -⟩ := hs
      replace h0 : ρ (.tmp 6) = .pointer (some ⟨w.heap.size, 1, none⟩) := h0
      have hc0 : W.cell? ⟨w.heap.size, 1, none⟩ = some (.int .i64 (sp)) := hF.cell (by assumption)
      go_simp
      exact ⟨Ext.refl _, rfl⟩
    · obtain ⟨h0, -⟩ := hs
      replace h0 : ρ (.tmp 1) = .pointer (some ⟨w.heap.size, 0, none⟩) := h0
      go_simp
      exact ⟨Ext.refl _, rfl⟩
    · obtain ⟨h0, -⟩ := hs
      replace h0 : ρ (.tmp 8) = .pointer (some ⟨w.heap.size, 2, none⟩) := h0
      have hc0 : W.cell? ⟨w.heap.size, 2, none⟩ = some (.int .i64 (ga)) := hF.cell (by assumption)
      go_simp
      exact ⟨Ext.refl _, rfl⟩
    · obtain ⟨h0, -⟩ := hs
      replace h0 : ρ (.tmp 1) = .pointer (some ⟨w.heap.size, 0, none⟩) := h0
      go_simp
      exact ⟨Ext.refl _, rfl⟩
    · obtain ⟨h0, -⟩ := hs
      replace h0 : ρ (.tmp 10) = .pointer (some ⟨w.heap.size, 3, none⟩) := h0
      have hc0 : W.cell? ⟨w.heap.size, 3, none⟩ = some (.int .i64 (li)) := hF.cell (by assumption)
      go_simp
      exact ⟨Ext.refl _, rfl⟩
    · obtain ⟨h0, h1, h2, h3, -⟩ := hs
      replace h0 : (IntC (w.heap.size + 2) am np) (ρ (.tmp 5)) W := h0
      replace h1 : ρ (.tmp 7) = .int .i64 (sp) := h1
      replace h2 : ρ (.tmp 9) = .int .i64 (ga) := h2
      replace h3 : ρ (.tmp 11) = .int .i64 (li) := h3
      obtain ⟨A1, c1, e1, r1, n1, b1⟩ := h0
      replace e1 : ρ (.tmp 5) = .slice A1 np c1 := e1
      go_simp
      exact ⟨Ext.refl _, A1, c1, rfl, r1, n1, b1⟩
  · intro fv W hF hs
    obtain ⟨-, -, -, -, -, -, -, -, -, h12, -⟩ := hs
    replace h12 : (PrC (w.heap.size + 2) am sp ga li np) (fv 12) W := h12
    simp only [fin, List.filterMap]
    go_simp
    replace K1 := Lib.hid (K1.out.ext hF)
    clear y1_0 y1_1 y1_2 y1_3
    have u0 : W.cell? ⟨w.heap.size + 1, 0, none⟩ = some (.slice none 0 0) := K1.out.cell 0
    have u1 : W.cell? ⟨w.heap.size + 1, 1, none⟩ = some (.int .i64 0) := K1.out.cell 1
    have u2 : W.cell? ⟨w.heap.size + 1, 2, none⟩ = some (.int .i64 0) := K1.out.cell 2
    have u3 : W.cell? ⟨w.heap.size + 1, 3, none⟩ = some (.int .i64 0) := K1.out.cell 3
    have f0 := K1.out.free 0
    have f1 := K1.out.free 1
    have f2 := K1.out.free 2
    have f3 := K1.out.free 3
    obtain ⟨P', cp', hv, hr1, hn1, hb1⟩ := h12
    have HV := Lib.hid hv
    have R1 := Lib.hid hr1
    have X := Lib.hid (E0.out.trans hF)
    have B1 := Lib.hid hb1
    have N1 := Lib.hid hn1
    clear hr1 hb1 hn1 hF
    rw [HV.out]
    clear hv HV
    go_wp2
    exact bodyPost_ret (v := .agg #[.slice P' np cp', .int .i64 sp, .int .i64 ga, .int .i64 li]) (by simp [results, Tryz.f10, go_sem, u0, u1, u2, u3]) rfl ⟨_, rfl, ⟨_, _, rfl, (rows_setOther (rows_setOther (rows_setOther (rows_setOther R1.out (fun b o hb => by have := B1.out b o hb; dsimp only; omega) _) (fun b o hb => by have := B1.out b o hb; dsimp only; omega) _) (fun b o hb => by have := B1.out b o hb; dsimp only; omega) _) (fun b o hb => by have := B1.out b o hb; dsimp only; omega) _), N1.out, fun b o hb => by have := B1.out b o hb; omega⟩, (Ext.set (Ext.set (Ext.set (Ext.set X.out (by dsimp only; omega) _) (by dsimp only; omega) _) (by dsimp only; omega) _) (by dsimp only; omega) _)⟩

end Go.Proofs.YtjdilmmpdlcimaaGreat
