/- Case depths. -/
import Derived.Test.YtkmekbafjnlfkaaGreatS14

namespace Go.Proofs.YtkmekbafjnlfkaaGreat
open Go.RowKit Go.Shelf Go.Mem Go.RegInv
attribute [local go_sem] RelUpon_value RelUpon_skip RelUpon_enter BigFrame.eval_const BigFrame.eval_global BigFrame.eval_func

def hrdE (r : Rg) : Int := endsE 0 2000 r
set_option maxRecDepth 100000 in
theorem hardError_any (r : Rg) (w : World) : Calls Tryz.prog 116 #[.agg #[.int .i64 r.lo, .int .i64 r.hi]] w fun e w' => e = .returned (.int .i64 (hrdE r)) ∧ Ext w w' := by
  have H := Lib.hid (fun W => endsError_any 0 2000 r W)
  have HR := Lib.hid (show hrdE r = endsE 0 2000 r from rfl)
  generalize endsE 0 2000 r = z at H HR
  go_enter Tryz.func116, Tryz.ntmps116
  go_wp2_with (go_at_call 109; refine (H.out _).mono ?_; rintro e W1 ⟨rfl, hx⟩; have X1 := Lib.hid hx; clear hx)
  go_ret
  exact ⟨ret_int HR.out.symm, (Ext.alloc _ _).trans X1.out⟩

def hrdAt (xs : List Rg) (k : Nat) : Int := hrdE (xs.getD k default)
set_option maxRecDepth 100000 in
set_option maxHeartbeats 1000000 in
theorem firstError115_any {A : Option Addr} {n ca : Nat} {xs : List Rg} {w : World} (hn : xs.length = n) (hA : RowsAt 2 Rg.enc w A xs) : Calls Tryz.prog 115 #[.slice A n ca, .func (.func 116) #[] #[]] w fun e w' => e = .returned (.tuple #[.int .i64 (firstAt (hrdAt xs) n 0).1, .int .i64 (firstAt (hrdAt xs) n 0).2]) ∧ Ext w w' := by
  have hnb : n ≤ 1152921504606846976 := by have := hA.1; omega
  have HA := Lib.hid hA
  have HN := Lib.hid hn
  clear hA hn
  go_enter Tryz.func115, Tryz.ntmps115
  go_wp2
  go_loopw [11] (fun i wr => ∃ k : Nat, k ≤ n ∧ i = .int .i64 k ∧ firstAt (hrdAt xs) n 0 = firstAt (hrdAt xs) (n - k) k ∧ Ext w wr) (fun i _ => n - (intOf i).toNat)
  case atStart => exact ⟨0, Nat.zero_le _, rfl, rfl, Ext.refl _⟩
  case round =>
    obtain ⟨k, hk, rfl, hr, hx⟩ := hrel
    have HR := Lib.hid hr
    have HX := Lib.hid hx
    clear hr hx
    by_cases hlt : k < n
    · obtain ⟨x, hg⟩ : ∃ x, xs[k]? = some x := ⟨_, List.getElem?_eq_getElem (by rw [HN.out]; exact hlt)⟩
      have HD := Lib.hid (firstAt_step (hrdAt xs) hlt)
      obtain ⟨b, o, hAe, hb, hc⟩ := HA.out.2 k x hg
      subst hAe
      have c0 : wr.cell? ⟨b, o + k * 2, none⟩ = some (.int .i64 x.lo) := HX.out.cell (hc 0 _ rfl)
      have c1 : wr.cell? ⟨b, o + k * 2 + 1, none⟩ = some (.int .i64 x.hi) := HX.out.cell (hc 1 _ rfl)
      have HE := Lib.hid (show hrdAt xs k = hrdE x by unfold hrdAt; rw [List.getD_eq_getElem?_getD, hg]; rfl)
      have HK := Lib.hid (fun W => hardError_any x W)
      have hki : (k : Int) < (n : Int) := by omega
      clear hg hb hc
      generalize hrdE x = z at HE HK
      by_cases hz : z = 0
      · have hz' : (z != 0) = false := by simp [hz]
        have HZ := Lib.hid hz
        clear hz
        go_wp2_with (go_at_call 116; refine (HK.out _).mono ?_; rintro e W1 ⟨rfl, hx⟩; have X1 := Lib.hid ((Ext.alloc _ _).trans hx); clear hx)
        go_roundw
        case rel => exact ⟨k + 1, by omega, by go_num, by rw [HR.out, HD.out, if_neg (by rw [HE.out, HZ.out]; simp)], HX.out.trans X1.out⟩
        case measure => simp [intOf]; omega
      · have hz' : (z != 0) = true := by simp [hz]
        have HZ := Lib.hid hz
        have HA' := Lib.hid (show firstAt (hrdAt xs) n 0 = ((k : Int), z) by rw [HR.out, HD.out, if_pos (by rw [HE.out]; exact HZ.out), HE.out])
        clear hz
        go_wp2_with (go_at_call 116; refine (HK.out _).mono ?_; rintro e W1 ⟨rfl, hx⟩; have X1 := Lib.hid ((Ext.alloc _ _).trans hx); clear hx)
        rw [HA'.out]
        go_ret2
        exact ⟨rfl, HX.out.trans X1.out⟩
    · have HA' := Lib.hid (show firstAt (hrdAt xs) n 0 = (0, 0) by rw [HR.out, show n - k = 0 by omega]; rfl)
      go_wp2
      rw [HA'.out]
      go_ret2
      exact ⟨rfl, HX.out⟩

def softLo (l : Int) (r : Rg) : Bool := decide (r.lo < l)
def softHi (l : Int) (r : Rg) : Bool := decide (r.hi < l)

theorem softLo_any (r : Rg) (l : Int) (q : Addr) (w : World) (hq : w.cell? q = some (.int .i64 l)) : Calls Tryz.prog 118 #[.agg #[.int .i64 r.lo, .int .i64 r.hi], .pointer (some q)] w fun e w' => e = .returned (.bool (softLo l r)) ∧ Ext w w' := by
  have hA : ∀ o, (w.alloc o).cell? q = some (.int .i64 l) := fun o => (Ext.alloc w o).cell hq
  clear hq
  go_enter Tryz.func118, Tryz.ntmps118
  go_wp2
  go_ret
  exact ⟨rfl, Ext.alloc _ _⟩

set_option maxRecDepth 100000 in
set_option maxHeartbeats 1000000 in
theorem indexFunc142_118 (q : Addr) {A : Option Addr} {n ca : Nat} {xs : List Rg} (p : Rg → Bool) {w : World} (hn : xs.length = n) (hA : RowsAt 2 Rg.enc w A xs)
    (hF : ∀ (g : Rg) (W : World), Ext w W → Calls Tryz.prog 118 #[.agg #[.int .i64 g.lo, .int .i64 g.hi], .pointer (some q)] W fun e w' => e = .returned (.bool (p g)) ∧ Ext W w') :
    Calls Tryz.prog 142 #[.slice A n ca, .func (.func 118) #[] #[.pointer (some q)]] w fun e w' => e = .returned (.int .i64 (idxF p xs 0)) ∧ Ext w w' := by
  have hnb : n ≤ 1152921504606846976 := by have := hA.1; omega
  have HA := Lib.hid hA
  have HN := Lib.hid hn
  have HF := Lib.hid hF
  clear hA hn hF
  go_enter Tryz.func142, Tryz.ntmps142
  go_wp2
  go_loopw [8] (fun i wr => ∃ k : Nat, k ≤ n ∧ i = .int .i64 k ∧ idxF p xs 0 = idxF p (xs.drop k) k ∧ Ext w wr) (fun i _ => n - (intOf i).toNat)
  case atStart => exact ⟨0, Nat.zero_le _, rfl, rfl, Ext.refl _⟩
  case round =>
    obtain ⟨k, hk, rfl, hr, hx⟩ := hrel
    have HR := Lib.hid hr
    have HX := Lib.hid hx
    clear hr hx
    by_cases hlt : k < n
    · obtain ⟨g, hg⟩ : ∃ g, xs[k]? = some g := ⟨_, List.getElem?_eq_getElem (by rw [HN.out]; exact hlt)⟩
      have HD := Lib.hid (idxF_drop p xs k g hg)
      obtain ⟨b, o, hAe, hb, hc⟩ := HA.out.2 k g hg
      subst hAe
      have c0 : wr.cell? ⟨b, o + k * 2, none⟩ = some (.int .i64 g.lo) := HX.out.cell (hc 0 _ rfl)
      have c1 : wr.cell? ⟨b, o + k * 2 + 1, none⟩ = some (.int .i64 g.hi) := HX.out.cell (hc 1 _ rfl)
      have HC := Lib.hid (HF.out g wr HX.out)
      clear hg hc hb
      generalize p g = z at HD HC
      generalize g.lo = g0 at *
      generalize g.hi = g1 at *
      have hki : (k : Int) < (n : Int) := by omega
      cases z
      · go_wp2_with (go_at_call 118; refine HC.out.mono ?_; rintro e W2 ⟨rfl, hx2⟩; have X2 := Lib.hid hx2; clear hx2)
        go_roundw
        case rel => exact ⟨k + 1, by omega, by go_num, by rw [HR.out, HD.out, if_neg (by simp)], HX.out.trans X2.out⟩
        case measure => simp [intOf]; omega
      · go_wp2_with (go_at_call 118; refine HC.out.mono ?_; rintro e W2 ⟨rfl, hx2⟩; have X2 := Lib.hid hx2; clear hx2)
        go_ret
        exact ⟨ret_int (by rw [HR.out, HD.out, if_pos (by trivial)]), HX.out.trans X2.out⟩
    · have HE := Lib.hid (show idxF p (xs.drop k) k = -1 by rw [List.drop_of_length_le (by rw [HN.out]; omega)]; rfl)
      go_wp2
      go_ret
      exact ⟨ret_int (by rw [HR.out, HE.out]), HX.out⟩

theorem cellsUpTo_118 {A : Option Addr} {n ca : Nat} {xs : List Rg} {w : World} (l : Int) (q : Addr) (hq : w.cell? q = some (.int .i64 l)) (hn : xs.length = n) (hA : RowsAt 2 Rg.enc w A xs) :
    Calls Tryz.prog 117 #[.slice A n ca, .func (.func 118) #[] #[.pointer (some q)]] w fun e w' => e = .returned (.int .i64 (if 0 ≤ idxF (softLo l) xs 0 then idxF (softLo l) xs 0 else n)) ∧ Ext w w' := by
  have H := Lib.hid (indexFunc142_118 (ca := ca) q (softLo l) hn hA (fun g W e => softLo_any g l q W (e.cell hq)))
  clear hq hA hn
  generalize idxF (softLo l) xs 0 = m at H
  by_cases hm : 0 ≤ m
  all_goals
    go_enter Tryz.func117, Tryz.ntmps117
    go_wp2_with (go_at_call 142; refine H.out.mono ?_; rintro e W1 ⟨rfl, hx⟩; have X1 := Lib.hid hx; clear hx)
    go_ret
  · exact ⟨by first | rfl | (rw [if_pos hm]), X1.out⟩
  · exact ⟨by first | rfl | (rw [if_neg hm]), X1.out⟩

theorem softHi_any (r : Rg) (l : Int) (q : Addr) (w : World) (hq : w.cell? q = some (.int .i64 l)) : Calls Tryz.prog 119 #[.agg #[.int .i64 r.lo, .int .i64 r.hi], .pointer (some q)] w fun e w' => e = .returned (.bool (softHi l r)) ∧ Ext w w' := by
  have hA : ∀ o, (w.alloc o).cell? q = some (.int .i64 l) := fun o => (Ext.alloc w o).cell hq
  clear hq
  go_enter Tryz.func119, Tryz.ntmps119
  go_wp2
  go_ret
  exact ⟨rfl, Ext.alloc _ _⟩

set_option maxRecDepth 100000 in
set_option maxHeartbeats 1000000 in
theorem indexFunc142_119 (q : Addr) {A : Option Addr} {n ca : Nat} {xs : List Rg} (p : Rg → Bool) {w : World} (hn : xs.length = n) (hA : RowsAt 2 Rg.enc w A xs)
    (hF : ∀ (g : Rg) (W : World), Ext w W → Calls Tryz.prog 119 #[.agg #[.int .i64 g.lo, .int .i64 g.hi], .pointer (some q)] W fun e w' => e = .returned (.bool (p g)) ∧ Ext W w') :
    Calls Tryz.prog 142 #[.slice A n ca, .func (.func 119) #[] #[.pointer (some q)]] w fun e w' => e = .returned (.int .i64 (idxF p xs 0)) ∧ Ext w w' := by
  have hnb : n ≤ 1152921504606846976 := by have := hA.1; omega
  have HA := Lib.hid hA
  have HN := Lib.hid hn
  have HF := Lib.hid hF
  clear hA hn hF
  go_enter Tryz.func142, Tryz.ntmps142
  go_wp2
  go_loopw [8] (fun i wr => ∃ k : Nat, k ≤ n ∧ i = .int .i64 k ∧ idxF p xs 0 = idxF p (xs.drop k) k ∧ Ext w wr) (fun i _ => n - (intOf i).toNat)
  case atStart => exact ⟨0, Nat.zero_le _, rfl, rfl, Ext.refl _⟩
  case round =>
    obtain ⟨k, hk, rfl, hr, hx⟩ := hrel
    have HR := Lib.hid hr
    have HX := Lib.hid hx
    clear hr hx
    by_cases hlt : k < n
    · obtain ⟨g, hg⟩ : ∃ g, xs[k]? = some g := ⟨_, List.getElem?_eq_getElem (by rw [HN.out]; exact hlt)⟩
      have HD := Lib.hid (idxF_drop p xs k g hg)
      obtain ⟨b, o, hAe, hb, hc⟩ := HA.out.2 k g hg
      subst hAe
      have c0 : wr.cell? ⟨b, o + k * 2, none⟩ = some (.int .i64 g.lo) := HX.out.cell (hc 0 _ rfl)
      have c1 : wr.cell? ⟨b, o + k * 2 + 1, none⟩ = some (.int .i64 g.hi) := HX.out.cell (hc 1 _ rfl)
      have HC := Lib.hid (HF.out g wr HX.out)
      clear hg hc hb
      generalize p g = z at HD HC
      generalize g.lo = g0 at *
      generalize g.hi = g1 at *
      have hki : (k : Int) < (n : Int) := by omega
      cases z
      · go_wp2_with (go_at_call 119; refine HC.out.mono ?_; rintro e W2 ⟨rfl, hx2⟩; have X2 := Lib.hid hx2; clear hx2)
        go_roundw
        case rel => exact ⟨k + 1, by omega, by go_num, by rw [HR.out, HD.out, if_neg (by simp)], HX.out.trans X2.out⟩
        case measure => simp [intOf]; omega
      · go_wp2_with (go_at_call 119; refine HC.out.mono ?_; rintro e W2 ⟨rfl, hx2⟩; have X2 := Lib.hid hx2; clear hx2)
        go_ret
        exact ⟨ret_int (by rw [HR.out, HD.out, if_pos (by trivial)]), HX.out.trans X2.out⟩
    · have HE := Lib.hid (show idxF p (xs.drop k) k = -1 by rw [List.drop_of_length_le (by rw [HN.out]; omega)]; rfl)
      go_wp2
      go_ret
      exact ⟨ret_int (by rw [HR.out, HE.out]), HX.out⟩

theorem cellsUpTo_119 {A : Option Addr} {n ca : Nat} {xs : List Rg} {w : World} (l : Int) (q : Addr) (hq : w.cell? q = some (.int .i64 l)) (hn : xs.length = n) (hA : RowsAt 2 Rg.enc w A xs) :
    Calls Tryz.prog 117 #[.slice A n ca, .func (.func 119) #[] #[.pointer (some q)]] w fun e w' => e = .returned (.int .i64 (if 0 ≤ idxF (softHi l) xs 0 then idxF (softHi l) xs 0 else n)) ∧ Ext w w' := by
  have H := Lib.hid (indexFunc142_119 (ca := ca) q (softHi l) hn hA (fun g W e => softHi_any g l q W (e.cell hq)))
  clear hq hA hn
  generalize idxF (softHi l) xs 0 = m at H
  by_cases hm : 0 ≤ m
  all_goals
    go_enter Tryz.func117, Tryz.ntmps117
    go_wp2_with (go_at_call 142; refine H.out.mono ?_; rintro e W1 ⟨rfl, hx⟩; have X1 := Lib.hid hx; clear hx)
    go_ret
  · exact ⟨by first | rfl | (rw [if_pos hm]), X1.out⟩
  · exact ⟨by first | rfl | (rw [if_neg hm]), X1.out⟩

def caseE (xs : List Rg) (l : Int) : Int := firstE [errIf (decide ((12 : Int) < (xs.length : Int))) 8, (firstAt (hrdAt xs) xs.length 0).2, rangeE 0 2000 [l]]
def upTo (p : Rg → Bool) (xs : List Rg) : Int := if 0 ≤ idxF p xs 0 then idxF p xs 0 else xs.length

set_option maxRecDepth 100000 in
set_option maxHeartbeats 2000000 in
theorem caseDepth_any {A : Option Addr} {n ca : Nat} {xs : List Rg} {w : World} (l : Int) (hn : xs.length = n) (hA : RowsAt 2 Rg.enc w A xs) :
    Calls Tryz.prog 55 #[.slice A n ca, .int .i64 l] w fun e w' => e = .returned (.tuple #[.agg #[.int .i64 (if caseE xs l = 0 then upTo (softLo l) xs else 0), .int .i64 (if caseE xs l = 0 then upTo (softHi l) xs else 0)], .int .i64 (caseE xs l)]) ∧ Ext w w' := by
  obtain ⟨W0, hW0⟩ : ∃ W0, W0 = (w.alloc (.cells #[.int .i64 l] 3)).alloc (.cells #[.int .i64 0, .int .i64 0] 66) := ⟨_, rfl⟩
  have K0 := Lib.hid (show Blk W0 w.heap.size 3 #[.int .i64 l] by rw [hW0]; exact (Blk.new _ _ _).alloc _)
  have K1 := Lib.hid (show Blk W0 (w.heap.size + 1) 66 #[.int .i64 0, .int .i64 0] by rw [hW0]; exact Blk.newAt _ _ _ (by simp))
  have e0 : Ext w W0 := by rw [hW0]; exact (Ext.alloc _ _).trans (Ext.alloc _ _)
  have HF := Lib.hid (firstError115_any (ca := ca) hn (hA.ext e0))
  have HLo := Lib.hid (fun (W : World) (e : Ext W0 W) => cellsUpTo_118 (ca := ca) l ⟨w.heap.size, 0, none⟩ ((K0.out.ext e).cell 0) hn (hA.ext (e0.trans e)))
  have HHi := Lib.hid (fun (W : World) (e : Ext W0 W) => cellsUpTo_119 (ca := ca) l ⟨w.heap.size, 0, none⟩ ((K0.out.ext e).cell 0) hn (hA.ext (e0.trans e)))
  have HC := Lib.hid (show caseE xs l = firstE [errIf (decide ((12 : Int) < (n : Int))) 8, (firstAt (hrdAt xs) n 0).2, rangeE 0 2000 [l]] by rw [caseE, hn])
  have HU0 := Lib.hid (show upTo (softLo l) xs = if 0 ≤ idxF (softLo l) xs 0 then idxF (softLo l) xs 0 else n by rw [upTo, hn])
  have HU1 := Lib.hid (show upTo (softHi l) xs = if 0 ≤ idxF (softHi l) xs 0 then idxF (softHi l) xs 0 else n by rw [upTo, hn])
  have E0 := Lib.hid e0
  have HW := Lib.hid hW0
  clear hW0 e0 hA hn
  generalize (firstAt (hrdAt xs) n 0).2 = z at *
  generalize (firstAt (hrdAt xs) n 0).1 = z1 at *
  generalize (if 0 ≤ idxF (softLo l) xs 0 then idxF (softLo l) xs 0 else (n : Int)) = u0 at *
  generalize (if 0 ≤ idxF (softHi l) xs 0 then idxF (softHi l) xs 0 else (n : Int)) = u1 at *
  generalize upTo (softLo l) xs = v0 at *
  generalize upTo (softHi l) xs = v1 at *
  obtain rfl : v0 = u0 := HU0.out
  obtain rfl : v1 = u1 := HU1.out
  clear HU0 HU1
  generalize caseE xs l = ce at *
  go_enter Tryz.func55, Tryz.ntmps55
  go_wp2_with (go_at_call 115; rw [← HW.out]; refine HF.out.mono ?_; rintro e W1 ⟨rfl, hx⟩; have X1 := Lib.hid hx; clear hx)
  · have y0 : W1.cell? ⟨w.heap.size, 0, none⟩ = some (.int .i64 (l)) := (K0.out.ext X1.out).cell 0
    refine wp_region_each [some 14, some 15, some 16, some 17, some 18, some 19, some 20, some 21, some 22, some 23, some 8] [[0], [14], [15], [16], [7], [3], [19], [20], [17, 18, 21], [22], [23]]
      [Is (.slice A n ca), Is (.int .i64 ((n : Int))), Is (.bool (decide (12 < (n : Int)))), Is (.int .i64 (errIf (decide (12 < (n : Int))) 8)), Is (.int .i64 (z)), Is (.int .i64 (l)), Ints [l], Is (.int .i64 (rangeE (0) (2000) [l])), Ints [errIf (decide (12 < (n : Int))) 8, z, rangeE (0) (2000) [l]], Is (.int .i64 (firstE [errIf (decide (12 < (n : Int))) 8, z, rangeE (0) (2000) [l]])), Is (.int .i64 (firstE [errIf (decide (12 < (n : Int))) 8, z, rangeE (0) (2000) [l]]))]
      (by kernel_rfl) (by kernel_rfl) (by kernel_rfl) (by kernel_rfl) (by kernel_rfl) Ext (fun W => Ext W1 W)
      (fun W _ => Ext.refl W) (fun W W' h k => h.trans k) ?_ (Ext.drew _) ?_ ?_
    · repeat (refine ⟨fun _ _ _ _ k h => (by first | exact h | exact (by first | exact IntsAt.ext h k | exact KnV.ext h k | exact NumsV.ext h k)), ?_⟩)
      exact trivial
    · refine ⟨?_, ?_, ?_, ?_, ?_, ?_, ?_, ?_, ?_, ?_, ?_, trivial⟩
      all_goals intro ρ W ⟨kc, kg, kf⟩ hF hs
      · obtain ⟨h0, -⟩ := hs
        replace h0 : ρ (.tmp 0) = .slice A n ca := h0
        go_simp
        exact ⟨Ext.refl _, rfl⟩
      · obtain ⟨h0, -⟩ := hs
        replace h0 : ρ (.tmp 14) = .slice A n ca := h0
        go_simp
        exact ⟨Ext.refl _, rfl⟩
      · obtain ⟨h0, -⟩ := hs
        replace h0 : ρ (.tmp 15) = .int .i64 ((n : Int)) := h0
        go_simp
        exact ⟨Ext.refl _, rfl⟩
      · obtain ⟨h0, -⟩ := hs
        replace h0 : ρ (.tmp 16) = .bool (decide (12 < (n : Int))) := h0
        go_simp
        refine (errorIf_any _ _ _).mono ?_; rintro e w' ⟨rfl, rfl⟩; exact ⟨_, rfl, Ext.refl _, rfl⟩
      · obtain ⟨h0, -⟩ := hs
        replace h0 : ρ (.tmp 7) = .int .i64 (z) := h0
        go_simp
        exact ⟨Ext.refl _, rfl⟩
      · obtain ⟨h0, -⟩ := hs
        replace h0 : ρ (.tmp 3) = .pointer (some ⟨w.heap.size, 0, none⟩) := h0
        have hc0 : W.cell? ⟨w.heap.size, 0, none⟩ = some (.int .i64 (l)) := hF.cell (by assumption)
        go_simp
        exact ⟨Ext.refl _, rfl⟩
      · obtain ⟨h0, -⟩ := hs
        replace h0 : ρ (.tmp 19) = .int .i64 (l) := h0
        go_simp
        exact ⟨Ext.alloc _ _, ints_new _ [l] _ (by simp)⟩
      · obtain ⟨h0, -⟩ := hs
        replace h0 : (Ints [l]) (ρ (.tmp 20)) W := h0
        go_simp
        refine (rangeError_any _ _ _ _ _ h0).mono ?_; rintro e w' ⟨rfl, hx⟩; exact ⟨_, rfl, hx, rfl⟩
      · obtain ⟨h0, h1, h2, -⟩ := hs
        replace h0 : ρ (.tmp 17) = .int .i64 (errIf (decide (12 < (n : Int))) 8) := h0
        replace h1 : ρ (.tmp 18) = .int .i64 (z) := h1
        replace h2 : ρ (.tmp 21) = .int .i64 (rangeE (0) (2000) [l]) := h2
        go_simp
        exact ⟨Ext.alloc _ _, ints_new _ [errIf (decide (12 < (n : Int))) 8, z, rangeE (0) (2000) [l]] _ (by simp)⟩
      · obtain ⟨h0, -⟩ := hs
        replace h0 : (Ints [errIf (decide (12 < (n : Int))) 8, z, rangeE (0) (2000) [l]]) (ρ (.tmp 22)) W := h0
        go_simp
        refine (firstOf_any _ _ _ h0).mono ?_; rintro e w' ⟨rfl, rfl⟩; exact ⟨_, rfl, Ext.refl _, rfl⟩
      · obtain ⟨h0, -⟩ := hs
        replace h0 : ρ (.tmp 23) = .int .i64 (firstE [errIf (decide (12 < (n : Int))) 8, z, rangeE (0) (2000) [l]]) := h0
        go_simp
        exact ⟨Ext.refl _, rfl⟩
    · intro fv W2 hF hs
      obtain ⟨-, -, -, -, -, -, -, -, -, -, h8, -⟩ := hs
      replace h8 : fv 8 = .int .i64 (firstE [errIf (decide (12 < (n : Int))) 8, z, rangeE (0) (2000) [l]]) := h8
      simp only [fin, List.filterMap]
      go_simp
      have X2 := Lib.hid hF
      clear hF h8 y0
      rw [← HC.out]
      clear HC
      have k1 := K1.out.ext (X1.out.trans X2.out)
      have s0 : W2.cell? ⟨w.heap.size + 1, 0, none⟩ = some (.int .i64 0) := k1.cell 0
      have s1 : W2.cell? ⟨w.heap.size + 1, 1, none⟩ = some (.int .i64 0) := k1.cell 1
      have g0 := k1.free 0
      have g1 := k1.free 1
      by_cases hz : ce = 0
      · have hz' : (ce != 0) = false := by simp [hz]
        clear s0 s1 g0 g1 k1
        go_wp2_with (first
          | (go_at_call 117; refine (HLo.out _ (X1.out.trans X2.out)).mono ?_; rintro e W3 ⟨rfl, hx⟩; have X3 := Lib.hid hx; clear hx HLo)
          | (go_at_call 117; refine (HHi.out _ (X1.out.trans (X2.out.trans X3.out))).mono ?_; rintro e W4 ⟨rfl, hx⟩; have X4 := Lib.hid hx; have k4 := K1.out.ext (X1.out.trans (X2.out.trans (X3.out.trans hx))); have s0 : W4.cell? ⟨w.heap.size + 1, 0, none⟩ = some (.int .i64 0) := k4.cell 0; have s1 : W4.cell? ⟨w.heap.size + 1, 1, none⟩ = some (.int .i64 0) := k4.cell 1; have g0 := k4.free 0; have g1 := k4.free 1; clear hx k4))
        exact bodyPost_ret (v := .tuple #[.agg #[.int .i64 v0, .int .i64 v1], .int .i64 0]) (by simp [results, Tryz.f55, go_sem, s0, s1]) rfl
          ⟨by simp, Ext.set (Ext.set (E0.out.trans (X1.out.trans (X2.out.trans (X3.out.trans X4.out)))) (by dsimp only; omega) _) (by dsimp only; omega) _⟩
      · have hz' : (ce != 0) = true := by simp [hz]
        go_wp2
        exact bodyPost_ret (v := .tuple #[.agg #[.int .i64 0, .int .i64 0], .int .i64 ce]) (by simp [results, Tryz.f55, go_sem, s0, s1]) rfl
          ⟨by simp, Ext.set (Ext.set (E0.out.trans (X1.out.trans X2.out)) (by dsimp only; omega) _) (by dsimp only; omega) _⟩

end Go.Proofs.YtkmekbafjnlfkaaGreat
