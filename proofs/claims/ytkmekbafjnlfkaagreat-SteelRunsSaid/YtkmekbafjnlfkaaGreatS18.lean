/- The last and first knots at a temperature. -/
import Derived.Test.YtkmekbafjnlfkaaGreatS13

namespace Go.Proofs.YtkmekbafjnlfkaaGreat
open Go.RowKit Go.Shelf Go.Mem Go.RegInv
attribute [local go_sem] RelUpon_value RelUpon_skip RelUpon_enter BigFrame.eval_const BigFrame.eval_global BigFrame.eval_func

def aboveP {α : Type} (k : α → Int) (kelvin : Int) (x : α) : Bool := decide (kelvin < k x)
def fromP {α : Type} (k : α → Int) (kelvin : Int) (x : α) : Bool := decide (kelvin ≤ k x)
/-- The index of the last knot whose temperature is at most another one. -/
def lastK {α : Type} (k : α → Int) (kelvin : Int) (xs : List α) : Int := if 0 ≤ idxF (aboveP k kelvin) xs 0 then idxF (aboveP k kelvin) xs 0 - 1 else (xs.length : Int) - 1
def firstK {α : Type} (k : α → Int) (kelvin : Int) (xs : List α) : Int := idxF (fromP k kelvin) xs 0
theorem idxF_bd {α : Type} (p : α → Bool) : ∀ (xs : List α) (k : Nat), -1 ≤ idxF p xs k ∧ idxF p xs k ≤ (k : Int) + xs.length
  | [], k => by simp [idxF]
  | x :: l, k => by
    have := idxF_bd p l (k + 1)
    rw [idxF]
    simp only [List.length_cons]
    split <;> omega

theorem kelvinOf155_any (k lo hi g : Int) (w : World) : Calls Tryz.prog 155 #[.agg #[.int .i64 k, .int .i64 lo, .int .i64 hi, .int .i64 g]] w fun e w' => e = .returned (.int .i64 k) ∧ Ext w w' := by
  go_enter Tryz.func155, Tryz.ntmps155
  go_wp2
  go_ret
  exact ⟨rfl, Ext.alloc _ _⟩
set_option maxRecDepth 100000 in
theorem test178_any (x : HK) (kelvin : Int) (qa qb : Nat) (w : World) (ha : w.cell? ⟨qa, 0, none⟩ = some (.func (.func 155) #[] #[])) (hb : w.cell? ⟨qb, 0, none⟩ = some (.int .i64 (kelvin))) :
    Calls Tryz.prog 178 #[.agg #[.int .i64 x.k, .int .i64 x.lo, .int .i64 x.hi, .int .i64 x.g], .pointer (some ⟨qa, 0, none⟩), .pointer (some ⟨qb, 0, none⟩)] w fun e w' => e = .returned (.bool (aboveP HK.k kelvin x)) ∧ Ext w w' := by
  obtain ⟨W0, hW0⟩ : ∃ W0, W0 = w.alloc (.cells #[.int .i64 x.k, .int .i64 x.lo, .int .i64 x.hi, .int .i64 x.g] 68) := ⟨_, rfl⟩
  have k0 : Blk W0 w.heap.size 68 #[.int .i64 x.k, .int .i64 x.lo, .int .i64 x.hi, .int .i64 x.g] := by rw [hW0]; exact Blk.new _ _ _
  have e0 : Ext w W0 := by rw [hW0]; exact Ext.alloc _ _
  have z0 := e0.cell ha
  have z1 := e0.cell hb
  have y0 : W0.cell? ⟨w.heap.size, 0, none⟩ = some (.int .i64 (x.k)) := k0.cell 0
  have y1 : W0.cell? ⟨w.heap.size, 1, none⟩ = some (.int .i64 (x.lo)) := k0.cell 1
  have y2 : W0.cell? ⟨w.heap.size, 2, none⟩ = some (.int .i64 (x.hi)) := k0.cell 2
  have y3 : W0.cell? ⟨w.heap.size, 3, none⟩ = some (.int .i64 (x.g)) := k0.cell 3
  have E0 := Lib.hid e0
  clear k0 e0 ha hb
  go_enter Tryz.func178, Tryz.ntmps178
  go_wp2
  rw [← hW0]
  clear hW0
  refine wp_region_each [some 5, some 6, some 7, some 8, some 9, some 4] [[1], [3], [5, 6], [2], [7, 8], [9]]
    [Is (.func (.func 155) #[] #[]), Is (.agg #[.int .i64 (x.k), .int .i64 (x.lo), .int .i64 (x.hi), .int .i64 (x.g)]), Is (.int .i64 (x.k)), Is (.int .i64 (kelvin)), Is (.bool (decide (kelvin < x.k))), Is (.bool (decide (kelvin < x.k)))]
    (by kernel_rfl) (by kernel_rfl) (by kernel_rfl) (by kernel_rfl) (by kernel_rfl) Ext (fun W => Ext W0 W)
    (fun W _ => Ext.refl W) (fun W W' h k => h.trans k) ?_ (Ext.drew _) ?_ ?_
  · repeat (refine ⟨fun _ _ _ _ k h => (by first | exact h | exact (by first | exact IntsAt.ext h k | exact KnV.ext h k | exact NumsV.ext h k)), ?_⟩)
    exact trivial
  · refine ⟨?_, ?_, ?_, ?_, ?_, ?_, trivial⟩
    all_goals intro ρ W ⟨kc, kg, kf⟩ hF hs
    · obtain ⟨h0, -⟩ := hs
      replace h0 : ρ (.tmp 1) = .pointer (some ⟨qa, 0, none⟩) := h0
      have hc0 : W.cell? ⟨qa, 0, none⟩ = some (.func (.func 155) #[] #[]) := hF.cell (by assumption)
      go_simp
      exact ⟨Ext.refl _, rfl⟩
    · obtain ⟨h0, -⟩ := hs
      replace h0 : ρ (.tmp 3) = .pointer (some ⟨w.heap.size, 0, none⟩) := h0
      have hc0 : W.cell? ⟨w.heap.size, 0, none⟩ = some (.int .i64 (x.k)) := hF.cell (by assumption)
      have hc1 : W.cell? ⟨w.heap.size, 1, none⟩ = some (.int .i64 (x.lo)) := hF.cell (by assumption)
      have hc2 : W.cell? ⟨w.heap.size, 2, none⟩ = some (.int .i64 (x.hi)) := hF.cell (by assumption)
      have hc3 : W.cell? ⟨w.heap.size, 3, none⟩ = some (.int .i64 (x.g)) := hF.cell (by assumption)
      go_simp
      exact ⟨Ext.refl _, rfl⟩
    · obtain ⟨h0, h1, -⟩ := hs
      replace h0 : ρ (.tmp 5) = .func (.func 155) #[] #[] := h0
      replace h1 : ρ (.tmp 6) = .agg #[.int .i64 (x.k), .int .i64 (x.lo), .int .i64 (x.hi), .int .i64 (x.g)] := h1
      go_simp
      refine (kelvinOf155_any x.k x.lo x.hi x.g _).mono ?_; rintro e w' ⟨rfl, hx⟩; exact ⟨_, rfl, hx, rfl⟩
    · obtain ⟨h0, -⟩ := hs
      replace h0 : ρ (.tmp 2) = .pointer (some ⟨qb, 0, none⟩) := h0
      have hc0 : W.cell? ⟨qb, 0, none⟩ = some (.int .i64 (kelvin)) := hF.cell (by assumption)
      go_simp
      exact ⟨Ext.refl _, rfl⟩
    · obtain ⟨h0, h1, -⟩ := hs
      replace h0 : ρ (.tmp 7) = .int .i64 (x.k) := h0
      replace h1 : ρ (.tmp 8) = .int .i64 (kelvin) := h1
      go_simp
      exact ⟨Ext.refl _, rfl⟩
    · obtain ⟨h0, -⟩ := hs
      replace h0 : ρ (.tmp 9) = .bool (decide (kelvin < x.k)) := h0
      go_simp
      exact ⟨Ext.refl _, rfl⟩
  · intro fv W1 hF hs
    obtain ⟨-, -, -, -, -, h4, -⟩ := hs
    replace h4 : fv 4 = .bool (decide (kelvin < x.k)) := h4
    simp only [fin, List.filterMap]
    go_simp
    go_wp2
    go_ret
    exact ⟨rfl, E0.out.trans hF⟩

set_option maxRecDepth 100000 in
set_option maxHeartbeats 1000000 in
theorem indexFunc179_any (qa qb : Nat) {A : Option Addr} {n ca : Nat} {xs : List HK} (p : HK → Bool) {w : World} (hn : xs.length = n) (hA : RowsAt 4 HK.enc w A xs)
    (hF : ∀ (g : HK) (W : World), Ext w W → Calls Tryz.prog 178 #[.agg #[.int .i64 g.k, .int .i64 g.lo, .int .i64 g.hi, .int .i64 g.g], .pointer (some ⟨qa, 0, none⟩), .pointer (some ⟨qb, 0, none⟩)] W fun e w' => e = .returned (.bool (p g)) ∧ Ext W w') :
    Calls Tryz.prog 179 #[.slice A n ca, .func (.func 178) #[] #[.pointer (some ⟨qa, 0, none⟩), .pointer (some ⟨qb, 0, none⟩)]] w fun e w' => e = .returned (.int .i64 (idxF p xs 0)) ∧ Ext w w' := by
  have hnb : n ≤ 1152921504606846976 := by have := hA.1; omega
  have HA := Lib.hid hA
  have HN := Lib.hid hn
  have HF := Lib.hid hF
  clear hA hn hF
  go_enter Tryz.func179, Tryz.ntmps179
  go_wp2
  go_loopw [8] (fun i wr => ∃ k : Nat, k ≤ n ∧ i = .int .i64 k ∧ idxF p xs 0 = idxF p (xs.drop k) k ∧ Ext w wr) (fun i _ => n - (intOf i).toNat)
  case atStart => exact ⟨0, Nat.zero_le _, rfl, rfl, Ext.refl _⟩
  case round =>
    obtain ⟨k, hk, rfl, hr, hx⟩ := hrel
    have HR := Lib.hid hr
    have HX := Lib.hid hx
    clear hr hx
    by_cases hlt : k < n
    · obtain ⟨g, hg⟩ : ∃ g, xs[k]? = some g := ⟨_, List.getElem?_eq_getElem (by rw [HN.out]; exact hlt)⟩
      have HD := Lib.hid (idxF_drop p xs k g hg)
      obtain ⟨b, o, hAe, hb, hc⟩ := HA.out.2 k g hg
      subst hAe
      have c0 : wr.cell? ⟨b, o + k * 4, none⟩ = some (.int .i64 g.k) := HX.out.cell (hc 0 _ rfl)
      have c1 : wr.cell? ⟨b, o + k * 4 + 1, none⟩ = some (.int .i64 g.lo) := HX.out.cell (hc 1 _ rfl)
      have c2 : wr.cell? ⟨b, o + k * 4 + 2, none⟩ = some (.int .i64 g.hi) := HX.out.cell (hc 2 _ rfl)
      have c3 : wr.cell? ⟨b, o + k * 4 + 3, none⟩ = some (.int .i64 g.g) := HX.out.cell (hc 3 _ rfl)
      have HC := Lib.hid (HF.out g wr HX.out)
      clear hg hc hb
      generalize p g = z at HD HC
      generalize g.k = g0 at *
      generalize g.lo = g1 at *
      generalize g.hi = g2 at *
      generalize g.g = g3 at *
      have hki : (k : Int) < (n : Int) := by omega
      cases z
      · go_wp2_with (go_at_call 178; refine HC.out.mono ?_; rintro e W2 ⟨rfl, hx2⟩; have X2 := Lib.hid hx2; clear hx2)
        go_roundw
        case rel => exact ⟨k + 1, by omega, by go_num, by rw [HR.out, HD.out, if_neg (by simp)], HX.out.trans X2.out⟩
        case measure => simp [intOf]; omega
      · go_wp2_with (go_at_call 178; refine HC.out.mono ?_; rintro e W2 ⟨rfl, hx2⟩; have X2 := Lib.hid hx2; clear hx2)
        go_ret
        exact ⟨ret_int (by rw [HR.out, HD.out, if_pos (by trivial)]), HX.out.trans X2.out⟩
    · have HE := Lib.hid (show idxF p (xs.drop k) k = -1 by rw [List.drop_of_length_le (by rw [HN.out]; omega)]; rfl)
      go_wp2
      go_ret
      exact ⟨ret_int (by rw [HR.out, HE.out]), HX.out⟩

set_option maxRecDepth 100000 in
theorem lastUpTo154_any {A : Option Addr} {n ca : Nat} {xs : List HK} {w : World} (kelvin : Int) (hn : xs.length = n) (hA : RowsAt 4 HK.enc w A xs) :
    Calls Tryz.prog 154 #[.slice A n ca, .func (.func 155) #[] #[], .int .i64 kelvin] w fun e w' => e = .returned (.int .i64 (lastK HK.k kelvin xs)) ∧ Ext w w' := by
  have hnb : n ≤ 1152921504606846976 := by have := hA.1; omega
  obtain ⟨W0, hW0⟩ : ∃ W0, W0 = (w.alloc (.cells #[.func (.func 155) #[] #[]] 230)).alloc (.cells #[.int .i64 kelvin] 3) := ⟨_, rfl⟩
  have k0 : Blk W0 w.heap.size 230 #[.func (.func 155) #[] #[]] := by rw [hW0]; exact (Blk.new _ _ _).alloc _
  have k1 : Blk W0 (w.heap.size + 1) 3 #[.int .i64 kelvin] := by rw [hW0]; exact Blk.newAt _ _ _ (by simp)
  have e0 : Ext w W0 := by rw [hW0]; exact (Ext.alloc _ _).trans (Ext.alloc _ _)
  have H := Lib.hid (indexFunc179_any (ca := ca) w.heap.size (w.heap.size + 1) (aboveP HK.k kelvin) hn (hA.ext e0) (fun g W e => test178_any g kelvin _ _ W ((k0.ext e).cell 0) ((k1.ext e).cell 0)))
  have E0 := Lib.hid e0
  have HW := Lib.hid hW0
  have hbd := idxF_bd (aboveP HK.k kelvin) xs 0
  have HL := Lib.hid (show lastK HK.k kelvin xs = if 0 ≤ idxF (aboveP HK.k kelvin) xs 0 then idxF (aboveP HK.k kelvin) xs 0 - 1 else (n : Int) - 1 by rw [lastK, hn])
  rw [hn] at hbd
  clear hA hn hW0 e0 k0 k1
  generalize idxF (aboveP HK.k kelvin) xs 0 = m at *
  obtain ⟨hb0, hb1⟩ := hbd
  have hb2 : m ≤ 1152921504606846976 := by omega
  by_cases hm : 0 ≤ m
  all_goals
    go_enter Tryz.func154, Tryz.ntmps154
    go_wp2_with (go_at_call 179; rw [← HW.out]; refine H.out.mono ?_; rintro e W1 ⟨rfl, hx⟩; have X1 := Lib.hid hx; clear hx)
    go_ret
  · exact ⟨ret_int (by rw [HL.out, if_pos hm]), E0.out.trans X1.out⟩
  · exact ⟨ret_int (by rw [HL.out, if_neg (by omega)]), E0.out.trans X1.out⟩

theorem kelvinOf157_any (k wlo whi rlo rhi : Int) (w : World) : Calls Tryz.prog 157 #[.agg #[.int .i64 k, .int .i64 wlo, .int .i64 whi, .int .i64 rlo, .int .i64 rhi]] w fun e w' => e = .returned (.int .i64 k) ∧ Ext w w' := by
  go_enter Tryz.func157, Tryz.ntmps157
  go_wp2
  go_ret
  exact ⟨rfl, Ext.alloc _ _⟩
set_option maxRecDepth 100000 in
theorem test181_any (x : CK) (kelvin : Int) (qa qb : Nat) (w : World) (ha : w.cell? ⟨qa, 0, none⟩ = some (.func (.func 157) #[] #[])) (hb : w.cell? ⟨qb, 0, none⟩ = some (.int .i64 (kelvin))) :
    Calls Tryz.prog 181 #[.agg #[.int .i64 x.k, .int .i64 x.wlo, .int .i64 x.whi, .int .i64 x.rlo, .int .i64 x.rhi], .pointer (some ⟨qa, 0, none⟩), .pointer (some ⟨qb, 0, none⟩)] w fun e w' => e = .returned (.bool (fromP CK.k kelvin x)) ∧ Ext w w' := by
  obtain ⟨W0, hW0⟩ : ∃ W0, W0 = w.alloc (.cells #[.int .i64 x.k, .int .i64 x.wlo, .int .i64 x.whi, .int .i64 x.rlo, .int .i64 x.rhi] 137) := ⟨_, rfl⟩
  have k0 : Blk W0 w.heap.size 137 #[.int .i64 x.k, .int .i64 x.wlo, .int .i64 x.whi, .int .i64 x.rlo, .int .i64 x.rhi] := by rw [hW0]; exact Blk.new _ _ _
  have e0 : Ext w W0 := by rw [hW0]; exact Ext.alloc _ _
  have z0 := e0.cell ha
  have z1 := e0.cell hb
  have y0 : W0.cell? ⟨w.heap.size, 0, none⟩ = some (.int .i64 (x.k)) := k0.cell 0
  have y1 : W0.cell? ⟨w.heap.size, 1, none⟩ = some (.int .i64 (x.wlo)) := k0.cell 1
  have y2 : W0.cell? ⟨w.heap.size, 2, none⟩ = some (.int .i64 (x.whi)) := k0.cell 2
  have y3 : W0.cell? ⟨w.heap.size, 3, none⟩ = some (.int .i64 (x.rlo)) := k0.cell 3
  have y4 : W0.cell? ⟨w.heap.size, 4, none⟩ = some (.int .i64 (x.rhi)) := k0.cell 4
  have E0 := Lib.hid e0
  clear k0 e0 ha hb
  go_enter Tryz.func181, Tryz.ntmps181
  go_wp2
  rw [← hW0]
  clear hW0
  refine wp_region_each [some 5, some 6, some 7, some 8, some 9, some 4] [[1], [3], [5, 6], [2], [7, 8], [9]]
    [Is (.func (.func 157) #[] #[]), Is (.agg #[.int .i64 (x.k), .int .i64 (x.wlo), .int .i64 (x.whi), .int .i64 (x.rlo), .int .i64 (x.rhi)]), Is (.int .i64 (x.k)), Is (.int .i64 (kelvin)), Is (.bool (decide (kelvin ≤ x.k))), Is (.bool (decide (kelvin ≤ x.k)))]
    (by kernel_rfl) (by kernel_rfl) (by kernel_rfl) (by kernel_rfl) (by kernel_rfl) Ext (fun W => Ext W0 W)
    (fun W _ => Ext.refl W) (fun W W' h k => h.trans k) ?_ (Ext.drew _) ?_ ?_
  · repeat (refine ⟨fun _ _ _ _ k h => (by first | exact h | exact (by first | exact IntsAt.ext h k | exact KnV.ext h k | exact NumsV.ext h k)), ?_⟩)
    exact trivial
  · refine ⟨?_, ?_, ?_, ?_, ?_, ?_, trivial⟩
    all_goals intro ρ W ⟨kc, kg, kf⟩ hF hs
    · obtain ⟨h0, -⟩ := hs
      replace h0 : ρ (.tmp 1) = .pointer (some ⟨qa, 0, none⟩) := h0
      have hc0 : W.cell? ⟨qa, 0, none⟩ = some (.func (.func 157) #[] #[]) := hF.cell (by assumption)
      go_simp
      exact ⟨Ext.refl _, rfl⟩
    · obtain ⟨h0, -⟩ := hs
      replace h0 : ρ (.tmp 3) = .pointer (some ⟨w.heap.size, 0, none⟩) := h0
      have hc0 : W.cell? ⟨w.heap.size, 0, none⟩ = some (.int .i64 (x.k)) := hF.cell (by assumption)
      have hc1 : W.cell? ⟨w.heap.size, 1, none⟩ = some (.int .i64 (x.wlo)) := hF.cell (by assumption)
      have hc2 : W.cell? ⟨w.heap.size, 2, none⟩ = some (.int .i64 (x.whi)) := hF.cell (by assumption)
      have hc3 : W.cell? ⟨w.heap.size, 3, none⟩ = some (.int .i64 (x.rlo)) := hF.cell (by assumption)
      have hc4 : W.cell? ⟨w.heap.size, 4, none⟩ = some (.int .i64 (x.rhi)) := hF.cell (by assumption)
      go_simp
      exact ⟨Ext.refl _, rfl⟩
    · obtain ⟨h0, h1, -⟩ := hs
      replace h0 : ρ (.tmp 5) = .func (.func 157) #[] #[] := h0
      replace h1 : ρ (.tmp 6) = .agg #[.int .i64 (x.k), .int .i64 (x.wlo), .int .i64 (x.whi), .int .i64 (x.rlo), .int .i64 (x.rhi)] := h1
      go_simp
      refine (kelvinOf157_any x.k x.wlo x.whi x.rlo x.rhi _).mono ?_; rintro e w' ⟨rfl, hx⟩; exact ⟨_, rfl, hx, rfl⟩
    · obtain ⟨h0, -⟩ := hs
      replace h0 : ρ (.tmp 2) = .pointer (some ⟨qb, 0, none⟩) := h0
      have hc0 : W.cell? ⟨qb, 0, none⟩ = some (.int .i64 (kelvin)) := hF.cell (by assumption)
      go_simp
      exact ⟨Ext.refl _, rfl⟩
    · obtain ⟨h0, h1, -⟩ := hs
      replace h0 : ρ (.tmp 7) = .int .i64 (x.k) := h0
      replace h1 : ρ (.tmp 8) = .int .i64 (kelvin) := h1
      go_simp
      exact ⟨Ext.refl _, rfl⟩
    · obtain ⟨h0, -⟩ := hs
      replace h0 : ρ (.tmp 9) = .bool (decide (kelvin ≤ x.k)) := h0
      go_simp
      exact ⟨Ext.refl _, rfl⟩
  · intro fv W1 hF hs
    obtain ⟨-, -, -, -, -, h4, -⟩ := hs
    replace h4 : fv 4 = .bool (decide (kelvin ≤ x.k)) := h4
    simp only [fin, List.filterMap]
    go_simp
    go_wp2
    go_ret
    exact ⟨rfl, E0.out.trans hF⟩

set_option maxRecDepth 100000 in
set_option maxHeartbeats 1000000 in
theorem indexFunc180_any (qa qb : Nat) {A : Option Addr} {n ca : Nat} {xs : List CK} (p : CK → Bool) {w : World} (hn : xs.length = n) (hA : RowsAt 5 CK.enc w A xs)
    (hF : ∀ (g : CK) (W : World), Ext w W → Calls Tryz.prog 181 #[.agg #[.int .i64 g.k, .int .i64 g.wlo, .int .i64 g.whi, .int .i64 g.rlo, .int .i64 g.rhi], .pointer (some ⟨qa, 0, none⟩), .pointer (some ⟨qb, 0, none⟩)] W fun e w' => e = .returned (.bool (p g)) ∧ Ext W w') :
    Calls Tryz.prog 180 #[.slice A n ca, .func (.func 181) #[] #[.pointer (some ⟨qa, 0, none⟩), .pointer (some ⟨qb, 0, none⟩)]] w fun e w' => e = .returned (.int .i64 (idxF p xs 0)) ∧ Ext w w' := by
  have hnb : n ≤ 1152921504606846976 := by have := hA.1; omega
  have HA := Lib.hid hA
  have HN := Lib.hid hn
  have HF := Lib.hid hF
  clear hA hn hF
  go_enter Tryz.func180, Tryz.ntmps180
  go_wp2
  go_loopw [8] (fun i wr => ∃ k : Nat, k ≤ n ∧ i = .int .i64 k ∧ idxF p xs 0 = idxF p (xs.drop k) k ∧ Ext w wr) (fun i _ => n - (intOf i).toNat)
  case atStart => exact ⟨0, Nat.zero_le _, rfl, rfl, Ext.refl _⟩
  case round =>
    obtain ⟨k, hk, rfl, hr, hx⟩ := hrel
    have HR := Lib.hid hr
    have HX := Lib.hid hx
    clear hr hx
    by_cases hlt : k < n
    · obtain ⟨g, hg⟩ : ∃ g, xs[k]? = some g := ⟨_, List.getElem?_eq_getElem (by rw [HN.out]; exact hlt)⟩
      have HD := Lib.hid (idxF_drop p xs k g hg)
      obtain ⟨b, o, hAe, hb, hc⟩ := HA.out.2 k g hg
      subst hAe
      have c0 : wr.cell? ⟨b, o + k * 5, none⟩ = some (.int .i64 g.k) := HX.out.cell (hc 0 _ rfl)
      have c1 : wr.cell? ⟨b, o + k * 5 + 1, none⟩ = some (.int .i64 g.wlo) := HX.out.cell (hc 1 _ rfl)
      have c2 : wr.cell? ⟨b, o + k * 5 + 2, none⟩ = some (.int .i64 g.whi) := HX.out.cell (hc 2 _ rfl)
      have c3 : wr.cell? ⟨b, o + k * 5 + 3, none⟩ = some (.int .i64 g.rlo) := HX.out.cell (hc 3 _ rfl)
      have c4 : wr.cell? ⟨b, o + k * 5 + 4, none⟩ = some (.int .i64 g.rhi) := HX.out.cell (hc 4 _ rfl)
      have HC := Lib.hid (HF.out g wr HX.out)
      clear hg hc hb
      generalize p g = z at HD HC
      generalize g.k = g0 at *
      generalize g.wlo = g1 at *
      generalize g.whi = g2 at *
      generalize g.rlo = g3 at *
      generalize g.rhi = g4 at *
      have hki : (k : Int) < (n : Int) := by omega
      cases z
      · go_wp2_with (go_at_call 181; refine HC.out.mono ?_; rintro e W2 ⟨rfl, hx2⟩; have X2 := Lib.hid hx2; clear hx2)
        go_roundw
        case rel => exact ⟨k + 1, by omega, by go_num, by rw [HR.out, HD.out, if_neg (by simp)], HX.out.trans X2.out⟩
        case measure => simp [intOf]; omega
      · go_wp2_with (go_at_call 181; refine HC.out.mono ?_; rintro e W2 ⟨rfl, hx2⟩; have X2 := Lib.hid hx2; clear hx2)
        go_ret
        exact ⟨ret_int (by rw [HR.out, HD.out, if_pos (by trivial)]), HX.out.trans X2.out⟩
    · have HE := Lib.hid (show idxF p (xs.drop k) k = -1 by rw [List.drop_of_length_le (by rw [HN.out]; omega)]; rfl)
      go_wp2
      go_ret
      exact ⟨ret_int (by rw [HR.out, HE.out]), HX.out⟩

set_option maxRecDepth 100000 in
theorem firstFrom156_any {A : Option Addr} {n ca : Nat} {xs : List CK} {w : World} (kelvin : Int) (hn : xs.length = n) (hA : RowsAt 5 CK.enc w A xs) :
    Calls Tryz.prog 156 #[.slice A n ca, .func (.func 157) #[] #[], .int .i64 kelvin] w fun e w' => e = .returned (.int .i64 (firstK CK.k kelvin xs)) ∧ Ext w w' := by
  have hnb : n ≤ 1152921504606846976 := by have := hA.1; omega
  obtain ⟨W0, hW0⟩ : ∃ W0, W0 = (w.alloc (.cells #[.func (.func 157) #[] #[]] 232)).alloc (.cells #[.int .i64 kelvin] 3) := ⟨_, rfl⟩
  have k0 : Blk W0 w.heap.size 232 #[.func (.func 157) #[] #[]] := by rw [hW0]; exact (Blk.new _ _ _).alloc _
  have k1 : Blk W0 (w.heap.size + 1) 3 #[.int .i64 kelvin] := by rw [hW0]; exact Blk.newAt _ _ _ (by simp)
  have e0 : Ext w W0 := by rw [hW0]; exact (Ext.alloc _ _).trans (Ext.alloc _ _)
  have H := Lib.hid (indexFunc180_any (ca := ca) w.heap.size (w.heap.size + 1) (fromP CK.k kelvin) hn (hA.ext e0) (fun g W e => test181_any g kelvin _ _ W ((k0.ext e).cell 0) ((k1.ext e).cell 0)))
  have E0 := Lib.hid e0
  have HW := Lib.hid hW0
  have HL := Lib.hid (show firstK CK.k kelvin xs = idxF (fromP CK.k kelvin) xs 0 from rfl)
  clear hA hn hW0 e0 k0 k1
  generalize idxF (fromP CK.k kelvin) xs 0 = m at *
  go_enter Tryz.func156, Tryz.ntmps156
  go_wp2_with (go_at_call 180; rw [← HW.out]; refine H.out.mono ?_; rintro e W1 ⟨rfl, hx⟩; have X1 := Lib.hid hx; clear hx)
  go_ret
  exact ⟨ret_int HL.out.symm, E0.out.trans X1.out⟩

theorem kelvinOf159_any (k lo hi : Int) (w : World) : Calls Tryz.prog 159 #[.agg #[.int .i64 k, .int .i64 lo, .int .i64 hi]] w fun e w' => e = .returned (.int .i64 k) ∧ Ext w w' := by
  go_enter Tryz.func159, Tryz.ntmps159
  go_wp2
  go_ret
  exact ⟨rfl, Ext.alloc _ _⟩
set_option maxRecDepth 100000 in
theorem test183_any (x : DK) (kelvin : Int) (qa qb : Nat) (w : World) (ha : w.cell? ⟨qa, 0, none⟩ = some (.func (.func 159) #[] #[])) (hb : w.cell? ⟨qb, 0, none⟩ = some (.int .i64 (kelvin))) :
    Calls Tryz.prog 183 #[.agg #[.int .i64 x.k, .int .i64 x.lo, .int .i64 x.hi], .pointer (some ⟨qa, 0, none⟩), .pointer (some ⟨qb, 0, none⟩)] w fun e w' => e = .returned (.bool (fromP DK.k kelvin x)) ∧ Ext w w' := by
  obtain ⟨W0, hW0⟩ : ∃ W0, W0 = w.alloc (.cells #[.int .i64 x.k, .int .i64 x.lo, .int .i64 x.hi] 141) := ⟨_, rfl⟩
  have k0 : Blk W0 w.heap.size 141 #[.int .i64 x.k, .int .i64 x.lo, .int .i64 x.hi] := by rw [hW0]; exact Blk.new _ _ _
  have e0 : Ext w W0 := by rw [hW0]; exact Ext.alloc _ _
  have z0 := e0.cell ha
  have z1 := e0.cell hb
  have y0 : W0.cell? ⟨w.heap.size, 0, none⟩ = some (.int .i64 (x.k)) := k0.cell 0
  have y1 : W0.cell? ⟨w.heap.size, 1, none⟩ = some (.int .i64 (x.lo)) := k0.cell 1
  have y2 : W0.cell? ⟨w.heap.size, 2, none⟩ = some (.int .i64 (x.hi)) := k0.cell 2
  have E0 := Lib.hid e0
  clear k0 e0 ha hb
  go_enter Tryz.func183, Tryz.ntmps183
  go_wp2
  rw [← hW0]
  clear hW0
  refine wp_region_each [some 5, some 6, some 7, some 8, some 9, some 4] [[1], [3], [5, 6], [2], [7, 8], [9]]
    [Is (.func (.func 159) #[] #[]), Is (.agg #[.int .i64 (x.k), .int .i64 (x.lo), .int .i64 (x.hi)]), Is (.int .i64 (x.k)), Is (.int .i64 (kelvin)), Is (.bool (decide (kelvin ≤ x.k))), Is (.bool (decide (kelvin ≤ x.k)))]
    (by kernel_rfl) (by kernel_rfl) (by kernel_rfl) (by kernel_rfl) (by kernel_rfl) Ext (fun W => Ext W0 W)
    (fun W _ => Ext.refl W) (fun W W' h k => h.trans k) ?_ (Ext.drew _) ?_ ?_
  · repeat (refine ⟨fun _ _ _ _ k h => (by first | exact h | exact (by first | exact IntsAt.ext h k | exact KnV.ext h k | exact NumsV.ext h k)), ?_⟩)
    exact trivial
  · refine ⟨?_, ?_, ?_, ?_, ?_, ?_, trivial⟩
    all_goals intro ρ W ⟨kc, kg, kf⟩ hF hs
    · obtain ⟨h0, -⟩ := hs
      replace h0 : ρ (.tmp 1) = .pointer (some ⟨qa, 0, none⟩) := h0
      have hc0 : W.cell? ⟨qa, 0, none⟩ = some (.func (.func 159) #[] #[]) := hF.cell (by assumption)
      go_simp
      exact ⟨Ext.refl _, rfl⟩
    · obtain ⟨h0, -⟩ := hs
      replace h0 : ρ (.tmp 3) = .pointer (some ⟨w.heap.size, 0, none⟩) := h0
      have hc0 : W.cell? ⟨w.heap.size, 0, none⟩ = some (.int .i64 (x.k)) := hF.cell (by assumption)
      have hc1 : W.cell? ⟨w.heap.size, 1, none⟩ = some (.int .i64 (x.lo)) := hF.cell (by assumption)
      have hc2 : W.cell? ⟨w.heap.size, 2, none⟩ = some (.int .i64 (x.hi)) := hF.cell (by assumption)
      go_simp
      exact ⟨Ext.refl _, rfl⟩
    · obtain ⟨h0, h1, -⟩ := hs
      replace h0 : ρ (.tmp 5) = .func (.func 159) #[] #[] := h0
      replace h1 : ρ (.tmp 6) = .agg #[.int .i64 (x.k), .int .i64 (x.lo), .int .i64 (x.hi)] := h1
      go_simp
      refine (kelvinOf159_any x.k x.lo x.hi _).mono ?_; rintro e w' ⟨rfl, hx⟩; exact ⟨_, rfl, hx, rfl⟩
    · obtain ⟨h0, -⟩ := hs
      replace h0 : ρ (.tmp 2) = .pointer (some ⟨qb, 0, none⟩) := h0
      have hc0 : W.cell? ⟨qb, 0, none⟩ = some (.int .i64 (kelvin)) := hF.cell (by assumption)
      go_simp
      exact ⟨Ext.refl _, rfl⟩
    · obtain ⟨h0, h1, -⟩ := hs
      replace h0 : ρ (.tmp 7) = .int .i64 (x.k) := h0
      replace h1 : ρ (.tmp 8) = .int .i64 (kelvin) := h1
      go_simp
      exact ⟨Ext.refl _, rfl⟩
    · obtain ⟨h0, -⟩ := hs
      replace h0 : ρ (.tmp 9) = .bool (decide (kelvin ≤ x.k)) := h0
      go_simp
      exact ⟨Ext.refl _, rfl⟩
  · intro fv W1 hF hs
    obtain ⟨-, -, -, -, -, h4, -⟩ := hs
    replace h4 : fv 4 = .bool (decide (kelvin ≤ x.k)) := h4
    simp only [fin, List.filterMap]
    go_simp
    go_wp2
    go_ret
    exact ⟨rfl, E0.out.trans hF⟩

set_option maxRecDepth 100000 in
set_option maxHeartbeats 1000000 in
theorem indexFunc182_any (qa qb : Nat) {A : Option Addr} {n ca : Nat} {xs : List DK} (p : DK → Bool) {w : World} (hn : xs.length = n) (hA : RowsAt 3 DK.enc w A xs)
    (hF : ∀ (g : DK) (W : World), Ext w W → Calls Tryz.prog 183 #[.agg #[.int .i64 g.k, .int .i64 g.lo, .int .i64 g.hi], .pointer (some ⟨qa, 0, none⟩), .pointer (some ⟨qb, 0, none⟩)] W fun e w' => e = .returned (.bool (p g)) ∧ Ext W w') :
    Calls Tryz.prog 182 #[.slice A n ca, .func (.func 183) #[] #[.pointer (some ⟨qa, 0, none⟩), .pointer (some ⟨qb, 0, none⟩)]] w fun e w' => e = .returned (.int .i64 (idxF p xs 0)) ∧ Ext w w' := by
  have hnb : n ≤ 1152921504606846976 := by have := hA.1; omega
  have HA := Lib.hid hA
  have HN := Lib.hid hn
  have HF := Lib.hid hF
  clear hA hn hF
  go_enter Tryz.func182, Tryz.ntmps182
  go_wp2
  go_loopw [8] (fun i wr => ∃ k : Nat, k ≤ n ∧ i = .int .i64 k ∧ idxF p xs 0 = idxF p (xs.drop k) k ∧ Ext w wr) (fun i _ => n - (intOf i).toNat)
  case atStart => exact ⟨0, Nat.zero_le _, rfl, rfl, Ext.refl _⟩
  case round =>
    obtain ⟨k, hk, rfl, hr, hx⟩ := hrel
    have HR := Lib.hid hr
    have HX := Lib.hid hx
    clear hr hx
    by_cases hlt : k < n
    · obtain ⟨g, hg⟩ : ∃ g, xs[k]? = some g := ⟨_, List.getElem?_eq_getElem (by rw [HN.out]; exact hlt)⟩
      have HD := Lib.hid (idxF_drop p xs k g hg)
      obtain ⟨b, o, hAe, hb, hc⟩ := HA.out.2 k g hg
      subst hAe
      have c0 : wr.cell? ⟨b, o + k * 3, none⟩ = some (.int .i64 g.k) := HX.out.cell (hc 0 _ rfl)
      have c1 : wr.cell? ⟨b, o + k * 3 + 1, none⟩ = some (.int .i64 g.lo) := HX.out.cell (hc 1 _ rfl)
      have c2 : wr.cell? ⟨b, o + k * 3 + 2, none⟩ = some (.int .i64 g.hi) := HX.out.cell (hc 2 _ rfl)
      have HC := Lib.hid (HF.out g wr HX.out)
      clear hg hc hb
      generalize p g = z at HD HC
      generalize g.k = g0 at *
      generalize g.lo = g1 at *
      generalize g.hi = g2 at *
      have hki : (k : Int) < (n : Int) := by omega
      cases z
      · go_wp2_with (go_at_call 183; refine HC.out.mono ?_; rintro e W2 ⟨rfl, hx2⟩; have X2 := Lib.hid hx2; clear hx2)
        go_roundw
        case rel => exact ⟨k + 1, by omega, by go_num, by rw [HR.out, HD.out, if_neg (by simp)], HX.out.trans X2.out⟩
        case measure => simp [intOf]; omega
      · go_wp2_with (go_at_call 183; refine HC.out.mono ?_; rintro e W2 ⟨rfl, hx2⟩; have X2 := Lib.hid hx2; clear hx2)
        go_ret
        exact ⟨ret_int (by rw [HR.out, HD.out, if_pos (by trivial)]), HX.out.trans X2.out⟩
    · have HE := Lib.hid (show idxF p (xs.drop k) k = -1 by rw [List.drop_of_length_le (by rw [HN.out]; omega)]; rfl)
      go_wp2
      go_ret
      exact ⟨ret_int (by rw [HR.out, HE.out]), HX.out⟩

set_option maxRecDepth 100000 in
theorem firstFrom158_any {A : Option Addr} {n ca : Nat} {xs : List DK} {w : World} (kelvin : Int) (hn : xs.length = n) (hA : RowsAt 3 DK.enc w A xs) :
    Calls Tryz.prog 158 #[.slice A n ca, .func (.func 159) #[] #[], .int .i64 kelvin] w fun e w' => e = .returned (.int .i64 (firstK DK.k kelvin xs)) ∧ Ext w w' := by
  have hnb : n ≤ 1152921504606846976 := by have := hA.1; omega
  obtain ⟨W0, hW0⟩ : ∃ W0, W0 = (w.alloc (.cells #[.func (.func 159) #[] #[]] 234)).alloc (.cells #[.int .i64 kelvin] 3) := ⟨_, rfl⟩
  have k0 : Blk W0 w.heap.size 234 #[.func (.func 159) #[] #[]] := by rw [hW0]; exact (Blk.new _ _ _).alloc _
  have k1 : Blk W0 (w.heap.size + 1) 3 #[.int .i64 kelvin] := by rw [hW0]; exact Blk.newAt _ _ _ (by simp)
  have e0 : Ext w W0 := by rw [hW0]; exact (Ext.alloc _ _).trans (Ext.alloc _ _)
  have H := Lib.hid (indexFunc182_any (ca := ca) w.heap.size (w.heap.size + 1) (fromP DK.k kelvin) hn (hA.ext e0) (fun g W e => test183_any g kelvin _ _ W ((k0.ext e).cell 0) ((k1.ext e).cell 0)))
  have E0 := Lib.hid e0
  have HW := Lib.hid hW0
  have HL := Lib.hid (show firstK DK.k kelvin xs = idxF (fromP DK.k kelvin) xs 0 from rfl)
  clear hA hn hW0 e0 k0 k1
  generalize idxF (fromP DK.k kelvin) xs 0 = m at *
  go_enter Tryz.func158, Tryz.ntmps158
  go_wp2_with (go_at_call 182; rw [← HW.out]; refine H.out.mono ?_; rintro e W1 ⟨rfl, hx⟩; have X1 := Lib.hid hx; clear hx)
  go_ret
  exact ⟨ret_int HL.out.symm, E0.out.trans X1.out⟩

theorem kelvinOf161_any (k r : Int) (w : World) : Calls Tryz.prog 161 #[.agg #[.int .i64 k, .int .i64 r]] w fun e w' => e = .returned (.int .i64 k) ∧ Ext w w' := by
  go_enter Tryz.func161, Tryz.ntmps161
  go_wp2
  go_ret
  exact ⟨rfl, Ext.alloc _ _⟩
set_option maxRecDepth 100000 in
theorem test184_any (x : TK) (kelvin : Int) (qa qb : Nat) (w : World) (ha : w.cell? ⟨qa, 0, none⟩ = some (.func (.func 161) #[] #[])) (hb : w.cell? ⟨qb, 0, none⟩ = some (.int .i64 (kelvin))) :
    Calls Tryz.prog 184 #[.agg #[.int .i64 x.k, .int .i64 x.r], .pointer (some ⟨qa, 0, none⟩), .pointer (some ⟨qb, 0, none⟩)] w fun e w' => e = .returned (.bool (aboveP TK.k kelvin x)) ∧ Ext w w' := by
  obtain ⟨W0, hW0⟩ : ∃ W0, W0 = w.alloc (.cells #[.int .i64 x.k, .int .i64 x.r] 145) := ⟨_, rfl⟩
  have k0 : Blk W0 w.heap.size 145 #[.int .i64 x.k, .int .i64 x.r] := by rw [hW0]; exact Blk.new _ _ _
  have e0 : Ext w W0 := by rw [hW0]; exact Ext.alloc _ _
  have z0 := e0.cell ha
  have z1 := e0.cell hb
  have y0 : W0.cell? ⟨w.heap.size, 0, none⟩ = some (.int .i64 (x.k)) := k0.cell 0
  have y1 : W0.cell? ⟨w.heap.size, 1, none⟩ = some (.int .i64 (x.r)) := k0.cell 1
  have E0 := Lib.hid e0
  clear k0 e0 ha hb
  go_enter Tryz.func184, Tryz.ntmps184
  go_wp2
  rw [← hW0]
  clear hW0
  refine wp_region_each [some 5, some 6, some 7, some 8, some 9, some 4] [[1], [3], [5, 6], [2], [7, 8], [9]]
    [Is (.func (.func 161) #[] #[]), Is (.agg #[.int .i64 (x.k), .int .i64 (x.r)]), Is (.int .i64 (x.k)), Is (.int .i64 (kelvin)), Is (.bool (decide (kelvin < x.k))), Is (.bool (decide (kelvin < x.k)))]
    (by kernel_rfl) (by kernel_rfl) (by kernel_rfl) (by kernel_rfl) (by kernel_rfl) Ext (fun W => Ext W0 W)
    (fun W _ => Ext.refl W) (fun W W' h k => h.trans k) ?_ (Ext.drew _) ?_ ?_
  · repeat (refine ⟨fun _ _ _ _ k h => (by first | exact h | exact (by first | exact IntsAt.ext h k | exact KnV.ext h k | exact NumsV.ext h k)), ?_⟩)
    exact trivial
  · refine ⟨?_, ?_, ?_, ?_, ?_, ?_, trivial⟩
    all_goals intro ρ W ⟨kc, kg, kf⟩ hF hs
    · obtain ⟨h0, -⟩ := hs
      replace h0 : ρ (.tmp 1) = .pointer (some ⟨qa, 0, none⟩) := h0
      have hc0 : W.cell? ⟨qa, 0, none⟩ = some (.func (.func 161) #[] #[]) := hF.cell (by assumption)
      go_simp
      exact ⟨Ext.refl _, rfl⟩
    · obtain ⟨h0, -⟩ := hs
      replace h0 : ρ (.tmp 3) = .pointer (some ⟨w.heap.size, 0, none⟩) := h0
      have hc0 : W.cell? ⟨w.heap.size, 0, none⟩ = some (.int .i64 (x.k)) := hF.cell (by assumption)
      have hc1 : W.cell? ⟨w.heap.size, 1, none⟩ = some (.int .i64 (x.r)) := hF.cell (by assumption)
      go_simp
      exact ⟨Ext.refl _, rfl⟩
    · obtain ⟨h0, h1, -⟩ := hs
      replace h0 : ρ (.tmp 5) = .func (.func 161) #[] #[] := h0
      replace h1 : ρ (.tmp 6) = .agg #[.int .i64 (x.k), .int .i64 (x.r)] := h1
      go_simp
      refine (kelvinOf161_any x.k x.r _).mono ?_; rintro e w' ⟨rfl, hx⟩; exact ⟨_, rfl, hx, rfl⟩
    · obtain ⟨h0, -⟩ := hs
      replace h0 : ρ (.tmp 2) = .pointer (some ⟨qb, 0, none⟩) := h0
      have hc0 : W.cell? ⟨qb, 0, none⟩ = some (.int .i64 (kelvin)) := hF.cell (by assumption)
      go_simp
      exact ⟨Ext.refl _, rfl⟩
    · obtain ⟨h0, h1, -⟩ := hs
      replace h0 : ρ (.tmp 7) = .int .i64 (x.k) := h0
      replace h1 : ρ (.tmp 8) = .int .i64 (kelvin) := h1
      go_simp
      exact ⟨Ext.refl _, rfl⟩
    · obtain ⟨h0, -⟩ := hs
      replace h0 : ρ (.tmp 9) = .bool (decide (kelvin < x.k)) := h0
      go_simp
      exact ⟨Ext.refl _, rfl⟩
  · intro fv W1 hF hs
    obtain ⟨-, -, -, -, -, h4, -⟩ := hs
    replace h4 : fv 4 = .bool (decide (kelvin < x.k)) := h4
    simp only [fin, List.filterMap]
    go_simp
    go_wp2
    go_ret
    exact ⟨rfl, E0.out.trans hF⟩

set_option maxRecDepth 100000 in
set_option maxHeartbeats 1000000 in
theorem indexFunc185_any (qa qb : Nat) {A : Option Addr} {n ca : Nat} {xs : List TK} (p : TK → Bool) {w : World} (hn : xs.length = n) (hA : RowsAt 2 TK.enc w A xs)
    (hF : ∀ (g : TK) (W : World), Ext w W → Calls Tryz.prog 184 #[.agg #[.int .i64 g.k, .int .i64 g.r], .pointer (some ⟨qa, 0, none⟩), .pointer (some ⟨qb, 0, none⟩)] W fun e w' => e = .returned (.bool (p g)) ∧ Ext W w') :
    Calls Tryz.prog 185 #[.slice A n ca, .func (.func 184) #[] #[.pointer (some ⟨qa, 0, none⟩), .pointer (some ⟨qb, 0, none⟩)]] w fun e w' => e = .returned (.int .i64 (idxF p xs 0)) ∧ Ext w w' := by
  have hnb : n ≤ 1152921504606846976 := by have := hA.1; omega
  have HA := Lib.hid hA
  have HN := Lib.hid hn
  have HF := Lib.hid hF
  clear hA hn hF
  go_enter Tryz.func185, Tryz.ntmps185
  go_wp2
  go_loopw [8] (fun i wr => ∃ k : Nat, k ≤ n ∧ i = .int .i64 k ∧ idxF p xs 0 = idxF p (xs.drop k) k ∧ Ext w wr) (fun i _ => n - (intOf i).toNat)
  case atStart => exact ⟨0, Nat.zero_le _, rfl, rfl, Ext.refl _⟩
  case round =>
    obtain ⟨k, hk, rfl, hr, hx⟩ := hrel
    have HR := Lib.hid hr
    have HX := Lib.hid hx
    clear hr hx
    by_cases hlt : k < n
    · obtain ⟨g, hg⟩ : ∃ g, xs[k]? = some g := ⟨_, List.getElem?_eq_getElem (by rw [HN.out]; exact hlt)⟩
      have HD := Lib.hid (idxF_drop p xs k g hg)
      obtain ⟨b, o, hAe, hb, hc⟩ := HA.out.2 k g hg
      subst hAe
      have c0 : wr.cell? ⟨b, o + k * 2, none⟩ = some (.int .i64 g.k) := HX.out.cell (hc 0 _ rfl)
      have c1 : wr.cell? ⟨b, o + k * 2 + 1, none⟩ = some (.int .i64 g.r) := HX.out.cell (hc 1 _ rfl)
      have HC := Lib.hid (HF.out g wr HX.out)
      clear hg hc hb
      generalize p g = z at HD HC
      generalize g.k = g0 at *
      generalize g.r = g1 at *
      have hki : (k : Int) < (n : Int) := by omega
      cases z
      · go_wp2_with (go_at_call 184; refine HC.out.mono ?_; rintro e W2 ⟨rfl, hx2⟩; have X2 := Lib.hid hx2; clear hx2)
        go_roundw
        case rel => exact ⟨k + 1, by omega, by go_num, by rw [HR.out, HD.out, if_neg (by simp)], HX.out.trans X2.out⟩
        case measure => simp [intOf]; omega
      · go_wp2_with (go_at_call 184; refine HC.out.mono ?_; rintro e W2 ⟨rfl, hx2⟩; have X2 := Lib.hid hx2; clear hx2)
        go_ret
        exact ⟨ret_int (by rw [HR.out, HD.out, if_pos (by trivial)]), HX.out.trans X2.out⟩
    · have HE := Lib.hid (show idxF p (xs.drop k) k = -1 by rw [List.drop_of_length_le (by rw [HN.out]; omega)]; rfl)
      go_wp2
      go_ret
      exact ⟨ret_int (by rw [HR.out, HE.out]), HX.out⟩

set_option maxRecDepth 100000 in
theorem lastUpTo160_any {A : Option Addr} {n ca : Nat} {xs : List TK} {w : World} (kelvin : Int) (hn : xs.length = n) (hA : RowsAt 2 TK.enc w A xs) :
    Calls Tryz.prog 160 #[.slice A n ca, .func (.func 161) #[] #[], .int .i64 kelvin] w fun e w' => e = .returned (.int .i64 (lastK TK.k kelvin xs)) ∧ Ext w w' := by
  have hnb : n ≤ 1152921504606846976 := by have := hA.1; omega
  obtain ⟨W0, hW0⟩ : ∃ W0, W0 = (w.alloc (.cells #[.func (.func 161) #[] #[]] 236)).alloc (.cells #[.int .i64 kelvin] 3) := ⟨_, rfl⟩
  have k0 : Blk W0 w.heap.size 236 #[.func (.func 161) #[] #[]] := by rw [hW0]; exact (Blk.new _ _ _).alloc _
  have k1 : Blk W0 (w.heap.size + 1) 3 #[.int .i64 kelvin] := by rw [hW0]; exact Blk.newAt _ _ _ (by simp)
  have e0 : Ext w W0 := by rw [hW0]; exact (Ext.alloc _ _).trans (Ext.alloc _ _)
  have H := Lib.hid (indexFunc185_any (ca := ca) w.heap.size (w.heap.size + 1) (aboveP TK.k kelvin) hn (hA.ext e0) (fun g W e => test184_any g kelvin _ _ W ((k0.ext e).cell 0) ((k1.ext e).cell 0)))
  have E0 := Lib.hid e0
  have HW := Lib.hid hW0
  have hbd := idxF_bd (aboveP TK.k kelvin) xs 0
  have HL := Lib.hid (show lastK TK.k kelvin xs = if 0 ≤ idxF (aboveP TK.k kelvin) xs 0 then idxF (aboveP TK.k kelvin) xs 0 - 1 else (n : Int) - 1 by rw [lastK, hn])
  rw [hn] at hbd
  clear hA hn hW0 e0 k0 k1
  generalize idxF (aboveP TK.k kelvin) xs 0 = m at *
  obtain ⟨hb0, hb1⟩ := hbd
  have hb2 : m ≤ 1152921504606846976 := by omega
  by_cases hm : 0 ≤ m
  all_goals
    go_enter Tryz.func160, Tryz.ntmps160
    go_wp2_with (go_at_call 185; rw [← HW.out]; refine H.out.mono ?_; rintro e W1 ⟨rfl, hx⟩; have X1 := Lib.hid hx; clear hx)
    go_ret
  · exact ⟨ret_int (by rw [HL.out, if_pos hm]), E0.out.trans X1.out⟩
  · exact ⟨ret_int (by rw [HL.out, if_neg (by omega)]), E0.out.trans X1.out⟩

end Go.Proofs.YtkmekbafjnlfkaaGreat
