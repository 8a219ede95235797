/- Small readings of the examples for steps. -/
import Derived.Test.YtkmekbafjnlfkaaGreatS45

/- HeatAt, CoolAt and ColdAt. -/

namespace Go.Proofs.YtkmekbafjnlfkaaGreat
open Go.RowKit Go.Shelf Go.Mem Go.RegInv
attribute [local go_sem] RelUpon_value RelUpon_skip RelUpon_enter BigFrame.eval_const BigFrame.eval_global BigFrame.eval_func

/-- The last index below j at which f holds, or -1. -/
def lastLe {α : Type} (f : α → Bool) (xs : List α) : Nat → Int
  | 0 => -1
  | j + 1 => match xs[j]? with | some x => if f x = true then (j : Int) else lastLe f xs j | none => lastLe f xs j
theorem lastLe_succ {α : Type} {f : α → Bool} {xs : List α} {j : Nat} {x : α} (h : xs[j]? = some x) : lastLe f xs (j + 1) = if f x = true then (j : Int) else lastLe f xs j := by
  show (match xs[j]? with | some x => if f x = true then (j : Int) else lastLe f xs j | none => lastLe f xs j) = _
  rw [h]
theorem lastLe_yes {α : Type} {f : α → Bool} {xs : List α} {j : Nat} {x : α} (h : xs[j]? = some x) (hf : f x = true) : lastLe f xs (j + 1) = (j : Int) := by rw [lastLe_succ h, if_pos hf]
theorem lastLe_no {α : Type} {f : α → Bool} {xs : List α} {j : Nat} {x : α} (h : xs[j]? = some x) (hf : f x = false) : lastLe f xs (j + 1) = lastLe f xs j := by rw [lastLe_succ h, if_neg (by simp [hf])]
theorem lastLe_none {α : Type} {f : α → Bool} {xs : List α} : ∀ {n : Nat}, lastLe f xs n < 0 → ∀ j x, j < n → xs[j]? = some x → f x = false
  | 0, _, j, _, hj, _ => by omega
  | n + 1, h, j, x, hj, hx => by
    by_cases hjn : j = n
    · subst hjn
      rw [lastLe_succ hx] at h
      cases hf : f x
      · rfl
      · rw [if_pos hf] at h; omega
    · have h2 : lastLe f xs n < 0 := by
        cases hn : xs[n]? with
        | none =>
          have : lastLe f xs (n + 1) = lastLe f xs n := by
            show (match xs[n]? with | some x => if f x = true then (n : Int) else lastLe f xs n | none => lastLe f xs n) = _
            rw [hn]
          omega
        | some y =>
          rw [lastLe_succ hn] at h
          split at h
          · omega
          · exact h
      exact lastLe_none h2 j x (by omega) hx

set_option maxRecDepth 100000 in
set_option maxHeartbeats 1000000 in
theorem heatAt_any {r : Ru} {A0 A1 A2 A3 : Option Addr} {n0 n1 n2 n3 c0 c1 c2 c3 : Nat} {w : World} (h : RuAt w r A0 A1 A2 A3 n0 n1 n2 n3) (kelvin : Int) :
    Calls Tryz.prog 65 #[.agg #[.slice A0 n0 c0, .slice A1 n1 c1, .slice A2 n2 c2, .slice A3 n3 c3, .int .i64 r.h0, .int .i64 r.h1, .int .i64 r.h2, .int .i64 r.h3], .int .i64 kelvin] w fun e w' => e = .returned (.int .i64 (lastLe (fun x : HK => decide (x.k ≤ kelvin)) r.hs n0)) ∧ Ext w w' := by
  obtain ⟨W0, hW0⟩ : ∃ W0, W0 = w.alloc (.cells #[.slice A0 n0 c0, .slice A1 n1 c1, .slice A2 n2 c2, .slice A3 n3 c3, .int .i64 r.h0, .int .i64 r.h1, .int .i64 r.h2, .int .i64 r.h3] 28) := ⟨_, rfl⟩
  have K0 := Lib.hid (show Blk W0 w.heap.size 28 #[.slice A0 n0 c0, .slice A1 n1 c1, .slice A2 n2 c2, .slice A3 n3 c3, .int .i64 r.h0, .int .i64 r.h1, .int .i64 r.h2, .int .i64 r.h3] by rw [hW0]; exact Blk.new _ _ _)
  have E0 := Lib.hid (show Ext w W0 by rw [hW0]; exact Ext.alloc _ _)
  have hnb : n0 ≤ 1152921504606846976 := by have := h.r0.1; have := h.l0; omega
  have H := Lib.hid (h.ext E0.out)
  clear h
  go_enter Tryz.func65, Tryz.ntmps65
  go_wp2
  rw [← hW0]
  clear hW0
  go_loopw [5, 6] (fun a i wr => ∃ j : Nat, j ≤ n0 ∧ i = .int .i64 j ∧ a = .int .i64 (lastLe (fun x : HK => decide (x.k ≤ kelvin)) r.hs j) ∧ Ext W0 wr) (fun _ i _ => n0 - (intOf i).toNat)
  case atStart => exact ⟨0, Nat.zero_le _, rfl, rfl, Ext.refl _⟩
  case round =>
    obtain ⟨j, hj, rfl, rfl, hx⟩ := hrel
    have HX := Lib.hid hx
    clear hx
    have y0 : wr.cell? ⟨w.heap.size, 0, none⟩ = some (.slice A0 n0 c0) := (K0.out.ext HX.out).cell 0
    by_cases hlt : j < n0
    · obtain ⟨x, hg⟩ : ∃ x, r.hs[j]? = some x := ⟨_, List.getElem?_eq_getElem (by rw [H.out.l0]; exact hlt)⟩
      have HG := Lib.hid hg
      obtain ⟨b, o, hAe, hb, hc⟩ := H.out.r0.2 j x hg
      subst hAe
      have q0 : wr.cell? ⟨b, o + j * 4, none⟩ = some (.int .i64 x.k) := HX.out.cell (hc 0 _ rfl)
      have hji : (j : Int) < (n0 : Int) := by omega
      clear hc hb hg
      by_cases hk : x.k ≤ kelvin
      · have HL := Lib.hid (lastLe_yes (f := fun x : HK => decide (x.k ≤ kelvin)) HG.out (decide_eq_true hk))
        go_wp2
        go_roundw
        case rel => exact ⟨j + 1, by omega, by go_num, by rw [HL.out], HX.out⟩
        case measure => simp [intOf]; omega
      · have HL := Lib.hid (lastLe_no (f := fun x : HK => decide (x.k ≤ kelvin)) HG.out (decide_eq_false hk))
        go_wp2
        go_roundw
        case rel => exact ⟨j + 1, by omega, by go_num, by rw [HL.out], HX.out⟩
        case measure => simp [intOf]; omega
    · obtain rfl : n0 = j := by omega
      go_wp2
      go_ret
      exact ⟨rfl, E0.out.trans HX.out⟩

set_option maxRecDepth 100000 in
set_option maxHeartbeats 1000000 in
theorem coolAt_any {r : Ru} {A0 A1 A2 A3 : Option Addr} {n0 n1 n2 n3 c0 c1 c2 c3 : Nat} {w : World} (h : RuAt w r A0 A1 A2 A3 n0 n1 n2 n3) (kelvin : Int) :
    Calls Tryz.prog 66 #[.agg #[.slice A0 n0 c0, .slice A1 n1 c1, .slice A2 n2 c2, .slice A3 n3 c3, .int .i64 r.h0, .int .i64 r.h1, .int .i64 r.h2, .int .i64 r.h3], .int .i64 kelvin] w fun e w' => e = .returned (.int .i64 (firstK CK.k kelvin r.cs)) ∧ Ext w w' := by
  obtain ⟨W0, hW0⟩ : ∃ W0, W0 = w.alloc (.cells #[.slice A0 n0 c0, .slice A1 n1 c1, .slice A2 n2 c2, .slice A3 n3 c3, .int .i64 r.h0, .int .i64 r.h1, .int .i64 r.h2, .int .i64 r.h3] 28) := ⟨_, rfl⟩
  have K0 := Lib.hid (show Blk W0 w.heap.size 28 #[.slice A0 n0 c0, .slice A1 n1 c1, .slice A2 n2 c2, .slice A3 n3 c3, .int .i64 r.h0, .int .i64 r.h1, .int .i64 r.h2, .int .i64 r.h3] by rw [hW0]; exact Blk.new _ _ _)
  have E0 := Lib.hid (show Ext w W0 by rw [hW0]; exact Ext.alloc _ _)
  have hnb : n1 ≤ 1152921504606846976 := by have := h.r1.1; have := h.l1; omega
  have H := Lib.hid (h.ext E0.out)
  clear h
  have HV := Lib.hid (show firstK CK.k kelvin r.cs = idxF (fromP CK.k kelvin) (r.cs.drop 0) 0 from rfl)
  generalize firstK CK.k kelvin r.cs = z at HV ⊢
  go_enter Tryz.func66, Tryz.ntmps66
  go_wp2
  rw [← hW0]
  clear hW0
  go_loopw [5] (fun i wr => ∃ j : Nat, j ≤ n1 ∧ i = .int .i64 j ∧ z = idxF (fromP CK.k kelvin) (r.cs.drop j) j ∧ Ext W0 wr) (fun i _ => n1 - (intOf i).toNat)
  case atStart => exact ⟨0, Nat.zero_le _, rfl, HV.out, Ext.refl _⟩
  case round =>
    obtain ⟨j, hj, rfl, hr, hx⟩ := hrel
    have HR := Lib.hid hr
    clear hr
    have HX := Lib.hid hx
    clear hx
    have y0 : wr.cell? ⟨w.heap.size, 1, none⟩ = some (.slice A1 n1 c1) := (K0.out.ext HX.out).cell 1
    by_cases hlt : j < n1
    · obtain ⟨x, hg⟩ : ∃ x, r.cs[j]? = some x := ⟨_, List.getElem?_eq_getElem (by rw [H.out.l1]; exact hlt)⟩
      have HG := Lib.hid hg
      obtain ⟨b, o, hAe, hb, hc⟩ := H.out.r1.2 j x hg
      subst hAe
      have q0 : wr.cell? ⟨b, o + j * 5, none⟩ = some (.int .i64 x.k) := HX.out.cell (hc 0 _ rfl)
      have hji : (j : Int) < (n1 : Int) := by omega
      clear hc hb hg
      have HD := Lib.hid (idxF_drop (fromP CK.k kelvin) r.cs j x HG.out)
      by_cases hk : kelvin ≤ x.k
      · have HZ := Lib.hid (show z = (j : Int) by rw [HR.out, HD.out, if_pos (by simp [fromP, hk])])
        go_wp2
        go_ret
        exact ⟨ret_int HZ.out.symm, E0.out.trans HX.out⟩
      · have HZ := Lib.hid (show z = idxF (fromP CK.k kelvin) (r.cs.drop (j + 1)) (j + 1) by rw [HR.out, HD.out, if_neg (by simp [fromP, hk])])
        go_wp2
        go_roundw
        case rel => exact ⟨j + 1, by omega, by go_num, HZ.out, HX.out⟩
        case measure => simp [intOf]; omega
    · obtain rfl : n1 = j := by omega
      have HZ := Lib.hid (show z = -1 by rw [HR.out, List.drop_of_length_le (by rw [H.out.l1]; exact Nat.le_refl _)]; rfl)
      go_wp2
      go_ret
      exact ⟨ret_int HZ.out.symm, E0.out.trans HX.out⟩

set_option maxRecDepth 100000 in
set_option maxHeartbeats 1000000 in
theorem coldAt_any {r : Ru} {A0 A1 A2 A3 : Option Addr} {n0 n1 n2 n3 c0 c1 c2 c3 : Nat} {w : World} (h : RuAt w r A0 A1 A2 A3 n0 n1 n2 n3) (kelvin : Int) :
    Calls Tryz.prog 67 #[.agg #[.slice A0 n0 c0, .slice A1 n1 c1, .slice A2 n2 c2, .slice A3 n3 c3, .int .i64 r.h0, .int .i64 r.h1, .int .i64 r.h2, .int .i64 r.h3], .int .i64 kelvin] w fun e w' => e = .returned (.int .i64 (firstK DK.k kelvin r.ds)) ∧ Ext w w' := by
  obtain ⟨W0, hW0⟩ : ∃ W0, W0 = w.alloc (.cells #[.slice A0 n0 c0, .slice A1 n1 c1, .slice A2 n2 c2, .slice A3 n3 c3, .int .i64 r.h0, .int .i64 r.h1, .int .i64 r.h2, .int .i64 r.h3] 28) := ⟨_, rfl⟩
  have K0 := Lib.hid (show Blk W0 w.heap.size 28 #[.slice A0 n0 c0, .slice A1 n1 c1, .slice A2 n2 c2, .slice A3 n3 c3, .int .i64 r.h0, .int .i64 r.h1, .int .i64 r.h2, .int .i64 r.h3] by rw [hW0]; exact Blk.new _ _ _)
  have E0 := Lib.hid (show Ext w W0 by rw [hW0]; exact Ext.alloc _ _)
  have hnb : n2 ≤ 1152921504606846976 := by have := h.r2.1; have := h.l2; omega
  have H := Lib.hid (h.ext E0.out)
  clear h
  have HV := Lib.hid (show firstK DK.k kelvin r.ds = idxF (fromP DK.k kelvin) (r.ds.drop 0) 0 from rfl)
  generalize firstK DK.k kelvin r.ds = z at HV ⊢
  go_enter Tryz.func67, Tryz.ntmps67
  go_wp2
  rw [← hW0]
  clear hW0
  go_loopw [5] (fun i wr => ∃ j : Nat, j ≤ n2 ∧ i = .int .i64 j ∧ z = idxF (fromP DK.k kelvin) (r.ds.drop j) j ∧ Ext W0 wr) (fun i _ => n2 - (intOf i).toNat)
  case atStart => exact ⟨0, Nat.zero_le _, rfl, HV.out, Ext.refl _⟩
  case round =>
    obtain ⟨j, hj, rfl, hr, hx⟩ := hrel
    have HR := Lib.hid hr
    clear hr
    have HX := Lib.hid hx
    clear hx
    have y0 : wr.cell? ⟨w.heap.size, 2, none⟩ = some (.slice A2 n2 c2) := (K0.out.ext HX.out).cell 2
    by_cases hlt : j < n2
    · obtain ⟨x, hg⟩ : ∃ x, r.ds[j]? = some x := ⟨_, List.getElem?_eq_getElem (by rw [H.out.l2]; exact hlt)⟩
      have HG := Lib.hid hg
      obtain ⟨b, o, hAe, hb, hc⟩ := H.out.r2.2 j x hg
      subst hAe
      have q0 : wr.cell? ⟨b, o + j * 3, none⟩ = some (.int .i64 x.k) := HX.out.cell (hc 0 _ rfl)
      have hji : (j : Int) < (n2 : Int) := by omega
      clear hc hb hg
      have HD := Lib.hid (idxF_drop (fromP DK.k kelvin) r.ds j x HG.out)
      by_cases hk : kelvin ≤ x.k
      · have HZ := Lib.hid (show z = (j : Int) by rw [HR.out, HD.out, if_pos (by simp [fromP, hk])])
        go_wp2
        go_ret
        exact ⟨ret_int HZ.out.symm, E0.out.trans HX.out⟩
      · have HZ := Lib.hid (show z = idxF (fromP DK.k kelvin) (r.ds.drop (j + 1)) (j + 1) by rw [HR.out, HD.out, if_neg (by simp [fromP, hk])])
        go_wp2
        go_roundw
        case rel => exact ⟨j + 1, by omega, by go_num, HZ.out, HX.out⟩
        case measure => simp [intOf]; omega
    · obtain rfl : n2 = j := by omega
      have HZ := Lib.hid (show z = -1 by rw [HR.out, List.drop_of_length_le (by rw [H.out.l2]; exact Nat.le_refl _)]; rfl)
      go_wp2
      go_ret
      exact ⟨ret_int HZ.out.symm, E0.out.trans HX.out⟩

end Go.Proofs.YtkmekbafjnlfkaaGreat

/- The examples' readings for SteelRuns: small ones. -/

namespace Go.Proofs.YtkmekbafjnlfkaaGreat
open Go.RowKit Go.Shelf Go.Mem Go.RegInv
attribute [local go_sem] RelUpon_value RelUpon_skip RelUpon_enter BigFrame.eval_const BigFrame.eval_global BigFrame.eval_func

set_option maxRecDepth 100000 in
set_option maxHeartbeats 1000000 in
theorem temperAt_any {r : Ru} {A0 A1 A2 A3 : Option Addr} {n0 n1 n2 n3 c0 c1 c2 c3 : Nat} {w : World} (h : RuAt w r A0 A1 A2 A3 n0 n1 n2 n3) (kelvin : Int) :
    Calls Tryz.prog 101 #[.agg #[.slice A0 n0 c0, .slice A1 n1 c1, .slice A2 n2 c2, .slice A3 n3 c3, .int .i64 r.h0, .int .i64 r.h1, .int .i64 r.h2, .int .i64 r.h3], .int .i64 kelvin] w fun e w' => e = .returned (.int .i64 (lastLe (fun x : TK => decide (x.k ≤ kelvin)) r.ts n3)) ∧ Ext w w' := by
  obtain ⟨W0, hW0⟩ : ∃ W0, W0 = w.alloc (.cells #[.slice A0 n0 c0, .slice A1 n1 c1, .slice A2 n2 c2, .slice A3 n3 c3, .int .i64 r.h0, .int .i64 r.h1, .int .i64 r.h2, .int .i64 r.h3] 28) := ⟨_, rfl⟩
  have K0 := Lib.hid (show Blk W0 w.heap.size 28 #[.slice A0 n0 c0, .slice A1 n1 c1, .slice A2 n2 c2, .slice A3 n3 c3, .int .i64 r.h0, .int .i64 r.h1, .int .i64 r.h2, .int .i64 r.h3] by rw [hW0]; exact Blk.new _ _ _)
  have E0 := Lib.hid (show Ext w W0 by rw [hW0]; exact Ext.alloc _ _)
  have hnb : n3 ≤ 1152921504606846976 := by have := h.r3.1; have := h.l3; omega
  have H := Lib.hid (h.ext E0.out)
  clear h
  go_enter Tryz.func101, Tryz.ntmps101
  go_wp2
  rw [← hW0]
  clear hW0
  go_loopw [5, 6] (fun a i wr => ∃ j : Nat, j ≤ n3 ∧ i = .int .i64 j ∧ a = .int .i64 (lastLe (fun x : TK => decide (x.k ≤ kelvin)) r.ts j) ∧ Ext W0 wr) (fun _ i _ => n3 - (intOf i).toNat)
  case atStart => exact ⟨0, Nat.zero_le _, rfl, rfl, Ext.refl _⟩
  case round =>
    obtain ⟨j, hj, rfl, rfl, hx⟩ := hrel
    have HX := Lib.hid hx
    clear hx
    have y0 : wr.cell? ⟨w.heap.size, 3, none⟩ = some (.slice A3 n3 c3) := (K0.out.ext HX.out).cell 3
    by_cases hlt : j < n3
    · obtain ⟨x, hg⟩ : ∃ x, r.ts[j]? = some x := ⟨_, List.getElem?_eq_getElem (by rw [H.out.l3]; exact hlt)⟩
      have HG := Lib.hid hg
      obtain ⟨b, o, hAe, hb, hc⟩ := H.out.r3.2 j x hg
      subst hAe
      have q0 : wr.cell? ⟨b, o + j * 2, none⟩ = some (.int .i64 x.k) := HX.out.cell (hc 0 _ rfl)
      have hji : (j : Int) < (n3 : Int) := by omega
      clear hc hb hg
      by_cases hk : x.k ≤ kelvin
      · have HL := Lib.hid (lastLe_yes (f := fun x : TK => decide (x.k ≤ kelvin)) HG.out (decide_eq_true hk))
        go_wp2
        go_roundw
        case rel => exact ⟨j + 1, by omega, by go_num, by rw [HL.out], HX.out⟩
        case measure => simp [intOf]; omega
      · have HL := Lib.hid (lastLe_no (f := fun x : TK => decide (x.k ≤ kelvin)) HG.out (decide_eq_false hk))
        go_wp2
        go_roundw
        case rel => exact ⟨j + 1, by omega, by go_num, by rw [HL.out], HX.out⟩
        case measure => simp [intOf]; omega
    · obtain rfl : n3 = j := by omega
      go_wp2
      go_ret
      exact ⟨rfl, E0.out.trans HX.out⟩

set_option maxRecDepth 100000 in
theorem refPicked_any (lo hi part : Int) (w : World) (h0 : 0 ≤ lo) (h1 : lo ≤ hi) (h2 : hi ≤ 1000000) (h3 : 0 ≤ part) (h4 : part ≤ 1000) : Calls Tryz.prog 99 #[.agg #[.int .i64 lo, .int .i64 hi], .int .i64 part] w fun e w' => e = .returned (.int .i64 (pickK lo hi part)) ∧ Ext w w' := by
  obtain ⟨a, b⟩ := mul_bd (a := hi - lo) (A := 1000000) (by omega) (by omega) h3 h4
  have h5 : 0 ≤ hi - lo := by omega
  have HP := Lib.hid (show pickK lo hi part = lo + (hi - lo) * part / 1000 from rfl)
  go_enter Tryz.func99, Tryz.ntmps99
  go_wp2
  go_ret
  exact ⟨ret_int HP.out.symm, Ext.alloc _ _⟩
set_option maxRecDepth 100000 in
theorem refMart_any (a m s : Int) (w : World) (h0 : 0 ≤ a) (h1 : 0 ≤ m) (h2 : a ≤ 1000000) (h5 : m ≤ 1000000) (h3 : 0 ≤ s) (h4 : s ≤ 1000000) : Calls Tryz.prog 100 #[.int .i64 a, .int .i64 m, .int .i64 s] w fun e w' => e = .returned (.int .i64 (max m ((a + m) * s / 1000000))) ∧ Ext w w' := by
  obtain ⟨b0, b1⟩ := mul_bd (a := a + m) (A := 2000000) (by omega) (by omega) h3 h4
  go_enter Tryz.func100, Tryz.ntmps100
  go_wp2
  go_ret
  exact ⟨rfl, Ext.refl _⟩
def shortB (n : Nat) : Bool := decide (n ≤ 30) || (decide (200 < n) && decide (n ≤ 202))
theorem short_any (n : Nat) (w : World) (hn : n ≤ 1152921504606846976) : Calls Tryz.prog 22 #[.int .i64 (n : Int)] w fun e w' => e = .returned (.bool (shortB n)) ∧ Ext w w' := by
  obtain ⟨sb, hsb⟩ : ∃ sb, sb = shortB n := ⟨_, rfl⟩
  rw [← hsb]
  unfold shortB at hsb
  by_cases g0 : (n : Int) ≤ 30
  · have HF := Lib.hid (show sb = true by rw [hsb, decide_eq_true (show n ≤ 30 by omega)]; rfl)
    clear hsb
    go_enter Tryz.func22, Tryz.ntmps22
    go_wp2
    go_ret
    exact ⟨ret_bool HF.out.symm, Ext.refl _⟩
  · by_cases g1 : (200 : Int) < (n : Int)
    · by_cases g2 : (n : Int) ≤ 202
      · have HF := Lib.hid (show sb = true by rw [hsb, decide_eq_true (show 200 < n by omega), decide_eq_true (show n ≤ 202 by omega)]; simp)
        clear hsb
        go_enter Tryz.func22, Tryz.ntmps22
        go_wp2
        go_ret
        exact ⟨ret_bool (by rw [HF.out]), Ext.refl _⟩
      · have HF := Lib.hid (show sb = false by rw [hsb, decide_eq_false (show ¬ n ≤ 30 by omega), decide_eq_false (show ¬ n ≤ 202 by omega)]; simp)
        clear hsb
        go_enter Tryz.func22, Tryz.ntmps22
        go_wp2
        go_ret
        exact ⟨ret_bool (by rw [HF.out]), Ext.refl _⟩
    · have HF := Lib.hid (show sb = false by rw [hsb, decide_eq_false (show ¬ n ≤ 30 by omega), decide_eq_false (show ¬ 200 < n by omega)]; rfl)
      clear hsb
      go_enter Tryz.func22, Tryz.ntmps22
      go_wp2
      go_ret
      exact ⟨ret_bool HF.out.symm, Ext.refl _⟩

end Go.Proofs.YtkmekbafjnlfkaaGreat

/- The examples' four hardnesses; GrainsOf. -/

namespace Go.Proofs.YtkmekbafjnlfkaaGreat
open Go.RowKit Go.Shelf Go.Mem Go.RegInv
attribute [local go_sem] RelUpon_value RelUpon_skip RelUpon_enter BigFrame.eval_const BigFrame.eval_global BigFrame.eval_func

set_option maxRecDepth 100000 in
set_option maxHeartbeats 2000000 in
theorem refHard4_any {r : Ru} (A0 A1 A2 A3 : Option Addr) (n0 n1 n2 n3 c0 c1 c2 c3 : Nat) (t : Int) (w : World) (h : rulesE r = 0) (ht : 0 ≤ t ∧ t ≤ 1000000) :
    Calls Tryz.prog 97 #[.agg #[.slice A0 n0 c0, .slice A1 n1 c1, .slice A2 n2 c2, .slice A3 n3 c3, .int .i64 r.h0, .int .i64 r.h1, .int .i64 r.h2, .int .i64 r.h3], .int .i64 t] w fun e w' => e = .returned (.agg #[.int .i64 r.h0, .int .i64 r.h1, .int .i64 r.h2, .int .i64 (max (r.h3 - t) r.h2)]) ∧ Ext w w' := by
  obtain ⟨q0, q1, q2, q3, q4⟩ := rules_hard h
  obtain ⟨t0, t1⟩ := ht
  have HM := Lib.hid (show max r.h2 (r.h3 - t) = max (r.h3 - t) r.h2 from Int.max_comm _ _)
  clear h
  generalize r.h0 = h0 at *
  generalize r.h1 = h1 at *
  generalize r.h2 = h2 at *
  generalize r.h3 = h3 at *
  go_enter Tryz.func97, Tryz.ntmps97
  go_wp2
  rw [HM.out]
  exact bodyPost_ret (v := .agg #[.int .i64 h0, .int .i64 h1, .int .i64 h2, .int .i64 (max (h3 - t) h2)]) (by simp [results, Tryz.f97, go_sem]) rfl
    ⟨rfl, (Ext.alloc _ _).trans (Ext.alloc _ _)⟩
set_option maxRecDepth 100000 in
set_option maxHeartbeats 2000000 in
theorem grainsOf_any {r : Ru} {u : Value} {w : World} (hR : RuV r u w) (s : St) {A : Option Addr} {n ca : Nat} {xs : List Int} (hx : IntsAt w (.slice A n ca) xs) :
    Calls Tryz.prog 27 #[u, .agg #[.int .i64 s.p, .int .i64 s.a, .int .i64 s.b, .int .i64 s.m, .int .i64 s.wt, .int .i64 s.g, .int .i64 s.t], .slice A n ca] w fun e w' => e = .returned (.tuple #[.int .i64 (if runE r s xs (⟨1000, 1000, 1000⟩ : Pk) = 0 then runK r (⟨1000, 1000, 1000⟩ : Pk) s xs else ⟨0, 0, 0, 0, 0, 0, 0⟩).g, .int .i64 (runE r s xs (⟨1000, 1000, 1000⟩ : Pk))]) ∧ Ext w w' := by
  have HR := Lib.hid hR
  obtain ⟨A0, A1, A2, A3, n0, n1, n2, n3, c0, c1, c2, c3, rfl, -⟩ := hR
  obtain ⟨W0, hW0⟩ : ∃ W0, W0 = (w.alloc (.cells #[.slice A0 n0 c0, .slice A1 n1 c1, .slice A2 n2 c2, .slice A3 n3 c3, .int .i64 r.h0, .int .i64 r.h1, .int .i64 r.h2, .int .i64 r.h3] 28)).alloc (.cells #[.int .i64 s.p, .int .i64 s.a, .int .i64 s.b, .int .i64 s.m, .int .i64 s.wt, .int .i64 s.g, .int .i64 s.t] 30) := ⟨_, rfl⟩
  have E0 := Lib.hid (show Ext w W0 by rw [hW0]; exact (Ext.alloc _ _).trans (Ext.alloc _ _))
  have HC := Lib.hid (runOf_any (HR.out.ext E0.out) rulesOK s (⟨1000, 1000, 1000⟩ : Pk) (hx.ext E0.out))
  generalize runE r s xs (⟨1000, 1000, 1000⟩ : Pk) = ez at HC ⊢
  obtain ⟨fz, hfz⟩ : ∃ fz, fz = if ez = 0 then runK r (⟨1000, 1000, 1000⟩ : Pk) s xs else ⟨0, 0, 0, 0, 0, 0, 0⟩ := ⟨_, rfl⟩
  rw [← hfz] at HC
  rw [← hfz]
  clear hfz HR hx
  go_enter Tryz.func27, Tryz.ntmps27
  go_wp2_with (go_at_call 24; rw [← hW0]; refine HC.out.mono ?_; rintro e W2 ⟨rfl, hx⟩; have X2 := Lib.hid hx; clear hx)
  go_ret2
  exact ⟨rfl, (E0.out.trans X2.out).trans (Ext.alloc _ _)⟩

end Go.Proofs.YtkmekbafjnlfkaaGreat

/- The examples' hardness. -/

namespace Go.Proofs.YtkmekbafjnlfkaaGreat
open Go.RowKit Go.Shelf Go.Mem Go.RegInv
attribute [local go_sem] RelUpon_value RelUpon_skip RelUpon_enter BigFrame.eval_const BigFrame.eval_global BigFrame.eval_func

set_option maxRecDepth 100000 in
set_option maxHeartbeats 4000000 in
theorem refHardness_any {r : Ru} (A0 A1 A2 A3 : Option Addr) (n0 n1 n2 n3 c0 c1 c2 c3 : Nat) {s : St} (w : World) (h : rulesE r = 0) (hs : StK s) :
    Calls Tryz.prog 29 #[.agg #[.slice A0 n0 c0, .slice A1 n1 c1, .slice A2 n2 c2, .slice A3 n3 c3, .int .i64 r.h0, .int .i64 r.h1, .int .i64 r.h2, .int .i64 r.h3], .agg #[.int .i64 s.p, .int .i64 s.a, .int .i64 s.b, .int .i64 s.m, .int .i64 s.wt, .int .i64 s.g, .int .i64 s.t]] w fun e w' => e = .returned (.int .i64 (hardK r.h0 r.h1 r.h2 r.h3 s.p s.a s.b s.m s.t)) ∧ Ext w w' := by
  obtain ⟨q0, q1, q2, q3, q4⟩ := rules_hard h
  have HC := Lib.hid (fun W => refHard4_any A0 A1 A2 A3 n0 n1 n2 n3 c0 c1 c2 c3 s.t W h hs.ht)
  have hp := hs.hp
  have ha := hs.ha
  have hb := hs.hb
  have hm := hs.hm
  have ht := hs.ht
  obtain ⟨mx, hmx⟩ : ∃ mx, mx = max (r.h3 - s.t) r.h2 := ⟨_, rfl⟩
  have m1 : 0 ≤ mx ∧ mx ≤ 2000 := by omega
  obtain ⟨p00, p01⟩ := mul_bd hp.1 hp.2 q0 (show r.h0 ≤ 2000 by omega)
  obtain ⟨p10, p11⟩ := mul_bd ha.1 ha.2 (show 0 ≤ r.h1 by omega) (show r.h1 ≤ 2000 by omega)
  obtain ⟨p20, p21⟩ := mul_bd hb.1 hb.2 (show 0 ≤ r.h2 by omega) (show r.h2 ≤ 2000 by omega)
  obtain ⟨p30, p31⟩ := mul_bd hm.1 hm.2 m1.1 m1.2
  have HK := Lib.hid (show hardK r.h0 r.h1 r.h2 r.h3 s.p s.a s.b s.m s.t = (s.p * r.h0 + s.a * r.h1 + s.b * r.h2 + s.m * mx) / 1000000 by rw [hmx]; rfl)
  generalize hardK r.h0 r.h1 r.h2 r.h3 s.p s.a s.b s.m s.t = z at HK ⊢
  rw [← hmx] at HC
  obtain ⟨W0, hW0⟩ : ∃ W0, W0 = (w.alloc (.cells #[.slice A0 n0 c0, .slice A1 n1 c1, .slice A2 n2 c2, .slice A3 n3 c3, .int .i64 r.h0, .int .i64 r.h1, .int .i64 r.h2, .int .i64 r.h3] 28)).alloc (.cells #[.int .i64 s.p, .int .i64 s.a, .int .i64 s.b, .int .i64 s.m, .int .i64 s.wt, .int .i64 s.g, .int .i64 s.t] 30) := ⟨_, rfl⟩
  have K1 := Lib.hid (show Blk W0 (w.heap.size + 1) 30 #[.int .i64 s.p, .int .i64 s.a, .int .i64 s.b, .int .i64 s.m, .int .i64 s.wt, .int .i64 s.g, .int .i64 s.t] by rw [hW0]; exact Blk.newAt _ _ _ (by simp))
  have E0 := Lib.hid (show Ext w W0 by rw [hW0]; exact (Ext.alloc _ _).trans (Ext.alloc _ _))
  clear h hs hmx m1 q1 q2 q3 q4 q0 hp ha hb hm ht
  go_enter Tryz.func29, Tryz.ntmps29
  go_wp2_with (go_at_call 97; rw [← hW0]; refine (HC.out _).mono ?_; rintro e W1 ⟨rfl, hx⟩; have X1 := Lib.hid hx; clear hx hW0; refine Hid.out ?_)
  refine Lib.hid ?_
  have x0 : ∀ o, (W1.alloc o).cell? ⟨w.heap.size + 1, 0, none⟩ = some (.int .i64 s.p) := fun o => ((K1.out.ext X1.out).alloc o).cell 0
  have x1 : ∀ o, (W1.alloc o).cell? ⟨w.heap.size + 1, 1, none⟩ = some (.int .i64 s.a) := fun o => ((K1.out.ext X1.out).alloc o).cell 1
  have x2 : ∀ o, (W1.alloc o).cell? ⟨w.heap.size + 1, 2, none⟩ = some (.int .i64 s.b) := fun o => ((K1.out.ext X1.out).alloc o).cell 2
  have x3 : ∀ o, (W1.alloc o).cell? ⟨w.heap.size + 1, 3, none⟩ = some (.int .i64 s.m) := fun o => ((K1.out.ext X1.out).alloc o).cell 3
  generalize r.h0 = h0 at *
  generalize r.h1 = h1 at *
  generalize r.h2 = h2 at *
  generalize s.p = sp at *
  generalize s.a = sa at *
  generalize s.b = sb at *
  generalize s.m = sm at *
  go_wp2
  go_ret
  exact ⟨ret_int HK.out.symm, (E0.out.trans X1.out).trans (Ext.alloc _ _)⟩

end Go.Proofs.YtkmekbafjnlfkaaGreat

/- On valid rules both readings find the same knots. -/

namespace Go.Proofs.YtkmekbafjnlfkaaGreat
open Go.RowKit Go.Shelf Go.Mem Go.RegInv
attribute [local go_sem] RelUpon_value RelUpon_skip RelUpon_enter BigFrame.eval_const BigFrame.eval_global BigFrame.eval_func

theorem idxF_spec {α : Type} (p : α → Bool) : ∀ (xs : List α) (k : Nat), (idxF p xs k = -1 ∧ ∀ (i : Nat) (y : α), xs[i]? = some y → p y = false) ∨ ∃ (j : Nat) (x : α), idxF p xs k = ((k + j : Nat) : Int) ∧ xs[j]? = some x ∧ p x = true ∧ ∀ (i : Nat) (y : α), i < j → xs[i]? = some y → p y = false
  | [], _ => .inl ⟨rfl, fun i y h => by simp at h⟩
  | x :: l, k => by
    cases hp : p x with
    | true => exact .inr ⟨0, x, by rw [idxF, if_pos hp]; rfl, rfl, hp, fun i y h => by omega⟩
    | false =>
      rw [idxF, if_neg (by simp [hp])]
      rcases idxF_spec p l (k + 1) with ⟨h1, h2⟩ | ⟨j, y, h1, h2, h3, h4⟩
      · refine .inl ⟨h1, fun i y h => ?_⟩
        rcases i with _ | i
        · obtain rfl : x = y := by simpa using h
          exact hp
        · exact h2 i y (by simpa using h)
      · refine .inr ⟨j + 1, y, by rw [h1]; congr 1; omega, by simpa using h2, h3, fun i y' hi h => ?_⟩
        rcases i with _ | i
        · obtain rfl : x = y' := by simpa using h
          exact hp
        · exact h4 i y' (by omega) (by simpa using h)
theorem lastLe_at {α : Type} {f : α → Bool} {xs : List α} {m : Nat} (h1 : ∀ (i : Nat) (y : α), i < m → xs[i]? = some y → f y = true) (h2 : ∀ (i : Nat) (y : α), m ≤ i → xs[i]? = some y → f y = false) : ∀ {n : Nat}, m ≤ n → n ≤ xs.length → lastLe f xs n = (m : Int) - 1
  | 0, hm, _ => by
    obtain rfl : m = 0 := by omega
    rfl
  | n + 1, hm, hn => by
    have hx : xs[n]? = some xs[n] := List.getElem?_eq_getElem (by omega)
    by_cases h : m = n + 1
    · rw [lastLe_yes hx (h1 n _ (by omega) hx)]
      omega
    · rw [lastLe_no hx (h2 n _ (by omega) hx)]
      exact lastLe_at h1 h2 (by omega) (by omega)
theorem asc_lt {α : Type} {k : α → Int} {xs : List α} (h : ∀ (i : Nat) (y x : α), xs[i]? = some y → xs[i + 1]? = some x → k y < k x) : ∀ {j : Nat} {i : Nat} {y x : α}, i < j → xs[i]? = some y → xs[j]? = some x → k y < k x
  | 0, _, _, _, hi, _, _ => by omega
  | j + 1, i, y, x, hi, hy, hx => by
    by_cases he : i = j
    · subst he; exact h i y x hy hx
    · have hj : j < xs.length := by have := (List.getElem?_eq_some_iff.1 hx).1; omega
      have hz : xs[j]? = some xs[j] := List.getElem?_eq_getElem hj
      have a := asc_lt h (show i < j by omega) hy hz
      have b := h j _ _ hz hx
      omega
/-- On ascending knots the last one at most at a temperature stands before the first one above it. -/
theorem lastLe_lastK {α : Type} {k : α → Int} {xs : List α} {n : Nat} (hn : xs.length = n) (h : ∀ (i : Nat) (y x : α), xs[i]? = some y → xs[i + 1]? = some x → k y < k x) (x : Int) : lastLe (fun y => decide (k y ≤ x)) xs n = lastK k x xs := by
  subst hn
  unfold lastK
  rcases idxF_spec (aboveP k x) xs 0 with ⟨h1, h2⟩ | ⟨j, u, h1, h2, h3, h4⟩
  · rw [h1, if_neg (by decide)]
    refine lastLe_at (m := xs.length) (fun i y _ hy => ?_) (fun i y hi hy => ?_) (Nat.le_refl _) (Nat.le_refl _)
    · have := h2 i y hy
      simp only [aboveP, decide_eq_false_iff_not] at this
      exact decide_eq_true (by omega)
    · have := (List.getElem?_eq_some_iff.1 hy).1; omega
  · rw [h1, if_pos (by omega), Nat.zero_add]
    have hj := (List.getElem?_eq_some_iff.1 h2).1
    refine lastLe_at (m := j) (fun i y hi hy => ?_) (fun i y hi hy => ?_) (by omega) (Nat.le_refl _)
    · have := h4 i y hi hy
      simp only [aboveP, decide_eq_false_iff_not] at this
      exact decide_eq_true (by omega)
    · have hu : x < k u := by simpa [aboveP] using h3
      rcases Nat.eq_or_lt_of_le hi with he | hl
      · subst he
        obtain rfl : u = y := by have := h2.symm.trans hy; simpa using this
        exact decide_eq_false (by omega)
      · have := asc_lt h hl h2 hy
        exact decide_eq_false (by omega)
theorem knot_asc {α : Type} {kn : α → Kn} {fol : Kn → Kn → Bool} (hf : ∀ a b, fol a b = true → a.k < b.k) {xs : List α} (h : (firstAt (knotE kn fol xs) xs.length 0).2 = 0) (i : Nat) (y x : α) (hy : xs[i]? = some y) (hx : xs[i + 1]? = some x) : (kn y).k < (kn x).k := by
  have hl := (List.getElem?_eq_some_iff.1 hx).1
  have h1 := firstAt_zero h (i + 1) (by omega) (by omega)
  unfold knotE at h1
  rw [hx] at h1
  dsimp only at h1
  have h2 := firstE_zero h1 _ (List.mem_cons_of_mem _ (List.mem_cons_self))
  rw [show i + 1 - 1 = i by omega, hy] at h2
  dsimp only at h2
  have h3 := errIf_zero h2 (by decide)
  exact hf _ _ (by simpa using h3)
theorem rules_asc {r : Ru} (h : rulesE r = 0) : (∀ (i : Nat) (y x : HK), r.hs[i]? = some y → r.hs[i + 1]? = some x → y.k < x.k) ∧ (∀ (i : Nat) (y x : TK), r.ts[i]? = some y → r.ts[i + 1]? = some x → y.k < x.k) := by
  have hz : ∀ p ∈ [(0, errIf (decide (8 < mostR r)) 8), firstAt (knotE HK.kn risingK r.hs) r.hs.length 0, firstAt (knotE CK.kn laterK r.cs) r.cs.length 0, firstAt (knotE DK.kn fallingK r.ds) r.ds.length 0, firstAt (knotE TK.kn laterK r.ts) r.ts.length 0, (0, clashK r), (0, hardE r.h0 r.h1 r.h2 r.h3)], p.2 = 0 := firstFlt_zero h
  have h1 := hz (firstAt (knotE HK.kn risingK r.hs) r.hs.length 0) (by simp)
  have h4 := hz (firstAt (knotE TK.kn laterK r.ts) r.ts.length 0) (by simp)
  refine ⟨fun i y x hy hx => knot_asc (kn := HK.kn) (fun a b hab => ?_) h1 i y x hy hx, fun i y x hy hx => knot_asc (kn := TK.kn) (fun a b hab => ?_) h4 i y x hy hx⟩
  · unfold risingK laterK at hab
    simp only [Bool.and_eq_true, decide_eq_true_eq] at hab
    exact hab.1
  · unfold laterK at hab
    simpa using hab

end Go.Proofs.YtkmekbafjnlfkaaGreat

