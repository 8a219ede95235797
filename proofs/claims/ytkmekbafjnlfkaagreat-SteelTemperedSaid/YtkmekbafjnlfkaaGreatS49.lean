/- HeatAt, CoolAt and ColdAt. -/
import Derived.Test.YtkmekbafjnlfkaaGreatS45

namespace Go.Proofs.YtkmekbafjnlfkaaGreat
open Go.RowKit Go.Shelf Go.Mem Go.RegInv
attribute [local go_sem] RelUpon_value RelUpon_skip RelUpon_enter BigFrame.eval_const BigFrame.eval_global BigFrame.eval_func

/-- The last index below j at which f holds, or -1. -/
def lastLe {α : Type} (f : α → Bool) (xs : List α) : Nat → Int
  | 0 => -1
  | j + 1 => match xs[j]? with | some x => if f x = true then (j : Int) else lastLe f xs j | none => lastLe f xs j
theorem lastLe_succ {α : Type} {f : α → Bool} {xs : List α} {j : Nat} {x : α} (h : xs[j]? = some x) : lastLe f xs (j + 1) = if f x = true then (j : Int) else lastLe f xs j := by
  show (match xs[j]? with | some x => if f x = true then (j : Int) else lastLe f xs j | none => lastLe f xs j) = _
  rw [h]
theorem lastLe_yes {α : Type} {f : α → Bool} {xs : List α} {j : Nat} {x : α} (h : xs[j]? = some x) (hf : f x = true) : lastLe f xs (j + 1) = (j : Int) := by rw [lastLe_succ h, if_pos hf]
theorem lastLe_no {α : Type} {f : α → Bool} {xs : List α} {j : Nat} {x : α} (h : xs[j]? = some x) (hf : f x = false) : lastLe f xs (j + 1) = lastLe f xs j := by rw [lastLe_succ h, if_neg (by simp [hf])]
theorem lastLe_none {α : Type} {f : α → Bool} {xs : List α} : ∀ {n : Nat}, lastLe f xs n < 0 → ∀ j x, j < n → xs[j]? = some x → f x = false
  | 0, _, j, _, hj, _ => by omega
  | n + 1, h, j, x, hj, hx => by
    by_cases hjn : j = n
    · subst hjn
      rw [lastLe_succ hx] at h
      cases hf : f x
      · rfl
      · rw [if_pos hf] at h; omega
    · have h2 : lastLe f xs n < 0 := by
        cases hn : xs[n]? with
        | none =>
          have : lastLe f xs (n + 1) = lastLe f xs n := by
            show (match xs[n]? with | some x => if f x = true then (n : Int) else lastLe f xs n | none => lastLe f xs n) = _
            rw [hn]
          omega
        | some y =>
          rw [lastLe_succ hn] at h
          split at h
          · omega
          · exact h
      exact lastLe_none h2 j x (by omega) hx

set_option maxRecDepth 100000 in
set_option maxHeartbeats 1000000 in
theorem heatAt_any {r : Ru} {A0 A1 A2 A3 : Option Addr} {n0 n1 n2 n3 c0 c1 c2 c3 : Nat} {w : World} (h : RuAt w r A0 A1 A2 A3 n0 n1 n2 n3) (kelvin : Int) :
    Calls Tryz.prog 65 #[.agg #[.slice A0 n0 c0, .slice A1 n1 c1, .slice A2 n2 c2, .slice A3 n3 c3, .int .i64 r.h0, .int .i64 r.h1, .int .i64 r.h2, .int .i64 r.h3], .int .i64 kelvin] w fun e w' => e = .returned (.int .i64 (lastLe (fun x : HK => decide (x.k ≤ kelvin)) r.hs n0)) ∧ Ext w w' := by
  obtain ⟨W0, hW0⟩ : ∃ W0, W0 = w.alloc (.cells #[.slice A0 n0 c0, .slice A1 n1 c1, .slice A2 n2 c2, .slice A3 n3 c3, .int .i64 r.h0, .int .i64 r.h1, .int .i64 r.h2, .int .i64 r.h3] 28) := ⟨_, rfl⟩
  have K0 := Lib.hid (show Blk W0 w.heap.size 28 #[.slice A0 n0 c0, .slice A1 n1 c1, .slice A2 n2 c2, .slice A3 n3 c3, .int .i64 r.h0, .int .i64 r.h1, .int .i64 r.h2, .int .i64 r.h3] by rw [hW0]; exact Blk.new _ _ _)
  have E0 := Lib.hid (show Ext w W0 by rw [hW0]; exact Ext.alloc _ _)
  have hnb : n0 ≤ 1152921504606846976 := by have := h.r0.1; have := h.l0; omega
  have H := Lib.hid (h.ext E0.out)
  clear h
  go_enter Tryz.func65, Tryz.ntmps65
  go_wp2
  rw [← hW0]
  clear hW0
  go_loopw [5, 6] (fun a i wr => ∃ j : Nat, j ≤ n0 ∧ i = .int .i64 j ∧ a = .int .i64 (lastLe (fun x : HK => decide (x.k ≤ kelvin)) r.hs j) ∧ Ext W0 wr) (fun _ i _ => n0 - (intOf i).toNat)
  case atStart => exact ⟨0, Nat.zero_le _, rfl, rfl, Ext.refl _⟩
  case round =>
    obtain ⟨j, hj, rfl, rfl, hx⟩ := hrel
    have HX := Lib.hid hx
    clear hx
    have y0 : wr.cell? ⟨w.heap.size, 0, none⟩ = some (.slice A0 n0 c0) := (K0.out.ext HX.out).cell 0
    by_cases hlt : j < n0
    · obtain ⟨x, hg⟩ : ∃ x, r.hs[j]? = some x := ⟨_, List.getElem?_eq_getElem (by rw [H.out.l0]; exact hlt)⟩
      have HG := Lib.hid hg
      obtain ⟨b, o, hAe, hb, hc⟩ := H.out.r0.2 j x hg
      subst hAe
      have q0 : wr.cell? ⟨b, o + j * 4, none⟩ = some (.int .i64 x.k) := HX.out.cell (hc 0 _ rfl)
      have hji : (j : Int) < (n0 : Int) := by omega
      clear hc hb hg
      by_cases hk : x.k ≤ kelvin
      · have HL := Lib.hid (lastLe_yes (f := fun x : HK => decide (x.k ≤ kelvin)) HG.out (decide_eq_true hk))
        go_wp2
        go_roundw
        case rel => exact ⟨j + 1, by omega, by go_num, by rw [HL.out], HX.out⟩
        case measure => simp [intOf]; omega
      · have HL := Lib.hid (lastLe_no (f := fun x : HK => decide (x.k ≤ kelvin)) HG.out (decide_eq_false hk))
        go_wp2
        go_roundw
        case rel => exact ⟨j + 1, by omega, by go_num, by rw [HL.out], HX.out⟩
        case measure => simp [intOf]; omega
    · obtain rfl : n0 = j := by omega
      go_wp2
      go_ret
      exact ⟨rfl, E0.out.trans HX.out⟩

set_option maxRecDepth 100000 in
set_option maxHeartbeats 1000000 in
theorem coolAt_any {r : Ru} {A0 A1 A2 A3 : Option Addr} {n0 n1 n2 n3 c0 c1 c2 c3 : Nat} {w : World} (h : RuAt w r A0 A1 A2 A3 n0 n1 n2 n3) (kelvin : Int) :
    Calls Tryz.prog 66 #[.agg #[.slice A0 n0 c0, .slice A1 n1 c1, .slice A2 n2 c2, .slice A3 n3 c3, .int .i64 r.h0, .int .i64 r.h1, .int .i64 r.h2, .int .i64 r.h3], .int .i64 kelvin] w fun e w' => e = .returned (.int .i64 (firstK CK.k kelvin r.cs)) ∧ Ext w w' := by
  obtain ⟨W0, hW0⟩ : ∃ W0, W0 = w.alloc (.cells #[.slice A0 n0 c0, .slice A1 n1 c1, .slice A2 n2 c2, .slice A3 n3 c3, .int .i64 r.h0, .int .i64 r.h1, .int .i64 r.h2, .int .i64 r.h3] 28) := ⟨_, rfl⟩
  have K0 := Lib.hid (show Blk W0 w.heap.size 28 #[.slice A0 n0 c0, .slice A1 n1 c1, .slice A2 n2 c2, .slice A3 n3 c3, .int .i64 r.h0, .int .i64 r.h1, .int .i64 r.h2, .int .i64 r.h3] by rw [hW0]; exact Blk.new _ _ _)
  have E0 := Lib.hid (show Ext w W0 by rw [hW0]; exact Ext.alloc _ _)
  have hnb : n1 ≤ 1152921504606846976 := by have := h.r1.1; have := h.l1; omega
  have H := Lib.hid (h.ext E0.out)
  clear h
  have HV := Lib.hid (show firstK CK.k kelvin r.cs = idxF (fromP CK.k kelvin) (r.cs.drop 0) 0 from rfl)
  generalize firstK CK.k kelvin r.cs = z at HV ⊢
  go_enter Tryz.func66, Tryz.ntmps66
  go_wp2
  rw [← hW0]
  clear hW0
  go_loopw [5] (fun i wr => ∃ j : Nat, j ≤ n1 ∧ i = .int .i64 j ∧ z = idxF (fromP CK.k kelvin) (r.cs.drop j) j ∧ Ext W0 wr) (fun i _ => n1 - (intOf i).toNat)
  case atStart => exact ⟨0, Nat.zero_le _, rfl, HV.out, Ext.refl _⟩
  case round =>
    obtain ⟨j, hj, rfl, hr, hx⟩ := hrel
    have HR := Lib.hid hr
    clear hr
    have HX := Lib.hid hx
    clear hx
    have y0 : wr.cell? ⟨w.heap.size, 1, none⟩ = some (.slice A1 n1 c1) := (K0.out.ext HX.out).cell 1
    by_cases hlt : j < n1
    · obtain ⟨x, hg⟩ : ∃ x, r.cs[j]? = some x := ⟨_, List.getElem?_eq_getElem (by rw [H.out.l1]; exact hlt)⟩
      have HG := Lib.hid hg
      obtain ⟨b, o, hAe, hb, hc⟩ := H.out.r1.2 j x hg
      subst hAe
      have q0 : wr.cell? ⟨b, o + j * 5, none⟩ = some (.int .i64 x.k) := HX.out.cell (hc 0 _ rfl)
      have hji : (j : Int) < (n1 : Int) := by omega
      clear hc hb hg
      have HD := Lib.hid (idxF_drop (fromP CK.k kelvin) r.cs j x HG.out)
      by_cases hk : kelvin ≤ x.k
      · have HZ := Lib.hid (show z = (j : Int) by rw [HR.out, HD.out, if_pos (by simp [fromP, hk])])
        go_wp2
        go_ret
        exact ⟨ret_int HZ.out.symm, E0.out.trans HX.out⟩
      · have HZ := Lib.hid (show z = idxF (fromP CK.k kelvin) (r.cs.drop (j + 1)) (j + 1) by rw [HR.out, HD.out, if_neg (by simp [fromP, hk])])
        go_wp2
        go_roundw
        case rel => exact ⟨j + 1, by omega, by go_num, HZ.out, HX.out⟩
        case measure => simp [intOf]; omega
    · obtain rfl : n1 = j := by omega
      have HZ := Lib.hid (show z = -1 by rw [HR.out, List.drop_of_length_le (by rw [H.out.l1]; exact Nat.le_refl _)]; rfl)
      go_wp2
      go_ret
      exact ⟨ret_int HZ.out.symm, E0.out.trans HX.out⟩

set_option maxRecDepth 100000 in
set_option maxHeartbeats 1000000 in
theorem coldAt_any {r : Ru} {A0 A1 A2 A3 : Option Addr} {n0 n1 n2 n3 c0 c1 c2 c3 : Nat} {w : World} (h : RuAt w r A0 A1 A2 A3 n0 n1 n2 n3) (kelvin : Int) :
    Calls Tryz.prog 67 #[.agg #[.slice A0 n0 c0, .slice A1 n1 c1, .slice A2 n2 c2, .slice A3 n3 c3, .int .i64 r.h0, .int .i64 r.h1, .int .i64 r.h2, .int .i64 r.h3], .int .i64 kelvin] w fun e w' => e = .returned (.int .i64 (firstK DK.k kelvin r.ds)) ∧ Ext w w' := by
  obtain ⟨W0, hW0⟩ : ∃ W0, W0 = w.alloc (.cells #[.slice A0 n0 c0, .slice A1 n1 c1, .slice A2 n2 c2, .slice A3 n3 c3, .int .i64 r.h0, .int .i64 r.h1, .int .i64 r.h2, .int .i64 r.h3] 28) := ⟨_, rfl⟩
  have K0 := Lib.hid (show Blk W0 w.heap.size 28 #[.slice A0 n0 c0, .slice A1 n1 c1, .slice A2 n2 c2, .slice A3 n3 c3, .int .i64 r.h0, .int .i64 r.h1, .int .i64 r.h2, .int .i64 r.h3] by rw [hW0]; exact Blk.new _ _ _)
  have E0 := Lib.hid (show Ext w W0 by rw [hW0]; exact Ext.alloc _ _)
  have hnb : n2 ≤ 1152921504606846976 := by have := h.r2.1; have := h.l2; omega
  have H := Lib.hid (h.ext E0.out)
  clear h
  have HV := Lib.hid (show firstK DK.k kelvin r.ds = idxF (fromP DK.k kelvin) (r.ds.drop 0) 0 from rfl)
  generalize firstK DK.k kelvin r.ds = z at HV ⊢
  go_enter Tryz.func67, Tryz.ntmps67
  go_wp2
  rw [← hW0]
  clear hW0
  go_loopw [5] (fun i wr => ∃ j : Nat, j ≤ n2 ∧ i = .int .i64 j ∧ z = idxF (fromP DK.k kelvin) (r.ds.drop j) j ∧ Ext W0 wr) (fun i _ => n2 - (intOf i).toNat)
  case atStart => exact ⟨0, Nat.zero_le _, rfl, HV.out, Ext.refl _⟩
  case round =>
    obtain ⟨j, hj, rfl, hr, hx⟩ := hrel
    have HR := Lib.hid hr
    clear hr
    have HX := Lib.hid hx
    clear hx
    have y0 : wr.cell? ⟨w.heap.size, 2, none⟩ = some (.slice A2 n2 c2) := (K0.out.ext HX.out).cell 2
    by_cases hlt : j < n2
    · obtain ⟨x, hg⟩ : ∃ x, r.ds[j]? = some x := ⟨_, List.getElem?_eq_getElem (by rw [H.out.l2]; exact hlt)⟩
      have HG := Lib.hid hg
      obtain ⟨b, o, hAe, hb, hc⟩ := H.out.r2.2 j x hg
      subst hAe
      have q0 : wr.cell? ⟨b, o + j * 3, none⟩ = some (.int .i64 x.k) := HX.out.cell (hc 0 _ rfl)
      have hji : (j : Int) < (n2 : Int) := by omega
      clear hc hb hg
      have HD := Lib.hid (idxF_drop (fromP DK.k kelvin) r.ds j x HG.out)
      by_cases hk : kelvin ≤ x.k
      · have HZ := Lib.hid (show z = (j : Int) by rw [HR.out, HD.out, if_pos (by simp [fromP, hk])])
        go_wp2
        go_ret
        exact ⟨ret_int HZ.out.symm, E0.out.trans HX.out⟩
      · have HZ := Lib.hid (show z = idxF (fromP DK.k kelvin) (r.ds.drop (j + 1)) (j + 1) by rw [HR.out, HD.out, if_neg (by simp [fromP, hk])])
        go_wp2
        go_roundw
        case rel => exact ⟨j + 1, by omega, by go_num, HZ.out, HX.out⟩
        case measure => simp [intOf]; omega
    · obtain rfl : n2 = j := by omega
      have HZ := Lib.hid (show z = -1 by rw [HR.out, List.drop_of_length_le (by rw [H.out.l2]; exact Nat.le_refl _)]; rfl)
      go_wp2
      go_ret
      exact ⟨ret_int HZ.out.symm, E0.out.trans HX.out⟩

end Go.Proofs.YtkmekbafjnlfkaaGreat
