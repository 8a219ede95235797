/- The references of shafts. -/
import Derived.Test.YtjdilmmpdlcimaaE1
import Derived.Test.YtjdilmmpdlcimaaE3
import Derived.Lib.MinMax
import Derived.Deep.DeepCutAuto
import Derived.BigQuiet

namespace Go.Proofs.Ytjdilmmpdlcimaa
open Go.RowKit Go.Shelf Go.Mem Go.RegInv
attribute [local go_sem] RelUpon_value RelUpon_skip RelUpon_enter BigFrame.eval_const BigFrame.eval_global BigFrame.eval_func


def few2 (n m : Nat) : Bool := decide (n ≤ 6) && decide (m ≤ 6)
set_option maxRecDepth 100000 in
set_option maxHeartbeats 1000000 in
theorem few_any {L : Int} {J K : Option Addr} {n m cj ck : Nat} (w : World) (hn0 : n ≤ maxLen) (hm0 : m ≤ maxLen) :
    Calls Try.prog 14 #[.agg #[.int .i64 L, .slice J n cj, .slice K m ck]] w fun e w' => e = .returned (.bool (few2 n m)) ∧ Ext w w' := by
  have hn : n ≤ 9223372036854775807 := hn0
  have hm : m ≤ 9223372036854775807 := hm0
  clear hn0 hm0
  obtain ⟨W0, hW0⟩ : ∃ W0, W0 = w.alloc (.cells #[.int .i64 L, .slice J n cj, .slice K m ck] 25) := ⟨_, rfl⟩
  have K0 := Lib.hid (show Blk W0 (w.heap.size) 25 #[.int .i64 L, .slice J n cj, .slice K m ck] by rw [hW0]; exact Blk.new _ _ _)
  have E0 := Lib.hid (show Ext w W0 by rw [hW0]; exact Ext.alloc _ _)
  have y0_0 : W0.cell? ⟨w.heap.size, 0, none⟩ = some (.int .i64 L) := K0.out.cell 0
  have y0_1 : W0.cell? ⟨w.heap.size, 1, none⟩ = some (.slice J n cj) := K0.out.cell 1
  have y0_2 : W0.cell? ⟨w.heap.size, 2, none⟩ = some (.slice K m ck) := K0.out.cell 2
  by_cases h1 : n ≤ 6
  · by_cases h2 : m ≤ 6
    · have d1 : decide ((n : Int) ≤ (6 : Int)) = true := by simp; omega
      have d2 : decide ((m : Int) ≤ (6 : Int)) = true := by simp; omega
      have HV := Lib.hid (show few2 n m = true by simp [few2, h1, h2])
      clear h1 h2
      go_enter Try.func14, Try.ntmps14
      go_upto_region 1 with (fail)
      rw [← hW0]
      clear hW0
      go_wp2
      go_ret
      exact ⟨ret_bool HV.out.symm, E0.out⟩
    · have d1 : decide ((n : Int) ≤ (6 : Int)) = true := by simp; omega
      have d2 : decide ((m : Int) ≤ (6 : Int)) = false := by simp; omega
      have HV := Lib.hid (show few2 n m = false by simp [few2, h2])
      clear h1 h2
      go_enter Try.func14, Try.ntmps14
      go_upto_region 1 with (fail)
      rw [← hW0]
      clear hW0
      go_wp2
      go_ret
      exact ⟨ret_bool HV.out.symm, E0.out⟩
  · have d1 : decide ((n : Int) ≤ (6 : Int)) = false := by simp; omega
    have HV := Lib.hid (show few2 n m = false by simp [few2, h1])
    clear h1
    go_enter Try.func14, Try.ntmps14
    go_upto_region 1 with (fail)
    rw [← hW0]
    clear hW0
    go_wp2
    go_ret
    exact ⟨ret_bool HV.out.symm, E0.out⟩
theorem refTolE_any (t : Int) (w : World) : Calls Try.prog 25 #[.int .i64 t] w fun e w' => e = .returned (.int .i64 (tolE t)) ∧ Ext w w' := by
  have HWI := Lib.hid (fun W => within_any t 0 1000000000000 W)
  have HT := Lib.hid (show tolE t = if 0 ≤ t ∧ t ≤ 1000000000000 then 0 else 2 from rangeE_one _ _ _)
  generalize tolE t = z at *
  by_cases h : 0 ≤ t ∧ t ≤ 1000000000000
  · rw [withinB_t h] at HWI
    rw [if_pos h] at HT
    clear h
    go_enter Try.func25, Try.ntmps25
    go_wp2_with (go_at_call 21; refine (HWI.out _).mono ?_; rintro e w' ⟨rfl, rfl⟩)
    go_ret
    exact ⟨ret_int HT.out.symm, Ext.refl _⟩
  · rw [withinB_f h] at HWI
    rw [if_neg h] at HT
    clear h
    go_enter Try.func25, Try.ntmps25
    go_wp2_with (go_at_call 21; refine (HWI.out _).mono ?_; rintro e w' ⟨rfl, rfl⟩)
    go_ret
    exact ⟨ret_int HT.out.symm, Ext.refl _⟩
theorem refShaftErr_any {L : Int} {J K : Option Addr} {n m cj ck : Nat} {js : List Int} {ks : List Rg} {w : World} (hn : js.length = n) (hJ : RowsAt 1 I1 w J js) (hm : ks.length = m) (hK : RowsAt 2 Rg.enc w K ks) :
    Calls Try.prog 27 #[.agg #[.int .i64 L, .slice J n cj, .slice K m ck]] w fun e w' => e = .returned (.int .i64 (checkS L js ks).2) ∧ Ext w w' := by
  have HC := Lib.hid (fun W (e : Ext w W) => refCheckShaft_any (cj := cj) (ck := ck) (L := L) hn (hJ.ext e) hm (hK.ext e))
  clear hn hJ hm hK
  go_enter Try.func27, Try.ntmps27
  go_wp2_with (go_at_call 20; refine (HC.out _ (Ext.alloc _ _)).mono ?_; rintro e W1 ⟨rfl, hx⟩; have X1 := Lib.hid ((Ext.alloc _ _).trans hx); clear hx)
  go_ret
  exact ⟨rfl, X1.out⟩
set_option maxRecDepth 100000 in
set_option maxHeartbeats 1000000 in
theorem refStraight_any {L : Int} {J K : Option Addr} {n cj ck : Nat} {js : List Int} {ks : List Rg} {w : World} (hn : js.length = n) (hJ : RowsAt 1 I1 w J js) (hm : ks.length = n) (hK : RowsAt 2 Rg.enc w K ks) {t : Int} (hs : ShOK L js ks) (ht : 0 ≤ t ∧ t ≤ 1000000000000) :
    Calls Try.prog 26 #[.agg #[.int .i64 L, .slice J n cj, .slice K n ck], .int .i64 t] w fun e w' => e = .returned (.int .i64 (straightV t L js ks)) ∧ Ext w w' := by
  have HD := Lib.hid (fun W (e : Ext w W) => refDeflections_any (cj := cj) (ck := ck) hn (hJ.ext e) hm (hK.ext e) hs)
  have HV := Lib.hid (show straightV t L js ks = strF t (deflAt L js ks) n 0 2 by rw [← hn]; rfl)
  have HLL := Lib.hid (deflL_len L js ks n)
  have HLG := Lib.hid (fun k (hk : k < n) => show (deflL L js ks n).getD k default = deflAt L js ks k by simp [deflL, hk])
  have h4 : n ≤ 4 := by have := hs.four; omega
  generalize straightV t L js ks = sv at *
  generalize deflL L js ks n = dl at *
  generalize deflAt L js ks = D at *
  clear hn hJ hm hK hs
  obtain ⟨W0, hW0⟩ : ∃ W0, W0 = w.alloc (.cells #[.int .i64 L, .slice J n cj, .slice K n ck] 25) := ⟨_, rfl⟩
  have K0 := Lib.hid (show Blk W0 (w.heap.size) 25 #[.int .i64 L, .slice J n cj, .slice K n ck] by rw [hW0]; exact Blk.new _ _ _)
  have E0 := Lib.hid (show Ext w W0 by rw [hW0]; exact Ext.alloc _ _)
  have y0_0 : W0.cell? ⟨w.heap.size, 0, none⟩ = some (.int .i64 L) := K0.out.cell 0
  have y0_1 : W0.cell? ⟨w.heap.size, 1, none⟩ = some (.slice J n cj) := K0.out.cell 1
  have y0_2 : W0.cell? ⟨w.heap.size, 2, none⟩ = some (.slice K n ck) := K0.out.cell 2
  go_enter Try.func26, Try.ntmps26
  go_upto_region 1 with (fail)
  rw [← hW0]
  clear hW0
  go_wp2_with (go_at_call 24; refine (HD.out _ E0.out).mono ?_; rintro e W1 ⟨A, c, rfl, hr, hx⟩; have R1 := Lib.hid hr; replace E0 := Lib.hid (E0.out.trans hx); clear hx hr y0_0 y0_1 y0_2 K0)
  clear HD
  go_loopw [6, 7] (fun c i wr => ∃ (k : Nat) (a : Int), k ≤ n ∧ i = .int .i64 (k : Int) ∧ c = .int .i64 a ∧ sv = strF t D (n - k) k a ∧ Ext W1 wr) (fun _ i _ => n - (intOf i).toNat)
  case atStart => exact ⟨0, 2, by omega, rfl, rfl, HV.out, Ext.refl _⟩
  case round =>
    clear HV
    obtain ⟨k, a, hk, rfl, rfl, hr, hx⟩ := hrel
    have X := Lib.hid hx
    have R := Lib.hid hr
    clear hx hr
    by_cases hlt : k < n
    · obtain ⟨b, o, rfl, hb, hc0, hc1⟩ := row_Rg (R1.out.ext X.out) (i := k) (by have := HLL.out; omega)
      rw [HLG.out k hlt] at hc0 hc1
      have HR := Lib.hid (R.out.trans (strF_step t D hlt a))
      generalize D k = d at *
      clear R hb
      have hki : (k : Int) < (n : Int) := by omega
      by_cases h1 : t < d.1
      · replace HR := Lib.hid (show sv = 0 by rw [HR.out, if_pos (.inl h1)])
        go_wp2
        go_ret
        exact ⟨ret_int HR.out.symm, E0.out.trans X.out⟩
      · by_cases h2 : d.2 < -t
        · replace HR := Lib.hid (show sv = 0 by rw [HR.out, if_pos (.inr h2)])
          go_wp2
          go_ret
          exact ⟨ret_int HR.out.symm, E0.out.trans X.out⟩
        · by_cases h3 : d.1 < -t
          · replace HR := Lib.hid (show sv = strF t D (n - (k + 1)) (k + 1) 1 by rw [HR.out, if_neg (by omega), if_pos (.inl h3)])
            go_wp2
            go_roundw
            case rel => exact ⟨k + 1, 1, by omega, by go_num, rfl, HR.out, X.out⟩
            case measure => simp [intOf]; omega
          · by_cases h4 : t < d.2
            · replace HR := Lib.hid (show sv = strF t D (n - (k + 1)) (k + 1) 1 by rw [HR.out, if_neg (by omega), if_pos (.inr h4)])
              go_wp2
              go_roundw
              case rel => exact ⟨k + 1, 1, by omega, by go_num, rfl, HR.out, X.out⟩
              case measure => simp [intOf]; omega
            · replace HR := Lib.hid (show sv = strF t D (n - (k + 1)) (k + 1) a by rw [HR.out, if_neg (by omega), if_neg (by omega)])
              go_wp2
              go_roundw
              case rel => exact ⟨k + 1, a, by omega, by go_num, rfl, HR.out, X.out⟩
              case measure => simp [intOf]; omega
    · obtain rfl : k = n := by omega
      have hkn : ¬ (k : Int) < (k : Int) := by omega
      have HR := Lib.hid (show sv = a by rw [R.out, Nat.sub_self]; rfl)
      clear R
      go_wp2
      go_ret
      exact ⟨ret_int HR.out.symm, E0.out.trans X.out⟩

end Go.Proofs.Ytjdilmmpdlcimaa
