/- IsStraight. -/
import Derived.Test.YtjdilmmpdlcimaaC8
import Derived.Test.YtjdilmmpdlcimaaB5
import Derived.Lib.MinMax
import Derived.Deep.DeepCutAuto

namespace Go.Proofs.Ytjdilmmpdlcimaa
open Go.RowKit Go.Shelf Go.Mem Go.RegInv
attribute [local go_sem] RelUpon_value RelUpon_skip RelUpon_enter BigFrame.eval_const BigFrame.eval_global BigFrame.eval_func


def isE (L : Int) (js : List Int) (ks : List Rg) (t : Int) : Int := firstE [(checkS L js ks).2, tolE t]
/-- What IsStraight answers. -/
def isV (L : Int) (js : List Int) (ks : List Rg) (t : Int) : Int := if isE L js ks t = 0 then straightV t L js ks else 0
set_option maxRecDepth 100000 in
set_option maxHeartbeats 1000000 in
theorem isStraight_any {L : Int} {J K : Option Addr} {n m cj ck : Nat} {js : List Int} {ks : List Rg} {w : World} (hn : js.length = n) (hJ : RowsAt 1 I1 w J js) (hm : ks.length = m) (hK : RowsAt 2 Rg.enc w K ks) {t : Int} :
    Calls Try.prog 19 #[.agg #[.int .i64 L, .slice J n cj, .slice K m ck], .int .i64 t] w fun e w' => e = .returned (.tuple #[.int .i64 (isV L js ks t), .int .i64 (isE L js ks t)]) ∧ Ext w w' := by
  have HSE := Lib.hid (fun W (e : Ext w W) => shaftError_any (cj := cj) (ck := ck) (L := L) hn (hJ.ext e) hm (hK.ext e))
  have HT := Lib.hid (show isE L js ks t = firstE [(checkS L js ks).2, tolE t] from rfl)
  have HV := Lib.hid (show isV L js ks t = if isE L js ks t = 0 then straightV t L js ks else 0 from rfl)
  have HD := Lib.hid (fun (hz : isE L js ks t = 0) W (e : Ext w W) => show Calls Try.prog 78 #[.agg #[.int .i64 L, .slice J n cj, .slice K m ck], .int .i64 t] W fun e w' => e = .returned (.int .i64 (straightV t L js ks)) ∧ Ext W w' from by
    have h1 := firstE_zero hz
    have hs := checkS_ok (h1 (checkS L js ks).2 (by simp))
    have ht := h1 (tolE t) (by simp)
    obtain rfl : n = m := by have := hs.same; omega
    exact straight_any (cj := cj) (ck := ck) hn (hJ.ext e) hm (hK.ext e) hs (rangeE_zeros ht t (by simp)))
  generalize isV L js ks t = v at *
  generalize straightV t L js ks = sv at *
  generalize isE L js ks t = z at *
  generalize (checkS L js ks).2 = z1 at *
  clear hn hJ hm hK
  obtain ⟨W0, hW0⟩ : ∃ W0, W0 = w.alloc (.cells #[.int .i64 L, .slice J n cj, .slice K m ck] 25) := ⟨_, rfl⟩
  have K0 := Lib.hid (show Blk W0 (w.heap.size) 25 #[.int .i64 L, .slice J n cj, .slice K m ck] by rw [hW0]; exact Blk.new _ _ _)
  have E0 := Lib.hid (show Ext w W0 by rw [hW0]; exact Ext.alloc _ _)
  have y0_0 : W0.cell? ⟨w.heap.size, 0, none⟩ = some (.int .i64 L) := K0.out.cell 0
  have y0_1 : W0.cell? ⟨w.heap.size, 1, none⟩ = some (.slice J n cj) := K0.out.cell 1
  have y0_2 : W0.cell? ⟨w.heap.size, 2, none⟩ = some (.slice K m ck) := K0.out.cell 2
  go_enter Try.func19, Try.ntmps19
  go_upto_region 1 with (fail)
  rw [← hW0]
  clear hW0
  go_wp2_with (go_at_call 75; refine (HSE.out _ E0.out).mono ?_; rintro e Wa ⟨rfl, hx⟩; have X := Lib.hid (E0.out.trans hx); replace K0 := Lib.hid (K0.out.ext hx); clear hx E0 y0_0 y0_1 y0_2; refine Hid.out ?_)
  refine Lib.hid ?_
  go_wp2_with (go_at_call 77; refine (toleranceError_any _ _).mono ?_; rintro e Wb ⟨rfl, hx⟩; replace X := Lib.hid (X.out.trans hx); replace K0 := Lib.hid (K0.out.ext hx); clear hx; refine Hid.out ?_)
  refine Lib.hid ?_
  obtain ⟨W1, hW1⟩ : ∃ W, W = Wb.alloc (.cells #[.int .i64 z1, .int .i64 (tolE t)] 28) := ⟨_, rfl⟩
  have HI := Lib.hid (ints_new Wb [z1, tolE t] 28 (by simp))
  have X1 := Lib.hid (show Ext w W1 by rw [hW1]; exact X.out.trans (Ext.alloc _ _))
  have K2 := Lib.hid (show Blk W1 w.heap.size 25 #[.int .i64 L, .slice J n cj, .slice K m ck] by rw [hW1]; exact K0.out.alloc _)
  go_wp2_with (go_at_call 68; refine (firstOf_any _ _ _ HI.out).mono ?_; rintro e W2 ⟨rfl, hw⟩; obtain rfl : W1 = W2 := hW1.trans hw; rw [← HT.out]; clear hw hW1 HT HI X K0 HSE; refine Hid.out ?_)
  refine Lib.hid ?_
  have X := Lib.hid X1.out
  have K0 := Lib.hid K2.out
  clear X1 K2
  by_cases hz : z = 0
  · have hz2 : (z != 0) = false := by simp [hz]
    have HC := Lib.hid (fun W (e : Ext w W) => HD.out hz W e)
    have HE := Lib.hid (show v = sv by rw [HV.out, if_pos hz])
    have HZ := Lib.hid hz
    clear hz HD HV
    have z0 : W1.cell? ⟨w.heap.size, 0, none⟩ = some (.int .i64 L) := K0.out.cell 0
    have z1 : W1.cell? ⟨w.heap.size, 1, none⟩ = some (.slice J n cj) := K0.out.cell 1
    have z2 : W1.cell? ⟨w.heap.size, 2, none⟩ = some (.slice K m ck) := K0.out.cell 2
    go_wp2_with (go_at_call 78; refine (HC.out _ X.out).mono ?_; rintro e W2 ⟨rfl, hx⟩; have X2 := Lib.hid (X.out.trans hx); clear hx)
    go_ret2
    exact ⟨ret_two (by rw [HE.out]) (by rw [HZ.out]), X2.out⟩
  · have hz2 : (z != 0) = true := by simp [hz]
    have HE := Lib.hid (show v = 0 by rw [HV.out, if_neg hz])
    clear hz HD HV
    go_wp2
    go_ret2
    exact ⟨ret_two (by rw [HE.out]) rfl, X.out⟩

end Go.Proofs.Ytjdilmmpdlcimaa
