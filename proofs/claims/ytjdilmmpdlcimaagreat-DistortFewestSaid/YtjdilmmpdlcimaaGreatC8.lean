/- Whether a shaft is straight after strokes. -/
import Derived.Test.YtjdilmmpdlcimaaGreatC7
import Derived.Lib.MinMax
import Derived.Deep.DeepCutAuto

namespace Go.Proofs.YtjdilmmpdlcimaaGreat
open Go.RowKit Go.Shelf Go.Mem Go.RegInv
attribute [local go_sem] RelUpon_value RelUpon_skip RelUpon_enter BigFrame.eval_const BigFrame.eval_global BigFrame.eval_func


def strF (t : Int) (d : Nat → Rg) : Nat → Nat → Int → Int
  | 0, _, a => a
  | f + 1, k, a => if t < (d k).1 ∨ (d k).2 < -t then 0 else strF t d f (k + 1) (if (d k).1 < -t ∨ t < (d k).2 then 1 else a)
theorem strF_step (t : Int) (d : Nat → Rg) {n k : Nat} (h : k < n) (a : Int) : strF t d (n - k) k a = if t < (d k).1 ∨ (d k).2 < -t then 0 else strF t d (n - (k + 1)) (k + 1) (if (d k).1 < -t ∨ t < (d k).2 then 1 else a) := by
  obtain ⟨f, hf⟩ : ∃ f, n - k = f + 1 := ⟨n - k - 1, by omega⟩
  rw [hf, strF, show n - (k + 1) = f by omega]
def deflAt (L : Int) (js : List Int) (ks : List Rg) (k : Nat) : Rg := defl L js ks (js.getD k 0)
def straightV (t L : Int) (js : List Int) (ks : List Rg) : Int := strF t (deflAt L js ks) js.length 0 2
set_option maxRecDepth 100000 in
set_option maxHeartbeats 1000000 in
theorem straight_any {L : Int} {J K : Option Addr} {n cj ck : Nat} {js : List Int} {ks : List Rg} {w : World} (hn : js.length = n) (hJ : RowsAt 1 I1 w J js) (hm : ks.length = n) (hK : RowsAt 2 Rg.enc w K ks) {t : Int} (hs : ShOK L js ks) (ht : 0 ≤ t ∧ t ≤ 1000000000000) :
    Calls Tryz.prog 82 #[.agg #[.int .i64 L, .slice J n cj, .slice K n ck], .int .i64 t] w fun e w' => e = .returned (.int .i64 (straightV t L js ks)) ∧ Ext w w' := by
  have HD := Lib.hid (fun (k : Nat) (hk : k < n) W (e : Ext w W) => deflection_any (cj := cj) (ck := ck) (p := js.getD k 0) hn (hJ.ext e) hm (hK.ext e) hs (by have := hs.at' k (by omega); omega))
  have HN := Lib.hid hn
  have HJR := Lib.hid hJ
  have HV := Lib.hid (show straightV t L js ks = strF t (deflAt L js ks) n 0 2 by rw [← hn]; rfl)
  have hnb : n ≤ 1152921504606846976 := by have := hJ.1; omega
  generalize straightV t L js ks = sv at *
  obtain ⟨D, hD⟩ : ∃ D, D = deflAt L js ks := ⟨_, rfl⟩
  have HDD := Lib.hid (fun (k : Nat) => show defl L js ks (js.getD k 0) = D k by rw [hD]; rfl)
  rw [← hD] at HV
  clear hn hJ hm hK hs hD
  obtain ⟨W0, hW0⟩ : ∃ W0, W0 = w.alloc (.cells #[.int .i64 L, .slice J n cj, .slice K n ck] 75) := ⟨_, rfl⟩
  have K0 := Lib.hid (show Blk W0 (w.heap.size) 75 #[.int .i64 L, .slice J n cj, .slice K n ck] by rw [hW0]; exact Blk.new _ _ _)
  have E0 := Lib.hid (show Ext w W0 by rw [hW0]; exact Ext.alloc _ _)
  have y0_0 : W0.cell? ⟨w.heap.size, 0, none⟩ = some (.int .i64 L) := K0.out.cell 0
  have y0_1 : W0.cell? ⟨w.heap.size, 1, none⟩ = some (.slice J n cj) := K0.out.cell 1
  have y0_2 : W0.cell? ⟨w.heap.size, 2, none⟩ = some (.slice K n ck) := K0.out.cell 2
  go_enter Tryz.func82, Tryz.ntmps82
  go_upto_region 2 with (fail)
  rw [← hW0]
  clear hW0
  go_wp2
  clear y0_0 y0_1 y0_2
  go_loopw [5, 13] (fun c i wr => ∃ (k : Nat) (a : Int), k ≤ n ∧ i = .int .i64 (k : Int) ∧ c = .int .i64 a ∧ sv = strF t D (n - k) k a ∧ Ext w wr ∧ Blk wr w.heap.size 75 #[.int .i64 L, .slice J n cj, .slice K n ck]) (fun _ i _ => n - (intOf i).toNat)
  case atStart => exact ⟨0, 2, by omega, rfl, rfl, HV.out, E0.out, K0.out⟩
  case round =>
    clear E0 K0 HV
    obtain ⟨k, a, hk, rfl, rfl, hr, hx, k0⟩ := hrel
    have X := Lib.hid hx
    have K0 := Lib.hid k0
    have R := Lib.hid hr
    clear hx k0 hr
    by_cases hlt : k < n
    · obtain ⟨jb, jo, rfl, hjb, hjc⟩ := row_I1 (HJR.out.ext X.out) (i := k) (by have := HN.out; omega)
      have HC := Lib.hid (fun W (e : Ext w W) => HD.out k hlt W e)
      rw [HDD.out k] at HC
      have HR := Lib.hid (R.out.trans (strF_step t D hlt a))
      generalize D k = d at *
      generalize js.getD k 0 = j at *
      clear R
      have hki : (k : Int) < (n : Int) := by omega
      have z1' : wr.cell? ⟨w.heap.size, 1, none⟩ = some (.slice (some ⟨jb, jo, none⟩) n cj) := K0.out.cell 1
      have z0 : wr.cell? ⟨w.heap.size, 0, none⟩ = some (.int .i64 L) := K0.out.cell 0
      have z1 : wr.cell? ⟨w.heap.size, 1, none⟩ = some (.slice (some ⟨jb, jo, none⟩) n cj) := K0.out.cell 1
      have z2 : wr.cell? ⟨w.heap.size, 2, none⟩ = some (.slice K n ck) := K0.out.cell 2
      go_wp2_with (go_at_call 41; refine (HC.out _ X.out).mono ?_; rintro e W1 ⟨rfl, hx⟩; replace X := Lib.hid (X.out.trans hx); replace K0 := Lib.hid (K0.out.ext hx); clear hx z0 z1 z2 z1' hjc; refine Hid.out ?_)
      refine Lib.hid ?_
      obtain ⟨q8, hq⟩ : ∃ q, q = W1.heap.size := ⟨_, rfl⟩
      obtain ⟨W2, hW2⟩ : ∃ W, W = W1.alloc (.cells #[.int .i64 d.1, .int .i64 d.2] 49) := ⟨_, rfl⟩
      have hx2 : Ext W1 W2 := by rw [hW2]; exact Ext.alloc _ _
      have K8 := Lib.hid (show Blk W2 q8 49 #[.int .i64 d.1, .int .i64 d.2] by rw [hW2, hq]; exact Blk.new _ _ _)
      replace X := Lib.hid (X.out.trans hx2)
      replace K0 := Lib.hid (K0.out.ext hx2)
      go_upto_region 6 with (fail)
      rw [← hW2, ← hq]
      clear hW2 hq hx2
      have y0 : W2.cell? ⟨q8, 0, none⟩ = some (.int .i64 d.1) := K8.out.cell 0
      have y1 : W2.cell? ⟨q8, 1, none⟩ = some (.int .i64 d.2) := K8.out.cell 1
      by_cases h1 : t < d.1
      · replace HR := Lib.hid (show sv = 0 by rw [HR.out, if_pos (.inl h1)])
        go_wp2
        go_ret
        exact ⟨ret_int HR.out.symm, X.out⟩
      · by_cases h2 : d.2 < -t
        · replace HR := Lib.hid (show sv = 0 by rw [HR.out, if_pos (.inr h2)])
          go_wp2
          go_ret
          exact ⟨ret_int HR.out.symm, X.out⟩
        · by_cases h3 : d.1 < -t
          · replace HR := Lib.hid (show sv = strF t D (n - (k + 1)) (k + 1) 1 by rw [HR.out, if_neg (by omega), if_pos (.inl h3)])
            go_wp2
            go_roundw
            case rel => exact ⟨k + 1, 1, by omega, by go_num, rfl, HR.out, X.out, K0.out⟩
            case measure => simp [intOf]; omega
          · by_cases h4 : t < d.2
            · replace HR := Lib.hid (show sv = strF t D (n - (k + 1)) (k + 1) 1 by rw [HR.out, if_neg (by omega), if_pos (.inr h4)])
              go_wp2
              go_roundw
              case rel => exact ⟨k + 1, 1, by omega, by go_num, rfl, HR.out, X.out, K0.out⟩
              case measure => simp [intOf]; omega
            · replace HR := Lib.hid (show sv = strF t D (n - (k + 1)) (k + 1) a by rw [HR.out, if_neg (by omega), if_neg (by omega)])
              go_wp2
              go_roundw
              case rel => exact ⟨k + 1, a, by omega, by go_num, rfl, HR.out, X.out, K0.out⟩
              case measure => simp [intOf]; omega
    · obtain rfl : k = n := by omega
      have hkn : ¬ (k : Int) < (k : Int) := by omega
      have HR := Lib.hid (show sv = a by rw [R.out, Nat.sub_self]; rfl)
      clear R
      go_wp2
      go_ret
      exact ⟨ret_int HR.out.symm, X.out⟩
/-- Whether a shaft is not straight after strokes. -/
def proofE (ga sp t L : Int) (js : List Int) (ks : List Rg) (l : List Sk) : Int := if aftE ga sp l ks js.length ≠ 0 then aftE ga sp l ks js.length else errIf (straightV t L js (aftK ga sp l ks js.length) != 2) 19
theorem rangeE_two {x : Rg} (h : kinkE x = 0) : (-100000 ≤ x.1 ∧ x.1 ≤ 100000) ∧ -100000 ≤ x.2 ∧ x.2 ≤ 100000 := ⟨rangeE_zeros h x.1 (by simp), rangeE_zeros h x.2 (by simp)⟩
theorem aftK_ok {ga sp L : Int} {js : List Int} {ks : List Rg} {l : List Sk} (hs : ShOK L js ks) (h : aftE ga sp l ks js.length = 0) : ShOK L js (aftK ga sp l ks js.length) := by
  refine ⟨hs.l1, hs.l2, hs.four, by simp [aftK, kinkL], hs.at', hs.up, fun i hi => ?_⟩
  have h1 := rangeE_two (firstAt_zero h i (by omega) (by omega))
  have h2 := hs.kink i hi
  have e : (aftK ga sp l ks js.length).getD i default = aftF ga sp l i (ks.getD i default) := by simp [aftK, kinkL, hi]
  rw [e] at h1 ⊢
  unfold aftF at h1 ⊢
  dsimp only at h1 ⊢
  omega
set_option maxRecDepth 100000 in
set_option maxHeartbeats 1000000 in
theorem proofError_any {L : Int} {J K : Option Addr} {n cj ck : Nat} {js : List Int} {ks : List Rg} {w : World} (hn : js.length = n) (hJ : RowsAt 1 I1 w J js) (hm : ks.length = n) (hK : RowsAt 2 Rg.enc w K ks) {P : Option Addr} {np cp : Nat} {am : List Int} {sp ga li t : Int} {A : Option Addr} {N ca : Nat} {l : List Sk} (hjn : J = none → cj = 0) (hs : ShOK L js ks) (hp : PrOK am sp ga li) (hN : l.length = N) (hA : RowsAt 3 Sk.enc w A l) (hl : PlOK n am l) (ht : 0 ≤ t ∧ t ≤ 1000000000000) :
    Calls Tryz.prog 51 #[.agg #[.int .i64 L, .slice J n cj, .slice K n ck], .agg #[.slice P np cp, .int .i64 sp, .int .i64 ga, .int .i64 li], .slice A N ca, .int .i64 t] w fun e w' => e = .returned (.int .i64 (proofE ga sp t L js ks l)) ∧ Ext w w' := by
  have HA := Lib.hid (fun W (e : Ext w W) => after_any (P := P) (np := np) (ck := ck) (cp := cp) (ca := ca) hn (hJ.ext e) hm (hK.ext e) hjn hs hp hN (hA.ext e) hl)
  have HP := Lib.hid (show proofE ga sp t L js ks l = if aftE ga sp l ks n ≠ 0 then aftE ga sp l ks n else errIf (straightV t L js (aftK ga sp l ks n) != 2) 19 by rw [← hn]; rfl)
  have HS := Lib.hid (fun (hz : aftE ga sp l ks n = 0) W J' cj' K' ck' (h1 : RowsAt 1 I1 W J' js) (h2 : RowsAt 2 Rg.enc W K' (aftK ga sp l ks n)) => straight_any (J := J') (K := K') (cj := cj') (ck := ck') (t := t) hn h1 (show (aftK ga sp l ks n).length = n by simp [aftK, kinkL]) h2 (by have := aftK_ok (ga := ga) (sp := sp) (l := l) hs (by rw [hn]; exact hz); rw [hn] at this; exact this) ht)
  generalize proofE ga sp t L js ks l = pv at *
  generalize aftK ga sp l ks n = ak at *
  generalize aftE ga sp l ks n = ez at *
  clear hn hJ hm hK hjn hs hp hA hl
  obtain ⟨W0, hW0⟩ : ∃ W0, W0 = (w.alloc (.cells #[.int .i64 L, .slice J n cj, .slice K n ck] 75)).alloc (.cells #[.slice P np cp, .int .i64 sp, .int .i64 ga, .int .i64 li] 27) := ⟨_, rfl⟩
  have K0 := Lib.hid (show Blk W0 (w.heap.size) 75 #[.int .i64 L, .slice J n cj, .slice K n ck] by rw [hW0]; exact (Blk.new _ _ _).alloc _)
  have K1 := Lib.hid (show Blk W0 (w.heap.size + 1) 27 #[.slice P np cp, .int .i64 sp, .int .i64 ga, .int .i64 li] by rw [hW0]; exact Blk.newAt _ _ _ (by simp))
  have E0 := Lib.hid (show Ext w W0 by rw [hW0]; exact (Ext.alloc _ _).trans (Ext.alloc _ _))
  have y0_0 : W0.cell? ⟨w.heap.size, 0, none⟩ = some (.int .i64 L) := K0.out.cell 0
  have y0_1 : W0.cell? ⟨w.heap.size, 1, none⟩ = some (.slice J n cj) := K0.out.cell 1
  have y0_2 : W0.cell? ⟨w.heap.size, 2, none⟩ = some (.slice K n ck) := K0.out.cell 2
  have y1_0 : W0.cell? ⟨w.heap.size + 1, 0, none⟩ = some (.slice P np cp) := K1.out.cell 0
  have y1_1 : W0.cell? ⟨w.heap.size + 1, 1, none⟩ = some (.int .i64 sp) := K1.out.cell 1
  have y1_2 : W0.cell? ⟨w.heap.size + 1, 2, none⟩ = some (.int .i64 ga) := K1.out.cell 2
  have y1_3 : W0.cell? ⟨w.heap.size + 1, 3, none⟩ = some (.int .i64 li) := K1.out.cell 3
  go_enter Tryz.func51, Tryz.ntmps51
  go_upto_region 1 with (fail)
  rw [← hW0]
  clear hW0
  go_wp2_with (go_at_call 81; refine (HA.out _ E0.out).mono ?_; rintro e W1 ⟨v, rfl, ha, hx⟩; have X := Lib.hid (E0.out.trans hx); have HC := Lib.hid ha; clear hx ha; refine Hid.out ?_)
  refine Lib.hid ?_
  clear K0 K1 E0 HA y0_0 y0_1 y0_2 y1_0 y1_1 y1_2 y1_3
  by_cases hz : ez = 0
  · have hz2 : (ez != 0) = false := by simp [hz]
    have hc := HC.out
    rw [AftC, if_pos hz] at hc
    obtain ⟨J', cj', K', ck', rfl, hr1, hr2, -⟩ := hc
    have R1 := Lib.hid hr1
    have R2 := Lib.hid hr2
    have HV := Lib.hid (show pv = errIf (straightV t L js ak != 2) 19 by rw [HP.out, if_neg (by simpa using hz)])
    have HS2 := Lib.hid (fun W J' cj' K' ck' h1 h2 => HS.out hz W J' cj' K' ck' h1 h2)
    clear hr1 hr2 HC HS HP hz
    obtain ⟨q9, hq9⟩ : ∃ q9, q9 = W1.heap.size := ⟨_, rfl⟩
    obtain ⟨W4, hW4⟩ : ∃ W, W = W1.alloc (.cells #[.int .i64 L, .slice J' n cj', .slice K' n ck'] 75) := ⟨_, rfl⟩
    have hx4 : Ext W1 W4 := by rw [hW4]; exact Ext.alloc _ _
    have K9 := Lib.hid (show Blk W4 q9 75 #[.int .i64 L, .slice J' n cj', .slice K' n ck'] by rw [hW4, hq9]; exact Blk.new _ _ _)
    replace X := Lib.hid (X.out.trans hx4)
    replace R1 := Lib.hid (R1.out.ext hx4)
    replace R2 := Lib.hid (R2.out.ext hx4)
    go_upto_region 2 with (fail)
    rw [← hW4, ← hq9]
    clear hW4 hq9 hx4
    have l0 : W4.cell? ⟨q9, 0, none⟩ = some (.int .i64 L) := K9.out.cell 0
    have l1 : W4.cell? ⟨q9, 1, none⟩ = some (.slice J' n cj') := K9.out.cell 1
    have l2 : W4.cell? ⟨q9, 2, none⟩ = some (.slice K' n ck') := K9.out.cell 2
    generalize straightV t L js ak = sv at *
    go_wp2_with (first
      | (go_at_call 82; refine (HS2.out _ J' cj' K' ck' R1.out R2.out).mono ?_; rintro e W5 ⟨rfl, hx⟩; replace X := Lib.hid (X.out.trans hx); clear hx)
      | (go_at_call 63; refine (errorIf_any _ _ _).mono ?_; rintro e w' ⟨rfl, rfl⟩))
    go_ret
    exact ⟨ret_int HV.out.symm, X.out⟩
  · have hz2 : (ez != 0) = true := by simp [hz]
    have hc := HC.out
    rw [AftC, if_neg hz] at hc
    obtain rfl := hc
    have HV := Lib.hid (show pv = ez by rw [HP.out, if_pos hz])
    clear HC HS HP hz
    go_wp2
    go_ret
    exact ⟨ret_int HV.out.symm, X.out.trans (Ext.alloc _ _)⟩

end Go.Proofs.YtjdilmmpdlcimaaGreat
