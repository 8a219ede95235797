/- Deflections at all joints. -/
import Derived.Test.YtjdilmmpdlcimaaE2
import Derived.Test.YtjdilmmpdlcimaaC8
import Derived.Test.YtjdilmmpdlcimaaQ1
import Derived.Test.YtjdilmmpdlcimaaB5
import Derived.Lib.MinMax
import Derived.Deep.DeepCutAuto
import Derived.BigQuiet
import Derived.Laws.AppendOwn
import Derived.Laws.AppendOwnNone

namespace Go.Proofs.Ytjdilmmpdlcimaa
open Go.RowKit Go.Shelf Go.Mem Go.RegInv
attribute [local go_sem] RelUpon_value RelUpon_skip RelUpon_enter BigFrame.eval_const BigFrame.eval_global BigFrame.eval_func


def SlP (T : TypeId) (cs : Array Value) : Value → World → Prop := fun u W => ∃ q, u = .slice (some ⟨q, 0, none⟩) 1 1 ∧ Blk W q T cs
theorem SlP.ext {T : TypeId} {cs : Array Value} {u : Value} {W W' : World} (h : SlP T cs u W) (k : Ext W W') : SlP T cs u W' := by
  obtain ⟨q, e, hb⟩ := h
  exact ⟨q, e, hb.ext k⟩
def deflL (L : Int) (js : List Int) (ks : List Rg) (n : Nat) : List Rg := (List.range n).map (deflAt L js ks)
theorem deflL_succ (L : Int) (js : List Int) (ks : List Rg) (k : Nat) : (deflL L js ks (k + 1)).flatMap Rg.enc = (deflL L js ks k).flatMap Rg.enc ++ Rg.enc (deflAt L js ks k) := by
  unfold deflL
  rw [List.range_succ, List.map_append, List.flatMap_append]
  simp
theorem deflL_len (L : Int) (js : List Int) (ks : List Rg) (n : Nat) : (deflL L js ks n).length = n := by simp [deflL]
set_option maxRecDepth 100000 in
set_option maxHeartbeats 1000000 in
theorem refDeflections_any {L : Int} {J K : Option Addr} {n cj ck : Nat} {js : List Int} {ks : List Rg} {w : World} (hn : js.length = n) (hJ : RowsAt 1 I1 w J js) (hm : ks.length = n) (hK : RowsAt 2 Rg.enc w K ks) (hs : ShOK L js ks) :
    Calls Try.prog 24 #[.agg #[.int .i64 L, .slice J n cj, .slice K n ck]] w fun e w' => ∃ A c, e = .returned (.slice A n c) ∧ RowsAt 2 Rg.enc w' A (deflL L js ks n) ∧ Ext w w' := by
  have HDA := Lib.hid (fun (k : Nat) (hk : k < n) W (e : Ext w W) => refDeflection_any (cj := cj) (ck := ck) (p := js.getD k 0) hn (hJ.ext e) hm (hK.ext e) hs (by have := hs.at' k (by omega); omega))
  have HJ := Lib.hid hJ
  have HN := Lib.hid hn
  have h4 : n ≤ 4 := by have := hs.four; omega
  clear hn hJ hm hK hs
  obtain ⟨W0, hW0⟩ : ∃ W0, W0 = w.alloc (.cells #[.int .i64 L, .slice J n cj, .slice K n ck] 25) := ⟨_, rfl⟩
  have K0 := Lib.hid (show Blk W0 (w.heap.size) 25 #[.int .i64 L, .slice J n cj, .slice K n ck] by rw [hW0]; exact Blk.new _ _ _)
  have E0 := Lib.hid (show Ext w W0 by rw [hW0]; exact Ext.alloc _ _)
  have y0_0 : W0.cell? ⟨w.heap.size, 0, none⟩ = some (.int .i64 L) := K0.out.cell 0
  have y0_1 : W0.cell? ⟨w.heap.size, 1, none⟩ = some (.slice J n cj) := K0.out.cell 1
  have y0_2 : W0.cell? ⟨w.heap.size, 2, none⟩ = some (.slice K n ck) := K0.out.cell 2
  go_enter Try.func24, Try.ntmps24
  go_wp2
  rw [← hW0]
  clear hW0
  go_wp2
  clear y0_0 y0_1 y0_2
  go_loopw [3, 4] (fun v i wr => ∃ (k c : Nat) (R : Option Addr), k ≤ n ∧ i = .int .i64 (k : Int) ∧ v = .slice R k c ∧ wr.ownsRow W0.heap.size 33 2 (.slice R k c) k ((deflL L js ks k).flatMap Rg.enc) ∧ Ext W0 wr) (fun _ i _ => n - (intOf i).toNat)
  case atStart => exact ⟨0, 0, none, Nat.zero_le _, rfl, rfl, own_none _ _ _ _, Ext.refl _⟩
  case round =>
    obtain ⟨k, c, R, hk, rfl, rfl, ho, hx⟩ := hrel
    have X := Lib.hid (E0.out.trans hx)
    have X0 := Lib.hid hx
    have O := Lib.hid ho
    have SZ := Lib.hid (show W0.heap.size ≤ wr.heap.size from hx.size)
    have K1 := Lib.hid (K0.out.ext hx)
    clear hx ho
    by_cases hlt : k < n
    · obtain ⟨jb, jo, rfl, hjb, hjc⟩ := row_I1 (HJ.out.ext X.out) (i := k) (by have := HN.out; omega)
      have HD := Lib.hid (fun W (e : Ext w W) => HDA.out k hlt W e)
      have HS := Lib.hid (deflL_succ L js ks k)
      have HE : deflAt L js ks k = defl L js ks (js.getD k 0) := rfl
      rw [HE] at HS
      clear HE
      generalize defl L js ks (js.getD k 0) = d at *
      generalize js.getD k 0 = j at *
      have hki : (k : Int) < (n : Int) := by omega
      obtain ⟨V, hV⟩ : ∃ V, V = wr := ⟨_, rfl⟩
      rw [← hV] at X X0 O SZ K1 hjc ⊢
      clear hV
      have z0 : V.cell? ⟨w.heap.size, 0, none⟩ = some (.int .i64 L) := K1.out.cell 0
      have z1 : V.cell? ⟨w.heap.size, 1, none⟩ = some (.slice (some ⟨jb, jo, none⟩) n cj) := K1.out.cell 1
      have z2 : V.cell? ⟨w.heap.size, 2, none⟩ = some (.slice K n ck) := K1.out.cell 2
      go_upto_region 5 with (fail)
      refine wp_region_partR 9 [some 12, some 13, some 14, some 15, some 16, some 17, some 18, some 19, some 20] [[3], [1], [1], [14], [4], [15, 16], [17], [13, 18], [19]]
        [Is (.slice R k c), Is (.agg #[.int .i64 (L), .slice (some ⟨jb, jo, none⟩) n cj, .slice K n ck]), Is (.pointer (some ⟨w.heap.size, 1, none⟩)), Is (.slice (some ⟨jb, jo, none⟩) n cj), Is (.int .i64 ((k : Int))), Is (.pointer (some ⟨jb, jo + k, none⟩)), Is (.int .i64 (j)), Is (.agg #[.int .i64 d.1, .int .i64 d.2]), SlP 33 #[.int .i64 d.1, .int .i64 d.2]]
        (by kernel_rfl) (by kernel_rfl) (by kernel_rfl) (by kernel_rfl) (by kernel_rfl) (by kernel_rfl) (by kernel_rfl) Ext (fun W => Ext V W)
        (fun W _ => Ext.refl W) (fun W W' h k => h.trans k) ?_ (Ext.drew _) ?_ ?_
      · repeat (refine ⟨fun _ _ _ _ k h => (by first | exact h | exact (by first | exact IntsAt.ext h k | exact SlP.ext h k)), ?_⟩)
        exact trivial
      · refine ⟨?_, ?_, ?_, ?_, ?_, ?_, ?_, ?_, ?_, trivial⟩
        all_goals intro ρ W ⟨kc, kg, kf⟩ hF hs
        · obtain ⟨h0, -⟩ := hs
          replace h0 : ρ (.tmp 3) = .slice R k c := h0
          go_simp
          exact ⟨Ext.refl _, rfl⟩
        · obtain ⟨h0, -⟩ := hs
          replace h0 : ρ (.tmp 1) = .pointer (some ⟨w.heap.size, 0, none⟩) := h0
          have hc0 : W.cell? ⟨w.heap.size, 0, none⟩ = some (.int .i64 (L)) := hF.cell (by assumption)
          have hc1 : W.cell? ⟨w.heap.size, 1, none⟩ = some (.slice (some ⟨jb, jo, none⟩) n cj) := hF.cell (by assumption)
          have hc2 : W.cell? ⟨w.heap.size, 2, none⟩ = some (.slice K n ck) := hF.cell (by assumption)
          go_simp
          exact ⟨Ext.refl _, rfl⟩
        · obtain ⟨h0, -⟩ := hs
          replace h0 : ρ (.tmp 1) = .pointer (some ⟨w.heap.size, 0, none⟩) := h0
          go_simp
          exact ⟨Ext.refl _, rfl⟩
        · obtain ⟨h0, -⟩ := hs
          replace h0 : ρ (.tmp 14) = .pointer (some ⟨w.heap.size, 1, none⟩) := h0
          have hc0 : W.cell? ⟨w.heap.size, 1, none⟩ = some (.slice (some ⟨jb, jo, none⟩) n cj) := hF.cell (by assumption)
          go_simp
          exact ⟨Ext.refl _, rfl⟩
        · obtain ⟨h0, -⟩ := hs
          replace h0 : ρ (.tmp 4) = .int .i64 ((k : Int)) := h0
          go_simp
          exact ⟨Ext.refl _, rfl⟩
        · obtain ⟨h0, h1, -⟩ := hs
          replace h0 : ρ (.tmp 15) = .slice (some ⟨jb, jo, none⟩) n cj := h0
          replace h1 : ρ (.tmp 16) = .int .i64 ((k : Int)) := h1
          go_simp
          exact ⟨Ext.refl _, rfl⟩
        · obtain ⟨h0, -⟩ := hs
          replace h0 : ρ (.tmp 17) = .pointer (some ⟨jb, jo + k, none⟩) := h0
          have hc0 : W.cell? ⟨jb, jo + k, none⟩ = some (.int .i64 (j)) := hF.cell (by assumption)
          go_simp
          exact ⟨Ext.refl _, rfl⟩
        · obtain ⟨h0, h1, -⟩ := hs
          replace h0 : ρ (.tmp 13) = .agg #[.int .i64 (L), .slice (some ⟨jb, jo, none⟩) n cj, .slice K n ck] := h0
          replace h1 : ρ (.tmp 18) = .int .i64 (j) := h1
          go_simp
          refine (HD.out _ (Ext.trans X.out hF)).mono ?_; rintro e w' ⟨rfl, hx⟩; exact ⟨_, rfl, hx, rfl⟩
        · obtain ⟨h0, -⟩ := hs
          replace h0 : ρ (.tmp 19) = .agg #[.int .i64 d.1, .int .i64 d.2] := h0
          go_simp
          exact ⟨Ext.alloc _ _, _, rfl, Blk.new _ _ _⟩
      · intro fv W1 hF hs
        obtain ⟨h12, -, -, -, -, -, -, -, h20, -⟩ := hs
        replace h12 : fv 12 = .slice R k c := h12
        replace h20 : (SlP 33 #[.int .i64 d.1, .int .i64 d.2]) (fv 20) W1 := h20
        simp only [fin, List.filterMap]
        go_simp
        obtain ⟨q2, hq2, hQ2⟩ := h20
        rw [hq2]
        have Q2 := Lib.hid hQ2
        have hx6 := Lib.hid hF
        clear hq2 hQ2 hF z0 z1 z2 hjc
        go_wp2_with
          (refine append_Rg (own_ext O.out hx6.out) (by omega) (by have := SZ.out; have := hx6.out.size; omega) Q2.out rfl (.tmp 12) (.tmp 20) rfl rfl rfl rfl ?_
           intro R' c' w2 hown' hkb hxe hgs
           have O2 := Lib.hid hown'
           have X2 := Lib.hid (hxe W0 (X0.out.trans hx6.out) (Nat.le_refl _))
           clear hown' hkb hxe hgs)
        go_roundw
        case rel => exact ⟨k + 1, _, _, by omega, by go_num, rfl, by rw [HS.out]; exact O2.out, X2.out⟩
        case measure => simp [intOf]; omega
    · obtain rfl : k = n := by omega
      have hkn : ¬ (k : Int) < (k : Int) := by omega
      have H := Lib.hid (show RowsAt 2 Rg.enc wr R (deflL L js ks k) from rows_own (deflL_len _ _ _ _) (fun _ => rfl) O.out (by omega))
      have z1 : wr.cell? ⟨w.heap.size, 1, none⟩ = some (.slice J k cj) := K1.out.cell 1
      go_wp2
      go_ret
      exact ⟨R, ⟨c, rfl⟩, H.out, X.out⟩
set_option maxRecDepth 100000 in
set_option maxHeartbeats 1000000 in
theorem deflectionsOf_bad {L : Int} {J K : Option Addr} {n m cj ck : Nat} {js : List Int} {ks : List Rg} {w : World} (hn : js.length = n) (hJ : RowsAt 1 I1 w J js) (hm : ks.length = m) (hK : RowsAt 2 Rg.enc w K ks) (hz : (checkS L js ks).2 ≠ 0) :
    Calls Try.prog 18 #[.agg #[.int .i64 L, .slice J n cj, .slice K m ck]] w fun e w' => e = .returned (.tuple #[.slice none 0 0, .int .i64 (checkS L js ks).2]) ∧ Ext w w' := by
  have HSE := Lib.hid (fun W (e : Ext w W) => shaftError_any (cj := cj) (ck := ck) (L := L) hn (hJ.ext e) hm (hK.ext e))
  generalize (checkS L js ks).2 = z at *
  have hz2 : (z != 0) = true := by simp [hz]
  clear hn hJ hm hK hz
  obtain ⟨W0, hW0⟩ : ∃ W0, W0 = w.alloc (.cells #[.int .i64 L, .slice J n cj, .slice K m ck] 25) := ⟨_, rfl⟩
  have K0 := Lib.hid (show Blk W0 (w.heap.size) 25 #[.int .i64 L, .slice J n cj, .slice K m ck] by rw [hW0]; exact Blk.new _ _ _)
  have E0 := Lib.hid (show Ext w W0 by rw [hW0]; exact Ext.alloc _ _)
  have y0_0 : W0.cell? ⟨w.heap.size, 0, none⟩ = some (.int .i64 L) := K0.out.cell 0
  have y0_1 : W0.cell? ⟨w.heap.size, 1, none⟩ = some (.slice J n cj) := K0.out.cell 1
  have y0_2 : W0.cell? ⟨w.heap.size, 2, none⟩ = some (.slice K m ck) := K0.out.cell 2
  go_enter Try.func18, Try.ntmps18
  go_upto_region 1 with (fail)
  rw [← hW0]
  clear hW0
  go_wp2_with (go_at_call 75; refine (HSE.out _ E0.out).mono ?_; rintro e W1 ⟨rfl, hx⟩; have X := Lib.hid (E0.out.trans hx); clear hx)
  go_ret2
  exact ⟨rfl, X.out⟩
set_option maxRecDepth 100000 in
set_option maxHeartbeats 1000000 in
theorem deflectionsOf_ok {L : Int} {J K : Option Addr} {n cj ck : Nat} {js : List Int} {ks : List Rg} {w : World} (hn : js.length = n) (hJ : RowsAt 1 I1 w J js) (hm : ks.length = n) (hK : RowsAt 2 Rg.enc w K ks) (hz : (checkS L js ks).2 = 0) :
    Calls Try.prog 18 #[.agg #[.int .i64 L, .slice J n cj, .slice K n ck]] w fun e w' => ∃ A c, e = .returned (.tuple #[.slice A n c, .int .i64 0]) ∧ RowsAt 2 Rg.enc w' A (deflL L js ks n) ∧ Ext w w' := by
  have hs := checkS_ok hz
  have HSE := Lib.hid (fun W (e : Ext w W) => show Calls Try.prog 75 #[.agg #[.int .i64 L, .slice J n cj, .slice K n ck]] W fun e w' => e = .returned (.int .i64 0) ∧ Ext W w' from by
    have := shaftError_any (cj := cj) (ck := ck) (L := L) hn (hJ.ext e) hm (hK.ext e)
    rw [hz] at this
    exact this)
  have HDA := Lib.hid (fun (k : Nat) (hk : k < n) W (e : Ext w W) => deflection_any (cj := cj) (ck := ck) (p := js.getD k 0) hn (hJ.ext e) hm (hK.ext e) hs (by have := hs.at' k (by omega); omega))
  have HJ := Lib.hid hJ
  have HN := Lib.hid hn
  have h4 : n ≤ 4 := by have := hs.four; omega
  clear hn hJ hm hK hs hz
  obtain ⟨W0, hW0⟩ : ∃ W0, W0 = w.alloc (.cells #[.int .i64 L, .slice J n cj, .slice K n ck] 25) := ⟨_, rfl⟩
  have K0 := Lib.hid (show Blk W0 (w.heap.size) 25 #[.int .i64 L, .slice J n cj, .slice K n ck] by rw [hW0]; exact Blk.new _ _ _)
  have E0 := Lib.hid (show Ext w W0 by rw [hW0]; exact Ext.alloc _ _)
  have y0_0 : W0.cell? ⟨w.heap.size, 0, none⟩ = some (.int .i64 L) := K0.out.cell 0
  have y0_1 : W0.cell? ⟨w.heap.size, 1, none⟩ = some (.slice J n cj) := K0.out.cell 1
  have y0_2 : W0.cell? ⟨w.heap.size, 2, none⟩ = some (.slice K n ck) := K0.out.cell 2
  go_enter Try.func18, Try.ntmps18
  go_upto_region 1 with (fail)
  rw [← hW0]
  clear hW0
  go_wp2_with (go_at_call 75; refine (HSE.out _ E0.out).mono ?_; rintro e W1 ⟨rfl, hx⟩; replace E0 := Lib.hid (E0.out.trans hx); replace K0 := Lib.hid (K0.out.ext hx); clear hx y0_0 y0_1 y0_2; refine Hid.out ?_)
  refine Lib.hid ?_
  have y0_0 : W1.cell? ⟨w.heap.size, 0, none⟩ = some (.int .i64 L) := K0.out.cell 0
  have y0_1 : W1.cell? ⟨w.heap.size, 1, none⟩ = some (.slice J n cj) := K0.out.cell 1
  have y0_2 : W1.cell? ⟨w.heap.size, 2, none⟩ = some (.slice K n ck) := K0.out.cell 2
  go_wp2
  clear y0_0 y0_1 y0_2 HSE
  go_loopw [5, 16] (fun v i wr => ∃ (k c : Nat) (R : Option Addr), k ≤ n ∧ i = .int .i64 (k : Int) ∧ v = .slice R k c ∧ wr.ownsRow W1.heap.size 33 2 (.slice R k c) k ((deflL L js ks k).flatMap Rg.enc) ∧ Ext W1 wr) (fun _ i _ => n - (intOf i).toNat)
  case atStart => exact ⟨0, 0, none, Nat.zero_le _, rfl, rfl, own_none _ _ _ _, Ext.refl _⟩
  case round =>
    obtain ⟨k, c, R, hk, rfl, rfl, ho, hx⟩ := hrel
    have X := Lib.hid (E0.out.trans hx)
    have X0 := Lib.hid hx
    have O := Lib.hid ho
    have SZ := Lib.hid (show W1.heap.size ≤ wr.heap.size from hx.size)
    have K1 := Lib.hid (K0.out.ext hx)
    clear hx ho
    by_cases hlt : k < n
    · obtain ⟨jb, jo, rfl, hjb, hjc⟩ := row_I1 (HJ.out.ext X.out) (i := k) (by have := HN.out; omega)
      have HD := Lib.hid (fun W (e : Ext w W) => HDA.out k hlt W e)
      have HS := Lib.hid (deflL_succ L js ks k)
      have HE : deflAt L js ks k = defl L js ks (js.getD k 0) := rfl
      rw [HE] at HS
      clear HE
      generalize defl L js ks (js.getD k 0) = d at *
      generalize js.getD k 0 = j at *
      have hki : (k : Int) < (n : Int) := by omega
      have z0 : wr.cell? ⟨w.heap.size, 0, none⟩ = some (.int .i64 L) := K1.out.cell 0
      have z1 : wr.cell? ⟨w.heap.size, 1, none⟩ = some (.slice (some ⟨jb, jo, none⟩) n cj) := K1.out.cell 1
      have z2 : wr.cell? ⟨w.heap.size, 2, none⟩ = some (.slice K n ck) := K1.out.cell 2
      go_wp2_with (go_at_call 76; refine (HD.out _ X.out).mono ?_; rintro e W2 ⟨rfl, hx⟩; have X2 := Lib.hid (X0.out.trans hx); replace O := Lib.hid (own_ext O.out hx); replace SZ := Lib.hid (Nat.le_trans SZ.out hx.size); clear hx z0 z1 z2 hjc; refine Hid.out ?_)
      refine Lib.hid ?_
      obtain ⟨q9, hq9⟩ : ∃ q, q = W2.heap.size := ⟨_, rfl⟩
      obtain ⟨W3, hW3⟩ : ∃ W, W = W2.alloc (.cells #[.int .i64 d.1, .int .i64 d.2] 33) := ⟨_, rfl⟩
      have K9 := Lib.hid (show Blk W3 q9 33 #[.int .i64 d.1, .int .i64 d.2] by rw [hW3, hq9]; exact Blk.new _ _ _)
      have E3 := Lib.hid (show Ext W2 W3 by rw [hW3]; exact Ext.alloc _ _)
      go_wp2_with
        (rw [← hW3, ← hq9]
         refine append_Rg (own_ext O.out E3.out) (by omega) (by have := SZ.out; have := E3.out.size; omega) K9.out rfl (.tmp 20) (.tmp 25) rfl rfl rfl rfl ?_
         intro R' c' w2 hown' hkb hxe hgs
         have O2 := Lib.hid hown'
         have X3 := Lib.hid (hxe W1 (X2.out.trans E3.out) (Nat.le_refl _))
         clear hown' hkb hxe hgs)
      go_roundw
      case rel => exact ⟨k + 1, _, _, by omega, by go_num, rfl, by rw [HS.out]; exact O2.out, X3.out⟩
      case measure => simp [intOf]; omega
    · obtain rfl : k = n := by omega
      have hkn : ¬ (k : Int) < (k : Int) := by omega
      have H := Lib.hid (show RowsAt 2 Rg.enc wr R (deflL L js ks k) from rows_own (deflL_len _ _ _ _) (fun _ => rfl) O.out (by omega))
      go_wp2
      go_ret2
      exact ⟨R, ⟨c, rfl⟩, H.out, X.out⟩

end Go.Proofs.Ytjdilmmpdlcimaa
