/- The reference of shafts after strokes. -/
import Derived.Test.YtjdilmmpdlcimaaGreatFA
import Derived.Test.YtjdilmmpdlcimaaGreatC7
import Derived.Test.YtjdilmmpdlcimaaGreatC11
import Derived.Lib.MinMax
import Derived.Deep.DeepCutAuto
import Derived.BigQuiet

namespace Go.Proofs.YtjdilmmpdlcimaaGreat
open Go.RowKit Go.Shelf Go.Mem Go.RegInv
attribute [local go_sem] RelUpon_value RelUpon_skip RelUpon_enter BigFrame.eval_const BigFrame.eval_global BigFrame.eval_func


/-- The kinks after the first k strokes. -/
def aftU (ga sp : Int) (l : List Sk) (ks : List Rg) (n k : Nat) : List Rg := (List.range n).map fun i => ((ks.getD i default).1 + sumK (bentV ga sp) l (i : Int) k, (ks.getD i default).2 + sumK (bentV ga sp) l (i : Int) k)
theorem aftU_len (ga sp : Int) (l : List Sk) (ks : List Rg) (n k : Nat) : (aftU ga sp l ks n k).length = n := by simp [aftU]
theorem aftU_at {ga sp : Int} {l : List Sk} {ks : List Rg} {n k i : Nat} (h : i < n) : (aftU ga sp l ks n k)[i]? = some ((ks.getD i default).1 + sumK (bentV ga sp) l (i : Int) k, (ks.getD i default).2 + sumK (bentV ga sp) l (i : Int) k) := by simp [aftU, h]
theorem aftU_zero {ga sp : Int} {l : List Sk} {ks : List Rg} {n : Nat} (h : ks.length = n) : aftU ga sp l ks n 0 = ks := by
  apply List.ext_getElem?
  intro i
  by_cases hi : i < n
  · rw [aftU_at hi]
    simp [sumK, show i < ks.length by omega]
  · rw [List.getElem?_eq_none (by rw [aftU_len]; omega), List.getElem?_eq_none (by omega)]
theorem aftU_all {ga sp : Int} {l : List Sk} {ks : List Rg} {n : Nat} : aftU ga sp l ks n l.length = aftK ga sp l ks n := rfl
theorem aftU_next {ga sp : Int} {l : List Sk} {ks : List Rg} {n k j : Nat} {r : Rg} (hj : j < n) (hl : (l.getD k default).j = (j : Int)) (hr : (aftU ga sp l ks n k)[j]? = some r) : aftU ga sp l ks n (k + 1) = (aftU ga sp l ks n k).set j (r.1 + bentV ga sp (l.getD k default), r.2 + bentV ga sp (l.getD k default)) := by
  rw [aftU_at hj] at hr
  obtain rfl := Option.some.inj hr
  apply List.ext_getElem?
  intro i
  rw [List.getElem?_set]
  by_cases hi : i < n
  · rw [aftU_at hi, aftU_at hi]
    by_cases he : j = i
    · subst he
      rw [if_pos rfl, if_pos (by rw [aftU_len]; exact hi), sumK, if_pos hl]
      simp only [Option.some.injEq, Prod.mk.injEq]
      omega
    · rw [if_neg he, sumK, if_neg (by rw [hl]; omega)]
  · rw [List.getElem?_eq_none (by rw [aftU_len]; omega), if_neg (by omega), List.getElem?_eq_none (by rw [aftU_len]; omega)]
set_option maxRecDepth 100000 in
set_option maxHeartbeats 4000000 in
theorem refAfter_any {L : Int} {J K : Option Addr} {n cj ck : Nat} {js : List Int} {ks : List Rg} {w : World} (hn : js.length = n) (hJ : RowsAt 1 I1 w J js) (hm : ks.length = n) (hK : RowsAt 2 Rg.enc w K ks) {P : Option Addr} {np cp : Nat} {am : List Int} {sp ga li : Int} {A : Option Addr} {N ca : Nat} {l : List Sk} (hjn : J = none → cj = 0) (hkn : K = none → ck = 0) (hs : ShOK L js ks) (hp : PrOK am sp ga li) (hN : l.length = N) (hA : RowsAt 3 Sk.enc w A l) (hl : PlOK n am l) :
    Calls Tryz.prog 87 #[.agg #[.int .i64 L, .slice J n cj, .slice K n ck], .agg #[.slice P np cp, .int .i64 sp, .int .i64 ga, .int .i64 li], .slice A N ca] w fun e w' => ∃ v, e = .returned (.tuple #[v, .int .i64 (aftE ga sp l ks n)]) ∧ AftC w.heap.size L js (aftK ga sp l ks n) n (aftE ga sp l ks n) v w' ∧ Ext w w' := by
  have hn4 : n ≤ 4 := by have := hs.four; omega
  have HCW := Lib.hid (fun W (e : Ext w W) => copyShaftW_any (L := L) (cj := cj) (ck := ck) hn (hJ.ext e) hm (hK.ext e) hjn hkn (by omega) (by omega))
  have HNJ := Lib.hid hn
  have HMK := Lib.hid hm
  have HN := Lib.hid hN
  have HA := Lib.hid hA
  have hN4 : N ≤ 4 := by have := hl.1; omega
  have HPL := Lib.hid (fun k (hk : k < N) => hl.2 k (by omega))
  have HSP := Lib.hid hp.sp1
  have HGA := Lib.hid hp.ga1
  have HAM := Lib.hid hp.am1
  have HKI := Lib.hid hs.kink
  have HE := Lib.hid (show aftE ga sp l ks n = (firstAt (aftAt ga sp l ks n) n 0).2 from rfl)
  have HAT := Lib.hid (fun i (hi : i < n) => show aftAt ga sp l ks n i = kinkE ((aftK ga sp l ks n).getD i default) from rfl)
  generalize aftE ga sp l ks n = ae at *
  generalize hak : aftK ga sp l ks n = ak at *
  have HAK := Lib.hid hak
  clear hak
  generalize aftAt ga sp l ks n = aa at *
  clear hn hJ hm hK hjn hkn hs hp hN hA hl
  obtain ⟨fa, hfa⟩ : ∃ f, f = firstAt aa n 0 := ⟨_, rfl⟩
  have HFA := Lib.hid hfa
  rw [← hfa] at HE
  clear hfa
  obtain ⟨W0, hW0⟩ : ∃ W0, W0 = ((w.alloc (.cells #[.int .i64 L, .slice J n cj, .slice K n ck] 25)).alloc (.cells #[.slice P np cp, .int .i64 sp, .int .i64 ga, .int .i64 li] 27)).alloc (.cells #[.int .i64 0, .slice none 0 0, .slice none 0 0] 25) := ⟨_, rfl⟩
  have K0 := Lib.hid (show Blk W0 (w.heap.size) 25 #[.int .i64 L, .slice J n cj, .slice K n ck] by rw [hW0]; exact ((Blk.new _ _ _).alloc _).alloc _)
  have K1 := Lib.hid (show Blk W0 (w.heap.size + 1) 27 #[.slice P np cp, .int .i64 sp, .int .i64 ga, .int .i64 li] by rw [hW0]; exact (Blk.newAt _ _ _ (by simp)).alloc _)
  have K2 := Lib.hid (show Blk W0 (w.heap.size + 1 + 1) 25 #[.int .i64 0, .slice none 0 0, .slice none 0 0] by rw [hW0]; exact Blk.newAt _ _ _ (by simp))
  have E0 := Lib.hid (show Ext w W0 by rw [hW0]; exact ((Ext.alloc _ _).trans (Ext.alloc _ _)).trans (Ext.alloc _ _))
  have y0_0 : W0.cell? ⟨w.heap.size, 0, none⟩ = some (.int .i64 L) := K0.out.cell 0
  have y0_1 : W0.cell? ⟨w.heap.size, 1, none⟩ = some (.slice J n cj) := K0.out.cell 1
  have y0_2 : W0.cell? ⟨w.heap.size, 2, none⟩ = some (.slice K n ck) := K0.out.cell 2
  have y1_0 : W0.cell? ⟨w.heap.size + 1, 0, none⟩ = some (.slice P np cp) := K1.out.cell 0
  have y1_1 : W0.cell? ⟨w.heap.size + 1, 1, none⟩ = some (.int .i64 sp) := K1.out.cell 1
  have y1_2 : W0.cell? ⟨w.heap.size + 1, 2, none⟩ = some (.int .i64 ga) := K1.out.cell 2
  have y1_3 : W0.cell? ⟨w.heap.size + 1, 3, none⟩ = some (.int .i64 li) := K1.out.cell 3
  have y2_0 : W0.cell? ⟨w.heap.size + 1 + 1, 0, none⟩ = some (.int .i64 0) := K2.out.cell 0
  have y2_1 : W0.cell? ⟨w.heap.size + 1 + 1, 1, none⟩ = some (.slice none 0 0) := K2.out.cell 1
  have y2_2 : W0.cell? ⟨w.heap.size + 1 + 1, 2, none⟩ = some (.slice none 0 0) := K2.out.cell 2
  go_enter Tryz.func87, Tryz.ntmps87
  go_upto_region 1 with (fail)
  rw [← hW0]
  clear hW0
  go_wp2_with (go_at_call 9; refine (HCW.out _ E0.out).mono ?_; rintro e W1 ⟨J1, cj1, Kx, ck1, rfl, oj, ok, hx⟩; have OJ := Lib.hid (own_low oj E0.out.size); have OK := Lib.hid (own_low ok E0.out.size); have X := Lib.hid (E0.out.trans hx); replace K1 := Lib.hid (K1.out.ext hx); replace K2 := Lib.hid (K2.out.ext hx); clear hx oj ok E0 K0 y0_0 y0_1 y0_2 y1_0 y1_1 y1_2 y1_3 y2_0 y2_1 y2_2; refine Hid.out ?_)
  refine Lib.hid ?_
  clear HCW
  obtain ⟨q8, hq⟩ : ∃ q, q = W1.heap.size := ⟨_, rfl⟩
  obtain ⟨W2, hW2⟩ : ∃ W, W = W1.alloc (.cells #[.int .i64 L, .slice J1 n cj1, .slice Kx n ck1] 25) := ⟨_, rfl⟩
  have hx : Ext W1 W2 := by rw [hW2]; exact Ext.alloc _ _
  have K8 := Lib.hid (show Blk W2 q8 25 #[.int .i64 L, .slice J1 n cj1, .slice Kx n ck1] by rw [hW2, hq]; exact Blk.new _ _ _)
  replace X := Lib.hid (X.out.trans hx)
  replace K1 := Lib.hid (K1.out.ext hx)
  replace K2 := Lib.hid (K2.out.ext hx)
  replace OJ := Lib.hid (own_ext OJ.out hx)
  replace OK := Lib.hid (own_ext OK.out hx)
  go_upto_region 2 with (fail)
  rw [← hW2, ← hq]
  clear hx hW2 hq
  go_wp2
  go_loopw [9] (fun i wr => ∃ k : Nat, k ≤ N ∧ i = .int .i64 (k : Int) ∧ Ext w wr ∧ Blk wr (w.heap.size + 1) 27 #[.slice P np cp, .int .i64 sp, .int .i64 ga, .int .i64 li] ∧ Blk wr (w.heap.size + 1 + 1) 25 #[.int .i64 0, .slice none 0 0, .slice none 0 0] ∧ Blk wr (q8) 25 #[.int .i64 L, .slice J1 n cj1, .slice Kx n ck1] ∧ wr.ownsRow w.heap.size 3 1 (.slice J1 n cj1) n (js.flatMap I1) ∧ wr.ownsRow w.heap.size 49 2 (.slice Kx n ck1) n ((aftU ga sp l ks n k).flatMap Rg.enc)) (fun i _ => N - (intOf i).toNat)
  case atStart => exact ⟨0, by omega, rfl, X.out, K1.out, K2.out, K8.out, OJ.out, by rw [aftU_zero HMK.out]; exact OK.out⟩
  case round =>
    clear X K1 K2 K8 OJ OK
    obtain ⟨k, hk, rfl, h1, h2, h3, h4, h5, h6⟩ := hrel
    have X := Lib.hid h1
    have K1 := Lib.hid h2
    have K2 := Lib.hid h3
    have K8 := Lib.hid h4
    have OJ := Lib.hid h5
    have OK := Lib.hid h6
    clear h1 h2 h3 h4 h5 h6
    by_cases hlt : k < N
    · have hxk := getD_some (xs := l) (i := k) (by have := HN.out; omega)
      obtain ⟨hx0, hx1, hx2⟩ := HPL.out k hlt
      have hAB : 0 ≤ (l.getD k default).a ∧ (l.getD k default).a ≤ 10000 := by
        obtain ⟨q, hq, he⟩ := hasB_ok hx2
        have := HAM.out q hq
        omega
      obtain ⟨j, hj⟩ : ∃ j : Nat, (l.getD k default).j = (j : Int) := ⟨(l.getD k default).j.toNat, by omega⟩
      have hjn : j < n := by omega
      have hra := aftU_at (ga := ga) (sp := sp) (l := l) (ks := ks) (k := k) hjn
      have hsb := sumK_bd (f := bentV ga sp) (l := l) (j := (j : Int)) (B := 10000000) (by omega) (fun q hq => by
        obtain ⟨_, _, h3⟩ := HPL.out q (by have := HN.out; omega)
        obtain ⟨q2, hq2, he⟩ := hasB_ok h3
        have := HAM.out q2 hq2
        exact bentV_bd HSP.out HGA.out (by omega)) k (by have := HN.out; omega)
      have hki2 := HKI.out j (by have := HNJ.out; omega)
      have hbv := bentV_bd (x := l.getD k default) HSP.out HGA.out hAB
      obtain ⟨r, hr⟩ : ∃ r : Rg, r = ((ks.getD j default).1 + sumK (bentV ga sp) l (j : Int) k, (ks.getD j default).2 + sumK (bentV ga sp) l (j : Int) k) := ⟨_, rfl⟩
      rw [← hr] at hra
      have hrb : (-90000000 ≤ r.1 ∧ r.1 ≤ 90000000) ∧ (-90000000 ≤ r.2 ∧ r.2 ≤ 90000000) := by
        rw [hr]
        dsimp only
        have hk4 : (k : Int) ≤ 4 := by omega
        have hm1 : (10000000 : Int) * (k : Int) ≤ 40000000 := by omega
        omega
      clear hr hsb hki2
      have HNX := Lib.hid (aftU_next (ga := ga) (sp := sp) hjn hj hra)
      have HBT := Lib.hid (fun W => refBent_any (P := P) (np := np) (cp := cp) (li := li) (x := l.getD k default) W HSP.out HGA.out hAB)
      generalize bentV ga sp (l.getD k default) = bv at *
      generalize l.getD k default = x at *
      obtain ⟨xj, xa, xu⟩ := x
      dsimp only at hj hx0 hx1 hx2 hAB HBT
      subst hj
      obtain ⟨b, o, rfl, hb, hc⟩ := row_at (HA.out.ext X.out) hxk
      obtain ⟨g, rfl, hg⟩ := own_at OK.out (by omega)
      have hgc := fun u v (hu : (Rg.enc r)[u]? = some v) => own_cell OK.out (flat_atG (k := 2) (enc := Rg.enc) (fun _ => rfl) (aftU ga sp l ks n k) j r u v hra hu)
      have G0 := Lib.hid (hgc 0 _ rfl)
      have G1 := Lib.hid (hgc 1 _ rfl)
      have hki : (k : Int) < (N : Int) := by omega
      obtain ⟨V, hV⟩ : ∃ V, V = wr := ⟨_, rfl⟩
      rw [← hV] at X K1 K2 K8 OJ OK G0 G1 hc ⊢
      clear hV hgc hb hxk hx0 hx1 hx2 hAB
      have p0 : V.cell? ⟨b, o + k * 3, none⟩ = some (.int .i64 (j : Int)) := hc 0 _ rfl
      have p1 : V.cell? ⟨b, o + k * 3 + 1, none⟩ = some (.int .i64 xa) := hc 1 _ rfl
      have p2 : V.cell? ⟨b, o + k * 3 + 2, none⟩ = some (.bool xu) := hc 2 _ rfl
      have g0 : V.cell? ⟨g, j * 2, none⟩ = some (.int .i64 r.1) := G0.out.1
      have g1 : V.cell? ⟨g, j * 2 + 1, none⟩ = some (.int .i64 r.2) := G1.out.1
      clear hc
      have y1_0 : V.cell? ⟨w.heap.size + 1, 0, none⟩ = some (.slice P np cp) := K1.out.cell 0
      have y1_1 : V.cell? ⟨w.heap.size + 1, 1, none⟩ = some (.int .i64 sp) := K1.out.cell 1
      have y1_2 : V.cell? ⟨w.heap.size + 1, 2, none⟩ = some (.int .i64 ga) := K1.out.cell 2
      have y1_3 : V.cell? ⟨w.heap.size + 1, 3, none⟩ = some (.int .i64 li) := K1.out.cell 3
      have y8_0 : V.cell? ⟨q8, 0, none⟩ = some (.int .i64 L) := K8.out.cell 0
      have y8_1 : V.cell? ⟨q8, 1, none⟩ = some (.slice J1 n cj1) := K8.out.cell 1
      have y8_2 : V.cell? ⟨q8, 2, none⟩ = some (.slice (some ⟨g, 0, none⟩) n ck1) := K8.out.cell 2
      go_upto_region 5 with (fail)
      refine wp_region_free [.op, .op, .op, .op, .op, .op, .op, .op, .op, .op, .op, .op, .op, .op, .op, .new, .late (.int .i64 (bv)), .store] [17] [11, 35] [11] [some 21, some 22, some 23, some 24, some 25, some 26, some 27, some 28, some 29, some 30, some 31, some 32, some 33, some 34, some 35, some 11, some 10, none] [[4], [2], [9], [22, 23], [24], [21, 25], [8], [27], [2], [9], [29, 30], [31], [32], [28, 33], [34], [], [26], [11, 35]]
        [Is (.agg #[.slice P np cp, .int .i64 (sp), .int .i64 (ga), .int .i64 (li)]), Is (.slice (some ⟨b, o, none⟩) N ca), Is (.int .i64 ((k : Int))), Is (.pointer (some ⟨b, o + k * 3, none⟩)), Is (.agg #[.int .i64 ((j : Int)), .int .i64 (xa), .bool (xu)]), Is (.int .i64 (bv)), Is (.pointer (some ⟨q8, 2, none⟩)), Is (.slice (some ⟨g, 0, none⟩) n ck1), Is (.slice (some ⟨b, o, none⟩) N ca), Is (.int .i64 ((k : Int))), Is (.pointer (some ⟨b, o + k * 3, none⟩)), Is (.pointer (some ⟨b, o + k * 3, none⟩)), Is (.int .i64 ((j : Int))), Is (.pointer (some ⟨g, j * 2, none⟩)), Is (.agg #[.int .i64 r.1, .int .i64 r.2]), NewP V.heap.size 49 #[.int .i64 0, .int .i64 0], Is (.int .i64 (bv)), fun _ _ => True]
        (by kernel_rfl) (by kernel_rfl) (by kernel_rfl) (by kernel_rfl) (by kernel_rfl) (by kernel_rfl) (by kernel_rfl) (by kernel_rfl) (by kernel_rfl) Ext (fun W => Ext V W)
        (fun W _ => Ext.refl W) (fun W W' h k => h.trans k) (fun W W' h => h.size) ?_ (Ext.drew _) ?_ ?_
      · repeat (refine ⟨fun _ _ _ _ k h => (by first | exact h | exact (by first | exact IntsAt.ext h k | exact NewP.ext h k)), ?_⟩)
        exact trivial
      · refine ⟨?_, ?_, ?_, ?_, ?_, ?_, ?_, ?_, ?_, ?_, ?_, ?_, ?_, ?_, ?_, ?_, ?_, trivial⟩
        · intro ρ W ⟨kc, kg, kf⟩ hF hs
          obtain ⟨h0, -⟩ := hs
          replace h0 : ρ (.tmp 4) = .pointer (some ⟨w.heap.size + 1, 0, none⟩) := h0
          have hc0 : W.cell? ⟨w.heap.size + 1, 0, none⟩ = some (.slice P np cp) := hF.cell (by assumption)
          have hc1 : W.cell? ⟨w.heap.size + 1, 1, none⟩ = some (.int .i64 (sp)) := hF.cell (by assumption)
          have hc2 : W.cell? ⟨w.heap.size + 1, 2, none⟩ = some (.int .i64 (ga)) := hF.cell (by assumption)
          have hc3 : W.cell? ⟨w.heap.size + 1, 3, none⟩ = some (.int .i64 (li)) := hF.cell (by assumption)
          go_simp
          exact ⟨Ext.refl _, rfl⟩
        · intro ρ W ⟨kc, kg, kf⟩ hF hs
          obtain ⟨h0, -⟩ := hs
          replace h0 : ρ (.tmp 2) = .slice (some ⟨b, o, none⟩) N ca := h0
          go_simp
          exact ⟨Ext.refl _, rfl⟩
        · intro ρ W ⟨kc, kg, kf⟩ hF hs
          obtain ⟨h0, -⟩ := hs
          replace h0 : ρ (.tmp 9) = .int .i64 ((k : Int)) := h0
          go_simp
          exact ⟨Ext.refl _, rfl⟩
        · intro ρ W ⟨kc, kg, kf⟩ hF hs
          obtain ⟨h0, h1, -⟩ := hs
          replace h0 : ρ (.tmp 22) = .slice (some ⟨b, o, none⟩) N ca := h0
          replace h1 : ρ (.tmp 23) = .int .i64 ((k : Int)) := h1
          have hb1 : (k : Int) < (N : Int) := by omega
          have hb3 : (0 : Int) ≤ (k : Int) := by omega
          have hb4 : ((k : Int)).toNat = k := by omega
          have hb8 : k < N := by omega
          go_simp
          exact ⟨Ext.refl _, rfl⟩
        · intro ρ W ⟨kc, kg, kf⟩ hF hs
          obtain ⟨h0, -⟩ := hs
          replace h0 : ρ (.tmp 24) = .pointer (some ⟨b, o + k * 3, none⟩) := h0
          have hc0 : W.cell? ⟨b, o + k * 3, none⟩ = some (.int .i64 ((j : Int))) := hF.cell (by assumption)
          have hc1 : W.cell? ⟨b, o + k * 3 + 1, none⟩ = some (.int .i64 (xa)) := hF.cell (by assumption)
          have hc2 : W.cell? ⟨b, o + k * 3 + 2, none⟩ = some (.bool (xu)) := hF.cell (by assumption)
          go_simp
          exact ⟨Ext.refl _, rfl⟩
        · intro ρ W ⟨kc, kg, kf⟩ hF hs
          obtain ⟨h0, h1, -⟩ := hs
          replace h0 : ρ (.tmp 21) = .agg #[.slice P np cp, .int .i64 (sp), .int .i64 (ga), .int .i64 (li)] := h0
          replace h1 : ρ (.tmp 25) = .agg #[.int .i64 ((j : Int)), .int .i64 (xa), .bool (xu)] := h1
          go_simp
          refine (HBT.out _).mono ?_; rintro e w' ⟨rfl, hx⟩; exact ⟨_, rfl, hx, rfl⟩
        · intro ρ W ⟨kc, kg, kf⟩ hF hs
          obtain ⟨h0, -⟩ := hs
          replace h0 : ρ (.tmp 8) = .pointer (some ⟨q8, 0, none⟩) := h0
          go_simp
          exact ⟨Ext.refl _, rfl⟩
        · intro ρ W ⟨kc, kg, kf⟩ hF hs
          obtain ⟨h0, -⟩ := hs
          replace h0 : ρ (.tmp 27) = .pointer (some ⟨q8, 2, none⟩) := h0
          have hc0 : W.cell? ⟨q8, 2, none⟩ = some (.slice (some ⟨g, 0, none⟩) n ck1) := hF.cell (by assumption)
          go_simp
          exact ⟨Ext.refl _, rfl⟩
        · intro ρ W ⟨kc, kg, kf⟩ hF hs
          obtain ⟨h0, -⟩ := hs
          replace h0 : ρ (.tmp 2) = .slice (some ⟨b, o, none⟩) N ca := h0
          go_simp
          exact ⟨Ext.refl _, rfl⟩
        · intro ρ W ⟨kc, kg, kf⟩ hF hs
          obtain ⟨h0, -⟩ := hs
          replace h0 : ρ (.tmp 9) = .int .i64 ((k : Int)) := h0
          go_simp
          exact ⟨Ext.refl _, rfl⟩
        · intro ρ W ⟨kc, kg, kf⟩ hF hs
          obtain ⟨h0, h1, -⟩ := hs
          replace h0 : ρ (.tmp 29) = .slice (some ⟨b, o, none⟩) N ca := h0
          replace h1 : ρ (.tmp 30) = .int .i64 ((k : Int)) := h1
          have hb1 : (k : Int) < (N : Int) := by omega
          have hb3 : (0 : Int) ≤ (k : Int) := by omega
          have hb4 : ((k : Int)).toNat = k := by omega
          have hb8 : k < N := by omega
          go_simp
          exact ⟨Ext.refl _, rfl⟩
        · intro ρ W ⟨kc, kg, kf⟩ hF hs
          obtain ⟨h0, -⟩ := hs
          replace h0 : ρ (.tmp 31) = .pointer (some ⟨b, o + k * 3, none⟩) := h0
          go_simp
          exact ⟨Ext.refl _, rfl⟩
        · intro ρ W ⟨kc, kg, kf⟩ hF hs
          obtain ⟨h0, -⟩ := hs
          replace h0 : ρ (.tmp 32) = .pointer (some ⟨b, o + k * 3, none⟩) := h0
          have hc0 : W.cell? ⟨b, o + k * 3, none⟩ = some (.int .i64 ((j : Int))) := hF.cell (by assumption)
          go_simp
          exact ⟨Ext.refl _, rfl⟩
        · intro ρ W ⟨kc, kg, kf⟩ hF hs
          obtain ⟨h0, h1, -⟩ := hs
          replace h0 : ρ (.tmp 28) = .slice (some ⟨g, 0, none⟩) n ck1 := h0
          replace h1 : ρ (.tmp 33) = .int .i64 ((j : Int)) := h1
          have hb1 : (j : Int) < (n : Int) := by omega
          have hb3 : (0 : Int) ≤ (j : Int) := by omega
          have hb4 : ((j : Int)).toNat = j := by omega
          have hb8 : j < n := by omega
          go_simp
          exact ⟨Ext.refl _, rfl⟩
        · intro ρ W ⟨kc, kg, kf⟩ hF hs
          obtain ⟨h0, -⟩ := hs
          replace h0 : ρ (.tmp 34) = .pointer (some ⟨g, j * 2, none⟩) := h0
          have hc0 : W.cell? ⟨g, j * 2, none⟩ = some (.int .i64 (r.1)) := hF.cell (by assumption)
          have hc1 : W.cell? ⟨g, j * 2 + 1, none⟩ = some (.int .i64 (r.2)) := hF.cell (by assumption)
          go_simp
          exact ⟨Ext.refl _, rfl⟩
        · intro ρ W ⟨kc, kg, kf⟩ hF hs
          exact ⟨W.alloc (.cells #[.int .i64 0, .int .i64 0] 49), (by go_simp), by simp, Ext.alloc _ _, _, rfl, hF.size, Blk.new _ _ _⟩
        · refine ⟨rfl, fun ρ W ⟨kc, kg, kf⟩ hF hs W' => ?_⟩
          obtain ⟨h0, -⟩ := hs
          replace h0 : ρ (.tmp 26) = .int .i64 (bv) := h0
          go_simp
      · intro fv U hF hs hap σ hσ ρ ⟨kc, kg, kf⟩ hr
        obtain ⟨-, -, -, -, -, -, -, -, -, -, -, -, -, -, h35, h11, h10, -⟩ := hs
        replace h35 : fv 35 = .agg #[.int .i64 r.1, .int .i64 r.2] := h35
        replace h11 : (NewP V.heap.size 49 #[.int .i64 0, .int .i64 0]) (fv 11) U := h11
        replace h10 : fv 10 = .int .i64 (bv) := h10
        obtain ⟨r0, r1, -⟩ := hr
        replace r0 : ρ (.tmp 11) = fv 11 := r0
        replace r1 : ρ (.tmp 35) = .agg #[.int .i64 r.1, .int .i64 r.2] := r1.trans h35
        obtain ⟨q11, hq11, hqs11, hb11⟩ := h11
        rw [hq11] at r0
        have f11_0 := hb11.free 0
        have c11_0 : U.cell? ⟨q11, 0, none⟩ = some (.int .i64 0) := hb11.cell 0
        have f11_1 := hb11.free 1
        have c11_1 : U.cell? ⟨q11, 1, none⟩ = some (.int .i64 0) := hb11.cell 1
        refine stores_one _ rfl hσ ((U.setCell ⟨q11, 0, none⟩ (.int .i64 r.1)).setCell ⟨q11, 1, none⟩ (.int .i64 r.2)) (by go_simp) ?_
        obtain ⟨V2, hV2⟩ : ∃ Vx, Vx = (U.setCell ⟨q11, 0, none⟩ (.int .i64 r.1)).setCell ⟨q11, 1, none⟩ (.int .i64 r.2) := ⟨_, rfl⟩
        rw [← hV2]
        have K11 := Lib.hid (show Blk V2 q11 49 #[.int .i64 r.1, .int .i64 r.2] by rw [hV2]; exact (hb11.setSame 0 _).setSame 1 _)
        have XN := Lib.hid (show Ext V V2 by rw [hV2]; exact Ext.set (Ext.set hF (by dsimp only; exact hqs11) _) (by dsimp only; exact hqs11) _)
        have L11 := Lib.hid hqs11
        clear f11_0 c11_0 f11_1 c11_1
        clear hV2 hF hap hσ r0 r1 kc kg kf hb11 hqs11
        simp only [fin, List.filterMap]
        go_simp
        try rw [hq11]
        clear hq11
        clear ρ σ h35 h10
        go_upto_region 6 with (fail)
        replace X := Lib.hid (X.out.trans XN.out)
        replace K1 := Lib.hid (K1.out.ext XN.out)
        replace K2 := Lib.hid (K2.out.ext XN.out)
        replace K8 := Lib.hid (K8.out.ext XN.out)
        replace OJ := Lib.hid (own_ext OJ.out XN.out)
        replace OK := Lib.hid (own_ext OK.out XN.out)
        replace p0 := XN.out.cell p0
        replace g0 := XN.out.cell g0
        replace g1 := XN.out.cell g1
        clear p1 p2 y1_0 y1_1 y1_2 y1_3 y8_0 y8_1 y8_2
        obtain ⟨V3, hV3⟩ : ∃ V, V = V2 := ⟨_, rfl⟩
        rw [← hV3] at X K1 K2 K8 OJ OK K11 p0 g0 g1 ⊢
        clear hV3 XN
        have y8_0 : V3.cell? ⟨q8, 0, none⟩ = some (.int .i64 L) := K8.out.cell 0
        have y8_1 : V3.cell? ⟨q8, 1, none⟩ = some (.slice J1 n cj1) := K8.out.cell 1
        have y8_2 : V3.cell? ⟨q8, 2, none⟩ = some (.slice (some ⟨g, 0, none⟩) n ck1) := K8.out.cell 2
        have e0 : V3.cell? ⟨q11, 0, none⟩ = some (.int .i64 r.1) := K11.out.cell 0
        have e1 : V3.cell? ⟨q11, 1, none⟩ = some (.int .i64 r.2) := K11.out.cell 1
        refine wp_region_partR 17 [some 36, some 37, some 38, some 39, some 40, some 41, some 42, some 43, some 44, some 45, some 46, some 47, some 48, some 49, some 50, some 51, some 52] [[8], [36], [2], [9], [38, 39], [40], [41], [11], [43], [10], [44, 45], [11], [47], [10], [48, 49], [46, 50], [37, 42]]
          [Is (.pointer (some ⟨q8, 2, none⟩)), Is (.slice (some ⟨g, 0, none⟩) n ck1), Is (.slice (some ⟨b, o, none⟩) N ca), Is (.int .i64 ((k : Int))), Is (.pointer (some ⟨b, o + k * 3, none⟩)), Is (.pointer (some ⟨b, o + k * 3, none⟩)), Is (.int .i64 ((j : Int))), Is (.pointer (some ⟨q11, 0, none⟩)), Is (.int .i64 (r.1)), Is (.int .i64 (bv)), Is (.int .i64 (r.1 + bv)), Is (.pointer (some ⟨q11, 1, none⟩)), Is (.int .i64 (r.2)), Is (.int .i64 (bv)), Is (.int .i64 (r.2 + bv)), Is (.agg #[.int .i64 (r.1 + bv), .int .i64 (r.2 + bv)]), Is (.pointer (some ⟨g, j * 2, none⟩))]
          (by kernel_rfl) (by kernel_rfl) (by kernel_rfl) (by kernel_rfl) (by kernel_rfl) (by kernel_rfl) (by kernel_rfl) Ext (fun W => Ext V3 W)
          (fun W _ => Ext.refl W) (fun W W' h k => h.trans k) ?_ (Ext.drew _) ?_ ?_
        · repeat (refine ⟨fun _ _ _ _ k h => (by first | exact h | exact (IntsAt.ext h k)), ?_⟩)
          exact trivial
        · refine ⟨?_, ?_, ?_, ?_, ?_, ?_, ?_, ?_, ?_, ?_, ?_, ?_, ?_, ?_, ?_, ?_, ?_, trivial⟩
          all_goals intro ρ W ⟨kc, kg, kf⟩ hF hs
          · obtain ⟨h0, -⟩ := hs
            replace h0 : ρ (.tmp 8) = .pointer (some ⟨q8, 0, none⟩) := h0
            go_simp
            exact ⟨Ext.refl _, rfl⟩
          · obtain ⟨h0, -⟩ := hs
            replace h0 : ρ (.tmp 36) = .pointer (some ⟨q8, 2, none⟩) := h0
            have hc0 : W.cell? ⟨q8, 2, none⟩ = some (.slice (some ⟨g, 0, none⟩) n ck1) := hF.cell (by assumption)
            go_simp
            exact ⟨Ext.refl _, rfl⟩
          · obtain ⟨h0, -⟩ := hs
            replace h0 : ρ (.tmp 2) = .slice (some ⟨b, o, none⟩) N ca := h0
            go_simp
            exact ⟨Ext.refl _, rfl⟩
          · obtain ⟨h0, -⟩ := hs
            replace h0 : ρ (.tmp 9) = .int .i64 ((k : Int)) := h0
            go_simp
            exact ⟨Ext.refl _, rfl⟩
          · obtain ⟨h0, h1, -⟩ := hs
            replace h0 : ρ (.tmp 38) = .slice (some ⟨b, o, none⟩) N ca := h0
            replace h1 : ρ (.tmp 39) = .int .i64 ((k : Int)) := h1
            have hb1 : (k : Int) < (N : Int) := by omega
            have hb3 : (0 : Int) ≤ (k : Int) := by omega
            have hb4 : ((k : Int)).toNat = k := by omega
            have hb8 : k < N := by omega
            go_simp
            exact ⟨Ext.refl _, rfl⟩
          · obtain ⟨h0, -⟩ := hs
            replace h0 : ρ (.tmp 40) = .pointer (some ⟨b, o + k * 3, none⟩) := h0
            go_simp
            exact ⟨Ext.refl _, rfl⟩
          · obtain ⟨h0, -⟩ := hs
            replace h0 : ρ (.tmp 41) = .pointer (some ⟨b, o + k * 3, none⟩) := h0
            have hc0 : W.cell? ⟨b, o + k * 3, none⟩ = some (.int .i64 ((j : Int))) := hF.cell (by assumption)
            go_simp
            exact ⟨Ext.refl _, rfl⟩
          · obtain ⟨h0, -⟩ := hs
            replace h0 : ρ (.tmp 11) = .pointer (some ⟨q11, 0, none⟩) := h0
            go_simp
            exact ⟨Ext.refl _, rfl⟩
          · obtain ⟨h0, -⟩ := hs
            replace h0 : ρ (.tmp 43) = .pointer (some ⟨q11, 0, none⟩) := h0
            have hc0 : W.cell? ⟨q11, 0, none⟩ = some (.int .i64 (r.1)) := hF.cell (by assumption)
            go_simp
            exact ⟨Ext.refl _, rfl⟩
          · obtain ⟨h0, -⟩ := hs
            replace h0 : ρ (.tmp 10) = .int .i64 (bv) := h0
            go_simp
            exact ⟨Ext.refl _, rfl⟩
          · obtain ⟨h0, h1, -⟩ := hs
            replace h0 : ρ (.tmp 44) = .int .i64 (r.1) := h0
            replace h1 : ρ (.tmp 45) = .int .i64 (bv) := h1
            have hw : IntKind.i64.wrap (r.1 + bv) = r.1 + bv := wrap_id _ (by omega) (by omega)
            go_simp
            exact ⟨Ext.refl _, rfl⟩
          · obtain ⟨h0, -⟩ := hs
            replace h0 : ρ (.tmp 11) = .pointer (some ⟨q11, 0, none⟩) := h0
            go_simp
            exact ⟨Ext.refl _, rfl⟩
          · obtain ⟨h0, -⟩ := hs
            replace h0 : ρ (.tmp 47) = .pointer (some ⟨q11, 1, none⟩) := h0
            have hc0 : W.cell? ⟨q11, 1, none⟩ = some (.int .i64 (r.2)) := hF.cell (by assumption)
            go_simp
            exact ⟨Ext.refl _, rfl⟩
          · obtain ⟨h0, -⟩ := hs
            replace h0 : ρ (.tmp 10) = .int .i64 (bv) := h0
            go_simp
            exact ⟨Ext.refl _, rfl⟩
          · obtain ⟨h0, h1, -⟩ := hs
            replace h0 : ρ (.tmp 48) = .int .i64 (r.2) := h0
            replace h1 : ρ (.tmp 49) = .int .i64 (bv) := h1
            have hw : IntKind.i64.wrap (r.2 + bv) = r.2 + bv := wrap_id _ (by omega) (by omega)
            go_simp
            exact ⟨Ext.refl _, rfl⟩
          · obtain ⟨h0, h1, -⟩ := hs
            replace h0 : ρ (.tmp 46) = .int .i64 (r.1 + bv) := h0
            replace h1 : ρ (.tmp 50) = .int .i64 (r.2 + bv) := h1
            go_simp
            exact ⟨Ext.refl _, rfl⟩
          · obtain ⟨h0, h1, -⟩ := hs
            replace h0 : ρ (.tmp 37) = .slice (some ⟨g, 0, none⟩) n ck1 := h0
            replace h1 : ρ (.tmp 42) = .int .i64 ((j : Int)) := h1
            have hb1 : (j : Int) < (n : Int) := by omega
            have hb3 : (0 : Int) ≤ (j : Int) := by omega
            have hb4 : ((j : Int)).toNat = j := by omega
            have hb8 : j < n := by omega
            go_simp
            exact ⟨Ext.refl _, rfl⟩
        · intro fv V4 hF hs
          obtain ⟨-, -, -, -, -, -, -, -, -, -, -, -, -, -, -, h51, h52, -⟩ := hs
          replace h51 : fv 51 = .agg #[.int .i64 (r.1 + bv), .int .i64 (r.2 + bv)] := h51
          replace h52 : fv 52 = .pointer (some ⟨g, j * 2, none⟩) := h52
          simp only [fin, List.filterMap]
          go_simp
          replace X := Lib.hid (X.out.trans hF)
          replace K1 := Lib.hid (K1.out.ext hF)
          replace K2 := Lib.hid (K2.out.ext hF)
          replace K8 := Lib.hid (K8.out.ext hF)
          replace OJ := Lib.hid (own_ext OJ.out hF)
          replace OK := Lib.hid (own_ext OK.out hF)
          clear hF p0 g0 g1 y8_0 y8_1 y8_2 e0 e1
          have fr0 : V4.frozen? ⟨g, j * 2, none⟩ = false := (own_cell OK.out (flat_atG (k := 2) (enc := Rg.enc) (fun _ => rfl) (aftU ga sp l ks n k) j r 0 _ hra rfl)).2
          have fr1 : V4.frozen? ⟨g, j * 2 + 1, none⟩ = false := (own_cell OK.out (flat_atG (k := 2) (enc := Rg.enc) (fun _ => rfl) (aftU ga sp l ks n k) j r 1 _ hra rfl)).2
          have c0 : V4.cell? ⟨g, j * 2, none⟩ = some (.int .i64 r.1) := (own_cell OK.out (flat_atG (k := 2) (enc := Rg.enc) (fun _ => rfl) (aftU ga sp l ks n k) j r 0 _ hra rfl)).1
          have c1 : V4.cell? ⟨g, j * 2 + 1, none⟩ = some (.int .i64 r.2) := (own_cell OK.out (flat_atG (k := 2) (enc := Rg.enc) (fun _ => rfl) (aftU ga sp l ks n k) j r 1 _ hra rfl)).1
          have HG := Lib.hid hg
          have HJN := Lib.hid hjn
          have HTY := Lib.hid (show ∀ q T cs, Blk V4 q T cs → T ≠ 49 → q ≠ g from fun q T cs h hT he => own_notBlk OK.out h hT (by rw [he]; rfl))
          have HOJ := Lib.hid (show ∀ u : Unit, some g ≠ (Value.slice J1 n cj1).ownBlock from fun _ he => by
            obtain ⟨cu, hcu, _⟩ := own_blk OK.out
            exact own_notBlk OJ.out hcu (by decide) he)
          clear hg hra hrb hbv
          go_wp2
          go_roundw
          case rel => exact ⟨k + 1, by omega, by go_num, Ext.set (Ext.set X.out HG.out _) HG.out _, (K1.out.setOther (HTY.out _ _ _ K1.out (by decide)) _).setOther (HTY.out _ _ _ K1.out (by decide)) _, (K2.out.setOther (HTY.out _ _ _ K2.out (by decide)) _).setOther (HTY.out _ _ _ K2.out (by decide)) _, (K8.out.setOther (HTY.out _ _ _ K8.out (by decide)) _).setOther (HTY.out _ _ _ K8.out (by decide)) _, own_set (own_set OJ.out (HOJ.out ()) _) (HOJ.out ()) _, by rw [HNX.out, ← flat_setRg _ _ _ _ (by rw [aftU_len]; exact HJN.out)]; exact own_setCell (own_setCell OK.out _ _) _ _⟩
          case measure => simp [intOf]; omega
    · obtain rfl : k = N := by omega
      have hkn : ¬ (k : Int) < (k : Int) := by omega
      rw [show aftU ga sp l ks n k = ak by rw [← HN.out]; exact HAK.out] at OK
      have HAL := Lib.hid (show ak.length = n by rw [← HAK.out]; exact aftU_len ga sp l ks n l.length)
      have RK := Lib.hid (rows_own (enc := Rg.enc) (k := 2) HAL.out (fun _ => rfl) OK.out (by omega))
      go_wp2
      clear hkn
      go_loopw [12] (fun i wr => ∃ q : Nat, q ≤ n ∧ i = .int .i64 (q : Int) ∧ fa = firstAt aa (n - q) q ∧ Ext w wr ∧ Blk wr (w.heap.size + 1) 27 #[.slice P np cp, .int .i64 sp, .int .i64 ga, .int .i64 li] ∧ Blk wr (w.heap.size + 1 + 1) 25 #[.int .i64 0, .slice none 0 0, .slice none 0 0] ∧ Blk wr (q8) 25 #[.int .i64 L, .slice J1 n cj1, .slice Kx n ck1] ∧ wr.ownsRow w.heap.size 3 1 (.slice J1 n cj1) n (js.flatMap I1) ∧ wr.ownsRow w.heap.size 49 2 (.slice Kx n ck1) n ((ak).flatMap Rg.enc)) (fun i _ => n - (intOf i).toNat)
      case atStart => exact ⟨0, by omega, rfl, HFA.out, X.out, K1.out, K2.out, K8.out, OJ.out, OK.out⟩
      case round =>
        clear X K1 K2 K8 OJ OK RK HFA
        obtain ⟨q, hq, rfl, hf, h1, h2, h3, h4, h5, h6⟩ := hrel
        have X := Lib.hid h1
        have K2 := Lib.hid h3
        have K8 := Lib.hid h4
        have OJ := Lib.hid h5
        have OK := Lib.hid h6
        have K1 := Lib.hid h2
        have R := Lib.hid hf
        clear h1 h2 h3 h4 h5 h6 hf
        have y8_0 : wr.cell? ⟨q8, 0, none⟩ = some (.int .i64 L) := K8.out.cell 0
        have y8_1 : wr.cell? ⟨q8, 1, none⟩ = some (.slice J1 n cj1) := K8.out.cell 1
        have y8_2 : wr.cell? ⟨q8, 2, none⟩ = some (.slice (Kx) n ck1) := K8.out.cell 2
        by_cases hlq : q < n
        · obtain ⟨b2, o2, rfl, hb2, hc0, hc1⟩ := row_Rg (rows_own (enc := Rg.enc) (k := 2) HAL.out (fun _ => rfl) OK.out (by omega)) (i := q) (by have := HAL.out; omega)
          have HAI := Lib.hid (HAT.out q hlq)
          have HKE := Lib.hid (show kinkE (ak.getD q default) = if -100000 ≤ (ak.getD q default).1 ∧ (ak.getD q default).1 ≤ 100000 then (if -100000 ≤ (ak.getD q default).2 ∧ (ak.getD q default).2 ≤ 100000 then 0 else 2) else 2 from rangeE_pair _ _ _ _)
          have HHE := Lib.hid (fun (hz : aa q = 2) => R.out.trans (firstAt_here _ hlq hz (by decide)))
          have HNX := Lib.hid (fun (hz : aa q = 0) => R.out.trans (firstAt_next _ hlq hz))
          rw [← HAI.out] at HKE
          generalize aa q = aq at *
          generalize ak.getD q default = x at *
          have hqi : (q : Int) < (n : Int) := by omega
          clear hb2
          by_cases g1 : -100000 ≤ x.1 ∧ x.1 ≤ 100000
          · have HW1 := Lib.hid (withinB_t g1)
            by_cases g2 : -100000 ≤ x.2 ∧ x.2 ≤ 100000
            · have HW2 := Lib.hid (withinB_t g2)
              have HV := Lib.hid (HNX.out (by rw [HKE.out, if_pos g1, if_pos g2]))
              clear g1 g2 HHE HNX HKE HAI
              go_wp2_with (go_at_call 86; refine (sized_any _ 100000 (by omega) _).mono ?_; rintro e w' ⟨rfl, rfl⟩; first | rw [HW1.out] | rw [HW2.out])
              go_roundw
              case rel => exact ⟨q + 1, by omega, by go_num, HV.out, X.out, K1.out, K2.out, K8.out, OJ.out, OK.out⟩
              case measure => simp [intOf]; omega
            · have HW2 := Lib.hid (withinB_f g2)
              have HV := Lib.hid (show ae = 2 by rw [HE.out, HHE.out (by rw [HKE.out, if_pos g1, if_neg g2])])
              clear g1 g2 HHE HNX HKE HAI
              have f0 := K2.out.free 0
              have f1 := K2.out.free 1
              have f2 := K2.out.free 2
              have u0 : wr.cell? ⟨w.heap.size + 1 + 1, 0, none⟩ = some (.int .i64 0) := K2.out.cell 0
              have u1 : wr.cell? ⟨w.heap.size + 1 + 1, 1, none⟩ = some (.slice none 0 0) := K2.out.cell 1
              have u2 : wr.cell? ⟨w.heap.size + 1 + 1, 2, none⟩ = some (.slice none 0 0) := K2.out.cell 2
              go_wp2_with (go_at_call 86; refine (sized_any _ 100000 (by omega) _).mono ?_; rintro e w' ⟨rfl, rfl⟩; first | rw [HW1.out] | rw [HW2.out])
              exact bodyPost_ret (v := .tuple #[.agg #[.int .i64 0, .slice none 0 0, .slice none 0 0], .int .i64 2]) (by simp [results, Tryz.f87, go_sem, u0, u1, u2]) rfl ⟨_, by rw [HV.out], by rw [AftC, if_neg (by rw [HV.out]; decide)], Ext.set (Ext.set (Ext.set X.out (by dsimp only; omega) _) (by dsimp only; omega) _) (by dsimp only; omega) _⟩
          · have HW1 := Lib.hid (withinB_f g1)
            have HW2 := HW1
            have HV := Lib.hid (show ae = 2 by rw [HE.out, HHE.out (by rw [HKE.out, if_neg g1])])
            clear g1 HHE HNX HKE HAI
            have f0 := K2.out.free 0
            have f1 := K2.out.free 1
            have f2 := K2.out.free 2
            have u0 : wr.cell? ⟨w.heap.size + 1 + 1, 0, none⟩ = some (.int .i64 0) := K2.out.cell 0
            have u1 : wr.cell? ⟨w.heap.size + 1 + 1, 1, none⟩ = some (.slice none 0 0) := K2.out.cell 1
            have u2 : wr.cell? ⟨w.heap.size + 1 + 1, 2, none⟩ = some (.slice none 0 0) := K2.out.cell 2
            go_wp2_with (go_at_call 86; refine (sized_any _ 100000 (by omega) _).mono ?_; rintro e w' ⟨rfl, rfl⟩; first | rw [HW1.out] | rw [HW2.out])
            exact bodyPost_ret (v := .tuple #[.agg #[.int .i64 0, .slice none 0 0, .slice none 0 0], .int .i64 2]) (by simp [results, Tryz.f87, go_sem, u0, u1, u2]) rfl ⟨_, by rw [HV.out], by rw [AftC, if_neg (by rw [HV.out]; decide)], Ext.set (Ext.set (Ext.set X.out (by dsimp only; omega) _) (by dsimp only; omega) _) (by dsimp only; omega) _⟩
        · obtain rfl : q = n := by omega
          have hqn : ¬ (q : Int) < (q : Int) := by omega
          have HV := Lib.hid (show ae = 0 by rw [HE.out, R.out, Nat.sub_self]; rfl)
          have LB := Lib.hid K2.out.lt
          have f0 := K2.out.free 0
          have f1 := K2.out.free 1
          have f2 := K2.out.free 2
          have u0 : wr.cell? ⟨w.heap.size + 1 + 1, 0, none⟩ = some (.int .i64 0) := K2.out.cell 0
          have u1 : wr.cell? ⟨w.heap.size + 1 + 1, 1, none⟩ = some (.slice none 0 0) := K2.out.cell 1
          have u2 : wr.cell? ⟨w.heap.size + 1 + 1, 2, none⟩ = some (.slice none 0 0) := K2.out.cell 2
          have HD : Hid (∀ W', W'.ownsRow w.heap.size 3 1 (.slice J1 q cj1) q (js.flatMap I1) → W'.ownsRow w.heap.size 49 2 (.slice Kx q ck1) q (ak.flatMap Rg.enc) → AftC w.heap.size L js ak q ae (.agg #[.int .i64 L, .slice J1 q cj1, .slice Kx q ck1]) W') := Lib.hid (fun W' a1 a2 => by
            rw [AftC, if_pos HV.out]
            exact ⟨J1, cj1, Kx, ck1, rfl, rows_own (enc := I1) (k := 1) HNJ.out (fun _ => rfl) a1 (by omega), rows_own (enc := Rg.enc) (k := 2) HAL.out (fun _ => rfl) a2 (by omega), own_nil a1, own_nil a2, fun b o hb => own_base a1 (by rw [hb]; rfl), fun b o hb => own_base a2 (by rw [hb]; rfl)⟩)
          have NB1 := Lib.hid (own_notBlk OJ.out K2.out (by decide))
          have NB2 := Lib.hid (own_notBlk OK.out K2.out (by decide))
          go_wp2
          exact bodyPost_ret (v := .tuple #[.agg #[.int .i64 L, .slice J1 q cj1, .slice Kx q ck1], .int .i64 0]) (by simp [results, Tryz.f87, go_sem, u0, u1, u2]) rfl ⟨_, by rw [HV.out], HD.out _ (own_set (own_set (own_set OJ.out NB1.out _) NB1.out _) NB1.out _) (own_set (own_set (own_set OK.out NB2.out _) NB2.out _) NB2.out _), Ext.set (Ext.set (Ext.set X.out (by dsimp only; omega) _) (by dsimp only; omega) _) (by dsimp only; omega) _⟩

end Go.Proofs.YtjdilmmpdlcimaaGreat
