/- Classes: RangesOf, where all is valid. -/
import Derived.Test.YtpaoeghdfeekoaaK34
namespace Go.Proofs.Ytpaoeghdfeekoaa
open Go.RowKit Go.Shelf Go.Mem Go.RegInv
attribute [local go_sem] RelUpon_value RelUpon_skip RelUpon_enter BigFrame.eval_const BigFrame.eval_global BigFrame.eval_func store_func

theorem lads_set {W : World} {t : Int} {v : Value} {L : List (List Sh)} (h : LadsB (fun _ => True) W t v L) {g : Nat} {cu : Array Value} (hb : Blk W g 132 cu) {i1 i2 : Nat} {u1 u2 : Value} :
    LadsB (fun _ => True) ((W.setCell ⟨g, i1, none⟩ u1).setCell ⟨g, i2, none⟩ u2).drew t v L :=
  h.keep (fun b cs kb _ => ((kb.setOther (p := ⟨g, i1, none⟩) (set_ne_type kb hb (by decide)) u1).setOther (p := ⟨g, i2, none⟩) (set_ne_type kb hb (by decide)) u2).drew)
    (fun b cs _ kb => ((kb.setOther (p := ⟨g, i1, none⟩) (set_ne_type kb hb (by decide)) u1).setOther (p := ⟨g, i2, none⟩) (set_ne_type kb hb (by decide)) u2).drew) (fun _ _ h _ => h)

set_option maxRecDepth 100000 in
set_option maxHeartbeats 8000000 in
theorem rangesOf_ok (t : Int) (A : Option Addr) (n ca : Nat) (ls : List Sh) (hn : ls.length = n) (R : Option Addr) (cr : Nat) (rs : List G) (hr : rs.length = n) (f : Int) (B : Option Addr) (cb : Nat) (hot : List Bool) (hh : hot.length = n) (total : Int) (w : World)
    (hS : RowsAt 3 Sh.enc w A ls) (hR : RowsAt 2 G.enc w R rs) (hB : RowsAt 1 boolEnc w B hot) (hc : (checkC t ls rs).2 = 0) (hd : driveE t ls f n = 0) (ht : rangeE 0 100000 [total] = 0) :
    Calls Try.prog 74 #[.agg #[.int .i64 t, .slice A n ca, .slice R n cr], .agg #[.int .i64 f, .slice B n cb], .int .i64 total] w fun e w' => ∃ g cu, e = .returned (.tuple #[.slice (some ⟨g, 0, none⟩) n n, .int .i64 0]) ∧ Blk w' g 132 cu ∧ RowsIs cu n (rangesK total f hot n (membersK ls rs n) (membersK ls rs n).length) ∧ Ext w w' := by
  obtain ⟨W0, hW0⟩ : ∃ W0, W0 = (w.alloc (.cells #[.int .i64 t, .slice A n ca, .slice R n cr] 120)).alloc (.cells #[.int .i64 f, .slice B n cb] 27) := ⟨_, rfl⟩
  have k0 : Blk W0 w.heap.size 120 #[.int .i64 t, .slice A n ca, .slice R n cr] := by rw [hW0]; exact (Blk.new _ _ _).alloc _
  have k1 : Blk W0 (w.heap.size + 1) 27 #[.int .i64 f, .slice B n cb] := by rw [hW0]; exact Blk.newAt _ _ _ (by simp)
  have e0 : Ext w W0 := by rw [hW0]; exact (Ext.alloc _ _).trans (Ext.alloc _ _)
  obtain ⟨-, -, hrs⟩ := checkC_zero hc
  obtain ⟨⟨_, ⟨h1, h4⟩, hok⟩, hf, hml⟩ := (driveE_zero t ls f n).1 hd
  rw [hn] at h1 h4
  have htot := (rangeE_zero 0 100000 [total]).1 ht total (by simp)
  have HOK := Lib.hid (members_ok ls rs hok hrs n)
  have HLEN := Lib.hid (membersK_len ls rs n hn hr n (Nat.le_refl _))
  have HSZM := Lib.hid (membersK_size ls rs n hn hr h4 hrs n (Nat.le_refl _))
  have HC := Lib.hid (fun W (e : Ext w W) => checkClass_any t A n ca ls hn R n cr rs hr W (hS.ext e) (hR.ext e))
  have HD := Lib.hid (fun W (e : Ext w W) => checkDrive_any t A n ca ls hn f B n cb W (hS.ext e))
  rw [hc] at HC
  rw [hd] at HD
  have HT := Lib.hid (fun W v (h : IntsAt W v [total]) => totalError_any v [total] W h)
  rw [ht] at HT
  have HM := Lib.hid (fun W (e : Ext w W) => membersOf_any t A n ca ls hn R cr rs hr W (hS.ext e) (hR.ext e) h4 hrs)
  have HRP := Lib.hid (fun W b (h : Blk W b 132 #[.int .i64 total, .int .i64 0]) => repeat_any b n total 0 h1 h4 W h)
  have HB := Lib.hid hB
  have HH := Lib.hid hh
  have HF := Lib.hid hf
  have K0 := Lib.hid k0
  have K1 := Lib.hid k1
  have E0 := Lib.hid e0
  generalize (checkC t ls rs).1 = c1 at *
  have fz : firstE [0, 0, 0] = 0 := by decide
  have Z0 := Lib.hid (fun W (e : Ext W0 W) => (⟨(k0.ext e).cell 0, (k0.ext e).cell 1, (k0.ext e).cell 2, (k1.ext e).cell 0, (k1.ext e).cell 1⟩ : W.cell? ⟨w.heap.size, 0, none⟩ = some (.int .i64 t) ∧ W.cell? ⟨w.heap.size, 1, none⟩ = some (.slice A n ca) ∧ W.cell? ⟨w.heap.size, 2, none⟩ = some (.slice R n cr) ∧ W.cell? ⟨w.heap.size + 1, 0, none⟩ = some (.int .i64 f) ∧ W.cell? ⟨w.heap.size + 1, 1, none⟩ = some (.slice B n cb)))
  obtain ⟨z0, z1, z2, z3, z4⟩ := Z0.out W0 (Ext.refl _)
  have e0' := e0
  clear hS hR hB hc hd ht hrs hok hn hr hh hml k0 k1 e0
  have hM2 : (membersK ls rs n).length ≤ 256 := by
    have h1 := HSZM.out.2
    have h2 : 4 ^ n ≤ 4 ^ 4 := Nat.pow_le_pow_right (by decide) h4
    omega
  generalize membersK ls rs n = M at *
  go_enter Try.func74, Try.ntmps74
  go_wp2_with (first
    | (rw [← hW0]; clear hW0; go_at_call 72; refine (HC.out _ E0.out).mono ?_; rintro e W1 ⟨rfl, hx1⟩; have X1 := Lib.hid hx1; clear z0 z1 z2 z3 z4; obtain ⟨z0, z1, z2, z3, z4⟩ := Z0.out W1 hx1; clear hx1)
    | (go_at_call 20; refine (HD.out _ (E0.out.trans X1.out)).mono ?_; rintro e W2 ⟨rfl, hx2⟩; have X2 := Lib.hid (X1.out.trans hx2); clear z0 z1 z2 z3 z4 hx2; obtain ⟨z0, z1, z2, z3, z4⟩ := Z0.out W2 X2.out)
    | (go_at_call 101; refine (HT.out _ _ (ints_new _ [total] _ (by simp))).mono ?_; rintro e W3 ⟨rfl, hx3⟩; have X3 := Lib.hid (X2.out.trans ((Ext.alloc _ _).trans hx3)); clear z0 z1 z2 z3 z4 hx3; obtain ⟨z0, z1, z2, z3, z4⟩ := Z0.out W3 X3.out)
    | (go_at_call 83; refine (firstOf_any _ [0, 0, 0] _ (ints_new _ [0, 0, 0] _ (by simp))).mono ?_; rintro e W4 ⟨rfl, hx4⟩; have X4 := Lib.hid (show Ext W0 W4 by rw [← hx4]; exact X3.out.trans (Ext.alloc _ _)); rw [fz]; clear z0 z1 z2 z3 z4 hx4; obtain ⟨z0, z1, z2, z3, z4⟩ := Z0.out W4 X4.out; have y2 := (Z0.out _ (X4.out.trans (Ext.alloc W4 (.cells #[.int .i64 total, .int .i64 0] 132)))).2.2.1)
    | (go_at_call 122; refine (HRP.out _ _ (Blk.new _ _ _)).mono ?_; rintro e W5 ⟨g, cu0, rfl, hbg, hfl, hgg, hx5⟩; have BG := Lib.hid hbg; have FL := Lib.hid (RowsIs.fill hfl); have X5 := Lib.hid (X4.out.trans ((Ext.alloc _ _).trans hx5)); have hg0 : W0.heap.size ≤ g := (by have := (X4.out.trans (Ext.alloc W4 (.cells #[.int .i64 total, .int .i64 0] 132))).size; omega); clear z0 z1 z2 z3 z4 hx5 hbg hfl hgg; obtain ⟨z0, z1, z2, z3, z4⟩ := Z0.out W5 X5.out)
    | (go_at_call 123; refine (HM.out _ (E0.out.trans X5.out)).mono ?_; rintro e W6 ⟨v42, rfl, hlb, hx6⟩; have BG6 := Lib.hid (BG.out.ext hx6); have X6 := Lib.hid (X5.out.trans hx6); obtain ⟨bM, cM, cuM, rfl, hkM, hpM⟩ := hlb; have LB := Lib.hid (show LadsB (fun _ => True) W6 t (.slice (some ⟨bM, 0, none⟩) M.length cM) M from ⟨bM, cM, cuM, rfl, hkM, hpM⟩); clear z0 z1 z2 z3 z4 hx6 hkM hpM BG))
  clear HC HD HT HM HRP X1 X2 X3 X4 X5 HSZM y2 K0 K1 E0 fz
  have EW := Lib.hid e0'
  clear e0'
  go_loopw [44] (fun i wr => ∃ j : Nat, j ≤ M.length ∧ i = .int .i64 j ∧ (∃ cu, Blk wr g 132 cu ∧ RowsIs cu n (rangesK total f hot n M j)) ∧ LadsB (fun _ => True) wr t (.slice (some ⟨bM, 0, none⟩) M.length cM) M ∧ Ext W0 wr) (fun i _ => M.length - (intOf i).toNat)
  case atStart => exact ⟨0, Nat.zero_le _, rfl, ⟨cu0, BG6.out, by simpa [rangesK] using FL.out⟩, LB.out, X6.out⟩
  case round =>
    obtain ⟨j, hj, rfl, ⟨cu, hb, hro⟩, hlb, hx⟩ := hrel
    by_cases hlt : j < M.length
    · obtain ⟨x, hxM⟩ : ∃ x, M[j]? = some x := ⟨_, List.getElem?_eq_getElem hlt⟩
      have hxn := HLEN.out x (List.mem_of_getElem? hxM)
      have hxok := HOK.out x (List.mem_of_getElem? hxM)
      have HXN := Lib.hid hxn
      have HXOK := Lib.hid hxok
      have HRO := Lib.hid hro
      have HBB := Lib.hid hb
      have HLB := Lib.hid hlb
      have HX := Lib.hid hx
      have HXM := Lib.hid hxM
      obtain ⟨b', c', cuM', e', hkM, hpM⟩ := hlb
      obtain ⟨rfl, rfl⟩ : bM = b' ∧ cM = c' := by simpa using e'
      obtain ⟨hp0, Ai, ci, hp1, -, hlp⟩ := hpM j x hxM
      rw [hxn] at hp1
      have c0 : wr.cell? ⟨bM, j * 2, none⟩ = some (.int .i64 t) := by rw [hkM.cell]; exact hp0
      have c1 : wr.cell? ⟨bM, j * 2 + 1, none⟩ = some (.slice Ai n ci) := by rw [hkM.cell]; exact hp1
      have HLP := Lib.hid hlp.1
      have HP := Lib.hid (fun W (e : Ext wr W) => powersOf_any t Ai n ci x hxn f B cb hot HH.out W (hlp.1.1.ext e) (HB.out.ext (EW.out.trans (hx.trans e))) hxok HF.out h1 h4)
      have okp := powers_ok (hot := hot) hxok HF.out (by rw [hxn]; exact h1) (by rw [hxn]; exact h4)
      have HOKP := Lib.hid okp
      have hpl : (powers f hot x).length = n := by rw [powers_len, hxn]
      obtain ⟨y0, y1, y2, y3, y4⟩ := Z0.out _ (hx.trans (Ext.alloc wr (.cells #[.int .i64 t, .slice Ai n ci] 24)))
      have hji : (j : Int) < (M.length : Int) := by omega
      have hgw : g < wr.heap.size := hb.lt
      clear hxn hxok hro hb hx hxM e' hkM hpM hp0 hp1 hlp okp y0 y1 y2
      go_wp2_with (first
        | (go_at_call 96; refine (HP.out _ (Ext.alloc _ _)).mono ?_; rintro e W7 ⟨v50, rfl, hnd, hx7⟩; obtain ⟨f1, rfl, i1⟩ := powers_at_w (cap := ci) HXN.out HXOK.out HF.out h1 h4 (HLP.out.ext ((Ext.alloc _ _).trans hx7)) hnd; have I1 := Lib.hid i1; have X7 := Lib.hid ((Ext.alloc wr (.cells #[.int .i64 t, .slice Ai n ci] 24)).trans hx7); clear hnd hx7 i1 y3 y4)
        | (go_at_call 102; refine (callsIn_wide.1 (wattsOf_in 130 f1 #[] eg130 (powers f hot x) n hpl (by omega) total W7 (fun W' e' => I1.out W' e') htot HOKP.out.sum HOKP.out.part)).mono ?_; rintro e W8 ⟨v52, rfl, hv, hx8⟩; obtain ⟨g2, c2, cu2, rfl, hbase2, hbk2, hnc2, hns2, hcu2⟩ := own_blk (wattsL_len _ _ _) h1 hv; have HB2 := Lib.hid hbk2; have HCU2 := Lib.hid hcu2; have X8 := Lib.hid (X7.out.trans hx8); have hg2 : g ≠ g2 := (by have := X7.out.size; omega); have hw2 : W0.heap.size ≤ g2 := (by have := X7.out.size; have := HX.out.size; omega); clear hv hx8 hbk2 hcu2))
      have HRL := Lib.hid (rangesK_len total f hot n M j hj)
      have HRS := Lib.hid (rangesK_succ (total := total) (f := f) (hot := hot) (n := n) HXM.out)
      have HWL := Lib.hid (wattsL_len total (powers f hot x) n)
      clear hpl HP I1 HOKP HLP HXOK
      generalize rangesK total f hot n M j = Rj at *
      generalize wattsL total (powers f hot x) n = ws at *
      have BG8 := Lib.hid (HBB.out.ext X8.out)
      have LB8 := Lib.hid (HLB.out.ext X8.out)
      have XX8 := Lib.hid (HX.out.trans X8.out)
      clear HBB HLB HX X7 X8 c0 c1
      obtain ⟨wo, hwo⟩ : ∃ x, x = wr := ⟨_, rfl⟩
      subst hwo
      go_loopw [54] (fun i wi => ∃ k : Nat, k ≤ n ∧ i = .int .i64 k ∧ (∃ cu, Blk wi g 132 cu ∧ RowsIs cu n (midL Rj ws k)) ∧ Blk wi g2 3 cu2 ∧ LadsB (fun _ => True) wi t (.slice (some ⟨bM, 0, none⟩) M.length cM) M ∧ Ext W0 wi) (fun i _ => n - (intOf i).toNat)
      case atStart => exact ⟨0, Nat.zero_le _, rfl, ⟨cu, BG8.out, by rw [mid_zero]; exact HRO.out⟩, HB2.out, LB8.out, XX8.out⟩
      case round =>
        obtain ⟨k, hk, rfl, ⟨cu', hb, hro⟩, hb2, hlb, hx⟩ := hrel
        by_cases hlt : k < n
        · obtain ⟨r, hr⟩ : ∃ r, Rj[k]? = some r := ⟨_, List.getElem?_eq_getElem (by rw [HRL.out]; exact hlt)⟩
          obtain ⟨y, hy⟩ : ∃ y, ws[k]? = some y := ⟨_, List.getElem?_eq_getElem (by rw [HWL.out]; exact hlt)⟩
          obtain ⟨a1, a2⟩ := hro.2 k r (by rw [mid_at HRL.out HWL.out (by omega), if_neg (by omega)]; exact hr)
          have hst := hro.step HRL.out HWL.out hlt hr hy
          have c0 : wr.cell? ⟨g, k * 2, none⟩ = some (.int .i64 r.re) := by rw [hb.cell]; exact a1
          have c1 : wr.cell? ⟨g, k * 2 + 1, none⟩ = some (.int .i64 r.im) := by rw [hb.cell]; exact a2
          have c2' : wr.cell? ⟨g2, k, none⟩ = some (.int .i64 y) := by rw [hb2.cell]; exact HCU2.out k y hy
          have f0 := hb.free (k * 2)
          have f1' := hb.free (k * 2 + 1)
          have hki : (k : Int) < (n : Int) := by omega
          have B1 := Lib.hid hb
          have B2 := Lib.hid hb2
          have LB := Lib.hid hlb
          have HX := Lib.hid hx
          have HST := Lib.hid hst
          clear hb hb2 hlb hx hst hro a1 a2 hr hy
          go_upto_region 12 with (fail)
          go_region
          go_wp2
          go_roundw
          case rel => exact ⟨k + 1, by omega, by go_num, ⟨_, ((B1.out.setSame (k * 2) (.int .i64 (min r.re y))).setSame (k * 2 + 1) (.int .i64 (max r.im y))).drew, HST.out⟩,
            ((B2.out.setOther (p := ⟨g, k * 2, none⟩) (fun e => hg2 e.symm) _).setOther (p := ⟨g, k * 2 + 1, none⟩) (fun e => hg2 e.symm) _).drew, lads_set LB.out B1.out, (Ext.set (Ext.set HX.out hg0 _) hg0 _).trans (Ext.drew _)⟩
          case measure => simp [intOf]; omega
        · obtain rfl : n = k := by omega
          have HXX := Lib.hid hx
          have HLL := Lib.hid hlb
          have HBB := Lib.hid hb
          have HRO' := Lib.hid hro
          clear hb hb2 hlb hx hro
          go_wp2
          go_roundw
          case rel => exact ⟨j + 1, by omega, by go_num, ⟨_, HBB.out, by rw [HRS.out, ← mid_all HRL.out HWL.out]; exact HRO'.out⟩, HLL.out, HXX.out⟩
          case measure => simp [intOf]; omega
    · obtain rfl : M.length = j := by omega
      go_wp2
      go_ret2
      exact ⟨g, cu, rfl, hb, hro, EW.out.trans hx⟩

end Go.Proofs.Ytpaoeghdfeekoaa
