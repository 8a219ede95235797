/- FieldEvery: the law's function. -/
import Derived.Test.YtpaoeghdfeekoaaK39
import Derived.Test.YtpaoeghdfeekoaaK15
import Derived.Deep.DeepCutAuto
namespace Go.Proofs.Ytpaoeghdfeekoaa
open Go.RowKit Go.Shelf Go.Mem Go.RegInv
attribute [local go_sem] RelUpon_value RelUpon_skip RelUpon_enter BigFrame.eval_const BigFrame.eval_global BigFrame.eval_func

set_option maxRecDepth 100000 in
set_option maxHeartbeats 4000000 in
theorem fieldEvery_err (t : Int) (A : Option Addr) (n ca : Nat) (ls : List Sh) (hn : ls.length = n) (R : Option Addr) (m cr : Nat) (rs : List G) (hm : rs.length = m) (f : Int) (B : Option Addr) (q cb : Nat) (hot : List Bool) (_hh : hot.length = q) (y0 y1 y2 y3 y4 : Int) (w : World) (hA : n ≤ 6 → RowsAt 3 Sh.enc w A ls) (hR : m ≤ 6 → RowsAt 2 G.enc w R rs)
    (h : ¬ ((checkC t ls rs).2 = 0 ∧ drvE f q n = 0 ∧ rangeE 0 100000 [y4] = 0)) :
    Calls Try.prog 14 #[.agg #[.int .i64 t, .slice A n ca, .slice R m cr], .agg #[.int .i64 f, .slice B q cb], .agg #[.int .i64 y0, .int .i64 y1, .int .i64 y2, .int .i64 y3, .int .i64 y4]] w fun e w' => e = .returned (.bool true) ∧ Ext w w' := by
  obtain ⟨W0, hW0⟩ : ∃ W0, W0 = (((w.alloc (.cells #[.int .i64 t, .slice A n ca, .slice R m cr] 120)).alloc (.cells #[.int .i64 f, .slice B q cb] 27)).alloc (.cells #[.int .i64 y0, .int .i64 y1, .int .i64 y2, .int .i64 y3, .int .i64 y4] 129)) := ⟨_, rfl⟩
  have k0 : Blk W0 w.heap.size 120 #[.int .i64 t, .slice A n ca, .slice R m cr] := by rw [hW0]; exact ((Blk.new _ _ _).alloc _).alloc _
  have k1 : Blk W0 (w.heap.size + 1) 27 #[.int .i64 f, .slice B q cb] := by rw [hW0]; exact (Blk.newAt _ _ _ (by simp)).alloc _
  have k2 : Blk W0 (w.heap.size + 1 + 1) 129 #[.int .i64 y0, .int .i64 y1, .int .i64 y2, .int .i64 y3, .int .i64 y4] := by rw [hW0]; exact Blk.newAt _ _ _ (by simp)
  have e0 : Ext w W0 := by rw [hW0]; exact (Ext.alloc _ _).trans ((Ext.alloc _ _).trans (Ext.alloc _ _))
  have FA := Lib.hid (show ∀ W : World, Ext W0 W → W.cell? ⟨w.heap.size, 0, none⟩ = some (.int .i64 t) ∧ W.cell? ⟨w.heap.size, 1, none⟩ = some (.slice A n ca) ∧ W.cell? ⟨w.heap.size, 2, none⟩ = some (.slice R m cr) ∧
      W.cell? ⟨w.heap.size + 1, 0, none⟩ = some (.int .i64 f) ∧ W.cell? ⟨w.heap.size + 1, 1, none⟩ = some (.slice B q cb) ∧ W.cell? ⟨w.heap.size + 1 + 1, 4, none⟩ = some (.int .i64 y4) from
    fun W hx => ⟨(k0.ext hx).cell 0, (k0.ext hx).cell 1, (k0.ext hx).cell 2, (k1.ext hx).cell 0, (k1.ext hx).cell 1, (k2.ext hx).cell 4⟩)
  have HCE := Lib.hid (fun W (e : Ext w W) => classErr_any t A n ca ls hn R m cr rs hm W (fun h => (hA h).ext e) (fun h => (hR h).ext e))
  have HDE := Lib.hid (fun W => refDriveErr_any t A n ca f B q cb W)
  have HTE := Lib.hid (fun W => totalErr_any y4 W)
  have E0 := Lib.hid e0
  clear hn hm hA hR k0 k1 k2 e0 _hh
  generalize (checkC t ls rs).2 = c1 at *
  generalize drvE f q n = c2 at *
  generalize rangeE 0 100000 [y4] = c3 at *
  by_cases h1 : c1 = 0
  · have b1 : (c1 != 0) = false := by simp [h1]
    by_cases h2 : c2 = 0
    · have b2 : (c2 != 0) = false := by simp [h2]
      have b3 : (c3 != 0) = true := by simp; exact fun h3 => h ⟨h1, h2, h3⟩
      clear h1 h2 h
      go_enter Try.func14, Try.ntmps14
      go_wp2_with (first
        | (rw [← hW0]; clear hW0; go_at_call 15; refine (awake_any _).mono ?_; rintro e W1 ⟨rfl, hx1⟩; obtain ⟨z0, z1, z2, z3, z4, z5⟩ := FA.out _ hx1; have X1 := Lib.hid hx1; clear hx1)
        | (go_at_call 79; refine (HCE.out _ (E0.out.trans X1.out)).mono ?_; rintro e W2 ⟨rfl, hx⟩; clear z0 z1 z2 z3 z4 z5; have X2 := Lib.hid (X1.out.trans hx); clear hx; obtain ⟨z0, z1, z2, z3, z4, z5⟩ := FA.out _ X2.out)
        | (go_at_call 76; refine (HDE.out _).mono ?_; rintro e W3 ⟨rfl, hx⟩; clear z0 z1 z2 z3 z4 z5; have X3 := Lib.hid (X2.out.trans hx); clear hx; obtain ⟨z0, z1, z2, z3, z4, z5⟩ := FA.out _ X3.out)
        | (go_at_call 49; refine (HTE.out _).mono ?_; rintro e W4 ⟨rfl, rfl⟩))
      go_ret
      exact ⟨rfl, E0.out.trans X3.out⟩
    · have b2 : (c2 != 0) = true := by simp [h2]
      clear h1 h2 h
      go_enter Try.func14, Try.ntmps14
      go_wp2_with (first
        | (rw [← hW0]; clear hW0; go_at_call 15; refine (awake_any _).mono ?_; rintro e W1 ⟨rfl, hx1⟩; obtain ⟨z0, z1, z2, z3, z4, z5⟩ := FA.out _ hx1; have X1 := Lib.hid hx1; clear hx1)
        | (go_at_call 79; refine (HCE.out _ (E0.out.trans X1.out)).mono ?_; rintro e W2 ⟨rfl, hx⟩; clear z0 z1 z2 z3 z4 z5; have X2 := Lib.hid (X1.out.trans hx); clear hx; obtain ⟨z0, z1, z2, z3, z4, z5⟩ := FA.out _ X2.out)
        | (go_at_call 76; refine (HDE.out _).mono ?_; rintro e W3 ⟨rfl, hx⟩; clear z0 z1 z2 z3 z4 z5; have X3 := Lib.hid (X2.out.trans hx); clear hx; obtain ⟨z0, z1, z2, z3, z4, z5⟩ := FA.out _ X3.out))
      go_ret
      exact ⟨rfl, E0.out.trans X3.out⟩
  · have b1 : (c1 != 0) = true := by simp [h1]
    clear h1 h
    go_enter Try.func14, Try.ntmps14
    go_wp2_with (first
      | (rw [← hW0]; clear hW0; go_at_call 15; refine (awake_any _).mono ?_; rintro e W1 ⟨rfl, hx1⟩; obtain ⟨z0, z1, z2, z3, z4, z5⟩ := FA.out _ hx1; have X1 := Lib.hid hx1; clear hx1)
      | (go_at_call 79; refine (HCE.out _ (E0.out.trans X1.out)).mono ?_; rintro e W2 ⟨rfl, hx⟩; clear z0 z1 z2 z3 z4 z5; have X2 := Lib.hid (X1.out.trans hx); clear hx; obtain ⟨z0, z1, z2, z3, z4, z5⟩ := FA.out _ X2.out))
    go_ret
    exact ⟨rfl, E0.out.trans X2.out⟩

set_option maxRecDepth 100000 in
set_option maxHeartbeats 16000000 in
theorem fieldEvery_main (t : Int) (A : Option Addr) (n ca : Nat) (ls : List Sh) (hn : ls.length = n) (R : Option Addr) (cr : Nat) (rs : List G) (hm : rs.length = n) (f : Int) (B : Option Addr) (cb : Nat) (hot : List Bool) (hh : hot.length = n) (y0 y1 y2 y3 y4 : Int) (w : World) (hA : RowsAt 3 Sh.enc w A ls) (hR : RowsAt 2 G.enc w R rs) (hB : RowsAt 1 boolEnc w B hot) (hAn : A = none → ca = 0) (hRn : R = none → cr = 0) (hBn : B = none → cb = 0)
    (hc : (checkC t ls rs).2 = 0) (hd : driveE t ls f n = 0) (ht : rangeE 0 100000 [y4] = 0) :
    Calls Try.prog 14 #[.agg #[.int .i64 t, .slice A n ca, .slice R n cr], .agg #[.int .i64 f, .slice B n cb], .agg #[.int .i64 y0, .int .i64 y1, .int .i64 y2, .int .i64 y3, .int .i64 y4]] w fun e w' => e = .returned (.bool true) ∧ Ext w w' := by
  obtain ⟨W0, hW0⟩ : ∃ W0, W0 = (((w.alloc (.cells #[.int .i64 t, .slice A n ca, .slice R n cr] 120)).alloc (.cells #[.int .i64 f, .slice B n cb] 27)).alloc (.cells #[.int .i64 y0, .int .i64 y1, .int .i64 y2, .int .i64 y3, .int .i64 y4] 129)) := ⟨_, rfl⟩
  have k0 : Blk W0 w.heap.size 120 #[.int .i64 t, .slice A n ca, .slice R n cr] := by rw [hW0]; exact ((Blk.new _ _ _).alloc _).alloc _
  have k1 : Blk W0 (w.heap.size + 1) 27 #[.int .i64 f, .slice B n cb] := by rw [hW0]; exact (Blk.newAt _ _ _ (by simp)).alloc _
  have k2 : Blk W0 (w.heap.size + 1 + 1) 129 #[.int .i64 y0, .int .i64 y1, .int .i64 y2, .int .i64 y3, .int .i64 y4] := by rw [hW0]; exact Blk.newAt _ _ _ (by simp)
  have e0 : Ext w W0 := by rw [hW0]; exact (Ext.alloc _ _).trans ((Ext.alloc _ _).trans (Ext.alloc _ _))
  have FA := Lib.hid (show ∀ W : World, Ext W0 W → W.cell? ⟨w.heap.size, 0, none⟩ = some (.int .i64 t) ∧ W.cell? ⟨w.heap.size, 1, none⟩ = some (.slice A n ca) ∧ W.cell? ⟨w.heap.size, 2, none⟩ = some (.slice R n cr) ∧
      W.cell? ⟨w.heap.size + 1, 0, none⟩ = some (.int .i64 f) ∧ W.cell? ⟨w.heap.size + 1, 1, none⟩ = some (.slice B n cb) ∧ W.cell? ⟨w.heap.size + 1 + 1, 4, none⟩ = some (.int .i64 y4) from
    fun W hx => ⟨(k0.ext hx).cell 0, (k0.ext hx).cell 1, (k0.ext hx).cell 2, (k1.ext hx).cell 0, (k1.ext hx).cell 1, (k2.ext hx).cell 4⟩)
  obtain ⟨hcl, -, hrs⟩ := checkC_zero hc
  obtain ⟨⟨_, ⟨h1, h4⟩, hok⟩, hf, -⟩ := (driveE_zero t ls f n).1 hd
  rw [hn] at h1 h4
  have hdz : drvE f n n = 0 := by rw [drive_split, if_neg (by simp [hcl]), hn] at hd; exact hd
  have htot := (rangeE_zero 0 100000 [y4]).1 ht y4 (by simp)
  have HCE := Lib.hid (fun W (e : Ext w W) => classErr_any t A n ca ls hn R n cr rs hm W (fun _ => hA.ext e) (fun _ => hR.ext e))
  have HDE := Lib.hid (fun W => refDriveErr_any t A n ca f B n cb W)
  have HTE := Lib.hid (fun W => totalErr_any y4 W)
  rw [hc] at HCE
  rw [hdz] at HDE
  rw [ht] at HTE
  have HCL := Lib.hid (fun W (e : Ext w W) => copyLadder_own t A n ca ls hn W (hA.ext e) (by omega) hAn)
  obtain ⟨hs, hhs⟩ : ∃ hs, hs = [y0, y1, y2, y3, y4] := ⟨_, rfl⟩
  obtain ⟨gs, hgs⟩ : ∃ gs, gs = List.zipWith gAt rs hs := ⟨_, rfl⟩
  have hsl : hs.length = 5 := by rw [hhs]; rfl
  have hgl : gs.length = n := by rw [hgs, List.length_zipWith, hm, hsl]; omega
  have HG := Lib.hid (show ∀ (k : Nat) (r : G) (h : Int), rs[k]? = some r → hs[k]? = some h → gs[k]? = some (gAt r h) from fun k r h h1 h2 => by rw [hgs, List.getElem?_zipWith, h1, h2])
  have HGI := Lib.hid (show ∀ (k : Nat) (r : G) (g : Int), rs[k]? = some r → gs[k]? = some g → r.re ≤ g ∧ g ≤ r.im from fun k r g h1 h2 => by
    obtain ⟨h, hh⟩ : ∃ h, hs[k]? = some h := ⟨_, List.getElem?_eq_getElem (by have := (List.getElem?_eq_some_iff.1 h1).1; omega)⟩
    rw [HG.out k r h h1 hh] at h2
    obtain rfl := Option.some.inj h2
    have := hrs r (List.mem_of_getElem? h1)
    exact gAt_in h (by omega))
  have HH5 := Lib.hid (show ∀ W, Ext W0 W → ∀ (k : Nat) (x : Int), hs[k]? = some x → W.cell? ⟨w.heap.size + 1 + 1, k, none⟩ = some (.int .i64 x) from fun W e k x hx => by
    rw [(k2.ext e).cell, show (#[.int .i64 y0, .int .i64 y1, .int .i64 y2, .int .i64 y3, .int .i64 y4] : Array Value) = (hs.map (Value.int .i64)).toArray by rw [hhs]; rfl]
    simp [hx])
  have hpm : pickL ls gs ∈ membersK ls rs n := by
    have := pick_mem hn hm hgl HGI.out n (Nat.le_refl _)
    rwa [List.take_of_length_le (by rw [pick_len hn hgl]; omega)] at this
  have hpok := members_ok ls rs hok hrs n _ hpm
  have hpl := pick_len hn hgl
  have okp := powers_ok (hot := hot) hpok hf (by rw [hpl]; exact h1) (by rw [hpl]; exact h4)
  have hpd : driveE t (pickL ls gs) f n = 0 := by
    rw [driveE_zero, hpl]
    have h := (driveE_zero t ls f n).1 hd
    rw [hn] at h
    exact ⟨⟨h.1.1, h.1.2.1, hpok⟩, h.2⟩
  have hnn : ∀ x ∈ powers f hot (pickL ls gs), 0 ≤ x := fun x hx => by
    obtain ⟨i, hi⟩ := List.mem_iff_getElem?.1 hx
    exact (power_bd hpok hf (by rw [hpl]; exact h4) i x hi).1
  have hww := fun (i : Nat) (x : Int) (h : (wattsL y4 (powers f hot (pickL ls gs)) n)[i]? = some x) => watts_within htot okp hnn h
  have H42 := Lib.hid (wattsIn_V (t := t) hpl hh y4 hpd ht)
  have H74 := Lib.hid (rangesOf_V (t := t) (rs := rs) hn hm hh y4 hc hd ht)
  have hone := checkC_one (t := t) (ls := ls) (gs := gs) hcl (by rw [hgl, hn]) (fun g hg => by
    obtain ⟨i, hi⟩ := List.mem_iff_getElem?.1 hg
    have hin := (List.getElem?_eq_some_iff.1 hi).1
    have h2 := HGI.out i _ g (List.getElem?_eq_getElem (show i < rs.length by omega)) hi
    have h3 := hrs _ (List.getElem_mem (show i < rs.length by omega))
    omega)
  have H75 := Lib.hid (rangesOf_V (t := t) (rs := gs.map fun g => ⟨g, g⟩) hn (by rw [List.length_map, hgl]) hh y4 hone hd ht)
  rw [pick_only hn hgl n (Nat.le_refl _), List.take_of_length_le (by rw [hpl]; omega), List.length_singleton, ranges_one hww] at H75
  have HL1 := Lib.hid (fun (i : Nat) (r : G) (x : Int) h1 h2 => ranges_hold (total := y4) (f := f) (hot := hot) (n := n) (M := membersK ls rs n) (membersK ls rs n).length (Nat.le_refl _) (pickL ls gs) (by rw [List.take_length]; exact hpm) i r x h1 h2)
  have HLL := Lib.hid (rangesK_len y4 f hot n (membersK ls rs n) _ (Nat.le_refl _))
  have HWS := Lib.hid (wattsL_len y4 (powers f hot (pickL ls gs)) n)
  have HCD := Lib.hid (copyDrive_V (f := f) hh hB (by omega) hBn)
  have HCC := Lib.hid (fun W (e : Ext w W) => copyClass_V (t := t) hn hm (hA.ext e) (hR.ext e) (by omega) (by omega) hAn hRn)
  clear hpm hpok hpl okp hpd hnn hww hone
  generalize rangesK y4 f hot n (membersK ls rs n) (membersK ls rs n).length = L1 at *
  generalize wattsL y4 (powers f hot (pickL ls gs)) n = ws at *
  obtain ⟨L2, hL2⟩ : ∃ L2 : List G, L2 = ws.map fun w => ⟨w, w⟩ := ⟨_, rfl⟩
  rw [← hL2] at H75
  have HL2 := Lib.hid hL2
  clear hL2
  have HN := Lib.hid hn
  have HM := Lib.hid hm
  have HHL := Lib.hid hh
  have HGL := Lib.hid hgl
  have HSL := Lib.hid hsl
  have HA := Lib.hid hA
  have HR := Lib.hid hR
  have HB := Lib.hid hB
  have HRS := Lib.hid hrs
  have HOK := Lib.hid hok
  have HC0 := Lib.hid hc
  have HD0 := Lib.hid hd
  have HT0 := Lib.hid ht
  have HCL0 := Lib.hid hcl
  have HF := Lib.hid hf
  have HAn := Lib.hid hAn
  have HRn := Lib.hid hRn
  have HBn := Lib.hid hBn
  have E0 := Lib.hid e0
  have HSZ0 := Lib.hid (show W0.heap.size = w.heap.size + 1 + 1 + 1 by rw [hW0]; simp)
  clear hn hm hh hgl hsl hhs hgs hA hR hB hrs hok hc hd ht hcl hf hAn hRn hBn hdz k0 k1 k2 e0
  go_enter Try.func14, Try.ntmps14
  go_wp2_with (first
    | (rw [← hW0]; clear hW0; go_at_call 15; refine (awake_any _).mono ?_; rintro e W1 ⟨rfl, hx1⟩; obtain ⟨z0, z1, z2, z3, z4, z5⟩ := FA.out _ hx1; have X1 := Lib.hid hx1; clear hx1)
    | (go_at_call 79; refine (HCE.out _ (E0.out.trans X1.out)).mono ?_; rintro e W2 ⟨rfl, hx⟩; clear z0 z1 z2 z3 z4 z5; have X2 := Lib.hid (X1.out.trans hx); clear hx; obtain ⟨z0, z1, z2, z3, z4, z5⟩ := FA.out _ X2.out)
    | (go_at_call 76; refine (HDE.out _).mono ?_; rintro e W3 ⟨rfl, hx⟩; clear z0 z1 z2 z3 z4 z5; have X3 := Lib.hid (X2.out.trans hx); clear hx; obtain ⟨z0, z1, z2, z3, z4, z5⟩ := FA.out _ X3.out)
    | (go_at_call 49; refine (HTE.out _).mono ?_; rintro e W4 ⟨rfl, rfl⟩)
    | (go_at_call 19; refine (HCL.out _ (E0.out.trans X3.out)).mono ?_; rintro e W5 ⟨A1, c1, rfl, ho, hx⟩; obtain ⟨g1, c1', cu1, hv, hb1, hk1, hm1⟩ := own_blk3 (gs := gs) HN.out h1 (by omega) ho; obtain ⟨rfl, rfl⟩ : A1 = some ⟨g1, 0, none⟩ ∧ c1 = c1' := (by simpa using hv); have M1 := Lib.hid hm1; have B1 := Lib.hid hk1; clear z0 z1 z2 z3 z4 z5; have X5 := Lib.hid (X3.out.trans hx); have hg1 : W3.heap.size ≤ g1 := hb1; have hl1 := hk1.lt; clear hx ho hv hk1 hm1 hb1; obtain ⟨z0, z1, z2, z3, z4, z5⟩ := FA.out _ X5.out; obtain ⟨y0', y1', y2', y3', y4', y5'⟩ := FA.out _ (X5.out.trans (Ext.alloc W5 (.cells #[.int .i64 t, .slice (some ⟨g1, 0, none⟩) n c1] 24))))
    | (go_at_call 19; refine (HCL.out _ (E0.out.trans (X5.out.trans (Ext.alloc _ _)))).mono ?_; rintro e W6 ⟨A2, c2, rfl, ho, hx⟩; obtain ⟨g2, c2', cu2, hv, hb2, hk2, hm2⟩ := own_blk3 (gs := gs) HN.out h1 (by omega) ho; obtain ⟨rfl, rfl⟩ : A2 = some ⟨g2, 0, none⟩ ∧ c2 = c2' := (by simpa using hv); have M2 := Lib.hid hm2; have B2 := Lib.hid hk2; have X6 := Lib.hid ((Ext.alloc W5 (.cells #[.int .i64 t, .slice (some ⟨g1, 0, none⟩) n c1] 24)).trans hx); have B8 := Lib.hid ((Blk.new W5 24 #[.int .i64 t, .slice (some ⟨g1, 0, none⟩) n c1]).ext hx); have hg2 : (W5.alloc (.cells #[.int .i64 t, .slice (some ⟨g1, 0, none⟩) n c1] 24)).heap.size ≤ g2 := hb2; clear z0 z1 z2 z3 z4 z5 y0' y1' y2' y3' y4' y5' hx ho hv hk2 hm2 hb2))
  obtain ⟨Wb, hWb⟩ : ∃ Wb, Wb = W6.alloc (.cells #[.int .i64 t, .slice (some ⟨g2, 0, none⟩) n c2, .slice none 0 0] 120) := ⟨_, rfl⟩
  have k9 : Blk Wb W6.heap.size 120 #[.int .i64 t, .slice (some ⟨g2, 0, none⟩) n c2, .slice none 0 0] := by rw [hWb]; exact Blk.new _ _ _
  have eb : Ext W6 Wb := by rw [hWb]; exact Ext.alloc _ _
  have hszb : Wb.heap.size = W6.heap.size + 1 := by rw [hWb]; simp
  rw [← hWb]
  have XB := Lib.hid (X5.out.trans (X6.out.trans eb))
  have q1 : w.heap.size + 3 ≤ g1 := by have := HSZ0.out; have := X3.out.size; omega
  have q2 : W5.heap.size < g2 := by simp only [World.size_alloc] at hg2; omega
  have q3 := B2.out.lt
  have G1 := Lib.hid (B1.out.ext (X6.out.trans eb))
  have G2 := Lib.hid (B2.out.ext eb)
  have G8 := Lib.hid (B8.out.ext eb)
  have G9 := Lib.hid k9
  obtain ⟨b8, hb8⟩ : ∃ b, b = W5.heap.size := ⟨_, rfl⟩
  obtain ⟨b9, hb9⟩ : ∃ b, b = W6.heap.size := ⟨_, rfl⟩
  obtain ⟨base, hbase⟩ : ∃ b, b = Wb.heap.size := ⟨_, rfl⟩
  rw [← hb8] at hl1 q2 G8 ⊢
  rw [← hb9] at q3 G9 hszb ⊢
  rw [← hbase] at hszb
  have own0 : Wb.ownsRow base 132 2 (.slice none 0 0) 0 (oneRows (gs.take 0)) := ⟨by simp [oneRows], .inl ⟨rfl, by simp⟩⟩
  have OWN0 := Lib.hid own0
  have HBASE := Lib.hid hbase
  clear hWb k9 eb hb8 hb9 hbase own0 B1 B2 B8 X1 X2 X3 X5 X6 hg1 hg2 HCE HDE HTE HCL
  go_loopw [10] (fun i wr => ∃ k : Nat, k ≤ n ∧ i = .int .i64 k ∧ (∃ cu, Blk wr g1 92 cu ∧ MidSh cu ls gs n k) ∧ Blk wr b8 24 #[.int .i64 t, .slice (some ⟨g1, 0, none⟩) n c1] ∧
      (∃ Rk ck, Blk wr b9 120 #[.int .i64 t, .slice (some ⟨g2, 0, none⟩) n c2, .slice Rk k ck] ∧ wr.ownsRow base 132 2 (.slice Rk k ck) k (oneRows (gs.take k))) ∧ Blk wr g2 92 cu2 ∧ base ≤ wr.heap.size ∧ Ext W0 wr) (fun i _ => n - (intOf i).toNat)
  case atStart => exact ⟨0, Nat.zero_le _, rfl, ⟨cu1, G1.out, M1.out⟩, G8.out, ⟨none, 0, G9.out, OWN0.out⟩, G2.out, Nat.le_of_eq HBASE.out, XB.out⟩
  case round =>
    obtain ⟨k, hk, rfl, ⟨cu, ha1, hm1⟩, ha8, ⟨Rk, ck, ha9, hown⟩, ha2, hsz, hx⟩ := hrel
    have d0 := ha8.cell 0
    have d1 := ha8.cell 1
    have d2 := ha9.cell 0
    have d3 := ha9.cell 1
    have d4 := ha9.cell 2
    obtain ⟨z0, z1, z2, z3, z4, z5⟩ := FA.out _ hx
    have KA1 := Lib.hid ha1
    have KM1 := Lib.hid hm1
    have KA8 := Lib.hid ha8
    have KA9 := Lib.hid ha9
    have KA2 := Lib.hid ha2
    have KO := Lib.hid hown
    have KX := Lib.hid hx
    by_cases hlt : k < n
    · obtain ⟨s, hs'⟩ : ∃ s, ls[k]? = some s := ⟨_, List.getElem?_eq_getElem (by rw [HN.out]; exact hlt)⟩
      obtain ⟨r, hr⟩ : ∃ r, rs[k]? = some r := ⟨_, List.getElem?_eq_getElem (by rw [HM.out]; exact hlt)⟩
      obtain ⟨h, hh⟩ : ∃ h, hs[k]? = some h := ⟨_, List.getElem?_eq_getElem (by rw [HSL.out]; omega)⟩
      have hg := HG.out k r h hr hh
      obtain ⟨r1, r2, r3⟩ := HRS.out r (List.mem_of_getElem? hr)
      obtain ⟨bR, oR, hR', hbR, hcR⟩ := HR.out.2 k r hr
      subst hR'
      have e0 : wr.cell? ⟨bR, oR + k * 2, none⟩ = some (.int .i64 r.re) := (E0.out.trans hx).cell (hcR 0 _ rfl)
      have e1 : wr.cell? ⟨bR, oR + k * 2 + 1, none⟩ = some (.int .i64 r.im) := (E0.out.trans hx).cell (hcR 1 _ rfl)
      have e2 := HH5.out wr hx k h hh
      have f0 := ha1.free (k * 3)
      have e3 : wr.cell? ⟨g1, k * 3, none⟩ = some (.int .i64 s.g) := by rw [ha1.cell, (hm1.2 k s _ hs' hg).1, if_neg (by omega)]
      have hki : (k : Int) < (n : Int) := by omega
      have hk5 : (k : Int) < (5 : Int) := by omega
      have m1 := Int.emod_nonneg h (show r.im - r.re + 1 ≠ 0 by omega)
      have m2 := Int.emod_lt_of_pos h (show 0 < r.im - r.re + 1 by omega)
      have HG' := Lib.hid hg
      have HGE := Lib.hid (show gAt r h = r.re + h % (r.im - r.re + 1) from rfl)
      have HS' := Lib.hid hs'
      have HMOD := Lib.hid (fun W => mod_any h (r.im - r.re + 1) ⟨by omega, by omega⟩ W)
      generalize gAt r h = gk at *
      generalize h % (r.im - r.re + 1) = md at *
      have w1 : IntKind.i64.wrap (r.im - r.re) = r.im - r.re := IntWalk.i64_in _ (by omega)
      have w2 : IntKind.i64.wrap (r.im - r.re + 1) = r.im - r.re + 1 := IntWalk.i64_in _ (by omega)
      have w3 : IntKind.i64.wrap (r.re + md) = gk := by rw [HGE.out]; exact IntWalk.i64_in _ (by omega)
      clear hs' hr hh hg hcR hbR ha1 hm1 ha8 ha9 ha2 hown hx
      go_wp2
      go_quiet (first | (go_at_call 80; refine Calls.quiet_of_same ((HMOD.out _).mono fun _ _ ⟨h1, h2⟩ => ⟨h1, h2.symm⟩)))
      go_upto_region 13 with (fail)
      obtain ⟨Wa, hWa⟩ : ∃ Wa, Wa = (wr.drewN nq).setCell ⟨g1, k * 3, none⟩ (.int .i64 gk) := ⟨_, rfl⟩
      rw [← hWa]
      have hdx := Ext.drewN wr nq
      have LA1 := Lib.hid (show Blk Wa g1 92 (cu.setIfInBounds (k * 3) (.int .i64 gk)) by rw [hWa]; exact (KA1.out.ext hdx).setSame (k * 3) _)
      have LA8 := Lib.hid (show Blk Wa b8 24 #[.int .i64 t, .slice (some ⟨g1, 0, none⟩) n c1] by rw [hWa]; exact (KA8.out.ext hdx).setOther (by dsimp only; omega) _)
      have LA9 := Lib.hid (show Blk Wa b9 120 #[.int .i64 t, .slice (some ⟨g2, 0, none⟩) n c2, .slice Rk k ck] by rw [hWa]; exact (KA9.out.ext hdx).setOther (by dsimp only; omega) _)
      have LA2 := Lib.hid (show Blk Wa g2 92 cu2 by rw [hWa]; exact (KA2.out.ext hdx).setOther (by dsimp only; omega) _)
      have LO := Lib.hid (show Wa.ownsRow base 132 2 (.slice Rk k ck) k (oneRows (gs.take k)) by rw [hWa]; exact own_set (p := ⟨g1, k * 3, none⟩) (own_ext KO.out hdx) (own_not KO.out (by dsimp only; omega)) _)
      have LX := Lib.hid (show Ext W0 Wa by rw [hWa]; exact Ext.set (KX.out.trans hdx) (by dsimp only; have := HSZ0.out; omega) _)
      have LSZ := Lib.hid (show base ≤ Wa.heap.size by rw [hWa]; simpa using hsz)
      clear hWa hdx KA1 KA8 KA9 KA2 KO KX d0 d1 d2 d3 d4 e0 e1 e2 e3 f0 z0 z1 z2 z3 z4 z5 hsz
      have d4 := LA9.out.cell 2
      go_wp2_with
        (refine append_pair (own_ext LO.out (Ext.alloc _ _)) (by omega) (by have := LSZ.out; simp only [World.size_alloc]; omega) (Blk.new _ _ _) rfl (.tmp 84) (.tmp 88) rfl rfl rfl rfl ?_
         intro R' c' w2 hown' hkb hxe hgs
         have P1 := Lib.hid (hkb _ _ _ (LA1.out.alloc _) (by decide))
         have P8 := Lib.hid (hkb _ _ _ (LA8.out.alloc _) (by decide))
         have P2 := Lib.hid (hkb _ _ _ (LA2.out.alloc _) (by decide))
         have p9 := hkb _ _ _ (LA9.out.alloc _) (by decide)
         have d4' := p9.cell 2
         have f4' := p9.free 2
         have P9 := Lib.hid p9
         have PO := Lib.hid hown'
         have PX := Lib.hid (hxe W0 (LX.out.trans (Ext.alloc _ _)) (by have := HSZ0.out; omega))
         have psz : base ≤ w2.heap.size := (by have := LSZ.out; simp only [World.size_alloc] at hgs; omega)
         clear hown' hkb hxe hgs p9)
      go_roundw
      case rel => exact ⟨k + 1, by omega, by go_num, ⟨_, P1.out.setOther (by dsimp only; omega) _, KM1.out.step hlt HG'.out⟩, P8.out.setOther (by dsimp only; omega) _,
        ⟨R', c', P9.out.setSame 2 (.slice R' (k + 1) c'), by rw [take_snoc HG'.out, oneRows_snoc]; exact own_set (p := ⟨b9, 2, none⟩) PO.out (own_not PO.out (by dsimp only; omega)) _⟩, P2.out.setOther (by dsimp only; omega) _, by simpa using psz, Ext.set PX.out (by dsimp only; have := HSZ0.out; omega) _⟩
      case measure => simp [intOf]; omega
    · obtain rfl : n = k := by omega
      have V1 := Lib.hid (show LadV t (pickL ls gs) (.agg #[.int .i64 t, .slice (some ⟨g1, 0, none⟩) n c1]) wr from ⟨_, n, c1, Lib.hid (pick_len HN.out HGL.out), rfl, mid_pick KA1.out KM1.out HN.out HGL.out (by omega)⟩)
      have hrk : RowsAt 2 G.enc wr Rk (gs.map fun g => (⟨g, g⟩ : G)) := by
        have ho := KO.out
        rw [List.take_of_length_le (by rw [HGL.out]; omega)] at ho
        exact rg_own (by rw [List.length_map, HGL.out]) (by omega) ho
      have V2 := Lib.hid (show ClsV t ls (gs.map fun g => ⟨g, g⟩) (.agg #[.int .i64 t, .slice (some ⟨g2, 0, none⟩) n c2, .slice Rk n ck]) wr from ⟨_, n, c2, Rk, n, ck, Lib.hid HN.out, Lib.hid (by rw [List.length_map, HGL.out]), rfl, mid_lad KA2.out M2.out HN.out HGL.out (by omega), hrk⟩)
      have EB := Lib.hid (E0.out.trans KX.out)
      clear hrk ha1 hm1 ha8 ha9 hown ha2 hsz hx KA1 KM1 KA2 KO HG HGI HRS HOK HR HA HB HM M1 M2 G1 G2 G8 G9 XB OWN0
      go_wp2
      refine wp_region_each [some 92, some 93, some 94, some 95, some 96, some 91, some 97, some 98, some 12, some 13] [[8], [4], [93], [7], [92, 94, 95], [96], [91], [91], [97], [98]]
        [Is (.agg #[.int .i64 (t), .slice (some ⟨g1, 0, none⟩) n c1]), Is (.agg #[.int .i64 (f), .slice B n cb]), DrvV f hot, Is (.int .i64 (y4)), TupV (Ints ws) (0), TupV (Ints ws) (0), Ints ws, Is (.int .i64 (0)), Ints ws, Is (.int .i64 (0))]
        (by kernel_rfl) (by kernel_rfl) (by kernel_rfl) (by kernel_rfl) (by kernel_rfl) Ext (fun W => Ext wr W)
        (fun W _ => Ext.refl W) (fun W W' h k => h.trans k) ?_ (Ext.drew _) ?_ ?_
      · repeat (refine ⟨fun _ _ _ _ k h => (by first | exact h | exact (by first | exact LadV.ext h k | exact DrvV.ext h k | exact ClsV.ext h k | exact RgV.ext h k | exact IntsAt.ext h k | exact TupV.ext (fun _ _ _ h k => by first | exact RgV.ext h k | exact IntsAt.ext h k) h k)), ?_⟩)
        exact trivial
      · refine ⟨?_, ?_, ?_, ?_, ?_, ?_, ?_, ?_, ?_, ?_, trivial⟩
        all_goals intro ρ W ⟨kc, kg, kf⟩ hF hs
        · obtain ⟨h0, -⟩ := hs
          replace h0 : ρ (.tmp 8) = .pointer (some ⟨b8, 0, none⟩) := h0
          have hc0 : W.cell? ⟨b8, 0, none⟩ = some (.int .i64 (t)) := hF.cell (by assumption)
          have hc1 : W.cell? ⟨b8, 1, none⟩ = some (.slice (some ⟨g1, 0, none⟩) n c1) := hF.cell (by assumption)
          go_simp
          exact ⟨Ext.refl _, rfl⟩
        · obtain ⟨h0, -⟩ := hs
          replace h0 : ρ (.tmp 4) = .pointer (some ⟨w.heap.size + 1, 0, none⟩) := h0
          have hc0 : W.cell? ⟨w.heap.size + 1, 0, none⟩ = some (.int .i64 (f)) := hF.cell (by assumption)
          have hc1 : W.cell? ⟨w.heap.size + 1, 1, none⟩ = some (.slice B n cb) := hF.cell (by assumption)
          go_simp
          exact ⟨Ext.refl _, rfl⟩
        · obtain ⟨h0, -⟩ := hs
          replace h0 : ρ (.tmp 93) = .agg #[.int .i64 (f), .slice B n cb] := h0
          go_simp
          exact HCD.out W (EB.out.trans hF)
        · obtain ⟨h0, -⟩ := hs
          replace h0 : ρ (.tmp 7) = .int .i64 (y4) := h0
          go_simp
          exact ⟨Ext.refl _, rfl⟩
        · obtain ⟨h0, h1, h2, -⟩ := hs
          replace h0 : ρ (.tmp 92) = .agg #[.int .i64 (t), .slice (some ⟨g1, 0, none⟩) n c1] := h0
          replace h1 : (DrvV f hot) (ρ (.tmp 94)) W := h1
          replace h2 : ρ (.tmp 95) = .int .i64 (y4) := h2
          go_simp
          exact H42.out W _ _ (V1.out.ext hF) h1
        · obtain ⟨h0, -⟩ := hs
          replace h0 : (TupV (Ints ws) (0)) (ρ (.tmp 96)) W := h0
          go_simp
          first | exact ⟨Ext.refl _, h0⟩ | exact Ext.refl _
        · obtain ⟨h0, -⟩ := hs
          replace h0 : (TupV (Ints ws) (0)) (ρ (.tmp 91)) W := h0
          obtain ⟨v, hv, hp⟩ := h0
          go_simp
          first | exact ⟨Ext.refl _, hp⟩ | exact Ext.refl _
        · obtain ⟨h0, -⟩ := hs
          replace h0 : (TupV (Ints ws) (0)) (ρ (.tmp 91)) W := h0
          obtain ⟨v, hv, hp⟩ := h0
          go_simp
          first | exact ⟨Ext.refl _, rfl⟩ | exact Ext.refl _
        · obtain ⟨h0, -⟩ := hs
          replace h0 : (Ints ws) (ρ (.tmp 97)) W := h0
          go_simp
          first | exact ⟨Ext.refl _, h0⟩ | exact Ext.refl _
        · obtain ⟨h0, -⟩ := hs
          replace h0 : ρ (.tmp 98) = .int .i64 (0) := h0
          go_simp
          exact ⟨Ext.refl _, rfl⟩
      · intro fv W4 hF hs
        obtain ⟨-, -, -, -, -, -, -, -, h12, h13, -⟩ := hs
        replace h12 : (Ints ws) (fv 12) W4 := h12
        replace h13 : fv 13 = .int .i64 (0) := h13
        simp only [fin, List.filterMap]
        go_simp
        have X4 := Lib.hid (KX.out.trans hF)
        obtain ⟨A12, c12, hv12, hr12⟩ := SlV.of_ints HWS.out h12
        rw [hv12]
        have R12 := Lib.hid hr12
        have K9 := Lib.hid (KA9.out.ext hF)
        have V2' := Lib.hid (V2.out.ext hF)
        clear h12 h13 hv12 hr12 z0 z1 z2 z3 z4 z5 d0 d1 d2 d3 d4 EB V1 V2 KA8 KA9 KX H42 hF
        have EB := Lib.hid (E0.out.trans X4.out)
        have V2 := Lib.hid V2'.out
        obtain ⟨z0, z1, z2, z3, z4, z5⟩ := FA.out _ X4.out
        go_wp2
        refine wp_region_each [some 100, some 101, some 102, some 103, some 104, some 105, some 99, some 106, some 107, some 14, some 15] [[3], [100], [4], [102], [7], [101, 103, 104], [105], [99], [99], [106], [107]]
          [Is (.agg #[.int .i64 (t), .slice A n ca, .slice R n cr]), ClsV t ls rs, Is (.agg #[.int .i64 (f), .slice B n cb]), DrvV f hot, Is (.int .i64 (y4)), TupV (RgV n L1) (0), TupV (RgV n L1) (0), RgV n L1, Is (.int .i64 (0)), RgV n L1, Is (.int .i64 (0))]
          (by kernel_rfl) (by kernel_rfl) (by kernel_rfl) (by kernel_rfl) (by kernel_rfl) Ext (fun W => Ext W4 W)
          (fun W _ => Ext.refl W) (fun W W' h k => h.trans k) ?_ (Ext.drew _) ?_ ?_
        · repeat (refine ⟨fun _ _ _ _ k h => (by first | exact h | exact (by first | exact LadV.ext h k | exact DrvV.ext h k | exact ClsV.ext h k | exact RgV.ext h k | exact IntsAt.ext h k | exact TupV.ext (fun _ _ _ h k => by first | exact RgV.ext h k | exact IntsAt.ext h k) h k)), ?_⟩)
          exact trivial
        · refine ⟨?_, ?_, ?_, ?_, ?_, ?_, ?_, ?_, ?_, ?_, ?_, trivial⟩
          all_goals intro ρ W ⟨kc, kg, kf⟩ hF hs
          · obtain ⟨h0, -⟩ := hs
            replace h0 : ρ (.tmp 3) = .pointer (some ⟨w.heap.size, 0, none⟩) := h0
            have hc0 : W.cell? ⟨w.heap.size, 0, none⟩ = some (.int .i64 (t)) := hF.cell (by assumption)
            have hc1 : W.cell? ⟨w.heap.size, 1, none⟩ = some (.slice A n ca) := hF.cell (by assumption)
            have hc2 : W.cell? ⟨w.heap.size, 2, none⟩ = some (.slice R n cr) := hF.cell (by assumption)
            go_simp
            exact ⟨Ext.refl _, rfl⟩
          · obtain ⟨h0, -⟩ := hs
            replace h0 : ρ (.tmp 100) = .agg #[.int .i64 (t), .slice A n ca, .slice R n cr] := h0
            go_simp
            exact HCC.out W (EB.out.trans hF)
          · obtain ⟨h0, -⟩ := hs
            replace h0 : ρ (.tmp 4) = .pointer (some ⟨w.heap.size + 1, 0, none⟩) := h0
            have hc0 : W.cell? ⟨w.heap.size + 1, 0, none⟩ = some (.int .i64 (f)) := hF.cell (by assumption)
            have hc1 : W.cell? ⟨w.heap.size + 1, 1, none⟩ = some (.slice B n cb) := hF.cell (by assumption)
            go_simp
            exact ⟨Ext.refl _, rfl⟩
          · obtain ⟨h0, -⟩ := hs
            replace h0 : ρ (.tmp 102) = .agg #[.int .i64 (f), .slice B n cb] := h0
            go_simp
            exact HCD.out W (EB.out.trans hF)
          · obtain ⟨h0, -⟩ := hs
            replace h0 : ρ (.tmp 7) = .int .i64 (y4) := h0
            go_simp
            exact ⟨Ext.refl _, rfl⟩
          · obtain ⟨h0, h1, h2, -⟩ := hs
            replace h0 : (ClsV t ls rs) (ρ (.tmp 101)) W := h0
            replace h1 : (DrvV f hot) (ρ (.tmp 103)) W := h1
            replace h2 : ρ (.tmp 104) = .int .i64 (y4) := h2
            go_simp
            exact H74.out W _ _ h0 h1
          · obtain ⟨h0, -⟩ := hs
            replace h0 : (TupV (RgV n L1) (0)) (ρ (.tmp 105)) W := h0
            go_simp
            first | exact ⟨Ext.refl _, h0⟩ | exact Ext.refl _
          · obtain ⟨h0, -⟩ := hs
            replace h0 : (TupV (RgV n L1) (0)) (ρ (.tmp 99)) W := h0
            obtain ⟨v, hv, hp⟩ := h0
            go_simp
            first | exact ⟨Ext.refl _, hp⟩ | exact Ext.refl _
          · obtain ⟨h0, -⟩ := hs
            replace h0 : (TupV (RgV n L1) (0)) (ρ (.tmp 99)) W := h0
            obtain ⟨v, hv, hp⟩ := h0
            go_simp
            first | exact ⟨Ext.refl _, rfl⟩ | exact Ext.refl _
          · obtain ⟨h0, -⟩ := hs
            replace h0 : (RgV n L1) (ρ (.tmp 106)) W := h0
            go_simp
            first | exact ⟨Ext.refl _, h0⟩ | exact Ext.refl _
          · obtain ⟨h0, -⟩ := hs
            replace h0 : ρ (.tmp 107) = .int .i64 (0) := h0
            go_simp
            exact ⟨Ext.refl _, rfl⟩
        · intro fv W5 hF hs
          obtain ⟨-, -, -, -, -, -, -, -, -, h14, h15, -⟩ := hs
          replace h14 : (RgV n L1) (fv 14) W5 := h14
          replace h15 : fv 15 = .int .i64 (0) := h15
          simp only [fin, List.filterMap]
          go_simp
          have X5 := Lib.hid (X4.out.trans hF)
          obtain ⟨g14, cu14, hv14, hb14, hr14⟩ := h14
          rw [hv14]
          have B14 := Lib.hid hb14
          have Q14 := Lib.hid hr14
          have S12 := Lib.hid (R12.out.ext hF)
          have V2x := Lib.hid (V2.out.ext hF)
          have L9 := Lib.hid (K9.out.ext hF)
          clear h15 hv14 hb14 hr14 z0 z1 z2 z3 z4 z5 EB V2 V2' K9 R12 H74 HCC X4 hF
          have EB := Lib.hid (E0.out.trans X5.out)
          have V2 := Lib.hid V2x.out
          obtain ⟨z0, z1, z2, z3, z4, z5⟩ := FA.out _ X5.out
          have d2 := L9.out.cell 0
          have d3 := L9.out.cell 1
          have d4 := L9.out.cell 2
          go_wp2
          refine wp_region_each [some 109, some 110, some 111, some 112, some 113, some 108, some 114, some 115, some 16, some 17] [[9], [4], [110], [7], [109, 111, 112], [113], [108], [108], [114], [115]]
            [Is (.agg #[.int .i64 (t), .slice (some ⟨g2, 0, none⟩) n c2, .slice Rk n ck]), Is (.agg #[.int .i64 (f), .slice B n cb]), DrvV f hot, Is (.int .i64 (y4)), TupV (RgV n L2) (0), TupV (RgV n L2) (0), RgV n L2, Is (.int .i64 (0)), RgV n L2, Is (.int .i64 (0))]
            (by kernel_rfl) (by kernel_rfl) (by kernel_rfl) (by kernel_rfl) (by kernel_rfl) Ext (fun W => Ext W5 W)
            (fun W _ => Ext.refl W) (fun W W' h k => h.trans k) ?_ (Ext.drew _) ?_ ?_
          · repeat (refine ⟨fun _ _ _ _ k h => (by first | exact h | exact (by first | exact LadV.ext h k | exact DrvV.ext h k | exact ClsV.ext h k | exact RgV.ext h k | exact IntsAt.ext h k | exact TupV.ext (fun _ _ _ h k => by first | exact RgV.ext h k | exact IntsAt.ext h k) h k)), ?_⟩)
            exact trivial
          · refine ⟨?_, ?_, ?_, ?_, ?_, ?_, ?_, ?_, ?_, ?_, trivial⟩
            all_goals intro ρ W ⟨kc, kg, kf⟩ hF hs
            · obtain ⟨h0, -⟩ := hs
              replace h0 : ρ (.tmp 9) = .pointer (some ⟨b9, 0, none⟩) := h0
              have hc0 : W.cell? ⟨b9, 0, none⟩ = some (.int .i64 (t)) := hF.cell (by assumption)
              have hc1 : W.cell? ⟨b9, 1, none⟩ = some (.slice (some ⟨g2, 0, none⟩) n c2) := hF.cell (by assumption)
              have hc2 : W.cell? ⟨b9, 2, none⟩ = some (.slice Rk n ck) := hF.cell (by assumption)
              go_simp
              exact ⟨Ext.refl _, rfl⟩
            · obtain ⟨h0, -⟩ := hs
              replace h0 : ρ (.tmp 4) = .pointer (some ⟨w.heap.size + 1, 0, none⟩) := h0
              have hc0 : W.cell? ⟨w.heap.size + 1, 0, none⟩ = some (.int .i64 (f)) := hF.cell (by assumption)
              have hc1 : W.cell? ⟨w.heap.size + 1, 1, none⟩ = some (.slice B n cb) := hF.cell (by assumption)
              go_simp
              exact ⟨Ext.refl _, rfl⟩
            · obtain ⟨h0, -⟩ := hs
              replace h0 : ρ (.tmp 110) = .agg #[.int .i64 (f), .slice B n cb] := h0
              go_simp
              exact HCD.out W (EB.out.trans hF)
            · obtain ⟨h0, -⟩ := hs
              replace h0 : ρ (.tmp 7) = .int .i64 (y4) := h0
              go_simp
              exact ⟨Ext.refl _, rfl⟩
            · obtain ⟨h0, h1, h2, -⟩ := hs
              replace h0 : ρ (.tmp 109) = .agg #[.int .i64 (t), .slice (some ⟨g2, 0, none⟩) n c2, .slice Rk n ck] := h0
              replace h1 : (DrvV f hot) (ρ (.tmp 111)) W := h1
              replace h2 : ρ (.tmp 112) = .int .i64 (y4) := h2
              go_simp
              exact H75.out W _ _ (V2.out.ext hF) h1
            · obtain ⟨h0, -⟩ := hs
              replace h0 : (TupV (RgV n L2) (0)) (ρ (.tmp 113)) W := h0
              go_simp
              first | exact ⟨Ext.refl _, h0⟩ | exact Ext.refl _
            · obtain ⟨h0, -⟩ := hs
              replace h0 : (TupV (RgV n L2) (0)) (ρ (.tmp 108)) W := h0
              obtain ⟨v, hv, hp⟩ := h0
              go_simp
              first | exact ⟨Ext.refl _, hp⟩ | exact Ext.refl _
            · obtain ⟨h0, -⟩ := hs
              replace h0 : (TupV (RgV n L2) (0)) (ρ (.tmp 108)) W := h0
              obtain ⟨v, hv, hp⟩ := h0
              go_simp
              first | exact ⟨Ext.refl _, rfl⟩ | exact Ext.refl _
            · obtain ⟨h0, -⟩ := hs
              replace h0 : (RgV n L2) (ρ (.tmp 114)) W := h0
              go_simp
              first | exact ⟨Ext.refl _, h0⟩ | exact Ext.refl _
            · obtain ⟨h0, -⟩ := hs
              replace h0 : ρ (.tmp 115) = .int .i64 (0) := h0
              go_simp
              exact ⟨Ext.refl _, rfl⟩
          · intro fv W6 hF hs
            obtain ⟨-, -, -, -, -, -, -, -, h16, h17, -⟩ := hs
            replace h16 : (RgV n L2) (fv 16) W6 := h16
            replace h17 : fv 17 = .int .i64 (0) := h17
            simp only [fin, List.filterMap]
            go_simp
            have X6 := Lib.hid (X5.out.trans hF)
            obtain ⟨g16, cu16, hv16, hb16, hr16⟩ := h16
            rw [hv16]
            have B16 := Lib.hid hb16
            have Q16 := Lib.hid hr16
            have T12 := Lib.hid (S12.out.ext hF)
            have T14 := Lib.hid (B14.out.ext hF)
            clear h17 hv16 hb16 hr16 EB V2 V2x L9 S12 B14 H75 HCD X5 d2 d3 d4 hF z0 z1 z2 z3 z4 z5
            have u0 : W6.cell? ⟨w.heap.size, 2, none⟩ = some (.slice R n cr) := (FA.out _ X6.out).2.2.1
            go_wp2
            obtain ⟨wo, hwo⟩ : ∃ x, x = wr := ⟨_, rfl⟩
            subst hwo
            go_loopw [18] (fun i wr => ∃ k : Nat, k ≤ n ∧ i = .int .i64 k ∧ Ext W6 wr) (fun i _ => n - (intOf i).toNat)
            case atStart => exact ⟨0, Nat.zero_le _, rfl, Ext.refl _⟩
            case round =>
              obtain ⟨k, hk, rfl, hx⟩ := hrel
              have HX := Lib.hid hx
              by_cases hlt : k < n
              · obtain ⟨x, hx1⟩ : ∃ x, ws[k]? = some x := ⟨_, List.getElem?_eq_getElem (by rw [HWS.out]; exact hlt)⟩
                obtain ⟨r, hr1⟩ : ∃ r, L1[k]? = some r := ⟨_, List.getElem?_eq_getElem (by rw [HLL.out]; exact hlt)⟩
                obtain ⟨l1, l2⟩ := HL1.out k r x hr1 hx1
                have hr2 : L2[k]? = some ⟨x, x⟩ := by rw [HL2.out, List.getElem?_map, hx1]; rfl
                obtain ⟨b12, o12, hA12, hb12, hc12⟩ := T12.out.2 k x hx1
                subst hA12
                obtain ⟨p1, p2⟩ := Q14.out.2 k r hr1
                obtain ⟨p3, p4⟩ := Q16.out.2 k _ hr2
                have e0 : wr.cell? ⟨b12, o12 + k * 1, none⟩ = some (.int .i64 x) := hx.cell (hc12 0 _ rfl)
                rw [Nat.mul_one] at e0
                have e1 : wr.cell? ⟨g14, k * 2, none⟩ = some (.int .i64 r.re) := by rw [(T14.out.ext hx).cell]; exact p1
                have e2 : wr.cell? ⟨g14, k * 2 + 1, none⟩ = some (.int .i64 r.im) := by rw [(T14.out.ext hx).cell]; exact p2
                have e3 : wr.cell? ⟨g16, k * 2, none⟩ = some (.int .i64 x) := by rw [(B16.out.ext hx).cell]; exact p3
                have e4 : wr.cell? ⟨g16, k * 2 + 1, none⟩ = some (.int .i64 x) := by rw [(B16.out.ext hx).cell]; exact p4
                have HWI := Lib.hid (fun W => within_any x r.re r.im W)
                rw [show inB r.re r.im x = true by simp [inB, l1, l2]] at HWI
                have hki : (k : Int) < (n : Int) := by omega
                clear hx hx1 hr1 hr2 hc12 hb12 p1 p2 p3 p4 u0
                go_wp2
                go_quiet (first | (go_at_call 40; refine Calls.quiet_of_same ((HWI.out _).mono fun _ _ ⟨h1, h2⟩ => ⟨h1, h2.symm⟩)))
                go_wp2
                go_roundw
                case rel => exact ⟨k + 1, by omega, by go_num, HX.out.trans (Ext.drewN _ _)⟩
                case measure => simp [intOf]; omega
              · obtain rfl : n = k := by omega
                go_wp2
                go_ret
                exact ⟨rfl, E0.out.trans (X6.out.trans HX.out)⟩

theorem fieldEvery_any (t : Int) (A : Option Addr) (n ca : Nat) (ls : List Sh) (hn : ls.length = n) (R : Option Addr) (m cr : Nat) (rs : List G) (hm : rs.length = m) (f : Int) (B : Option Addr) (q cb : Nat) (hot : List Bool) (hh : hot.length = q) (y0 y1 y2 y3 y4 : Int) (w : World) (hA : n ≤ 6 → RowsAt 3 Sh.enc w A ls) (hR : m ≤ 6 → RowsAt 2 G.enc w R rs) (hB : q ≤ 6 → RowsAt 1 boolEnc w B hot) (hAn : A = none → ca = 0) (hRn : R = none → cr = 0) (hBn : B = none → cb = 0) :
    Calls Try.prog 14 #[.agg #[.int .i64 t, .slice A n ca, .slice R m cr], .agg #[.int .i64 f, .slice B q cb], .agg #[.int .i64 y0, .int .i64 y1, .int .i64 y2, .int .i64 y3, .int .i64 y4]] w fun e w' => e = .returned (.bool true) ∧ Ext w w' := by
  by_cases h : (checkC t ls rs).2 = 0 ∧ drvE f q n = 0 ∧ rangeE 0 100000 [y4] = 0
  · obtain ⟨hc, hd, ht⟩ := h
    obtain ⟨hcl, hlen, -⟩ := checkC_zero hc
    have hdd : driveE t ls f q = 0 := by rw [drive_split, if_neg (by simp [hcl]), hn]; exact hd
    obtain ⟨⟨-, ⟨_, h4⟩, -⟩, -, hq⟩ := (driveE_zero t ls f q).1 hdd
    obtain rfl : n = m := by omega
    obtain rfl : n = q := by omega
    exact fieldEvery_main t A n ca ls hn R cr rs hm f B cb hot hh y0 y1 y2 y3 y4 w (hA (by omega)) (hR (by omega)) (hB (by omega)) hAn hRn hBn hc hdd ht
  · exact fieldEvery_err t A n ca ls hn R m cr rs hm f B q cb hot hh y0 y1 y2 y3 y4 w hA hR h
end Go.Proofs.Ytpaoeghdfeekoaa
