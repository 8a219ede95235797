/- FieldClasses: the law's function. -/
import Derived.Test.YtpaoeghdfeekoaaK44
import Derived.Test.YtpaoeghdfeekoaaK40
import Derived.Test.YtpaoeghdfeekoaaK15
namespace Go.Proofs.Ytpaoeghdfeekoaa
open Go.RowKit Go.Shelf Go.Mem Go.RegInv
attribute [local go_sem] RelUpon_value RelUpon_skip RelUpon_enter BigFrame.eval_const BigFrame.eval_global BigFrame.eval_func

theorem checkClass_V {t : Int} {ls : List Sh} {rs : List G} (W : World) (u : Value) (h : ClsV t ls rs u W) : Calls Try.prog 72 #[u] W fun e w' => e = .returned (.tuple #[.int .i64 (checkC t ls rs).1, .int .i64 (checkC t ls rs).2]) ∧ Ext W w' := by
  obtain ⟨A, n, c, R, m, d, h1, h2, rfl, h3, h4⟩ := h
  exact checkClass_any t A n c ls h1.out R m d rs h2.out W h3.1 h4
theorem rangesOf_E {t : Int} {ls : List Sh} {rs : List G} {f : Int} {hot : List Bool} {q : Nat} (hh : hot.length = q) (total : Int) (hz : rgE t ls rs f q total ≠ 0) (W : World) (u v : Value) (h : ClsV t ls rs u W) (k : DrvV f hot v W) :
    Calls Try.prog 74 #[u, v, .int .i64 total] W (VPost W (TupV (Is (.slice none 0 0)) (rgE t ls rs f q total))) := by
  obtain ⟨A, n', c, R, m', d, h1, h2, rfl, h3, h4⟩ := h
  obtain ⟨B, q', cb, h5, rfl, h6⟩ := k
  obtain rfl : q = q' := hh.symm.trans h5.out
  refine (rangesOf_err t A n' c ls h1.out R m' d rs h2.out f B q cb total W h3.1 h4 hz).mono ?_
  rintro e w' ⟨rfl, hx⟩
  exact ⟨_, rfl, hx, _, rfl, rfl⟩
theorem rgE_split (t : Int) (ls : List Sh) (rs : List G) (n : Nat) (hn : ls.length = n) (f : Int) (q : Nat) (total : Int) : rgE t ls rs f q total = if (checkC t ls rs).2 ≠ 0 then (checkC t ls rs).2 else if drvE f q n ≠ 0 then drvE f q n else rangeE 0 100000 [total] := by
  unfold rgE
  by_cases h : (checkC t ls rs).2 = 0
  · have hl := (checkC_zero h).1
    rw [h, drive_split, if_neg (by simp [hl]), hn]
    by_cases h2 : drvE f q n = 0
    · rw [h2]; by_cases h3 : rangeE 0 100000 [total] = 0 <;> simp [firstE, h3]
    · simp [firstE, h2]
  · simp [firstE, h]

set_option maxRecDepth 100000 in
set_option maxHeartbeats 8000000 in
theorem fieldClasses_bad (t : Int) (A : Option Addr) (n ca : Nat) (ls : List Sh) (hn : ls.length = n) (R : Option Addr) (m cr : Nat) (rs : List G) (hm : rs.length = m) (f : Int) (B : Option Addr) (q cb : Nat) (hot : List Bool) (hh : hot.length = q) (total : Int) (w : World) (hA : RowsAt 3 Sh.enc w A ls) (hR : RowsAt 2 G.enc w R rs) (hB : RowsAt 1 boolEnc w B hot) (n6 : n ≤ 6) (m6 : m ≤ 6) (q6 : q ≤ 6) (hAn : A = none → ca = 0) (hRn : R = none → cr = 0) (hBn : B = none → cb = 0) (hz : rgE t ls rs f q total ≠ 0) :
    Calls Try.prog 13 #[.agg #[.int .i64 t, .slice A n ca, .slice R m cr], .agg #[.int .i64 f, .slice B q cb], .int .i64 total] w fun e w' => e = .returned (.bool true) ∧ Ext w w' := by
  obtain ⟨W0, hW0⟩ : ∃ W0, W0 = ((w.alloc (.cells #[.int .i64 t, .slice A n ca, .slice R m cr] 120)).alloc (.cells #[.int .i64 f, .slice B q cb] 27)) := ⟨_, rfl⟩
  have k0 : Blk W0 w.heap.size 120 #[.int .i64 t, .slice A n ca, .slice R m cr] := by rw [hW0]; exact (Blk.new _ _ _).alloc _
  have k1 : Blk W0 (w.heap.size + 1) 27 #[.int .i64 f, .slice B q cb] := by rw [hW0]; exact Blk.newAt _ _ _ (by simp)
  have e0 : Ext w W0 := by rw [hW0]; exact (Ext.alloc _ _).trans (Ext.alloc _ _)
  have FA := Lib.hid (show ∀ W : World, Ext W0 W → W.cell? ⟨w.heap.size, 0, none⟩ = some (.int .i64 t) ∧ W.cell? ⟨w.heap.size, 1, none⟩ = some (.slice A n ca) ∧ W.cell? ⟨w.heap.size, 2, none⟩ = some (.slice R m cr) ∧ W.cell? ⟨w.heap.size + 1, 0, none⟩ = some (.int .i64 f) ∧ W.cell? ⟨w.heap.size + 1, 1, none⟩ = some (.slice B q cb) from
    fun W hx => ⟨(k0.ext hx).cell 0, (k0.ext hx).cell 1, (k0.ext hx).cell 2, (k1.ext hx).cell 0, (k1.ext hx).cell 1⟩)
  have E0 := Lib.hid e0
  have HF1 := Lib.hid (few_yes t A n ca · (by omega))
  have HF2 := Lib.hid (fewHot_yes f B q cb · (by omega))
  have M6' : decide ((6 : Int) < (m : Int)) = false := by simp; omega
  have HCC := Lib.hid (fun W (e : Ext w W) => copyClass_V (t := t) hn hm (hA.ext e) (hR.ext e) (by omega) (by omega) hAn hRn)
  have HCD := Lib.hid (copyDrive_V (f := f) hh hB (by omega) hBn)
  have HRC := Lib.hid (fun W (e : Ext w W) => refCheckClass_any t A n ca ls hn R m cr rs hm W (fun _ => hA.ext e) (fun _ => hR.ext e))
  have HDE := Lib.hid (fun W => refDriveErr_any t A n ca f B q cb W)
  have HTE := Lib.hid (fun W => totalErr_any total W)
  have H74 := Lib.hid (rangesOf_E (t := t) (ls := ls) (rs := rs) (f := f) hh total hz)
  have HS := Lib.hid (rgE_split t ls rs n hn f q total)
  clear hn hm hh hA hR hB n6 m6 q6 hAn hRn hBn k0 k1 e0
  have HCV := Lib.hid (fun W u (h : ClsV t ls rs u W) => checkClass_V W u h)
  generalize rgE t ls rs f q total = er at *
  generalize (checkC t ls rs).1 = c1 at *
  generalize (checkC t ls rs).2 = c2 at *
  generalize drvE f q n = c3 at *
  generalize rangeE 0 100000 [total] = c4 at *
  by_cases h1 : c2 = 0
  · have b1 : (c2 == 0) = true := by simp [h1]
    by_cases h2 : c3 = 0
    · have b2 : (c3 == 0) = true := by simp [h2]
      have he : er = c4 := by rw [HS.out, if_neg (by simp [h1]), if_neg (by simp [h2])]
      subst he
      have b3 : (er != 0) = true := by simp [hz]
      clear h1 h2 hz HS
      go_enter Try.func13, Try.ntmps13
      go_wp2_with (first
        | (rw [← hW0]; clear hW0; go_at_call 15; refine (awake_any _).mono ?_; rintro e W1 ⟨rfl, hx1⟩; obtain ⟨z0, z1, z2, z3, z4⟩ := FA.out _ hx1; have X1 := Lib.hid hx1; clear hx1)
        | (go_at_call 16; refine (HF1.out _).mono ?_; rintro e W2 ⟨rfl, hx⟩; clear z0 z1 z2 z3 z4; have X2 := Lib.hid (X1.out.trans hx); clear hx; obtain ⟨z0, z1, z2, z3, z4⟩ := FA.out _ X2.out)
        | (go_at_call 17; refine (HF2.out _).mono ?_; rintro e W3 ⟨rfl, hx⟩; clear z0 z1 z2 z3 z4; have X3 := Lib.hid (X2.out.trans hx); clear hx; obtain ⟨z0, z1, z2, z3, z4⟩ := FA.out _ X3.out)
        | (go_at_call 73; refine (HCC.out _ (E0.out.trans X3.out)).mono ?_; rintro e W4 ⟨v32, rfl, hx, hv⟩; have V32 := Lib.hid hv; clear hv z0 z1 z2 z3 z4; have X4 := Lib.hid (X3.out.trans hx); clear hx; obtain ⟨z0, z1, z2, z3, z4⟩ := FA.out _ X4.out)
        | (go_at_call 72; refine (HCV.out _ _ V32.out).mono ?_; rintro e W5 ⟨rfl, hx⟩; clear z0 z1 z2 z3 z4; have X5 := Lib.hid (X4.out.trans hx); clear hx; obtain ⟨z0, z1, z2, z3, z4⟩ := FA.out _ X5.out))
      refine wp_region_each [some 37, some 38, some 39, some 40, some 41, some 42, some 36, some 43, some 44, some 9, some 10] [[3], [37], [4], [39], [2], [38, 40, 41], [42], [36], [36], [43], [44]]
        [Is (.agg #[.int .i64 (t), .slice A n ca, .slice R m cr]), ClsV t ls rs, Is (.agg #[.int .i64 (f), .slice B q cb]), DrvV f hot, Is (.int .i64 (total)), TupV (Is (.slice none 0 0)) (er), TupV (Is (.slice none 0 0)) (er), Is (.slice none 0 0), Is (.int .i64 (er)), Is (.slice none 0 0), Is (.int .i64 (er))]
        (by kernel_rfl) (by kernel_rfl) (by kernel_rfl) (by kernel_rfl) (by kernel_rfl) Ext (fun W => Ext W5 W)
        (fun W _ => Ext.refl W) (fun W W' h k => h.trans k) ?_ (Ext.drew _) ?_ ?_
      · repeat (refine ⟨fun _ _ _ _ k h => (by first | exact h | exact (by first | exact LadV.ext h k | exact DrvV.ext h k | exact ClsV.ext h k | exact RgV.ext h k | exact TupV.ext (fun _ _ _ h k => by first | exact RgV.ext h k | exact h) h k)), ?_⟩)
        exact trivial
      · refine ⟨?_, ?_, ?_, ?_, ?_, ?_, ?_, ?_, ?_, ?_, ?_, trivial⟩
        all_goals intro ρ W ⟨kc, kg, kf⟩ hF hs
        · obtain ⟨h0, -⟩ := hs
          replace h0 : ρ (.tmp 3) = .pointer (some ⟨w.heap.size, 0, none⟩) := h0
          have hc0 : W.cell? ⟨w.heap.size, 0, none⟩ = some (.int .i64 (t)) := hF.cell (by assumption)
          have hc1 : W.cell? ⟨w.heap.size, 1, none⟩ = some (.slice A n ca) := hF.cell (by assumption)
          have hc2 : W.cell? ⟨w.heap.size, 2, none⟩ = some (.slice R m cr) := hF.cell (by assumption)
          go_simp
          exact ⟨Ext.refl _, rfl⟩
        · obtain ⟨h0, -⟩ := hs
          replace h0 : ρ (.tmp 37) = .agg #[.int .i64 (t), .slice A n ca, .slice R m cr] := h0
          go_simp
          exact HCC.out W (E0.out.trans (X5.out.trans hF))
        · obtain ⟨h0, -⟩ := hs
          replace h0 : ρ (.tmp 4) = .pointer (some ⟨w.heap.size + 1, 0, none⟩) := h0
          have hc0 : W.cell? ⟨w.heap.size + 1, 0, none⟩ = some (.int .i64 (f)) := hF.cell (by assumption)
          have hc1 : W.cell? ⟨w.heap.size + 1, 1, none⟩ = some (.slice B q cb) := hF.cell (by assumption)
          go_simp
          exact ⟨Ext.refl _, rfl⟩
        · obtain ⟨h0, -⟩ := hs
          replace h0 : ρ (.tmp 39) = .agg #[.int .i64 (f), .slice B q cb] := h0
          go_simp
          exact HCD.out W (E0.out.trans (X5.out.trans hF))
        · obtain ⟨h0, -⟩ := hs
          replace h0 : ρ (.tmp 2) = .int .i64 (total) := h0
          go_simp
          exact ⟨Ext.refl _, rfl⟩
        · obtain ⟨h0, h1, h2, -⟩ := hs
          replace h0 : (ClsV t ls rs) (ρ (.tmp 38)) W := h0
          replace h1 : (DrvV f hot) (ρ (.tmp 40)) W := h1
          replace h2 : ρ (.tmp 41) = .int .i64 (total) := h2
          go_simp
          exact H74.out W _ _ h0 h1
        · obtain ⟨h0, -⟩ := hs
          replace h0 : (TupV (Is (.slice none 0 0)) (er)) (ρ (.tmp 42)) W := h0
          go_simp
          first | exact ⟨Ext.refl _, h0⟩ | exact Ext.refl _
        · obtain ⟨h0, -⟩ := hs
          replace h0 : (TupV (Is (.slice none 0 0)) (er)) (ρ (.tmp 36)) W := h0
          obtain ⟨v, hv, hp⟩ := h0
          go_simp
          first | exact ⟨Ext.refl _, rfl⟩ | exact Ext.refl _
        · obtain ⟨h0, -⟩ := hs
          replace h0 : (TupV (Is (.slice none 0 0)) (er)) (ρ (.tmp 36)) W := h0
          obtain ⟨v, hv, hp⟩ := h0
          go_simp
          first | exact ⟨Ext.refl _, rfl⟩ | exact Ext.refl _
        · obtain ⟨h0, -⟩ := hs
          replace h0 : ρ (.tmp 43) = .slice none 0 0 := h0
          go_simp
          exact ⟨Ext.refl _, rfl⟩
        · obtain ⟨h0, -⟩ := hs
          replace h0 : ρ (.tmp 44) = .int .i64 (er) := h0
          go_simp
          exact ⟨Ext.refl _, rfl⟩
      · intro fv W6 hF hs
        obtain ⟨-, -, -, -, -, -, -, -, -, h9, h10, -⟩ := hs
        replace h9 : fv 9 = .slice none 0 0 := h9
        replace h10 : fv 10 = .int .i64 (er) := h10
        simp only [fin, List.filterMap]
        go_simp
        have X6 := Lib.hid (X5.out.trans hF)
        clear z0 z1 z2 z3 z4
        obtain ⟨z0, z1, z2, z3, z4⟩ := FA.out _ X6.out
        clear hF h9 h10
        go_wp2_with (first
          | (go_at_call 75; refine (HRC.out _ (E0.out.trans X6.out)).mono ?_; rintro e W7 ⟨rfl, hx⟩; clear z0 z1 z2 z3 z4; have X7 := Lib.hid (X6.out.trans hx); clear hx; obtain ⟨z0, z1, z2, z3, z4⟩ := FA.out _ X7.out)
          | (go_at_call 76; refine (HDE.out _).mono ?_; rintro e W8 ⟨rfl, hx⟩; clear z0 z1 z2 z3 z4; have X8 := Lib.hid (X7.out.trans hx); clear hx; obtain ⟨z0, z1, z2, z3, z4⟩ := FA.out _ X8.out)
          | (go_at_call 49; refine (HTE.out _).mono ?_; rintro e W9 ⟨rfl, rfl⟩))
        go_ret
        exact ⟨rfl, E0.out.trans X8.out⟩
    · have b2 : (c3 == 0) = false := by simp [h2]
      have he : er = c3 := by rw [HS.out, if_neg (by simp [h1]), if_pos h2]
      subst he
      have b3 : (er != 0) = true := by simp [hz]
      clear h1 h2 hz HS
      go_enter Try.func13, Try.ntmps13
      go_wp2_with (first
        | (rw [← hW0]; clear hW0; go_at_call 15; refine (awake_any _).mono ?_; rintro e W1 ⟨rfl, hx1⟩; obtain ⟨z0, z1, z2, z3, z4⟩ := FA.out _ hx1; have X1 := Lib.hid hx1; clear hx1)
        | (go_at_call 16; refine (HF1.out _).mono ?_; rintro e W2 ⟨rfl, hx⟩; clear z0 z1 z2 z3 z4; have X2 := Lib.hid (X1.out.trans hx); clear hx; obtain ⟨z0, z1, z2, z3, z4⟩ := FA.out _ X2.out)
        | (go_at_call 17; refine (HF2.out _).mono ?_; rintro e W3 ⟨rfl, hx⟩; clear z0 z1 z2 z3 z4; have X3 := Lib.hid (X2.out.trans hx); clear hx; obtain ⟨z0, z1, z2, z3, z4⟩ := FA.out _ X3.out)
        | (go_at_call 73; refine (HCC.out _ (E0.out.trans X3.out)).mono ?_; rintro e W4 ⟨v32, rfl, hx, hv⟩; have V32 := Lib.hid hv; clear hv z0 z1 z2 z3 z4; have X4 := Lib.hid (X3.out.trans hx); clear hx; obtain ⟨z0, z1, z2, z3, z4⟩ := FA.out _ X4.out)
        | (go_at_call 72; refine (HCV.out _ _ V32.out).mono ?_; rintro e W5 ⟨rfl, hx⟩; clear z0 z1 z2 z3 z4; have X5 := Lib.hid (X4.out.trans hx); clear hx; obtain ⟨z0, z1, z2, z3, z4⟩ := FA.out _ X5.out))
      refine wp_region_each [some 37, some 38, some 39, some 40, some 41, some 42, some 36, some 43, some 44, some 9, some 10] [[3], [37], [4], [39], [2], [38, 40, 41], [42], [36], [36], [43], [44]]
        [Is (.agg #[.int .i64 (t), .slice A n ca, .slice R m cr]), ClsV t ls rs, Is (.agg #[.int .i64 (f), .slice B q cb]), DrvV f hot, Is (.int .i64 (total)), TupV (Is (.slice none 0 0)) (er), TupV (Is (.slice none 0 0)) (er), Is (.slice none 0 0), Is (.int .i64 (er)), Is (.slice none 0 0), Is (.int .i64 (er))]
        (by kernel_rfl) (by kernel_rfl) (by kernel_rfl) (by kernel_rfl) (by kernel_rfl) Ext (fun W => Ext W5 W)
        (fun W _ => Ext.refl W) (fun W W' h k => h.trans k) ?_ (Ext.drew _) ?_ ?_
      · repeat (refine ⟨fun _ _ _ _ k h => (by first | exact h | exact (by first | exact LadV.ext h k | exact DrvV.ext h k | exact ClsV.ext h k | exact RgV.ext h k | exact TupV.ext (fun _ _ _ h k => by first | exact RgV.ext h k | exact h) h k)), ?_⟩)
        exact trivial
      · refine ⟨?_, ?_, ?_, ?_, ?_, ?_, ?_, ?_, ?_, ?_, ?_, trivial⟩
        all_goals intro ρ W ⟨kc, kg, kf⟩ hF hs
        · obtain ⟨h0, -⟩ := hs
          replace h0 : ρ (.tmp 3) = .pointer (some ⟨w.heap.size, 0, none⟩) := h0
          have hc0 : W.cell? ⟨w.heap.size, 0, none⟩ = some (.int .i64 (t)) := hF.cell (by assumption)
          have hc1 : W.cell? ⟨w.heap.size, 1, none⟩ = some (.slice A n ca) := hF.cell (by assumption)
          have hc2 : W.cell? ⟨w.heap.size, 2, none⟩ = some (.slice R m cr) := hF.cell (by assumption)
          go_simp
          exact ⟨Ext.refl _, rfl⟩
        · obtain ⟨h0, -⟩ := hs
          replace h0 : ρ (.tmp 37) = .agg #[.int .i64 (t), .slice A n ca, .slice R m cr] := h0
          go_simp
          exact HCC.out W (E0.out.trans (X5.out.trans hF))
        · obtain ⟨h0, -⟩ := hs
          replace h0 : ρ (.tmp 4) = .pointer (some ⟨w.heap.size + 1, 0, none⟩) := h0
          have hc0 : W.cell? ⟨w.heap.size + 1, 0, none⟩ = some (.int .i64 (f)) := hF.cell (by assumption)
          have hc1 : W.cell? ⟨w.heap.size + 1, 1, none⟩ = some (.slice B q cb) := hF.cell (by assumption)
          go_simp
          exact ⟨Ext.refl _, rfl⟩
        · obtain ⟨h0, -⟩ := hs
          replace h0 : ρ (.tmp 39) = .agg #[.int .i64 (f), .slice B q cb] := h0
          go_simp
          exact HCD.out W (E0.out.trans (X5.out.trans hF))
        · obtain ⟨h0, -⟩ := hs
          replace h0 : ρ (.tmp 2) = .int .i64 (total) := h0
          go_simp
          exact ⟨Ext.refl _, rfl⟩
        · obtain ⟨h0, h1, h2, -⟩ := hs
          replace h0 : (ClsV t ls rs) (ρ (.tmp 38)) W := h0
          replace h1 : (DrvV f hot) (ρ (.tmp 40)) W := h1
          replace h2 : ρ (.tmp 41) = .int .i64 (total) := h2
          go_simp
          exact H74.out W _ _ h0 h1
        · obtain ⟨h0, -⟩ := hs
          replace h0 : (TupV (Is (.slice none 0 0)) (er)) (ρ (.tmp 42)) W := h0
          go_simp
          first | exact ⟨Ext.refl _, h0⟩ | exact Ext.refl _
        · obtain ⟨h0, -⟩ := hs
          replace h0 : (TupV (Is (.slice none 0 0)) (er)) (ρ (.tmp 36)) W := h0
          obtain ⟨v, hv, hp⟩ := h0
          go_simp
          first | exact ⟨Ext.refl _, rfl⟩ | exact Ext.refl _
        · obtain ⟨h0, -⟩ := hs
          replace h0 : (TupV (Is (.slice none 0 0)) (er)) (ρ (.tmp 36)) W := h0
          obtain ⟨v, hv, hp⟩ := h0
          go_simp
          first | exact ⟨Ext.refl _, rfl⟩ | exact Ext.refl _
        · obtain ⟨h0, -⟩ := hs
          replace h0 : ρ (.tmp 43) = .slice none 0 0 := h0
          go_simp
          exact ⟨Ext.refl _, rfl⟩
        · obtain ⟨h0, -⟩ := hs
          replace h0 : ρ (.tmp 44) = .int .i64 (er) := h0
          go_simp
          exact ⟨Ext.refl _, rfl⟩
      · intro fv W6 hF hs
        obtain ⟨-, -, -, -, -, -, -, -, -, h9, h10, -⟩ := hs
        replace h9 : fv 9 = .slice none 0 0 := h9
        replace h10 : fv 10 = .int .i64 (er) := h10
        simp only [fin, List.filterMap]
        go_simp
        have X6 := Lib.hid (X5.out.trans hF)
        clear z0 z1 z2 z3 z4
        obtain ⟨z0, z1, z2, z3, z4⟩ := FA.out _ X6.out
        clear hF h9 h10
        go_wp2_with (first
          | (go_at_call 75; refine (HRC.out _ (E0.out.trans X6.out)).mono ?_; rintro e W7 ⟨rfl, hx⟩; clear z0 z1 z2 z3 z4; have X7 := Lib.hid (X6.out.trans hx); clear hx; obtain ⟨z0, z1, z2, z3, z4⟩ := FA.out _ X7.out)
          | (go_at_call 76; refine (HDE.out _).mono ?_; rintro e W8 ⟨rfl, hx⟩; clear z0 z1 z2 z3 z4; have X8 := Lib.hid (X7.out.trans hx); clear hx; obtain ⟨z0, z1, z2, z3, z4⟩ := FA.out _ X8.out))
        go_ret
        exact ⟨rfl, E0.out.trans X8.out⟩
  · have b1 : (c2 == 0) = false := by simp [h1]
    have he : er = c2 := by rw [HS.out, if_pos h1]
    subst he
    have b3 : (er != 0) = true := by simp [hz]
    clear h1 hz HS
    go_enter Try.func13, Try.ntmps13
    go_wp2_with (first
      | (rw [← hW0]; clear hW0; go_at_call 15; refine (awake_any _).mono ?_; rintro e W1 ⟨rfl, hx1⟩; obtain ⟨z0, z1, z2, z3, z4⟩ := FA.out _ hx1; have X1 := Lib.hid hx1; clear hx1)
      | (go_at_call 16; refine (HF1.out _).mono ?_; rintro e W2 ⟨rfl, hx⟩; clear z0 z1 z2 z3 z4; have X2 := Lib.hid (X1.out.trans hx); clear hx; obtain ⟨z0, z1, z2, z3, z4⟩ := FA.out _ X2.out)
      | (go_at_call 17; refine (HF2.out _).mono ?_; rintro e W3 ⟨rfl, hx⟩; clear z0 z1 z2 z3 z4; have X3 := Lib.hid (X2.out.trans hx); clear hx; obtain ⟨z0, z1, z2, z3, z4⟩ := FA.out _ X3.out)
      | (go_at_call 73; refine (HCC.out _ (E0.out.trans X3.out)).mono ?_; rintro e W4 ⟨v32, rfl, hx, hv⟩; have V32 := Lib.hid hv; clear hv z0 z1 z2 z3 z4; have X4 := Lib.hid (X3.out.trans hx); clear hx; obtain ⟨z0, z1, z2, z3, z4⟩ := FA.out _ X4.out)
      | (go_at_call 72; refine (HCV.out _ _ V32.out).mono ?_; rintro e W5 ⟨rfl, hx⟩; clear z0 z1 z2 z3 z4; have X5 := Lib.hid (X4.out.trans hx); clear hx; obtain ⟨z0, z1, z2, z3, z4⟩ := FA.out _ X5.out))
    refine wp_region_each [some 37, some 38, some 39, some 40, some 41, some 42, some 36, some 43, some 44, some 9, some 10] [[3], [37], [4], [39], [2], [38, 40, 41], [42], [36], [36], [43], [44]]
      [Is (.agg #[.int .i64 (t), .slice A n ca, .slice R m cr]), ClsV t ls rs, Is (.agg #[.int .i64 (f), .slice B q cb]), DrvV f hot, Is (.int .i64 (total)), TupV (Is (.slice none 0 0)) (er), TupV (Is (.slice none 0 0)) (er), Is (.slice none 0 0), Is (.int .i64 (er)), Is (.slice none 0 0), Is (.int .i64 (er))]
      (by kernel_rfl) (by kernel_rfl) (by kernel_rfl) (by kernel_rfl) (by kernel_rfl) Ext (fun W => Ext W5 W)
      (fun W _ => Ext.refl W) (fun W W' h k => h.trans k) ?_ (Ext.drew _) ?_ ?_
    · repeat (refine ⟨fun _ _ _ _ k h => (by first | exact h | exact (by first | exact LadV.ext h k | exact DrvV.ext h k | exact ClsV.ext h k | exact RgV.ext h k | exact TupV.ext (fun _ _ _ h k => by first | exact RgV.ext h k | exact h) h k)), ?_⟩)
      exact trivial
    · refine ⟨?_, ?_, ?_, ?_, ?_, ?_, ?_, ?_, ?_, ?_, ?_, trivial⟩
      all_goals intro ρ W ⟨kc, kg, kf⟩ hF hs
      · obtain ⟨h0, -⟩ := hs
        replace h0 : ρ (.tmp 3) = .pointer (some ⟨w.heap.size, 0, none⟩) := h0
        have hc0 : W.cell? ⟨w.heap.size, 0, none⟩ = some (.int .i64 (t)) := hF.cell (by assumption)
        have hc1 : W.cell? ⟨w.heap.size, 1, none⟩ = some (.slice A n ca) := hF.cell (by assumption)
        have hc2 : W.cell? ⟨w.heap.size, 2, none⟩ = some (.slice R m cr) := hF.cell (by assumption)
        go_simp
        exact ⟨Ext.refl _, rfl⟩
      · obtain ⟨h0, -⟩ := hs
        replace h0 : ρ (.tmp 37) = .agg #[.int .i64 (t), .slice A n ca, .slice R m cr] := h0
        go_simp
        exact HCC.out W (E0.out.trans (X5.out.trans hF))
      · obtain ⟨h0, -⟩ := hs
        replace h0 : ρ (.tmp 4) = .pointer (some ⟨w.heap.size + 1, 0, none⟩) := h0
        have hc0 : W.cell? ⟨w.heap.size + 1, 0, none⟩ = some (.int .i64 (f)) := hF.cell (by assumption)
        have hc1 : W.cell? ⟨w.heap.size + 1, 1, none⟩ = some (.slice B q cb) := hF.cell (by assumption)
        go_simp
        exact ⟨Ext.refl _, rfl⟩
      · obtain ⟨h0, -⟩ := hs
        replace h0 : ρ (.tmp 39) = .agg #[.int .i64 (f), .slice B q cb] := h0
        go_simp
        exact HCD.out W (E0.out.trans (X5.out.trans hF))
      · obtain ⟨h0, -⟩ := hs
        replace h0 : ρ (.tmp 2) = .int .i64 (total) := h0
        go_simp
        exact ⟨Ext.refl _, rfl⟩
      · obtain ⟨h0, h1, h2, -⟩ := hs
        replace h0 : (ClsV t ls rs) (ρ (.tmp 38)) W := h0
        replace h1 : (DrvV f hot) (ρ (.tmp 40)) W := h1
        replace h2 : ρ (.tmp 41) = .int .i64 (total) := h2
        go_simp
        exact H74.out W _ _ h0 h1
      · obtain ⟨h0, -⟩ := hs
        replace h0 : (TupV (Is (.slice none 0 0)) (er)) (ρ (.tmp 42)) W := h0
        go_simp
        first | exact ⟨Ext.refl _, h0⟩ | exact Ext.refl _
      · obtain ⟨h0, -⟩ := hs
        replace h0 : (TupV (Is (.slice none 0 0)) (er)) (ρ (.tmp 36)) W := h0
        obtain ⟨v, hv, hp⟩ := h0
        go_simp
        first | exact ⟨Ext.refl _, rfl⟩ | exact Ext.refl _
      · obtain ⟨h0, -⟩ := hs
        replace h0 : (TupV (Is (.slice none 0 0)) (er)) (ρ (.tmp 36)) W := h0
        obtain ⟨v, hv, hp⟩ := h0
        go_simp
        first | exact ⟨Ext.refl _, rfl⟩ | exact Ext.refl _
      · obtain ⟨h0, -⟩ := hs
        replace h0 : ρ (.tmp 43) = .slice none 0 0 := h0
        go_simp
        exact ⟨Ext.refl _, rfl⟩
      · obtain ⟨h0, -⟩ := hs
        replace h0 : ρ (.tmp 44) = .int .i64 (er) := h0
        go_simp
        exact ⟨Ext.refl _, rfl⟩
    · intro fv W6 hF hs
      obtain ⟨-, -, -, -, -, -, -, -, -, h9, h10, -⟩ := hs
      replace h9 : fv 9 = .slice none 0 0 := h9
      replace h10 : fv 10 = .int .i64 (er) := h10
      simp only [fin, List.filterMap]
      go_simp
      have X6 := Lib.hid (X5.out.trans hF)
      clear z0 z1 z2 z3 z4
      obtain ⟨z0, z1, z2, z3, z4⟩ := FA.out _ X6.out
      clear hF h9 h10
      go_wp2_with (first
        | (go_at_call 75; refine (HRC.out _ (E0.out.trans X6.out)).mono ?_; rintro e W7 ⟨rfl, hx⟩; clear z0 z1 z2 z3 z4; have X7 := Lib.hid (X6.out.trans hx); clear hx; obtain ⟨z0, z1, z2, z3, z4⟩ := FA.out _ X7.out))
      go_ret
      exact ⟨rfl, E0.out.trans X7.out⟩

set_option maxRecDepth 100000 in
set_option maxHeartbeats 8000000 in
theorem fieldClasses_ok (t : Int) (A : Option Addr) (n ca : Nat) (ls : List Sh) (hn : ls.length = n) (R : Option Addr) (cr : Nat) (rs : List G) (hm : rs.length = n) (f : Int) (B : Option Addr) (cb : Nat) (hot : List Bool) (hh : hot.length = n) (total : Int) (w : World) (hA : RowsAt 3 Sh.enc w A ls) (hR : RowsAt 2 G.enc w R rs) (hB : RowsAt 1 boolEnc w B hot) (hAn : A = none → ca = 0) (hRn : R = none → cr = 0) (hBn : B = none → cb = 0) (hc : (checkC t ls rs).2 = 0) (hd : driveE t ls f n = 0) (ht : rangeE 0 100000 [total] = 0) :
    Calls Try.prog 13 #[.agg #[.int .i64 t, .slice A n ca, .slice R n cr], .agg #[.int .i64 f, .slice B n cb], .int .i64 total] w fun e w' => e = .returned (.bool true) ∧ Ext w w' := by
  obtain ⟨W0, hW0⟩ : ∃ W0, W0 = ((w.alloc (.cells #[.int .i64 t, .slice A n ca, .slice R n cr] 120)).alloc (.cells #[.int .i64 f, .slice B n cb] 27)) := ⟨_, rfl⟩
  have k0 : Blk W0 w.heap.size 120 #[.int .i64 t, .slice A n ca, .slice R n cr] := by rw [hW0]; exact (Blk.new _ _ _).alloc _
  have k1 : Blk W0 (w.heap.size + 1) 27 #[.int .i64 f, .slice B n cb] := by rw [hW0]; exact Blk.newAt _ _ _ (by simp)
  have e0 : Ext w W0 := by rw [hW0]; exact (Ext.alloc _ _).trans (Ext.alloc _ _)
  have FA := Lib.hid (show ∀ W : World, Ext W0 W → W.cell? ⟨w.heap.size, 0, none⟩ = some (.int .i64 t) ∧ W.cell? ⟨w.heap.size, 1, none⟩ = some (.slice A n ca) ∧ W.cell? ⟨w.heap.size, 2, none⟩ = some (.slice R n cr) ∧ W.cell? ⟨w.heap.size + 1, 0, none⟩ = some (.int .i64 f) ∧ W.cell? ⟨w.heap.size + 1, 1, none⟩ = some (.slice B n cb) from
    fun W hx => ⟨(k0.ext hx).cell 0, (k0.ext hx).cell 1, (k0.ext hx).cell 2, (k1.ext hx).cell 0, (k1.ext hx).cell 1⟩)
  have E0 := Lib.hid e0
  obtain ⟨hcl, -, hrs⟩ := checkC_zero hc
  obtain ⟨⟨_, ⟨h1, h4⟩, hok⟩, hf, -⟩ := (driveE_zero t ls f n).1 hd
  rw [hn] at h1 h4
  have hdz : drvE f n n = 0 := by rw [drive_split, if_neg (by simp [hcl]), hn] at hd; exact hd
  have htot := (rangeE_zero 0 100000 [total]).1 ht total (by simp)
  have HF1 := Lib.hid (few_yes t A n ca · (by omega))
  have HF2 := Lib.hid (fewHot_yes f B n cb · (by omega))
  have M6' : decide ((6 : Int) < (n : Int)) = false := by simp; omega
  have HCC := Lib.hid (fun W (e : Ext w W) => copyClass_V (t := t) hn hm (hA.ext e) (hR.ext e) (by omega) (by omega) hAn hRn)
  have HCD := Lib.hid (copyDrive_V (f := f) hh hB (by omega) hBn)
  have HRC := Lib.hid (fun W (e : Ext w W) => refCheckClass_any t A n ca ls hn R n cr rs hm W (fun _ => hA.ext e) (fun _ => hR.ext e))
  have HDE := Lib.hid (fun W => refDriveErr_any t A n ca f B n cb W)
  have HTE := Lib.hid (fun W => totalErr_any total W)
  have HCV := Lib.hid (fun W u (h : ClsV t ls rs u W) => checkClass_V W u h)
  rw [hc] at HRC HCV
  rw [hdz] at HDE
  rw [ht] at HTE
  have H74 := Lib.hid (rangesOf_V (t := t) (rs := rs) hn hm hh total hc hd ht)
  have HRR := Lib.hid (fun W (e : Ext w W) => refRanges_any t A n ca ls hn R cr rs hm f B cb hot hh total W (hA.ext e) (hR.ext e) (hB.ext e) hAn h1 h4 hrs hok hf htot)
  have HLL := Lib.hid (rangesK_len total f hot n (membersK ls rs n) _ (Nat.le_refl _))
  clear hn hm hh hA hR hB hAn hRn hBn k0 k1 e0 hcl hrs hok hf hdz htot hc hd ht
  generalize (checkC t ls rs).1 = c1 at *
  generalize rangesK total f hot n (membersK ls rs n) (membersK ls rs n).length = L1 at *
  have L1' := L1
  clear L1'
  go_enter Try.func13, Try.ntmps13
  go_wp2_with (first
    | (rw [← hW0]; clear hW0; go_at_call 15; refine (awake_any _).mono ?_; rintro e W1 ⟨rfl, hx1⟩; obtain ⟨z0, z1, z2, z3, z4⟩ := FA.out _ hx1; have X1 := Lib.hid hx1; clear hx1)
    | (go_at_call 16; refine (HF1.out _).mono ?_; rintro e W2 ⟨rfl, hx⟩; clear z0 z1 z2 z3 z4; have X2 := Lib.hid (X1.out.trans hx); clear hx; obtain ⟨z0, z1, z2, z3, z4⟩ := FA.out _ X2.out)
    | (go_at_call 17; refine (HF2.out _).mono ?_; rintro e W3 ⟨rfl, hx⟩; clear z0 z1 z2 z3 z4; have X3 := Lib.hid (X2.out.trans hx); clear hx; obtain ⟨z0, z1, z2, z3, z4⟩ := FA.out _ X3.out)
    | (go_at_call 73; refine (HCC.out _ (E0.out.trans X3.out)).mono ?_; rintro e W4 ⟨v32, rfl, hx, hv⟩; have V32 := Lib.hid hv; clear hv z0 z1 z2 z3 z4; have X4 := Lib.hid (X3.out.trans hx); clear hx; obtain ⟨z0, z1, z2, z3, z4⟩ := FA.out _ X4.out)
    | (go_at_call 72; refine (HCV.out _ _ V32.out).mono ?_; rintro e W5 ⟨rfl, hx⟩; clear z0 z1 z2 z3 z4; have X5 := Lib.hid (X4.out.trans hx); clear hx; obtain ⟨z0, z1, z2, z3, z4⟩ := FA.out _ X5.out))
  refine wp_region_each [some 37, some 38, some 39, some 40, some 41, some 42, some 36, some 43, some 44, some 9, some 10] [[3], [37], [4], [39], [2], [38, 40, 41], [42], [36], [36], [43], [44]]
    [Is (.agg #[.int .i64 (t), .slice A n ca, .slice R n cr]), ClsV t ls rs, Is (.agg #[.int .i64 (f), .slice B n cb]), DrvV f hot, Is (.int .i64 (total)), TupV (RgV n L1) (0), TupV (RgV n L1) (0), RgV n L1, Is (.int .i64 (0)), RgV n L1, Is (.int .i64 (0))]
    (by kernel_rfl) (by kernel_rfl) (by kernel_rfl) (by kernel_rfl) (by kernel_rfl) Ext (fun W => Ext W5 W)
    (fun W _ => Ext.refl W) (fun W W' h k => h.trans k) ?_ (Ext.drew _) ?_ ?_
  · repeat (refine ⟨fun _ _ _ _ k h => (by first | exact h | exact (by first | exact LadV.ext h k | exact DrvV.ext h k | exact ClsV.ext h k | exact RgV.ext h k | exact TupV.ext (fun _ _ _ h k => by first | exact RgV.ext h k | exact h) h k)), ?_⟩)
    exact trivial
  · refine ⟨?_, ?_, ?_, ?_, ?_, ?_, ?_, ?_, ?_, ?_, ?_, trivial⟩
    all_goals intro ρ W ⟨kc, kg, kf⟩ hF hs
    · obtain ⟨h0, -⟩ := hs
      replace h0 : ρ (.tmp 3) = .pointer (some ⟨w.heap.size, 0, none⟩) := h0
      have hc0 : W.cell? ⟨w.heap.size, 0, none⟩ = some (.int .i64 (t)) := hF.cell (by assumption)
      have hc1 : W.cell? ⟨w.heap.size, 1, none⟩ = some (.slice A n ca) := hF.cell (by assumption)
      have hc2 : W.cell? ⟨w.heap.size, 2, none⟩ = some (.slice R n cr) := hF.cell (by assumption)
      go_simp
      exact ⟨Ext.refl _, rfl⟩
    · obtain ⟨h0, -⟩ := hs
      replace h0 : ρ (.tmp 37) = .agg #[.int .i64 (t), .slice A n ca, .slice R n cr] := h0
      go_simp
      exact HCC.out W (E0.out.trans (X5.out.trans hF))
    · obtain ⟨h0, -⟩ := hs
      replace h0 : ρ (.tmp 4) = .pointer (some ⟨w.heap.size + 1, 0, none⟩) := h0
      have hc0 : W.cell? ⟨w.heap.size + 1, 0, none⟩ = some (.int .i64 (f)) := hF.cell (by assumption)
      have hc1 : W.cell? ⟨w.heap.size + 1, 1, none⟩ = some (.slice B n cb) := hF.cell (by assumption)
      go_simp
      exact ⟨Ext.refl _, rfl⟩
    · obtain ⟨h0, -⟩ := hs
      replace h0 : ρ (.tmp 39) = .agg #[.int .i64 (f), .slice B n cb] := h0
      go_simp
      exact HCD.out W (E0.out.trans (X5.out.trans hF))
    · obtain ⟨h0, -⟩ := hs
      replace h0 : ρ (.tmp 2) = .int .i64 (total) := h0
      go_simp
      exact ⟨Ext.refl _, rfl⟩
    · obtain ⟨h0, h1, h2, -⟩ := hs
      replace h0 : (ClsV t ls rs) (ρ (.tmp 38)) W := h0
      replace h1 : (DrvV f hot) (ρ (.tmp 40)) W := h1
      replace h2 : ρ (.tmp 41) = .int .i64 (total) := h2
      go_simp
      exact H74.out W _ _ h0 h1
    · obtain ⟨h0, -⟩ := hs
      replace h0 : (TupV (RgV n L1) (0)) (ρ (.tmp 42)) W := h0
      go_simp
      first | exact ⟨Ext.refl _, h0⟩ | exact Ext.refl _
    · obtain ⟨h0, -⟩ := hs
      replace h0 : (TupV (RgV n L1) (0)) (ρ (.tmp 36)) W := h0
      obtain ⟨v, hv, hp⟩ := h0
      go_simp
      first | exact ⟨Ext.refl _, hp⟩ | exact Ext.refl _
    · obtain ⟨h0, -⟩ := hs
      replace h0 : (TupV (RgV n L1) (0)) (ρ (.tmp 36)) W := h0
      obtain ⟨v, hv, hp⟩ := h0
      go_simp
      first | exact ⟨Ext.refl _, rfl⟩ | exact Ext.refl _
    · obtain ⟨h0, -⟩ := hs
      replace h0 : (RgV n L1) (ρ (.tmp 43)) W := h0
      go_simp
      first | exact ⟨Ext.refl _, h0⟩ | exact Ext.refl _
    · obtain ⟨h0, -⟩ := hs
      replace h0 : ρ (.tmp 44) = .int .i64 (0) := h0
      go_simp
      exact ⟨Ext.refl _, rfl⟩
  · intro fv W6 hF hs
    obtain ⟨-, -, -, -, -, -, -, -, -, h9, h10, -⟩ := hs
    replace h9 : (RgV n L1) (fv 9) W6 := h9
    replace h10 : fv 10 = .int .i64 (0) := h10
    simp only [fin, List.filterMap]
    go_simp
    have X6 := Lib.hid (X5.out.trans hF)
    clear z0 z1 z2 z3 z4
    obtain ⟨z0, z1, z2, z3, z4⟩ := FA.out _ X6.out
    obtain ⟨g14, cu14, hv14, hb14, hr14⟩ := h9
    rw [hv14]
    have B14 := Lib.hid (show ∀ W, Ext W6 W → Blk W g14 132 cu14 from fun W e => hb14.ext e)
    have Q14 := Lib.hid hr14
    have Y6 := Lib.hid (Ext.refl W6)
    clear hF h10 hv14 hb14 hr14
    go_wp2_with (first
      | (go_at_call 75; refine (HRC.out _ (E0.out.trans X6.out)).mono ?_; rintro e W7 ⟨rfl, hx⟩; clear z0 z1 z2 z3 z4; have X7 := Lib.hid (X6.out.trans hx); have Y7 := Lib.hid hx; clear hx; obtain ⟨z0, z1, z2, z3, z4⟩ := FA.out _ X7.out)
      | (go_at_call 76; refine (HDE.out _).mono ?_; rintro e W8 ⟨rfl, hx⟩; clear z0 z1 z2 z3 z4; have X8 := Lib.hid (X7.out.trans hx); have Y8 := Lib.hid (Y7.out.trans hx); clear hx; obtain ⟨z0, z1, z2, z3, z4⟩ := FA.out _ X8.out)
      | (go_at_call 49; refine (HTE.out _).mono ?_; rintro e W9 ⟨rfl, rfl⟩)
      | (go_at_call 78; refine (HRR.out _ (E0.out.trans X8.out)).mono ?_; rintro e W10 ⟨g15, c15, cu15, rfl, hb, hro, hx⟩; have X9 := Lib.hid (X8.out.trans hx); have B15 := Lib.hid hb; have Q15 := Lib.hid hro; have B16 := Lib.hid (B14.out _ (Y8.out.trans hx)); clear hb hro hx z0 z1 z2 z3 z4)
      | (go_at_call 77; refine (sameRanges_any g14 g15 n n c15 cu14 cu15 L1 HLL.out (by omega) _ B16.out B15.out Q14.out Q15.out).mono ?_; rintro e W11 ⟨rfl, hx⟩; have X10 := Lib.hid (X9.out.trans hx); clear hx))
    go_ret
    exact ⟨rfl, E0.out.trans X10.out⟩

set_option maxRecDepth 100000 in
set_option maxHeartbeats 4000000 in
theorem fieldClasses_few (t : Int) (A : Option Addr) (n ca : Nat) (R : Option Addr) (m cr : Nat) (f : Int) (B : Option Addr) (q cb : Nat) (total : Int) (w : World) (h : ¬ (n ≤ 6 ∧ m ≤ 6 ∧ q ≤ 6)) :
    Calls Try.prog 13 #[.agg #[.int .i64 t, .slice A n ca, .slice R m cr], .agg #[.int .i64 f, .slice B q cb], .int .i64 total] w fun e w' => e = .returned (.bool true) ∧ Ext w w' := by
  obtain ⟨W0, hW0⟩ : ∃ W0, W0 = ((w.alloc (.cells #[.int .i64 t, .slice A n ca, .slice R m cr] 120)).alloc (.cells #[.int .i64 f, .slice B q cb] 27)) := ⟨_, rfl⟩
  have k0 : Blk W0 w.heap.size 120 #[.int .i64 t, .slice A n ca, .slice R m cr] := by rw [hW0]; exact (Blk.new _ _ _).alloc _
  have k1 : Blk W0 (w.heap.size + 1) 27 #[.int .i64 f, .slice B q cb] := by rw [hW0]; exact Blk.newAt _ _ _ (by simp)
  have e0 : Ext w W0 := by rw [hW0]; exact (Ext.alloc _ _).trans (Ext.alloc _ _)
  have FA := Lib.hid (show ∀ W : World, Ext W0 W → W.cell? ⟨w.heap.size, 0, none⟩ = some (.int .i64 t) ∧ W.cell? ⟨w.heap.size, 1, none⟩ = some (.slice A n ca) ∧ W.cell? ⟨w.heap.size, 2, none⟩ = some (.slice R m cr) ∧ W.cell? ⟨w.heap.size + 1, 0, none⟩ = some (.int .i64 f) ∧ W.cell? ⟨w.heap.size + 1, 1, none⟩ = some (.slice B q cb) from
    fun W hx => ⟨(k0.ext hx).cell 0, (k0.ext hx).cell 1, (k0.ext hx).cell 2, (k1.ext hx).cell 0, (k1.ext hx).cell 1⟩)
  have E0 := Lib.hid e0
  clear k0 k1 e0
  by_cases n6 : n ≤ 6
  · have HF1 := Lib.hid (few_yes t A n ca · n6)
    by_cases q6 : q ≤ 6
    · have HF2 := Lib.hid (fewHot_yes f B q cb · q6)
      have M6' : decide ((6 : Int) < (m : Int)) = true := by simp; omega
      clear n6 q6 h
      go_enter Try.func13, Try.ntmps13
      go_wp2_with (first
        | (rw [← hW0]; clear hW0; go_at_call 15; refine (awake_any _).mono ?_; rintro e W1 ⟨rfl, hx1⟩; obtain ⟨z0, z1, z2, z3, z4⟩ := FA.out _ hx1; have X1 := Lib.hid hx1; clear hx1)
        | (go_at_call 16; refine (HF1.out _).mono ?_; rintro e W2 ⟨rfl, hx⟩; clear z0 z1 z2 z3 z4; have X2 := Lib.hid (X1.out.trans hx); clear hx; obtain ⟨z0, z1, z2, z3, z4⟩ := FA.out _ X2.out)
        | (go_at_call 17; refine (HF2.out _).mono ?_; rintro e W3 ⟨rfl, hx⟩; clear z0 z1 z2 z3 z4; have X3 := Lib.hid (X2.out.trans hx); clear hx; obtain ⟨z0, z1, z2, z3, z4⟩ := FA.out _ X3.out))
      go_ret
      exact ⟨rfl, E0.out.trans X3.out⟩
    · have q6' : 6 < q := by omega
      have HF2 := Lib.hid (fewHot_no f B q cb · q6')
      clear n6 q6 q6' h
      go_enter Try.func13, Try.ntmps13
      go_wp2_with (first
        | (rw [← hW0]; clear hW0; go_at_call 15; refine (awake_any _).mono ?_; rintro e W1 ⟨rfl, hx1⟩; obtain ⟨z0, z1, z2, z3, z4⟩ := FA.out _ hx1; have X1 := Lib.hid hx1; clear hx1)
        | (go_at_call 16; refine (HF1.out _).mono ?_; rintro e W2 ⟨rfl, hx⟩; clear z0 z1 z2 z3 z4; have X2 := Lib.hid (X1.out.trans hx); clear hx; obtain ⟨z0, z1, z2, z3, z4⟩ := FA.out _ X2.out)
        | (go_at_call 17; refine (HF2.out _).mono ?_; rintro e W3 ⟨rfl, hx⟩; clear z0 z1 z2 z3 z4; have X3 := Lib.hid (X2.out.trans hx); clear hx; obtain ⟨z0, z1, z2, z3, z4⟩ := FA.out _ X3.out))
      go_ret
      exact ⟨rfl, E0.out.trans X3.out⟩
  · have n6' : 6 < n := by omega
    have HF1 := Lib.hid (few_no t A n ca · n6')
    clear n6 n6' h
    go_enter Try.func13, Try.ntmps13
    go_wp2_with (first
      | (rw [← hW0]; clear hW0; go_at_call 15; refine (awake_any _).mono ?_; rintro e W1 ⟨rfl, hx1⟩; obtain ⟨z0, z1, z2, z3, z4⟩ := FA.out _ hx1; have X1 := Lib.hid hx1; clear hx1)
      | (go_at_call 16; refine (HF1.out _).mono ?_; rintro e W2 ⟨rfl, hx⟩; clear z0 z1 z2 z3 z4; have X2 := Lib.hid (X1.out.trans hx); clear hx; obtain ⟨z0, z1, z2, z3, z4⟩ := FA.out _ X2.out))
    go_ret
    exact ⟨rfl, E0.out.trans X2.out⟩
theorem fieldClasses_any (t : Int) (A : Option Addr) (n ca : Nat) (ls : List Sh) (hn : ls.length = n) (R : Option Addr) (m cr : Nat) (rs : List G) (hm : rs.length = m) (f : Int) (B : Option Addr) (q cb : Nat) (hot : List Bool) (hh : hot.length = q) (total : Int) (w : World) (hA : n ≤ 6 → RowsAt 3 Sh.enc w A ls) (hR : m ≤ 6 → RowsAt 2 G.enc w R rs) (hB : q ≤ 6 → RowsAt 1 boolEnc w B hot) (hAn : A = none → ca = 0) (hRn : R = none → cr = 0) (hBn : B = none → cb = 0) :
    Calls Try.prog 13 #[.agg #[.int .i64 t, .slice A n ca, .slice R m cr], .agg #[.int .i64 f, .slice B q cb], .int .i64 total] w fun e w' => e = .returned (.bool true) ∧ Ext w w' := by
  by_cases h : n ≤ 6 ∧ m ≤ 6 ∧ q ≤ 6
  · obtain ⟨n6, m6, q6⟩ := h
    by_cases hz : rgE t ls rs f q total = 0
    · have hall := (firstE_zero _).1 hz
      have hc := hall (checkC t ls rs).2 (by simp)
      have hd := hall (driveE t ls f q) (by simp)
      have ht := hall (rangeE 0 100000 [total]) (by simp)
      obtain ⟨-, hlen, -⟩ := checkC_zero hc
      obtain ⟨-, -, hq⟩ := (driveE_zero t ls f q).1 hd
      obtain rfl : n = m := by omega
      obtain rfl : n = q := by omega
      exact fieldClasses_ok t A n ca ls hn R cr rs hm f B cb hot hh total w (hA n6) (hR n6) (hB n6) hAn hRn hBn hc hd ht
    · exact fieldClasses_bad t A n ca ls hn R m cr rs hm f B q cb hot hh total w (hA n6) (hR m6) (hB q6) n6 m6 q6 hAn hRn hBn hz
  · exact fieldClasses_few t A n ca R m cr f B q cb total w h
end Go.Proofs.Ytpaoeghdfeekoaa
