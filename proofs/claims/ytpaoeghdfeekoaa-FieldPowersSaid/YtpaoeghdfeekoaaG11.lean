/- FieldPowers: the law's function. By lawgen.py. -/
import Derived.Test.YtpaoeghdfeekoaaK15
import Derived.Test.YtpaoeghdfeekoaaMA
namespace Go.Proofs.Ytpaoeghdfeekoaa
open Go.RowKit Go.Shelf Go.Mem Go.RegInv
attribute [local go_sem] RelUpon_value RelUpon_skip RelUpon_enter BigFrame.eval_const BigFrame.eval_global BigFrame.eval_func


set_option maxRecDepth 100000 in
theorem fieldPowers_few (t : Int) (A : Option Addr) (n ca : Nat) (f : Int) (B : Option Addr) (m cb : Nat) (sh tot pc : Int) (w : World) (h : ¬ (n ≤ 6 ∧ m ≤ 6)) :
    Calls Try.prog 7 #[.agg #[.int .i64 t, .slice A n ca], .agg #[.int .i64 f, .slice B m cb], .agg #[.int .i64 sh, .int .i64 tot, .int .i64 pc]] w fun e w' => e = .returned (.bool true) ∧ Ext w w' := by
  have e0 : Ext w (((w.alloc (.cells #[.int .i64 t, .slice A n ca] 24)).alloc (.cells #[.int .i64 f, .slice B m cb] 27)).alloc (.cells #[.int .i64 sh, .int .i64 tot, .int .i64 pc] 66)) := (Ext.alloc _ _).trans ((Ext.alloc _ _).trans (Ext.alloc _ _))
  have FA := Lib.hid (show ∀ W : World, Ext (((w.alloc (.cells #[.int .i64 t, .slice A n ca] 24)).alloc (.cells #[.int .i64 f, .slice B m cb] 27)).alloc (.cells #[.int .i64 sh, .int .i64 tot, .int .i64 pc] 66)) W →
      W.cell? ⟨w.heap.size, 0, none⟩ = some (.int .i64 t) ∧ W.cell? ⟨w.heap.size, 1, none⟩ = some (.slice A n ca) ∧ W.cell? ⟨w.heap.size + 1, 0, none⟩ = some (.int .i64 f) ∧ W.cell? ⟨w.heap.size + 1, 1, none⟩ = some (.slice B m cb) from
    fun W hx => ⟨hx.cell (by go_simp), hx.cell (by go_simp), hx.cell (by go_simp), hx.cell (by go_simp)⟩)
  have E0 := Lib.hid e0
  clear e0
  by_cases n6 : n ≤ 6
  · have m6 : 6 < m := by omega
    have HF1 := Lib.hid (few_yes t A n ca · n6)
    have HF2 := Lib.hid (fewHot_no f B m cb · m6)
    clear n6 m6 h
    go_enter Try.func7, Try.ntmps7
    go_wp2_with (first
      | (go_at_call 15; refine (awake_any _).mono ?_; rintro e W1 ⟨rfl, hx1⟩; have X1 := Lib.hid (hx1); clear hx1; obtain ⟨z0, z1, z2, z3⟩ := FA.out _ X1.out)
      | (go_at_call 16; refine (HF1.out _).mono ?_; rintro e W2 ⟨rfl, hx2⟩; clear z0 z1 z2 z3; have X2 := Lib.hid (X1.out.trans hx2); clear hx2; obtain ⟨z0, z1, z2, z3⟩ := FA.out _ X2.out)
      | (go_at_call 17; refine (HF2.out _).mono ?_; rintro e W2b ⟨rfl, hx2⟩; clear z0 z1 z2 z3; have X2b := Lib.hid (X2.out.trans hx2); clear hx2))
    go_ret
    exact ⟨rfl, E0.out.trans X2b.out⟩
  · have HF1 := Lib.hid (few_no t A n ca · (by omega))
    clear n6 h
    go_enter Try.func7, Try.ntmps7
    go_wp2_with (first
      | (go_at_call 15; refine (awake_any _).mono ?_; rintro e W1 ⟨rfl, hx1⟩; have X1 := Lib.hid (hx1); clear hx1; obtain ⟨z0, z1, z2, z3⟩ := FA.out _ X1.out)
      | (go_at_call 16; refine (HF1.out _).mono ?_; rintro e W2 ⟨rfl, hx2⟩; clear z0 z1 z2 z3; have X2 := Lib.hid (X1.out.trans hx2); clear hx2))
    go_ret
    exact ⟨rfl, E0.out.trans X2.out⟩


set_option maxRecDepth 100000 in
set_option maxHeartbeats 16000000 in
theorem fieldPowers_main (t : Int) (A : Option Addr) (n ca : Nat) (xs : List Sh) (hn : xs.length = n) (f : Int) (B : Option Addr) (m cb : Nat) (hot : List Bool) (hm : hot.length = m) (sh tot pc : Int) (w : World)
    (hA : RowsAt 3 Sh.enc w A xs) (hB : RowsAt 1 boolEnc w B hot) (n6 : n ≤ 6) (m6 : m ≤ 6) (hAn : A = none → ca = 0) (hBn : B = none → cb = 0) :
    Calls Try.prog 7 #[.agg #[.int .i64 t, .slice A n ca], .agg #[.int .i64 f, .slice B m cb], .agg #[.int .i64 sh, .int .i64 tot, .int .i64 pc]] w fun e w' => e = .returned (.bool true) ∧ Ext w w' := by
  have e0 : Ext w (((w.alloc (.cells #[.int .i64 t, .slice A n ca] 24)).alloc (.cells #[.int .i64 f, .slice B m cb] 27)).alloc (.cells #[.int .i64 sh, .int .i64 tot, .int .i64 pc] 66)) := (Ext.alloc _ _).trans ((Ext.alloc _ _).trans (Ext.alloc _ _))
  have FA := Lib.hid (show ∀ W : World, Ext (((w.alloc (.cells #[.int .i64 t, .slice A n ca] 24)).alloc (.cells #[.int .i64 f, .slice B m cb] 27)).alloc (.cells #[.int .i64 sh, .int .i64 tot, .int .i64 pc] 66)) W →
      W.cell? ⟨w.heap.size, 0, none⟩ = some (.int .i64 t) ∧ W.cell? ⟨w.heap.size, 1, none⟩ = some (.slice A n ca) ∧ W.cell? ⟨w.heap.size + 1, 0, none⟩ = some (.int .i64 f) ∧ W.cell? ⟨w.heap.size + 1, 1, none⟩ = some (.slice B m cb) from
    fun W hx => ⟨hx.cell (by go_simp), hx.cell (by go_simp), hx.cell (by go_simp), hx.cell (by go_simp)⟩)
  have FY := Lib.hid (show ∀ W : World, Ext (((w.alloc (.cells #[.int .i64 t, .slice A n ca] 24)).alloc (.cells #[.int .i64 f, .slice B m cb] 27)).alloc (.cells #[.int .i64 sh, .int .i64 tot, .int .i64 pc] 66)) W →
      W.cell? ⟨w.heap.size + 1 + 1, 0, none⟩ = some (.int .i64 sh) ∧ W.cell? ⟨w.heap.size + 1 + 1, 1, none⟩ = some (.int .i64 tot) ∧ W.cell? ⟨w.heap.size + 1 + 1, 2, none⟩ = some (.int .i64 pc) from
    fun W hx => ⟨hx.cell (by go_simp), hx.cell (by go_simp), hx.cell (by go_simp)⟩)
  have HCL := Lib.hid (copyLadder_V (t := t) hn hA n6 hAn)
  have HCD := Lib.hid (copyDrive_V (f := f) hm hB m6 hBn)
  have H39 := Lib.hid (powersPub_V (t := t) (xs := xs) (f := f) hm)
  have H41 := Lib.hid (shareOf_V (t := t) (xs := xs) (f := f) hm sh)
  have H42 := Lib.hid (wattsIn_G (t := t) (f := f) hn hm tot)
  have H43 := Lib.hid (depthFor_G (t := t) (xs := xs) (f := f) hm pc)
  have H24 := Lib.hid (fun W (e : Ext w W) => refBothErr_any t A n ca xs hn f B m cb W (hA.ext e))
  have HF1 := Lib.hid (few_yes t A n ca · n6)
  have HF2 := Lib.hid (fewHot_yes f B m cb · m6)
  have H45 := Lib.hid (fun W => shellErr_any t A n ca sh W (by omega))
  have HTT := Lib.hid (fun W => totalErr_any tot W)
  have HSI := Lib.hid (show shE n sh = 0 → 0 ≤ sh ∧ sh ≤ (n : Int) - 1 from fun h => by
    unfold shE at h
    split at h
    · rename_i hc; simpa [inB] using hc
    · cases h)
  have HWE := Lib.hid (show wattsE t xs f m tot = if driveE t xs f m ≠ 0 then driveE t xs f m else rangeE 0 100000 [tot] from firstE_two _ _)
  have HDE := Lib.hid (show depE t xs f m pc = if driveE t xs f m ≠ 0 then driveE t xs f m else rangeE 1 100 [pc] from firstE_two _ _)
  have HSE := Lib.hid (show shareE t xs f m sh = if driveE t xs f m ≠ 0 then driveE t xs f m else shE n sh by rw [← hn]; exact firstE_two _ _)
  have HSA := Lib.hid (show shareA t xs f hot m sh = if shareE t xs f m sh ≠ 0 then ((0, 0), shareE t xs f m sh) else shareV (powers f hot xs) sh.toNat from rfl)
  have HVAL := Lib.hid (show driveE t xs f m = 0 → n = m ∧ (∀ s ∈ xs, shOK s) ∧ (1 ≤ f ∧ f ≤ 8) ∧ 1 ≤ n ∧ n ≤ 4 from fun hq => by
    obtain ⟨⟨_, ⟨h1, h4⟩, hok⟩, hf, hml⟩ := (driveE_zero t xs f m).1 hq
    exact ⟨by rw [hml, hn], hok, hf, by omega, by omega⟩)
  have H44 := Lib.hid (fun W (e : Ext w W) (hq : driveE t xs f m = 0) => show Calls Try.prog 44 #[.agg #[.int .i64 t, .slice A n ca], .agg #[.int .i64 f, .slice B m cb]] W (fun e w' => ∃ g c, e = .returned (.slice (some ⟨g, 0, none⟩) n c) ∧ OwnI w' g n c (powers f hot xs) ∧ Ext W w') from by
    obtain ⟨rfl, hok, hf, h1, h4⟩ := HVAL.out hq
    exact refPowers_any t A n ca xs hn f B cb hot hm W (hA.ext e) (hB.ext e) hok hf h1 h4)
  have H50 := Lib.hid (fun W (e : Ext w W) (hq : driveE t xs f m = 0) (ht : rangeE 0 100000 [tot] = 0) => show Calls Try.prog 50 #[.agg #[.int .i64 t, .slice A n ca], .agg #[.int .i64 f, .slice B m cb], .int .i64 tot] W (fun e w' => ∃ v, e = .returned v ∧ IntsAt w' v (wattsL tot (powers f hot xs) n) ∧ Ext W w') from by
    obtain ⟨rfl, hok, hf, h1, h4⟩ := HVAL.out hq
    exact refWatts_any t A n ca xs hn f B cb hot hm tot W (hA.ext e) (hB.ext e) hok hf h1 h4 ((rangeE_zero 0 100000 [tot]).1 ht tot (by simp)))
  have H51 := Lib.hid (fun W (e : Ext w W) (hq : driveE t xs f m = 0) (hp : 1 ≤ pc ∧ pc ≤ 100) => show Calls Try.prog 51 #[.agg #[.int .i64 t, .slice A n ca], .agg #[.int .i64 f, .slice B m cb], .int .i64 pc] W (fun e w' => ∃ d : Nat, e = .returned (.int .i64 (d : Int)) ∧ IsDepth (powers f hot xs) pc d ∧ Ext W w') from by
    obtain ⟨rfl, hok, hf, h1, h4⟩ := HVAL.out hq
    exact refDepth_any t A n ca xs hn f B cb hot hm pc W (hA.ext e) (hB.ext e) hok hf h1 h4 hp)
  have HPOK := Lib.hid (fun hq : driveE t xs f m = 0 => show PowersOK (powers f hot xs) from powers_ok (HVAL.out hq).2.1 (HVAL.out hq).2.2.1 (by rw [hn]; exact (HVAL.out hq).2.2.2.1) (by rw [hn]; exact (HVAL.out hq).2.2.2.2))
  have HPB := Lib.hid (fun (hq : driveE t xs f m = 0) k y h => power_bd (HVAL.out hq).2.1 (HVAL.out hq).2.2.1 (by rw [hn]; exact (HVAL.out hq).2.2.2.2) k y h (hot := hot))
  have HPL := Lib.hid (show (powers f hot xs).length = n by rw [powers_len, hn])
  have E0 := Lib.hid e0
  clear hn hm hA hB n6 m6 hAn hBn e0 HVAL
  generalize powers f hot xs = ps at *
  obtain ⟨ws, hws⟩ : ∃ ws, ws = wattsL tot ps n := ⟨_, rfl⟩
  rw [← hws] at H42 H50
  clear hws
  obtain ⟨a1, ha1⟩ : ∃ a, a = (shareA t xs f hot m sh).1.1 := ⟨_, rfl⟩
  obtain ⟨a2, ha2⟩ : ∃ a, a = (shareA t xs f hot m sh).1.2 := ⟨_, rfl⟩
  obtain ⟨a3, ha3⟩ : ∃ a, a = (shareA t xs f hot m sh).2 := ⟨_, rfl⟩
  rw [← ha1, ← ha2, ← ha3] at H41
  rw [HSA.out] at ha1 ha2 ha3
  have HA1 := Lib.hid ha1
  have HA2 := Lib.hid ha2
  have HA3 := Lib.hid ha3
  clear ha1 ha2 ha3 HSA
  generalize shareE t xs f m sh = sE at *
  generalize wattsE t xs f m tot = wE at *
  generalize depE t xs f m pc = dE at *
  generalize driveE t xs f m = q at *
  generalize shE n sh = se at *
  generalize rangeE 0 100000 [tot] = te at *
  go_enter Try.func7, Try.ntmps7
  go_wp2_with (first
    | (go_at_call 15; refine (awake_any _).mono ?_; rintro e W1 ⟨rfl, hx1⟩; obtain ⟨z0, z1, z2, z3⟩ := FA.out _ hx1; have X1 := Lib.hid hx1; clear hx1)
    | (go_at_call 16; refine (HF1.out _).mono ?_; rintro e W1b ⟨rfl, hx2⟩; clear z0 z1 z2 z3; have X1b := Lib.hid (X1.out.trans hx2); clear hx2; obtain ⟨z0, z1, z2, z3⟩ := FA.out _ X1b.out)
    | (go_at_call 17; refine (HF2.out _).mono ?_; rintro e W1c ⟨rfl, hx2⟩; clear z0 z1 z2 z3; have X1c := Lib.hid (X1b.out.trans hx2); clear hx2; obtain ⟨y0, y1, y2⟩ := FY.out _ X1c.out))
  go_quiet (fail)
  generalize hWd : W1c.drewN _ = W2
  have X1' : Ext W1c W2 := by rw [← hWd]; exact Ext.drewN _ _
  have X2 := Lib.hid (X1c.out.trans X1')
  clear hWd X1' y0 y1 y2
  obtain ⟨z0, z1, z2, z3⟩ := FA.out _ X2.out
  go_wp2
  have EB := Lib.hid (E0.out.trans X2.out)
  refine wp_region_each [some 40, some 41, some 42, some 43, some 44, some 39, some 45, some 46, some 10, some 11] [[3], [40], [4], [42], [41, 43], [44], [39], [39], [45], [46]]
    [Is (.agg #[.int .i64 (t), .slice A n ca]), LadV t xs, Is (.agg #[.int .i64 (f), .slice B m cb]), DrvV f hot, TupV (Opt q (.slice none 0 0) (Ints ps)) (q), TupV (Opt q (.slice none 0 0) (Ints ps)) (q), Opt q (.slice none 0 0) (Ints ps), Is (.int .i64 (q)), Opt q (.slice none 0 0) (Ints ps), Is (.int .i64 (q))]
    (by kernel_rfl) (by kernel_rfl) (by kernel_rfl) (by kernel_rfl) (by kernel_rfl) Ext (fun W => Ext W2 W)
    (fun W _ => Ext.refl W) (fun W W' h k => h.trans k) ?_ (Ext.drew _) ?_ ?_
  · repeat (refine ⟨fun _ _ _ _ k h => (by first | exact h | exact (by first | exact LadV.ext h k | exact DrvV.ext h k | exact FreshF.ext h k | exact DepW.ext h k | exact TupV.ext (fun _ _ _ h k => by first | exact Opt.ext (fun _ _ _ h k => IntsAt.ext h k) h k | exact DepW.ext h k) h k | exact Opt.ext (fun _ _ _ h k => IntsAt.ext h k) h k | exact IntsAt.ext h k)), ?_⟩)
    exact trivial
  · refine ⟨?_, ?_, ?_, ?_, ?_, ?_, ?_, ?_, ?_, ?_, trivial⟩
    all_goals intro ρ W ⟨kc, kg, kf⟩ hF hs
    · obtain ⟨h0, -⟩ := hs
      replace h0 : ρ (.tmp 3) = .pointer (some ⟨w.heap.size, 0, none⟩) := h0
      have hc0 : W.cell? ⟨w.heap.size, 0, none⟩ = some (.int .i64 (t)) := hF.cell (by assumption)
      have hc1 : W.cell? ⟨w.heap.size, 1, none⟩ = some (.slice A n ca) := hF.cell (by assumption)
      go_simp
      exact ⟨Ext.refl _, rfl⟩
    · obtain ⟨h0, -⟩ := hs
      replace h0 : ρ (.tmp 40) = .agg #[.int .i64 (t), .slice A n ca] := h0
      go_simp
      exact HCL.out W (EB.out.trans hF)
    · obtain ⟨h0, -⟩ := hs
      replace h0 : ρ (.tmp 4) = .pointer (some ⟨w.heap.size + 1, 0, none⟩) := h0
      have hc0 : W.cell? ⟨w.heap.size + 1, 0, none⟩ = some (.int .i64 (f)) := hF.cell (by assumption)
      have hc1 : W.cell? ⟨w.heap.size + 1, 1, none⟩ = some (.slice B m cb) := hF.cell (by assumption)
      go_simp
      exact ⟨Ext.refl _, rfl⟩
    · obtain ⟨h0, -⟩ := hs
      replace h0 : ρ (.tmp 42) = .agg #[.int .i64 (f), .slice B m cb] := h0
      go_simp
      exact HCD.out W (EB.out.trans hF)
    · obtain ⟨h0, h1, -⟩ := hs
      replace h0 : (LadV t xs) (ρ (.tmp 41)) W := h0
      replace h1 : (DrvV f hot) (ρ (.tmp 43)) W := h1
      go_simp
      exact H39.out W _ _ h0 h1
    · obtain ⟨h0, -⟩ := hs
      replace h0 : (TupV (Opt q (.slice none 0 0) (Ints ps)) (q)) (ρ (.tmp 44)) W := h0
      go_simp
      first | exact ⟨Ext.refl _, h0⟩ | exact Ext.refl _
    · obtain ⟨h0, -⟩ := hs
      replace h0 : (TupV (Opt q (.slice none 0 0) (Ints ps)) (q)) (ρ (.tmp 39)) W := h0
      obtain ⟨v, hv, hp⟩ := h0
      go_simp
      first | exact ⟨Ext.refl _, hp⟩ | exact Ext.refl _
    · obtain ⟨h0, -⟩ := hs
      replace h0 : (TupV (Opt q (.slice none 0 0) (Ints ps)) (q)) (ρ (.tmp 39)) W := h0
      obtain ⟨v, hv, hp⟩ := h0
      go_simp
      first | exact ⟨Ext.refl _, rfl⟩ | exact Ext.refl _
    · obtain ⟨h0, -⟩ := hs
      replace h0 : (Opt q (.slice none 0 0) (Ints ps)) (ρ (.tmp 45)) W := h0
      go_simp
      first | exact ⟨Ext.refl _, h0⟩ | exact Ext.refl _
    · obtain ⟨h0, -⟩ := hs
      replace h0 : ρ (.tmp 46) = .int .i64 (q) := h0
      go_simp
      exact ⟨Ext.refl _, rfl⟩
  · intro fv W3 hF hs
    obtain ⟨-, -, -, -, -, -, -, -, h10, h11, -⟩ := hs
    replace h10 : (Opt q (.slice none 0 0) (Ints ps)) (fv 10) W3 := h10
    replace h11 : fv 11 = .int .i64 (q) := h11
    simp only [fin, List.filterMap]
    go_simp
    have X3 := Lib.hid (X2.out.trans hF)
    clear hF z0 z1 z2 z3 h11
    have V10 := Lib.hid h10
    clear h10
    generalize fv 10 = v10 at *
    obtain ⟨z0, z1, z2, z3⟩ := FA.out _ X3.out
    have EB := Lib.hid (E0.out.trans X3.out)
    go_wp2
    refine wp_region_late 10 8 _ _ _ 55 [12, 54] [some 48, some 49, some 50, some 51, some 52, some 53, some 47, some 54, some 55, some 12] [[3], [48], [4], [50], [7], [49, 51, 52], [53], [47], [47], []]
      [Is (.agg #[.int .i64 (t), .slice A n ca]), LadV t xs, Is (.agg #[.int .i64 (f), .slice B m cb]), DrvV f hot, Is (.int .i64 (sh)), Is (.tuple #[.agg #[.int .i64 (a1), .int .i64 (a2)], .int .i64 (a3)]), Is (.tuple #[.agg #[.int .i64 (a1), .int .i64 (a2)], .int .i64 (a3)]), Is (.agg #[.int .i64 (a1), .int .i64 (a2)]), Is (.int .i64 (a3)), FreshF W3.heap.size]
      (by kernel_rfl) (by kernel_rfl) (by kernel_rfl) (by kernel_rfl) (by kernel_rfl) (by kernel_rfl) rfl rfl rfl rfl rfl (by kernel_rfl) (by kernel_rfl) (by kernel_rfl) (by kernel_rfl) Ext (fun W => Ext W3 W)
      (fun W _ => Ext.refl W) (fun W W' h k => h.trans k) ?_ (Ext.drew _) ?_ ?_ ?_ ?_ ?_
    · repeat (refine ⟨fun _ _ _ _ k h => (by first | exact h | exact (by first | exact LadV.ext h k | exact DrvV.ext h k | exact FreshF.ext h k | exact DepW.ext h k | exact TupV.ext (fun _ _ _ h k => by first | exact Opt.ext (fun _ _ _ h k => IntsAt.ext h k) h k | exact DepW.ext h k) h k | exact Opt.ext (fun _ _ _ h k => IntsAt.ext h k) h k | exact IntsAt.ext h k)), ?_⟩)
      exact trivial
    · refine ⟨?_, ?_, ?_, ?_, ?_, ?_, ?_, ?_, ?_, ?_, trivial⟩
      all_goals intro ρ W ⟨kc, kg, kf⟩ hF hs
      · obtain ⟨h0, -⟩ := hs
        replace h0 : ρ (.tmp 3) = .pointer (some ⟨w.heap.size, 0, none⟩) := h0
        have hc0 : W.cell? ⟨w.heap.size, 0, none⟩ = some (.int .i64 (t)) := hF.cell (by assumption)
        have hc1 : W.cell? ⟨w.heap.size, 1, none⟩ = some (.slice A n ca) := hF.cell (by assumption)
        go_simp
        exact ⟨Ext.refl _, rfl⟩
      · obtain ⟨h0, -⟩ := hs
        replace h0 : ρ (.tmp 48) = .agg #[.int .i64 (t), .slice A n ca] := h0
        go_simp
        exact HCL.out W (EB.out.trans hF)
      · obtain ⟨h0, -⟩ := hs
        replace h0 : ρ (.tmp 4) = .pointer (some ⟨w.heap.size + 1, 0, none⟩) := h0
        have hc0 : W.cell? ⟨w.heap.size + 1, 0, none⟩ = some (.int .i64 (f)) := hF.cell (by assumption)
        have hc1 : W.cell? ⟨w.heap.size + 1, 1, none⟩ = some (.slice B m cb) := hF.cell (by assumption)
        go_simp
        exact ⟨Ext.refl _, rfl⟩
      · obtain ⟨h0, -⟩ := hs
        replace h0 : ρ (.tmp 50) = .agg #[.int .i64 (f), .slice B m cb] := h0
        go_simp
        exact HCD.out W (EB.out.trans hF)
      · obtain ⟨h0, -⟩ := hs
        replace h0 : ρ (.tmp 7) = .int .i64 (sh) := h0
        go_simp
        exact ⟨Ext.refl _, rfl⟩
      · obtain ⟨h0, h1, h2, -⟩ := hs
        replace h0 : (LadV t xs) (ρ (.tmp 49)) W := h0
        replace h1 : (DrvV f hot) (ρ (.tmp 51)) W := h1
        replace h2 : ρ (.tmp 52) = .int .i64 (sh) := h2
        go_simp
        exact H41.out W _ _ h0 h1
      · obtain ⟨h0, -⟩ := hs
        replace h0 : ρ (.tmp 53) = .tuple #[.agg #[.int .i64 (a1), .int .i64 (a2)], .int .i64 (a3)] := h0
        go_simp
        first | exact ⟨Ext.refl _, rfl⟩ | exact Ext.refl _
      · obtain ⟨h0, -⟩ := hs
        replace h0 : ρ (.tmp 47) = .tuple #[.agg #[.int .i64 (a1), .int .i64 (a2)], .int .i64 (a3)] := h0
        go_simp
        first | exact ⟨Ext.refl _, rfl⟩ | exact Ext.refl _
      · obtain ⟨h0, -⟩ := hs
        replace h0 : ρ (.tmp 47) = .tuple #[.agg #[.int .i64 (a1), .int .i64 (a2)], .int .i64 (a3)] := h0
        go_simp
        first | exact ⟨Ext.refl _, rfl⟩ | exact Ext.refl _
      · go_simp
        exact ⟨Ext.alloc _ _, W.heap.size, hF.size, rfl, Blk.new _ _ _⟩
    · intro ρ W ⟨kc, kg, kf⟩ hF hs
      obtain ⟨h0, -⟩ := hs
      replace h0 : ρ (.tmp 47) = .tuple #[.agg #[.int .i64 (a1), .int .i64 (a2)], .int .i64 (a3)] := h0
      refine ⟨.int .i64 (a3), fun W' => ?_⟩
      go_simp
    · intro ρ ρ' h
      simp only [execOp]
      rw [h (.tmp 12) (by simp), h (.tmp 54) (by simp)]
    · intro ρ W ⟨kc, kg, kf⟩ hF hs
      obtain ⟨h0, h1, -⟩ := hs
      replace h0 : (FreshF W3.heap.size) (ρ (.tmp 12)) W := h0
      replace h1 : ρ (.tmp 54) = .agg #[.int .i64 (a1), .int .i64 (a2)] := h1
      obtain ⟨b, _, hb, hk⟩ := h0
      have f0 := hk.free 0
      have f1 := hk.free 1
      have c0 := hk.cell 0
      have c1 := hk.cell 1
      simp only [List.getElem?_toArray, List.getElem?_cons_zero, List.getElem?_cons_succ] at c0 c1
      refine ⟨(W.setCell ⟨b, 0, none⟩ (.int .i64 a1)).setCell ⟨b, 1, none⟩ (.int .i64 a2), ?_⟩
      go_simp
    · intro fv W4 hF hs
      obtain ⟨-, -, -, -, -, -, -, h54, h55, h12, -⟩ := hs
      replace h54 : fv 54 = .agg #[.int .i64 (a1), .int .i64 (a2)] := h54
      replace h55 : fv 55 = .int .i64 (a3) := h55
      replace h12 : (FreshF W3.heap.size) (fv 12) W4 := h12
      simp only [fin, List.filterMap]
      go_simp
      have X34 := Lib.hid hF
      have X4 := Lib.hid (X3.out.trans hF)
      obtain ⟨b12, hb12, hv12, hk12⟩ := h12
      rw [hv12]
      have K12 := Lib.hid hk12
      have f0 := hk12.free 0
      have f1 := hk12.free 1
      have c0 := hk12.cell 0
      have c1 := hk12.cell 1
      simp only [List.getElem?_toArray, List.getElem?_cons_zero, List.getElem?_cons_succ] at c0 c1
      have X35 := Lib.hid (show Ext W3 ((W4.setCell ⟨b12, 0, none⟩ (.int .i64 a1)).setCell ⟨b12, 1, none⟩ (.int .i64 a2)) from Ext.set (Ext.set X34.out hb12 _) hb12 _)
      have K125 := Lib.hid ((K12.out.setSame 0 (.int .i64 a1)).setSame 1 (.int .i64 a2))
      clear hF z0 z1 z2 z3 h54 h55 hv12 hk12 hb12
      go_wp2
      generalize (W4.setCell ⟨b12, 0, none⟩ (.int .i64 a1)).setCell ⟨b12, 1, none⟩ (.int .i64 a2) = W5 at *
      have X5 := Lib.hid (X3.out.trans X35.out)
      have HYC := Lib.hid (show ∀ W, Ext W5 W → W.cell? ⟨b12, 0, none⟩ = some (.int .i64 a1) ∧ W.cell? ⟨b12, 1, none⟩ = some (.int .i64 a2) from fun W e => ⟨e.cell (by have := K125.out.cell 0; simpa using this), e.cell (by have := K125.out.cell 1; simpa using this)⟩)
      clear f0 f1 c0 c1 K12 K125 X34 X4
      obtain ⟨z0, z1, z2, z3⟩ := FA.out _ X5.out
      have EB := Lib.hid (E0.out.trans X5.out)
      refine wp_region_each [some 57, some 58, some 59, some 60, some 61, some 62, some 56, some 63, some 64, some 14, some 15] [[3], [57], [4], [59], [8], [58, 60, 61], [62], [56], [56], [63], [64]]
        [Is (.agg #[.int .i64 (t), .slice A n ca]), LadV t xs, Is (.agg #[.int .i64 (f), .slice B m cb]), DrvV f hot, Is (.int .i64 (tot)), TupV (Opt wE (.slice none 0 0) (Ints ws)) (wE), TupV (Opt wE (.slice none 0 0) (Ints ws)) (wE), Opt wE (.slice none 0 0) (Ints ws), Is (.int .i64 (wE)), Opt wE (.slice none 0 0) (Ints ws), Is (.int .i64 (wE))]
        (by kernel_rfl) (by kernel_rfl) (by kernel_rfl) (by kernel_rfl) (by kernel_rfl) Ext (fun W => Ext W5 W)
        (fun W _ => Ext.refl W) (fun W W' h k => h.trans k) ?_ (Ext.drew _) ?_ ?_
      · repeat (refine ⟨fun _ _ _ _ k h => (by first | exact h | exact (by first | exact LadV.ext h k | exact DrvV.ext h k | exact FreshF.ext h k | exact DepW.ext h k | exact TupV.ext (fun _ _ _ h k => by first | exact Opt.ext (fun _ _ _ h k => IntsAt.ext h k) h k | exact DepW.ext h k) h k | exact Opt.ext (fun _ _ _ h k => IntsAt.ext h k) h k | exact IntsAt.ext h k)), ?_⟩)
        exact trivial
      · refine ⟨?_, ?_, ?_, ?_, ?_, ?_, ?_, ?_, ?_, ?_, ?_, trivial⟩
        all_goals intro ρ W ⟨kc, kg, kf⟩ hF hs
        · obtain ⟨h0, -⟩ := hs
          replace h0 : ρ (.tmp 3) = .pointer (some ⟨w.heap.size, 0, none⟩) := h0
          have hc0 : W.cell? ⟨w.heap.size, 0, none⟩ = some (.int .i64 (t)) := hF.cell (by assumption)
          have hc1 : W.cell? ⟨w.heap.size, 1, none⟩ = some (.slice A n ca) := hF.cell (by assumption)
          go_simp
          exact ⟨Ext.refl _, rfl⟩
        · obtain ⟨h0, -⟩ := hs
          replace h0 : ρ (.tmp 57) = .agg #[.int .i64 (t), .slice A n ca] := h0
          go_simp
          exact HCL.out W (EB.out.trans hF)
        · obtain ⟨h0, -⟩ := hs
          replace h0 : ρ (.tmp 4) = .pointer (some ⟨w.heap.size + 1, 0, none⟩) := h0
          have hc0 : W.cell? ⟨w.heap.size + 1, 0, none⟩ = some (.int .i64 (f)) := hF.cell (by assumption)
          have hc1 : W.cell? ⟨w.heap.size + 1, 1, none⟩ = some (.slice B m cb) := hF.cell (by assumption)
          go_simp
          exact ⟨Ext.refl _, rfl⟩
        · obtain ⟨h0, -⟩ := hs
          replace h0 : ρ (.tmp 59) = .agg #[.int .i64 (f), .slice B m cb] := h0
          go_simp
          exact HCD.out W (EB.out.trans hF)
        · obtain ⟨h0, -⟩ := hs
          replace h0 : ρ (.tmp 8) = .int .i64 (tot) := h0
          go_simp
          exact ⟨Ext.refl _, rfl⟩
        · obtain ⟨h0, h1, h2, -⟩ := hs
          replace h0 : (LadV t xs) (ρ (.tmp 58)) W := h0
          replace h1 : (DrvV f hot) (ρ (.tmp 60)) W := h1
          replace h2 : ρ (.tmp 61) = .int .i64 (tot) := h2
          go_simp
          exact H42.out W _ _ h0 h1
        · obtain ⟨h0, -⟩ := hs
          replace h0 : (TupV (Opt wE (.slice none 0 0) (Ints ws)) (wE)) (ρ (.tmp 62)) W := h0
          go_simp
          first | exact ⟨Ext.refl _, h0⟩ | exact Ext.refl _
        · obtain ⟨h0, -⟩ := hs
          replace h0 : (TupV (Opt wE (.slice none 0 0) (Ints ws)) (wE)) (ρ (.tmp 56)) W := h0
          obtain ⟨v, hv, hp⟩ := h0
          go_simp
          first | exact ⟨Ext.refl _, hp⟩ | exact Ext.refl _
        · obtain ⟨h0, -⟩ := hs
          replace h0 : (TupV (Opt wE (.slice none 0 0) (Ints ws)) (wE)) (ρ (.tmp 56)) W := h0
          obtain ⟨v, hv, hp⟩ := h0
          go_simp
          first | exact ⟨Ext.refl _, rfl⟩ | exact Ext.refl _
        · obtain ⟨h0, -⟩ := hs
          replace h0 : (Opt wE (.slice none 0 0) (Ints ws)) (ρ (.tmp 63)) W := h0
          go_simp
          first | exact ⟨Ext.refl _, h0⟩ | exact Ext.refl _
        · obtain ⟨h0, -⟩ := hs
          replace h0 : ρ (.tmp 64) = .int .i64 (wE) := h0
          go_simp
          exact ⟨Ext.refl _, rfl⟩
      · intro fv W6 hF hs
        obtain ⟨-, -, -, -, -, -, -, -, -, h14, h15, -⟩ := hs
        replace h14 : (Opt wE (.slice none 0 0) (Ints ws)) (fv 14) W6 := h14
        replace h15 : fv 15 = .int .i64 (wE) := h15
        simp only [fin, List.filterMap]
        go_simp
        have X6 := Lib.hid (X5.out.trans hF)
        have X36 := Lib.hid (X35.out.trans hF)
        replace HYC := Lib.hid (fun W (e : Ext W6 W) => HYC.out W (hF.trans e))
        clear hF z0 z1 z2 z3 h15
        have V14 := Lib.hid h14
        clear h14
        generalize fv 14 = v14 at *
        obtain ⟨z0, z1, z2, z3⟩ := FA.out _ X6.out
        have EB := Lib.hid (E0.out.trans X6.out)
        go_wp2
        refine wp_region_each [some 66, some 67, some 68, some 69, some 70, some 71, some 65, some 72, some 73, some 16, some 17] [[3], [66], [4], [68], [9], [67, 69, 70], [71], [65], [65], [72], [73]]
          [Is (.agg #[.int .i64 (t), .slice A n ca]), LadV t xs, Is (.agg #[.int .i64 (f), .slice B m cb]), DrvV f hot, Is (.int .i64 (pc)), TupV (DepW ps pc dE) (dE), TupV (DepW ps pc dE) (dE), DepW ps pc dE, Is (.int .i64 (dE)), DepW ps pc dE, Is (.int .i64 (dE))]
          (by kernel_rfl) (by kernel_rfl) (by kernel_rfl) (by kernel_rfl) (by kernel_rfl) Ext (fun W => Ext W6 W)
          (fun W _ => Ext.refl W) (fun W W' h k => h.trans k) ?_ (Ext.drew _) ?_ ?_
        · repeat (refine ⟨fun _ _ _ _ k h => (by first | exact h | exact (by first | exact LadV.ext h k | exact DrvV.ext h k | exact FreshF.ext h k | exact DepW.ext h k | exact TupV.ext (fun _ _ _ h k => by first | exact Opt.ext (fun _ _ _ h k => IntsAt.ext h k) h k | exact DepW.ext h k) h k | exact Opt.ext (fun _ _ _ h k => IntsAt.ext h k) h k | exact IntsAt.ext h k)), ?_⟩)
          exact trivial
        · refine ⟨?_, ?_, ?_, ?_, ?_, ?_, ?_, ?_, ?_, ?_, ?_, trivial⟩
          all_goals intro ρ W ⟨kc, kg, kf⟩ hF hs
          · obtain ⟨h0, -⟩ := hs
            replace h0 : ρ (.tmp 3) = .pointer (some ⟨w.heap.size, 0, none⟩) := h0
            have hc0 : W.cell? ⟨w.heap.size, 0, none⟩ = some (.int .i64 (t)) := hF.cell (by assumption)
            have hc1 : W.cell? ⟨w.heap.size, 1, none⟩ = some (.slice A n ca) := hF.cell (by assumption)
            go_simp
            exact ⟨Ext.refl _, rfl⟩
          · obtain ⟨h0, -⟩ := hs
            replace h0 : ρ (.tmp 66) = .agg #[.int .i64 (t), .slice A n ca] := h0
            go_simp
            exact HCL.out W (EB.out.trans hF)
          · obtain ⟨h0, -⟩ := hs
            replace h0 : ρ (.tmp 4) = .pointer (some ⟨w.heap.size + 1, 0, none⟩) := h0
            have hc0 : W.cell? ⟨w.heap.size + 1, 0, none⟩ = some (.int .i64 (f)) := hF.cell (by assumption)
            have hc1 : W.cell? ⟨w.heap.size + 1, 1, none⟩ = some (.slice B m cb) := hF.cell (by assumption)
            go_simp
            exact ⟨Ext.refl _, rfl⟩
          · obtain ⟨h0, -⟩ := hs
            replace h0 : ρ (.tmp 68) = .agg #[.int .i64 (f), .slice B m cb] := h0
            go_simp
            exact HCD.out W (EB.out.trans hF)
          · obtain ⟨h0, -⟩ := hs
            replace h0 : ρ (.tmp 9) = .int .i64 (pc) := h0
            go_simp
            exact ⟨Ext.refl _, rfl⟩
          · obtain ⟨h0, h1, h2, -⟩ := hs
            replace h0 : (LadV t xs) (ρ (.tmp 67)) W := h0
            replace h1 : (DrvV f hot) (ρ (.tmp 69)) W := h1
            replace h2 : ρ (.tmp 70) = .int .i64 (pc) := h2
            go_simp
            exact H43.out W _ _ h0 h1
          · obtain ⟨h0, -⟩ := hs
            replace h0 : (TupV (DepW ps pc dE) (dE)) (ρ (.tmp 71)) W := h0
            go_simp
            first | exact ⟨Ext.refl _, h0⟩ | exact Ext.refl _
          · obtain ⟨h0, -⟩ := hs
            replace h0 : (TupV (DepW ps pc dE) (dE)) (ρ (.tmp 65)) W := h0
            obtain ⟨v, hv, hp⟩ := h0
            go_simp
            first | exact ⟨Ext.refl _, hp⟩ | exact Ext.refl _
          · obtain ⟨h0, -⟩ := hs
            replace h0 : (TupV (DepW ps pc dE) (dE)) (ρ (.tmp 65)) W := h0
            obtain ⟨v, hv, hp⟩ := h0
            go_simp
            first | exact ⟨Ext.refl _, rfl⟩ | exact Ext.refl _
          · obtain ⟨h0, -⟩ := hs
            replace h0 : (DepW ps pc dE) (ρ (.tmp 72)) W := h0
            go_simp
            first | exact ⟨Ext.refl _, h0⟩ | exact Ext.refl _
          · obtain ⟨h0, -⟩ := hs
            replace h0 : ρ (.tmp 73) = .int .i64 (dE) := h0
            go_simp
            exact ⟨Ext.refl _, rfl⟩
        · intro fv W7 hF hs
          obtain ⟨-, -, -, -, -, -, -, -, -, h16, h17, -⟩ := hs
          replace h16 : (DepW ps pc dE) (fv 16) W7 := h16
          replace h17 : fv 17 = .int .i64 (dE) := h17
          simp only [fin, List.filterMap]
          go_simp
          have XC := Lib.hid (X6.out.trans hF)
          have YC := Lib.hid hF
          clear hF z0 z1 z2 z3 h17
          obtain ⟨d, hvd, hd⟩ := h16
          rw [hvd]
          have HD := Lib.hid hd
          clear hvd hd
          obtain ⟨z0, z1, z2, z3⟩ := FA.out _ XC.out
          obtain ⟨y0, y1⟩ := HYC.out _ YC.out
          by_cases hq : q = 0
          · subst hq
            have hsE : sE = se := by rw [HSE.out]; simp
            have hwE : wE = te := by rw [HWE.out]; simp
            have hdE : dE = rangeE 1 100 [pc] := by rw [HDE.out]; simp
            subst hsE hwE hdE
            have HV10 := Lib.hid (show IntsAt W3 v10 ps from V10.out.2 rfl)
            clear V10 HSE HWE HDE
            have HPK := Lib.hid (HPOK.out rfl)
            have HPB' := Lib.hid (HPB.out rfl)
            have H44' := Lib.hid (fun W e => H44.out W e rfl)
            have H50' := Lib.hid (fun W e => H50.out W e rfl)
            have H51' := Lib.hid (fun W e => H51.out W e rfl)
            clear H44 H50 H51 HPOK HPB
            have XA := X36
            by_cases hse : sE = 0
            · subst hse
              have hshi : 0 ≤ sh ∧ sh ≤ (n : Int) - 1 := HSI.out rfl
              obtain ⟨i, rfl⟩ : ∃ i : Nat, sh = (i : Int) := ⟨sh.toNat, by omega⟩
              have hin : i < n := by omega
              obtain ⟨p, hp⟩ : ∃ p, ps[i]? = some p := ⟨_, List.getElem?_eq_getElem (by rw [HPL.out]; exact hin)⟩
              obtain ⟨p0, p1⟩ := HPB'.out i p hp
              obtain ⟨s0, s1⟩ := HPK.out.sum
              have hpt := HPK.out.part (i + 1)
              have hps1 := HPK.out.part i
              rw [take_sum ps i p hp] at hpt
              have HSM := Lib.hid (share_small (p := p) (s := ps.sum) p0 (by omega) s0)
              have HSVV := Lib.hid (show shareV ps i = if 1000000000 < (lowF p ps.sum).2 then ((0, 0), 8) else (lowF p ps.sum, 0) by unfold shareV; rw [List.getD, hp]; rfl)
              have HLO := Lib.hid (fun W => lowest_any p ps.sum (by unfold Big; omega) s0 (by unfold Big; omega) W)
              have HB := Lib.hid (show ∀ k, -1000000000000000000 ≤ (ps.take k).sum ∧ (ps.take k).sum ≤ 1000000000000000000 from fun k => by have := HPK.out.part k; omega)
              have HEL := Lib.hid hp
              have hti : (i : Int).toNat = i := by omega
              rw [if_neg (by decide), hti] at HA1 HA2 HA3
              clear hp p0 p1 s0 s1 hpt hps1 hshi hti
              go_wp2_with (first
                | (go_at_call 24; refine (H24.out _ (E0.out.trans XC.out)).mono ?_; rintro e W10 ⟨rfl, hx⟩; replace XC := Lib.hid (XC.out.trans hx); replace YC := Lib.hid (YC.out.trans hx); clear hx z0 z1 z2 z3 y0 y1; obtain ⟨z0, z1, z2, z3⟩ := FA.out _ XC.out; obtain ⟨y0, y1⟩ := HYC.out _ YC.out)
                | (go_at_call 44; refine (H44'.out _ (E0.out.trans XC.out)).mono ?_; rintro e W11 ⟨g19, c19, rfl, hg, hx⟩; have HG19 := Lib.hid hg; replace XC := Lib.hid (XC.out.trans hx); replace YC := Lib.hid (YC.out.trans hx); clear hx z0 z1 z2 z3 y0 y1; obtain ⟨z0, z1, z2, z3⟩ := FA.out _ XC.out; obtain ⟨y0, y1⟩ := HYC.out _ YC.out; have HG1 := Lib.hid (show Calls Try.prog 25 #[v10, .slice (some ⟨g19, 0, none⟩) n c19] W11 (fun e w' => e = .returned (.bool true) ∧ Ext W11 w') from by
                    have := ints_any v10 _ ps ps W11 (HV10.out.ext (XA.out.trans YC.out)) (own_ints HPL.out hg)
                    rw [beq_self_eq_true] at this
                    exact this); clear hg)
                | (go_at_call 25; (with_reducible refine HG1.out.mono ?_); rintro e W12 ⟨rfl, hx⟩; replace HG19 := Lib.hid (HG19.out.ext hx); replace XC := Lib.hid (XC.out.trans hx); replace YC := Lib.hid (YC.out.trans hx); clear hx z0 z1 z2 z3 y0 y1; obtain ⟨z0, z1, z2, z3⟩ := FA.out _ XC.out; obtain ⟨y0, y1⟩ := HYC.out _ YC.out)
                | (go_at_call 45; refine (H45.out _).mono ?_; rintro e W13 ⟨rfl, hx⟩; replace HG19 := Lib.hid (HG19.out.ext hx); replace XC := Lib.hid (XC.out.trans hx); replace YC := Lib.hid (YC.out.trans hx); clear hx z0 z1 z2 z3 y0 y1; obtain ⟨z0, z1, z2, z3⟩ := FA.out _ XC.out; obtain ⟨y0, y1⟩ := HYC.out _ YC.out))
              have HSUM := Lib.hid (fun W (e : Ext W13 W) => refSum_any _ n c19 ps HPL.out W (HG19.out.2.ext e) HB.out)
              have x0 : W13.cell? ⟨g19, i, none⟩ = some (.int .i64 p) := by
                obtain ⟨b, o, e1, _, hc⟩ := HG19.out.2.2 i p HEL.out
                obtain ⟨rfl, rfl⟩ : g19 = b ∧ 0 = o := by simpa using e1
                have := hc 0 _ rfl
                simpa using this
              obtain ⟨l1, hl1⟩ : ∃ l, l = (lowF p ps.sum).1 := ⟨_, rfl⟩
              obtain ⟨l2, hl2⟩ : ∃ l, l = (lowF p ps.sum).2 := ⟨_, rfl⟩
              rw [HSVV.out] at HA1 HA2 HA3
              have HLF := Lib.hid (show lowF p ps.sum = (l1, l2) by rw [hl1, hl2])
              rw [← hl1, ← hl2] at HLO HSM
              rw [HLF.out] at HA1 HA2 HA3
              clear hl1 hl2 HSVV HLF
              generalize ps.sum = sm at *
              refine wp_region_partR 8 [some 138, some 139, some 140, some 141, some 142, some 143, some 144, some 21] [[19], [7], [138, 139], [140], [19], [142], [141, 143], []]
                [Is (.slice (some ⟨g19, 0, none⟩) n c19), Is (.int .i64 ((i : Int))), Is (.pointer (some ⟨g19, i, none⟩)), Is (.int .i64 (p)), Is (.slice (some ⟨g19, 0, none⟩) n c19), Is (.int .i64 (sm)), Is (.agg #[.int .i64 (l1), .int .i64 (l2)]), FreshF W13.heap.size]
                (by kernel_rfl) (by kernel_rfl) (by kernel_rfl) (by kernel_rfl) (by kernel_rfl) (by kernel_rfl) (by kernel_rfl) Ext (fun W => Ext W13 W)
                (fun W _ => Ext.refl W) (fun W W' h k => h.trans k) ?_ (Ext.drew _) ?_ ?_
              · repeat (refine ⟨fun _ _ _ _ k h => (by first | exact h | exact (by first | exact LadV.ext h k | exact DrvV.ext h k | exact FreshF.ext h k | exact DepW.ext h k | exact TupV.ext (fun _ _ _ h k => by first | exact Opt.ext (fun _ _ _ h k => IntsAt.ext h k) h k | exact DepW.ext h k) h k | exact Opt.ext (fun _ _ _ h k => IntsAt.ext h k) h k | exact IntsAt.ext h k)), ?_⟩)
                exact trivial
              · refine ⟨?_, ?_, ?_, ?_, ?_, ?_, ?_, ?_, trivial⟩
                all_goals intro ρ W ⟨kc, kg, kf⟩ hF hs
                · obtain ⟨h0, -⟩ := hs
                  replace h0 : ρ (.tmp 19) = .slice (some ⟨g19, 0, none⟩) n c19 := h0
                  go_simp
                  exact ⟨Ext.refl _, rfl⟩
                · obtain ⟨h0, -⟩ := hs
                  replace h0 : ρ (.tmp 7) = .int .i64 ((i : Int)) := h0
                  go_simp
                  exact ⟨Ext.refl _, rfl⟩
                · obtain ⟨h0, h1, -⟩ := hs
                  replace h0 : ρ (.tmp 138) = .slice (some ⟨g19, 0, none⟩) n c19 := h0
                  replace h1 : ρ (.tmp 139) = .int .i64 ((i : Int)) := h1
                  have hki : (i : Int) < (n : Int) := by omega
                  go_simp
                  exact ⟨Ext.refl _, rfl⟩
                · obtain ⟨h0, -⟩ := hs
                  replace h0 : ρ (.tmp 140) = .pointer (some ⟨g19, i, none⟩) := h0
                  have hc0 : W.cell? ⟨g19, i, none⟩ = some (.int .i64 (p)) := hF.cell (by assumption)
                  go_simp
                  exact ⟨Ext.refl _, rfl⟩
                · obtain ⟨h0, -⟩ := hs
                  replace h0 : ρ (.tmp 19) = .slice (some ⟨g19, 0, none⟩) n c19 := h0
                  go_simp
                  exact ⟨Ext.refl _, rfl⟩
                · obtain ⟨h0, -⟩ := hs
                  replace h0 : ρ (.tmp 142) = .slice (some ⟨g19, 0, none⟩) n c19 := h0
                  go_simp
                  exact (HSUM.out W hF).mono fun _ _ ⟨h1, h2⟩ => ⟨_, h1, h2 ▸ Ext.refl _, rfl⟩
                · obtain ⟨h0, h1, -⟩ := hs
                  replace h0 : ρ (.tmp 141) = .int .i64 (p) := h0
                  replace h1 : ρ (.tmp 143) = .int .i64 (sm) := h1
                  go_simp
                  exact (HLO.out W).mono fun _ _ ⟨h1, h2⟩ => ⟨_, h1, h2, rfl⟩
                · go_simp
                  exact ⟨Ext.alloc _ _, W.heap.size, hF.size, rfl, Blk.new _ _ _⟩
              · intro fv W14 hF hs
                obtain ⟨-, -, -, -, -, -, h144, h21, -⟩ := hs
                replace h144 : fv 144 = .agg #[.int .i64 (l1), .int .i64 (l2)] := h144
                replace h21 : (FreshF W13.heap.size) (fv 21) W14 := h21
                simp only [fin, List.filterMap]
                go_simp
                obtain ⟨b21, hb21, hv21, hk21⟩ := h21
                rw [hv21]
                have K21 := Lib.hid hk21
                have f0 := hk21.free 0
                have f1 := hk21.free 1
                have c0 := hk21.cell 0
                have c1 := hk21.cell 1
                simp only [List.getElem?_toArray, List.getElem?_cons_zero, List.getElem?_cons_succ] at c0 c1
                have XS := Lib.hid (show Ext W13 ((W14.setCell ⟨b21, 0, none⟩ (.int .i64 l1)).setCell ⟨b21, 1, none⟩ (.int .i64 l2)) from Ext.set (Ext.set hF hb21 _) hb21 _)
                have K215 := Lib.hid ((K21.out.setSame 0 (.int .i64 l1)).setSame 1 (.int .i64 l2))
                clear hF hv21 hk21 hb21 h144 x0 z0 z1 z2 z3 y0 y1
                go_wp2_with (fail)
                generalize (W14.setCell ⟨b21, 0, none⟩ (.int .i64 l1)).setCell ⟨b21, 1, none⟩ (.int .i64 l2) = W15 at *
                replace XC := Lib.hid (XC.out.trans XS.out)
                replace YC := Lib.hid (YC.out.trans XS.out)
                have UC := Lib.hid (Ext.refl W15)
                have HZC := Lib.hid (show ∀ W, Ext W15 W → W.cell? ⟨b21, 0, none⟩ = some (.int .i64 l1) ∧ W.cell? ⟨b21, 1, none⟩ = some (.int .i64 l2) from fun W e => ⟨e.cell (by have := K215.out.cell 0; simpa using this), e.cell (by have := K215.out.cell 1; simpa using this)⟩)
                clear f0 f1 c0 c1 K21 K215 XS HSUM HLO HG19 HG1
                obtain ⟨z0, z1, z2, z3⟩ := FA.out _ XC.out
                obtain ⟨y0, y1⟩ := HYC.out _ YC.out
                obtain ⟨w0, w1⟩ := HZC.out _ UC.out
                by_cases hbig : 1000000000 < l2
                · have HIS := Lib.hid (fun W => isSmall_any l1 l2 W)
                  rw [HSM.out, decide_eq_true hbig] at HIS
                  rw [if_pos hbig] at HA1 HA2 HA3
                  obtain rfl : a1 = 0 := HA1.out
                  obtain rfl : a2 = 0 := HA2.out
                  obtain rfl : a3 = 8 := HA3.out
                  clear hbig HSM HA1 HA2 HA3
                  by_cases hte : wE = 0
                  · subst hte
                    have HV14 := Lib.hid (show IntsAt W6 v14 ws from V14.out.2 rfl)
                    have HTZ := Lib.hid (show (0 : Int) = 0 from rfl)
                    clear V14
                    by_cases hpi : inB 1 100 pc = true
                    · have hpe : rangeE 1 100 [pc] = 0 := by rw [rangeE_one, if_pos hpi]
                      have HPCB := Lib.hid (show 1 ≤ pc ∧ pc ≤ 100 by simpa [inB] using hpi)
                      obtain ⟨kd, hkd, hkd2⟩ := HD.out.2 hpe
                      subst hkd
                      have HKD := Lib.hid hkd2
                      rw [hpe]
                      have HIP := Lib.hid hpi
                      clear hpi hpe hkd2 HD
                      go_wp2_with (first
                        | (go_at_call 48; refine (HIS.out _).mono ?_; rintro e W16 ⟨rfl, hx⟩; replace UC := Lib.hid (UC.out.trans hx); clear w0 w1; obtain ⟨w0, w1⟩ := HZC.out _ UC.out; replace XC := Lib.hid (XC.out.trans hx); replace YC := Lib.hid (YC.out.trans hx); clear hx z0 z1 z2 z3 y0 y1; obtain ⟨z0, z1, z2, z3⟩ := FA.out _ XC.out; obtain ⟨y0, y1⟩ := HYC.out _ YC.out)
                        | (go_at_call 49; refine (HTT.out _).mono ?_; rintro e w' ⟨rfl, rfl⟩)
                        | (go_at_call 50; refine (H50'.out _ (E0.out.trans XC.out) HTZ.out).mono ?_; rintro e W20 ⟨v50, rfl, hi50, hx⟩; replace XC := Lib.hid (XC.out.trans hx); replace YC := Lib.hid (YC.out.trans hx); clear hx z0 z1 z2 z3 y0 y1; obtain ⟨z0, z1, z2, z3⟩ := FA.out _ XC.out; obtain ⟨y0, y1⟩ := HYC.out _ YC.out; have HG2 := Lib.hid (show Calls Try.prog 25 #[v14, v50] W20 (fun e w' => e = .returned (.bool true) ∧ Ext W20 w') from by
                            have := ints_any v14 v50 ws ws W20 (HV14.out.ext YC.out) hi50
                            rw [beq_self_eq_true] at this
                            exact this); clear hi50)
                        | (go_at_call 25; (with_reducible refine HG2.out.mono ?_); rintro e W21 ⟨rfl, hx⟩; replace XC := Lib.hid (XC.out.trans hx); replace YC := Lib.hid (YC.out.trans hx); clear hx z0 z1 z2 z3 y0 y1; obtain ⟨z0, z1, z2, z3⟩ := FA.out _ XC.out; obtain ⟨y0, y1⟩ := HYC.out _ YC.out)
                        | (go_at_call 40; refine (within_any _ _ _ _).mono ?_; rintro e w' ⟨rfl, rfl⟩; rw [HIP.out])
                        | (go_at_call 51; refine (H51'.out _ (E0.out.trans XC.out) HPCB.out).mono ?_; rintro e W22 ⟨k51, rfl, hd51, hx⟩; obtain rfl : k51 = kd := depth_eq2 hd51 HKD.out; clear hd51; replace XC := Lib.hid (XC.out.trans hx); replace YC := Lib.hid (YC.out.trans hx); clear hx z0 z1 z2 z3 y0 y1; obtain ⟨z0, z1, z2, z3⟩ := FA.out _ XC.out; obtain ⟨y0, y1⟩ := HYC.out _ YC.out))
                      go_ret
                      exact ⟨ret_bool (by simp), E0.out.trans XC.out⟩
                    · have hpi' : inB 1 100 pc = false := by simpa using hpi
                      have hpe : rangeE 1 100 [pc] = 2 := by rw [rangeE_one, if_neg hpi]
                      obtain rfl : d = 0 := HD.out.1 (by rw [hpe]; decide)
                      rw [hpe]
                      have HIP := Lib.hid hpi'
                      clear hpi hpi' hpe HD
                      go_wp2_with (first
                        | (go_at_call 48; refine (HIS.out _).mono ?_; rintro e W16 ⟨rfl, hx⟩; replace UC := Lib.hid (UC.out.trans hx); clear w0 w1; obtain ⟨w0, w1⟩ := HZC.out _ UC.out; replace XC := Lib.hid (XC.out.trans hx); replace YC := Lib.hid (YC.out.trans hx); clear hx z0 z1 z2 z3 y0 y1; obtain ⟨z0, z1, z2, z3⟩ := FA.out _ XC.out; obtain ⟨y0, y1⟩ := HYC.out _ YC.out)
                        | (go_at_call 49; refine (HTT.out _).mono ?_; rintro e w' ⟨rfl, rfl⟩)
                        | (go_at_call 50; refine (H50'.out _ (E0.out.trans XC.out) HTZ.out).mono ?_; rintro e W20 ⟨v50, rfl, hi50, hx⟩; replace XC := Lib.hid (XC.out.trans hx); replace YC := Lib.hid (YC.out.trans hx); clear hx z0 z1 z2 z3 y0 y1; obtain ⟨z0, z1, z2, z3⟩ := FA.out _ XC.out; obtain ⟨y0, y1⟩ := HYC.out _ YC.out; have HG2 := Lib.hid (show Calls Try.prog 25 #[v14, v50] W20 (fun e w' => e = .returned (.bool true) ∧ Ext W20 w') from by
                            have := ints_any v14 v50 ws ws W20 (HV14.out.ext YC.out) hi50
                            rw [beq_self_eq_true] at this
                            exact this); clear hi50)
                        | (go_at_call 25; (with_reducible refine HG2.out.mono ?_); rintro e W21 ⟨rfl, hx⟩; replace XC := Lib.hid (XC.out.trans hx); replace YC := Lib.hid (YC.out.trans hx); clear hx z0 z1 z2 z3 y0 y1; obtain ⟨z0, z1, z2, z3⟩ := FA.out _ XC.out; obtain ⟨y0, y1⟩ := HYC.out _ YC.out)
                        | (go_at_call 40; refine (within_any _ _ _ _).mono ?_; rintro e w' ⟨rfl, rfl⟩; rw [HIP.out]))
                      go_ret
                      exact ⟨ret_bool (by simp), E0.out.trans XC.out⟩
                  · have hteb : (wE != 0) = true := by simp [hte]
                    have htec : (wE == 0) = false := by simp [hte]
                    have e14 := V14.out.1 hte
                    subst e14
                    clear V14 hte
                    by_cases hpi : inB 1 100 pc = true
                    · have hpe : rangeE 1 100 [pc] = 0 := by rw [rangeE_one, if_pos hpi]
                      have HPCB := Lib.hid (show 1 ≤ pc ∧ pc ≤ 100 by simpa [inB] using hpi)
                      obtain ⟨kd, hkd, hkd2⟩ := HD.out.2 hpe
                      subst hkd
                      have HKD := Lib.hid hkd2
                      rw [hpe]
                      have HIP := Lib.hid hpi
                      clear hpi hpe hkd2 HD
                      go_wp2_with (first
                        | (go_at_call 48; refine (HIS.out _).mono ?_; rintro e W16 ⟨rfl, hx⟩; replace UC := Lib.hid (UC.out.trans hx); clear w0 w1; obtain ⟨w0, w1⟩ := HZC.out _ UC.out; replace XC := Lib.hid (XC.out.trans hx); replace YC := Lib.hid (YC.out.trans hx); clear hx z0 z1 z2 z3 y0 y1; obtain ⟨z0, z1, z2, z3⟩ := FA.out _ XC.out; obtain ⟨y0, y1⟩ := HYC.out _ YC.out)
                        | (go_at_call 49; refine (HTT.out _).mono ?_; rintro e w' ⟨rfl, rfl⟩)
                        | (go_at_call 40; refine (within_any _ _ _ _).mono ?_; rintro e w' ⟨rfl, rfl⟩; rw [HIP.out])
                        | (go_at_call 51; refine (H51'.out _ (E0.out.trans XC.out) HPCB.out).mono ?_; rintro e W22 ⟨k51, rfl, hd51, hx⟩; obtain rfl : k51 = kd := depth_eq2 hd51 HKD.out; clear hd51; replace XC := Lib.hid (XC.out.trans hx); replace YC := Lib.hid (YC.out.trans hx); clear hx z0 z1 z2 z3 y0 y1; obtain ⟨z0, z1, z2, z3⟩ := FA.out _ XC.out; obtain ⟨y0, y1⟩ := HYC.out _ YC.out))
                      go_ret
                      exact ⟨ret_bool (by simp), E0.out.trans XC.out⟩
                    · have hpi' : inB 1 100 pc = false := by simpa using hpi
                      have hpe : rangeE 1 100 [pc] = 2 := by rw [rangeE_one, if_neg hpi]
                      obtain rfl : d = 0 := HD.out.1 (by rw [hpe]; decide)
                      rw [hpe]
                      have HIP := Lib.hid hpi'
                      clear hpi hpi' hpe HD
                      go_wp2_with (first
                        | (go_at_call 48; refine (HIS.out _).mono ?_; rintro e W16 ⟨rfl, hx⟩; replace UC := Lib.hid (UC.out.trans hx); clear w0 w1; obtain ⟨w0, w1⟩ := HZC.out _ UC.out; replace XC := Lib.hid (XC.out.trans hx); replace YC := Lib.hid (YC.out.trans hx); clear hx z0 z1 z2 z3 y0 y1; obtain ⟨z0, z1, z2, z3⟩ := FA.out _ XC.out; obtain ⟨y0, y1⟩ := HYC.out _ YC.out)
                        | (go_at_call 49; refine (HTT.out _).mono ?_; rintro e w' ⟨rfl, rfl⟩)
                        | (go_at_call 40; refine (within_any _ _ _ _).mono ?_; rintro e w' ⟨rfl, rfl⟩; rw [HIP.out]))
                      go_ret
                      exact ⟨ret_bool (by simp), E0.out.trans XC.out⟩
                · have HIS := Lib.hid (fun W => isSmall_any l1 l2 W)
                  rw [HSM.out, decide_eq_false hbig] at HIS
                  rw [if_neg hbig] at HA1 HA2 HA3
                  obtain rfl : a1 = l1 := HA1.out
                  obtain rfl : a2 = l2 := HA2.out
                  obtain rfl : a3 = 0 := HA3.out
                  clear hbig HSM HA1 HA2 HA3
                  by_cases hte : wE = 0
                  · subst hte
                    have HV14 := Lib.hid (show IntsAt W6 v14 ws from V14.out.2 rfl)
                    have HTZ := Lib.hid (show (0 : Int) = 0 from rfl)
                    clear V14
                    by_cases hpi : inB 1 100 pc = true
                    · have hpe : rangeE 1 100 [pc] = 0 := by rw [rangeE_one, if_pos hpi]
                      have HPCB := Lib.hid (show 1 ≤ pc ∧ pc ≤ 100 by simpa [inB] using hpi)
                      obtain ⟨kd, hkd, hkd2⟩ := HD.out.2 hpe
                      subst hkd
                      have HKD := Lib.hid hkd2
                      rw [hpe]
                      have HIP := Lib.hid hpi
                      clear hpi hpe hkd2 HD
                      go_wp2_with (first
                        | (go_at_call 48; refine (HIS.out _).mono ?_; rintro e W16 ⟨rfl, hx⟩; replace UC := Lib.hid (UC.out.trans hx); clear w0 w1; obtain ⟨w0, w1⟩ := HZC.out _ UC.out; replace XC := Lib.hid (XC.out.trans hx); replace YC := Lib.hid (YC.out.trans hx); clear hx z0 z1 z2 z3 y0 y1; obtain ⟨z0, z1, z2, z3⟩ := FA.out _ XC.out; obtain ⟨y0, y1⟩ := HYC.out _ YC.out)
                        | (go_at_call 49; refine (HTT.out _).mono ?_; rintro e w' ⟨rfl, rfl⟩)
                        | (go_at_call 50; refine (H50'.out _ (E0.out.trans XC.out) HTZ.out).mono ?_; rintro e W20 ⟨v50, rfl, hi50, hx⟩; replace XC := Lib.hid (XC.out.trans hx); replace YC := Lib.hid (YC.out.trans hx); clear hx z0 z1 z2 z3 y0 y1; obtain ⟨z0, z1, z2, z3⟩ := FA.out _ XC.out; obtain ⟨y0, y1⟩ := HYC.out _ YC.out; have HG2 := Lib.hid (show Calls Try.prog 25 #[v14, v50] W20 (fun e w' => e = .returned (.bool true) ∧ Ext W20 w') from by
                            have := ints_any v14 v50 ws ws W20 (HV14.out.ext YC.out) hi50
                            rw [beq_self_eq_true] at this
                            exact this); clear hi50)
                        | (go_at_call 25; (with_reducible refine HG2.out.mono ?_); rintro e W21 ⟨rfl, hx⟩; replace XC := Lib.hid (XC.out.trans hx); replace YC := Lib.hid (YC.out.trans hx); clear hx z0 z1 z2 z3 y0 y1; obtain ⟨z0, z1, z2, z3⟩ := FA.out _ XC.out; obtain ⟨y0, y1⟩ := HYC.out _ YC.out)
                        | (go_at_call 40; refine (within_any _ _ _ _).mono ?_; rintro e w' ⟨rfl, rfl⟩; rw [HIP.out])
                        | (go_at_call 51; refine (H51'.out _ (E0.out.trans XC.out) HPCB.out).mono ?_; rintro e W22 ⟨k51, rfl, hd51, hx⟩; obtain rfl : k51 = kd := depth_eq2 hd51 HKD.out; clear hd51; replace XC := Lib.hid (XC.out.trans hx); replace YC := Lib.hid (YC.out.trans hx); clear hx z0 z1 z2 z3 y0 y1; obtain ⟨z0, z1, z2, z3⟩ := FA.out _ XC.out; obtain ⟨y0, y1⟩ := HYC.out _ YC.out))
                      go_ret
                      exact ⟨ret_bool (by simp), E0.out.trans XC.out⟩
                    · have hpi' : inB 1 100 pc = false := by simpa using hpi
                      have hpe : rangeE 1 100 [pc] = 2 := by rw [rangeE_one, if_neg hpi]
                      obtain rfl : d = 0 := HD.out.1 (by rw [hpe]; decide)
                      rw [hpe]
                      have HIP := Lib.hid hpi'
                      clear hpi hpi' hpe HD
                      go_wp2_with (first
                        | (go_at_call 48; refine (HIS.out _).mono ?_; rintro e W16 ⟨rfl, hx⟩; replace UC := Lib.hid (UC.out.trans hx); clear w0 w1; obtain ⟨w0, w1⟩ := HZC.out _ UC.out; replace XC := Lib.hid (XC.out.trans hx); replace YC := Lib.hid (YC.out.trans hx); clear hx z0 z1 z2 z3 y0 y1; obtain ⟨z0, z1, z2, z3⟩ := FA.out _ XC.out; obtain ⟨y0, y1⟩ := HYC.out _ YC.out)
                        | (go_at_call 49; refine (HTT.out _).mono ?_; rintro e w' ⟨rfl, rfl⟩)
                        | (go_at_call 50; refine (H50'.out _ (E0.out.trans XC.out) HTZ.out).mono ?_; rintro e W20 ⟨v50, rfl, hi50, hx⟩; replace XC := Lib.hid (XC.out.trans hx); replace YC := Lib.hid (YC.out.trans hx); clear hx z0 z1 z2 z3 y0 y1; obtain ⟨z0, z1, z2, z3⟩ := FA.out _ XC.out; obtain ⟨y0, y1⟩ := HYC.out _ YC.out; have HG2 := Lib.hid (show Calls Try.prog 25 #[v14, v50] W20 (fun e w' => e = .returned (.bool true) ∧ Ext W20 w') from by
                            have := ints_any v14 v50 ws ws W20 (HV14.out.ext YC.out) hi50
                            rw [beq_self_eq_true] at this
                            exact this); clear hi50)
                        | (go_at_call 25; (with_reducible refine HG2.out.mono ?_); rintro e W21 ⟨rfl, hx⟩; replace XC := Lib.hid (XC.out.trans hx); replace YC := Lib.hid (YC.out.trans hx); clear hx z0 z1 z2 z3 y0 y1; obtain ⟨z0, z1, z2, z3⟩ := FA.out _ XC.out; obtain ⟨y0, y1⟩ := HYC.out _ YC.out)
                        | (go_at_call 40; refine (within_any _ _ _ _).mono ?_; rintro e w' ⟨rfl, rfl⟩; rw [HIP.out]))
                      go_ret
                      exact ⟨ret_bool (by simp), E0.out.trans XC.out⟩
                  · have hteb : (wE != 0) = true := by simp [hte]
                    have htec : (wE == 0) = false := by simp [hte]
                    have e14 := V14.out.1 hte
                    subst e14
                    clear V14 hte
                    by_cases hpi : inB 1 100 pc = true
                    · have hpe : rangeE 1 100 [pc] = 0 := by rw [rangeE_one, if_pos hpi]
                      have HPCB := Lib.hid (show 1 ≤ pc ∧ pc ≤ 100 by simpa [inB] using hpi)
                      obtain ⟨kd, hkd, hkd2⟩ := HD.out.2 hpe
                      subst hkd
                      have HKD := Lib.hid hkd2
                      rw [hpe]
                      have HIP := Lib.hid hpi
                      clear hpi hpe hkd2 HD
                      go_wp2_with (first
                        | (go_at_call 48; refine (HIS.out _).mono ?_; rintro e W16 ⟨rfl, hx⟩; replace UC := Lib.hid (UC.out.trans hx); clear w0 w1; obtain ⟨w0, w1⟩ := HZC.out _ UC.out; replace XC := Lib.hid (XC.out.trans hx); replace YC := Lib.hid (YC.out.trans hx); clear hx z0 z1 z2 z3 y0 y1; obtain ⟨z0, z1, z2, z3⟩ := FA.out _ XC.out; obtain ⟨y0, y1⟩ := HYC.out _ YC.out)
                        | (go_at_call 49; refine (HTT.out _).mono ?_; rintro e w' ⟨rfl, rfl⟩)
                        | (go_at_call 40; refine (within_any _ _ _ _).mono ?_; rintro e w' ⟨rfl, rfl⟩; rw [HIP.out])
                        | (go_at_call 51; refine (H51'.out _ (E0.out.trans XC.out) HPCB.out).mono ?_; rintro e W22 ⟨k51, rfl, hd51, hx⟩; obtain rfl : k51 = kd := depth_eq2 hd51 HKD.out; clear hd51; replace XC := Lib.hid (XC.out.trans hx); replace YC := Lib.hid (YC.out.trans hx); clear hx z0 z1 z2 z3 y0 y1; obtain ⟨z0, z1, z2, z3⟩ := FA.out _ XC.out; obtain ⟨y0, y1⟩ := HYC.out _ YC.out))
                      go_ret
                      exact ⟨ret_bool (by simp), E0.out.trans XC.out⟩
                    · have hpi' : inB 1 100 pc = false := by simpa using hpi
                      have hpe : rangeE 1 100 [pc] = 2 := by rw [rangeE_one, if_neg hpi]
                      obtain rfl : d = 0 := HD.out.1 (by rw [hpe]; decide)
                      rw [hpe]
                      have HIP := Lib.hid hpi'
                      clear hpi hpi' hpe HD
                      go_wp2_with (first
                        | (go_at_call 48; refine (HIS.out _).mono ?_; rintro e W16 ⟨rfl, hx⟩; replace UC := Lib.hid (UC.out.trans hx); clear w0 w1; obtain ⟨w0, w1⟩ := HZC.out _ UC.out; replace XC := Lib.hid (XC.out.trans hx); replace YC := Lib.hid (YC.out.trans hx); clear hx z0 z1 z2 z3 y0 y1; obtain ⟨z0, z1, z2, z3⟩ := FA.out _ XC.out; obtain ⟨y0, y1⟩ := HYC.out _ YC.out)
                        | (go_at_call 49; refine (HTT.out _).mono ?_; rintro e w' ⟨rfl, rfl⟩)
                        | (go_at_call 40; refine (within_any _ _ _ _).mono ?_; rintro e w' ⟨rfl, rfl⟩; rw [HIP.out]))
                      go_ret
                      exact ⟨ret_bool (by simp), E0.out.trans XC.out⟩
            · have hseb : (sE != 0) = true := by simp [hse]
              obtain rfl : a1 = 0 := by rw [HA1.out, if_pos hse]
              obtain rfl : a2 = 0 := by rw [HA2.out, if_pos hse]
              obtain rfl : a3 = sE := by rw [HA3.out, if_pos hse]
              clear hse HA1 HA2 HA3
              by_cases hte : wE = 0
              · subst hte
                have HV14 := Lib.hid (show IntsAt W6 v14 ws from V14.out.2 rfl)
                have HTZ := Lib.hid (show (0 : Int) = 0 from rfl)
                clear V14
                by_cases hpi : inB 1 100 pc = true
                · have hpe : rangeE 1 100 [pc] = 0 := by rw [rangeE_one, if_pos hpi]
                  have HPCB := Lib.hid (show 1 ≤ pc ∧ pc ≤ 100 by simpa [inB] using hpi)
                  obtain ⟨kd, hkd, hkd2⟩ := HD.out.2 hpe
                  subst hkd
                  have HKD := Lib.hid hkd2
                  rw [hpe]
                  have HIP := Lib.hid hpi
                  clear hpi hpe hkd2 HD
                  go_wp2_with (first
                    | (go_at_call 24; refine (H24.out _ (E0.out.trans XC.out)).mono ?_; rintro e W10 ⟨rfl, hx⟩; replace XC := Lib.hid (XC.out.trans hx); replace YC := Lib.hid (YC.out.trans hx); clear hx z0 z1 z2 z3 y0 y1; obtain ⟨z0, z1, z2, z3⟩ := FA.out _ XC.out; obtain ⟨y0, y1⟩ := HYC.out _ YC.out)
                    | (go_at_call 44; refine (H44'.out _ (E0.out.trans XC.out)).mono ?_; rintro e W11 ⟨g19, c19, rfl, hg, hx⟩; have HG19 := Lib.hid hg; replace XC := Lib.hid (XC.out.trans hx); replace YC := Lib.hid (YC.out.trans hx); clear hx z0 z1 z2 z3 y0 y1; obtain ⟨z0, z1, z2, z3⟩ := FA.out _ XC.out; obtain ⟨y0, y1⟩ := HYC.out _ YC.out; have HG1 := Lib.hid (show Calls Try.prog 25 #[v10, .slice (some ⟨g19, 0, none⟩) n c19] W11 (fun e w' => e = .returned (.bool true) ∧ Ext W11 w') from by
                        have := ints_any v10 _ ps ps W11 (HV10.out.ext (XA.out.trans YC.out)) (own_ints HPL.out hg)
                        rw [beq_self_eq_true] at this
                        exact this); clear hg)
                    | (go_at_call 25; (with_reducible refine HG1.out.mono ?_); rintro e W12 ⟨rfl, hx⟩; replace HG19 := Lib.hid (HG19.out.ext hx); replace XC := Lib.hid (XC.out.trans hx); replace YC := Lib.hid (YC.out.trans hx); clear hx z0 z1 z2 z3 y0 y1; obtain ⟨z0, z1, z2, z3⟩ := FA.out _ XC.out; obtain ⟨y0, y1⟩ := HYC.out _ YC.out)
                    | (go_at_call 45; refine (H45.out _).mono ?_; rintro e W13 ⟨rfl, hx⟩; replace HG19 := Lib.hid (HG19.out.ext hx); replace XC := Lib.hid (XC.out.trans hx); replace YC := Lib.hid (YC.out.trans hx); clear hx z0 z1 z2 z3 y0 y1; obtain ⟨z0, z1, z2, z3⟩ := FA.out _ XC.out; obtain ⟨y0, y1⟩ := HYC.out _ YC.out)
                    | (go_at_call 49; refine (HTT.out _).mono ?_; rintro e w' ⟨rfl, rfl⟩)
                    | (go_at_call 50; refine (H50'.out _ (E0.out.trans XC.out) HTZ.out).mono ?_; rintro e W20 ⟨v50, rfl, hi50, hx⟩; replace XC := Lib.hid (XC.out.trans hx); replace YC := Lib.hid (YC.out.trans hx); clear hx z0 z1 z2 z3 y0 y1; obtain ⟨z0, z1, z2, z3⟩ := FA.out _ XC.out; obtain ⟨y0, y1⟩ := HYC.out _ YC.out; have HG2 := Lib.hid (show Calls Try.prog 25 #[v14, v50] W20 (fun e w' => e = .returned (.bool true) ∧ Ext W20 w') from by
                        have := ints_any v14 v50 ws ws W20 (HV14.out.ext YC.out) hi50
                        rw [beq_self_eq_true] at this
                        exact this); clear hi50)
                    | (go_at_call 25; (with_reducible refine HG2.out.mono ?_); rintro e W21 ⟨rfl, hx⟩; replace XC := Lib.hid (XC.out.trans hx); replace YC := Lib.hid (YC.out.trans hx); clear hx z0 z1 z2 z3 y0 y1; obtain ⟨z0, z1, z2, z3⟩ := FA.out _ XC.out; obtain ⟨y0, y1⟩ := HYC.out _ YC.out)
                    | (go_at_call 40; refine (within_any _ _ _ _).mono ?_; rintro e w' ⟨rfl, rfl⟩; rw [HIP.out])
                    | (go_at_call 51; refine (H51'.out _ (E0.out.trans XC.out) HPCB.out).mono ?_; rintro e W22 ⟨k51, rfl, hd51, hx⟩; obtain rfl : k51 = kd := depth_eq2 hd51 HKD.out; clear hd51; replace XC := Lib.hid (XC.out.trans hx); replace YC := Lib.hid (YC.out.trans hx); clear hx z0 z1 z2 z3 y0 y1; obtain ⟨z0, z1, z2, z3⟩ := FA.out _ XC.out; obtain ⟨y0, y1⟩ := HYC.out _ YC.out))
                  go_ret
                  exact ⟨ret_bool (by simp), E0.out.trans XC.out⟩
                · have hpi' : inB 1 100 pc = false := by simpa using hpi
                  have hpe : rangeE 1 100 [pc] = 2 := by rw [rangeE_one, if_neg hpi]
                  obtain rfl : d = 0 := HD.out.1 (by rw [hpe]; decide)
                  rw [hpe]
                  have HIP := Lib.hid hpi'
                  clear hpi hpi' hpe HD
                  go_wp2_with (first
                    | (go_at_call 24; refine (H24.out _ (E0.out.trans XC.out)).mono ?_; rintro e W10 ⟨rfl, hx⟩; replace XC := Lib.hid (XC.out.trans hx); replace YC := Lib.hid (YC.out.trans hx); clear hx z0 z1 z2 z3 y0 y1; obtain ⟨z0, z1, z2, z3⟩ := FA.out _ XC.out; obtain ⟨y0, y1⟩ := HYC.out _ YC.out)
                    | (go_at_call 44; refine (H44'.out _ (E0.out.trans XC.out)).mono ?_; rintro e W11 ⟨g19, c19, rfl, hg, hx⟩; have HG19 := Lib.hid hg; replace XC := Lib.hid (XC.out.trans hx); replace YC := Lib.hid (YC.out.trans hx); clear hx z0 z1 z2 z3 y0 y1; obtain ⟨z0, z1, z2, z3⟩ := FA.out _ XC.out; obtain ⟨y0, y1⟩ := HYC.out _ YC.out; have HG1 := Lib.hid (show Calls Try.prog 25 #[v10, .slice (some ⟨g19, 0, none⟩) n c19] W11 (fun e w' => e = .returned (.bool true) ∧ Ext W11 w') from by
                        have := ints_any v10 _ ps ps W11 (HV10.out.ext (XA.out.trans YC.out)) (own_ints HPL.out hg)
                        rw [beq_self_eq_true] at this
                        exact this); clear hg)
                    | (go_at_call 25; (with_reducible refine HG1.out.mono ?_); rintro e W12 ⟨rfl, hx⟩; replace HG19 := Lib.hid (HG19.out.ext hx); replace XC := Lib.hid (XC.out.trans hx); replace YC := Lib.hid (YC.out.trans hx); clear hx z0 z1 z2 z3 y0 y1; obtain ⟨z0, z1, z2, z3⟩ := FA.out _ XC.out; obtain ⟨y0, y1⟩ := HYC.out _ YC.out)
                    | (go_at_call 45; refine (H45.out _).mono ?_; rintro e W13 ⟨rfl, hx⟩; replace HG19 := Lib.hid (HG19.out.ext hx); replace XC := Lib.hid (XC.out.trans hx); replace YC := Lib.hid (YC.out.trans hx); clear hx z0 z1 z2 z3 y0 y1; obtain ⟨z0, z1, z2, z3⟩ := FA.out _ XC.out; obtain ⟨y0, y1⟩ := HYC.out _ YC.out)
                    | (go_at_call 49; refine (HTT.out _).mono ?_; rintro e w' ⟨rfl, rfl⟩)
                    | (go_at_call 50; refine (H50'.out _ (E0.out.trans XC.out) HTZ.out).mono ?_; rintro e W20 ⟨v50, rfl, hi50, hx⟩; replace XC := Lib.hid (XC.out.trans hx); replace YC := Lib.hid (YC.out.trans hx); clear hx z0 z1 z2 z3 y0 y1; obtain ⟨z0, z1, z2, z3⟩ := FA.out _ XC.out; obtain ⟨y0, y1⟩ := HYC.out _ YC.out; have HG2 := Lib.hid (show Calls Try.prog 25 #[v14, v50] W20 (fun e w' => e = .returned (.bool true) ∧ Ext W20 w') from by
                        have := ints_any v14 v50 ws ws W20 (HV14.out.ext YC.out) hi50
                        rw [beq_self_eq_true] at this
                        exact this); clear hi50)
                    | (go_at_call 25; (with_reducible refine HG2.out.mono ?_); rintro e W21 ⟨rfl, hx⟩; replace XC := Lib.hid (XC.out.trans hx); replace YC := Lib.hid (YC.out.trans hx); clear hx z0 z1 z2 z3 y0 y1; obtain ⟨z0, z1, z2, z3⟩ := FA.out _ XC.out; obtain ⟨y0, y1⟩ := HYC.out _ YC.out)
                    | (go_at_call 40; refine (within_any _ _ _ _).mono ?_; rintro e w' ⟨rfl, rfl⟩; rw [HIP.out]))
                  go_ret
                  exact ⟨ret_bool (by simp), E0.out.trans XC.out⟩
              · have hteb : (wE != 0) = true := by simp [hte]
                have htec : (wE == 0) = false := by simp [hte]
                have e14 := V14.out.1 hte
                subst e14
                clear V14 hte
                by_cases hpi : inB 1 100 pc = true
                · have hpe : rangeE 1 100 [pc] = 0 := by rw [rangeE_one, if_pos hpi]
                  have HPCB := Lib.hid (show 1 ≤ pc ∧ pc ≤ 100 by simpa [inB] using hpi)
                  obtain ⟨kd, hkd, hkd2⟩ := HD.out.2 hpe
                  subst hkd
                  have HKD := Lib.hid hkd2
                  rw [hpe]
                  have HIP := Lib.hid hpi
                  clear hpi hpe hkd2 HD
                  go_wp2_with (first
                    | (go_at_call 24; refine (H24.out _ (E0.out.trans XC.out)).mono ?_; rintro e W10 ⟨rfl, hx⟩; replace XC := Lib.hid (XC.out.trans hx); replace YC := Lib.hid (YC.out.trans hx); clear hx z0 z1 z2 z3 y0 y1; obtain ⟨z0, z1, z2, z3⟩ := FA.out _ XC.out; obtain ⟨y0, y1⟩ := HYC.out _ YC.out)
                    | (go_at_call 44; refine (H44'.out _ (E0.out.trans XC.out)).mono ?_; rintro e W11 ⟨g19, c19, rfl, hg, hx⟩; have HG19 := Lib.hid hg; replace XC := Lib.hid (XC.out.trans hx); replace YC := Lib.hid (YC.out.trans hx); clear hx z0 z1 z2 z3 y0 y1; obtain ⟨z0, z1, z2, z3⟩ := FA.out _ XC.out; obtain ⟨y0, y1⟩ := HYC.out _ YC.out; have HG1 := Lib.hid (show Calls Try.prog 25 #[v10, .slice (some ⟨g19, 0, none⟩) n c19] W11 (fun e w' => e = .returned (.bool true) ∧ Ext W11 w') from by
                        have := ints_any v10 _ ps ps W11 (HV10.out.ext (XA.out.trans YC.out)) (own_ints HPL.out hg)
                        rw [beq_self_eq_true] at this
                        exact this); clear hg)
                    | (go_at_call 25; (with_reducible refine HG1.out.mono ?_); rintro e W12 ⟨rfl, hx⟩; replace HG19 := Lib.hid (HG19.out.ext hx); replace XC := Lib.hid (XC.out.trans hx); replace YC := Lib.hid (YC.out.trans hx); clear hx z0 z1 z2 z3 y0 y1; obtain ⟨z0, z1, z2, z3⟩ := FA.out _ XC.out; obtain ⟨y0, y1⟩ := HYC.out _ YC.out)
                    | (go_at_call 45; refine (H45.out _).mono ?_; rintro e W13 ⟨rfl, hx⟩; replace HG19 := Lib.hid (HG19.out.ext hx); replace XC := Lib.hid (XC.out.trans hx); replace YC := Lib.hid (YC.out.trans hx); clear hx z0 z1 z2 z3 y0 y1; obtain ⟨z0, z1, z2, z3⟩ := FA.out _ XC.out; obtain ⟨y0, y1⟩ := HYC.out _ YC.out)
                    | (go_at_call 49; refine (HTT.out _).mono ?_; rintro e w' ⟨rfl, rfl⟩)
                    | (go_at_call 40; refine (within_any _ _ _ _).mono ?_; rintro e w' ⟨rfl, rfl⟩; rw [HIP.out])
                    | (go_at_call 51; refine (H51'.out _ (E0.out.trans XC.out) HPCB.out).mono ?_; rintro e W22 ⟨k51, rfl, hd51, hx⟩; obtain rfl : k51 = kd := depth_eq2 hd51 HKD.out; clear hd51; replace XC := Lib.hid (XC.out.trans hx); replace YC := Lib.hid (YC.out.trans hx); clear hx z0 z1 z2 z3 y0 y1; obtain ⟨z0, z1, z2, z3⟩ := FA.out _ XC.out; obtain ⟨y0, y1⟩ := HYC.out _ YC.out))
                  go_ret
                  exact ⟨ret_bool (by simp), E0.out.trans XC.out⟩
                · have hpi' : inB 1 100 pc = false := by simpa using hpi
                  have hpe : rangeE 1 100 [pc] = 2 := by rw [rangeE_one, if_neg hpi]
                  obtain rfl : d = 0 := HD.out.1 (by rw [hpe]; decide)
                  rw [hpe]
                  have HIP := Lib.hid hpi'
                  clear hpi hpi' hpe HD
                  go_wp2_with (first
                    | (go_at_call 24; refine (H24.out _ (E0.out.trans XC.out)).mono ?_; rintro e W10 ⟨rfl, hx⟩; replace XC := Lib.hid (XC.out.trans hx); replace YC := Lib.hid (YC.out.trans hx); clear hx z0 z1 z2 z3 y0 y1; obtain ⟨z0, z1, z2, z3⟩ := FA.out _ XC.out; obtain ⟨y0, y1⟩ := HYC.out _ YC.out)
                    | (go_at_call 44; refine (H44'.out _ (E0.out.trans XC.out)).mono ?_; rintro e W11 ⟨g19, c19, rfl, hg, hx⟩; have HG19 := Lib.hid hg; replace XC := Lib.hid (XC.out.trans hx); replace YC := Lib.hid (YC.out.trans hx); clear hx z0 z1 z2 z3 y0 y1; obtain ⟨z0, z1, z2, z3⟩ := FA.out _ XC.out; obtain ⟨y0, y1⟩ := HYC.out _ YC.out; have HG1 := Lib.hid (show Calls Try.prog 25 #[v10, .slice (some ⟨g19, 0, none⟩) n c19] W11 (fun e w' => e = .returned (.bool true) ∧ Ext W11 w') from by
                        have := ints_any v10 _ ps ps W11 (HV10.out.ext (XA.out.trans YC.out)) (own_ints HPL.out hg)
                        rw [beq_self_eq_true] at this
                        exact this); clear hg)
                    | (go_at_call 25; (with_reducible refine HG1.out.mono ?_); rintro e W12 ⟨rfl, hx⟩; replace HG19 := Lib.hid (HG19.out.ext hx); replace XC := Lib.hid (XC.out.trans hx); replace YC := Lib.hid (YC.out.trans hx); clear hx z0 z1 z2 z3 y0 y1; obtain ⟨z0, z1, z2, z3⟩ := FA.out _ XC.out; obtain ⟨y0, y1⟩ := HYC.out _ YC.out)
                    | (go_at_call 45; refine (H45.out _).mono ?_; rintro e W13 ⟨rfl, hx⟩; replace HG19 := Lib.hid (HG19.out.ext hx); replace XC := Lib.hid (XC.out.trans hx); replace YC := Lib.hid (YC.out.trans hx); clear hx z0 z1 z2 z3 y0 y1; obtain ⟨z0, z1, z2, z3⟩ := FA.out _ XC.out; obtain ⟨y0, y1⟩ := HYC.out _ YC.out)
                    | (go_at_call 49; refine (HTT.out _).mono ?_; rintro e w' ⟨rfl, rfl⟩)
                    | (go_at_call 40; refine (within_any _ _ _ _).mono ?_; rintro e w' ⟨rfl, rfl⟩; rw [HIP.out]))
                  go_ret
                  exact ⟨ret_bool (by simp), E0.out.trans XC.out⟩
          · have hqb : (q != 0) = true := by simp [hq]
            have hsE : sE = q := by rw [HSE.out, if_pos hq]
            have hwE : wE = q := by rw [HWE.out, if_pos hq]
            have hdE : dE = q := by rw [HDE.out, if_pos hq]
            subst hsE hwE hdE
            obtain rfl : a1 = 0 := by rw [HA1.out, if_pos hq]
            obtain rfl : a2 = 0 := by rw [HA2.out, if_pos hq]
            obtain rfl : a3 = dE := by rw [HA3.out, if_pos hq]
            obtain rfl : d = 0 := HD.out.1 hq
            have e10 := V10.out.1 hq
            have e14 := V14.out.1 hq
            subst e10 e14
            clear hq V10 V14 HSE HWE HDE HA1 HA2 HA3 HD H44 H50 H51 HPOK HPB
            go_wp2_with (go_at_call 24; refine (H24.out _ (E0.out.trans XC.out)).mono ?_; rintro e W10 ⟨rfl, hx⟩; replace XC := Lib.hid (XC.out.trans hx); replace YC := Lib.hid (YC.out.trans hx); clear hx z0 z1 z2 z3 y0 y1; obtain ⟨z0, z1, z2, z3⟩ := FA.out _ XC.out; obtain ⟨y0, y1⟩ := HYC.out _ YC.out)
            go_ret
            exact ⟨ret_bool (by simp), E0.out.trans XC.out⟩

theorem fieldPowers_any (t : Int) (A : Option Addr) (n ca : Nat) (xs : List Sh) (hn : xs.length = n) (f : Int) (B : Option Addr) (m cb : Nat) (hot : List Bool) (hm : hot.length = m) (sh tot pc : Int) (w : World)
    (hA : n ≤ 6 → RowsAt 3 Sh.enc w A xs) (hB : m ≤ 6 → RowsAt 1 boolEnc w B hot) (hAn : A = none → ca = 0) (hBn : B = none → cb = 0) :
    Calls Try.prog 7 #[.agg #[.int .i64 t, .slice A n ca], .agg #[.int .i64 f, .slice B m cb], .agg #[.int .i64 sh, .int .i64 tot, .int .i64 pc]] w fun e w' => e = .returned (.bool true) ∧ Ext w w' := by
  by_cases h : n ≤ 6 ∧ m ≤ 6
  · exact fieldPowers_main t A n ca xs hn f B m cb hot hm sh tot pc w (hA h.1) (hB h.2) h.1 h.2 hAn hBn
  · exact fieldPowers_few t A n ca f B m cb sh tot pc w h

end Go.Proofs.Ytpaoeghdfeekoaa
