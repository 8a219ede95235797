/- FieldSolved: the law's function. By lawgen.py. -/
import Derived.Test.YtpaoeghdfeekoaaK5
namespace Go.Proofs.Ytpaoeghdfeekoaa
open Go.RowKit Go.Shelf Go.Mem Go.RegInv
attribute [local go_sem] RelUpon_value RelUpon_skip RelUpon_enter BigFrame.eval_const BigFrame.eval_global BigFrame.eval_func

theorem voltagesPub_O {t : Int} {xs : List Sh} {f : Int} {hot : List Bool} {n m : Nat} (hn : xs.length = n) (hm : hot.length = m) (W : World) (u v : Value) (h : LadV t xs u W) (k : DrvV f hot v W) :
    Calls Try.prog 32 #[u, v] W (VPost W (TupV (Opt (driveE t xs f m) (.slice none 0 0) (AsV n (volts f hot xs))) (driveE t xs f m))) := by
  obtain ⟨A, n', c, hn', rfl, hl⟩ := h
  obtain ⟨B, m', d, hm', rfl, hd⟩ := k
  obtain rfl : m = m' := hm.symm.trans hm'.out
  obtain rfl : n = n' := hn.symm.trans hn'.out
  refine (voltagesOf_any t A n c xs hn f B m d hot hm W hl.1 hd).mono ?_
  rintro e w' ⟨hx, ⟨h1, h2⟩ | ⟨h1, g, cap, h2, h3⟩⟩
  · exact ⟨_, h2, hx, _, rfl, fun _ => rfl, fun h => absurd h h1⟩
  · exact ⟨_, h2, hx, _, by rw [h1], fun h => absurd h1 h, fun _ => ⟨g, cap, rfl, h3⟩⟩
theorem currentsPub_O {t : Int} {xs : List Sh} {f : Int} {hot : List Bool} {n m : Nat} (hn : xs.length = n) (hm : hot.length = m) (W : World) (u v : Value) (h : LadV t xs u W) (k : DrvV f hot v W) :
    Calls Try.prog 33 #[u, v] W (VPost W (TupV (Opt (driveE t xs f m) (.slice none 0 0) (BsV n (curr xs (volts f hot xs).tail))) (driveE t xs f m))) := by
  obtain ⟨A, n', c, hn', rfl, hl⟩ := h
  obtain ⟨B, m', d, hm', rfl, hd⟩ := k
  obtain rfl : m = m' := hm.symm.trans hm'.out
  obtain rfl : n = n' := hn.symm.trans hn'.out
  refine (currentsPub_any t A n c xs hn f B m d hot hm W hl.1 hd).mono ?_
  rintro e w' ⟨r, h1, h2, v, h3, h4⟩
  refine ⟨_, h1, h2, v, h3, h4.1, fun hq => ?_⟩
  obtain ⟨A', c', h5, h6⟩ := h4.2 hq
  exact ⟨A', c', by rw [h5, curr_len xs _ (by simp [volts_len]), hn], h6⟩
theorem checkVoltages_O {t : Int} {xs : List Sh} {f : Int} {hot : List Bool} {zs : List G} (W : World) (u v x : Value) (h : LadV t xs u W) (k : DrvV f hot v W) (l : GcV zs x W) :
    Calls Try.prog 34 #[u, v, x] W (VPost W (Is (.tuple #[.int .i64 (chkA t f hot xs zs).1, .int .i64 (chkA t f hot xs zs).2]))) := by
  obtain ⟨A, n', c, hn', rfl, hl⟩ := h
  obtain ⟨B, m', d, hm', rfl, hd⟩ := k
  obtain ⟨C, M, cz, hM, rfl, hz, hc⟩ := l
  exact (checkVoltages_any t A n' c xs hn'.out f B m' d hot hm'.out C M cz zs hM.out hc W hl.1 hd hz).mono fun _ _ ⟨h1, h2⟩ => ⟨_, h1, h2, rfl⟩

set_option maxRecDepth 100000 in
theorem fieldSolved_few (t : Int) (A : Option Addr) (n ca : Nat) (f : Int) (B : Option Addr) (m cb : Nat) (C : Option Addr) (M cz : Nat) (w : World) (h : ¬ (n ≤ 6 ∧ m ≤ 6)) :
    Calls Try.prog 5 #[.agg #[.int .i64 t, .slice A n ca], .agg #[.int .i64 f, .slice B m cb], .slice C M cz] w fun e w' => e = .returned (.bool true) ∧ Ext w w' := by
  have e0 : Ext w ((w.alloc (.cells #[.int .i64 t, .slice A n ca] 24)).alloc (.cells #[.int .i64 f, .slice B m cb] 27)) := (Ext.alloc _ _).trans (Ext.alloc _ _)
  have FA := Lib.hid (show ∀ W : World, Ext ((w.alloc (.cells #[.int .i64 t, .slice A n ca] 24)).alloc (.cells #[.int .i64 f, .slice B m cb] 27)) W →
      W.cell? ⟨w.heap.size, 0, none⟩ = some (.int .i64 t) ∧ W.cell? ⟨w.heap.size, 1, none⟩ = some (.slice A n ca) ∧ W.cell? ⟨w.heap.size + 1, 0, none⟩ = some (.int .i64 f) ∧ W.cell? ⟨w.heap.size + 1, 1, none⟩ = some (.slice B m cb) from
    fun W hx => ⟨hx.cell (by go_simp), hx.cell (by go_simp), hx.cell (by go_simp), hx.cell (by go_simp)⟩)
  have E0 := Lib.hid e0
  clear e0
  by_cases n6 : n ≤ 6
  · have m6 : 6 < m := by omega
    have HF1 := Lib.hid (few_yes t A n ca · n6)
    have HF2 := Lib.hid (fewHot_no f B m cb · m6)
    clear n6 m6 h
    go_enter Try.func5, Try.ntmps5
    go_wp2_with (first
      | (go_at_call 15; refine (awake_any _).mono ?_; rintro e W1 ⟨rfl, hx1⟩; have X1 := Lib.hid (hx1); clear hx1; obtain ⟨z0, z1, z2, z3⟩ := FA.out _ X1.out)
      | (go_at_call 16; refine (HF1.out _).mono ?_; rintro e W2 ⟨rfl, hx2⟩; clear z0 z1 z2 z3; have X2 := Lib.hid (X1.out.trans hx2); clear hx2; obtain ⟨z0, z1, z2, z3⟩ := FA.out _ X2.out)
      | (go_at_call 17; refine (HF2.out _).mono ?_; rintro e W2b ⟨rfl, hx2⟩; clear z0 z1 z2 z3; have X2b := Lib.hid (X2.out.trans hx2); clear hx2))
    go_ret
    exact ⟨rfl, E0.out.trans X2b.out⟩
  · have HF1 := Lib.hid (few_no t A n ca · (by omega))
    clear n6 h
    go_enter Try.func5, Try.ntmps5
    go_wp2_with (first
      | (go_at_call 15; refine (awake_any _).mono ?_; rintro e W1 ⟨rfl, hx1⟩; have X1 := Lib.hid (hx1); clear hx1; obtain ⟨z0, z1, z2, z3⟩ := FA.out _ X1.out)
      | (go_at_call 16; refine (HF1.out _).mono ?_; rintro e W2 ⟨rfl, hx2⟩; clear z0 z1 z2 z3; have X2 := Lib.hid (X1.out.trans hx2); clear hx2))
    go_ret
    exact ⟨rfl, E0.out.trans X2.out⟩

set_option maxRecDepth 100000 in
theorem fieldSolved_long (t : Int) (A : Option Addr) (n ca : Nat) (f : Int) (B : Option Addr) (m cb : Nat) (C : Option Addr) (M cz : Nat) (w : World) (n6 : n ≤ 6) (m6 : m ≤ 6) (h8 : 8 < M) :
    Calls Try.prog 5 #[.agg #[.int .i64 t, .slice A n ca], .agg #[.int .i64 f, .slice B m cb], .slice C M cz] w fun e w' => e = .returned (.bool true) ∧ Ext w w' := by
  have e0 : Ext w ((w.alloc (.cells #[.int .i64 t, .slice A n ca] 24)).alloc (.cells #[.int .i64 f, .slice B m cb] 27)) := (Ext.alloc _ _).trans (Ext.alloc _ _)
  have FA := Lib.hid (show ∀ W : World, Ext ((w.alloc (.cells #[.int .i64 t, .slice A n ca] 24)).alloc (.cells #[.int .i64 f, .slice B m cb] 27)) W →
      W.cell? ⟨w.heap.size, 0, none⟩ = some (.int .i64 t) ∧ W.cell? ⟨w.heap.size, 1, none⟩ = some (.slice A n ca) ∧ W.cell? ⟨w.heap.size + 1, 0, none⟩ = some (.int .i64 f) ∧ W.cell? ⟨w.heap.size + 1, 1, none⟩ = some (.slice B m cb) from
    fun W hx => ⟨hx.cell (by go_simp), hx.cell (by go_simp), hx.cell (by go_simp), hx.cell (by go_simp)⟩)
  have E0 := Lib.hid e0
  have HF1 := Lib.hid (few_yes t A n ca · n6)
  have HF2 := Lib.hid (fewHot_yes f B m cb · m6)
  have hMd : decide ((8 : Int) < (M : Int)) = true := by simp; omega
  clear e0 n6 m6 h8
  go_enter Try.func5, Try.ntmps5
  go_wp2_with (first
    | (go_at_call 15; refine (awake_any _).mono ?_; rintro e W1 ⟨rfl, hx1⟩; have X1 := Lib.hid hx1; clear hx1; obtain ⟨z0, z1, z2, z3⟩ := FA.out _ X1.out)
    | (go_at_call 16; refine (HF1.out _).mono ?_; rintro e W2 ⟨rfl, hx2⟩; clear z0 z1 z2 z3; have X2 := Lib.hid (X1.out.trans hx2); clear hx2; obtain ⟨z0, z1, z2, z3⟩ := FA.out _ X2.out)
    | (go_at_call 17; refine (HF2.out _).mono ?_; rintro e W2b ⟨rfl, hx2⟩; clear z0 z1 z2 z3; have X2b := Lib.hid (X2.out.trans hx2); clear hx2))
  go_ret
  exact ⟨rfl, E0.out.trans X2b.out⟩

set_option maxRecDepth 100000 in
set_option maxHeartbeats 8000000 in
theorem fieldSolved_main (t : Int) (A : Option Addr) (n ca : Nat) (xs : List Sh) (hn : xs.length = n) (f : Int) (B : Option Addr) (m cb : Nat) (hot : List Bool) (hm : hot.length = m) (C : Option Addr) (M cz : Nat) (zs : List G) (hM : zs.length = M) (w : World)
    (hA : RowsAt 3 Sh.enc w A xs) (hB : RowsAt 1 boolEnc w B hot) (hZ : RowsAt 2 G.enc w C zs) (n6 : n ≤ 6) (m6 : m ≤ 6) (hM8 : M ≤ 8) (hAn : A = none → ca = 0) (hBn : B = none → cb = 0) (hCn : C = none → cz = 0) :
    Calls Try.prog 5 #[.agg #[.int .i64 t, .slice A n ca], .agg #[.int .i64 f, .slice B m cb], .slice C M cz] w fun e w' => e = .returned (.bool true) ∧ Ext w w' := by
  have e0 : Ext w ((w.alloc (.cells #[.int .i64 t, .slice A n ca] 24)).alloc (.cells #[.int .i64 f, .slice B m cb] 27)) := (Ext.alloc _ _).trans (Ext.alloc _ _)
  have FA := Lib.hid (show ∀ W : World, Ext ((w.alloc (.cells #[.int .i64 t, .slice A n ca] 24)).alloc (.cells #[.int .i64 f, .slice B m cb] 27)) W →
      W.cell? ⟨w.heap.size, 0, none⟩ = some (.int .i64 t) ∧ W.cell? ⟨w.heap.size, 1, none⟩ = some (.slice A n ca) ∧ W.cell? ⟨w.heap.size + 1, 0, none⟩ = some (.int .i64 f) ∧ W.cell? ⟨w.heap.size + 1, 1, none⟩ = some (.slice B m cb) from
    fun W hx => ⟨hx.cell (by go_simp), hx.cell (by go_simp), hx.cell (by go_simp), hx.cell (by go_simp)⟩)
  have HCL := Lib.hid (copyLadder_V (t := t) hn hA n6 hAn)
  have HCD := Lib.hid (copyDrive_V (f := f) hm hB m6 hBn)
  have HCZ := Lib.hid (fun W (e : Ext w W) => copyGausses_V C M cz zs hM W (hZ.ext e) hM8 hCn)
  have H32 := Lib.hid (voltagesPub_O (t := t) (f := f) hn hm)
  have H33 := Lib.hid (currentsPub_O (t := t) (f := f) hn hm)
  have H34 := Lib.hid (checkVoltages_O (t := t) (f := f) (xs := xs) (hot := hot) (zs := zs))
  have H24 := Lib.hid (fun W (e : Ext w W) => refBothErr_any t A n ca xs hn f B m cb W (hA.ext e))
  have HF1 := Lib.hid (few_yes t A n ca · n6)
  have HF2 := Lib.hid (fewHot_yes f B m cb · m6)
  have hMd : decide ((8 : Int) < (M : Int)) = false := by simp; omega
  have H36 := Lib.hid (fun W (e : Ext w W) (hq : driveE t xs f m = 0) => show Calls Try.prog 36 #[.agg #[.int .i64 t, .slice A n ca], .agg #[.int .i64 f, .slice B m cb]] W (fun e w' => ∃ g8 g9, e = .returned (.tuple #[.slice (some ⟨g8, 0, none⟩) (n + 1) (n + 1), .slice (some ⟨g9, 0, none⟩) n n]) ∧
      RowsAt 2 G.enc w' (some ⟨g8, 0, none⟩) (volts f hot xs) ∧ RowsAt 2 G.enc w' (some ⟨g9, 0, none⟩) (curr xs (volts f hot xs).tail) ∧ Ext W w') from by
    obtain ⟨⟨_, ⟨h1, h4⟩, hok⟩, hf, hml⟩ := (driveE_zero t xs f m).1 hq
    obtain rfl : n = m := by rw [hml, hn]
    exact solve_any t A n ca xs hn f B cb hot hm W (hA.ext e) (hB.ext e) hok hf (by omega) (by omega))
  have H37 := Lib.hid (fun W (e : Ext w W) (hq : driveE t xs f m = 0) => show Calls Try.prog 37 #[.agg #[.int .i64 t, .slice A n ca], .agg #[.int .i64 f, .slice B m cb], .slice C M cz] W (fun e w' => e = .returned (.tuple #[.int .i64 (chkA t f hot xs zs).1, .int .i64 (chkA t f hot xs zs).2]) ∧ Ext W w') from by
    obtain ⟨⟨_, ⟨h1, h4⟩, hok⟩, hf, hml⟩ := (driveE_zero t xs f m).1 hq
    obtain rfl : n = m := by rw [hml, hn]
    have hc : chkA t f hot xs zs = chkV f hot xs zs := by unfold chkA; rw [if_neg (by rw [hm]; simp [hq])]
    rw [hc]
    exact refCheckVoltages_any t A n ca xs hn f B cb hot hm C M cz zs hM W (hA.ext e) (hB.ext e) (hZ.ext e) hok hf (by omega) (by omega))
  have HCHK := Lib.hid (show driveE t xs f m ≠ 0 → chkA t f hot xs zs = (0, driveE t xs f m) from fun h => by unfold chkA; rw [hm, if_pos h])
  have HVL := Lib.hid (show (volts f hot xs).length = n + 1 by rw [volts_len, hn])
  have HCLN := Lib.hid (show (curr xs (volts f hot xs).tail).length = n by rw [curr_len xs _ (by simp [volts_len]), hn])
  have E0 := Lib.hid e0
  clear hn hA hm hB hM hZ n6 m6 hM8 hAn hBn hCn e0
  obtain ⟨d1, hd1⟩ : ∃ d, d = (chkA t f hot xs zs).1 := ⟨_, rfl⟩
  obtain ⟨d2, hd2⟩ : ∃ d, d = (chkA t f hot xs zs).2 := ⟨_, rfl⟩
  have HC1 := Lib.hid (show driveE t xs f m ≠ 0 → d1 = 0 ∧ d2 = driveE t xs f m from fun h => by rw [hd1, hd2, HCHK.out h]; exact ⟨rfl, rfl⟩)
  rw [← hd1, ← hd2] at H34 H37
  clear hd1 hd2 HCHK
  generalize curr xs (volts f hot xs).tail = cs at *
  generalize volts f hot xs = vs at *
  generalize driveE t xs f m = q at *
  go_enter Try.func5, Try.ntmps5
  go_wp2_with (first
    | (go_at_call 15; refine (awake_any _).mono ?_; rintro e W1 ⟨rfl, hx1⟩; obtain ⟨z0, z1, z2, z3⟩ := FA.out _ hx1; have X1 := Lib.hid hx1; clear hx1)
    | (go_at_call 16; refine (HF1.out _).mono ?_; rintro e W1b ⟨rfl, hx2⟩; clear z0 z1 z2 z3; have X1b := Lib.hid (X1.out.trans hx2); clear hx2; obtain ⟨z0, z1, z2, z3⟩ := FA.out _ X1b.out)
    | (go_at_call 17; refine (HF2.out _).mono ?_; rintro e W2 ⟨rfl, hx2⟩; clear z0 z1 z2 z3; have X2 := Lib.hid (X1b.out.trans hx2); clear hx2; obtain ⟨z0, z1, z2, z3⟩ := FA.out _ X2.out))
  have EB := Lib.hid (E0.out.trans X2.out)
  refine wp_region_each [some 34, some 35, some 36, some 37, some 38, some 33, some 39, some 40, some 7, some 8] [[3], [34], [4], [36], [35, 37], [38], [33], [33], [39], [40]]
    [Is (.agg #[.int .i64 (t), .slice A n ca]), LadV t xs, Is (.agg #[.int .i64 (f), .slice B m cb]), DrvV f hot, TupV (Opt q (.slice none 0 0) (AsV n vs)) (q), TupV (Opt q (.slice none 0 0) (AsV n vs)) (q), Opt q (.slice none 0 0) (AsV n vs), Is (.int .i64 (q)), Opt q (.slice none 0 0) (AsV n vs), Is (.int .i64 (q))]
    (by kernel_rfl) (by kernel_rfl) (by kernel_rfl) (by kernel_rfl) (by kernel_rfl) Ext (fun W => Ext W2 W)
    (fun W _ => Ext.refl W) (fun W W' h k => h.trans k) ?_ (Ext.drew _) ?_ ?_
  · repeat (refine ⟨fun _ _ _ _ k h => (by first | exact h | exact (by first | exact LadV.ext h k | exact DrvV.ext h k | exact GcV.ext h k | exact Opt.ext (fun _ _ _ h k => by first | exact AsV.ext h k | exact BsV.ext h k) h k | exact TupV.ext (fun _ _ _ h k => Opt.ext (fun _ _ _ h k => by first | exact AsV.ext h k | exact BsV.ext h k) h k) h k)), ?_⟩)
    exact trivial
  · refine ⟨?_, ?_, ?_, ?_, ?_, ?_, ?_, ?_, ?_, ?_, trivial⟩
    all_goals intro ρ W ⟨kc, kg, kf⟩ hF hs
    · obtain ⟨h0, -⟩ := hs
      replace h0 : ρ (.tmp 3) = .pointer (some ⟨w.heap.size, 0, none⟩) := h0
      have hc0 : W.cell? ⟨w.heap.size, 0, none⟩ = some (.int .i64 (t)) := hF.cell (by assumption)
      have hc1 : W.cell? ⟨w.heap.size, 1, none⟩ = some (.slice A n ca) := hF.cell (by assumption)
      go_simp
      exact ⟨Ext.refl _, rfl⟩
    · obtain ⟨h0, -⟩ := hs
      replace h0 : ρ (.tmp 34) = .agg #[.int .i64 (t), .slice A n ca] := h0
      go_simp
      exact HCL.out W (EB.out.trans hF)
    · obtain ⟨h0, -⟩ := hs
      replace h0 : ρ (.tmp 4) = .pointer (some ⟨w.heap.size + 1, 0, none⟩) := h0
      have hc0 : W.cell? ⟨w.heap.size + 1, 0, none⟩ = some (.int .i64 (f)) := hF.cell (by assumption)
      have hc1 : W.cell? ⟨w.heap.size + 1, 1, none⟩ = some (.slice B m cb) := hF.cell (by assumption)
      go_simp
      exact ⟨Ext.refl _, rfl⟩
    · obtain ⟨h0, -⟩ := hs
      replace h0 : ρ (.tmp 36) = .agg #[.int .i64 (f), .slice B m cb] := h0
      go_simp
      exact HCD.out W (EB.out.trans hF)
    · obtain ⟨h0, h1, -⟩ := hs
      replace h0 : (LadV t xs) (ρ (.tmp 35)) W := h0
      replace h1 : (DrvV f hot) (ρ (.tmp 37)) W := h1
      go_simp
      exact H32.out W _ _ h0 h1
    · obtain ⟨h0, -⟩ := hs
      replace h0 : (TupV (Opt q (.slice none 0 0) (AsV n vs)) (q)) (ρ (.tmp 38)) W := h0
      go_simp
      first | exact ⟨Ext.refl _, h0⟩ | exact Ext.refl _
    · obtain ⟨h0, -⟩ := hs
      replace h0 : (TupV (Opt q (.slice none 0 0) (AsV n vs)) (q)) (ρ (.tmp 33)) W := h0
      obtain ⟨v, hv, hp⟩ := h0
      go_simp
      first | exact ⟨Ext.refl _, hp⟩ | exact Ext.refl _
    · obtain ⟨h0, -⟩ := hs
      replace h0 : (TupV (Opt q (.slice none 0 0) (AsV n vs)) (q)) (ρ (.tmp 33)) W := h0
      obtain ⟨v, hv, hp⟩ := h0
      go_simp
      first | exact ⟨Ext.refl _, rfl⟩ | exact Ext.refl _
    · obtain ⟨h0, -⟩ := hs
      replace h0 : (Opt q (.slice none 0 0) (AsV n vs)) (ρ (.tmp 39)) W := h0
      go_simp
      first | exact ⟨Ext.refl _, h0⟩ | exact Ext.refl _
    · obtain ⟨h0, -⟩ := hs
      replace h0 : ρ (.tmp 40) = .int .i64 (q) := h0
      go_simp
      exact ⟨Ext.refl _, rfl⟩
  · intro fv W3 hF hs
    obtain ⟨-, -, -, -, -, -, -, -, h7, h8, -⟩ := hs
    replace h7 : (Opt q (.slice none 0 0) (AsV n vs)) (fv 7) W3 := h7
    replace h8 : fv 8 = .int .i64 (q) := h8
    simp only [fin, List.filterMap]
    go_simp
    have X3 := Lib.hid (X2.out.trans hF)
    clear hF z0 z1 z2 z3 h8
    have V7 := Lib.hid h7
    clear h7
    generalize fv 7 = v7 at *
    obtain ⟨z0, z1, z2, z3⟩ := FA.out _ X3.out
    have EB := Lib.hid (E0.out.trans X3.out)
    go_wp2
    refine wp_region_each [some 42, some 43, some 44, some 45, some 46, some 41, some 47, some 48, some 9, some 10] [[3], [42], [4], [44], [43, 45], [46], [41], [41], [47], [48]]
      [Is (.agg #[.int .i64 (t), .slice A n ca]), LadV t xs, Is (.agg #[.int .i64 (f), .slice B m cb]), DrvV f hot, TupV (Opt q (.slice none 0 0) (BsV n cs)) (q), TupV (Opt q (.slice none 0 0) (BsV n cs)) (q), Opt q (.slice none 0 0) (BsV n cs), Is (.int .i64 (q)), Opt q (.slice none 0 0) (BsV n cs), Is (.int .i64 (q))]
      (by kernel_rfl) (by kernel_rfl) (by kernel_rfl) (by kernel_rfl) (by kernel_rfl) Ext (fun W => Ext W3 W)
      (fun W _ => Ext.refl W) (fun W W' h k => h.trans k) ?_ (Ext.drew _) ?_ ?_
    · repeat (refine ⟨fun _ _ _ _ k h => (by first | exact h | exact (by first | exact LadV.ext h k | exact DrvV.ext h k | exact GcV.ext h k | exact Opt.ext (fun _ _ _ h k => by first | exact AsV.ext h k | exact BsV.ext h k) h k | exact TupV.ext (fun _ _ _ h k => Opt.ext (fun _ _ _ h k => by first | exact AsV.ext h k | exact BsV.ext h k) h k) h k)), ?_⟩)
      exact trivial
    · refine ⟨?_, ?_, ?_, ?_, ?_, ?_, ?_, ?_, ?_, ?_, trivial⟩
      all_goals intro ρ W ⟨kc, kg, kf⟩ hF hs
      · obtain ⟨h0, -⟩ := hs
        replace h0 : ρ (.tmp 3) = .pointer (some ⟨w.heap.size, 0, none⟩) := h0
        have hc0 : W.cell? ⟨w.heap.size, 0, none⟩ = some (.int .i64 (t)) := hF.cell (by assumption)
        have hc1 : W.cell? ⟨w.heap.size, 1, none⟩ = some (.slice A n ca) := hF.cell (by assumption)
        go_simp
        exact ⟨Ext.refl _, rfl⟩
      · obtain ⟨h0, -⟩ := hs
        replace h0 : ρ (.tmp 42) = .agg #[.int .i64 (t), .slice A n ca] := h0
        go_simp
        exact HCL.out W (EB.out.trans hF)
      · obtain ⟨h0, -⟩ := hs
        replace h0 : ρ (.tmp 4) = .pointer (some ⟨w.heap.size + 1, 0, none⟩) := h0
        have hc0 : W.cell? ⟨w.heap.size + 1, 0, none⟩ = some (.int .i64 (f)) := hF.cell (by assumption)
        have hc1 : W.cell? ⟨w.heap.size + 1, 1, none⟩ = some (.slice B m cb) := hF.cell (by assumption)
        go_simp
        exact ⟨Ext.refl _, rfl⟩
      · obtain ⟨h0, -⟩ := hs
        replace h0 : ρ (.tmp 44) = .agg #[.int .i64 (f), .slice B m cb] := h0
        go_simp
        exact HCD.out W (EB.out.trans hF)
      · obtain ⟨h0, h1, -⟩ := hs
        replace h0 : (LadV t xs) (ρ (.tmp 43)) W := h0
        replace h1 : (DrvV f hot) (ρ (.tmp 45)) W := h1
        go_simp
        exact H33.out W _ _ h0 h1
      · obtain ⟨h0, -⟩ := hs
        replace h0 : (TupV (Opt q (.slice none 0 0) (BsV n cs)) (q)) (ρ (.tmp 46)) W := h0
        go_simp
        first | exact ⟨Ext.refl _, h0⟩ | exact Ext.refl _
      · obtain ⟨h0, -⟩ := hs
        replace h0 : (TupV (Opt q (.slice none 0 0) (BsV n cs)) (q)) (ρ (.tmp 41)) W := h0
        obtain ⟨v, hv, hp⟩ := h0
        go_simp
        first | exact ⟨Ext.refl _, hp⟩ | exact Ext.refl _
      · obtain ⟨h0, -⟩ := hs
        replace h0 : (TupV (Opt q (.slice none 0 0) (BsV n cs)) (q)) (ρ (.tmp 41)) W := h0
        obtain ⟨v, hv, hp⟩ := h0
        go_simp
        first | exact ⟨Ext.refl _, rfl⟩ | exact Ext.refl _
      · obtain ⟨h0, -⟩ := hs
        replace h0 : (Opt q (.slice none 0 0) (BsV n cs)) (ρ (.tmp 47)) W := h0
        go_simp
        first | exact ⟨Ext.refl _, h0⟩ | exact Ext.refl _
      · obtain ⟨h0, -⟩ := hs
        replace h0 : ρ (.tmp 48) = .int .i64 (q) := h0
        go_simp
        exact ⟨Ext.refl _, rfl⟩
    · intro fv W4 hF hs
      obtain ⟨-, -, -, -, -, -, -, -, h9, h10, -⟩ := hs
      replace h9 : (Opt q (.slice none 0 0) (BsV n cs)) (fv 9) W4 := h9
      replace h10 : fv 10 = .int .i64 (q) := h10
      simp only [fin, List.filterMap]
      go_simp
      have X34 := Lib.hid hF
      have X4 := Lib.hid (X3.out.trans hF)
      clear hF z0 z1 z2 z3 h10
      have V9 := Lib.hid h9
      clear h9
      generalize fv 9 = v9 at *
      obtain ⟨z0, z1, z2, z3⟩ := FA.out _ X4.out
      have EB := Lib.hid (E0.out.trans X4.out)
      go_wp2
      refine wp_region_each [some 50, some 51, some 52, some 53, some 54, some 55, some 56, some 49, some 57, some 58, some 11, some 12] [[3], [50], [4], [52], [2], [54], [51, 53, 55], [56], [49], [49], [57], [58]]
        [Is (.agg #[.int .i64 (t), .slice A n ca]), LadV t xs, Is (.agg #[.int .i64 (f), .slice B m cb]), DrvV f hot, Is (.slice C M cz), GcV zs, Is (.tuple #[.int .i64 (d1), .int .i64 (d2)]), Is (.tuple #[.int .i64 (d1), .int .i64 (d2)]), Is (.int .i64 (d1)), Is (.int .i64 (d2)), Is (.int .i64 (d1)), Is (.int .i64 (d2))]
        (by kernel_rfl) (by kernel_rfl) (by kernel_rfl) (by kernel_rfl) (by kernel_rfl) Ext (fun W => Ext W4 W)
        (fun W _ => Ext.refl W) (fun W W' h k => h.trans k) ?_ (Ext.drew _) ?_ ?_
      · repeat (refine ⟨fun _ _ _ _ k h => (by first | exact h | exact (by first | exact LadV.ext h k | exact DrvV.ext h k | exact GcV.ext h k | exact Opt.ext (fun _ _ _ h k => by first | exact AsV.ext h k | exact BsV.ext h k) h k | exact TupV.ext (fun _ _ _ h k => Opt.ext (fun _ _ _ h k => by first | exact AsV.ext h k | exact BsV.ext h k) h k) h k)), ?_⟩)
        exact trivial
      · refine ⟨?_, ?_, ?_, ?_, ?_, ?_, ?_, ?_, ?_, ?_, ?_, ?_, trivial⟩
        all_goals intro ρ W ⟨kc, kg, kf⟩ hF hs
        · obtain ⟨h0, -⟩ := hs
          replace h0 : ρ (.tmp 3) = .pointer (some ⟨w.heap.size, 0, none⟩) := h0
          have hc0 : W.cell? ⟨w.heap.size, 0, none⟩ = some (.int .i64 (t)) := hF.cell (by assumption)
          have hc1 : W.cell? ⟨w.heap.size, 1, none⟩ = some (.slice A n ca) := hF.cell (by assumption)
          go_simp
          exact ⟨Ext.refl _, rfl⟩
        · obtain ⟨h0, -⟩ := hs
          replace h0 : ρ (.tmp 50) = .agg #[.int .i64 (t), .slice A n ca] := h0
          go_simp
          exact HCL.out W (EB.out.trans hF)
        · obtain ⟨h0, -⟩ := hs
          replace h0 : ρ (.tmp 4) = .pointer (some ⟨w.heap.size + 1, 0, none⟩) := h0
          have hc0 : W.cell? ⟨w.heap.size + 1, 0, none⟩ = some (.int .i64 (f)) := hF.cell (by assumption)
          have hc1 : W.cell? ⟨w.heap.size + 1, 1, none⟩ = some (.slice B m cb) := hF.cell (by assumption)
          go_simp
          exact ⟨Ext.refl _, rfl⟩
        · obtain ⟨h0, -⟩ := hs
          replace h0 : ρ (.tmp 52) = .agg #[.int .i64 (f), .slice B m cb] := h0
          go_simp
          exact HCD.out W (EB.out.trans hF)
        · obtain ⟨h0, -⟩ := hs
          replace h0 : ρ (.tmp 2) = .slice C M cz := h0
          go_simp
          exact ⟨Ext.refl _, rfl⟩
        · obtain ⟨h0, -⟩ := hs
          replace h0 : ρ (.tmp 54) = .slice C M cz := h0
          go_simp
          exact HCZ.out W (EB.out.trans hF)
        · obtain ⟨h0, h1, h2, -⟩ := hs
          replace h0 : (LadV t xs) (ρ (.tmp 51)) W := h0
          replace h1 : (DrvV f hot) (ρ (.tmp 53)) W := h1
          replace h2 : (GcV zs) (ρ (.tmp 55)) W := h2
          go_simp
          exact H34.out W _ _ _ h0 h1 h2
        · obtain ⟨h0, -⟩ := hs
          replace h0 : ρ (.tmp 56) = .tuple #[.int .i64 (d1), .int .i64 (d2)] := h0
          go_simp
          first | exact ⟨Ext.refl _, rfl⟩ | exact Ext.refl _
        · obtain ⟨h0, -⟩ := hs
          replace h0 : ρ (.tmp 49) = .tuple #[.int .i64 (d1), .int .i64 (d2)] := h0
          go_simp
          first | exact ⟨Ext.refl _, rfl⟩ | exact Ext.refl _
        · obtain ⟨h0, -⟩ := hs
          replace h0 : ρ (.tmp 49) = .tuple #[.int .i64 (d1), .int .i64 (d2)] := h0
          go_simp
          first | exact ⟨Ext.refl _, rfl⟩ | exact Ext.refl _
        · obtain ⟨h0, -⟩ := hs
          replace h0 : ρ (.tmp 57) = .int .i64 (d1) := h0
          go_simp
          first | exact ⟨Ext.refl _, rfl⟩ | exact Ext.refl _
        · obtain ⟨h0, -⟩ := hs
          replace h0 : ρ (.tmp 58) = .int .i64 (d2) := h0
          go_simp
          first | exact ⟨Ext.refl _, rfl⟩ | exact Ext.refl _
      · intro fv W5 hF hs
        obtain ⟨-, -, -, -, -, -, -, -, -, -, h11, h12, -⟩ := hs
        replace h11 : fv 11 = .int .i64 (d1) := h11
        replace h12 : fv 12 = .int .i64 (d2) := h12
        simp only [fin, List.filterMap]
        go_simp
        have X45 := Lib.hid hF
        have X5 := Lib.hid (X4.out.trans hF)
        clear hF z0 z1 z2 z3 h11 h12
        obtain ⟨z0, z1, z2, z3⟩ := FA.out _ X5.out
        by_cases hq : q = 0
        · subst hq
          have HA7 := Lib.hid (V7.out.2 rfl)
          have HB9 := Lib.hid (V9.out.2 rfl)
          obtain ⟨g7, c7, rfl, hr7⟩ := HA7.out
          obtain ⟨A9, c9, rfl, hr9⟩ := HB9.out
          have HR7 := Lib.hid hr7
          have HR9 := Lib.hid hr9
          have H36' := Lib.hid (fun W e => H36.out W e rfl)
          have H37' := Lib.hid (fun W e => H37.out W e rfl)
          clear hr7 hr9 HA7 HB9 V7 V9 H36 H37 HC1
          go_wp2_with (first
            | (go_at_call 24; refine (H24.out _ (E0.out.trans X5.out)).mono ?_; rintro e W6 ⟨rfl, hx2⟩; clear z0 z1 z2 z3; have X56 := Lib.hid hx2; have X6 := Lib.hid (X5.out.trans hx2); clear hx2; obtain ⟨z0, z1, z2, z3⟩ := FA.out _ X6.out)
            | (go_at_call 36; refine (H36'.out _ (E0.out.trans X6.out)).mono ?_; rintro e W7 ⟨g8, g9, rfl, hr8, hr9, hx2⟩; clear z0 z1 z2 z3; have X67 := Lib.hid hx2; have X7 := Lib.hid (X6.out.trans hx2); have HS8 := Lib.hid hr8; have HS9 := Lib.hid hr9; clear hx2 hr8 hr9; obtain ⟨z0, z1, z2, z3⟩ := FA.out _ X7.out)
            | (go_at_call 37; refine (H37'.out _ (E0.out.trans X7.out)).mono ?_; rintro e W8 ⟨rfl, hx2⟩; clear z0 z1 z2 z3; have X78 := Lib.hid hx2; have X8 := Lib.hid (X7.out.trans hx2); clear hx2; have HG1 := Lib.hid (show Calls Try.prog 38 #[.slice (some ⟨g7, 0, none⟩) (n + 1) c7, .slice (some ⟨g8, 0, none⟩) (n + 1) (n + 1)] W8 (fun e w' => e = .returned (.bool true) ∧ Ext W8 w') from by
                have := gausses_any (some ⟨g7, 0, none⟩) (some ⟨g8, 0, none⟩) c7 (n + 1) vs vs W8 (HR7.out.ext (X34.out.trans (X45.out.trans (X56.out.trans (X67.out.trans X78.out))))) (HS8.out.ext X78.out)
                rw [HVL.out, beq_self_eq_true] at this
                exact this))
            | (go_at_call 38; refine HG1.out.mono ?_; rintro e W9 ⟨rfl, hx2⟩; have X89 := Lib.hid hx2; clear hx2; have HG2 := Lib.hid (show Calls Try.prog 38 #[.slice A9 n c9, .slice (some ⟨g9, 0, none⟩) n n] W9 (fun e w' => e = .returned (.bool true) ∧ Ext W9 w') from by
                have := gausses_any A9 (some ⟨g9, 0, none⟩) c9 n cs cs W9 (HR9.out.ext (X45.out.trans (X56.out.trans (X67.out.trans (X78.out.trans X89.out))))) (HS9.out.ext (X78.out.trans X89.out))
                rw [HCLN.out, beq_self_eq_true] at this
                exact this); clear HG1)
            | (go_at_call 38; refine HG2.out.mono ?_; rintro e W10 ⟨rfl, hx2⟩; have X910 := Lib.hid hx2; clear hx2))
          go_ret
          exact ⟨ret_bool (by simp), E0.out.trans (X8.out.trans (X89.out.trans X910.out))⟩
        · have hq' : (q != 0) = true := by simp [hq]
          obtain ⟨hc1, hc2⟩ := HC1.out hq
          subst hc1 hc2
          have e7 := V7.out.1 hq
          have e9 := V9.out.1 hq
          subst e7 e9
          clear hq V7 V9
          go_wp2_with (go_at_call 24; refine (H24.out _ (E0.out.trans X5.out)).mono ?_; rintro e W6 ⟨rfl, hx2⟩; have X6 := Lib.hid (X5.out.trans hx2); clear hx2 z0 z1 z2 z3)
          go_ret
          exact ⟨ret_bool (by simp), E0.out.trans X6.out⟩

end Go.Proofs.Ytpaoeghdfeekoaa
