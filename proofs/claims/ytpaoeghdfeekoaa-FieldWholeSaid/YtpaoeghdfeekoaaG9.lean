/- FieldWhole: the law's function. By lawgen.py. -/
import Derived.Test.YtpaoeghdfeekoaaK9
namespace Go.Proofs.Ytpaoeghdfeekoaa
open Go.RowKit Go.Shelf Go.Mem Go.RegInv
attribute [local go_sem] RelUpon_value RelUpon_skip RelUpon_enter BigFrame.eval_const BigFrame.eval_global BigFrame.eval_func

def DepP (ps : List Int) (pc d : Int) : Prop := ∃ k : Nat, d = (k : Int) ∧ IsDepth ps pc k
def DepV (ps : List Int) (pc : Int) : Value → World → Prop := fun u _ => ∃ d : Int, u = .int .i64 d ∧ DepP ps pc d
theorem DepV.ext {ps : List Int} {pc : Int} {u : Value} {W W' : World} (h : DepV ps pc u W) (_e : Ext W W') : DepV ps pc u W' := h
theorem depthFor_D {t : Int} {xs : List Sh} {f : Int} {hot : List Bool} {m : Nat} (hm : hot.length = m) (pc : Int) (hq : driveE t xs f m = 0) (hp : rangeE 1 100 [pc] = 0) (W : World) (u v : Value) (h : LadV t xs u W) (k : DrvV f hot v W) :
    Calls Try.prog 43 #[u, v, .int .i64 pc] W (VPost W (TupV (DepV (powers f hot xs) pc) 0)) :=
  (depthFor_V hm pc hq hp W u v h k).mono fun _ _ ⟨r, h1, h2, v, h3, d, h4, h5⟩ => ⟨r, h1, h2, v, h3, (d : Int), h4, d, rfl, h5⟩

set_option maxRecDepth 100000 in
set_option maxHeartbeats 8000000 in
theorem fieldWhole_main (t : Int) (A : Option Addr) (n ca : Nat) (xs : List Sh) (hn : xs.length = n) (f : Int) (B : Option Addr) (cb : Nat) (hot : List Bool) (hm : hot.length = n) (tot pc mo : Int) (w : World)
    (hA : RowsAt 3 Sh.enc w A xs) (hB : RowsAt 1 boolEnc w B hot) (hAn : A = none → ca = 0) (hBn : B = none → cb = 0)
    (hq : driveE t xs f n = 0) (ht : rangeE 0 100000 [tot] = 0) (hp : inB 1 100 pc = true) (hmo : inB pc 100 mo = true) :
    Calls Try.prog 8 #[.agg #[.int .i64 t, .slice A n ca], .agg #[.int .i64 f, .slice B n cb], .agg #[.int .i64 tot, .int .i64 pc, .int .i64 mo]] w fun e w' => e = .returned (.bool true) ∧ Ext w w' := by
  have e0 : Ext w (((w.alloc (.cells #[.int .i64 t, .slice A n ca] 24)).alloc (.cells #[.int .i64 f, .slice B n cb] 27)).alloc (.cells #[.int .i64 tot, .int .i64 pc, .int .i64 mo] 66)) := (Ext.alloc _ _).trans ((Ext.alloc _ _).trans (Ext.alloc _ _))
  have FA := Lib.hid (show ∀ W : World, Ext (((w.alloc (.cells #[.int .i64 t, .slice A n ca] 24)).alloc (.cells #[.int .i64 f, .slice B n cb] 27)).alloc (.cells #[.int .i64 tot, .int .i64 pc, .int .i64 mo] 66)) W →
      W.cell? ⟨w.heap.size, 0, none⟩ = some (.int .i64 t) ∧ W.cell? ⟨w.heap.size, 1, none⟩ = some (.slice A n ca) ∧ W.cell? ⟨w.heap.size + 1, 0, none⟩ = some (.int .i64 f) ∧ W.cell? ⟨w.heap.size + 1, 1, none⟩ = some (.slice B n cb) from
    fun W hx => ⟨hx.cell (by go_simp), hx.cell (by go_simp), hx.cell (by go_simp), hx.cell (by go_simp)⟩)
  have FY := Lib.hid (show ∀ W : World, Ext (((w.alloc (.cells #[.int .i64 t, .slice A n ca] 24)).alloc (.cells #[.int .i64 f, .slice B n cb] 27)).alloc (.cells #[.int .i64 tot, .int .i64 pc, .int .i64 mo] 66)) W →
      W.cell? ⟨w.heap.size + 1 + 1, 0, none⟩ = some (.int .i64 tot) ∧ W.cell? ⟨w.heap.size + 1 + 1, 1, none⟩ = some (.int .i64 pc) ∧ W.cell? ⟨w.heap.size + 1 + 1, 2, none⟩ = some (.int .i64 mo) from
    fun W hx => ⟨hx.cell (by go_simp), hx.cell (by go_simp), hx.cell (by go_simp)⟩)
  obtain ⟨⟨htt, ⟨h1, h4⟩, hok⟩, hf, hml⟩ := (driveE_zero t xs f n).1 hq
  rw [hn] at h1 h4
  have H24 := Lib.hid (fun W (e : Ext w W) => refBothErr_any t A n ca xs hn f B n cb W (hA.ext e))
  rw [hq] at H24
  have HCL := Lib.hid (copyLadder_V (t := t) hn hA (by omega) hAn)
  have HCD := Lib.hid (copyDrive_V (f := f) hm hB (by omega) hBn)
  obtain ⟨ps, hps⟩ : ∃ ps, ps = powers f hot xs := ⟨_, rfl⟩
  have hpl : ps.length = n := by rw [hps, powers_len, hn]
  obtain ⟨ws, hws⟩ : ∃ ws, ws = wattsL tot ps n := ⟨_, rfl⟩
  have hwl : ws.length = n := by rw [hws, wattsL_len]
  have hp1 : rangeE 1 100 [pc] = 0 := by rw [rangeE_one, if_pos hp]
  have hpb : 1 ≤ pc ∧ pc ≤ 100 := by simpa [inB] using hp
  have hmb : pc ≤ mo ∧ mo ≤ 100 := by simpa [inB] using hmo
  have htb : 0 ≤ tot ∧ tot ≤ 100000 := (rangeE_zero 0 100000 [tot]).1 ht tot (by simp)
  have hp2 : rangeE 1 100 [mo] = 0 := by rw [rangeE_one, if_pos (inB_of (by omega) hmb.2)]
  have H39 := Lib.hid (fun W u v (h : LadV t xs u W) (k : DrvV f hot v W) => show Calls Try.prog 39 #[u, v] W (VPost W (TupV (Ints ps) 0)) from by
    have := powersPub_V (f := f) hm W u v h k
    rw [hq, ← hps] at this
    exact this.mono fun e w' ⟨r, h1, h2, v, h3, h4⟩ => ⟨r, h1, h2, v, h3, h4.2 rfl⟩)
  have H42 := Lib.hid (fun W u v (h : LadV t xs u W) (k : DrvV f hot v W) => show Calls Try.prog 42 #[u, v, .int .i64 tot] W (VPost W (TupV (Ints ws) 0)) from by
    rw [hws, hps]; exact wattsIn_V hn hm tot hq ht W u v h k)
  have H43a := Lib.hid (fun W u v (h : LadV t xs u W) (k : DrvV f hot v W) => show Calls Try.prog 43 #[u, v, .int .i64 pc] W (VPost W (TupV (DepV ps pc) 0)) from by
    rw [hps]; exact depthFor_D hm pc hq hp1 W u v h k)
  have H43b := Lib.hid (fun W u v (h : LadV t xs u W) (k : DrvV f hot v W) => show Calls Try.prog 43 #[u, v, .int .i64 mo] W (VPost W (TupV (DepV ps mo) 0)) from by
    rw [hps]; exact depthFor_D hm mo hq hp2 W u v h k)
  have H43c := Lib.hid (fun W u v (h : LadV t xs u W) (k : DrvV f hot v W) => show Calls Try.prog 43 #[u, v, .int .i64 100] W (VPost W (TupV (DepV ps 100) 0)) from by
    rw [hps]; exact depthFor_D hm 100 hq (by decide) W u v h k)
  have hpok := powers_ok (hot := hot) hok hf (by omega) (by omega)
  rw [← hps] at hpok
  have HPB := Lib.hid (show ∀ (k : Nat) (x : Int), ps[k]? = some x → 0 ≤ x ∧ x ≤ 20000000000000 from fun k x hx => power_bd hok hf (by omega) k x (by rw [← hps]; exact hx))
  have HTL := Lib.hid (show ∀ k, k < ps.length → (ps.take k).sum < ps.sum from take_lt (fun k hk => by rw [hps]; exact power_last hok hf k (by rw [hn]; omega)))
  have HPOK := Lib.hid hpok
  have HPL := Lib.hid hpl
  have HWL := Lib.hid hwl
  have HWS := Lib.hid hws
  have HTE := Lib.hid ht
  have HI1 := Lib.hid hp
  have HI2 := Lib.hid hmo
  have HT := Lib.hid htb
  have HPC := Lib.hid hpb
  have HMO := Lib.hid hmb
  have E0 := Lib.hid e0
  clear hml htt hok hf hn hm hA hB hAn hBn hq ht hp hmo hps hpl hws hwl hp1 hp2 hpb hmb hpok e0
  obtain ⟨ht0, ht1⟩ := htb
  go_enter Try.func8, Try.ntmps8
  go_wp2_with (go_at_call 15; refine (awake_any _).mono ?_; rintro e W1 ⟨rfl, hx1⟩; obtain ⟨y0, y1, y2⟩ := FY.out _ hx1; have X1 := Lib.hid hx1; clear hx1)
  go_quiet (fail)
  generalize hWd : W1.drewN _ = Wd
  have X1' : Ext W1 Wd := by rw [← hWd]; exact Ext.drewN _ _
  have X1d := Lib.hid (X1.out.trans X1')
  clear hWd X1' y0 y1 y2
  obtain ⟨z0, z1, z2, z3⟩ := FA.out _ X1d.out
  go_wp2_with (first
    | (go_at_call 24; refine (H24.out _ (E0.out.trans X1d.out)).mono ?_; rintro e W2 ⟨rfl, hx2⟩; clear z0 z1 z2 z3; have X2 := Lib.hid (X1d.out.trans hx2); clear hx2; obtain ⟨z0, z1, z2, z3⟩ := FA.out _ X2.out)
    | (go_at_call 49; refine (totalErr_any tot _).mono ?_; rintro e w' ⟨rfl, rfl⟩; rw [HTE.out])
    | (go_at_call 40; refine (within_any _ _ _ _).mono ?_; rintro e w' ⟨rfl, rfl⟩; first | rw [HI1.out] | rw [HI2.out]))
  have EB := Lib.hid (E0.out.trans X2.out)
  refine wp_region_each [some 53, some 54, some 55, some 56, some 57, some 52, some 58, some 59, some 10, some 11] [[3], [53], [4], [55], [54, 56], [57], [52], [52], [58], [59]]
    [Is (.agg #[.int .i64 (t), .slice A n ca]), LadV t xs, Is (.agg #[.int .i64 (f), .slice B n cb]), DrvV f hot, TupV (Ints ps) (0), TupV (Ints ps) (0), Ints ps, Is (.int .i64 (0)), Ints ps, Is (.int .i64 (0))]
    (by kernel_rfl) (by kernel_rfl) (by kernel_rfl) (by kernel_rfl) (by kernel_rfl) Ext (fun W => Ext W2 W)
    (fun W _ => Ext.refl W) (fun W W' h k => h.trans k) ?_ (Ext.drew _) ?_ ?_
  · repeat (refine ⟨fun _ _ _ _ k h => (by first | exact h | exact (by first | exact LadV.ext h k | exact DrvV.ext h k | exact IntsAt.ext h k | exact DepV.ext h k | exact TupV.ext (fun _ _ _ h k => by first | exact IntsAt.ext h k | exact DepV.ext h k) h k)), ?_⟩)
    exact trivial
  · refine ⟨?_, ?_, ?_, ?_, ?_, ?_, ?_, ?_, ?_, ?_, trivial⟩
    all_goals intro ρ W ⟨kc, kg, kf⟩ hF hs
    · obtain ⟨h0, -⟩ := hs
      replace h0 : ρ (.tmp 3) = .pointer (some ⟨w.heap.size, 0, none⟩) := h0
      have hc0 : W.cell? ⟨w.heap.size, 0, none⟩ = some (.int .i64 (t)) := hF.cell (by assumption)
      have hc1 : W.cell? ⟨w.heap.size, 1, none⟩ = some (.slice A n ca) := hF.cell (by assumption)
      go_simp
      exact ⟨Ext.refl _, rfl⟩
    · obtain ⟨h0, -⟩ := hs
      replace h0 : ρ (.tmp 53) = .agg #[.int .i64 (t), .slice A n ca] := h0
      go_simp
      exact HCL.out W (EB.out.trans hF)
    · obtain ⟨h0, -⟩ := hs
      replace h0 : ρ (.tmp 4) = .pointer (some ⟨w.heap.size + 1, 0, none⟩) := h0
      have hc0 : W.cell? ⟨w.heap.size + 1, 0, none⟩ = some (.int .i64 (f)) := hF.cell (by assumption)
      have hc1 : W.cell? ⟨w.heap.size + 1, 1, none⟩ = some (.slice B n cb) := hF.cell (by assumption)
      go_simp
      exact ⟨Ext.refl _, rfl⟩
    · obtain ⟨h0, -⟩ := hs
      replace h0 : ρ (.tmp 55) = .agg #[.int .i64 (f), .slice B n cb] := h0
      go_simp
      exact HCD.out W (EB.out.trans hF)
    · obtain ⟨h0, h1, -⟩ := hs
      replace h0 : (LadV t xs) (ρ (.tmp 54)) W := h0
      replace h1 : (DrvV f hot) (ρ (.tmp 56)) W := h1
      go_simp
      exact H39.out W _ _ h0 h1
    · obtain ⟨h0, -⟩ := hs
      replace h0 : (TupV (Ints ps) (0)) (ρ (.tmp 57)) W := h0
      go_simp
      first | exact ⟨Ext.refl _, h0⟩ | exact Ext.refl _
    · obtain ⟨h0, -⟩ := hs
      replace h0 : (TupV (Ints ps) (0)) (ρ (.tmp 52)) W := h0
      obtain ⟨v, hv, hp⟩ := h0
      go_simp
      first | exact ⟨Ext.refl _, hp⟩ | exact Ext.refl _
    · obtain ⟨h0, -⟩ := hs
      replace h0 : (TupV (Ints ps) (0)) (ρ (.tmp 52)) W := h0
      obtain ⟨v, hv, hp⟩ := h0
      go_simp
      first | exact ⟨Ext.refl _, rfl⟩ | exact Ext.refl _
    · obtain ⟨h0, -⟩ := hs
      replace h0 : (Ints ps) (ρ (.tmp 58)) W := h0
      go_simp
      first | exact ⟨Ext.refl _, h0⟩ | exact Ext.refl _
    · obtain ⟨h0, -⟩ := hs
      replace h0 : ρ (.tmp 59) = .int .i64 (0) := h0
      go_simp
      exact ⟨Ext.refl _, rfl⟩
  · intro fv W3 hF hs
    obtain ⟨-, -, -, -, -, -, -, -, h10, h11, -⟩ := hs
    replace h10 : (Ints ps) (fv 10) W3 := h10
    replace h11 : fv 11 = .int .i64 (0) := h11
    simp only [fin, List.filterMap]
    go_simp
    have X3 := Lib.hid (X2.out.trans hF)
    clear hF z0 z1 z2 z3 h11
    obtain ⟨z0, z1, z2, z3⟩ := FA.out _ X3.out
    have EB := Lib.hid (E0.out.trans X3.out)
    obtain ⟨Ap, cpp, hvp, hrp⟩ := ints_rows h10
    rw [HPL.out] at hvp
    have HRP := Lib.hid hrp
    rw [hvp]
    clear hrp hvp h10
    go_wp2
    refine wp_region_each [some 61, some 62, some 63, some 64, some 65, some 66, some 60, some 67, some 68, some 12, some 13] [[3], [61], [4], [63], [7], [62, 64, 65], [66], [60], [60], [67], [68]]
      [Is (.agg #[.int .i64 (t), .slice A n ca]), LadV t xs, Is (.agg #[.int .i64 (f), .slice B n cb]), DrvV f hot, Is (.int .i64 (tot)), TupV (Ints ws) (0), TupV (Ints ws) (0), Ints ws, Is (.int .i64 (0)), Ints ws, Is (.int .i64 (0))]
      (by kernel_rfl) (by kernel_rfl) (by kernel_rfl) (by kernel_rfl) (by kernel_rfl) Ext (fun W => Ext W3 W)
      (fun W _ => Ext.refl W) (fun W W' h k => h.trans k) ?_ (Ext.drew _) ?_ ?_
    · repeat (refine ⟨fun _ _ _ _ k h => (by first | exact h | exact (by first | exact LadV.ext h k | exact DrvV.ext h k | exact IntsAt.ext h k | exact DepV.ext h k | exact TupV.ext (fun _ _ _ h k => by first | exact IntsAt.ext h k | exact DepV.ext h k) h k)), ?_⟩)
      exact trivial
    · refine ⟨?_, ?_, ?_, ?_, ?_, ?_, ?_, ?_, ?_, ?_, ?_, trivial⟩
      all_goals intro ρ W ⟨kc, kg, kf⟩ hF hs
      · obtain ⟨h0, -⟩ := hs
        replace h0 : ρ (.tmp 3) = .pointer (some ⟨w.heap.size, 0, none⟩) := h0
        have hc0 : W.cell? ⟨w.heap.size, 0, none⟩ = some (.int .i64 (t)) := hF.cell (by assumption)
        have hc1 : W.cell? ⟨w.heap.size, 1, none⟩ = some (.slice A n ca) := hF.cell (by assumption)
        go_simp
        exact ⟨Ext.refl _, rfl⟩
      · obtain ⟨h0, -⟩ := hs
        replace h0 : ρ (.tmp 61) = .agg #[.int .i64 (t), .slice A n ca] := h0
        go_simp
        exact HCL.out W (EB.out.trans hF)
      · obtain ⟨h0, -⟩ := hs
        replace h0 : ρ (.tmp 4) = .pointer (some ⟨w.heap.size + 1, 0, none⟩) := h0
        have hc0 : W.cell? ⟨w.heap.size + 1, 0, none⟩ = some (.int .i64 (f)) := hF.cell (by assumption)
        have hc1 : W.cell? ⟨w.heap.size + 1, 1, none⟩ = some (.slice B n cb) := hF.cell (by assumption)
        go_simp
        exact ⟨Ext.refl _, rfl⟩
      · obtain ⟨h0, -⟩ := hs
        replace h0 : ρ (.tmp 63) = .agg #[.int .i64 (f), .slice B n cb] := h0
        go_simp
        exact HCD.out W (EB.out.trans hF)
      · obtain ⟨h0, -⟩ := hs
        replace h0 : ρ (.tmp 7) = .int .i64 (tot) := h0
        go_simp
        exact ⟨Ext.refl _, rfl⟩
      · obtain ⟨h0, h1, h2, -⟩ := hs
        replace h0 : (LadV t xs) (ρ (.tmp 62)) W := h0
        replace h1 : (DrvV f hot) (ρ (.tmp 64)) W := h1
        replace h2 : ρ (.tmp 65) = .int .i64 (tot) := h2
        go_simp
        exact H42.out W _ _ h0 h1
      · obtain ⟨h0, -⟩ := hs
        replace h0 : (TupV (Ints ws) (0)) (ρ (.tmp 66)) W := h0
        go_simp
        first | exact ⟨Ext.refl _, h0⟩ | exact Ext.refl _
      · obtain ⟨h0, -⟩ := hs
        replace h0 : (TupV (Ints ws) (0)) (ρ (.tmp 60)) W := h0
        obtain ⟨v, hv, hp⟩ := h0
        go_simp
        first | exact ⟨Ext.refl _, hp⟩ | exact Ext.refl _
      · obtain ⟨h0, -⟩ := hs
        replace h0 : (TupV (Ints ws) (0)) (ρ (.tmp 60)) W := h0
        obtain ⟨v, hv, hp⟩ := h0
        go_simp
        first | exact ⟨Ext.refl _, rfl⟩ | exact Ext.refl _
      · obtain ⟨h0, -⟩ := hs
        replace h0 : (Ints ws) (ρ (.tmp 67)) W := h0
        go_simp
        first | exact ⟨Ext.refl _, h0⟩ | exact Ext.refl _
      · obtain ⟨h0, -⟩ := hs
        replace h0 : ρ (.tmp 68) = .int .i64 (0) := h0
        go_simp
        exact ⟨Ext.refl _, rfl⟩
    · intro fv W4 hF hs
      obtain ⟨-, -, -, -, -, -, -, -, -, h12, h13, -⟩ := hs
      replace h12 : (Ints ws) (fv 12) W4 := h12
      replace h13 : fv 13 = .int .i64 (0) := h13
      simp only [fin, List.filterMap]
      go_simp
      have X34 := Lib.hid hF
      have X4 := Lib.hid (X3.out.trans hF)
      clear hF z0 z1 z2 z3 h13
      obtain ⟨z0, z1, z2, z3⟩ := FA.out _ X4.out
      have EB := Lib.hid (E0.out.trans X4.out)
      obtain ⟨Aw, cw, hvw, hrw⟩ := ints_rows h12
      rw [HWL.out] at hvw
      have HRW := Lib.hid hrw
      rw [hvw]
      clear hrw hvw h12
      go_wp2
      refine wp_region_each [some 70, some 71, some 72, some 73, some 74, some 75, some 69, some 76, some 77, some 14, some 15] [[3], [70], [4], [72], [8], [71, 73, 74], [75], [69], [69], [76], [77]]
        [Is (.agg #[.int .i64 (t), .slice A n ca]), LadV t xs, Is (.agg #[.int .i64 (f), .slice B n cb]), DrvV f hot, Is (.int .i64 (pc)), TupV (DepV ps pc) (0), TupV (DepV ps pc) (0), DepV ps pc, Is (.int .i64 (0)), DepV ps pc, Is (.int .i64 (0))]
        (by kernel_rfl) (by kernel_rfl) (by kernel_rfl) (by kernel_rfl) (by kernel_rfl) Ext (fun W => Ext W4 W)
        (fun W _ => Ext.refl W) (fun W W' h k => h.trans k) ?_ (Ext.drew _) ?_ ?_
      · repeat (refine ⟨fun _ _ _ _ k h => (by first | exact h | exact (by first | exact LadV.ext h k | exact DrvV.ext h k | exact IntsAt.ext h k | exact DepV.ext h k | exact TupV.ext (fun _ _ _ h k => by first | exact IntsAt.ext h k | exact DepV.ext h k) h k)), ?_⟩)
        exact trivial
      · refine ⟨?_, ?_, ?_, ?_, ?_, ?_, ?_, ?_, ?_, ?_, ?_, trivial⟩
        all_goals intro ρ W ⟨kc, kg, kf⟩ hF hs
        · obtain ⟨h0, -⟩ := hs
          replace h0 : ρ (.tmp 3) = .pointer (some ⟨w.heap.size, 0, none⟩) := h0
          have hc0 : W.cell? ⟨w.heap.size, 0, none⟩ = some (.int .i64 (t)) := hF.cell (by assumption)
          have hc1 : W.cell? ⟨w.heap.size, 1, none⟩ = some (.slice A n ca) := hF.cell (by assumption)
          go_simp
          exact ⟨Ext.refl _, rfl⟩
        · obtain ⟨h0, -⟩ := hs
          replace h0 : ρ (.tmp 70) = .agg #[.int .i64 (t), .slice A n ca] := h0
          go_simp
          exact HCL.out W (EB.out.trans hF)
        · obtain ⟨h0, -⟩ := hs
          replace h0 : ρ (.tmp 4) = .pointer (some ⟨w.heap.size + 1, 0, none⟩) := h0
          have hc0 : W.cell? ⟨w.heap.size + 1, 0, none⟩ = some (.int .i64 (f)) := hF.cell (by assumption)
          have hc1 : W.cell? ⟨w.heap.size + 1, 1, none⟩ = some (.slice B n cb) := hF.cell (by assumption)
          go_simp
          exact ⟨Ext.refl _, rfl⟩
        · obtain ⟨h0, -⟩ := hs
          replace h0 : ρ (.tmp 72) = .agg #[.int .i64 (f), .slice B n cb] := h0
          go_simp
          exact HCD.out W (EB.out.trans hF)
        · obtain ⟨h0, -⟩ := hs
          replace h0 : ρ (.tmp 8) = .int .i64 (pc) := h0
          go_simp
          exact ⟨Ext.refl _, rfl⟩
        · obtain ⟨h0, h1, h2, -⟩ := hs
          replace h0 : (LadV t xs) (ρ (.tmp 71)) W := h0
          replace h1 : (DrvV f hot) (ρ (.tmp 73)) W := h1
          replace h2 : ρ (.tmp 74) = .int .i64 (pc) := h2
          go_simp
          exact H43a.out W _ _ h0 h1
        · obtain ⟨h0, -⟩ := hs
          replace h0 : (TupV (DepV ps pc) (0)) (ρ (.tmp 75)) W := h0
          go_simp
          first | exact ⟨Ext.refl _, h0⟩ | exact Ext.refl _
        · obtain ⟨h0, -⟩ := hs
          replace h0 : (TupV (DepV ps pc) (0)) (ρ (.tmp 69)) W := h0
          obtain ⟨v, hv, hp⟩ := h0
          go_simp
          first | exact ⟨Ext.refl _, hp⟩ | exact Ext.refl _
        · obtain ⟨h0, -⟩ := hs
          replace h0 : (TupV (DepV ps pc) (0)) (ρ (.tmp 69)) W := h0
          obtain ⟨v, hv, hp⟩ := h0
          go_simp
          first | exact ⟨Ext.refl _, rfl⟩ | exact Ext.refl _
        · obtain ⟨h0, -⟩ := hs
          replace h0 : (DepV ps pc) (ρ (.tmp 76)) W := h0
          go_simp
          first | exact ⟨Ext.refl _, h0⟩ | exact Ext.refl _
        · obtain ⟨h0, -⟩ := hs
          replace h0 : ρ (.tmp 77) = .int .i64 (0) := h0
          go_simp
          exact ⟨Ext.refl _, rfl⟩
      · intro fv W5 hF hs
        obtain ⟨-, -, -, -, -, -, -, -, -, h14, h15, -⟩ := hs
        replace h14 : (DepV ps pc) (fv 14) W5 := h14
        replace h15 : fv 15 = .int .i64 (0) := h15
        simp only [fin, List.filterMap]
        go_simp
        have X45 := Lib.hid hF
        have X5 := Lib.hid (X4.out.trans hF)
        clear hF z0 z1 z2 z3 h15
        obtain ⟨z0, z1, z2, z3⟩ := FA.out _ X5.out
        have EB := Lib.hid (E0.out.trans X5.out)
        obtain ⟨da, hva, hda⟩ := h14
        rw [hva]
        have HDA := Lib.hid hda
        clear hva hda
        go_wp2
        refine wp_region_each [some 79, some 80, some 81, some 82, some 83, some 84, some 78, some 85, some 86, some 16, some 17] [[3], [79], [4], [81], [9], [80, 82, 83], [84], [78], [78], [85], [86]]
          [Is (.agg #[.int .i64 (t), .slice A n ca]), LadV t xs, Is (.agg #[.int .i64 (f), .slice B n cb]), DrvV f hot, Is (.int .i64 (mo)), TupV (DepV ps mo) (0), TupV (DepV ps mo) (0), DepV ps mo, Is (.int .i64 (0)), DepV ps mo, Is (.int .i64 (0))]
          (by kernel_rfl) (by kernel_rfl) (by kernel_rfl) (by kernel_rfl) (by kernel_rfl) Ext (fun W => Ext W5 W)
          (fun W _ => Ext.refl W) (fun W W' h k => h.trans k) ?_ (Ext.drew _) ?_ ?_
        · repeat (refine ⟨fun _ _ _ _ k h => (by first | exact h | exact (by first | exact LadV.ext h k | exact DrvV.ext h k | exact IntsAt.ext h k | exact DepV.ext h k | exact TupV.ext (fun _ _ _ h k => by first | exact IntsAt.ext h k | exact DepV.ext h k) h k)), ?_⟩)
          exact trivial
        · refine ⟨?_, ?_, ?_, ?_, ?_, ?_, ?_, ?_, ?_, ?_, ?_, trivial⟩
          all_goals intro ρ W ⟨kc, kg, kf⟩ hF hs
          · obtain ⟨h0, -⟩ := hs
            replace h0 : ρ (.tmp 3) = .pointer (some ⟨w.heap.size, 0, none⟩) := h0
            have hc0 : W.cell? ⟨w.heap.size, 0, none⟩ = some (.int .i64 (t)) := hF.cell (by assumption)
            have hc1 : W.cell? ⟨w.heap.size, 1, none⟩ = some (.slice A n ca) := hF.cell (by assumption)
            go_simp
            exact ⟨Ext.refl _, rfl⟩
          · obtain ⟨h0, -⟩ := hs
            replace h0 : ρ (.tmp 79) = .agg #[.int .i64 (t), .slice A n ca] := h0
            go_simp
            exact HCL.out W (EB.out.trans hF)
          · obtain ⟨h0, -⟩ := hs
            replace h0 : ρ (.tmp 4) = .pointer (some ⟨w.heap.size + 1, 0, none⟩) := h0
            have hc0 : W.cell? ⟨w.heap.size + 1, 0, none⟩ = some (.int .i64 (f)) := hF.cell (by assumption)
            have hc1 : W.cell? ⟨w.heap.size + 1, 1, none⟩ = some (.slice B n cb) := hF.cell (by assumption)
            go_simp
            exact ⟨Ext.refl _, rfl⟩
          · obtain ⟨h0, -⟩ := hs
            replace h0 : ρ (.tmp 81) = .agg #[.int .i64 (f), .slice B n cb] := h0
            go_simp
            exact HCD.out W (EB.out.trans hF)
          · obtain ⟨h0, -⟩ := hs
            replace h0 : ρ (.tmp 9) = .int .i64 (mo) := h0
            go_simp
            exact ⟨Ext.refl _, rfl⟩
          · obtain ⟨h0, h1, h2, -⟩ := hs
            replace h0 : (LadV t xs) (ρ (.tmp 80)) W := h0
            replace h1 : (DrvV f hot) (ρ (.tmp 82)) W := h1
            replace h2 : ρ (.tmp 83) = .int .i64 (mo) := h2
            go_simp
            exact H43b.out W _ _ h0 h1
          · obtain ⟨h0, -⟩ := hs
            replace h0 : (TupV (DepV ps mo) (0)) (ρ (.tmp 84)) W := h0
            go_simp
            first | exact ⟨Ext.refl _, h0⟩ | exact Ext.refl _
          · obtain ⟨h0, -⟩ := hs
            replace h0 : (TupV (DepV ps mo) (0)) (ρ (.tmp 78)) W := h0
            obtain ⟨v, hv, hp⟩ := h0
            go_simp
            first | exact ⟨Ext.refl _, hp⟩ | exact Ext.refl _
          · obtain ⟨h0, -⟩ := hs
            replace h0 : (TupV (DepV ps mo) (0)) (ρ (.tmp 78)) W := h0
            obtain ⟨v, hv, hp⟩ := h0
            go_simp
            first | exact ⟨Ext.refl _, rfl⟩ | exact Ext.refl _
          · obtain ⟨h0, -⟩ := hs
            replace h0 : (DepV ps mo) (ρ (.tmp 85)) W := h0
            go_simp
            first | exact ⟨Ext.refl _, h0⟩ | exact Ext.refl _
          · obtain ⟨h0, -⟩ := hs
            replace h0 : ρ (.tmp 86) = .int .i64 (0) := h0
            go_simp
            exact ⟨Ext.refl _, rfl⟩
        · intro fv W6 hF hs
          obtain ⟨-, -, -, -, -, -, -, -, -, h16, h17, -⟩ := hs
          replace h16 : (DepV ps mo) (fv 16) W6 := h16
          replace h17 : fv 17 = .int .i64 (0) := h17
          simp only [fin, List.filterMap]
          go_simp
          have X56 := Lib.hid hF
          have X6 := Lib.hid (X5.out.trans hF)
          clear hF z0 z1 z2 z3 h17
          obtain ⟨z0, z1, z2, z3⟩ := FA.out _ X6.out
          have EB := Lib.hid (E0.out.trans X6.out)
          obtain ⟨db, hvb, hdb⟩ := h16
          rw [hvb]
          have HDB := Lib.hid hdb
          clear hvb hdb
          go_wp2
          refine wp_region_each [some 88, some 89, some 90, some 91, some 92, some 87, some 93, some 94, some 18, some 19] [[3], [88], [4], [90], [89, 91], [92], [87], [87], [93], [94]]
            [Is (.agg #[.int .i64 (t), .slice A n ca]), LadV t xs, Is (.agg #[.int .i64 (f), .slice B n cb]), DrvV f hot, TupV (DepV ps 100) (0), TupV (DepV ps 100) (0), DepV ps 100, Is (.int .i64 (0)), DepV ps 100, Is (.int .i64 (0))]
            (by kernel_rfl) (by kernel_rfl) (by kernel_rfl) (by kernel_rfl) (by kernel_rfl) Ext (fun W => Ext W6 W)
            (fun W _ => Ext.refl W) (fun W W' h k => h.trans k) ?_ (Ext.drew _) ?_ ?_
          · repeat (refine ⟨fun _ _ _ _ k h => (by first | exact h | exact (by first | exact LadV.ext h k | exact DrvV.ext h k | exact IntsAt.ext h k | exact DepV.ext h k | exact TupV.ext (fun _ _ _ h k => by first | exact IntsAt.ext h k | exact DepV.ext h k) h k)), ?_⟩)
            exact trivial
          · refine ⟨?_, ?_, ?_, ?_, ?_, ?_, ?_, ?_, ?_, ?_, trivial⟩
            all_goals intro ρ W ⟨kc, kg, kf⟩ hF hs
            · obtain ⟨h0, -⟩ := hs
              replace h0 : ρ (.tmp 3) = .pointer (some ⟨w.heap.size, 0, none⟩) := h0
              have hc0 : W.cell? ⟨w.heap.size, 0, none⟩ = some (.int .i64 (t)) := hF.cell (by assumption)
              have hc1 : W.cell? ⟨w.heap.size, 1, none⟩ = some (.slice A n ca) := hF.cell (by assumption)
              go_simp
              exact ⟨Ext.refl _, rfl⟩
            · obtain ⟨h0, -⟩ := hs
              replace h0 : ρ (.tmp 88) = .agg #[.int .i64 (t), .slice A n ca] := h0
              go_simp
              exact HCL.out W (EB.out.trans hF)
            · obtain ⟨h0, -⟩ := hs
              replace h0 : ρ (.tmp 4) = .pointer (some ⟨w.heap.size + 1, 0, none⟩) := h0
              have hc0 : W.cell? ⟨w.heap.size + 1, 0, none⟩ = some (.int .i64 (f)) := hF.cell (by assumption)
              have hc1 : W.cell? ⟨w.heap.size + 1, 1, none⟩ = some (.slice B n cb) := hF.cell (by assumption)
              go_simp
              exact ⟨Ext.refl _, rfl⟩
            · obtain ⟨h0, -⟩ := hs
              replace h0 : ρ (.tmp 90) = .agg #[.int .i64 (f), .slice B n cb] := h0
              go_simp
              exact HCD.out W (EB.out.trans hF)
            · obtain ⟨h0, h1, -⟩ := hs
              replace h0 : (LadV t xs) (ρ (.tmp 89)) W := h0
              replace h1 : (DrvV f hot) (ρ (.tmp 91)) W := h1
              go_simp
              exact H43c.out W _ _ h0 h1
            · obtain ⟨h0, -⟩ := hs
              replace h0 : (TupV (DepV ps 100) (0)) (ρ (.tmp 92)) W := h0
              go_simp
              first | exact ⟨Ext.refl _, h0⟩ | exact Ext.refl _
            · obtain ⟨h0, -⟩ := hs
              replace h0 : (TupV (DepV ps 100) (0)) (ρ (.tmp 87)) W := h0
              obtain ⟨v, hv, hp⟩ := h0
              go_simp
              first | exact ⟨Ext.refl _, hp⟩ | exact Ext.refl _
            · obtain ⟨h0, -⟩ := hs
              replace h0 : (TupV (DepV ps 100) (0)) (ρ (.tmp 87)) W := h0
              obtain ⟨v, hv, hp⟩ := h0
              go_simp
              first | exact ⟨Ext.refl _, rfl⟩ | exact Ext.refl _
            · obtain ⟨h0, -⟩ := hs
              replace h0 : (DepV ps 100) (ρ (.tmp 93)) W := h0
              go_simp
              first | exact ⟨Ext.refl _, h0⟩ | exact Ext.refl _
            · obtain ⟨h0, -⟩ := hs
              replace h0 : ρ (.tmp 94) = .int .i64 (0) := h0
              go_simp
              exact ⟨Ext.refl _, rfl⟩
          · intro fv W7 hF hs
            obtain ⟨-, -, -, -, -, -, -, -, h18, h19, -⟩ := hs
            replace h18 : (DepV ps 100) (fv 18) W7 := h18
            replace h19 : fv 19 = .int .i64 (0) := h19
            simp only [fin, List.filterMap]
            go_simp
            have X67 := Lib.hid hF
            have X7 := Lib.hid (X6.out.trans hF)
            clear hF z0 z1 z2 z3 h19
            obtain ⟨z0, z1, z2, z3⟩ := FA.out _ X7.out
            obtain ⟨dc, hvc, hdc⟩ := h18
            rw [hvc]
            have HDC := Lib.hid hdc
            clear hvc hdc
            have X37 := Lib.hid (X34.out.trans (X45.out.trans (X56.out.trans X67.out)))
            have X47 := Lib.hid (X45.out.trans (X56.out.trans X67.out))
            obtain ⟨b1, b2, b3, b4⟩ : 1 ≤ da ∧ da ≤ db ∧ db ≤ dc ∧ dc = (n : Int) := by
              obtain ⟨ka, rfl, ha⟩ := HDA.out
              obtain ⟨kb, rfl, hb⟩ := HDB.out
              obtain ⟨kc, rfl, hc⟩ := HDC.out
              have h1 := depth_pos HPC.out.1 HPOK.out.sum.1 ha
              have h2 := depth_mono HMO.out.1 HPOK.out.sum.1 ha hb
              have h3 := depth_mono HMO.out.2 HPOK.out.sum.1 hb hc
              have h4 := depth_all HTL.out hc
              have := HPL.out
              omega
            subst b4
            have g1 : decide (da < 1) = false := by simp; omega
            have g2 : decide (db < da) = false := by simp; omega
            have g3 : decide ((n : Int) < db) = false := by simp; omega
            go_wp2
            go_loopw [20, 21, 22] (fun a s i wr => ∃ k : Nat, k ≤ n ∧ i = .int .i64 k ∧ a = .int .i64 (ps.take k).sum ∧ s = .int .i64 (ws.take k).sum ∧ Ext W7 wr) (fun _ _ i _ => n - (intOf i).toNat)
            case atStart => exact ⟨0, Nat.zero_le _, rfl, by simp, by simp, Ext.refl _⟩
            case round =>
              obtain ⟨k, hk, rfl, rfl, rfl, hx⟩ := hrel
              have HX := Lib.hid hx
              clear hx
              by_cases hlt : k < n
              · obtain ⟨p, hpk⟩ : ∃ x, ps[k]? = some x := ⟨_, List.getElem?_eq_getElem (by rw [HPL.out]; exact hlt)⟩
                obtain ⟨u, huk⟩ : ∃ u, u = upTo tot ps (k + 1) - upTo tot ps k := ⟨_, rfl⟩
                have hwk : ws[k]? = some u := by rw [HWS.out, huk]; exact watts_at hlt
                obtain ⟨v1, v2⟩ := watts_bd HT.out HPOK.out hpk (HPB.out k p hpk).1
                rw [← huk] at v1 v2
                obtain ⟨gp, op, hAp, _, hcp⟩ := HRP.out.2 k p hpk
                subst hAp
                obtain ⟨gw, ow, hAw, _, hcw⟩ := HRW.out.2 k u hwk
                subst hAw
                have c1 : wr.cell? ⟨gp, op + k, none⟩ = some (.int .i64 p) := (X37.out.trans HX.out).cell (by have := hcp 0 _ rfl; simpa using this)
                have c2 : wr.cell? ⟨gw, ow + k, none⟩ = some (.int .i64 u) := (X47.out.trans HX.out).cell (by have := hcw 0 _ rfl; simpa using this)
                have HTS := Lib.hid (take_sum ps k p hpk)
                have HTW := Lib.hid (take_sum ws k u hwk)
                obtain ⟨q1, q2⟩ := HPOK.out.part k
                obtain ⟨q3, q4⟩ := HPOK.out.part (k + 1)
                obtain ⟨q5, q6⟩ := HPOK.out.sum
                obtain ⟨q7, q8⟩ := HPB.out k p hpk
                have HWX := Lib.hid (inB_of (lo := 0) (hi := 35184372088832) (x := p) q7 (by omega))
                have HWY := Lib.hid (inB_of (lo := 0) (hi := tot) (x := u) v1 v2)
                have HSW := Lib.hid (show (ws.take k).sum = upTo tot ps k from by
                  have e : ws.take k = wattsL tot ps k := by
                    rw [HWS.out, wattsL, ← List.map_take, List.take_range, Nat.min_eq_left (by omega)]; rfl
                  rw [e, sum_watts, upTo_zero]; omega)
                obtain ⟨r1, r2⟩ := (upTo_bd HT.out HPOK.out.sum HPOK.out.part k).2
                rw [← HSW.out] at r1 r2
                have q9 : (ps.take k).sum ≤ 40000000000000 := by omega
                have q10 : u ≤ 100000 := by omega
                have hki : (k : Int) < (n : Int) := by omega
                clear hpk huk hwk hcp hcw q2 q3 q4 q5 q6 v2
                generalize hsk : (ps.take k).sum = sk at *
                have HSK := Lib.hid hsk
                generalize hsw : (ws.take k).sum = sw at *
                have HSW' := Lib.hid hsw
                clear hsk hsw
                go_wp2_with (go_at_call 40; refine (within_any _ _ _ _).mono ?_; rintro e w' ⟨rfl, rfl⟩; first | rw [HWX.out] | rw [HWY.out])
                have k1 : IntKind.i64.wrap (sk + p) = sk + p := IntWalk.i64_in _ (by omega)
                have k2 : IntKind.i64.wrap (sw + u) = sw + u := IntWalk.i64_in _ (by omega)
                go_quiet (fail)
                clear k1 k2
                go_wp2
                go_roundw
                case rel => exact ⟨k + 1, by omega, by go_num, by rw [HTS.out], by rw [HTW.out], HX.out.trans (Ext.drewN _ _)⟩
                case measure => simp [intOf]; omega
              · obtain rfl : n = k := by omega
                have hS1 : (ps.take n).sum = ps.sum := by rw [List.take_of_length_le (by rw [HPL.out]; omega)]
                have hS2 : (ws.take n).sum = tot := by
                  rw [List.take_of_length_le (by rw [HWL.out]; omega), HWS.out, sum_watts, upTo_zero]
                  have := upTo_all tot ps HPOK.out.sum.1
                  rw [HPL.out] at this
                  omega
                rw [hS1, hS2]
                obtain ⟨q5, q6⟩ := HPOK.out.sum
                have hle : decide (ps.sum ≤ 0) = false := by simp; omega
                clear hS1 hS2
                have HALL := Lib.hid (show ∀ (k : Nat) (p : Int), ps[k]? = some p → cmpS (upTo tot ps (k + 1) - upTo tot ps k - 1) 1 (tot * p) ps.sum = -1 ∧ cmpS (upTo tot ps (k + 1) - upTo tot ps k + 1) 1 (tot * p) ps.sum = 1 from fun k p h => watts_near HPOK.out.sum.1 h)
                have HBD := Lib.hid (show ∀ (k : Nat) (p : Int), ps[k]? = some p → 0 ≤ upTo tot ps (k + 1) - upTo tot ps k ∧ upTo tot ps (k + 1) - upTo tot ps k ≤ tot from fun k p h => watts_bd HT.out HPOK.out h (HPB.out k p h).1)
                generalize hsum : ps.sum = sm at *
                clear hsum
                go_wp2
                go_loopw [23] (fun i wr => ∃ k : Nat, k ≤ n ∧ i = .int .i64 k ∧ Ext W7 wr) (fun i _ => n - (intOf i).toNat)
                case atStart => exact ⟨0, Nat.zero_le _, rfl, HX.out⟩
                case round =>
                  obtain ⟨k, hk, rfl, hx⟩ := hrel
                  have HX2 := Lib.hid hx
                  clear hx
                  by_cases hlt : k < n
                  · obtain ⟨p, hpk⟩ : ∃ x, ps[k]? = some x := ⟨_, List.getElem?_eq_getElem (by rw [HPL.out]; exact hlt)⟩
                    obtain ⟨u, huk⟩ : ∃ u, u = upTo tot ps (k + 1) - upTo tot ps k := ⟨_, rfl⟩
                    have hwk : ws[k]? = some u := by rw [HWS.out, huk]; exact watts_at hlt
                    obtain ⟨v1, v2⟩ := HBD.out k p hpk
                    obtain ⟨m1, m2⟩ := HALL.out k p hpk
                    rw [← huk] at v1 v2 m1 m2
                    obtain ⟨q7, q8⟩ := HPB.out k p hpk
                    have t1 : 0 ≤ tot * p := Int.mul_nonneg ht0 q7
                    have t2 : tot * p ≤ 100000 * 20000000000000 := Int.mul_le_mul ht1 q8 q7 (by decide)
                    have HC1 := Lib.hid (fun W => show Calls Try.prog 52 #[.int .i64 (u - 1), .int .i64 1, .int .i64 (tot * p), .int .i64 sm] W (fun e w' => e = .returned (.int .i64 (-1)) ∧ w' = W) from by
                      have := compare_any (u - 1) 1 (tot * p) sm (by omega) (by omega) (by omega) (by omega) W
                      rw [m1] at this; exact this.mono fun _ _ ⟨h1, h2⟩ => ⟨h1, h2.symm⟩)
                    have HC2 := Lib.hid (fun W => show Calls Try.prog 52 #[.int .i64 (u + 1), .int .i64 1, .int .i64 (tot * p), .int .i64 sm] W (fun e w' => e = .returned (.int .i64 1) ∧ w' = W) from by
                      have := compare_any (u + 1) 1 (tot * p) sm (by omega) (by omega) (by omega) (by omega) W
                      rw [m2] at this; exact this.mono fun _ _ ⟨h1, h2⟩ => ⟨h1, h2.symm⟩)
                    obtain ⟨gp, op, hAp, _, hcp⟩ := HRP.out.2 k p hpk
                    subst hAp
                    obtain ⟨gw, ow, hAw, _, hcw⟩ := HRW.out.2 k u hwk
                    subst hAw
                    have c1 : wr.cell? ⟨gp, op + k, none⟩ = some (.int .i64 p) := (X37.out.trans HX2.out).cell (by have := hcp 0 _ rfl; simpa using this)
                    have c2 : wr.cell? ⟨gw, ow + k, none⟩ = some (.int .i64 u) := (X47.out.trans HX2.out).cell (by have := hcw 0 _ rfl; simpa using this)
                    have k1 : IntKind.i64.wrap (u - 1) = u - 1 := IntWalk.i64_in _ (by omega)
                    have k2 : IntKind.i64.wrap (u + 1) = u + 1 := IntWalk.i64_in _ (by omega)
                    have k3 : IntKind.i64.wrap (tot * p) = tot * p := IntWalk.i64_in _ (by omega)
                    have hki : (k : Int) < (n : Int) := by omega
                    clear hpk huk hwk m1 m2 hcp hcw v1 v2 q7 q8 t1 t2
                    go_wp2
                    go_quiet ((go_at_call 52; first | (with_reducible exact Calls.quiet_of_same (HC1.out _)) | (with_reducible exact Calls.quiet_of_same (HC2.out _)) | exact Calls.quiet_of_same (HC1.out _) | exact Calls.quiet_of_same (HC2.out _)))
                    clear k1 k2 k3
                    go_wp2
                    go_roundw
                    case rel => exact ⟨k + 1, by omega, by go_num, HX2.out.trans (Ext.drewN _ _)⟩
                    case measure => simp [intOf]; omega
                  · go_wp2
                    go_ret
                    exact ⟨rfl, E0.out.trans (X7.out.trans HX2.out)⟩

end Go.Proofs.Ytpaoeghdfeekoaa
