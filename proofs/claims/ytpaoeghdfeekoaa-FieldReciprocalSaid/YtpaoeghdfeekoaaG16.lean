/- FieldReciprocal: the law's function. By lawgen.py. -/
import Derived.Test.YtpaoeghdfeekoaaK21
import Derived.Test.YtpaoeghdfeekoaaG12
namespace Go.Proofs.Ytpaoeghdfeekoaa
open Go.RowKit Go.Shelf Go.Mem Go.RegInv
attribute [local go_sem] RelUpon_value RelUpon_skip RelUpon_enter BigFrame.eval_const BigFrame.eval_global BigFrame.eval_func

theorem div_fact2 {x a r : Int} (h : x.tdiv a = r) (hb : -1000000000 ≤ r ∧ r ≤ 1000000000) : IntKind.i64.wrap (x.tdiv a) = r := by
  rw [h]; exact IntWalk.i64_in _ (by omega)

set_option maxRecDepth 100000 in
set_option maxHeartbeats 32000000 in
theorem fieldReciprocal_main2 (t : Int) (A : Option Addr) (n ca : Nat) (xs : List Sh) (hn : xs.length = n) (f : Int) (B : Option Addr) (cb : Nat) (hot : List Bool) (hm : hot.length = n) (i : Nat) (w : World)
    (hA : RowsAt 3 Sh.enc w A xs) (hB : RowsAt 1 boolEnc w B hot) (hAn : A = none → ca = 0) (hBn : B = none → cb = 0)
    (hq : driveE t xs f n = 0) (hi : i < n) (hz : (volt f hot xs 0).re = 0 ∧ (volt f hot xs 0).im ≠ 0) :
    Calls Try.prog 10 #[.agg #[.int .i64 t, .slice A n ca], .agg #[.int .i64 f, .slice B n cb], .int .i64 (i : Int)] w fun e w' => e = .returned (.bool true) ∧ Ext w w' := by
  have e0 : Ext w ((w.alloc (.cells #[.int .i64 t, .slice A n ca] 24)).alloc (.cells #[.int .i64 f, .slice B n cb] 27)) := (Ext.alloc _ _).trans (Ext.alloc _ _)
  have FA := Lib.hid (show ∀ W : World, Ext ((w.alloc (.cells #[.int .i64 t, .slice A n ca] 24)).alloc (.cells #[.int .i64 f, .slice B n cb] 27)) W →
      W.cell? ⟨w.heap.size, 0, none⟩ = some (.int .i64 t) ∧ W.cell? ⟨w.heap.size, 1, none⟩ = some (.slice A n ca) ∧ W.cell? ⟨w.heap.size + 1, 0, none⟩ = some (.int .i64 f) ∧ W.cell? ⟨w.heap.size + 1, 1, none⟩ = some (.slice B n cb) from
    fun W hx => ⟨hx.cell (by go_simp), hx.cell (by go_simp), hx.cell (by go_simp), hx.cell (by go_simp)⟩)
  obtain ⟨⟨ht, ⟨h1, h4⟩, hok⟩, hf, -⟩ := (driveE_zero t xs f n).1 hq
  rw [hn] at h1 h4
  have hsi : shE n (i : Int) = 0 := by unfold shE; rw [if_pos (inB_of (by omega) (by omega))]
  have hsk : ∀ k : Nat, k < n → shE n (k : Int) = 0 := fun k hk => by unfold shE; rw [if_pos (inB_of (by omega) (by omega))]
  have hte : ∀ p q : Nat, p < n → q < n → transE t xs f n (p : Int) (q : Int) = 0 := fun p q hp hq' => by
    unfold transE
    rw [hn, trans_err, if_pos ⟨hsk p hp, hsk q hq'⟩, hq]; rfl
  have HCL := Lib.hid (copyLadder_V (t := t) hn hA (by omega) hAn)
  have HCD := Lib.hid (copyDrive_V (f := f) hm hB (by omega) hBn)
  have H24 := Lib.hid (fun W (e : Ext w W) => refBothErr_any t A n ca xs hn f B n cb W (hA.ext e))
  rw [hq] at H24
  have H45 := Lib.hid (fun W => shellErr_any t A n ca (i : Int) W (by omega))
  rw [hsi] at H45
  obtain ⟨vs, hvs⟩ : ∃ v, v = volts f hot xs := ⟨_, rfl⟩
  obtain ⟨rl, hrl⟩ : ∃ v, v = reactL f hot xs := ⟨_, rfl⟩
  have H32 := Lib.hid (fun W u v (h : LadV t xs u W) (k : DrvV f hot v W) => show Calls Try.prog 32 #[u, v] W (VPost W (TupV (AsV n vs) 0)) from by
    rw [hvs]; exact voltagesPub_V hn hm hq W u v h k)
  have H22 := Lib.hid (fun W u v (h : LadV t xs u W) (k : DrvV f hot v W) => show Calls Try.prog 22 #[u, v] W (VPost W (TupV (Ints rl) 0)) from by
    have := reactancesOf_V (t := t) (xs := xs) (f := f) hm W u v h k
    rw [hq, ← hrl] at this
    exact this.mono fun e w' ⟨r, h1, h2, v, h3, h4⟩ => ⟨r, h1, h2, v, h3, h4.2 rfl⟩)
  have HRLL := Lib.hid (show rl.length = n by rw [hrl, reactL_len (by rw [hm, hn]), hn])
  have hv0 : vs[0]? = some (volt f hot xs 0) := by rw [hvs, volts_at f hot xs 0 (by omega), volt_at f hot xs 0 (by omega)]
  have hvl0 : (st f hot xs 0).last = volt f hot xs 0 := (volt_at f hot xs 0 (by omega)).symm
  have hd0 := ne_of_norm (volt0_ne hok hf (hot := hot) (by omega))
  have hdb := volts_small (hot := hot) hok hf (by omega) 0 (volt f hot xs 0) (by rw [← hvs]; exact hv0)
  -- the quotients
  have HQ := Lib.hid (show ∀ k : Nat, k < n → ∃ r a1 a2 a3 a4, Red (nodeK f hot xs i k) (volt f hot xs 0) r a1 a2 a3 a4 ∧
      (∀ W u v, LadV t xs u W → DrvV f hot v W → Calls Try.prog 54 #[u, v, .agg #[.int .i64 (i : Int), .int .i64 (k : Int)]] W (VPost W (Is (.tuple #[.agg #[.int .i64 a1, .int .i64 a2, .int .i64 a3, .int .i64 a4], .int .i64 0])))) ∧
      (∀ W u v, LadV t xs u W → DrvV f hot v W → Calls Try.prog 54 #[u, v, .agg #[.int .i64 (k : Int), .int .i64 (i : Int)]] W (VPost W (Is (.tuple #[.agg #[.int .i64 a1, .int .i64 a2, .int .i64 a3, .int .i64 a4], .int .i64 0])))) from fun k hk => by
    obtain ⟨r, a1, a2, a3, a4, hred, hR⟩ := red_parts (nodeK f hot xs i k) (volt f hot xs 0) hd0
    refine ⟨r, a1, a2, a3, a4, hR, fun W u v h k' => ?_, fun W u v h k' => ?_⟩
    · have := transferOf_V (t := t) (xs := xs) (f := f) hm (i : Int) (k : Int) (z1 := a1) (z2 := a2) (z3 := a3) (z4 := a4) ⟨fun h => absurd (hte i k hi hk) h, fun _ => by rw [nodeK_eq f hot xs i k (by omega) (by omega)]; exact hred⟩ W u v h k'
      rw [hte i k hi hk] at this
      exact this
    · have := transferOf_V (t := t) (xs := xs) (f := f) hm (k : Int) (i : Int) (z1 := a1) (z2 := a2) (z3 := a3) (z4 := a4) ⟨fun h => absurd (hte k i hk hi) h, fun _ => by rw [Int.min_comm, Int.max_comm, nodeK_eq f hot xs i k (by omega) (by omega)]; exact hred⟩ W u v h k'
      rw [hte k i hk hi] at this
      exact this)
  obtain ⟨nd, hnd⟩ : ∃ nd : Nat → G, nd = nodeK f hot xs i := ⟨_, rfl⟩
  obtain ⟨cu, hcu⟩ : ∃ nd : Nat → G, nd = curK f hot xs i := ⟨_, rfl⟩
  obtain ⟨bf, hbf⟩ : ∃ nd : Nat → G, nd = befK f hot xs i := ⟨_, rfl⟩
  have HNB := Lib.hid (fun k (hk : k < n) => nodeK_bd hok hf (by omega) (hot := hot) i k (by omega) (by omega))
  have HCB := Lib.hid (fun k (hk : k ≤ n) => curK_bd hok hf (by omega) (hot := hot) i k (by omega) (by omega))
  have HCS := Lib.hid (fun k s (hs : xs[k]? = some s) => curK_step f hot xs (i := i) hs (by omega))
  have HCK := Lib.hid (fun k s (hs : xs[k]? = some s) => node_chk f hot xs (i := i) hs)
  have HB0 := Lib.hid (befK_zero f hot xs i)
  have HBS := Lib.hid (fun k => befK_succ f hot xs i k)
  have HCE := Lib.hid (show curK f hot xs i n = ⟨0, 0⟩ by rw [← hn]; exact curK_end f hot xs (by omega))
  have HRX := Lib.hid (show ∀ k s, xs[k]? = some s → rl[k]? = some (react f (hot.getD k false) s) ∧ 1 ≤ react f (hot.getD k false) s ∧ react f (hot.getD k false) s ≤ 32 from fun k s hs => by
    have hk : k < n := by have := (List.getElem?_eq_some_iff.1 hs).1; omega
    obtain ⟨b, hb⟩ : ∃ b, hot[k]? = some b := ⟨_, List.getElem?_eq_getElem (by rw [hm]; exact hk)⟩
    have e : hot.getD k false = b := by simp [hb]
    rw [e, hrl]
    exact ⟨reactL_at hb hs, react_bd hf (hok s (List.mem_of_getElem? hs))⟩)
  have HOK := Lib.hid hok
  rw [hvl0] at HCS
  rw [← hnd] at HQ HNB HCS HCK HBS
  rw [← hcu] at HCB HCS HCK HCE
  rw [← hbf] at HCK HB0 HBS
  generalize volt f hot xs 0 = D at *
  obtain ⟨d1, d2⟩ := D
  dsimp only at hz
  have HZ := Lib.hid hz
  clear hz
  simp only [Bd] at hdb
  dsimp only at hd0
  have HV0 := Lib.hid hv0
  have HDB := Lib.hid hdb
  have HS := Lib.hid hA
  have HN := Lib.hid hn
  have E0 := Lib.hid e0
  obtain ⟨i0, hi0, hz0, hz1, hz2⟩ := info_parts info65
  have HI0 := Lib.hid hz0
  obtain ⟨NL, hNL⟩ : ∃ l, l = (List.range n).map nd := ⟨_, rfl⟩
  have HNL := Lib.hid (show NL.length = n by rw [hNL]; simp)
  have HNA := Lib.hid (show ∀ k, k < n → NL[k]? = some (nd k) from fun k hk => by rw [hNL]; simp [hk])
  clear hn hm hA hB hAn hBn hq e0 hok hf ht hsi hsk hte hvs hrl hv0 hvl0 hnd hcu hbf hNL hdb hz0
  go_enter Try.func10, Try.ntmps10
  go_wp2_with (first
    | (go_at_call 15; refine (awake_any _).mono ?_; rintro e W1 ⟨rfl, hx1⟩; obtain ⟨z0, z1, z2, z3⟩ := FA.out _ hx1; have X1 := Lib.hid hx1; clear hx1)
    | (go_at_call 24; refine (H24.out _ (E0.out.trans X1.out)).mono ?_; rintro e W1b ⟨rfl, hx2⟩; clear z0 z1 z2 z3; have X1b := Lib.hid (X1.out.trans hx2); clear hx2; obtain ⟨z0, z1, z2, z3⟩ := FA.out _ X1b.out)
    | (go_at_call 45; refine (H45.out _).mono ?_; rintro e W2 ⟨rfl, hx2⟩; clear z0 z1 z2 z3; have X2 := Lib.hid (X1b.out.trans hx2); clear hx2; obtain ⟨z0, z1, z2, z3⟩ := FA.out _ X2.out))
  have EB := Lib.hid (E0.out.trans X2.out)
  refine wp_region_each [some 40, some 41, some 42, some 43, some 44, some 39, some 45, some 46, some 8, some 9] [[3], [40], [4], [42], [41, 43], [44], [39], [39], [45], [46]]
    [Is (.agg #[.int .i64 (t), .slice A n ca]), LadV t xs, Is (.agg #[.int .i64 (f), .slice B n cb]), DrvV f hot, TupV (AsV n vs) (0), TupV (AsV n vs) (0), AsV n vs, Is (.int .i64 (0)), AsV n vs, Is (.int .i64 (0))]
    (by kernel_rfl) (by kernel_rfl) (by kernel_rfl) (by kernel_rfl) (by kernel_rfl) Ext (fun W => Ext W2 W)
    (fun W _ => Ext.refl W) (fun W W' h k => h.trans k) ?_ (Ext.drew _) ?_ ?_
  · repeat (refine ⟨fun _ _ _ _ k h => (by first | exact h | exact (by first | exact LadV.ext h k | exact DrvV.ext h k | exact Fresh84.ext h k | exact IntsAt.ext h k | exact AsV.ext h k | exact TupV.ext (fun _ _ _ h k => by first | exact IntsAt.ext h k | exact AsV.ext h k) h k)), ?_⟩)
    exact trivial
  · refine ⟨?_, ?_, ?_, ?_, ?_, ?_, ?_, ?_, ?_, ?_, trivial⟩
    all_goals intro ρ W ⟨kc, kg, kf⟩ hF hs
    · obtain ⟨h0, -⟩ := hs
      replace h0 : ρ (.tmp 3) = .pointer (some ⟨w.heap.size, 0, none⟩) := h0
      have hc0 : W.cell? ⟨w.heap.size, 0, none⟩ = some (.int .i64 (t)) := hF.cell (by assumption)
      have hc1 : W.cell? ⟨w.heap.size, 1, none⟩ = some (.slice A n ca) := hF.cell (by assumption)
      go_simp
      exact ⟨Ext.refl _, rfl⟩
    · obtain ⟨h0, -⟩ := hs
      replace h0 : ρ (.tmp 40) = .agg #[.int .i64 (t), .slice A n ca] := h0
      go_simp
      exact HCL.out W (EB.out.trans hF)
    · obtain ⟨h0, -⟩ := hs
      replace h0 : ρ (.tmp 4) = .pointer (some ⟨w.heap.size + 1, 0, none⟩) := h0
      have hc0 : W.cell? ⟨w.heap.size + 1, 0, none⟩ = some (.int .i64 (f)) := hF.cell (by assumption)
      have hc1 : W.cell? ⟨w.heap.size + 1, 1, none⟩ = some (.slice B n cb) := hF.cell (by assumption)
      go_simp
      exact ⟨Ext.refl _, rfl⟩
    · obtain ⟨h0, -⟩ := hs
      replace h0 : ρ (.tmp 42) = .agg #[.int .i64 (f), .slice B n cb] := h0
      go_simp
      exact HCD.out W (EB.out.trans hF)
    · obtain ⟨h0, h1, -⟩ := hs
      replace h0 : (LadV t xs) (ρ (.tmp 41)) W := h0
      replace h1 : (DrvV f hot) (ρ (.tmp 43)) W := h1
      go_simp
      exact H32.out W _ _ h0 h1
    · obtain ⟨h0, -⟩ := hs
      replace h0 : (TupV (AsV n vs) (0)) (ρ (.tmp 44)) W := h0
      go_simp
      first | exact ⟨Ext.refl _, h0⟩ | exact Ext.refl _
    · obtain ⟨h0, -⟩ := hs
      replace h0 : (TupV (AsV n vs) (0)) (ρ (.tmp 39)) W := h0
      obtain ⟨v, hv, hp⟩ := h0
      go_simp
      first | exact ⟨Ext.refl _, hp⟩ | exact Ext.refl _
    · obtain ⟨h0, -⟩ := hs
      replace h0 : (TupV (AsV n vs) (0)) (ρ (.tmp 39)) W := h0
      obtain ⟨v, hv, hp⟩ := h0
      go_simp
      first | exact ⟨Ext.refl _, rfl⟩ | exact Ext.refl _
    · obtain ⟨h0, -⟩ := hs
      replace h0 : (AsV n vs) (ρ (.tmp 45)) W := h0
      go_simp
      first | exact ⟨Ext.refl _, h0⟩ | exact Ext.refl _
    · obtain ⟨h0, -⟩ := hs
      replace h0 : ρ (.tmp 46) = .int .i64 (0) := h0
      go_simp
      exact ⟨Ext.refl _, rfl⟩
  · intro fv W3 hF hs
    obtain ⟨-, -, -, -, -, -, -, -, h8, h9, -⟩ := hs
    replace h8 : (AsV n vs) (fv 8) W3 := h8
    replace h9 : fv 9 = .int .i64 (0) := h9
    simp only [fin, List.filterMap]
    go_simp
    have X3 := Lib.hid (X2.out.trans hF)
    clear hF z0 z1 z2 z3 h9
    obtain ⟨z0, z1, z2, z3⟩ := FA.out _ X3.out
    have EB := Lib.hid (E0.out.trans X3.out)
    obtain ⟨g8, c8, hv8, hr8⟩ := h8
    rw [hv8]
    have HR8 := Lib.hid hr8
    clear hr8 hv8
    go_wp2
    refine wp_region_each [some 48, some 49, some 50, some 51, some 52, some 47, some 53, some 54, some 10, some 11] [[3], [48], [4], [50], [49, 51], [52], [47], [47], [53], [54]]
      [Is (.agg #[.int .i64 (t), .slice A n ca]), LadV t xs, Is (.agg #[.int .i64 (f), .slice B n cb]), DrvV f hot, TupV (Ints rl) (0), TupV (Ints rl) (0), Ints rl, Is (.int .i64 (0)), Ints rl, Is (.int .i64 (0))]
      (by kernel_rfl) (by kernel_rfl) (by kernel_rfl) (by kernel_rfl) (by kernel_rfl) Ext (fun W => Ext W3 W)
      (fun W _ => Ext.refl W) (fun W W' h k => h.trans k) ?_ (Ext.drew _) ?_ ?_
    · repeat (refine ⟨fun _ _ _ _ k h => (by first | exact h | exact (by first | exact LadV.ext h k | exact DrvV.ext h k | exact Fresh84.ext h k | exact IntsAt.ext h k | exact AsV.ext h k | exact TupV.ext (fun _ _ _ h k => by first | exact IntsAt.ext h k | exact AsV.ext h k) h k)), ?_⟩)
      exact trivial
    · refine ⟨?_, ?_, ?_, ?_, ?_, ?_, ?_, ?_, ?_, ?_, trivial⟩
      all_goals intro ρ W ⟨kc, kg, kf⟩ hF hs
      · obtain ⟨h0, -⟩ := hs
        replace h0 : ρ (.tmp 3) = .pointer (some ⟨w.heap.size, 0, none⟩) := h0
        have hc0 : W.cell? ⟨w.heap.size, 0, none⟩ = some (.int .i64 (t)) := hF.cell (by assumption)
        have hc1 : W.cell? ⟨w.heap.size, 1, none⟩ = some (.slice A n ca) := hF.cell (by assumption)
        go_simp
        exact ⟨Ext.refl _, rfl⟩
      · obtain ⟨h0, -⟩ := hs
        replace h0 : ρ (.tmp 48) = .agg #[.int .i64 (t), .slice A n ca] := h0
        go_simp
        exact HCL.out W (EB.out.trans hF)
      · obtain ⟨h0, -⟩ := hs
        replace h0 : ρ (.tmp 4) = .pointer (some ⟨w.heap.size + 1, 0, none⟩) := h0
        have hc0 : W.cell? ⟨w.heap.size + 1, 0, none⟩ = some (.int .i64 (f)) := hF.cell (by assumption)
        have hc1 : W.cell? ⟨w.heap.size + 1, 1, none⟩ = some (.slice B n cb) := hF.cell (by assumption)
        go_simp
        exact ⟨Ext.refl _, rfl⟩
      · obtain ⟨h0, -⟩ := hs
        replace h0 : ρ (.tmp 50) = .agg #[.int .i64 (f), .slice B n cb] := h0
        go_simp
        exact HCD.out W (EB.out.trans hF)
      · obtain ⟨h0, h1, -⟩ := hs
        replace h0 : (LadV t xs) (ρ (.tmp 49)) W := h0
        replace h1 : (DrvV f hot) (ρ (.tmp 51)) W := h1
        go_simp
        exact H22.out W _ _ h0 h1
      · obtain ⟨h0, -⟩ := hs
        replace h0 : (TupV (Ints rl) (0)) (ρ (.tmp 52)) W := h0
        go_simp
        first | exact ⟨Ext.refl _, h0⟩ | exact Ext.refl _
      · obtain ⟨h0, -⟩ := hs
        replace h0 : (TupV (Ints rl) (0)) (ρ (.tmp 47)) W := h0
        obtain ⟨v, hv, hp⟩ := h0
        go_simp
        first | exact ⟨Ext.refl _, hp⟩ | exact Ext.refl _
      · obtain ⟨h0, -⟩ := hs
        replace h0 : (TupV (Ints rl) (0)) (ρ (.tmp 47)) W := h0
        obtain ⟨v, hv, hp⟩ := h0
        go_simp
        first | exact ⟨Ext.refl _, rfl⟩ | exact Ext.refl _
      · obtain ⟨h0, -⟩ := hs
        replace h0 : (Ints rl) (ρ (.tmp 53)) W := h0
        go_simp
        first | exact ⟨Ext.refl _, h0⟩ | exact Ext.refl _
      · obtain ⟨h0, -⟩ := hs
        replace h0 : ρ (.tmp 54) = .int .i64 (0) := h0
        go_simp
        exact ⟨Ext.refl _, rfl⟩
    · intro fv W4 hF hs
      obtain ⟨-, -, -, -, -, -, -, -, h10, h11, -⟩ := hs
      replace h10 : (Ints rl) (fv 10) W4 := h10
      replace h11 : fv 11 = .int .i64 (0) := h11
      simp only [fin, List.filterMap]
      go_simp
      have X4 := Lib.hid (X3.out.trans hF)
      replace HR8 := Lib.hid (HR8.out.ext hF)
      clear hF z0 z1 z2 z3 h11
      obtain ⟨Ar, cr, hv10, hrr⟩ := ints_rows h10
      rw [HRLL.out] at hv10
      rw [hv10]
      have HRR := Lib.hid hrr
      obtain ⟨x0, x1⟩ := row_g HR8.out 0 _ HV0.out
      simp only [Nat.zero_mul, Nat.zero_add] at x0 x1
      have hin0 : (0 : Int) < (n : Int) + 1 := by omega
      have HXD := Lib.hid (show ∀ W, Ext W4 W → W.cell? ⟨g8, 0, none⟩ = some (.int .i64 d1) ∧ W.cell? ⟨g8, 1, none⟩ = some (.int .i64 d2) from fun W e => ⟨e.cell x0, e.cell x1⟩)
      clear hrr hv10 h10
      have hz1 : d1 = 0 := HZ.out.1
      have hz2 : ¬ d2 = 0 := HZ.out.2
      go_wp2
      all_goals clear hz1 hz2 HZ
      all_goals clear x0 x1
      all_goals
        go_loopw [13, 12] (fun a v wr => ∃ (k : Nat) (u : Value), k ≤ n ∧ a = .int .i64 k ∧ u = v ∧ wr.ownsRow W4.heap.size 65 2 u k ((NL.take k).flatMap G.enc) ∧ Ext W4 wr) (fun a _ _ => n - (intOf a).toNat)
        case atStart => exact ⟨0, _, Nat.zero_le _, rfl, rfl, World.ownsRow_nil _ _ _ _, Ext.refl _⟩
        case round =>
          obtain ⟨k, v, hk, rfl, rfl, hown, he⟩ := hrel
          have HO := Lib.hid hown
          have HE := Lib.hid he
          clear hown he
          by_cases hlt : k < n
          · obtain ⟨r, a1, a2, a3, a4, hR, h54a, h54b⟩ := HQ.out k hlt
            have H54a := Lib.hid h54a
            have H54b := Lib.hid h54b
            have hnb := HNB.out k hlt
            have HTK := Lib.hid (flat_take (HNA.out k hlt))
            generalize nd k = N at *
            obtain ⟨n1, n2⟩ := N
            simp only [Bd] at hnb
            obtain ⟨rn1, rn2, rd1, rd2, hq1, hq2, ⟨⟨s1, s2⟩, s3, s4⟩, s5⟩ := hR
            dsimp only at rn1 rn2 rd1 rd2 hq1 hq2 s1 s2 s3 s4 s5
            have hdb := HDB.out
            have hrb : -1000000000 ≤ r ∧ r ≤ 1000000000 := by omega
            have HB1 := Lib.hid (inB_of (lo := -1099511627776) (hi := 1099511627776) (x := a1) (by omega) (by omega))
            have HB2 := Lib.hid (inB_of (lo := -1099511627776) (hi := 1099511627776) (x := a2) (by omega) (by omega))
            have HB3 := Lib.hid (inB_of (lo := -1073741824) (hi := 1073741824) (x := r) (by omega) (by omega))
            have HB4 := Lib.hid (inB_of (lo := -1073741824) (hi := 1073741824) (x := a3) (by omega) (by omega))
            have HB5 := Lib.hid (inB_of (lo := -1073741824) (hi := 1073741824) (x := a4) (by omega) (by omega))
            have HB6 := Lib.hid (inB_of (lo := -1125899906842624) (hi := 1125899906842624) (x := n1) (by omega) (by omega))
            have HB7 := Lib.hid (inB_of (lo := -1125899906842624) (hi := 1125899906842624) (x := n2) (by omega) (by omega))
            have HM1 := Lib.hid (show IntKind.i64.wrap (r * a1) = n1 by rw [rn1]; exact IntWalk.i64_in _ (by omega))
            have HM2 := Lib.hid (show IntKind.i64.wrap (r * a2) = n2 by rw [rn2]; exact IntWalk.i64_in _ (by omega))
            have HM3 := Lib.hid (show IntKind.i64.wrap (r * a3) = d1 by rw [rd1]; exact IntWalk.i64_in _ (by omega))
            have HM4 := Lib.hid (show IntKind.i64.wrap (r * a4) = d2 by rw [rd2]; exact IntWalk.i64_in _ (by omega))
            have HQ1 := Lib.hid (show a3 ≠ 0 → IntKind.i64.wrap (d1.tdiv a3) = r from fun h => div_fact2 (hq1 h) hrb)
            have HQ2 := Lib.hid (show a3 = 0 → a4 ≠ 0 ∧ IntKind.i64.wrap (d2.tdiv a4) = r from fun h => ⟨(hq2 h).1, div_fact2 (hq2 h).2 hrb⟩)
            have hki : (k : Int) < (n : Int) := by omega
            obtain ⟨z0, z1, z2, z3⟩ := FA.out _ (X4.out.trans HE.out)
            have EB := Lib.hid (E0.out.trans (X4.out.trans HE.out))
            clear h54a h54b hnb rn1 rn2 rd1 rd2 hq1 hq2 s1 s2 s3 s4 s5 hdb hrb
            go_wp2
            refine wp_region_late 12 10 _ _ _ 96 [14, 95] [some 87, some 88, some 89, some 90, some 91, some 92, some 93, some 94, some 86, some 95, some 96, some 14] [[3], [87], [4], [89], [2], [13], [91, 92], [88, 90, 93], [94], [86], [86], []]
              [Is (.agg #[.int .i64 (t), .slice A n ca]), LadV t xs, Is (.agg #[.int .i64 (f), .slice B n cb]), DrvV f hot, Is (.int .i64 ((i : Int))), Is (.int .i64 ((k : Int))), Is (.agg #[.int .i64 (i : Int), .int .i64 (k : Int)]), Is (.tuple #[.agg #[.int .i64 (a1), .int .i64 (a2), .int .i64 (a3), .int .i64 (a4)], .int .i64 (0)]), Is (.tuple #[.agg #[.int .i64 (a1), .int .i64 (a2), .int .i64 (a3), .int .i64 (a4)], .int .i64 (0)]), Is (.agg #[.int .i64 (a1), .int .i64 (a2), .int .i64 (a3), .int .i64 (a4)]), Is (.int .i64 (0)), Fresh84 wr.heap.size]
              (by kernel_rfl) (by kernel_rfl) (by kernel_rfl) (by kernel_rfl) (by kernel_rfl) (by kernel_rfl) rfl rfl rfl rfl rfl (by kernel_rfl) (by kernel_rfl) (by kernel_rfl) (by kernel_rfl) Ext (fun W => Ext wr W)
              (fun W _ => Ext.refl W) (fun W W' h k => h.trans k) ?_ (Ext.drew _) ?_ ?_ ?_ ?_ ?_
            · repeat (refine ⟨fun _ _ _ _ k h => (by first | exact h | exact (by first | exact LadV.ext h k | exact DrvV.ext h k | exact Fresh84.ext h k | exact IntsAt.ext h k | exact AsV.ext h k | exact TupV.ext (fun _ _ _ h k => by first | exact IntsAt.ext h k | exact AsV.ext h k) h k)), ?_⟩)
              exact trivial
            · refine ⟨?_, ?_, ?_, ?_, ?_, ?_, ?_, ?_, ?_, ?_, ?_, ?_, trivial⟩
              all_goals intro ρ W ⟨kc, kg, kf⟩ hF hs
              · obtain ⟨h0, -⟩ := hs
                replace h0 : ρ (.tmp 3) = .pointer (some ⟨w.heap.size, 0, none⟩) := h0
                have hc0 : W.cell? ⟨w.heap.size, 0, none⟩ = some (.int .i64 (t)) := hF.cell (by assumption)
                have hc1 : W.cell? ⟨w.heap.size, 1, none⟩ = some (.slice A n ca) := hF.cell (by assumption)
                go_simp
                exact ⟨Ext.refl _, rfl⟩
              · obtain ⟨h0, -⟩ := hs
                replace h0 : ρ (.tmp 87) = .agg #[.int .i64 (t), .slice A n ca] := h0
                go_simp
                exact HCL.out W (EB.out.trans hF)
              · obtain ⟨h0, -⟩ := hs
                replace h0 : ρ (.tmp 4) = .pointer (some ⟨w.heap.size + 1, 0, none⟩) := h0
                have hc0 : W.cell? ⟨w.heap.size + 1, 0, none⟩ = some (.int .i64 (f)) := hF.cell (by assumption)
                have hc1 : W.cell? ⟨w.heap.size + 1, 1, none⟩ = some (.slice B n cb) := hF.cell (by assumption)
                go_simp
                exact ⟨Ext.refl _, rfl⟩
              · obtain ⟨h0, -⟩ := hs
                replace h0 : ρ (.tmp 89) = .agg #[.int .i64 (f), .slice B n cb] := h0
                go_simp
                exact HCD.out W (EB.out.trans hF)
              · obtain ⟨h0, -⟩ := hs
                replace h0 : ρ (.tmp 2) = .int .i64 ((i : Int)) := h0
                go_simp
                exact ⟨Ext.refl _, rfl⟩
              · obtain ⟨h0, -⟩ := hs
                replace h0 : ρ (.tmp 13) = .int .i64 ((k : Int)) := h0
                go_simp
                exact ⟨Ext.refl _, rfl⟩
              · obtain ⟨h0, h1, -⟩ := hs
                replace h0 : ρ (.tmp 91) = .int .i64 ((i : Int)) := h0
                replace h1 : ρ (.tmp 92) = .int .i64 ((k : Int)) := h1
                go_simp
                exact ⟨Ext.refl _, rfl⟩
              · obtain ⟨h0, h1, h2, -⟩ := hs
                replace h0 : (LadV t xs) (ρ (.tmp 88)) W := h0
                replace h1 : (DrvV f hot) (ρ (.tmp 90)) W := h1
                replace h2 : ρ (.tmp 93) = .agg #[.int .i64 (i : Int), .int .i64 (k : Int)] := h2
                go_simp
                exact H54a.out W _ _ h0 h1
              · obtain ⟨h0, -⟩ := hs
                replace h0 : ρ (.tmp 94) = .tuple #[.agg #[.int .i64 (a1), .int .i64 (a2), .int .i64 (a3), .int .i64 (a4)], .int .i64 (0)] := h0
                go_simp
                first | exact ⟨Ext.refl _, rfl⟩ | exact Ext.refl _
              · obtain ⟨h0, -⟩ := hs
                replace h0 : ρ (.tmp 86) = .tuple #[.agg #[.int .i64 (a1), .int .i64 (a2), .int .i64 (a3), .int .i64 (a4)], .int .i64 (0)] := h0
                go_simp
                first | exact ⟨Ext.refl _, rfl⟩ | exact Ext.refl _
              · obtain ⟨h0, -⟩ := hs
                replace h0 : ρ (.tmp 86) = .tuple #[.agg #[.int .i64 (a1), .int .i64 (a2), .int .i64 (a3), .int .i64 (a4)], .int .i64 (0)] := h0
                go_simp
                first | exact ⟨Ext.refl _, rfl⟩ | exact Ext.refl _
              · go_simp
                exact ⟨Ext.alloc _ _, W.heap.size, hF.size, rfl, Blk.new _ _ _⟩
            · intro ρ W ⟨kc, kg, kf⟩ hF hs
              obtain ⟨h0, -⟩ := hs
              replace h0 : ρ (.tmp 86) = .tuple #[.agg #[.int .i64 (a1), .int .i64 (a2), .int .i64 (a3), .int .i64 (a4)], .int .i64 (0)] := h0
              refine ⟨.int .i64 (0), fun W' => ?_⟩
              go_simp
            · intro ρ ρ' h
              simp only [execOp]
              rw [h (.tmp 14) (by simp), h (.tmp 95) (by simp)]
            · intro ρ W ⟨kc, kg, kf⟩ hF hs
              obtain ⟨h0, h1, -⟩ := hs
              replace h0 : (Fresh84 wr.heap.size) (ρ (.tmp 14)) W := h0
              replace h1 : ρ (.tmp 95) = .agg #[.int .i64 (a1), .int .i64 (a2), .int .i64 (a3), .int .i64 (a4)] := h1
              obtain ⟨b, _, hb, hk⟩ := h0
              have f0 := hk.free 0
              have f1 := hk.free 1
              have f2 := hk.free 2
              have f3 := hk.free 3
              have c0 := hk.cell 0
              have c1 := hk.cell 1
              have c2 := hk.cell 2
              have c3 := hk.cell 3
              simp only [List.getElem?_toArray, List.getElem?_cons_zero, List.getElem?_cons_succ] at c0 c1 c2 c3
              refine ⟨((((W).setCell ⟨b, 0, none⟩ (.int .i64 a1)).setCell ⟨b, 1, none⟩ (.int .i64 a2)).setCell ⟨b, 2, none⟩ (.int .i64 a3)).setCell ⟨b, 3, none⟩ (.int .i64 a4), ?_⟩
              go_simp
            · intro fv W5 hF hs
              obtain ⟨-, -, -, -, -, -, -, -, -, h95, h96, h14, -⟩ := hs
              replace h95 : fv 95 = .agg #[.int .i64 (a1), .int .i64 (a2), .int .i64 (a3), .int .i64 (a4)] := h95
              replace h96 : fv 96 = .int .i64 (0) := h96
              replace h14 : (Fresh84 wr.heap.size) (fv 14) W5 := h14
              simp only [fin, List.filterMap]
              go_simp
              obtain ⟨b14, hb14, hv14, hk14⟩ := h14
              rw [hv14]
              have K14 := Lib.hid hk14
              have f0 := hk14.free 0
              have f1 := hk14.free 1
              have f2 := hk14.free 2
              have f3 := hk14.free 3
              have c0 := hk14.cell 0
              have c1 := hk14.cell 1
              have c2 := hk14.cell 2
              have c3 := hk14.cell 3
              simp only [List.getElem?_toArray, List.getElem?_cons_zero, List.getElem?_cons_succ] at c0 c1 c2 c3
              have XS := Lib.hid (show Ext wr (((((W5).setCell ⟨b14, 0, none⟩ (.int .i64 a1)).setCell ⟨b14, 1, none⟩ (.int .i64 a2)).setCell ⟨b14, 2, none⟩ (.int .i64 a3)).setCell ⟨b14, 3, none⟩ (.int .i64 a4)) from set4_ext hF hb14 (.int .i64 a1) (.int .i64 a2) (.int .i64 a3) (.int .i64 a4))
              have HY14 := Lib.hid (fun W e => stored4 K14.out a1 a2 a3 a4 (W' := W) e)
              clear hF z0 z1 z2 z3 h95 h96 hv14 hk14 hb14
              go_wp2
              generalize ((((W5).setCell ⟨b14, 0, none⟩ (.int .i64 a1)).setCell ⟨b14, 1, none⟩ (.int .i64 a2)).setCell ⟨b14, 2, none⟩ (.int .i64 a3)).setCell ⟨b14, 3, none⟩ (.int .i64 a4) = W6 at *
              clear f0 f1 f2 f3 c0 c1 c2 c3 K14
              have X6 := Lib.hid (X4.out.trans (HE.out.trans XS.out))
              obtain ⟨z0, z1, z2, z3⟩ := FA.out _ X6.out
              have EB := Lib.hid (E0.out.trans X6.out)
              refine wp_region_late 12 10 _ _ _ 107 [16, 106] [some 98, some 99, some 100, some 101, some 102, some 103, some 104, some 105, some 97, some 106, some 107, some 16] [[3], [98], [4], [100], [13], [2], [102, 103], [99, 101, 104], [105], [97], [97], []]
                [Is (.agg #[.int .i64 (t), .slice A n ca]), LadV t xs, Is (.agg #[.int .i64 (f), .slice B n cb]), DrvV f hot, Is (.int .i64 ((k : Int))), Is (.int .i64 ((i : Int))), Is (.agg #[.int .i64 (k : Int), .int .i64 (i : Int)]), Is (.tuple #[.agg #[.int .i64 (a1), .int .i64 (a2), .int .i64 (a3), .int .i64 (a4)], .int .i64 (0)]), Is (.tuple #[.agg #[.int .i64 (a1), .int .i64 (a2), .int .i64 (a3), .int .i64 (a4)], .int .i64 (0)]), Is (.agg #[.int .i64 (a1), .int .i64 (a2), .int .i64 (a3), .int .i64 (a4)]), Is (.int .i64 (0)), Fresh84 W6.heap.size]
                (by kernel_rfl) (by kernel_rfl) (by kernel_rfl) (by kernel_rfl) (by kernel_rfl) (by kernel_rfl) rfl rfl rfl rfl rfl (by kernel_rfl) (by kernel_rfl) (by kernel_rfl) (by kernel_rfl) Ext (fun W => Ext W6 W)
                (fun W _ => Ext.refl W) (fun W W' h k => h.trans k) ?_ (Ext.drew _) ?_ ?_ ?_ ?_ ?_
              · repeat (refine ⟨fun _ _ _ _ k h => (by first | exact h | exact (by first | exact LadV.ext h k | exact DrvV.ext h k | exact Fresh84.ext h k | exact IntsAt.ext h k | exact AsV.ext h k | exact TupV.ext (fun _ _ _ h k => by first | exact IntsAt.ext h k | exact AsV.ext h k) h k)), ?_⟩)
                exact trivial
              · refine ⟨?_, ?_, ?_, ?_, ?_, ?_, ?_, ?_, ?_, ?_, ?_, ?_, trivial⟩
                all_goals intro ρ W ⟨kc, kg, kf⟩ hF hs
                · obtain ⟨h0, -⟩ := hs
                  replace h0 : ρ (.tmp 3) = .pointer (some ⟨w.heap.size, 0, none⟩) := h0
                  have hc0 : W.cell? ⟨w.heap.size, 0, none⟩ = some (.int .i64 (t)) := hF.cell (by assumption)
                  have hc1 : W.cell? ⟨w.heap.size, 1, none⟩ = some (.slice A n ca) := hF.cell (by assumption)
                  go_simp
                  exact ⟨Ext.refl _, rfl⟩
                · obtain ⟨h0, -⟩ := hs
                  replace h0 : ρ (.tmp 98) = .agg #[.int .i64 (t), .slice A n ca] := h0
                  go_simp
                  exact HCL.out W (EB.out.trans hF)
                · obtain ⟨h0, -⟩ := hs
                  replace h0 : ρ (.tmp 4) = .pointer (some ⟨w.heap.size + 1, 0, none⟩) := h0
                  have hc0 : W.cell? ⟨w.heap.size + 1, 0, none⟩ = some (.int .i64 (f)) := hF.cell (by assumption)
                  have hc1 : W.cell? ⟨w.heap.size + 1, 1, none⟩ = some (.slice B n cb) := hF.cell (by assumption)
                  go_simp
                  exact ⟨Ext.refl _, rfl⟩
                · obtain ⟨h0, -⟩ := hs
                  replace h0 : ρ (.tmp 100) = .agg #[.int .i64 (f), .slice B n cb] := h0
                  go_simp
                  exact HCD.out W (EB.out.trans hF)
                · obtain ⟨h0, -⟩ := hs
                  replace h0 : ρ (.tmp 13) = .int .i64 ((k : Int)) := h0
                  go_simp
                  exact ⟨Ext.refl _, rfl⟩
                · obtain ⟨h0, -⟩ := hs
                  replace h0 : ρ (.tmp 2) = .int .i64 ((i : Int)) := h0
                  go_simp
                  exact ⟨Ext.refl _, rfl⟩
                · obtain ⟨h0, h1, -⟩ := hs
                  replace h0 : ρ (.tmp 102) = .int .i64 ((k : Int)) := h0
                  replace h1 : ρ (.tmp 103) = .int .i64 ((i : Int)) := h1
                  go_simp
                  exact ⟨Ext.refl _, rfl⟩
                · obtain ⟨h0, h1, h2, -⟩ := hs
                  replace h0 : (LadV t xs) (ρ (.tmp 99)) W := h0
                  replace h1 : (DrvV f hot) (ρ (.tmp 101)) W := h1
                  replace h2 : ρ (.tmp 104) = .agg #[.int .i64 (k : Int), .int .i64 (i : Int)] := h2
                  go_simp
                  exact H54b.out W _ _ h0 h1
                · obtain ⟨h0, -⟩ := hs
                  replace h0 : ρ (.tmp 105) = .tuple #[.agg #[.int .i64 (a1), .int .i64 (a2), .int .i64 (a3), .int .i64 (a4)], .int .i64 (0)] := h0
                  go_simp
                  first | exact ⟨Ext.refl _, rfl⟩ | exact Ext.refl _
                · obtain ⟨h0, -⟩ := hs
                  replace h0 : ρ (.tmp 97) = .tuple #[.agg #[.int .i64 (a1), .int .i64 (a2), .int .i64 (a3), .int .i64 (a4)], .int .i64 (0)] := h0
                  go_simp
                  first | exact ⟨Ext.refl _, rfl⟩ | exact Ext.refl _
                · obtain ⟨h0, -⟩ := hs
                  replace h0 : ρ (.tmp 97) = .tuple #[.agg #[.int .i64 (a1), .int .i64 (a2), .int .i64 (a3), .int .i64 (a4)], .int .i64 (0)] := h0
                  go_simp
                  first | exact ⟨Ext.refl _, rfl⟩ | exact Ext.refl _
                · go_simp
                  exact ⟨Ext.alloc _ _, W.heap.size, hF.size, rfl, Blk.new _ _ _⟩
              · intro ρ W ⟨kc, kg, kf⟩ hF hs
                obtain ⟨h0, -⟩ := hs
                replace h0 : ρ (.tmp 97) = .tuple #[.agg #[.int .i64 (a1), .int .i64 (a2), .int .i64 (a3), .int .i64 (a4)], .int .i64 (0)] := h0
                refine ⟨.int .i64 (0), fun W' => ?_⟩
                go_simp
              · intro ρ ρ' h
                simp only [execOp]
                rw [h (.tmp 16) (by simp), h (.tmp 106) (by simp)]
              · intro ρ W ⟨kc, kg, kf⟩ hF hs
                obtain ⟨h0, h1, -⟩ := hs
                replace h0 : (Fresh84 W6.heap.size) (ρ (.tmp 16)) W := h0
                replace h1 : ρ (.tmp 106) = .agg #[.int .i64 (a1), .int .i64 (a2), .int .i64 (a3), .int .i64 (a4)] := h1
                obtain ⟨b, _, hb, hk⟩ := h0
                have f0 := hk.free 0
                have f1 := hk.free 1
                have f2 := hk.free 2
                have f3 := hk.free 3
                have c0 := hk.cell 0
                have c1 := hk.cell 1
                have c2 := hk.cell 2
                have c3 := hk.cell 3
                simp only [List.getElem?_toArray, List.getElem?_cons_zero, List.getElem?_cons_succ] at c0 c1 c2 c3
                refine ⟨((((W).setCell ⟨b, 0, none⟩ (.int .i64 a1)).setCell ⟨b, 1, none⟩ (.int .i64 a2)).setCell ⟨b, 2, none⟩ (.int .i64 a3)).setCell ⟨b, 3, none⟩ (.int .i64 a4), ?_⟩
                go_simp
              · intro fv W7 hF hs
                obtain ⟨-, -, -, -, -, -, -, -, -, h106, h107, h16, -⟩ := hs
                replace h106 : fv 106 = .agg #[.int .i64 (a1), .int .i64 (a2), .int .i64 (a3), .int .i64 (a4)] := h106
                replace h107 : fv 107 = .int .i64 (0) := h107
                replace h16 : (Fresh84 W6.heap.size) (fv 16) W7 := h16
                simp only [fin, List.filterMap]
                go_simp
                obtain ⟨b16, hb16, hv16, hk16⟩ := h16
                rw [hv16]
                have f0 := hk16.free 0
                have f1 := hk16.free 1
                have f2 := hk16.free 2
                have f3 := hk16.free 3
                have c0 := hk16.cell 0
                have c1 := hk16.cell 1
                have c2 := hk16.cell 2
                have c3 := hk16.cell 3
                simp only [List.getElem?_toArray, List.getElem?_cons_zero, List.getElem?_cons_succ] at c0 c1 c2 c3
                obtain ⟨y0, y1, y2, y3⟩ := HY14.out _ hF
                have hbl := lt_of_cell (HY14.out _ (Ext.refl _)).1
                dsimp only at hbl
                have nb1 : ¬ b14 = b16 := by omega
                have nb2 : ¬ b16 = b14 := by omega
                have XS2 := Lib.hid (show Ext W6 (((((W7).setCell ⟨b16, 0, none⟩ (.int .i64 a1)).setCell ⟨b16, 1, none⟩ (.int .i64 a2)).setCell ⟨b16, 2, none⟩ (.int .i64 a3)).setCell ⟨b16, 3, none⟩ (.int .i64 a4)) from set4_ext hF hb16 (.int .i64 a1) (.int .i64 a2) (.int .i64 a3) (.int .i64 a4))
                clear hF z0 z1 z2 z3 h106 h107 hv16 hk16 hb16 hbl
                go_wp2_with (fail)
                generalize ((((W7).setCell ⟨b16, 0, none⟩ (.int .i64 a1)).setCell ⟨b16, 1, none⟩ (.int .i64 a2)).setCell ⟨b16, 2, none⟩ (.int .i64 a3)).setCell ⟨b16, 3, none⟩ (.int .i64 a4) = W8 at *
                clear f0 f1 f2 f3 c0 c1 c2 c3 nb1 nb2 y0 y1 y2 y3
                have X48 := Lib.hid (HE.out.trans (XS.out.trans XS2.out))
                obtain ⟨z0, z1, z2, z3⟩ := FA.out _ (X4.out.trans X48.out)
                obtain ⟨y0, y1, y2, y3⟩ := HY14.out _ XS2.out
                obtain ⟨x0, x1⟩ := HXD.out _ X48.out
                by_cases h3 : a3 = 0
                · obtain ⟨h4, hdv⟩ := HQ2.out h3
                  have hne3 : (a3 != 0) = false := by simp [h3]
                  have hne4 : (a4 != 0) = true := by simp [h4]
                  clear h3
                  go_wp2_with (go_at_call 40; refine (within_any _ _ _ _).mono ?_; rintro e w' ⟨rfl, rfl⟩; first | rw [HB1.out] | rw [HB2.out])
                  go_quiet (fail)
                  generalize hWd : W8.drewN _ = W9
                  have X89 : Ext W8 W9 := by rw [← hWd]; exact Ext.drewN _ _
                  clear hWd z0 z1 z2 z3 y0 y1 y2 y3 x0 x1
                  have X49 := Lib.hid (X48.out.trans X89)
                  have HY9 := Lib.hid (fun W (e : Ext W9 W) => HY14.out W (XS2.out.trans (X89.trans e)))
                  obtain ⟨z0, z1, z2, z3⟩ := FA.out _ (X4.out.trans X49.out)
                  obtain ⟨y0, y1, y2, y3⟩ := HY9.out _ (Ext.refl _)
                  obtain ⟨x0, x1⟩ := HXD.out _ X49.out
                  have XW89 := Lib.hid X89
                  clear X89
                  go_wp2
                  refine wp_region_eachG [(160, false), (160, false), (160, false), (160, false), (160, false), (167, false), (167, false), (167, false), (167, false), (167, false), (174, false), (174, false), (174, false), (174, false), (174, false), (174, false), (174, false), (174, false), (174, false), (174, false), (174, false), (174, false), (174, false), (174, false), (174, false)] [some 157, some 158, some 159, some 160, some 161, some 162, some 163, some 164, some 165, some 166, some 167, some 168, some 169, some 170, some 171, some 172, some 173, some 174, some 175, some 176, some 177, some 178, some 179, some 180, some 181, some 182, some 183, some 184, some 185, some 186, some 187, some 188, some 189, some 190] [[18], [157], [158], [159], [14, 160], [161, 160], [162, 160], [163, 160], [164, 160], [160, 165], [166], [14, 167], [168, 167], [169, 167], [170, 167], [171, 167], [167, 172], [173], [18, 174], [14, 174], [176, 174], [177, 174], [175, 178, 174], [18, 174], [14, 174], [181, 174], [182, 174], [180, 183, 174], [179, 184, 174], [8, 174], [186, 174], [187, 174], [185, 188, 174], [174, 189]]
                    [Is (.int .i64 (r)), Is (.bool (true)), Is (.bool (false)), Is (.bool (false)), Is (.pointer (some ⟨b14, 2, none⟩)), Is (.pointer (some ⟨b14, 2, none⟩)), Is (.int .i64 (a3)), Is (.bool (true)), Is (.bool (false)), Is (.bool (false)), Is (.bool (false)), Is (.pointer (some ⟨b14, 2, none⟩)), Is (.pointer (some ⟨b14, 3, none⟩)), Is (.int .i64 (a4)), Is (.bool (true)), Is (.bool (false)), Is (.bool (false)), Is (.bool (false)), Is (.int .i64 (r)), Is (.pointer (some ⟨b14, 2, none⟩)), Is (.pointer (some ⟨b14, 2, none⟩)), Is (.int .i64 (a3)), Is (.int .i64 (d1)), Is (.int .i64 (r)), Is (.pointer (some ⟨b14, 2, none⟩)), Is (.pointer (some ⟨b14, 3, none⟩)), Is (.int .i64 (a4)), Is (.int .i64 (d2)), Is (.agg #[.int .i64 (d1), .int .i64 (d2)]), Is (.slice (some ⟨g8, 0, none⟩) (n + 1) c8), Is (.pointer (some ⟨g8, 0, none⟩)), Is (.agg #[.int .i64 (d1), .int .i64 (d2)]), Is (.bool (false)), Is (.bool (false))]
                    (by kernel_rfl) (by kernel_rfl) (by kernel_rfl) (by kernel_rfl) (by kernel_rfl) Ext (fun W => Ext W9 W)
                    (fun W _ => Ext.refl W) (fun W W' h k => h.trans k) ?_ (by intro p hp; simp at hp; first | (subst hp; exact ⟨_, rfl, fun _ _ h => h⟩) | (rcases hp with rfl | rfl <;> exact ⟨_, rfl, fun _ _ h => h⟩) | (rcases hp with rfl | rfl | rfl <;> exact ⟨_, rfl, fun _ _ h => h⟩)) (Ext.drew _) ?_ ?_
                  · repeat (refine ⟨fun _ _ _ _ k h => (by first | exact h | exact (by first | exact LadV.ext h k | exact DrvV.ext h k | exact Fresh84.ext h k | exact IntsAt.ext h k | exact AsV.ext h k | exact TupV.ext (fun _ _ _ h k => by first | exact IntsAt.ext h k | exact AsV.ext h k) h k)), ?_⟩)
                    exact trivial
                  · refine ⟨?_, ?_, ?_, ?_, ?_, ?_, ?_, ?_, ?_, ?_, ?_, ?_, ?_, ?_, ?_, ?_, ?_, ?_, ?_, ?_, ?_, ?_, ?_, ?_, ?_, ?_, ?_, ?_, ?_, ?_, ?_, ?_, ?_, ?_, trivial⟩
                    all_goals intro ρ W ⟨kc, kg, kf⟩ hF hs
                    · obtain ⟨h0, -⟩ := hs
                      replace h0 : ρ (.tmp 18) = .int .i64 (r) := h0
                      go_simp
                      exact ⟨Ext.refl _, rfl⟩
                    · obtain ⟨h0, -⟩ := hs
                      replace h0 : ρ (.tmp 157) = .int .i64 (r) := h0
                      go_simp
                      exact (within_any _ _ _ _).mono fun _ _ ⟨h1, h2⟩ => ⟨_, h1, h2 ▸ Ext.refl _, by rw [HB3.out]; rfl⟩
                    · obtain ⟨h0, -⟩ := hs
                      replace h0 : ρ (.tmp 158) = .bool (true) := h0
                      go_simp
                      first | exact ⟨Ext.refl _, rfl⟩ | exact Ext.refl _
                    · obtain ⟨h0, -⟩ := hs
                      replace h0 : ρ (.tmp 159) = .bool (false) := h0
                      go_simp
                      first | exact ⟨Ext.refl _, rfl⟩ | exact Ext.refl _
                    · obtain ⟨h0, h1, -⟩ := hs
                      replace h0 : ρ (.tmp 14) = .pointer (some ⟨b14, 0, none⟩) := h0
                      replace h1 : ρ (.tmp 160) = .bool (false) := h1
                      go_simp
                      exact ⟨Ext.refl _, rfl⟩
                    · obtain ⟨h0, h1, -⟩ := hs
                      replace h0 : ρ (.tmp 161) = .pointer (some ⟨b14, 2, none⟩) := h0
                      replace h1 : ρ (.tmp 160) = .bool (false) := h1
                      go_simp
                      exact ⟨Ext.refl _, rfl⟩
                    · obtain ⟨h0, h1, -⟩ := hs
                      replace h0 : ρ (.tmp 162) = .pointer (some ⟨b14, 2, none⟩) := h0
                      replace h1 : ρ (.tmp 160) = .bool (false) := h1
                      have hc0 : W.cell? ⟨b14, 2, none⟩ = some (.int .i64 (a3)) := hF.cell (by assumption)
                      go_simp
                      exact ⟨Ext.refl _, rfl⟩
                    · obtain ⟨h0, h1, -⟩ := hs
                      replace h0 : ρ (.tmp 163) = .int .i64 (a3) := h0
                      replace h1 : ρ (.tmp 160) = .bool (false) := h1
                      go_simp
                      exact (within_any _ _ _ _).mono fun _ _ ⟨h1, h2⟩ => ⟨_, h1, h2 ▸ Ext.refl _, by rw [HB4.out]; rfl⟩
                    · obtain ⟨h0, h1, -⟩ := hs
                      replace h0 : ρ (.tmp 164) = .bool (true) := h0
                      replace h1 : ρ (.tmp 160) = .bool (false) := h1
                      go_simp
                      first | exact ⟨Ext.refl _, rfl⟩ | exact Ext.refl _
                    · obtain ⟨h0, h1, -⟩ := hs
                      replace h0 : ρ (.tmp 160) = .bool (false) := h0
                      replace h1 : ρ (.tmp 165) = .bool (false) := h1
                      go_simp
                      first | exact ⟨Ext.refl _, rfl⟩ | exact Ext.refl _
                    · obtain ⟨h0, -⟩ := hs
                      replace h0 : ρ (.tmp 166) = .bool (false) := h0
                      go_simp
                      first | exact ⟨Ext.refl _, rfl⟩ | exact Ext.refl _
                    · obtain ⟨h0, h1, -⟩ := hs
                      replace h0 : ρ (.tmp 14) = .pointer (some ⟨b14, 0, none⟩) := h0
                      replace h1 : ρ (.tmp 167) = .bool (false) := h1
                      go_simp
                      exact ⟨Ext.refl _, rfl⟩
                    · obtain ⟨h0, h1, -⟩ := hs
                      replace h0 : ρ (.tmp 168) = .pointer (some ⟨b14, 2, none⟩) := h0
                      replace h1 : ρ (.tmp 167) = .bool (false) := h1
                      go_simp
                      exact ⟨Ext.refl _, rfl⟩
                    · obtain ⟨h0, h1, -⟩ := hs
                      replace h0 : ρ (.tmp 169) = .pointer (some ⟨b14, 3, none⟩) := h0
                      replace h1 : ρ (.tmp 167) = .bool (false) := h1
                      have hc0 : W.cell? ⟨b14, 3, none⟩ = some (.int .i64 (a4)) := hF.cell (by assumption)
                      go_simp
                      exact ⟨Ext.refl _, rfl⟩
                    · obtain ⟨h0, h1, -⟩ := hs
                      replace h0 : ρ (.tmp 170) = .int .i64 (a4) := h0
                      replace h1 : ρ (.tmp 167) = .bool (false) := h1
                      go_simp
                      exact (within_any _ _ _ _).mono fun _ _ ⟨h1, h2⟩ => ⟨_, h1, h2 ▸ Ext.refl _, by rw [HB5.out]; rfl⟩
                    · obtain ⟨h0, h1, -⟩ := hs
                      replace h0 : ρ (.tmp 171) = .bool (true) := h0
                      replace h1 : ρ (.tmp 167) = .bool (false) := h1
                      go_simp
                      first | exact ⟨Ext.refl _, rfl⟩ | exact Ext.refl _
                    · obtain ⟨h0, h1, -⟩ := hs
                      replace h0 : ρ (.tmp 167) = .bool (false) := h0
                      replace h1 : ρ (.tmp 172) = .bool (false) := h1
                      go_simp
                      first | exact ⟨Ext.refl _, rfl⟩ | exact Ext.refl _
                    · obtain ⟨h0, -⟩ := hs
                      replace h0 : ρ (.tmp 173) = .bool (false) := h0
                      go_simp
                      first | exact ⟨Ext.refl _, rfl⟩ | exact Ext.refl _
                    · obtain ⟨h0, h1, -⟩ := hs
                      replace h0 : ρ (.tmp 18) = .int .i64 (r) := h0
                      replace h1 : ρ (.tmp 174) = .bool (false) := h1
                      go_simp
                      exact ⟨Ext.refl _, rfl⟩
                    · obtain ⟨h0, h1, -⟩ := hs
                      replace h0 : ρ (.tmp 14) = .pointer (some ⟨b14, 0, none⟩) := h0
                      replace h1 : ρ (.tmp 174) = .bool (false) := h1
                      go_simp
                      exact ⟨Ext.refl _, rfl⟩
                    · obtain ⟨h0, h1, -⟩ := hs
                      replace h0 : ρ (.tmp 176) = .pointer (some ⟨b14, 2, none⟩) := h0
                      replace h1 : ρ (.tmp 174) = .bool (false) := h1
                      go_simp
                      exact ⟨Ext.refl _, rfl⟩
                    · obtain ⟨h0, h1, -⟩ := hs
                      replace h0 : ρ (.tmp 177) = .pointer (some ⟨b14, 2, none⟩) := h0
                      replace h1 : ρ (.tmp 174) = .bool (false) := h1
                      have hc0 : W.cell? ⟨b14, 2, none⟩ = some (.int .i64 (a3)) := hF.cell (by assumption)
                      go_simp
                      exact ⟨Ext.refl _, rfl⟩
                    · obtain ⟨h0, h1, h2, -⟩ := hs
                      replace h0 : ρ (.tmp 175) = .int .i64 (r) := h0
                      replace h1 : ρ (.tmp 178) = .int .i64 (a3) := h1
                      replace h2 : ρ (.tmp 174) = .bool (false) := h2
                      have hw : IntKind.i64.wrap (r * a3) = d1 := HM3.out
                      go_simp
                      exact ⟨Ext.refl _, rfl⟩
                    · obtain ⟨h0, h1, -⟩ := hs
                      replace h0 : ρ (.tmp 18) = .int .i64 (r) := h0
                      replace h1 : ρ (.tmp 174) = .bool (false) := h1
                      go_simp
                      exact ⟨Ext.refl _, rfl⟩
                    · obtain ⟨h0, h1, -⟩ := hs
                      replace h0 : ρ (.tmp 14) = .pointer (some ⟨b14, 0, none⟩) := h0
                      replace h1 : ρ (.tmp 174) = .bool (false) := h1
                      go_simp
                      exact ⟨Ext.refl _, rfl⟩
                    · obtain ⟨h0, h1, -⟩ := hs
                      replace h0 : ρ (.tmp 181) = .pointer (some ⟨b14, 2, none⟩) := h0
                      replace h1 : ρ (.tmp 174) = .bool (false) := h1
                      go_simp
                      exact ⟨Ext.refl _, rfl⟩
                    · obtain ⟨h0, h1, -⟩ := hs
                      replace h0 : ρ (.tmp 182) = .pointer (some ⟨b14, 3, none⟩) := h0
                      replace h1 : ρ (.tmp 174) = .bool (false) := h1
                      have hc0 : W.cell? ⟨b14, 3, none⟩ = some (.int .i64 (a4)) := hF.cell (by assumption)
                      go_simp
                      exact ⟨Ext.refl _, rfl⟩
                    · obtain ⟨h0, h1, h2, -⟩ := hs
                      replace h0 : ρ (.tmp 180) = .int .i64 (r) := h0
                      replace h1 : ρ (.tmp 183) = .int .i64 (a4) := h1
                      replace h2 : ρ (.tmp 174) = .bool (false) := h2
                      have hw : IntKind.i64.wrap (r * a4) = d2 := HM4.out
                      go_simp
                      exact ⟨Ext.refl _, rfl⟩
                    · obtain ⟨h0, h1, h2, -⟩ := hs
                      replace h0 : ρ (.tmp 179) = .int .i64 (d1) := h0
                      replace h1 : ρ (.tmp 184) = .int .i64 (d2) := h1
                      replace h2 : ρ (.tmp 174) = .bool (false) := h2
                      go_simp
                      first | exact ⟨Ext.refl _, rfl⟩ | exact Ext.refl _
                    · obtain ⟨h0, h1, -⟩ := hs
                      replace h0 : ρ (.tmp 8) = .slice (some ⟨g8, 0, none⟩) (n + 1) c8 := h0
                      replace h1 : ρ (.tmp 174) = .bool (false) := h1
                      go_simp
                      exact ⟨Ext.refl _, rfl⟩
                    · obtain ⟨h0, h1, -⟩ := hs
                      replace h0 : ρ (.tmp 186) = .slice (some ⟨g8, 0, none⟩) (n + 1) c8 := h0
                      replace h1 : ρ (.tmp 174) = .bool (false) := h1
                      have hki : (0 : Int) < (n : Int) + 1 := by omega
                      go_simp
                      exact ⟨Ext.refl _, rfl⟩
                    · obtain ⟨h0, h1, -⟩ := hs
                      replace h0 : ρ (.tmp 187) = .pointer (some ⟨g8, 0, none⟩) := h0
                      replace h1 : ρ (.tmp 174) = .bool (false) := h1
                      have hc0 : W.cell? ⟨g8, 0, none⟩ = some (.int .i64 (d1)) := hF.cell (by assumption)
                      have hc1 : W.cell? ⟨g8, 1, none⟩ = some (.int .i64 (d2)) := hF.cell (by assumption)
                      go_simp
                      exact ⟨Ext.refl _, rfl⟩
                    · obtain ⟨h0, h1, h2, -⟩ := hs
                      replace h0 : ρ (.tmp 185) = .agg #[.int .i64 (d1), .int .i64 (d2)] := h0
                      replace h1 : ρ (.tmp 188) = .agg #[.int .i64 (d1), .int .i64 (d2)] := h1
                      replace h2 : ρ (.tmp 174) = .bool (false) := h2
                      go_simp
                      first | exact ⟨Ext.refl _, rfl⟩ | exact Ext.refl _
                    · obtain ⟨h0, h1, -⟩ := hs
                      replace h0 : ρ (.tmp 174) = .bool (false) := h0
                      replace h1 : ρ (.tmp 189) = .bool (false) := h1
                      go_simp
                      first | exact ⟨Ext.refl _, rfl⟩ | exact Ext.refl _
                  · intro fv W10 hF hs
                    obtain ⟨-, -, -, -, -, -, -, -, -, -, -, -, -, -, -, -, -, -, -, -, -, -, -, -, -, -, -, -, -, -, -, -, -, h190, -⟩ := hs
                    replace h190 : fv 190 = .bool (false) := h190
                    simp only [fin, List.filterMap]
                    go_simp
                    have X410 := Lib.hid (X49.out.trans hF)
                    have XR10 := Lib.hid (show Ext wr W10 from XS.out.trans (XS2.out.trans ((show Ext W8 W9 from XW89.out).trans hF)))
                    replace y0 := hF.cell y0
                    replace y1 := hF.cell y1
                    have hm1 := HM1.out
                    have hm2 := HM2.out
                    have hwb := X410.out.size
                    clear hF h190 z0 z1 z2 z3 y2 y3 x0 x1
                    go_wp2_with (first
                      | (go_at_call 40; refine (within_any _ _ _ _).mono ?_; rintro e w' ⟨rfl, rfl⟩; first | rw [HB6.out] | rw [HB7.out])
                      | (at_builtin; refine wpList_append_own _ rfl _ _ 53 rfl W4.heap.size 65 i0 (.agg #[.int .i64 0, .int .i64 0]) 2 16 Try.underlying53 hi0 HI0.out hz1 hz2 rfl (by decide) _ _ _ rfl (((own_ext HO.out XR10.out).alloc _).alloc _) ⟨W10.heap.size + 1, 0, none⟩ 1 1 [.int .i64 n1, .int .i64 n2] rfl rfl (news_of (Blk.newAt (W10.alloc (.cells #[.int .i64 n1, .int .i64 n2] 65)) 65 #[.int .i64 n1, .int .i64 n2] (g := W10.heap.size + 1) (by simp))) (by simp [Value.oneCell']) (by unfold maxLen; omega) (by omega) (by simp; omega) ?_; intro v' w1 hown' hgrow _; have HO1 := Lib.hid hown'; have HE1 := Lib.hid (Ext.grownBy (X410.out.trans ((Ext.alloc _ _).trans (Ext.alloc _ _))) hgrow (fun g hg => own_base HO.out hg)); clear hown' hgrow))
                    go_roundw
                    case rel => exact ⟨k + 1, _, by omega, by go_num, rfl, by rw [HTK.out]; exact HO1.out, HE1.out⟩
                    case measure => simp [intOf]; omega
                · have hdv := HQ1.out h3
                  have hne3 : (a3 != 0) = true := by simp [h3]
                  go_wp2_with (go_at_call 40; refine (within_any _ _ _ _).mono ?_; rintro e w' ⟨rfl, rfl⟩; first | rw [HB1.out] | rw [HB2.out])
                  go_quiet (fail)
                  generalize hWd : W8.drewN _ = W9
                  have X89 : Ext W8 W9 := by rw [← hWd]; exact Ext.drewN _ _
                  clear hWd z0 z1 z2 z3 y0 y1 y2 y3 x0 x1
                  have X49 := Lib.hid (X48.out.trans X89)
                  have HY9 := Lib.hid (fun W (e : Ext W9 W) => HY14.out W (XS2.out.trans (X89.trans e)))
                  obtain ⟨z0, z1, z2, z3⟩ := FA.out _ (X4.out.trans X49.out)
                  obtain ⟨y0, y1, y2, y3⟩ := HY9.out _ (Ext.refl _)
                  obtain ⟨x0, x1⟩ := HXD.out _ X49.out
                  have XW89 := Lib.hid X89
                  clear X89
                  go_wp2
                  refine wp_region_eachG [(160, false), (160, false), (160, false), (160, false), (160, false), (167, false), (167, false), (167, false), (167, false), (167, false), (174, false), (174, false), (174, false), (174, false), (174, false), (174, false), (174, false), (174, false), (174, false), (174, false), (174, false), (174, false), (174, false), (174, false), (174, false)] [some 157, some 158, some 159, some 160, some 161, some 162, some 163, some 164, some 165, some 166, some 167, some 168, some 169, some 170, some 171, some 172, some 173, some 174, some 175, some 176, some 177, some 178, some 179, some 180, some 181, some 182, some 183, some 184, some 185, some 186, some 187, some 188, some 189, some 190] [[18], [157], [158], [159], [14, 160], [161, 160], [162, 160], [163, 160], [164, 160], [160, 165], [166], [14, 167], [168, 167], [169, 167], [170, 167], [171, 167], [167, 172], [173], [18, 174], [14, 174], [176, 174], [177, 174], [175, 178, 174], [18, 174], [14, 174], [181, 174], [182, 174], [180, 183, 174], [179, 184, 174], [8, 174], [186, 174], [187, 174], [185, 188, 174], [174, 189]]
                    [Is (.int .i64 (r)), Is (.bool (true)), Is (.bool (false)), Is (.bool (false)), Is (.pointer (some ⟨b14, 2, none⟩)), Is (.pointer (some ⟨b14, 2, none⟩)), Is (.int .i64 (a3)), Is (.bool (true)), Is (.bool (false)), Is (.bool (false)), Is (.bool (false)), Is (.pointer (some ⟨b14, 2, none⟩)), Is (.pointer (some ⟨b14, 3, none⟩)), Is (.int .i64 (a4)), Is (.bool (true)), Is (.bool (false)), Is (.bool (false)), Is (.bool (false)), Is (.int .i64 (r)), Is (.pointer (some ⟨b14, 2, none⟩)), Is (.pointer (some ⟨b14, 2, none⟩)), Is (.int .i64 (a3)), Is (.int .i64 (d1)), Is (.int .i64 (r)), Is (.pointer (some ⟨b14, 2, none⟩)), Is (.pointer (some ⟨b14, 3, none⟩)), Is (.int .i64 (a4)), Is (.int .i64 (d2)), Is (.agg #[.int .i64 (d1), .int .i64 (d2)]), Is (.slice (some ⟨g8, 0, none⟩) (n + 1) c8), Is (.pointer (some ⟨g8, 0, none⟩)), Is (.agg #[.int .i64 (d1), .int .i64 (d2)]), Is (.bool (false)), Is (.bool (false))]
                    (by kernel_rfl) (by kernel_rfl) (by kernel_rfl) (by kernel_rfl) (by kernel_rfl) Ext (fun W => Ext W9 W)
                    (fun W _ => Ext.refl W) (fun W W' h k => h.trans k) ?_ (by intro p hp; simp at hp; first | (subst hp; exact ⟨_, rfl, fun _ _ h => h⟩) | (rcases hp with rfl | rfl <;> exact ⟨_, rfl, fun _ _ h => h⟩) | (rcases hp with rfl | rfl | rfl <;> exact ⟨_, rfl, fun _ _ h => h⟩)) (Ext.drew _) ?_ ?_
                  · repeat (refine ⟨fun _ _ _ _ k h => (by first | exact h | exact (by first | exact LadV.ext h k | exact DrvV.ext h k | exact Fresh84.ext h k | exact IntsAt.ext h k | exact AsV.ext h k | exact TupV.ext (fun _ _ _ h k => by first | exact IntsAt.ext h k | exact AsV.ext h k) h k)), ?_⟩)
                    exact trivial
                  · refine ⟨?_, ?_, ?_, ?_, ?_, ?_, ?_, ?_, ?_, ?_, ?_, ?_, ?_, ?_, ?_, ?_, ?_, ?_, ?_, ?_, ?_, ?_, ?_, ?_, ?_, ?_, ?_, ?_, ?_, ?_, ?_, ?_, ?_, ?_, trivial⟩
                    all_goals intro ρ W ⟨kc, kg, kf⟩ hF hs
                    · obtain ⟨h0, -⟩ := hs
                      replace h0 : ρ (.tmp 18) = .int .i64 (r) := h0
                      go_simp
                      exact ⟨Ext.refl _, rfl⟩
                    · obtain ⟨h0, -⟩ := hs
                      replace h0 : ρ (.tmp 157) = .int .i64 (r) := h0
                      go_simp
                      exact (within_any _ _ _ _).mono fun _ _ ⟨h1, h2⟩ => ⟨_, h1, h2 ▸ Ext.refl _, by rw [HB3.out]; rfl⟩
                    · obtain ⟨h0, -⟩ := hs
                      replace h0 : ρ (.tmp 158) = .bool (true) := h0
                      go_simp
                      first | exact ⟨Ext.refl _, rfl⟩ | exact Ext.refl _
                    · obtain ⟨h0, -⟩ := hs
                      replace h0 : ρ (.tmp 159) = .bool (false) := h0
                      go_simp
                      first | exact ⟨Ext.refl _, rfl⟩ | exact Ext.refl _
                    · obtain ⟨h0, h1, -⟩ := hs
                      replace h0 : ρ (.tmp 14) = .pointer (some ⟨b14, 0, none⟩) := h0
                      replace h1 : ρ (.tmp 160) = .bool (false) := h1
                      go_simp
                      exact ⟨Ext.refl _, rfl⟩
                    · obtain ⟨h0, h1, -⟩ := hs
                      replace h0 : ρ (.tmp 161) = .pointer (some ⟨b14, 2, none⟩) := h0
                      replace h1 : ρ (.tmp 160) = .bool (false) := h1
                      go_simp
                      exact ⟨Ext.refl _, rfl⟩
                    · obtain ⟨h0, h1, -⟩ := hs
                      replace h0 : ρ (.tmp 162) = .pointer (some ⟨b14, 2, none⟩) := h0
                      replace h1 : ρ (.tmp 160) = .bool (false) := h1
                      have hc0 : W.cell? ⟨b14, 2, none⟩ = some (.int .i64 (a3)) := hF.cell (by assumption)
                      go_simp
                      exact ⟨Ext.refl _, rfl⟩
                    · obtain ⟨h0, h1, -⟩ := hs
                      replace h0 : ρ (.tmp 163) = .int .i64 (a3) := h0
                      replace h1 : ρ (.tmp 160) = .bool (false) := h1
                      go_simp
                      exact (within_any _ _ _ _).mono fun _ _ ⟨h1, h2⟩ => ⟨_, h1, h2 ▸ Ext.refl _, by rw [HB4.out]; rfl⟩
                    · obtain ⟨h0, h1, -⟩ := hs
                      replace h0 : ρ (.tmp 164) = .bool (true) := h0
                      replace h1 : ρ (.tmp 160) = .bool (false) := h1
                      go_simp
                      first | exact ⟨Ext.refl _, rfl⟩ | exact Ext.refl _
                    · obtain ⟨h0, h1, -⟩ := hs
                      replace h0 : ρ (.tmp 160) = .bool (false) := h0
                      replace h1 : ρ (.tmp 165) = .bool (false) := h1
                      go_simp
                      first | exact ⟨Ext.refl _, rfl⟩ | exact Ext.refl _
                    · obtain ⟨h0, -⟩ := hs
                      replace h0 : ρ (.tmp 166) = .bool (false) := h0
                      go_simp
                      first | exact ⟨Ext.refl _, rfl⟩ | exact Ext.refl _
                    · obtain ⟨h0, h1, -⟩ := hs
                      replace h0 : ρ (.tmp 14) = .pointer (some ⟨b14, 0, none⟩) := h0
                      replace h1 : ρ (.tmp 167) = .bool (false) := h1
                      go_simp
                      exact ⟨Ext.refl _, rfl⟩
                    · obtain ⟨h0, h1, -⟩ := hs
                      replace h0 : ρ (.tmp 168) = .pointer (some ⟨b14, 2, none⟩) := h0
                      replace h1 : ρ (.tmp 167) = .bool (false) := h1
                      go_simp
                      exact ⟨Ext.refl _, rfl⟩
                    · obtain ⟨h0, h1, -⟩ := hs
                      replace h0 : ρ (.tmp 169) = .pointer (some ⟨b14, 3, none⟩) := h0
                      replace h1 : ρ (.tmp 167) = .bool (false) := h1
                      have hc0 : W.cell? ⟨b14, 3, none⟩ = some (.int .i64 (a4)) := hF.cell (by assumption)
                      go_simp
                      exact ⟨Ext.refl _, rfl⟩
                    · obtain ⟨h0, h1, -⟩ := hs
                      replace h0 : ρ (.tmp 170) = .int .i64 (a4) := h0
                      replace h1 : ρ (.tmp 167) = .bool (false) := h1
                      go_simp
                      exact (within_any _ _ _ _).mono fun _ _ ⟨h1, h2⟩ => ⟨_, h1, h2 ▸ Ext.refl _, by rw [HB5.out]; rfl⟩
                    · obtain ⟨h0, h1, -⟩ := hs
                      replace h0 : ρ (.tmp 171) = .bool (true) := h0
                      replace h1 : ρ (.tmp 167) = .bool (false) := h1
                      go_simp
                      first | exact ⟨Ext.refl _, rfl⟩ | exact Ext.refl _
                    · obtain ⟨h0, h1, -⟩ := hs
                      replace h0 : ρ (.tmp 167) = .bool (false) := h0
                      replace h1 : ρ (.tmp 172) = .bool (false) := h1
                      go_simp
                      first | exact ⟨Ext.refl _, rfl⟩ | exact Ext.refl _
                    · obtain ⟨h0, -⟩ := hs
                      replace h0 : ρ (.tmp 173) = .bool (false) := h0
                      go_simp
                      first | exact ⟨Ext.refl _, rfl⟩ | exact Ext.refl _
                    · obtain ⟨h0, h1, -⟩ := hs
                      replace h0 : ρ (.tmp 18) = .int .i64 (r) := h0
                      replace h1 : ρ (.tmp 174) = .bool (false) := h1
                      go_simp
                      exact ⟨Ext.refl _, rfl⟩
                    · obtain ⟨h0, h1, -⟩ := hs
                      replace h0 : ρ (.tmp 14) = .pointer (some ⟨b14, 0, none⟩) := h0
                      replace h1 : ρ (.tmp 174) = .bool (false) := h1
                      go_simp
                      exact ⟨Ext.refl _, rfl⟩
                    · obtain ⟨h0, h1, -⟩ := hs
                      replace h0 : ρ (.tmp 176) = .pointer (some ⟨b14, 2, none⟩) := h0
                      replace h1 : ρ (.tmp 174) = .bool (false) := h1
                      go_simp
                      exact ⟨Ext.refl _, rfl⟩
                    · obtain ⟨h0, h1, -⟩ := hs
                      replace h0 : ρ (.tmp 177) = .pointer (some ⟨b14, 2, none⟩) := h0
                      replace h1 : ρ (.tmp 174) = .bool (false) := h1
                      have hc0 : W.cell? ⟨b14, 2, none⟩ = some (.int .i64 (a3)) := hF.cell (by assumption)
                      go_simp
                      exact ⟨Ext.refl _, rfl⟩
                    · obtain ⟨h0, h1, h2, -⟩ := hs
                      replace h0 : ρ (.tmp 175) = .int .i64 (r) := h0
                      replace h1 : ρ (.tmp 178) = .int .i64 (a3) := h1
                      replace h2 : ρ (.tmp 174) = .bool (false) := h2
                      have hw : IntKind.i64.wrap (r * a3) = d1 := HM3.out
                      go_simp
                      exact ⟨Ext.refl _, rfl⟩
                    · obtain ⟨h0, h1, -⟩ := hs
                      replace h0 : ρ (.tmp 18) = .int .i64 (r) := h0
                      replace h1 : ρ (.tmp 174) = .bool (false) := h1
                      go_simp
                      exact ⟨Ext.refl _, rfl⟩
                    · obtain ⟨h0, h1, -⟩ := hs
                      replace h0 : ρ (.tmp 14) = .pointer (some ⟨b14, 0, none⟩) := h0
                      replace h1 : ρ (.tmp 174) = .bool (false) := h1
                      go_simp
                      exact ⟨Ext.refl _, rfl⟩
                    · obtain ⟨h0, h1, -⟩ := hs
                      replace h0 : ρ (.tmp 181) = .pointer (some ⟨b14, 2, none⟩) := h0
                      replace h1 : ρ (.tmp 174) = .bool (false) := h1
                      go_simp
                      exact ⟨Ext.refl _, rfl⟩
                    · obtain ⟨h0, h1, -⟩ := hs
                      replace h0 : ρ (.tmp 182) = .pointer (some ⟨b14, 3, none⟩) := h0
                      replace h1 : ρ (.tmp 174) = .bool (false) := h1
                      have hc0 : W.cell? ⟨b14, 3, none⟩ = some (.int .i64 (a4)) := hF.cell (by assumption)
                      go_simp
                      exact ⟨Ext.refl _, rfl⟩
                    · obtain ⟨h0, h1, h2, -⟩ := hs
                      replace h0 : ρ (.tmp 180) = .int .i64 (r) := h0
                      replace h1 : ρ (.tmp 183) = .int .i64 (a4) := h1
                      replace h2 : ρ (.tmp 174) = .bool (false) := h2
                      have hw : IntKind.i64.wrap (r * a4) = d2 := HM4.out
                      go_simp
                      exact ⟨Ext.refl _, rfl⟩
                    · obtain ⟨h0, h1, h2, -⟩ := hs
                      replace h0 : ρ (.tmp 179) = .int .i64 (d1) := h0
                      replace h1 : ρ (.tmp 184) = .int .i64 (d2) := h1
                      replace h2 : ρ (.tmp 174) = .bool (false) := h2
                      go_simp
                      first | exact ⟨Ext.refl _, rfl⟩ | exact Ext.refl _
                    · obtain ⟨h0, h1, -⟩ := hs
                      replace h0 : ρ (.tmp 8) = .slice (some ⟨g8, 0, none⟩) (n + 1) c8 := h0
                      replace h1 : ρ (.tmp 174) = .bool (false) := h1
                      go_simp
                      exact ⟨Ext.refl _, rfl⟩
                    · obtain ⟨h0, h1, -⟩ := hs
                      replace h0 : ρ (.tmp 186) = .slice (some ⟨g8, 0, none⟩) (n + 1) c8 := h0
                      replace h1 : ρ (.tmp 174) = .bool (false) := h1
                      have hki : (0 : Int) < (n : Int) + 1 := by omega
                      go_simp
                      exact ⟨Ext.refl _, rfl⟩
                    · obtain ⟨h0, h1, -⟩ := hs
                      replace h0 : ρ (.tmp 187) = .pointer (some ⟨g8, 0, none⟩) := h0
                      replace h1 : ρ (.tmp 174) = .bool (false) := h1
                      have hc0 : W.cell? ⟨g8, 0, none⟩ = some (.int .i64 (d1)) := hF.cell (by assumption)
                      have hc1 : W.cell? ⟨g8, 1, none⟩ = some (.int .i64 (d2)) := hF.cell (by assumption)
                      go_simp
                      exact ⟨Ext.refl _, rfl⟩
                    · obtain ⟨h0, h1, h2, -⟩ := hs
                      replace h0 : ρ (.tmp 185) = .agg #[.int .i64 (d1), .int .i64 (d2)] := h0
                      replace h1 : ρ (.tmp 188) = .agg #[.int .i64 (d1), .int .i64 (d2)] := h1
                      replace h2 : ρ (.tmp 174) = .bool (false) := h2
                      go_simp
                      first | exact ⟨Ext.refl _, rfl⟩ | exact Ext.refl _
                    · obtain ⟨h0, h1, -⟩ := hs
                      replace h0 : ρ (.tmp 174) = .bool (false) := h0
                      replace h1 : ρ (.tmp 189) = .bool (false) := h1
                      go_simp
                      first | exact ⟨Ext.refl _, rfl⟩ | exact Ext.refl _
                  · intro fv W10 hF hs
                    obtain ⟨-, -, -, -, -, -, -, -, -, -, -, -, -, -, -, -, -, -, -, -, -, -, -, -, -, -, -, -, -, -, -, -, -, h190, -⟩ := hs
                    replace h190 : fv 190 = .bool (false) := h190
                    simp only [fin, List.filterMap]
                    go_simp
                    have X410 := Lib.hid (X49.out.trans hF)
                    have XR10 := Lib.hid (show Ext wr W10 from XS.out.trans (XS2.out.trans ((show Ext W8 W9 from XW89.out).trans hF)))
                    replace y0 := hF.cell y0
                    replace y1 := hF.cell y1
                    have hm1 := HM1.out
                    have hm2 := HM2.out
                    have hwb := X410.out.size
                    clear hF h190 z0 z1 z2 z3 y2 y3 x0 x1
                    go_wp2_with (first
                      | (go_at_call 40; refine (within_any _ _ _ _).mono ?_; rintro e w' ⟨rfl, rfl⟩; first | rw [HB6.out] | rw [HB7.out])
                      | (at_builtin; refine wpList_append_own _ rfl _ _ 53 rfl W4.heap.size 65 i0 (.agg #[.int .i64 0, .int .i64 0]) 2 16 Try.underlying53 hi0 HI0.out hz1 hz2 rfl (by decide) _ _ _ rfl (((own_ext HO.out XR10.out).alloc _).alloc _) ⟨W10.heap.size + 1, 0, none⟩ 1 1 [.int .i64 n1, .int .i64 n2] rfl rfl (news_of (Blk.newAt (W10.alloc (.cells #[.int .i64 n1, .int .i64 n2] 65)) 65 #[.int .i64 n1, .int .i64 n2] (g := W10.heap.size + 1) (by simp))) (by simp [Value.oneCell']) (by unfold maxLen; omega) (by omega) (by simp; omega) ?_; intro v' w1 hown' hgrow _; have HO1 := Lib.hid hown'; have HE1 := Lib.hid (Ext.grownBy (X410.out.trans ((Ext.alloc _ _).trans (Ext.alloc _ _))) hgrow (fun g hg => own_base HO.out hg)); clear hown' hgrow))
                    go_roundw
                    case rel => exact ⟨k + 1, _, by omega, by go_num, rfl, by rw [HTK.out]; exact HO1.out, HE1.out⟩
                    case measure => simp [intOf]; omega
          · obtain rfl : n = k := by omega
            have hown := HO.out
            rw [List.take_of_length_le (by rw [HNL.out]; omega)] at hown
            obtain ⟨gv, cv, rfl, _, hgv⟩ := gs_own HNL.out h1 (by omega) hown
            have HGV := Lib.hid hgv
            clear hown hgv
            obtain ⟨WL, rfl⟩ : ∃ W, W = wr := ⟨_, rfl⟩
            obtain ⟨q20, hq20⟩ : ∃ q, q = WL.heap.size := ⟨_, rfl⟩
            have HQ20 := Lib.hid hq20
            go_wp2
            rw [← hq20]
            clear hq20
            go_loopw [21] (fun a wr2 => ∃ k : Nat, k ≤ n ∧ a = .int .i64 ((k : Int) - 1) ∧ Blk wr2 q20 65 #[.int .i64 (cu k).re, .int .i64 (cu k).im] ∧ Ext WL wr2) (fun a _ => (intOf a + 1).toNat)
            case atStart => exact ⟨n, Nat.le_refl _, rfl, by rw [HCE.out]; exact Blk.newAt _ _ _ HQ20.out, Ext.alloc _ _⟩
            case round =>
              obtain ⟨kx, hkx, rfl, hb20, hx⟩ := hrel
              have HB20 := Lib.hid hb20
              have HX := Lib.hid hx
              clear hb20 hx
              rcases Nat.eq_zero_or_pos kx with h0 | h0
              · subst h0
                go_wp2
                go_ret
                exact ⟨rfl, E0.out.trans (X4.out.trans (HE.out.trans HX.out))⟩
              · obtain ⟨j, rfl⟩ : ∃ j, kx = j + 1 := ⟨kx - 1, by omega⟩
                have hj1 : ((j + 1 : Nat) : Int) - 1 = (j : Int) := by omega
                rw [hj1]
                clear hj1
                have hjn : j < n := by omega
                obtain ⟨s, hs⟩ : ∃ s, xs[j]? = some s := ⟨_, List.getElem?_eq_getElem (by rw [HN.out]; exact hjn)⟩
                obtain ⟨hrx, hx1, hx2⟩ := HRX.out j s hs
                have hcs := HCS.out j s hs
                have hck := HCK.out j s hs
                have hsg := (HOK.out s (List.mem_of_getElem? hs)).1
                have hcb := HCB.out (j + 1) (by omega)
                have hcb1 := HCB.out j (by omega)
                have hnb := HNB.out j hjn
                obtain ⟨b, o, hA1, _, hc⟩ := HS.out.2 j s hs
                subst hA1
                obtain ⟨gr, ro, hAr, _, hcr⟩ := HRR.out.2 j _ hrx
                subst hAr
                have XW := Lib.hid (X4.out.trans (HE.out.trans HX.out))
                have z4 : wr.cell? ⟨b, o + j * 3, none⟩ = some (.int .i64 s.g) := (E0.out.trans XW.out).cell (hc 0 _ rfl)
                have HZ5 := Lib.hid (show ∀ W, Ext W4 W → W.cell? ⟨gr, ro + j, none⟩ = some (.int .i64 (react f (hot.getD j false) s)) from fun W e => e.cell (by have := hcr 0 _ rfl; simpa using this))
                have HZN := Lib.hid (fun W (e : Ext WL W) => row_g (HGV.out.ext e) j _ (HNA.out j hjn))
                have HZM := Lib.hid (fun jj (hj : jj < n) W (e : Ext WL W) => row_g (HGV.out.ext e) jj _ (HNA.out jj hj))
                obtain ⟨c, hcc⟩ : ∃ c, c = cu (j + 1) := ⟨_, rfl⟩
                rw [← hcc] at HB20 hcs hcb
                obtain ⟨c1, c2⟩ := c
                obtain ⟨kk, hkk⟩ : ∃ c, c = cu j := ⟨_, rfl⟩
                rw [← hkk] at hcs hck hcb1
                obtain ⟨k1, k2⟩ := kk
                have HKK := Lib.hid hkk
                obtain ⟨N, hN⟩ : ∃ c, c = nd j := ⟨_, rfl⟩
                rw [← hN] at hcs hck hnb HZN
                obtain ⟨n1, n2⟩ := N
                obtain ⟨P, hP⟩ : ∃ c, c = bf j := ⟨_, rfl⟩
                rw [← hP] at hck
                obtain ⟨p1, p2⟩ := P
                have HPP := Lib.hid hP
                generalize react f (hot.getD j false) s = x at *
                generalize s.g = sg at *
                simp only [Bd] at hcb hcb1 hnb
                simp only [subG, G.mk.injEq] at hck
                obtain ⟨hck1, hck2⟩ := hck
                have hpb : (-200000000 ≤ p1 ∧ p1 ≤ 200000000) ∧ (-200000000 ≤ p2 ∧ p2 ≤ 200000000) := by
                  rcases Nat.eq_zero_or_pos j with h | h
                  · have := HPP.out
                    rw [h, HB0.out] at this
                    simp only [G.mk.injEq] at this
                    omega
                  · obtain ⟨jj, rfl⟩ : ∃ jj, j = jj + 1 := ⟨j - 1, by omega⟩
                    have := HPP.out
                    rw [HBS.out] at this
                    have h2 := HNB.out jj (by omega)
                    rw [← this] at h2
                    exact h2
                have b1 := mul_bd (n := sg) (x := n1) (N := 4) (B := 200000000) (by omega) hsg.2 (by omega) (by omega)
                have b2 := mul_bd (n := sg) (x := n2) (N := 4) (B := 200000000) (by omega) hsg.2 (by omega) (by omega)
                obtain ⟨e1, he1⟩ : ∃ e, e = c1 + sg * n1 := ⟨_, rfl⟩
                obtain ⟨e2, he2⟩ : ∃ e, e = c2 + sg * n2 := ⟨_, rfl⟩
                obtain ⟨m1, hm1⟩ : ∃ e, e = p1 - n1 := ⟨_, rfl⟩
                obtain ⟨m2, hm2⟩ : ∃ e, e = p2 - n2 := ⟨_, rfl⟩
                have HGA := Lib.hid (fun W => gaddB_any c1 c2 (sg * n1) (sg * n2) (by unfold Big; omega) (by unfold Big; omega) (by unfold Big; omega) (by unfold Big; omega) W)
                rw [← he1, ← he2] at HGA
                have HGC := Lib.hid (fun W => gsubB_any p1 p2 n1 n2 (by unfold Big; omega) (by unfold Big; omega) (by unfold Big; omega) (by unfold Big; omega) W)
                rw [← hm1, ← hm2] at HGC
                have HS1 := Lib.hid (show IntKind.i64.wrap (sg * n1) = sg * n1 from IntWalk.i64_in _ (by omega))
                have HS2 := Lib.hid (show IntKind.i64.wrap (sg * n2) = sg * n2 from IntWalk.i64_in _ (by omega))
                have HM1 := Lib.hid (show IntKind.i64.wrap (-x * k2) = m1 by rw [← hck1, ← hm1]; exact IntWalk.i64_in _ (by omega))
                have HM2 := Lib.hid (show IntKind.i64.wrap (x * k1) = m2 by rw [← hck2, ← hm2]; exact IntWalk.i64_in _ (by omega))
                have hdb := HDB.out
                have z6 : wr.cell? ⟨q20, 0, none⟩ = some (.int .i64 c1) := HB20.out.cell 0
                have z7 : wr.cell? ⟨q20, 1, none⟩ = some (.int .i64 c2) := HB20.out.cell 1
                have z8 := (HZN.out _ HX.out).1
                have z9 := (HZN.out _ HX.out).2
                obtain ⟨z0, z1, z2, z3⟩ := FA.out _ XW.out
                have hki : (j : Int) < (n : Int) := by omega
                by_cases hje : j = i
                · rw [if_pos hje] at hcs
                  simp only [plusG, subG, G.mk.injEq] at hcs
                  rw [← he1, ← he2] at hcs
                  have HGS := Lib.hid (fun W => gsubB_any e1 e2 d1 d2 (by unfold Big; omega) (by unfold Big; omega) (by unfold Big; omega) (by unfold Big; omega) W)
                  rw [← hcs.1, ← hcs.2] at HGS
                  clear hrx hck1 hck2 hsg hcb hcb1 hnb hc hcr hcc hkk hN hP hpb b1 b2 he1 he2 hm1 hm2 hdb hs hcs
                  rcases Nat.eq_zero_or_pos j with h0' | h0'
                  · have hpz := HPP.out
                    rw [h0', HB0.out] at hpz
                    simp only [G.mk.injEq] at hpz
                    obtain ⟨rfl, rfl⟩ := hpz
                    have hji : ((j : Int) == (i : Int)) = true := by simp [hje]
                    have hj0 : decide ((0 : Int) < (j : Int)) = false := by simp; omega
                    have hj1 : (j : Int) ≤ 0 := by omega
                    clear hje h0'
                    go_wp2
                    refine wp_region_part 17 [some 228, some 229, some 230, some 231, some 232, some 233, some 234, some 235, some 236, some 237, some 238, some 239, some 240, some 241, some 242, some 243, some 244] [[20], [22], [12], [21], [230, 231], [232], [233], [229, 234], [22], [12], [21], [237, 238], [239], [240], [236, 241], [235, 242], [228, 243]]
                      [Is (.agg #[.int .i64 (c1), .int .i64 (c2)]), Is (.int .i64 (sg)), Is (.slice (some ⟨gv, 0, none⟩) n cv), Is (.int .i64 ((j : Int))), Is (.pointer (some ⟨gv, j * 2, none⟩)), Is (.pointer (some ⟨gv, j * 2, none⟩)), Is (.int .i64 (n1)), Is (.int .i64 (sg * n1)), Is (.int .i64 (sg)), Is (.slice (some ⟨gv, 0, none⟩) n cv), Is (.int .i64 ((j : Int))), Is (.pointer (some ⟨gv, j * 2, none⟩)), Is (.pointer (some ⟨gv, j * 2 + 1, none⟩)), Is (.int .i64 (n2)), Is (.int .i64 (sg * n2)), Is (.agg #[.int .i64 (sg * n1), .int .i64 (sg * n2)]), Is (.agg #[.int .i64 (e1), .int .i64 (e2)])]
                      (by kernel_rfl) (by kernel_rfl) (by kernel_rfl) (by kernel_rfl) (by kernel_rfl) (by kernel_rfl) (by kernel_rfl) Ext (fun W => Ext wr W)
                      (fun W _ => Ext.refl W) (fun W W' h k => h.trans k) ?_ (Ext.drew _) ?_ ?_
                    · repeat (refine ⟨fun _ _ _ _ k h => (by first | exact h | exact (by first | exact LadV.ext h k | exact DrvV.ext h k | exact Fresh84.ext h k | exact IntsAt.ext h k | exact AsV.ext h k | exact TupV.ext (fun _ _ _ h k => by first | exact IntsAt.ext h k | exact AsV.ext h k) h k)), ?_⟩)
                      exact trivial
                    · refine ⟨?_, ?_, ?_, ?_, ?_, ?_, ?_, ?_, ?_, ?_, ?_, ?_, ?_, ?_, ?_, ?_, ?_, trivial⟩
                      all_goals intro ρ W ⟨kc, kg, kf⟩ hF hs
                      · obtain ⟨h0, -⟩ := hs
                        replace h0 : ρ (.tmp 20) = .pointer (some ⟨q20, 0, none⟩) := h0
                        have hc0 : W.cell? ⟨q20, 0, none⟩ = some (.int .i64 (c1)) := hF.cell (by assumption)
                        have hc1 : W.cell? ⟨q20, 1, none⟩ = some (.int .i64 (c2)) := hF.cell (by assumption)
                        go_simp
                        exact ⟨Ext.refl _, rfl⟩
                      · obtain ⟨h0, -⟩ := hs
                        replace h0 : ρ (.tmp 22) = .int .i64 (sg) := h0
                        go_simp
                        exact ⟨Ext.refl _, rfl⟩
                      · obtain ⟨h0, -⟩ := hs
                        replace h0 : ρ (.tmp 12) = .slice (some ⟨gv, 0, none⟩) n cv := h0
                        go_simp
                        exact ⟨Ext.refl _, rfl⟩
                      · obtain ⟨h0, -⟩ := hs
                        replace h0 : ρ (.tmp 21) = .int .i64 ((j : Int)) := h0
                        go_simp
                        exact ⟨Ext.refl _, rfl⟩
                      · obtain ⟨h0, h1, -⟩ := hs
                        replace h0 : ρ (.tmp 230) = .slice (some ⟨gv, 0, none⟩) n cv := h0
                        replace h1 : ρ (.tmp 231) = .int .i64 ((j : Int)) := h1
                        have hki : (j : Int) < (n : Int) := by omega
                        go_simp
                        exact ⟨Ext.refl _, rfl⟩
                      · obtain ⟨h0, -⟩ := hs
                        replace h0 : ρ (.tmp 232) = .pointer (some ⟨gv, j * 2, none⟩) := h0
                        go_simp
                        exact ⟨Ext.refl _, rfl⟩
                      · obtain ⟨h0, -⟩ := hs
                        replace h0 : ρ (.tmp 233) = .pointer (some ⟨gv, j * 2, none⟩) := h0
                        have hc0 : W.cell? ⟨gv, j * 2, none⟩ = some (.int .i64 (n1)) := hF.cell (by assumption)
                        go_simp
                        exact ⟨Ext.refl _, rfl⟩
                      · obtain ⟨h0, h1, -⟩ := hs
                        replace h0 : ρ (.tmp 229) = .int .i64 (sg) := h0
                        replace h1 : ρ (.tmp 234) = .int .i64 (n1) := h1
                        have hw : IntKind.i64.wrap (sg * n1) = sg * n1 := HS1.out
                        go_simp
                        exact ⟨Ext.refl _, rfl⟩
                      · obtain ⟨h0, -⟩ := hs
                        replace h0 : ρ (.tmp 22) = .int .i64 (sg) := h0
                        go_simp
                        exact ⟨Ext.refl _, rfl⟩
                      · obtain ⟨h0, -⟩ := hs
                        replace h0 : ρ (.tmp 12) = .slice (some ⟨gv, 0, none⟩) n cv := h0
                        go_simp
                        exact ⟨Ext.refl _, rfl⟩
                      · obtain ⟨h0, -⟩ := hs
                        replace h0 : ρ (.tmp 21) = .int .i64 ((j : Int)) := h0
                        go_simp
                        exact ⟨Ext.refl _, rfl⟩
                      · obtain ⟨h0, h1, -⟩ := hs
                        replace h0 : ρ (.tmp 237) = .slice (some ⟨gv, 0, none⟩) n cv := h0
                        replace h1 : ρ (.tmp 238) = .int .i64 ((j : Int)) := h1
                        have hki : (j : Int) < (n : Int) := by omega
                        go_simp
                        exact ⟨Ext.refl _, rfl⟩
                      · obtain ⟨h0, -⟩ := hs
                        replace h0 : ρ (.tmp 239) = .pointer (some ⟨gv, j * 2, none⟩) := h0
                        go_simp
                        exact ⟨Ext.refl _, rfl⟩
                      · obtain ⟨h0, -⟩ := hs
                        replace h0 : ρ (.tmp 240) = .pointer (some ⟨gv, j * 2 + 1, none⟩) := h0
                        have hc0 : W.cell? ⟨gv, j * 2 + 1, none⟩ = some (.int .i64 (n2)) := hF.cell (by assumption)
                        go_simp
                        exact ⟨Ext.refl _, rfl⟩
                      · obtain ⟨h0, h1, -⟩ := hs
                        replace h0 : ρ (.tmp 236) = .int .i64 (sg) := h0
                        replace h1 : ρ (.tmp 241) = .int .i64 (n2) := h1
                        have hw : IntKind.i64.wrap (sg * n2) = sg * n2 := HS2.out
                        go_simp
                        exact ⟨Ext.refl _, rfl⟩
                      · obtain ⟨h0, h1, -⟩ := hs
                        replace h0 : ρ (.tmp 235) = .int .i64 (sg * n1) := h0
                        replace h1 : ρ (.tmp 242) = .int .i64 (sg * n2) := h1
                        go_simp
                        exact ⟨Ext.refl _, rfl⟩
                      · obtain ⟨h0, h1, -⟩ := hs
                        replace h0 : ρ (.tmp 228) = .agg #[.int .i64 (c1), .int .i64 (c2)] := h0
                        replace h1 : ρ (.tmp 243) = .agg #[.int .i64 (sg * n1), .int .i64 (sg * n2)] := h1
                        go_simp
                        exact (HGA.out W).mono fun _ _ ⟨h1, h2⟩ => ⟨_, h1, h2, rfl⟩
                    · intro fv W12 hF hs
                      obtain ⟨-, -, -, -, -, -, -, -, -, -, -, -, -, -, -, -, h244, -⟩ := hs
                      replace h244 : fv 244 = .agg #[.int .i64 (e1), .int .i64 (e2)] := h244
                      simp only [fin, List.filterMap]
                      go_simp
                      have HB12 := Lib.hid (HB20.out.ext hF)
                      have f0 := HB12.out.free 0
                      have f1 := HB12.out.free 1
                      have z6' := hF.cell z6
                      have z7' := hF.cell z7
                      have HB13 := Lib.hid ((HB12.out.setSame 0 (.int .i64 e1)).setSame 1 (.int .i64 e2))
                      have X13 := Lib.hid (show Ext WL ((W12.setCell ⟨q20, 0, none⟩ (.int .i64 e1)).setCell ⟨q20, 1, none⟩ (.int .i64 e2)) from Ext.set (Ext.set (HX.out.trans hF) (by rw [HQ20.out]; exact Nat.le_refl _) _) (by rw [HQ20.out]; exact Nat.le_refl _) _)
                      clear z0 z1 z2 z3 z4 z6 z7 h244
                      clear hF
                      go_wp2
                      generalize (W12.setCell ⟨q20, 0, none⟩ (.int .i64 e1)).setCell ⟨q20, 1, none⟩ (.int .i64 e2) = W13 at *
                      clear f0 f1 z6' z7'
                      obtain ⟨x0, x1⟩ := HXD.out _ (HE.out.trans X13.out)
                      have y0 : W13.cell? ⟨q20, 0, none⟩ = some (.int .i64 e1) := by have := HB13.out.cell 0; simpa using this
                      have y1 : W13.cell? ⟨q20, 1, none⟩ = some (.int .i64 e2) := by have := HB13.out.cell 1; simpa using this
                      refine wp_region_part 5 [some 248, some 249, some 250, some 251, some 252] [[20], [8], [249], [250], [248, 251]]
                        [Is (.agg #[.int .i64 (e1), .int .i64 (e2)]), Is (.slice (some ⟨g8, 0, none⟩) (n + 1) c8), Is (.pointer (some ⟨g8, 0, none⟩)), Is (.agg #[.int .i64 (d1), .int .i64 (d2)]), Is (.agg #[.int .i64 (k1), .int .i64 (k2)])]
                        (by kernel_rfl) (by kernel_rfl) (by kernel_rfl) (by kernel_rfl) (by kernel_rfl) (by kernel_rfl) (by kernel_rfl) Ext (fun W => Ext W13 W)
                        (fun W _ => Ext.refl W) (fun W W' h k => h.trans k) ?_ (Ext.drew _) ?_ ?_
                      · repeat (refine ⟨fun _ _ _ _ k h => (by first | exact h | exact (by first | exact LadV.ext h k | exact DrvV.ext h k | exact Fresh84.ext h k | exact IntsAt.ext h k | exact AsV.ext h k | exact TupV.ext (fun _ _ _ h k => by first | exact IntsAt.ext h k | exact AsV.ext h k) h k)), ?_⟩)
                        exact trivial
                      · refine ⟨?_, ?_, ?_, ?_, ?_, trivial⟩
                        all_goals intro ρ W ⟨kc, kg, kf⟩ hF hs
                        · obtain ⟨h0, -⟩ := hs
                          replace h0 : ρ (.tmp 20) = .pointer (some ⟨q20, 0, none⟩) := h0
                          have hc0 : W.cell? ⟨q20, 0, none⟩ = some (.int .i64 (e1)) := hF.cell (by assumption)
                          have hc1 : W.cell? ⟨q20, 1, none⟩ = some (.int .i64 (e2)) := hF.cell (by assumption)
                          go_simp
                          exact ⟨Ext.refl _, rfl⟩
                        · obtain ⟨h0, -⟩ := hs
                          replace h0 : ρ (.tmp 8) = .slice (some ⟨g8, 0, none⟩) (n + 1) c8 := h0
                          go_simp
                          exact ⟨Ext.refl _, rfl⟩
                        · obtain ⟨h0, -⟩ := hs
                          replace h0 : ρ (.tmp 249) = .slice (some ⟨g8, 0, none⟩) (n + 1) c8 := h0
                          have hki : (0 : Int) < (n : Int) + 1 := by omega
                          go_simp
                          exact ⟨Ext.refl _, rfl⟩
                        · obtain ⟨h0, -⟩ := hs
                          replace h0 : ρ (.tmp 250) = .pointer (some ⟨g8, 0, none⟩) := h0
                          have hc0 : W.cell? ⟨g8, 0, none⟩ = some (.int .i64 (d1)) := hF.cell (by assumption)
                          have hc1 : W.cell? ⟨g8, 1, none⟩ = some (.int .i64 (d2)) := hF.cell (by assumption)
                          go_simp
                          exact ⟨Ext.refl _, rfl⟩
                        · obtain ⟨h0, h1, -⟩ := hs
                          replace h0 : ρ (.tmp 248) = .agg #[.int .i64 (e1), .int .i64 (e2)] := h0
                          replace h1 : ρ (.tmp 251) = .agg #[.int .i64 (d1), .int .i64 (d2)] := h1
                          go_simp
                          exact (HGS.out W).mono fun _ _ ⟨h1, h2⟩ => ⟨_, h1, h2, rfl⟩
                      · intro fv W14 hF hs
                        obtain ⟨-, -, -, -, h252, -⟩ := hs
                        replace h252 : fv 252 = .agg #[.int .i64 (k1), .int .i64 (k2)] := h252
                        simp only [fin, List.filterMap]
                        go_simp
                        have HB14 := Lib.hid (HB13.out.ext hF)
                        have f0 := HB14.out.free 0
                        have f1 := HB14.out.free 1
                        have z6' := hF.cell y0
                        have z7' := hF.cell y1
                        have HB15 := Lib.hid ((HB14.out.setSame 0 (.int .i64 k1)).setSame 1 (.int .i64 k2))
                        have X15 := Lib.hid (show Ext WL ((W14.setCell ⟨q20, 0, none⟩ (.int .i64 k1)).setCell ⟨q20, 1, none⟩ (.int .i64 k2)) from Ext.set (Ext.set (X13.out.trans hF) (by rw [HQ20.out]; exact Nat.le_refl _) _) (by rw [HQ20.out]; exact Nat.le_refl _) _)
                        clear x0 x1 y0 y1 h252
                        clear hF
                        have X16 := Lib.hid (show Ext WL (((W14.setCell ⟨q20, 0, none⟩ (.int .i64 k1)).setCell ⟨q20, 1, none⟩ (.int .i64 k2)).alloc (.cells #[.int .i64 0, .int .i64 0] 65)) from X15.out.trans (Ext.alloc _ _))
                        have HB20n := Lib.hid (HB15.out.alloc (.cells #[.int .i64 0, .int .i64 0] 65))
                        have HB23 := Lib.hid (Blk.newAt ((W14.setCell ⟨q20, 0, none⟩ (.int .i64 k1)).setCell ⟨q20, 1, none⟩ (.int .i64 k2)) 65 #[.int .i64 0, .int .i64 0] (g := W14.heap.size) (by simp))
                        go_wp2
                        clear f0 f1 z6' z7'
                        generalize (((W14.setCell ⟨q20, 0, none⟩ (.int .i64 k1)).setCell ⟨q20, 1, none⟩ (.int .i64 k2)).alloc (.cells #[.int .i64 0, .int .i64 0] 65)) = W16 at *
                        generalize W14.heap.size = q23 at *
                        have b23 : Blk W16 q23 65 #[.int .i64 0, .int .i64 0] := HB23.out
                        have b20 : Blk W16 q20 65 #[.int .i64 k1, .int .i64 k2] := HB20n.out
                        obtain ⟨z8, z9⟩ := HZN.out _ X16.out
                        have z5 := HZ5.out _ (HE.out.trans X16.out)
                        have y0 : W16.cell? ⟨q23, 0, none⟩ = some (.int .i64 0) := b23.cell 0
                        have y1 : W16.cell? ⟨q23, 1, none⟩ = some (.int .i64 0) := b23.cell 1
                        have y2 : W16.cell? ⟨q20, 0, none⟩ = some (.int .i64 k1) := b20.cell 0
                        have y3 : W16.cell? ⟨q20, 1, none⟩ = some (.int .i64 k2) := b20.cell 1
                        clear b23
                        refine wp_region_each [some 261, some 262, some 263, some 264, some 265, some 266, some 267, some 268, some 269, some 270, some 271, some 272, some 273, some 274, some 275, some 276, some 277, some 278, some 279, some 280, some 281, some 282, some 283] [[23], [12], [21], [262, 263], [264], [261, 265], [10], [21], [267, 268], [269], [270], [20], [272], [271, 273], [10], [21], [275, 276], [277], [20], [279], [278, 280], [274, 281], [266, 282]]
                          [Is (.agg #[.int .i64 (0), .int .i64 (0)]), Is (.slice (some ⟨gv, 0, none⟩) n cv), Is (.int .i64 ((j : Int))), Is (.pointer (some ⟨gv, j * 2, none⟩)), Is (.agg #[.int .i64 (n1), .int .i64 (n2)]), Is (.agg #[.int .i64 (m1), .int .i64 (m2)]), Is (.slice (some ⟨gr, ro, none⟩) n cr), Is (.int .i64 ((j : Int))), Is (.pointer (some ⟨gr, ro + j, none⟩)), Is (.int .i64 (x)), Is (.int .i64 (-x)), Is (.pointer (some ⟨q20, 1, none⟩)), Is (.int .i64 (k2)), Is (.int .i64 (m1)), Is (.slice (some ⟨gr, ro, none⟩) n cr), Is (.int .i64 ((j : Int))), Is (.pointer (some ⟨gr, ro + j, none⟩)), Is (.int .i64 (x)), Is (.pointer (some ⟨q20, 0, none⟩)), Is (.int .i64 (k1)), Is (.int .i64 (m2)), Is (.agg #[.int .i64 (m1), .int .i64 (m2)]), Is (.bool (false))]
                          (by kernel_rfl) (by kernel_rfl) (by kernel_rfl) (by kernel_rfl) (by kernel_rfl) Ext (fun W => Ext W16 W)
                          (fun W _ => Ext.refl W) (fun W W' h k => h.trans k) ?_ (Ext.drew _) ?_ ?_
                        · repeat (refine ⟨fun _ _ _ _ k h => (by first | exact h | exact (by first | exact LadV.ext h k | exact DrvV.ext h k | exact Fresh84.ext h k | exact IntsAt.ext h k | exact AsV.ext h k | exact TupV.ext (fun _ _ _ h k => by first | exact IntsAt.ext h k | exact AsV.ext h k) h k)), ?_⟩)
                          exact trivial
                        · refine ⟨?_, ?_, ?_, ?_, ?_, ?_, ?_, ?_, ?_, ?_, ?_, ?_, ?_, ?_, ?_, ?_, ?_, ?_, ?_, ?_, ?_, ?_, ?_, trivial⟩
                          all_goals intro ρ W ⟨kc, kg, kf⟩ hF hs
                          · obtain ⟨h0, -⟩ := hs
                            replace h0 : ρ (.tmp 23) = .pointer (some ⟨q23, 0, none⟩) := h0
                            have hc0 : W.cell? ⟨q23, 0, none⟩ = some (.int .i64 (0)) := hF.cell (by assumption)
                            have hc1 : W.cell? ⟨q23, 1, none⟩ = some (.int .i64 (0)) := hF.cell (by assumption)
                            go_simp
                            exact ⟨Ext.refl _, rfl⟩
                          · obtain ⟨h0, -⟩ := hs
                            replace h0 : ρ (.tmp 12) = .slice (some ⟨gv, 0, none⟩) n cv := h0
                            go_simp
                            exact ⟨Ext.refl _, rfl⟩
                          · obtain ⟨h0, -⟩ := hs
                            replace h0 : ρ (.tmp 21) = .int .i64 ((j : Int)) := h0
                            go_simp
                            exact ⟨Ext.refl _, rfl⟩
                          · obtain ⟨h0, h1, -⟩ := hs
                            replace h0 : ρ (.tmp 262) = .slice (some ⟨gv, 0, none⟩) n cv := h0
                            replace h1 : ρ (.tmp 263) = .int .i64 ((j : Int)) := h1
                            have hki : (j : Int) < (n : Int) := by omega
                            go_simp
                            exact ⟨Ext.refl _, rfl⟩
                          · obtain ⟨h0, -⟩ := hs
                            replace h0 : ρ (.tmp 264) = .pointer (some ⟨gv, j * 2, none⟩) := h0
                            have hc0 : W.cell? ⟨gv, j * 2, none⟩ = some (.int .i64 (n1)) := hF.cell (by assumption)
                            have hc1 : W.cell? ⟨gv, j * 2 + 1, none⟩ = some (.int .i64 (n2)) := hF.cell (by assumption)
                            go_simp
                            exact ⟨Ext.refl _, rfl⟩
                          · obtain ⟨h0, h1, -⟩ := hs
                            replace h0 : ρ (.tmp 261) = .agg #[.int .i64 (0), .int .i64 (0)] := h0
                            replace h1 : ρ (.tmp 265) = .agg #[.int .i64 (n1), .int .i64 (n2)] := h1
                            go_simp
                            exact (HGC.out W).mono fun _ _ ⟨h1, h2⟩ => ⟨_, h1, h2, rfl⟩
                          · obtain ⟨h0, -⟩ := hs
                            replace h0 : ρ (.tmp 10) = .slice (some ⟨gr, ro, none⟩) n cr := h0
                            go_simp
                            exact ⟨Ext.refl _, rfl⟩
                          · obtain ⟨h0, -⟩ := hs
                            replace h0 : ρ (.tmp 21) = .int .i64 ((j : Int)) := h0
                            go_simp
                            exact ⟨Ext.refl _, rfl⟩
                          · obtain ⟨h0, h1, -⟩ := hs
                            replace h0 : ρ (.tmp 267) = .slice (some ⟨gr, ro, none⟩) n cr := h0
                            replace h1 : ρ (.tmp 268) = .int .i64 ((j : Int)) := h1
                            have hki : (j : Int) < (n : Int) := by omega
                            go_simp
                            exact ⟨Ext.refl _, rfl⟩
                          · obtain ⟨h0, -⟩ := hs
                            replace h0 : ρ (.tmp 269) = .pointer (some ⟨gr, ro + j, none⟩) := h0
                            have hc0 : W.cell? ⟨gr, ro + j, none⟩ = some (.int .i64 (x)) := hF.cell (by assumption)
                            go_simp
                            exact ⟨Ext.refl _, rfl⟩
                          · obtain ⟨h0, -⟩ := hs
                            replace h0 : ρ (.tmp 270) = .int .i64 (x) := h0
                            have hw : IntKind.i64.wrap (-x) = -x := IntWalk.i64_in _ (by omega)
                            go_simp
                            first | exact ⟨Ext.refl _, rfl⟩ | exact Ext.refl _
                          · obtain ⟨h0, -⟩ := hs
                            replace h0 : ρ (.tmp 20) = .pointer (some ⟨q20, 0, none⟩) := h0
                            go_simp
                            exact ⟨Ext.refl _, rfl⟩
                          · obtain ⟨h0, -⟩ := hs
                            replace h0 : ρ (.tmp 272) = .pointer (some ⟨q20, 1, none⟩) := h0
                            have hc0 : W.cell? ⟨q20, 1, none⟩ = some (.int .i64 (k2)) := hF.cell (by assumption)
                            go_simp
                            exact ⟨Ext.refl _, rfl⟩
                          · obtain ⟨h0, h1, -⟩ := hs
                            replace h0 : ρ (.tmp 271) = .int .i64 (-x) := h0
                            replace h1 : ρ (.tmp 273) = .int .i64 (k2) := h1
                            have hw : IntKind.i64.wrap (-x * k2) = m1 := HM1.out
                            go_simp
                            exact ⟨Ext.refl _, rfl⟩
                          · obtain ⟨h0, -⟩ := hs
                            replace h0 : ρ (.tmp 10) = .slice (some ⟨gr, ro, none⟩) n cr := h0
                            go_simp
                            exact ⟨Ext.refl _, rfl⟩
                          · obtain ⟨h0, -⟩ := hs
                            replace h0 : ρ (.tmp 21) = .int .i64 ((j : Int)) := h0
                            go_simp
                            exact ⟨Ext.refl _, rfl⟩
                          · obtain ⟨h0, h1, -⟩ := hs
                            replace h0 : ρ (.tmp 275) = .slice (some ⟨gr, ro, none⟩) n cr := h0
                            replace h1 : ρ (.tmp 276) = .int .i64 ((j : Int)) := h1
                            have hki : (j : Int) < (n : Int) := by omega
                            go_simp
                            exact ⟨Ext.refl _, rfl⟩
                          · obtain ⟨h0, -⟩ := hs
                            replace h0 : ρ (.tmp 277) = .pointer (some ⟨gr, ro + j, none⟩) := h0
                            have hc0 : W.cell? ⟨gr, ro + j, none⟩ = some (.int .i64 (x)) := hF.cell (by assumption)
                            go_simp
                            exact ⟨Ext.refl _, rfl⟩
                          · obtain ⟨h0, -⟩ := hs
                            replace h0 : ρ (.tmp 20) = .pointer (some ⟨q20, 0, none⟩) := h0
                            go_simp
                            exact ⟨Ext.refl _, rfl⟩
                          · obtain ⟨h0, -⟩ := hs
                            replace h0 : ρ (.tmp 279) = .pointer (some ⟨q20, 0, none⟩) := h0
                            have hc0 : W.cell? ⟨q20, 0, none⟩ = some (.int .i64 (k1)) := hF.cell (by assumption)
                            go_simp
                            exact ⟨Ext.refl _, rfl⟩
                          · obtain ⟨h0, h1, -⟩ := hs
                            replace h0 : ρ (.tmp 278) = .int .i64 (x) := h0
                            replace h1 : ρ (.tmp 280) = .int .i64 (k1) := h1
                            have hw : IntKind.i64.wrap (x * k1) = m2 := HM2.out
                            go_simp
                            exact ⟨Ext.refl _, rfl⟩
                          · obtain ⟨h0, h1, -⟩ := hs
                            replace h0 : ρ (.tmp 274) = .int .i64 (m1) := h0
                            replace h1 : ρ (.tmp 281) = .int .i64 (m2) := h1
                            go_simp
                            exact ⟨Ext.refl _, rfl⟩
                          · obtain ⟨h0, h1, -⟩ := hs
                            replace h0 : ρ (.tmp 266) = .agg #[.int .i64 (m1), .int .i64 (m2)] := h0
                            replace h1 : ρ (.tmp 282) = .agg #[.int .i64 (m1), .int .i64 (m2)] := h1
                            go_simp
                            first | exact ⟨Ext.refl _, rfl⟩ | exact Ext.refl _
                        · intro fv W17 hF hs
                          obtain ⟨-, -, -, -, -, -, -, -, -, -, -, -, -, -, -, -, -, -, -, -, -, -, h283, -⟩ := hs
                          replace h283 : fv 283 = .bool (false) := h283
                          simp only [fin, List.filterMap]
                          go_simp
                          have hx17 := X16.out.trans hF
                          have hb17 := b20.ext hF
                          clear hF z5 z8 z9 y0 y1 y2 y3 b20
                          go_wp2
                          go_roundw
                          case rel => exact ⟨j, by omega, by first | rfl | go_num, by rw [← HKK.out]; exact hb17, hx17⟩
                          case measure => first | (simp [intOf]; done) | (simp [intOf]; omega)

                  · obtain ⟨jj, hjj⟩ : ∃ jj, j = jj + 1 := ⟨j - 1, by omega⟩
                    have hpz := HPP.out
                    rw [hjj, HBS.out] at hpz
                    have HZP := Lib.hid (fun W (e : Ext WL W) => show W.cell? ⟨gv, (j - 1) * 2, none⟩ = some (.int .i64 p1) ∧ W.cell? ⟨gv, (j - 1) * 2 + 1, none⟩ = some (.int .i64 p2) from by
                      have := HZM.out jj (by omega) W e
                      rw [← hpz] at this
                      rw [show j - 1 = jj by omega]
                      exact this)
                    have hj1 : (1 : Int) ≤ (j : Int) := by omega
                    clear hpz
                    have hji : ((j : Int) == (i : Int)) = true := by simp [hje]
                    have hj0 : decide ((0 : Int) < (j : Int)) = true := by simp; omega
                    clear hje h0' hjj
                    go_wp2
                    refine wp_region_part 17 [some 228, some 229, some 230, some 231, some 232, some 233, some 234, some 235, some 236, some 237, some 238, some 239, some 240, some 241, some 242, some 243, some 244] [[20], [22], [12], [21], [230, 231], [232], [233], [229, 234], [22], [12], [21], [237, 238], [239], [240], [236, 241], [235, 242], [228, 243]]
                      [Is (.agg #[.int .i64 (c1), .int .i64 (c2)]), Is (.int .i64 (sg)), Is (.slice (some ⟨gv, 0, none⟩) n cv), Is (.int .i64 ((j : Int))), Is (.pointer (some ⟨gv, j * 2, none⟩)), Is (.pointer (some ⟨gv, j * 2, none⟩)), Is (.int .i64 (n1)), Is (.int .i64 (sg * n1)), Is (.int .i64 (sg)), Is (.slice (some ⟨gv, 0, none⟩) n cv), Is (.int .i64 ((j : Int))), Is (.pointer (some ⟨gv, j * 2, none⟩)), Is (.pointer (some ⟨gv, j * 2 + 1, none⟩)), Is (.int .i64 (n2)), Is (.int .i64 (sg * n2)), Is (.agg #[.int .i64 (sg * n1), .int .i64 (sg * n2)]), Is (.agg #[.int .i64 (e1), .int .i64 (e2)])]
                      (by kernel_rfl) (by kernel_rfl) (by kernel_rfl) (by kernel_rfl) (by kernel_rfl) (by kernel_rfl) (by kernel_rfl) Ext (fun W => Ext wr W)
                      (fun W _ => Ext.refl W) (fun W W' h k => h.trans k) ?_ (Ext.drew _) ?_ ?_
                    · repeat (refine ⟨fun _ _ _ _ k h => (by first | exact h | exact (by first | exact LadV.ext h k | exact DrvV.ext h k | exact Fresh84.ext h k | exact IntsAt.ext h k | exact AsV.ext h k | exact TupV.ext (fun _ _ _ h k => by first | exact IntsAt.ext h k | exact AsV.ext h k) h k)), ?_⟩)
                      exact trivial
                    · refine ⟨?_, ?_, ?_, ?_, ?_, ?_, ?_, ?_, ?_, ?_, ?_, ?_, ?_, ?_, ?_, ?_, ?_, trivial⟩
                      all_goals intro ρ W ⟨kc, kg, kf⟩ hF hs
                      · obtain ⟨h0, -⟩ := hs
                        replace h0 : ρ (.tmp 20) = .pointer (some ⟨q20, 0, none⟩) := h0
                        have hc0 : W.cell? ⟨q20, 0, none⟩ = some (.int .i64 (c1)) := hF.cell (by assumption)
                        have hc1 : W.cell? ⟨q20, 1, none⟩ = some (.int .i64 (c2)) := hF.cell (by assumption)
                        go_simp
                        exact ⟨Ext.refl _, rfl⟩
                      · obtain ⟨h0, -⟩ := hs
                        replace h0 : ρ (.tmp 22) = .int .i64 (sg) := h0
                        go_simp
                        exact ⟨Ext.refl _, rfl⟩
                      · obtain ⟨h0, -⟩ := hs
                        replace h0 : ρ (.tmp 12) = .slice (some ⟨gv, 0, none⟩) n cv := h0
                        go_simp
                        exact ⟨Ext.refl _, rfl⟩
                      · obtain ⟨h0, -⟩ := hs
                        replace h0 : ρ (.tmp 21) = .int .i64 ((j : Int)) := h0
                        go_simp
                        exact ⟨Ext.refl _, rfl⟩
                      · obtain ⟨h0, h1, -⟩ := hs
                        replace h0 : ρ (.tmp 230) = .slice (some ⟨gv, 0, none⟩) n cv := h0
                        replace h1 : ρ (.tmp 231) = .int .i64 ((j : Int)) := h1
                        have hki : (j : Int) < (n : Int) := by omega
                        go_simp
                        exact ⟨Ext.refl _, rfl⟩
                      · obtain ⟨h0, -⟩ := hs
                        replace h0 : ρ (.tmp 232) = .pointer (some ⟨gv, j * 2, none⟩) := h0
                        go_simp
                        exact ⟨Ext.refl _, rfl⟩
                      · obtain ⟨h0, -⟩ := hs
                        replace h0 : ρ (.tmp 233) = .pointer (some ⟨gv, j * 2, none⟩) := h0
                        have hc0 : W.cell? ⟨gv, j * 2, none⟩ = some (.int .i64 (n1)) := hF.cell (by assumption)
                        go_simp
                        exact ⟨Ext.refl _, rfl⟩
                      · obtain ⟨h0, h1, -⟩ := hs
                        replace h0 : ρ (.tmp 229) = .int .i64 (sg) := h0
                        replace h1 : ρ (.tmp 234) = .int .i64 (n1) := h1
                        have hw : IntKind.i64.wrap (sg * n1) = sg * n1 := HS1.out
                        go_simp
                        exact ⟨Ext.refl _, rfl⟩
                      · obtain ⟨h0, -⟩ := hs
                        replace h0 : ρ (.tmp 22) = .int .i64 (sg) := h0
                        go_simp
                        exact ⟨Ext.refl _, rfl⟩
                      · obtain ⟨h0, -⟩ := hs
                        replace h0 : ρ (.tmp 12) = .slice (some ⟨gv, 0, none⟩) n cv := h0
                        go_simp
                        exact ⟨Ext.refl _, rfl⟩
                      · obtain ⟨h0, -⟩ := hs
                        replace h0 : ρ (.tmp 21) = .int .i64 ((j : Int)) := h0
                        go_simp
                        exact ⟨Ext.refl _, rfl⟩
                      · obtain ⟨h0, h1, -⟩ := hs
                        replace h0 : ρ (.tmp 237) = .slice (some ⟨gv, 0, none⟩) n cv := h0
                        replace h1 : ρ (.tmp 238) = .int .i64 ((j : Int)) := h1
                        have hki : (j : Int) < (n : Int) := by omega
                        go_simp
                        exact ⟨Ext.refl _, rfl⟩
                      · obtain ⟨h0, -⟩ := hs
                        replace h0 : ρ (.tmp 239) = .pointer (some ⟨gv, j * 2, none⟩) := h0
                        go_simp
                        exact ⟨Ext.refl _, rfl⟩
                      · obtain ⟨h0, -⟩ := hs
                        replace h0 : ρ (.tmp 240) = .pointer (some ⟨gv, j * 2 + 1, none⟩) := h0
                        have hc0 : W.cell? ⟨gv, j * 2 + 1, none⟩ = some (.int .i64 (n2)) := hF.cell (by assumption)
                        go_simp
                        exact ⟨Ext.refl _, rfl⟩
                      · obtain ⟨h0, h1, -⟩ := hs
                        replace h0 : ρ (.tmp 236) = .int .i64 (sg) := h0
                        replace h1 : ρ (.tmp 241) = .int .i64 (n2) := h1
                        have hw : IntKind.i64.wrap (sg * n2) = sg * n2 := HS2.out
                        go_simp
                        exact ⟨Ext.refl _, rfl⟩
                      · obtain ⟨h0, h1, -⟩ := hs
                        replace h0 : ρ (.tmp 235) = .int .i64 (sg * n1) := h0
                        replace h1 : ρ (.tmp 242) = .int .i64 (sg * n2) := h1
                        go_simp
                        exact ⟨Ext.refl _, rfl⟩
                      · obtain ⟨h0, h1, -⟩ := hs
                        replace h0 : ρ (.tmp 228) = .agg #[.int .i64 (c1), .int .i64 (c2)] := h0
                        replace h1 : ρ (.tmp 243) = .agg #[.int .i64 (sg * n1), .int .i64 (sg * n2)] := h1
                        go_simp
                        exact (HGA.out W).mono fun _ _ ⟨h1, h2⟩ => ⟨_, h1, h2, rfl⟩
                    · intro fv W12 hF hs
                      obtain ⟨-, -, -, -, -, -, -, -, -, -, -, -, -, -, -, -, h244, -⟩ := hs
                      replace h244 : fv 244 = .agg #[.int .i64 (e1), .int .i64 (e2)] := h244
                      simp only [fin, List.filterMap]
                      go_simp
                      have HB12 := Lib.hid (HB20.out.ext hF)
                      have f0 := HB12.out.free 0
                      have f1 := HB12.out.free 1
                      have z6' := hF.cell z6
                      have z7' := hF.cell z7
                      have HB13 := Lib.hid ((HB12.out.setSame 0 (.int .i64 e1)).setSame 1 (.int .i64 e2))
                      have X13 := Lib.hid (show Ext WL ((W12.setCell ⟨q20, 0, none⟩ (.int .i64 e1)).setCell ⟨q20, 1, none⟩ (.int .i64 e2)) from Ext.set (Ext.set (HX.out.trans hF) (by rw [HQ20.out]; exact Nat.le_refl _) _) (by rw [HQ20.out]; exact Nat.le_refl _) _)
                      clear z0 z1 z2 z3 z4 z6 z7 h244
                      clear hF
                      go_wp2
                      generalize (W12.setCell ⟨q20, 0, none⟩ (.int .i64 e1)).setCell ⟨q20, 1, none⟩ (.int .i64 e2) = W13 at *
                      clear f0 f1 z6' z7'
                      obtain ⟨x0, x1⟩ := HXD.out _ (HE.out.trans X13.out)
                      have y0 : W13.cell? ⟨q20, 0, none⟩ = some (.int .i64 e1) := by have := HB13.out.cell 0; simpa using this
                      have y1 : W13.cell? ⟨q20, 1, none⟩ = some (.int .i64 e2) := by have := HB13.out.cell 1; simpa using this
                      refine wp_region_part 5 [some 248, some 249, some 250, some 251, some 252] [[20], [8], [249], [250], [248, 251]]
                        [Is (.agg #[.int .i64 (e1), .int .i64 (e2)]), Is (.slice (some ⟨g8, 0, none⟩) (n + 1) c8), Is (.pointer (some ⟨g8, 0, none⟩)), Is (.agg #[.int .i64 (d1), .int .i64 (d2)]), Is (.agg #[.int .i64 (k1), .int .i64 (k2)])]
                        (by kernel_rfl) (by kernel_rfl) (by kernel_rfl) (by kernel_rfl) (by kernel_rfl) (by kernel_rfl) (by kernel_rfl) Ext (fun W => Ext W13 W)
                        (fun W _ => Ext.refl W) (fun W W' h k => h.trans k) ?_ (Ext.drew _) ?_ ?_
                      · repeat (refine ⟨fun _ _ _ _ k h => (by first | exact h | exact (by first | exact LadV.ext h k | exact DrvV.ext h k | exact Fresh84.ext h k | exact IntsAt.ext h k | exact AsV.ext h k | exact TupV.ext (fun _ _ _ h k => by first | exact IntsAt.ext h k | exact AsV.ext h k) h k)), ?_⟩)
                        exact trivial
                      · refine ⟨?_, ?_, ?_, ?_, ?_, trivial⟩
                        all_goals intro ρ W ⟨kc, kg, kf⟩ hF hs
                        · obtain ⟨h0, -⟩ := hs
                          replace h0 : ρ (.tmp 20) = .pointer (some ⟨q20, 0, none⟩) := h0
                          have hc0 : W.cell? ⟨q20, 0, none⟩ = some (.int .i64 (e1)) := hF.cell (by assumption)
                          have hc1 : W.cell? ⟨q20, 1, none⟩ = some (.int .i64 (e2)) := hF.cell (by assumption)
                          go_simp
                          exact ⟨Ext.refl _, rfl⟩
                        · obtain ⟨h0, -⟩ := hs
                          replace h0 : ρ (.tmp 8) = .slice (some ⟨g8, 0, none⟩) (n + 1) c8 := h0
                          go_simp
                          exact ⟨Ext.refl _, rfl⟩
                        · obtain ⟨h0, -⟩ := hs
                          replace h0 : ρ (.tmp 249) = .slice (some ⟨g8, 0, none⟩) (n + 1) c8 := h0
                          have hki : (0 : Int) < (n : Int) + 1 := by omega
                          go_simp
                          exact ⟨Ext.refl _, rfl⟩
                        · obtain ⟨h0, -⟩ := hs
                          replace h0 : ρ (.tmp 250) = .pointer (some ⟨g8, 0, none⟩) := h0
                          have hc0 : W.cell? ⟨g8, 0, none⟩ = some (.int .i64 (d1)) := hF.cell (by assumption)
                          have hc1 : W.cell? ⟨g8, 1, none⟩ = some (.int .i64 (d2)) := hF.cell (by assumption)
                          go_simp
                          exact ⟨Ext.refl _, rfl⟩
                        · obtain ⟨h0, h1, -⟩ := hs
                          replace h0 : ρ (.tmp 248) = .agg #[.int .i64 (e1), .int .i64 (e2)] := h0
                          replace h1 : ρ (.tmp 251) = .agg #[.int .i64 (d1), .int .i64 (d2)] := h1
                          go_simp
                          exact (HGS.out W).mono fun _ _ ⟨h1, h2⟩ => ⟨_, h1, h2, rfl⟩
                      · intro fv W14 hF hs
                        obtain ⟨-, -, -, -, h252, -⟩ := hs
                        replace h252 : fv 252 = .agg #[.int .i64 (k1), .int .i64 (k2)] := h252
                        simp only [fin, List.filterMap]
                        go_simp
                        have HB14 := Lib.hid (HB13.out.ext hF)
                        have f0 := HB14.out.free 0
                        have f1 := HB14.out.free 1
                        have z6' := hF.cell y0
                        have z7' := hF.cell y1
                        have HB15 := Lib.hid ((HB14.out.setSame 0 (.int .i64 k1)).setSame 1 (.int .i64 k2))
                        have X15 := Lib.hid (show Ext WL ((W14.setCell ⟨q20, 0, none⟩ (.int .i64 k1)).setCell ⟨q20, 1, none⟩ (.int .i64 k2)) from Ext.set (Ext.set (X13.out.trans hF) (by rw [HQ20.out]; exact Nat.le_refl _) _) (by rw [HQ20.out]; exact Nat.le_refl _) _)
                        clear x0 x1 y0 y1 h252
                        clear hF
                        have X16 := Lib.hid (show Ext WL (((W14.setCell ⟨q20, 0, none⟩ (.int .i64 k1)).setCell ⟨q20, 1, none⟩ (.int .i64 k2)).alloc (.cells #[.int .i64 p1, .int .i64 p2] 65)) from X15.out.trans (Ext.alloc _ _))
                        have HB20n := Lib.hid (HB15.out.alloc (.cells #[.int .i64 p1, .int .i64 p2] 65))
                        have HB23 := Lib.hid (Blk.newAt ((W14.setCell ⟨q20, 0, none⟩ (.int .i64 k1)).setCell ⟨q20, 1, none⟩ (.int .i64 k2)) 65 #[.int .i64 p1, .int .i64 p2] (g := W14.heap.size) (by simp))
                        obtain ⟨v0, v1⟩ := HZP.out _ (X15.out.trans (Ext.alloc ((W14.setCell ⟨q20, 0, none⟩ (.int .i64 k1)).setCell ⟨q20, 1, none⟩ (.int .i64 k2)) (.cells #[.int .i64 0, .int .i64 0] 65)))
                        go_wp2
                        clear f0 f1 z6' z7'
                        generalize (((W14.setCell ⟨q20, 0, none⟩ (.int .i64 k1)).setCell ⟨q20, 1, none⟩ (.int .i64 k2)).alloc (.cells #[.int .i64 p1, .int .i64 p2] 65)) = W16 at *
                        generalize W14.heap.size = q23 at *
                        have b23 : Blk W16 q23 65 #[.int .i64 p1, .int .i64 p2] := HB23.out
                        have b20 : Blk W16 q20 65 #[.int .i64 k1, .int .i64 k2] := HB20n.out
                        obtain ⟨z8, z9⟩ := HZN.out _ X16.out
                        have z5 := HZ5.out _ (HE.out.trans X16.out)
                        have y0 : W16.cell? ⟨q23, 0, none⟩ = some (.int .i64 p1) := b23.cell 0
                        have y1 : W16.cell? ⟨q23, 1, none⟩ = some (.int .i64 p2) := b23.cell 1
                        have y2 : W16.cell? ⟨q20, 0, none⟩ = some (.int .i64 k1) := b20.cell 0
                        have y3 : W16.cell? ⟨q20, 1, none⟩ = some (.int .i64 k2) := b20.cell 1
                        clear b23
                        refine wp_region_each [some 261, some 262, some 263, some 264, some 265, some 266, some 267, some 268, some 269, some 270, some 271, some 272, some 273, some 274, some 275, some 276, some 277, some 278, some 279, some 280, some 281, some 282, some 283] [[23], [12], [21], [262, 263], [264], [261, 265], [10], [21], [267, 268], [269], [270], [20], [272], [271, 273], [10], [21], [275, 276], [277], [20], [279], [278, 280], [274, 281], [266, 282]]
                          [Is (.agg #[.int .i64 (p1), .int .i64 (p2)]), Is (.slice (some ⟨gv, 0, none⟩) n cv), Is (.int .i64 ((j : Int))), Is (.pointer (some ⟨gv, j * 2, none⟩)), Is (.agg #[.int .i64 (n1), .int .i64 (n2)]), Is (.agg #[.int .i64 (m1), .int .i64 (m2)]), Is (.slice (some ⟨gr, ro, none⟩) n cr), Is (.int .i64 ((j : Int))), Is (.pointer (some ⟨gr, ro + j, none⟩)), Is (.int .i64 (x)), Is (.int .i64 (-x)), Is (.pointer (some ⟨q20, 1, none⟩)), Is (.int .i64 (k2)), Is (.int .i64 (m1)), Is (.slice (some ⟨gr, ro, none⟩) n cr), Is (.int .i64 ((j : Int))), Is (.pointer (some ⟨gr, ro + j, none⟩)), Is (.int .i64 (x)), Is (.pointer (some ⟨q20, 0, none⟩)), Is (.int .i64 (k1)), Is (.int .i64 (m2)), Is (.agg #[.int .i64 (m1), .int .i64 (m2)]), Is (.bool (false))]
                          (by kernel_rfl) (by kernel_rfl) (by kernel_rfl) (by kernel_rfl) (by kernel_rfl) Ext (fun W => Ext W16 W)
                          (fun W _ => Ext.refl W) (fun W W' h k => h.trans k) ?_ (Ext.drew _) ?_ ?_
                        · repeat (refine ⟨fun _ _ _ _ k h => (by first | exact h | exact (by first | exact LadV.ext h k | exact DrvV.ext h k | exact Fresh84.ext h k | exact IntsAt.ext h k | exact AsV.ext h k | exact TupV.ext (fun _ _ _ h k => by first | exact IntsAt.ext h k | exact AsV.ext h k) h k)), ?_⟩)
                          exact trivial
                        · refine ⟨?_, ?_, ?_, ?_, ?_, ?_, ?_, ?_, ?_, ?_, ?_, ?_, ?_, ?_, ?_, ?_, ?_, ?_, ?_, ?_, ?_, ?_, ?_, trivial⟩
                          all_goals intro ρ W ⟨kc, kg, kf⟩ hF hs
                          · obtain ⟨h0, -⟩ := hs
                            replace h0 : ρ (.tmp 23) = .pointer (some ⟨q23, 0, none⟩) := h0
                            have hc0 : W.cell? ⟨q23, 0, none⟩ = some (.int .i64 (p1)) := hF.cell (by assumption)
                            have hc1 : W.cell? ⟨q23, 1, none⟩ = some (.int .i64 (p2)) := hF.cell (by assumption)
                            go_simp
                            exact ⟨Ext.refl _, rfl⟩
                          · obtain ⟨h0, -⟩ := hs
                            replace h0 : ρ (.tmp 12) = .slice (some ⟨gv, 0, none⟩) n cv := h0
                            go_simp
                            exact ⟨Ext.refl _, rfl⟩
                          · obtain ⟨h0, -⟩ := hs
                            replace h0 : ρ (.tmp 21) = .int .i64 ((j : Int)) := h0
                            go_simp
                            exact ⟨Ext.refl _, rfl⟩
                          · obtain ⟨h0, h1, -⟩ := hs
                            replace h0 : ρ (.tmp 262) = .slice (some ⟨gv, 0, none⟩) n cv := h0
                            replace h1 : ρ (.tmp 263) = .int .i64 ((j : Int)) := h1
                            have hki : (j : Int) < (n : Int) := by omega
                            go_simp
                            exact ⟨Ext.refl _, rfl⟩
                          · obtain ⟨h0, -⟩ := hs
                            replace h0 : ρ (.tmp 264) = .pointer (some ⟨gv, j * 2, none⟩) := h0
                            have hc0 : W.cell? ⟨gv, j * 2, none⟩ = some (.int .i64 (n1)) := hF.cell (by assumption)
                            have hc1 : W.cell? ⟨gv, j * 2 + 1, none⟩ = some (.int .i64 (n2)) := hF.cell (by assumption)
                            go_simp
                            exact ⟨Ext.refl _, rfl⟩
                          · obtain ⟨h0, h1, -⟩ := hs
                            replace h0 : ρ (.tmp 261) = .agg #[.int .i64 (p1), .int .i64 (p2)] := h0
                            replace h1 : ρ (.tmp 265) = .agg #[.int .i64 (n1), .int .i64 (n2)] := h1
                            go_simp
                            exact (HGC.out W).mono fun _ _ ⟨h1, h2⟩ => ⟨_, h1, h2, rfl⟩
                          · obtain ⟨h0, -⟩ := hs
                            replace h0 : ρ (.tmp 10) = .slice (some ⟨gr, ro, none⟩) n cr := h0
                            go_simp
                            exact ⟨Ext.refl _, rfl⟩
                          · obtain ⟨h0, -⟩ := hs
                            replace h0 : ρ (.tmp 21) = .int .i64 ((j : Int)) := h0
                            go_simp
                            exact ⟨Ext.refl _, rfl⟩
                          · obtain ⟨h0, h1, -⟩ := hs
                            replace h0 : ρ (.tmp 267) = .slice (some ⟨gr, ro, none⟩) n cr := h0
                            replace h1 : ρ (.tmp 268) = .int .i64 ((j : Int)) := h1
                            have hki : (j : Int) < (n : Int) := by omega
                            go_simp
                            exact ⟨Ext.refl _, rfl⟩
                          · obtain ⟨h0, -⟩ := hs
                            replace h0 : ρ (.tmp 269) = .pointer (some ⟨gr, ro + j, none⟩) := h0
                            have hc0 : W.cell? ⟨gr, ro + j, none⟩ = some (.int .i64 (x)) := hF.cell (by assumption)
                            go_simp
                            exact ⟨Ext.refl _, rfl⟩
                          · obtain ⟨h0, -⟩ := hs
                            replace h0 : ρ (.tmp 270) = .int .i64 (x) := h0
                            have hw : IntKind.i64.wrap (-x) = -x := IntWalk.i64_in _ (by omega)
                            go_simp
                            first | exact ⟨Ext.refl _, rfl⟩ | exact Ext.refl _
                          · obtain ⟨h0, -⟩ := hs
                            replace h0 : ρ (.tmp 20) = .pointer (some ⟨q20, 0, none⟩) := h0
                            go_simp
                            exact ⟨Ext.refl _, rfl⟩
                          · obtain ⟨h0, -⟩ := hs
                            replace h0 : ρ (.tmp 272) = .pointer (some ⟨q20, 1, none⟩) := h0
                            have hc0 : W.cell? ⟨q20, 1, none⟩ = some (.int .i64 (k2)) := hF.cell (by assumption)
                            go_simp
                            exact ⟨Ext.refl _, rfl⟩
                          · obtain ⟨h0, h1, -⟩ := hs
                            replace h0 : ρ (.tmp 271) = .int .i64 (-x) := h0
                            replace h1 : ρ (.tmp 273) = .int .i64 (k2) := h1
                            have hw : IntKind.i64.wrap (-x * k2) = m1 := HM1.out
                            go_simp
                            exact ⟨Ext.refl _, rfl⟩
                          · obtain ⟨h0, -⟩ := hs
                            replace h0 : ρ (.tmp 10) = .slice (some ⟨gr, ro, none⟩) n cr := h0
                            go_simp
                            exact ⟨Ext.refl _, rfl⟩
                          · obtain ⟨h0, -⟩ := hs
                            replace h0 : ρ (.tmp 21) = .int .i64 ((j : Int)) := h0
                            go_simp
                            exact ⟨Ext.refl _, rfl⟩
                          · obtain ⟨h0, h1, -⟩ := hs
                            replace h0 : ρ (.tmp 275) = .slice (some ⟨gr, ro, none⟩) n cr := h0
                            replace h1 : ρ (.tmp 276) = .int .i64 ((j : Int)) := h1
                            have hki : (j : Int) < (n : Int) := by omega
                            go_simp
                            exact ⟨Ext.refl _, rfl⟩
                          · obtain ⟨h0, -⟩ := hs
                            replace h0 : ρ (.tmp 277) = .pointer (some ⟨gr, ro + j, none⟩) := h0
                            have hc0 : W.cell? ⟨gr, ro + j, none⟩ = some (.int .i64 (x)) := hF.cell (by assumption)
                            go_simp
                            exact ⟨Ext.refl _, rfl⟩
                          · obtain ⟨h0, -⟩ := hs
                            replace h0 : ρ (.tmp 20) = .pointer (some ⟨q20, 0, none⟩) := h0
                            go_simp
                            exact ⟨Ext.refl _, rfl⟩
                          · obtain ⟨h0, -⟩ := hs
                            replace h0 : ρ (.tmp 279) = .pointer (some ⟨q20, 0, none⟩) := h0
                            have hc0 : W.cell? ⟨q20, 0, none⟩ = some (.int .i64 (k1)) := hF.cell (by assumption)
                            go_simp
                            exact ⟨Ext.refl _, rfl⟩
                          · obtain ⟨h0, h1, -⟩ := hs
                            replace h0 : ρ (.tmp 278) = .int .i64 (x) := h0
                            replace h1 : ρ (.tmp 280) = .int .i64 (k1) := h1
                            have hw : IntKind.i64.wrap (x * k1) = m2 := HM2.out
                            go_simp
                            exact ⟨Ext.refl _, rfl⟩
                          · obtain ⟨h0, h1, -⟩ := hs
                            replace h0 : ρ (.tmp 274) = .int .i64 (m1) := h0
                            replace h1 : ρ (.tmp 281) = .int .i64 (m2) := h1
                            go_simp
                            exact ⟨Ext.refl _, rfl⟩
                          · obtain ⟨h0, h1, -⟩ := hs
                            replace h0 : ρ (.tmp 266) = .agg #[.int .i64 (m1), .int .i64 (m2)] := h0
                            replace h1 : ρ (.tmp 282) = .agg #[.int .i64 (m1), .int .i64 (m2)] := h1
                            go_simp
                            first | exact ⟨Ext.refl _, rfl⟩ | exact Ext.refl _
                        · intro fv W17 hF hs
                          obtain ⟨-, -, -, -, -, -, -, -, -, -, -, -, -, -, -, -, -, -, -, -, -, -, h283, -⟩ := hs
                          replace h283 : fv 283 = .bool (false) := h283
                          simp only [fin, List.filterMap]
                          go_simp
                          have hx17 := X16.out.trans hF
                          have hb17 := b20.ext hF
                          clear hF z5 z8 z9 y0 y1 y2 y3 b20
                          go_wp2
                          go_roundw
                          case rel => exact ⟨j, by omega, by first | rfl | go_num, by rw [← HKK.out]; exact hb17, hx17⟩
                          case measure => first | (simp [intOf]; done) | (simp [intOf]; omega)

                · rw [if_neg hje] at hcs
                  simp only [plusG, G.mk.injEq] at hcs
                  rw [← he1, ← he2] at hcs
                  obtain ⟨rfl, rfl⟩ := hcs
                  clear hrx hck1 hck2 hsg hcb hcb1 hnb hc hcr hcc hkk hN hP hpb b1 b2 he1 he2 hm1 hm2 hdb hs
                  rcases Nat.eq_zero_or_pos j with h0' | h0'
                  · have hpz := HPP.out
                    rw [h0', HB0.out] at hpz
                    simp only [G.mk.injEq] at hpz
                    obtain ⟨rfl, rfl⟩ := hpz
                    have hji : ((j : Int) == (i : Int)) = false := by simp; omega
                    have hj0 : decide ((0 : Int) < (j : Int)) = false := by simp; omega
                    have hj1 : (j : Int) ≤ 0 := by omega
                    clear hje h0'
                    go_wp2
                    refine wp_region_part 17 [some 228, some 229, some 230, some 231, some 232, some 233, some 234, some 235, some 236, some 237, some 238, some 239, some 240, some 241, some 242, some 243, some 244] [[20], [22], [12], [21], [230, 231], [232], [233], [229, 234], [22], [12], [21], [237, 238], [239], [240], [236, 241], [235, 242], [228, 243]]
                      [Is (.agg #[.int .i64 (c1), .int .i64 (c2)]), Is (.int .i64 (sg)), Is (.slice (some ⟨gv, 0, none⟩) n cv), Is (.int .i64 ((j : Int))), Is (.pointer (some ⟨gv, j * 2, none⟩)), Is (.pointer (some ⟨gv, j * 2, none⟩)), Is (.int .i64 (n1)), Is (.int .i64 (sg * n1)), Is (.int .i64 (sg)), Is (.slice (some ⟨gv, 0, none⟩) n cv), Is (.int .i64 ((j : Int))), Is (.pointer (some ⟨gv, j * 2, none⟩)), Is (.pointer (some ⟨gv, j * 2 + 1, none⟩)), Is (.int .i64 (n2)), Is (.int .i64 (sg * n2)), Is (.agg #[.int .i64 (sg * n1), .int .i64 (sg * n2)]), Is (.agg #[.int .i64 (k1), .int .i64 (k2)])]
                      (by kernel_rfl) (by kernel_rfl) (by kernel_rfl) (by kernel_rfl) (by kernel_rfl) (by kernel_rfl) (by kernel_rfl) Ext (fun W => Ext wr W)
                      (fun W _ => Ext.refl W) (fun W W' h k => h.trans k) ?_ (Ext.drew _) ?_ ?_
                    · repeat (refine ⟨fun _ _ _ _ k h => (by first | exact h | exact (by first | exact LadV.ext h k | exact DrvV.ext h k | exact Fresh84.ext h k | exact IntsAt.ext h k | exact AsV.ext h k | exact TupV.ext (fun _ _ _ h k => by first | exact IntsAt.ext h k | exact AsV.ext h k) h k)), ?_⟩)
                      exact trivial
                    · refine ⟨?_, ?_, ?_, ?_, ?_, ?_, ?_, ?_, ?_, ?_, ?_, ?_, ?_, ?_, ?_, ?_, ?_, trivial⟩
                      all_goals intro ρ W ⟨kc, kg, kf⟩ hF hs
                      · obtain ⟨h0, -⟩ := hs
                        replace h0 : ρ (.tmp 20) = .pointer (some ⟨q20, 0, none⟩) := h0
                        have hc0 : W.cell? ⟨q20, 0, none⟩ = some (.int .i64 (c1)) := hF.cell (by assumption)
                        have hc1 : W.cell? ⟨q20, 1, none⟩ = some (.int .i64 (c2)) := hF.cell (by assumption)
                        go_simp
                        exact ⟨Ext.refl _, rfl⟩
                      · obtain ⟨h0, -⟩ := hs
                        replace h0 : ρ (.tmp 22) = .int .i64 (sg) := h0
                        go_simp
                        exact ⟨Ext.refl _, rfl⟩
                      · obtain ⟨h0, -⟩ := hs
                        replace h0 : ρ (.tmp 12) = .slice (some ⟨gv, 0, none⟩) n cv := h0
                        go_simp
                        exact ⟨Ext.refl _, rfl⟩
                      · obtain ⟨h0, -⟩ := hs
                        replace h0 : ρ (.tmp 21) = .int .i64 ((j : Int)) := h0
                        go_simp
                        exact ⟨Ext.refl _, rfl⟩
                      · obtain ⟨h0, h1, -⟩ := hs
                        replace h0 : ρ (.tmp 230) = .slice (some ⟨gv, 0, none⟩) n cv := h0
                        replace h1 : ρ (.tmp 231) = .int .i64 ((j : Int)) := h1
                        have hki : (j : Int) < (n : Int) := by omega
                        go_simp
                        exact ⟨Ext.refl _, rfl⟩
                      · obtain ⟨h0, -⟩ := hs
                        replace h0 : ρ (.tmp 232) = .pointer (some ⟨gv, j * 2, none⟩) := h0
                        go_simp
                        exact ⟨Ext.refl _, rfl⟩
                      · obtain ⟨h0, -⟩ := hs
                        replace h0 : ρ (.tmp 233) = .pointer (some ⟨gv, j * 2, none⟩) := h0
                        have hc0 : W.cell? ⟨gv, j * 2, none⟩ = some (.int .i64 (n1)) := hF.cell (by assumption)
                        go_simp
                        exact ⟨Ext.refl _, rfl⟩
                      · obtain ⟨h0, h1, -⟩ := hs
                        replace h0 : ρ (.tmp 229) = .int .i64 (sg) := h0
                        replace h1 : ρ (.tmp 234) = .int .i64 (n1) := h1
                        have hw : IntKind.i64.wrap (sg * n1) = sg * n1 := HS1.out
                        go_simp
                        exact ⟨Ext.refl _, rfl⟩
                      · obtain ⟨h0, -⟩ := hs
                        replace h0 : ρ (.tmp 22) = .int .i64 (sg) := h0
                        go_simp
                        exact ⟨Ext.refl _, rfl⟩
                      · obtain ⟨h0, -⟩ := hs
                        replace h0 : ρ (.tmp 12) = .slice (some ⟨gv, 0, none⟩) n cv := h0
                        go_simp
                        exact ⟨Ext.refl _, rfl⟩
                      · obtain ⟨h0, -⟩ := hs
                        replace h0 : ρ (.tmp 21) = .int .i64 ((j : Int)) := h0
                        go_simp
                        exact ⟨Ext.refl _, rfl⟩
                      · obtain ⟨h0, h1, -⟩ := hs
                        replace h0 : ρ (.tmp 237) = .slice (some ⟨gv, 0, none⟩) n cv := h0
                        replace h1 : ρ (.tmp 238) = .int .i64 ((j : Int)) := h1
                        have hki : (j : Int) < (n : Int) := by omega
                        go_simp
                        exact ⟨Ext.refl _, rfl⟩
                      · obtain ⟨h0, -⟩ := hs
                        replace h0 : ρ (.tmp 239) = .pointer (some ⟨gv, j * 2, none⟩) := h0
                        go_simp
                        exact ⟨Ext.refl _, rfl⟩
                      · obtain ⟨h0, -⟩ := hs
                        replace h0 : ρ (.tmp 240) = .pointer (some ⟨gv, j * 2 + 1, none⟩) := h0
                        have hc0 : W.cell? ⟨gv, j * 2 + 1, none⟩ = some (.int .i64 (n2)) := hF.cell (by assumption)
                        go_simp
                        exact ⟨Ext.refl _, rfl⟩
                      · obtain ⟨h0, h1, -⟩ := hs
                        replace h0 : ρ (.tmp 236) = .int .i64 (sg) := h0
                        replace h1 : ρ (.tmp 241) = .int .i64 (n2) := h1
                        have hw : IntKind.i64.wrap (sg * n2) = sg * n2 := HS2.out
                        go_simp
                        exact ⟨Ext.refl _, rfl⟩
                      · obtain ⟨h0, h1, -⟩ := hs
                        replace h0 : ρ (.tmp 235) = .int .i64 (sg * n1) := h0
                        replace h1 : ρ (.tmp 242) = .int .i64 (sg * n2) := h1
                        go_simp
                        exact ⟨Ext.refl _, rfl⟩
                      · obtain ⟨h0, h1, -⟩ := hs
                        replace h0 : ρ (.tmp 228) = .agg #[.int .i64 (c1), .int .i64 (c2)] := h0
                        replace h1 : ρ (.tmp 243) = .agg #[.int .i64 (sg * n1), .int .i64 (sg * n2)] := h1
                        go_simp
                        exact (HGA.out W).mono fun _ _ ⟨h1, h2⟩ => ⟨_, h1, h2, rfl⟩
                    · intro fv W12 hF hs
                      obtain ⟨-, -, -, -, -, -, -, -, -, -, -, -, -, -, -, -, h244, -⟩ := hs
                      replace h244 : fv 244 = .agg #[.int .i64 (k1), .int .i64 (k2)] := h244
                      simp only [fin, List.filterMap]
                      go_simp
                      have HB12 := Lib.hid (HB20.out.ext hF)
                      have f0 := HB12.out.free 0
                      have f1 := HB12.out.free 1
                      have z6' := hF.cell z6
                      have z7' := hF.cell z7
                      have HB13 := Lib.hid ((HB12.out.setSame 0 (.int .i64 k1)).setSame 1 (.int .i64 k2))
                      have X13 := Lib.hid (show Ext WL ((W12.setCell ⟨q20, 0, none⟩ (.int .i64 k1)).setCell ⟨q20, 1, none⟩ (.int .i64 k2)) from Ext.set (Ext.set (HX.out.trans hF) (by rw [HQ20.out]; exact Nat.le_refl _) _) (by rw [HQ20.out]; exact Nat.le_refl _) _)
                      clear z0 z1 z2 z3 z4 z6 z7 h244
                      clear hF
                      have X16 := Lib.hid (show Ext WL (((W12.setCell ⟨q20, 0, none⟩ (.int .i64 k1)).setCell ⟨q20, 1, none⟩ (.int .i64 k2)).alloc (.cells #[.int .i64 0, .int .i64 0] 65)) from X13.out.trans (Ext.alloc _ _))
                      have HB20n := Lib.hid (HB13.out.alloc (.cells #[.int .i64 0, .int .i64 0] 65))
                      have HB23 := Lib.hid (Blk.newAt ((W12.setCell ⟨q20, 0, none⟩ (.int .i64 k1)).setCell ⟨q20, 1, none⟩ (.int .i64 k2)) 65 #[.int .i64 0, .int .i64 0] (g := W12.heap.size) (by simp))
                      go_wp2
                      clear f0 f1 z6' z7'
                      generalize (((W12.setCell ⟨q20, 0, none⟩ (.int .i64 k1)).setCell ⟨q20, 1, none⟩ (.int .i64 k2)).alloc (.cells #[.int .i64 0, .int .i64 0] 65)) = W16 at *
                      generalize W12.heap.size = q23 at *
                      have b23 : Blk W16 q23 65 #[.int .i64 0, .int .i64 0] := HB23.out
                      have b20 : Blk W16 q20 65 #[.int .i64 k1, .int .i64 k2] := HB20n.out
                      obtain ⟨z8, z9⟩ := HZN.out _ X16.out
                      have z5 := HZ5.out _ (HE.out.trans X16.out)
                      have y0 : W16.cell? ⟨q23, 0, none⟩ = some (.int .i64 0) := b23.cell 0
                      have y1 : W16.cell? ⟨q23, 1, none⟩ = some (.int .i64 0) := b23.cell 1
                      have y2 : W16.cell? ⟨q20, 0, none⟩ = some (.int .i64 k1) := b20.cell 0
                      have y3 : W16.cell? ⟨q20, 1, none⟩ = some (.int .i64 k2) := b20.cell 1
                      clear b23
                      refine wp_region_each [some 261, some 262, some 263, some 264, some 265, some 266, some 267, some 268, some 269, some 270, some 271, some 272, some 273, some 274, some 275, some 276, some 277, some 278, some 279, some 280, some 281, some 282, some 283] [[23], [12], [21], [262, 263], [264], [261, 265], [10], [21], [267, 268], [269], [270], [20], [272], [271, 273], [10], [21], [275, 276], [277], [20], [279], [278, 280], [274, 281], [266, 282]]
                        [Is (.agg #[.int .i64 (0), .int .i64 (0)]), Is (.slice (some ⟨gv, 0, none⟩) n cv), Is (.int .i64 ((j : Int))), Is (.pointer (some ⟨gv, j * 2, none⟩)), Is (.agg #[.int .i64 (n1), .int .i64 (n2)]), Is (.agg #[.int .i64 (m1), .int .i64 (m2)]), Is (.slice (some ⟨gr, ro, none⟩) n cr), Is (.int .i64 ((j : Int))), Is (.pointer (some ⟨gr, ro + j, none⟩)), Is (.int .i64 (x)), Is (.int .i64 (-x)), Is (.pointer (some ⟨q20, 1, none⟩)), Is (.int .i64 (k2)), Is (.int .i64 (m1)), Is (.slice (some ⟨gr, ro, none⟩) n cr), Is (.int .i64 ((j : Int))), Is (.pointer (some ⟨gr, ro + j, none⟩)), Is (.int .i64 (x)), Is (.pointer (some ⟨q20, 0, none⟩)), Is (.int .i64 (k1)), Is (.int .i64 (m2)), Is (.agg #[.int .i64 (m1), .int .i64 (m2)]), Is (.bool (false))]
                        (by kernel_rfl) (by kernel_rfl) (by kernel_rfl) (by kernel_rfl) (by kernel_rfl) Ext (fun W => Ext W16 W)
                        (fun W _ => Ext.refl W) (fun W W' h k => h.trans k) ?_ (Ext.drew _) ?_ ?_
                      · repeat (refine ⟨fun _ _ _ _ k h => (by first | exact h | exact (by first | exact LadV.ext h k | exact DrvV.ext h k | exact Fresh84.ext h k | exact IntsAt.ext h k | exact AsV.ext h k | exact TupV.ext (fun _ _ _ h k => by first | exact IntsAt.ext h k | exact AsV.ext h k) h k)), ?_⟩)
                        exact trivial
                      · refine ⟨?_, ?_, ?_, ?_, ?_, ?_, ?_, ?_, ?_, ?_, ?_, ?_, ?_, ?_, ?_, ?_, ?_, ?_, ?_, ?_, ?_, ?_, ?_, trivial⟩
                        all_goals intro ρ W ⟨kc, kg, kf⟩ hF hs
                        · obtain ⟨h0, -⟩ := hs
                          replace h0 : ρ (.tmp 23) = .pointer (some ⟨q23, 0, none⟩) := h0
                          have hc0 : W.cell? ⟨q23, 0, none⟩ = some (.int .i64 (0)) := hF.cell (by assumption)
                          have hc1 : W.cell? ⟨q23, 1, none⟩ = some (.int .i64 (0)) := hF.cell (by assumption)
                          go_simp
                          exact ⟨Ext.refl _, rfl⟩
                        · obtain ⟨h0, -⟩ := hs
                          replace h0 : ρ (.tmp 12) = .slice (some ⟨gv, 0, none⟩) n cv := h0
                          go_simp
                          exact ⟨Ext.refl _, rfl⟩
                        · obtain ⟨h0, -⟩ := hs
                          replace h0 : ρ (.tmp 21) = .int .i64 ((j : Int)) := h0
                          go_simp
                          exact ⟨Ext.refl _, rfl⟩
                        · obtain ⟨h0, h1, -⟩ := hs
                          replace h0 : ρ (.tmp 262) = .slice (some ⟨gv, 0, none⟩) n cv := h0
                          replace h1 : ρ (.tmp 263) = .int .i64 ((j : Int)) := h1
                          have hki : (j : Int) < (n : Int) := by omega
                          go_simp
                          exact ⟨Ext.refl _, rfl⟩
                        · obtain ⟨h0, -⟩ := hs
                          replace h0 : ρ (.tmp 264) = .pointer (some ⟨gv, j * 2, none⟩) := h0
                          have hc0 : W.cell? ⟨gv, j * 2, none⟩ = some (.int .i64 (n1)) := hF.cell (by assumption)
                          have hc1 : W.cell? ⟨gv, j * 2 + 1, none⟩ = some (.int .i64 (n2)) := hF.cell (by assumption)
                          go_simp
                          exact ⟨Ext.refl _, rfl⟩
                        · obtain ⟨h0, h1, -⟩ := hs
                          replace h0 : ρ (.tmp 261) = .agg #[.int .i64 (0), .int .i64 (0)] := h0
                          replace h1 : ρ (.tmp 265) = .agg #[.int .i64 (n1), .int .i64 (n2)] := h1
                          go_simp
                          exact (HGC.out W).mono fun _ _ ⟨h1, h2⟩ => ⟨_, h1, h2, rfl⟩
                        · obtain ⟨h0, -⟩ := hs
                          replace h0 : ρ (.tmp 10) = .slice (some ⟨gr, ro, none⟩) n cr := h0
                          go_simp
                          exact ⟨Ext.refl _, rfl⟩
                        · obtain ⟨h0, -⟩ := hs
                          replace h0 : ρ (.tmp 21) = .int .i64 ((j : Int)) := h0
                          go_simp
                          exact ⟨Ext.refl _, rfl⟩
                        · obtain ⟨h0, h1, -⟩ := hs
                          replace h0 : ρ (.tmp 267) = .slice (some ⟨gr, ro, none⟩) n cr := h0
                          replace h1 : ρ (.tmp 268) = .int .i64 ((j : Int)) := h1
                          have hki : (j : Int) < (n : Int) := by omega
                          go_simp
                          exact ⟨Ext.refl _, rfl⟩
                        · obtain ⟨h0, -⟩ := hs
                          replace h0 : ρ (.tmp 269) = .pointer (some ⟨gr, ro + j, none⟩) := h0
                          have hc0 : W.cell? ⟨gr, ro + j, none⟩ = some (.int .i64 (x)) := hF.cell (by assumption)
                          go_simp
                          exact ⟨Ext.refl _, rfl⟩
                        · obtain ⟨h0, -⟩ := hs
                          replace h0 : ρ (.tmp 270) = .int .i64 (x) := h0
                          have hw : IntKind.i64.wrap (-x) = -x := IntWalk.i64_in _ (by omega)
                          go_simp
                          first | exact ⟨Ext.refl _, rfl⟩ | exact Ext.refl _
                        · obtain ⟨h0, -⟩ := hs
                          replace h0 : ρ (.tmp 20) = .pointer (some ⟨q20, 0, none⟩) := h0
                          go_simp
                          exact ⟨Ext.refl _, rfl⟩
                        · obtain ⟨h0, -⟩ := hs
                          replace h0 : ρ (.tmp 272) = .pointer (some ⟨q20, 1, none⟩) := h0
                          have hc0 : W.cell? ⟨q20, 1, none⟩ = some (.int .i64 (k2)) := hF.cell (by assumption)
                          go_simp
                          exact ⟨Ext.refl _, rfl⟩
                        · obtain ⟨h0, h1, -⟩ := hs
                          replace h0 : ρ (.tmp 271) = .int .i64 (-x) := h0
                          replace h1 : ρ (.tmp 273) = .int .i64 (k2) := h1
                          have hw : IntKind.i64.wrap (-x * k2) = m1 := HM1.out
                          go_simp
                          exact ⟨Ext.refl _, rfl⟩
                        · obtain ⟨h0, -⟩ := hs
                          replace h0 : ρ (.tmp 10) = .slice (some ⟨gr, ro, none⟩) n cr := h0
                          go_simp
                          exact ⟨Ext.refl _, rfl⟩
                        · obtain ⟨h0, -⟩ := hs
                          replace h0 : ρ (.tmp 21) = .int .i64 ((j : Int)) := h0
                          go_simp
                          exact ⟨Ext.refl _, rfl⟩
                        · obtain ⟨h0, h1, -⟩ := hs
                          replace h0 : ρ (.tmp 275) = .slice (some ⟨gr, ro, none⟩) n cr := h0
                          replace h1 : ρ (.tmp 276) = .int .i64 ((j : Int)) := h1
                          have hki : (j : Int) < (n : Int) := by omega
                          go_simp
                          exact ⟨Ext.refl _, rfl⟩
                        · obtain ⟨h0, -⟩ := hs
                          replace h0 : ρ (.tmp 277) = .pointer (some ⟨gr, ro + j, none⟩) := h0
                          have hc0 : W.cell? ⟨gr, ro + j, none⟩ = some (.int .i64 (x)) := hF.cell (by assumption)
                          go_simp
                          exact ⟨Ext.refl _, rfl⟩
                        · obtain ⟨h0, -⟩ := hs
                          replace h0 : ρ (.tmp 20) = .pointer (some ⟨q20, 0, none⟩) := h0
                          go_simp
                          exact ⟨Ext.refl _, rfl⟩
                        · obtain ⟨h0, -⟩ := hs
                          replace h0 : ρ (.tmp 279) = .pointer (some ⟨q20, 0, none⟩) := h0
                          have hc0 : W.cell? ⟨q20, 0, none⟩ = some (.int .i64 (k1)) := hF.cell (by assumption)
                          go_simp
                          exact ⟨Ext.refl _, rfl⟩
                        · obtain ⟨h0, h1, -⟩ := hs
                          replace h0 : ρ (.tmp 278) = .int .i64 (x) := h0
                          replace h1 : ρ (.tmp 280) = .int .i64 (k1) := h1
                          have hw : IntKind.i64.wrap (x * k1) = m2 := HM2.out
                          go_simp
                          exact ⟨Ext.refl _, rfl⟩
                        · obtain ⟨h0, h1, -⟩ := hs
                          replace h0 : ρ (.tmp 274) = .int .i64 (m1) := h0
                          replace h1 : ρ (.tmp 281) = .int .i64 (m2) := h1
                          go_simp
                          exact ⟨Ext.refl _, rfl⟩
                        · obtain ⟨h0, h1, -⟩ := hs
                          replace h0 : ρ (.tmp 266) = .agg #[.int .i64 (m1), .int .i64 (m2)] := h0
                          replace h1 : ρ (.tmp 282) = .agg #[.int .i64 (m1), .int .i64 (m2)] := h1
                          go_simp
                          first | exact ⟨Ext.refl _, rfl⟩ | exact Ext.refl _
                      · intro fv W17 hF hs
                        obtain ⟨-, -, -, -, -, -, -, -, -, -, -, -, -, -, -, -, -, -, -, -, -, -, h283, -⟩ := hs
                        replace h283 : fv 283 = .bool (false) := h283
                        simp only [fin, List.filterMap]
                        go_simp
                        have hx17 := X16.out.trans hF
                        have hb17 := b20.ext hF
                        clear hF z5 z8 z9 y0 y1 y2 y3 b20
                        go_wp2
                        go_roundw
                        case rel => exact ⟨j, by omega, by first | rfl | go_num, by rw [← HKK.out]; exact hb17, hx17⟩
                        case measure => first | (simp [intOf]; done) | (simp [intOf]; omega)

                  · obtain ⟨jj, hjj⟩ : ∃ jj, j = jj + 1 := ⟨j - 1, by omega⟩
                    have hpz := HPP.out
                    rw [hjj, HBS.out] at hpz
                    have HZP := Lib.hid (fun W (e : Ext WL W) => show W.cell? ⟨gv, (j - 1) * 2, none⟩ = some (.int .i64 p1) ∧ W.cell? ⟨gv, (j - 1) * 2 + 1, none⟩ = some (.int .i64 p2) from by
                      have := HZM.out jj (by omega) W e
                      rw [← hpz] at this
                      rw [show j - 1 = jj by omega]
                      exact this)
                    have hj1 : (1 : Int) ≤ (j : Int) := by omega
                    clear hpz
                    have hji : ((j : Int) == (i : Int)) = false := by simp; omega
                    have hj0 : decide ((0 : Int) < (j : Int)) = true := by simp; omega
                    clear hje h0' hjj
                    go_wp2
                    refine wp_region_part 17 [some 228, some 229, some 230, some 231, some 232, some 233, some 234, some 235, some 236, some 237, some 238, some 239, some 240, some 241, some 242, some 243, some 244] [[20], [22], [12], [21], [230, 231], [232], [233], [229, 234], [22], [12], [21], [237, 238], [239], [240], [236, 241], [235, 242], [228, 243]]
                      [Is (.agg #[.int .i64 (c1), .int .i64 (c2)]), Is (.int .i64 (sg)), Is (.slice (some ⟨gv, 0, none⟩) n cv), Is (.int .i64 ((j : Int))), Is (.pointer (some ⟨gv, j * 2, none⟩)), Is (.pointer (some ⟨gv, j * 2, none⟩)), Is (.int .i64 (n1)), Is (.int .i64 (sg * n1)), Is (.int .i64 (sg)), Is (.slice (some ⟨gv, 0, none⟩) n cv), Is (.int .i64 ((j : Int))), Is (.pointer (some ⟨gv, j * 2, none⟩)), Is (.pointer (some ⟨gv, j * 2 + 1, none⟩)), Is (.int .i64 (n2)), Is (.int .i64 (sg * n2)), Is (.agg #[.int .i64 (sg * n1), .int .i64 (sg * n2)]), Is (.agg #[.int .i64 (k1), .int .i64 (k2)])]
                      (by kernel_rfl) (by kernel_rfl) (by kernel_rfl) (by kernel_rfl) (by kernel_rfl) (by kernel_rfl) (by kernel_rfl) Ext (fun W => Ext wr W)
                      (fun W _ => Ext.refl W) (fun W W' h k => h.trans k) ?_ (Ext.drew _) ?_ ?_
                    · repeat (refine ⟨fun _ _ _ _ k h => (by first | exact h | exact (by first | exact LadV.ext h k | exact DrvV.ext h k | exact Fresh84.ext h k | exact IntsAt.ext h k | exact AsV.ext h k | exact TupV.ext (fun _ _ _ h k => by first | exact IntsAt.ext h k | exact AsV.ext h k) h k)), ?_⟩)
                      exact trivial
                    · refine ⟨?_, ?_, ?_, ?_, ?_, ?_, ?_, ?_, ?_, ?_, ?_, ?_, ?_, ?_, ?_, ?_, ?_, trivial⟩
                      all_goals intro ρ W ⟨kc, kg, kf⟩ hF hs
                      · obtain ⟨h0, -⟩ := hs
                        replace h0 : ρ (.tmp 20) = .pointer (some ⟨q20, 0, none⟩) := h0
                        have hc0 : W.cell? ⟨q20, 0, none⟩ = some (.int .i64 (c1)) := hF.cell (by assumption)
                        have hc1 : W.cell? ⟨q20, 1, none⟩ = some (.int .i64 (c2)) := hF.cell (by assumption)
                        go_simp
                        exact ⟨Ext.refl _, rfl⟩
                      · obtain ⟨h0, -⟩ := hs
                        replace h0 : ρ (.tmp 22) = .int .i64 (sg) := h0
                        go_simp
                        exact ⟨Ext.refl _, rfl⟩
                      · obtain ⟨h0, -⟩ := hs
                        replace h0 : ρ (.tmp 12) = .slice (some ⟨gv, 0, none⟩) n cv := h0
                        go_simp
                        exact ⟨Ext.refl _, rfl⟩
                      · obtain ⟨h0, -⟩ := hs
                        replace h0 : ρ (.tmp 21) = .int .i64 ((j : Int)) := h0
                        go_simp
                        exact ⟨Ext.refl _, rfl⟩
                      · obtain ⟨h0, h1, -⟩ := hs
                        replace h0 : ρ (.tmp 230) = .slice (some ⟨gv, 0, none⟩) n cv := h0
                        replace h1 : ρ (.tmp 231) = .int .i64 ((j : Int)) := h1
                        have hki : (j : Int) < (n : Int) := by omega
                        go_simp
                        exact ⟨Ext.refl _, rfl⟩
                      · obtain ⟨h0, -⟩ := hs
                        replace h0 : ρ (.tmp 232) = .pointer (some ⟨gv, j * 2, none⟩) := h0
                        go_simp
                        exact ⟨Ext.refl _, rfl⟩
                      · obtain ⟨h0, -⟩ := hs
                        replace h0 : ρ (.tmp 233) = .pointer (some ⟨gv, j * 2, none⟩) := h0
                        have hc0 : W.cell? ⟨gv, j * 2, none⟩ = some (.int .i64 (n1)) := hF.cell (by assumption)
                        go_simp
                        exact ⟨Ext.refl _, rfl⟩
                      · obtain ⟨h0, h1, -⟩ := hs
                        replace h0 : ρ (.tmp 229) = .int .i64 (sg) := h0
                        replace h1 : ρ (.tmp 234) = .int .i64 (n1) := h1
                        have hw : IntKind.i64.wrap (sg * n1) = sg * n1 := HS1.out
                        go_simp
                        exact ⟨Ext.refl _, rfl⟩
                      · obtain ⟨h0, -⟩ := hs
                        replace h0 : ρ (.tmp 22) = .int .i64 (sg) := h0
                        go_simp
                        exact ⟨Ext.refl _, rfl⟩
                      · obtain ⟨h0, -⟩ := hs
                        replace h0 : ρ (.tmp 12) = .slice (some ⟨gv, 0, none⟩) n cv := h0
                        go_simp
                        exact ⟨Ext.refl _, rfl⟩
                      · obtain ⟨h0, -⟩ := hs
                        replace h0 : ρ (.tmp 21) = .int .i64 ((j : Int)) := h0
                        go_simp
                        exact ⟨Ext.refl _, rfl⟩
                      · obtain ⟨h0, h1, -⟩ := hs
                        replace h0 : ρ (.tmp 237) = .slice (some ⟨gv, 0, none⟩) n cv := h0
                        replace h1 : ρ (.tmp 238) = .int .i64 ((j : Int)) := h1
                        have hki : (j : Int) < (n : Int) := by omega
                        go_simp
                        exact ⟨Ext.refl _, rfl⟩
                      · obtain ⟨h0, -⟩ := hs
                        replace h0 : ρ (.tmp 239) = .pointer (some ⟨gv, j * 2, none⟩) := h0
                        go_simp
                        exact ⟨Ext.refl _, rfl⟩
                      · obtain ⟨h0, -⟩ := hs
                        replace h0 : ρ (.tmp 240) = .pointer (some ⟨gv, j * 2 + 1, none⟩) := h0
                        have hc0 : W.cell? ⟨gv, j * 2 + 1, none⟩ = some (.int .i64 (n2)) := hF.cell (by assumption)
                        go_simp
                        exact ⟨Ext.refl _, rfl⟩
                      · obtain ⟨h0, h1, -⟩ := hs
                        replace h0 : ρ (.tmp 236) = .int .i64 (sg) := h0
                        replace h1 : ρ (.tmp 241) = .int .i64 (n2) := h1
                        have hw : IntKind.i64.wrap (sg * n2) = sg * n2 := HS2.out
                        go_simp
                        exact ⟨Ext.refl _, rfl⟩
                      · obtain ⟨h0, h1, -⟩ := hs
                        replace h0 : ρ (.tmp 235) = .int .i64 (sg * n1) := h0
                        replace h1 : ρ (.tmp 242) = .int .i64 (sg * n2) := h1
                        go_simp
                        exact ⟨Ext.refl _, rfl⟩
                      · obtain ⟨h0, h1, -⟩ := hs
                        replace h0 : ρ (.tmp 228) = .agg #[.int .i64 (c1), .int .i64 (c2)] := h0
                        replace h1 : ρ (.tmp 243) = .agg #[.int .i64 (sg * n1), .int .i64 (sg * n2)] := h1
                        go_simp
                        exact (HGA.out W).mono fun _ _ ⟨h1, h2⟩ => ⟨_, h1, h2, rfl⟩
                    · intro fv W12 hF hs
                      obtain ⟨-, -, -, -, -, -, -, -, -, -, -, -, -, -, -, -, h244, -⟩ := hs
                      replace h244 : fv 244 = .agg #[.int .i64 (k1), .int .i64 (k2)] := h244
                      simp only [fin, List.filterMap]
                      go_simp
                      have HB12 := Lib.hid (HB20.out.ext hF)
                      have f0 := HB12.out.free 0
                      have f1 := HB12.out.free 1
                      have z6' := hF.cell z6
                      have z7' := hF.cell z7
                      have HB13 := Lib.hid ((HB12.out.setSame 0 (.int .i64 k1)).setSame 1 (.int .i64 k2))
                      have X13 := Lib.hid (show Ext WL ((W12.setCell ⟨q20, 0, none⟩ (.int .i64 k1)).setCell ⟨q20, 1, none⟩ (.int .i64 k2)) from Ext.set (Ext.set (HX.out.trans hF) (by rw [HQ20.out]; exact Nat.le_refl _) _) (by rw [HQ20.out]; exact Nat.le_refl _) _)
                      clear z0 z1 z2 z3 z4 z6 z7 h244
                      clear hF
                      have X16 := Lib.hid (show Ext WL (((W12.setCell ⟨q20, 0, none⟩ (.int .i64 k1)).setCell ⟨q20, 1, none⟩ (.int .i64 k2)).alloc (.cells #[.int .i64 p1, .int .i64 p2] 65)) from X13.out.trans (Ext.alloc _ _))
                      have HB20n := Lib.hid (HB13.out.alloc (.cells #[.int .i64 p1, .int .i64 p2] 65))
                      have HB23 := Lib.hid (Blk.newAt ((W12.setCell ⟨q20, 0, none⟩ (.int .i64 k1)).setCell ⟨q20, 1, none⟩ (.int .i64 k2)) 65 #[.int .i64 p1, .int .i64 p2] (g := W12.heap.size) (by simp))
                      obtain ⟨v0, v1⟩ := HZP.out _ (X13.out.trans (Ext.alloc ((W12.setCell ⟨q20, 0, none⟩ (.int .i64 k1)).setCell ⟨q20, 1, none⟩ (.int .i64 k2)) (.cells #[.int .i64 0, .int .i64 0] 65)))
                      go_wp2
                      clear f0 f1 z6' z7'
                      generalize (((W12.setCell ⟨q20, 0, none⟩ (.int .i64 k1)).setCell ⟨q20, 1, none⟩ (.int .i64 k2)).alloc (.cells #[.int .i64 p1, .int .i64 p2] 65)) = W16 at *
                      generalize W12.heap.size = q23 at *
                      have b23 : Blk W16 q23 65 #[.int .i64 p1, .int .i64 p2] := HB23.out
                      have b20 : Blk W16 q20 65 #[.int .i64 k1, .int .i64 k2] := HB20n.out
                      obtain ⟨z8, z9⟩ := HZN.out _ X16.out
                      have z5 := HZ5.out _ (HE.out.trans X16.out)
                      have y0 : W16.cell? ⟨q23, 0, none⟩ = some (.int .i64 p1) := b23.cell 0
                      have y1 : W16.cell? ⟨q23, 1, none⟩ = some (.int .i64 p2) := b23.cell 1
                      have y2 : W16.cell? ⟨q20, 0, none⟩ = some (.int .i64 k1) := b20.cell 0
                      have y3 : W16.cell? ⟨q20, 1, none⟩ = some (.int .i64 k2) := b20.cell 1
                      clear b23
                      refine wp_region_each [some 261, some 262, some 263, some 264, some 265, some 266, some 267, some 268, some 269, some 270, some 271, some 272, some 273, some 274, some 275, some 276, some 277, some 278, some 279, some 280, some 281, some 282, some 283] [[23], [12], [21], [262, 263], [264], [261, 265], [10], [21], [267, 268], [269], [270], [20], [272], [271, 273], [10], [21], [275, 276], [277], [20], [279], [278, 280], [274, 281], [266, 282]]
                        [Is (.agg #[.int .i64 (p1), .int .i64 (p2)]), Is (.slice (some ⟨gv, 0, none⟩) n cv), Is (.int .i64 ((j : Int))), Is (.pointer (some ⟨gv, j * 2, none⟩)), Is (.agg #[.int .i64 (n1), .int .i64 (n2)]), Is (.agg #[.int .i64 (m1), .int .i64 (m2)]), Is (.slice (some ⟨gr, ro, none⟩) n cr), Is (.int .i64 ((j : Int))), Is (.pointer (some ⟨gr, ro + j, none⟩)), Is (.int .i64 (x)), Is (.int .i64 (-x)), Is (.pointer (some ⟨q20, 1, none⟩)), Is (.int .i64 (k2)), Is (.int .i64 (m1)), Is (.slice (some ⟨gr, ro, none⟩) n cr), Is (.int .i64 ((j : Int))), Is (.pointer (some ⟨gr, ro + j, none⟩)), Is (.int .i64 (x)), Is (.pointer (some ⟨q20, 0, none⟩)), Is (.int .i64 (k1)), Is (.int .i64 (m2)), Is (.agg #[.int .i64 (m1), .int .i64 (m2)]), Is (.bool (false))]
                        (by kernel_rfl) (by kernel_rfl) (by kernel_rfl) (by kernel_rfl) (by kernel_rfl) Ext (fun W => Ext W16 W)
                        (fun W _ => Ext.refl W) (fun W W' h k => h.trans k) ?_ (Ext.drew _) ?_ ?_
                      · repeat (refine ⟨fun _ _ _ _ k h => (by first | exact h | exact (by first | exact LadV.ext h k | exact DrvV.ext h k | exact Fresh84.ext h k | exact IntsAt.ext h k | exact AsV.ext h k | exact TupV.ext (fun _ _ _ h k => by first | exact IntsAt.ext h k | exact AsV.ext h k) h k)), ?_⟩)
                        exact trivial
                      · refine ⟨?_, ?_, ?_, ?_, ?_, ?_, ?_, ?_, ?_, ?_, ?_, ?_, ?_, ?_, ?_, ?_, ?_, ?_, ?_, ?_, ?_, ?_, ?_, trivial⟩
                        all_goals intro ρ W ⟨kc, kg, kf⟩ hF hs
                        · obtain ⟨h0, -⟩ := hs
                          replace h0 : ρ (.tmp 23) = .pointer (some ⟨q23, 0, none⟩) := h0
                          have hc0 : W.cell? ⟨q23, 0, none⟩ = some (.int .i64 (p1)) := hF.cell (by assumption)
                          have hc1 : W.cell? ⟨q23, 1, none⟩ = some (.int .i64 (p2)) := hF.cell (by assumption)
                          go_simp
                          exact ⟨Ext.refl _, rfl⟩
                        · obtain ⟨h0, -⟩ := hs
                          replace h0 : ρ (.tmp 12) = .slice (some ⟨gv, 0, none⟩) n cv := h0
                          go_simp
                          exact ⟨Ext.refl _, rfl⟩
                        · obtain ⟨h0, -⟩ := hs
                          replace h0 : ρ (.tmp 21) = .int .i64 ((j : Int)) := h0
                          go_simp
                          exact ⟨Ext.refl _, rfl⟩
                        · obtain ⟨h0, h1, -⟩ := hs
                          replace h0 : ρ (.tmp 262) = .slice (some ⟨gv, 0, none⟩) n cv := h0
                          replace h1 : ρ (.tmp 263) = .int .i64 ((j : Int)) := h1
                          have hki : (j : Int) < (n : Int) := by omega
                          go_simp
                          exact ⟨Ext.refl _, rfl⟩
                        · obtain ⟨h0, -⟩ := hs
                          replace h0 : ρ (.tmp 264) = .pointer (some ⟨gv, j * 2, none⟩) := h0
                          have hc0 : W.cell? ⟨gv, j * 2, none⟩ = some (.int .i64 (n1)) := hF.cell (by assumption)
                          have hc1 : W.cell? ⟨gv, j * 2 + 1, none⟩ = some (.int .i64 (n2)) := hF.cell (by assumption)
                          go_simp
                          exact ⟨Ext.refl _, rfl⟩
                        · obtain ⟨h0, h1, -⟩ := hs
                          replace h0 : ρ (.tmp 261) = .agg #[.int .i64 (p1), .int .i64 (p2)] := h0
                          replace h1 : ρ (.tmp 265) = .agg #[.int .i64 (n1), .int .i64 (n2)] := h1
                          go_simp
                          exact (HGC.out W).mono fun _ _ ⟨h1, h2⟩ => ⟨_, h1, h2, rfl⟩
                        · obtain ⟨h0, -⟩ := hs
                          replace h0 : ρ (.tmp 10) = .slice (some ⟨gr, ro, none⟩) n cr := h0
                          go_simp
                          exact ⟨Ext.refl _, rfl⟩
                        · obtain ⟨h0, -⟩ := hs
                          replace h0 : ρ (.tmp 21) = .int .i64 ((j : Int)) := h0
                          go_simp
                          exact ⟨Ext.refl _, rfl⟩
                        · obtain ⟨h0, h1, -⟩ := hs
                          replace h0 : ρ (.tmp 267) = .slice (some ⟨gr, ro, none⟩) n cr := h0
                          replace h1 : ρ (.tmp 268) = .int .i64 ((j : Int)) := h1
                          have hki : (j : Int) < (n : Int) := by omega
                          go_simp
                          exact ⟨Ext.refl _, rfl⟩
                        · obtain ⟨h0, -⟩ := hs
                          replace h0 : ρ (.tmp 269) = .pointer (some ⟨gr, ro + j, none⟩) := h0
                          have hc0 : W.cell? ⟨gr, ro + j, none⟩ = some (.int .i64 (x)) := hF.cell (by assumption)
                          go_simp
                          exact ⟨Ext.refl _, rfl⟩
                        · obtain ⟨h0, -⟩ := hs
                          replace h0 : ρ (.tmp 270) = .int .i64 (x) := h0
                          have hw : IntKind.i64.wrap (-x) = -x := IntWalk.i64_in _ (by omega)
                          go_simp
                          first | exact ⟨Ext.refl _, rfl⟩ | exact Ext.refl _
                        · obtain ⟨h0, -⟩ := hs
                          replace h0 : ρ (.tmp 20) = .pointer (some ⟨q20, 0, none⟩) := h0
                          go_simp
                          exact ⟨Ext.refl _, rfl⟩
                        · obtain ⟨h0, -⟩ := hs
                          replace h0 : ρ (.tmp 272) = .pointer (some ⟨q20, 1, none⟩) := h0
                          have hc0 : W.cell? ⟨q20, 1, none⟩ = some (.int .i64 (k2)) := hF.cell (by assumption)
                          go_simp
                          exact ⟨Ext.refl _, rfl⟩
                        · obtain ⟨h0, h1, -⟩ := hs
                          replace h0 : ρ (.tmp 271) = .int .i64 (-x) := h0
                          replace h1 : ρ (.tmp 273) = .int .i64 (k2) := h1
                          have hw : IntKind.i64.wrap (-x * k2) = m1 := HM1.out
                          go_simp
                          exact ⟨Ext.refl _, rfl⟩
                        · obtain ⟨h0, -⟩ := hs
                          replace h0 : ρ (.tmp 10) = .slice (some ⟨gr, ro, none⟩) n cr := h0
                          go_simp
                          exact ⟨Ext.refl _, rfl⟩
                        · obtain ⟨h0, -⟩ := hs
                          replace h0 : ρ (.tmp 21) = .int .i64 ((j : Int)) := h0
                          go_simp
                          exact ⟨Ext.refl _, rfl⟩
                        · obtain ⟨h0, h1, -⟩ := hs
                          replace h0 : ρ (.tmp 275) = .slice (some ⟨gr, ro, none⟩) n cr := h0
                          replace h1 : ρ (.tmp 276) = .int .i64 ((j : Int)) := h1
                          have hki : (j : Int) < (n : Int) := by omega
                          go_simp
                          exact ⟨Ext.refl _, rfl⟩
                        · obtain ⟨h0, -⟩ := hs
                          replace h0 : ρ (.tmp 277) = .pointer (some ⟨gr, ro + j, none⟩) := h0
                          have hc0 : W.cell? ⟨gr, ro + j, none⟩ = some (.int .i64 (x)) := hF.cell (by assumption)
                          go_simp
                          exact ⟨Ext.refl _, rfl⟩
                        · obtain ⟨h0, -⟩ := hs
                          replace h0 : ρ (.tmp 20) = .pointer (some ⟨q20, 0, none⟩) := h0
                          go_simp
                          exact ⟨Ext.refl _, rfl⟩
                        · obtain ⟨h0, -⟩ := hs
                          replace h0 : ρ (.tmp 279) = .pointer (some ⟨q20, 0, none⟩) := h0
                          have hc0 : W.cell? ⟨q20, 0, none⟩ = some (.int .i64 (k1)) := hF.cell (by assumption)
                          go_simp
                          exact ⟨Ext.refl _, rfl⟩
                        · obtain ⟨h0, h1, -⟩ := hs
                          replace h0 : ρ (.tmp 278) = .int .i64 (x) := h0
                          replace h1 : ρ (.tmp 280) = .int .i64 (k1) := h1
                          have hw : IntKind.i64.wrap (x * k1) = m2 := HM2.out
                          go_simp
                          exact ⟨Ext.refl _, rfl⟩
                        · obtain ⟨h0, h1, -⟩ := hs
                          replace h0 : ρ (.tmp 274) = .int .i64 (m1) := h0
                          replace h1 : ρ (.tmp 281) = .int .i64 (m2) := h1
                          go_simp
                          exact ⟨Ext.refl _, rfl⟩
                        · obtain ⟨h0, h1, -⟩ := hs
                          replace h0 : ρ (.tmp 266) = .agg #[.int .i64 (m1), .int .i64 (m2)] := h0
                          replace h1 : ρ (.tmp 282) = .agg #[.int .i64 (m1), .int .i64 (m2)] := h1
                          go_simp
                          first | exact ⟨Ext.refl _, rfl⟩ | exact Ext.refl _
                      · intro fv W17 hF hs
                        obtain ⟨-, -, -, -, -, -, -, -, -, -, -, -, -, -, -, -, -, -, -, -, -, -, h283, -⟩ := hs
                        replace h283 : fv 283 = .bool (false) := h283
                        simp only [fin, List.filterMap]
                        go_simp
                        have hx17 := X16.out.trans hF
                        have hb17 := b20.ext hF
                        clear hF z5 z8 z9 y0 y1 y2 y3 b20
                        go_wp2
                        go_roundw
                        case rel => exact ⟨j, by omega, by first | rfl | go_num, by rw [← HKK.out]; exact hb17, hx17⟩
                        case measure => first | (simp [intOf]; done) | (simp [intOf]; omega)


end Go.Proofs.Ytpaoeghdfeekoaa
