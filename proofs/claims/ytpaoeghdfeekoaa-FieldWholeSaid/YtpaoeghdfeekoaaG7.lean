/- FieldKept: the law's function. By lawgen.py. -/
import Derived.Test.YtpaoeghdfeekoaaG6
import Derived.Test.YtpaoeghdfeekoaaK3
namespace Go.Proofs.Ytpaoeghdfeekoaa
open Go.RowKit Go.Shelf Go.Mem Go.RegInv
attribute [local go_sem] RelUpon_value RelUpon_skip RelUpon_enter BigFrame.eval_const BigFrame.eval_global BigFrame.eval_func

def AsV (n : Nat) (zs : List G) : Value → World → Prop := fun u W => ∃ g c, u = .slice (some ⟨g, 0, none⟩) (n + 1) c ∧ RowsAt 2 G.enc W (some ⟨g, 0, none⟩) zs
theorem AsV.ext {n : Nat} {zs : List G} {u : Value} {W W' : World} (h : AsV n zs u W) (e : Ext W W') : AsV n zs u W' := by
  obtain ⟨g, c, h1, h2⟩ := h; exact ⟨g, c, h1, h2.ext e⟩
def BsV (n : Nat) (zs : List G) : Value → World → Prop := fun u W => ∃ A c, u = .slice A n c ∧ RowsAt 2 G.enc W A zs
theorem BsV.ext {n : Nat} {zs : List G} {u : Value} {W W' : World} (h : BsV n zs u W) (e : Ext W W') : BsV n zs u W' := by
  obtain ⟨g, c, h1, h2⟩ := h; exact ⟨g, c, h1, h2.ext e⟩

theorem voltagesPub_V {t : Int} {xs : List Sh} {f : Int} {hot : List Bool} {n m : Nat} (hn : xs.length = n) (hm : hot.length = m) (hq : driveE t xs f m = 0) (W : World) (u v : Value) (h : LadV t xs u W) (k : DrvV f hot v W) :
    Calls Try.prog 32 #[u, v] W (VPost W (TupV (AsV n (volts f hot xs)) 0)) := by
  obtain ⟨A, n', c, hn', rfl, hl⟩ := h
  obtain ⟨B, m', d, hm', rfl, hd⟩ := k
  obtain rfl : m = m' := hm.symm.trans hm'.out
  obtain rfl : n = n' := hn.symm.trans hn'.out
  refine (voltagesOf_any t A n c xs hn f B m d hot hm W hl.1 hd).mono ?_
  rintro e w' ⟨hx, ⟨h1, _⟩ | ⟨_, g, cap, h2, h3⟩⟩
  · exact absurd hq h1
  · exact ⟨_, h2, hx, _, rfl, g, cap, rfl, h3⟩
theorem currentsPub_V {t : Int} {xs : List Sh} {f : Int} {hot : List Bool} {n m : Nat} (hn : xs.length = n) (hm : hot.length = m) (hq : driveE t xs f m = 0) (W : World) (u v : Value) (h : LadV t xs u W) (k : DrvV f hot v W) :
    Calls Try.prog 33 #[u, v] W (VPost W (TupV (BsV n (curr xs (volts f hot xs).tail)) 0)) := by
  obtain ⟨A, n', c, hn', rfl, hl⟩ := h
  obtain ⟨B, m', d, hm', rfl, hd⟩ := k
  obtain rfl : m = m' := hm.symm.trans hm'.out
  obtain rfl : n = n' := hn.symm.trans hn'.out
  refine (currentsPub_any t A n c xs hn f B m d hot hm W hl.1 hd).mono ?_
  rintro e w' ⟨r, h1, h2, v, h3, h4⟩
  obtain ⟨A', c', h5, h6⟩ := h4.2 hq
  refine ⟨_, h1, h2, v, by rw [h3, hq], A', c', ?_, h6⟩
  rw [h5, curr_len xs _ (by simp [volts_len]), hn]
theorem checkVoltages_V {t : Int} {xs : List Sh} {f : Int} {hot : List Bool} {m : Nat} {zs : List G} (hm : hot.length = m) (hq : driveE t xs f m = 0) (W : World) (u v x : Value) (h : LadV t xs u W) (k : DrvV f hot v W) (l : GcV zs x W) :
    Calls Try.prog 34 #[u, v, x] W (VPost W (Is (.tuple #[.int .i64 (chkV f hot xs zs).1, .int .i64 (chkV f hot xs zs).2]))) := by
  obtain ⟨A, n', c, hn', rfl, hl⟩ := h
  obtain ⟨B, m', d, hm', rfl, hd⟩ := k
  obtain ⟨C, M, cz, hM, rfl, hz, hc⟩ := l
  obtain rfl : m = m' := hm.symm.trans hm'.out
  refine (checkVoltages_any t A n' c xs hn'.out f B m d hot hm C M cz zs hM.out hc W hl.1 hd hz).mono ?_
  rintro e w' ⟨h1, h2⟩
  have hA : chkA t f hot xs zs = chkV f hot xs zs := by unfold chkA; rw [if_neg (by rw [hm]; simp [hq])]
  rw [hA] at h1
  exact ⟨_, h1, h2, rfl⟩

theorem volts_inB {f : Int} {hot : List Bool} {ls : List Sh} (hok : ∀ s ∈ ls, shOK s) (hf : 1 ≤ f ∧ f ≤ 8) (h4 : ls.length ≤ 4) : ∀ z ∈ volts f hot ls, outG z = false := by
  intro z hz
  obtain ⟨k, hk⟩ := List.mem_iff_getElem?.1 hz
  have := volts_small hok hf h4 k z hk
  obtain ⟨⟨h1, h2⟩, h3, h5⟩ := this
  simp only [outG, outB, Bool.or_eq_false_iff, decide_eq_false_iff_not]
  omega
theorem chkV_volts {t f : Int} {hot : List Bool} {ls : List Sh} (h : driveE t ls f hot.length = 0) : chkV f hot ls (volts f hot ls) = (0, 0) := by
  obtain ⟨⟨_, ⟨h1, h4⟩, hok⟩, hf, hml⟩ := (driveE_zero t ls f hot.length).1 h
  have hend : zat (volts f hot ls) ls.length = ⟨1, 0⟩ := by
    show volt f hot ls ls.length = _
    rw [volt_at f hot ls _ (Nat.le_refl _), st_end]; rfl
  have hv : volE ls.length (volts f hot ls) = 0 := (volE_zero _ _).2 ⟨volts_len f hot ls, volts_inB hok hf h4, hend⟩
  unfold chkV
  rw [if_neg (by simp [hv])]
  exact chk_zero _ _ _ _ _ _ ((chk_volts f hot ls _ (volts_len f hot ls) hend).2 rfl)
theorem chkV_iff {t f : Int} {hot : List Bool} {ls : List Sh} (h : driveE t ls f hot.length = 0) (zs : List G) : (chkV f hot ls zs).2 = 0 ↔ volts f hot ls = zs := by
  constructor
  · intro hc
    unfold chkV at hc
    by_cases hv : volE ls.length zs = 0
    · rw [if_neg (by simp [hv])] at hc
      obtain ⟨h1, _, h3⟩ := (volE_zero _ _).1 hv
      exact ((chk_volts f hot ls zs h1 h3).1 hc).symm
    · rw [if_pos hv] at hc; exact absurd hc hv
  · rintro rfl
    rw [chkV_volts h]

theorem st_small {f : Int} {hot : List Bool} {ls : List Sh} (hok : ∀ s ∈ ls, shOK s) (hf : 1 ≤ f ∧ f ≤ 8) (h4 : ls.length ≤ 4) (k : Nat) : Bd 300000000 (st f hot ls k).last ∧ Bd 300000000 (st f hot ls k).cur := by
  refine vfold_small hf _ ?_ (by simp [bx_len]; omega)
  intro x hx
  obtain ⟨y, _, rfl⟩ := List.mem_map.1 (List.mem_of_mem_take hx)
  exact hok _ (List.mem_of_getElem? y.2)

theorem inB_of {lo hi x : Int} (h1 : lo ≤ x) (h2 : x ≤ hi) : inB lo hi x = true := by simp [inB, h1, h2]

set_option maxRecDepth 100000 in
set_option maxHeartbeats 8000000 in
theorem fieldKept_any (t : Int) (A : Option Addr) (n ca : Nat) (xs : List Sh) (hn : xs.length = n) (f : Int) (B : Option Addr) (m cb : Nat) (hot : List Bool) (hm : hot.length = m) (C : Option Addr) (M cz : Nat) (zs : List G) (hM : zs.length = M) (w : World)
    (hA : n ≤ 6 → RowsAt 3 Sh.enc w A xs) (hB : m ≤ 6 → RowsAt 1 boolEnc w B hot) (hZ : M ≤ 8 → RowsAt 2 G.enc w C zs) (hAn : A = none → ca = 0) (hBn : B = none → cb = 0) (hCn : C = none → cz = 0) :
    Calls Try.prog 6 #[.agg #[.int .i64 t, .slice A n ca], .agg #[.int .i64 f, .slice B m cb], .slice C M cz] w fun e w' => e = .returned (.bool true) ∧ Ext w w' := by
  have e0 : Ext w ((w.alloc (.cells #[.int .i64 t, .slice A n ca] 24)).alloc (.cells #[.int .i64 f, .slice B m cb] 27)) := (Ext.alloc _ _).trans (Ext.alloc _ _)
  have FA := Lib.hid (show ∀ W : World, Ext ((w.alloc (.cells #[.int .i64 t, .slice A n ca] 24)).alloc (.cells #[.int .i64 f, .slice B m cb] 27)) W →
      W.cell? ⟨w.heap.size, 0, none⟩ = some (.int .i64 t) ∧ W.cell? ⟨w.heap.size, 1, none⟩ = some (.slice A n ca) ∧ W.cell? ⟨w.heap.size + 1, 0, none⟩ = some (.int .i64 f) ∧ W.cell? ⟨w.heap.size + 1, 1, none⟩ = some (.slice B m cb) from
    fun W hx => ⟨hx.cell (by go_simp), hx.cell (by go_simp), hx.cell (by go_simp), hx.cell (by go_simp)⟩)
  have H24 := Lib.hid (fun W (e : Ext w W) => refBothErr_gen t A n ca xs hn f B m cb W (fun h => (hA h).ext e))
  have E0 := Lib.hid e0
  clear e0
  by_cases hq : driveE t xs f m = 0
  · by_cases hM8 : M ≤ 8
    · obtain ⟨⟨ht, ⟨h1, h4⟩, hok⟩, hf, hml⟩ := (driveE_zero t xs f m).1 hq
      obtain rfl : n = m := by rw [hml, hn]
      rw [hn] at h1 h4
      have hA' := hA (by omega)
      have hB' := hB (by omega)
      have hZ' := hZ hM8
      have HCL := Lib.hid (copyLadder_V (t := t) hn hA' (by omega) hAn)
      have HCD := Lib.hid (copyDrive_V (f := f) hm hB' (by omega) hBn)
      have HCZ := Lib.hid (fun W (e : Ext w W) => copyGausses_V C M cz zs hM W (hZ'.ext e) hM8 hCn)
      have H32 := Lib.hid (voltagesPub_V (t := t) hn hm hq)
      have H33 := Lib.hid (currentsPub_V (t := t) hn hm hq)
      have H39 := Lib.hid (fun W u v (h : LadV t xs u W) (k : DrvV f hot v W) => show Calls Try.prog 39 #[u, v] W (VPost W (TupV (Ints (powers f hot xs)) 0)) from by
        have := powersPub_V (f := f) hm W u v h k
        rw [hq] at this
        exact this.mono fun e w' ⟨r, h1, h2, v, h3, h4⟩ => ⟨r, h1, h2, v, h3, h4.2 rfl⟩)
      have hq' : driveE t xs f hot.length = 0 := by rw [hm]; exact hq
      have H34a := Lib.hid (show ∀ W u v x, LadV t xs u W → DrvV f hot v W → GcV (volts f hot xs) x W → Calls Try.prog 34 #[u, v, x] W (VPost W (Is (.tuple #[.int .i64 0, .int .i64 0]))) from fun W u v x h k l => by
        have := checkVoltages_V (t := t) hm hq W u v x h k l
        rw [chkV_volts hq'] at this
        exact this)
      have H34z := Lib.hid (fun W u v x h k l => checkVoltages_V (t := t) (zs := zs) hm hq W u v x h k l)
      have HIFF := Lib.hid (chkV_iff hq' zs)
      obtain ⟨d1, hd1⟩ : ∃ d, d = (chkV f hot xs zs).1 := ⟨_, rfl⟩
      obtain ⟨d2, hd2⟩ : ∃ d, d = (chkV f hot xs zs).2 := ⟨_, rfl⟩
      rw [← hd1, ← hd2] at H34z
      rw [← hd2] at HIFF
      obtain ⟨vs, hvs⟩ : ∃ vs, vs = volts f hot xs := ⟨_, rfl⟩
      have hvl : vs.length = n + 1 := by rw [hvs, volts_len, hn]
      obtain ⟨cs, hcs⟩ : ∃ cs, cs = curr xs vs.tail := ⟨_, rfl⟩
      have hcl : cs.length = n := by rw [hcs, curr_len xs _ (by simp [hvl, hn]), hn]
      obtain ⟨⟨ar, ai⟩, ha⟩ : ∃ z, z = (st f hot xs 0).last := ⟨_, rfl⟩
      obtain ⟨⟨br, bi⟩, hb⟩ : ∃ z, z = (st f hot xs 0).cur := ⟨_, rfl⟩
      have hva : vs[0]? = some ⟨ar, ai⟩ := by rw [hvs, volts_at f hot xs 0 (Nat.zero_le _), ha]
      have hcb : cs[0]? = some ⟨br, bi⟩ := by
        rw [hb, ← cur_at f hot xs n 0 (by omega), ← hvs, hcs]
        simp [curAt, List.getElem?_eq_getElem (show 0 < (curr xs vs.tail).length by rw [← hcs]; omega)]
      have hsm := st_small (hot := hot) hok hf (by omega) 0
      rw [← ha, ← hb] at hsm
      obtain ⟨⟨⟨s1, s2⟩, s3, s4⟩, ⟨s5, s6⟩, s7, s8⟩ := hsm
      dsimp only at s1 s2 s3 s4 s5 s6 s7 s8
      obtain ⟨ps, hps⟩ : ∃ ps, ps = powers f hot xs := ⟨_, rfl⟩
      have hpl : ps.length = n := by rw [hps, powers_len, hn]
      have hsum : ps.sum = ar * br + ai * bi := by
        have := real_sum f hot xs n 0 (by omega)
        rw [← ha, ← hb, ← hps] at this
        simpa [realP] using this.symm
      have hpok := powers_ok (hot := hot) hok hf (by omega) (by omega)
      rw [← hps] at hpok
      have HNN := Lib.hid (show ∀ (k : Nat) (x : Int), ps[k]? = some x → 0 ≤ x from fun k x hx => by
        have hk : k < n := by rw [← hpl]; exact (List.getElem?_eq_some_iff.1 hx).1
        have hs : xs[k]? = some (xs[k]'(by omega)) := List.getElem?_eq_getElem (by omega)
        rw [hps, powers_get hs] at hx
        obtain rfl := Option.some.inj hx
        exact Int.mul_nonneg (by have := (hok _ (List.mem_of_getElem? hs)).1; omega) (norm_nonneg _))
      have p1 := prod_bd (B := 300000000) (x := ar) (y := br) ⟨s1, s2⟩ ⟨s5, s6⟩
      have p2 := prod_bd (B := 300000000) (x := ai) (y := bi) ⟨s3, s4⟩ ⟨s7, s8⟩
      rw [← hvs] at H32 H33 H34a HIFF
      rw [← hcs] at H33
      rw [← hps] at H39
      have HVA := Lib.hid hva
      have HCB := Lib.hid hcb
      have HVL := Lib.hid hvl
      have HCLN := Lib.hid hcl
      have HPL := Lib.hid hpl
      have HSUM := Lib.hid hsum
      have HPOK := Lib.hid hpok
      have HM := Lib.hid hM
      have HZ := Lib.hid hZ'
      have hM8' : (8 : Int) < (M : Int) → False := fun h => by omega
      have hMd : decide ((8 : Int) < (M : Int)) = false := by simp; omega
      rw [hq] at H24
      clear ht hok hf hml hA hB hZ hA' hB' hZ' hAn hBn hCn hd1 hd2 hvs hcs ha hb hva hcb hps hpok hsum hq hq' hn hm hM hvl hcl hpl hM8'
      go_enter Try.func6, Try.ntmps6
      go_wp2_with (first
        | (go_at_call 15; refine (awake_any _).mono ?_; rintro e W1 ⟨rfl, hx1⟩; obtain ⟨z0, z1, z2, z3⟩ := FA.out _ hx1; have X1 := Lib.hid hx1; clear hx1)
        | (go_at_call 24; refine (H24.out _ (E0.out.trans X1.out)).mono ?_; rintro e W2 ⟨rfl, hx2⟩; clear z0 z1 z2 z3; have X2 := Lib.hid (X1.out.trans hx2); clear hx2; obtain ⟨z0, z1, z2, z3⟩ := FA.out _ X2.out))
      have EB := Lib.hid (E0.out.trans X2.out)
      refine wp_region_each [some 31, some 32, some 33, some 34, some 35, some 30, some 36, some 37, some 7, some 8] [[3], [31], [4], [33], [32, 34], [35], [30], [30], [36], [37]]
        [Is (.agg #[.int .i64 (t), .slice A n ca]), LadV t xs, Is (.agg #[.int .i64 (f), .slice B n cb]), DrvV f hot, TupV (AsV n vs) (0), TupV (AsV n vs) (0), AsV n vs, Is (.int .i64 (0)), AsV n vs, Is (.int .i64 (0))]
        (by kernel_rfl) (by kernel_rfl) (by kernel_rfl) (by kernel_rfl) (by kernel_rfl) Ext (fun W => Ext W2 W)
        (fun W _ => Ext.refl W) (fun W W' h k => h.trans k) ?_ (Ext.drew _) ?_ ?_
      · repeat (refine ⟨fun _ _ _ _ k h => (by first | exact h | exact (by first | exact LadV.ext h k | exact DrvV.ext h k | exact GcV.ext h k | exact AsV.ext h k | exact BsV.ext h k | exact IntsAt.ext h k | exact TupV.ext (fun _ _ _ h k => by first | exact AsV.ext h k | exact BsV.ext h k | exact IntsAt.ext h k) h k)), ?_⟩)
        exact trivial
      · refine ⟨?_, ?_, ?_, ?_, ?_, ?_, ?_, ?_, ?_, ?_, trivial⟩
        all_goals intro ρ W ⟨kc, kg, kf⟩ hF hs
        · obtain ⟨h0, -⟩ := hs
          replace h0 : ρ (.tmp 3) = .pointer (some ⟨w.heap.size, 0, none⟩) := h0
          have hc0 : W.cell? ⟨w.heap.size, 0, none⟩ = some (.int .i64 (t)) := hF.cell (by assumption)
          have hc1 : W.cell? ⟨w.heap.size, 1, none⟩ = some (.slice A n ca) := hF.cell (by assumption)
          go_simp
          exact ⟨Ext.refl _, rfl⟩
        · obtain ⟨h0, -⟩ := hs
          replace h0 : ρ (.tmp 31) = .agg #[.int .i64 (t), .slice A n ca] := h0
          go_simp
          exact HCL.out W (EB.out.trans hF)
        · obtain ⟨h0, -⟩ := hs
          replace h0 : ρ (.tmp 4) = .pointer (some ⟨w.heap.size + 1, 0, none⟩) := h0
          have hc0 : W.cell? ⟨w.heap.size + 1, 0, none⟩ = some (.int .i64 (f)) := hF.cell (by assumption)
          have hc1 : W.cell? ⟨w.heap.size + 1, 1, none⟩ = some (.slice B n cb) := hF.cell (by assumption)
          go_simp
          exact ⟨Ext.refl _, rfl⟩
        · obtain ⟨h0, -⟩ := hs
          replace h0 : ρ (.tmp 33) = .agg #[.int .i64 (f), .slice B n cb] := h0
          go_simp
          exact HCD.out W (EB.out.trans hF)
        · obtain ⟨h0, h1, -⟩ := hs
          replace h0 : (LadV t xs) (ρ (.tmp 32)) W := h0
          replace h1 : (DrvV f hot) (ρ (.tmp 34)) W := h1
          go_simp
          exact H32.out W _ _ h0 h1
        · obtain ⟨h0, -⟩ := hs
          replace h0 : (TupV (AsV n vs) (0)) (ρ (.tmp 35)) W := h0
          go_simp
          first | exact ⟨Ext.refl _, h0⟩ | exact Ext.refl _
        · obtain ⟨h0, -⟩ := hs
          replace h0 : (TupV (AsV n vs) (0)) (ρ (.tmp 30)) W := h0
          obtain ⟨v, hv, hp⟩ := h0
          go_simp
          first | exact ⟨Ext.refl _, hp⟩ | exact Ext.refl _
        · obtain ⟨h0, -⟩ := hs
          replace h0 : (TupV (AsV n vs) (0)) (ρ (.tmp 30)) W := h0
          obtain ⟨v, hv, hp⟩ := h0
          go_simp
          first | exact ⟨Ext.refl _, rfl⟩ | exact Ext.refl _
        · obtain ⟨h0, -⟩ := hs
          replace h0 : (AsV n vs) (ρ (.tmp 36)) W := h0
          go_simp
          first | exact ⟨Ext.refl _, h0⟩ | exact Ext.refl _
        · obtain ⟨h0, -⟩ := hs
          replace h0 : ρ (.tmp 37) = .int .i64 (0) := h0
          go_simp
          exact ⟨Ext.refl _, rfl⟩
      · intro fv W3 hF hs
        obtain ⟨-, -, -, -, -, -, -, -, h7, h8, -⟩ := hs
        replace h7 : (AsV n vs) (fv 7) W3 := h7
        replace h8 : fv 8 = .int .i64 (0) := h8
        simp only [fin, List.filterMap]
        go_simp
        have X3 := Lib.hid (X2.out.trans hF)
        clear hF z0 z1 z2 z3
        obtain ⟨z0, z1, z2, z3⟩ := FA.out _ X3.out
        have EB := Lib.hid (E0.out.trans X3.out)
        obtain ⟨ga, ca7, hva7, hra⟩ := h7
        have HRA := Lib.hid hra
        rw [hva7]
        clear hra hva7 h8
        go_wp2
        refine wp_region_each [some 39, some 40, some 41, some 42, some 43, some 38, some 44, some 45, some 9, some 10] [[3], [39], [4], [41], [40, 42], [43], [38], [38], [44], [45]]
          [Is (.agg #[.int .i64 (t), .slice A n ca]), LadV t xs, Is (.agg #[.int .i64 (f), .slice B n cb]), DrvV f hot, TupV (BsV n cs) (0), TupV (BsV n cs) (0), BsV n cs, Is (.int .i64 (0)), BsV n cs, Is (.int .i64 (0))]
          (by kernel_rfl) (by kernel_rfl) (by kernel_rfl) (by kernel_rfl) (by kernel_rfl) Ext (fun W => Ext W3 W)
          (fun W _ => Ext.refl W) (fun W W' h k => h.trans k) ?_ (Ext.drew _) ?_ ?_
        · repeat (refine ⟨fun _ _ _ _ k h => (by first | exact h | exact (by first | exact LadV.ext h k | exact DrvV.ext h k | exact GcV.ext h k | exact AsV.ext h k | exact BsV.ext h k | exact IntsAt.ext h k | exact TupV.ext (fun _ _ _ h k => by first | exact AsV.ext h k | exact BsV.ext h k | exact IntsAt.ext h k) h k)), ?_⟩)
          exact trivial
        · refine ⟨?_, ?_, ?_, ?_, ?_, ?_, ?_, ?_, ?_, ?_, trivial⟩
          all_goals intro ρ W ⟨kc, kg, kf⟩ hF hs
          · obtain ⟨h0, -⟩ := hs
            replace h0 : ρ (.tmp 3) = .pointer (some ⟨w.heap.size, 0, none⟩) := h0
            have hc0 : W.cell? ⟨w.heap.size, 0, none⟩ = some (.int .i64 (t)) := hF.cell (by assumption)
            have hc1 : W.cell? ⟨w.heap.size, 1, none⟩ = some (.slice A n ca) := hF.cell (by assumption)
            go_simp
            exact ⟨Ext.refl _, rfl⟩
          · obtain ⟨h0, -⟩ := hs
            replace h0 : ρ (.tmp 39) = .agg #[.int .i64 (t), .slice A n ca] := h0
            go_simp
            exact HCL.out W (EB.out.trans hF)
          · obtain ⟨h0, -⟩ := hs
            replace h0 : ρ (.tmp 4) = .pointer (some ⟨w.heap.size + 1, 0, none⟩) := h0
            have hc0 : W.cell? ⟨w.heap.size + 1, 0, none⟩ = some (.int .i64 (f)) := hF.cell (by assumption)
            have hc1 : W.cell? ⟨w.heap.size + 1, 1, none⟩ = some (.slice B n cb) := hF.cell (by assumption)
            go_simp
            exact ⟨Ext.refl _, rfl⟩
          · obtain ⟨h0, -⟩ := hs
            replace h0 : ρ (.tmp 41) = .agg #[.int .i64 (f), .slice B n cb] := h0
            go_simp
            exact HCD.out W (EB.out.trans hF)
          · obtain ⟨h0, h1, -⟩ := hs
            replace h0 : (LadV t xs) (ρ (.tmp 40)) W := h0
            replace h1 : (DrvV f hot) (ρ (.tmp 42)) W := h1
            go_simp
            exact H33.out W _ _ h0 h1
          · obtain ⟨h0, -⟩ := hs
            replace h0 : (TupV (BsV n cs) (0)) (ρ (.tmp 43)) W := h0
            go_simp
            first | exact ⟨Ext.refl _, h0⟩ | exact Ext.refl _
          · obtain ⟨h0, -⟩ := hs
            replace h0 : (TupV (BsV n cs) (0)) (ρ (.tmp 38)) W := h0
            obtain ⟨v, hv, hp⟩ := h0
            go_simp
            first | exact ⟨Ext.refl _, hp⟩ | exact Ext.refl _
          · obtain ⟨h0, -⟩ := hs
            replace h0 : (TupV (BsV n cs) (0)) (ρ (.tmp 38)) W := h0
            obtain ⟨v, hv, hp⟩ := h0
            go_simp
            first | exact ⟨Ext.refl _, rfl⟩ | exact Ext.refl _
          · obtain ⟨h0, -⟩ := hs
            replace h0 : (BsV n cs) (ρ (.tmp 44)) W := h0
            go_simp
            first | exact ⟨Ext.refl _, h0⟩ | exact Ext.refl _
          · obtain ⟨h0, -⟩ := hs
            replace h0 : ρ (.tmp 45) = .int .i64 (0) := h0
            go_simp
            exact ⟨Ext.refl _, rfl⟩
        · intro fv W4 hF hs
          obtain ⟨-, -, -, -, -, -, -, -, h9, h10, -⟩ := hs
          replace h9 : (BsV n cs) (fv 9) W4 := h9
          replace h10 : fv 10 = .int .i64 (0) := h10
          simp only [fin, List.filterMap]
          go_simp
          have X34 := Lib.hid hF
          have X4 := Lib.hid (X3.out.trans hF)
          clear hF z0 z1 z2 z3
          obtain ⟨z0, z1, z2, z3⟩ := FA.out _ X4.out
          have EB := Lib.hid (E0.out.trans X4.out)
          obtain ⟨Ab, cb9, hvb, hrb⟩ := h9
          have HRB := Lib.hid hrb
          rw [hvb]
          clear hrb hvb h10
          go_wp2
          refine wp_region_each [some 47, some 48, some 49, some 50, some 51, some 46, some 52, some 53, some 11, some 12] [[3], [47], [4], [49], [48, 50], [51], [46], [46], [52], [53]]
            [Is (.agg #[.int .i64 (t), .slice A n ca]), LadV t xs, Is (.agg #[.int .i64 (f), .slice B n cb]), DrvV f hot, TupV (Ints ps) (0), TupV (Ints ps) (0), Ints ps, Is (.int .i64 (0)), Ints ps, Is (.int .i64 (0))]
            (by kernel_rfl) (by kernel_rfl) (by kernel_rfl) (by kernel_rfl) (by kernel_rfl) Ext (fun W => Ext W4 W)
            (fun W _ => Ext.refl W) (fun W W' h k => h.trans k) ?_ (Ext.drew _) ?_ ?_
          · repeat (refine ⟨fun _ _ _ _ k h => (by first | exact h | exact (by first | exact LadV.ext h k | exact DrvV.ext h k | exact GcV.ext h k | exact AsV.ext h k | exact BsV.ext h k | exact IntsAt.ext h k | exact TupV.ext (fun _ _ _ h k => by first | exact AsV.ext h k | exact BsV.ext h k | exact IntsAt.ext h k) h k)), ?_⟩)
            exact trivial
          · refine ⟨?_, ?_, ?_, ?_, ?_, ?_, ?_, ?_, ?_, ?_, trivial⟩
            all_goals intro ρ W ⟨kc, kg, kf⟩ hF hs
            · obtain ⟨h0, -⟩ := hs
              replace h0 : ρ (.tmp 3) = .pointer (some ⟨w.heap.size, 0, none⟩) := h0
              have hc0 : W.cell? ⟨w.heap.size, 0, none⟩ = some (.int .i64 (t)) := hF.cell (by assumption)
              have hc1 : W.cell? ⟨w.heap.size, 1, none⟩ = some (.slice A n ca) := hF.cell (by assumption)
              go_simp
              exact ⟨Ext.refl _, rfl⟩
            · obtain ⟨h0, -⟩ := hs
              replace h0 : ρ (.tmp 47) = .agg #[.int .i64 (t), .slice A n ca] := h0
              go_simp
              exact HCL.out W (EB.out.trans hF)
            · obtain ⟨h0, -⟩ := hs
              replace h0 : ρ (.tmp 4) = .pointer (some ⟨w.heap.size + 1, 0, none⟩) := h0
              have hc0 : W.cell? ⟨w.heap.size + 1, 0, none⟩ = some (.int .i64 (f)) := hF.cell (by assumption)
              have hc1 : W.cell? ⟨w.heap.size + 1, 1, none⟩ = some (.slice B n cb) := hF.cell (by assumption)
              go_simp
              exact ⟨Ext.refl _, rfl⟩
            · obtain ⟨h0, -⟩ := hs
              replace h0 : ρ (.tmp 49) = .agg #[.int .i64 (f), .slice B n cb] := h0
              go_simp
              exact HCD.out W (EB.out.trans hF)
            · obtain ⟨h0, h1, -⟩ := hs
              replace h0 : (LadV t xs) (ρ (.tmp 48)) W := h0
              replace h1 : (DrvV f hot) (ρ (.tmp 50)) W := h1
              go_simp
              exact H39.out W _ _ h0 h1
            · obtain ⟨h0, -⟩ := hs
              replace h0 : (TupV (Ints ps) (0)) (ρ (.tmp 51)) W := h0
              go_simp
              first | exact ⟨Ext.refl _, h0⟩ | exact Ext.refl _
            · obtain ⟨h0, -⟩ := hs
              replace h0 : (TupV (Ints ps) (0)) (ρ (.tmp 46)) W := h0
              obtain ⟨v, hv, hp⟩ := h0
              go_simp
              first | exact ⟨Ext.refl _, hp⟩ | exact Ext.refl _
            · obtain ⟨h0, -⟩ := hs
              replace h0 : (TupV (Ints ps) (0)) (ρ (.tmp 46)) W := h0
              obtain ⟨v, hv, hp⟩ := h0
              go_simp
              first | exact ⟨Ext.refl _, rfl⟩ | exact Ext.refl _
            · obtain ⟨h0, -⟩ := hs
              replace h0 : (Ints ps) (ρ (.tmp 52)) W := h0
              go_simp
              first | exact ⟨Ext.refl _, h0⟩ | exact Ext.refl _
            · obtain ⟨h0, -⟩ := hs
              replace h0 : ρ (.tmp 53) = .int .i64 (0) := h0
              go_simp
              exact ⟨Ext.refl _, rfl⟩
          · intro fv W5 hF hs
            obtain ⟨-, -, -, -, -, -, -, -, h11, h12, -⟩ := hs
            replace h11 : (Ints ps) (fv 11) W5 := h11
            replace h12 : fv 12 = .int .i64 (0) := h12
            simp only [fin, List.filterMap]
            go_simp
            have X45 := Lib.hid hF
            have X5 := Lib.hid (X4.out.trans hF)
            clear hF z0 z1 z2 z3
            obtain ⟨z0, z1, z2, z3⟩ := FA.out _ X5.out
            have EB := Lib.hid (E0.out.trans X5.out)
            obtain ⟨Ap, cpp, hvp, hrp⟩ := ints_rows h11
            rw [HPL.out] at hvp
            have HRP := Lib.hid hrp
            rw [hvp]
            clear hrp hvp h11 h12
            have HCA := Lib.hid (fun W (e : Ext W5 W) => copyGausses_V (some ⟨ga, 0, none⟩) (n + 1) ca7 vs HVL.out W (HRA.out.ext (X34.out.trans (X45.out.trans e))) (by omega) (fun h => by cases h))
            go_wp2
            refine wp_region_each [some 90, some 91, some 92, some 93, some 94, some 95, some 96, some 89, some 97, some 98, some 13, some 14] [[3], [90], [4], [92], [7], [94], [91, 93, 95], [96], [89], [89], [97], [98]]
              [Is (.agg #[.int .i64 (t), .slice A n ca]), LadV t xs, Is (.agg #[.int .i64 (f), .slice B n cb]), DrvV f hot, Is (.slice (some ⟨ga, 0, none⟩) (n + 1) ca7), GcV vs, Is (.tuple #[.int .i64 (0), .int .i64 (0)]), Is (.tuple #[.int .i64 (0), .int .i64 (0)]), Is (.int .i64 (0)), Is (.int .i64 (0)), Is (.int .i64 (0)), Is (.int .i64 (0))]
              (by kernel_rfl) (by kernel_rfl) (by kernel_rfl) (by kernel_rfl) (by kernel_rfl) Ext (fun W => Ext W5 W)
              (fun W _ => Ext.refl W) (fun W W' h k => h.trans k) ?_ (Ext.drew _) ?_ ?_
            · repeat (refine ⟨fun _ _ _ _ k h => (by first | exact h | exact (by first | exact LadV.ext h k | exact DrvV.ext h k | exact GcV.ext h k | exact AsV.ext h k | exact BsV.ext h k | exact IntsAt.ext h k | exact TupV.ext (fun _ _ _ h k => by first | exact AsV.ext h k | exact BsV.ext h k | exact IntsAt.ext h k) h k)), ?_⟩)
              exact trivial
            · refine ⟨?_, ?_, ?_, ?_, ?_, ?_, ?_, ?_, ?_, ?_, ?_, ?_, trivial⟩
              all_goals intro ρ W ⟨kc, kg, kf⟩ hF hs
              · obtain ⟨h0, -⟩ := hs
                replace h0 : ρ (.tmp 3) = .pointer (some ⟨w.heap.size, 0, none⟩) := h0
                have hc0 : W.cell? ⟨w.heap.size, 0, none⟩ = some (.int .i64 (t)) := hF.cell (by assumption)
                have hc1 : W.cell? ⟨w.heap.size, 1, none⟩ = some (.slice A n ca) := hF.cell (by assumption)
                go_simp
                exact ⟨Ext.refl _, rfl⟩
              · obtain ⟨h0, -⟩ := hs
                replace h0 : ρ (.tmp 90) = .agg #[.int .i64 (t), .slice A n ca] := h0
                go_simp
                exact HCL.out W (EB.out.trans hF)
              · obtain ⟨h0, -⟩ := hs
                replace h0 : ρ (.tmp 4) = .pointer (some ⟨w.heap.size + 1, 0, none⟩) := h0
                have hc0 : W.cell? ⟨w.heap.size + 1, 0, none⟩ = some (.int .i64 (f)) := hF.cell (by assumption)
                have hc1 : W.cell? ⟨w.heap.size + 1, 1, none⟩ = some (.slice B n cb) := hF.cell (by assumption)
                go_simp
                exact ⟨Ext.refl _, rfl⟩
              · obtain ⟨h0, -⟩ := hs
                replace h0 : ρ (.tmp 92) = .agg #[.int .i64 (f), .slice B n cb] := h0
                go_simp
                exact HCD.out W (EB.out.trans hF)
              · obtain ⟨h0, -⟩ := hs
                replace h0 : ρ (.tmp 7) = .slice (some ⟨ga, 0, none⟩) (n + 1) ca7 := h0
                go_simp
                exact ⟨Ext.refl _, rfl⟩
              · obtain ⟨h0, -⟩ := hs
                replace h0 : ρ (.tmp 94) = .slice (some ⟨ga, 0, none⟩) (n + 1) ca7 := h0
                go_simp
                exact HCA.out W hF
              · obtain ⟨h0, h1, h2, -⟩ := hs
                replace h0 : (LadV t xs) (ρ (.tmp 91)) W := h0
                replace h1 : (DrvV f hot) (ρ (.tmp 93)) W := h1
                replace h2 : (GcV vs) (ρ (.tmp 95)) W := h2
                go_simp
                exact H34a.out W _ _ _ h0 h1 h2
              · obtain ⟨h0, -⟩ := hs
                replace h0 : ρ (.tmp 96) = .tuple #[.int .i64 (0), .int .i64 (0)] := h0
                go_simp
                first | exact ⟨Ext.refl _, rfl⟩ | exact Ext.refl _
              · obtain ⟨h0, -⟩ := hs
                replace h0 : ρ (.tmp 89) = .tuple #[.int .i64 (0), .int .i64 (0)] := h0
                go_simp
                first | exact ⟨Ext.refl _, rfl⟩ | exact Ext.refl _
              · obtain ⟨h0, -⟩ := hs
                replace h0 : ρ (.tmp 89) = .tuple #[.int .i64 (0), .int .i64 (0)] := h0
                go_simp
                first | exact ⟨Ext.refl _, rfl⟩ | exact Ext.refl _
              · obtain ⟨h0, -⟩ := hs
                replace h0 : ρ (.tmp 97) = .int .i64 (0) := h0
                go_simp
                first | exact ⟨Ext.refl _, rfl⟩ | exact Ext.refl _
              · obtain ⟨h0, -⟩ := hs
                replace h0 : ρ (.tmp 98) = .int .i64 (0) := h0
                go_simp
                first | exact ⟨Ext.refl _, rfl⟩ | exact Ext.refl _
            · intro fv W6 hF hs
              obtain ⟨-, -, -, -, -, -, -, -, -, -, h13, h14, -⟩ := hs
              replace h13 : fv 13 = .int .i64 (0) := h13
              replace h14 : fv 14 = .int .i64 (0) := h14
              simp only [fin, List.filterMap]
              go_simp
              have X56 := Lib.hid hF
              have X6 := Lib.hid (X5.out.trans hF)
              clear hF z0 z1 z2 z3 h13 h14
              obtain ⟨z0, z1, z2, z3⟩ := FA.out _ X6.out
              have EB := Lib.hid (E0.out.trans X6.out)
              go_wp2
              refine wp_region_each [some 100, some 101, some 102, some 103, some 104, some 105, some 106, some 99, some 107, some 108, some 15, some 16] [[3], [100], [4], [102], [2], [104], [101, 103, 105], [106], [99], [99], [107], [108]]
                [Is (.agg #[.int .i64 (t), .slice A n ca]), LadV t xs, Is (.agg #[.int .i64 (f), .slice B n cb]), DrvV f hot, Is (.slice C M cz), GcV zs, Is (.tuple #[.int .i64 (d1), .int .i64 (d2)]), Is (.tuple #[.int .i64 (d1), .int .i64 (d2)]), Is (.int .i64 (d1)), Is (.int .i64 (d2)), Is (.int .i64 (d1)), Is (.int .i64 (d2))]
                (by kernel_rfl) (by kernel_rfl) (by kernel_rfl) (by kernel_rfl) (by kernel_rfl) Ext (fun W => Ext W6 W)
                (fun W _ => Ext.refl W) (fun W W' h k => h.trans k) ?_ (Ext.drew _) ?_ ?_
              · repeat (refine ⟨fun _ _ _ _ k h => (by first | exact h | exact (by first | exact LadV.ext h k | exact DrvV.ext h k | exact GcV.ext h k | exact AsV.ext h k | exact BsV.ext h k | exact IntsAt.ext h k | exact TupV.ext (fun _ _ _ h k => by first | exact AsV.ext h k | exact BsV.ext h k | exact IntsAt.ext h k) h k)), ?_⟩)
                exact trivial
              · refine ⟨?_, ?_, ?_, ?_, ?_, ?_, ?_, ?_, ?_, ?_, ?_, ?_, trivial⟩
                all_goals intro ρ W ⟨kc, kg, kf⟩ hF hs
                · obtain ⟨h0, -⟩ := hs
                  replace h0 : ρ (.tmp 3) = .pointer (some ⟨w.heap.size, 0, none⟩) := h0
                  have hc0 : W.cell? ⟨w.heap.size, 0, none⟩ = some (.int .i64 (t)) := hF.cell (by assumption)
                  have hc1 : W.cell? ⟨w.heap.size, 1, none⟩ = some (.slice A n ca) := hF.cell (by assumption)
                  go_simp
                  exact ⟨Ext.refl _, rfl⟩
                · obtain ⟨h0, -⟩ := hs
                  replace h0 : ρ (.tmp 100) = .agg #[.int .i64 (t), .slice A n ca] := h0
                  go_simp
                  exact HCL.out W (EB.out.trans hF)
                · obtain ⟨h0, -⟩ := hs
                  replace h0 : ρ (.tmp 4) = .pointer (some ⟨w.heap.size + 1, 0, none⟩) := h0
                  have hc0 : W.cell? ⟨w.heap.size + 1, 0, none⟩ = some (.int .i64 (f)) := hF.cell (by assumption)
                  have hc1 : W.cell? ⟨w.heap.size + 1, 1, none⟩ = some (.slice B n cb) := hF.cell (by assumption)
                  go_simp
                  exact ⟨Ext.refl _, rfl⟩
                · obtain ⟨h0, -⟩ := hs
                  replace h0 : ρ (.tmp 102) = .agg #[.int .i64 (f), .slice B n cb] := h0
                  go_simp
                  exact HCD.out W (EB.out.trans hF)
                · obtain ⟨h0, -⟩ := hs
                  replace h0 : ρ (.tmp 2) = .slice C M cz := h0
                  go_simp
                  exact ⟨Ext.refl _, rfl⟩
                · obtain ⟨h0, -⟩ := hs
                  replace h0 : ρ (.tmp 104) = .slice C M cz := h0
                  go_simp
                  exact HCZ.out W (EB.out.trans hF)
                · obtain ⟨h0, h1, h2, -⟩ := hs
                  replace h0 : (LadV t xs) (ρ (.tmp 101)) W := h0
                  replace h1 : (DrvV f hot) (ρ (.tmp 103)) W := h1
                  replace h2 : (GcV zs) (ρ (.tmp 105)) W := h2
                  go_simp
                  exact H34z.out W _ _ _ h0 h1 h2
                · obtain ⟨h0, -⟩ := hs
                  replace h0 : ρ (.tmp 106) = .tuple #[.int .i64 (d1), .int .i64 (d2)] := h0
                  go_simp
                  first | exact ⟨Ext.refl _, rfl⟩ | exact Ext.refl _
                · obtain ⟨h0, -⟩ := hs
                  replace h0 : ρ (.tmp 99) = .tuple #[.int .i64 (d1), .int .i64 (d2)] := h0
                  go_simp
                  first | exact ⟨Ext.refl _, rfl⟩ | exact Ext.refl _
                · obtain ⟨h0, -⟩ := hs
                  replace h0 : ρ (.tmp 99) = .tuple #[.int .i64 (d1), .int .i64 (d2)] := h0
                  go_simp
                  first | exact ⟨Ext.refl _, rfl⟩ | exact Ext.refl _
                · obtain ⟨h0, -⟩ := hs
                  replace h0 : ρ (.tmp 107) = .int .i64 (d1) := h0
                  go_simp
                  first | exact ⟨Ext.refl _, rfl⟩ | exact Ext.refl _
                · obtain ⟨h0, -⟩ := hs
                  replace h0 : ρ (.tmp 108) = .int .i64 (d2) := h0
                  go_simp
                  first | exact ⟨Ext.refl _, rfl⟩ | exact Ext.refl _
              · intro fv W7 hF hs
                obtain ⟨-, -, -, -, -, -, -, -, -, -, h15, h16, -⟩ := hs
                replace h15 : fv 15 = .int .i64 (d1) := h15
                replace h16 : fv 16 = .int .i64 (d2) := h16
                simp only [fin, List.filterMap]
                go_simp
                have X37 := Lib.hid (X34.out.trans (X45.out.trans (X56.out.trans hF)))
                have X47 := Lib.hid (X45.out.trans (X56.out.trans hF))
                have X57 := Lib.hid (X56.out.trans hF)
                have X7 := Lib.hid (X6.out.trans hF)
                clear hF z0 z1 z2 z3 h15 h16
                obtain ⟨bb, hb1, hb2⟩ : ∃ bb, (d2 == 0) = bb ∧ (vs == zs) = bb := by
                  by_cases h : d2 = 0
                  · exact ⟨true, by simp [h], by rw [HIFF.out.1 h]; simp⟩
                  · exact ⟨false, by simp [h], by rw [beq_eq_false_iff_ne]; exact fun h' => h (HIFF.out.2 h')⟩
                have HB2 := Lib.hid hb2
                clear hb2
                have HG := Lib.hid (show Calls Try.prog 38 #[.slice (some ⟨ga, 0, none⟩) (n + 1) ca7, .slice C M cz] W7 (fun e w' => e = .returned (.bool bb) ∧ Ext W7 w') from by
                  have := gausses_any (some ⟨ga, 0, none⟩) C ca7 cz vs zs W7 (HRA.out.ext X37.out) (HZ.out.ext (E0.out.trans X7.out))
                  rw [HVL.out, HM.out, HB2.out] at this
                  exact this)
                obtain ⟨gb, ob, hAb, _, hcb⟩ := HRB.out.2 0 _ HCB.out
                subst hAb
                obtain ⟨ga', oa', hAa, _, hca⟩ := HRA.out.2 0 _ HVA.out
                obtain ⟨rfl, rfl⟩ : ga = ga' ∧ 0 = oa' := by simpa using hAa
                have HCA0 := Lib.hid (hca 0 _ rfl)
                have HCA1 := Lib.hid (hca 1 _ rfl)
                have HCB0 := Lib.hid (hcb 0 _ rfl)
                have HCB1 := Lib.hid (hcb 1 _ rfl)
                clear hca hcb hAa
                have HW1 := Lib.hid (inB_of (lo := -1073741824) (hi := 1073741824) (x := ar) (by omega) (by omega))
                have HW2 := Lib.hid (inB_of (lo := -1073741824) (hi := 1073741824) (x := ai) (by omega) (by omega))
                have HW3 := Lib.hid (inB_of (lo := -1073741824) (hi := 1073741824) (x := br) (by omega) (by omega))
                have HW4 := Lib.hid (inB_of (lo := -1073741824) (hi := 1073741824) (x := bi) (by omega) (by omega))
                have hn0 : 0 < n := by omega
                go_wp2_with (first
                  | (go_at_call 38; refine HG.out.mono ?_; rintro e W8 ⟨rfl, hx8⟩; have X78 := Lib.hid hx8; have u1 : W8.cell? ⟨ga, 0, none⟩ = some (.int .i64 ar) := (X37.out.trans hx8).cell (by have := HCA0.out; simpa using this); have u2 : W8.cell? ⟨ga, 1, none⟩ = some (.int .i64 ai) := (X37.out.trans hx8).cell (by have := HCA1.out; simpa using this); have u3 : W8.cell? ⟨gb, ob, none⟩ = some (.int .i64 br) := (X47.out.trans hx8).cell (by have := HCB0.out; simpa using this); have u4 : W8.cell? ⟨gb, ob + 1, none⟩ = some (.int .i64 bi) := (X47.out.trans hx8).cell (by have := HCB1.out; simpa using this); clear hx8)
                  | (go_at_call 40; refine (within_any _ _ _ _).mono ?_; rintro e w' ⟨rfl, rfl⟩; first | rw [HW1.out] | rw [HW2.out] | rw [HW3.out] | rw [HW4.out]))
                have X58 := Lib.hid (X57.out.trans X78.out)
                go_loopw [17, 18] (fun s i wr => ∃ k : Nat, k ≤ n ∧ i = .int .i64 k ∧ s = .int .i64 (ps.take k).sum ∧ Ext W8 wr) (fun _ i _ => n - (intOf i).toNat)
                case atStart => exact ⟨0, Nat.zero_le _, rfl, by simp, Ext.refl _⟩
                case round =>
                  obtain ⟨k, hk, rfl, rfl, hx⟩ := hrel
                  by_cases hlt : k < n
                  · obtain ⟨x, hxk⟩ : ∃ x, ps[k]? = some x := ⟨_, List.getElem?_eq_getElem (by rw [HPL.out]; exact hlt)⟩
                    obtain ⟨gp, op, hAp, _, hcp⟩ := HRP.out.2 k x hxk
                    subst hAp
                    have hc1 : wr.cell? ⟨gp, op + k, none⟩ = some (.int .i64 x) := (X58.out.trans hx).cell (by have := hcp 0 _ rfl; simpa using this)
                    have HTS := Lib.hid (take_sum ps k x hxk)
                    obtain ⟨q1, q2⟩ := HPOK.out.part k
                    obtain ⟨q3, q4⟩ := HPOK.out.part (k + 1)
                    obtain ⟨q5, q6⟩ := HPOK.out.sum
                    rw [HTS.out] at q3 q4
                    have q7 : 0 ≤ x := HNN.out k x hxk
                    have q8 : x ≤ 40000000000000 := by omega
                    have q9 : (ps.take k).sum ≤ 40000000000000 := by omega
                    have HWX := Lib.hid (inB_of (lo := 0) (hi := 576460752303423488) (x := x) q7 (by omega))
                    have HX := Lib.hid hx
                    clear hxk hcp q2 q3 q4 q5 q6 hx
                    generalize hsk : (ps.take k).sum = sk at *
                    have HSK := Lib.hid hsk
                    clear hsk
                    have hki : (k : Int) < (n : Int) := by omega
                    go_wp2_with (go_at_call 40; refine (within_any _ _ _ _).mono ?_; rintro e w' ⟨rfl, rfl⟩; rw [HWX.out])
                    go_roundw
                    case rel => exact ⟨k + 1, by omega, by go_num, by rw [HTS.out], HX.out⟩
                    case measure => simp [intOf]; omega
                  · obtain rfl : n = k := by omega
                    have hS : (ps.take n).sum = ar * br + ai * bi := by rw [List.take_of_length_le (by rw [HPL.out]; omega)]; exact HSUM.out
                    rw [hS]
                    clear hS
                    have g1 : wr.cell? ⟨ga, 0, none⟩ = some (.int .i64 ar) := hx.cell u1
                    have g2 : wr.cell? ⟨ga, 1, none⟩ = some (.int .i64 ai) := hx.cell u2
                    have g3 : wr.cell? ⟨gb, ob, none⟩ = some (.int .i64 br) := hx.cell u3
                    have g4 : wr.cell? ⟨gb, ob + 1, none⟩ = some (.int .i64 bi) := hx.cell u4
                    have k1 : IntKind.i64.wrap (ar * br) = ar * br := IntWalk.i64_in _ (by omega)
                    have k2 : IntKind.i64.wrap (ai * bi) = ai * bi := IntWalk.i64_in _ (by omega)
                    have k3 : IntKind.i64.wrap (ar * br + ai * bi) = ar * br + ai * bi := IntWalk.i64_in _ (by omega)
                    clear u1 u2 u3 u4
                    have HX := Lib.hid hx
                    clear hx
                    go_wp2
                    go_quiet (fail)
                    go_wp2
                    go_ret
                    exact ⟨ret_bool (by simp), E0.out.trans (X7.out.trans (X78.out.trans (HX.out.trans (Ext.drewN _ _))))⟩
    · have hMd : decide ((8 : Int) < (M : Int)) = true := by simp; omega
      rw [hq] at H24
      clear hA hB hZ hAn hBn hCn hq hn hm hM hM8
      go_enter Try.func6, Try.ntmps6
      go_wp2_with (first
        | (go_at_call 15; refine (awake_any _).mono ?_; rintro e W1 ⟨rfl, hx1⟩; obtain ⟨z0, z1, z2, z3⟩ := FA.out _ hx1; have X1 := Lib.hid hx1; clear hx1)
        | (go_at_call 24; refine (H24.out _ (E0.out.trans X1.out)).mono ?_; rintro e W2 ⟨rfl, hx2⟩; clear z0 z1 z2 z3; have X2 := Lib.hid (X1.out.trans hx2); clear hx2))
      go_ret
      exact ⟨rfl, E0.out.trans X2.out⟩
  · have hq' : (driveE t xs f m != 0) = true := by simp [hq]
    clear hq hA hB hZ hAn hBn hCn hn hm hM
    generalize driveE t xs f m = q at *
    go_enter Try.func6, Try.ntmps6
    go_wp2_with (first
      | (go_at_call 15; refine (awake_any _).mono ?_; rintro e W1 ⟨rfl, hx1⟩; obtain ⟨z0, z1, z2, z3⟩ := FA.out _ hx1; have X1 := Lib.hid hx1; clear hx1)
      | (go_at_call 24; refine (H24.out _ (E0.out.trans X1.out)).mono ?_; rintro e W2 ⟨rfl, hx2⟩; have X2 := Lib.hid (X1.out.trans hx2); clear hx2 z0 z1 z2 z3))
    go_ret
    exact ⟨rfl, E0.out.trans X2.out⟩

end Go.Proofs.Ytpaoeghdfeekoaa
