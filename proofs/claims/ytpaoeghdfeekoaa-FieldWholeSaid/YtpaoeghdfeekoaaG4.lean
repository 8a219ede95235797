/- FieldLadders: the law's function. By lawgen.py. -/
import Derived.Test.YtpaoeghdfeekoaaG3
namespace Go.Proofs.Ytpaoeghdfeekoaa
open Go.RowKit Go.Shelf Go.Mem Go.RegInv
attribute [local go_sem] RelUpon_value RelUpon_skip RelUpon_enter BigFrame.eval_const BigFrame.eval_global BigFrame.eval_func

/-- What came back, an error beside it. -/
def TupV (P : Value → World → Prop) (er : Int) : Value → World → Prop := fun u W => ∃ v, u = .tuple #[v, .int .i64 er] ∧ P v W
theorem TupV.ext {P : Value → World → Prop} {er : Int} {u : Value} {W W' : World} (hp : ∀ v a b, P v a → Ext a b → P v b) (h : TupV P er u W) (e : Ext W W') : TupV P er u W' := by
  obtain ⟨v, h1, h2⟩ := h; exact ⟨v, h1, hp _ _ _ h2 e⟩
/-- Nothing where there is an error. -/
def Opt (q : Int) (nilv : Value) (P : Value → World → Prop) : Value → World → Prop := fun v W => (q ≠ 0 → v = nilv) ∧ (q = 0 → P v W)
theorem Opt.ext {P : Value → World → Prop} {q : Int} {nilv : Value} {u : Value} {W W' : World} (hp : ∀ v a b, P v a → Ext a b → P v b) (h : Opt q nilv P u W) (e : Ext W W') : Opt q nilv P u W' :=
  ⟨h.1, fun hq => hp _ _ _ (h.2 hq) e⟩
/-- A slice of complex numbers. -/
def GsV (zs : List G) : Value → World → Prop := fun u W => ∃ A c, u = .slice A zs.length c ∧ RowsAt 2 G.enc W A zs
theorem GsV.ext {zs : List G} {u : Value} {W W' : World} (h : GsV zs u W) (e : Ext W W') : GsV zs u W' := by
  obtain ⟨A, c, h1, h2⟩ := h; exact ⟨A, c, h1, h2.ext e⟩
/-- A result, and what it is. -/
def VPost (W : World) (φ : Value → World → Prop) : Ending → World → Prop := fun e w' => ∃ v, e = .returned v ∧ Ext W w' ∧ φ v w'

theorem copyLadder_V {t : Int} {A : Option Addr} {n ca : Nat} {xs : List Sh} (hn : xs.length = n) {w : World} (ha : RowsAt 3 Sh.enc w A xs) (h6 : n ≤ 6) (hnil : A = none → ca = 0) (W : World) (e : Ext w W) :
    Calls Try.prog 19 #[.agg #[.int .i64 t, .slice A n ca]] W (VPost W (LadV t xs)) :=
  (copyLadder_any t A n ca xs hn W (ha.ext e) h6 hnil).mono fun _ _ ⟨A', c', h1, h2, h3⟩ => ⟨_, h1, h3, A', n, c', Lib.hid hn, rfl, h2⟩
theorem copyDrive_V {f : Int} {A : Option Addr} {n ca : Nat} {xs : List Bool} (hn : xs.length = n) {w : World} (ha : RowsAt 1 boolEnc w A xs) (h6 : n ≤ 6) (hnil : A = none → ca = 0) (W : World) (e : Ext w W) :
    Calls Try.prog 21 #[.agg #[.int .i64 f, .slice A n ca]] W (VPost W (DrvV f xs)) :=
  (copyDrive_any f A n ca xs hn W (ha.ext e) h6 hnil).mono fun _ _ ⟨A', c', h1, h2, h3⟩ => ⟨_, h1, h3, A', n, c', Lib.hid hn, rfl, h2⟩
theorem checkLadder_V {t : Int} {xs : List Sh} (W : World) (u : Value) (h : LadV t xs u W) : Calls Try.prog 18 #[u] W (VPost W (Is (.tuple #[.int .i64 (checkL t xs).1, .int .i64 (checkL t xs).2]))) := by
  obtain ⟨A, n, c, hn, rfl, hl⟩ := h
  exact (checkLadder_any t A n c xs hn.out W hl.1).mono fun _ _ ⟨h1, h2⟩ => ⟨_, h1, h2, rfl⟩
theorem checkDrive_V {t : Int} {xs : List Sh} {f : Int} {hot : List Bool} {m : Nat} (hm : hot.length = m) (W : World) (u v : Value) (h : LadV t xs u W) (k : DrvV f hot v W) : Calls Try.prog 20 #[u, v] W (VPost W (Is (.int .i64 (driveE t xs f m)))) := by
  obtain ⟨A, n, c, hn, rfl, hl⟩ := h
  obtain ⟨B, m', d, hm', rfl, hd⟩ := k
  obtain rfl : m = m' := hm.symm.trans hm'.out
  exact (checkDrive_any t A n c xs hn.out f B m d W hl.1).mono fun _ _ ⟨h1, h2⟩ => ⟨_, h1, h2, rfl⟩
theorem reactancesOf_V {t : Int} {xs : List Sh} {f : Int} {hot : List Bool} {m : Nat} (hm : hot.length = m) (W : World) (u v : Value) (h : LadV t xs u W) (k : DrvV f hot v W) :
    Calls Try.prog 22 #[u, v] W (VPost W (TupV (Opt (driveE t xs f m) (.slice none 0 0) (Ints (reactL f hot xs))) (driveE t xs f m))) := by
  obtain ⟨A, n, c, hn, rfl, hl⟩ := h
  obtain ⟨B, m', d, hm', rfl, hd⟩ := k
  obtain rfl : m = m' := hm.symm.trans hm'.out
  refine (reactancesOf_any t A n c xs hn.out f B m d hot hm W hl.1 hd).mono ?_
  rintro e w' ⟨hx, ⟨h1, h2⟩ | ⟨h1, v, h2, h3⟩⟩
  · exact ⟨_, h2, hx, _, rfl, fun _ => rfl, fun h => absurd h h1⟩
  · exact ⟨_, h2, hx, _, by rw [h1], fun h => absurd h1 h, fun _ => h3⟩

set_option maxRecDepth 100000 in
set_option maxHeartbeats 4000000 in
theorem fieldLadders_main (t : Int) (A : Option Addr) (n ca : Nat) (xs : List Sh) (hn : xs.length = n) (f : Int) (B : Option Addr) (m cb : Nat) (hot : List Bool) (hm : hot.length = m) (w : World)
    (hA : RowsAt 3 Sh.enc w A xs) (hB : RowsAt 1 boolEnc w B hot) (n6 : n ≤ 6) (m6 : m ≤ 6) (hAn : A = none → ca = 0) (hBn : B = none → cb = 0) :
    Calls Try.prog 3 #[.agg #[.int .i64 t, .slice A n ca], .agg #[.int .i64 f, .slice B m cb]] w fun e w' => e = .returned (.bool true) ∧ Ext w w' := by
  have e0 : Ext w ((w.alloc (.cells #[.int .i64 t, .slice A n ca] 24)).alloc (.cells #[.int .i64 f, .slice B m cb] 27)) := (Ext.alloc _ _).trans (Ext.alloc _ _)
  have FA := Lib.hid (show ∀ W : World, Ext ((w.alloc (.cells #[.int .i64 t, .slice A n ca] 24)).alloc (.cells #[.int .i64 f, .slice B m cb] 27)) W →
      W.cell? ⟨w.heap.size, 0, none⟩ = some (.int .i64 t) ∧ W.cell? ⟨w.heap.size, 1, none⟩ = some (.slice A n ca) ∧ W.cell? ⟨w.heap.size + 1, 0, none⟩ = some (.int .i64 f) ∧ W.cell? ⟨w.heap.size + 1, 1, none⟩ = some (.slice B m cb) from
    fun W hx => ⟨hx.cell (by go_simp), hx.cell (by go_simp), hx.cell (by go_simp), hx.cell (by go_simp)⟩)
  have HCL := Lib.hid (copyLadder_V (t := t) hn hA n6 hAn)
  have HCD := Lib.hid (copyDrive_V (f := f) hm hB m6 hBn)
  have H18 := Lib.hid (checkLadder_V (t := t) (xs := xs))
  have H20 := Lib.hid (checkDrive_V (t := t) (xs := xs) (f := f) hm)
  have H22 := Lib.hid (reactancesOf_V (t := t) (xs := xs) (f := f) hm)
  have H23 := Lib.hid (fun W (e : Ext w W) => refCheckLadder_any t A n ca xs hn W (hA.ext e))
  have H24 := Lib.hid (fun W (e : Ext w W) => refBothErr_any t A n ca xs hn f B m cb W (hA.ext e))
  have HF1 := Lib.hid (few_yes t A n ca · n6)
  have HF2 := Lib.hid (fewHot_yes f B m cb · m6)
  have H26 := Lib.hid (fun W (e : Ext w W) (hq : driveE t xs f m = 0) => show Calls Try.prog 26 #[.agg #[.int .i64 t, .slice A n ca], .agg #[.int .i64 f, .slice B m cb]] W (VPost W (Ints (reactL f hot xs))) from by
    obtain ⟨⟨_, ⟨h1, h4⟩, hok⟩, hf, hml⟩ := (driveE_zero t xs f m).1 hq
    obtain rfl : n = m := by rw [hml, hn]
    exact (refReactances_any t A n ca xs hn f B cb hot hm W (hA.ext e) (hB.ext e) hok hf (by omega)).mono fun _ _ ⟨v, h1, h2, h3⟩ => ⟨v, h1, h3, h2⟩)
  have E0 := Lib.hid e0
  clear hn hA hm hB n6 m6 hAn hBn e0
  generalize (checkL t xs).1 = c1 at *
  generalize (checkL t xs).2 = c2 at *
  generalize reactL f hot xs = rl at *
  generalize driveE t xs f m = q at *
  have hc2 : (c2 != c2) = false := by simp
  have hc1 : (c1 != c1) = false := by simp
  have hqq : (q == q) = true := by simp
  go_enter Try.func3, Try.ntmps3
  go_wp2_with (first
    | (go_at_call 15; refine (awake_any _).mono ?_; rintro e W1 ⟨rfl, hx1⟩; obtain ⟨z0, z1, z2, z3⟩ := FA.out _ hx1; have X1 := Lib.hid hx1; clear hx1)
    | (go_at_call 16; refine (HF1.out _).mono ?_; rintro e W2 ⟨rfl, hx2⟩; clear z0 z1 z2 z3; have X2 := Lib.hid (X1.out.trans hx2); clear hx2; obtain ⟨z0, z1, z2, z3⟩ := FA.out _ X2.out)
    | (go_at_call 17; refine (HF2.out _).mono ?_; rintro e W2b ⟨rfl, hx2⟩; clear z0 z1 z2 z3; have X2b := Lib.hid (X2.out.trans hx2); clear hx2; obtain ⟨z0, z1, z2, z3⟩ := FA.out _ X2b.out)
    | (go_at_call 19; refine (HCL.out _ (E0.out.trans X2b.out)).mono ?_; rintro e W2c ⟨u1, rfl, hx2, hv⟩; clear z0 z1 z2 z3; have X2c := Lib.hid (X2b.out.trans hx2); clear hx2; have HV := Lib.hid hv; clear hv; obtain ⟨z0, z1, z2, z3⟩ := FA.out _ X2c.out)
    | (go_at_call 18; refine (H18.out _ _ HV.out).mono ?_; rintro e W3 ⟨u2, rfl, hx2, hv⟩; obtain rfl : u2 = _ := hv; clear z0 z1 z2 z3; have X3 := Lib.hid (X2c.out.trans hx2); clear hx2; obtain ⟨z0, z1, z2, z3⟩ := FA.out _ X3.out))
  have EB := Lib.hid (E0.out.trans X3.out)
  refine wp_region_each [some 28, some 29, some 30, some 31, some 32, some 7] [[2], [28], [3], [30], [29, 31], [32]]
    [Is (.agg #[.int .i64 (t), .slice A n ca]), LadV t xs, Is (.agg #[.int .i64 (f), .slice B m cb]), DrvV f hot, Is (.int .i64 (q)), Is (.int .i64 (q))]
    (by kernel_rfl) (by kernel_rfl) (by kernel_rfl) (by kernel_rfl) (by kernel_rfl) Ext (fun W => Ext W3 W)
    (fun W _ => Ext.refl W) (fun W W' h k => h.trans k) ?_ (Ext.drew _) ?_ ?_
  · repeat (refine ⟨fun _ _ _ _ k h => (by first | exact h | exact (by first | exact LadV.ext h k | exact DrvV.ext h k | exact TupV.ext (fun _ _ _ h k => by first | exact Opt.ext (fun _ _ _ h k => by first | exact IntsAt.ext h k | exact GsV.ext h k) h k | exact IntsAt.ext h k) h k | exact Opt.ext (fun _ _ _ h k => by first | exact IntsAt.ext h k | exact GsV.ext h k) h k | exact IntsAt.ext h k)), ?_⟩)
    exact trivial
  · refine ⟨?_, ?_, ?_, ?_, ?_, ?_, trivial⟩
    all_goals intro ρ W ⟨kc, kg, kf⟩ hF hs
    · obtain ⟨h0, -⟩ := hs
      replace h0 : ρ (.tmp 2) = .pointer (some ⟨w.heap.size, 0, none⟩) := h0
      have hc0 : W.cell? ⟨w.heap.size, 0, none⟩ = some (.int .i64 (t)) := hF.cell (by assumption)
      have hc1 : W.cell? ⟨w.heap.size, 1, none⟩ = some (.slice A n ca) := hF.cell (by assumption)
      go_simp
      exact ⟨Ext.refl _, rfl⟩
    · obtain ⟨h0, -⟩ := hs
      replace h0 : ρ (.tmp 28) = .agg #[.int .i64 (t), .slice A n ca] := h0
      go_simp
      exact HCL.out W (EB.out.trans hF)
    · obtain ⟨h0, -⟩ := hs
      replace h0 : ρ (.tmp 3) = .pointer (some ⟨w.heap.size + 1, 0, none⟩) := h0
      have hc0 : W.cell? ⟨w.heap.size + 1, 0, none⟩ = some (.int .i64 (f)) := hF.cell (by assumption)
      have hc1 : W.cell? ⟨w.heap.size + 1, 1, none⟩ = some (.slice B m cb) := hF.cell (by assumption)
      go_simp
      exact ⟨Ext.refl _, rfl⟩
    · obtain ⟨h0, -⟩ := hs
      replace h0 : ρ (.tmp 30) = .agg #[.int .i64 (f), .slice B m cb] := h0
      go_simp
      exact HCD.out W (EB.out.trans hF)
    · obtain ⟨h0, h1, -⟩ := hs
      replace h0 : (LadV t xs) (ρ (.tmp 29)) W := h0
      replace h1 : (DrvV f hot) (ρ (.tmp 31)) W := h1
      go_simp
      exact H20.out W _ _ h0 h1
    · obtain ⟨h0, -⟩ := hs
      replace h0 : ρ (.tmp 32) = .int .i64 (q) := h0
      go_simp
      exact ⟨Ext.refl _, rfl⟩
  · intro fv W4 hF hs
    obtain ⟨-, -, -, -, -, h7, -⟩ := hs
    replace h7 : fv 7 = .int .i64 (q) := h7
    simp only [fin, List.filterMap]
    go_simp
    have X4 := Lib.hid (X3.out.trans hF)
    clear hF z0 z1 z2 z3
    obtain ⟨z0, z1, z2, z3⟩ := FA.out _ X4.out
    have EB := Lib.hid (E0.out.trans X4.out)

    go_wp2
    refine wp_region_each [some 34, some 35, some 36, some 37, some 38, some 33, some 39, some 40, some 8, some 9] [[2], [34], [3], [36], [35, 37], [38], [33], [33], [39], [40]]
      [Is (.agg #[.int .i64 (t), .slice A n ca]), LadV t xs, Is (.agg #[.int .i64 (f), .slice B m cb]), DrvV f hot, TupV (Opt q (.slice none 0 0) (Ints rl)) (q), TupV (Opt q (.slice none 0 0) (Ints rl)) (q), Opt q (.slice none 0 0) (Ints rl), Is (.int .i64 (q)), Opt q (.slice none 0 0) (Ints rl), Is (.int .i64 (q))]
      (by kernel_rfl) (by kernel_rfl) (by kernel_rfl) (by kernel_rfl) (by kernel_rfl) Ext (fun W => Ext W4 W)
      (fun W _ => Ext.refl W) (fun W W' h k => h.trans k) ?_ (Ext.drew _) ?_ ?_
    · repeat (refine ⟨fun _ _ _ _ k h => (by first | exact h | exact (by first | exact LadV.ext h k | exact DrvV.ext h k | exact TupV.ext (fun _ _ _ h k => by first | exact Opt.ext (fun _ _ _ h k => by first | exact IntsAt.ext h k | exact GsV.ext h k) h k | exact IntsAt.ext h k) h k | exact Opt.ext (fun _ _ _ h k => by first | exact IntsAt.ext h k | exact GsV.ext h k) h k | exact IntsAt.ext h k)), ?_⟩)
      exact trivial
    · refine ⟨?_, ?_, ?_, ?_, ?_, ?_, ?_, ?_, ?_, ?_, trivial⟩
      all_goals intro ρ W ⟨kc, kg, kf⟩ hF hs
      · obtain ⟨h0, -⟩ := hs
        replace h0 : ρ (.tmp 2) = .pointer (some ⟨w.heap.size, 0, none⟩) := h0
        have hc0 : W.cell? ⟨w.heap.size, 0, none⟩ = some (.int .i64 (t)) := hF.cell (by assumption)
        have hc1 : W.cell? ⟨w.heap.size, 1, none⟩ = some (.slice A n ca) := hF.cell (by assumption)
        go_simp
        exact ⟨Ext.refl _, rfl⟩
      · obtain ⟨h0, -⟩ := hs
        replace h0 : ρ (.tmp 34) = .agg #[.int .i64 (t), .slice A n ca] := h0
        go_simp
        exact HCL.out W (EB.out.trans hF)
      · obtain ⟨h0, -⟩ := hs
        replace h0 : ρ (.tmp 3) = .pointer (some ⟨w.heap.size + 1, 0, none⟩) := h0
        have hc0 : W.cell? ⟨w.heap.size + 1, 0, none⟩ = some (.int .i64 (f)) := hF.cell (by assumption)
        have hc1 : W.cell? ⟨w.heap.size + 1, 1, none⟩ = some (.slice B m cb) := hF.cell (by assumption)
        go_simp
        exact ⟨Ext.refl _, rfl⟩
      · obtain ⟨h0, -⟩ := hs
        replace h0 : ρ (.tmp 36) = .agg #[.int .i64 (f), .slice B m cb] := h0
        go_simp
        exact HCD.out W (EB.out.trans hF)
      · obtain ⟨h0, h1, -⟩ := hs
        replace h0 : (LadV t xs) (ρ (.tmp 35)) W := h0
        replace h1 : (DrvV f hot) (ρ (.tmp 37)) W := h1
        go_simp
        exact H22.out W _ _ h0 h1
      · obtain ⟨h0, -⟩ := hs
        replace h0 : (TupV (Opt q (.slice none 0 0) (Ints rl)) (q)) (ρ (.tmp 38)) W := h0
        go_simp
        first | exact ⟨Ext.refl _, h0⟩ | exact Ext.refl _
      · obtain ⟨h0, -⟩ := hs
        replace h0 : (TupV (Opt q (.slice none 0 0) (Ints rl)) (q)) (ρ (.tmp 33)) W := h0
        obtain ⟨v, hv, hp⟩ := h0
        go_simp
        first | exact ⟨Ext.refl _, hp⟩ | exact Ext.refl _
      · obtain ⟨h0, -⟩ := hs
        replace h0 : (TupV (Opt q (.slice none 0 0) (Ints rl)) (q)) (ρ (.tmp 33)) W := h0
        obtain ⟨v, hv, hp⟩ := h0
        go_simp
        first | exact ⟨Ext.refl _, rfl⟩ | exact Ext.refl _
      · obtain ⟨h0, -⟩ := hs
        replace h0 : (Opt q (.slice none 0 0) (Ints rl)) (ρ (.tmp 39)) W := h0
        go_simp
        first | exact ⟨Ext.refl _, h0⟩ | exact Ext.refl _
      · obtain ⟨h0, -⟩ := hs
        replace h0 : ρ (.tmp 40) = .int .i64 (q) := h0
        go_simp
        exact ⟨Ext.refl _, rfl⟩
    · intro fv W5 hF hs
      obtain ⟨-, -, -, -, -, -, -, -, h8, h9, -⟩ := hs
      replace h8 : (Opt q (.slice none 0 0) (Ints rl)) (fv 8) W5 := h8
      replace h9 : fv 9 = .int .i64 (q) := h9
      simp only [fin, List.filterMap]
      go_simp
      have X5 := Lib.hid (X4.out.trans hF)
      clear hF z0 z1 z2 z3
      obtain ⟨z0, z1, z2, z3⟩ := FA.out _ X5.out

      have H8 := Lib.hid h8
      clear h8 h7 h9
      by_cases hq : q = 0
      · have HR := Lib.hid (H8.out.2 hq)
        subst hq
        generalize fv 8 = v8 at *
        go_wp2_with (first
          | (go_at_call 23; refine (H23.out _ (E0.out.trans X5.out)).mono ?_; rintro e W6 ⟨rfl, hx2⟩; clear z0 z1 z2 z3; have X6 := Lib.hid (X5.out.trans hx2); have Y6 := Lib.hid hx2; clear hx2; obtain ⟨z0, z1, z2, z3⟩ := FA.out _ X6.out)
          | (go_at_call 24; refine (H24.out _ (E0.out.trans X6.out)).mono ?_; rintro e W7 ⟨rfl, hx2⟩; clear z0 z1 z2 z3; have X7 := Lib.hid (X6.out.trans hx2); have Y7 := Lib.hid (Y6.out.trans hx2); clear hx2; obtain ⟨z0, z1, z2, z3⟩ := FA.out _ X7.out)
          | (go_at_call 26; (refine (H26.out _ (E0.out.trans X7.out) (by trivial)).mono ?_; rintro e W8 ⟨u8, rfl, hx2, hv⟩; clear z0 z1 z2 z3; have X8 := Lib.hid (X7.out.trans hx2); have Y8 := Lib.hid (Y7.out.trans hx2); have HV8 := Lib.hid hv; clear hx2 hv))
          | (go_at_call 25; (refine (ints_any v8 u8 rl rl _ (HR.out.ext Y8.out) HV8.out).mono ?_; rintro e W9 ⟨rfl, hx2⟩; rw [beq_self_eq_true]; have X9 := Lib.hid (X8.out.trans hx2); clear hx2)))
        go_ret
        exact ⟨rfl, E0.out.trans X9.out⟩
      · have hq' : (q != 0) = true := by simp [hq]
        rw [H8.out.1 hq]
        clear hq
        go_wp2_with (first
          | (go_at_call 23; refine (H23.out _ (E0.out.trans X5.out)).mono ?_; rintro e W6 ⟨rfl, hx2⟩; clear z0 z1 z2 z3; have X6 := Lib.hid (X5.out.trans hx2); clear hx2; obtain ⟨z0, z1, z2, z3⟩ := FA.out _ X6.out)
          | (go_at_call 24; refine (H24.out _ (E0.out.trans X6.out)).mono ?_; rintro e W7 ⟨rfl, hx2⟩; have X7 := Lib.hid (X6.out.trans hx2); clear hx2))
        go_ret
        exact ⟨rfl, E0.out.trans X7.out⟩

set_option maxRecDepth 100000 in
theorem fieldLadders_few (t : Int) (A : Option Addr) (n ca : Nat) (f : Int) (B : Option Addr) (m cb : Nat) (w : World) (h : ¬ (n ≤ 6 ∧ m ≤ 6)) :
    Calls Try.prog 3 #[.agg #[.int .i64 t, .slice A n ca], .agg #[.int .i64 f, .slice B m cb]] w fun e w' => e = .returned (.bool true) ∧ Ext w w' := by
  have e0 : Ext w ((w.alloc (.cells #[.int .i64 t, .slice A n ca] 24)).alloc (.cells #[.int .i64 f, .slice B m cb] 27)) := (Ext.alloc _ _).trans (Ext.alloc _ _)
  have FA := Lib.hid (show ∀ W : World, Ext ((w.alloc (.cells #[.int .i64 t, .slice A n ca] 24)).alloc (.cells #[.int .i64 f, .slice B m cb] 27)) W →
      W.cell? ⟨w.heap.size, 0, none⟩ = some (.int .i64 t) ∧ W.cell? ⟨w.heap.size, 1, none⟩ = some (.slice A n ca) ∧ W.cell? ⟨w.heap.size + 1, 0, none⟩ = some (.int .i64 f) ∧ W.cell? ⟨w.heap.size + 1, 1, none⟩ = some (.slice B m cb) from
    fun W hx => ⟨hx.cell (by go_simp), hx.cell (by go_simp), hx.cell (by go_simp), hx.cell (by go_simp)⟩)
  have E0 := Lib.hid e0
  clear e0
  by_cases n6 : n ≤ 6
  · have m6 : 6 < m := by omega
    have HF1 := Lib.hid (few_yes t A n ca · n6)
    have HF2 := Lib.hid (fewHot_no f B m cb · m6)
    clear n6 m6 h
    go_enter Try.func3, Try.ntmps3
    go_wp2_with (first
      | (go_at_call 15; refine (awake_any _).mono ?_; rintro e W1 ⟨rfl, hx1⟩; have X1 := Lib.hid (hx1); clear hx1; obtain ⟨z0, z1, z2, z3⟩ := FA.out _ X1.out)
      | (go_at_call 16; refine (HF1.out _).mono ?_; rintro e W2 ⟨rfl, hx2⟩; clear z0 z1 z2 z3; have X2 := Lib.hid (X1.out.trans hx2); clear hx2; obtain ⟨z0, z1, z2, z3⟩ := FA.out _ X2.out)
      | (go_at_call 17; refine (HF2.out _).mono ?_; rintro e W2b ⟨rfl, hx2⟩; clear z0 z1 z2 z3; have X2b := Lib.hid (X2.out.trans hx2); clear hx2))
    go_ret
    exact ⟨rfl, E0.out.trans X2b.out⟩
  · have HF1 := Lib.hid (few_no t A n ca · (by omega))
    clear n6 h
    go_enter Try.func3, Try.ntmps3
    go_wp2_with (first
      | (go_at_call 15; refine (awake_any _).mono ?_; rintro e W1 ⟨rfl, hx1⟩; have X1 := Lib.hid (hx1); clear hx1; obtain ⟨z0, z1, z2, z3⟩ := FA.out _ X1.out)
      | (go_at_call 16; refine (HF1.out _).mono ?_; rintro e W2 ⟨rfl, hx2⟩; clear z0 z1 z2 z3; have X2 := Lib.hid (X1.out.trans hx2); clear hx2))
    go_ret
    exact ⟨rfl, E0.out.trans X2.out⟩

end Go.Proofs.Ytpaoeghdfeekoaa
