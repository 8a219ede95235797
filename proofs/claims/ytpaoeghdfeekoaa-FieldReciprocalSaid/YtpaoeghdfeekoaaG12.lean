/- FieldImpedances: the law's function. By lawgen.py. -/
import Derived.Test.YtpaoeghdfeekoaaK20
namespace Go.Proofs.Ytpaoeghdfeekoaa
open Go.RowKit Go.Shelf Go.Mem Go.RegInv
attribute [local go_sem] RelUpon_value RelUpon_skip RelUpon_enter BigFrame.eval_const BigFrame.eval_global BigFrame.eval_func

def Fresh84 (q : Nat) : Value → World → Prop := fun u W => ∃ b, q ≤ b ∧ u = .pointer (some ⟨b, 0, none⟩) ∧ Blk W b 84 #[.int .i64 0, .int .i64 0, .int .i64 0, .int .i64 0]
theorem Fresh84.ext {q : Nat} {u : Value} {W W' : World} (h : Fresh84 q u W) (e : Ext W W') : Fresh84 q u W' := by
  obtain ⟨b, h1, h2, h3⟩ := h
  exact ⟨b, h1, h2, h3.ext e⟩
/-- Four numbers that were stored into a block. -/
theorem stored4 {W : World} {b : Nat} (h : Blk W b 84 #[.int .i64 0, .int .i64 0, .int .i64 0, .int .i64 0]) (a1 a2 a3 a4 : Int) {W' : World}
    (e : Ext ((((W.setCell ⟨b, 0, none⟩ (.int .i64 a1)).setCell ⟨b, 1, none⟩ (.int .i64 a2)).setCell ⟨b, 2, none⟩ (.int .i64 a3)).setCell ⟨b, 3, none⟩ (.int .i64 a4)) W') :
    W'.cell? ⟨b, 0, none⟩ = some (.int .i64 a1) ∧ W'.cell? ⟨b, 1, none⟩ = some (.int .i64 a2) ∧ W'.cell? ⟨b, 2, none⟩ = some (.int .i64 a3) ∧ W'.cell? ⟨b, 3, none⟩ = some (.int .i64 a4) := by
  have k := ((((h.setSame 0 (.int .i64 a1)).setSame 1 (.int .i64 a2)).setSame 2 (.int .i64 a3)).setSame 3 (.int .i64 a4))
  exact ⟨e.cell (by have := k.cell 0; simpa using this), e.cell (by have := k.cell 1; simpa using this), e.cell (by have := k.cell 2; simpa using this), e.cell (by have := k.cell 3; simpa using this)⟩
theorem set4_ext {V W : World} (h : Ext V W) {b : Nat} (hb : V.heap.size ≤ b) (a1 a2 a3 a4 : Value) :
    Ext V ((((W.setCell ⟨b, 0, none⟩ a1).setCell ⟨b, 1, none⟩ a2).setCell ⟨b, 2, none⟩ a3).setCell ⟨b, 3, none⟩ a4) :=
  Ext.set (Ext.set (Ext.set (Ext.set h hb _) hb _) hb _) hb _
theorem trans_err (n : Nat) (p q : Int) : errIf ([p, q].any (outB 0 ((n : Int) - 1))) 6 = if shE n p = 0 ∧ shE n q = 0 then 0 else 6 := by
  unfold shE errIf
  cases h : inB 0 ((n : Int) - 1) p <;> cases h2 : inB 0 ((n : Int) - 1) q <;> simp [outB_not, h, h2]
theorem shE_zero {n : Nat} {x : Int} (h : shE n x = 0) : 0 ≤ x ∧ x ≤ (n : Int) - 1 := by
  unfold shE at h
  split at h
  · rename_i hc; simpa [inB] using hc
  · cases h

set_option maxRecDepth 100000 in
theorem fieldImpedances_few (t : Int) (A : Option Addr) (n ca : Nat) (f : Int) (B : Option Addr) (m cb : Nat) (p q : Int) (w : World) (h : ¬ (n ≤ 6 ∧ m ≤ 6)) :
    Calls Try.prog 9 #[.agg #[.int .i64 t, .slice A n ca], .agg #[.int .i64 f, .slice B m cb], .agg #[.int .i64 p, .int .i64 q]] w fun e w' => e = .returned (.bool true) ∧ Ext w w' := by
  have e0 : Ext w (((w.alloc (.cells #[.int .i64 t, .slice A n ca] 24)).alloc (.cells #[.int .i64 f, .slice B m cb] 27)).alloc (.cells #[.int .i64 p, .int .i64 q] 82)) := (Ext.alloc _ _).trans ((Ext.alloc _ _).trans (Ext.alloc _ _))
  have FA := Lib.hid (show ∀ W : World, Ext (((w.alloc (.cells #[.int .i64 t, .slice A n ca] 24)).alloc (.cells #[.int .i64 f, .slice B m cb] 27)).alloc (.cells #[.int .i64 p, .int .i64 q] 82)) W →
      W.cell? ⟨w.heap.size, 0, none⟩ = some (.int .i64 t) ∧ W.cell? ⟨w.heap.size, 1, none⟩ = some (.slice A n ca) ∧ W.cell? ⟨w.heap.size + 1, 0, none⟩ = some (.int .i64 f) ∧ W.cell? ⟨w.heap.size + 1, 1, none⟩ = some (.slice B m cb) from
    fun W hx => ⟨hx.cell (by go_simp), hx.cell (by go_simp), hx.cell (by go_simp), hx.cell (by go_simp)⟩)
  have E0 := Lib.hid e0
  clear e0
  by_cases n6 : n ≤ 6
  · have m6 : 6 < m := by omega
    have HF1 := Lib.hid (few_yes t A n ca · n6)
    have HF2 := Lib.hid (fewHot_no f B m cb · m6)
    clear n6 m6 h
    go_enter Try.func9, Try.ntmps9
    go_wp2_with (first
      | (go_at_call 15; refine (awake_any _).mono ?_; rintro e W1 ⟨rfl, hx1⟩; have X1 := Lib.hid (hx1); clear hx1; obtain ⟨z0, z1, z2, z3⟩ := FA.out _ X1.out)
      | (go_at_call 16; refine (HF1.out _).mono ?_; rintro e W2 ⟨rfl, hx2⟩; clear z0 z1 z2 z3; have X2 := Lib.hid (X1.out.trans hx2); clear hx2; obtain ⟨z0, z1, z2, z3⟩ := FA.out _ X2.out)
      | (go_at_call 17; refine (HF2.out _).mono ?_; rintro e W2b ⟨rfl, hx2⟩; clear z0 z1 z2 z3; have X2b := Lib.hid (X2.out.trans hx2); clear hx2))
    go_ret
    exact ⟨rfl, E0.out.trans X2b.out⟩
  · have HF1 := Lib.hid (few_no t A n ca · (by omega))
    clear n6 h
    go_enter Try.func9, Try.ntmps9
    go_wp2_with (first
      | (go_at_call 15; refine (awake_any _).mono ?_; rintro e W1 ⟨rfl, hx1⟩; have X1 := Lib.hid (hx1); clear hx1; obtain ⟨z0, z1, z2, z3⟩ := FA.out _ X1.out)
      | (go_at_call 16; refine (HF1.out _).mono ?_; rintro e W2 ⟨rfl, hx2⟩; clear z0 z1 z2 z3; have X2 := Lib.hid (X1.out.trans hx2); clear hx2))
    go_ret
    exact ⟨rfl, E0.out.trans X2.out⟩


set_option maxRecDepth 100000 in
set_option maxHeartbeats 16000000 in
theorem fieldImpedances_main (t : Int) (A : Option Addr) (n ca : Nat) (xs : List Sh) (hn : xs.length = n) (f : Int) (B : Option Addr) (m cb : Nat) (hot : List Bool) (hm : hot.length = m) (p q : Int) (w : World)
    (hA : RowsAt 3 Sh.enc w A xs) (hB : RowsAt 1 boolEnc w B hot) (n6 : n ≤ 6) (m6 : m ≤ 6) (hAn : A = none → ca = 0) (hBn : B = none → cb = 0) :
    Calls Try.prog 9 #[.agg #[.int .i64 t, .slice A n ca], .agg #[.int .i64 f, .slice B m cb], .agg #[.int .i64 p, .int .i64 q]] w fun e w' => e = .returned (.bool true) ∧ Ext w w' := by
  have e0 : Ext w (((w.alloc (.cells #[.int .i64 t, .slice A n ca] 24)).alloc (.cells #[.int .i64 f, .slice B m cb] 27)).alloc (.cells #[.int .i64 p, .int .i64 q] 82)) := (Ext.alloc _ _).trans ((Ext.alloc _ _).trans (Ext.alloc _ _))
  have FA := Lib.hid (show ∀ W : World, Ext (((w.alloc (.cells #[.int .i64 t, .slice A n ca] 24)).alloc (.cells #[.int .i64 f, .slice B m cb] 27)).alloc (.cells #[.int .i64 p, .int .i64 q] 82)) W →
      W.cell? ⟨w.heap.size, 0, none⟩ = some (.int .i64 t) ∧ W.cell? ⟨w.heap.size, 1, none⟩ = some (.slice A n ca) ∧ W.cell? ⟨w.heap.size + 1, 0, none⟩ = some (.int .i64 f) ∧ W.cell? ⟨w.heap.size + 1, 1, none⟩ = some (.slice B m cb) ∧ W.cell? ⟨w.heap.size + 1 + 1, 0, none⟩ = some (.int .i64 p) ∧ W.cell? ⟨w.heap.size + 1 + 1, 1, none⟩ = some (.int .i64 q) from
    fun W hx => ⟨hx.cell (by go_simp), hx.cell (by go_simp), hx.cell (by go_simp), hx.cell (by go_simp), hx.cell (by go_simp), hx.cell (by go_simp)⟩)
  have HCL := Lib.hid (copyLadder_V (t := t) hn hA n6 hAn)
  have HCD := Lib.hid (copyDrive_V (f := f) hm hB m6 hBn)
  obtain ⟨v1, v2, v3, v4, hz⟩ := parts_ex (driveE t xs f m) (impN t f hot xs) (curIn f hot xs)
  obtain ⟨u1, u2, u3, u4, hu⟩ := parts_ex (transE t xs f m p q) (timesG (grounded f hot xs (min p q).toNat) (volt f hot xs ((max p q).toNat + 1))) (volt f hot xs 0)
  have H53 := Lib.hid (impedanceOf_V (t := t) (xs := xs) (f := f) hm hz)
  have H54 := Lib.hid (transferOf_V (t := t) (xs := xs) (f := f) hm p q hu)
  have H24 := Lib.hid (fun W (e : Ext w W) => refBothErr_any t A n ca xs hn f B m cb W (hA.ext e))
  have HF1 := Lib.hid (few_yes t A n ca · n6)
  have HF2 := Lib.hid (fewHot_yes f B m cb · m6)
  have H45 := Lib.hid (fun x W => shellErr_any t A n ca x W (by omega))
  have HTE := Lib.hid (show transE t xs f m p q = if driveE t xs f m ≠ 0 then driveE t xs f m else if shE n p = 0 ∧ shE n q = 0 then 0 else 6 by rw [← trans_err, ← hn]; exact firstE_two _ _)
  have HVAL := Lib.hid (show driveE t xs f m = 0 → n = m ∧ (∀ s ∈ xs, shOK s) ∧ (1 ≤ f ∧ f ≤ 8) ∧ 1 ≤ n ∧ n ≤ 4 ∧ (1 ≤ t ∧ t ≤ 20) from fun hq => by
    obtain ⟨⟨ht, ⟨h1, h4⟩, hok⟩, hf, hml⟩ := (driveE_zero t xs f m).1 hq
    exact ⟨by rw [hml, hn], hok, hf, by omega, by omega, ht⟩)
  have H55 := Lib.hid (fun W (e : Ext w W) (hq : driveE t xs f m = 0) => show Calls Try.prog 55 #[.agg #[.int .i64 t, .slice A n ca], .agg #[.int .i64 f, .slice B m cb]] W (fun e w' => e = .returned (.agg #[.int .i64 v1, .int .i64 v2, .int .i64 v3, .int .i64 v4]) ∧ Ext W w') from by
    obtain ⟨rfl, hok, hf, h1, h4, ht⟩ := HVAL.out hq
    have := refImpedance_any t A n ca xs hn f B cb hot hm W (hA.ext e) (hB.ext e) hok hf h1 h4 ht
    rw [hz.2 hq] at this
    exact this)
  have H56 := Lib.hid (fun W (e : Ext w W) (hq : driveE t xs f m = 0) (hp : shE n p = 0) (hqq : shE n q = 0) => show Calls Try.prog 56 #[.agg #[.int .i64 t, .slice A n ca], .agg #[.int .i64 f, .slice B m cb], .int .i64 p, .int .i64 q] W (fun e w' => e = .returned (.agg #[.int .i64 u1, .int .i64 u2, .int .i64 u3, .int .i64 u4]) ∧ Ext W w') from by
    obtain ⟨rfl, hok, hf, h1, h4, ht⟩ := HVAL.out hq
    have := refTransfer_any t A n ca xs hn f B cb hot hm p q W (hA.ext e) (hB.ext e) hok hf h1 h4 (shE_zero hp) (shE_zero hqq)
    rw [hu.2 (by rw [HTE.out, if_neg (by simp [hq]), if_pos ⟨hp, hqq⟩])] at this
    exact this)
  have HZ0 := Lib.hid hz.1
  have HU0 := Lib.hid hu.1
  have E0 := Lib.hid e0
  clear hn hm hA hB n6 m6 hAn hBn e0 HVAL hz hu
  generalize transE t xs f m p q = te at *
  generalize driveE t xs f m = qe at *
  go_enter Try.func9, Try.ntmps9
  go_wp2_with (first
    | (go_at_call 15; refine (awake_any _).mono ?_; rintro e W1 ⟨rfl, hx1⟩; obtain ⟨z0, z1, z2, z3, z4, z5⟩ := FA.out _ hx1; have X1 := Lib.hid hx1; clear hx1)
    | (go_at_call 16; refine (HF1.out _).mono ?_; rintro e W1b ⟨rfl, hx2⟩; clear z0 z1 z2 z3 z4 z5; have X1b := Lib.hid (X1.out.trans hx2); clear hx2; obtain ⟨z0, z1, z2, z3, z4, z5⟩ := FA.out _ X1b.out)
    | (go_at_call 17; refine (HF2.out _).mono ?_; rintro e W2 ⟨rfl, hx2⟩; clear z0 z1 z2 z3 z4 z5; have X2 := Lib.hid (X1b.out.trans hx2); clear hx2; obtain ⟨z0, z1, z2, z3, z4, z5⟩ := FA.out _ X2.out))
  have EB := Lib.hid (E0.out.trans X2.out)
  refine wp_region_late 9 7 _ _ _ 29 [7, 28] [some 23, some 24, some 25, some 26, some 27, some 22, some 28, some 29, some 7] [[3], [23], [4], [25], [24, 26], [27], [22], [22], []]
    [Is (.agg #[.int .i64 (t), .slice A n ca]), LadV t xs, Is (.agg #[.int .i64 (f), .slice B m cb]), DrvV f hot, Is (.tuple #[.agg #[.int .i64 (v1), .int .i64 (v2), .int .i64 (v3), .int .i64 (v4)], .int .i64 (qe)]), Is (.tuple #[.agg #[.int .i64 (v1), .int .i64 (v2), .int .i64 (v3), .int .i64 (v4)], .int .i64 (qe)]), Is (.agg #[.int .i64 (v1), .int .i64 (v2), .int .i64 (v3), .int .i64 (v4)]), Is (.int .i64 (qe)), Fresh84 W2.heap.size]
    (by kernel_rfl) (by kernel_rfl) (by kernel_rfl) (by kernel_rfl) (by kernel_rfl) (by kernel_rfl) rfl rfl rfl rfl rfl (by kernel_rfl) (by kernel_rfl) (by kernel_rfl) (by kernel_rfl) Ext (fun W => Ext W2 W)
    (fun W _ => Ext.refl W) (fun W W' h k => h.trans k) ?_ (Ext.drew _) ?_ ?_ ?_ ?_ ?_
  · repeat (refine ⟨fun _ _ _ _ k h => (by first | exact h | exact (by first | exact LadV.ext h k | exact DrvV.ext h k | exact Fresh84.ext h k)), ?_⟩)
    exact trivial
  · refine ⟨?_, ?_, ?_, ?_, ?_, ?_, ?_, ?_, ?_, trivial⟩
    all_goals intro ρ W ⟨kc, kg, kf⟩ hF hs
    · obtain ⟨h0, -⟩ := hs
      replace h0 : ρ (.tmp 3) = .pointer (some ⟨w.heap.size, 0, none⟩) := h0
      have hc0 : W.cell? ⟨w.heap.size, 0, none⟩ = some (.int .i64 (t)) := hF.cell (by assumption)
      have hc1 : W.cell? ⟨w.heap.size, 1, none⟩ = some (.slice A n ca) := hF.cell (by assumption)
      go_simp
      exact ⟨Ext.refl _, rfl⟩
    · obtain ⟨h0, -⟩ := hs
      replace h0 : ρ (.tmp 23) = .agg #[.int .i64 (t), .slice A n ca] := h0
      go_simp
      exact HCL.out W (EB.out.trans hF)
    · obtain ⟨h0, -⟩ := hs
      replace h0 : ρ (.tmp 4) = .pointer (some ⟨w.heap.size + 1, 0, none⟩) := h0
      have hc0 : W.cell? ⟨w.heap.size + 1, 0, none⟩ = some (.int .i64 (f)) := hF.cell (by assumption)
      have hc1 : W.cell? ⟨w.heap.size + 1, 1, none⟩ = some (.slice B m cb) := hF.cell (by assumption)
      go_simp
      exact ⟨Ext.refl _, rfl⟩
    · obtain ⟨h0, -⟩ := hs
      replace h0 : ρ (.tmp 25) = .agg #[.int .i64 (f), .slice B m cb] := h0
      go_simp
      exact HCD.out W (EB.out.trans hF)
    · obtain ⟨h0, h1, -⟩ := hs
      replace h0 : (LadV t xs) (ρ (.tmp 24)) W := h0
      replace h1 : (DrvV f hot) (ρ (.tmp 26)) W := h1
      go_simp
      exact H53.out W _ _ h0 h1
    · obtain ⟨h0, -⟩ := hs
      replace h0 : ρ (.tmp 27) = .tuple #[.agg #[.int .i64 (v1), .int .i64 (v2), .int .i64 (v3), .int .i64 (v4)], .int .i64 (qe)] := h0
      go_simp
      first | exact ⟨Ext.refl _, rfl⟩ | exact Ext.refl _
    · obtain ⟨h0, -⟩ := hs
      replace h0 : ρ (.tmp 22) = .tuple #[.agg #[.int .i64 (v1), .int .i64 (v2), .int .i64 (v3), .int .i64 (v4)], .int .i64 (qe)] := h0
      go_simp
      first | exact ⟨Ext.refl _, rfl⟩ | exact Ext.refl _
    · obtain ⟨h0, -⟩ := hs
      replace h0 : ρ (.tmp 22) = .tuple #[.agg #[.int .i64 (v1), .int .i64 (v2), .int .i64 (v3), .int .i64 (v4)], .int .i64 (qe)] := h0
      go_simp
      first | exact ⟨Ext.refl _, rfl⟩ | exact Ext.refl _
    · go_simp
      exact ⟨Ext.alloc _ _, W.heap.size, hF.size, rfl, Blk.new _ _ _⟩
  · intro ρ W ⟨kc, kg, kf⟩ hF hs
    obtain ⟨h0, -⟩ := hs
    replace h0 : ρ (.tmp 22) = .tuple #[.agg #[.int .i64 (v1), .int .i64 (v2), .int .i64 (v3), .int .i64 (v4)], .int .i64 (qe)] := h0
    refine ⟨.int .i64 (qe), fun W' => ?_⟩
    go_simp
  · intro ρ ρ' h
    simp only [execOp]
    rw [h (.tmp 7) (by simp), h (.tmp 28) (by simp)]
  · intro ρ W ⟨kc, kg, kf⟩ hF hs
    obtain ⟨h0, h1, -⟩ := hs
    replace h0 : (Fresh84 W2.heap.size) (ρ (.tmp 7)) W := h0
    replace h1 : ρ (.tmp 28) = .agg #[.int .i64 (v1), .int .i64 (v2), .int .i64 (v3), .int .i64 (v4)] := h1
    obtain ⟨b, _, hb, hk⟩ := h0
    have f0 := hk.free 0
    have f1 := hk.free 1
    have f2 := hk.free 2
    have f3 := hk.free 3
    have c0 := hk.cell 0
    have c1 := hk.cell 1
    have c2 := hk.cell 2
    have c3 := hk.cell 3
    simp only [List.getElem?_toArray, List.getElem?_cons_zero, List.getElem?_cons_succ] at c0 c1 c2 c3
    refine ⟨((((W).setCell ⟨b, 0, none⟩ (.int .i64 v1)).setCell ⟨b, 1, none⟩ (.int .i64 v2)).setCell ⟨b, 2, none⟩ (.int .i64 v3)).setCell ⟨b, 3, none⟩ (.int .i64 v4), ?_⟩
    go_simp
  · intro fv W3 hF hs
    obtain ⟨-, -, -, -, -, -, h28, h29, h7, -⟩ := hs
    replace h28 : fv 28 = .agg #[.int .i64 (v1), .int .i64 (v2), .int .i64 (v3), .int .i64 (v4)] := h28
    replace h29 : fv 29 = .int .i64 (qe) := h29
    replace h7 : (Fresh84 W2.heap.size) (fv 7) W3 := h7
    simp only [fin, List.filterMap]
    go_simp
    have X23 := Lib.hid hF
    obtain ⟨b7, hb7, hv7, hk7⟩ := h7
    rw [hv7]
    have K7 := Lib.hid hk7
    have f0 := hk7.free 0
    have f1 := hk7.free 1
    have f2 := hk7.free 2
    have f3 := hk7.free 3
    have c0 := hk7.cell 0
    have c1 := hk7.cell 1
    have c2 := hk7.cell 2
    have c3 := hk7.cell 3
    simp only [List.getElem?_toArray, List.getElem?_cons_zero, List.getElem?_cons_succ] at c0 c1 c2 c3
    have X4 := Lib.hid (X2.out.trans (set4_ext hF hb7 (.int .i64 v1) (.int .i64 v2) (.int .i64 v3) (.int .i64 v4)))
    have HY7 := Lib.hid (fun W e => stored4 K7.out v1 v2 v3 v4 (W' := W) e)
    clear hF z0 z1 z2 z3 z4 z5 h28 h29 hv7 hk7 hb7
    go_wp2
    generalize ((((W3).setCell ⟨b7, 0, none⟩ (.int .i64 v1)).setCell ⟨b7, 1, none⟩ (.int .i64 v2)).setCell ⟨b7, 2, none⟩ (.int .i64 v3)).setCell ⟨b7, 3, none⟩ (.int .i64 v4) = W4 at *
    clear f0 f1 f2 f3 c0 c1 c2 c3 K7 X23
    obtain ⟨z0, z1, z2, z3, z4, z5⟩ := FA.out _ X4.out
    have EB := Lib.hid (E0.out.trans X4.out)
    refine wp_region_late 10 8 _ _ _ 38 [9, 37] [some 31, some 32, some 33, some 34, some 35, some 36, some 30, some 37, some 38, some 9] [[3], [31], [4], [33], [5], [32, 34, 35], [36], [30], [30], []]
      [Is (.agg #[.int .i64 (t), .slice A n ca]), LadV t xs, Is (.agg #[.int .i64 (f), .slice B m cb]), DrvV f hot, Is (.agg #[.int .i64 (p), .int .i64 (q)]), Is (.tuple #[.agg #[.int .i64 (u1), .int .i64 (u2), .int .i64 (u3), .int .i64 (u4)], .int .i64 (te)]), Is (.tuple #[.agg #[.int .i64 (u1), .int .i64 (u2), .int .i64 (u3), .int .i64 (u4)], .int .i64 (te)]), Is (.agg #[.int .i64 (u1), .int .i64 (u2), .int .i64 (u3), .int .i64 (u4)]), Is (.int .i64 (te)), Fresh84 W4.heap.size]
      (by kernel_rfl) (by kernel_rfl) (by kernel_rfl) (by kernel_rfl) (by kernel_rfl) (by kernel_rfl) rfl rfl rfl rfl rfl (by kernel_rfl) (by kernel_rfl) (by kernel_rfl) (by kernel_rfl) Ext (fun W => Ext W4 W)
      (fun W _ => Ext.refl W) (fun W W' h k => h.trans k) ?_ (Ext.drew _) ?_ ?_ ?_ ?_ ?_
    · repeat (refine ⟨fun _ _ _ _ k h => (by first | exact h | exact (by first | exact LadV.ext h k | exact DrvV.ext h k | exact Fresh84.ext h k)), ?_⟩)
      exact trivial
    · refine ⟨?_, ?_, ?_, ?_, ?_, ?_, ?_, ?_, ?_, ?_, trivial⟩
      all_goals intro ρ W ⟨kc, kg, kf⟩ hF hs
      · obtain ⟨h0, -⟩ := hs
        replace h0 : ρ (.tmp 3) = .pointer (some ⟨w.heap.size, 0, none⟩) := h0
        have hc0 : W.cell? ⟨w.heap.size, 0, none⟩ = some (.int .i64 (t)) := hF.cell (by assumption)
        have hc1 : W.cell? ⟨w.heap.size, 1, none⟩ = some (.slice A n ca) := hF.cell (by assumption)
        go_simp
        exact ⟨Ext.refl _, rfl⟩
      · obtain ⟨h0, -⟩ := hs
        replace h0 : ρ (.tmp 31) = .agg #[.int .i64 (t), .slice A n ca] := h0
        go_simp
        exact HCL.out W (EB.out.trans hF)
      · obtain ⟨h0, -⟩ := hs
        replace h0 : ρ (.tmp 4) = .pointer (some ⟨w.heap.size + 1, 0, none⟩) := h0
        have hc0 : W.cell? ⟨w.heap.size + 1, 0, none⟩ = some (.int .i64 (f)) := hF.cell (by assumption)
        have hc1 : W.cell? ⟨w.heap.size + 1, 1, none⟩ = some (.slice B m cb) := hF.cell (by assumption)
        go_simp
        exact ⟨Ext.refl _, rfl⟩
      · obtain ⟨h0, -⟩ := hs
        replace h0 : ρ (.tmp 33) = .agg #[.int .i64 (f), .slice B m cb] := h0
        go_simp
        exact HCD.out W (EB.out.trans hF)
      · obtain ⟨h0, -⟩ := hs
        replace h0 : ρ (.tmp 5) = .pointer (some ⟨w.heap.size + 1 + 1, 0, none⟩) := h0
        have hc0 : W.cell? ⟨w.heap.size + 1 + 1, 0, none⟩ = some (.int .i64 (p)) := hF.cell (by assumption)
        have hc1 : W.cell? ⟨w.heap.size + 1 + 1, 1, none⟩ = some (.int .i64 (q)) := hF.cell (by assumption)
        go_simp
        exact ⟨Ext.refl _, rfl⟩
      · obtain ⟨h0, h1, h2, -⟩ := hs
        replace h0 : (LadV t xs) (ρ (.tmp 32)) W := h0
        replace h1 : (DrvV f hot) (ρ (.tmp 34)) W := h1
        replace h2 : ρ (.tmp 35) = .agg #[.int .i64 (p), .int .i64 (q)] := h2
        go_simp
        exact H54.out W _ _ h0 h1
      · obtain ⟨h0, -⟩ := hs
        replace h0 : ρ (.tmp 36) = .tuple #[.agg #[.int .i64 (u1), .int .i64 (u2), .int .i64 (u3), .int .i64 (u4)], .int .i64 (te)] := h0
        go_simp
        first | exact ⟨Ext.refl _, rfl⟩ | exact Ext.refl _
      · obtain ⟨h0, -⟩ := hs
        replace h0 : ρ (.tmp 30) = .tuple #[.agg #[.int .i64 (u1), .int .i64 (u2), .int .i64 (u3), .int .i64 (u4)], .int .i64 (te)] := h0
        go_simp
        first | exact ⟨Ext.refl _, rfl⟩ | exact Ext.refl _
      · obtain ⟨h0, -⟩ := hs
        replace h0 : ρ (.tmp 30) = .tuple #[.agg #[.int .i64 (u1), .int .i64 (u2), .int .i64 (u3), .int .i64 (u4)], .int .i64 (te)] := h0
        go_simp
        first | exact ⟨Ext.refl _, rfl⟩ | exact Ext.refl _
      · go_simp
        exact ⟨Ext.alloc _ _, W.heap.size, hF.size, rfl, Blk.new _ _ _⟩
    · intro ρ W ⟨kc, kg, kf⟩ hF hs
      obtain ⟨h0, -⟩ := hs
      replace h0 : ρ (.tmp 30) = .tuple #[.agg #[.int .i64 (u1), .int .i64 (u2), .int .i64 (u3), .int .i64 (u4)], .int .i64 (te)] := h0
      refine ⟨.int .i64 (te), fun W' => ?_⟩
      go_simp
    · intro ρ ρ' h
      simp only [execOp]
      rw [h (.tmp 9) (by simp), h (.tmp 37) (by simp)]
    · intro ρ W ⟨kc, kg, kf⟩ hF hs
      obtain ⟨h0, h1, -⟩ := hs
      replace h0 : (Fresh84 W4.heap.size) (ρ (.tmp 9)) W := h0
      replace h1 : ρ (.tmp 37) = .agg #[.int .i64 (u1), .int .i64 (u2), .int .i64 (u3), .int .i64 (u4)] := h1
      obtain ⟨b, _, hb, hk⟩ := h0
      have f0 := hk.free 0
      have f1 := hk.free 1
      have f2 := hk.free 2
      have f3 := hk.free 3
      have c0 := hk.cell 0
      have c1 := hk.cell 1
      have c2 := hk.cell 2
      have c3 := hk.cell 3
      simp only [List.getElem?_toArray, List.getElem?_cons_zero, List.getElem?_cons_succ] at c0 c1 c2 c3
      refine ⟨((((W).setCell ⟨b, 0, none⟩ (.int .i64 u1)).setCell ⟨b, 1, none⟩ (.int .i64 u2)).setCell ⟨b, 2, none⟩ (.int .i64 u3)).setCell ⟨b, 3, none⟩ (.int .i64 u4), ?_⟩
      go_simp
    · intro fv W5 hF hs
      obtain ⟨-, -, -, -, -, -, -, h37, h38, h9, -⟩ := hs
      replace h37 : fv 37 = .agg #[.int .i64 (u1), .int .i64 (u2), .int .i64 (u3), .int .i64 (u4)] := h37
      replace h38 : fv 38 = .int .i64 (te) := h38
      replace h9 : (Fresh84 W4.heap.size) (fv 9) W5 := h9
      simp only [fin, List.filterMap]
      go_simp
      obtain ⟨b9, hb9, hv9, hk9⟩ := h9
      rw [hv9]
      have K9 := Lib.hid hk9
      have f0 := hk9.free 0
      have f1 := hk9.free 1
      have f2 := hk9.free 2
      have f3 := hk9.free 3
      have c0 := hk9.cell 0
      have c1 := hk9.cell 1
      have c2 := hk9.cell 2
      have c3 := hk9.cell 3
      simp only [List.getElem?_toArray, List.getElem?_cons_zero, List.getElem?_cons_succ] at c0 c1 c2 c3
      have X46 := Lib.hid (set4_ext hF hb9 (.int .i64 u1) (.int .i64 u2) (.int .i64 u3) (.int .i64 u4))
      have HY9 := Lib.hid (fun W e => stored4 K9.out u1 u2 u3 u4 (W' := W) e)
      replace z0 := hF.cell z0
      replace z1 := hF.cell z1
      replace z2 := hF.cell z2
      replace z3 := hF.cell z3
      have hl1 : w.heap.size + 1 < W4.heap.size := lt_of_cell (FA.out _ X4.out).2.2.1
      have n1 : ¬ b9 = w.heap.size := by omega
      have n2 : ¬ w.heap.size = b9 := by omega
      have n3 : ¬ b9 = w.heap.size + 1 := by omega
      have n4 : ¬ w.heap.size + 1 = b9 := by omega
      clear hF z4 z5 h37 h38 hv9 hk9 hb9 hl1
      go_wp2_with (fail)
      clear n1 n2 n3 n4
      generalize ((((W5).setCell ⟨b9, 0, none⟩ (.int .i64 u1)).setCell ⟨b9, 1, none⟩ (.int .i64 u2)).setCell ⟨b9, 2, none⟩ (.int .i64 u3)).setCell ⟨b9, 3, none⟩ (.int .i64 u4) = W6 at *
      clear f0 f1 f2 f3 c0 c1 c2 c3 K9 z0 z1 z2 z3
      replace HY7 := Lib.hid (fun W (e : Ext W6 W) => HY7.out W (X46.out.trans e))
      have XC := Lib.hid (X4.out.trans X46.out)
      have YC := Lib.hid (Ext.refl W6)
      obtain ⟨z0, z1, z2, z3, z4, z5⟩ := FA.out _ XC.out
      obtain ⟨y0, y1, y2, y3⟩ := HY7.out _ YC.out
      obtain ⟨x0, x1, x2, x3⟩ := HY9.out _ YC.out
      by_cases hq : qe = 0
      · subst hq
        have H55' := Lib.hid (fun W e => H55.out W e rfl)
        have H56' := Lib.hid (fun W e => H56.out W e rfl)
        have HTE' := Lib.hid (show te = if shE n p = 0 ∧ shE n q = 0 then 0 else 6 from HTE.out)
        have hsp : shE n p = 0 ∨ shE n p = 6 := by unfold shE; split <;> simp
        have hsq : shE n q = 0 ∨ shE n q = 6 := by unfold shE; split <;> simp
        have HSP := Lib.hid hsp
        have HSQ := Lib.hid hsq
        clear H55 H56 HTE HZ0 hsp hsq
        have H55 := H55'
        clear H55'
        go_wp2_with (go_at_call 24; refine (H24.out _ (E0.out.trans XC.out)).mono ?_; rintro e W7 ⟨rfl, hx⟩; replace XC := Lib.hid (XC.out.trans hx); replace YC := Lib.hid (YC.out.trans hx); clear hx z0 z1 z2 z3 z4 z5 y0 y1 y2 y3 x0 x1 x2 x3; obtain ⟨z0, z1, z2, z3, z4, z5⟩ := FA.out _ XC.out; obtain ⟨y0, y1, y2, y3⟩ := HY7.out _ YC.out; obtain ⟨x0, x1, x2, x3⟩ := HY9.out _ YC.out)
        refine wp_region_eachG [(64, false), (64, false), (64, false), (64, false), (64, false)] [some 62, some 63, some 64, some 65, some 66, some 67, some 68, some 69, some 70] [[8], [62], [63], [7, 64], [3, 64], [4, 64], [66, 67, 64], [65, 68, 64], [64, 69]]
          [Is (.int .i64 (0)), Is (.bool (false)), Is (.bool (false)), Is (.agg #[.int .i64 (v1), .int .i64 (v2), .int .i64 (v3), .int .i64 (v4)]), Is (.agg #[.int .i64 (t), .slice A n ca]), Is (.agg #[.int .i64 (f), .slice B m cb]), Is (.agg #[.int .i64 (v1), .int .i64 (v2), .int .i64 (v3), .int .i64 (v4)]), Is (.bool (false)), Is (.bool (false))]
          (by kernel_rfl) (by kernel_rfl) (by kernel_rfl) (by kernel_rfl) (by kernel_rfl) Ext (fun W => Ext W7 W)
          (fun W _ => Ext.refl W) (fun W W' h k => h.trans k) ?_ (by intro p hp; simp at hp; subst hp; exact ⟨_, rfl, fun _ _ h => h⟩) (Ext.drew _) ?_ ?_
        · repeat (refine ⟨fun _ _ _ _ k h => (by first | exact h | exact (by first | exact LadV.ext h k | exact DrvV.ext h k | exact Fresh84.ext h k)), ?_⟩)
          exact trivial
        · refine ⟨?_, ?_, ?_, ?_, ?_, ?_, ?_, ?_, ?_, trivial⟩
          all_goals intro ρ W ⟨kc, kg, kf⟩ hF hs
          · obtain ⟨h0, -⟩ := hs
            replace h0 : ρ (.tmp 8) = .int .i64 (0) := h0
            go_simp
            exact ⟨Ext.refl _, rfl⟩
          · obtain ⟨h0, -⟩ := hs
            replace h0 : ρ (.tmp 62) = .int .i64 (0) := h0
            go_simp
            first | exact ⟨Ext.refl _, rfl⟩ | exact Ext.refl _
          · obtain ⟨h0, -⟩ := hs
            replace h0 : ρ (.tmp 63) = .bool (false) := h0
            go_simp
            first | exact ⟨Ext.refl _, rfl⟩ | exact Ext.refl _
          · obtain ⟨h0, h1, -⟩ := hs
            replace h0 : ρ (.tmp 7) = .pointer (some ⟨b7, 0, none⟩) := h0
            replace h1 : ρ (.tmp 64) = .bool (false) := h1
            have hc0 : W.cell? ⟨b7, 0, none⟩ = some (.int .i64 (v1)) := hF.cell (by assumption)
            have hc1 : W.cell? ⟨b7, 1, none⟩ = some (.int .i64 (v2)) := hF.cell (by assumption)
            have hc2 : W.cell? ⟨b7, 2, none⟩ = some (.int .i64 (v3)) := hF.cell (by assumption)
            have hc3 : W.cell? ⟨b7, 3, none⟩ = some (.int .i64 (v4)) := hF.cell (by assumption)
            go_simp
            exact ⟨Ext.refl _, rfl⟩
          · obtain ⟨h0, h1, -⟩ := hs
            replace h0 : ρ (.tmp 3) = .pointer (some ⟨w.heap.size, 0, none⟩) := h0
            replace h1 : ρ (.tmp 64) = .bool (false) := h1
            have hc0 : W.cell? ⟨w.heap.size, 0, none⟩ = some (.int .i64 (t)) := hF.cell (by assumption)
            have hc1 : W.cell? ⟨w.heap.size, 1, none⟩ = some (.slice A n ca) := hF.cell (by assumption)
            go_simp
            exact ⟨Ext.refl _, rfl⟩
          · obtain ⟨h0, h1, -⟩ := hs
            replace h0 : ρ (.tmp 4) = .pointer (some ⟨w.heap.size + 1, 0, none⟩) := h0
            replace h1 : ρ (.tmp 64) = .bool (false) := h1
            have hc0 : W.cell? ⟨w.heap.size + 1, 0, none⟩ = some (.int .i64 (f)) := hF.cell (by assumption)
            have hc1 : W.cell? ⟨w.heap.size + 1, 1, none⟩ = some (.slice B m cb) := hF.cell (by assumption)
            go_simp
            exact ⟨Ext.refl _, rfl⟩
          · obtain ⟨h0, h1, h2, -⟩ := hs
            replace h0 : ρ (.tmp 66) = .agg #[.int .i64 (t), .slice A n ca] := h0
            replace h1 : ρ (.tmp 67) = .agg #[.int .i64 (f), .slice B m cb] := h1
            replace h2 : ρ (.tmp 64) = .bool (false) := h2
            go_simp
            exact (H55.out W (E0.out.trans (XC.out.trans hF))).mono fun _ _ ⟨h1, h2⟩ => ⟨_, h1, h2, rfl⟩
          · obtain ⟨h0, h1, h2, -⟩ := hs
            replace h0 : ρ (.tmp 65) = .agg #[.int .i64 (v1), .int .i64 (v2), .int .i64 (v3), .int .i64 (v4)] := h0
            replace h1 : ρ (.tmp 68) = .agg #[.int .i64 (v1), .int .i64 (v2), .int .i64 (v3), .int .i64 (v4)] := h1
            replace h2 : ρ (.tmp 64) = .bool (false) := h2
            go_simp
            first | exact ⟨Ext.refl _, rfl⟩ | exact Ext.refl _
          · obtain ⟨h0, h1, -⟩ := hs
            replace h0 : ρ (.tmp 64) = .bool (false) := h0
            replace h1 : ρ (.tmp 69) = .bool (false) := h1
            go_simp
            first | exact ⟨Ext.refl _, rfl⟩ | exact Ext.refl _
        · intro fv W8 hF hs
          obtain ⟨-, -, -, -, -, -, -, -, h70, -⟩ := hs
          replace h70 : fv 70 = .bool (false) := h70
          simp only [fin, List.filterMap]
          go_simp
          have hx := hF
          replace XC := Lib.hid (XC.out.trans hx); replace YC := Lib.hid (YC.out.trans hx); clear hx z0 z1 z2 z3 z4 z5 y0 y1 y2 y3 x0 x1 x2 x3; obtain ⟨z0, z1, z2, z3, z4, z5⟩ := FA.out _ XC.out; obtain ⟨y0, y1, y2, y3⟩ := HY7.out _ YC.out; obtain ⟨x0, x1, x2, x3⟩ := HY9.out _ YC.out
          clear hF h70
          have done6 : te = 6 → u1 = 0 ∧ u2 = 0 ∧ u3 = 0 ∧ u4 = 0 := fun h => HU0.out (by rw [h]; decide)
          have HD6 := Lib.hid done6
          clear done6
          rcases HSP.out with hp | hp
          · have HP := Lib.hid hp
            rcases HSQ.out with hqq | hqq
            · have HQ := Lib.hid hqq
              have H56 := Lib.hid (fun W e => H56'.out W e HP.out HQ.out)
              have hte : te = 0 := by rw [HTE'.out, if_pos ⟨hp, hqq⟩]
              subst hte
              clear hp hqq H56' HTE' HD6 HU0 HSP HSQ
              go_wp2_with (first
                | (go_at_call 45; refine (H45.out _ _).mono ?_; rintro e W9 ⟨rfl, hx⟩; (first | rw [HP.out] | rw [HQ.out]); replace XC := Lib.hid (XC.out.trans hx); replace YC := Lib.hid (YC.out.trans hx); clear hx z0 z1 z2 z3 z4 z5 y0 y1 y2 y3 x0 x1 x2 x3; obtain ⟨z0, z1, z2, z3, z4, z5⟩ := FA.out _ XC.out; obtain ⟨y0, y1, y2, y3⟩ := HY7.out _ YC.out; obtain ⟨x0, x1, x2, x3⟩ := HY9.out _ YC.out))
              refine wp_region_eachG [(92, true), (92, true), (92, true), (92, true), (92, true), (92, true), (92, true), (92, true), (92, true)] [some 90, some 91, some 92, some 93, some 94, some 95, some 96, some 97, some 98, some 99, some 100, some 101, some 102, some 6] [[10], [90], [91], [9, 92], [3, 92], [4, 92], [5, 92], [96, 92], [5, 92], [98, 92], [94, 95, 97, 99, 92], [93, 100, 92], [92, 101], [102]]
                [Is (.int .i64 (0)), Is (.bool (true)), Is (.bool (true)), Is (.agg #[.int .i64 (u1), .int .i64 (u2), .int .i64 (u3), .int .i64 (u4)]), Is (.agg #[.int .i64 (t), .slice A n ca]), Is (.agg #[.int .i64 (f), .slice B m cb]), Is (.pointer (some ⟨w.heap.size + 1 + 1, 0, none⟩)), Is (.int .i64 (p)), Is (.pointer (some ⟨w.heap.size + 1 + 1, 1, none⟩)), Is (.int .i64 (q)), Is (.agg #[.int .i64 (u1), .int .i64 (u2), .int .i64 (u3), .int .i64 (u4)]), Is (.bool (true)), Is (.bool (true)), Is (.bool (true))]
                (by kernel_rfl) (by kernel_rfl) (by kernel_rfl) (by kernel_rfl) (by kernel_rfl) Ext (fun W => Ext W9 W)
                (fun W _ => Ext.refl W) (fun W W' h k => h.trans k) ?_ (by intro p hp; simp at hp; subst hp; exact ⟨_, rfl, fun _ _ h => h⟩) (Ext.drew _) ?_ ?_
              · repeat (refine ⟨fun _ _ _ _ k h => (by first | exact h | exact (by first | exact LadV.ext h k | exact DrvV.ext h k | exact Fresh84.ext h k)), ?_⟩)
                exact trivial
              · refine ⟨?_, ?_, ?_, ?_, ?_, ?_, ?_, ?_, ?_, ?_, ?_, ?_, ?_, ?_, trivial⟩
                all_goals intro ρ W ⟨kc, kg, kf⟩ hF hs
                · obtain ⟨h0, -⟩ := hs
                  replace h0 : ρ (.tmp 10) = .int .i64 (0) := h0
                  go_simp
                  exact ⟨Ext.refl _, rfl⟩
                · obtain ⟨h0, -⟩ := hs
                  replace h0 : ρ (.tmp 90) = .int .i64 (0) := h0
                  go_simp
                  first | exact ⟨Ext.refl _, rfl⟩ | exact Ext.refl _
                · obtain ⟨h0, -⟩ := hs
                  replace h0 : ρ (.tmp 91) = .bool (true) := h0
                  go_simp
                  first | exact ⟨Ext.refl _, rfl⟩ | exact Ext.refl _
                · obtain ⟨h0, h1, -⟩ := hs
                  replace h0 : ρ (.tmp 9) = .pointer (some ⟨b9, 0, none⟩) := h0
                  replace h1 : ρ (.tmp 92) = .bool (true) := h1
                  have hc0 : W.cell? ⟨b9, 0, none⟩ = some (.int .i64 (u1)) := hF.cell (by assumption)
                  have hc1 : W.cell? ⟨b9, 1, none⟩ = some (.int .i64 (u2)) := hF.cell (by assumption)
                  have hc2 : W.cell? ⟨b9, 2, none⟩ = some (.int .i64 (u3)) := hF.cell (by assumption)
                  have hc3 : W.cell? ⟨b9, 3, none⟩ = some (.int .i64 (u4)) := hF.cell (by assumption)
                  go_simp
                  exact ⟨Ext.refl _, rfl⟩
                · obtain ⟨h0, h1, -⟩ := hs
                  replace h0 : ρ (.tmp 3) = .pointer (some ⟨w.heap.size, 0, none⟩) := h0
                  replace h1 : ρ (.tmp 92) = .bool (true) := h1
                  have hc0 : W.cell? ⟨w.heap.size, 0, none⟩ = some (.int .i64 (t)) := hF.cell (by assumption)
                  have hc1 : W.cell? ⟨w.heap.size, 1, none⟩ = some (.slice A n ca) := hF.cell (by assumption)
                  go_simp
                  exact ⟨Ext.refl _, rfl⟩
                · obtain ⟨h0, h1, -⟩ := hs
                  replace h0 : ρ (.tmp 4) = .pointer (some ⟨w.heap.size + 1, 0, none⟩) := h0
                  replace h1 : ρ (.tmp 92) = .bool (true) := h1
                  have hc0 : W.cell? ⟨w.heap.size + 1, 0, none⟩ = some (.int .i64 (f)) := hF.cell (by assumption)
                  have hc1 : W.cell? ⟨w.heap.size + 1, 1, none⟩ = some (.slice B m cb) := hF.cell (by assumption)
                  go_simp
                  exact ⟨Ext.refl _, rfl⟩
                · obtain ⟨h0, h1, -⟩ := hs
                  replace h0 : ρ (.tmp 5) = .pointer (some ⟨w.heap.size + 1 + 1, 0, none⟩) := h0
                  replace h1 : ρ (.tmp 92) = .bool (true) := h1
                  go_simp
                  exact ⟨Ext.refl _, rfl⟩
                · obtain ⟨h0, h1, -⟩ := hs
                  replace h0 : ρ (.tmp 96) = .pointer (some ⟨w.heap.size + 1 + 1, 0, none⟩) := h0
                  replace h1 : ρ (.tmp 92) = .bool (true) := h1
                  have hc0 : W.cell? ⟨w.heap.size + 1 + 1, 0, none⟩ = some (.int .i64 (p)) := hF.cell (by assumption)
                  go_simp
                  exact ⟨Ext.refl _, rfl⟩
                · obtain ⟨h0, h1, -⟩ := hs
                  replace h0 : ρ (.tmp 5) = .pointer (some ⟨w.heap.size + 1 + 1, 0, none⟩) := h0
                  replace h1 : ρ (.tmp 92) = .bool (true) := h1
                  go_simp
                  exact ⟨Ext.refl _, rfl⟩
                · obtain ⟨h0, h1, -⟩ := hs
                  replace h0 : ρ (.tmp 98) = .pointer (some ⟨w.heap.size + 1 + 1, 1, none⟩) := h0
                  replace h1 : ρ (.tmp 92) = .bool (true) := h1
                  have hc0 : W.cell? ⟨w.heap.size + 1 + 1, 1, none⟩ = some (.int .i64 (q)) := hF.cell (by assumption)
                  go_simp
                  exact ⟨Ext.refl _, rfl⟩
                · obtain ⟨h0, h1, h2, h3, h4, -⟩ := hs
                  replace h0 : ρ (.tmp 94) = .agg #[.int .i64 (t), .slice A n ca] := h0
                  replace h1 : ρ (.tmp 95) = .agg #[.int .i64 (f), .slice B m cb] := h1
                  replace h2 : ρ (.tmp 97) = .int .i64 (p) := h2
                  replace h3 : ρ (.tmp 99) = .int .i64 (q) := h3
                  replace h4 : ρ (.tmp 92) = .bool (true) := h4
                  go_simp
                  exact (H56.out W (E0.out.trans (XC.out.trans hF))).mono fun _ _ ⟨h1, h2⟩ => ⟨_, h1, h2, rfl⟩
                · obtain ⟨h0, h1, h2, -⟩ := hs
                  replace h0 : ρ (.tmp 93) = .agg #[.int .i64 (u1), .int .i64 (u2), .int .i64 (u3), .int .i64 (u4)] := h0
                  replace h1 : ρ (.tmp 100) = .agg #[.int .i64 (u1), .int .i64 (u2), .int .i64 (u3), .int .i64 (u4)] := h1
                  replace h2 : ρ (.tmp 92) = .bool (true) := h2
                  go_simp
                  first | exact ⟨Ext.refl _, rfl⟩ | exact Ext.refl _
                · obtain ⟨h0, h1, -⟩ := hs
                  replace h0 : ρ (.tmp 92) = .bool (true) := h0
                  replace h1 : ρ (.tmp 101) = .bool (true) := h1
                  go_simp
                  first | exact ⟨Ext.refl _, rfl⟩ | exact Ext.refl _
                · obtain ⟨h0, -⟩ := hs
                  replace h0 : ρ (.tmp 102) = .bool (true) := h0
                  go_simp
                  exact ⟨Ext.refl _, rfl⟩
              · intro fv W10 hF hs
                obtain ⟨-, -, -, -, -, -, -, -, -, -, -, -, -, h6, -⟩ := hs
                replace h6 : fv 6 = .bool (true) := h6
                simp only [fin, List.filterMap]
                go_simp
                go_wp2
                go_ret
                exact ⟨ret_bool (by simp), E0.out.trans (XC.out.trans hF)⟩
            · have HQ := Lib.hid hqq
              have hte : te = 6 := by rw [HTE'.out, if_neg (by rw [hqq]; simp)]
              obtain ⟨rfl, rfl, rfl, rfl⟩ := HD6.out hte
              subst hte
              clear hp hqq H56' HTE' HD6 HU0 HSP HSQ
              go_wp2_with (first
                | (go_at_call 45; refine (H45.out _ _).mono ?_; rintro e W9 ⟨rfl, hx⟩; (first | rw [HP.out] | rw [HQ.out]); replace XC := Lib.hid (XC.out.trans hx); replace YC := Lib.hid (YC.out.trans hx); clear hx z0 z1 z2 z3 z4 z5 y0 y1 y2 y3 x0 x1 x2 x3; obtain ⟨z0, z1, z2, z3, z4, z5⟩ := FA.out _ XC.out; obtain ⟨y0, y1, y2, y3⟩ := HY7.out _ YC.out; obtain ⟨x0, x1, x2, x3⟩ := HY9.out _ YC.out))
              go_ret
              exact ⟨ret_bool (by simp), E0.out.trans XC.out⟩
          · have HP := Lib.hid hp
            have HQ := HP
            have hte : te = 6 := by rw [HTE'.out, if_neg (by rw [hp]; simp)]
            obtain ⟨rfl, rfl, rfl, rfl⟩ := HD6.out hte
            subst hte
            clear hp H56' HTE' HD6 HU0 HSP HSQ
            go_wp2_with (first
              | (go_at_call 45; refine (H45.out _ _).mono ?_; rintro e W9 ⟨rfl, hx⟩; (first | rw [HP.out] | rw [HQ.out]); replace XC := Lib.hid (XC.out.trans hx); replace YC := Lib.hid (YC.out.trans hx); clear hx z0 z1 z2 z3 z4 z5 y0 y1 y2 y3 x0 x1 x2 x3; obtain ⟨z0, z1, z2, z3, z4, z5⟩ := FA.out _ XC.out; obtain ⟨y0, y1, y2, y3⟩ := HY7.out _ YC.out; obtain ⟨x0, x1, x2, x3⟩ := HY9.out _ YC.out))
            go_ret
            exact ⟨ret_bool (by simp), E0.out.trans XC.out⟩
      · have hqb : (qe != 0) = true := by simp [hq]
        have hte : te = qe := by rw [HTE.out, if_pos hq]
        subst hte
        obtain ⟨rfl, rfl, rfl, rfl⟩ := HZ0.out hq
        obtain ⟨rfl, rfl, rfl, rfl⟩ := HU0.out hq
        clear hq H55 H56 HTE HZ0 HU0
        go_wp2_with (go_at_call 24; refine (H24.out _ (E0.out.trans XC.out)).mono ?_; rintro e W7 ⟨rfl, hx⟩; replace XC := Lib.hid (XC.out.trans hx); replace YC := Lib.hid (YC.out.trans hx); clear hx z0 z1 z2 z3 z4 z5 y0 y1 y2 y3 x0 x1 x2 x3; obtain ⟨z0, z1, z2, z3, z4, z5⟩ := FA.out _ XC.out; obtain ⟨y0, y1, y2, y3⟩ := HY7.out _ YC.out; obtain ⟨x0, x1, x2, x3⟩ := HY9.out _ YC.out)
        go_ret
        exact ⟨ret_bool (by simp), E0.out.trans XC.out⟩

theorem fieldImpedances_any (t : Int) (A : Option Addr) (n ca : Nat) (xs : List Sh) (hn : xs.length = n) (f : Int) (B : Option Addr) (m cb : Nat) (hot : List Bool) (hm : hot.length = m) (p q : Int) (w : World)
    (hA : n ≤ 6 → RowsAt 3 Sh.enc w A xs) (hB : m ≤ 6 → RowsAt 1 boolEnc w B hot) (hAn : A = none → ca = 0) (hBn : B = none → cb = 0) :
    Calls Try.prog 9 #[.agg #[.int .i64 t, .slice A n ca], .agg #[.int .i64 f, .slice B m cb], .agg #[.int .i64 p, .int .i64 q]] w fun e w' => e = .returned (.bool true) ∧ Ext w w' := by
  by_cases h : n ≤ 6 ∧ m ≤ 6
  · exact fieldImpedances_main t A n ca xs hn f B m cb hot hm p q w (hA h.1) (hB h.2) h.1 h.2 hAn hBn
  · exact fieldImpedances_few t A n ca f B m cb p q w h

end Go.Proofs.Ytpaoeghdfeekoaa
