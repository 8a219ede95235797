/- The reference's impedance and transfer. -/
import Derived.Test.YtpaoeghdfeekoaaK18
namespace Go.Proofs.Ytpaoeghdfeekoaa
open Go.RowKit Go.Shelf Go.Mem Go.RegInv
attribute [local go_sem] RelUpon_value RelUpon_skip RelUpon_enter BigFrame.eval_const BigFrame.eval_global BigFrame.eval_func

theorem scaled_neg (a b : Int) (ha : Big a) (hb : Big b) (w : World) :
    Calls Try.prog 93 #[.agg #[.int .i64 a, .int .i64 b], .int .i64 (-1)] w fun e w' => e = .returned (.agg #[.int .i64 (-1 * a), .int .i64 (-1 * b)]) ∧ Ext w w' := by
  obtain ⟨ha1, ha2⟩ := ha
  obtain ⟨hb1, hb2⟩ := hb
  have w1 : IntKind.i64.wrap (-1 * a) = -1 * a := IntWalk.i64_in _ (by omega)
  have w2 : IntKind.i64.wrap (-1 * b) = -1 * b := IntWalk.i64_in _ (by omega)
  go_enter Try.func93, Try.ntmps93
  go_wp2
  exact bodyPost_ret (v := .agg #[.int .i64 (-1 * a), .int .i64 (-1 * b)]) (by simp [results, Try.f93, go_sem]) rfl ⟨rfl, (Ext.alloc _ _).trans (Ext.alloc _ _)⟩
theorem row_g {W : World} {g : Nat} {xs : List G} (h : RowsAt 2 G.enc W (some ⟨g, 0, none⟩) xs) (k : Nat) (z : G) (hk : xs[k]? = some z) : W.cell? ⟨g, k * 2, none⟩ = some (.int .i64 z.re) ∧ W.cell? ⟨g, k * 2 + 1, none⟩ = some (.int .i64 z.im) := by
  obtain ⟨b, o, e, _, hc⟩ := h.2 k z hk
  obtain ⟨rfl, rfl⟩ : g = b ∧ 0 = o := by simpa using e
  exact ⟨by have := hc 0 _ rfl; simpa using this, by have := hc 1 _ rfl; simpa using this⟩

set_option maxRecDepth 100000 in
set_option maxHeartbeats 4000000 in
theorem refImpedance_any (t : Int) (A : Option Addr) (n cap : Nat) (ls : List Sh) (hn : ls.length = n) (f : Int) (B : Option Addr) (cap' : Nat) (hot : List Bool) (hm : hot.length = n) (w : World)
    (hS : RowsAt 3 Sh.enc w A ls) (hH : RowsAt 1 boolEnc w B hot) (hok : ∀ s ∈ ls, shOK s) (hf : 1 ≤ f ∧ f ≤ 8) (h1 : 1 ≤ n) (hn4 : n ≤ 4) (ht : 1 ≤ t ∧ t ≤ 20) :
    Calls Try.prog 55 #[.agg #[.int .i64 t, .slice A n cap], .agg #[.int .i64 f, .slice B n cap']] w fun e w' => e = .returned (.agg (redV (impN t f hot ls) (curIn f hot ls))) ∧ Ext w w' := by
  have e0 : Ext w (((w.alloc (.cells #[.int .i64 t, .slice A n cap] 24)).alloc (.cells #[.int .i64 f, .slice B n cap'] 27)).alloc (.cells #[.int .i64 0, .int .i64 0, .int .i64 0, .int .i64 0] 84)) := (Ext.alloc _ _).trans ((Ext.alloc _ _).trans (Ext.alloc _ _))
  have FA := Lib.hid (show ∀ W : World, Ext (((w.alloc (.cells #[.int .i64 t, .slice A n cap] 24)).alloc (.cells #[.int .i64 f, .slice B n cap'] 27)).alloc (.cells #[.int .i64 0, .int .i64 0, .int .i64 0, .int .i64 0] 84)) W →
      W.cell? ⟨w.heap.size, 0, none⟩ = some (.int .i64 t) ∧ W.cell? ⟨w.heap.size, 1, none⟩ = some (.slice A n cap) ∧ W.cell? ⟨w.heap.size + 1, 0, none⟩ = some (.int .i64 f) ∧ W.cell? ⟨w.heap.size + 1, 1, none⟩ = some (.slice B n cap') from
    fun W hx => ⟨hx.cell (by go_simp), hx.cell (by go_simp), hx.cell (by go_simp), hx.cell (by go_simp)⟩)
  have FB := Lib.hid (show ∀ W : World, Ext (((w.alloc (.cells #[.int .i64 t, .slice A n cap] 24)).alloc (.cells #[.int .i64 f, .slice B n cap'] 27)).alloc (.cells #[.int .i64 0, .int .i64 0, .int .i64 0, .int .i64 0] 84)) W → Blk W (w.heap.size + 1 + 1) 84 #[.int .i64 0, .int .i64 0, .int .i64 0, .int .i64 0] from
    fun W hx => (Blk.newAt _ _ _ (by simp)).ext hx)
  have H36 := Lib.hid (fun W (e : Ext w W) => solve_any t A n cap ls hn f B cap' hot hm W (hS.ext e) (hH.ext e) hok hf h1 hn4)
  have E0 := Lib.hid e0
  obtain ⟨T, hT⟩ : ∃ T, T = t * t := ⟨_, rfl⟩
  have hTb := big_T ht
  rw [← hT] at hTb
  have HTT := Lib.hid (show IntKind.i64.wrap (t * t) = T by rw [← hT]; exact IntWalk.i64_in _ (by omega))
  have hnn := ne_of_norm (volt0_ne hok hf (hot := hot) (by omega))
  have hdn := curIn_ne hok hf (hot := hot) (by omega) (by omega)
  have hv0 := volts_at f hot ls 0 (by omega)
  have hvv := volt_at f hot ls 0 (by omega)
  have hcb := (st_small (hot := hot) hok hf (by omega) 0).2
  have hcu : (curr ls (volts f hot ls).tail)[0]? = some (curIn f hot ls) := by
    have hl : 0 < (curr ls (volts f hot ls).tail).length := by rw [curr_len ls _ (by simp [volts_len])]; omega
    unfold curIn curAt
    rw [List.getD, List.getElem?_eq_getElem hl]; rfl
  have hcs : curIn f hot ls = (st f hot ls 0).cur := by unfold curIn; exact cur_at f hot ls ls.length 0 (by omega)
  have hvb := (st_small (hot := hot) hok hf (by omega) 0).1
  have HRV0 : redV (impN t f hot ls) (curIn f hot ls) = redV ⟨T * (volt f hot ls 0).re, T * (volt f hot ls 0).im⟩ (curIn f hot ls) := by unfold impN; rw [hT]
  rw [HRV0]
  rw [← hvv] at hv0 hvb
  rw [← hcs] at hcb
  generalize volt f hot ls 0 = vz at *
  generalize curIn f hot ls = cz at *
  obtain ⟨d1, d2⟩ := vz
  obtain ⟨e1, e2⟩ := cz
  simp only [Bd] at hvb hcb
  dsimp only at hnn hdn
  have m1 := mul_bd (n := T) (x := d1) (N := 400) (B := 300000000) (by omega) hTb.2 (by omega) (by omega)
  have m2 := mul_bd (n := T) (x := d2) (N := 400) (B := 300000000) (by omega) hTb.2 (by omega) (by omega)
  have HSC := Lib.hid (fun W => scaled_any d1 d2 T (by unfold Mid; omega) (by unfold Mid; omega) W)
  have HRT0 := Lib.hid (fun W => refRatio_any (T * d1) (T * d2) e1 e2 (by unfold Big; omega) (by unfold Big; omega) (by unfold Big; omega) (by unfold Big; omega) hdn (by
    rcases hnn with h | h
    · exact .inl (Int.mul_ne_zero (by omega) h)
    · exact .inr (Int.mul_ne_zero (by omega) h)) W)
  obtain ⟨a1, a2, a3, a4, hrv⟩ : ∃ a1 a2 a3 a4, redV ⟨T * d1, T * d2⟩ ⟨e1, e2⟩ = #[.int .i64 a1, .int .i64 a2, .int .i64 a3, .int .i64 a4] := ⟨_, _, _, _, rfl⟩
  have HRT := HRT0
  rw [hrv] at HRT
  have HRV := Lib.hid hrv
  have HV0 := Lib.hid hv0
  have HC0 := Lib.hid hcu
  dsimp only
  clear hS hH hok hf hn hm e0 hTb hnn hdn hv0 hvv hcb hcu hcs hvb HRV0 m1 m2 hrv HRT0 hT ht
  go_enter Try.func55, Try.ntmps55
  go_wp2_with (go_at_call 36; refine (H36.out _ E0.out).mono ?_; rintro e W1 ⟨g8, g9, rfl, hr8, hr9, hx1⟩; have X1 := Lib.hid hx1; obtain ⟨x0, x1⟩ := row_g hr8 0 _ HV0.out; obtain ⟨x2, x3⟩ := row_g hr9 0 _ HC0.out; clear hx1 hr8 hr9)
  simp only [Nat.zero_mul, Nat.zero_add] at x0 x1 x2 x3
  obtain ⟨z0, z1, z2, z3⟩ := FA.out _ X1.out
  refine wp_region_part 13 [some 13, some 14, some 15, some 16, some 17, some 18, some 19, some 20, some 21, some 22, some 23, some 24, some 25] [[5], [13], [14], [2], [16], [2], [18], [17, 19], [15, 20], [6], [22], [23], [21, 24]]
    [Is (.slice (some ⟨g8, 0, none⟩) (n + 1) (n + 1)), Is (.pointer (some ⟨g8, 0, none⟩)), Is (.agg #[.int .i64 (d1), .int .i64 (d2)]), Is (.pointer (some ⟨w.heap.size, 0, none⟩)), Is (.int .i64 (t)), Is (.pointer (some ⟨w.heap.size, 0, none⟩)), Is (.int .i64 (t)), Is (.int .i64 (T)), Is (.agg #[.int .i64 (T * d1), .int .i64 (T * d2)]), Is (.slice (some ⟨g9, 0, none⟩) n n), Is (.pointer (some ⟨g9, 0, none⟩)), Is (.agg #[.int .i64 (e1), .int .i64 (e2)]), Is (.agg #[.int .i64 (a1), .int .i64 (a2), .int .i64 (a3), .int .i64 (a4)])]
    (by kernel_rfl) (by kernel_rfl) (by kernel_rfl) (by kernel_rfl) (by kernel_rfl) (by kernel_rfl) (by kernel_rfl) Ext (fun W => Ext W1 W)
    (fun W _ => Ext.refl W) (fun W W' h k => h.trans k) ?_ (Ext.drew _) ?_ ?_
  · repeat (refine ⟨fun _ _ _ _ k h => (by first | exact h | exact (by first | exact LadV.ext h k | exact DrvV.ext h k | exact TupV.ext (fun _ _ _ h k => by first | exact Opt.ext (fun _ _ _ h k => by first | exact IntsAt.ext h k | exact GsV.ext h k) h k | exact IntsAt.ext h k) h k | exact Opt.ext (fun _ _ _ h k => by first | exact IntsAt.ext h k | exact GsV.ext h k) h k | exact IntsAt.ext h k)), ?_⟩)
    exact trivial
  · refine ⟨?_, ?_, ?_, ?_, ?_, ?_, ?_, ?_, ?_, ?_, ?_, ?_, ?_, trivial⟩
    all_goals intro ρ W ⟨kc, kg, kf⟩ hF hs
    · obtain ⟨h0, -⟩ := hs
      replace h0 : ρ (.tmp 5) = .slice (some ⟨g8, 0, none⟩) (n + 1) (n + 1) := h0
      go_simp
      exact ⟨Ext.refl _, rfl⟩
    · obtain ⟨h0, -⟩ := hs
      replace h0 : ρ (.tmp 13) = .slice (some ⟨g8, 0, none⟩) (n + 1) (n + 1) := h0
      have hki : (0 : Int) < (n : Int) + 1 := by omega
      go_simp
      exact ⟨Ext.refl _, rfl⟩
    · obtain ⟨h0, -⟩ := hs
      replace h0 : ρ (.tmp 14) = .pointer (some ⟨g8, 0, none⟩) := h0
      have hc0 : W.cell? ⟨g8, 0, none⟩ = some (.int .i64 (d1)) := hF.cell (by assumption)
      have hc1 : W.cell? ⟨g8, 1, none⟩ = some (.int .i64 (d2)) := hF.cell (by assumption)
      go_simp
      exact ⟨Ext.refl _, rfl⟩
    · obtain ⟨h0, -⟩ := hs
      replace h0 : ρ (.tmp 2) = .pointer (some ⟨w.heap.size, 0, none⟩) := h0
      go_simp
      exact ⟨Ext.refl _, rfl⟩
    · obtain ⟨h0, -⟩ := hs
      replace h0 : ρ (.tmp 16) = .pointer (some ⟨w.heap.size, 0, none⟩) := h0
      have hc0 : W.cell? ⟨w.heap.size, 0, none⟩ = some (.int .i64 (t)) := hF.cell (by assumption)
      go_simp
      exact ⟨Ext.refl _, rfl⟩
    · obtain ⟨h0, -⟩ := hs
      replace h0 : ρ (.tmp 2) = .pointer (some ⟨w.heap.size, 0, none⟩) := h0
      go_simp
      exact ⟨Ext.refl _, rfl⟩
    · obtain ⟨h0, -⟩ := hs
      replace h0 : ρ (.tmp 18) = .pointer (some ⟨w.heap.size, 0, none⟩) := h0
      have hc0 : W.cell? ⟨w.heap.size, 0, none⟩ = some (.int .i64 (t)) := hF.cell (by assumption)
      go_simp
      exact ⟨Ext.refl _, rfl⟩
    · obtain ⟨h0, h1, -⟩ := hs
      replace h0 : ρ (.tmp 17) = .int .i64 (t) := h0
      replace h1 : ρ (.tmp 19) = .int .i64 (t) := h1
      have hw : IntKind.i64.wrap (t * t) = T := HTT.out
      go_simp
      exact ⟨Ext.refl _, rfl⟩
    · obtain ⟨h0, h1, -⟩ := hs
      replace h0 : ρ (.tmp 15) = .agg #[.int .i64 (d1), .int .i64 (d2)] := h0
      replace h1 : ρ (.tmp 20) = .int .i64 (T) := h1
      go_simp
      exact (HSC.out W).mono fun _ _ ⟨h1, h2⟩ => ⟨_, h1, h2, rfl⟩
    · obtain ⟨h0, -⟩ := hs
      replace h0 : ρ (.tmp 6) = .slice (some ⟨g9, 0, none⟩) n n := h0
      go_simp
      exact ⟨Ext.refl _, rfl⟩
    · obtain ⟨h0, -⟩ := hs
      replace h0 : ρ (.tmp 22) = .slice (some ⟨g9, 0, none⟩) n n := h0
      have hki : 0 < n := by omega
      go_simp
      exact ⟨Ext.refl _, rfl⟩
    · obtain ⟨h0, -⟩ := hs
      replace h0 : ρ (.tmp 23) = .pointer (some ⟨g9, 0, none⟩) := h0
      have hc0 : W.cell? ⟨g9, 0, none⟩ = some (.int .i64 (e1)) := hF.cell (by assumption)
      have hc1 : W.cell? ⟨g9, 1, none⟩ = some (.int .i64 (e2)) := hF.cell (by assumption)
      go_simp
      exact ⟨Ext.refl _, rfl⟩
    · obtain ⟨h0, h1, -⟩ := hs
      replace h0 : ρ (.tmp 21) = .agg #[.int .i64 (T * d1), .int .i64 (T * d2)] := h0
      replace h1 : ρ (.tmp 24) = .agg #[.int .i64 (e1), .int .i64 (e2)] := h1
      go_simp
      exact (HRT.out W).mono fun _ _ ⟨h1, h2⟩ => ⟨_, h1, h2, rfl⟩
  · intro fv W2 hF hs
    obtain ⟨-, -, -, -, -, -, -, -, -, -, -, -, h25, -⟩ := hs
    replace h25 : fv 25 = .agg #[.int .i64 (a1), .int .i64 (a2), .int .i64 (a3), .int .i64 (a4)] := h25
    simp only [fin, List.filterMap]
    go_simp
    have B2 := (FB.out W1 X1.out).ext hF
    have f0 := B2.free 0
    have f1 := B2.free 1
    have f2 := B2.free 2
    have f3 := B2.free 3
    have c0 := B2.cell 0
    have c1 := B2.cell 1
    have c2 := B2.cell 2
    have c3 := B2.cell 3
    simp only [List.getElem?_toArray, List.getElem?_cons_zero, List.getElem?_cons_succ] at c0 c1 c2 c3
    have X2 := Lib.hid (E0.out.trans (X1.out.trans hF))
    clear hF z0 z1 z2 z3
    go_wp2
    exact bodyPost_ret (v := .agg #[.int .i64 a1, .int .i64 a2, .int .i64 a3, .int .i64 a4]) (by simp [results, Try.f55, go_sem, c0, c1, c2, c3]) rfl ⟨by rw [HRV.out], Ext.set (Ext.set (Ext.set (Ext.set X2.out (by dsimp only; omega) _) (by dsimp only; omega) _) (by dsimp only; omega) _) (by dsimp only; omega) _⟩

set_option maxRecDepth 100000 in
set_option maxHeartbeats 4000000 in
theorem refTransfer_any (t : Int) (A : Option Addr) (n cap : Nat) (ls : List Sh) (hn : ls.length = n) (f : Int) (B : Option Addr) (cap' : Nat) (hot : List Bool) (hm : hot.length = n) (p q : Int) (w : World)
    (hS : RowsAt 3 Sh.enc w A ls) (hH : RowsAt 1 boolEnc w B hot) (hok : ∀ s ∈ ls, shOK s) (hf : 1 ≤ f ∧ f ≤ 8) (h1 : 1 ≤ n) (hn4 : n ≤ 4) (hp : 0 ≤ p ∧ p ≤ (n : Int) - 1) (hq : 0 ≤ q ∧ q ≤ (n : Int) - 1) :
    Calls Try.prog 56 #[.agg #[.int .i64 t, .slice A n cap], .agg #[.int .i64 f, .slice B n cap'], .int .i64 p, .int .i64 q] w fun e w' => e = .returned (.agg (redV (timesG (grounded f hot ls (min p q).toNat) (volt f hot ls ((max p q).toNat + 1))) (volt f hot ls 0))) ∧ Ext w w' := by
  have e0 : Ext w (((w.alloc (.cells #[.int .i64 t, .slice A n cap] 24)).alloc (.cells #[.int .i64 f, .slice B n cap'] 27)).alloc (.cells #[.int .i64 0, .int .i64 0, .int .i64 0, .int .i64 0] 84)) := (Ext.alloc _ _).trans ((Ext.alloc _ _).trans (Ext.alloc _ _))
  have FA := Lib.hid (show ∀ W : World, Ext (((w.alloc (.cells #[.int .i64 t, .slice A n cap] 24)).alloc (.cells #[.int .i64 f, .slice B n cap'] 27)).alloc (.cells #[.int .i64 0, .int .i64 0, .int .i64 0, .int .i64 0] 84)) W →
      W.cell? ⟨w.heap.size, 0, none⟩ = some (.int .i64 t) ∧ W.cell? ⟨w.heap.size, 1, none⟩ = some (.slice A n cap) ∧ W.cell? ⟨w.heap.size + 1, 0, none⟩ = some (.int .i64 f) ∧ W.cell? ⟨w.heap.size + 1, 1, none⟩ = some (.slice B n cap') from
    fun W hx => ⟨hx.cell (by go_simp), hx.cell (by go_simp), hx.cell (by go_simp), hx.cell (by go_simp)⟩)
  have FB := Lib.hid (show ∀ W : World, Ext (((w.alloc (.cells #[.int .i64 t, .slice A n cap] 24)).alloc (.cells #[.int .i64 f, .slice B n cap'] 27)).alloc (.cells #[.int .i64 0, .int .i64 0, .int .i64 0, .int .i64 0] 84)) W → Blk W (w.heap.size + 1 + 1) 84 #[.int .i64 0, .int .i64 0, .int .i64 0, .int .i64 0] from
    fun W hx => (Blk.newAt _ _ _ (by simp)).ext hx)
  have H36 := Lib.hid (fun W (e : Ext w W) => solve_any t A n cap ls hn f B cap' hot hm W (hS.ext e) (hH.ext e) hok hf h1 hn4)
  have H113 := Lib.hid (fun W (e : Ext w W) => fromInput_any t A n cap ls hn f B cap' hot hm W (hS.ext e) (hH.ext e) hok hf h1 hn4)
  have E0 := Lib.hid e0
  obtain ⟨i, hi⟩ : ∃ i : Nat, i = (min p q).toNat := ⟨_, rfl⟩
  obtain ⟨j, hj⟩ : ∃ j : Nat, j = (max p q).toNat := ⟨_, rfl⟩
  rw [← hi, ← hj]
  have hin : i < n := by omega
  have hjn : j < n := by omega
  have hif : (if q < p then q else p) = (i : Int) := by split <;> omega
  have hjf : (if p < q then q else p) = (j : Int) := by split <;> omega
  have hnn := ne_of_norm (trans_ne hok hf (hot := hot) i j (by omega) (by omega))
  have hdn := ne_of_norm (volt0_ne hok hf (hot := hot) (by omega))
  have hv0 := volts_at f hot ls 0 (by omega)
  have hvv := volt_at f hot ls 0 (by omega)
  have hv1 := volts_at f hot ls (j + 1) (by omega)
  have hvv1 := volt_at f hot ls (j + 1) (by omega)
  have hvb := (st_small (hot := hot) hok hf (by omega) 0).1
  have hvb1 := (st_small (hot := hot) hok hf (by omega) (j + 1)).1
  have hgb := (gfold_small (hot := hot) hok hf (by omega) (i + 1) (by omega)).1
  have hfl : (fromL f hot ls)[i]? = some (negG (grounded f hot ls i)) := fromL_at f hot ls i (by omega)
  change Bd 300000000 (grounded f hot ls i) at hgb
  rw [← hvv] at hv0 hvb
  rw [← hvv1] at hv1 hvb1
  generalize volt f hot ls 0 = vz at *
  generalize volt f hot ls (j + 1) = v1z at *
  generalize grounded f hot ls i = gz at *
  obtain ⟨d1, d2⟩ := vz
  obtain ⟨v1, v2⟩ := v1z
  obtain ⟨g1, g2⟩ := gz
  simp only [Bd] at hvb hvb1 hgb
  simp only [negG] at hfl
  dsimp only at hdn
  have q1 := prod_bd (B := 300000000) (x := -g1) (y := v1) (by omega) hvb1.1
  have q2 := prod_bd (B := 300000000) (x := -g2) (y := v2) (by omega) hvb1.2
  have q3 := prod_bd (B := 300000000) (x := -g1) (y := v2) (by omega) hvb1.2
  have q4 := prod_bd (B := 300000000) (x := -g2) (y := v1) (by omega) hvb1.1
  obtain ⟨p1, hp1⟩ : ∃ p, p = -g1 * v1 - -g2 * v2 := ⟨_, rfl⟩
  obtain ⟨p2, hp2⟩ : ∃ p, p = -g1 * v2 + -g2 * v1 := ⟨_, rfl⟩
  have HGM := Lib.hid (fun W => gmul_any (-g1) (-g2) v1 v2 (by unfold Big; omega) (by unfold Big; omega) (by unfold Big; omega) (by unfold Big; omega) W)
  rw [← hp1, ← hp2] at HGM
  obtain ⟨n1, hn1⟩ : ∃ p, p = -1 * p1 := ⟨_, rfl⟩
  obtain ⟨n2, hn2⟩ : ∃ p, p = -1 * p2 := ⟨_, rfl⟩
  have HSC := Lib.hid (fun W => scaled_neg p1 p2 (by unfold Big; omega) (by unfold Big; omega) W)
  rw [← hn1, ← hn2] at HSC
  have htg : timesG ⟨g1, g2⟩ ⟨v1, v2⟩ = ⟨n1, n2⟩ := by
    simp only [timesG]
    have k1 : -g1 * v1 = -(g1 * v1) := Int.neg_mul _ _
    have k2 : -g2 * v2 = -(g2 * v2) := Int.neg_mul _ _
    have k3 : -g1 * v2 = -(g1 * v2) := Int.neg_mul _ _
    have k4 : -g2 * v1 = -(g2 * v1) := Int.neg_mul _ _
    rw [hn1, hn2, hp1, hp2, k1, k2, k3, k4]
    congr 1 <;> omega
  rw [htg] at hnn ⊢
  dsimp only at hnn
  have HRT := Lib.hid (fun W => refRatio_any n1 n2 d1 d2 (by unfold Big; omega) (by unfold Big; omega) (by unfold Big; omega) (by unfold Big; omega) hdn hnn W)
  obtain ⟨a1, a2, a3, a4, hrv⟩ : ∃ a1 a2 a3 a4, redV ⟨n1, n2⟩ ⟨d1, d2⟩ = #[.int .i64 a1, .int .i64 a2, .int .i64 a3, .int .i64 a4] := ⟨_, _, _, _, rfl⟩
  rw [hrv] at HRT
  have HRV := Lib.hid hrv
  have HV0 := Lib.hid hv0
  have HV1 := Lib.hid hv1
  have HFL := Lib.hid hfl
  clear hS hH hok hf hn hm e0 hnn hdn hv0 hv1 hvv hvv1 hvb hvb1 hgb hfl q1 q2 q3 q4 hp1 hp2 hn1 hn2 htg hrv hi hj
  have hii : (i : Int) < (n : Int) := by omega
  have hjj : (j : Int) < (n : Int) := by omega
  go_enter Try.func56, Try.ntmps56
  go_wp2_with (first
    | (go_at_call 36; refine (H36.out _ E0.out).mono ?_; rintro e W1 ⟨g8, g9, rfl, hr8, hr9, hx1⟩; have X1 := Lib.hid hx1; have HR8 := Lib.hid hr8; clear hx1 hr8 hr9; obtain ⟨z0, z1, z2, z3⟩ := FA.out _ X1.out)
    | (go_at_call 113; refine (H113.out _ (E0.out.trans X1.out)).mono ?_; rintro e W2 ⟨gf, cf, rfl, hrf, hx2⟩; have X2 := Lib.hid (X1.out.trans hx2); obtain ⟨x0, x1⟩ := row_g hrf i _ HFL.out; obtain ⟨x2, x3⟩ := row_g (HR8.out.ext hx2) (j + 1) _ HV1.out; obtain ⟨x4, x5⟩ := row_g (HR8.out.ext hx2) 0 _ HV0.out; have x6 := (Ext.alloc W2 (.cells #[.int .i64 (-g1), .int .i64 (-g2)] 65)).cell x2; have x7 := (Ext.alloc W2 (.cells #[.int .i64 (-g1), .int .i64 (-g2)] 65)).cell x3; clear z0 z1 z2 z3 hrf hx2))
  have X3 := Lib.hid (show Ext (((w.alloc (.cells #[.int .i64 t, .slice A n cap] 24)).alloc (.cells #[.int .i64 f, .slice B n cap'] 27)).alloc (.cells #[.int .i64 0, .int .i64 0, .int .i64 0, .int .i64 0] 84)) ((W2.alloc (.cells #[.int .i64 (-g1), .int .i64 (-g2)] 65)).alloc (.cells #[.int .i64 v1, .int .i64 v2] 65)) from X2.out.trans ((Ext.alloc _ _).trans (Ext.alloc _ _)))
  have y0 := ((Ext.alloc W2 (.cells #[.int .i64 (-g1), .int .i64 (-g2)] 65)).trans (Ext.alloc _ (.cells #[.int .i64 v1, .int .i64 v2] 65))).cell x4
  have y1 := ((Ext.alloc W2 (.cells #[.int .i64 (-g1), .int .i64 (-g2)] 65)).trans (Ext.alloc _ (.cells #[.int .i64 v1, .int .i64 v2] 65))).cell x5
  simp only [Nat.zero_mul, Nat.zero_add] at y0 y1
  have b11 : Blk ((W2.alloc (.cells #[.int .i64 (-g1), .int .i64 (-g2)] 65)).alloc (.cells #[.int .i64 v1, .int .i64 v2] 65)) W2.heap.size 65 #[.int .i64 (-g1), .int .i64 (-g2)] := (Blk.newAt _ _ _ rfl).alloc _
  have b12 : Blk ((W2.alloc (.cells #[.int .i64 (-g1), .int .i64 (-g2)] 65)).alloc (.cells #[.int .i64 v1, .int .i64 v2] 65)) (W2.heap.size + 1) 65 #[.int .i64 v1, .int .i64 v2] := Blk.newAt _ _ _ (by simp)
  clear x0 x1 x2 x3 x4 x5 x6 x7
  generalize ((W2.alloc (.cells #[.int .i64 (-g1), .int .i64 (-g2)] 65)).alloc (.cells #[.int .i64 v1, .int .i64 v2] 65)) = W3 at *
  generalize W2.heap.size + 1 = q12 at *
  generalize W2.heap.size = q11 at *
  obtain ⟨z0, z1, z2, z3⟩ := FA.out _ X3.out
  have x0 : W3.cell? ⟨q11, 0, none⟩ = some (.int .i64 (-g1)) := b11.cell 0
  have x1 : W3.cell? ⟨q11, 1, none⟩ = some (.int .i64 (-g2)) := b11.cell 1
  have x2 : W3.cell? ⟨q12, 0, none⟩ = some (.int .i64 v1) := b12.cell 0
  have x3 : W3.cell? ⟨q12, 1, none⟩ = some (.int .i64 v2) := b12.cell 1
  refine wp_region_part 8 [some 34, some 35, some 36, some 37, some 38, some 39, some 40, some 41] [[11], [12], [34, 35], [36], [9], [38], [39], [37, 40]]
    [Is (.agg #[.int .i64 (-g1), .int .i64 (-g2)]), Is (.agg #[.int .i64 (v1), .int .i64 (v2)]), Is (.agg #[.int .i64 (p1), .int .i64 (p2)]), Is (.agg #[.int .i64 (n1), .int .i64 (n2)]), Is (.slice (some ⟨g8, 0, none⟩) (n + 1) (n + 1)), Is (.pointer (some ⟨g8, 0, none⟩)), Is (.agg #[.int .i64 (d1), .int .i64 (d2)]), Is (.agg #[.int .i64 (a1), .int .i64 (a2), .int .i64 (a3), .int .i64 (a4)])]
    (by kernel_rfl) (by kernel_rfl) (by kernel_rfl) (by kernel_rfl) (by kernel_rfl) (by kernel_rfl) (by kernel_rfl) Ext (fun W => Ext W3 W)
    (fun W _ => Ext.refl W) (fun W W' h k => h.trans k) ?_ (Ext.drew _) ?_ ?_
  · repeat (refine ⟨fun _ _ _ _ k h => (by first | exact h | exact (by first | exact LadV.ext h k | exact DrvV.ext h k | exact TupV.ext (fun _ _ _ h k => by first | exact Opt.ext (fun _ _ _ h k => by first | exact IntsAt.ext h k | exact GsV.ext h k) h k | exact IntsAt.ext h k) h k | exact Opt.ext (fun _ _ _ h k => by first | exact IntsAt.ext h k | exact GsV.ext h k) h k | exact IntsAt.ext h k)), ?_⟩)
    exact trivial
  · refine ⟨?_, ?_, ?_, ?_, ?_, ?_, ?_, ?_, trivial⟩
    all_goals intro ρ W ⟨kc, kg, kf⟩ hF hs
    · obtain ⟨h0, -⟩ := hs
      replace h0 : ρ (.tmp 11) = .pointer (some ⟨q11, 0, none⟩) := h0
      have hc0 : W.cell? ⟨q11, 0, none⟩ = some (.int .i64 (-g1)) := hF.cell (by assumption)
      have hc1 : W.cell? ⟨q11, 1, none⟩ = some (.int .i64 (-g2)) := hF.cell (by assumption)
      go_simp
      exact ⟨Ext.refl _, rfl⟩
    · obtain ⟨h0, -⟩ := hs
      replace h0 : ρ (.tmp 12) = .pointer (some ⟨q12, 0, none⟩) := h0
      have hc0 : W.cell? ⟨q12, 0, none⟩ = some (.int .i64 (v1)) := hF.cell (by assumption)
      have hc1 : W.cell? ⟨q12, 1, none⟩ = some (.int .i64 (v2)) := hF.cell (by assumption)
      go_simp
      exact ⟨Ext.refl _, rfl⟩
    · obtain ⟨h0, h1, -⟩ := hs
      replace h0 : ρ (.tmp 34) = .agg #[.int .i64 (-g1), .int .i64 (-g2)] := h0
      replace h1 : ρ (.tmp 35) = .agg #[.int .i64 (v1), .int .i64 (v2)] := h1
      go_simp
      exact (HGM.out W).mono fun _ _ ⟨h1, h2⟩ => ⟨_, h1, h2, rfl⟩
    · obtain ⟨h0, -⟩ := hs
      replace h0 : ρ (.tmp 36) = .agg #[.int .i64 (p1), .int .i64 (p2)] := h0
      go_simp
      exact (HSC.out W).mono fun _ _ ⟨h1, h2⟩ => ⟨_, h1, h2, rfl⟩
    · obtain ⟨h0, -⟩ := hs
      replace h0 : ρ (.tmp 9) = .slice (some ⟨g8, 0, none⟩) (n + 1) (n + 1) := h0
      go_simp
      exact ⟨Ext.refl _, rfl⟩
    · obtain ⟨h0, -⟩ := hs
      replace h0 : ρ (.tmp 38) = .slice (some ⟨g8, 0, none⟩) (n + 1) (n + 1) := h0
      have hki : (0 : Int) < (n : Int) + 1 := by omega
      go_simp
      exact ⟨Ext.refl _, rfl⟩
    · obtain ⟨h0, -⟩ := hs
      replace h0 : ρ (.tmp 39) = .pointer (some ⟨g8, 0, none⟩) := h0
      have hc0 : W.cell? ⟨g8, 0, none⟩ = some (.int .i64 (d1)) := hF.cell (by assumption)
      have hc1 : W.cell? ⟨g8, 1, none⟩ = some (.int .i64 (d2)) := hF.cell (by assumption)
      go_simp
      exact ⟨Ext.refl _, rfl⟩
    · obtain ⟨h0, h1, -⟩ := hs
      replace h0 : ρ (.tmp 37) = .agg #[.int .i64 (n1), .int .i64 (n2)] := h0
      replace h1 : ρ (.tmp 40) = .agg #[.int .i64 (d1), .int .i64 (d2)] := h1
      go_simp
      exact (HRT.out W).mono fun _ _ ⟨h1, h2⟩ => ⟨_, h1, h2, rfl⟩
  · intro fv W4 hF hs
    obtain ⟨-, -, -, -, -, -, -, h41, -⟩ := hs
    replace h41 : fv 41 = .agg #[.int .i64 (a1), .int .i64 (a2), .int .i64 (a3), .int .i64 (a4)] := h41
    simp only [fin, List.filterMap]
    go_simp
    have B2 := (FB.out W3 X3.out).ext hF
    have f0 := B2.free 0
    have f1 := B2.free 1
    have f2 := B2.free 2
    have f3 := B2.free 3
    have c0 := B2.cell 0
    have c1 := B2.cell 1
    have c2 := B2.cell 2
    have c3 := B2.cell 3
    simp only [List.getElem?_toArray, List.getElem?_cons_zero, List.getElem?_cons_succ] at c0 c1 c2 c3
    have X2 := Lib.hid (E0.out.trans (X3.out.trans hF))
    clear hF z0 z1 z2 z3
    go_wp2
    exact bodyPost_ret (v := .agg #[.int .i64 a1, .int .i64 a2, .int .i64 a3, .int .i64 a4]) (by simp [results, Try.f56, go_sem, c0, c1, c2, c3]) rfl ⟨by rw [HRV.out], Ext.set (Ext.set (Ext.set (Ext.set X2.out (by dsimp only; omega) _) (by dsimp only; omega) _) (by dsimp only; omega) _) (by dsimp only; omega) _⟩

end Go.Proofs.Ytpaoeghdfeekoaa
