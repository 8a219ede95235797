/- ConvertedTraverse. -/
import Derived.Test.YtmddnpagfgilcaaG13
import Derived.Lib.MinMax
import Derived.Deep.DeepCutAuto

namespace Go.Proofs.Ytmddnpagfgilcaa
open Go.RowKit Go.Shelf Go.Mem Go.RegInv
attribute [local go_sem] RelUpon_value RelUpon_skip RelUpon_enter BigFrame.eval_const BigFrame.eval_global BigFrame.eval_func

theorem append_in {W : World} {base k c : Nat} {R : Option Addr} {xs : List Value} (hown : W.ownsRow base 43 4 (.slice R k c) k xs) (hk : k ≤ 100) (hbase : base ≤ W.heap.size) {b : Nat} {x : In} (hb : Blk W b 43 #[.int .i64 x.d, .int .i64 x.g, .int .i64 x.lo, .int .i64 x.hi])
    {o : Oper} {ops : Array Oper} {rest : List Oper} {a : Act} {Q : Exit → Act → World → Prop} (hg : o.guard = none) (p q : Operand) (hop : o.op = .call { callee := .builtin .append, args := #[p, q], argTypes := #[22, 22] }) (_hty : o.type = 22) (he6 : a.eval p = .slice R k c) (he8 : a.eval q = .slice (some ⟨b, 0, none⟩) 1 1)
    (hK : ∀ R' c' w', w'.ownsRow base 43 4 (.slice R' (k + 1) c') (k + 1) (xs ++ (In.enc x)) → (∀ b' t' cs, Blk W b' t' cs → t' ≠ 43 → Blk w' b' t' cs) → (∀ w0, Ext w0 W → w0.heap.size ≤ base → Ext w0 w') → W.heap.size ≤ w'.heap.size → wpList Try.prog ops Q rest (a.put o.dst (.slice R' (k + 1) c')) w') : wpList Try.prog ops Q (o :: rest) a W := by
  obtain ⟨i0, hi, hz0, hz1, hz2⟩ := info_parts info43G
  refine wpList_append_own _ hg _ _ 22 hop base 43 i0 (.agg #[.int .i64 0, .int .i64 0, .int .i64 0, .int .i64 0]) 4 32 Try.underlying22 hi hz0 hz1 hz2 rfl (by decide) _ _ _ he6 hown ⟨b, 0, none⟩ 1 1 (In.enc x) he8 rfl (fun j u hu => ?_) (In_one x) (by unfold maxLen; omega) (by omega) hbase ?_
  · have := hb.cell j
    rw [WideShapes.add_plain, show 0 + j = j by omega, this]
    match j, hu with
    | 0, hu => exact hu
    | 1, hu => exact hu
    | 2, hu => exact hu
    | 3, hu => exact hu
    | j + 4, hu => simp [In.enc] at hu
  · intro v' w1 hown' hgrow hx
    obtain ⟨A', c', hv'⟩ := own_slice hown'
    subst hv'
    exact hK _ _ _ hown' (fun g t' cs k ht => (hgrow.block _ k.lt (own_notBlk hown k ht)).trans k) (fun w0 e hw => Ext.grownBy e hgrow (fun g hg => by have := own_base hown hg; omega)) (by first | exact hgrow.size | exact hx.1 | omega)

theorem miss_zero {f0 f1 a b : Int} (h : missE f0 f1 a b = 0) : (f0 ≤ a ∧ a ≤ f1) ∧ (f0 ≤ b ∧ b ≤ f1) := by
  unfold missE at h
  have hr : rangeE f0 f1 [a, b] = 0 := by
    by_cases hh : rangeE f0 f1 [a, b] = 0
    · exact hh
    · simp [errIf, hh] at h
  have := rangeE_zeros hr
  exact ⟨this a (by simp), this b (by simp)⟩

set_option maxRecDepth 100000 in
set_option maxHeartbeats 8000000 in
theorem convT_bad {A B : Option Addr} {n m ca cb : Nat} {ks : List Kn} {xs : List In} {w : World} (hn : ks.length = n) (hm : xs.length = m) (hA : RowsAt 3 Kn.enc w A ks) (hB : RowsAt 4 In.enc w B xs) (hz : firstE [(checkX ks).2, (checkT xs).2] ≠ 0) : Calls Try.prog 42 #[.agg #[.slice A n ca], .agg #[.slice B m cb]] w fun e w' => e = .returned (.tuple #[.agg #[.slice none 0 0], .int .i64 0, .int .i64 (firstE [(checkX ks).2, (checkT xs).2])]) ∧ Ext w w' := by
  have HTB := Lib.hid (fun W (e : Ext w W) => tableError_any (ca := ca) hn (hA.ext e))
  have HTR := Lib.hid (fun W (e : Ext w W) => traverseError_any (ca := cb) hm (hB.ext e))
  clear hn hm hA hB
  generalize (checkX ks).2 = z1 at *
  generalize (checkT xs).2 = z2 at *
  have HZ := Lib.hid (show True from trivial)
  generalize hE : firstE [z1, z2] = ez at *
  have HE := Lib.hid hE
  have hz2 : (ez != 0) = true := by simp [hz]
  clear hE hz
  obtain ⟨W0, hW0⟩ : ∃ W0, W0 = ((w.alloc (.cells #[.slice A n ca] 64)).alloc (.cells #[.slice B m cb] 24)).alloc (.cells #[.slice none 0 0] 24) := ⟨_, rfl⟩
  have K0 := Lib.hid (show Blk W0 w.heap.size 64 #[.slice A n ca] by rw [hW0]; exact ((Blk.new _ _ _).alloc _).alloc _)
  have K1 := Lib.hid (show Blk W0 (w.heap.size + 1) 24 #[.slice B m cb] by rw [hW0]; exact (Blk.newAt _ _ _ (by simp)).alloc _)
  have K2 := Lib.hid (show Blk W0 (w.heap.size + 1 + 1) 24 #[.slice none 0 0] by rw [hW0]; exact Blk.newAt _ _ _ (by simp))
  have E0 := Lib.hid (show Ext w W0 by rw [hW0]; exact ((Ext.alloc _ _).trans (Ext.alloc _ _)).trans (Ext.alloc _ _))
  have y0 : W0.cell? ⟨w.heap.size, 0, none⟩ = some (.slice A n ca) := K0.out.cell 0
  have y1 : W0.cell? ⟨w.heap.size + 1, 0, none⟩ = some (.slice B m cb) := K1.out.cell 0
  go_enter Try.func42, Try.ntmps42
  go_wp2
  rw [← hW0]
  clear hW0
  go_wp2
  refine wp_region_each [some 13, some 14, some 15, some 16, some 17, some 18, some 7] [[2], [13], [3], [15], [14, 16], [17], [18]]
    [Is (.agg #[.slice A n ca]), Is (.int .i64 (z1)), Is (.agg #[.slice B m cb]), Is (.int .i64 (z2)), Ints [z1, z2], Is (.int .i64 (ez)), Is (.int .i64 (ez))]
    (by kernel_rfl) (by kernel_rfl) (by kernel_rfl) (by kernel_rfl) (by kernel_rfl) Ext (fun W => Ext W0 W)
    (fun W _ => Ext.refl W) (fun W W' h k => h.trans k) ?_ (Ext.drew _) ?_ ?_
  · repeat (refine ⟨fun _ _ _ _ k h => (by first | exact h | exact (IntsAt.ext h k)), ?_⟩)
    exact trivial
  · refine ⟨?_, ?_, ?_, ?_, ?_, ?_, ?_, trivial⟩
    all_goals intro ρ W ⟨kc, kg, kf⟩ hF hs
    · obtain ⟨h0, -⟩ := hs
      replace h0 : ρ (.tmp 2) = .pointer (some ⟨w.heap.size, 0, none⟩) := h0
      have hc0 : W.cell? ⟨w.heap.size, 0, none⟩ = some (.slice A n ca) := hF.cell (by assumption)
      go_simp
      exact ⟨Ext.refl _, rfl⟩
    · obtain ⟨h0, -⟩ := hs
      replace h0 : ρ (.tmp 13) = .agg #[.slice A n ca] := h0
      go_simp
      refine (HTB.out _ (E0.out.trans hF)).mono ?_; rintro e w' ⟨rfl, hx⟩; exact ⟨_, rfl, hx, rfl⟩
    · obtain ⟨h0, -⟩ := hs
      replace h0 : ρ (.tmp 3) = .pointer (some ⟨w.heap.size + 1, 0, none⟩) := h0
      have hc0 : W.cell? ⟨w.heap.size + 1, 0, none⟩ = some (.slice B m cb) := hF.cell (by assumption)
      go_simp
      exact ⟨Ext.refl _, rfl⟩
    · obtain ⟨h0, -⟩ := hs
      replace h0 : ρ (.tmp 15) = .agg #[.slice B m cb] := h0
      go_simp
      refine (HTR.out _ (E0.out.trans hF)).mono ?_; rintro e w' ⟨rfl, hx⟩; exact ⟨_, rfl, hx, rfl⟩
    · obtain ⟨h0, h1, -⟩ := hs
      replace h0 : ρ (.tmp 14) = .int .i64 (z1) := h0
      replace h1 : ρ (.tmp 16) = .int .i64 (z2) := h1
      go_simp
      exact ⟨Ext.alloc _ _, ints_new _ [z1, z2] _ (by simp)⟩
    · obtain ⟨h0, -⟩ := hs
      replace h0 : (Ints [z1, z2]) (ρ (.tmp 17)) W := h0
      have hz := HZ.out
      go_simp
      refine (firstOf_any _ _ _ h0).mono ?_; rintro e w' ⟨rfl, rfl⟩; exact ⟨_, rfl, Ext.refl _, by rw [HE.out]; rfl⟩
    · obtain ⟨h0, -⟩ := hs
      replace h0 : ρ (.tmp 18) = .int .i64 (ez) := h0
      go_simp
      exact ⟨Ext.refl _, rfl⟩
  · intro fv W1 hF hs
    obtain ⟨-, -, -, -, -, -, h7, -⟩ := hs
    replace h7 : fv 7 = .int .i64 (ez) := h7
    simp only [fin, List.filterMap]
    go_simp
    have X := Lib.hid (E0.out.trans hF)
    have K0 := Lib.hid (K0.out.ext hF)
    have K1 := Lib.hid (K1.out.ext hF)
    have K2 := Lib.hid (K2.out.ext hF)
    have XW := Lib.hid hF
    clear hF y0 y1 h7
    have f0 := K2.out.free 0
    have c0 : W1.cell? ⟨w.heap.size + 1 + 1, 0, none⟩ = some (.slice none 0 0) := K2.out.cell 0
    clear K0 K1 K2 XW
    go_wp2
    exact bodyPost_ret (v := .tuple #[.agg #[.slice none 0 0], .int .i64 0, .int .i64 ez]) (by simp [results, Try.f42, go_sem, c0]) rfl ⟨rfl, Ext.set X.out (by dsimp only; omega) _⟩

set_option maxRecDepth 100000 in
set_option maxHeartbeats 8000000 in
theorem convT_miss {A B : Option Addr} {n m ca cb : Nat} {ks : List Kn} {xs : List In} {w : World} (hn : ks.length = n) (hm : xs.length = m) (hA : RowsAt 3 Kn.enc w A ks) (hB : RowsAt 4 In.enc w B xs) (hz : (checkX ks).2 = 0) (hy : (checkT xs).2 = 0) (hf : (firstAt (missAt ks xs) m 0).2 ≠ 0) : Calls Try.prog 42 #[.agg #[.slice A n ca], .agg #[.slice B m cb]] w fun e w' => e = .returned (.tuple #[.agg #[.slice none 0 0], .int .i64 (firstAt (missAt ks xs) m 0).1, .int .i64 (firstAt (missAt ks xs) m 0).2]) ∧ Ext w w' := by
  obtain ⟨n2, n12, -, -⟩ := checkX_ok hz
  obtain ⟨m2, m20, -⟩ := checkT_ok hy
  rw [hn] at n2 n12
  rw [hm] at m2 m20
  have HTB := Lib.hid (fun W (e : Ext w W) => show Calls Try.prog 92 #[.agg #[.slice A n ca]] W fun e w' => e = .returned (.int .i64 0) ∧ Ext W w' from by
    have := tableError_any (ca := ca) hn (hA.ext e)
    rw [hz] at this
    exact this)
  have HTR := Lib.hid (fun W (e : Ext w W) => show Calls Try.prog 83 #[.agg #[.slice B m cb]] W fun e w' => e = .returned (.int .i64 0) ∧ Ext W w' from by
    have := traverseError_any (ca := cb) hm (hB.ext e)
    rw [hy] at this
    exact this)
  have HE := Lib.hid (show firstE [0, 0] = 0 from rfl)
  have HFE := Lib.hid (fun W (e : Ext w W) (k : Blk W w.heap.size 64 #[.slice A n ca]) => firstError98_any (ca := cb) (E := missAt ks xs) (cp := #[.pointer (some ⟨w.heap.size, 0, none⟩)]) hm (hB.ext e) (fun i x W2 hx e2 => by
    have := clos98_any (x := x) (i : Int) hn n2 (hA.ext (e.trans e2)) ((k.ext e2).cell 0)
    rw [show missE (ks.getD 0 default).f (ks.getD (ks.length - 1) default).f x.lo x.hi = missAt ks xs i by unfold missAt; rw [show xs.getD i default = x by rw [List.getD_eq_getElem?_getD, hx]; rfl]] at this
    exact this))
  clear hn hm hA hB hz hy
  generalize firstAt (missAt ks xs) m 0 = fa at *
  have hf2 : (fa.2 != 0) = true := by simp [hf]
  clear hf
  obtain ⟨W0, hW0⟩ : ∃ W0, W0 = ((w.alloc (.cells #[.slice A n ca] 64)).alloc (.cells #[.slice B m cb] 24)).alloc (.cells #[.slice none 0 0] 24) := ⟨_, rfl⟩
  have K0 := Lib.hid (show Blk W0 w.heap.size 64 #[.slice A n ca] by rw [hW0]; exact ((Blk.new _ _ _).alloc _).alloc _)
  have K1 := Lib.hid (show Blk W0 (w.heap.size + 1) 24 #[.slice B m cb] by rw [hW0]; exact (Blk.newAt _ _ _ (by simp)).alloc _)
  have K2 := Lib.hid (show Blk W0 (w.heap.size + 1 + 1) 24 #[.slice none 0 0] by rw [hW0]; exact Blk.newAt _ _ _ (by simp))
  have E0 := Lib.hid (show Ext w W0 by rw [hW0]; exact ((Ext.alloc _ _).trans (Ext.alloc _ _)).trans (Ext.alloc _ _))
  have y0 : W0.cell? ⟨w.heap.size, 0, none⟩ = some (.slice A n ca) := K0.out.cell 0
  have y1 : W0.cell? ⟨w.heap.size + 1, 0, none⟩ = some (.slice B m cb) := K1.out.cell 0
  go_enter Try.func42, Try.ntmps42
  go_wp2
  rw [← hW0]
  clear hW0
  go_wp2
  refine wp_region_each [some 13, some 14, some 15, some 16, some 17, some 18, some 7] [[2], [13], [3], [15], [14, 16], [17], [18]]
    [Is (.agg #[.slice A n ca]), Is (.int .i64 (0)), Is (.agg #[.slice B m cb]), Is (.int .i64 (0)), Ints [0, 0], Is (.int .i64 (0)), Is (.int .i64 (0))]
    (by kernel_rfl) (by kernel_rfl) (by kernel_rfl) (by kernel_rfl) (by kernel_rfl) Ext (fun W => Ext W0 W)
    (fun W _ => Ext.refl W) (fun W W' h k => h.trans k) ?_ (Ext.drew _) ?_ ?_
  · repeat (refine ⟨fun _ _ _ _ k h => (by first | exact h | exact (IntsAt.ext h k)), ?_⟩)
    exact trivial
  · refine ⟨?_, ?_, ?_, ?_, ?_, ?_, ?_, trivial⟩
    all_goals intro ρ W ⟨kc, kg, kf⟩ hF hs
    · obtain ⟨h0, -⟩ := hs
      replace h0 : ρ (.tmp 2) = .pointer (some ⟨w.heap.size, 0, none⟩) := h0
      have hc0 : W.cell? ⟨w.heap.size, 0, none⟩ = some (.slice A n ca) := hF.cell (by assumption)
      go_simp
      exact ⟨Ext.refl _, rfl⟩
    · obtain ⟨h0, -⟩ := hs
      replace h0 : ρ (.tmp 13) = .agg #[.slice A n ca] := h0
      go_simp
      refine (HTB.out _ (E0.out.trans hF)).mono ?_; rintro e w' ⟨rfl, hx⟩; exact ⟨_, rfl, hx, rfl⟩
    · obtain ⟨h0, -⟩ := hs
      replace h0 : ρ (.tmp 3) = .pointer (some ⟨w.heap.size + 1, 0, none⟩) := h0
      have hc0 : W.cell? ⟨w.heap.size + 1, 0, none⟩ = some (.slice B m cb) := hF.cell (by assumption)
      go_simp
      exact ⟨Ext.refl _, rfl⟩
    · obtain ⟨h0, -⟩ := hs
      replace h0 : ρ (.tmp 15) = .agg #[.slice B m cb] := h0
      go_simp
      refine (HTR.out _ (E0.out.trans hF)).mono ?_; rintro e w' ⟨rfl, hx⟩; exact ⟨_, rfl, hx, rfl⟩
    · obtain ⟨h0, h1, -⟩ := hs
      replace h0 : ρ (.tmp 14) = .int .i64 (0) := h0
      replace h1 : ρ (.tmp 16) = .int .i64 (0) := h1
      go_simp
      exact ⟨Ext.alloc _ _, ints_new _ [0, 0] _ (by simp)⟩
    · obtain ⟨h0, -⟩ := hs
      replace h0 : (Ints [0, 0]) (ρ (.tmp 17)) W := h0
      have hz := HE.out
      go_simp
      refine (firstOf_any _ _ _ h0).mono ?_; rintro e w' ⟨rfl, rfl⟩; exact ⟨_, rfl, Ext.refl _, rfl⟩
    · obtain ⟨h0, -⟩ := hs
      replace h0 : ρ (.tmp 18) = .int .i64 (0) := h0
      go_simp
      exact ⟨Ext.refl _, rfl⟩
  · intro fv W1 hF hs
    obtain ⟨-, -, -, -, -, -, h7, -⟩ := hs
    replace h7 : fv 7 = .int .i64 (0) := h7
    simp only [fin, List.filterMap]
    go_simp
    have X := Lib.hid (E0.out.trans hF)
    have K0 := Lib.hid (K0.out.ext hF)
    have K1 := Lib.hid (K1.out.ext hF)
    have K2 := Lib.hid (K2.out.ext hF)
    have XW := Lib.hid hF
    clear hF y0 y1 h7
    have y0 : W1.cell? ⟨w.heap.size, 0, none⟩ = some (.slice A n ca) := K0.out.cell 0
    have y1 : W1.cell? ⟨w.heap.size + 1, 0, none⟩ = some (.slice B m cb) := K1.out.cell 0
    go_wp2_with (go_at_call 76; refine (HFE.out _ X.out K0.out).mono ?_; rintro e W2 ⟨rfl, hx⟩; have X := Lib.hid (X.out.trans hx); have K0 := Lib.hid (K0.out.ext hx); have K1 := Lib.hid (K1.out.ext hx); have K2 := Lib.hid (K2.out.ext hx); clear hx y0 y1; refine Hid.out ?_)
    refine Lib.hid ?_
    have f0 := K2.out.free 0
    have c0 : W2.cell? ⟨w.heap.size + 1 + 1, 0, none⟩ = some (.slice none 0 0) := K2.out.cell 0
    clear K0 K1 K2 XW
    go_wp2
    exact bodyPost_ret (v := .tuple #[.agg #[.slice none 0 0], .int .i64 fa.1, .int .i64 fa.2]) (by simp [results, Try.f42, go_sem, c0]) rfl ⟨rfl, Ext.set X.out (by dsimp only; omega) _⟩

theorem cv_step {ks : List Kn} {xs : List In} {k : Nat} {x : In} (hx : xs[k]? = some x) : ((xs.take (k + 1)).map (cvI ks)).flatMap In.enc = ((xs.take k).map (cvI ks)).flatMap In.enc ++ In.enc (cvI ks x) := by
  rw [List.take_add_one, hx, List.map_append, List.flatMap_append]
  simp
set_option maxRecDepth 100000 in
set_option maxHeartbeats 8000000 in
theorem convT_ok {A B : Option Addr} {n m ca cb : Nat} {ks : List Kn} {xs : List In} {w : World} (hn : ks.length = n) (hm : xs.length = m) (hA : RowsAt 3 Kn.enc w A ks) (hB : RowsAt 4 In.enc w B xs) (hz : (checkX ks).2 = 0) (hy : (checkT xs).2 = 0) (hf : (firstAt (missAt ks xs) m 0).2 = 0) : Calls Try.prog 42 #[.agg #[.slice A n ca], .agg #[.slice B m cb]] w fun e w' => ∃ A' c', e = .returned (.tuple #[.agg #[.slice A' m c'], .int .i64 0, .int .i64 0]) ∧ RowsAt 4 In.enc w' A' (xs.map (cvI ks)) ∧ Ext w w' := by
  obtain ⟨n2, n12, -, -⟩ := checkX_ok hz
  obtain ⟨m2, m20, -⟩ := checkT_ok hy
  rw [hn] at n2 n12
  rw [hm] at m2 m20
  have HTB := Lib.hid (fun W (e : Ext w W) => show Calls Try.prog 92 #[.agg #[.slice A n ca]] W fun e w' => e = .returned (.int .i64 0) ∧ Ext W w' from by
    have := tableError_any (ca := ca) hn (hA.ext e)
    rw [hz] at this
    exact this)
  have HTR := Lib.hid (fun W (e : Ext w W) => show Calls Try.prog 83 #[.agg #[.slice B m cb]] W fun e w' => e = .returned (.int .i64 0) ∧ Ext W w' from by
    have := traverseError_any (ca := cb) hm (hB.ext e)
    rw [hy] at this
    exact this)
  have HE := Lib.hid (show firstE [0, 0] = 0 from rfl)
  have HFE := Lib.hid (fun W (e : Ext w W) (k : Blk W w.heap.size 64 #[.slice A n ca]) => firstError98_any (ca := cb) (E := missAt ks xs) (cp := #[.pointer (some ⟨w.heap.size, 0, none⟩)]) hm (hB.ext e) (fun i x W2 hx e2 => by
    have := clos98_any (x := x) (i : Int) hn n2 (hA.ext (e.trans e2)) ((k.ext e2).cell 0)
    rw [show missE (ks.getD 0 default).f (ks.getD (ks.length - 1) default).f x.lo x.hi = missAt ks xs i by unfold missAt; rw [show xs.getD i default = x by rw [List.getD_eq_getElem?_getD, hx]; rfl]] at this
    exact this))
  have hf1 := firstAt_fst hf
  have HMI := Lib.hid (fun i (h : i < m) => firstAt_zero hf i (Nat.zero_le _) (by omega))
  have HCV := Lib.hid (fun W (e : Ext w W) (x : In) (h : missE (ks.getD 0 default).f (ks.getD (n - 1) default).f x.lo x.hi = 0) => show Calls Try.prog 95 #[.agg #[.slice A n ca], .agg #[.int .i64 x.lo, .int .i64 x.hi]] W fun e w' => e = .returned (.agg #[.int .i64 (cvI ks x).lo, .int .i64 (cvI ks x).hi]) ∧ Ext W w' from by
    obtain ⟨h1, h2⟩ := miss_zero h
    exact converted_any (ca := ca) x.lo x.hi hn (hA.ext e) hz h1 h2)
  have HA := Lib.hid hA
  have HB := Lib.hid hB
  have HN := Lib.hid hn
  have HM := Lib.hid hm
  have hf3 : ((firstAt (missAt ks xs) m 0).2 != 0) = false := by simp [hf]
  rw [hf1, hf] at HFE
  rw [hf] at hf3
  clear hn hm hA hB hz hy hf hf1 hf3
  obtain ⟨W0, hW0⟩ : ∃ W0, W0 = ((w.alloc (.cells #[.slice A n ca] 64)).alloc (.cells #[.slice B m cb] 24)).alloc (.cells #[.slice none 0 0] 24) := ⟨_, rfl⟩
  have K0 := Lib.hid (show Blk W0 w.heap.size 64 #[.slice A n ca] by rw [hW0]; exact ((Blk.new _ _ _).alloc _).alloc _)
  have K1 := Lib.hid (show Blk W0 (w.heap.size + 1) 24 #[.slice B m cb] by rw [hW0]; exact (Blk.newAt _ _ _ (by simp)).alloc _)
  have K2 := Lib.hid (show Blk W0 (w.heap.size + 1 + 1) 24 #[.slice none 0 0] by rw [hW0]; exact Blk.newAt _ _ _ (by simp))
  have E0 := Lib.hid (show Ext w W0 by rw [hW0]; exact ((Ext.alloc _ _).trans (Ext.alloc _ _)).trans (Ext.alloc _ _))
  have y0 : W0.cell? ⟨w.heap.size, 0, none⟩ = some (.slice A n ca) := K0.out.cell 0
  have y1 : W0.cell? ⟨w.heap.size + 1, 0, none⟩ = some (.slice B m cb) := K1.out.cell 0
  go_enter Try.func42, Try.ntmps42
  go_wp2
  rw [← hW0]
  clear hW0
  go_wp2
  refine wp_region_each [some 13, some 14, some 15, some 16, some 17, some 18, some 7] [[2], [13], [3], [15], [14, 16], [17], [18]]
    [Is (.agg #[.slice A n ca]), Is (.int .i64 (0)), Is (.agg #[.slice B m cb]), Is (.int .i64 (0)), Ints [0, 0], Is (.int .i64 (0)), Is (.int .i64 (0))]
    (by kernel_rfl) (by kernel_rfl) (by kernel_rfl) (by kernel_rfl) (by kernel_rfl) Ext (fun W => Ext W0 W)
    (fun W _ => Ext.refl W) (fun W W' h k => h.trans k) ?_ (Ext.drew _) ?_ ?_
  · repeat (refine ⟨fun _ _ _ _ k h => (by first | exact h | exact (IntsAt.ext h k)), ?_⟩)
    exact trivial
  · refine ⟨?_, ?_, ?_, ?_, ?_, ?_, ?_, trivial⟩
    all_goals intro ρ W ⟨kc, kg, kf⟩ hF hs
    · obtain ⟨h0, -⟩ := hs
      replace h0 : ρ (.tmp 2) = .pointer (some ⟨w.heap.size, 0, none⟩) := h0
      have hc0 : W.cell? ⟨w.heap.size, 0, none⟩ = some (.slice A n ca) := hF.cell (by assumption)
      go_simp
      exact ⟨Ext.refl _, rfl⟩
    · obtain ⟨h0, -⟩ := hs
      replace h0 : ρ (.tmp 13) = .agg #[.slice A n ca] := h0
      go_simp
      refine (HTB.out _ (E0.out.trans hF)).mono ?_; rintro e w' ⟨rfl, hx⟩; exact ⟨_, rfl, hx, rfl⟩
    · obtain ⟨h0, -⟩ := hs
      replace h0 : ρ (.tmp 3) = .pointer (some ⟨w.heap.size + 1, 0, none⟩) := h0
      have hc0 : W.cell? ⟨w.heap.size + 1, 0, none⟩ = some (.slice B m cb) := hF.cell (by assumption)
      go_simp
      exact ⟨Ext.refl _, rfl⟩
    · obtain ⟨h0, -⟩ := hs
      replace h0 : ρ (.tmp 15) = .agg #[.slice B m cb] := h0
      go_simp
      refine (HTR.out _ (E0.out.trans hF)).mono ?_; rintro e w' ⟨rfl, hx⟩; exact ⟨_, rfl, hx, rfl⟩
    · obtain ⟨h0, h1, -⟩ := hs
      replace h0 : ρ (.tmp 14) = .int .i64 (0) := h0
      replace h1 : ρ (.tmp 16) = .int .i64 (0) := h1
      go_simp
      exact ⟨Ext.alloc _ _, ints_new _ [0, 0] _ (by simp)⟩
    · obtain ⟨h0, -⟩ := hs
      replace h0 : (Ints [0, 0]) (ρ (.tmp 17)) W := h0
      have hz := HE.out
      go_simp
      refine (firstOf_any _ _ _ h0).mono ?_; rintro e w' ⟨rfl, rfl⟩; exact ⟨_, rfl, Ext.refl _, rfl⟩
    · obtain ⟨h0, -⟩ := hs
      replace h0 : ρ (.tmp 18) = .int .i64 (0) := h0
      go_simp
      exact ⟨Ext.refl _, rfl⟩
  · intro fv W1 hF hs
    obtain ⟨-, -, -, -, -, -, h7, -⟩ := hs
    replace h7 : fv 7 = .int .i64 (0) := h7
    simp only [fin, List.filterMap]
    go_simp
    have X := Lib.hid (E0.out.trans hF)
    have K0 := Lib.hid (K0.out.ext hF)
    have K1 := Lib.hid (K1.out.ext hF)
    have K2 := Lib.hid (K2.out.ext hF)
    have XW := Lib.hid hF
    clear hF y0 y1 h7
    have y0 : W1.cell? ⟨w.heap.size, 0, none⟩ = some (.slice A n ca) := K0.out.cell 0
    have y1 : W1.cell? ⟨w.heap.size + 1, 0, none⟩ = some (.slice B m cb) := K1.out.cell 0
    go_wp2_with (go_at_call 76; refine (HFE.out _ X.out K0.out).mono ?_; rintro e W2 ⟨rfl, hx⟩; have X := Lib.hid (X.out.trans hx); have K0 := Lib.hid (K0.out.ext hx); have K1 := Lib.hid (K1.out.ext hx); have K2 := Lib.hid (K2.out.ext hx); clear hx y0 y1; refine Hid.out ?_)
    refine Lib.hid ?_
    have y1 : W2.cell? ⟨w.heap.size + 1, 0, none⟩ = some (.slice B m cb) := K1.out.cell 0
    have y1' : ∀ o1, (W2.alloc o1).cell? ⟨w.heap.size + 1, 0, none⟩ = some (.slice B m cb) := fun o1 => (K1.out.alloc o1).cell 0
    go_wp2
    have SZ0 := Lib.hid (show w.heap.size + 1 + 1 < W2.heap.size from K2.out.lt)
    go_loopw [38] (fun i wr => ∃ (k c : Nat) (R : Option Addr), k ≤ m ∧ i = .int .i64 k ∧ Blk wr W2.heap.size 24 #[.slice R k c] ∧ wr.ownsRow (W2.heap.size + 1) 43 4 (.slice R k c) k (((xs.take k).map (cvI ks)).flatMap In.enc) ∧ Ext W2 wr ∧ W2.heap.size + 1 ≤ wr.heap.size) (fun i _ => m - (intOf i).toNat)
    case atStart => exact ⟨0, 0, none, Nat.zero_le _, rfl, Blk.new _ _ _, own_none _ _ _ _, Ext.alloc _ _, by simp⟩
    case round =>
      obtain ⟨k, c, R, hk, rfl, hb, ho, hx, hsz⟩ := hrel
      have X3 := Lib.hid (X.out.trans hx)
      have XW := Lib.hid hx
      have KB := Lib.hid hb
      have O := Lib.hid ho
      have SZ := Lib.hid hsz
      have K0 := Lib.hid (K0.out.ext hx)
      have K2 := Lib.hid (K2.out.ext hx)
      clear hx hb ho hsz y1 y1'
      by_cases hlt : k < m
      · obtain ⟨x, hxk⟩ : ∃ x, xs[k]? = some x := ⟨_, List.getElem?_eq_getElem (by have := HM.out; omega)⟩
        have HCX := Lib.hid (fun W (e : Ext w W) => HCV.out W e x (by
          have := HMI.out k hlt
          unfold missAt at this
          rw [show xs.getD k default = x by rw [List.getD_eq_getElem?_getD, hxk]; rfl, HN.out] at this
          exact this))
        obtain ⟨b, o, rfl, -, hc⟩ := row_at (HB.out.ext X3.out) hxk
        have p0 : wr.cell? ⟨b, o + k * 4, none⟩ = some (.int .i64 x.d) := hc 0 _ rfl
        have p1 : wr.cell? ⟨b, o + k * 4 + 1, none⟩ = some (.int .i64 x.g) := hc 1 _ rfl
        have p2 : wr.cell? ⟨b, o + k * 4 + 2, none⟩ = some (.int .i64 x.lo) := hc 2 _ rfl
        have p3 : wr.cell? ⟨b, o + k * 4 + 3, none⟩ = some (.int .i64 x.hi) := hc 3 _ rfl
        have HS := Lib.hid (cv_step (ks := ks) hxk)
        clear hc hxk
        have hlt2 : (k : Int) < (m : Int) := by omega
        have hbk : ((k : Int)).toNat = k := by omega
        have y0 : ∀ o1, (wr.alloc o1).cell? ⟨w.heap.size, 0, none⟩ = some (.slice A n ca) := fun o1 => (K0.out.alloc o1).cell 0
        go_wp2_with (go_at_call 95; refine (HCX.out _ (X3.out.trans (Ext.alloc _ _))).mono ?_; rintro e V1 ⟨rfl, hx⟩; have KY := Lib.hid ((Blk.new wr 43 #[.int .i64 x.d, .int .i64 x.g, .int .i64 x.lo, .int .i64 x.hi]).ext hx); have hx1 := (Ext.alloc wr (.cells #[.int .i64 x.d, .int .i64 x.g, .int .i64 x.lo, .int .i64 x.hi] 43)).trans hx; have XV := Lib.hid hx1; clear hx hx1 p0 p1 p2 p3 y0; refine Hid.out ?_)
        refine Lib.hid ?_
        have HQ := Lib.hid (show W2.heap.size + 1 ≤ wr.heap.size from SZ.out)
        have hne := HQ.out
        have f2 := KY.out.free 2
        have f3 := KY.out.free 3
        have l0 : V1.cell? ⟨wr.heap.size, 0, none⟩ = some (.int .i64 x.d) := KY.out.cell 0
        have l1 : V1.cell? ⟨wr.heap.size, 1, none⟩ = some (.int .i64 x.g) := KY.out.cell 1
        have l2 : V1.cell? ⟨wr.heap.size, 2, none⟩ = some (.int .i64 x.lo) := KY.out.cell 2
        have l3 : V1.cell? ⟨wr.heap.size, 3, none⟩ = some (.int .i64 x.hi) := KY.out.cell 3
        go_upto_region 12 with (fail)
        obtain ⟨V2, hV2⟩ : ∃ V, V = (V1.setCell ⟨wr.heap.size, 2, none⟩ (.int .i64 (cvI ks x).lo)).setCell ⟨wr.heap.size, 3, none⟩ (.int .i64 (cvI ks x).hi) := ⟨_, rfl⟩
        rw [← hV2]
        have KY2 := Lib.hid (show Blk V2 wr.heap.size 43 #[.int .i64 (cvI ks x).d, .int .i64 (cvI ks x).g, .int .i64 (cvI ks x).lo, .int .i64 (cvI ks x).hi] by rw [hV2]; exact (KY.out.setSame 2 _).setSame 3 _)
        have XV2 := Lib.hid (show Ext wr V2 by rw [hV2]; exact Ext.set (Ext.set XV.out (by dsimp only; omega) _) (by dsimp only; omega) _)
        have SV2 := Lib.hid (show wr.heap.size < V2.heap.size from KY2.out.lt)
        clear hV2 f2 f3 l0 l1 l2 l3 KY XV
        have KB2 := Lib.hid (KB.out.ext XV2.out)
        have z0 : V2.cell? ⟨W2.heap.size, 0, none⟩ = some (.slice R k c) := KB2.out.cell 0
        have l0 : V2.cell? ⟨wr.heap.size, 0, none⟩ = some (.int .i64 (cvI ks x).d) := KY2.out.cell 0
        have l1 : V2.cell? ⟨wr.heap.size, 1, none⟩ = some (.int .i64 (cvI ks x).g) := KY2.out.cell 1
        have l2 : V2.cell? ⟨wr.heap.size, 2, none⟩ = some (.int .i64 (cvI ks x).lo) := KY2.out.cell 2
        have l3 : V2.cell? ⟨wr.heap.size, 3, none⟩ = some (.int .i64 (cvI ks x).hi) := KY2.out.cell 3
        go_wp2_with
          (refine append_in (x := cvI ks x) (own_ext O.out (XV2.out.trans (Ext.alloc _ _))) (by omega) (by have := SV2.out; have := HQ.out; simp; omega) (Blk.new _ _ _) rfl (.tmp 48) (.tmp 50) rfl rfl rfl rfl ?_
           intro R' c' w2 hown' hkb hxe hgs
           have O2 := Lib.hid hown'
           have KB3 := Lib.hid (hkb _ _ _ (KB2.out.alloc _) (by decide))
           have X2 := Lib.hid (hxe W2 (XW.out.trans (XV2.out.trans (Ext.alloc _ _))) (by omega))
           have SG := Lib.hid hgs
           have z0 : w2.cell? ⟨W2.heap.size, 0, none⟩ = some (.slice R k c) := KB3.out.cell 0
           have f0 := KB3.out.free 0
           clear hown' hkb hxe hgs)
        go_roundw
        case rel =>
          exact ⟨k + 1, c', R', by omega, by go_num, KB3.out.setSame 0 _, by rw [HS.out]; exact own_set (p := ⟨W2.heap.size, 0, none⟩) O2.out (own_not O2.out (by dsimp only; omega)) _, Ext.set X2.out (by dsimp only; omega) _, by have := SG.out; have := SV2.out; have := HQ.out; simp at *; omega⟩
        case measure => simp [intOf]; omega
      · have hkm : k = m := by omega
        have hlt2 : ¬ (k : Int) < (m : Int) := by omega
        have z0 : wr.cell? ⟨W2.heap.size, 0, none⟩ = some (.slice R k c) := KB.out.cell 0
        have HR := Lib.hid (show RowsAt 4 In.enc wr R (xs.map (cvI ks)) by
          have := rows_own (enc := In.enc) (xs := (xs.take k).map (cvI ks)) (by have := HM.out; simp; omega) (fun _ => rfl) O.out (by omega)
          rwa [List.take_of_length_le (by have := HM.out; omega)] at this)
        have NB := Lib.hid (fun b o (hb : R = some ⟨b, o, none⟩) => own_base O.out (show (Value.slice R k c).ownBlock = some b by rw [hb]; rfl))
        have f0 := K2.out.free 0
        have c0 : wr.cell? ⟨w.heap.size + 1 + 1, 0, none⟩ = some (.slice none 0 0) := K2.out.cell 0
        subst hkm
        clear hlt
        go_wp2
        exact bodyPost_ret (v := .tuple #[.agg #[.slice R k c], .int .i64 0, .int .i64 0]) (by simp [results, Try.f42, go_sem, c0]) rfl ⟨R, ⟨c, rfl⟩, rows_setOther HR.out (fun b o hb => by have := NB.out b o hb; have := SZ0.out; dsimp only; omega) _, Ext.set X3.out (by dsimp only; omega) _⟩

end Go.Proofs.Ytmddnpagfgilcaa
