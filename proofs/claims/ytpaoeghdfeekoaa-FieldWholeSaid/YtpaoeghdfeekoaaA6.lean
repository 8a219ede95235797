/- The voltages of a ladder. By regen.py. -/
import Derived.Test.YtpaoeghdfeekoaaA5
import Derived.Test.YtpaoeghdfeekoaaA7
import Derived.Outline
namespace Go.Proofs.Ytpaoeghdfeekoaa
open Go.RowKit Go.Shelf Go.Mem Go.RegInv
attribute [local go_sem] Oper.semAt_some RelUpon_value RelUpon_skip RelUpon_enter

theorem info65 : (Try.prog.info? 65).map (fun i => (i.zero, i.size, i.bytes)) = some (some (.agg #[.int .i64 0, .int .i64 0]), 2, 16) := by kernel_rfl

theorem vfold_small {f : Int} {hot : List Bool} (hf : 1 ≤ f ∧ f ≤ 8) (l : List (Nat × Sh)) (h : ∀ x ∈ l, shOK x.2) (hl : l.length ≤ 4) : Bd 300000000 (vfold f hot l).last ∧ Bd 300000000 (vfold f hot l).cur := by
  obtain ⟨h1, h2⟩ := vfold_bd (hot := hot) hf l h
  have e : (bv l.length).1 ≤ 300000000 ∧ (bv l.length).2 ≤ 300000000 := by
    generalize l.length = n at hl
    match n, hl with
    | 0, _ => decide
    | 1, _ => decide
    | 2, _ => decide
    | 3, _ => decide
    | 4, _ => decide
  simp only [Bd] at h1 h2 ⊢
  omega

theorem mid_of {n x N B : Int} (hn : 0 ≤ n) (hN : n ≤ N) (h1 : -B ≤ x) (h2 : x ≤ B) (hb : N * B ≤ 1000000000000000) : Mid (n * x) := by
  have := mul_bd hn hN h1 h2
  unfold Mid; omega

/-- The voltages of the input and of all nodes. -/
def volts (f : Int) (hot : List Bool) (ls : List Sh) : List G := (vfold f hot ((backE ls).map (·.1))).out.reverse
theorem volts_len (f : Int) (hot : List Bool) (ls : List Sh) : (volts f hot ls).length = ls.length + 1 := by
  unfold volts; rw [List.length_reverse, vfold_len, List.length_map, backE_length]

def VoltsAt (w w' : World) (e : Ending) (m : Nat) (zs : List G) : Prop := ∃ g cap, e = .returned (.slice (some ⟨g, 0, none⟩) (m + 1) cap) ∧ RowsAt 2 G.enc w' (some ⟨g, 0, none⟩) zs ∧ Ext w w' ∧ w.heap.size ≤ g ∧ m + 1 ≤ cap ∧ ∃ cu, Blk w' g 65 cu

theorem rowsAt_own {W : World} {base g n cap : Nat} {zs : List G} (hl : zs.length = n) (hn : n ≤ 1152921504606846976) (h1 : 1 ≤ n) (h : W.ownsRow base 65 2 (.slice (some ⟨g, 0, none⟩) n cap) n (zs.flatMap G.enc)) : RowsAt 2 G.enc W (some ⟨g, 0, none⟩) zs := by
  obtain ⟨hlen, h | ⟨g', cap', cu, hv, hbase, hh, hcap, hmax, hsz, htake⟩⟩ := h
  · omega
  · obtain ⟨rfl, rfl⟩ : g = g' ∧ cap = cap' := by simpa using hv
    refine ⟨by omega, fun i x hx => ⟨g, 0, rfl, (show Blk W g 65 cu from hh).lt, fun j u hu => ?_⟩⟩
    have hi : i < n := by have := (List.getElem?_eq_some_iff.1 hx).1; omega
    obtain ⟨h2, h3⟩ := flat_at zs i x hx
    rw [← htake, List.getElem?_take, if_pos (by omega), Array.getElem?_toList] at h2 h3
    rw [(show Blk W g 65 cu from hh).cell]
    match j, hu with
    | 0, hu => rw [Nat.zero_add, Nat.add_zero, h2]; simpa [G.enc] using hu
    | 1, hu => rw [Nat.zero_add, h3]; simpa [G.enc] using hu
    | j + 2, hu => simp [G.enc] at hu

set_option maxRecDepth 100000 in
set_option maxHeartbeats 2000000 in
theorem voltagesOf_in (t : Int) (A : Option Addr) (m cap : Nat) (ls : List Sh) (hm : ls.length = m) (f : Int) (B : Option Addr) (cap' : Nat) (hot : List Bool) (hm' : hot.length = m) (w : World)
    (hS : RowsAt 3 Sh.enc w A ls) (hH : RowsAt 1 boolEnc w B hot) (hok : ∀ s ∈ ls, shOK s) (hf : 1 ≤ f ∧ f ≤ 8) (h1 : 1 ≤ m) (h4 : m ≤ 4) :
    CallsIn Fence.wide 5 Try.prog 89 #[.agg #[.int .i64 t, .slice A m cap], .agg #[.int .i64 f, .slice B m cap']] w fun e w' => VoltsAt w w' e m (volts f hot ls) := by
  have HS := Lib.hid hS
  have HH := Lib.hid hH
  have HM := Lib.hid hm
  have HM' := Lib.hid hm'
  have HOK := Lib.hid hok
  have HF := Lib.hid hf
  obtain ⟨hf1, hf2⟩ := hf
  have HA := Lib.hid (show ∀ b o, A = some ⟨b, o, none⟩ → b < w.heap.size from fun b o hA => by
    obtain ⟨b', o', h1', h2', _⟩ := hS.2 0 _ (List.getElem?_eq_getElem (by omega))
    rw [hA] at h1'
    simp at h1'
    omega)
  obtain ⟨i0, hi, hz0, hz1, hz2⟩ := info_parts info65
  have HI0 := Lib.hid hz0
  clear hS hH hm hm' hok
  refine callsIn_of_wp_marks Try.func89 rfl trivial ?_ rfl
  simp only [Try.ntmps89, List.size_toArray, List.length_cons, List.length_nil, Nat.reduceAdd, Nat.reduceSub, Array.replicate_succ, Array.replicate_zero, List.push_toArray, List.append_toArray, List.nil_append, List.cons_append]
  gi_wp2_with (refine ⟨trivial, ?_⟩; gi_at_call 127; refine (callsIn_wide.2 (backward_any _ _ _ _)).mono ?_; rintro e w' ⟨rfl, rfl⟩)
  have hst : St w t A m cap f B cap' (((((((w.alloc (.cells #[.int .i64 t, .slice A m cap] 24)).alloc (.cells #[.int .i64 f, .slice B m cap'] 27)).alloc (.cells #[.int .i64 1, .int .i64 0] 65)).alloc (.cells #[.int .i64 0, .int .i64 0] 65)).alloc
      (.cells #[.int .i64 1, .int .i64 0] 65)).alloc (.cells #[.slice (some ⟨w.heap.size + 1 + 1 + 1 + 1, 0, none⟩) 1 1] 53)).alloc (.cells #[.slice A m cap] 22)) vs0 := by
    refine ⟨(((((((Blk.newAt _ _ _ (by simp)).alloc _).alloc _).alloc _).alloc _).alloc _).alloc _), ((((((Blk.newAt _ _ _ (by simp)).alloc _).alloc _).alloc _).alloc _).alloc _), (((((Blk.newAt _ _ _ (by simp)).alloc _).alloc _).alloc _).alloc _),
      ((((Blk.newAt _ _ _ (by simp)).alloc _).alloc _).alloc _), Blk.newAt _ _ _ (by simp), ⟨_, (Blk.newAt _ _ _ (by simp)).alloc _, ?_⟩, ?_⟩
    · refine ⟨rfl, .inr ⟨w.heap.size + 1 + 1 + 1 + 1, 1, _, rfl, Nat.le_refl _, (((Blk.newAt _ _ _ (by simp)).alloc _).alloc _ : Blk _ _ 65 #[.int .i64 1, .int .i64 0]), Nat.le_refl _, by decide, rfl, rfl⟩⟩
    · exact (Ext.alloc _ _).trans ((Ext.alloc _ _).trans ((Ext.alloc _ _).trans ((Ext.alloc _ _).trans ((Ext.alloc _ _).trans ((Ext.alloc _ _).trans (Ext.alloc _ _))))))
  generalize hW0 : (((((((w.alloc (.cells #[.int .i64 t, .slice A m cap] 24)).alloc (.cells #[.int .i64 f, .slice B m cap'] 27)).alloc (.cells #[.int .i64 1, .int .i64 0] 65)).alloc (.cells #[.int .i64 0, .int .i64 0] 65)).alloc
      (.cells #[.int .i64 1, .int .i64 0] 65)).alloc (.cells #[.slice (some ⟨w.heap.size + 1 + 1 + 1 + 1, 0, none⟩) 1 1] 53)).alloc (.cells #[.slice A m cap] 22)) = W0 at hst ⊢
  clear hW0
  have hlt0 := hst.bs.lt
  refine wpIn_rangeFunc_ownH (α := Ix ls) (Kp := KpB w.heap.size (w.heap.size + 1 + 1 + 1 + 1 + 1 + 1)) (encs := encIx) (S := fun ys => ys = backE ls) (Sp := fun _ => True) (N := m) rfl (by omega) (gf := 137) (lb := #[.pointer (some ⟨w.heap.size + 1 + 1 + 1 + 1 + 1 + 1, 0, none⟩)]) rfl trivial (enters_of Try.func137 (by kernel_rfl) rfl)
    (backward_stops 4 (by omega) (w.heap.size + 1 + 1 + 1 + 1 + 1 + 1) w.heap.size A m cap ls HM.out W0 (hst.bs.cell 0) (HS.out.ext hst.below) HA.out) (fun h k => h.t k) ?hKb (Below.refl _ _) (fun _ => rfl)
    (fun pre W => St w t A m cap f B cap' W (vfold f hot (pre.map (·.1)))) (fun _ _ _ => False) ?hI (fun _ _ _ _ _ hs _ _ => hs) hst
    (fun x a' W => ∃ Bx, w.heap.size + 1 + 1 + 1 + 1 + 1 + 1 < Bx ∧ Blk W Bx 92 #[.int .i64 x.1.2.g, .int .i64 x.1.2.c, .int .i64 x.1.2.h] ∧ a' =
      { tmps := #[.agg #[.int .i64 t, .slice A m cap], .agg #[.int .i64 f, .slice B m cap'],
        .pointer (some ⟨w.heap.size, 0, none⟩), .pointer (some ⟨w.heap.size + 1, 0, none⟩), .slice none 0 0, .pointer (some ⟨w.heap.size + 1 + 1, 0, none⟩), .pointer (some ⟨w.heap.size + 1 + 1 + 1, 0, none⟩), .pointer (some ⟨w.heap.size + 1 + 1 + 1 + 1 + 1, 0, none⟩),
        .int .i64 (x.1.1 : Int), .pointer (some ⟨Bx, 0, none⟩), .agg #[.int .i64 1, .int .i64 0], .agg #[.int .i64 0, .int .i64 0], .agg #[.int .i64 1, .int .i64 0], .slice (some ⟨w.heap.size + 1 + 1 + 1 + 1, 0, none⟩) 1 1,
        .pointer (some ⟨w.heap.size, 1, none⟩), .slice A m cap, .func (.func 137) #[] #[.pointer (some ⟨w.heap.size + 1 + 1 + 1 + 1 + 1 + 1, 0, none⟩)], .int .i64 (x.1.1 : Int), .agg #[.int .i64 x.1.2.g, .int .i64 x.1.2.c, .int .i64 x.1.2.h],
        undef, undef, undef, undef, undef, undef, undef, undef, undef, undef, undef, undef, undef, undef, undef, undef, undef, undef, undef], defers := [] }) ?hAx ?assign ?body ?done ?stop
  case hKb =>
    intro W l o o' hl h hc hw
    exact ⟨belowK_b (w := W0) (by omega) W l o o' hl h hc hw, World.putObj_heap_other (by omega)⟩
  case hI =>
    intro pre X Y row hs hg hr
    exact hs.keep (CellsKept.grown hg (fun r e => (hr r e).2)) ((Below.refl _ _).grown hg hs.below.size (fun k e => by have := (hr k e).1; omega))
  case hAx =>
    rintro x a' _ X Y row ⟨Bx, h1', h2', h3'⟩ hg hr
    exact ⟨Bx, h1', (CellsKept.grown hg (fun r e => (hr r e).2)).blk h2', h3'⟩
  case assign =>
    rintro l pre x W K hI hK
    have hz := hI.bs.lt
    unfold encIx
    gi_wp2
    exact hK _ _ ((KeepsOthers.alloc _ _).from _) ⟨(Below.refl _ _).alloc hI.below.size _, Below.heap_alloc _ _ _ hz⟩ (hI.ext (Ext.alloc _ _)) ⟨W.heap.size, hz, Blk.new _ _ _, rfl⟩
  case body =>
    rintro lp pre ⟨⟨k, s⟩, hx⟩ a' Wb hl ⟨r, hr⟩ hI ⟨Bx, hBx, bX, rfl⟩ hlt
    dsimp only at bX ⊢
    have hvs := vfold_snoc f hot (pre.map (·.1)) (k, s)
    have hpok : ∀ y ∈ pre.map (·.1), shOK y.2 := fun y hy => by
      obtain ⟨z, hz, rfl⟩ := List.mem_map.1 hy
      exact HOK.out _ (List.mem_of_getElem? z.2)
    have hsk := HOK.out s (List.mem_of_getElem? hx)
    obtain ⟨hb1, hb2⟩ := vfold_small (hot := hot) HF.out (pre.map (·.1)) hpok (by rw [List.length_map]; omega)
    obtain ⟨hc1, hc2⟩ := vfold_small (hot := hot) HF.out (pre.map (·.1) ++ [(k, s)]) (fun y hy => by
      rcases List.mem_append.1 hy with h | h
      · exact hpok y h
      · simp at h; subst h; exact hsk) (by simp; omega)
    have hol : (vfold f hot (pre.map (·.1))).out.length = pre.length + 1 := by rw [vfold_len, List.length_map]
    rw [hvs] at hc1 hc2
    have HV := Lib.hid hvs
    clear hvs
    obtain ⟨hk, hhk⟩ : ∃ hk, hot[k]? = some hk := ⟨_, List.getElem?_eq_getElem (by have := (List.getElem?_eq_some_iff.1 hx).1; rw [HM.out] at this; rw [HM'.out]; exact this)⟩
    have hgd : hot.getD k false = hk := by simp [hhk]
    have hrb := react_bd (h := hk) HF.out hsk
    have e1 : (vstep f hot (vfold f hot (pre.map (·.1))) (k, s)).cur = plusG (vfold f hot (pre.map (·.1))).cur s.g (vfold f hot (pre.map (·.1))).last := rfl
    have HVS := Lib.hid (show vstep f hot (vfold f hot (pre.map (·.1))) (k, s) = ⟨befG (vfold f hot (pre.map (·.1))).last (react f hk s) (plusG (vfold f hot (pre.map (·.1))).cur s.g (vfold f hot (pre.map (·.1))).last), plusG (vfold f hot (pre.map (·.1))).cur s.g (vfold f hot (pre.map (·.1))).last,
      (vfold f hot (pre.map (·.1))).out ++ [befG (vfold f hot (pre.map (·.1))).last (react f hk s) (plusG (vfold f hot (pre.map (·.1))).cur s.g (vfold f hot (pre.map (·.1))).last)]⟩ by simp only [vstep, hgd])
    rw [e1] at hc2
    clear e1 hpok hgd hc1
    have HRC := Lib.hid (fun W' (h : Ext w W') => reactanceOf_any t A m cap ls HM.out f B m cap' hot k s hk W' (HS.out.ext h) (HH.out.ext h) hx hhk HM'.out
      (mid_of (N := 8) (B := 4) (by omega) hf2 (by have := hsk.2.1; omega) (by have := hsk.2.1; omega) (by omega)) (mid_of (N := 8) (B := 4) (by omega) hf2 (by have := hsk.2.2.1; omega) (by have := hsk.2.2.1; omega) (by omega)))
    generalize react f hk s = x at HRC HVS hrb
    generalize vfold f hot (pre.map (·.1)) = v at *
    obtain ⟨⟨la, lb⟩, ⟨ca, cb⟩, out⟩ := v
    simp only [Bd, plusG] at hb1 hb2 hc2
    have hg := hsk.1
    have HP := Lib.hid (plus_any ca cb s.g la lb (by unfold Mid; omega) (by unfold Mid; omega) (mid_of (N := 4) (B := 300000000) (by omega) hg.2 (by omega) (by omega) (by omega)) (mid_of (N := 4) (B := 300000000) (by omega) hg.2 (by omega) (by omega) (by omega)))
    have HB := Lib.hid (before_any la lb x (ca + s.g * la) (cb + s.g * lb) (by unfold Mid; omega) (by unfold Mid; omega) (mid_of (N := 32) (B := 300000000) (by omega) hrb.2 (by omega) (by omega) (by omega)) (mid_of (N := 32) (B := 300000000) (by omega) hrb.2 (by omega) (by omega) (by omega)) (by unfold Mid; omega))
    clear hb1 hb2 hc2 hsk hg hhk hf1 hf2 hrb
    have HX := Lib.hid bX
    have hXlt := bX.lt
    have x0 : Wb.cell? ⟨Bx, 0, none⟩ = some (.int .i64 s.g) := bX.cell 0
    have l0 : Wb.cell? ⟨w.heap.size + 1 + 1, 0, none⟩ = some (.int .i64 la) := hI.b5.cell 0
    have l1 : Wb.cell? ⟨w.heap.size + 1 + 1, 1, none⟩ = some (.int .i64 lb) := hI.b5.cell 1
    have c0 : Wb.cell? ⟨w.heap.size + 1 + 1 + 1, 0, none⟩ = some (.int .i64 ca) := hI.b6.cell 0
    have c1 : Wb.cell? ⟨w.heap.size + 1 + 1 + 1, 1, none⟩ = some (.int .i64 cb) := hI.b6.cell 1
    gi_wp2_with (refine ⟨trivial, ?_⟩; gi_at_call 108; refine (CallsIn.inRound lp (callsIn_wide.2 (HP.out Wb))).mono ?_; rintro e W1 ⟨rfl, hx1⟩; have hI1 := hI.ext hx1; have d0 := hI1.b6.cell 0; have d1 := hI1.b6.cell 1; have g0 := hI1.b6.free 0; have g1 := hI1.b6.free 1; simp only [List.getElem?_toArray, List.getElem?_cons_zero, List.getElem?_cons_succ] at d0 d1)
    have hI2 := hI1.setCur (ca + s.g * la) (cb + s.g * lb)
    have hk2 : KeepsOthers Wb ((W1.setCell ⟨w.heap.size + 1 + 1 + 1, 0, none⟩ (.int .i64 (ca + s.g * la))).setCell ⟨w.heap.size + 1 + 1 + 1, 1, none⟩ (.int .i64 (cb + s.g * lb))) :=
      (keepsOthers_ext hx1).trans ((KeepsOthers.setCell _ _ _).trans (KeepsOthers.setCell _ _ _))
    have hb2 : Below w.heap.size Wb ((W1.setCell ⟨w.heap.size + 1 + 1 + 1, 0, none⟩ (.int .i64 (ca + s.g * la))).setCell ⟨w.heap.size + 1 + 1 + 1, 1, none⟩ (.int .i64 (cb + s.g * lb))) :=
      ((Below.mono hx1 hI.below.size).setCell (by dsimp only; omega) _).setCell (by dsimp only; omega) _
    generalize ((W1.setCell ⟨w.heap.size + 1 + 1 + 1, 0, none⟩ (.int .i64 (ca + s.g * la))).setCell ⟨w.heap.size + 1 + 1 + 1, 1, none⟩ (.int .i64 (cb + s.g * lb))) = W2 at hI2 hk2 hb2 ⊢
    clear d0 d1 g0 g1 hI1 hx1 x0 l0 l1 c0 c1
    refine wpIn_region_part (WideIn.inRound lp) (by kernel_rfl) 7 [some 24, some 25, some 26, some 27, some 28, some 29, some 30] [[5], [2], [3], [8], [25, 26, 27], [6], [24, 28, 29]]
      [Is (.agg #[.int .i64 (la), .int .i64 (lb)]), Is (.agg #[.int .i64 (t), .slice A m cap]), Is (.agg #[.int .i64 (f), .slice B m cap']), Is (.int .i64 ((k : Int))), Is (.int .i64 (x)), Is (.agg #[.int .i64 (ca + s.g * la), .int .i64 (cb + s.g * lb)]), Is (.agg #[.int .i64 (la + x * -(cb + s.g * lb)), .int .i64 (lb + x * (ca + s.g * la))])]
      (by kernel_rfl) (by kernel_rfl) (by kernel_rfl) (by kernel_rfl) (by kernel_rfl) (by kernel_rfl) (by kernel_rfl) Ext (fun W => Ext W2 W)
      (fun W _ => Ext.refl W) (fun W W' h k => h.trans k) ?_ (Ext.drew _) ?_ ?_
    · repeat (refine ⟨fun _ _ _ _ k h => (by first | exact h | exact IntsAt.ext h k), ?_⟩)
      exact trivial
    · refine ⟨?_, ?_, ?_, ?_, ?_, ?_, ?_, trivial⟩
      all_goals intro ρ W ⟨kc, kg, kf⟩ hF hs
      · obtain ⟨h0, -⟩ := hs
        replace h0 : ρ (.tmp 5) = .pointer (some ⟨w.heap.size + 1 + 1, 0, none⟩) := h0
        have hc0 : W.cell? ⟨w.heap.size + 1 + 1, 0, none⟩ = some (.int .i64 (la)) := (hI2.ext hF).b5.cell 0
        have hc1 : W.cell? ⟨w.heap.size + 1 + 1, 1, none⟩ = some (.int .i64 (lb)) := (hI2.ext hF).b5.cell 1
        go_simp
        exact ⟨Ext.refl _, rfl⟩
      · obtain ⟨h0, -⟩ := hs
        replace h0 : ρ (.tmp 2) = .pointer (some ⟨w.heap.size, 0, none⟩) := h0
        have hc0 : W.cell? ⟨w.heap.size, 0, none⟩ = some (.int .i64 (t)) := (hI2.ext hF).b2.cell 0
        have hc1 : W.cell? ⟨w.heap.size, 1, none⟩ = some (.slice A m cap) := (hI2.ext hF).b2.cell 1
        go_simp
        exact ⟨Ext.refl _, rfl⟩
      · obtain ⟨h0, -⟩ := hs
        replace h0 : ρ (.tmp 3) = .pointer (some ⟨w.heap.size + 1, 0, none⟩) := h0
        have hc0 : W.cell? ⟨w.heap.size + 1, 0, none⟩ = some (.int .i64 (f)) := (hI2.ext hF).b3.cell 0
        have hc1 : W.cell? ⟨w.heap.size + 1, 1, none⟩ = some (.slice B m cap') := (hI2.ext hF).b3.cell 1
        go_simp
        exact ⟨Ext.refl _, rfl⟩
      · obtain ⟨h0, -⟩ := hs
        replace h0 : ρ (.tmp 8) = .int .i64 ((k : Int)) := h0
        go_simp
        exact ⟨Ext.refl _, rfl⟩
      · obtain ⟨h0, h1, h2, -⟩ := hs
        replace h0 : ρ (.tmp 25) = .agg #[.int .i64 (t), .slice A m cap] := h0
        replace h1 : ρ (.tmp 26) = .agg #[.int .i64 (f), .slice B m cap'] := h1
        replace h2 : ρ (.tmp 27) = .int .i64 ((k : Int)) := h2
        go_simp
        refine (HRC.out W (hI2.ext hF).below).mono ?_; rintro e w' ⟨rfl, hx⟩; exact ⟨_, rfl, hx, rfl⟩
      · obtain ⟨h0, -⟩ := hs
        replace h0 : ρ (.tmp 6) = .pointer (some ⟨w.heap.size + 1 + 1 + 1, 0, none⟩) := h0
        have hc0 : W.cell? ⟨w.heap.size + 1 + 1 + 1, 0, none⟩ = some (.int .i64 (ca + s.g * la)) := (hI2.ext hF).b6.cell 0
        have hc1 : W.cell? ⟨w.heap.size + 1 + 1 + 1, 1, none⟩ = some (.int .i64 (cb + s.g * lb)) := (hI2.ext hF).b6.cell 1
        go_simp
        exact ⟨Ext.refl _, rfl⟩
      · obtain ⟨h0, h1, h2, -⟩ := hs
        replace h0 : ρ (.tmp 24) = .agg #[.int .i64 (la), .int .i64 (lb)] := h0
        replace h1 : ρ (.tmp 28) = .int .i64 (x) := h1
        replace h2 : ρ (.tmp 29) = .agg #[.int .i64 (ca + s.g * la), .int .i64 (cb + s.g * lb)] := h2
        go_simp
        refine (HB.out W).mono ?_; rintro e w' ⟨rfl, hx⟩; exact ⟨_, rfl, hx, rfl⟩
    · intro fv W hF hs
      obtain ⟨-, -, -, -, -, -, h30, -⟩ := hs
      replace h30 : fv 30 = .agg #[.int .i64 (la + x * -(cb + s.g * lb)), .int .i64 (lb + x * (ca + s.g * la))] := h30
      simp only [fin, List.filterMap]
      go_simp
      have hI3 := hI2.ext hF
      have hk3 := hk2.trans (keepsOthers_ext hF)
      have hb3 := Ext.below hb2 hF hI2.below.size
      clear hF
      have d0 := hI3.b5.cell 0
      have d1 := hI3.b5.cell 1
      have g0 := hI3.b5.free 0
      have g1 := hI3.b5.free 1
      simp only [List.getElem?_toArray, List.getElem?_cons_zero, List.getElem?_cons_succ] at d0 d1
      have hI4 := hI3.setLast (la + x * -(cb + s.g * lb)) (lb + x * (ca + s.g * la))
      obtain ⟨u, hu, hrow⟩ := hI3.row
      have u0 : W.cell? ⟨w.heap.size + 1 + 1 + 1 + 1 + 1, 0, none⟩ = some u := hu.cell 0
      have hu4 : Blk ((W.setCell ⟨w.heap.size + 1 + 1, 0, none⟩ (.int .i64 (la + x * -(cb + s.g * lb)))).setCell ⟨w.heap.size + 1 + 1, 1, none⟩ (.int .i64 (lb + x * (ca + s.g * la)))) (w.heap.size + 1 + 1 + 1 + 1 + 1) 53 #[u] :=
        (hu.setOther (by dsimp only; omega) _).setOther (by dsimp only; omega) _
      have hrow4 : ((W.setCell ⟨w.heap.size + 1 + 1, 0, none⟩ (.int .i64 (la + x * -(cb + s.g * lb)))).setCell ⟨w.heap.size + 1 + 1, 1, none⟩ (.int .i64 (lb + x * (ca + s.g * la)))).ownsRow (w.heap.size + 1 + 1 + 1 + 1) 65 2 u out.length (out.flatMap G.enc) :=
        own_set (own_set hrow (own_not hrow (by dsimp only; omega)) _) (own_not hrow (by dsimp only; omega)) _
      have hI5 := hI4.ext (Ext.alloc _ (.cells #[.int .i64 (la + x * -(cb + s.g * lb)), .int .i64 (lb + x * (ca + s.g * la))] 65))
      have hu5 := hu4.alloc (.cells #[.int .i64 (la + x * -(cb + s.g * lb)), .int .i64 (lb + x * (ca + s.g * la))] 65)
      have hrow5 := hrow4.alloc (.cells #[.int .i64 (la + x * -(cb + s.g * lb)), .int .i64 (lb + x * (ca + s.g * la))] 65)
      have N5 := Blk.newAt ((W.setCell ⟨w.heap.size + 1 + 1, 0, none⟩ (.int .i64 (la + x * -(cb + s.g * lb)))).setCell ⟨w.heap.size + 1 + 1, 1, none⟩ (.int .i64 (lb + x * (ca + s.g * la)))) 65 #[.int .i64 (la + x * -(cb + s.g * lb)), .int .i64 (lb + x * (ca + s.g * la))] (g := W.heap.size) (by simp [World.setCell])
      have hk5 := (hk3.trans ((KeepsOthers.setCell W ⟨w.heap.size + 1 + 1, 0, none⟩ (.int .i64 (la + x * -(cb + s.g * lb)))).trans (KeepsOthers.setCell _ ⟨w.heap.size + 1 + 1, 1, none⟩ (.int .i64 (lb + x * (ca + s.g * la)))))).trans (KeepsOthers.alloc _ (.cells #[.int .i64 (la + x * -(cb + s.g * lb)), .int .i64 (lb + x * (ca + s.g * la))] 65))
      have hsz5 := hI5.b2.lt
      have hb5 : w.heap.size + 1 + 1 + 1 + 1 ≤ (World.alloc ((W.setCell ⟨w.heap.size + 1 + 1, 0, none⟩ (.int .i64 (la + x * -(cb + s.g * lb)))).setCell ⟨w.heap.size + 1 + 1, 1, none⟩ (.int .i64 (lb + x * (ca + s.g * la)))) (.cells #[.int .i64 (la + x * -(cb + s.g * lb)), .int .i64 (lb + x * (ca + s.g * la))] 65)).heap.size := by have := hI5.bs.lt; omega
      have HN5 := Lib.hid (news_of N5)
      have HOL := Lib.hid hol
      have hpl : out.length ≤ 4 := by omega
      have H5 := Lib.hid hI5
      have HR5 := Lib.hid hrow5
      have HU5 := Lib.hid hu5
      clear hol hrow5 hu5 hI5 hrow4 hu4 hI4 N5 hu hrow
      gi_wp2_with (gi_at_builtin; refine wpListIn_append_own _ rfl _ _ 53 rfl (w.heap.size + 1 + 1 + 1 + 1) 65 i0 (.agg #[.int .i64 0, .int .i64 0]) 2 16 Try.underlying53 hi HI0.out hz1 hz2 rfl (by decide) _ _ _ rfl HR5.out ⟨W.heap.size, 0, none⟩ 1 1 [.int .i64 (la + x * -(cb + s.g * lb)), .int .i64 (lb + x * (ca + s.g * la))] rfl rfl HN5.out (by simp [Value.oneCell']) (by unfold maxLen; omega) (by omega) hb5 ?_; intro v' w1 hown' hgrow _; obtain ⟨g', cap'', rfl⟩ := ownsRow_succ hown'; have hA := H5.out.append (z := ⟨la + x * -(cb + s.g * lb), lb + x * (ca + s.g * la)⟩) HU5.out HR5.out hgrow hown'; have y0 := hA.1.cell 0; have y1 := hA.1.free 0; simp only [List.getElem?_toArray, List.getElem?_cons_zero] at y0; have HA5 := Lib.hid hA; have HG := Lib.hid hgrow; clear hA hgrow hown')
      have hA := HA5.out
      have hk6 := (hk5.trans (keepsOthers_own HR5.out HG.out)).trans (KeepsOthers.setCell w1 ⟨w.heap.size + 1 + 1 + 1 + 1 + 1, 0, none⟩ (.slice (some ⟨g', 0, none⟩) (out.length + 1) cap''))
      have hfin : St w t A m cap f B cap' (w1.setCell ⟨w.heap.size + 1 + 1 + 1 + 1 + 1, 0, none⟩ (.slice (some ⟨g', 0, none⟩) (out.length + 1) cap'')) (vfold f hot (List.map (fun x : Ix ls => x.1) (pre ++ [⟨(k, s), hx⟩]))) := by
        rw [List.map_append, List.map_singleton, HV.out, HVS.out]
        exact hA.2
      exact ⟨hk6.from _, ⟨below_of hI.below hfin.below hk6.size, (show Blk _ _ _ _ from hfin.bs).trans (show Blk _ _ _ _ from hI.bs).symm⟩, hfin⟩
  case done =>
    rintro D ys W hD rfl hI hK
    have hol : (vfold f hot ((backE ls).map (·.1))).out.length = m + 1 := by rw [vfold_len, List.length_map, backE_length, HM.out]
    obtain ⟨u, hu, hrow⟩ := hI.row
    rw [hol] at hrow
    obtain ⟨g, cp, rfl⟩ := ownsRow_succ hrow
    have u0 : W.cell? ⟨w.heap.size + 1 + 1 + 1 + 1 + 1, 0, none⟩ = some (.slice (some ⟨g, 0, none⟩) (m + 1) cp) := hu.cell 0
    have hne := own_notBlk hrow hu (by decide)
    have HRV := Lib.hid (reverse_any _ g (m + 1) cp _ W hol (by omega) (by omega) hrow)
    have HVL := Lib.hid (show volts f hot ls = (vfold f hot ((backE ls).map (·.1))).out.reverse from rfl)
    have HLEN := Lib.hid (volts_len f hot ls)
    rw [← HVL.out] at HRV
    have hgs : w.heap.size ≤ g := by
      rcases hrow.2 with ⟨h, _⟩ | ⟨g', _, _, h, h2, _⟩
      · cases h
      · obtain ⟨rfl, _⟩ : g = g' ∧ cp = _ := by simpa using h
        omega
    have hDg : W.heap[D]? = some (.deferred (some [])) → D ≠ g := by
      rintro h rfl
      rcases hrow.2 with ⟨h', _⟩ | ⟨g', _, _, h', _, h2, _⟩
      · cases h'
      · obtain ⟨rfl, _⟩ : D = g' ∧ cp = _ := by simpa using h'
        rw [h] at h2; cases h2
    have hDg := hDg hK
    have HU := Lib.hid hu
    have HI := Lib.hid hI
    have HH' := Lib.hid hK
    have HOL := Lib.hid hol
    clear hrow hu hI hol
    gi_wp2_with (refine ⟨trivial, ?_⟩; gi_at_call 128; refine (callsIn_wide.2 HRV.out).mono ?_; rintro e W1 ⟨rfl, hg, hrow1⟩; have hu1 : Blk W1 (w.heap.size + 1 + 1 + 1 + 1 + 1) 53 _ := (hg.block _ HU.out.lt (fun e => hne (by rw [e]; rfl))).trans HU.out; have z0 := hu1.cell 0; simp only [List.getElem?_toArray, List.getElem?_cons_zero] at z0)
    have hK1 : W1.heap[D]? = some (.deferred (some [])) := (hg.block D (Array.getElem?_eq_some_iff.1 HH'.out).1 (fun e => hDg (by simpa using e))).trans HH'.out
    have hb1 : Below w.heap.size w W1 := HI.out.below.grown hg HI.out.below.size (fun k e => by cases e; exact hgs)
    refine ⟨by simp, .inl ⟨_, _, rfl, run_takeDeferred hK1, ?_⟩⟩
    have hkc := CellsKept.put (.deferred none) hK1 rfl
    have hcap : m + 1 ≤ cp ∧ ∃ cu, Blk W1 g 65 cu := by
      rcases hrow1.2 with ⟨h, _⟩ | ⟨g', _, cu, h, _, h2, h3, _⟩
      · cases h
      · obtain ⟨rfl, rfl⟩ : g = g' ∧ cp = _ := by simpa using h
        exact ⟨h3, cu, h2⟩
    obtain ⟨hcap1, cu, hcu⟩ := hcap
    refine ⟨_, results_tmp rfl _ _ _, g, cp, rfl, ?_, hb1.trans (belowK_b (w := w) (Nat.le_refl _) W1 D _ _ (by omega) hK1 rfl rfl), hgs, hcap1, cu, hkc.blk hcu⟩
    refine rowsAt_own (base := w.heap.size + 1 + 1 + 1 + 1) (cap := cp) (n := m + 1) (by rw [HLEN.out, HM.out]) (by omega) (by omega) ?_
    exact hkc.own hrow1
  case stop =>
    rintro D c pre W _ _ h _
    exact h.elim

end Go.Proofs.Ytpaoeghdfeekoaa
