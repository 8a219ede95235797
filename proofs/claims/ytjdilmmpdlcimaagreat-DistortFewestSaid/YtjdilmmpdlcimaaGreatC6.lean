/- Shafts with other kinks. -/
import Derived.Test.YtjdilmmpdlcimaaGreatC5
import Derived.Test.YtjdilmmpdlcimaaGreatQ1
import Derived.Lib.MinMax
import Derived.Deep.DeepCutAuto
import Derived.Deep.RegionHeld3
import Derived.Deep.AppendLies
import Derived.Deep.RegionLaw

namespace Go.Proofs.YtjdilmmpdlcimaaGreat
open Go.RowKit Go.Shelf Go.Mem Go.RegInv
attribute [local go_sem] RelUpon_value RelUpon_skip RelUpon_enter BigFrame.eval_const BigFrame.eval_global BigFrame.eval_func

theorem wpList_copyT {α : Type} {W : World} {ops : Array Oper} {rest : List Oper} {o : Oper} {a : Act} {Q : Exit → Act → World → Prop} (hgd : o.guard = none) (s x : Operand) (t : TypeId)
    (ho : o.op = .call { callee := .builtin .append, args := #[s, x], argTypes := #[t, t] })
    (e : TypeId) (i : TypeInfo) (z : Value) (size bytes : Nat) (ht : Tryz.prog.underlying t = some (.slice e)) (hi : Tryz.prog.info? e = some i) (hz : i.zero = some z)
    (hsize : i.size = size) (hby : i.bytes = bytes) (hzs : z.cells.size = size) (hsz : 0 < size) (hb1 : bytes ≤ 1000)
    (enc : α → List Value) (hk : ∀ x, (enc x).length = size) (h1 : ∀ x, ∀ u ∈ enc x, u.oneCell' = true)
    (hs : a.eval s = .slice (some ⟨W.heap.size, 0, none⟩) 0 0) (A : Option Addr) (n ca : Nat) (xs : List α) (hx : a.eval x = .slice A n ca) (hn : xs.length = n) (hA : RowsAt size enc W A xs) (h6 : n ≤ 1000) (hnil : A = none → ca = 0)
    (h : ∀ A' c' w', RowsAt size enc w' A' xs → Ext W w' → (∀ b o, A' = some ⟨b, o, none⟩ → W.heap.size ≤ b) → (A' = none → c' = 0) → (∀ b o, A' = some ⟨b, o, none⟩ → ∃ cu, Blk w' b e cu) → wpList Tryz.prog ops Q rest (a.put o.dst (.slice A' n c')) w') :
    wpList Tryz.prog ops Q (o :: rest) a (W.alloc (.cells #[] e)) := by
  have hown : (W.alloc (.cells #[] e)).ownsRow W.heap.size e size (.slice (some ⟨W.heap.size, 0, none⟩) 0 0) 0 [] :=
    ⟨by simp, .inr ⟨W.heap.size, 0, #[], rfl, Nat.le_refl _, Blk.new W e #[], Nat.le_refl _, by unfold maxLen; omega, by simp, by simp⟩⟩
  cases A with
  | none =>
    obtain rfl : xs = [] := by
      cases xs with
      | nil => rfl
      | cons x l => obtain ⟨b, o, h, _⟩ := hA.2 0 x rfl; cases h
    obtain rfl := hnil rfl
    obtain rfl : n = 0 := by simpa using hn.symm
    refine wpList_append_own_none hgd s x t ho W.heap.size e i size ht hi _ _ _ hs hown hx ?_
    exact h _ _ _ ⟨by simp, fun i x hx => by simp at hx⟩ (Ext.alloc _ _) (fun b o hb => by simp at hb; omega) (fun h => by cases h) (fun b o hb => by simp at hb; obtain ⟨rfl, rfl⟩ := hb; exact ⟨_, Blk.new W e #[]⟩)
  | some ad =>
    have hnews : ∀ j u, (xs.flatMap enc)[j]? = some u → (W.alloc (.cells #[] e)).cell? (ad.add j) = some u := fun j u hu => by
      obtain ⟨s, hs, hj⟩ := flat_idx (k := size) (enc := enc) hsz hk xs j u hu
      obtain ⟨b, o, e', _, hc⟩ := hA.2 _ s hs
      obtain rfl : ad = ⟨b, o, none⟩ := by simpa using e'
      have := (Ext.alloc W (.cells #[] e)).cell (hc _ _ hj)
      have hdm := Nat.div_add_mod j size
      rw [Nat.mul_comm] at hdm
      rw [WideShapes.add_plain, show o + j = o + j / size * size + j % size by omega]; exact this
    refine wpList_append_own _ hgd s x t ho W.heap.size e i z size bytes ht hi hz hsize hby hzs hsz _ _ _ hs hown ad n ca (xs.flatMap enc) hx (by rw [flat_lenG hk, hn]) hnews (flat_one h1 xs) (by unfold maxLen; omega) (by
      have := Nat.mul_le_mul h6 hb1
      rw [Nat.zero_add]; omega) (by simp) ?_
    intro v' w1 hown' hgrow hnone
    have hE : Ext W w1 := Ext.grownBy (Ext.alloc W _) hgrow (fun g hg => own_base hown hg)
    obtain ⟨A', c', hv'⟩ := own_slice hown'
    rw [Nat.zero_add] at hv'
    subst hv'
    rw [Nat.zero_add, List.nil_append] at hown'
    refine h A' c' w1 (rows_own hn hk hown' (by omega)) hE (fun b o hb => own_base hown' (by rw [hb]; rfl)) (fun hA' => ?_) (fun b o hb => ?_)
    · rcases hown'.2 with ⟨h2, _⟩ | ⟨g, cap, cu, h2, _⟩
      · exact (by simpa using h2 : A' = none ∧ n = 0 ∧ c' = 0).2.2
      · rw [hA'] at h2; simp at h2
    · rcases hown'.2 with ⟨h2, _⟩ | ⟨g, cap, cu, h2, _, hh, _⟩
      · rw [hb] at h2; simp at h2
      · rw [hb] at h2
        have h3 : b = g := by
          have := congrArg (fun v => match v with | Value.slice (some a) _ _ => a.block | _ => 0) h2
          simpa using this
        subst h3
        exact ⟨cu, hh⟩

set_option maxRecDepth 100000 in
set_option maxHeartbeats 1000000 in
theorem cloneInts_any {A : Option Addr} {n ca : Nat} {xs : List Int} {w : World} (hn : xs.length = n) (hA : RowsAt 1 I1 w A xs) (h6 : n ≤ 1000) (hnil : A = none → ca = 0) :
    Calls Tryz.prog 102 #[.slice A n ca] w fun e w' => ∃ A' c', e = .returned (.slice A' n c') ∧ RowsAt 1 I1 w' A' xs ∧ (A' = none → c' = 0) ∧ (∀ b o, A' = some ⟨b, o, none⟩ → w.heap.size ≤ b ∧ ∃ cu, Blk w' b 3 cu) ∧ Ext w w' := by
  obtain ⟨i0, hi0, hz0, ha0, hb0⟩ := info_parts infoI1G
  have I0 := Lib.hid hz0
  have q22 : ∀ (w : World) (a : Option Addr) (n c n' c' : Nat), (binOp .eql 22 (.slice a n c) (.slice none n' c')).run Tryz.prog w = .ok (.bool a.isNone) w := fun w a n c n' c' => Lib.run_eql_slice_nil w _ _ a n c n' c' Tryz.underlying22
  cases A with
  | none =>
    obtain rfl := hnil rfl
    obtain rfl : xs = [] := by
      cases xs with
      | nil => rfl
      | cons x l => obtain ⟨b, o, h, -⟩ := row_I1 hA (i := 0) (by simp); cases h
    obtain rfl : n = 0 := by simpa using hn.symm
    go_enter Tryz.func102, Tryz.ntmps102
    go_wp2
    go_ret
    exact ⟨none, 0, rfl, ⟨by simp, fun i x hx => by simp at hx⟩, fun _ => rfl, (fun b o h => by cases h), Ext.refl _⟩
  | some ad =>
    have HN := Lib.hid hn
    have HA := Lib.hid hA
    clear hn hA hnil hz0
    go_enter Tryz.func102, Tryz.ntmps102
    go_wp2_with (at_builtin; refine wpList_copyT rfl _ _ 22 rfl 3 i0 (.int .i64 0) 1 8 (by kernel_rfl) hi0 I0.out ha0 hb0 rfl (by decide) (by decide) I1 (fun _ => rfl) I1_one rfl (some ad) n ca xs rfl HN.out HA.out (by omega) (fun h => by cases h) ?_; intro A' c' V0 hro hx hlo hnl hty; have XR := Lib.hid hro; have XX := Lib.hid hx; have XL := Lib.hid hlo; have LN := Lib.hid hnl; have TY := Lib.hid hty; clear hro hlo hnl hx hty)
    go_ret
    exact ⟨A', c', rfl, XR.out, LN.out, fun b o hb => ⟨XL.out b o hb, TY.out b o hb⟩, XX.out⟩
def BldC (base : Nat) (L : Int) (js : List Int) (n : Nat) (v : Value) (W : World) : Prop := ∃ A c, v = .agg #[.int .i64 L, .slice A n c, .slice none 0 0] ∧ RowsAt 1 I1 W A js ∧ (A = none → c = 0) ∧ ∀ b o, A = some ⟨b, o, none⟩ → base ≤ b ∧ ∃ cu, Blk W b 3 cu
theorem BldC.ext {base : Nat} {L : Int} {js : List Int} {n : Nat} {v : Value} {W W' : World} (h : BldC base L js n v W) (e : Ext W W') : BldC base L js n v W' := by
  obtain ⟨A, c, h1, h2, h3⟩ := h
  exact ⟨A, c, h1, h2.ext e, h3.1, fun b o hb => ⟨(h3.2 b o hb).1, (h3.2 b o hb).2.imp fun _ k => k.ext e⟩⟩
def CloC (base : Nat) (js : List Int) (n : Nat) (v : Value) (W : World) : Prop := ∃ A c, v = .slice A n c ∧ RowsAt 1 I1 W A js ∧ (A = none → c = 0) ∧ ∀ b o, A = some ⟨b, o, none⟩ → base ≤ b ∧ ∃ cu, Blk W b 3 cu
theorem CloC.ext {base : Nat} {js : List Int} {n : Nat} {v : Value} {W W' : World} (h : CloC base js n v W) (e : Ext W W') : CloC base js n v W' := by
  obtain ⟨A, c, h1, h2, h3⟩ := h
  exact ⟨A, c, h1, h2.ext e, h3.1, fun b o hb => ⟨(h3.2 b o hb).1, (h3.2 b o hb).2.imp fun _ k => k.ext e⟩⟩

theorem step_call {P : Program} {ops : Array Oper} {o : Oper} {a : Act} {w : World} {K : Act → World → Prop} {Q : Exit → Act → World → Prop} {E : Prop} (hgd : o.guard = none) (g : FuncId) (args : Array Value) (hr : (execOp a.eval o).run P w = .ok (.enter g args) w)
    (h : Calls P g args w fun e w' => ∃ v, e = .returned v ∧ K (a.put o.dst v) w') : if Region.wanted o (yielded ops a.tmps) = true then Oper.wp P o a w K Q else E := by
  have hw : Region.wanted o (yielded ops a.tmps) = true := by simp [Region.wanted, hgd]
  rw [if_pos hw]
  unfold Oper.wp
  rw [hr]
  simp only [Oper.upon]
  refine Calls.mono h ?_
  rintro e W ⟨v, rfl, hk⟩
  exact hk

/-- The first k kinks, changed. -/
def growF (F : Nat → Rg → Rg) (ks : List Rg) : Nat → List Value
  | 0 => []
  | k + 1 => growF F ks k ++ Rg.enc (F k (ks.getD k default))
def kinkL (F : Nat → Rg → Rg) (ks : List Rg) (n : Nat) : List Rg := (List.range n).map fun k => F k (ks.getD k default)
theorem growF_eq (F : Nat → Rg → Rg) (ks : List Rg) : ∀ k, growF F ks k = (kinkL F ks k).flatMap Rg.enc
  | 0 => rfl
  | k + 1 => by
    rw [growF, growF_eq F ks k]
    simp [kinkL, List.range_succ, List.flatMap_append]
theorem rows_blk {α : Type} {k T : Nat} {enc : α → List Value} {V W : World} {A : Option Addr} {xs : List α} {cu : Array Value} (h : RowsAt k enc V A xs) (hV : ∀ b o, A = some ⟨b, o, none⟩ → Blk V b T cu) (hW : ∀ b o, A = some ⟨b, o, none⟩ → Blk W b T cu) : RowsAt k enc W A xs :=
  ⟨h.1, fun i x hx => by
    obtain ⟨b, o, hA, hb, hc⟩ := h.2 i x hx
    refine ⟨b, o, hA, (hW b o hA).lt, fun j u hu => ?_⟩
    rw [(hW b o hA).cell, ← (hV b o hA).cell]
    exact hc j u hu⟩

set_option maxRecDepth 100000 in
set_option maxHeartbeats 1000000 in
theorem kinked127_any {L : Int} {J K : Option Addr} {n cj ck : Nat} {js : List Int} {ks : List Rg} {w : World} (hn : js.length = n) (hJ : RowsAt 1 I1 w J js) (hm : ks.length = n) (hK : RowsAt 2 Rg.enc w K ks) {cp : Array Value} {F : Nat → Rg → Rg} (hjn : J = none → cj = 0) (hn6 : n ≤ 100)
    (hG : ∀ k x W, k < n → ks.getD k default = x → Ext w W → Calls Tryz.prog 96 (#[.int .i64 (k : Int), .agg #[.int .i64 x.1, .int .i64 x.2]] ++ cp) W fun e w' => e = .returned (.agg #[.int .i64 (F k x).1, .int .i64 (F k x).2]) ∧ Ext W w') :
    Calls Tryz.prog 95 #[.agg #[.int .i64 L, .slice J n cj, .slice K n ck], .func (.func 96) #[] cp] w fun e w' => ∃ v, e = .returned v ∧ ShC w.heap.size L js (kinkL F ks n) n n v w' ∧ Ext w w' := by
  have HCL := Lib.hid (fun W (e : Ext w W) => cloneInts_any (ca := cj) hn (hJ.ext e) (by omega) hjn)
  have HG := Lib.hid hG
  have HK := Lib.hid hK
  have HM := Lib.hid hm
  obtain ⟨i33, hi33, hz33, hy33, hw33⟩ := info_parts infoRgG
  have HZ33 := Lib.hid hz33
  clear hn hJ hm hK hG hjn hz33
  obtain ⟨W0, hW0⟩ : ∃ W0, W0 = (w.alloc (.cells #[.int .i64 L, .slice J n cj, .slice K n ck] 75)).alloc (.cells #[.int .i64 0, .slice none 0 0, .slice none 0 0] 75) := ⟨_, rfl⟩
  have K0 := Lib.hid (show Blk W0 (w.heap.size) 75 #[.int .i64 L, .slice J n cj, .slice K n ck] by rw [hW0]; exact (Blk.new _ _ _).alloc _)
  have K1 := Lib.hid (show Blk W0 (w.heap.size + 1) 75 #[.int .i64 0, .slice none 0 0, .slice none 0 0] by rw [hW0]; exact Blk.newAt _ _ _ (by simp))
  have E0 := Lib.hid (show Ext w W0 by rw [hW0]; exact (Ext.alloc _ _).trans (Ext.alloc _ _))
  have y0_0 : W0.cell? ⟨w.heap.size, 0, none⟩ = some (.int .i64 L) := K0.out.cell 0
  have y0_1 : W0.cell? ⟨w.heap.size, 1, none⟩ = some (.slice J n cj) := K0.out.cell 1
  have y0_2 : W0.cell? ⟨w.heap.size, 2, none⟩ = some (.slice K n ck) := K0.out.cell 2
  have y1_0 : W0.cell? ⟨w.heap.size + 1, 0, none⟩ = some (.int .i64 0) := K1.out.cell 0
  have y1_1 : W0.cell? ⟨w.heap.size + 1, 1, none⟩ = some (.slice none 0 0) := K1.out.cell 1
  have y1_2 : W0.cell? ⟨w.heap.size + 1, 2, none⟩ = some (.slice none 0 0) := K1.out.cell 2
  have HSZ := Lib.hid (show W0.heap.size = w.heap.size + 2 by rw [hW0]; simp)
  go_enter Tryz.func95, Tryz.ntmps95
  go_wp2
  rw [← hW0]
  clear hW0
  go_wp2
  refine wp_region_free [.op, .op, .op, .op, .op, .op, .op, .op, .new, .store] [9] [5, 15] [5] [some 8, some 9, some 10, some 11, some 12, some 13, some 14, some 15, some 5, none] [[2], [8], [9], [2], [11], [12], [13], [10, 14], [], [5, 15]]
    [Is (.pointer (some ⟨w.heap.size, 0, none⟩)), Is (.pointer (some ⟨w.heap.size, 0, none⟩)), Is (.int .i64 (L)), Is (.pointer (some ⟨w.heap.size, 0, none⟩)), Is (.pointer (some ⟨w.heap.size, 1, none⟩)), Is (.slice J n cj), CloC (w.heap.size + 2) js n, BldC (w.heap.size + 2) L js n, NewP W0.heap.size 25 #[.int .i64 0, .slice none 0 0, .slice none 0 0], fun _ _ => True]
    (by kernel_rfl) (by kernel_rfl) (by kernel_rfl) (by kernel_rfl) (by kernel_rfl) (by kernel_rfl) (by kernel_rfl) (by kernel_rfl) (by kernel_rfl) Ext (fun W => Ext W0 W)
    (fun W _ => Ext.refl W) (fun W W' h k => h.trans k) (fun W W' h => h.size) ?_ (Ext.drew _) ?_ ?_
  · repeat (refine ⟨fun _ _ _ _ k h => (by first | exact h | exact (by first | exact IntsAt.ext h k | exact NewP.ext h k | exact CloC.ext h k | exact BldC.ext h k)), ?_⟩)
    exact trivial
  · refine ⟨?_, ?_, ?_, ?_, ?_, ?_, ?_, ?_, ?_, trivial⟩
    · intro ρ W ⟨kc, kg, kf⟩ hF hs
      obtain ⟨h0, -⟩ := hs
      replace h0 : ρ (.tmp 2) = .pointer (some ⟨w.heap.size, 0, none⟩) := h0
      go_simp
      exact ⟨Ext.refl _, rfl⟩
    · intro ρ W ⟨kc, kg, kf⟩ hF hs
      obtain ⟨h0, -⟩ := hs
      replace h0 : ρ (.tmp 8) = .pointer (some ⟨w.heap.size, 0, none⟩) := h0
      go_simp
      exact ⟨Ext.refl _, rfl⟩
    · intro ρ W ⟨kc, kg, kf⟩ hF hs
      obtain ⟨h0, -⟩ := hs
      replace h0 : ρ (.tmp 9) = .pointer (some ⟨w.heap.size, 0, none⟩) := h0
      have hc0 : W.cell? ⟨w.heap.size, 0, none⟩ = some (.int .i64 (L)) := hF.cell (by assumption)
      go_simp
      exact ⟨Ext.refl _, rfl⟩
    · intro ρ W ⟨kc, kg, kf⟩ hF hs
      obtain ⟨h0, -⟩ := hs
      replace h0 : ρ (.tmp 2) = .pointer (some ⟨w.heap.size, 0, none⟩) := h0
      go_simp
      exact ⟨Ext.refl _, rfl⟩
    · intro ρ W ⟨kc, kg, kf⟩ hF hs
      obtain ⟨h0, -⟩ := hs
      replace h0 : ρ (.tmp 11) = .pointer (some ⟨w.heap.size, 0, none⟩) := h0
      go_simp
      exact ⟨Ext.refl _, rfl⟩
    · intro ρ W ⟨kc, kg, kf⟩ hF hs
      obtain ⟨h0, -⟩ := hs
      replace h0 : ρ (.tmp 12) = .pointer (some ⟨w.heap.size, 1, none⟩) := h0
      have hc0 : W.cell? ⟨w.heap.size, 1, none⟩ = some (.slice J n cj) := hF.cell (by assumption)
      go_simp
      exact ⟨Ext.refl _, rfl⟩
    · intro ρ W ⟨kc, kg, kf⟩ hF hs
      obtain ⟨h0, -⟩ := hs
      replace h0 : ρ (.tmp 13) = .slice J n cj := h0
      go_simp
      refine (HCL.out _ (E0.out.trans hF)).mono ?_; rintro e w' ⟨A', c', rfl, hr, hn1, hl1, hx⟩; exact ⟨_, rfl, hx, A', c', rfl, hr, hn1, fun b o hb => ⟨by have := HSZ.out; have := hF.size; have := (hl1 b o hb).1; omega, (hl1 b o hb).2⟩⟩
    · intro ρ W ⟨kc, kg, kf⟩ hF hs
      obtain ⟨h0, h1, -⟩ := hs
      replace h0 : ρ (.tmp 10) = .int .i64 (L) := h0
      replace h1 : (CloC (w.heap.size + 2) js n) (ρ (.tmp 14)) W := h1
      obtain ⟨A1, c1, e1, r1, n1, b1⟩ := h1
      replace e1 : ρ (.tmp 14) = .slice A1 n c1 := e1
      go_simp
      exact ⟨Ext.refl _, A1, c1, rfl, r1, n1, b1⟩
    · intro ρ W ⟨kc, kg, kf⟩ hF hs
      exact ⟨W.alloc (.cells #[.int .i64 0, .slice none 0 0, .slice none 0 0] 25), (by go_simp), by simp, Ext.alloc _ _, _, rfl, hF.size, Blk.new _ _ _⟩
  · intro fv U hF hs hap σ hσ ρ ⟨kc, kg, kf⟩ hr
    obtain ⟨-, -, -, -, -, -, -, h15, h5, -⟩ := hs
    replace h15 : (BldC (w.heap.size + 2) L js n) (fv 15) U := h15
    replace h5 : (NewP W0.heap.size 25 #[.int .i64 0, .slice none 0 0, .slice none 0 0]) (fv 5) U := h5
    obtain ⟨r0, r1, -⟩ := hr
    replace r0 : ρ (.tmp 5) = fv 5 := r0
    replace r1 : ρ (.tmp 15) = fv 15 := r1
    obtain ⟨J2, c2, hv15, hr15, hn15, hb15⟩ := h15
    rw [hv15] at r1
    obtain ⟨q5, hq5, hqs5, hb5⟩ := h5
    rw [hq5] at r0
    have f5_0 := hb5.free 0
    have c5_0 : U.cell? ⟨q5, 0, none⟩ = some (.int .i64 0) := hb5.cell 0
    have f5_1 := hb5.free 1
    have c5_1 : U.cell? ⟨q5, 1, none⟩ = some (.slice none 0 0) := hb5.cell 1
    have f5_2 := hb5.free 2
    have c5_2 : U.cell? ⟨q5, 2, none⟩ = some (.slice none 0 0) := hb5.cell 2
    refine stores_one _ rfl hσ (((U.setCell ⟨q5, 0, none⟩ (.int .i64 L)).setCell ⟨q5, 1, none⟩ (.slice J2 n c2)).setCell ⟨q5, 2, none⟩ (.slice none 0 0)) (by go_simp) ?_
    obtain ⟨V, hV⟩ : ∃ Vx, Vx = ((U.setCell ⟨q5, 0, none⟩ (.int .i64 L)).setCell ⟨q5, 1, none⟩ (.slice J2 n c2)).setCell ⟨q5, 2, none⟩ (.slice none 0 0) := ⟨_, rfl⟩
    rw [← hV]
    have K5 := Lib.hid (show Blk V q5 25 #[.int .i64 L, .slice J2 n c2, .slice none 0 0] by rw [hV]; exact ((hb5.setSame 0 _).setSame 1 _).setSame 2 _)
    have XN := Lib.hid (show Ext W0 V by rw [hV]; exact Ext.set (Ext.set (Ext.set hF (by dsimp only; exact hqs5) _) (by dsimp only; exact hqs5) _) (by dsimp only; exact hqs5) _)
    have L5 := Lib.hid hqs5
    have hne15 : ∀ b o, J2 = some ⟨b, o, none⟩ → b ≠ q5 := fun b o hb he => by obtain ⟨_, cu, hcu⟩ := hb15 b o hb; rw [he] at hcu; unfold Blk at hcu; have h2 : U.heap[q5]? = _ := hb5; rw [h2] at hcu; simp at hcu
    have HJ2 := Lib.hid (show RowsAt 1 I1 V J2 js by rw [hV]; exact rows_setOther (rows_setOther (rows_setOther hr15 hne15 _) hne15 _) hne15 _)
    have HJN := Lib.hid hn15
    have HJB := Lib.hid (fun b o hb => (hb15 b o hb).1)
    have HTY := Lib.hid (show ∀ b o, J2 = some ⟨b, o, none⟩ → ∃ cu, Blk V b 3 cu from fun b o hb => by obtain ⟨_, cu, hcu⟩ := hb15 b o hb; exact ⟨cu, by rw [hV]; exact ((hcu.setOther (hne15 b o hb) _).setOther (hne15 b o hb) _).setOther (hne15 b o hb) _⟩)
    clear hr15 hn15 hb15 hv15 hne15
    clear f5_0 c5_0 f5_1 c5_1 f5_2 c5_2
    clear hV hF hap hσ r0 r1 kc kg kf hb5 hqs5
    simp only [fin, List.filterMap]
    go_simp
    try rw [hq5]
    clear hq5
    clear ρ σ 
    have X := Lib.hid (E0.out.trans XN.out)
    replace K0 := Lib.hid (K0.out.ext XN.out)
    replace K1 := Lib.hid (K1.out.ext XN.out)
    clear y0_0 y0_1 y0_2 y1_0 y1_1 y1_2 E0
    obtain ⟨base, hbase⟩ : ∃ b, b = V.heap.size := ⟨_, rfl⟩
    have NB := Lib.hid (show q5 < base ∧ w.heap.size + 1 < base ∧ w.heap.size + 2 ≤ q5 by have := K5.out.lt; have := K1.out.lt; have := L5.out; have := HSZ.out; omega)
    obtain ⟨cu0, hcu0⟩ : ∃ cu0, ∀ b o, J2 = some ⟨b, o, none⟩ → Blk V b 3 cu0 := by
      by_cases h : ∃ b o, J2 = some ⟨b, o, none⟩
      · obtain ⟨b, o, h⟩ := h
        obtain ⟨cu, hcu⟩ := HTY.out b o h
        exact ⟨cu, fun b' o' h' => by rw [h] at h'; obtain ⟨rfl, rfl⟩ := (by simpa using h' : b = b' ∧ o = o'); exact hcu⟩
      · exact ⟨#[], fun b o hb => absurd ⟨b, o, hb⟩ h⟩
    have HCV := Lib.hid hcu0
    clear hcu0 HTY XN
    have z2 : V.cell? ⟨w.heap.size, 2, none⟩ = some (.slice K n ck) := K0.out.cell 2
    go_wp2
    clear z2
    go_loopw [20] (fun i wr => ∃ (k c : Nat) (R : Option Addr), k ≤ n ∧ i = .int .i64 (k : Int) ∧ Ext w wr ∧ base ≤ wr.heap.size ∧ Blk wr w.heap.size 75 #[.int .i64 L, .slice J n cj, .slice K n ck] ∧ Blk wr (w.heap.size + 1) 75 #[.int .i64 0, .slice none 0 0, .slice none 0 0] ∧ Blk wr q5 25 #[.int .i64 L, .slice J2 n c2, .slice R k c] ∧ (∀ b o, J2 = some ⟨b, o, none⟩ → Blk wr b 3 cu0) ∧ wr.ownsRow base 49 2 (.slice R k c) k (growF F ks k)) (fun i _ => n - (intOf i).toNat)
    case atStart => exact ⟨0, 0, none, by omega, rfl, X.out, by omega, K0.out, K1.out, K5.out, HCV.out, own_none _ _ _ _⟩
    case round =>
      clear X K0 K1 K5
      obtain ⟨k, c, R, hk, rfl, hx, hsz, k0, k1, k5, hcr, hown⟩ := hrel
      have X := Lib.hid hx
      have SZ := Lib.hid hsz
      have K0 := Lib.hid k0
      have K1 := Lib.hid k1
      have KB := Lib.hid k5
      have CR := Lib.hid hcr
      have O := Lib.hid hown
      clear hx hsz k0 k1 k5 hcr hown
      by_cases hlt : k < n
      · obtain ⟨kb, ko, rfl, hkb, hc0, hc1⟩ := row_Rg (HK.out.ext X.out) (i := k) (by have := HM.out; omega)
        have HC := Lib.hid (fun W (e : Ext w W) => HG.out k _ W hlt rfl e)
        have HS := Lib.hid (show growF F ks (k + 1) = growF F ks k ++ Rg.enc (F k (ks.getD k default)) from rfl)
        generalize ks.getD k default = x at *
        have hki : (k : Int) < (n : Int) := by omega
        have hnb : n ≤ 1152921504606846976 := by omega
        obtain ⟨q7, hq⟩ : ∃ q, q = wr.heap.size := ⟨_, rfl⟩
        obtain ⟨W1, hW1⟩ : ∃ W, W = wr.alloc (.cells #[.int .i64 x.1, .int .i64 x.2] 49) := ⟨_, rfl⟩
        have E1 := Lib.hid (show Ext wr W1 by rw [hW1]; exact Ext.alloc _ _)
        have K7 := Lib.hid (show Blk W1 q7 49 #[.int .i64 x.1, .int .i64 x.2] by rw [hW1, hq]; exact Blk.new _ _ _)
        have y2 : wr.cell? ⟨w.heap.size, 2, none⟩ = some (.slice (some ⟨kb, ko, none⟩) n ck) := K0.out.cell 2
        go_upto_region 5 with (fail)
        rw [← hW1, ← hq]
        clear y2 hc0 hc1
        have X1 := Lib.hid (X.out.trans E1.out)
        have NQ5 := Lib.hid (own_notBlk O.out KB.out (by decide))
        have NQ7 := Lib.hid (show some q7 ≠ (Value.slice R k c).ownBlock from fun h => by
          rcases O.out.2 with ⟨h2, _⟩ | ⟨g, cap, cu, h2, _, hh, _⟩
          · rw [h2] at h; simp [Value.ownBlock] at h
          · rw [h2] at h; simp [Value.ownBlock] at h; have := (show Blk wr g 49 cu from hh).lt; omega)
        have N0 := Lib.hid (own_notBlk O.out K0.out (by decide))
        have N1 := Lib.hid (own_notBlk O.out K1.out (by decide))
        have NC := Lib.hid (fun b o hb => own_notBlk O.out (CR.out b o hb) (by decide))
        have NC5 := Lib.hid (show ∀ b o, J2 = some ⟨b, o, none⟩ → b ≠ q5 from fun b o hb he => by have h1 := CR.out b o hb; rw [he] at h1; have h2 := KB.out; unfold Blk at h1 h2; rw [h2] at h1; simp at h1)
        clear hW1 hq
        replace O := Lib.hid (own_ext O.out E1.out)
        replace KB := Lib.hid (KB.out.ext E1.out)
        have SZ1 := Lib.hid (show base ≤ W1.heap.size by have := E1.out.size; have := SZ.out; omega)
        have y5 : W1.cell? ⟨q5, 2, none⟩ = some (.slice R k c) := KB.out.cell 2
        have y7 : W1.cell? ⟨q7, 0, none⟩ = some (.int .i64 x.1) := K7.out.cell 0
        have y8 : W1.cell? ⟨q7, 1, none⟩ = some (.int .i64 x.2) := K7.out.cell 1
        go_region_law
          (first
            | (refine step_call (by rfl) 96 (#[.int .i64 (k : Int), .agg #[.int .i64 x.1, .int .i64 x.2]] ++ cp) (by go_simp) ?_; refine (HC.out _ (by first | exact X1.out | exact X1.out.trans (Ext.drew _))).mono ?_; rintro e wc ⟨rfl, hxc0⟩; refine ⟨_, rfl, ?_⟩; have hxc : Ext W1 wc := (by first | exact hxc0 | exact (Ext.drew _).trans hxc0); have zc : wc.cell? ⟨q5, 2, none⟩ = some (.slice R k c) := (KB.out.ext hxc).cell 2; have zca : ∀ o, (wc.alloc o).cell? ⟨q5, 2, none⟩ = some (.slice R k c) := fun o => ((KB.out.ext hxc).alloc o).cell 2; have zx0 : wc.cell? ⟨q7, 0, none⟩ = some (.int .i64 x.1) := hxc.cell y7; have zx1 : wc.cell? ⟨q7, 1, none⟩ = some (.int .i64 x.2) := hxc.cell y8)
            | (refine step_append_lies _ (by rfl) _ _ _ (by rfl) base 49 i33 _ 2 16 Tryz.underlying23 hi33 HZ33.out hy33 hw33 rfl (by omega) (.slice R k c) k (growF F ks k) (by rfl) (own_ext O.out (hxc.trans (Ext.alloc _ _))) ⟨wc.heap.size, 0, none⟩ 1 1 [.int .i64 (F k x).1, .int .i64 (F k x).2] (by rfl) (by rfl) (World.news_of_block (cs := #[.int .i64 (F k x).1, .int .i64 (F k x).2]) (t := 49) (fr := (0, 0)) (heap_alloc_new wc _)) (by simp [Value.oneCell']) (by omega) (by unfold maxLen; omega) (by omega) (by have := hxc.size; have := SZ1.out; simp; omega) (wc.heap.size + 1) (by simp) ?_; intro g54 c54 w54 hown54 hg54 hat54 hlt54; have k5' : Blk w54 q5 25 #[.int .i64 L, .slice J2 n c2, .slice R k c] := (hg54.block _ (((KB.out.ext hxc).alloc _).lt) NQ5.out).trans ((KB.out.ext hxc).alloc _); have f5 := k5'.free 2; have z5 : w54.cell? ⟨q5, 2, none⟩ = some (.slice R k c) := k5'.cell 2; have k7' : Blk w54 q7 49 #[.int .i64 x.1, .int .i64 x.2] := (hg54.block _ (((K7.out.ext hxc).alloc _).lt) NQ7.out).trans ((K7.out.ext hxc).alloc _)))
        all_goals
          have X54 := Lib.hid (show Ext w w54 from Ext.grownBy (X1.out.trans (hxc.trans (Ext.alloc _ _))) hg54 (fun g hg => by have := own_base O.out hg; have := NB.out; omega))
          have K054 := Lib.hid (show Blk w54 w.heap.size 75 #[.int .i64 L, .slice J n cj, .slice (some ⟨kb, ko, none⟩) n ck] from (hg54.block _ (((K0.out.ext (E1.out.trans hxc)).alloc _).lt) N0.out).trans ((K0.out.ext (E1.out.trans hxc)).alloc _))
          have K154 := Lib.hid (show Blk w54 (w.heap.size + 1) 75 #[.int .i64 0, .slice none 0 0, .slice none 0 0] from (hg54.block _ (((K1.out.ext (E1.out.trans hxc)).alloc _).lt) N1.out).trans ((K1.out.ext (E1.out.trans hxc)).alloc _))
          have CR54 := Lib.hid (show ∀ b o, J2 = some ⟨b, o, none⟩ → Blk w54 b 3 cu0 from fun b o hb => (hg54.block _ ((((CR.out b o hb).ext (E1.out.trans hxc)).alloc _).lt) (NC.out b o hb)).trans (((CR.out b o hb).ext (E1.out.trans hxc)).alloc _))
          have S54 := Lib.hid (show base ≤ w54.heap.size by have := hg54.size; have := hxc.size; have := SZ1.out; simp at *; omega)
          have O54 := Lib.hid hown54
          have Q54 := Lib.hid (own_not hown54 (show q5 < base from NB.out.1))
          have K554 := Lib.hid k5'
          clear hown54 hg54 hat54 hlt54 f5 z5 k7' k5'
          go_wp2
          go_roundw
          case rel => exact ⟨k + 1, c54, some ⟨g54, 0, none⟩, by omega, by go_num, Ext.set X54.out (by have := NB.out; dsimp only; omega) _, by simpa using S54.out, K054.out.setOther (by have := NB.out; dsimp only; omega) _, K154.out.setOther (by have := NB.out; dsimp only; omega) _, K554.out.setSame 2 _, fun b o hb => (CR54.out b o hb).setOther (by have := NC5.out b o hb; exact this) _, by rw [HS.out]; exact own_set (p := ⟨q5, 2, none⟩) O54.out Q54.out _⟩
          case measure => simp [intOf]; omega
      · obtain rfl : k = n := by omega
        have hkn : ¬ (k : Int) < (k : Int) := by omega
        have l0 : wr.cell? ⟨q5, 0, none⟩ = some (.int .i64 L) := KB.out.cell 0
        have l1 : wr.cell? ⟨q5, 1, none⟩ = some (.slice J2 k c2) := KB.out.cell 1
        have l2 : wr.cell? ⟨q5, 2, none⟩ = some (.slice R k c) := KB.out.cell 2
        have u0 : wr.cell? ⟨w.heap.size + 1, 0, none⟩ = some (.int .i64 0) := K1.out.cell 0
        have u1 : wr.cell? ⟨w.heap.size + 1, 1, none⟩ = some (.slice none 0 0) := K1.out.cell 1
        have u2 : wr.cell? ⟨w.heap.size + 1, 2, none⟩ = some (.slice none 0 0) := K1.out.cell 2
        have f0 := K1.out.free 0
        have f1 := K1.out.free 1
        have f2 := K1.out.free 2
        have R1 := Lib.hid (rows_blk HJ2.out HCV.out CR.out)
        have R2 := Lib.hid (show RowsAt 2 Rg.enc wr R (kinkL F ks k) from by
          have := O.out
          rw [growF_eq] at this
          exact rows_own (by simp [kinkL]) (fun _ => rfl) this (by omega))
        have B2 := Lib.hid (show ∀ b o, R = some ⟨b, o, none⟩ → base ≤ b from fun b o hb => own_base O.out (by rw [hb]; rfl))
        have N2 := Lib.hid (show R = none → c = 0 from fun hr => by
          rcases O.out.2 with ⟨h2, _⟩ | ⟨g, cap, cu, h2, _⟩
          · simpa using congrArg (fun v => match v with | Value.slice _ _ c => c | _ => 0) h2
          · rw [hr] at h2; simp at h2)
        go_wp2
        exact bodyPost_ret (v := .agg #[.int .i64 L, .slice J2 k c2, .slice R k c]) (by simp [results, Tryz.f95, go_sem, u0, u1, u2]) rfl ⟨_, rfl, ⟨_, _, _, _, rfl, (rows_setOther (rows_setOther (rows_setOther R1.out (fun b o hb => by have := HJB.out b o hb; dsimp only; omega) _) (fun b o hb => by have := HJB.out b o hb; dsimp only; omega) _) (fun b o hb => by have := HJB.out b o hb; dsimp only; omega) _), (rows_setOther (rows_setOther (rows_setOther R2.out (fun b o hb => by have := B2.out b o hb; have := NB.out; dsimp only; omega) _) (fun b o hb => by have := B2.out b o hb; have := NB.out; dsimp only; omega) _) (fun b o hb => by have := B2.out b o hb; have := NB.out; dsimp only; omega) _), HJN.out, N2.out, fun b o hb => by have := HJB.out b o hb; omega, fun b o hb => by have := B2.out b o hb; have := NB.out; omega⟩, (Ext.set (Ext.set (Ext.set X.out (by dsimp only; omega) _) (by dsimp only; omega) _) (by dsimp only; omega) _)⟩

end Go.Proofs.YtjdilmmpdlcimaaGreat
