/- Classes: their copies, their errors. -/
import Derived.Test.YtpaoeghdfeekoaaK30
import Derived.Laws.AppendOwnNone
namespace Go.Proofs.Ytpaoeghdfeekoaa
open Go.RowKit Go.Shelf Go.Mem Go.RegInv
attribute [local go_sem] RelUpon_value RelUpon_skip RelUpon_enter BigFrame.eval_const BigFrame.eval_global BigFrame.eval_func

def ClsV (t : Int) (ls : List Sh) (rs : List G) : Value → World → Prop := fun u W => ∃ A n c R m d, Hid (ls.length = n) ∧ Hid (rs.length = m) ∧ u = .agg #[.int .i64 t, .slice A n c, .slice R m d] ∧ LadAt W A ls ∧ RowsAt 2 G.enc W R rs
theorem ClsV.ext {t : Int} {ls : List Sh} {rs : List G} {u : Value} {W W' : World} (h : ClsV t ls rs u W) (e : Ext W W') : ClsV t ls rs u W' := by
  obtain ⟨A, n, c, R, m, d, h1, h2, h3, h4, h5⟩ := h; exact ⟨A, n, c, R, m, d, h1, h2, h3, h4.ext e, h5.ext e⟩
def EmR (q : Nat) : Value → World → Prop := fun u W => ∃ b, q ≤ b ∧ u = .slice (some ⟨b, 0, none⟩) 0 0 ∧ Blk W b 132 #[]
theorem EmR.ext {q : Nat} {u : Value} {W W' : World} (h : EmR q u W) (e : Ext W W') : EmR q u W' := by
  obtain ⟨b, h1, h2, h3⟩ := h; exact ⟨b, h1, h2, h3.ext e⟩
theorem lad_set {W : World} {A : Option Addr} {ls : List Sh} (h : LadAt W A ls) {g : Nat} {t : TypeId} {cs : Array Value} (hb : Blk W g t cs) (ht : t ≠ 92) (i : Nat) (u : Value) : LadAt (W.setCell ⟨g, i, none⟩ u) A ls := by
  obtain ⟨h1, h2⟩ := h
  refine ⟨⟨h1.1, fun j x hx => ?_⟩, fun b o e => ?_⟩
  · obtain ⟨b, o, e, _, hc⟩ := h1.2 j x hx
    obtain ⟨cs', hb'⟩ := h2 b o e
    have k := hb'.setOther (p := ⟨g, i, none⟩) (set_ne_type hb' hb (fun e => ht e.symm)) u
    exact ⟨b, o, e, k.lt, fun q v hv => by rw [k.cell, ← hb'.cell]; exact hc q v hv⟩
  · obtain ⟨cs', hb'⟩ := h2 b o e
    exact ⟨cs', hb'.setOther (p := ⟨g, i, none⟩) (set_ne_type hb' hb (fun e => ht e.symm)) u⟩

set_option maxRecDepth 100000 in
set_option maxHeartbeats 4000000 in
theorem copyClass_V {t : Int} {A : Option Addr} {n ca : Nat} {ls : List Sh} (hn : ls.length = n) {R : Option Addr} {m cr : Nat} {rs : List G} (hm : rs.length = m) {w : World}
    (hA : RowsAt 3 Sh.enc w A ls) (hR : RowsAt 2 G.enc w R rs) (n6 : n ≤ 6) (m6 : m ≤ 6) (hAn : A = none → ca = 0) (hRn : R = none → cr = 0) :
    Calls Try.prog 73 #[.agg #[.int .i64 t, .slice A n ca, .slice R m cr]] w (VPost w (ClsV t ls rs)) := by
  obtain ⟨i0, hi, hz0, hz1, hz2⟩ := info_parts info132
  have HI0 := Lib.hid hz0
  obtain ⟨W0, hW0⟩ : ∃ W0, W0 = (w.alloc (.cells #[.int .i64 t, .slice A n ca, .slice R m cr] 120)).alloc (.cells #[.int .i64 0, .slice none 0 0, .slice none 0 0] 120) := ⟨_, rfl⟩
  have k0 : Blk W0 w.heap.size 120 #[.int .i64 t, .slice A n ca, .slice R m cr] := by rw [hW0]; exact (Blk.new _ _ _).alloc _
  have k1 : Blk W0 (w.heap.size + 1) 120 #[.int .i64 0, .slice none 0 0, .slice none 0 0] := by rw [hW0]; exact Blk.newAt _ _ _ (by simp)
  have e0 : Ext w W0 := by rw [hW0]; exact (Ext.alloc _ _).trans (Ext.alloc _ _)
  have hsz : W0.heap.size = w.heap.size + 1 + 1 := by rw [hW0]; simp
  have HC1 := Lib.hid (fun W (e : Ext w W) => copyLadder_V (t := t) hn hA n6 hAn W e)
  have K1 := Lib.hid k1
  have E0 := Lib.hid e0
  have HSZ := Lib.hid hsz
  have z0 : W0.cell? ⟨w.heap.size, 0, none⟩ = some (.int .i64 t) := k0.cell 0
  have z1 : W0.cell? ⟨w.heap.size, 1, none⟩ = some (.slice A n ca) := k0.cell 1
  have z2 : W0.cell? ⟨w.heap.size, 2, none⟩ = some (.slice R m cr) := k0.cell 2
  have HM := Lib.hid hm
  have HN := Lib.hid hn
  have HR := Lib.hid hR
  clear hA hR k0 k1 e0 hn hm hAn hz0 hsz
  have main : ∀ (hlast : ∀ (W : World) (b : Nat), Ext W0 W → W0.heap.size ≤ b → Blk W b 132 #[] → ∀ (o : Oper) (ops : Array Oper) (rest : List Oper) (a : Act) (Q : Exit → Act → World → Prop), o.guard = none → o.op = .call { callee := .builtin .append, args := #[.tmp 6, .tmp 8], argTypes := #[99, 99] } → o.type = 99 → a.eval (.tmp 6) = .slice (some ⟨b, 0, none⟩) 0 0 → a.eval (.tmp 8) = .slice R m cr →
      (∀ R' c' w', w'.ownsRow W0.heap.size 132 2 (.slice R' m c') m (rs.flatMap G.enc) → (∀ g t' cs, Blk W g t' cs → t' ≠ 132 → Blk w' g t' cs) → Ext W0 w' → wpList Try.prog ops Q rest (a.put o.dst (.slice R' m c')) w') → wpList Try.prog ops Q (o :: rest) a W), Calls Try.prog 73 #[.agg #[.int .i64 t, .slice A n ca, .slice R m cr]] w (VPost w (ClsV t ls rs)) := by
    intro hlast
    have HLA := Lib.hid hlast
    clear hlast
    go_enter Try.func73, Try.ntmps73
    go_wp2
    rw [← hW0]
    clear hW0
    refine wp_region_partR 6 [some 3, some 4, some 5, some 6, some 7, some 8] [[1], [3], [4], [], [1], [7]]
      [Is (.pointer (some ⟨w.heap.size, 0, none⟩)), Is (.agg #[.int .i64 (t), .slice A n ca]), LadV t ls, EmR W0.heap.size, Is (.pointer (some ⟨w.heap.size, 2, none⟩)), Is (.slice R m cr)]
      (by kernel_rfl) (by kernel_rfl) (by kernel_rfl) (by kernel_rfl) (by kernel_rfl) (by kernel_rfl) (by kernel_rfl) Ext (fun W => Ext W0 W)
      (fun W _ => Ext.refl W) (fun W W' h k => h.trans k) ?_ (Ext.drew _) ?_ ?_
    · repeat (refine ⟨fun _ _ _ _ k h => (by first | exact h | exact (by first | exact LadV.ext h k | exact EmR.ext h k)), ?_⟩)
      exact trivial
    · refine ⟨?_, ?_, ?_, ?_, ?_, ?_, trivial⟩
      all_goals intro ρ W ⟨kc, kg, kf⟩ hF hs
      · obtain ⟨h0, -⟩ := hs
        replace h0 : ρ (.tmp 1) = .pointer (some ⟨w.heap.size, 0, none⟩) := h0
        go_simp
        exact ⟨Ext.refl _, rfl⟩
      · obtain ⟨h0, -⟩ := hs
        replace h0 : ρ (.tmp 3) = .pointer (some ⟨w.heap.size, 0, none⟩) := h0
        have hc0 : W.cell? ⟨w.heap.size, 0, none⟩ = some (.int .i64 (t)) := hF.cell (by assumption)
        have hc1 : W.cell? ⟨w.heap.size, 1, none⟩ = some (.slice A n ca) := hF.cell (by assumption)
        go_simp
        exact ⟨Ext.refl _, rfl⟩
      · obtain ⟨h0, -⟩ := hs
        replace h0 : ρ (.tmp 4) = .agg #[.int .i64 (t), .slice A n ca] := h0
        go_simp
        exact HC1.out W (E0.out.trans hF)
      · go_simp
        exact ⟨Ext.alloc _ _, W.heap.size, hF.size, rfl, Blk.new _ _ _⟩
      · obtain ⟨h0, -⟩ := hs
        replace h0 : ρ (.tmp 1) = .pointer (some ⟨w.heap.size, 0, none⟩) := h0
        go_simp
        exact ⟨Ext.refl _, rfl⟩
      · obtain ⟨h0, -⟩ := hs
        replace h0 : ρ (.tmp 7) = .pointer (some ⟨w.heap.size, 2, none⟩) := h0
        have hc0 : W.cell? ⟨w.heap.size, 2, none⟩ = some (.slice R m cr) := hF.cell (by assumption)
        go_simp
        exact ⟨Ext.refl _, rfl⟩
    · intro fv W1 hF hs
      obtain ⟨-, -, h5, h6, -, h8, -⟩ := hs
      replace h5 : (LadV t ls) (fv 5) W1 := h5
      replace h6 : (EmR W0.heap.size) (fv 6) W1 := h6
      replace h8 : fv 8 = .slice R m cr := h8
      simp only [fin, List.filterMap]
      go_simp
      obtain ⟨b6, hb6, hv6, hk6⟩ := h6
      rw [hv6]
      obtain ⟨A', n', c', hn', hv5, hl5⟩ := h5
      rw [hv5]
      have hx := Lib.hid hF
      have H5 := Lib.hid hl5
      have H6 := Lib.hid hk6
      clear hv6 hv5 hl5 hk6 hF z0 z1 z2
      go_wp2_with
        (refine HLA.out _ b6 hx.out hb6 H6.out _ _ _ _ _ rfl rfl rfl rfl rfl ?_
         intro R' cR w2 hown hkb hxe
         have HO := Lib.hid hown
         have HKB := Lib.hid hkb
         have HXE := Lib.hid hxe
         have k1 := hkb _ _ _ (K1.out.ext hx.out) (by decide)
         have f0 := k1.free 0
         have f1 := k1.free 1
         have f2 := k1.free 2
         have c0' : w2.cell? ⟨w.heap.size + 1, 0, none⟩ = some (.int .i64 0) := k1.cell 0
         have c1' : w2.cell? ⟨w.heap.size + 1, 1, none⟩ = some (.slice none 0 0) := k1.cell 1
         have c2' : w2.cell? ⟨w.heap.size + 1, 2, none⟩ = some (.slice none 0 0) := k1.cell 2
         have S0 := Lib.hid (k1.setSame 0 (.int .i64 t))
         have S1 := Lib.hid (S0.out.setSame 1 (.slice A' n' c'))
         have LK := Lib.hid (show LadAt w2 A' ls from by
           obtain ⟨h1, h2⟩ := H5.out
           refine ⟨⟨h1.1, fun j x hx => ?_⟩, fun b o e => ?_⟩
           · obtain ⟨b, o, e, _, hc⟩ := h1.2 j x hx
             obtain ⟨cs', hb'⟩ := h2 b o e
             have k := hkb _ _ _ hb' (by decide)
             exact ⟨b, o, e, k.lt, fun q v hv => by rw [k.cell, ← hb'.cell]; exact hc q v hv⟩
           · obtain ⟨cs', hb'⟩ := h2 b o e
             exact ⟨cs', hkb _ _ _ hb' (by decide)⟩)
         have K1' := Lib.hid k1
         clear hown hkb hxe k1)
      have hq : w.heap.size + 1 < W0.heap.size := by have := HSZ.out; omega
      have O1 := own_set (p := ⟨w.heap.size + 1, 0, none⟩) HO.out (own_not HO.out hq) (.int .i64 t)
      have O2 := own_set (p := ⟨w.heap.size + 1, 1, none⟩) O1 (own_not O1 hq) (.slice A' n' c')
      have O3 := own_set (p := ⟨w.heap.size + 1, 2, none⟩) O2 (own_not O2 hq) (.slice R' m cR)
      exact bodyPost_ret (v := .agg #[.int .i64 t, .slice A' n' c', .slice R' m cR]) (by simp [results, Try.f73, go_sem, c0', c1', c2']) rfl
        ⟨_, rfl, Ext.set (Ext.set (Ext.set (E0.out.trans HXE.out) (by dsimp only; omega) _) (by dsimp only; omega) _) (by dsimp only; omega) _, A', n', c', R', m, _, hn', HM, rfl,
          lad_set (lad_set (lad_set LK.out K1'.out (by decide) _ _) S0.out (by decide) _ _) S1.out (by decide) _ _,
          rg_own HM.out (by omega) O3⟩
  refine main fun W b e hb6 hb o ops rest a Q hg hop hty he6 he8 hK => ?_
  have hown : W.ownsRow W0.heap.size 132 2 (.slice (some ⟨b, 0, none⟩) 0 0) 0 [] := ⟨rfl, .inr ⟨b, 0, #[], rfl, hb6, hb, Nat.le_refl _, by decide, rfl, rfl⟩⟩
  cases R with
  | none =>
    obtain rfl : rs = [] := by
      cases rs with
      | nil => rfl
      | cons x l => obtain ⟨b, o, h, _⟩ := HR.out.2 0 x rfl; cases h
    obtain rfl := hRn rfl
    obtain rfl : m = 0 := by simpa using HM.out.symm
    exact wpList_append_own_none hg _ _ 99 hop W0.heap.size 132 i0 2 Try.underlying99 hi _ _ _ he6 hown he8 (hK _ _ W hown (fun _ _ _ k _ => k) e)
  | some ad =>
    have hnews : ∀ j u, (rs.flatMap G.enc)[j]? = some u → W.cell? (ad.add j) = some u := fun j u hu => by
      obtain ⟨s, hs, hj⟩ := g_idx rs j u hu
      obtain ⟨b, o, e', _, hc⟩ := HR.out.2 _ s hs
      obtain rfl : ad = ⟨b, o, none⟩ := by simpa using e'
      have := (E0.out.trans e).cell (hc _ _ hj)
      rw [WideShapes.add_plain, show o + j = o + j / 2 * 2 + j % 2 by omega]; exact this
    refine wpList_append_own _ hg _ _ 99 hop W0.heap.size 132 i0 (.agg #[.int .i64 0, .int .i64 0]) 2 16 Try.underlying99 hi HI0.out hz1 hz2 rfl (by decide) _ _ _ he6 hown ad m cr (rs.flatMap G.enc) he8 (by rw [g_len, HM.out]) hnews (g_one rs) (by unfold maxLen; omega) (by omega) e.size ?_
    intro v' w1 hown' hgrow _
    obtain ⟨A', c', hv'⟩ := own_slice hown'
    rw [Nat.zero_add] at hv'
    subst hv'
    rw [Nat.zero_add, List.nil_append] at hown'
    exact hK _ _ _ hown' (fun g t' cs k ht => (hgrow.block _ k.lt (own_notBlk hown k ht)).trans k) (Ext.grownBy e hgrow (fun g hg => own_base hown hg))

end Go.Proofs.Ytpaoeghdfeekoaa
