/- The currents of a ladder. By regen.py. -/
import Derived.Test.YtpaoeghdfeekoaaC7
namespace Go.Proofs.Ytpaoeghdfeekoaa
open Go.RowKit Go.Shelf Go.Mem Go.RegInv
attribute [local go_sem] Oper.semAt_some RelUpon_value RelUpon_skip RelUpon_enter

def curr : List Sh → List G → List G
  | s :: ls, z :: zs => plusG ((curr ls zs).getD 0 ⟨0, 0⟩) s.g z :: curr ls zs
  | _, _ => []
theorem curr_len : ∀ (ls : List Sh) (zs : List G), ls.length = zs.length → (curr ls zs).length = ls.length
  | [], [], _ => rfl
  | s :: ls, z :: zs, h => by simp only [curr, List.length_cons, curr_len ls zs (by simpa using h)]
  | [], z :: zs, h => by simp at h
  | s :: ls, [], h => by simp at h
/-- The current to node k. -/
def curAt (ls : List Sh) (zs : List G) (k : Nat) : G := (curr ls zs).getD k ⟨0, 0⟩
theorem curAt_step : ∀ (ls : List Sh) (zs : List G) (k : Nat) (s : Sh) (z : G), ls[k]? = some s → zs[k]? = some z → curAt ls zs k = plusG (curAt ls zs (k + 1)) s.g z
  | s' :: ls, z' :: zs, 0, s, z, h, h' => by
    obtain rfl : s' = s := by simpa using h
    obtain rfl : z' = z := by simpa using h'
    simp [curAt, curr]
  | s' :: ls, z' :: zs, k + 1, s, z, h, h' => by
    have := curAt_step ls zs k s z (by simpa using h) (by simpa using h')
    simpa [curAt, curr] using this
  | [], _, k, s, z, h, _ => by simp at h
  | _ :: _, [], k, s, z, _, h => by simp at h
theorem curAt_end (ls : List Sh) (zs : List G) (h : ls.length = zs.length) (k : Nat) (hk : ls.length ≤ k) : curAt ls zs k = ⟨0, 0⟩ := by
  simp [curAt, List.getElem?_eq_none (show (curr ls zs).length ≤ k by rw [curr_len ls zs h]; exact hk)]
theorem curAt_bd {ls : List Sh} {zs : List G} (h : ls.length = zs.length) (hok : ∀ s ∈ ls, shOK s) (hb : ∀ z ∈ zs, Bd 300000000 z) : ∀ j k, j + k = ls.length → Bd ((j : Int) * 1200000000) (curAt ls zs k)
  | 0, k, hk => by rw [curAt_end ls zs h k (by omega)]; simp [Bd]
  | j + 1, k, hk => by
    have hs : ls[k]? = some ls[k] := List.getElem?_eq_getElem (by omega)
    have hz : zs[k]? = some zs[k] := List.getElem?_eq_getElem (by omega)
    have h1 := curAt_bd h hok hb j (k + 1) (by omega)
    have h2 := hb _ (List.mem_of_getElem? hz)
    have h3 := (hok _ (List.mem_of_getElem? hs)).1
    rw [curAt_step ls zs k _ _ hs hz]
    have := plus_bd (n := ls[k].g) h1 h2 (by omega) h3.2
    simp only [Bd] at this ⊢
    omega

def CellsFrom (m k : Nat) (cu : Array Value) (z : Nat → G) : Prop := m * 2 ≤ cu.size ∧ ∀ p, k ≤ p → p < m → cu[p * 2]? = some (.int .i64 (z p).re) ∧ cu[p * 2 + 1]? = some (.int .i64 (z p).im)
theorem cellsFrom_set {m k : Nat} {cu : Array Value} {z : Nat → G} (h : CellsFrom m (k + 1) cu z) (hk : k < m) :
    CellsFrom m k ((cu.setIfInBounds (k * 2) (.int .i64 (z k).re)).setIfInBounds (k * 2 + 1) (.int .i64 (z k).im)) z := by
  obtain ⟨hs, hp⟩ := h
  refine ⟨by simp only [Array.size_setIfInBounds]; exact hs, fun p h1 h2 => ?_⟩
  simp only [set_at, Array.size_setIfInBounds]
  by_cases hpk : p = k
  · subst hpk
    refine ⟨?_, ?_⟩
    · rw [if_neg (by omega), if_pos rfl, if_pos (by omega)]
    · rw [if_pos rfl, if_pos (by omega)]
  · obtain ⟨h3, h4⟩ := hp p (by omega) h2
    refine ⟨?_, ?_⟩
    · rw [if_neg (by omega), if_neg (by omega)]; exact h3
    · rw [if_neg (by omega), if_neg (by omega)]; exact h4

theorem wpListIn_make_blk {F : Fence} {n : Nat} {P : Program} (w : World) {ops : Array Oper} {rest : List Oper} {o : Oper} {a : Act} {Q : Exit → Act → World → Prop}
    (hg : o.guard = none) (l c : Operand) (t : TypeId) (hop : o.op = Op.makeSlice t l c)
    (e : TypeId) (i : TypeInfo) (z : Value) (size : Nat) (h1 : P.underlying t = some (.slice e)) (h2 : P.info? e = some i) (h3 : i.zero = some z) (h4 : i.size = size)
    (kl kc : IntKind) (L C : Int) (m : Nat) (hl : a.eval l = .int kl L) (hc : a.eval c = .int kc C) (hL : L = (m : Int)) (hC : C = (m : Int)) (b2 : i.bytes * m ≤ 281474976710656) (b3 : m ≤ 1000)
    (hK : wpListIn F n P ops Q rest (a.put o.dst (.slice (some ⟨w.heap.size, 0, none⟩) m m)) (w.alloc (.cells (madeCells z.cells (m * size)) e))) :
    wpListIn F n P ops Q (o :: rest) a w := by
  refine wpListIn_plain hg fun K hK' => ?_
  subst h4
  have hb' : (i.bytes : Int) * (m : Int) ≤ 281474976710656 := by
    have h : ((i.bytes * m : Nat) : Int) ≤ 281474976710656 := by omega
    rwa [Int.natCast_mul] at h
  have hrun := run_make (P := P) w t e i z h1 h2 h3 kl kc m m (by omega) (Int.le_refl _) hb' (by omega)
  simp only [Int.toNat_natCast] at hrun
  subst hL
  subst hC
  unfold Oper.wpIn
  refine ⟨?_, ?_⟩
  · simp [Oper.about, hop]
  · rw [Oper.semAt_plain F _ _ (by rw [hop]; intro c hc'; cases hc')]
    simp [execOp, hop, hl, hc, hrun, Result.andThen]
    exact hK' _ _ hK

theorem backE_idx (ls : List Sh) (j : Nat) (x : Ix ls) (h : (backE ls)[j]? = some x) : j + 1 + x.1.1 = ls.length := by
  obtain ⟨hj, rfl⟩ := List.getElem?_eq_some_iff.1 h
  rw [backE_length] at hj
  simp only [backE, List.getElem_ofFn]
  omega

set_option maxRecDepth 100000 in
set_option maxHeartbeats 2000000 in
theorem backward_iter (n : Nat) (hn : 1 ≤ n) (Bs n₀ : Nat) (A : Option Addr) (m cap : Nat) (ls : List Sh) (hm : ls.length = m) (W0 : World)
    (hBs : Blk W0 Bs 22 #[.slice A m cap]) (hS : RowsAt 3 Sh.enc W0 A ls) (hA : ∀ b o, A = some ⟨b, o, none⟩ → b < n₀) (hn0 : n₀ ≤ W0.heap.size) :
    IterAt Try.prog n 137 #[] #[.pointer (some ⟨Bs, 0, none⟩)] (encIx (ls := ls)) (backE ls) (KpB n₀ Bs) W0 := by
  intro l J Jx W hck hbw hJ hJx hY h0
  have hmb : m ≤ 1152921504606846976 := by have := hS.1; omega
  have hbs : W.cell? ⟨Bs, 0, none⟩ = some (.slice A m cap) := (hck.blk hBs).cell 0
  have HM := Lib.hid hm
  have HS := Lib.hid hS
  have HA := Lib.hid hA
  have HBW := Lib.hid (hbw.mono hn0)
  have HL := Lib.hid (backE_length ls)
  clear hS hm hA hck hbw hBs
  show CallsIn Fence.wide n Try.prog 137 #[.func (.yield l) #[] #[], .pointer (some ⟨Bs, 0, none⟩)] W _
  refine callsIn_of_wp Try.func137 rfl trivial ?_ rfl
  simp only [Try.ntmps137, List.size_toArray, List.length_cons, List.length_nil, Nat.reduceAdd, Nat.reduceSub, Array.replicate_succ, Array.replicate_zero, List.push_toArray, List.append_toArray, List.nil_append, List.cons_append]
  gi_wp2
  gi_loopw [3] (fun i wr => (i = .int .i64 (-1) ∧ J m wr) ∨ (∃ k : Nat, k < m ∧ i = .int .i64 (k : Int) ∧ J (m - 1 - k) wr ∧ KpB n₀ Bs W wr))
    (fun i _ => (intOf i + 1).toNat)
  case atStart =>
    rcases Nat.eq_zero_or_pos m with h | h
    · left
      subst h
      exact ⟨rfl, h0⟩
    · right
      exact ⟨m - 1, by omega, by go_num, by rw [Nat.sub_self]; exact h0, KpB.refl _ _ _⟩
  case round =>
    rcases hrel with ⟨rfl, hJ'⟩ | ⟨k, hk, rfl, hJ', hkp⟩
    · gi_wp2
      go_end0
      exact ⟨⟨_, rfl⟩, .inl (by rw [HL.out, HM.out]; exact hJ')⟩
    · obtain ⟨s, hs⟩ : ∃ s, ls[k]? = some s := ⟨_, List.getElem?_eq_getElem (by rw [HM.out]; exact hk)⟩
      obtain ⟨b, o, hA', hb, hc⟩ := HS.out.2 k s hs
      have hbn := HA.out b o hA'
      subst hA'
      have hBs' : wr.cell? ⟨Bs, 0, none⟩ = some (.slice (some ⟨b, o, none⟩) m cap) := (World.cell?_of_block (w := W) hkp.2).trans hbs
      have hw : ∀ i, wr.cell? ⟨b, i, none⟩ = W0.cell? ⟨b, i, none⟩ := fun i => (hkp.1.cell (p := ⟨b, i, none⟩) hbn).trans (HBW.out.cell (p := ⟨b, i, none⟩) hbn)
      have hcg : wr.cell? ⟨b, o + k * 3, none⟩ = some (.int .i64 s.g) := (hw _).trans (hc 0 _ rfl)
      have hcc : wr.cell? ⟨b, o + k * 3 + 1, none⟩ = some (.int .i64 s.c) := (hw _).trans (hc 1 _ rfl)
      have hch : wr.cell? ⟨b, o + k * 3 + 2, none⟩ = some (.int .i64 s.h) := (hw _).trans (hc 2 _ rfl)
      have hat := backE_at ls k s hs
      rw [HM.out] at hat
      obtain ⟨fn, tmps, assign, body, hy, hR⟩ := hY _ ⟨(k, s), hs⟩ hat wr hJ'
      dsimp only [encIx] at hy
      clear hc hw hat
      gi_wp2
      refine hR.mono ?_
      rintro e W3 (⟨rfl, hJ3, hk3⟩ | ⟨rfl, hJx3⟩)
      · gi_wp2
        go_roundw
        case rel =>
          rcases Nat.eq_zero_or_pos k with h | h
          · left
            exact ⟨by subst h; go_num, by rw [show m - 1 - k + 1 = m by omega] at hJ3; exact hJ3⟩
          · right
            exact ⟨k - 1, by omega, by go_num, by rw [show m - 1 - (k - 1) = m - 1 - k + 1 by omega]; exact hJ3, hkp.t hk3⟩
        case measure => simp [intOf]
      · gi_wp2
        refine bodyPost_ret (results_none rfl _ _ _) rfl ?_
        exact ⟨⟨_, rfl⟩, .inr hJx3⟩

structure StC (w : World) (t : Int) (A : Option Addr) (m cap g c1 : Nat) (c : Nat → G) (k : Nat) (W : World) : Prop where
  b0 : Blk W w.heap.size 24 #[.int .i64 t, .slice A m cap]
  b1 : Blk W (w.heap.size + 1) 53 #[.slice (some ⟨g, 2, none⟩) m c1]
  b2 : ∃ cu, Blk W (w.heap.size + 1 + 1) 65 cu ∧ CellsFrom m k cu c
  b3 : Blk W (w.heap.size + 1 + 1 + 1) 53 #[.slice (some ⟨w.heap.size + 1 + 1, 0, none⟩) m m]
  b4 : Blk W (w.heap.size + 1 + 1 + 1 + 1) 65 #[.int .i64 (c k).re, .int .i64 (c k).im]
  bs : Blk W (w.heap.size + 1 + 1 + 1 + 1 + 1) 22 #[.slice A m cap]
  below : Below w.heap.size w W
theorem StC.keep {w : World} {t : Int} {A : Option Addr} {m cap g c1 : Nat} {c : Nat → G} {k : Nat} {W W' : World} (h : StC w t A m cap g c1 c k W) (hc : CellsKept W W') (hb : Below w.heap.size W W') : StC w t A m cap g c1 c k W' :=
  ⟨hc.blk h.b0, hc.blk h.b1, by obtain ⟨cu, h1, h2⟩ := h.b2; exact ⟨cu, hc.blk h1, h2⟩, hc.blk h.b3, hc.blk h.b4, hc.blk h.bs, h.below.trans hb⟩
theorem StC.ext {w : World} {t : Int} {A : Option Addr} {m cap g c1 : Nat} {c : Nat → G} {k : Nat} {W W' : World} (h : StC w t A m cap g c1 c k W) (e : Ext W W') : StC w t A m cap g c1 c k W' := h.keep (CellsKept.ext e) (e.mono h.below.size)
theorem StC.step {w : World} {t : Int} {A : Option Addr} {m cap g c1 : Nat} {c : Nat → G} {k : Nat} {W : World} (h : StC w t A m cap g c1 c (k + 1) W) (hk : k < m) {x y : Int} (hx : x = (c k).re) (hy : y = (c k).im) :
    StC w t A m cap g c1 c k ((((W.setCell ⟨w.heap.size + 1 + 1 + 1 + 1, 0, none⟩ (.int .i64 x)).setCell ⟨w.heap.size + 1 + 1 + 1 + 1, 1, none⟩ (.int .i64 y)).setCell ⟨w.heap.size + 1 + 1, k * 2, none⟩ (.int .i64 x)).setCell ⟨w.heap.size + 1 + 1, k * 2 + 1, none⟩ (.int .i64 y)) := by
  have o4 : ∀ {g : Nat} {t : TypeId} {cs : Array Value}, Blk W g t cs → g ≠ w.heap.size + 1 + 1 + 1 + 1 → g ≠ w.heap.size + 1 + 1 → Blk ((((W.setCell ⟨w.heap.size + 1 + 1 + 1 + 1, 0, none⟩ (.int .i64 x)).setCell ⟨w.heap.size + 1 + 1 + 1 + 1, 1, none⟩ (.int .i64 y)).setCell ⟨w.heap.size + 1 + 1, k * 2, none⟩ (.int .i64 x)).setCell ⟨w.heap.size + 1 + 1, k * 2 + 1, none⟩ (.int .i64 y)) g t cs :=
    fun b h1 h2 => (((b.setOther h1 _).setOther h1 _).setOther h2 _).setOther h2 _
  refine ⟨o4 h.b0 (by omega) (by omega), o4 h.b1 (by omega) (by omega), ?_, o4 h.b3 (by omega) (by omega), ?_, o4 h.bs (by omega) (by omega), (((h.below.setCell (by dsimp only; omega) _).setCell (by dsimp only; omega) _).setCell (by dsimp only; omega) _).setCell (by dsimp only; omega) _⟩
  · obtain ⟨cu, h1, h2⟩ := h.b2
    refine ⟨_, (((h1.setOther (by dsimp only; omega) _).setOther (by dsimp only; omega) _).setSame _ _).setSame _ _, ?_⟩
    rw [hx, hy]
    exact cellsFrom_set h2 hk
  · have := (((h.b4.setSame 0 (.int .i64 x)).setSame 1 (.int .i64 y)).setOther (p := ⟨w.heap.size + 1 + 1, k * 2, none⟩) (by dsimp only; omega) (.int .i64 x)).setOther (p := ⟨w.heap.size + 1 + 1, k * 2 + 1, none⟩) (by dsimp only; omega) (.int .i64 y)
    rw [← hx, ← hy]
    simpa using this

set_option maxRecDepth 100000 in
set_option maxHeartbeats 2000000 in
theorem currentsOf_in (t : Int) (A : Option Addr) (m cap : Nat) (ls : List Sh) (hm : ls.length = m) (g cp : Nat) (vs : List G) (hv : vs.length = m + 1) (w : World)
    (hS : RowsAt 3 Sh.enc w A ls) (hV : RowsAt 2 G.enc w (some ⟨g, 0, none⟩) vs) (hcp : m + 1 ≤ cp) (hok : ∀ s ∈ ls, shOK s) (hb : ∀ z ∈ vs.tail, Bd 300000000 z) (h1 : 1 ≤ m) (h4 : m ≤ 4) :
    CallsIn Fence.wide 5 Try.prog 90 #[.agg #[.int .i64 t, .slice A m cap], .slice (some ⟨g, 0, none⟩) (m + 1) cp] w fun e w' =>
      ∃ g' c' cu, e = .returned (.slice (some ⟨g', 0, none⟩) m c') ∧ RowsAt 2 G.enc w' (some ⟨g', 0, none⟩) (curr ls vs.tail) ∧ Blk w' g' 65 cu ∧ Ext w w' := by
  have HS := Lib.hid hS
  have HVT := Lib.hid (rows_tail hV)
  have HM := Lib.hid hm
  have HZ := Lib.hid (show vs.tail.length = m by simp [hv])
  have HOK := Lib.hid hok
  have HLZ := Lib.hid (show ls.length = vs.tail.length by simp [hv, hm])
  have HBD := Lib.hid (fun j k => curAt_bd (ls := ls) (zs := vs.tail) (by simp [hv, hm]) hok hb j k)
  have HBZ := Lib.hid hb
  have HA := Lib.hid (show ∀ b o, A = some ⟨b, o, none⟩ → b < w.heap.size from fun b o hA => by
    obtain ⟨b', o', h1', h2', _⟩ := hS.2 0 _ (List.getElem?_eq_getElem (by omega))
    rw [hA] at h1'
    simp at h1'
    omega)
  obtain ⟨i0, hi, hz0, hz1, hz2⟩ := info_parts info65
  have HI0 := Lib.hid hz0
  have hc1 : (cp == 1) = false := by rw [beq_eq_false_iff_ne]; omega
  have hc2 : ¬ cp = 1 := by omega
  have hc3 : (1 : Int) ≤ ((m : Int) + 1) := by omega
  have hc4 : ((m : Int) + 1) ≤ (cp : Int) := by omega
  clear hS hV hm hv hok hb
  refine callsIn_of_wp_marks Try.func90 rfl trivial ?_ rfl
  simp only [Try.ntmps90, List.size_toArray, List.length_cons, List.length_nil, Nat.reduceAdd, Nat.reduceSub, Array.replicate_succ, Array.replicate_zero, List.push_toArray, List.append_toArray, List.nil_append, List.cons_append]
  gi_wp2_with (first
    | (gi_at_make; refine wpListIn_make_blk _ rfl _ _ 53 rfl 65 i0 (.agg #[.int .i64 0, .int .i64 0]) 2 Try.underlying53 hi HI0.out hz1 .i64 .i64 _ _ m rfl rfl rfl rfl (by rw [hz2]; omega) (by omega) ?_)
    | (refine ⟨trivial, ?_⟩; gi_at_call 127; refine (callsIn_wide.2 (backward_any _ _ _ _)).mono ?_; rintro e w' ⟨rfl, rfl⟩))
  have hst : StC w t A m cap g (cp - 1) (curAt ls vs.tail) m (((((((w.alloc (.cells #[.int .i64 t, .slice A m cap] 24)).alloc (.cells #[.slice (some ⟨g, 2, none⟩) m (cp - 1)] 53)).alloc (.cells (madeCells #[.int .i64 0, .int .i64 0] (m * 2)) 65)).alloc (.cells #[.slice (some ⟨w.heap.size + 1 + 1, 0, none⟩) m m] 53)).alloc (.cells #[.int .i64 0, .int .i64 0] 65)).alloc (.cells #[.slice A m cap] 22))) := by
    refine ⟨(((((Blk.newAt _ _ _ (by simp)).alloc _).alloc _).alloc _).alloc _).alloc _, ((((Blk.newAt _ _ _ (by simp)).alloc _).alloc _).alloc _).alloc _, ⟨_, (((Blk.newAt _ _ _ (by simp)).alloc _).alloc _).alloc _, ?_⟩, ((Blk.newAt _ _ _ (by simp)).alloc _).alloc _, ?_, Blk.newAt _ _ _ (by simp), ?_⟩
    · exact ⟨by rw [size_madeCells]; omega, fun p h1 h2 => by omega⟩
    · rw [curAt_end ls vs.tail HLZ.out m (by rw [HM.out]; omega)]
      exact (Blk.newAt _ _ _ (by simp)).alloc _
    · exact (Ext.alloc _ _).trans ((Ext.alloc _ _).trans ((Ext.alloc _ _).trans ((Ext.alloc _ _).trans ((Ext.alloc _ _).trans (Ext.alloc _ _)))))
  generalize hW0 : (((((((w.alloc (.cells #[.int .i64 t, .slice A m cap] 24)).alloc (.cells #[.slice (some ⟨g, 2, none⟩) m (cp - 1)] 53)).alloc (.cells (madeCells #[.int .i64 0, .int .i64 0] (m * 2)) 65)).alloc (.cells #[.slice (some ⟨w.heap.size + 1 + 1, 0, none⟩) m m] 53)).alloc (.cells #[.int .i64 0, .int .i64 0] 65)).alloc (.cells #[.slice A m cap] 22))) = W0 at hst ⊢
  clear hW0
  have hlt0 := hst.bs.lt
  have hlt4 := hst.b4.lt
  have hw0 := hst.below.size
  refine rangeFunc_list (by omega) (gf := 137) (first := #[]) (lb := #[.pointer (some ⟨w.heap.size + 1 + 1 + 1 + 1 + 1, 0, none⟩)]) rfl (enters_of Try.func137 (by kernel_rfl) rfl) (encs := encIx) (full := backE ls) (Kp := KpB w.heap.size (w.heap.size + 1 + 1 + 1 + 1 + 1))
    (backward_iter 4 (by omega) (w.heap.size + 1 + 1 + 1 + 1 + 1) w.heap.size A m cap ls HM.out W0 hst.bs (HS.out.ext hst.below) HA.out hw0) (fun h k => h.t k) (fun X Y _ hb => ⟨hb.mono hw0, hb.block _ hlt0⟩) (fun _ => rfl)
    (fun j W => StC w t A m cap g (cp - 1) (curAt ls vs.tail) (m - j) W) (fun _ _ => False)
    (fun j X Y h hc hb => h.keep hc (hb.mono hw0)) (fun _ _ _ h _ _ => h) hst
    (fun x a' W => ∃ Bx, w.heap.size + 1 + 1 + 1 + 1 + 1 < Bx ∧ Blk W Bx 92 #[.int .i64 x.1.2.g, .int .i64 x.1.2.c, .int .i64 x.1.2.h] ∧ a' =
      { tmps := #[.agg #[.int .i64 t, .slice A m cap], .slice (some ⟨g, 0, none⟩) (m + 1) cp,
        .pointer (some ⟨w.heap.size, 0, none⟩), undef, .slice none 0 0, .pointer (some ⟨w.heap.size + 1, 0, none⟩), .pointer (some ⟨w.heap.size + 1 + 1 + 1, 0, none⟩), .pointer (some ⟨w.heap.size + 1 + 1 + 1 + 1, 0, none⟩),
        .int .i64 (x.1.1 : Int), .pointer (some ⟨Bx, 0, none⟩), .slice (some ⟨g, 0, none⟩) (m + 1) cp, .slice (some ⟨g, 2, none⟩) m (cp - 1), .slice (some ⟨g, 2, none⟩) m (cp - 1), .int .i64 (m : Int), .slice (some ⟨w.heap.size + 1 + 1, 0, none⟩) m m,
        .agg #[.int .i64 0, .int .i64 0], .pointer (some ⟨w.heap.size, 1, none⟩), .slice A m cap, .func (.func 137) #[] #[.pointer (some ⟨w.heap.size + 1 + 1 + 1 + 1 + 1, 0, none⟩)], .int .i64 (x.1.1 : Int), .agg #[.int .i64 x.1.2.g, .int .i64 x.1.2.c, .int .i64 x.1.2.h],
        undef, undef, undef, undef, undef, undef, undef, undef, undef, undef, undef, undef, undef], defers := [] }) (by rintro x a' X Y ⟨Bx, h1', h2', h3'⟩ hc hb; exact ⟨Bx, h1', hc.blk h2', h3'⟩) ?assign ?body ?done ?stop
  case assign =>
    intro l j x W K hxj hsz hI hK'
    have hz := hI.bs.lt
    unfold encIx
    gi_wp2
    exact hK' _ _ (KeepsOthers.alloc _ _) ⟨(Below.refl _ _).alloc hI.below.size _, Below.heap_alloc _ _ _ hz⟩ (hI.ext (Ext.alloc _ _)) ⟨W.heap.size, hz, Blk.new _ _ _, rfl⟩
  case body =>
    rintro lp j ⟨⟨k, s⟩, hx⟩ a' Wb hxj hsz hI ⟨Bx, hBx, bX, rfl⟩
    dsimp only at bX hx ⊢
    have hjk := backE_idx ls j _ hxj
    dsimp only at hjk
    rw [HM.out] at hjk
    rw [show m - j = k + 1 by omega] at hI
    rw [show m - (j + 1) = k by omega]
    clear hxj
    have hkm : (k : Int) < (m : Int) := by omega
    have hkm' : k < m := by omega
    obtain ⟨z, hz⟩ : ∃ z, vs.tail[k]? = some z := ⟨_, List.getElem?_eq_getElem (by rw [HZ.out]; exact hkm')⟩
    have HSTEP := Lib.hid (curAt_step ls vs.tail k s z hx hz)
    have hbc := HBD.out (m - (k + 1)) (k + 1) (by rw [HM.out]; omega)
    have hbz := HBZ.out z (List.mem_of_getElem? hz)
    have hg := (HOK.out s (List.mem_of_getElem? hx)).1
    obtain ⟨b1, o1, e1, _, hcz⟩ := HVT.out.2 k z hz
    obtain ⟨rfl, rfl⟩ : g = b1 ∧ 2 = o1 := by simpa using e1
    have hbel := hI.below
    obtain ⟨za, zb⟩ := z
    have y0 : Wb.cell? ⟨g, 2 + k * 2, none⟩ = some (.int .i64 za) := Ext.cell hbel (hcz 0 _ rfl)
    have y1 : Wb.cell? ⟨g, 2 + k * 2 + 1, none⟩ = some (.int .i64 zb) := Ext.cell hbel (hcz 1 _ rfl)
    obtain ⟨⟨ca, cb⟩, hcab⟩ : ∃ c : G, c = curAt ls vs.tail (k + 1) := ⟨_, rfl⟩
    rw [← hcab] at hbc HSTEP
    have HI := Lib.hid hI
    have hI4 := hI.b4
    rw [← hcab] at hI4
    have hmk : ((m - (k + 1) : Nat) : Int) ≤ 3 := by omega
    simp only [Bd] at hbc hbz
    have hm0 : (0 : Int) ≤ ((m - (k + 1) : Nat) : Int) := by omega
    generalize ((m - (k + 1) : Nat) : Int) = mk at hbc hmk hm0
    have HP := Lib.hid (plus_any ca cb s.g za zb (by unfold Mid; omega) (by unfold Mid; omega) (mid_of (N := 4) (B := 300000000) (by omega) hg.2 (by omega) (by omega) (by omega)) (mid_of (N := 4) (B := 300000000) (by omega) hg.2 (by omega) (by omega) (by omega)))
    have HX := Lib.hid bX
    clear hbc hbz hg hcz e1 hz hx hcab hmk hm0 hbel
    gi_wp2
    refine wpIn_region_part (WideIn.inRound lp) (by kernel_rfl) 8 [some 21, some 22, some 23, some 24, some 25, some 26, some 27, some 28] [[7], [9], [22], [5], [8], [24, 25], [26], [21, 23, 27]]
      [Is (.agg #[.int .i64 (ca), .int .i64 (cb)]), Is (.pointer (some ⟨Bx, 0, none⟩)), Is (.int .i64 (s.g)), Is (.slice (some ⟨g, 2, none⟩) m (cp - 1)), Is (.int .i64 ((k : Int))), Is (.pointer (some ⟨g, 2 + k * 2, none⟩)), Is (.agg #[.int .i64 (za), .int .i64 (zb)]), Is (.agg #[.int .i64 (ca + s.g * za), .int .i64 (cb + s.g * zb)])]
      (by kernel_rfl) (by kernel_rfl) (by kernel_rfl) (by kernel_rfl) (by kernel_rfl) (by kernel_rfl) (by kernel_rfl) Ext (fun W => Ext Wb W)
      (fun W _ => Ext.refl W) (fun W W' h k => h.trans k) ?_ (Ext.drew _) ?_ ?_
    · repeat (refine ⟨fun _ _ _ _ k h => (by first | exact h | exact IntsAt.ext h k), ?_⟩)
      exact trivial
    · refine ⟨?_, ?_, ?_, ?_, ?_, ?_, ?_, ?_, trivial⟩
      all_goals intro ρ W ⟨kc, kg, kf⟩ hF hs
      · obtain ⟨h0, -⟩ := hs
        replace h0 : ρ (.tmp 7) = .pointer (some ⟨w.heap.size + 1 + 1 + 1 + 1, 0, none⟩) := h0
        have hc0 : W.cell? ⟨w.heap.size + 1 + 1 + 1 + 1, 0, none⟩ = some (.int .i64 (ca)) := (hI4.ext hF).cell 0
        have hc1 : W.cell? ⟨w.heap.size + 1 + 1 + 1 + 1, 1, none⟩ = some (.int .i64 (cb)) := (hI4.ext hF).cell 1
        go_simp
        exact ⟨Ext.refl _, rfl⟩
      · obtain ⟨h0, -⟩ := hs
        replace h0 : ρ (.tmp 9) = .pointer (some ⟨Bx, 0, none⟩) := h0
        go_simp
        exact ⟨Ext.refl _, rfl⟩
      · obtain ⟨h0, -⟩ := hs
        replace h0 : ρ (.tmp 22) = .pointer (some ⟨Bx, 0, none⟩) := h0
        have hc0 : W.cell? ⟨Bx, 0, none⟩ = some (.int .i64 (s.g)) := (HX.out.ext hF).cell 0
        go_simp
        exact ⟨Ext.refl _, rfl⟩
      · obtain ⟨h0, -⟩ := hs
        replace h0 : ρ (.tmp 5) = .pointer (some ⟨w.heap.size + 1, 0, none⟩) := h0
        have hc0 : W.cell? ⟨w.heap.size + 1, 0, none⟩ = some (.slice (some ⟨g, 2, none⟩) m (cp - 1)) := (HI.out.ext hF).b1.cell 0
        go_simp
        exact ⟨Ext.refl _, rfl⟩
      · obtain ⟨h0, -⟩ := hs
        replace h0 : ρ (.tmp 8) = .int .i64 ((k : Int)) := h0
        go_simp
        exact ⟨Ext.refl _, rfl⟩
      · obtain ⟨h0, h1, -⟩ := hs
        replace h0 : ρ (.tmp 24) = .slice (some ⟨g, 2, none⟩) m (cp - 1) := h0
        replace h1 : ρ (.tmp 25) = .int .i64 ((k : Int)) := h1
        have hkm2 : (k : Int) < (m : Int) := hkm
        go_simp
        exact ⟨Ext.refl _, rfl⟩
      · obtain ⟨h0, -⟩ := hs
        replace h0 : ρ (.tmp 26) = .pointer (some ⟨g, 2 + k * 2, none⟩) := h0
        have hc0 : W.cell? ⟨g, 2 + k * 2, none⟩ = some (.int .i64 (za)) := hF.cell (by assumption)
        have hc1 : W.cell? ⟨g, 2 + k * 2 + 1, none⟩ = some (.int .i64 (zb)) := hF.cell (by assumption)
        go_simp
        exact ⟨Ext.refl _, rfl⟩
      · obtain ⟨h0, h1, h2, -⟩ := hs
        replace h0 : ρ (.tmp 21) = .agg #[.int .i64 (ca), .int .i64 (cb)] := h0
        replace h1 : ρ (.tmp 23) = .int .i64 (s.g) := h1
        replace h2 : ρ (.tmp 27) = .agg #[.int .i64 (za), .int .i64 (zb)] := h2
        go_simp
        refine (HP.out W).mono ?_; rintro e w' ⟨rfl, hx⟩; exact ⟨_, rfl, hx, rfl⟩
    · intro fv W hF hs
      obtain ⟨-, -, -, -, -, -, -, h28, -⟩ := hs
      replace h28 : fv 28 = .agg #[.int .i64 (ca + s.g * za), .int .i64 (cb + s.g * zb)] := h28
      simp only [fin, List.filterMap]
      go_simp
      have hI2 := HI.out.ext hF
      have hb4 := hI4.ext hF
      have d0 := hb4.cell 0
      have d1 := hb4.cell 1
      have g0 := hb4.free 0
      have g1 := hb4.free 1
      simp only [List.getElem?_toArray, List.getElem?_cons_zero, List.getElem?_cons_succ] at d0 d1
      obtain ⟨cu, hc1', hc2'⟩ := hI2.b2
      have q0 : W.cell? ⟨w.heap.size + 1 + 1, k * 2, none⟩ = some (cu[k * 2]'(by have := hc2'.1; omega)) := by rw [hc1'.cell]; exact Array.getElem?_eq_getElem _
      have q1 : W.cell? ⟨w.heap.size + 1 + 1, k * 2 + 1, none⟩ = some (cu[k * 2 + 1]'(by have := hc2'.1; omega)) := by rw [hc1'.cell]; exact Array.getElem?_eq_getElem _
      have g2 := hc1'.free (k * 2)
      have g3 := hc1'.free (k * 2 + 1)
      have r0 : W.cell? ⟨w.heap.size + 1 + 1 + 1, 0, none⟩ = some (.slice (some ⟨w.heap.size + 1 + 1, 0, none⟩) m m) := hI2.b3.cell 0
      generalize (cu[k * 2]'(by have := hc2'.1; omega)) = u0 at q0
      generalize (cu[k * 2 + 1]'(by have := hc2'.1; omega)) = u1 at q1
      have HI2 := Lib.hid (hI2.step hkm' (x := ca + s.g * za) (y := cb + s.g * zb) (by rw [HSTEP.out]; rfl) (by rw [HSTEP.out]; rfl))
      have HK := Lib.hid (keepsOthers_ext hF)
      clear hI2 hb4 hc1' hc2' hF
      gi_wp2
      have hko := HK.out.trans ((KeepsOthers.setCell W ⟨w.heap.size + 1 + 1 + 1 + 1, 0, none⟩ (.int .i64 (ca + s.g * za))).trans ((KeepsOthers.setCell _ ⟨w.heap.size + 1 + 1 + 1 + 1, 1, none⟩ (.int .i64 (cb + s.g * zb))).trans ((KeepsOthers.setCell _ ⟨w.heap.size + 1 + 1, k * 2, none⟩ (.int .i64 (ca + s.g * za))).trans (KeepsOthers.setCell _ ⟨w.heap.size + 1 + 1, k * 2 + 1, none⟩ (.int .i64 (cb + s.g * zb))))))
      exact ⟨hko, ⟨below_of HI.out.below HI2.out.below hko.size, (show Blk _ _ _ _ from HI2.out.bs).trans (show Blk _ _ _ _ from HI.out.bs).symm⟩, HI2.out⟩
  case done =>
    rintro D W hD hI hK
    have hbl : (backE ls).length = m := by rw [backE_length, HM.out]
    rw [hbl, Nat.sub_self] at hI
    have z0 : W.cell? ⟨w.heap.size + 1 + 1 + 1, 0, none⟩ = some (.slice (some ⟨w.heap.size + 1 + 1, 0, none⟩) m m) := hI.b3.cell 0
    have HI := Lib.hid hI
    clear hI
    gi_wp2
    refine ⟨by simp, .inl ⟨_, _, rfl, run_takeDeferred hK, ?_⟩⟩
    have hkc := CellsKept.put (.deferred none) hK rfl
    obtain ⟨cu, h2, h3⟩ := HI.out.b2
    refine ⟨_, results_tmp rfl _ _ _, _, _, cu, rfl, ?_, hkc.blk h2, HI.out.below.trans (belowK_b (w := w) (Nat.le_refl _) W D _ _ (by omega) hK rfl rfl)⟩
    have hlen := curr_len ls vs.tail HLZ.out
    refine ⟨by rw [hlen, HM.out]; omega, fun i x hx => ⟨_, 0, rfl, (hkc.blk h2).lt, fun j u hu => ?_⟩⟩
    have hi : i < m := by have := (List.getElem?_eq_some_iff.1 hx).1; rw [hlen, HM.out] at this; exact this
    obtain ⟨h4', h5⟩ := h3.2 i (Nat.zero_le _) hi
    have hxi : curAt ls vs.tail i = x := by simp [curAt, hx]
    rw [hxi] at h4' h5
    rw [(hkc.blk h2).cell]
    match j, hu with
    | 0, hu => rw [Nat.zero_add, Nat.add_zero, h4']; simpa [G.enc] using hu
    | 1, hu => rw [Nat.zero_add, h5]; simpa [G.enc] using hu
    | j + 2, hu => simp [G.enc] at hu
  case stop =>
    rintro D c W _ h _
    exact h.elim

end Go.Proofs.Ytpaoeghdfeekoaa
