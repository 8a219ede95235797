/- The ends of tables as curves. -/
import Derived.Test.YtmddnpagfgilcaaG2
import Derived.Lib.MinMax

namespace Go.Proofs.Ytmddnpagfgilcaa
open Go.RowKit Go.Shelf Go.Mem Go.RegInv
attribute [local go_sem] RelUpon_value RelUpon_skip RelUpon_enter BigFrame.eval_const BigFrame.eval_global BigFrame.eval_func


theorem info141 : (Try.prog.info? 141).map (fun i => (i.zero, i.size, i.bytes)) = some (some (.agg #[.int .i64 0, .int .i64 0]), 2, 16) := by kernel_rfl
theorem append_point {W : World} {base k c : Nat} {R : Option Addr} {xs : List Value} (hown : W.ownsRow base 141 2 (.slice R k c) k xs) (hk : k ≤ 100) (hbase : base ≤ W.heap.size) {b : Nat} {g h : Int} (hb : Blk W b 141 #[.int .i64 g, .int .i64 h])
    {o : Oper} {ops : Array Oper} {rest : List Oper} {a : Act} {Q : Exit → Act → World → Prop} (hg : o.guard = none) (p q : Operand) (hop : o.op = .call { callee := .builtin .append, args := #[p, q], argTypes := #[45, 45] }) (_hty : o.type = 45) (he6 : a.eval p = .slice R k c) (he8 : a.eval q = .slice (some ⟨b, 0, none⟩) 1 1)
    (hK : ∀ R' c' w', w'.ownsRow base 141 2 (.slice R' (k + 1) c') (k + 1) (xs ++ [.int .i64 g, .int .i64 h]) → (∀ b' t' cs, Blk W b' t' cs → t' ≠ 141 → Blk w' b' t' cs) → (∀ w0, Ext w0 W → w0.heap.size ≤ base → Ext w0 w') → W.heap.size ≤ w'.heap.size → wpList Try.prog ops Q rest (a.put o.dst (.slice R' (k + 1) c')) w') : wpList Try.prog ops Q (o :: rest) a W := by
  obtain ⟨i0, hi, hz0, hz1, hz2⟩ := info_parts info141
  refine wpList_append_own _ hg _ _ 45 hop base 141 i0 (.agg #[.int .i64 0, .int .i64 0]) 2 16 Try.underlying45 hi hz0 hz1 hz2 rfl (by decide) _ _ _ he6 hown ⟨b, 0, none⟩ 1 1 [.int .i64 g, .int .i64 h] he8 rfl (fun j u hu => ?_) (by simp [Value.oneCell']) (by unfold maxLen; omega) (by omega) hbase ?_
  · have := hb.cell j
    rw [WideShapes.add_plain, show 0 + j = j by omega, this]
    match j, hu with
    | 0, hu => exact hu
    | 1, hu => exact hu
    | j + 2, hu => simp at hu
  · intro v' w1 hown' hgrow hx
    obtain ⟨A', c', hv'⟩ := own_slice hown'
    subst hv'
    exact hK _ _ _ hown' (fun g t' cs k ht => (hgrow.block _ k.lt (own_notBlk hown k ht)).trans k) (fun w0 e hw => Ext.grownBy e hgrow (fun g hg => by have := own_base hown hg; omega)) (by first | exact hgrow.size | exact hx.1 | omega)

def CellP (v : Int) : Value → World → Prop := fun u W => ∃ p, u = .pointer (some p) ∧ W.cell? p = some (.int .i64 v)
def SlP (T : TypeId) (cs : Array Value) : Value → World → Prop := fun u W => ∃ q, u = .slice (some ⟨q, 0, none⟩) 1 1 ∧ Blk W q T cs
theorem SlP.ext {T : TypeId} {cs : Array Value} {u : Value} {W W' : World} (h : SlP T cs u W) (k : Ext W W') : SlP T cs u W' := by
  obtain ⟨q, e, hb⟩ := h
  exact ⟨q, e, hb.ext k⟩
theorem CellP.ext {v : Int} {u : Value} {W W' : World} (h : CellP v u W) (k : Ext W W') : CellP v u W' := by
  obtain ⟨p, e, hc⟩ := h
  exact ⟨p, e, k.cell hc⟩

set_option maxRecDepth 100000 in
set_option maxHeartbeats 2000000 in
theorem endsLo_any {A : Option Addr} {n ca : Nat} {xs : List Kn} {w : World} (hn : xs.length = n) (hn2 : n ≤ 100) (hA : RowsAt 3 Kn.enc w A xs) :
    Calls Try.prog 96 #[.agg #[.slice A n ca], .int .i64 0] w fun e w' => ∃ A' c', e = .returned (.slice A' n c') ∧ RowsAt 2 frEnc w' A' (xs.map fun x => (x.f, x.lo)) ∧ Ext w w' := by
  obtain ⟨W0, hW0⟩ : ∃ W0, W0 = w.alloc (.cells #[.slice A n ca] 64) := ⟨_, rfl⟩
  have K0 := Lib.hid (show Blk W0 w.heap.size 64 #[.slice A n ca] by rw [hW0]; exact Blk.new _ _ _)
  have E0 := Lib.hid (show Ext w W0 by rw [hW0]; exact Ext.alloc _ _)
  have HA := Lib.hid hA
  have HN := Lib.hid hn
  clear hA hn
  go_enter Try.func96, Try.ntmps96
  go_wp2
  rw [← hW0]
  clear hW0
  go_wp2
  go_loopw [5, 6] (fun v i wr => ∃ (k c : Nat) (R : Option Addr), k ≤ n ∧ i = .int .i64 k ∧ v = .slice R k c ∧ wr.ownsRow W0.heap.size 141 2 (.slice R k c) k (((xs.take k).map fun x => (x.f, x.lo)).flatMap frEnc) ∧ Ext W0 wr) (fun _ i _ => n - (intOf i).toNat)
  case atStart => exact ⟨0, 0, none, Nat.zero_le _, rfl, rfl, own_none _ _ _ _, Ext.refl _⟩
  case round =>
    obtain ⟨k, c, R, hk, rfl, rfl, ho, hx⟩ := hrel
    have X := Lib.hid hx
    have O := Lib.hid ho
    have SZ := Lib.hid (show W0.heap.size ≤ wr.heap.size from hx.size)
    clear hx ho
    have y0 : wr.cell? ⟨w.heap.size, 0, none⟩ = some (.slice A n ca) := (K0.out.ext X.out).cell 0
    by_cases hlt : k < n
    · obtain ⟨x, hxk⟩ : ∃ x, xs[k]? = some x := ⟨_, List.getElem?_eq_getElem (by have := HN.out; omega)⟩
      obtain ⟨b, o, rfl, hb, hc⟩ := row_at (HA.out.ext (E0.out.trans X.out)) hxk
      have p0 : wr.cell? ⟨b, o + k * 3, none⟩ = some (.int .i64 x.f) := hc 0 _ rfl
      have p1 : wr.cell? ⟨b, o + k * 3 + 1, none⟩ = some (.int .i64 x.lo) := hc 1 _ rfl
      have p2 : wr.cell? ⟨b, o + k * 3 + 2, none⟩ = some (.int .i64 x.hi) := hc 2 _ rfl
      have HS := Lib.hid (show ((xs.take (k + 1)).map fun x => (x.f, x.lo)).flatMap frEnc = ((xs.take k).map fun x => (x.f, x.lo)).flatMap frEnc ++ [.int .i64 x.f, .int .i64 x.lo] by
        rw [List.take_add_one, hxk, List.map_append, List.flatMap_append]
        rfl)
      clear hb hc hxk
      have hlt2 : (k : Int) < (n : Int) := by omega
      have hb1 : ((k : Int)).toNat = k := by omega
      go_wp2
      obtain ⟨W5, hW5⟩ : ∃ W5, W5 = wr.alloc (.cells #[.int .i64 x.f, .int .i64 x.lo, .int .i64 x.hi] 78) := ⟨_, rfl⟩
      rw [← hW5]
      have Q := Lib.hid (show Blk W5 wr.heap.size 78 #[.int .i64 x.f, .int .i64 x.lo, .int .i64 x.hi] by rw [hW5]; exact Blk.new _ _ _)
      have hx5 : Ext wr W5 := by rw [hW5]; exact Ext.alloc _ _
      have X5 := Lib.hid hx5
      have l0 : W5.cell? ⟨wr.heap.size, 0, none⟩ = some (.int .i64 x.f) := Q.out.cell 0
      have l1 : W5.cell? ⟨wr.heap.size, 1, none⟩ = some (.int .i64 x.lo) := Q.out.cell 1
      have l2 : W5.cell? ⟨wr.heap.size, 2, none⟩ = some (.int .i64 x.hi) := Q.out.cell 2
      clear y0 p0 p1 p2 hx5 hW5 Q hb1
      generalize hq : wr.heap.size = q at *
      have SQ := Lib.hid hq
      clear hq
      refine wp_region_partR 15 [some 20, some 21, some 22, some 23, some 24, some 25, some 26, some 27, some 28, some 29, some 30, some 31, some 32, some 33, some 34] [[5], [7], [21], [7], [23], [24], [7], [26], [27], [25, 28], [1], [29, 30], [31], [22, 32], [33]]
        [Is (.slice R k c), Is (.pointer (some ⟨q, 0, none⟩)), Is (.int .i64 (x.f)), Is (.pointer (some ⟨q, 1, none⟩)), Is (.pointer (some ⟨q, 1, none⟩)), Is (.int .i64 (x.lo)), Is (.pointer (some ⟨q, 1, none⟩)), Is (.pointer (some ⟨q, 2, none⟩)), Is (.int .i64 (x.hi)), Ints [x.lo, x.hi], Is (.int .i64 (0)), CellP (x.lo), Is (.int .i64 (x.lo)), Is (.agg #[.int .i64 x.f, .int .i64 x.lo]), SlP 141 #[.int .i64 x.f, .int .i64 x.lo]]
        (by kernel_rfl) (by kernel_rfl) (by kernel_rfl) (by kernel_rfl) (by kernel_rfl) (by kernel_rfl) (by kernel_rfl) Ext (fun W => Ext W5 W)
        (fun W _ => Ext.refl W) (fun W W' h k => h.trans k) ?_ (Ext.drew _) ?_ ?_
      · repeat (refine ⟨fun _ _ _ _ k h => (by first | exact h | exact (by first | exact IntsAt.ext h k | exact CellP.ext h k | exact SlP.ext h k)), ?_⟩)
        exact trivial
      · refine ⟨?_, ?_, ?_, ?_, ?_, ?_, ?_, ?_, ?_, ?_, ?_, ?_, ?_, ?_, ?_, trivial⟩
        all_goals intro ρ W ⟨kc, kg, kf⟩ hF hs
        · obtain ⟨h0, -⟩ := hs
          replace h0 : ρ (.tmp 5) = .slice R k c := h0
          go_simp
          exact ⟨Ext.refl _, rfl⟩
        · obtain ⟨h0, -⟩ := hs
          replace h0 : ρ (.tmp 7) = .pointer (some ⟨q, 0, none⟩) := h0
          go_simp
          exact ⟨Ext.refl _, rfl⟩
        · obtain ⟨h0, -⟩ := hs
          replace h0 : ρ (.tmp 21) = .pointer (some ⟨q, 0, none⟩) := h0
          have hc0 : W.cell? ⟨q, 0, none⟩ = some (.int .i64 (x.f)) := hF.cell (by assumption)
          go_simp
          exact ⟨Ext.refl _, rfl⟩
        · obtain ⟨h0, -⟩ := hs
          replace h0 : ρ (.tmp 7) = .pointer (some ⟨q, 0, none⟩) := h0
          go_simp
          exact ⟨Ext.refl _, rfl⟩
        · obtain ⟨h0, -⟩ := hs
          replace h0 : ρ (.tmp 23) = .pointer (some ⟨q, 1, none⟩) := h0
          go_simp
          exact ⟨Ext.refl _, rfl⟩
        · obtain ⟨h0, -⟩ := hs
          replace h0 : ρ (.tmp 24) = .pointer (some ⟨q, 1, none⟩) := h0
          have hc0 : W.cell? ⟨q, 1, none⟩ = some (.int .i64 (x.lo)) := hF.cell (by assumption)
          go_simp
          exact ⟨Ext.refl _, rfl⟩
        · obtain ⟨h0, -⟩ := hs
          replace h0 : ρ (.tmp 7) = .pointer (some ⟨q, 0, none⟩) := h0
          go_simp
          exact ⟨Ext.refl _, rfl⟩
        · obtain ⟨h0, -⟩ := hs
          replace h0 : ρ (.tmp 26) = .pointer (some ⟨q, 1, none⟩) := h0
          go_simp
          exact ⟨Ext.refl _, rfl⟩
        · obtain ⟨h0, -⟩ := hs
          replace h0 : ρ (.tmp 27) = .pointer (some ⟨q, 2, none⟩) := h0
          have hc0 : W.cell? ⟨q, 2, none⟩ = some (.int .i64 (x.hi)) := hF.cell (by assumption)
          go_simp
          exact ⟨Ext.refl _, rfl⟩
        · obtain ⟨h0, h1, -⟩ := hs
          replace h0 : ρ (.tmp 25) = .int .i64 (x.lo) := h0
          replace h1 : ρ (.tmp 28) = .int .i64 (x.hi) := h1
          go_simp
          exact ⟨Ext.alloc _ _, ints_new _ [x.lo, x.hi] _ (by simp)⟩
        · obtain ⟨h0, -⟩ := hs
          replace h0 : ρ (.tmp 1) = .int .i64 (0) := h0
          go_simp
          exact ⟨Ext.refl _, rfl⟩
        · obtain ⟨h0, h1, -⟩ := hs
          replace h0 : (Ints [x.lo, x.hi]) (ρ (.tmp 29)) W := h0
          replace h1 : ρ (.tmp 30) = .int .i64 (0) := h1
          rcases h0 with ⟨ao, cap, -, hnil⟩ | ⟨b1, o1, cap, hv, hb1, hl, hcc⟩
          · cases hnil
          have hcu := hcc 0 (by simp)
          have hv2 : ρ (.tmp 29) = .slice (some ⟨b1, o1, none⟩) 2 cap := hv
          clear hv
          go_simp
          exact ⟨Ext.refl _, _, rfl, hcu⟩
        · obtain ⟨h0, -⟩ := hs
          replace h0 : (CellP (x.lo)) (ρ (.tmp 31)) W := h0
          obtain ⟨p, hv, hcc⟩ := h0
          have hv2 : ρ (.tmp 31) = .pointer (some p) := hv
          clear hv
          go_simp
          exact ⟨Ext.refl _, rfl⟩
        · obtain ⟨h0, h1, -⟩ := hs
          replace h0 : ρ (.tmp 22) = .int .i64 (x.f) := h0
          replace h1 : ρ (.tmp 32) = .int .i64 (x.lo) := h1
          go_simp
          exact ⟨Ext.refl _, rfl⟩
        · obtain ⟨h0, -⟩ := hs
          replace h0 : ρ (.tmp 33) = .agg #[.int .i64 x.f, .int .i64 x.lo] := h0
          go_simp
          exact ⟨Ext.alloc _ _, _, rfl, Blk.new _ _ _⟩
      · intro fv W hF hs
        obtain ⟨h20, -, -, -, -, -, -, -, -, -, -, -, -, -, h34, -⟩ := hs
        replace h20 : fv 20 = .slice R k c := h20
        replace h34 : (SlP 141 #[.int .i64 x.f, .int .i64 x.lo]) (fv 34) W := h34
        simp only [fin, List.filterMap]
        go_simp
        obtain ⟨q2, hq2, hQ2⟩ := h34
        rw [hq2]
        have Q2 := Lib.hid hQ2
        have hx6 := Lib.hid (X5.out.trans hF)
        clear hq2 hQ2
        clear hF l0 l1 l2 X5
        go_wp2_with
          (refine append_point (own_ext O.out hx6.out) (by omega) (by have := SZ.out; have := SQ.out; have := hx6.out.size; omega) Q2.out rfl (.tmp 20) (.tmp 34) rfl rfl rfl rfl ?_
           intro R' c' w2 hown' hkb hxe hgs
           have O2 := Lib.hid hown'
           have X2 := Lib.hid (hxe W0 (X.out.trans hx6.out) (Nat.le_refl _))
           clear hown' hkb hxe hgs)
        go_roundw
        case rel => exact ⟨k + 1, _, _, by omega, by go_num, rfl, by rw [HS.out]; exact O2.out, X2.out⟩
        case measure => simp [intOf]; omega
    · have hkn : k = n := by omega
      have hlt2 : ¬ (k : Int) < (n : Int) := by omega
      have H := Lib.hid (show RowsAt 2 frEnc wr R (xs.map fun x => (x.f, x.lo)) by
        have := rows_own (enc := frEnc) (xs := (xs.take k).map fun x => (x.f, x.lo)) (by have := HN.out; simp; omega) (fun _ => rfl) O.out (by omega)
        rwa [List.take_of_length_le (by have := HN.out; omega)] at this)
      have HKN := Lib.hid hkn
      clear hkn hlt
      go_wp2
      go_ret
      exact ⟨R, ⟨c, by rw [← HKN.out]; rfl⟩, H.out, E0.out.trans X.out⟩

set_option maxRecDepth 100000 in
set_option maxHeartbeats 2000000 in
theorem endsHi_any {A : Option Addr} {n ca : Nat} {xs : List Kn} {w : World} (hn : xs.length = n) (hn2 : n ≤ 100) (hA : RowsAt 3 Kn.enc w A xs) :
    Calls Try.prog 96 #[.agg #[.slice A n ca], .int .i64 1] w fun e w' => ∃ A' c', e = .returned (.slice A' n c') ∧ RowsAt 2 frEnc w' A' (xs.map fun x => (x.f, x.hi)) ∧ Ext w w' := by
  obtain ⟨W0, hW0⟩ : ∃ W0, W0 = w.alloc (.cells #[.slice A n ca] 64) := ⟨_, rfl⟩
  have K0 := Lib.hid (show Blk W0 w.heap.size 64 #[.slice A n ca] by rw [hW0]; exact Blk.new _ _ _)
  have E0 := Lib.hid (show Ext w W0 by rw [hW0]; exact Ext.alloc _ _)
  have HA := Lib.hid hA
  have HN := Lib.hid hn
  clear hA hn
  go_enter Try.func96, Try.ntmps96
  go_wp2
  rw [← hW0]
  clear hW0
  go_wp2
  go_loopw [5, 6] (fun v i wr => ∃ (k c : Nat) (R : Option Addr), k ≤ n ∧ i = .int .i64 k ∧ v = .slice R k c ∧ wr.ownsRow W0.heap.size 141 2 (.slice R k c) k (((xs.take k).map fun x => (x.f, x.hi)).flatMap frEnc) ∧ Ext W0 wr) (fun _ i _ => n - (intOf i).toNat)
  case atStart => exact ⟨0, 0, none, Nat.zero_le _, rfl, rfl, own_none _ _ _ _, Ext.refl _⟩
  case round =>
    obtain ⟨k, c, R, hk, rfl, rfl, ho, hx⟩ := hrel
    have X := Lib.hid hx
    have O := Lib.hid ho
    have SZ := Lib.hid (show W0.heap.size ≤ wr.heap.size from hx.size)
    clear hx ho
    have y0 : wr.cell? ⟨w.heap.size, 0, none⟩ = some (.slice A n ca) := (K0.out.ext X.out).cell 0
    by_cases hlt : k < n
    · obtain ⟨x, hxk⟩ : ∃ x, xs[k]? = some x := ⟨_, List.getElem?_eq_getElem (by have := HN.out; omega)⟩
      obtain ⟨b, o, rfl, hb, hc⟩ := row_at (HA.out.ext (E0.out.trans X.out)) hxk
      have p0 : wr.cell? ⟨b, o + k * 3, none⟩ = some (.int .i64 x.f) := hc 0 _ rfl
      have p1 : wr.cell? ⟨b, o + k * 3 + 1, none⟩ = some (.int .i64 x.lo) := hc 1 _ rfl
      have p2 : wr.cell? ⟨b, o + k * 3 + 2, none⟩ = some (.int .i64 x.hi) := hc 2 _ rfl
      have HS := Lib.hid (show ((xs.take (k + 1)).map fun x => (x.f, x.hi)).flatMap frEnc = ((xs.take k).map fun x => (x.f, x.hi)).flatMap frEnc ++ [.int .i64 x.f, .int .i64 x.hi] by
        rw [List.take_add_one, hxk, List.map_append, List.flatMap_append]
        rfl)
      clear hb hc hxk
      have hlt2 : (k : Int) < (n : Int) := by omega
      have hb1 : ((k : Int)).toNat = k := by omega
      go_wp2
      obtain ⟨W5, hW5⟩ : ∃ W5, W5 = wr.alloc (.cells #[.int .i64 x.f, .int .i64 x.lo, .int .i64 x.hi] 78) := ⟨_, rfl⟩
      rw [← hW5]
      have Q := Lib.hid (show Blk W5 wr.heap.size 78 #[.int .i64 x.f, .int .i64 x.lo, .int .i64 x.hi] by rw [hW5]; exact Blk.new _ _ _)
      have hx5 : Ext wr W5 := by rw [hW5]; exact Ext.alloc _ _
      have X5 := Lib.hid hx5
      have l0 : W5.cell? ⟨wr.heap.size, 0, none⟩ = some (.int .i64 x.f) := Q.out.cell 0
      have l1 : W5.cell? ⟨wr.heap.size, 1, none⟩ = some (.int .i64 x.lo) := Q.out.cell 1
      have l2 : W5.cell? ⟨wr.heap.size, 2, none⟩ = some (.int .i64 x.hi) := Q.out.cell 2
      clear y0 p0 p1 p2 hx5 hW5 Q hb1
      generalize hq : wr.heap.size = q at *
      have SQ := Lib.hid hq
      clear hq
      refine wp_region_partR 15 [some 20, some 21, some 22, some 23, some 24, some 25, some 26, some 27, some 28, some 29, some 30, some 31, some 32, some 33, some 34] [[5], [7], [21], [7], [23], [24], [7], [26], [27], [25, 28], [1], [29, 30], [31], [22, 32], [33]]
        [Is (.slice R k c), Is (.pointer (some ⟨q, 0, none⟩)), Is (.int .i64 (x.f)), Is (.pointer (some ⟨q, 1, none⟩)), Is (.pointer (some ⟨q, 1, none⟩)), Is (.int .i64 (x.lo)), Is (.pointer (some ⟨q, 1, none⟩)), Is (.pointer (some ⟨q, 2, none⟩)), Is (.int .i64 (x.hi)), Ints [x.lo, x.hi], Is (.int .i64 (1)), CellP (x.hi), Is (.int .i64 (x.hi)), Is (.agg #[.int .i64 x.f, .int .i64 x.hi]), SlP 141 #[.int .i64 x.f, .int .i64 x.hi]]
        (by kernel_rfl) (by kernel_rfl) (by kernel_rfl) (by kernel_rfl) (by kernel_rfl) (by kernel_rfl) (by kernel_rfl) Ext (fun W => Ext W5 W)
        (fun W _ => Ext.refl W) (fun W W' h k => h.trans k) ?_ (Ext.drew _) ?_ ?_
      · repeat (refine ⟨fun _ _ _ _ k h => (by first | exact h | exact (by first | exact IntsAt.ext h k | exact CellP.ext h k | exact SlP.ext h k)), ?_⟩)
        exact trivial
      · refine ⟨?_, ?_, ?_, ?_, ?_, ?_, ?_, ?_, ?_, ?_, ?_, ?_, ?_, ?_, ?_, trivial⟩
        all_goals intro ρ W ⟨kc, kg, kf⟩ hF hs
        · obtain ⟨h0, -⟩ := hs
          replace h0 : ρ (.tmp 5) = .slice R k c := h0
          go_simp
          exact ⟨Ext.refl _, rfl⟩
        · obtain ⟨h0, -⟩ := hs
          replace h0 : ρ (.tmp 7) = .pointer (some ⟨q, 0, none⟩) := h0
          go_simp
          exact ⟨Ext.refl _, rfl⟩
        · obtain ⟨h0, -⟩ := hs
          replace h0 : ρ (.tmp 21) = .pointer (some ⟨q, 0, none⟩) := h0
          have hc0 : W.cell? ⟨q, 0, none⟩ = some (.int .i64 (x.f)) := hF.cell (by assumption)
          go_simp
          exact ⟨Ext.refl _, rfl⟩
        · obtain ⟨h0, -⟩ := hs
          replace h0 : ρ (.tmp 7) = .pointer (some ⟨q, 0, none⟩) := h0
          go_simp
          exact ⟨Ext.refl _, rfl⟩
        · obtain ⟨h0, -⟩ := hs
          replace h0 : ρ (.tmp 23) = .pointer (some ⟨q, 1, none⟩) := h0
          go_simp
          exact ⟨Ext.refl _, rfl⟩
        · obtain ⟨h0, -⟩ := hs
          replace h0 : ρ (.tmp 24) = .pointer (some ⟨q, 1, none⟩) := h0
          have hc0 : W.cell? ⟨q, 1, none⟩ = some (.int .i64 (x.lo)) := hF.cell (by assumption)
          go_simp
          exact ⟨Ext.refl _, rfl⟩
        · obtain ⟨h0, -⟩ := hs
          replace h0 : ρ (.tmp 7) = .pointer (some ⟨q, 0, none⟩) := h0
          go_simp
          exact ⟨Ext.refl _, rfl⟩
        · obtain ⟨h0, -⟩ := hs
          replace h0 : ρ (.tmp 26) = .pointer (some ⟨q, 1, none⟩) := h0
          go_simp
          exact ⟨Ext.refl _, rfl⟩
        · obtain ⟨h0, -⟩ := hs
          replace h0 : ρ (.tmp 27) = .pointer (some ⟨q, 2, none⟩) := h0
          have hc0 : W.cell? ⟨q, 2, none⟩ = some (.int .i64 (x.hi)) := hF.cell (by assumption)
          go_simp
          exact ⟨Ext.refl _, rfl⟩
        · obtain ⟨h0, h1, -⟩ := hs
          replace h0 : ρ (.tmp 25) = .int .i64 (x.lo) := h0
          replace h1 : ρ (.tmp 28) = .int .i64 (x.hi) := h1
          go_simp
          exact ⟨Ext.alloc _ _, ints_new _ [x.lo, x.hi] _ (by simp)⟩
        · obtain ⟨h0, -⟩ := hs
          replace h0 : ρ (.tmp 1) = .int .i64 (1) := h0
          go_simp
          exact ⟨Ext.refl _, rfl⟩
        · obtain ⟨h0, h1, -⟩ := hs
          replace h0 : (Ints [x.lo, x.hi]) (ρ (.tmp 29)) W := h0
          replace h1 : ρ (.tmp 30) = .int .i64 (1) := h1
          rcases h0 with ⟨ao, cap, -, hnil⟩ | ⟨b1, o1, cap, hv, hb1, hl, hcc⟩
          · cases hnil
          have hcu := hcc 1 (by simp)
          have hv2 : ρ (.tmp 29) = .slice (some ⟨b1, o1, none⟩) 2 cap := hv
          clear hv
          go_simp
          exact ⟨Ext.refl _, _, rfl, hcu⟩
        · obtain ⟨h0, -⟩ := hs
          replace h0 : (CellP (x.hi)) (ρ (.tmp 31)) W := h0
          obtain ⟨p, hv, hcc⟩ := h0
          have hv2 : ρ (.tmp 31) = .pointer (some p) := hv
          clear hv
          go_simp
          exact ⟨Ext.refl _, rfl⟩
        · obtain ⟨h0, h1, -⟩ := hs
          replace h0 : ρ (.tmp 22) = .int .i64 (x.f) := h0
          replace h1 : ρ (.tmp 32) = .int .i64 (x.hi) := h1
          go_simp
          exact ⟨Ext.refl _, rfl⟩
        · obtain ⟨h0, -⟩ := hs
          replace h0 : ρ (.tmp 33) = .agg #[.int .i64 x.f, .int .i64 x.hi] := h0
          go_simp
          exact ⟨Ext.alloc _ _, _, rfl, Blk.new _ _ _⟩
      · intro fv W hF hs
        obtain ⟨h20, -, -, -, -, -, -, -, -, -, -, -, -, -, h34, -⟩ := hs
        replace h20 : fv 20 = .slice R k c := h20
        replace h34 : (SlP 141 #[.int .i64 x.f, .int .i64 x.hi]) (fv 34) W := h34
        simp only [fin, List.filterMap]
        go_simp
        obtain ⟨q2, hq2, hQ2⟩ := h34
        rw [hq2]
        have Q2 := Lib.hid hQ2
        have hx6 := Lib.hid (X5.out.trans hF)
        clear hq2 hQ2
        clear hF l0 l1 l2 X5
        go_wp2_with
          (refine append_point (own_ext O.out hx6.out) (by omega) (by have := SZ.out; have := SQ.out; have := hx6.out.size; omega) Q2.out rfl (.tmp 20) (.tmp 34) rfl rfl rfl rfl ?_
           intro R' c' w2 hown' hkb hxe hgs
           have O2 := Lib.hid hown'
           have X2 := Lib.hid (hxe W0 (X.out.trans hx6.out) (Nat.le_refl _))
           clear hown' hkb hxe hgs)
        go_roundw
        case rel => exact ⟨k + 1, _, _, by omega, by go_num, rfl, by rw [HS.out]; exact O2.out, X2.out⟩
        case measure => simp [intOf]; omega
    · have hkn : k = n := by omega
      have hlt2 : ¬ (k : Int) < (n : Int) := by omega
      have H := Lib.hid (show RowsAt 2 frEnc wr R (xs.map fun x => (x.f, x.hi)) by
        have := rows_own (enc := frEnc) (xs := (xs.take k).map fun x => (x.f, x.hi)) (by have := HN.out; simp; omega) (fun _ => rfl) O.out (by omega)
        rwa [List.take_of_length_le (by have := HN.out; omega)] at this)
      have HKN := Lib.hid hkn
      clear hkn hlt
      go_wp2
      go_ret
      exact ⟨R, ⟨c, by rw [← HKN.out]; rfl⟩, H.out, E0.out.trans X.out⟩

end Go.Proofs.Ytmddnpagfgilcaa
