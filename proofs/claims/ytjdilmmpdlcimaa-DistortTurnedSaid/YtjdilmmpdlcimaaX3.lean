/- Bows of stations: lists of them. -/
import Derived.Test.YtjdilmmpdlcimaaX1
import Derived.Test.YtjdilmmpdlcimaaX2
import Derived.Test.YtjdilmmpdlcimaaFA
import Derived.Lib.MinMax
import Derived.Deep.DeepCutAuto
import Derived.BigRegion
import Derived.Laws.AppendOwn
import Derived.Laws.AppendOwnNone

namespace Go.Proofs.Ytjdilmmpdlcimaa
open Go.RowKit Go.Shelf Go.Mem Go.RegInv
attribute [local go_sem] RelUpon_value RelUpon_skip RelUpon_enter BigFrame.eval_const BigFrame.eval_global BigFrame.eval_func


theorem stnE_ok {p : Int} {i : Nat} {x : Sn} (h : stnE p i x = 0) : ((0 ≤ x.t ∧ x.t ≤ 10000) ∧ (-1000000 ≤ x.x ∧ x.x ≤ 1000000) ∧ -1000000 ≤ x.y ∧ x.y ≤ 1000000) ∧ (0 < i → p < x.t) := by
  unfold stnE at h
  by_cases h1 : 0 ≤ x.t ∧ x.t ≤ 10000
  · rw [if_pos h1] at h
    by_cases h2 : -1000000 ≤ x.x ∧ x.x ≤ 1000000
    · rw [if_pos h2] at h
      by_cases h3 : -1000000 ≤ x.y ∧ x.y ≤ 1000000
      · rw [if_pos h3] at h
        by_cases h4 : 0 < i ∧ x.t ≤ p
        · rw [if_pos h4] at h; cases h
        · exact ⟨⟨h1, h2, h3⟩, fun hi => by omega⟩
      · rw [if_neg h3] at h; cases h
    · rw [if_neg h2] at h; cases h
  · rw [if_neg h1] at h; cases h
theorem stnsE_ok {xs : List Sn} (h : stnsE xs = 0) : (2 ≤ xs.length ∧ xs.length ≤ 20) ∧ (∀ i, i < xs.length → (0 ≤ (xs.getD i default).t ∧ (xs.getD i default).t ≤ 10000) ∧ (-1000000 ≤ (xs.getD i default).x ∧ (xs.getD i default).x ≤ 1000000) ∧ -1000000 ≤ (xs.getD i default).y ∧ (xs.getD i default).y ≤ 1000000) ∧ ∀ i, i + 1 < xs.length → (xs.getD i default).t < (xs.getD (i + 1) default).t := by
  unfold stnsE at h
  by_cases h1 : xs.length < 2
  · rw [if_pos h1] at h; cases h
  · rw [if_neg h1] at h
    by_cases h2 : 20 < xs.length
    · rw [if_pos h2] at h; cases h
    · rw [if_neg h2] at h
      have ha := fun i (hi : i < xs.length) => stnE_ok (firstAt_zero h i (by omega) (by omega))
      refine ⟨by omega, fun i hi => (ha i hi).1, fun i hi => ?_⟩
      have := (ha (i + 1) hi).2 (by omega)
      rw [show i + 1 - 1 = i by omega] at this
      exact this
theorem stns_up {xs : List Sn} (h : ∀ i, i + 1 < xs.length → (xs.getD i default).t < (xs.getD (i + 1) default).t) (i : Nat) : ∀ d : Nat, i + d < xs.length → (xs.getD i default).t + d ≤ (xs.getD (i + d) default).t
  | 0, _ => by simp
  | d + 1, hd => by
    have ih := stns_up h i d (by omega)
    have := h (i + d) (by omega)
    rw [show i + (d + 1) = i + d + 1 by omega]
    omega
/-- What a station between the first and the last one is. -/
theorem stns_between {xs : List Sn} (h : stnsE xs = 0) {i : Nat} (hi : i < xs.length) : (1 ≤ (xs.getD (xs.length - 1) default).t - (xs.getD 0 default).t ∧ (xs.getD (xs.length - 1) default).t - (xs.getD 0 default).t ≤ 10000) ∧ 0 ≤ (xs.getD i default).t - (xs.getD 0 default).t ∧ (xs.getD i default).t - (xs.getD 0 default).t ≤ 10000 := by
  obtain ⟨h1, h2, h3⟩ := stnsE_ok h
  have a := stns_up h3 0 i (by omega)
  have b := stns_up h3 0 (xs.length - 1) (by omega)
  rw [Nat.zero_add] at a b
  have c := h2 0 (by omega)
  have d := h2 i hi
  have e := h2 (xs.length - 1) (by omega)
  omega
def bowsL (xs : List Sn) (k : Nat) : List Bw := (List.range k).map fun i => bowS (xs.getD 0 default) (xs.getD i default) (xs.getD (xs.length - 1) default)
theorem bowsL_len (xs : List Sn) (k : Nat) : (bowsL xs k).length = k := by simp [bowsL]
theorem bowsL_succ (xs : List Sn) (k : Nat) : (bowsL xs (k + 1)).flatMap Bw.enc = (bowsL xs k).flatMap Bw.enc ++ Bw.enc (bowS (xs.getD 0 default) (xs.getD k default) (xs.getD (xs.length - 1) default)) := by
  unfold bowsL
  rw [List.range_succ, List.map_append, List.flatMap_append]
  simp

theorem Bw_one : ∀ x, ∀ u ∈ Bw.enc x, u.oneCell' = true := by intro x u hu; simp [Bw.enc] at hu; rcases hu with rfl | rfl | rfl | rfl <;> rfl
theorem infoBwG : (Try.prog.info? 107).map (fun i => (i.zero, i.size, i.bytes)) = some (some (.agg #[.int .i64 0, .int .i64 0, .int .i64 0, .int .i64 0]), 4, 32) := by kernel_rfl

theorem append_Bw {W : World} {base k c : Nat} {R : Option Addr} {xs : List Value} (hown : W.ownsRow base 107 4 (.slice R k c) k xs) (hk : k ≤ 1000) (hbase : base ≤ W.heap.size) {b : Nat} {x : Bw} (hb : Blk W b 107 #[.int .i64 x.1.1, .int .i64 x.1.2, .int .i64 x.2.1, .int .i64 x.2.2])
    {o : Oper} {ops : Array Oper} {rest : List Oper} {a : Act} {Q : Exit → Act → World → Prop} (hg : o.guard = none) (p q : Operand) (hop : o.op = .call { callee := .builtin .append, args := #[p, q], argTypes := #[94, 94] }) (_hty : o.type = 94) (he6 : a.eval p = .slice R k c) (he8 : a.eval q = .slice (some ⟨b, 0, none⟩) 1 1)
    (hK : ∀ R' c' w', w'.ownsRow base 107 4 (.slice R' (k + 1) c') (k + 1) (xs ++ (Bw.enc x)) → (∀ b' t' cs, Blk W b' t' cs → t' ≠ 107 → Blk w' b' t' cs) → (∀ w0, Ext w0 W → w0.heap.size ≤ base → Ext w0 w') → W.heap.size ≤ w'.heap.size → wpList Try.prog ops Q rest (a.put o.dst (.slice R' (k + 1) c')) w') : wpList Try.prog ops Q (o :: rest) a W := by
  obtain ⟨i0, hi, hz0, hz1, hz2⟩ := info_parts infoBwG
  refine wpList_append_own _ hg _ _ 94 hop base 107 i0 (.agg #[.int .i64 0, .int .i64 0, .int .i64 0, .int .i64 0]) 4 32 (by kernel_rfl) hi hz0 hz1 hz2 rfl (by decide) _ _ _ he6 hown ⟨b, 0, none⟩ 1 1 (Bw.enc x) he8 rfl (fun j u hu => ?_) (Bw_one x) (by unfold maxLen; omega) (by omega) hbase ?_
  · have := hb.cell j
    rw [WideShapes.add_plain, show 0 + j = j by omega, this]
    match j, hu with
    | 0, hu => exact hu
    | 1, hu => exact hu
    | 2, hu => exact hu
    | 3, hu => exact hu
    | j + 4, hu => simp [Bw.enc] at hu
  · intro v' w1 hown' hgrow hx
    obtain ⟨A', c', hv'⟩ := own_slice hown'
    subst hv'
    exact hK _ _ _ hown' (fun g t' cs k ht => (hgrow.block _ k.lt (own_notBlk hown k ht)).trans k) (fun w0 e hw => Ext.grownBy e hgrow (fun g hg => by have := own_base hown hg; omega)) (by first | exact hgrow.size | exact hx.1 | omega)

theorem Sn_one : ∀ x, ∀ u ∈ Sn.enc x, u.oneCell' = true := by intro x u hu; simp [Sn.enc] at hu; rcases hu with rfl | rfl | rfl <;> rfl
theorem infoSnG : (Try.prog.info? 109).map (fun i => (i.zero, i.size, i.bytes)) = some (some (.agg #[.int .i64 0, .int .i64 0, .int .i64 0]), 3, 24) := by kernel_rfl

theorem Se_one : ∀ x, ∀ u ∈ Se.enc x, u.oneCell' = true := by intro x u hu; simp [Se.enc] at hu; rcases hu with rfl | rfl | rfl <;> rfl
theorem infoSeG : (Try.prog.info? 122).map (fun i => (i.zero, i.size, i.bytes)) = some (some (.agg #[.int .i64 0, .int .i64 0, .int .i64 0]), 3, 24) := by kernel_rfl

set_option maxRecDepth 100000 in
set_option maxHeartbeats 1000000 in
theorem bowsOf_bad {A : Option Addr} {n ca : Nat} {xs : List Sn} {w : World} (hn : xs.length = n) (hA : RowsAt 3 Sn.enc w A xs) (hz : stnsE xs ≠ 0) :
    Calls Try.prog 52 #[.slice A n ca] w fun e w' => e = .returned (.tuple #[.slice none 0 0, .int .i64 (stnsE xs)]) ∧ Ext w w' := by
  have HSE := Lib.hid (stationsError_any (ca := ca) hn hA)
  generalize stnsE xs = z at *
  have hz2 : (z != 0) = true := by simp [hz]
  clear hn hA hz
  go_enter Try.func52, Try.ntmps52
  go_wp2_with (go_at_call 104; refine HSE.out.mono ?_; rintro e W1 ⟨rfl, hx⟩; have X := Lib.hid hx; clear hx)
  go_ret2
  exact ⟨rfl, X.out⟩
set_option maxRecDepth 100000 in
set_option maxHeartbeats 1000000 in
theorem bowsOf_ok {A : Option Addr} {n ca : Nat} {xs : List Sn} {w : World} (hn : xs.length = n) (hA : RowsAt 3 Sn.enc w A xs) (hz : stnsE xs = 0) :
    Calls Try.prog 52 #[.slice A n ca] w fun e w' => ∃ B, (∃ c, e = .returned (.tuple #[.slice B n c, .int .i64 0])) ∧ RowsAt 4 Bw.enc w' B (bowsL xs n) ∧ Ext w w' := by
  have HSE := Lib.hid (show Calls Try.prog 104 #[.slice A n ca] w fun e w' => e = .returned (.int .i64 0) ∧ Ext w w' from by have := stationsError_any (ca := ca) hn hA; rw [hz] at this; exact this)
  obtain ⟨⟨h2, h20⟩, hst, -⟩ := stnsE_ok hz
  have HST := Lib.hid hst
  have HBT := Lib.hid (fun i (hi : i < xs.length) => stns_between hz hi)
  have HA := Lib.hid hA
  have HN := Lib.hid hn
  have h20n : n ≤ 20 := by omega
  obtain ⟨m, hm⟩ : ∃ m, m = n - 1 := ⟨_, rfl⟩
  have HM := Lib.hid (show n = m + 1 ∧ 1 ≤ m by omega)
  have HLN := Lib.hid (show xs.length - 1 = m by omega)
  rw [HLN.out] at HBT
  clear hn hA hz hst h2 h20 hm
  go_enter Try.func52, Try.ntmps52
  go_wp2_with (go_at_call 104; refine HSE.out.mono ?_; rintro e W1 ⟨rfl, hx⟩; have E0 := Lib.hid hx; clear hx; refine Hid.out ?_)
  refine Lib.hid ?_
  go_wp2
  clear HSE
  go_loopw [5, 15] (fun v i wr => ∃ (k c : Nat) (R : Option Addr), k ≤ n ∧ i = .int .i64 (k : Int) ∧ v = .slice R k c ∧ wr.ownsRow W1.heap.size 107 4 (.slice R k c) k ((bowsL xs k).flatMap Bw.enc) ∧ Ext W1 wr) (fun _ i _ => n - (intOf i).toNat)
  case atStart => exact ⟨0, 0, none, Nat.zero_le _, rfl, rfl, own_none _ _ _ _, Ext.refl _⟩
  case round =>
    obtain ⟨k, c, R, hk, rfl, rfl, ho, hx⟩ := hrel
    have X := Lib.hid (E0.out.trans hx)
    have X0 := Lib.hid hx
    have O := Lib.hid ho
    have SZ := Lib.hid (show W1.heap.size ≤ wr.heap.size from hx.size)
    clear hx ho
    by_cases hlt : k < n
    · obtain ⟨b, o, rfl, hb, hc⟩ := row_at (HA.out.ext X.out) (getD_some (xs := xs) (i := k) (by have := HN.out; omega))
      obtain ⟨b2, o2, he2, hb2, hf⟩ := row_at (HA.out.ext X.out) (getD_some (xs := xs) (i := 0) (by have := HN.out; have := HM.out; omega))
      obtain ⟨rfl, rfl⟩ : b = b2 ∧ o = o2 := by simpa using he2
      obtain ⟨b3, o3, he3, hb3, hl⟩ := row_at (HA.out.ext X.out) (getD_some (xs := xs) (i := m) (by have := HN.out; have := HM.out; omega))
      obtain ⟨rfl, rfl⟩ : b = b3 ∧ o = o3 := by simpa using he3
      have HS := Lib.hid (bowsL_succ xs k)
      rw [HLN.out] at HS
      have HBW := Lib.hid (fun W => bowOf_any (xs.getD 0 default) (xs.getD k default) (xs.getD m default) (HBT.out k (by have := HN.out; omega)).1 (HBT.out k (by have := HN.out; omega)).2 (HST.out 0 (by have := HN.out; omega)).2.1 (HST.out 0 (by have := HN.out; omega)).2.2 (HST.out k (by have := HN.out; omega)).2.1 (HST.out k (by have := HN.out; omega)).2.2 (HST.out m (by have := HN.out; have := HM.out; omega)).2.1 (HST.out m (by have := HN.out; have := HM.out; omega)).2.2 W)
      generalize bowS (xs.getD 0 default) (xs.getD k default) (xs.getD m default) = bw at *
      generalize xs.getD 0 default = f at *
      generalize xs.getD k default = x at *
      generalize xs.getD m default = l at *
      have hki : (k : Int) < (n : Int) := by omega
      have HB := Lib.hid HBW.out
      clear HBW he2 he3 hb hb2 hb3
      have c0 : wr.cell? ⟨b, o + k * 3, none⟩ = some (.int .i64 x.t) := hc 0 _ rfl
      have c1 : wr.cell? ⟨b, o + k * 3 + 1, none⟩ = some (.int .i64 x.x) := hc 1 _ rfl
      have c2 : wr.cell? ⟨b, o + k * 3 + 2, none⟩ = some (.int .i64 x.y) := hc 2 _ rfl
      simp only [Nat.zero_mul, Nat.add_zero] at hf
      have f0 : wr.cell? ⟨b, o, none⟩ = some (.int .i64 f.t) := by simpa using hf 0 _ rfl
      have f1 : wr.cell? ⟨b, o + 1, none⟩ = some (.int .i64 f.x) := hf 1 _ rfl
      have f2 : wr.cell? ⟨b, o + 2, none⟩ = some (.int .i64 f.y) := hf 2 _ rfl
      have l0 : wr.cell? ⟨b, o + m * 3, none⟩ = some (.int .i64 l.t) := hl 0 _ rfl
      have l1 : wr.cell? ⟨b, o + m * 3 + 1, none⟩ = some (.int .i64 l.x) := hl 1 _ rfl
      have l2 : wr.cell? ⟨b, o + m * 3 + 2, none⟩ = some (.int .i64 l.y) := hl 2 _ rfl
      clear hc hf hl
      obtain ⟨q7, hq7⟩ : ∃ q, q = wr.heap.size := ⟨_, rfl⟩
      obtain ⟨V, hV⟩ : ∃ V, V = wr.alloc (.cells #[.int .i64 x.t, .int .i64 x.x, .int .i64 x.y] 109) := ⟨_, rfl⟩
      have K7 := Lib.hid (show Blk V q7 109 #[.int .i64 x.t, .int .i64 x.x, .int .i64 x.y] by rw [hV, hq7]; exact Blk.new _ _ _)
      have hx3 : Ext wr V := by rw [hV]; exact Ext.alloc _ _
      go_upto_region 8 with (fail)
      rw [← hV, ← hq7]
      clear hV hq7 c0 c1 c2
      replace X0 := Lib.hid (X0.out.trans hx3)
      replace O := Lib.hid (own_ext O.out hx3)
      replace SZ := Lib.hid (Nat.le_trans SZ.out hx3.size)
      replace f0 := hx3.cell f0
      replace f1 := hx3.cell f1
      replace f2 := hx3.cell f2
      replace l0 := hx3.cell l0
      replace l1 := hx3.cell l1
      replace l2 := hx3.cell l2
      clear hx3
      have q0 : V.cell? ⟨q7, 0, none⟩ = some (.int .i64 x.t) := K7.out.cell 0
      have q1 : V.cell? ⟨q7, 1, none⟩ = some (.int .i64 x.x) := K7.out.cell 1
      have q2 : V.cell? ⟨q7, 2, none⟩ = some (.int .i64 x.y) := K7.out.cell 2
      refine wp_region_partR 13 [some 19, some 20, some 21, some 22, some 23, some 24, some 25, some 26, some 27, some 28, some 29, some 30, some 31] [[5], [0], [20], [21], [7], [0], [0], [25], [26], [24, 27], [28], [22, 23, 29], [30]]
        [Is (.slice R k c), Is (.slice (some ⟨b, o, none⟩) n ca), Is (.pointer (some ⟨b, o, none⟩)), Is (.agg #[.int .i64 (f.t), .int .i64 (f.x), .int .i64 (f.y)]), Is (.agg #[.int .i64 (x.t), .int .i64 (x.x), .int .i64 (x.y)]), Is (.slice (some ⟨b, o, none⟩) n ca), Is (.slice (some ⟨b, o, none⟩) n ca), Is (.int .i64 ((n : Int))), Is (.int .i64 ((n : Int) - 1)), Is (.pointer (some ⟨b, o + m * 3, none⟩)), Is (.agg #[.int .i64 (l.t), .int .i64 (l.x), .int .i64 (l.y)]), Is (.agg #[.int .i64 bw.1.1, .int .i64 bw.1.2, .int .i64 bw.2.1, .int .i64 bw.2.2]), SlP 107 #[.int .i64 bw.1.1, .int .i64 bw.1.2, .int .i64 bw.2.1, .int .i64 bw.2.2]]
        (by kernel_rfl) (by kernel_rfl) (by kernel_rfl) (by kernel_rfl) (by kernel_rfl) (by kernel_rfl) (by kernel_rfl) Ext (fun W => Ext V W)
        (fun W _ => Ext.refl W) (fun W W' h k => h.trans k) ?_ (Ext.drew _) ?_ ?_
      · repeat (refine ⟨fun _ _ _ _ k h => (by first | exact h | exact (by first | exact IntsAt.ext h k | exact SlP.ext h k)), ?_⟩)
        exact trivial
      · refine ⟨?_, ?_, ?_, ?_, ?_, ?_, ?_, ?_, ?_, ?_, ?_, ?_, ?_, trivial⟩
        all_goals intro ρ W ⟨kc, kg, kf⟩ hF hs
        · obtain ⟨h0, -⟩ := hs
          replace h0 : ρ (.tmp 5) = .slice R k c := h0
          go_simp
          exact ⟨Ext.refl _, rfl⟩
        · obtain ⟨h0, -⟩ := hs
          replace h0 : ρ (.tmp 0) = .slice (some ⟨b, o, none⟩) n ca := h0
          go_simp
          exact ⟨Ext.refl _, rfl⟩
        · obtain ⟨h0, -⟩ := hs
          replace h0 : ρ (.tmp 20) = .slice (some ⟨b, o, none⟩) n ca := h0
          have hb1 : (0 : Int) < (n : Int) := by have := HM.out; omega
          have hb8 : 0 < n := by have := HM.out; omega
          go_simp
          exact ⟨Ext.refl _, rfl⟩
        · obtain ⟨h0, -⟩ := hs
          replace h0 : ρ (.tmp 21) = .pointer (some ⟨b, o, none⟩) := h0
          have hc0 : W.cell? ⟨b, o, none⟩ = some (.int .i64 (f.t)) := hF.cell (by assumption)
          have hc1 : W.cell? ⟨b, o + 1, none⟩ = some (.int .i64 (f.x)) := hF.cell (by assumption)
          have hc2 : W.cell? ⟨b, o + 2, none⟩ = some (.int .i64 (f.y)) := hF.cell (by assumption)
          go_simp
          exact ⟨Ext.refl _, rfl⟩
        · obtain ⟨h0, -⟩ := hs
          replace h0 : ρ (.tmp 7) = .pointer (some ⟨q7, 0, none⟩) := h0
          have hc0 : W.cell? ⟨q7, 0, none⟩ = some (.int .i64 (x.t)) := hF.cell (by assumption)
          have hc1 : W.cell? ⟨q7, 1, none⟩ = some (.int .i64 (x.x)) := hF.cell (by assumption)
          have hc2 : W.cell? ⟨q7, 2, none⟩ = some (.int .i64 (x.y)) := hF.cell (by assumption)
          go_simp
          exact ⟨Ext.refl _, rfl⟩
        · obtain ⟨h0, -⟩ := hs
          replace h0 : ρ (.tmp 0) = .slice (some ⟨b, o, none⟩) n ca := h0
          go_simp
          exact ⟨Ext.refl _, rfl⟩
        · obtain ⟨h0, -⟩ := hs
          replace h0 : ρ (.tmp 0) = .slice (some ⟨b, o, none⟩) n ca := h0
          go_simp
          exact ⟨Ext.refl _, rfl⟩
        · obtain ⟨h0, -⟩ := hs
          replace h0 : ρ (.tmp 25) = .slice (some ⟨b, o, none⟩) n ca := h0
          go_simp
          exact ⟨Ext.refl _, rfl⟩
        · obtain ⟨h0, -⟩ := hs
          replace h0 : ρ (.tmp 26) = .int .i64 ((n : Int)) := h0
          have hw : IntKind.i64.wrap ((n : Int) - 1) = (n : Int) - 1 := wrap_id _ (by have := HM.out; omega) (by have := HM.out; omega)
          go_simp
          exact ⟨Ext.refl _, rfl⟩
        · obtain ⟨h0, h1, -⟩ := hs
          replace h0 : ρ (.tmp 24) = .slice (some ⟨b, o, none⟩) n ca := h0
          replace h1 : ρ (.tmp 27) = .int .i64 ((n : Int) - 1) := h1
          have hb1 : (n : Int) - 1 < (n : Int) := by omega
          have hb3 : (0 : Int) ≤ (n : Int) - 1 := by have := HM.out; omega
          have hb4 : ((n : Int) - 1).toNat = m := by have := HM.out; omega
          have hb7 : n - 1 = m := by have := HM.out; omega
          have hb5 : 1 ≤ n := by have := HM.out; omega
          have hb6 : (1 : Int) ≤ (n : Int) := by have := HM.out; omega
          have hb8 : m < n := by have := HM.out; omega
          go_simp
          exact ⟨Ext.refl _, rfl⟩
        · obtain ⟨h0, -⟩ := hs
          replace h0 : ρ (.tmp 28) = .pointer (some ⟨b, o + m * 3, none⟩) := h0
          have hc0 : W.cell? ⟨b, o + m * 3, none⟩ = some (.int .i64 (l.t)) := hF.cell (by assumption)
          have hc1 : W.cell? ⟨b, o + m * 3 + 1, none⟩ = some (.int .i64 (l.x)) := hF.cell (by assumption)
          have hc2 : W.cell? ⟨b, o + m * 3 + 2, none⟩ = some (.int .i64 (l.y)) := hF.cell (by assumption)
          go_simp
          exact ⟨Ext.refl _, rfl⟩
        · obtain ⟨h0, h1, h2, -⟩ := hs
          replace h0 : ρ (.tmp 22) = .agg #[.int .i64 (f.t), .int .i64 (f.x), .int .i64 (f.y)] := h0
          replace h1 : ρ (.tmp 23) = .agg #[.int .i64 (x.t), .int .i64 (x.x), .int .i64 (x.y)] := h1
          replace h2 : ρ (.tmp 29) = .agg #[.int .i64 (l.t), .int .i64 (l.x), .int .i64 (l.y)] := h2
          go_simp
          refine (HB.out _).mono ?_; rintro e w' ⟨rfl, hx⟩; exact ⟨_, rfl, hx, rfl⟩
        · obtain ⟨h0, -⟩ := hs
          replace h0 : ρ (.tmp 30) = .agg #[.int .i64 bw.1.1, .int .i64 bw.1.2, .int .i64 bw.2.1, .int .i64 bw.2.2] := h0
          go_simp
          exact ⟨Ext.alloc _ _, _, rfl, Blk.new _ _ _⟩
      · intro fv V1 hF hs
        obtain ⟨h19, -, -, -, -, -, -, -, -, -, -, -, h31, -⟩ := hs
        replace h19 : fv 19 = .slice R k c := h19
        replace h31 : (SlP 107 #[.int .i64 bw.1.1, .int .i64 bw.1.2, .int .i64 bw.2.1, .int .i64 bw.2.2]) (fv 31) V1 := h31
        simp only [fin, List.filterMap]
        go_simp
        obtain ⟨q31, hq31, hQ2⟩ := h31
        rw [hq31]
        have Q2 := Lib.hid hQ2
        have hx6 := Lib.hid hF
        clear hq31 hQ2 hF f0 f1 f2 l0 l1 l2 q0 q1 q2
        go_wp2_with
          (refine append_Bw (own_ext O.out hx6.out) (by omega) (by have := SZ.out; have := hx6.out.size; omega) Q2.out rfl (.tmp 19) (.tmp 31) rfl rfl rfl rfl ?_
           intro R' c' w2 hown' hkb hxe hgs
           have O2 := Lib.hid hown'
           have X2 := Lib.hid (hxe W1 (X0.out.trans hx6.out) (Nat.le_refl _))
           clear hown' hkb hxe hgs)
        go_roundw
        case rel => exact ⟨k + 1, _, _, by omega, by go_num, rfl, by rw [HS.out]; exact O2.out, X2.out⟩
        case measure => simp [intOf]; omega
    · obtain rfl : k = n := by omega
      have hkn : ¬ (k : Int) < (k : Int) := by omega
      have H := Lib.hid (show RowsAt 4 Bw.enc wr R (bowsL xs k) from rows_own (bowsL_len _ _) (fun _ => rfl) O.out (by omega))
      go_wp2
      go_ret2
      exact ⟨R, ⟨c, rfl⟩, H.out, X.out⟩

end Go.Proofs.Ytjdilmmpdlcimaa
