/- The curve of a plan. -/
import Derived.Test.YtmddnpagfgilcaaE3
import Derived.Lib.MinMax
import Derived.Laws.AppendOwn
import Derived.Laws.AppendOwnNone

namespace Go.Proofs.Ytmddnpagfgilcaa
open Go.RowKit Go.Shelf Go.Mem Go.RegInv
attribute [local go_sem] RelUpon_value RelUpon_skip RelUpon_enter BigFrame.eval_const BigFrame.eval_global BigFrame.eval_func


theorem own_base {W : World} {base : Nat} {e : TypeId} {size : Nat} {v : Value} {n : Nat} {xs : List Value} (r : W.ownsRow base e size v n xs) {g : Nat} (h : v.ownBlock = some g) : base ≤ g := by
  rcases r.2 with ⟨rfl, _⟩ | ⟨g', cap, cur, rfl, h2, _⟩
  · simp [Value.ownBlock] at h
  · simp [Value.ownBlock] at h; omega
theorem own_slice {W : World} {base n k : Nat} {e : TypeId} {v : Value} {xs : List Value} (h : W.ownsRow base e k v n xs) : ∃ A c, v = .slice A n c := by
  rcases h.2 with ⟨rfl, rfl⟩ | ⟨g, cap, cu, rfl, _⟩
  · exact ⟨none, 0, by have := h.1; simp⟩
  · exact ⟨_, cap, rfl⟩
theorem own_ext {W W' : World} {base n k : Nat} {e : TypeId} {v : Value} {xs : List Value} (h : W.ownsRow base e k v n xs) (x : Ext W W') : W'.ownsRow base e k v n xs := by
  refine ⟨h.1, ?_⟩
  rcases h.2 with h2 | ⟨g, cap, cu, hv, hg, hh, r⟩
  · exact .inl h2
  · exact .inr ⟨g, cap, cu, hv, hg, (show Blk W' g e cu from (show Blk W g e cu from hh).ext x), r⟩
theorem own_none (W : World) (base : Nat) (e : TypeId) (size : Nat) : W.ownsRow base e size (.slice none 0 0) 0 [] := ⟨by simp, .inl ⟨rfl, rfl⟩⟩
theorem own_cells {W : World} {base n k : Nat} {e : TypeId} {v : Value} {xs : List Value} (h : W.ownsRow base e k v n xs) (h1 : 1 ≤ n) : ∃ g c cu, v = .slice (some ⟨g, 0, none⟩) n c ∧ base ≤ g ∧ n ≤ c ∧ Blk W g e cu ∧ ∀ (i : Nat) (u : Value), xs[i]? = some u → cu[i]? = some u := by
  rcases h.2 with ⟨_, rfl⟩ | ⟨g, cap, cu, rfl, hb, hh, hc, _, hs, ht⟩
  · omega
  · refine ⟨g, cap, cu, rfl, hb, hc, hh, fun i u hi => ?_⟩
    rw [← ht] at hi
    have := (List.getElem?_eq_some_iff.1 hi).1
    rw [List.getElem?_take_of_lt (by simp at this; omega)] at hi
    simpa using hi
theorem rows_own {α : Type} {W : World} {base n k : Nat} {e : TypeId} {A : Option Addr} {c : Nat} {enc : α → List Value} {xs : List α} (hl : xs.length = n) (hk : ∀ x, (enc x).length = k) (h : W.ownsRow base e k (.slice A n c) n (xs.flatMap enc)) (hn : n ≤ 1152921504606846976) : RowsAt k enc W A xs := by
  refine ⟨by omega, fun i x hx => ?_⟩
  have hi := (List.getElem?_eq_some_iff.1 hx).1
  obtain ⟨g, c', cu, he, _, _, hb, hc⟩ := own_cells h (by omega)
  obtain ⟨rfl, rfl⟩ : A = some ⟨g, 0, none⟩ ∧ c = c' := by simpa using he
  refine ⟨g, 0, rfl, hb.lt, fun j u hu => ?_⟩
  rw [hb.cell]
  have hj := (List.getElem?_eq_some_iff.1 hu).1
  rw [hk] at hj
  rw [show 0 + i * k + j = i * k + j by omega]
  refine hc _ _ ?_
  have key : ∀ (l : List α) (i : Nat), l[i]? = some x → (l.flatMap enc)[i * k + j]? = some u := by
    intro l
    induction l with
    | nil => intro i h; simp at h
    | cons y l ih =>
      intro i h
      cases i with
      | zero =>
        obtain rfl : y = x := by simpa using h
        rw [List.flatMap_cons, List.getElem?_append_left (by rw [hk]; omega)]
        simpa using hu
      | succ i =>
        rw [List.flatMap_cons, List.getElem?_append_right (by rw [hk, Nat.succ_mul]; omega), hk, show (i + 1) * k + j - k = i * k + j by rw [Nat.succ_mul]; omega]
        exact ih i (by simpa using h)
  exact key xs i hx

theorem own_notBlk {W : World} {base : Nat} {e : TypeId} {size : Nat} {v : Value} {n : Nat} {xs : List Value} (r : W.ownsRow base e size v n xs) {g : Nat} {t : TypeId} {cs : Array Value} (b : Blk W g t cs) (hne : t ≠ e) : some g ≠ v.ownBlock := by
  rcases r.2 with ⟨rfl, _⟩ | ⟨g', cap, cur, rfl, h2, h3, _⟩
  · simp [Value.ownBlock]
  · intro he
    obtain rfl : g = g' := by simpa [Value.ownBlock] using he
    unfold Blk at b
    rw [h3] at b
    simp at b
    exact hne b.2.symm
theorem info32 : (Try.prog.info? 32).map (fun i => (i.zero, i.size, i.bytes)) = some (some (.agg #[.int .i64 0, .int .i64 0]), 2, 16) := by kernel_rfl
theorem append_frac {W : World} {base k c : Nat} {R : Option Addr} {xs : List Value} (hown : W.ownsRow base 32 2 (.slice R k c) k xs) (hk : k ≤ 100) (hbase : base ≤ W.heap.size) {b : Nat} {g h : Int} (hb : Blk W b 32 #[.int .i64 g, .int .i64 h])
    {o : Oper} {ops : Array Oper} {rest : List Oper} {a : Act} {Q : Exit → Act → World → Prop} (hg : o.guard = none) (p q : Operand) (hop : o.op = .call { callee := .builtin .append, args := #[p, q], argTypes := #[58, 58] }) (_hty : o.type = 58) (he6 : a.eval p = .slice R k c) (he8 : a.eval q = .slice (some ⟨b, 0, none⟩) 1 1)
    (hK : ∀ R' c' w', w'.ownsRow base 32 2 (.slice R' (k + 1) c') (k + 1) (xs ++ [.int .i64 g, .int .i64 h]) → (∀ b' t' cs, Blk W b' t' cs → t' ≠ 32 → Blk w' b' t' cs) → (∀ w0, Ext w0 W → w0.heap.size ≤ base → Ext w0 w') → W.heap.size ≤ w'.heap.size → wpList Try.prog ops Q rest (a.put o.dst (.slice R' (k + 1) c')) w') : wpList Try.prog ops Q (o :: rest) a W := by
  obtain ⟨i0, hi, hz0, hz1, hz2⟩ := info_parts info32
  refine wpList_append_own _ hg _ _ 58 hop base 32 i0 (.agg #[.int .i64 0, .int .i64 0]) 2 16 Try.underlying58 hi hz0 hz1 hz2 rfl (by decide) _ _ _ he6 hown ⟨b, 0, none⟩ 1 1 [.int .i64 g, .int .i64 h] he8 rfl (fun j u hu => ?_) (by simp [Value.oneCell']) (by unfold maxLen; omega) (by omega) hbase ?_
  · have := hb.cell j
    rw [WideShapes.add_plain, show 0 + j = j by omega, this]
    match j, hu with
    | 0, hu => exact hu
    | 1, hu => exact hu
    | j + 2, hu => simp at hu
  · intro v' w1 hown' hgrow hx
    obtain ⟨A', c', hv'⟩ := own_slice hown'
    subst hv'
    exact hK _ _ _ hown' (fun g t' cs k ht => (hgrow.block _ k.lt (own_notBlk hown k ht)).trans k) (fun w0 e hw => Ext.grownBy e hgrow (fun g hg => by have := own_base hown hg; omega)) (by first | exact hgrow.size | exact hx.1 | omega)
def frEnc (p : Int × Int) : List Value := [.int .i64 p.1, .int .i64 p.2]
def curveK (L s a k : Nat) : List (Int × Int) := (List.range k).map fun b => accF L s a b
theorem curveK_len (L s a k : Nat) : (curveK L s a k).length = k := by simp [curveK]
theorem curveK_at {L s a k b : Nat} (h : b < k) : (curveK L s a k)[b]? = some (accF L s a b) := by simp [curveK, h]
theorem curveK_succ (L s a k : Nat) : (curveK L s a (k + 1)).flatMap frEnc = (curveK L s a k).flatMap frEnc ++ [.int .i64 (accF L s a k).1, .int .i64 (accF L s a k).2] := by
  simp [curveK, List.range_succ, List.flatMap_append, frEnc]
def CurvePost (L s a : Nat) (w : World) (z : Option Value) (e : Ending) (w' : World) : Prop := ∃ A c, e = .returned (match z with | some v => .tuple #[.slice A (L + 1) c, v] | none => .slice A (L + 1) c) ∧ RowsAt 2 frEnc w' A (curveK L s a (L + 1)) ∧ Ext w w'
set_option maxRecDepth 100000 in
set_option maxHeartbeats 1000000 in
theorem curveOf_ok (L s a : Nat) (hL : L ≤ 30) (hs : 1 ≤ s) (hs2 : s ≤ L) (ha : a ≤ s) (w : World) :
    Calls Try.prog 60 #[.agg #[.int .i64 (L : Int), .int .i64 (s : Int), .int .i64 (a : Int)]] w (CurvePost L s a w (some (.int .i64 0))) := by
  have HPL := Lib.hid (fun W => show Calls Try.prog 106 #[.agg #[.int .i64 (L : Int), .int .i64 (s : Int), .int .i64 (a : Int)]] W fun e w' => e = .returned (.int .i64 0) ∧ Ext W w' from by
    have := planError_any L s a W
    rw [show planE L s a = 0 by
      rw [planE_eq, withinB_eq, withinB_eq, withinB_eq]
      simp only [decide_eq_true_eq]
      rw [if_pos (by omega), if_pos (by omega), if_pos (by omega)]] at this
    exact this)
  have HAC := Lib.hid (fun k (hk : k ≤ L) W => acceptance_any L s a k hL hs hs2 ha hk W)
  obtain ⟨W0, hW0⟩ : ∃ W0, W0 = w.alloc (.cells #[.int .i64 (L : Int), .int .i64 (s : Int), .int .i64 (a : Int)] 104) := ⟨_, rfl⟩
  have K0 := Lib.hid (show Blk W0 w.heap.size 104 #[.int .i64 (L : Int), .int .i64 (s : Int), .int .i64 (a : Int)] by rw [hW0]; exact Blk.new _ _ _)
  have E0 := Lib.hid (show Ext w W0 by rw [hW0]; exact Ext.alloc _ _)
  have y0 : W0.cell? ⟨w.heap.size, 0, none⟩ = some (.int .i64 (L : Int)) := K0.out.cell 0
  have y1 : W0.cell? ⟨w.heap.size, 1, none⟩ = some (.int .i64 (s : Int)) := K0.out.cell 1
  have y2 : W0.cell? ⟨w.heap.size, 2, none⟩ = some (.int .i64 (a : Int)) := K0.out.cell 2
  go_enter Try.func60, Try.ntmps60
  go_wp2_with (fail)
  rw [← hW0]
  clear hW0
  go_wp2_with (go_at_call 106; refine (HPL.out _).mono ?_; rintro e W4 ⟨rfl, hx⟩; have X4 := Lib.hid hx; clear hx y0 y1 y2; refine Hid.out ?_)
  refine Lib.hid ?_
  have y0 : W4.cell? ⟨w.heap.size, 0, none⟩ = some (.int .i64 (L : Int)) := (K0.out.ext X4.out).cell 0
  go_wp2
  clear y0
  go_loopw [5, 15] (fun v i wr => ∃ (k c : Nat) (R : Option Addr), k ≤ L + 1 ∧ i = .int .i64 k ∧ v = .slice R k c ∧ wr.ownsRow W0.heap.size 32 2 (.slice R k c) k ((curveK L s a k).flatMap frEnc) ∧ Ext W0 wr) (fun _ i _ => L + 1 - (intOf i).toNat)
  case atStart => exact ⟨0, 0, none, Nat.zero_le _, rfl, rfl, own_none _ _ _ _, X4.out⟩
  case round =>
    obtain ⟨k, c, R, hk, rfl, rfl, ho, hx⟩ := hrel
    have X := Lib.hid hx
    have O := Lib.hid ho
    have SZ := Lib.hid (show W0.heap.size ≤ wr.heap.size from hx.size)
    clear hx ho X4
    have y0 : wr.cell? ⟨w.heap.size, 0, none⟩ = some (.int .i64 (L : Int)) := (K0.out.ext X.out).cell 0
    have y1 : wr.cell? ⟨w.heap.size, 1, none⟩ = some (.int .i64 (s : Int)) := (K0.out.ext X.out).cell 1
    have y2 : wr.cell? ⟨w.heap.size, 2, none⟩ = some (.int .i64 (a : Int)) := (K0.out.ext X.out).cell 2
    by_cases hlt : k < L + 1
    · have hki : (k : Int) < (L : Int) + 1 := by omega
      have HC := Lib.hid (fun W => HAC.out k (by omega) W)
      have HK := Lib.hid (curveK_succ L s a k)
      generalize accF L s a k = ac at *
      go_wp2_with (go_at_call 108; refine (HC.out _).mono ?_; rintro e W1 ⟨rfl, hx1⟩; clear y0 y1 y2; have HX1 := Lib.hid hx1; clear hx1; refine Hid.out ?_)
      refine Lib.hid ?_
      have hx1 := HX1.out
      go_wp2_with
        (refine append_frac (own_ext O.out (hx1.trans (Ext.alloc _ _))) (by omega) (by have := SZ.out; have := hx1.size; simp only [World.size_alloc]; omega) (Blk.new _ _ _) rfl (.tmp 18) (.tmp 22) rfl rfl rfl rfl ?_
         intro R' c' w2 hown' hkb hxe hgs
         have O2 := Lib.hid hown'
         have X2 := Lib.hid (hxe W0 (X.out.trans (hx1.trans (Ext.alloc _ _))) (Nat.le_refl _))
         clear hown' hkb hxe hgs)
      go_roundw
      case rel => exact ⟨k + 1, _, _, by omega, by go_num, rfl, by rw [HK.out]; exact O2.out, X2.out⟩
      case measure => simp [intOf]; omega
    · have hkL : k = L + 1 := by omega
      have hki : ¬ (k : Int) < (L : Int) + 1 := by omega
      have H := Lib.hid (show RowsAt 2 frEnc wr R (curveK L s a (L + 1)) by rw [← hkL]; exact rows_own (enc := frEnc) (curveK_len L s a k) (fun _ => rfl) O.out (by omega))
      have HKL := Lib.hid hkL
      clear hkL
      go_wp2
      go_ret2
      exact ⟨R, c, by rw [← HKL.out]; rfl, H.out, E0.out.trans X.out⟩

set_option maxRecDepth 100000 in
set_option maxHeartbeats 1000000 in
theorem curveOf_bad (L s a : Int) (hz : planE L s a ≠ 0) (w : World) :
    Calls Try.prog 60 #[.agg #[.int .i64 L, .int .i64 s, .int .i64 a]] w fun e w' => e = .returned (.tuple #[.slice none 0 0, .int .i64 (planE L s a)]) ∧ Ext w w' := by
  have HPL := Lib.hid (fun W => planError_any L s a W)
  have hz2 : (planE L s a != 0) = true := by simp [hz]
  generalize planE L s a = z at *
  go_enter Try.func60, Try.ntmps60
  go_wp2_with (go_at_call 106; refine (HPL.out _).mono ?_; rintro e W4 ⟨rfl, hx⟩; have X4 := Lib.hid ((Ext.alloc _ _).trans hx); clear hx)
  go_ret2
  exact ⟨rfl, X4.out⟩
set_option maxRecDepth 100000 in
set_option maxHeartbeats 1000000 in
theorem refCurve_any (L s a : Nat) (hL : L ≤ 30) (hs : 1 ≤ s) (hs2 : s ≤ L) (ha : a ≤ s) (w : World) :
    Calls Try.prog 66 #[.agg #[.int .i64 (L : Int), .int .i64 (s : Int), .int .i64 (a : Int)]] w (CurvePost L s a w none) := by
  have HAC := Lib.hid (fun k (hk : k ≤ L) W => refAcceptance_any L s a k hL hs hs2 ha hk W)
  obtain ⟨W0, hW0⟩ : ∃ W0, W0 = w.alloc (.cells #[.int .i64 (L : Int), .int .i64 (s : Int), .int .i64 (a : Int)] 104) := ⟨_, rfl⟩
  have K0 := Lib.hid (show Blk W0 w.heap.size 104 #[.int .i64 (L : Int), .int .i64 (s : Int), .int .i64 (a : Int)] by rw [hW0]; exact Blk.new _ _ _)
  have E0 := Lib.hid (show Ext w W0 by rw [hW0]; exact Ext.alloc _ _)
  go_enter Try.func66, Try.ntmps66
  go_wp2
  rw [← hW0]
  clear hW0
  go_loopw [3, 4] (fun v i wr => ∃ (k c : Nat) (R : Option Addr), k ≤ L + 1 ∧ i = .int .i64 k ∧ v = .slice R k c ∧ wr.ownsRow W0.heap.size 32 2 (.slice R k c) k ((curveK L s a k).flatMap frEnc) ∧ Ext W0 wr) (fun _ i _ => L + 1 - (intOf i).toNat)
  case atStart => exact ⟨0, 0, none, Nat.zero_le _, rfl, rfl, own_none _ _ _ _, Ext.refl _⟩
  case round =>
    obtain ⟨k, c, R, hk, rfl, rfl, ho, hx⟩ := hrel
    have X := Lib.hid hx
    have O := Lib.hid ho
    have SZ := Lib.hid (show W0.heap.size ≤ wr.heap.size from hx.size)
    clear hx ho
    have y0 : wr.cell? ⟨w.heap.size, 0, none⟩ = some (.int .i64 (L : Int)) := (K0.out.ext X.out).cell 0
    have y1 : wr.cell? ⟨w.heap.size, 1, none⟩ = some (.int .i64 (s : Int)) := (K0.out.ext X.out).cell 1
    have y2 : wr.cell? ⟨w.heap.size, 2, none⟩ = some (.int .i64 (a : Int)) := (K0.out.ext X.out).cell 2
    by_cases hlt : k < L + 1
    · have hki : (k : Int) ≤ (L : Int) := by omega
      have HC := Lib.hid (fun W => HAC.out k (by omega) W)
      have HK := Lib.hid (curveK_succ L s a k)
      generalize accF L s a k = ac at *
      go_wp2_with (go_at_call 67; refine (HC.out _).mono ?_; rintro e W1 ⟨rfl, hx1⟩; clear y0 y1 y2; have HX1 := Lib.hid hx1; clear hx1; refine Hid.out ?_)
      refine Lib.hid ?_
      have hx1 := HX1.out
      go_wp2_with
        (refine append_frac (own_ext O.out (hx1.trans (Ext.alloc _ _))) (by omega) (by have := SZ.out; have := hx1.size; simp only [World.size_alloc]; omega) (Blk.new _ _ _) rfl (.tmp 11) (.tmp 15) rfl rfl rfl rfl ?_
         intro R' c' w2 hown' hkb hxe hgs
         have O2 := Lib.hid hown'
         have X2 := Lib.hid (hxe W0 (X.out.trans (hx1.trans (Ext.alloc _ _))) (Nat.le_refl _))
         clear hown' hkb hxe hgs)
      go_roundw
      case rel => exact ⟨k + 1, _, _, by omega, by go_num, rfl, by rw [HK.out]; exact O2.out, X2.out⟩
      case measure => simp [intOf]; omega
    · have hkL : k = L + 1 := by omega
      have hki : ¬ (k : Int) ≤ (L : Int) := by omega
      have H := Lib.hid (show RowsAt 2 frEnc wr R (curveK L s a (L + 1)) by rw [← hkL]; exact rows_own (enc := frEnc) (curveK_len L s a k) (fun _ => rfl) O.out (by omega))
      have HKL := Lib.hid hkL
      clear hkL
      go_wp2
      go_ret
      exact ⟨R, c, by rw [← HKL.out]; rfl, H.out, E0.out.trans X.out⟩


end Go.Proofs.Ytmddnpagfgilcaa
