/- Which shells are hot: the program's function and the reference. -/
import Derived.Test.YtpaoeghdfeekoaaE1
namespace Go.Proofs.Ytpaoeghdfeekoaa
open Go.RowKit Go.Shelf Go.Mem Go.RegInv

theorem info4 : (Try.prog.info? 4).map (fun i => (i.zero, i.size, i.bytes)) = some (some (.bool false), 1, 1) := by kernel_rfl

def hotL (xs : List Int) (c : Int) : List Bool := xs.map fun x => decide (c ≤ x)
def BoolsAt (W : World) (v : Value) (bs : List Bool) : Prop := ∃ A cap, v = .slice A bs.length cap ∧ RowsAt 1 boolEnc W A bs
theorem BoolsAt.ext {W W' : World} {v : Value} {bs : List Bool} (h : BoolsAt W v bs) (e : Ext W W') : BoolsAt W' v bs := by
  obtain ⟨A, cap, h1, h2⟩ := h; exact ⟨A, cap, h1, h2.ext e⟩
theorem bools_of_own {W : World} {base n : Nat} {v : Value} {bs : List Bool} (hl : bs.length = n) (hn : n ≤ 1152921504606846976) (h : W.ownsRow base 4 1 v n (bs.map Value.bool)) : BoolsAt W v bs := by
  rcases h.2 with ⟨rfl, rfl⟩ | ⟨g, cap, cu, rfl, _, hh, hc, _, hs, ht⟩
  · obtain rfl := List.eq_nil_of_length_eq_zero hl
    exact ⟨none, 0, rfl, by simp [RowsAt]⟩
  · refine ⟨_, cap, by rw [hl], by omega, fun i x hx => ⟨g, 0, rfl, (show Blk W g 4 cu from hh).lt, fun j u hu => ?_⟩⟩
    have hi := (List.getElem?_eq_some_iff.1 hx).1
    match j, hu with
    | 0, hu =>
      obtain rfl : Value.bool x = u := by simpa [boolEnc] using hu
      rw [(show Blk W g 4 cu from hh).cell]
      have h2 : (bs.map Value.bool)[i]? = some (.bool x) := by simp [hx]
      rw [← ht, List.getElem?_take, if_pos (by omega), Array.getElem?_toList] at h2
      rw [show 0 + i * 1 + 0 = i by omega]; exact h2
    | j + 1, hu => simp [boolEnc] at hu

theorem hot_take (xs : List Int) (c : Int) (k : Nat) (x : Int) (h : xs[k]? = some x) : (hotL (xs.take (k + 1)) c).map Value.bool = (hotL (xs.take k) c).map Value.bool ++ [.bool (decide (c ≤ x))] := by
  rw [List.take_add_one, h]; simp [hotL]

set_option maxRecDepth 100000 in
set_option maxHeartbeats 2000000 in
theorem hot_any (v : Value) (xs : List Int) (c : Int) (w : World) (hx : IntsAt w v xs) (h6 : xs.length ≤ 6) :
    Calls Try.prog 31 #[v, .int .i64 c] w fun e w' => ∃ u, e = .returned u ∧ BoolsAt w' u (hotL xs c) ∧ Ext w w' := by
  obtain ⟨A, ca, rfl, ha⟩ := ints_rows hx
  have HA := Lib.hid ha
  clear hx ha
  obtain ⟨n, hn⟩ : ∃ n, n = xs.length := ⟨_, rfl⟩
  rw [← hn] at h6 ⊢
  have HN := Lib.hid hn
  clear hn
  obtain ⟨i0, hi, hz0, hz1, hz2⟩ := info_parts info4
  have HI0 := Lib.hid hz0
  go_enter Try.func31, Try.ntmps31
  go_wp2
  go_loopw [6, 5] (fun i v wr => ∃ k : Nat, k ≤ n ∧ i = .int .i64 k ∧ wr.ownsRow w.heap.size 4 1 v k ((hotL (xs.take k) c).map Value.bool) ∧ Ext w wr) (fun i _ _ => n - (intOf i).toNat)
  case atStart => exact ⟨0, Nat.zero_le _, rfl, World.ownsRow_nil _ _ _ _, Ext.refl _⟩
  case round =>
    obtain ⟨k, hk, rfl, hown, he⟩ := hrel
    have HO := Lib.hid hown
    have HE := Lib.hid he
    by_cases hlt : k < n
    · obtain ⟨x, hax⟩ : ∃ x, xs[k]? = some x := ⟨_, List.getElem?_eq_getElem (by rw [← HN.out]; exact hlt)⟩
      obtain ⟨b1, o1, hA1, _, hc⟩ := HA.out.2 k x hax
      subst hA1
      have hc1 : wr.cell? ⟨b1, o1 + k, none⟩ = some (.int .i64 x) := he.cell (by have := hc 0 _ rfl; simpa using this)
      have HT := Lib.hid (hot_take xs c k x hax)
      have hwb := he.size
      clear hc hax hown he
      go_wp2_with (at_builtin; refine wpList_append_own _ rfl _ _ 25 rfl w.heap.size 4 i0 (.bool false) 1 1 Try.underlying25 hi HI0.out hz1 hz2 rfl (by decide) _ _ _ rfl (HO.out.alloc _) ⟨wr.heap.size, 0, none⟩ 1 1 [.bool (decide (c ≤ x))] rfl rfl (news_of1 (Blk.new wr 4 #[.bool (decide (c ≤ x))])) (by simp [Value.oneCell']) (by unfold maxLen; omega) (by omega) (by simp; omega) ?_; intro v' w1 hown' hgrow _; have HO1 := Lib.hid hown'; have HE1 := Lib.hid (Ext.grownBy (HE.out.trans (Ext.alloc _ _)) hgrow (fun g hg => own_base HO.out hg)); clear hown' hgrow)
      go_roundw
      case rel => exact ⟨k + 1, by omega, by go_num, by rw [HT.out]; exact HO1.out, HE1.out⟩
      case measure => simp [intOf]; omega
    · obtain rfl : k = n := by omega
      clear hown he
      go_wp2
      go_ret
      exact ⟨_, rfl, bools_of_own (n := k) (by rw [hotL, List.length_map]; exact HN.out.symm) (by omega) (by have := HO.out; rw [List.take_of_length_le (by rw [← HN.out]; omega)] at this; exact this), HE.out⟩

def hatE (xs : List Int) (c : Int) : Int := firstE [errIf (decide ((4 : Int) < (xs.length : Int))) 8, rangeE 1 3000 xs, rangeE 1 3000 [c]]

set_option maxRecDepth 100000 in
set_option maxHeartbeats 2000000 in
theorem hotAt_any (v : Value) (xs : List Int) (c : Int) (w : World) (hx : IntsAt w v xs) (h6 : xs.length ≤ 6) :
    Calls Try.prog 27 #[v, .int .i64 c] w fun e w' => Ext w w' ∧ ((hatE xs c ≠ 0 ∧ e = .returned (.tuple #[.slice none 0 0, .int .i64 (hatE xs c)])) ∨ (hatE xs c = 0 ∧ ∃ u, e = .returned (.tuple #[u, .int .i64 0]) ∧ BoolsAt w' u (hotL xs c))) := by
  have HX := Lib.hid hx
  have HE0 := Lib.hid (show hatE xs c = firstE [errIf (decide ((4 : Int) < (xs.length : Int))) 8, rangeE 1 3000 xs, rangeE 1 3000 [c]] from rfl)
  obtain ⟨r, hrr⟩ : ∃ r, r = hatE xs c := ⟨_, rfl⟩
  rw [← hrr] at HE0 ⊢
  clear hrr
  obtain ⟨A, ca, rfl, ha⟩ := ints_rows hx
  have HA := Lib.hid ha
  clear hx ha
  obtain ⟨n, hn⟩ : ∃ n, n = xs.length := ⟨_, rfl⟩
  rw [← hn] at h6 HE0 HX ⊢
  have HN := Lib.hid hn
  clear hn
  obtain ⟨i0, hi, hz0, hz1, hz2⟩ := info_parts info4
  have HI0 := Lib.hid hz0
  by_cases hr : r = 0
  · have hr' : (r != 0) = false := by simp [hr]
    have HR := Lib.hid hr
    clear hr
    go_enter Try.func27, Try.ntmps27
    go_wp2_with (first
      | (go_at_call 85; refine (errorIf_any _ _ _).mono ?_; rintro e w' ⟨rfl, rfl⟩)
      | (go_at_call 84; refine (rangeError_any 1 3000 _ xs _ (by first | exact HX.out | exact HX.out.ext HE1.out)).mono ?_; rintro e W1 ⟨rfl, hx1⟩; have HE1 := Lib.hid hx1; clear hx1)
      | (go_at_call 84; refine (rangeError_any 1 3000 _ [c] _ (ints_new _ [c] _ (by simp))).mono ?_; rintro e W2 ⟨rfl, hx2⟩; have HE2 := Lib.hid ((HE1.out.trans (Ext.alloc _ _)).trans hx2); clear hx2; generalize errIf (decide ((4 : Int) < (n : Int))) 8 = q1 at HE0 ⊢; generalize rangeE 1 3000 xs = q2 at HE0 ⊢; generalize rangeE 1 3000 [c] = q3 at HE0 ⊢)
      | (go_at_call 83; refine (firstOf_any _ [q1, q2, q3] _ (ints_new _ [q1, q2, q3] _ (by simp))).mono ?_; rintro e W3 ⟨rfl, rfl⟩; rw [← HE0.out]; have HE3 := Lib.hid (HE2.out.trans (Ext.alloc W2 (.cells #[.int .i64 q1, .int .i64 q2, .int .i64 q3] 31)))))
    generalize hW9 : W2.alloc (.cells #[.int .i64 q1, .int .i64 q2, .int .i64 q3] 31) = W9 at HE3 ⊢
    clear hW9
    have hsz9 := HE3.out.size
    go_loopw [26, 7] (fun i v wr => ∃ k : Nat, k ≤ n ∧ i = .int .i64 k ∧ wr.ownsRow w.heap.size 4 1 v k ((hotL (xs.take k) c).map Value.bool) ∧ Ext w wr) (fun i _ _ => n - (intOf i).toNat)
    case atStart => exact ⟨0, Nat.zero_le _, rfl, World.ownsRow_nil _ _ _ _, HE3.out⟩
    case round =>
      obtain ⟨k, hk, rfl, hown, he⟩ := hrel
      have HO := Lib.hid hown
      have HE := Lib.hid he
      by_cases hlt : k < n
      · obtain ⟨x, hax⟩ : ∃ x, xs[k]? = some x := ⟨_, List.getElem?_eq_getElem (by rw [← HN.out]; exact hlt)⟩
        obtain ⟨b1, o1, hA1, _, hc⟩ := HA.out.2 k x hax
        subst hA1
        have hc1 : wr.cell? ⟨b1, o1 + k, none⟩ = some (.int .i64 x) := he.cell (by have := hc 0 _ rfl; simpa using this)
        have HT := Lib.hid (hot_take xs c k x hax)
        have hwb := he.size
        clear hc hax hown he
        go_wp2_with (at_builtin; refine wpList_append_own _ rfl _ _ 25 rfl w.heap.size 4 i0 (.bool false) 1 1 Try.underlying25 hi HI0.out hz1 hz2 rfl (by decide) _ _ _ rfl (HO.out.alloc _) ⟨wr.heap.size, 0, none⟩ 1 1 [.bool (decide (c ≤ x))] rfl rfl (news_of1 (Blk.new wr 4 #[.bool (decide (c ≤ x))])) (by simp [Value.oneCell']) (by unfold maxLen; omega) (by omega) (by simp; omega) ?_; intro v' w1 hown' hgrow _; have HO1 := Lib.hid hown'; have HE1 := Lib.hid (Ext.grownBy (HE.out.trans (Ext.alloc _ _)) hgrow (fun g hg => own_base HO.out hg)); clear hown' hgrow)
        go_roundw
        case rel => exact ⟨k + 1, by omega, by go_num, by rw [HT.out]; exact HO1.out, HE1.out⟩
        case measure => simp [intOf]; omega
      · obtain rfl : k = n := by omega
        clear hown he
        go_wp2
        go_ret2
        exact ⟨HE.out, .inr ⟨HR.out, _, rfl, bools_of_own (n := k) (by rw [hotL, List.length_map]; exact HN.out.symm) (by omega) (by have := HO.out; rw [List.take_of_length_le (by rw [← HN.out]; omega)] at this; exact this)⟩⟩
  · have hr' : (r != 0) = true := by simp [hr]
    have HR := Lib.hid hr
    clear hr
    go_enter Try.func27, Try.ntmps27
    go_wp2_with (first
      | (go_at_call 85; refine (errorIf_any _ _ _).mono ?_; rintro e w' ⟨rfl, rfl⟩)
      | (go_at_call 84; refine (rangeError_any 1 3000 _ xs _ (by first | exact HX.out | exact HX.out.ext HE1.out)).mono ?_; rintro e W1 ⟨rfl, hx1⟩; have HE1 := Lib.hid hx1; clear hx1)
      | (go_at_call 84; refine (rangeError_any 1 3000 _ [c] _ (ints_new _ [c] _ (by simp))).mono ?_; rintro e W2 ⟨rfl, hx2⟩; have HE2 := Lib.hid ((HE1.out.trans (Ext.alloc _ _)).trans hx2); clear hx2; generalize errIf (decide ((4 : Int) < (n : Int))) 8 = q1 at HE0 ⊢; generalize rangeE 1 3000 xs = q2 at HE0 ⊢; generalize rangeE 1 3000 [c] = q3 at HE0 ⊢)
      | (go_at_call 83; refine (firstOf_any _ [q1, q2, q3] _ (ints_new _ [q1, q2, q3] _ (by simp))).mono ?_; rintro e W3 ⟨rfl, rfl⟩; rw [← HE0.out]; have HE3 := Lib.hid (HE2.out.trans (Ext.alloc W2 (.cells #[.int .i64 q1, .int .i64 q2, .int .i64 q3] 31)))))
    go_ret2
    exact ⟨HE3.out, .inl ⟨HR.out, rfl⟩⟩

end Go.Proofs.Ytpaoeghdfeekoaa
