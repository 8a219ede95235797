/- FieldHots: the law's function. -/
import Derived.Test.YtpaoeghdfeekoaaE2
namespace Go.Proofs.Ytpaoeghdfeekoaa
open Go.RowKit Go.Shelf Go.Mem Go.RegInv

theorem hat_eq (xs : List Int) (c : Int) : hatE xs c = hotE xs c := by
  have hio : ∀ x, inB 1 3000 x = !(outB 1 3000 x) := fun x => by
    simp only [inB, outB, Bool.not_or, ← decide_not, Int.not_lt]
  have h1 : (xs.all (inB 1 3000)) = !(xs.any (outB 1 3000)) := by
    rw [List.not_any_eq_all_not]; congr 1; funext x; exact hio x
  unfold hatE hotE
  by_cases h4 : 4 < xs.length
  · have : ((4 : Int) < (xs.length : Int)) := by omega
    simp [firstE, errIf, h4, this]
  · have : ¬ ((4 : Int) < (xs.length : Int)) := by omega
    rw [h1, hio c]
    cases ha : xs.any (outB 1 3000) <;> cases hc : outB 1 3000 c <;> simp [firstE, errIf, rangeE, h4, this, ha, hc]

set_option maxHeartbeats 1000000 in
theorem copyInts_any (A : Option Addr) (ca : Nat) (xs : List Int) (w : World) (ha : RowsAt 1 intEnc w A xs) (h6 : xs.length ≤ 6) (hnil : A = none → ca = 0) :
    Calls Try.prog 28 #[.slice A xs.length ca] w fun e w' => ∃ u, e = .returned u ∧ IntsAt w' u xs ∧ Ext w w' := by
  obtain ⟨i0, hi, hz0, hz1, hz2⟩ := info_parts info3
  have HI0 := Lib.hid hz0
  have hown : Hid ((w.alloc (.cells #[] 3)).ownsRow w.heap.size 3 1 (.slice (some ⟨w.heap.size, 0, none⟩) 0 0) 0 []) :=
    Lib.hid ⟨rfl, .inr ⟨w.heap.size, 0, #[], rfl, Nat.le_refl _, Blk.new w 3 #[], Nat.le_refl _, by decide, rfl, rfl⟩⟩
  cases A with
  | none =>
    obtain rfl : xs = [] := by
      cases xs with
      | nil => rfl
      | cons x l => obtain ⟨b, o, h, _⟩ := ha.2 0 x rfl; cases h
    obtain rfl := hnil rfl
    clear ha
    simp only [List.length_nil]
    go_enter Try.func28, Try.ntmps28
    go_wp2_with (at_builtin; refine wpList_append_own_none rfl _ _ 37 rfl w.heap.size 3 i0 1 Try.underlying37 hi _ _ _ rfl hown.out rfl ?_)
    go_ret
    exact ⟨_, rfl, ints_of_own rfl (by decide) hown.out, Ext.alloc _ _⟩
  | some ad =>
    have hnews : Hid (∀ j u, (xs.map (Value.int .i64))[j]? = some u → (w.alloc (.cells #[] 3)).cell? (ad.add j) = some u) := Lib.hid fun j u hu => by
      rw [List.getElem?_map] at hu
      obtain ⟨x, hx, rfl⟩ := Option.map_eq_some_iff.1 hu
      obtain ⟨b, o, e, _, hc⟩ := ha.2 j x hx
      obtain rfl : ad = ⟨b, o, none⟩ := by simpa using e
      have := hc 0 _ rfl
      rw [Nat.mul_one, Nat.add_zero] at this
      have := (Ext.alloc w (.cells #[] 3)).cell this
      have e2 : Addr.add ⟨b, o, none⟩ j = ⟨b, o + j, none⟩ := by
        unfold Addr.add
        split
        · next h => subst h; rfl
        · rfl
      rw [e2]; exact this
    have hl : (xs.map (Value.int .i64)).length = xs.length * 1 := by simp
    have HL := Lib.hid hl
    obtain ⟨m, hm⟩ : ∃ m, m = xs.length := ⟨_, rfl⟩
    rw [← hm] at HL h6 ⊢
    have HM := Lib.hid hm
    clear ha hl hm hnil
    go_enter Try.func28, Try.ntmps28
    go_wp2_with (at_builtin; refine wpList_append_own _ rfl _ _ 37 rfl w.heap.size 3 i0 (.int .i64 0) 1 8 Try.underlying37 hi HI0.out hz1 hz2 rfl (by decide) _ _ _ rfl hown.out ad m ca (xs.map (Value.int .i64)) rfl HL.out hnews.out (by intro u hu; obtain ⟨x, _, rfl⟩ := List.mem_map.1 hu; rfl) (by unfold maxLen; omega) (by omega) (by simp) ?_; intro v' w1 hown' hgrow _; have HO1 := Lib.hid hown'; have HE1 := Lib.hid (Ext.grownBy (Ext.alloc w _) hgrow (fun g hg => own_base hown.out hg)); clear hown' hgrow)
    go_ret
    exact ⟨_, rfl, ints_of_own (n := m) HM.out.symm (by omega) (by have := HO1.out; simpa using this), HE1.out⟩

theorem boolsAt_refl {W : World} {v : Value} {bs : List Bool} (h : BoolsAt W v bs) : ∃ A cap, v = .slice A bs.length cap ∧ RowsAt 1 boolEnc W A bs := h

set_option maxRecDepth 100000 in
set_option maxHeartbeats 2000000 in
theorem fieldHots_any (A : Option Addr) (ca : Nat) (xs : List Int) (c : Int) (w : World) (ha : xs.length ≤ 6 → RowsAt 1 intEnc w A xs) (hnil : A = none → ca = 0) (hi : xs.length ≤ 6 → IntsAt w (.slice A xs.length ca) xs) :
    Calls Try.prog 4 #[.slice A xs.length ca, .int .i64 c] w fun e w' => e = .returned (.bool true) ∧ Ext w w' := by
  by_cases h6 : xs.length ≤ 6
  · replace ha := ha h6
    replace hi := hi h6
    have HCP := Lib.hid (fun W (e : Ext w W) => copyInts_any A ca xs W (ha.ext e) h6 hnil)
    have HAT := Lib.hid (fun u W (h : IntsAt W u xs) => hotAt_any u xs c W h h6)
    have HER := Lib.hid (fun W (e : Ext w W) => hotErr_any (.slice A xs.length ca) xs c W (hi.ext e))
    have HHOT := Lib.hid (fun W (e : Ext w W) => hot_any (.slice A xs.length ca) xs c W (hi.ext e) h6)
    have HEQ := Lib.hid (hat_eq xs c)
    obtain ⟨n, hn⟩ : ∃ n, n = xs.length := ⟨_, rfl⟩
    rw [← hn] at HCP HER HHOT h6 ⊢
    have h6' : (n : Int) ≤ 6 := by omega
    clear ha hnil hi hn
    rw [HEQ.out] at HAT
    by_cases hr : hotE xs c = 0
    · have HR := Lib.hid hr
      have hr' : (hotE xs c != 0) = false := by simp [hr]
      clear hr
      generalize hotE xs c = r at *
      go_enter Try.func4, Try.ntmps4
      go_wp2_with (first
        | (go_at_call 15; refine (awake_any _).mono ?_; rintro e W1 ⟨rfl, hx⟩; have E := Lib.hid hx; clear hx)
        | (go_at_call 28; refine (HCP.out _ E.out).mono ?_; rintro e W2 ⟨u2, rfl, hu2, hx⟩; have HU := Lib.hid hu2; have E := Lib.hid (E.out.trans hx); clear hx hu2)
        | (go_at_call 27; refine (HAT.out _ _ HU.out).mono ?_; rintro e W3 ⟨hx, ⟨h, _⟩ | ⟨_, u3, rfl, hb⟩⟩; exact absurd HR.out h; obtain ⟨A3, c3, rfl, hb3⟩ := boolsAt_refl hb; have HB := Lib.hid hb3; have E := Lib.hid (E.out.trans hx); clear hx hb hb3)
        | (go_at_call 29; refine (HER.out _ E.out).mono ?_; rintro e W4 ⟨rfl, rfl⟩)
        | (go_at_call 31; refine (HHOT.out _ E.out).mono ?_; rintro e W5 ⟨u5, rfl, hb, hx⟩; obtain ⟨A5, c5, rfl, hb5⟩ := boolsAt_refl hb; have HB2 := Lib.hid hb5; have HB := Lib.hid (HB.out.ext hx); have E := Lib.hid (E.out.trans hx); clear hx hb hb5)
        | (go_at_call 30; refine (sameBools_any A3 A5 c3 c5 _ _ _ HB.out HB2.out).mono ?_; rintro e W6 ⟨rfl, hx⟩; have E := Lib.hid (E.out.trans hx); clear hx))
      go_ret
      exact ⟨rfl, E.out⟩
    · have HR := Lib.hid hr
      have hr' : (hotE xs c != 0) = true := by simp [hr]
      have HAT2 := Lib.hid (fun u W h => (HAT.out u W h).mono (R' := fun e w' => e = .returned (.tuple #[.slice none 0 0, .int .i64 (hotE xs c)]) ∧ Ext W w') (by
        rintro e w' ⟨hx, ⟨_, rfl⟩ | ⟨h, _⟩⟩
        · exact ⟨rfl, hx⟩
        · exact absurd h hr))
      clear hr HAT
      generalize hotE xs c = r at *
      go_enter Try.func4, Try.ntmps4
      go_wp2_with (first
        | (go_at_call 15; refine (awake_any _).mono ?_; rintro e W1 ⟨rfl, hx⟩; have E := Lib.hid hx; clear hx)
        | (go_at_call 28; refine (HCP.out _ E.out).mono ?_; rintro e W2 ⟨u2, rfl, hu2, hx⟩; have HU := Lib.hid hu2; have E := Lib.hid (E.out.trans hx); clear hx hu2)
        | (go_at_call 27; refine (HAT2.out _ _ HU.out).mono ?_; rintro e W3 ⟨rfl, hx⟩; have E := Lib.hid (E.out.trans hx); clear hx)
        | (go_at_call 29; refine (HER.out _ E.out).mono ?_; rintro e W4 ⟨rfl, rfl⟩))
      go_ret
      exact ⟨rfl, E.out⟩
  · have h6' : (6 : Int) < (xs.length : Int) := by omega
    clear ha hnil hi
    generalize xs.length = n at *
    go_enter Try.func4, Try.ntmps4
    go_wp2_with (go_at_call 15; refine (awake_any _).mono ?_; rintro e W1 ⟨rfl, hx⟩; have E := Lib.hid hx; clear hx)
    go_ret
    exact ⟨rfl, E.out⟩

end Go.Proofs.Ytpaoeghdfeekoaa
