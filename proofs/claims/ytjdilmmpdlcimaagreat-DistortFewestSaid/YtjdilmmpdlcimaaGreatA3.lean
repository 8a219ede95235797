/- The first error of numbers. -/
import Derived.Test.YtjdilmmpdlcimaaGreatA2
import Derived.Lib.MinMax

namespace Go.Proofs.YtjdilmmpdlcimaaGreat
open Go.RowKit Go.Shelf Go.Mem Go.RegInv
attribute [local go_sem] RelUpon_value RelUpon_skip RelUpon_enter BigFrame.eval_const BigFrame.eval_global BigFrame.eval_func


/-- The first place of a list at which there is an error. -/
def firstAt (E : Nat → Int) : Nat → Nat → Int × Int
  | 0, _ => (0, 0)
  | f + 1, k => if E k ≠ 0 then ((k : Int), E k) else firstAt E f (k + 1)
theorem firstAt_step (E : Nat → Int) {n k : Nat} (h : k < n) : firstAt E (n - k) k = if E k ≠ 0 then ((k : Int), E k) else firstAt E (n - (k + 1)) (k + 1) := by
  obtain ⟨d, hd⟩ : ∃ d, n - k = d + 1 := ⟨n - k - 1, by omega⟩
  rw [hd, firstAt, show n - (k + 1) = d by omega]
theorem firstAt_zero {E : Nat → Int} : ∀ {n k : Nat}, (firstAt E n k).2 = 0 → ∀ i, k ≤ i → i < k + n → E i = 0
  | 0, k, _, i, h1, h2 => by omega
  | n + 1, k, h, i, h1, h2 => by
    rw [firstAt] at h
    by_cases hz : E k = 0
    · rw [if_neg (by simpa using hz)] at h
      rcases Nat.lt_or_ge k i with h3 | h3
      · exact firstAt_zero h i (by omega) (by omega)
      · obtain rfl : i = k := by omega
        exact hz
    · rw [if_pos hz] at h
      exact absurd h hz
theorem firstAt_fst {E : Nat → Int} : ∀ {n k : Nat}, (firstAt E n k).2 = 0 → (firstAt E n k).1 = 0
  | 0, k, _ => rfl
  | n + 1, k, h => by
    rw [firstAt] at h ⊢
    by_cases hz : E k = 0
    · rw [if_neg (by simpa using hz)] at h ⊢
      exact firstAt_fst h
    · rw [if_pos hz] at h
      exact absurd h hz
theorem firstAt_ok {E : Nat → Int} : ∀ {n k : Nat}, (∀ i, k ≤ i → i < k + n → E i = 0) → firstAt E n k = (0, 0)
  | 0, k, _ => rfl
  | n + 1, k, h => by
    rw [firstAt, if_neg (by simpa using h k (by omega) (by omega))]
    exact firstAt_ok fun i h1 h2 => h i (by omega) (by omega)

set_option maxRecDepth 100000 in
set_option maxHeartbeats 1000000 in
theorem firstError71_72 {A : Option Addr} {n ca : Nat} {xs : List Int} {w : World} {E : Nat → Int} {bd : Array Value} (hn : xs.length = n) (hA : RowsAt 1 I1 w A xs)
    (hF : ∀ (i : Nat) (x : Int) (W : World), xs[i]? = some x → Ext w W → Calls Tryz.prog 76 (bd ++ #[.int .i64 (i : Int), .int .i64 x]) W fun e w' => e = .returned (.int .i64 (E i)) ∧ Ext W w') :
    Calls Tryz.prog 75 #[.slice A n ca, .func (.func 76) bd #[]] w fun e w' => e = .returned (.tuple #[.int .i64 (firstAt E n 0).1, .int .i64 (firstAt E n 0).2]) ∧ Ext w w' := by
  have HN := Lib.hid hn
  have HA := Lib.hid hA
  have HF := Lib.hid hF
  have hnb : n ≤ 1152921504606846976 := by have := hA.1; omega
  clear hn hA hF
  go_enter Tryz.func75, Tryz.ntmps75
  go_wp2
  go_loopw [11] (fun i wr => ∃ k : Nat, k ≤ n ∧ i = .int .i64 k ∧ firstAt E n 0 = firstAt E (n - k) k ∧ Ext w wr) (fun i _ => n - (intOf i).toNat)
  case atStart => exact ⟨0, Nat.zero_le _, rfl, by rw [Nat.sub_zero], Ext.refl _⟩
  case round =>
    obtain ⟨k, hk, rfl, hr, hx⟩ := hrel
    have X := Lib.hid hx
    have R := Lib.hid hr
    clear hx hr
    by_cases hlt : k < n
    · have R2 := Lib.hid (R.out.trans (firstAt_step E hlt))
      clear R
      obtain ⟨x, hx⟩ : ∃ x, xs[k]? = some x := ⟨_, List.getElem?_eq_getElem (by rw [HN.out]; exact hlt)⟩
      obtain ⟨b, o, rfl, hb, hc⟩ := row_at (HA.out.ext X.out) hx
      have HX := Lib.hid hx
      have p0 := hc 0 _ rfl
      simp only [Nat.add_zero, Nat.mul_one] at p0
      have HC := Lib.hid (fun W (e : Ext w W) => HF.out k x W HX.out e)
      clear hc hx
      have hki : (k : Int) < (n : Int) := by omega
      by_cases hz : E k = 0
      · have hz2 : (E k != 0) = false := by simp [hz]
        have HZ := Lib.hid hz
        clear hz
        generalize hE : E k = z at *
        have HE := Lib.hid hE
        clear hE
        go_wp2_with (go_at_call 76; refine (HC.out _ (X.out)).mono ?_; rintro e W1 ⟨rfl, hx⟩; have X1 := Lib.hid ((X.out).trans hx); clear hx)
        go_roundw
        case rel => exact ⟨k + 1, by omega, by go_num, by rw [R2.out, if_neg (by simpa using HZ.out)], X1.out⟩
        case measure => simp [intOf]; omega
      · have hz2 : (E k != 0) = true := by simp [hz]
        have HZ := Lib.hid hz
        clear hz
        generalize hE : E k = z at *
        have HE := Lib.hid hE
        clear hE
        go_wp2_with (go_at_call 76; refine (HC.out _ (X.out)).mono ?_; rintro e W1 ⟨rfl, hx⟩; have X1 := Lib.hid ((X.out).trans hx); clear hx)
        go_ret2
        exact ⟨ret_two (by rw [R2.out, if_pos HZ.out]) (by rw [R2.out, if_pos HZ.out]), X1.out⟩
    · have R2 := Lib.hid (show firstAt E n 0 = (0, 0) by rw [R.out, show n - k = 0 by omega]; rfl)
      have hkn : ¬ (k : Int) < (n : Int) := by omega
      go_wp2
      go_ret2
      exact ⟨ret_two (by rw [R2.out]) (by rw [R2.out]), X.out⟩

set_option maxRecDepth 100000 in
set_option maxHeartbeats 1000000 in
theorem firstError71_88 {A : Option Addr} {n ca : Nat} {xs : List Int} {w : World} {E : Nat → Int} {cp : Array Value} (hn : xs.length = n) (hA : RowsAt 1 I1 w A xs)
    (hF : ∀ (i : Nat) (x : Int) (W : World), xs[i]? = some x → Ext w W → Calls Tryz.prog 77 (#[.int .i64 (i : Int), .int .i64 x] ++ cp) W fun e w' => e = .returned (.int .i64 (E i)) ∧ Ext W w') :
    Calls Tryz.prog 75 #[.slice A n ca, .func (.func 77) #[] cp] w fun e w' => e = .returned (.tuple #[.int .i64 (firstAt E n 0).1, .int .i64 (firstAt E n 0).2]) ∧ Ext w w' := by
  have HN := Lib.hid hn
  have HA := Lib.hid hA
  have HF := Lib.hid hF
  have hnb : n ≤ 1152921504606846976 := by have := hA.1; omega
  clear hn hA hF
  go_enter Tryz.func75, Tryz.ntmps75
  go_wp2
  go_loopw [11] (fun i wr => ∃ k : Nat, k ≤ n ∧ i = .int .i64 k ∧ firstAt E n 0 = firstAt E (n - k) k ∧ Ext w wr) (fun i _ => n - (intOf i).toNat)
  case atStart => exact ⟨0, Nat.zero_le _, rfl, by rw [Nat.sub_zero], Ext.refl _⟩
  case round =>
    obtain ⟨k, hk, rfl, hr, hx⟩ := hrel
    have X := Lib.hid hx
    have R := Lib.hid hr
    clear hx hr
    by_cases hlt : k < n
    · have R2 := Lib.hid (R.out.trans (firstAt_step E hlt))
      clear R
      obtain ⟨x, hx⟩ : ∃ x, xs[k]? = some x := ⟨_, List.getElem?_eq_getElem (by rw [HN.out]; exact hlt)⟩
      obtain ⟨b, o, rfl, hb, hc⟩ := row_at (HA.out.ext X.out) hx
      have HX := Lib.hid hx
      have p0 := hc 0 _ rfl
      simp only [Nat.add_zero, Nat.mul_one] at p0
      have HC := Lib.hid (fun W (e : Ext w W) => HF.out k x W HX.out e)
      clear hc hx
      have hki : (k : Int) < (n : Int) := by omega
      by_cases hz : E k = 0
      · have hz2 : (E k != 0) = false := by simp [hz]
        have HZ := Lib.hid hz
        clear hz
        generalize hE : E k = z at *
        have HE := Lib.hid hE
        clear hE
        go_wp2_with (go_at_call 77; refine (HC.out _ (X.out)).mono ?_; rintro e W1 ⟨rfl, hx⟩; have X1 := Lib.hid ((X.out).trans hx); clear hx)
        go_roundw
        case rel => exact ⟨k + 1, by omega, by go_num, by rw [R2.out, if_neg (by simpa using HZ.out)], X1.out⟩
        case measure => simp [intOf]; omega
      · have hz2 : (E k != 0) = true := by simp [hz]
        have HZ := Lib.hid hz
        clear hz
        generalize hE : E k = z at *
        have HE := Lib.hid hE
        clear hE
        go_wp2_with (go_at_call 77; refine (HC.out _ (X.out)).mono ?_; rintro e W1 ⟨rfl, hx⟩; have X1 := Lib.hid ((X.out).trans hx); clear hx)
        go_ret2
        exact ⟨ret_two (by rw [R2.out, if_pos HZ.out]) (by rw [R2.out, if_pos HZ.out]), X1.out⟩
    · have R2 := Lib.hid (show firstAt E n 0 = (0, 0) by rw [R.out, show n - k = 0 by omega]; rfl)
      have hkn : ¬ (k : Int) < (n : Int) := by omega
      go_wp2
      go_ret2
      exact ⟨ret_two (by rw [R2.out]) (by rw [R2.out]), X.out⟩

end Go.Proofs.YtjdilmmpdlcimaaGreat
