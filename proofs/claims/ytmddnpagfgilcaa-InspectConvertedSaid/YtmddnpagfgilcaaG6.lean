/- Monotone tables. -/
import Derived.Test.YtmddnpagfgilcaaJ2
import Derived.Test.YtmddnpagfgilcaaG5
import Derived.Lib.MinMax

namespace Go.Proofs.Ytmddnpagfgilcaa
open Go.RowKit Go.Shelf Go.Mem Go.RegInv
attribute [local go_sem] RelUpon_value RelUpon_skip RelUpon_enter BigFrame.eval_const BigFrame.eval_global BigFrame.eval_func


theorem tmod_lim {a m : Int} (hm : 0 < m) : a.tmod m < m ∧ -m < a.tmod m := by
  have := Nat.mod_lt a.natAbs (show 0 < m.natAbs by omega)
  rw [← Int.natAbs_tmod] at this
  omega
theorem emod_of {a m : Int} (hm : 0 < m) : a % m = if a.tmod m < 0 then a.tmod m + m else a.tmod m := by
  rw [Int.emod_eq_tmod]
  obtain ⟨h1, h2⟩ := tmod_lim (a := a) hm
  by_cases h : 0 ≤ a ∨ m ∣ a
  · rw [if_pos h]
    have : ¬ a.tmod m < 0 := by
      rcases h with h | h
      · have := Int.tmod_nonneg m h; omega
      · rw [Int.tmod_eq_zero_of_dvd h]; omega
    rw [if_neg this]; simp
  · rw [if_neg h]
    have h3 : a < 0 := by omega
    have h4 : a.tmod m ≤ 0 := by
      have := Int.tmod_nonneg m (show 0 ≤ -a by omega)
      rw [Int.neg_tmod] at this
      omega
    have h5 : a.tmod m ≠ 0 := fun e => h (Or.inr (Int.dvd_of_tmod_eq_zero e))
    rw [if_pos (by omega), show ((m.natAbs : Nat) : Int) = m by omega]
set_option maxRecDepth 100000 in
set_option maxHeartbeats 2000000 in
theorem mod_any (a m : Int) (hm : 0 < m ∧ m ≤ 1000000) (w : World) : Calls Try.prog 26 #[.int .i64 a, .int .i64 m] w fun e w' => e = .returned (.int .i64 (a % m)) ∧ w = w' := by
  obtain ⟨hm1, hm2⟩ := hm
  obtain ⟨h1, h2⟩ := tmod_lim (a := a) hm1
  have HE := Lib.hid (emod_of (a := a) hm1)
  have hm0 : m ≠ 0 := by omega
  by_cases h : a.tmod m < 0
  · have HZ := Lib.hid (show a % m = a.tmod m + m by rw [HE.out, if_pos h])
    clear HE
    generalize a % m = z at *
    go_enter Try.func26, Try.ntmps26
    go_wp2
    go_ret
    exact ⟨ret_int HZ.out.symm, rfl⟩
  · have HZ := Lib.hid (show a % m = a.tmod m by rw [HE.out, if_neg h])
    clear HE
    generalize a % m = z at *
    go_enter Try.func26, Try.ntmps26
    go_wp2
    go_ret
    exact ⟨ret_int HZ.out.symm, rfl⟩
set_option maxRecDepth 100000 in
set_option maxHeartbeats 2000000 in
theorem refTableErr_long {A : Option Addr} {n ca : Nat} (w : World) (h : 12 < n) (hm : n ≤ maxLen) :
    Calls Try.prog 41 #[.agg #[.slice A n ca]] w fun e w' => e = .returned (.int .i64 8) ∧ Ext w w' := by
  have hm2 : n ≤ 9223372036854775807 := by unfold maxLen at hm; omega
  have HT := Lib.hid (fun W => show Calls Try.prog 37 #[.agg #[.slice A n ca]] W fun e w' => e = .returned (.tuple #[.int .i64 0, .int .i64 8]) ∧ Ext W w' from by
    have h1 : ¬ (n : Int) < 2 := by omega
    have h2 : (12 : Int) < n := by omega
    clear hm
    go_enter Try.func37, Try.ntmps37
    go_wp2
    go_ret2
    exact ⟨rfl, Ext.alloc _ _⟩)
  clear hm hm2
  go_enter Try.func41, Try.ntmps41
  go_wp2_with (go_at_call 37; refine (HT.out _).mono ?_; rintro e W1 ⟨rfl, hx⟩; have X1 := Lib.hid ((Ext.alloc _ _).trans hx); clear hx)
  go_ret
  exact ⟨rfl, X1.out⟩
theorem map_get2 {xs : List Kn} {g : Kn → Int × Int} {i : Nat} (h : i < xs.length) : (xs.map g).getD i default = g (xs.getD i default) := map_getD h
theorem getK {xs : List Kn} {i : Nat} (h : i < xs.length) : xs[i]? = some (xs.getD i default) := by
  rw [List.getD_eq_getElem?_getD, List.getElem?_eq_getElem h]; rfl
theorem asc_le {xs : List Kn} (h : ∀ (i : Nat) (x y : Kn), xs[i]? = some y → xs[i + 1]? = some x → y.f < x.f ∧ y.lo ≤ x.lo ∧ y.hi ≤ x.hi) : ∀ i j, i ≤ j → j < xs.length → (xs.getD i default).lo ≤ (xs.getD j default).lo ∧ (xs.getD i default).hi ≤ (xs.getD j default).hi := by
  intro i j hij hj
  obtain ⟨d, rfl⟩ : ∃ d, j = i + d := ⟨j - i, by omega⟩
  induction d with
  | zero => exact ⟨Int.le_refl _, Int.le_refl _⟩
  | succ d ih =>
    have a := h (i + d) (xs.getD (i + d + 1) default) (xs.getD (i + d) default) (getK (by omega)) (getK (by omega))
    have b := ih (by omega) (by omega)
    rw [show i + (d + 1) = i + d + 1 by omega]
    omega
theorem cv_lo {xs : List Kn} {n : Nat} (hn : xs.length = n) (hz : (checkX xs).2 = 0) : Cv (loF xs) n := by
  obtain ⟨m2, m12, hok, hasc⟩ := checkX_ok hz
  refine ⟨by omega, fun i j h1 h2 => ?_, fun i j h1 h2 => ?_⟩
  · unfold loF; rw [map_getD (by omega), map_getD (by omega)]; exact asc_all hasc i j h1 (by omega)
  · unfold loF; rw [map_getD (by omega), map_getD (by omega)]; exact (asc_le hasc i j h1 (by omega)).1
theorem cv_hi {xs : List Kn} {n : Nat} (hn : xs.length = n) (hz : (checkX xs).2 = 0) : Cv (hiF xs) n := by
  obtain ⟨m2, m12, hok, hasc⟩ := checkX_ok hz
  refine ⟨by omega, fun i j h1 h2 => ?_, fun i j h1 h2 => ?_⟩
  · unfold hiF; rw [map_getD (by omega), map_getD (by omega)]; exact asc_all hasc i j h1 (by omega)
  · unfold hiF; rw [map_getD (by omega), map_getD (by omega)]; exact (asc_le hasc i j h1 (by omega)).2
def InT (xs : List Kn) (d : Int) : Prop := (xs.getD 0 default).f ≤ d ∧ d ≤ (xs.getD (xs.length - 1) default).f
theorem inC_lo {xs : List Kn} {n : Nat} {d : Int} (hn : xs.length = n) (h2 : 2 ≤ n) (h : InT xs d) : InC (loF xs) n d := by
  unfold InC loF; rw [map_getD (by omega), map_getD (by omega)]; subst hn; exact h
theorem inC_hi {xs : List Kn} {n : Nat} {d : Int} (hn : xs.length = n) (h2 : 2 ≤ n) (h : InT xs d) : InC (hiF xs) n d := by
  unfold InC hiF; rw [map_getD (by omega), map_getD (by omega)]; subst hn; exact h
theorem conv_mono_lo {xs : List Kn} (hz : (checkX xs).2 = 0) {a c : Int} (b e : Int) (ha : InT xs a) (hc : InT xs c) (h : a ≤ c) : (convV xs a b).1 ≤ (convV xs c e).1 :=
  have C := cv_lo rfl hz
  (val_mono C (inC_lo rfl C.n2 ha) (inC_lo rfl C.n2 hc) h).1
theorem conv_mono_hi {xs : List Kn} (hz : (checkX xs).2 = 0) {b e : Int} (a c : Int) (hb : InT xs b) (he : InT xs e) (h : b ≤ e) : (convV xs a b).2 ≤ (convV xs c e).2 :=
  have C := cv_hi rfl hz
  (val_mono C (inC_hi rfl C.n2 hb) (inC_hi rfl C.n2 he) h).2
theorem conv_knot {xs : List Kn} (hz : (checkX xs).2 = 0) {k : Nat} (hk : k < xs.length) : convV xs (xs.getD k default).f (xs.getD k default).f = ((xs.getD k default).lo, (xs.getD k default).hi) := by
  have a := (val_knot (cv_lo rfl hz) hk).1
  have b := (val_knot (cv_hi rfl hz) hk).2
  unfold loF at a
  unfold hiF at b
  rw [map_getD hk] at a b
  exact Prod.ext a b
theorem conv_le {xs : List Kn} (hz : (checkX xs).2 = 0) {a b : Int} (ha : InT xs a) (hb : InT xs b) (h : a ≤ b) : (convV xs a b).1 ≤ (convV xs a b).2 := by
  have C := cv_lo rfl hz
  obtain ⟨m2, m12, hok, hasc⟩ := checkX_ok hz
  have h1 := val_le (qs := hiF xs) C (fun i hi => by unfold loF hiF; rw [map_getD hi, map_getD hi]) (fun i hi => by
    unfold loF hiF; rw [map_getD hi, map_getD hi]
    have := hok i _ (getK hi)
    dsimp only; omega) (inC_lo rfl C.n2 ha)
  have h2 := (val_mono (cv_hi rfl hz) (inC_hi rfl C.n2 ha) (inC_hi rfl C.n2 hb) h).2
  exact Int.le_trans h1 h2

end Go.Proofs.Ytmddnpagfgilcaa
