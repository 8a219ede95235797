/- InspectSections. -/
import Derived.Test.YtmddnpagfgilcaaG19
import Derived.Test.YtmddnpagfgilcaaC5
import Derived.Lib.MinMax
import Derived.Deep.DeepCutAuto

namespace Go.Proofs.Ytmddnpagfgilcaa
open Go.RowKit Go.Shelf Go.Mem Go.RegInv
attribute [local go_sem] RelUpon_value RelUpon_skip RelUpon_enter BigFrame.eval_const BigFrame.eval_global BigFrame.eval_func


theorem comK_ge {p x : Int × Int} : ∀ {xs : List (Int × Int)}, x ∈ xs → x.1 ≤ (comK p xs).1 ∧ (comK p xs).2 ≤ x.2
  | [], h => by cases h
  | y :: xs, h => by
    have mono : ∀ (ys : List (Int × Int)) (q : Int × Int), q.1 ≤ (comK q ys).1 ∧ (comK q ys).2 ≤ q.2 := by
      intro ys
      induction ys with
      | nil => intro q; exact ⟨Int.le_refl _, Int.le_refl _⟩
      | cons z ys ih =>
        intro q
        have := ih (comS q z)
        unfold comS at this
        show q.1 ≤ (comK (comS q z) ys).1 ∧ (comK (comS q z) ys).2 ≤ q.2
        unfold comS
        dsimp only at this
        omega
    rcases List.mem_cons.1 h with rfl | h2
    · have := mono xs (comS p x)
      show x.1 ≤ (comK (comS p x) xs).1 ∧ (comK (comS p x) xs).2 ≤ x.2
      unfold comS at this ⊢
      dsimp only at this
      omega
    · exact comK_ge (p := comS p y) h2
theorem comK_is {p : Int × Int} : ∀ {xs : List (Int × Int)}, ((comK p xs).1 = p.1 ∨ ∃ x ∈ xs, (comK p xs).1 = x.1) ∧ ((comK p xs).2 = p.2 ∨ ∃ x ∈ xs, (comK p xs).2 = x.2)
  | [] => ⟨.inl rfl, .inl rfl⟩
  | y :: xs => by
    obtain ⟨h1, h2⟩ := comK_is (p := comS p y) (xs := xs)
    have e : comK p (y :: xs) = comK (comS p y) xs := rfl
    rw [e]
    constructor
    · rcases h1 with h1 | ⟨x, hx, h1⟩
      · rw [h1]
        unfold comS
        dsimp only
        rcases Int.le_total p.1 y.1 with h | h
        · right; exact ⟨y, by simp, by omega⟩
        · left; omega
      · right; exact ⟨x, by simp [hx], h1⟩
    · rcases h2 with h2 | ⟨x, hx, h2⟩
      · rw [h2]
        unfold comS
        dsimp only
        rcases Int.le_total p.2 y.2 with h | h
        · left; omega
        · right; exact ⟨y, by simp, by omega⟩
      · right; exact ⟨x, by simp [hx], h2⟩
theorem inn_none {xs : List (Int × Int)} {i : Nat} : ∀ {f k : Nat}, inn xs i f k = none ↔ ∀ m, k ≤ m → m < k + f → ¬ dis (xs.getD i default) (xs.getD m default)
  | 0, k => by
    constructor
    · intro _ m h1 h2; omega
    · intro _; rfl
  | f + 1, k => by
    rw [inn]
    by_cases h : dis (xs.getD i default) (xs.getD k default)
    · rw [if_pos h]
      constructor
      · intro hh; cases hh
      · intro hh; exact absurd h (hh k (Nat.le_refl _) (by omega))
    · rw [if_neg h, inn_none]
      constructor
      · intro hh m h1 h2
        rcases Nat.lt_or_ge k m with h3 | h3
        · exact hh m h3 (by omega)
        · rw [show m = k by omega]; exact h
      · intro hh m h1 h2
        exact hh m (by omega) (by omega)
theorem inn_some {xs : List (Int × Int)} {i : Nat} : ∀ {f k m : Nat}, inn xs i f k = some m → k ≤ m ∧ m < k + f ∧ dis (xs.getD i default) (xs.getD m default)
  | 0, k, m, h => by cases h
  | f + 1, k, m, h => by
    rw [inn] at h
    by_cases hd : dis (xs.getD i default) (xs.getD k default)
    · rw [if_pos hd] at h
      obtain rfl : k = m := by simpa using h
      exact ⟨Nat.le_refl _, by omega, hd⟩
    · rw [if_neg hd] at h
      obtain ⟨h1, h2, h3⟩ := inn_some h
      exact ⟨by omega, by omega, h3⟩
theorem outK_some {xs : List (Int × Int)} {n : Nat} : ∀ {f i a b : Nat}, i + f = n → outK xs n f i = some (a, b) → a < b ∧ b < n ∧ dis (xs.getD a default) (xs.getD b default)
  | 0, i, a, b, _, h => by cases h
  | f + 1, i, a, b, hf, h => by
    rw [outK] at h
    cases hi : inn xs i (n - (i + 1)) (i + 1) with
    | some k =>
      rw [hi] at h
      obtain ⟨rfl, rfl⟩ : i = a ∧ k = b := by simpa using h
      obtain ⟨h1, h2, h3⟩ := inn_some hi
      exact ⟨by omega, by omega, h3⟩
    | none =>
      rw [hi] at h
      exact outK_some (by omega) h
theorem outK_none {xs : List (Int × Int)} {n : Nat} : ∀ {f i : Nat}, i + f = n → outK xs n f i = none → ∀ a b, i ≤ a → a < b → b < n → ¬ dis (xs.getD a default) (xs.getD b default)
  | 0, i, hf, _, a, b, h1, h2, h3 => by omega
  | f + 1, i, hf, h, a, b, h1, h2, h3 => by
    rw [outK] at h
    cases hi : inn xs i (n - (i + 1)) (i + 1) with
    | some k => rw [hi] at h; cases h
    | none =>
      rw [hi] at h
      rcases Nat.lt_or_ge i a with h4 | h4
      · exact outK_none (by omega) h a b h4 h2 h3
      · obtain rfl : i = a := by omega
        exact inn_none.1 hi b (by omega) (by omega)
theorem dis_symm {x y : Int × Int} (h : dis x y) : dis y x := by
  unfold dis comS at *
  dsimp only at *
  omega
/-- All ranges have something in common exactly if no two contradict each other. -/
theorem agree_iff {xs : List (Int × Int)} {n : Nat} (hn : xs.length = n) (h1 : 1 ≤ n) (hv : ∀ (i : Nat) (x : Int × Int), xs[i]? = some x → x.1 ≤ x.2) : (comK (xs.getD 0 default) xs).1 ≤ (comK (xs.getD 0 default) xs).2 ↔ outK xs n n 0 = none := by
  have mem : ∀ i, i < n → xs.getD i default ∈ xs := fun i h => List.mem_of_getElem? (gR hn h)
  constructor
  · intro hle
    cases ho : outK xs n n 0 with
    | none => rfl
    | some ab =>
      exfalso
      obtain ⟨a, b⟩ := ab
      obtain ⟨h2, h3, hd⟩ := outK_some (by omega) ho
      have ha := comK_ge (p := xs.getD 0 default) (mem a (by omega))
      have hb := comK_ge (p := xs.getD 0 default) (mem b h3)
      unfold dis comS at hd
      dsimp only at hd
      omega
  · intro ho
    have hno := outK_none (i := 0) (by omega) ho
    have key : ∀ x ∈ xs, ∀ y ∈ xs, x.1 ≤ y.2 := by
      intro x hx y hy
      obtain ⟨i, hi⟩ := List.mem_iff_getElem?.1 hx
      obtain ⟨j, hj⟩ := List.mem_iff_getElem?.1 hy
      have hil := (List.getElem?_eq_some_iff.1 hi).1
      have hjl := (List.getElem?_eq_some_iff.1 hj).1
      have ei : xs.getD i default = x := by rw [List.getD_eq_getElem?_getD, hi]; rfl
      have ej : xs.getD j default = y := by rw [List.getD_eq_getElem?_getD, hj]; rfl
      rcases Nat.lt_trichotomy i j with h | h | h
      · have := hno i j (Nat.zero_le _) h (by omega)
        rw [ei, ej] at this
        unfold dis comS at this
        dsimp only at this
        omega
      · subst h
        rw [hi] at hj
        obtain rfl : x = y := by simpa using hj
        exact hv i x hi
      · have := hno j i (Nat.zero_le _) h (by omega)
        rw [ei, ej] at this
        unfold dis comS at this
        dsimp only at this
        omega
    obtain ⟨e1, e2⟩ := comK_is (p := xs.getD 0 default) (xs := xs)
    have m0 := mem 0 (by omega)
    rcases e1 with e1 | ⟨x, hx, e1⟩ <;> rcases e2 with e2 | ⟨y, hy, e2⟩ <;> rw [e1, e2]
    · exact key _ m0 _ m0
    · exact key _ m0 _ hy
    · exact key _ hx _ m0
    · exact key _ hx _ hy
theorem comK_drop {xs : List (Int × Int)} {n : Nat} (hn : xs.length = n) (h1 : 1 ≤ n) : comK (xs.getD 0 default) (xs.drop 1) = comK (xs.getD 0 default) xs := by
  cases xs with
  | nil => simp at hn; omega
  | cons x xs =>
    show comK x xs = comK (comS x x) xs
    have : comS x x = x := by
      unfold comS
      simp
    rw [this]
theorem endsE_le {a b : Int} (h : endsE a b = 0) : a ≤ b := by
  rw [endsE_eq] at h
  by_cases h1 : withinB a 0 10000 = true
  · by_cases h2 : withinB b 0 10000 = true
    · by_cases h3 : b < a
      · simp [h1, h2, h3] at h
      · omega
    · simp [h1, h2] at h
  · simp [h1] at h

set_option maxRecDepth 100000 in
set_option maxHeartbeats 8000000 in
theorem sect_few {A : Option Addr} {n ca : Nat} {w : World} (h14 : 14 < n) : Calls Try.prog 8 #[.slice A n ca] w fun e w' => e = .returned (.bool true) ∧ Ext w w' := by
  have HFW := Lib.hid (fun W => show Calls Try.prog 45 #[.slice A n ca] W fun e w' => e = .returned (.bool false) ∧ W = w' from by
    have := fewRanges_any (A := A) (n := n) (ca := ca) W
    rw [show decide ((n : Int) ≤ 14) = false by simp; omega] at this
    exact this)
  clear h14
  go_enter Try.func8, Try.ntmps8
  go_wp2_with (go_at_call 13; refine (awake_any _).mono ?_; rintro e W1 ⟨rfl, hx⟩; have X := Lib.hid hx; clear hx; refine Hid.out ?_)
  refine Lib.hid ?_
  go_wp2_with (go_at_call 45; refine (HFW.out _).mono ?_; rintro e W2 ⟨rfl, rfl⟩; refine Hid.out ?_)
  refine Lib.hid ?_
  go_wp2
  go_ret
  exact ⟨rfl, X.out⟩

set_option maxRecDepth 100000 in
set_option maxHeartbeats 8000000 in
theorem sect_bad {A : Option Addr} {n ca : Nat} {xs : List (Int × Int)} {w : World} (hn : xs.length = n) (hA : RowsAt 2 frEnc w A xs) (hnil : A = none → ca = 0) (h14 : n ≤ 14) (hz : rngE xs ≠ 0) : Calls Try.prog 8 #[.slice A n ca] w fun e w' => e = .returned (.bool true) ∧ Ext w w' := by
  have HFW := Lib.hid (fun W => show Calls Try.prog 45 #[.slice A n ca] W fun e w' => e = .returned (.bool true) ∧ W = w' from by
    have := fewRanges_any (A := A) (n := n) (ca := ca) W
    rw [show decide ((n : Int) ≤ 14) = true by simp; omega] at this
    exact this)
  have HCP := Lib.hid (fun W (e : Ext w W) => copyRanges_any (ca := ca) hn (hA.ext e) (by omega) hnil)
  have HAG := Lib.hid (fun W A2 c2 (h : RowsAt 2 frEnc W A2 xs) => agreedOf_bad (ca := c2) hn h hz)
  have HCT := Lib.hid (fun W A2 c2 (h : RowsAt 2 frEnc W A2 xs) => contr_bad (ca := c2) hn h hz)
  have HRE := Lib.hid (fun W (e : Ext w W) => refRangesErr_any (ca := ca) hn (by omega) (hA.ext e))
  generalize rngE xs = rz at *
  have hz2 : (rz != 0) = true := by simp [hz]
  clear hn hA hnil h14 hz
  go_enter Try.func8, Try.ntmps8
  go_wp2_with (go_at_call 13; refine (awake_any _).mono ?_; rintro e W1 ⟨rfl, hx⟩; have X := Lib.hid hx; clear hx; refine Hid.out ?_)
  refine Lib.hid ?_
  go_wp2_with (go_at_call 45; refine (HFW.out _).mono ?_; rintro e W2 ⟨rfl, rfl⟩; refine Hid.out ?_)
  refine Lib.hid ?_
  go_wp2_with (go_at_call 47; refine (HCP.out _ X.out).mono ?_; rintro e W3 ⟨A2, c2, rfl, hr2, hn2, hx⟩; have X := Lib.hid (X.out.trans hx); have R2 := Lib.hid hr2; have N2 := Lib.hid hn2; clear hr2 hn2; clear hx; refine Hid.out ?_)
  refine Lib.hid ?_
  go_wp2_with (go_at_call 46; refine (HAG.out _ _ _ R2.out).mono ?_; rintro e W4 ⟨rfl, hx⟩; have X := Lib.hid (X.out.trans hx); clear R2 N2; clear hx; refine Hid.out ?_)
  refine Lib.hid ?_
  go_wp2_with (fail)
  obtain ⟨V4, hV⟩ : ∃ V1, V1 = W4.alloc (.cells #[.int .i64 0, .int .i64 0] 41) := ⟨_, rfl⟩
  obtain ⟨q3, hq⟩ : ∃ q, q = W4.heap.size := ⟨_, rfl⟩
  rw [← hV, ← hq]
  have K3 := Lib.hid (show Blk V4 q3 41 #[.int .i64 0, .int .i64 0] by rw [hV, hq]; exact Blk.new _ _ _)
  have hx : Ext W4 V4 := by rw [hV]; exact Ext.alloc _ _
  have X := Lib.hid (X.out.trans hx)
  clear hx hV hq
  go_wp2_with (go_at_call 47; refine (HCP.out _ X.out).mono ?_; rintro e W5 ⟨A2, c2, rfl, hr2, hn2, hx⟩; have X := Lib.hid (X.out.trans hx); have K3 := Lib.hid (K3.out.ext hx); have R2 := Lib.hid hr2; have N2 := Lib.hid hn2; clear hr2 hn2; clear hx; refine Hid.out ?_)
  refine Lib.hid ?_
  go_wp2_with (go_at_call 48; refine (HCT.out _ _ _ R2.out).mono ?_; rintro e W6 ⟨rfl, hx⟩; have X := Lib.hid (X.out.trans hx); have K3 := Lib.hid (K3.out.ext hx); clear R2 N2; clear hx; refine Hid.out ?_)
  refine Lib.hid ?_
  go_wp2_with (go_at_call 49; refine (HRE.out _ X.out).mono ?_; rintro e W7 ⟨rfl, hx⟩; have X := Lib.hid (X.out.trans hx); have K3 := Lib.hid (K3.out.ext hx); clear hx; refine Hid.out ?_)
  refine Lib.hid ?_
  have z0 : W7.cell? ⟨q3, 0, none⟩ = some (.int .i64 0) := K3.out.cell 0
  have z1 : W7.cell? ⟨q3, 1, none⟩ = some (.int .i64 0) := K3.out.cell 1
  go_wp2
  go_ret
  exact ⟨rfl, X.out⟩

set_option maxRecDepth 100000 in
set_option maxHeartbeats 8000000 in
theorem sect_ok {A : Option Addr} {n ca : Nat} {xs : List (Int × Int)} {w : World} (hn : xs.length = n) (hA : RowsAt 2 frEnc w A xs) (hnil : A = none → ca = 0) (h14 : n ≤ 14) (hz : rngE xs = 0) (ho : outK xs n n 0 = none) : Calls Try.prog 8 #[.slice A n ca] w fun e w' => e = .returned (.bool true) ∧ Ext w w' := by
  obtain ⟨m1, m12, hve⟩ := rngE_ok hz
  rw [hn] at m1 m12
  have hva : ∀ (i : Nat) (x : Int × Int), xs[i]? = some x → x.1 ≤ x.2 := fun i x hx => endsE_le (hve i x hx)
  obtain ⟨b1, o1, rfl, -, -⟩ := row_at hA (gR (xs := xs) (i := 0) hn (by omega))
  have HFW := Lib.hid (fun W => show Calls Try.prog 45 #[.slice (some ⟨b1, o1, none⟩) n ca] W fun e w' => e = .returned (.bool true) ∧ W = w' from by
    have := fewRanges_any (A := some ⟨b1, o1, none⟩) (n := n) (ca := ca) W
    rw [show decide ((n : Int) ≤ 14) = true by simp; omega] at this
    exact this)
  have HCP := Lib.hid (fun W (e : Ext w W) => copyRanges_any (ca := ca) hn (hA.ext e) (by omega) hnil)
  have hag := agree_iff hn m1 hva
  have HRE := Lib.hid (fun W (e : Ext w W) => show Calls Try.prog 49 #[.slice (some ⟨b1, o1, none⟩) n ca] W fun e w' => e = .returned (.int .i64 0) ∧ Ext W w' from by
    have := refRangesErr_any (ca := ca) hn (by omega) (hA.ext e)
    rw [hz] at this
    exact this)
  have hle := hag.2 ho
  have HAG := Lib.hid (fun W A2 c2 (h : RowsAt 2 frEnc W A2 xs) (hc : n ≤ c2) => show Calls Try.prog 46 #[.slice A2 n c2] W fun e w' => e = .returned (.tuple #[.agg #[.int .i64 (comK (xs.getD 0 default) xs).1, .int .i64 (comK (xs.getD 0 default) xs).2], .int .i64 0]) ∧ Ext W w' from by
    obtain ⟨b2, o2, rfl, -, -⟩ := row_at h (gR (xs := xs) (i := 0) hn (by omega))
    have := agreedOf_ok hn h hc hz (by rw [comK_drop hn m1]; exact hle)
    rw [comK_drop hn m1] at this
    exact this)
  have HCT := Lib.hid (fun W A2 c2 (h : RowsAt 2 frEnc W A2 xs) (hc : n ≤ c2) => show Calls Try.prog 48 #[.slice A2 n c2] W fun e w' => e = .returned (.tuple #[.slice none 0 0, .int .i64 12]) ∧ Ext W w' from by
    obtain ⟨b2, o2, rfl, -, -⟩ := row_at h (gR (xs := xs) (i := 0) hn (by omega))
    exact (contr_any hn h hc hz).mono fun e w' ⟨_, h2, hx⟩ => ⟨h2 ho, hx⟩)
  have HRA := Lib.hid (fun W (e : Ext w W) => show Calls Try.prog 50 #[.slice (some ⟨b1, o1, none⟩) n ca] W fun e w' => e = .returned (.tuple #[.agg #[.int .i64 (comK (xs.getD 0 default) xs).1, .int .i64 (comK (xs.getD 0 default) xs).2], .bool true]) ∧ Ext W w' from by
    have := refAgreed_any (ca := ca) hn (hA.ext e) (gR (xs := xs) (i := 0) hn (by omega))
    rw [if_pos hle] at this
    exact this)
  clear hle
  clear hn hA hnil h14 hz hve hva hag ho
  generalize comK (xs.getD 0 default) xs = cm at *
  go_enter Try.func8, Try.ntmps8
  go_wp2_with (go_at_call 13; refine (awake_any _).mono ?_; rintro e W1 ⟨rfl, hx⟩; have X := Lib.hid hx; clear hx; refine Hid.out ?_)
  refine Lib.hid ?_
  go_wp2_with (go_at_call 45; refine (HFW.out _).mono ?_; rintro e W2 ⟨rfl, rfl⟩; refine Hid.out ?_)
  refine Lib.hid ?_
  go_wp2_with (go_at_call 47; refine (HCP.out _ X.out).mono ?_; rintro e W3 ⟨A2, c2, rfl, hr2, hn2, hx⟩; have X := Lib.hid (X.out.trans hx); have R2 := Lib.hid hr2; have N2 := Lib.hid hn2; clear hr2 hn2; clear hx; refine Hid.out ?_)
  refine Lib.hid ?_
  go_wp2_with (go_at_call 46; refine (HAG.out _ _ _ R2.out N2.out).mono ?_; rintro e W4 ⟨rfl, hx⟩; have X := Lib.hid (X.out.trans hx); clear R2 N2; clear hx; refine Hid.out ?_)
  refine Lib.hid ?_
  go_wp2_with (fail)
  obtain ⟨V4, hV⟩ : ∃ V1, V1 = W4.alloc (.cells #[.int .i64 cm.1, .int .i64 cm.2] 41) := ⟨_, rfl⟩
  obtain ⟨q3, hq⟩ : ∃ q, q = W4.heap.size := ⟨_, rfl⟩
  rw [← hV, ← hq]
  have K3 := Lib.hid (show Blk V4 q3 41 #[.int .i64 cm.1, .int .i64 cm.2] by rw [hV, hq]; exact Blk.new _ _ _)
  have hx : Ext W4 V4 := by rw [hV]; exact Ext.alloc _ _
  have X := Lib.hid (X.out.trans hx)
  clear hx hV hq
  go_wp2_with (go_at_call 47; refine (HCP.out _ X.out).mono ?_; rintro e W5 ⟨A2, c2, rfl, hr2, hn2, hx⟩; have X := Lib.hid (X.out.trans hx); have K3 := Lib.hid (K3.out.ext hx); have R2 := Lib.hid hr2; have N2 := Lib.hid hn2; clear hr2 hn2; clear hx; refine Hid.out ?_)
  refine Lib.hid ?_
  go_wp2_with (go_at_call 48; refine (HCT.out _ _ _ R2.out N2.out).mono ?_; rintro e W6 ⟨rfl, hx⟩; have X := Lib.hid (X.out.trans hx); have K3 := Lib.hid (K3.out.ext hx); clear R2 N2; clear hx; refine Hid.out ?_)
  refine Lib.hid ?_
  go_wp2_with (go_at_call 49; refine (HRE.out _ X.out).mono ?_; rintro e W7 ⟨rfl, hx⟩; have X := Lib.hid (X.out.trans hx); have K3 := Lib.hid (K3.out.ext hx); clear hx; refine Hid.out ?_)
  refine Lib.hid ?_
  go_wp2_with (go_at_call 50; refine (HRA.out _ X.out).mono ?_; rintro e W8 ⟨rfl, hx⟩; have X := Lib.hid (X.out.trans hx); have K3 := Lib.hid (K3.out.ext hx); clear hx; refine Hid.out ?_)
  refine Lib.hid ?_
  have z0 : ∀ z, (W8.alloc z).cell? ⟨q3, 0, none⟩ = some (.int .i64 cm.1) := fun z => (K3.out.alloc z).cell 0
  have z1 : ∀ z, (W8.alloc z).cell? ⟨q3, 1, none⟩ = some (.int .i64 cm.2) := fun z => (K3.out.alloc z).cell 1
  go_wp2
  go_ret
  exact ⟨rfl, X.out.trans (Ext.alloc _ _)⟩

set_option maxRecDepth 100000 in
set_option maxHeartbeats 8000000 in
theorem sect_clash {A : Option Addr} {n ca : Nat} {xs : List (Int × Int)} {w : World} (hn : xs.length = n) (hA : RowsAt 2 frEnc w A xs) (hnil : A = none → ca = 0) (h14 : n ≤ 14) (hz : rngE xs = 0) {i j : Nat} (ho : outK xs n n 0 = some (i, j)) : Calls Try.prog 8 #[.slice A n ca] w fun e w' => e = .returned (.bool true) ∧ Ext w w' := by
  obtain ⟨m1, m12, hve⟩ := rngE_ok hz
  rw [hn] at m1 m12
  have hva : ∀ (i : Nat) (x : Int × Int), xs[i]? = some x → x.1 ≤ x.2 := fun i x hx => endsE_le (hve i x hx)
  obtain ⟨b1, o1, rfl, -, -⟩ := row_at hA (gR (xs := xs) (i := 0) hn (by omega))
  have HFW := Lib.hid (fun W => show Calls Try.prog 45 #[.slice (some ⟨b1, o1, none⟩) n ca] W fun e w' => e = .returned (.bool true) ∧ W = w' from by
    have := fewRanges_any (A := some ⟨b1, o1, none⟩) (n := n) (ca := ca) W
    rw [show decide ((n : Int) ≤ 14) = true by simp; omega] at this
    exact this)
  have HCP := Lib.hid (fun W (e : Ext w W) => copyRanges_any (ca := ca) hn (hA.ext e) (by omega) hnil)
  have hag := agree_iff hn m1 hva
  have HRE := Lib.hid (fun W (e : Ext w W) => show Calls Try.prog 49 #[.slice (some ⟨b1, o1, none⟩) n ca] W fun e w' => e = .returned (.int .i64 0) ∧ Ext W w' from by
    have := refRangesErr_any (ca := ca) hn (by omega) (hA.ext e)
    rw [hz] at this
    exact this)
  have hle : ¬ (comK (xs.getD 0 default) xs).1 ≤ (comK (xs.getD 0 default) xs).2 := fun h => by rw [hag.1 h] at ho; cases ho
  obtain ⟨hij, hjn, hd⟩ := outK_some (by omega) ho
  have HAG := Lib.hid (fun W A2 c2 (h : RowsAt 2 frEnc W A2 xs) (hc : n ≤ c2) => show Calls Try.prog 46 #[.slice A2 n c2] W fun e w' => e = .returned (.tuple #[.agg #[.int .i64 0, .int .i64 0], .int .i64 13]) ∧ Ext W w' from by
    obtain ⟨b2, o2, rfl, -, -⟩ := row_at h (gR (xs := xs) (i := 0) hn (by omega))
    exact agreedOf_clash hn h hc hz (by rw [comK_drop hn m1]; exact hle))
  have HCT := Lib.hid (fun W A2 c2 (h : RowsAt 2 frEnc W A2 xs) (hc : n ≤ c2) => show Calls Try.prog 48 #[.slice A2 n c2] W fun e w' => ∃ q, e = .returned (.tuple #[.slice (some ⟨q, 0, none⟩) 2 2, .int .i64 0]) ∧ Blk w' q 3 #[.int .i64 (i : Nat), .int .i64 (j : Nat)] ∧ Ext W w' from by
    obtain ⟨b2, o2, rfl, -, -⟩ := row_at h (gR (xs := xs) (i := 0) hn (by omega))
    exact (contr_any hn h hc hz).mono fun e w' ⟨h2, _, hx⟩ => by
      obtain ⟨q, h3, h4⟩ := h2 i j ho
      exact ⟨q, h3, h4, hx⟩)
  have HRA := Lib.hid (fun W (e : Ext w W) => show Calls Try.prog 50 #[.slice (some ⟨b1, o1, none⟩) n ca] W fun e w' => e = .returned (.tuple #[.agg #[.int .i64 0, .int .i64 0], .bool false]) ∧ Ext W w' from by
    have := refAgreed_any (ca := ca) hn (hA.ext e) (gR (xs := xs) (i := 0) hn (by omega))
    rw [if_neg hle] at this
    exact this)
  have HRC := Lib.hid (fun W (e : Ext w W) => show Calls Try.prog 51 #[.slice (some ⟨b1, o1, none⟩) n ca] W fun e w' => ∃ q, e = .returned (.tuple #[.slice (some ⟨q, 0, none⟩) 2 2, .bool true]) ∧ Blk w' q 3 #[.int .i64 (i : Nat), .int .i64 (j : Nat)] ∧ Ext W w' from
    (refContr_any (ca := ca) hn (hA.ext e) (by omega)).mono fun e w' ⟨h2, _, hx⟩ => by
      obtain ⟨q, h3, h4⟩ := h2 i j ho
      exact ⟨q, h3, h4, hx⟩)
  have HIS := Lib.hid (fun W p q (hp : Blk W p 3 #[.int .i64 (i : Nat), .int .i64 (j : Nat)]) (hq : Blk W q 3 #[.int .i64 (i : Nat), .int .i64 (j : Nat)]) => intsSame_any (n := 2) (c1 := 2) (c2 := 2) (b1 := p) (o1 := 0) (b2 := q) (o2 := 0) (xs := [((i : Nat) : Int), ((j : Nat) : Int)]) (w := W) rfl (by omega) (fun k x hx => by
    rw [hp.cell]
    match k, hx with
    | 0, hx => obtain rfl : ((i : Nat) : Int) = x := by simpa using hx
               rfl
    | 1, hx => obtain rfl : ((j : Nat) : Int) = x := by simpa using hx
               rfl
    | k + 2, hx => simp at hx) (fun k x hx => by
    rw [hq.cell]
    match k, hx with
    | 0, hx => obtain rfl : ((i : Nat) : Int) = x := by simpa using hx
               rfl
    | 1, hx => obtain rfl : ((j : Nat) : Int) = x := by simpa using hx
               rfl
    | k + 2, hx => simp at hx))
  obtain ⟨x, hxi⟩ : ∃ x, x = xs.getD i default := ⟨_, rfl⟩
  obtain ⟨y, hyj⟩ : ∃ y, y = xs.getD j default := ⟨_, rfl⟩
  have gx := gR hn (show i < n by omega)
  have gy := gR hn hjn
  rw [← hxi] at gx hd
  rw [← hyj] at gy hd
  have vx := hva i x gx
  have vy := hva j y gy
  have HDS : x.2 < y.1 ∨ y.2 < x.1 := by
    unfold dis comS at hd
    dsimp only at hd
    omega
  obtain ⟨b2, o2, he, -, hcx⟩ := row_at hA gx
  obtain ⟨rfl, rfl⟩ : b1 = b2 ∧ o1 = o2 := by simpa using he
  obtain ⟨b2, o2, he2, -, hcy⟩ := row_at hA gy
  obtain ⟨rfl, rfl⟩ : b1 = b2 ∧ o1 = o2 := by simpa using he2
  have P0 := Lib.hid (show w.cell? ⟨b1, o1 + i * 2, none⟩ = some (.int .i64 x.1) from hcx 0 _ rfl)
  have P1 := Lib.hid (show w.cell? ⟨b1, o1 + i * 2 + 1, none⟩ = some (.int .i64 x.2) from hcx 1 _ rfl)
  have Q0 := Lib.hid (show w.cell? ⟨b1, o1 + j * 2, none⟩ = some (.int .i64 y.1) from hcy 0 _ rfl)
  have Q1 := Lib.hid (show w.cell? ⟨b1, o1 + j * 2 + 1, none⟩ = some (.int .i64 y.2) from hcy 1 _ rfl)
  clear hle hd hxi hyj gx gy vx vy he he2 hcx hcy
  have hin : (i : Int) < (n : Int) := by omega
  have hjn2 : (j : Int) < (n : Int) := by omega
  have hit : ((i : Int)).toNat = i := by omega
  have hjt : ((j : Int)).toNat = j := by omega
  clear hn hA hnil h14 hz hve hva hag ho hij hjn m1
  go_enter Try.func8, Try.ntmps8
  go_wp2_with (go_at_call 13; refine (awake_any _).mono ?_; rintro e W1 ⟨rfl, hx⟩; have X := Lib.hid hx; clear hx; refine Hid.out ?_)
  refine Lib.hid ?_
  go_wp2_with (go_at_call 45; refine (HFW.out _).mono ?_; rintro e W2 ⟨rfl, rfl⟩; refine Hid.out ?_)
  refine Lib.hid ?_
  go_wp2_with (go_at_call 47; refine (HCP.out _ X.out).mono ?_; rintro e W3 ⟨A2, c2, rfl, hr2, hn2, hx⟩; have X := Lib.hid (X.out.trans hx); have R2 := Lib.hid hr2; have N2 := Lib.hid hn2; clear hr2 hn2; clear hx; refine Hid.out ?_)
  refine Lib.hid ?_
  go_wp2_with (go_at_call 46; refine (HAG.out _ _ _ R2.out N2.out).mono ?_; rintro e W4 ⟨rfl, hx⟩; have X := Lib.hid (X.out.trans hx); clear R2 N2; clear hx; refine Hid.out ?_)
  refine Lib.hid ?_
  go_wp2_with (fail)
  obtain ⟨V4, hV⟩ : ∃ V1, V1 = W4.alloc (.cells #[.int .i64 0, .int .i64 0] 41) := ⟨_, rfl⟩
  obtain ⟨q3, hq⟩ : ∃ q, q = W4.heap.size := ⟨_, rfl⟩
  rw [← hV, ← hq]
  have K3 := Lib.hid (show Blk V4 q3 41 #[.int .i64 0, .int .i64 0] by rw [hV, hq]; exact Blk.new _ _ _)
  have hx : Ext W4 V4 := by rw [hV]; exact Ext.alloc _ _
  have X := Lib.hid (X.out.trans hx)
  clear hx hV hq
  go_wp2_with (go_at_call 47; refine (HCP.out _ X.out).mono ?_; rintro e W5 ⟨A2, c2, rfl, hr2, hn2, hx⟩; have X := Lib.hid (X.out.trans hx); have K3 := Lib.hid (K3.out.ext hx); have R2 := Lib.hid hr2; have N2 := Lib.hid hn2; clear hr2 hn2; clear hx; refine Hid.out ?_)
  refine Lib.hid ?_
  go_wp2_with (go_at_call 48; refine (HCT.out _ _ _ R2.out N2.out).mono ?_; rintro e W6 ⟨q5, rfl, hb5, hx⟩; have X := Lib.hid (X.out.trans hx); have K3 := Lib.hid (K3.out.ext hx); have K5 := Lib.hid hb5; clear hb5 R2 N2; clear hx; refine Hid.out ?_)
  refine Lib.hid ?_
  go_wp2_with (go_at_call 49; refine (HRE.out _ X.out).mono ?_; rintro e W7 ⟨rfl, hx⟩; have X := Lib.hid (X.out.trans hx); have K3 := Lib.hid (K3.out.ext hx); have K5 := Lib.hid (K5.out.ext hx); clear hx; refine Hid.out ?_)
  refine Lib.hid ?_
  go_wp2_with (go_at_call 50; refine (HRA.out _ X.out).mono ?_; rintro e W8 ⟨rfl, hx⟩; have X := Lib.hid (X.out.trans hx); have K3 := Lib.hid (K3.out.ext hx); have K5 := Lib.hid (K5.out.ext hx); clear hx; refine Hid.out ?_)
  refine Lib.hid ?_
  go_wp2_with (fail)
  obtain ⟨V8, hV⟩ : ∃ V1, V1 = W8.alloc (.cells #[.int .i64 0, .int .i64 0] 41) := ⟨_, rfl⟩
  obtain ⟨q8, hq⟩ : ∃ q, q = W8.heap.size := ⟨_, rfl⟩
  rw [← hV, ← hq]
  have K8 := Lib.hid (show Blk V8 q8 41 #[.int .i64 0, .int .i64 0] by rw [hV, hq]; exact Blk.new _ _ _)
  have hx : Ext W8 V8 := by rw [hV]; exact Ext.alloc _ _
  have X := Lib.hid (X.out.trans hx)
  have K3 := Lib.hid (K3.out.ext hx)
  have K5 := Lib.hid (K5.out.ext hx)
  clear hx hV hq
  go_wp2_with (go_at_call 51; refine (HRC.out _ X.out).mono ?_; rintro e W9 ⟨q10, rfl, hb10, hx⟩; have X := Lib.hid (X.out.trans hx); have K3 := Lib.hid (K3.out.ext hx); have K5 := Lib.hid (K5.out.ext hx); have K10 := Lib.hid hb10; clear hb10; clear hx; refine Hid.out ?_)
  refine Lib.hid ?_
  have z0 : W9.cell? ⟨q3, 0, none⟩ = some (.int .i64 0) := K3.out.cell 0
  have z1 : W9.cell? ⟨q3, 1, none⟩ = some (.int .i64 0) := K3.out.cell 1
  go_wp2_with (go_at_call 52; refine (HIS.out _ _ _ K5.out K10.out).mono ?_; rintro e W10 ⟨rfl, hx⟩; have X := Lib.hid (X.out.trans hx); have K5 := Lib.hid (K5.out.ext hx); clear hx z0 z1; refine Hid.out ?_)
  refine Lib.hid ?_
  have s0 : W10.cell? ⟨q5, 0, none⟩ = some (.int .i64 (i : Int)) := K5.out.cell 0
  have s1 : W10.cell? ⟨q5, 1, none⟩ = some (.int .i64 (j : Int)) := K5.out.cell 1
  have p0 := X.out.cell P0.out
  have p1 := X.out.cell P1.out
  have r0 := X.out.cell Q0.out
  have r1 := X.out.cell Q1.out
  have s0a : ∀ z, (W10.alloc z).cell? ⟨q5, 0, none⟩ = some (.int .i64 (i : Int)) := fun z => (Ext.alloc _ _).cell s0
  have s0b : ∀ z z', ((W10.alloc z).alloc z').cell? ⟨q5, 0, none⟩ = some (.int .i64 (i : Int)) := fun z z' => ((Ext.alloc _ _).trans (Ext.alloc _ _)).cell s0
  have s1a : ∀ z, (W10.alloc z).cell? ⟨q5, 1, none⟩ = some (.int .i64 (j : Int)) := fun z => (Ext.alloc _ _).cell s1
  have s1b : ∀ z z', ((W10.alloc z).alloc z').cell? ⟨q5, 1, none⟩ = some (.int .i64 (j : Int)) := fun z z' => ((Ext.alloc _ _).trans (Ext.alloc _ _)).cell s1
  have p0a : ∀ z, (W10.alloc z).cell? ⟨b1, o1 + i * 2, none⟩ = some (.int .i64 x.1) := fun z => (Ext.alloc _ _).cell p0
  have p0b : ∀ z z', ((W10.alloc z).alloc z').cell? ⟨b1, o1 + i * 2, none⟩ = some (.int .i64 x.1) := fun z z' => ((Ext.alloc _ _).trans (Ext.alloc _ _)).cell p0
  have p1a : ∀ z, (W10.alloc z).cell? ⟨b1, o1 + i * 2 + 1, none⟩ = some (.int .i64 x.2) := fun z => (Ext.alloc _ _).cell p1
  have p1b : ∀ z z', ((W10.alloc z).alloc z').cell? ⟨b1, o1 + i * 2 + 1, none⟩ = some (.int .i64 x.2) := fun z z' => ((Ext.alloc _ _).trans (Ext.alloc _ _)).cell p1
  have r0a : ∀ z, (W10.alloc z).cell? ⟨b1, o1 + j * 2, none⟩ = some (.int .i64 y.1) := fun z => (Ext.alloc _ _).cell r0
  have r0b : ∀ z z', ((W10.alloc z).alloc z').cell? ⟨b1, o1 + j * 2, none⟩ = some (.int .i64 y.1) := fun z z' => ((Ext.alloc _ _).trans (Ext.alloc _ _)).cell r0
  have r1a : ∀ z, (W10.alloc z).cell? ⟨b1, o1 + j * 2 + 1, none⟩ = some (.int .i64 y.2) := fun z => (Ext.alloc _ _).cell r1
  have r1b : ∀ z z', ((W10.alloc z).alloc z').cell? ⟨b1, o1 + j * 2 + 1, none⟩ = some (.int .i64 y.2) := fun z z' => ((Ext.alloc _ _).trans (Ext.alloc _ _)).cell r1
  by_cases hxy : x.2 < y.1
  · go_wp2
    go_region
    all_goals go_wp2
    all_goals go_ret
    all_goals exact ⟨rfl, (X.out.trans ((Ext.alloc _ _).trans (Ext.alloc _ _))).trans (Ext.drew _)⟩
  · have hyx : y.2 < x.1 := by omega
    go_wp2
    go_region
    all_goals go_wp2
    all_goals go_ret
    all_goals exact ⟨rfl, (X.out.trans ((Ext.alloc _ _).trans (Ext.alloc _ _))).trans (Ext.drew _)⟩

theorem sect_any {A : Option Addr} {n ca : Nat} {xs : List (Int × Int)} {w : World} (hnil : A = none → ca = 0) (hn : xs.length = n) (hA : n ≤ 1000 → RowsAt 2 frEnc w A xs) : Calls Try.prog 8 #[.slice A n ca] w fun e w' => e = .returned (.bool true) ∧ Ext w w' := by
  rcases Nat.lt_or_ge 14 n with h | h
  · exact sect_few h
  · have hA := hA (by omega)
    by_cases hz : rngE xs = 0
    · cases ho : outK xs n n 0 with
      | none => exact sect_ok hn hA hnil h hz ho
      | some ij =>
        obtain ⟨i, j⟩ := ij
        exact sect_clash hn hA hnil h hz ho
    · exact sect_bad hn hA hnil h hz

end Go.Proofs.Ytmddnpagfgilcaa
