/- Sections: errors and copies. -/
import Derived.Test.YtmddnpagfgilcaaG2
import Derived.Test.YtmddnpagfgilcaaG10
import Derived.Lib.MinMax

namespace Go.Proofs.Ytmddnpagfgilcaa
open Go.RowKit Go.Shelf Go.Mem Go.RegInv
attribute [local go_sem] RelUpon_value RelUpon_skip RelUpon_enter BigFrame.eval_const BigFrame.eval_global BigFrame.eval_func


set_option maxRecDepth 100000 in
set_option maxHeartbeats 1000000 in
theorem firstError128_any {A : Option Addr} {n ca : Nat} {xs : List (Int × Int)} {w : World} {E : Nat → Int} {cp : Array Value} (hn : xs.length = n) (hA : RowsAt 2 frEnc w A xs)
    (hF : ∀ (i : Nat) (x : Int × Int) (W : World), xs[i]? = some x → Ext w W → Calls Try.prog 129 (#[.int .i64 (i : Int), .agg #[.int .i64 x.1, .int .i64 x.2]] ++ cp) W fun e w' => e = .returned (.int .i64 (E i)) ∧ Ext W w') :
    Calls Try.prog 128 #[.slice A n ca, .func (.func 129) #[] cp] w fun e w' => e = .returned (.tuple #[.int .i64 (firstAt E n 0).1, .int .i64 (firstAt E n 0).2]) ∧ Ext w w' := by
  have HN := Lib.hid hn
  have HA := Lib.hid hA
  have HF := Lib.hid hF
  have hnb : n ≤ 1152921504606846976 := by have := hA.1; omega
  clear hn hA hF
  go_enter Try.func128, Try.ntmps128
  go_wp2
  go_loopw [11] (fun i wr => ∃ k : Nat, k ≤ n ∧ i = .int .i64 k ∧ firstAt E n 0 = firstAt E (n - k) k ∧ Ext w wr) (fun i _ => n - (intOf i).toNat)
  case atStart => exact ⟨0, Nat.zero_le _, rfl, by rw [Nat.sub_zero], Ext.refl _⟩
  case round =>
    obtain ⟨k, hk, rfl, hr, hx⟩ := hrel
    have X := Lib.hid hx
    have R := Lib.hid hr
    clear hx hr
    by_cases hlt : k < n
    · have R2 := Lib.hid (R.out.trans (firstAt_step E hlt))
      clear R
      obtain ⟨x, hx⟩ : ∃ x, xs[k]? = some x := ⟨_, List.getElem?_eq_getElem (by rw [HN.out]; exact hlt)⟩
      obtain ⟨b, o, rfl, hb, hc⟩ := row_at (HA.out.ext X.out) hx
      have HX := Lib.hid hx
      have p0 := hc 0 _ rfl
      have p1 := hc 1 _ rfl
      simp only [Nat.add_zero] at p0
      have HC := Lib.hid (fun W (e : Ext w W) => HF.out k x W HX.out e)
      clear hc hx
      have hki : (k : Int) < (n : Int) := by omega
      by_cases hz : E k = 0
      · have hz2 : (E k != 0) = false := by simp [hz]
        have HZ := Lib.hid hz
        clear hz
        generalize hE : E k = z at *
        have HE := Lib.hid hE
        clear hE
        go_wp2_with (go_at_call 129; refine (HC.out _ (X.out.trans (Ext.alloc _ _))).mono ?_; rintro e W1 ⟨rfl, hx⟩; have X1 := Lib.hid ((X.out.trans (Ext.alloc _ _)).trans hx); clear hx)
        go_roundw
        case rel => exact ⟨k + 1, by omega, by go_num, by rw [R2.out, if_neg (by simpa using HZ.out)], X1.out⟩
        case measure => simp [intOf]; omega
      · have hz2 : (E k != 0) = true := by simp [hz]
        have HZ := Lib.hid hz
        clear hz
        generalize hE : E k = z at *
        have HE := Lib.hid hE
        clear hE
        go_wp2_with (go_at_call 129; refine (HC.out _ (X.out.trans (Ext.alloc _ _))).mono ?_; rintro e W1 ⟨rfl, hx⟩; have X1 := Lib.hid ((X.out.trans (Ext.alloc _ _)).trans hx); clear hx)
        go_ret2
        exact ⟨ret_two (by rw [R2.out, if_pos HZ.out]) (by rw [R2.out, if_pos HZ.out]), X1.out⟩
    · have R2 := Lib.hid (show firstAt E n 0 = (0, 0) by rw [R.out, show n - k = 0 by omega]; rfl)
      have hkn : ¬ (k : Int) < (n : Int) := by omega
      go_wp2
      go_ret2
      exact ⟨ret_two (by rw [R2.out]) (by rw [R2.out]), X.out⟩


theorem wpList_copyC {α : Type} {W : World} {ops : Array Oper} {rest : List Oper} {o : Oper} {a : Act} {Q : Exit → Act → World → Prop} (hgd : o.guard = none) (s x : Operand) (t : TypeId)
    (ho : o.op = .call { callee := .builtin .append, args := #[s, x], argTypes := #[t, t] })
    (e : TypeId) (i : TypeInfo) (z : Value) (size bytes : Nat) (ht : Try.prog.underlying t = some (.slice e)) (hi : Try.prog.info? e = some i) (hz : i.zero = some z)
    (hsize : i.size = size) (hby : i.bytes = bytes) (hzs : z.cells.size = size) (hsz : 0 < size) (hb1 : bytes ≤ 1000)
    (enc : α → List Value) (hk : ∀ x, (enc x).length = size) (h1 : ∀ x, ∀ u ∈ enc x, u.oneCell' = true)
    (hs : a.eval s = .slice (some ⟨W.heap.size, 0, none⟩) 0 0) (A : Option Addr) (n ca : Nat) (xs : List α) (hx : a.eval x = .slice A n ca) (hn : xs.length = n) (hA : RowsAt size enc W A xs) (h6 : n ≤ 1000) (hnil : A = none → ca = 0)
    (h : ∀ A' c' w', RowsAt size enc w' A' xs → Ext W w' → (∀ b o, A' = some ⟨b, o, none⟩ → W.heap.size ≤ b) → (A' = none → c' = 0) → n ≤ c' → wpList Try.prog ops Q rest (a.put o.dst (.slice A' n c')) w') :
    wpList Try.prog ops Q (o :: rest) a (W.alloc (.cells #[] e)) := by
  have hown : (W.alloc (.cells #[] e)).ownsRow W.heap.size e size (.slice (some ⟨W.heap.size, 0, none⟩) 0 0) 0 [] :=
    ⟨by simp, .inr ⟨W.heap.size, 0, #[], rfl, Nat.le_refl _, Blk.new W e #[], Nat.le_refl _, by unfold maxLen; omega, by simp, by simp⟩⟩
  cases A with
  | none =>
    obtain rfl : xs = [] := by
      cases xs with
      | nil => rfl
      | cons x l => obtain ⟨b, o, h, _⟩ := hA.2 0 x rfl; cases h
    obtain rfl := hnil rfl
    obtain rfl : n = 0 := by simpa using hn.symm
    refine wpList_append_own_none hgd s x t ho W.heap.size e i size ht hi _ _ _ hs hown hx ?_
    exact h _ _ _ ⟨by simp, fun i x hx => by simp at hx⟩ (Ext.alloc _ _) (fun b o hb => by simp at hb; omega) (fun h => by cases h) (Nat.zero_le _)
  | some ad =>
    have hnews : ∀ j u, (xs.flatMap enc)[j]? = some u → (W.alloc (.cells #[] e)).cell? (ad.add j) = some u := fun j u hu => by
      obtain ⟨s, hs, hj⟩ := flat_idx (k := size) (enc := enc) hsz hk xs j u hu
      obtain ⟨b, o, e', _, hc⟩ := hA.2 _ s hs
      obtain rfl : ad = ⟨b, o, none⟩ := by simpa using e'
      have := (Ext.alloc W (.cells #[] e)).cell (hc _ _ hj)
      have hdm := Nat.div_add_mod j size
      rw [Nat.mul_comm] at hdm
      rw [WideShapes.add_plain, show o + j = o + j / size * size + j % size by omega]; exact this
    refine wpList_append_own _ hgd s x t ho W.heap.size e i z size bytes ht hi hz hsize hby hzs hsz _ _ _ hs hown ad n ca (xs.flatMap enc) hx (by rw [flat_lenG hk, hn]) hnews (flat_one h1 xs) (by unfold maxLen; omega) (by
      have := Nat.mul_le_mul h6 hb1
      rw [Nat.zero_add]; omega) (by simp) ?_
    intro v' w1 hown' hgrow hnone
    have hE : Ext W w1 := Ext.grownBy (Ext.alloc W _) hgrow (fun g hg => own_base hown hg)
    obtain ⟨A', c', hv'⟩ := own_slice hown'
    rw [Nat.zero_add] at hv'
    subst hv'
    rw [Nat.zero_add, List.nil_append] at hown'
    refine h A' c' w1 (rows_own hn hk hown' (by omega)) hE (fun b o hb => own_base hown' (by rw [hb]; rfl)) (fun hA' => ?_) ?_
    · rcases hown'.2 with ⟨h2, _⟩ | ⟨g, cap, cu, h2, _⟩
      · exact (by simpa using h2 : A' = none ∧ n = 0 ∧ c' = 0).2.2
      · rw [hA'] at h2; simp at h2
    · rcases hown'.2 with ⟨_, h2⟩ | ⟨g, cap, cu, h2, _, _, h3, _⟩
      · omega
      · have : c' = cap := by
          have := congrArg (fun v => match v with | Value.slice _ _ c => c | _ => 0) h2
          simpa using this
        omega

theorem Fr_one : ∀ x, ∀ u ∈ frEnc x, u.oneCell' = true := by intro x u hu; simp [frEnc] at hu; rcases hu with rfl | rfl <;> rfl
theorem info41G : (Try.prog.info? 41).map (fun i => (i.zero, i.size, i.bytes)) = some (some (.agg #[.int .i64 0, .int .i64 0]), 2, 16) := by kernel_rfl
set_option maxRecDepth 100000 in
set_option maxHeartbeats 4000000 in
theorem copyRanges_any {A : Option Addr} {n ca : Nat} {xs : List (Int × Int)} {w : World} (hn : xs.length = n) (hA : RowsAt 2 frEnc w A xs) (h6 : n ≤ 1000) (hnil : A = none → ca = 0) :
    Calls Try.prog 47 #[.slice A n ca] w fun e w' => ∃ A' c', e = .returned (.slice A' n c') ∧ RowsAt 2 frEnc w' A' xs ∧ n ≤ c' ∧ Ext w w' := by
  obtain ⟨i0, hi0, hz0, ha0, hb0⟩ := info_parts info41G
  have I0 := Lib.hid hz0
  have HN := Lib.hid hn
  have HA := Lib.hid hA
  have HL := Lib.hid hnil
  clear hn hA hnil hz0
  go_enter Try.func47, Try.ntmps47
  go_wp2_with (at_builtin; refine wpList_copyC rfl _ _ 86 rfl 41 i0 (.agg #[.int .i64 0, .int .i64 0]) 2 16 (by kernel_rfl) hi0 I0.out ha0 hb0 rfl (by decide) (by decide) frEnc (fun _ => rfl) Fr_one rfl A n ca xs rfl HN.out HA.out (by omega) HL.out ?_; intro A' c' V0 hro hx hlo hnl hcn; have XR := Lib.hid hro; have XX := Lib.hid hx; have CN := Lib.hid hcn; clear hro hlo hnl hx hcn)
  go_ret
  exact ⟨A', c', rfl, XR.out, CN.out, XX.out⟩
theorem clos129_any (i a b : Int) (w : World) : Calls Try.prog 129 #[.int .i64 i, .agg #[.int .i64 a, .int .i64 b]] w fun e w' => e = .returned (.int .i64 (endsE a b)) ∧ Ext w w' := by
  have HM := Lib.hid (fun W => endsError_any a b W)
  generalize endsE a b = z at *
  go_enter Try.func129, Try.ntmps129
  go_wp2_with (go_at_call 93; refine (HM.out _).mono ?_; rintro e W1 ⟨rfl, hx⟩; have X1 := Lib.hid ((Ext.alloc _ _).trans hx); clear hx)
  go_ret
  exact ⟨rfl, X1.out⟩
def endAt (xs : List (Int × Int)) (i : Nat) : Int := endsE (xs.getD i default).1 (xs.getD i default).2
def rngE (xs : List (Int × Int)) : Int := if countE xs.length 1 12 ≠ 0 then countE xs.length 1 12 else (firstAt (endAt xs) xs.length 0).2
theorem countR_lo {n : Nat} (h : n = 0) : countE n 1 12 = 10 := by
  unfold countE; simp [firstE, errIf]; omega
theorem countR_hi {n : Nat} (h : 12 < n) : countE n 1 12 = 8 := by
  unfold countE; simp [firstE, errIf]; omega
theorem countR_in {n : Nat} (h : 1 ≤ n) (h2 : n ≤ 12) : countE n 1 12 = 0 := by
  unfold countE; simp [firstE, errIf]; omega
theorem rngE_ok {xs : List (Int × Int)} (h : rngE xs = 0) : 1 ≤ xs.length ∧ xs.length ≤ 12 ∧ ∀ (i : Nat) (x : Int × Int), xs[i]? = some x → endsE x.1 x.2 = 0 := by
  unfold rngE at h
  by_cases hz : countE xs.length 1 12 = 0
  · rw [if_neg (by simpa using hz)] at h
    obtain ⟨h1, h2⟩ := count_ok hz
    refine ⟨by omega, by omega, fun i x hx => ?_⟩
    have := firstAt_zero h i (Nat.zero_le _) (by have := (List.getElem?_eq_some_iff.1 hx).1; omega)
    unfold endAt at this
    rwa [show xs.getD i default = x by rw [List.getD_eq_getElem?_getD, hx]; rfl] at this
  · rw [if_pos hz] at h
    exact absurd h hz
set_option maxRecDepth 100000 in
set_option maxHeartbeats 4000000 in
theorem rangesError_any {A : Option Addr} {n ca : Nat} {xs : List (Int × Int)} {w : World} (hn : xs.length = n) (hA : RowsAt 2 frEnc w A xs) :
    Calls Try.prog 99 #[.slice A n ca] w fun e w' => e = .returned (.int .i64 (rngE xs)) ∧ Ext w w' := by
  have HFE := Lib.hid (fun W (e : Ext w W) => firstError128_any (ca := ca) (E := endAt xs) (cp := #[]) hn (hA.ext e) (fun i x W2 hx e2 => by
    have := clos129_any (i : Int) x.1 x.2 W2
    rw [show endsE x.1 x.2 = endAt xs i by unfold endAt; rw [show xs.getD i default = x by rw [List.getD_eq_getElem?_getD, hx]; rfl]] at this
    exact this))
  have HC := Lib.hid (fun W => countError_any (n : Int) 1 12 W)
  have HR := Lib.hid (show rngE xs = if countE n 1 12 ≠ 0 then countE n 1 12 else (firstAt (endAt xs) n 0).2 by unfold rngE; rw [hn])
  generalize rngE xs = rz at *
  clear hn hA
  generalize firstAt (endAt xs) n 0 = fa at *
  generalize countE n 1 12 = cz at *
  by_cases h : cz = 0
  · have HV := Lib.hid (show rz = fa.2 by rw [HR.out, if_neg (by simpa using h)])
    subst h
    clear HR
    go_enter Try.func99, Try.ntmps99
    go_wp2_with (first
      | (go_at_call 75; refine (HC.out _).mono ?_; rintro e W1 ⟨rfl, hx⟩; have X1 := Lib.hid hx; clear hx)
      | (go_at_call 128; refine (HFE.out _ X1.out).mono ?_; rintro e W2 ⟨rfl, hx⟩; have X2 := Lib.hid (X1.out.trans hx); clear hx))
    go_ret
    exact ⟨ret_int HV.out.symm, X2.out⟩
  · have HV := Lib.hid (show rz = cz by rw [HR.out, if_pos h])
    have h2 : (cz != 0) = true := by simp [h]
    clear HR h
    go_enter Try.func99, Try.ntmps99
    go_wp2_with (go_at_call 75; refine (HC.out _).mono ?_; rintro e W1 ⟨rfl, hx⟩; have X1 := Lib.hid hx; clear hx)
    go_ret
    exact ⟨ret_int HV.out.symm, X1.out⟩
theorem fewRanges_any {A : Option Addr} {n ca : Nat} (w : World) : Calls Try.prog 45 #[.slice A n ca] w fun e w' => e = .returned (.bool (decide ((n : Int) ≤ 14))) ∧ w = w' := by
  go_enter Try.func45, Try.ntmps45
  go_wp2
  go_ret
  exact ⟨rfl, rfl⟩
set_option maxRecDepth 100000 in
set_option maxHeartbeats 4000000 in
theorem refRangesErr_any {A : Option Addr} {n ca : Nat} {xs : List (Int × Int)} {w : World} (hn : xs.length = n) (hn2 : n ≤ 1000) (hA : RowsAt 2 frEnc w A xs) :
    Calls Try.prog 49 #[.slice A n ca] w fun e w' => e = .returned (.int .i64 (rngE xs)) ∧ Ext w w' := by
  rcases Nat.eq_zero_or_pos n with hlo | hlo
  · have HC := Lib.hid (show rngE xs = 10 by unfold rngE; rw [hn, countR_lo hlo]; rfl)
    have hlo2 : ((n : Int) == 0) = true := by simp [hlo]
    clear hA hn hlo
    go_enter Try.func49, Try.ntmps49
    go_wp2
    go_ret
    exact ⟨ret_int HC.out.symm, Ext.refl _⟩
  have hlo2 : ((n : Int) == 0) = false := by simp; omega
  rcases Nat.lt_or_ge 12 n with hhi | hhi
  · have HC := Lib.hid (show rngE xs = 8 by unfold rngE; rw [hn, countR_hi hhi]; rfl)
    have hhi2 : (12 : Int) < n := by omega
    clear hA hn
    go_enter Try.func49, Try.ntmps49
    go_wp2
    go_ret
    exact ⟨ret_int HC.out.symm, Ext.refl _⟩
  have hhi2 : ¬ (12 : Int) < n := by omega
  obtain ⟨rz, hrz⟩ : ∃ rz, rz = rngE xs := ⟨_, rfl⟩
  have HC0 := Lib.hid (show rz = (firstAt (endAt xs) (n - 0) 0).2 by rw [hrz]; unfold rngE; rw [hn, countR_in hlo hhi]; rfl)
  rw [← hrz]
  have HA := Lib.hid hA
  have HN := Lib.hid hn
  clear hA hn hrz
  go_enter Try.func49, Try.ntmps49
  go_wp2
  go_loopw [3] (fun i wr => ∃ k : Nat, k ≤ n ∧ i = .int .i64 k ∧ Ext w wr ∧ rz = (firstAt (endAt xs) (n - k) k).2) (fun i _ => n - (intOf i).toNat)
  case atStart => exact ⟨0, Nat.zero_le _, rfl, Ext.refl _, HC0.out⟩
  case round =>
    obtain ⟨k, hk, rfl, hx, hcx⟩ := hrel
    have X := Lib.hid hx
    have HCX := Lib.hid hcx
    clear hx hcx
    by_cases hlt : k < n
    · obtain ⟨x, hxk⟩ : ∃ x, xs[k]? = some x := ⟨_, List.getElem?_eq_getElem (by have := HN.out; omega)⟩
      obtain ⟨b, o, rfl, hb, hc⟩ := row_at (HA.out.ext X.out) hxk
      have p0 : wr.cell? ⟨b, o + k * 2, none⟩ = some (.int .i64 x.1) := hc 0 _ rfl
      have p1 : wr.cell? ⟨b, o + k * 2 + 1, none⟩ = some (.int .i64 x.2) := hc 1 _ rfl
      have HE := Lib.hid (fun W => refRangeErr_any x.1 x.2 W)
      have HS := Lib.hid (show rz = (if endsE x.1 x.2 ≠ 0 then ((k : Int), endsE x.1 x.2) else firstAt (endAt xs) (n - (k + 1)) (k + 1)).2 by
        rw [HCX.out, firstAt_step _ hlt, show endAt xs k = endsE x.1 x.2 by unfold endAt; rw [show xs.getD k default = x by rw [List.getD_eq_getElem?_getD, hxk]; rfl]])
      generalize endsE x.1 x.2 = ez at *
      clear hb hc hxk HCX
      have hlt2 : (k : Int) < (n : Int) := by omega
      have hbk : ((k : Int)).toNat = k := by omega
      by_cases hz : ez = 0
      · have HV := Lib.hid (show rz = (firstAt (endAt xs) (n - (k + 1)) (k + 1)).2 by rw [HS.out, if_neg (by simpa using hz)])
        subst hz
        clear HS
        go_wp2_with (go_at_call 38; refine (HE.out _).mono ?_; rintro e W1 ⟨rfl, hx⟩; have X1 := Lib.hid (X.out.trans hx); clear hx p0 p1)
        go_roundw
        case rel => exact ⟨k + 1, by omega, by go_num, X1.out, HV.out⟩
        case measure => simp [intOf]; omega
      · have HV := Lib.hid (show rz = ez by rw [HS.out, if_pos hz])
        have hz2 : (ez != 0) = true := by simp [hz]
        clear HS hz
        go_wp2_with (go_at_call 38; refine (HE.out _).mono ?_; rintro e W1 ⟨rfl, hx⟩; have X1 := Lib.hid (X.out.trans hx); clear hx p0 p1)
        go_ret
        exact ⟨ret_int HV.out.symm, X1.out⟩
    · have hkn : k = n := by omega
      have hlt2 : ¬ (k : Int) < (n : Int) := by omega
      have HV := Lib.hid (show rz = 0 by rw [HCX.out, hkn, Nat.sub_self]; rfl)
      clear hkn hlt
      go_wp2
      go_ret
      exact ⟨ret_int HV.out.symm, X.out⟩

end Go.Proofs.Ytmddnpagfgilcaa
