/- The last knots. -/
import Derived.Test.YtkmekbafjnlfkaaGreatS4

namespace Go.Proofs.YtkmekbafjnlfkaaGreat
open Go.RowKit Go.Shelf Go.Mem Go.RegInv
attribute [local go_sem] RelUpon_value RelUpon_skip RelUpon_enter BigFrame.eval_const BigFrame.eval_global BigFrame.eval_func

theorem field190 (kk : Int) (A : Option Addr) (n c : Nat) (B : Option Addr) (m d : Nat) (W : World) : Sem.run Tryz.prog (Instr.field 190 (.agg #[.int .i64 kk, .slice A n c, .slice B m d]) 0) W = .ok (.int .i64 kk) W := by kernel_rfl
theorem knV_two {x : Kn} {u : Value} {w : World} {kk : Int} (h : KnV x u w) (hk : x.k = kk) : ∃ A n c B m d, u = .agg #[.int .i64 kk, .slice A n c, .slice B m d] := by
  obtain ⟨A, n, ca, va, -, -, -, rfl, -, hv⟩ := h
  subst hk
  rcases hv with ⟨rfl, -⟩ | ⟨b, g, rfl, -, -⟩
  · exact ⟨_, _, _, none, 0, 0, rfl⟩
  · exact ⟨_, _, _, _, _, _, rfl⟩
/-- Whether the last knot is at least at a temperature. -/
def reachK (l : List Kn) (kelvin : Int) : Bool :=
  match l.getLast? with
  | some x => decide (kelvin ≤ x.k)
  | none => false

set_option maxRecDepth 100000 in
theorem reaches125_any {A : Option Addr} {n ca : Nat} {xs : List CK} {kelvin : Int} {w : World} (hn : xs.length = n) (hA : RowsAt 5 CK.enc w A xs) :
    Calls Tryz.prog 125 #[.slice A n ca, .func (.func 77) #[] #[], .int .i64 kelvin] w fun e w' => e = .returned (.bool (reachK (xs.map CK.kn) kelvin)) ∧ Ext w w' := by
  have hnb : n ≤ 1152921504606846976 := by have := hA.1; omega
  by_cases h0 : n = 0
  · have HR := Lib.hid (show reachK (xs.map CK.kn) kelvin = false by rw [List.length_eq_zero_iff.1 (by omega : xs.length = 0)]; rfl)
    subst h0
    clear hA hn
    go_enter Tryz.func125, Tryz.ntmps125
    go_wp2
    go_ret
    exact ⟨ret_bool HR.out.symm, Ext.refl _⟩
  · obtain ⟨j, hj⟩ : ∃ j, n = j + 1 := ⟨n - 1, by omega⟩
    obtain ⟨x, hx⟩ : ∃ x, xs[j]? = some x := ⟨_, List.getElem?_eq_getElem (by omega)⟩
    have HR := Lib.hid (show reachK (xs.map CK.kn) kelvin = decide (kelvin ≤ x.k) by
      have : xs.getLast? = some x := by rw [List.getLast?_eq_getElem?, hn, hj, Nat.add_sub_cancel, hx]
      unfold reachK
      rw [List.getLast?_map, this]
      rfl)
    obtain ⟨b, o, rfl, hb, hc⟩ := hA.2 j x hx
    have c0 : w.cell? ⟨b, o + j * 5, none⟩ = some (.int .i64 x.k) := hc 0 _ rfl
    have c1 : w.cell? ⟨b, o + j * 5 + 1, none⟩ = some (.int .i64 x.wlo) := hc 1 _ rfl
    have c2 : w.cell? ⟨b, o + j * 5 + 2, none⟩ = some (.int .i64 x.whi) := hc 2 _ rfl
    have c3 : w.cell? ⟨b, o + j * 5 + 3, none⟩ = some (.int .i64 x.rlo) := hc 3 _ rfl
    have c4 : w.cell? ⟨b, o + j * 5 + 4, none⟩ = some (.int .i64 x.rhi) := hc 4 _ rfl
    have hw : IntKind.i64.wrap ((n : Int) - 1) = (j : Int) := by rw [wrap_id _ (by omega) (by omega)]; omega
    have hj1 : (j : Int) < (n : Int) := by omega
    have hgt : decide (0 < n) = true := decide_eq_true (by omega)
    have hnp : 0 < n := by omega
    clear hA hn hj hx hc hb h0
    go_enter Tryz.func125, Tryz.ntmps125
    go_wp2_with (go_at_call 77; refine (coolKnot_any _ _ _ _ _ _).mono ?_; rintro e W1 ⟨v, rfl, hx1, hv⟩; obtain ⟨A1, n1, e1, B1, m1, d1, rfl⟩ := knV_two (kk := x.k) hv rfl; have X1 := Lib.hid hx1; have hfi := field190 x.k A1 n1 e1 B1 m1 d1 W1; clear hx1 hv)
    go_ret
    exact ⟨ret_bool HR.out.symm, X1.out⟩

set_option maxRecDepth 100000 in
theorem reaches126_any {A : Option Addr} {n ca : Nat} {xs : List DK} {kelvin : Int} {w : World} (hn : xs.length = n) (hA : RowsAt 3 DK.enc w A xs) :
    Calls Tryz.prog 126 #[.slice A n ca, .func (.func 80) #[] #[], .int .i64 kelvin] w fun e w' => e = .returned (.bool (reachK (xs.map DK.kn) kelvin)) ∧ Ext w w' := by
  have hnb : n ≤ 1152921504606846976 := by have := hA.1; omega
  by_cases h0 : n = 0
  · have HR := Lib.hid (show reachK (xs.map DK.kn) kelvin = false by rw [List.length_eq_zero_iff.1 (by omega : xs.length = 0)]; rfl)
    subst h0
    clear hA hn
    go_enter Tryz.func126, Tryz.ntmps126
    go_wp2
    go_ret
    exact ⟨ret_bool HR.out.symm, Ext.refl _⟩
  · obtain ⟨j, hj⟩ : ∃ j, n = j + 1 := ⟨n - 1, by omega⟩
    obtain ⟨x, hx⟩ : ∃ x, xs[j]? = some x := ⟨_, List.getElem?_eq_getElem (by omega)⟩
    have HR := Lib.hid (show reachK (xs.map DK.kn) kelvin = decide (kelvin ≤ x.k) by
      have : xs.getLast? = some x := by rw [List.getLast?_eq_getElem?, hn, hj, Nat.add_sub_cancel, hx]
      unfold reachK
      rw [List.getLast?_map, this]
      rfl)
    obtain ⟨b, o, rfl, hb, hc⟩ := hA.2 j x hx
    have c0 : w.cell? ⟨b, o + j * 3, none⟩ = some (.int .i64 x.k) := hc 0 _ rfl
    have c1 : w.cell? ⟨b, o + j * 3 + 1, none⟩ = some (.int .i64 x.lo) := hc 1 _ rfl
    have c2 : w.cell? ⟨b, o + j * 3 + 2, none⟩ = some (.int .i64 x.hi) := hc 2 _ rfl
    have hw : IntKind.i64.wrap ((n : Int) - 1) = (j : Int) := by rw [wrap_id _ (by omega) (by omega)]; omega
    have hj1 : (j : Int) < (n : Int) := by omega
    have hgt : decide (0 < n) = true := decide_eq_true (by omega)
    have hnp : 0 < n := by omega
    clear hA hn hj hx hc hb h0
    go_enter Tryz.func126, Tryz.ntmps126
    go_wp2_with (go_at_call 80; refine (coldKnot_any _ _ _ _).mono ?_; rintro e W1 ⟨v, rfl, hx1, hv⟩; obtain ⟨A1, n1, e1, B1, m1, d1, rfl⟩ := knV_two (kk := x.k) hv rfl; have X1 := Lib.hid hx1; have hfi := field190 x.k A1 n1 e1 B1 m1 d1 W1; clear hx1 hv)
    go_ret
    exact ⟨ret_bool HR.out.symm, X1.out⟩

set_option maxRecDepth 100000 in
theorem reaches127_any {A : Option Addr} {n ca : Nat} {xs : List TK} {kelvin : Int} {w : World} (hn : xs.length = n) (hA : RowsAt 2 TK.enc w A xs) :
    Calls Tryz.prog 127 #[.slice A n ca, .func (.func 83) #[] #[], .int .i64 kelvin] w fun e w' => e = .returned (.bool (reachK (xs.map TK.kn) kelvin)) ∧ Ext w w' := by
  have hnb : n ≤ 1152921504606846976 := by have := hA.1; omega
  by_cases h0 : n = 0
  · have HR := Lib.hid (show reachK (xs.map TK.kn) kelvin = false by rw [List.length_eq_zero_iff.1 (by omega : xs.length = 0)]; rfl)
    subst h0
    clear hA hn
    go_enter Tryz.func127, Tryz.ntmps127
    go_wp2
    go_ret
    exact ⟨ret_bool HR.out.symm, Ext.refl _⟩
  · obtain ⟨j, hj⟩ : ∃ j, n = j + 1 := ⟨n - 1, by omega⟩
    obtain ⟨x, hx⟩ : ∃ x, xs[j]? = some x := ⟨_, List.getElem?_eq_getElem (by omega)⟩
    have HR := Lib.hid (show reachK (xs.map TK.kn) kelvin = decide (kelvin ≤ x.k) by
      have : xs.getLast? = some x := by rw [List.getLast?_eq_getElem?, hn, hj, Nat.add_sub_cancel, hx]
      unfold reachK
      rw [List.getLast?_map, this]
      rfl)
    obtain ⟨b, o, rfl, hb, hc⟩ := hA.2 j x hx
    have c0 : w.cell? ⟨b, o + j * 2, none⟩ = some (.int .i64 x.k) := hc 0 _ rfl
    have c1 : w.cell? ⟨b, o + j * 2 + 1, none⟩ = some (.int .i64 x.r) := hc 1 _ rfl
    have hw : IntKind.i64.wrap ((n : Int) - 1) = (j : Int) := by rw [wrap_id _ (by omega) (by omega)]; omega
    have hj1 : (j : Int) < (n : Int) := by omega
    have hgt : decide (0 < n) = true := decide_eq_true (by omega)
    have hnp : 0 < n := by omega
    clear hA hn hj hx hc hb h0
    go_enter Tryz.func127, Tryz.ntmps127
    go_wp2_with (go_at_call 83; refine (temperKnot_any _ _ _).mono ?_; rintro e W1 ⟨v, rfl, hx1, hv⟩; obtain ⟨A1, n1, e1, B1, m1, d1, rfl⟩ := knV_two (kk := x.k) hv rfl; have X1 := Lib.hid hx1; have hfi := field190 x.k A1 n1 e1 B1 m1 d1 W1; clear hx1 hv)
    go_ret
    exact ⟨ret_bool HR.out.symm, X1.out⟩

end Go.Proofs.YtkmekbafjnlfkaaGreat
