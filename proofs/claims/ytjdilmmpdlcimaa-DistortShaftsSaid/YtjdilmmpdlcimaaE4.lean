/- Whether lists are equal. -/
import Derived.Test.YtjdilmmpdlcimaaC13
import Derived.Lib.MinMax
import Derived.Deep.DeepCutAuto
import Derived.BigQuiet
import Derived.Laws.StructEq

namespace Go.Proofs.Ytjdilmmpdlcimaa
open Go.RowKit Go.Shelf Go.Mem Go.RegInv
attribute [local go_sem] RelUpon_value RelUpon_skip RelUpon_enter BigFrame.eval_const BigFrame.eval_global BigFrame.eval_func


theorem list_ext {α : Type} [Inhabited α] {xs ys : List α} (hl : xs.length = ys.length) (h : ∀ k, k < xs.length → xs.getD k default = ys.getD k default) : xs = ys := by
  apply List.ext_getElem hl
  intro i h1 h2
  have := h i h1
  simpa [h1, h2] using this
theorem list_ext0 {xs ys : List Int} (hl : xs.length = ys.length) (h : ∀ k, k < xs.length → xs.getD k 0 = ys.getD k 0) : xs = ys := list_ext hl h
abbrev Bw := Rg × Rg
def Bw.enc (x : Bw) : List Value := [.int .i64 x.1.1, .int .i64 x.1.2, .int .i64 x.2.1, .int .i64 x.2.2]

set_option maxRecDepth 100000 in
set_option maxHeartbeats 1000000 in
theorem ranges_any {A B : Option Addr} {n m ca cb : Nat} {xs ys : List (Rg)} {w : World} (hn : xs.length = n) (hA : RowsAt 2 Rg.enc w A xs) (hm : ys.length = m) (hB : RowsAt 2 Rg.enc w B ys) :
    Calls Try.prog 23 #[.slice A n ca, .slice B m cb] w (BoolP (xs = ys) w) := by
  have HN := Lib.hid hn
  have HM := Lib.hid hm
  have HA := Lib.hid hA
  have HB := Lib.hid hB
  have h62 : n ≤ 1152921504606846976 := by rw [← hn]; exact hA.1
  clear hn hm hA hB
  go_enter Try.func23, Try.ntmps23
  by_cases hnm : n = m
  · subst hnm
    have hnn : ((n : Int) != (n : Int)) = false := by simp
    go_wp2
    go_loopw [5] (fun i wr => ∃ k : Nat, k ≤ n ∧ i = .int .i64 (k : Int) ∧ (∀ j, j < k → xs.getD j default = ys.getD j default) ∧ Ext w wr) (fun i _ => n - (intOf i).toNat)
    case atStart => exact ⟨0, by omega, rfl, (fun j hj => by omega), Ext.refl _⟩
    case round =>
      obtain ⟨k, hk, rfl, hr, hx⟩ := hrel
      have X := Lib.hid hx
      clear hx
      have R := Lib.hid hr
      clear hr
      by_cases hlt : k < n
      · have hx := getD_some (xs := xs) (i := k) (by have := HN.out; omega)
        have hy := getD_some (xs := ys) (i := k) (by have := HM.out; omega)
        have HR2 := Lib.hid (fun (h : xs.getD k default = ys.getD k default) j (hj : j < k + 1) => show xs.getD j default = ys.getD j default from by
          rcases (show j < k ∨ j = k by omega) with h2 | rfl
          · exact R.out j h2
          · exact h)
        have HNE := Lib.hid (fun (h : ¬ xs.getD k default = ys.getD k default) => show ¬ xs = ys from fun he => h (by rw [he]))
        generalize xs.getD k default = x at *
        generalize ys.getD k default = y at *
        obtain ⟨xb, xo, rfl, hxb, hx⟩ := row_at (HA.out.ext X.out) hx
        obtain ⟨yb, yo, rfl, hyb, hy⟩ := row_at (HB.out.ext X.out) hy
        have x0 : wr.cell? ⟨xb, xo + k * 2, none⟩ = some (.int .i64 x.1) := hx 0 _ rfl
        have x1 : wr.cell? ⟨xb, xo + k * 2 + 1, none⟩ = some (.int .i64 x.2) := hx 1 _ rfl
        have y0 : wr.cell? ⟨yb, yo + k * 2, none⟩ = some (.int .i64 y.1) := hy 0 _ rfl
        have y1 : wr.cell? ⟨yb, yo + k * 2 + 1, none⟩ = some (.int .i64 y.2) := hy 1 _ rfl
        clear hx hy hxb hyb
        have hkn : (k : Int) < (n : Int) := by omega
        by_cases he : x = y
        · subst he
          have R2 := Lib.hid (HR2.out rfl)
          go_upto_region 6 with (fail)
          go_quiet (fail)
          go_wp2
          go_roundw
          case rel => exact ⟨k + 1, by omega, by go_num, R2.out, X.out.trans (Ext.drewN _ _)⟩
          case measure => simp [intOf]; omega
        · have N2 := Lib.hid (HNE.out he)
          have hc : ((x.1 == y.1) = false) ∨ ((x.1 == y.1) = true ∧ (x.2 == y.2) = false) := by
            rcases x with ⟨a, b⟩
            rcases y with ⟨d, e⟩
            by_cases h0 : a = d <;> by_cases h1 : b = e <;> simp_all
          rcases hc with g0 | ⟨g0, g1⟩
          all_goals
            go_upto_region 6 with (fail)
            go_quiet (fail)
            go_wp2
            go_ret
            exact ⟨false, rfl, ⟨(fun h => by cases h), fun h => absurd h N2.out⟩, X.out.trans (Ext.drewN _ _)⟩
      · obtain rfl : n = k := by omega
        have hkn : ¬ (n : Int) < (n : Int) := by omega
        go_wp2
        go_ret
        exact ⟨true, rfl, ⟨fun _ => list_ext (HN.out.trans HM.out.symm) (fun k hk => R.out k (by have := HN.out; omega)), fun _ => rfl⟩, X.out⟩
  · have hnn : ((n : Int) != (m : Int)) = true := by simp; omega
    go_wp2
    go_ret
    exact ⟨false, rfl, ⟨(fun h => by cases h), fun h => absurd (show n = m by rw [← HN.out, ← HM.out, h]) hnm⟩, Ext.refl _⟩

set_option maxRecDepth 100000 in
set_option maxHeartbeats 1000000 in
theorem ints_any {A B : Option Addr} {n m ca cb : Nat} {xs ys : List (Int)} {w : World} (hn : xs.length = n) (hA : RowsAt 1 I1 w A xs) (hm : ys.length = m) (hB : RowsAt 1 I1 w B ys) :
    Calls Try.prog 87 #[.slice A n ca, .slice B m cb] w (BoolP (xs = ys) w) := by
  have HN := Lib.hid hn
  have HM := Lib.hid hm
  have HA := Lib.hid hA
  have HB := Lib.hid hB
  have h62 : n ≤ 1152921504606846976 := by rw [← hn]; exact hA.1
  clear hn hm hA hB
  go_enter Try.func87, Try.ntmps87
  by_cases hnm : n = m
  · subst hnm
    have hnn : ((n : Int) != (n : Int)) = false := by simp
    go_wp2
    go_loopw [5] (fun i wr => ∃ k : Nat, k ≤ n ∧ i = .int .i64 (k : Int) ∧ (∀ j, j < k → xs.getD j 0 = ys.getD j 0) ∧ Ext w wr) (fun i _ => n - (intOf i).toNat)
    case atStart => exact ⟨0, by omega, rfl, (fun j hj => by omega), Ext.refl _⟩
    case round =>
      obtain ⟨k, hk, rfl, hr, hx⟩ := hrel
      have X := Lib.hid hx
      clear hx
      have R := Lib.hid hr
      clear hr
      by_cases hlt : k < n
      · obtain ⟨xb, xo, rfl, hxb, x0⟩ := row_I1 (HA.out.ext X.out) (i := k) (by have := HN.out; omega)
        obtain ⟨yb, yo, rfl, hyb, y0⟩ := row_I1 (HB.out.ext X.out) (i := k) (by have := HM.out; omega)
        have HR2 := Lib.hid (fun (h : xs.getD k 0 = ys.getD k 0) j (hj : j < k + 1) => show xs.getD j 0 = ys.getD j 0 from by
          rcases (show j < k ∨ j = k by omega) with h2 | rfl
          · exact R.out j h2
          · exact h)
        have HNE := Lib.hid (fun (h : ¬ xs.getD k 0 = ys.getD k 0) => show ¬ xs = ys from fun he => h (by rw [he]))
        generalize xs.getD k 0 = x at *
        generalize ys.getD k 0 = y at *
        clear hxb hyb
        have hkn : (k : Int) < (n : Int) := by omega
        by_cases he : x = y
        · subst he
          have R2 := Lib.hid (HR2.out rfl)
          go_upto_region 6 with (fail)
          go_quiet (fail)
          go_wp2
          go_roundw
          case rel => exact ⟨k + 1, by omega, by go_num, R2.out, X.out.trans (Ext.drewN _ _)⟩
          case measure => simp [intOf]; omega
        · have N2 := Lib.hid (HNE.out he)
          have hc : (x == y) = false := by simpa using he
          rcases hc with g1
          all_goals
            go_upto_region 6 with (fail)
            go_quiet (fail)
            go_wp2
            go_ret
            exact ⟨false, rfl, ⟨(fun h => by cases h), fun h => absurd h N2.out⟩, X.out.trans (Ext.drewN _ _)⟩
      · obtain rfl : n = k := by omega
        have hkn : ¬ (n : Int) < (n : Int) := by omega
        go_wp2
        go_ret
        exact ⟨true, rfl, ⟨fun _ => list_ext0 (HN.out.trans HM.out.symm) (fun k hk => R.out k (by have := HN.out; omega)), fun _ => rfl⟩, X.out⟩
  · have hnn : ((n : Int) != (m : Int)) = true := by simp; omega
    go_wp2
    go_ret
    exact ⟨false, rfl, ⟨(fun h => by cases h), fun h => absurd (show n = m by rw [← HN.out, ← HM.out, h]) hnm⟩, Ext.refl _⟩

end Go.Proofs.Ytjdilmmpdlcimaa
