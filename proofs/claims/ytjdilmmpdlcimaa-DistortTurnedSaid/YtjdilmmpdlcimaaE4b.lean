/- Whether lists of bows are equal. -/
import Derived.Test.YtjdilmmpdlcimaaEA
import Derived.Lib.MinMax
import Derived.Deep.DeepCutAuto
import Derived.BigQuiet
import Derived.Laws.StructEq

namespace Go.Proofs.Ytjdilmmpdlcimaa
open Go.RowKit Go.Shelf Go.Mem Go.RegInv
attribute [local go_sem] RelUpon_value RelUpon_skip RelUpon_enter BigFrame.eval_const BigFrame.eval_global BigFrame.eval_func


set_option maxRecDepth 100000 in
set_option maxHeartbeats 1000000 in
theorem bows_any {A B : Option Addr} {n m ca cb : Nat} {xs ys : List (Bw)} {w : World} (hn : xs.length = n) (hA : RowsAt 4 Bw.enc w A xs) (hm : ys.length = m) (hB : RowsAt 4 Bw.enc w B ys) :
    Calls Try.prog 58 #[.slice A n ca, .slice B m cb] w (BoolP (xs = ys) w) := by
  have HN := Lib.hid hn
  have HM := Lib.hid hm
  have HA := Lib.hid hA
  have HB := Lib.hid hB
  have h62 : n ≤ 1152921504606846976 := by rw [← hn]; exact hA.1
  clear hn hm hA hB
  go_enter Try.func58, Try.ntmps58
  by_cases hnm : n = m
  · subst hnm
    have hnn : ((n : Int) != (n : Int)) = false := by simp
    go_wp2
    go_loopw [5] (fun i wr => ∃ k : Nat, k ≤ n ∧ i = .int .i64 (k : Int) ∧ (∀ j, j < k → xs.getD j default = ys.getD j default) ∧ Ext w wr) (fun i _ => n - (intOf i).toNat)
    case atStart => exact ⟨0, by omega, rfl, (fun j hj => by omega), Ext.refl _⟩
    case round =>
      obtain ⟨k, hk, rfl, hr, hx⟩ := hrel
      have X := Lib.hid hx
      clear hx
      have R := Lib.hid hr
      clear hr
      by_cases hlt : k < n
      · have hx := getD_some (xs := xs) (i := k) (by have := HN.out; omega)
        have hy := getD_some (xs := ys) (i := k) (by have := HM.out; omega)
        have HR2 := Lib.hid (fun (h : xs.getD k default = ys.getD k default) j (hj : j < k + 1) => show xs.getD j default = ys.getD j default from by
          rcases (show j < k ∨ j = k by omega) with h2 | rfl
          · exact R.out j h2
          · exact h)
        have HNE := Lib.hid (fun (h : ¬ xs.getD k default = ys.getD k default) => show ¬ xs = ys from fun he => h (by rw [he]))
        generalize xs.getD k default = x at *
        generalize ys.getD k default = y at *
        obtain ⟨xb, xo, rfl, hxb, hx⟩ := row_at (HA.out.ext X.out) hx
        obtain ⟨yb, yo, rfl, hyb, hy⟩ := row_at (HB.out.ext X.out) hy
        have x0 : wr.cell? ⟨xb, xo + k * 4, none⟩ = some (.int .i64 x.1.1) := hx 0 _ rfl
        have x1 : wr.cell? ⟨xb, xo + k * 4 + 1, none⟩ = some (.int .i64 x.1.2) := hx 1 _ rfl
        have x2 : wr.cell? ⟨xb, xo + k * 4 + 2, none⟩ = some (.int .i64 x.2.1) := hx 2 _ rfl
        have x3 : wr.cell? ⟨xb, xo + k * 4 + 3, none⟩ = some (.int .i64 x.2.2) := hx 3 _ rfl
        have y0 : wr.cell? ⟨yb, yo + k * 4, none⟩ = some (.int .i64 y.1.1) := hy 0 _ rfl
        have y1 : wr.cell? ⟨yb, yo + k * 4 + 1, none⟩ = some (.int .i64 y.1.2) := hy 1 _ rfl
        have y2 : wr.cell? ⟨yb, yo + k * 4 + 2, none⟩ = some (.int .i64 y.2.1) := hy 2 _ rfl
        have y3 : wr.cell? ⟨yb, yo + k * 4 + 3, none⟩ = some (.int .i64 y.2.2) := hy 3 _ rfl
        clear hx hy hxb hyb
        have hkn : (k : Int) < (n : Int) := by omega
        by_cases he : x = y
        · subst he
          have R2 := Lib.hid (HR2.out rfl)
          go_upto_region 6 with (fail)
          go_quiet (fail)
          go_wp2
          go_roundw
          case rel => exact ⟨k + 1, by omega, by go_num, R2.out, X.out.trans (Ext.drewN _ _)⟩
          case measure => simp [intOf]; omega
        · have N2 := Lib.hid (HNE.out he)
          have hc : ((x.1.1 == y.1.1) = false) ∨ ((x.1.1 == y.1.1) = true ∧ (x.1.2 == y.1.2) = false) ∨ ((x.1.1 == y.1.1) = true ∧ (x.1.2 == y.1.2) = true ∧ (x.2.1 == y.2.1) = false) ∨ ((x.1.1 == y.1.1) = true ∧ (x.1.2 == y.1.2) = true ∧ (x.2.1 == y.2.1) = true ∧ (x.2.2 == y.2.2) = false) := by
            rcases x with ⟨⟨a, b⟩, a2, b2⟩
            rcases y with ⟨⟨d, e⟩, d2, e2⟩
            by_cases h0 : a = d <;> by_cases h1 : b = e <;> by_cases h2 : a2 = d2 <;> by_cases h3 : b2 = e2 <;> simp_all
          rcases hc with g0 | ⟨g0, g1⟩ | ⟨g0, g1, g2⟩ | ⟨g0, g1, g2, g3⟩
          all_goals
            go_upto_region 6 with (fail)
            go_quiet (fail)
            go_wp2
            go_ret
            exact ⟨false, rfl, ⟨(fun h => by cases h), fun h => absurd h N2.out⟩, X.out.trans (Ext.drewN _ _)⟩
      · obtain rfl : n = k := by omega
        have hkn : ¬ (n : Int) < (n : Int) := by omega
        go_wp2
        go_ret
        exact ⟨true, rfl, ⟨fun _ => list_ext (HN.out.trans HM.out.symm) (fun k hk => R.out k (by have := HN.out; omega)), fun _ => rfl⟩, X.out⟩
  · have hnn : ((n : Int) != (m : Int)) = true := by simp; omega
    go_wp2
    go_ret
    exact ⟨false, rfl, ⟨(fun h => by cases h), fun h => absurd (show n = m by rw [← HN.out, ← HM.out, h]) hnm⟩, Ext.refl _⟩

end Go.Proofs.Ytjdilmmpdlcimaa
