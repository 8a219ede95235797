/- The sample. -/
import Derived.Test.YtjdilmmpdlcimaaGreatC12
import Derived.Test.YtjdilmmpdlcimaaGreatB7
import Derived.Test.YtjdilmmpdlcimaaGreatB6
import Derived.Test.YtjdilmmpdlcimaaGreatN4
import Derived.Lib.MinMax
import Derived.Deep.DeepCutAuto
import Derived.BigQuiet
import Derived.Laws.StructEq

namespace Go.Proofs.YtjdilmmpdlcimaaGreat
open Go.RowKit Go.Shelf Go.Mem Go.RegInv
attribute [local go_sem] RelUpon_value RelUpon_skip RelUpon_enter BigFrame.eval_const BigFrame.eval_global BigFrame.eval_func


def BoolP (p : Prop) (w : World) (e : Ending) (w' : World) : Prop := ∃ b, e = .returned (.bool b) ∧ (b = true ↔ p) ∧ Ext w w'
theorem getD_some {α : Type} [Inhabited α] {xs : List α} {i : Nat} (h : i < xs.length) : xs[i]? = some (xs.getD i default) := by simp [h]
theorem sk_ext {xs ys : List Sk} (hl : xs.length = ys.length) (h : ∀ k, k < xs.length → xs.getD k default = ys.getD k default) : xs = ys := by
  apply List.ext_getElem hl
  intro i h1 h2
  have := h i h1
  simpa [h1, h2] using this
set_option maxRecDepth 100000 in
set_option maxHeartbeats 1000000 in
theorem samePlan_any {A B : Option Addr} {n m ca cb : Nat} {xs ys : List Sk} {w : World} (hn : xs.length = n) (hA : RowsAt 3 Sk.enc w A xs) (hm : ys.length = m) (hB : RowsAt 3 Sk.enc w B ys) :
    Calls Tryz.prog 16 #[.slice A n ca, .slice B m cb] w (BoolP (xs = ys) w) := by
  have HN := Lib.hid hn
  have HM := Lib.hid hm
  have HA := Lib.hid hA
  have HB := Lib.hid hB
  have h62 : n ≤ 1152921504606846976 := by rw [← hn]; exact hA.1
  clear hn hm hA hB
  go_enter Tryz.func16, Tryz.ntmps16
  by_cases hnm : n = m
  · subst hnm
    have hnn : ((n : Int) != (n : Int)) = false := by simp
    go_wp2
    go_loopw [5] (fun i wr => ∃ k : Nat, k ≤ n ∧ i = .int .i64 (k : Int) ∧ (∀ j, j < k → xs.getD j default = ys.getD j default) ∧ Ext w wr) (fun i _ => n - (intOf i).toNat)
    case atStart => exact ⟨0, by omega, rfl, (fun j hj => by omega), Ext.refl _⟩
    case round =>
      obtain ⟨k, hk, rfl, hr, hx⟩ := hrel
      have X := Lib.hid hx
      clear hx
      have R := Lib.hid hr
      clear hr
      by_cases hlt : k < n
      · have hx := getD_some (xs := xs) (i := k) (by have := HN.out; omega)
        have hy := getD_some (xs := ys) (i := k) (by have := HM.out; omega)
        have HR2 := Lib.hid (fun (h : xs.getD k default = ys.getD k default) j (hj : j < k + 1) => show xs.getD j default = ys.getD j default from by
          rcases (show j < k ∨ j = k by omega) with h2 | rfl
          · exact R.out j h2
          · exact h)
        have HNE := Lib.hid (fun (h : ¬ xs.getD k default = ys.getD k default) => show ¬ xs = ys from fun he => h (by rw [he]))
        generalize xs.getD k default = x at *
        generalize ys.getD k default = y at *
        obtain ⟨xb, xo, rfl, hxb, hx⟩ := row_at (HA.out.ext X.out) hx
        obtain ⟨yb, yo, rfl, hyb, hy⟩ := row_at (HB.out.ext X.out) hy
        have x0 : wr.cell? ⟨xb, xo + k * 3, none⟩ = some (.int .i64 x.j) := hx 0 _ rfl
        have x1 : wr.cell? ⟨xb, xo + k * 3 + 1, none⟩ = some (.int .i64 x.a) := hx 1 _ rfl
        have x2 : wr.cell? ⟨xb, xo + k * 3 + 2, none⟩ = some (.bool x.u) := hx 2 _ rfl
        have y0 : wr.cell? ⟨yb, yo + k * 3, none⟩ = some (.int .i64 y.j) := hy 0 _ rfl
        have y1 : wr.cell? ⟨yb, yo + k * 3 + 1, none⟩ = some (.int .i64 y.a) := hy 1 _ rfl
        have y2 : wr.cell? ⟨yb, yo + k * 3 + 2, none⟩ = some (.bool y.u) := hy 2 _ rfl
        clear hx hy hxb hyb
        have hkn : (k : Int) < (n : Int) := by omega
        by_cases he : x = y
        · subst he
          have R2 := Lib.hid (HR2.out rfl)
          go_upto_region 6 with (fail)
          go_quiet (fail)
          go_wp2
          go_roundw
          case rel => exact ⟨k + 1, by omega, by go_num, R2.out, X.out.trans (Ext.drewN _ _)⟩
          case measure => simp [intOf]; omega
        · have N2 := Lib.hid (HNE.out he)
          have hc : (x.j == y.j) = false ∨ ((x.j == y.j) = true ∧ (x.a == y.a) = false) ∨ ((x.j == y.j) = true ∧ (x.a == y.a) = true ∧ ¬ x.u = y.u) := by
            rcases x with ⟨a, b, c⟩
            rcases y with ⟨d, e, f⟩
            by_cases h1 : a = d <;> by_cases h2 : b = e <;> by_cases h3 : c = f <;> simp_all
          rcases hc with g1 | ⟨g1, g2⟩ | ⟨g1, g2, g3⟩
          all_goals
            go_upto_region 6 with (fail)
            go_quiet (fail)
            go_wp2
            go_ret
            exact ⟨false, rfl, ⟨(fun h => by cases h), fun h => absurd h N2.out⟩, X.out.trans (Ext.drewN _ _)⟩
      · obtain rfl : n = k := by omega
        have hkn : ¬ (n : Int) < (n : Int) := by omega
        go_wp2
        go_ret
        exact ⟨true, rfl, ⟨fun _ => sk_ext (HN.out.trans HM.out.symm) (fun k hk => R.out k (by have := HN.out; omega)), fun _ => rfl⟩, X.out⟩
  · have hnn : ((n : Int) != (m : Int)) = true := by simp; omega
    go_wp2
    go_ret
    exact ⟨false, rfl, ⟨(fun h => by cases h), fun h => absurd (show n = m by rw [← HN.out, ← HM.out, h]) hnm⟩, Ext.refl _⟩

end Go.Proofs.YtjdilmmpdlcimaaGreat
