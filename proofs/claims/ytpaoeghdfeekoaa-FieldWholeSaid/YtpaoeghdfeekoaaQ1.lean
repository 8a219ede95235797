/- Arguments of the rows: ladders, drives, slices. -/
import Derived.Test.YtpaoeghdfeekoaaQ0
import Derived.Test.YtpaoeghdfeekoaaG1
namespace Go.Proofs.Ytpaoeghdfeekoaa
open Go.ChangeShapes Go.WideShapes Go.RowKit Go.Deep Go.Mem
instance : Inhabited Sh := ⟨⟨0, 0, 0⟩⟩
instance : Inhabited G := ⟨⟨0, 0⟩⟩
section
variable {H : Type} {enc : TypeId × Value → H} {w : World} {base : Nat} {spare : Nat → Bool} {held : Bool} {r : Reach} {b0 : Nat} {v : Value} {d : DataW H} {p : List MemPlace}

theorem open_shells {fuel : Nat} {v : Value} {x : DataW H × List MemPlace} (h : DataW.trod enc Try.prog w base spare held fuel 22 [v] = some x) :
    ∃ A n cap xs, v = .slice A n cap ∧ (A = none → cap = 0) ∧ n ≤ cap ∧ cap ≤ maxLen ∧ xs.length = n ∧ (n ≤ 1152921504606846976 → RowsAt 3 Sh.enc w A xs) :=
  open_rows 3 Sh.enc (by decide) Try.underlying22 (by kernel_rfl) (fun fuel cs x h => by
    obtain ⟨a, b, c, rfl⟩ := elem3 Try.underlying92 (by kernel_rfl) rfl rfl rfl (by kernel_rfl) (by kernel_rfl) (by kernel_rfl) Try.underlying3 Try.underlying3 Try.underlying3 h
    exact ⟨⟨a, b, c⟩, rfl⟩) h
theorem open_bool_row {fuel : Nat} {v : Value} {x : DataW H × List MemPlace} (h : DataW.trod enc Try.prog w base spare held fuel 25 [v] = some x) :
    ∃ A n cap xs, v = .slice A n cap ∧ (A = none → cap = 0) ∧ n ≤ cap ∧ cap ≤ maxLen ∧ xs.length = n ∧ (n ≤ 1152921504606846976 → RowsAt 1 boolEnc w A xs) :=
  open_rows 1 boolEnc (by decide) Try.underlying25 (by kernel_rfl) (fun fuel cs x h => by
    obtain ⟨a, rfl⟩ := elemB Try.underlying4 h
    exact ⟨a, rfl⟩) h
theorem open_gauss_row {fuel : Nat} {v : Value} {x : DataW H × List MemPlace} (h : DataW.trod enc Try.prog w base spare held fuel 53 [v] = some x) :
    ∃ A n cap xs, v = .slice A n cap ∧ (A = none → cap = 0) ∧ n ≤ cap ∧ cap ≤ maxLen ∧ xs.length = n ∧ (n ≤ 1152921504606846976 → RowsAt 2 G.enc w A xs) :=
  open_rows 2 G.enc (by decide) Try.underlying53 (by kernel_rfl) (fun fuel cs x h => by
    obtain ⟨a, b, rfl⟩ := elem2 Try.underlying65 (by kernel_rfl) rfl rfl (by kernel_rfl) (by kernel_rfl) Try.underlying3 Try.underlying3 h
    exact ⟨⟨a, b⟩, rfl⟩) h

set_option maxRecDepth 100000 in
theorem open_ladder (hv : Value.okWide Try.prog w r b0 24 v) (h : DataW.Trod enc Try.prog w base spare held 24 v d p) :
    ∃ t A n cap xs, v = .agg #[.int .i64 t, .slice A n cap] ∧ (A = none → cap = 0) ∧ xs.length = n ∧ (n ≤ 6 → RowsAt 3 Sh.enc w A xs) := by
  obtain ⟨v0, v1, y0, y1, n, rfl, _, _, h0, h1⟩ := Go.Joins.open_agg2 Try.underlying24 (by kernel_rfl) (by kernel_rfl) hv h
  obtain ⟨t, ht, _⟩ := DataW.trod_int (k := .i64) Try.underlying3 h0
  obtain ⟨A, m, cap, xs, rfl, hA, _, _, hx, hr⟩ := open_shells h1
  obtain rfl : v0 = .int .i64 t := by simpa using ht
  exact ⟨t, A, m, cap, xs, rfl, hA, hx, fun h => hr (by omega)⟩
set_option maxRecDepth 100000 in
theorem open_drive (hv : Value.okWide Try.prog w r b0 27 v) (h : DataW.Trod enc Try.prog w base spare held 27 v d p) :
    ∃ t A n cap xs, v = .agg #[.int .i64 t, .slice A n cap] ∧ (A = none → cap = 0) ∧ xs.length = n ∧ (n ≤ 6 → RowsAt 1 boolEnc w A xs) := by
  obtain ⟨v0, v1, y0, y1, n, rfl, _, _, h0, h1⟩ := Go.Joins.open_agg2 Try.underlying27 (by kernel_rfl) (by kernel_rfl) hv h
  obtain ⟨t, ht, _⟩ := DataW.trod_int (k := .i64) Try.underlying3 h0
  obtain ⟨A, m, cap, xs, rfl, hA, _, _, hx, hr⟩ := open_bool_row h1
  obtain rfl : v0 = .int .i64 t := by simpa using ht
  exact ⟨t, A, m, cap, xs, rfl, hA, hx, fun h => hr (by omega)⟩
end
end Go.Proofs.Ytpaoeghdfeekoaa
