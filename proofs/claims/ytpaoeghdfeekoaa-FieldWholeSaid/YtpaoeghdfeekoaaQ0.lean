/- A slice of rows that came in, read as a list; structs of one-cell fields. -/
import Derived.Deep.Slices
import Derived.ChangeSame
import Derived.Deep.Strs
import Derived.Lib.SmallJoins
import Derived.Test.YtpaoeghdfeekoaaM0
namespace Go.Mem
open Go.ChangeShapes Go.WideShapes Go.RowKit Go.Deep
section
variable {H : Type} {enc : TypeId × Value → H} {P : Program} {w : World} {base : Nat} {spare : Nat → Bool} {held : Bool}

theorem open_rows {α : Type} [Inhabited α] (k : Nat) (ea : α → List Value) (hk : 0 < k) {t e : TypeId} (ht : P.underlying t = some (.slice e)) (hC : P.cellsOf e = k)
    (he : ∀ fuel cs x, DataW.trod enc P w base spare held fuel e cs = some x → ∃ a, cs = ea a) {fuel : Nat} {v : Value} {x : DataW H × List MemPlace}
    (h : DataW.trod enc P w base spare held fuel t [v] = some x) :
    ∃ A n cap xs, v = .slice A n cap ∧ (A = none → cap = 0) ∧ n ≤ cap ∧ cap ≤ maxLen ∧ xs.length = n ∧ (n ≤ 1152921504606846976 → RowsAt k ea w A xs) := by
  rcases open_slice ht h with ⟨hcs, _⟩ | ⟨a, len, cap, m, nf, D, Pl, hcs, hb, hl, hm, hmm, _, hi⟩
  · obtain rfl : v = .slice none 0 0 := by simpa using hcs
    exact ⟨none, 0, 0, [], rfl, fun _ => rfl, Nat.le_refl _, by unfold maxLen; omega, rfl, fun _ => ⟨by simp, by simp⟩⟩
  · obtain rfl : v = .slice (some a) len cap := by simpa using hcs
    have hlm : len ≤ m := by rw [hmm]; split <;> omega
    obtain ⟨f, hf⟩ := choose_lt (n := len) (p := fun i (z : α) => w.cells? base (a.add (i * k)) k = some (ea z)) (fun i hlt => by
      obtain ⟨cs', h1, h2⟩ := hi i (by omega)
      obtain ⟨z, rfl⟩ := he _ _ _ h2
      exact ⟨z, by rw [hC] at h1; exact h1⟩)
    refine ⟨some a, len, cap, (List.range len).map f, rfl, (fun h => by cases h), hl, hm, by simp, fun hle => ⟨by simpa using hle, fun i x hx => ?_⟩⟩
    have hlt : i < len := by simpa using (List.getElem?_eq_some_iff.1 hx).1
    obtain rfl : f i = x := by simpa [hlt] using hx
    obtain ⟨_, hcl, hat⟩ := World.cells?_some (hf i hlt)
    have hc00 : w.cell? ((a.add (i * k)).add 0) = some ((ea (f i))[0]'(by omega)) := by rw [hat 0 hk, List.getElem?_eq_getElem (by omega)]
    obtain ⟨b, off, spot⟩ := a
    obtain rfl : spot = none := by
      obtain ⟨_, hcl0, hat0⟩ := World.cells?_some (hf 0 (by omega))
      have h00 : w.cell? ((Addr.add ⟨b, off, spot⟩ (0 * k)).add 0) = some ((ea (f 0))[0]'(by omega)) := by rw [hat0 0 hk, List.getElem?_eq_getElem (by omega)]
      have := World.cell?_spot h00
      simpa [Addr.add] using this
    refine ⟨b, off, rfl, ?_, fun j u hu => ?_⟩
    · rw [add_plain, add_plain] at hc00
      exact lt_of_cell hc00
    · have hj : j < k := by have := (List.getElem?_eq_some_iff.1 hu).1; omega
      have := hat j hj
      rw [add_plain, add_plain, hu] at this
      exact this

theorem elem1 {t : TypeId} {k : IntKind} (ht : P.underlying t = some (.int k)) {fuel : Nat} {cs : List Value} {x : DataW H × List MemPlace} (h : DataW.trod enc P w base spare held fuel t cs = some x) :
    ∃ a, cs = [.int k a] := by
  obtain ⟨n, h, _⟩ := DataW.trod_int ht h
  exact ⟨n, h⟩
theorem elemB {t : TypeId} (ht : P.underlying t = some .bool) {fuel : Nat} {cs : List Value} {x : DataW H × List MemPlace} (h : DataW.trod enc P w base spare held fuel t cs = some x) :
    ∃ a, cs = [.bool a] := by
  obtain ⟨n, h, _⟩ := DataW.trod_bool ht h
  exact ⟨n, h⟩

theorem elem2 {t : TypeId} {f0 f1 : Field} (ht : P.underlying t = some (.struct #[f0, f1])) (hC : P.cellsOf t = 2) (o0 : f0.offset = 0) (o1 : f1.offset = 1) (k0 : P.cellsOf f0.type = 1) (k1 : P.cellsOf f1.type = 1)
    (i0 : P.underlying f0.type = some (.int .i64)) (i1 : P.underlying f1.type = some (.int .i64)) {fuel : Nat} {cs : List Value} {x : DataW H × List MemPlace} (h : DataW.trod enc P w base spare held fuel t cs = some x) :
    ∃ a b, cs = [.int .i64 a, .int .i64 b] := by
  obtain ⟨y0, y1, n, _, hl, h0, h1⟩ := trod_struct2 ht h
  rw [hC] at hl
  match cs, hl with
  | [c0, c1], _ =>
    rw [o0, k0] at h0
    rw [o1, k1] at h1
    obtain ⟨a, ha, _⟩ := DataW.trod_int i0 h0
    obtain ⟨b, hb, _⟩ := DataW.trod_int i1 h1
    simp at ha hb
    exact ⟨a, b, by rw [ha, hb]⟩

theorem elem3 {t : TypeId} {f0 f1 f2 : Field} (ht : P.underlying t = some (.struct #[f0, f1, f2])) (hC : P.cellsOf t = 3) (o0 : f0.offset = 0) (o1 : f1.offset = 1) (o2 : f2.offset = 2) (k0 : P.cellsOf f0.type = 1) (k1 : P.cellsOf f1.type = 1) (k2 : P.cellsOf f2.type = 1)
    (i0 : P.underlying f0.type = some (.int .i64)) (i1 : P.underlying f1.type = some (.int .i64)) (i2 : P.underlying f2.type = some (.int .i64)) {fuel : Nat} {cs : List Value} {x : DataW H × List MemPlace} (h : DataW.trod enc P w base spare held fuel t cs = some x) :
    ∃ a b c, cs = [.int .i64 a, .int .i64 b, .int .i64 c] := by
  obtain ⟨y0, y1, y2, n, _, hl, h0, h1, h2⟩ := trod_struct3 ht h
  rw [hC] at hl
  match cs, hl with
  | [c0, c1, c2], _ =>
    rw [o0, k0] at h0
    rw [o1, k1] at h1
    rw [o2, k2] at h2
    obtain ⟨a, ha, _⟩ := DataW.trod_int i0 h0
    obtain ⟨b, hb, _⟩ := DataW.trod_int i1 h1
    obtain ⟨c, hc, _⟩ := DataW.trod_int i2 h2
    simp at ha hb hc
    exact ⟨a, b, c, by rw [ha, hb, hc]⟩
end
end Go.Mem
