/-
  The Go function FieldHots answers true for every slice of integers and every integer, and its arguments read behind the call as before: which shells are hot at some temperatures is as specified, or the errors. No condition.
-/
import Derived.Test.YtpaoeghdfeekoaaRows
import Derived.Test.YtpaoeghdfeekoaaE3
import Derived.WalkKit
import Derived.ProofKit
import Derived.OpenShut
import Derived.ShutString
import Derived.ChangeOld
import Derived.Below
namespace Go.Proofs.Ytpaoeghdfeekoaa.fieldHots
open Go.ChangeShapes Go.WideShapes Go.ChangeAt Go.RowKit
open Go.ChangeMaps (open_string shut_string)
set_option linter.unusedVariables false

theorem own : ownKnob Try.prog.godebug = none := by kernel_rfl
theorem laidOut : laidOutB Try.prog = true := by kernel_rfl

/-- WHAT THE WALK IS TOLD OF A SLICE OF INTEGERS THAT CAME IN: it is nil; or it leads to a row of 'cap' cells, the numbers 'zs' (the first 'len' are its elements, the rest its spare room), each fitting its kind. -/
def IsRow (k : IntKind) (w : World) (a : Option Addr) (len cap : Nat) (zs : List Int) : Prop :=
  (a = none ∧ len = 0 ∧ cap = 0 ∧ zs = []) ∨
  ∃ x, a = some x ∧ len ≤ cap ∧ cap ≤ maxLen ∧ zs.length = cap ∧ (∀ i, i < zs.length → w.cell? (x.add i) = some (.int k (zs.getD i 0))) ∧ ∀ n ∈ zs, (Lit.int k n).wf = true

/-! ### STEP 1: THE WALK: the Go text returns true, AND WRITES NOTHING THAT WAS THERE: 'Below w.heap.size w w'' (Derived/Below.lean: '.refl', '.alloc', '.drew', '.setCell' at a new block, '.trans'). Open each 'IsRow' by 'rcases' AHEAD of 'go_enter'; part every test ahead of the walk. -/
theorem walk (a0 : Option Addr) (len0 cap0 : Nat) (z0 : List Int) (a1 : Int) (w : World) (w0 : IsRow .i64 w a0 len0 cap0 z0) (w1 : (Lit.int .i64 a1).wf = true) :
    Calls Try.prog 4 #[.slice a0 len0 cap0, .int .i64 a1] w fun e w' => e = .returned (.bool true) ∧ Below w.heap.size w w' := by
  have hlen : len0 ≤ z0.length := by
    rcases w0 with ⟨_, rfl, _, _⟩ | ⟨x, _, hl, _, hz, _⟩
    · omega
    · omega
  have hxl : (z0.take len0).length = len0 := by rw [List.length_take]; omega
  have hget : ∀ i, i < len0 → (z0.take len0).getD i 0 = z0.getD i 0 := fun i hi => by
    simp [List.getD, List.getElem?_take, hi]
  have hrow : len0 ≤ 6 → Go.Mem.RowsAt 1 intEnc w a0 (z0.take len0) := fun h6 => by
    refine ⟨by omega, fun i x hx => ?_⟩
    have hi : i < len0 := by have := (List.getElem?_eq_some_iff.1 hx).1; omega
    rcases w0 with ⟨_, rfl, _, _⟩ | ⟨ad, rfl, hl, hm, hz, hc, _⟩
    · omega
    · obtain ⟨b, off, spot⟩ := ad
      have hc0 := hc 0 (by omega)
      obtain rfl : spot = none := by simpa [Addr.add] using World.cell?_spot hc0
      refine ⟨b, off, rfl, Go.Mem.lt_of_cell (p := (⟨b, off, none⟩ : Addr).add 0) hc0, fun j u hu => ?_⟩
      have hci := hc i (by omega)
      rw [add_plain] at hci
      match j, hu with
      | 0, hu =>
        obtain rfl : Value.int .i64 x = u := by simpa [intEnc] using hu
        have hxx : z0.getD i 0 = x := by
          rw [← hget i hi, List.getD, hx]; rfl
        rw [Nat.mul_one, Nat.add_zero, hci, hxx]
      | j + 1, hu => simp [intEnc] at hu
  have hnil : a0 = none → cap0 = 0 := by
    rcases w0 with ⟨_, _, h, _⟩ | ⟨x, h, _⟩
    · exact fun _ => h
    · intro h'; rw [h] at h'; cases h'
  have hints : len0 ≤ 6 → Go.Mem.IntsAt w (.slice a0 len0 cap0) (z0.take len0) := fun h6 => by
    cases hx : z0.take len0 with
    | nil =>
      rw [hx] at hxl
      exact .inl ⟨a0, cap0, by rw [← hxl]; rfl, rfl⟩
    | cons y l =>
      obtain ⟨b, o, e, hb, _⟩ := (hrow h6).2 0 y (by rw [hx]; rfl)
      rw [← hx]
      refine .inr ⟨b, o, cap0, by rw [e, hxl], hb, by omega, fun i hi => ?_⟩
      rw [hxl] at hi
      have hg : (z0.take len0)[i]? = some ((z0.take len0).getD i 0) := by
        rw [List.getD, List.getElem?_eq_getElem (by omega)]; rfl
      obtain ⟨b', o', e', _, hc⟩ := (hrow h6).2 i _ hg
      rw [e] at e'
      obtain ⟨rfl, rfl⟩ : b = b' ∧ o = o' := by simpa using e'
      have := hc 0 _ rfl
      rw [Nat.mul_one, Nat.add_zero] at this
      exact this
  have := fieldHots_any a0 cap0 (z0.take len0) a1 w (by rw [hxl]; exact hrow) hnil (by rw [hxl]; exact hints)
  rw [hxl] at this
  exact this

/-! ### THE ROW's STEP: WRITTEN OUT: LEAVE IT -/
set_option maxRecDepth 100000 in
theorem lifted (os : Os) (started : os.Started) (H : Type) (enc : TypeId × Value → H) :
    ReturnsInHanded {} Try.checked os 4 .any (Rows.fieldHotsSpec.pre6 enc Try.prog Try.f4 Rows.fieldHotsRow.domain false) (Rows.fieldHotsSpec.post enc Try.prog Try.f4 false true false false) := by
  refine returnsInHanded_of_change (C := Try.checked) own started (by kernel_rfl) Try.func4
    (ChangeSpec.witness6 (enc := enc) (C := Try.checked) false ⟨#[], #[.slice none 0 0, .int .i64 0], []⟩ 8 (by kernel_rfl) (by kernel_rfl) (by kernel_rfl) (by kernel_rfl)) ?_
  intro W base args ds gs before hval0 hW hcnd _
  have hval : ∀ (j : Nat) t v, Try.f4.params[j]? = some t → args[j]? = some v → Value.okWide Try.prog W .any base t v := hval0
  have hW' := hW
  obtain ⟨p, q, hA0, hV, rfl, hfz, hnd⟩ := hW
  have hA : DataW.TrodAll enc Try.prog W 0 (fun _ => true) true Try.f4.params.toList args.toList ds p := hA0
  rw [Try.params4] at hA hval
  obtain ⟨v0, vs0, d0, ds0, p0, q0, hargs, rfl, rfl, h0, r0⟩ := trodAll_cons hA
  obtain ⟨v1, vs1, d1, ds1, p1, q1, rfl, rfl, rfl, h1, r1⟩ := trodAll_cons r0
  obtain ⟨rfl, rfl, rfl⟩ := trodAll_nil r1
  obtain rfl : args = #[v0, v1] := by cases args; simp_all
  obtain ⟨rfl, rfl⟩ := trodVars_none hV
  obtain ⟨a0, len0, cap0, rfl⟩ := okWide_slice Try.underlying37 (hval 0 37 v0 rfl rfl)
  have k0 := h0
  have lt0 : ∀ x ∈ p0, x.block < W.heap.size := by obtain ⟨m, hm⟩ := k0; exact DataW.trod_lt m _ _ _ hm
  obtain ⟨z0, w0⟩ : ∃ zs, IsRow .i64 W a0 len0 cap0 zs := by
    obtain ⟨fuel, hf⟩ := h0
    rcases open_ints Try.underlying37 Try.underlying3 (by kernel_rfl) hf with ⟨hcs, _⟩ | ⟨x, l, c, zs, hcs, _, hl, hm, hz, _, hcell, hwz⟩
    · simp [Value.cells] at hcs
      obtain ⟨rfl, rfl, rfl⟩ := hcs
      exact ⟨[], .inl ⟨rfl, rfl, rfl, rfl⟩⟩
    · simp [Value.cells] at hcs
      obtain ⟨rfl, rfl, rfl⟩ := hcs
      exact ⟨zs, .inr ⟨_, rfl, hl, hm, by simpa using hz, hcell, hwz⟩⟩
  obtain ⟨a1, rfl, rfl, rfl, w1⟩ := open_int Try.underlying3 (hval 1 3 v1 rfl rfl) h1
  clear hA0 hval0
  refine (walk a0 len0 cap0 z0 a1 W w0 w1).mono fun e W' ⟨he, bel⟩ => ?_
  subst he
  exact ⟨_, rfl, _, _, _, [], _, [], hW', trodAll_mk1 (shut_bool Try.underlying4 _), (trodAll_cons_mk (Below.trod laidOut (by kernel_rfl) (of_decide_eq_true (by kernel_rfl)) k0 bel lt0) (trodAll_cons_mk (shut_int Try.underlying3 w1) trodAll_mk0)), rfl, bel.frame _, fun h => by cases h⟩

theorem over : Rows.fieldHotsRow.holds Try.pinned (OpenSpec.ofChange Rows.fieldHotsSpec) :=
  OpenClaim.holds_of_wide 4 Try.f4 rfl rfl rfl rfl rfl rfl rfl ⟨rfl, rfl, rfl, rfl, rfl⟩ rfl rfl rfl rfl rfl (by kernel_rfl) Try.func4 (by kernel_rfl)
    (of_decide_eq_true (by kernel_rfl)) (by unfold Func.isWrapper; first | (rw [if_pos (by decide +kernel)]; kernel_rfl) | (rw [if_neg (by decide +kernel)]; exact ⟨rfl, rfl⟩))
    (fun os started H enc _ => lifted os started H enc)

/-- ████ THE STATEMENT ████ -/
theorem proved : Rows.FieldHotsSaid := over
#print axioms proved
end Go.Proofs.Ytpaoeghdfeekoaa.fieldHots
