/- SteelTempered for all; the opener of two numbers. -/
import Derived.Test.YtkmekbafjnlfkaaGreatS51

namespace Go.Proofs.YtkmekbafjnlfkaaGreat
open Go.RowKit Go.Shelf Go.Mem Go.RegInv
attribute [local go_sem] RelUpon_value RelUpon_skip RelUpon_enter BigFrame.eval_const BigFrame.eval_global BigFrame.eval_func

section
open Go.ChangeShapes Go.WideShapes Go.Deep
variable {H : Type} {enc : TypeId × Value → H} {w : World} {base : Nat} {spare : Nat → Bool} {held : Bool} {r : Reach} {b0 : Nat} {v : Value} {d : DataW H} {p : List MemPlace}
theorem trod_pair {P : Program} {t e : TypeId} {fuel : Nat} {c0 c1 : Value} {x : DataW H × List MemPlace} (ht : P.underlying t = some (.array 2 e)) (hce : P.cellsOf e = 1) (h : DataW.trod enc P w base spare held fuel t [c0, c1] = some x) :
    ∃ y0 y1 n, DataW.trod enc P w base spare held n e [c0] = some y0 ∧ DataW.trod enc P w base spare held n e [c1] = some y1 := by
  cases fuel with
  | zero => simp [DataW.trod] at h
  | succ n =>
    unfold DataW.trod at h
    rw [ht] at h
    simp [show List.range 2 = [0, 1] from rfl, hce] at h
    obtain ⟨-, h⟩ := h
    cases h0 : DataW.trod enc P w base spare held n e [c0] with
    | none => simp [h0] at h
    | some y0 =>
      cases h1 : DataW.trod enc P w base spare held n e [c1] with
      | none => simp [h0, h1] at h
      | some y1 => exact ⟨y0, y1, n, h0, h1⟩
set_option maxRecDepth 100000 in
theorem open_pair (hv : Value.okWide Tryz.prog w r b0 123 v) (h : DataW.Trod enc Tryz.prog w base spare held 123 v d p) : ∃ z0 z1, v = .agg #[.int .i64 z0, .int .i64 z1] := by
  have hu := (by kernel_rfl : Tryz.prog.underlying 123 = some (.array 2 3))
  obtain ⟨cs, rfl, hsz⟩ : ∃ cs, v = .agg cs ∧ cs.size = Tryz.prog.cellsOf 123 := by
    unfold Value.okWide at hv
    simp only [hu] at hv
    cases v <;> simp_all
  obtain ⟨l⟩ := cs
  match l, hsz.trans (show Tryz.prog.cellsOf 123 = 2 by kernel_rfl) with
  | [c0, c1], _ =>
    obtain ⟨fuel, hf⟩ := h
    obtain ⟨y0, y1, n, h0, h1⟩ := trod_pair hu (by kernel_rfl) hf
    obtain ⟨z0, e0, _⟩ := DataW.trod_int (k := .i64) Tryz.underlying3 h0
    obtain ⟨z1, e1, _⟩ := DataW.trod_int (k := .i64) Tryz.underlying3 h1
    simp at e0 e1
    exact ⟨z0, z1, by rw [e0, e1]⟩
end
theorem tempered_any {r : Ru} {A0 A1 A2 A3 : Option Addr} {n0 n1 n2 n3 c0 c1 c2 c3 : Nat} {w : World} (s : St) (kv tv : Int) (hR : n0 ≤ 10 → n1 ≤ 10 → n2 ≤ 10 → n3 ≤ 10 → RuIn r (.agg #[.slice A0 n0 c0, .slice A1 n1 c1, .slice A2 n2 c2, .slice A3 n3 c3, .int .i64 r.h0, .int .i64 r.h1, .int .i64 r.h2, .int .i64 r.h3]) w) :
    Calls Tryz.prog 12 #[.agg #[.slice A0 n0 c0, .slice A1 n1 c1, .slice A2 n2 c2, .slice A3 n3 c3, .int .i64 r.h0, .int .i64 r.h1, .int .i64 r.h2, .int .i64 r.h3], .agg #[.int .i64 s.p, .int .i64 s.a, .int .i64 s.b, .int .i64 s.m, .int .i64 s.wt, .int .i64 s.g, .int .i64 s.t], .agg #[.int .i64 kv, .int .i64 tv]] w fun e w' => e = .returned (.bool true) ∧ Ext w w' := by
  by_cases h10 : n0 ≤ 10 ∧ n1 ≤ 10 ∧ n2 ≤ 10 ∧ n3 ≤ 10
  · have hR' := hR h10.1 h10.2.1 h10.2.2.1 h10.2.2.2
    by_cases hv : rulesE r = 0 ∧ stateE [s.p, s.a, s.b, s.m, s.wt, s.g, s.t] = 0 ∧ kelE kv = 0 ∧ withinB tv 0 30 = true ∧ lastLe (fun x : HK => decide (x.k ≤ kv)) r.hs n0 < 0 ∧ firstK CK.k kv r.cs < 0 ∧ firstK DK.k kv r.ds < 0
    · obtain ⟨h0, h1, h2, h3, h4, h5, h6⟩ := hv
      obtain ⟨m, rfl⟩ : ∃ m : Nat, tv = (m : Int) := Int.eq_ofNat_of_zero_le (by
        simp only [withinB, Bool.and_eq_true, decide_eq_true_eq] at h3
        exact h3.1)
      exact tempered_ok s kv m hR' h10 h0 h1 h2 h3 h4 h5 h6
    · exact tempered_bad s kv tv hR' h10 hv
  · exact tempered_many r A0 A1 A2 A3 n0 n1 n2 n3 c0 c1 c2 c3 w s kv tv h10

end Go.Proofs.YtkmekbafjnlfkaaGreat
