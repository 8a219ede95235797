/- SteelRuns. -/
import Derived.Test.YtkmekbafjnlfkaaGreatR4
import Derived.Test.YtkmekbafjnlfkaaGreatS53
import Derived.Test.YtkmekbafjnlfkaaGreatSA
import Derived.Test.YtkmekbafjnlfkaaGreatS43
import Derived.BigQuiet
import Derived.Deep.DeepCutAuto
import Derived.Test.YtkmekbafjnlfkaaGreatSB

/- wp_region_each where of the guarded operations some run and some are refused. By mkmixed.py out of RegGuard. -/
namespace Go.RegInv

variable {P : Program} {Le : World → World → Prop} {F : World → Prop} {Ψ : Tmp → Value → World → Prop}
section
variable {n : Nat} {ops : Array Oper}

/-- The slots that guards ask, each with the answer that is wanted, and whether the operation runs. -/
def guardsM (n : Nat) (all : List Oper) : List Oper → List Bool → Option (List (Tmp × Bool × Bool))
  | o :: l, m :: ms => (match o.guard with
    | none => if m then guardsM n all l ms else none
    | some p => match (all[p.1]?).bind (·.dst) with
      | some t => if t < n then (guardsM n all l ms).map (fun g => (t, p.2, m) :: g) else none
      | none => none)
  | [], _ => some []
  | _ :: _, [] => none
theorem guardsM_at {n : Nat} {all : List Oper} : ∀ {l : List Oper} {ms : List Bool} {gs : List (Tmp × Bool × Bool)}, guardsM n all l ms = some gs → ∀ {i : Nat} {o : Oper}, l[i]? = some o →
    ∃ m, ms[i]? = some m ∧ (o.guard = none → m = true) ∧ ∀ j want, o.guard = some (j, want) → ∃ t, ((all[j]?).bind (·.dst)) = some t ∧ t < n ∧ (t, want, m) ∈ gs
  | o' :: l, m :: ms, gs, h, i, o, hi => by
    unfold guardsM at h
    cases hgo : o'.guard with
    | none =>
      rw [hgo] at h
      dsimp only at h
      split at h
      · rename_i hm
        cases i with
        | zero =>
          obtain rfl : o' = o := by simpa using hi
          exact ⟨m, rfl, fun _ => hm, fun j want h' => by rw [hgo] at h'; cases h'⟩
        | succ i =>
          obtain ⟨m2, h1, h2, h3⟩ := guardsM_at h (i := i) (o := o) (by simpa using hi)
          exact ⟨m2, by simpa using h1, h2, h3⟩
      · cases h
    | some p =>
      rw [hgo] at h
      dsimp only at h
      cases ht : (all[p.1]?).bind (·.dst) with
      | none => rw [ht] at h; cases h
      | some t =>
        rw [ht] at h
        dsimp only at h
        split at h
        · rename_i hlt
          cases hr : guardsM n all l ms with
          | none => rw [hr] at h; cases h
          | some g =>
            rw [hr] at h
            obtain rfl : (t, p.2, m) :: g = gs := by simpa using h
            cases i with
            | zero =>
              obtain rfl : o' = o := by simpa using hi
              refine ⟨m, rfl, fun h' => (by rw [hgo] at h'; cases h'), fun j want h' => ?_⟩
              rw [hgo] at h'
              obtain rfl : p = (j, want) := by simpa using h'
              exact ⟨t, ht, hlt, by simp⟩
            | succ i =>
              obtain ⟨m2, h1, h2, h3⟩ := guardsM_at hr (i := i) (o := o) (by simpa using hi)
              refine ⟨m2, by simpa using h1, h2, fun j want h' => ?_⟩
              obtain ⟨t2, h4, h5, h6⟩ := h3 j want h'
              exact ⟨t2, h4, h5, by simp [h6]⟩
        · cases h
  | [], _, _, _, i, o, hi => by simp at hi
  | _ :: _, [], _, h, _, _, _ => by simp [guardsM] at h

/-- What is asked of the operations: of a refused one only that its slot may be empty. -/
def AsksM (P : Program) (Le : World → World → Prop) (F : World → Prop) (ds : List (Option Tmp)) (φs : List (Value → World → Prop)) (a0 : Act) : List Oper → List (Value → World → Prop) → List (List Tmp) → List Bool → Prop
  | o :: l, φ :: rest, t :: ts, m :: ms => (match m with | true => ∀ (ρ : Operand → Value) (W : World), Std ρ → F W → slotsAt ds φs a0 ρ W t → RelUpon P Le φ W ((execOp ρ o).run P W) | false => ∀ W, φ undef W) ∧ AsksM P Le F ds φs a0 l rest ts ms
  | [], _, _, _ => True
  | _, _, _, _ => False
theorem asksM_at {ds : List (Option Tmp)} {φs : List (Value → World → Prop)} {a0 : Act} : ∀ {l : List Oper} {rest : List (Value → World → Prop)} {ts : List (List Tmp)} {ms : List Bool}, AsksM P Le F ds φs a0 l rest ts ms → ∀ {i : Nat} {o : Oper}, l[i]? = some o →
    ∃ φ t m, rest[i]? = some φ ∧ ts[i]? = some t ∧ ms[i]? = some m ∧ (m = true → ∀ (ρ : Operand → Value) (W : World), Std ρ → F W → slotsAt ds φs a0 ρ W t → RelUpon P Le φ W ((execOp ρ o).run P W)) ∧ (m = false → ∀ W, φ undef W)
  | o' :: _, φ :: _, t :: _, m :: _, h, 0, o, hi => by
    obtain rfl : o' = o := by simpa using hi
    cases m with
    | true => exact ⟨φ, t, true, rfl, rfl, rfl, fun _ => h.1, (fun hg => by cases hg)⟩
    | false => exact ⟨φ, t, false, rfl, rfl, rfl, (fun hg => by cases hg), fun _ => h.1⟩
  | _ :: _, _ :: _, _ :: _, _ :: _, h, i + 1, o, hi => by
    obtain ⟨φ, t, m, h1, h2, h3, h4⟩ := asksM_at h.2 (i := i) (o := o) (by simpa using hi)
    exact ⟨φ, t, m, by simpa using h1, by simpa using h2, by simpa using h3, h4⟩
  | [], _, _, _, _, _, _, hi => by simp at hi
  | _ :: _, [], _, _, h, _, _, _ => h.elim
  | _ :: _, _ :: _, [], _, h, _, _, _ => h.elim
  | _ :: _, _ :: _, _ :: _, [], h, _, _, _ => h.elim

/-- **EVERY ORDER AT ONCE, each guard known to let its operation run, or to refuse it.** -/
theorem wp_region_eachM {id : Nat} {Q : Exit → Act → World → Prop} {a : Act} {w : World} {l : List Oper} (ms : List Bool) (gs : List (Tmp × Bool × Bool)) (ds : List (Option Tmp)) (ts : List (List Tmp)) (φs : List (Value → World → Prop))
    (hm : P.follows .mixedOrders = true) (hB : depsB a.tmps.size l.toArray = true) (hg : guardsM a.tmps.size l l ms = some gs) (hds : l.map (·.dst) = ds) (hts : l.map (·.looksAt l.toArray) = ts)
    (Le : World → World → Prop) (F : World → Prop)
    (hrefl : ∀ W, F W → Le W W) (hF : ∀ W W', F W → Le W W' → F W') (hφ : Keeps Le F φs)
    (hG : ∀ p ∈ gs, ∃ φ, look ds φs p.1 = some φ ∧ ∀ v W, φ v W → (v = .bool p.2.1 ↔ p.2.2 = true))
    (h0 : F w.drew) (hO : AsksM P Le F ds φs a l φs ts ms)
    (hend : ∀ (f : Tmp → Value) (W : World), F W → Ends f W ds φs → Q .normal (fin a (ds.filterMap (fun d => d)) f) W) : (Code.region id l.toArray true).wp P Q a w := by
  have hdsts : dsts l.toArray = ds.filterMap (fun d => d) := by rw [← hds]; unfold dsts; rw [List.filterMap_map]; rfl
  have hat : ∀ {i : Nat} {o : Oper} {t : Tmp} {φ : Value → World → Prop}, l[i]? = some o → o.dst = some t → φs[i]? = some φ → look ds φs t = some φ := by
    intro i o t φ hi hd hp
    refine look_at (i := i) (by rw [← hds, List.getElem?_map, hi]; simp [hd]) hp fun j hj => ?_
    rw [← hds, List.getElem?_map] at hj
    cases hlj : l[j]? with
    | none => rw [hlj] at hj; cases hj
    | some oj =>
      rw [hlj] at hj
      exact ((depsB_at hB (i := i) (o := o) (by simpa using hi)).1 t hd).2 j oj (by simpa using hlj) (by simpa using hj)
  refine wp_region_inv (Ψ := fun t => (look ds φs t).getD (fun _ _ => True)) (ds.filterMap (fun d => d)) ts hm hB hdsts hts Le F hrefl hF ?_ h0 ?_ ?_
  · intro t v W W' h1 h2 h3
    cases hl : look ds φs t with
    | none => simp
    | some φ =>
      simp only [hl, Option.getD_some] at h3 ⊢
      exact look_keeps hφ hl v W W' h1 h2 h3
  · refine obls_of fun i o hi => ?_
    obtain ⟨φ, t, m, h1, h2, hm', h3, hU⟩ := asksM_at hO hi
    have ht : ts.getD i [] = t := by simp [h2]
    rw [ht]
    intro A W hF' hs
    have hE : ∀ d, o.dst = some d → (dstPost (fun t => (look ds φs t).getD (fun _ _ => True)) o = φ) := by
      intro d hd
      funext v W
      simp [dstPost, hd, hat hi hd h1]
    obtain ⟨m', hm'', hg0, hg1⟩ := guardsM_at hg hi
    obtain rfl : m' = m := by rw [hm''] at hm'; simpa using hm'
    -- what the guard's slot holds, and whether the operation runs
    have hsl : ∀ (j : Nat) (want : Bool), o.guard = some (j, want) → ∃ t', ((l[j]?).bind (·.dst)) = some t' ∧ (A.eval (.tmp t') = .bool want ↔ m' = true) := by
      intro j want hgo
      obtain ⟨t', h6, h7, h8⟩ := hg1 j want hgo
      obtain ⟨φ', h9, h10⟩ := hG _ h8
      have hmem : t' ∈ t := by
        have h11 : o.looksAt l.toArray = t := by
          rw [← hts, List.getElem?_map, hi] at h2
          simpa using h2
        rw [← h11]
        unfold Oper.looksAt
        rw [hgo]
        simp [h6]
      have h11 := slots_mem hs t' hmem
      have h12 : t' ∈ ds.filterMap (fun d => d) := by
        rw [← hds, List.filterMap_map]
        cases hlj : l[j]? with
        | none => rw [hlj] at h6; cases h6
        | some oj =>
          rw [hlj] at h6
          exact List.mem_filterMap.2 ⟨oj, List.mem_of_getElem? hlj, by simpa using h6⟩
      unfold slot at h11
      rw [if_pos (by simpa using h12)] at h11
      simp only [h9, Option.getD_some] at h11
      exact ⟨t', h6, h10 _ _ h11⟩
    have hyi : ∀ (j : Nat) (want : Bool) (t' : Tmp), ((l[j]?).bind (·.dst)) = some t' → (A.eval (.tmp t') = .bool want ↔ yielded l.toArray A.tmps j = some want) := by
      intro j want t' h6
      have h16 : (l.toArray[j]?).bind (·.dst) = some t' := by simpa using h6
      unfold yielded
      rw [h16]
      simp only [Act.eval, Option.bind_some]
      cases hq : A.tmps[t']? with
      | none =>
        have : A.tmps.size ≤ t' := by simpa using hq
        simp [Array.getD, Nat.not_lt.2 this, undef]
      | some u =>
        have hlt : t' < A.tmps.size := (Array.getElem?_eq_some_iff.1 hq).1
        have h17 : A.tmps[t'] = u := (Array.getElem?_eq_some_iff.1 hq).2
        simp only [Array.getD, hlt, dif_pos]
        rw [show A.tmps.getInternal t' hlt = u from h17]
        cases u <;> simp
    cases m' with
    | false =>
      refine ⟨fun hw => ?_, fun _ => ?_⟩
      · exfalso
        cases hgo : o.guard with
        | none => simpa using hg0 hgo
        | some p =>
          obtain ⟨j, want⟩ := p
          obtain ⟨t', h6, h10⟩ := hsl j want hgo
          have h18 : ¬ yielded l.toArray A.tmps j = some want := fun h => by simpa using h10.1 ((hyi j want t' h6).2 h)
          simp [Region.wanted, hgo, h18] at hw
      · cases hd : o.dst with
        | none => simp [dstPost, hd]
        | some d => rw [hE d hd]; exact hU rfl W
    | true =>
    refine ⟨fun _ => ?_, fun hw => ?_⟩
    case' refine_2 =>
      exfalso
      cases hgo : o.guard with
      | none => simp [Region.wanted, hgo] at hw
      | some p =>
        obtain ⟨j, want⟩ := p
        obtain ⟨t', h6, h10⟩ := hsl j want hgo
        have h15 := (hyi j want t' h6).1 (h10.2 rfl)
        simp [Region.wanted, hgo, h15] at hw
    case' refine_1 => skip
    have h4 := h3 rfl A.eval W (Std.eval A) hF' (slotsAt_of fun u hu => by
      have h5 := slots_mem hs u hu
      unfold slot at h5
      unfold slotAt
      split at h5
      · rename_i hc
        cases hl : look ds φs u with
        | some φ' => simpa [hl] using h5
        | none =>
          exfalso
          have hmem : u ∈ dsts l.toArray := by rw [hdsts]; simpa using hc
          obtain ⟨j, oj, hj, hdj⟩ := mem_dsts.1 hmem
          obtain ⟨φj, _, _, hj1, _⟩ := asksM_at hO (i := j) (o := oj) (by simpa using hj)
          rw [hat (by simpa using hj) hdj hj1] at hl
          cases hl
      · rename_i hc
        cases hl : look ds φs u with
        | none => exact h5
        | some φ' =>
          exfalso
          refine hc ?_
          have : u ∈ ds.filterMap (fun d => d) := by
            clear hc h5
            have aux : ∀ {ds : List (Option Tmp)} {φs : List (Value → World → Prop)}, look ds φs u = some φ' → some u ∈ ds := by
              intro ds
              induction ds with
              | nil => intro φs h; cases φs <;> cases h
              | cons d ds ih =>
                intro φs h
                cases φs with
                | nil => cases d <;> cases h
                | cons φ φs =>
                  cases d with
                  | none => exact List.mem_cons_of_mem _ (ih h)
                  | some d =>
                    unfold look at h
                    cases hb : Nat.beq d u
                    · rw [hb] at h; exact List.mem_cons_of_mem _ (ih h)
                    · have e : d = u := Nat.eq_of_beq_eq_true hb
                      rw [e]; exact List.mem_cons_self
            exact List.mem_filterMap.2 ⟨some u, aux hl, rfl⟩
          simpa using this)
    cases hd : o.dst with
    | none =>
      have e : ∀ v W, dstPost (fun t => (look ds φs t).getD (fun _ _ => True)) o v W := fun v W => by simp [dstPost, hd]
      generalize (execOp A.eval o).run P W = r at h4
      cases r with
      | ok nx W' =>
        cases nx <;> simp only [RelUpon] at h4 ⊢
        case value v => exact ⟨h4.1, e _ _⟩
        case skip => exact ⟨h4.1, e _ _⟩
        case enter f args => exact h4.mono fun _ _ ⟨v, h5, h6, _⟩ => ⟨v, h5, h6, e _ _⟩
      | halt x W' => simp only [RelUpon] at h4
    | some d =>
      have e : dstPost (fun t => (look ds φs t).getD (fun _ _ => True)) o = φ := by
        funext v W
        simp [dstPost, hd, hat hi hd h1]
      rw [e]; exact h4
  · intro f W hFW hall
    refine hend f W hFW (ends_of fun i t φ h1 h2 => ?_)
    have h3 := hall t (List.mem_filterMap.2 ⟨some t, List.mem_of_getElem? h1, rfl⟩)
    rw [← hds, List.getElem?_map] at h1
    cases hli : l[i]? with
    | none => rw [hli] at h1; cases h1
    | some o =>
      rw [hli] at h1
      rw [hat hli (by simpa using h1) h2] at h3
      exact h3
end
end Go.RegInv

/- SteelRuns, for known answers. -/

namespace Go.Proofs.YtkmekbafjnlfkaaGreat
open Go.RowKit Go.Shelf Go.Mem Go.RegInv
attribute [local go_sem] RelUpon_value RelUpon_skip RelUpon_enter BigFrame.eval_const BigFrame.eval_global BigFrame.eval_func

theorem BoxI.lay {w W : World} {A0 A1 A2 A3 B : Option Addr} {n0 n1 n2 n3 d0 d1 d2 d3 n cb : Nat} {r : Ru} {s : St} {k : Pk} (h : BoxI w W 48 #[.slice A0 n0 d0, .slice A1 n1 d1, .slice A2 n2 d2, .slice A3 n3 d3, .int .i64 r.h0, .int .i64 r.h1, .int .i64 r.h2, .int .i64 r.h3] s #[.slice B n cb, .int .i64 k.h, .int .i64 k.c, .int .i64 k.d]) :
    W.cell? ⟨w.heap.size, 0, none⟩ = some (.slice A0 n0 d0) ∧ W.cell? ⟨w.heap.size, 1, none⟩ = some (.slice A1 n1 d1) ∧ W.cell? ⟨w.heap.size, 2, none⟩ = some (.slice A2 n2 d2) ∧ W.cell? ⟨w.heap.size, 3, none⟩ = some (.slice A3 n3 d3) ∧ W.cell? ⟨w.heap.size, 4, none⟩ = some (.int .i64 r.h0) ∧ W.cell? ⟨w.heap.size, 5, none⟩ = some (.int .i64 r.h1) ∧ W.cell? ⟨w.heap.size, 6, none⟩ = some (.int .i64 r.h2) ∧ W.cell? ⟨w.heap.size, 7, none⟩ = some (.int .i64 r.h3) ∧ W.cell? ⟨w.heap.size + 1, 0, none⟩ = some (.int .i64 s.p) ∧ W.cell? ⟨w.heap.size + 1, 1, none⟩ = some (.int .i64 s.a) ∧ W.cell? ⟨w.heap.size + 1, 2, none⟩ = some (.int .i64 s.b) ∧ W.cell? ⟨w.heap.size + 1, 3, none⟩ = some (.int .i64 s.m) ∧ W.cell? ⟨w.heap.size + 1, 4, none⟩ = some (.int .i64 s.wt) ∧ W.cell? ⟨w.heap.size + 1, 5, none⟩ = some (.int .i64 s.g) ∧ W.cell? ⟨w.heap.size + 1, 6, none⟩ = some (.int .i64 s.t) ∧ W.cell? ⟨w.heap.size + 1 + 1, 0, none⟩ = some (.slice B n cb) ∧ W.cell? ⟨w.heap.size + 1 + 1, 1, none⟩ = some (.int .i64 k.h) ∧ W.cell? ⟨w.heap.size + 1 + 1, 2, none⟩ = some (.int .i64 k.c) ∧ W.cell? ⟨w.heap.size + 1 + 1, 3, none⟩ = some (.int .i64 k.d) :=
  ⟨h.k0.cell 0, h.k0.cell 1, h.k0.cell 2, h.k0.cell 3, h.k0.cell 4, h.k0.cell 5, h.k0.cell 6, h.k0.cell 7, h.k1.cell 0, h.k1.cell 1, h.k1.cell 2, h.k1.cell 3, h.k1.cell 4, h.k1.cell 5, h.k1.cell 6, h.k2.cell 0, h.k2.cell 1, h.k2.cell 2, h.k2.cell 3⟩
theorem blk_lay7 {W : World} {q : Nat} {y : St} (h : Blk W q 30 #[.int .i64 y.p, .int .i64 y.a, .int .i64 y.b, .int .i64 y.m, .int .i64 y.wt, .int .i64 y.g, .int .i64 y.t]) : W.cell? ⟨q, 0, none⟩ = some (.int .i64 y.p) ∧ W.cell? ⟨q, 1, none⟩ = some (.int .i64 y.a) ∧ W.cell? ⟨q, 2, none⟩ = some (.int .i64 y.b) ∧ W.cell? ⟨q, 3, none⟩ = some (.int .i64 y.m) ∧ W.cell? ⟨q, 4, none⟩ = some (.int .i64 y.wt) ∧ W.cell? ⟨q, 5, none⟩ = some (.int .i64 y.g) ∧ W.cell? ⟨q, 6, none⟩ = some (.int .i64 y.t) := ⟨h.cell 0, h.cell 1, h.cell 2, h.cell 3, h.cell 4, h.cell 5, h.cell 6⟩
theorem blk_lay7z {W : World} {q : Nat} (h : Blk W q 30 #[.int .i64 0, .int .i64 0, .int .i64 0, .int .i64 0, .int .i64 0, .int .i64 0, .int .i64 0]) : W.cell? ⟨q, 0, none⟩ = some (.int .i64 0) ∧ W.cell? ⟨q, 1, none⟩ = some (.int .i64 0) ∧ W.cell? ⟨q, 2, none⟩ = some (.int .i64 0) ∧ W.cell? ⟨q, 3, none⟩ = some (.int .i64 0) ∧ W.cell? ⟨q, 4, none⟩ = some (.int .i64 0) ∧ W.cell? ⟨q, 5, none⟩ = some (.int .i64 0) ∧ W.cell? ⟨q, 6, none⟩ = some (.int .i64 0) := ⟨h.cell 0, h.cell 1, h.cell 2, h.cell 3, h.cell 4, h.cell 5, h.cell 6⟩
theorem field30 (a b c d e f g : Int) (W : World) : Sem.run Tryz.prog (Instr.field 30 (.agg #[.int .i64 a, .int .i64 b, .int .i64 c, .int .i64 d, .int .i64 e, .int .i64 f, .int .i64 g]) 5) W = .ok (.int .i64 f) W := by kernel_rfl

theorem blk_other7 {W : World} {q1 q2 : Nat} {T : TypeId} {cs : Array Value} (h : Blk W q1 T cs) (hq : q1 < q2) (y : St) : Blk (((((((W.setCell ⟨q2, 0, none⟩ (.int .i64 y.p)).setCell ⟨q2, 1, none⟩ (.int .i64 y.a)).setCell ⟨q2, 2, none⟩ (.int .i64 y.b)).setCell ⟨q2, 3, none⟩ (.int .i64 y.m)).setCell ⟨q2, 4, none⟩ (.int .i64 y.wt)).setCell ⟨q2, 5, none⟩ (.int .i64 y.g)).setCell ⟨q2, 6, none⟩ (.int .i64 y.t)) q1 T cs := (((((((h.setOther (by dsimp only; omega) _).setOther (by dsimp only; omega) _).setOther (by dsimp only; omega) _).setOther (by dsimp only; omega) _).setOther (by dsimp only; omega) _).setOther (by dsimp only; omega) _).setOther (by dsimp only; omega) _)
def IntsSl (n : Nat) (xs : List Int) : Value → World → Prop := fun u W => ∃ A c, u = .slice A n c ∧ IntsAt W (.slice A n c) xs
theorem IntsSl.ext {n : Nat} {xs : List Int} {u : Value} {W W' : World} (h : IntsSl n xs u W) (e : Ext W W') : IntsSl n xs u W' := by
  obtain ⟨A, c, h1, h2⟩ := h; exact ⟨A, c, h1, h2.ext e⟩
def RunP (n : Nat) (xs : List Int) (k : Pk) : Value → World → Prop := fun u W => ∃ A c, u = .agg #[.slice A n c, .int .i64 k.h, .int .i64 k.c, .int .i64 k.d] ∧ IntsAt W (.slice A n c) xs
theorem RunP.ext {n : Nat} {xs : List Int} {k : Pk} {u : Value} {W W' : World} (h : RunP n xs k u W) (e : Ext W W') : RunP n xs k u W' := by
  obtain ⟨A, c, h1, h2⟩ := h; exact ⟨A, c, h1, h2.ext e⟩

set_option maxRecDepth 100000 in
set_option maxHeartbeats 16000000 in
theorem runs_core {r : Ru} {A0 A1 A2 A3 B : Option Addr} {n0 n1 n2 n3 d0 d1 d2 d3 n cb : Nat} {xs : List Int} {w : World} {s : St} {k : Pk} {kv c0 c1 c2 ck cp cc e1 ef eg ei hv gr : Int} {ya yb : St}
    (hR : RuIn r (.agg #[.slice A0 n0 d0, .slice A1 n1 d1, .slice A2 n2 d2, .slice A3 n3 d3, .int .i64 r.h0, .int .i64 r.h1, .int .i64 r.h2, .int .i64 r.h3]) w) (h10 : n0 ≤ 10 ∧ n1 ≤ 10 ∧ n2 ≤ 10 ∧ n3 ≤ 10) (hn : xs.length = n) (hB : RowsAt 1 encI w B xs) (hnil : B = none → cb = 0) (hsh : shortB n = true) (hn2 : n ≤ 1000)
    (hkv : (n = 0 ∧ kv = 300) ∨ (0 < n ∧ ∃ b o, B = some ⟨b, o, none⟩ ∧ w.cell? ⟨b, o, none⟩ = some (.int .i64 kv)))
    (hst : ∀ (u : Value) (W : World), RuV r u W → Calls Tryz.prog 23 #[u, .agg #[.int .i64 s.p, .int .i64 s.a, .int .i64 s.b, .int .i64 s.m, .int .i64 s.wt, .int .i64 s.g, .int .i64 s.t], .agg #[.int .i64 kv, .int .i64 k.h, .int .i64 k.c, .int .i64 k.d]] W fun e w' => e = .returned (.tuple #[.agg #[.int .i64 ya.p, .int .i64 ya.a, .int .i64 ya.b, .int .i64 ya.m, .int .i64 ya.wt, .int .i64 ya.g, .int .i64 ya.t], .int .i64 e1]) ∧ Ext W w')
    (hrun : ∀ (u : Value) (W : World) (A : Option Addr) (c : Nat), RuV r u W → IntsAt W (.slice A n c) xs → Calls Tryz.prog 24 #[u, .agg #[.int .i64 s.p, .int .i64 s.a, .int .i64 s.b, .int .i64 s.m, .int .i64 s.wt, .int .i64 s.g, .int .i64 s.t], .agg #[.slice A n c, .int .i64 k.h, .int .i64 k.c, .int .i64 k.d]] W fun e w' => e = .returned (.tuple #[.agg #[.int .i64 yb.p, .int .i64 yb.a, .int .i64 yb.b, .int .i64 yb.m, .int .i64 yb.wt, .int .i64 yb.g, .int .i64 yb.t], .int .i64 ef]) ∧ Ext W w')
    (hhd : ∀ (u : Value) (W : World), RuV r u W → Calls Tryz.prog 26 #[u, .agg #[.int .i64 s.p, .int .i64 s.a, .int .i64 s.b, .int .i64 s.m, .int .i64 s.wt, .int .i64 s.g, .int .i64 s.t]] W fun e w' => e = .returned (.tuple #[.int .i64 hv, .int .i64 eg]) ∧ Ext W w')
    (hgr : ∀ (u : Value) (W : World) (A : Option Addr) (c : Nat), RuV r u W → IntsAt W (.slice A n c) xs → Calls Tryz.prog 27 #[u, .agg #[.int .i64 s.p, .int .i64 s.a, .int .i64 s.b, .int .i64 s.m, .int .i64 s.wt, .int .i64 s.g, .int .i64 s.t], .slice A n c] W fun e w' => e = .returned (.tuple #[.int .i64 gr, .int .i64 ei]) ∧ Ext W w')
    (hre : ∀ W : World, Ext w W → Calls Tryz.prog 28 #[.agg #[.slice A0 n0 d0, .slice A1 n1 d1, .slice A2 n2 d2, .slice A3 n3 d3, .int .i64 r.h0, .int .i64 r.h1, .int .i64 r.h2, .int .i64 r.h3]] W fun e w' => e = .returned (.int .i64 c1) ∧ Ext W w')
    (hse : ∀ W : World, Calls Tryz.prog 19 #[.agg #[.int .i64 s.p, .int .i64 s.a, .int .i64 s.b, .int .i64 s.m, .int .i64 s.wt, .int .i64 s.g, .int .i64 s.t]] W fun e w' => e = .returned (.int .i64 c2) ∧ Ext W w')
    (hc0 : c0 = if c1 = 0 then c2 else c1)
    (hbad : ¬ c0 = 0 → e1 = c0 ∧ ef = c0 ∧ eg = c0 ∧ ei = c0 ∧ ya = (⟨0, 0, 0, 0, 0, 0, 0⟩ : St) ∧ yb = (⟨0, 0, 0, 0, 0, 0, 0⟩ : St) ∧ hv = 0 ∧ gr = 0)
    (hg0 : c0 = 0 → eg = 0)
    (hrh : c0 = 0 → ∀ W : World, Ext w W → Calls Tryz.prog 29 #[.agg #[.slice A0 n0 d0, .slice A1 n1 d1, .slice A2 n2 d2, .slice A3 n3 d3, .int .i64 r.h0, .int .i64 r.h1, .int .i64 r.h2, .int .i64 r.h3], .agg #[.int .i64 s.p, .int .i64 s.a, .int .i64 s.b, .int .i64 s.m, .int .i64 s.wt, .int .i64 s.g, .int .i64 s.t]] W fun e w' => e = .returned (.int .i64 hv) ∧ Ext W w')
    (hke : ∀ W : World, Calls Tryz.prog 30 #[.int .i64 kv] W fun e w' => e = .returned (.int .i64 ck) ∧ Ext W w')
    (hpe : ∀ W : World, Calls Tryz.prog 21 #[.agg #[.int .i64 k.h, .int .i64 k.c, .int .i64 k.d]] W fun e w' => e = .returned (.int .i64 cp) ∧ Ext W w')
    (hce : ∀ W : World, Ext w W → Calls Tryz.prog 32 #[.slice B n cb] W fun e w' => e = .returned (.int .i64 cc) ∧ Ext W w')
    (he1 : c0 = 0 → e1 = if ck = 0 then cp else ck)
    (hy1 : c0 = 0 → ¬ e1 = 0 → ya = (⟨0, 0, 0, 0, 0, 0, 0⟩ : St))
    (hrs : c0 = 0 → e1 = 0 → ∀ W : World, Ext w W → Calls Tryz.prog 31 #[.agg #[.slice A0 n0 d0, .slice A1 n1 d1, .slice A2 n2 d2, .slice A3 n3 d3, .int .i64 r.h0, .int .i64 r.h1, .int .i64 r.h2, .int .i64 r.h3], .agg #[.int .i64 s.p, .int .i64 s.a, .int .i64 s.b, .int .i64 s.m, .int .i64 s.wt, .int .i64 s.g, .int .i64 s.t], .int .i64 kv, .agg #[.int .i64 k.h, .int .i64 k.c, .int .i64 k.d]] W fun e w' => e = .returned (.agg #[.int .i64 ya.p, .int .i64 ya.a, .int .i64 ya.b, .int .i64 ya.m, .int .i64 ya.wt, .int .i64 ya.g, .int .i64 ya.t]) ∧ Ext W w')
    (hei : c0 = 0 → ei = cc)
    (hgr0 : c0 = 0 → ¬ cc = 0 → gr = 0)
    (hrg : c0 = 0 → cc = 0 → ∃ yg : St, yg.g = gr ∧ ∀ W : World, Ext w W → Calls Tryz.prog 33 #[.agg #[.slice A0 n0 d0, .slice A1 n1 d1, .slice A2 n2 d2, .slice A3 n3 d3, .int .i64 r.h0, .int .i64 r.h1, .int .i64 r.h2, .int .i64 r.h3], .agg #[.int .i64 s.p, .int .i64 s.a, .int .i64 s.b, .int .i64 s.m, .int .i64 s.wt, .int .i64 s.g, .int .i64 s.t], .slice B n cb, .agg #[.int .i64 1000, .int .i64 1000, .int .i64 1000]] W fun e w' => e = .returned (.agg #[.int .i64 yg.p, .int .i64 yg.a, .int .i64 yg.b, .int .i64 yg.m, .int .i64 yg.wt, .int .i64 yg.g, .int .i64 yg.t]) ∧ Ext W w')
    (hef : c0 = 0 → ef = if cc = 0 then cp else cc)
    (hy2 : c0 = 0 → ¬ ef = 0 → yb = (⟨0, 0, 0, 0, 0, 0, 0⟩ : St))
    (hrr : c0 = 0 → ef = 0 → ∀ W : World, Ext w W → Calls Tryz.prog 33 #[.agg #[.slice A0 n0 d0, .slice A1 n1 d1, .slice A2 n2 d2, .slice A3 n3 d3, .int .i64 r.h0, .int .i64 r.h1, .int .i64 r.h2, .int .i64 r.h3], .agg #[.int .i64 s.p, .int .i64 s.a, .int .i64 s.b, .int .i64 s.m, .int .i64 s.wt, .int .i64 s.g, .int .i64 s.t], .slice B n cb, .agg #[.int .i64 k.h, .int .i64 k.c, .int .i64 k.d]] W fun e w' => e = .returned (.agg #[.int .i64 yb.p, .int .i64 yb.a, .int .i64 yb.b, .int .i64 yb.m, .int .i64 yb.wt, .int .i64 yb.g, .int .i64 yb.t]) ∧ Ext W w') :
    Calls Tryz.prog 4 #[.agg #[.slice A0 n0 d0, .slice A1 n1 d1, .slice A2 n2 d2, .slice A3 n3 d3, .int .i64 r.h0, .int .i64 r.h1, .int .i64 r.h2, .int .i64 r.h3], .agg #[.int .i64 s.p, .int .i64 s.a, .int .i64 s.b, .int .i64 s.m, .int .i64 s.wt, .int .i64 s.g, .int .i64 s.t], .agg #[.slice B n cb, .int .i64 k.h, .int .i64 k.c, .int .i64 k.d]] w fun e w' => e = .returned (.bool true) ∧ Ext w w' := by
  have HST := Lib.hid hst
  have HRUN := Lib.hid hrun
  have HHD := Lib.hid hhd
  have HGR := Lib.hid hgr
  have HRE := Lib.hid hre
  have HSE := Lib.hid hse
  have HC0 := Lib.hid hc0
  have HBAD := Lib.hid hbad
  have HG0 := Lib.hid hg0
  have HRH := Lib.hid hrh
  have HKE := Lib.hid hke
  have HPE := Lib.hid hpe
  have HCE := Lib.hid hce
  have HE1 := Lib.hid he1
  have HY1 := Lib.hid hy1
  have HRS := Lib.hid hrs
  have HEI := Lib.hid hei
  have HGR0 := Lib.hid hgr0
  have HRG := Lib.hid hrg
  have HEF := Lib.hid hef
  have HY2 := Lib.hid hy2
  have HRR := Lib.hid hrr
  have HIN := Lib.hid hR
  have HX := Lib.hid hB
  have HN := Lib.hid hn
  have HNIL := Lib.hid hnil
  have HKV := Lib.hid hkv
  have HFEW := Lib.hid (fun W => show Calls Tryz.prog 14 #[.agg #[.slice A0 n0 d0, .slice A1 n1 d1, .slice A2 n2 d2, .slice A3 n3 d3, .int .i64 r.h0, .int .i64 r.h1, .int .i64 r.h2, .int .i64 r.h3]] W fun e w' => e = .returned (.bool true) ∧ Ext W w' by
    have := few_any A0 A1 A2 A3 n0 n1 n2 n3 d0 d1 d2 d3 r.h0 r.h1 r.h2 r.h3 W
    rw [decide_eq_true h10] at this
    exact this)
  have HSH := Lib.hid (fun W => show Calls Tryz.prog 22 #[.int .i64 (n : Int)] W fun e w' => e = .returned (.bool true) ∧ Ext W w' by
    have := short_any n W (by omega)
    rw [hsh] at this
    exact this)
  clear hR h10 hn hB hnil hsh hkv hst hrun hhd hgr hre hse hc0 hbad hg0 hrh hke hpe hce he1 hy1 hrs hei hgr0 hrg hef hy2 hrr
  obtain ⟨W0, hW0⟩ : ∃ W0, W0 = ((w.alloc (.cells #[.slice A0 n0 d0, .slice A1 n1 d1, .slice A2 n2 d2, .slice A3 n3 d3, .int .i64 r.h0, .int .i64 r.h1, .int .i64 r.h2, .int .i64 r.h3] 28)).alloc (.cells #[.int .i64 s.p, .int .i64 s.a, .int .i64 s.b, .int .i64 s.m, .int .i64 s.wt, .int .i64 s.g, .int .i64 s.t] 30)).alloc (.cells #[.slice B n cb, .int .i64 k.h, .int .i64 k.c, .int .i64 k.d] 48) := ⟨_, rfl⟩
  have HI := Lib.hid (show BoxI w W0 48 #[.slice A0 n0 d0, .slice A1 n1 d1, .slice A2 n2 d2, .slice A3 n3 d3, .int .i64 r.h0, .int .i64 r.h1, .int .i64 r.h2, .int .i64 r.h3] s #[.slice B n cb, .int .i64 k.h, .int .i64 k.c, .int .i64 k.d] by rw [hW0]; exact BoxI.new _ _ _ _ _)
  go_enter Tryz.func4, Tryz.ntmps4
  go_wp2_with (go_at_call 13; rw [← hW0]; refine (awake_any _).mono ?_; rintro e W1 ⟨rfl, hx⟩; have XT := Lib.hid hx; clear hx hW0; refine Hid.out ?_)
  refine Lib.hid ?_
  replace HI := Lib.hid (HI.out.ext XT.out)
  clear XT
  obtain ⟨y0, y1, y2, y3, y4, y5, y6, y7, x0, x1, x2, x3, x4, x5, x6, v0, v1, v2, v3⟩ := HI.out.lay
  go_wp2_with (go_at_call 14; refine (HFEW.out _).mono ?_; rintro e W2 ⟨rfl, hx⟩; have XT := Lib.hid hx; clear hx; refine Hid.out ?_)
  refine Lib.hid ?_
  replace HI := Lib.hid (HI.out.ext XT.out)
  clear XT HFEW
  clear y0 y1 y2 y3 y4 y5 y6 y7 x0 x1 x2 x3 x4 x5 x6 v0 v1 v2 v3
  obtain ⟨y0, y1, y2, y3, y4, y5, y6, y7, x0, x1, x2, x3, x4, x5, x6, v0, v1, v2, v3⟩ := HI.out.lay
  go_wp2_with (go_at_call 22; refine (HSH.out _).mono ?_; rintro e W3 ⟨rfl, hx⟩; have XT := Lib.hid hx; clear hx; refine Hid.out ?_)
  refine Lib.hid ?_
  replace HI := Lib.hid (HI.out.ext XT.out)
  clear XT HSH
  clear y0 y1 y2 y3 y4 y5 y6 y7 x0 x1 x2 x3 x4 x5 x6 v0 v1 v2 v3
  obtain ⟨y0, y1, y2, y3, y4, y5, y6, y7, x0, x1, x2, x3, x4, x5, x6, v0, v1, v2, v3⟩ := HI.out.lay
  go_upto_if 33 with (fail)
  go_cut [7] from 33 to 37 (fun s7 wx => s7 = .int .i64 kv ∧ BoxI w wx 48 #[.slice A0 n0 d0, .slice A1 n1 d1, .slice A2 n2 d2, .slice A3 n3 d3, .int .i64 r.h0, .int .i64 r.h1, .int .i64 r.h2, .int .i64 r.h3] s #[.slice B n cb, .int .i64 k.h, .int .i64 k.c, .int .i64 k.d])
  case first =>
    rcases HKV.out with ⟨hn0, hk0⟩ | ⟨hn0, b, o, hBb, hcb⟩
    · subst hn0 hk0
      clear HKV
      go_wp2
      go_meet
      exact ⟨rfl, HI.out⟩
    · subst hBb
      have n1d : decide ((0 : Int) < (n : Int)) = true := decide_eq_true (by omega)
      have n1f : (0 : Int) < (n : Int) := by omega
      have cj : W3.cell? ⟨b, o, none⟩ = some (.int .i64 kv) := HI.out.e.cell hcb
      clear HKV hcb
      go_wp2
      go_meet
      exact ⟨rfl, HI.out⟩
  case rest =>
    obtain ⟨rfl, hI9⟩ := hcut
    have HI := Lib.hid hI9
    clear hI9 HKV
    clear y0 y1 y2 y3 y4 y5 y6 y7 x0 x1 x2 x3 x4 x5 x6 v0 v1 v2 v3
    generalize wc = W3 at HI ⊢
    obtain ⟨y0, y1, y2, y3, y4, y5, y6, y7, x0, x1, x2, x3, x4, x5, x6, v0, v1, v2, v3⟩ := HI.out.lay
    go_wp2
    refine wp_region_late 12 10 _ _ _ 48 [8, 47] [some 39, some 40, some 41, some 42, some 43, some 44, some 45, some 46, some 38, some 47, some 48, some 8] [[3], [39], [4], [7], [5], [43], [42, 44], [40, 41, 45], [46], [38], [38], []]
      [Is (.agg #[.slice A0 n0 d0, .slice A1 n1 d1, .slice A2 n2 d2, .slice A3 n3 d3, .int .i64 (r.h0), .int .i64 (r.h1), .int .i64 (r.h2), .int .i64 (r.h3)]), RuV r, Is (.agg #[.int .i64 (s.p), .int .i64 (s.a), .int .i64 (s.b), .int .i64 (s.m), .int .i64 (s.wt), .int .i64 (s.g), .int .i64 (s.t)]), Is (.int .i64 (kv)), Is (.pointer (some ⟨w.heap.size + 1 + 1, 1, none⟩)), Is (.agg #[.int .i64 (k.h), .int .i64 (k.c), .int .i64 (k.d)]), Is (.agg #[.int .i64 kv, .int .i64 k.h, .int .i64 k.c, .int .i64 k.d]), Is (.tuple #[.agg #[.int .i64 ya.p, .int .i64 ya.a, .int .i64 ya.b, .int .i64 ya.m, .int .i64 ya.wt, .int .i64 ya.g, .int .i64 ya.t], .int .i64 e1]), Is (.tuple #[.agg #[.int .i64 ya.p, .int .i64 ya.a, .int .i64 ya.b, .int .i64 ya.m, .int .i64 ya.wt, .int .i64 ya.g, .int .i64 ya.t], .int .i64 e1]), Is (.agg #[.int .i64 ya.p, .int .i64 ya.a, .int .i64 ya.b, .int .i64 ya.m, .int .i64 ya.wt, .int .i64 ya.g, .int .i64 ya.t]), Is (.int .i64 (e1)), Fresh30 W3.heap.size]
      (by kernel_rfl) (by kernel_rfl) (by kernel_rfl) (by kernel_rfl) (by kernel_rfl) (by kernel_rfl) rfl rfl rfl rfl rfl (by kernel_rfl) (by kernel_rfl) (by kernel_rfl) (by kernel_rfl) Ext (fun W => Ext W3 W)
      (fun W _ => Ext.refl W) (fun W W' h k => h.trans k) ?_ (Ext.drew _) ?_ ?_ ?_ ?_ ?_
    · repeat (refine ⟨fun _ _ _ _ k h => (by first | exact h | exact (by first | exact RuV.ext h k | exact Fresh30.ext h k | exact IntsSl.ext h k | exact RunP.ext h k)), ?_⟩)
      exact trivial
    · refine ⟨?_, ?_, ?_, ?_, ?_, ?_, ?_, ?_, ?_, ?_, ?_, ?_, trivial⟩
      all_goals intro ρ W ⟨kc, kg, kf⟩ hF hs
      · obtain ⟨h0, -⟩ := hs
        replace h0 : ρ (.tmp 3) = .pointer (some ⟨w.heap.size, 0, none⟩) := h0
        have hc0 : W.cell? ⟨w.heap.size, 0, none⟩ = some (.slice A0 n0 d0) := hF.cell (by assumption)
        have hc1 : W.cell? ⟨w.heap.size, 1, none⟩ = some (.slice A1 n1 d1) := hF.cell (by assumption)
        have hc2 : W.cell? ⟨w.heap.size, 2, none⟩ = some (.slice A2 n2 d2) := hF.cell (by assumption)
        have hc3 : W.cell? ⟨w.heap.size, 3, none⟩ = some (.slice A3 n3 d3) := hF.cell (by assumption)
        have hc4 : W.cell? ⟨w.heap.size, 4, none⟩ = some (.int .i64 (r.h0)) := hF.cell (by assumption)
        have hc5 : W.cell? ⟨w.heap.size, 5, none⟩ = some (.int .i64 (r.h1)) := hF.cell (by assumption)
        have hc6 : W.cell? ⟨w.heap.size, 6, none⟩ = some (.int .i64 (r.h2)) := hF.cell (by assumption)
        have hc7 : W.cell? ⟨w.heap.size, 7, none⟩ = some (.int .i64 (r.h3)) := hF.cell (by assumption)
        go_simp
        exact ⟨Ext.refl _, rfl⟩
      · obtain ⟨h0, -⟩ := hs
        replace h0 : ρ (.tmp 39) = .agg #[.slice A0 n0 d0, .slice A1 n1 d1, .slice A2 n2 d2, .slice A3 n3 d3, .int .i64 (r.h0), .int .i64 (r.h1), .int .i64 (r.h2), .int .i64 (r.h3)] := h0
        go_simp
        refine (copyRules_any (HIN.out.ext (HI.out.e.trans hF))).mono ?_; rintro e w' ⟨v, rfl, hx, hv⟩; exact ⟨_, rfl, hx, hv⟩
      · obtain ⟨h0, -⟩ := hs
        replace h0 : ρ (.tmp 4) = .pointer (some ⟨w.heap.size + 1, 0, none⟩) := h0
        have hc0 : W.cell? ⟨w.heap.size + 1, 0, none⟩ = some (.int .i64 (s.p)) := hF.cell (by assumption)
        have hc1 : W.cell? ⟨w.heap.size + 1, 1, none⟩ = some (.int .i64 (s.a)) := hF.cell (by assumption)
        have hc2 : W.cell? ⟨w.heap.size + 1, 2, none⟩ = some (.int .i64 (s.b)) := hF.cell (by assumption)
        have hc3 : W.cell? ⟨w.heap.size + 1, 3, none⟩ = some (.int .i64 (s.m)) := hF.cell (by assumption)
        have hc4 : W.cell? ⟨w.heap.size + 1, 4, none⟩ = some (.int .i64 (s.wt)) := hF.cell (by assumption)
        have hc5 : W.cell? ⟨w.heap.size + 1, 5, none⟩ = some (.int .i64 (s.g)) := hF.cell (by assumption)
        have hc6 : W.cell? ⟨w.heap.size + 1, 6, none⟩ = some (.int .i64 (s.t)) := hF.cell (by assumption)
        go_simp
        exact ⟨Ext.refl _, rfl⟩
      · obtain ⟨h0, -⟩ := hs
        replace h0 : ρ (.tmp 7) = .int .i64 (kv) := h0
        go_simp
        exact ⟨Ext.refl _, rfl⟩
      · obtain ⟨h0, -⟩ := hs
        replace h0 : ρ (.tmp 5) = .pointer (some ⟨w.heap.size + 1 + 1, 0, none⟩) := h0
        go_simp
        exact ⟨Ext.refl _, rfl⟩
      · obtain ⟨h0, -⟩ := hs
        replace h0 : ρ (.tmp 43) = .pointer (some ⟨w.heap.size + 1 + 1, 1, none⟩) := h0
        have hc0 : W.cell? ⟨w.heap.size + 1 + 1, 1, none⟩ = some (.int .i64 (k.h)) := hF.cell (by assumption)
        have hc1 : W.cell? ⟨w.heap.size + 1 + 1, 2, none⟩ = some (.int .i64 (k.c)) := hF.cell (by assumption)
        have hc2 : W.cell? ⟨w.heap.size + 1 + 1, 3, none⟩ = some (.int .i64 (k.d)) := hF.cell (by assumption)
        go_simp
        exact ⟨Ext.refl _, rfl⟩
      · obtain ⟨h0, h1, -⟩ := hs
        replace h0 : ρ (.tmp 42) = .int .i64 (kv) := h0
        replace h1 : ρ (.tmp 44) = .agg #[.int .i64 (k.h), .int .i64 (k.c), .int .i64 (k.d)] := h1
        go_simp
        exact ⟨Ext.refl _, rfl⟩
      · obtain ⟨h0, h1, h2, -⟩ := hs
        replace h0 : (RuV r) (ρ (.tmp 40)) W := h0
        replace h1 : ρ (.tmp 41) = .agg #[.int .i64 (s.p), .int .i64 (s.a), .int .i64 (s.b), .int .i64 (s.m), .int .i64 (s.wt), .int .i64 (s.g), .int .i64 (s.t)] := h1
        replace h2 : ρ (.tmp 45) = .agg #[.int .i64 kv, .int .i64 k.h, .int .i64 k.c, .int .i64 k.d] := h2
        go_simp
        refine (HST.out _ _ h0).mono ?_; rintro e w' ⟨rfl, hx⟩; exact ⟨_, rfl, hx, rfl⟩
      · obtain ⟨h0, -⟩ := hs
        replace h0 : ρ (.tmp 46) = .tuple #[.agg #[.int .i64 ya.p, .int .i64 ya.a, .int .i64 ya.b, .int .i64 ya.m, .int .i64 ya.wt, .int .i64 ya.g, .int .i64 ya.t], .int .i64 e1] := h0
        go_simp
        exact ⟨Ext.refl _, rfl⟩
      · obtain ⟨h0, -⟩ := hs
        replace h0 : ρ (.tmp 38) = .tuple #[.agg #[.int .i64 ya.p, .int .i64 ya.a, .int .i64 ya.b, .int .i64 ya.m, .int .i64 ya.wt, .int .i64 ya.g, .int .i64 ya.t], .int .i64 e1] := h0
        go_simp
        exact ⟨Ext.refl _, rfl⟩
      · obtain ⟨h0, -⟩ := hs
        replace h0 : ρ (.tmp 38) = .tuple #[.agg #[.int .i64 ya.p, .int .i64 ya.a, .int .i64 ya.b, .int .i64 ya.m, .int .i64 ya.wt, .int .i64 ya.g, .int .i64 ya.t], .int .i64 e1] := h0
        go_simp
        exact ⟨Ext.refl _, rfl⟩
      · go_simp
        exact ⟨Ext.alloc _ _, W.heap.size, hF.size, rfl, Blk.new _ _ _⟩
    · intro ρ W ⟨kc, kg, kf⟩ hF hs
      obtain ⟨h0, -⟩ := hs
      replace h0 : ρ (.tmp 38) = .tuple #[.agg #[.int .i64 ya.p, .int .i64 ya.a, .int .i64 ya.b, .int .i64 ya.m, .int .i64 ya.wt, .int .i64 ya.g, .int .i64 ya.t], .int .i64 e1] := h0
      refine ⟨.int .i64 e1, fun W' => ?_⟩
      go_simp
    · intro ρ ρ' h
      simp only [execOp]
      rw [h (.tmp 8) (by simp), h (.tmp 47) (by simp)]
    · intro ρ W ⟨kc, kg, kf⟩ hF hs
      obtain ⟨h0, h1, -⟩ := hs
      replace h0 : (Fresh30 W3.heap.size) (ρ (.tmp 8)) W := h0
      replace h1 : ρ (.tmp 47) = .agg #[.int .i64 ya.p, .int .i64 ya.a, .int .i64 ya.b, .int .i64 ya.m, .int .i64 ya.wt, .int .i64 ya.g, .int .i64 ya.t] := h1
      obtain ⟨q0, _, hb, hk⟩ := h0
      have f0 := hk.free 0
      have f1 := hk.free 1
      have f2 := hk.free 2
      have f3 := hk.free 3
      have f4 := hk.free 4
      have f5 := hk.free 5
      have f6 := hk.free 6
      have g0 := hk.cell 0
      have g1 := hk.cell 1
      have g2 := hk.cell 2
      have g3 := hk.cell 3
      have g4 := hk.cell 4
      have g5 := hk.cell 5
      have g6 := hk.cell 6
      simp only [List.getElem?_toArray, List.getElem?_cons_zero, List.getElem?_cons_succ] at g0 g1 g2 g3 g4 g5 g6
      refine ⟨((((((W.setCell ⟨q0, 0, none⟩ (.int .i64 ya.p)).setCell ⟨q0, 1, none⟩ (.int .i64 ya.a)).setCell ⟨q0, 2, none⟩ (.int .i64 ya.b)).setCell ⟨q0, 3, none⟩ (.int .i64 ya.m)).setCell ⟨q0, 4, none⟩ (.int .i64 ya.wt)).setCell ⟨q0, 5, none⟩ (.int .i64 ya.g)).setCell ⟨q0, 6, none⟩ (.int .i64 ya.t), ?_⟩
      go_simp
    · intro fv W4 hF hs
      obtain ⟨-, -, -, -, -, -, -, -, -, h47, h48, h8, -⟩ := hs
      replace h47 : fv 47 = .agg #[.int .i64 ya.p, .int .i64 ya.a, .int .i64 ya.b, .int .i64 ya.m, .int .i64 ya.wt, .int .i64 ya.g, .int .i64 ya.t] := h47
      replace h48 : fv 48 = .int .i64 (e1) := h48
      replace h8 : (Fresh30 W3.heap.size) (fv 8) W4 := h8
      simp only [fin, List.filterMap]
      go_simp
      obtain ⟨q1, hq, hv8, hk8⟩ := h8
      rw [hv8]
      have hQ : w.heap.size + 1 + 1 < q1 := Nat.lt_of_lt_of_le HI.out.size hq
      have HB3 := Lib.hid ((HI.out.ext hF).store hQ ya)
      have K3 := Lib.hid (blk7 hk8 ya)
      have f0 := hk8.free 0
      have f1 := hk8.free 1
      have f2 := hk8.free 2
      have f3 := hk8.free 3
      have f4 := hk8.free 4
      have f5 := hk8.free 5
      have f6 := hk8.free 6
      have g0 := hk8.cell 0
      have g1 := hk8.cell 1
      have g2 := hk8.cell 2
      have g3 := hk8.cell 3
      have g4 := hk8.cell 4
      have g5 := hk8.cell 5
      have g6 := hk8.cell 6
      simp only [List.getElem?_toArray, List.getElem?_cons_zero, List.getElem?_cons_succ] at g0 g1 g2 g3 g4 g5 g6
      clear hF hv8 hk8 hq
      clear y0 y1 y2 y3 y4 y5 y6 y7 x0 x1 x2 x3 x4 x5 x6 v0 v1 v2 v3
      refine wpList_plain rfl (fun K hK => ?_)
      go_simp
      obtain ⟨W5, hW3⟩ : ∃ W3, W3 = ((((((W4.setCell ⟨q1, 0, none⟩ (.int .i64 ya.p)).setCell ⟨q1, 1, none⟩ (.int .i64 ya.a)).setCell ⟨q1, 2, none⟩ (.int .i64 ya.b)).setCell ⟨q1, 3, none⟩ (.int .i64 ya.m)).setCell ⟨q1, 4, none⟩ (.int .i64 ya.wt)).setCell ⟨q1, 5, none⟩ (.int .i64 ya.g)).setCell ⟨q1, 6, none⟩ (.int .i64 ya.t) := ⟨_, rfl⟩
      rw [← hW3] at HB3 K3 ⊢
      clear hW3 f0 g0 f1 g1 f2 g2 f3 g3 f4 g4 f5 g5 f6 g6
      refine hK _ _ ?_
      clear hK
      replace HI := HB3
      clear HB3
      have KA := K3
      clear K3
      obtain ⟨y0, y1, y2, y3, y4, y5, y6, y7, x0, x1, x2, x3, x4, x5, x6, v0, v1, v2, v3⟩ := HI.out.lay
      go_wp2
      clear h47 h48
      refine wp_region_late 14 12 _ _ _ 61 [10, 60] [some 50, some 51, some 52, some 53, some 54, some 55, some 56, some 57, some 58, some 59, some 49, some 60, some 61, some 10] [[3], [50], [4], [5], [53], [54], [5], [56], [55, 57], [51, 52, 58], [59], [49], [49], []]
        [Is (.agg #[.slice A0 n0 d0, .slice A1 n1 d1, .slice A2 n2 d2, .slice A3 n3 d3, .int .i64 (r.h0), .int .i64 (r.h1), .int .i64 (r.h2), .int .i64 (r.h3)]), RuV r, Is (.agg #[.int .i64 (s.p), .int .i64 (s.a), .int .i64 (s.b), .int .i64 (s.m), .int .i64 (s.wt), .int .i64 (s.g), .int .i64 (s.t)]), Is (.pointer (some ⟨w.heap.size + 1 + 1, 0, none⟩)), Is (.slice B n cb), IntsSl n xs, Is (.pointer (some ⟨w.heap.size + 1 + 1, 1, none⟩)), Is (.agg #[.int .i64 (k.h), .int .i64 (k.c), .int .i64 (k.d)]), RunP n xs k, Is (.tuple #[.agg #[.int .i64 yb.p, .int .i64 yb.a, .int .i64 yb.b, .int .i64 yb.m, .int .i64 yb.wt, .int .i64 yb.g, .int .i64 yb.t], .int .i64 ef]), Is (.tuple #[.agg #[.int .i64 yb.p, .int .i64 yb.a, .int .i64 yb.b, .int .i64 yb.m, .int .i64 yb.wt, .int .i64 yb.g, .int .i64 yb.t], .int .i64 ef]), Is (.agg #[.int .i64 yb.p, .int .i64 yb.a, .int .i64 yb.b, .int .i64 yb.m, .int .i64 yb.wt, .int .i64 yb.g, .int .i64 yb.t]), Is (.int .i64 (ef)), Fresh30 W5.heap.size]
        (by kernel_rfl) (by kernel_rfl) (by kernel_rfl) (by kernel_rfl) (by kernel_rfl) (by kernel_rfl) rfl rfl rfl rfl rfl (by kernel_rfl) (by kernel_rfl) (by kernel_rfl) (by kernel_rfl) Ext (fun W => Ext W5 W)
        (fun W _ => Ext.refl W) (fun W W' h k => h.trans k) ?_ (Ext.drew _) ?_ ?_ ?_ ?_ ?_
      · repeat (refine ⟨fun _ _ _ _ k h => (by first | exact h | exact (by first | exact RuV.ext h k | exact Fresh30.ext h k | exact IntsSl.ext h k | exact RunP.ext h k)), ?_⟩)
        exact trivial
      · refine ⟨?_, ?_, ?_, ?_, ?_, ?_, ?_, ?_, ?_, ?_, ?_, ?_, ?_, ?_, trivial⟩
        all_goals intro ρ W ⟨kc, kg, kf⟩ hF hs
        · obtain ⟨h0, -⟩ := hs
          replace h0 : ρ (.tmp 3) = .pointer (some ⟨w.heap.size, 0, none⟩) := h0
          have hc0 : W.cell? ⟨w.heap.size, 0, none⟩ = some (.slice A0 n0 d0) := hF.cell (by assumption)
          have hc1 : W.cell? ⟨w.heap.size, 1, none⟩ = some (.slice A1 n1 d1) := hF.cell (by assumption)
          have hc2 : W.cell? ⟨w.heap.size, 2, none⟩ = some (.slice A2 n2 d2) := hF.cell (by assumption)
          have hc3 : W.cell? ⟨w.heap.size, 3, none⟩ = some (.slice A3 n3 d3) := hF.cell (by assumption)
          have hc4 : W.cell? ⟨w.heap.size, 4, none⟩ = some (.int .i64 (r.h0)) := hF.cell (by assumption)
          have hc5 : W.cell? ⟨w.heap.size, 5, none⟩ = some (.int .i64 (r.h1)) := hF.cell (by assumption)
          have hc6 : W.cell? ⟨w.heap.size, 6, none⟩ = some (.int .i64 (r.h2)) := hF.cell (by assumption)
          have hc7 : W.cell? ⟨w.heap.size, 7, none⟩ = some (.int .i64 (r.h3)) := hF.cell (by assumption)
          go_simp
          exact ⟨Ext.refl _, rfl⟩
        · obtain ⟨h0, -⟩ := hs
          replace h0 : ρ (.tmp 50) = .agg #[.slice A0 n0 d0, .slice A1 n1 d1, .slice A2 n2 d2, .slice A3 n3 d3, .int .i64 (r.h0), .int .i64 (r.h1), .int .i64 (r.h2), .int .i64 (r.h3)] := h0
          go_simp
          refine (copyRules_any (HIN.out.ext (HI.out.e.trans hF))).mono ?_; rintro e w' ⟨v, rfl, hx, hv⟩; exact ⟨_, rfl, hx, hv⟩
        · obtain ⟨h0, -⟩ := hs
          replace h0 : ρ (.tmp 4) = .pointer (some ⟨w.heap.size + 1, 0, none⟩) := h0
          have hc0 : W.cell? ⟨w.heap.size + 1, 0, none⟩ = some (.int .i64 (s.p)) := hF.cell (by assumption)
          have hc1 : W.cell? ⟨w.heap.size + 1, 1, none⟩ = some (.int .i64 (s.a)) := hF.cell (by assumption)
          have hc2 : W.cell? ⟨w.heap.size + 1, 2, none⟩ = some (.int .i64 (s.b)) := hF.cell (by assumption)
          have hc3 : W.cell? ⟨w.heap.size + 1, 3, none⟩ = some (.int .i64 (s.m)) := hF.cell (by assumption)
          have hc4 : W.cell? ⟨w.heap.size + 1, 4, none⟩ = some (.int .i64 (s.wt)) := hF.cell (by assumption)
          have hc5 : W.cell? ⟨w.heap.size + 1, 5, none⟩ = some (.int .i64 (s.g)) := hF.cell (by assumption)
          have hc6 : W.cell? ⟨w.heap.size + 1, 6, none⟩ = some (.int .i64 (s.t)) := hF.cell (by assumption)
          go_simp
          exact ⟨Ext.refl _, rfl⟩
        · obtain ⟨h0, -⟩ := hs
          replace h0 : ρ (.tmp 5) = .pointer (some ⟨w.heap.size + 1 + 1, 0, none⟩) := h0
          go_simp
          exact ⟨Ext.refl _, rfl⟩
        · obtain ⟨h0, -⟩ := hs
          replace h0 : ρ (.tmp 53) = .pointer (some ⟨w.heap.size + 1 + 1, 0, none⟩) := h0
          have hc0 : W.cell? ⟨w.heap.size + 1 + 1, 0, none⟩ = some (.slice B n cb) := hF.cell (by assumption)
          go_simp
          exact ⟨Ext.refl _, rfl⟩
        · obtain ⟨h0, -⟩ := hs
          replace h0 : ρ (.tmp 54) = .slice B n cb := h0
          go_simp
          refine (copyInts_any HN.out (HX.out.ext (HI.out.e.trans hF)) (by omega) HNIL.out).mono ?_; rintro e w' ⟨A1, c1, rfl, hi, hx⟩; exact ⟨_, rfl, hx, _, _, rfl, hi⟩
        · obtain ⟨h0, -⟩ := hs
          replace h0 : ρ (.tmp 5) = .pointer (some ⟨w.heap.size + 1 + 1, 0, none⟩) := h0
          go_simp
          exact ⟨Ext.refl _, rfl⟩
        · obtain ⟨h0, -⟩ := hs
          replace h0 : ρ (.tmp 56) = .pointer (some ⟨w.heap.size + 1 + 1, 1, none⟩) := h0
          have hc0 : W.cell? ⟨w.heap.size + 1 + 1, 1, none⟩ = some (.int .i64 (k.h)) := hF.cell (by assumption)
          have hc1 : W.cell? ⟨w.heap.size + 1 + 1, 2, none⟩ = some (.int .i64 (k.c)) := hF.cell (by assumption)
          have hc2 : W.cell? ⟨w.heap.size + 1 + 1, 3, none⟩ = some (.int .i64 (k.d)) := hF.cell (by assumption)
          go_simp
          exact ⟨Ext.refl _, rfl⟩
        · obtain ⟨h0, h1, -⟩ := hs
          replace h0 : (IntsSl n xs) (ρ (.tmp 55)) W := h0
          replace h1 : ρ (.tmp 57) = .agg #[.int .i64 (k.h), .int .i64 (k.c), .int .i64 (k.d)] := h1
          obtain ⟨A1, c1, hA1, hI1⟩ := h0
          replace h0 : ρ (.tmp 55) = .slice A1 n c1 := hA1
          go_simp
          exact ⟨Ext.refl _, A1, c1, rfl, hI1⟩
        · obtain ⟨h0, h1, h2, -⟩ := hs
          replace h0 : (RuV r) (ρ (.tmp 51)) W := h0
          replace h1 : ρ (.tmp 52) = .agg #[.int .i64 (s.p), .int .i64 (s.a), .int .i64 (s.b), .int .i64 (s.m), .int .i64 (s.wt), .int .i64 (s.g), .int .i64 (s.t)] := h1
          replace h2 : (RunP n xs k) (ρ (.tmp 58)) W := h2
          obtain ⟨A1, c1, hA1, hI1⟩ := h2
          replace h2 : ρ (.tmp 58) = .agg #[.slice A1 n c1, .int .i64 k.h, .int .i64 k.c, .int .i64 k.d] := hA1
          go_simp
          refine (HRUN.out _ _ _ _ h0 hI1).mono ?_; rintro e w' ⟨rfl, hx⟩; exact ⟨_, rfl, hx, rfl⟩
        · obtain ⟨h0, -⟩ := hs
          replace h0 : ρ (.tmp 59) = .tuple #[.agg #[.int .i64 yb.p, .int .i64 yb.a, .int .i64 yb.b, .int .i64 yb.m, .int .i64 yb.wt, .int .i64 yb.g, .int .i64 yb.t], .int .i64 ef] := h0
          go_simp
          exact ⟨Ext.refl _, rfl⟩
        · obtain ⟨h0, -⟩ := hs
          replace h0 : ρ (.tmp 49) = .tuple #[.agg #[.int .i64 yb.p, .int .i64 yb.a, .int .i64 yb.b, .int .i64 yb.m, .int .i64 yb.wt, .int .i64 yb.g, .int .i64 yb.t], .int .i64 ef] := h0
          go_simp
          exact ⟨Ext.refl _, rfl⟩
        · obtain ⟨h0, -⟩ := hs
          replace h0 : ρ (.tmp 49) = .tuple #[.agg #[.int .i64 yb.p, .int .i64 yb.a, .int .i64 yb.b, .int .i64 yb.m, .int .i64 yb.wt, .int .i64 yb.g, .int .i64 yb.t], .int .i64 ef] := h0
          go_simp
          exact ⟨Ext.refl _, rfl⟩
        · go_simp
          exact ⟨Ext.alloc _ _, W.heap.size, hF.size, rfl, Blk.new _ _ _⟩
      · intro ρ W ⟨kc, kg, kf⟩ hF hs
        obtain ⟨h0, -⟩ := hs
        replace h0 : ρ (.tmp 49) = .tuple #[.agg #[.int .i64 yb.p, .int .i64 yb.a, .int .i64 yb.b, .int .i64 yb.m, .int .i64 yb.wt, .int .i64 yb.g, .int .i64 yb.t], .int .i64 ef] := h0
        refine ⟨.int .i64 ef, fun W' => ?_⟩
        go_simp
      · intro ρ ρ' h
        simp only [execOp]
        rw [h (.tmp 10) (by simp), h (.tmp 60) (by simp)]
      · intro ρ W ⟨kc, kg, kf⟩ hF hs
        obtain ⟨h0, h1, -⟩ := hs
        replace h0 : (Fresh30 W5.heap.size) (ρ (.tmp 10)) W := h0
        replace h1 : ρ (.tmp 60) = .agg #[.int .i64 yb.p, .int .i64 yb.a, .int .i64 yb.b, .int .i64 yb.m, .int .i64 yb.wt, .int .i64 yb.g, .int .i64 yb.t] := h1
        obtain ⟨q0, _, hb, hk⟩ := h0
        have f0 := hk.free 0
        have f1 := hk.free 1
        have f2 := hk.free 2
        have f3 := hk.free 3
        have f4 := hk.free 4
        have f5 := hk.free 5
        have f6 := hk.free 6
        have g0 := hk.cell 0
        have g1 := hk.cell 1
        have g2 := hk.cell 2
        have g3 := hk.cell 3
        have g4 := hk.cell 4
        have g5 := hk.cell 5
        have g6 := hk.cell 6
        simp only [List.getElem?_toArray, List.getElem?_cons_zero, List.getElem?_cons_succ] at g0 g1 g2 g3 g4 g5 g6
        refine ⟨((((((W.setCell ⟨q0, 0, none⟩ (.int .i64 yb.p)).setCell ⟨q0, 1, none⟩ (.int .i64 yb.a)).setCell ⟨q0, 2, none⟩ (.int .i64 yb.b)).setCell ⟨q0, 3, none⟩ (.int .i64 yb.m)).setCell ⟨q0, 4, none⟩ (.int .i64 yb.wt)).setCell ⟨q0, 5, none⟩ (.int .i64 yb.g)).setCell ⟨q0, 6, none⟩ (.int .i64 yb.t), ?_⟩
        go_simp
      · intro fv W6 hF hs
        obtain ⟨-, -, -, -, -, -, -, -, -, -, -, h60, h61, h10, -⟩ := hs
        replace h60 : fv 60 = .agg #[.int .i64 yb.p, .int .i64 yb.a, .int .i64 yb.b, .int .i64 yb.m, .int .i64 yb.wt, .int .i64 yb.g, .int .i64 yb.t] := h60
        replace h61 : fv 61 = .int .i64 (ef) := h61
        replace h10 : (Fresh30 W5.heap.size) (fv 10) W6 := h10
        simp only [fin, List.filterMap]
        go_simp
        obtain ⟨q2, hq, hv8, hk8⟩ := h10
        rw [hv8]
        have hQ : w.heap.size + 1 + 1 < q2 := Nat.lt_of_lt_of_le HI.out.size hq
        replace KA := Lib.hid (blk_other7 (KA.out.ext hF) (Nat.lt_of_lt_of_le KA.out.lt hq) yb)
        have HB3 := Lib.hid ((HI.out.ext hF).store hQ yb)
        have K3 := Lib.hid (blk7 hk8 yb)
        have f0 := hk8.free 0
        have f1 := hk8.free 1
        have f2 := hk8.free 2
        have f3 := hk8.free 3
        have f4 := hk8.free 4
        have f5 := hk8.free 5
        have f6 := hk8.free 6
        have g0 := hk8.cell 0
        have g1 := hk8.cell 1
        have g2 := hk8.cell 2
        have g3 := hk8.cell 3
        have g4 := hk8.cell 4
        have g5 := hk8.cell 5
        have g6 := hk8.cell 6
        simp only [List.getElem?_toArray, List.getElem?_cons_zero, List.getElem?_cons_succ] at g0 g1 g2 g3 g4 g5 g6
        clear hF hv8 hk8 hq
        clear y0 y1 y2 y3 y4 y5 y6 y7 x0 x1 x2 x3 x4 x5 x6 v0 v1 v2 v3
        refine wpList_plain rfl (fun K hK => ?_)
        go_simp
        obtain ⟨W7, hW3⟩ : ∃ W3, W3 = ((((((W6.setCell ⟨q2, 0, none⟩ (.int .i64 yb.p)).setCell ⟨q2, 1, none⟩ (.int .i64 yb.a)).setCell ⟨q2, 2, none⟩ (.int .i64 yb.b)).setCell ⟨q2, 3, none⟩ (.int .i64 yb.m)).setCell ⟨q2, 4, none⟩ (.int .i64 yb.wt)).setCell ⟨q2, 5, none⟩ (.int .i64 yb.g)).setCell ⟨q2, 6, none⟩ (.int .i64 yb.t) := ⟨_, rfl⟩
        rw [← hW3] at HB3 K3 KA ⊢
        clear hW3 f0 g0 f1 g1 f2 g2 f3 g3 f4 g4 f5 g5 f6 g6
        refine hK _ _ ?_
        clear hK
        replace HI := HB3
        clear HB3
        have KB := K3
        clear K3
        obtain ⟨y0, y1, y2, y3, y4, y5, y6, y7, x0, x1, x2, x3, x4, x5, x6, v0, v1, v2, v3⟩ := HI.out.lay
        go_wp2
        clear h60 h61
        refine wp_region_each [some 63, some 64, some 65, some 66, some 62, some 67, some 68, some 12, some 13] [[3], [63], [4], [64, 65], [66], [62], [62], [67], [68]]
          [Is (.agg #[.slice A0 n0 d0, .slice A1 n1 d1, .slice A2 n2 d2, .slice A3 n3 d3, .int .i64 (r.h0), .int .i64 (r.h1), .int .i64 (r.h2), .int .i64 (r.h3)]), RuV r, Is (.agg #[.int .i64 (s.p), .int .i64 (s.a), .int .i64 (s.b), .int .i64 (s.m), .int .i64 (s.wt), .int .i64 (s.g), .int .i64 (s.t)]), Is (.tuple #[.int .i64 hv, .int .i64 eg]), Is (.tuple #[.int .i64 hv, .int .i64 eg]), Is (.int .i64 (hv)), Is (.int .i64 (eg)), Is (.int .i64 (hv)), Is (.int .i64 (eg))]
          (by kernel_rfl) (by kernel_rfl) (by kernel_rfl) (by kernel_rfl) (by kernel_rfl) Ext (fun W => Ext W7 W)
          (fun W _ => Ext.refl W) (fun W W' h k => h.trans k) ?_ (Ext.drew _) ?_ ?_
        · repeat (refine ⟨fun _ _ _ _ k h => (by first | exact h | exact (by first | exact RuV.ext h k | exact Fresh30.ext h k | exact IntsSl.ext h k | exact RunP.ext h k)), ?_⟩)
          exact trivial
        · refine ⟨?_, ?_, ?_, ?_, ?_, ?_, ?_, ?_, ?_, trivial⟩
          all_goals intro ρ W ⟨kc, kg, kf⟩ hF hs
          · obtain ⟨h0, -⟩ := hs
            replace h0 : ρ (.tmp 3) = .pointer (some ⟨w.heap.size, 0, none⟩) := h0
            have hc0 : W.cell? ⟨w.heap.size, 0, none⟩ = some (.slice A0 n0 d0) := hF.cell (by assumption)
            have hc1 : W.cell? ⟨w.heap.size, 1, none⟩ = some (.slice A1 n1 d1) := hF.cell (by assumption)
            have hc2 : W.cell? ⟨w.heap.size, 2, none⟩ = some (.slice A2 n2 d2) := hF.cell (by assumption)
            have hc3 : W.cell? ⟨w.heap.size, 3, none⟩ = some (.slice A3 n3 d3) := hF.cell (by assumption)
            have hc4 : W.cell? ⟨w.heap.size, 4, none⟩ = some (.int .i64 (r.h0)) := hF.cell (by assumption)
            have hc5 : W.cell? ⟨w.heap.size, 5, none⟩ = some (.int .i64 (r.h1)) := hF.cell (by assumption)
            have hc6 : W.cell? ⟨w.heap.size, 6, none⟩ = some (.int .i64 (r.h2)) := hF.cell (by assumption)
            have hc7 : W.cell? ⟨w.heap.size, 7, none⟩ = some (.int .i64 (r.h3)) := hF.cell (by assumption)
            go_simp
            exact ⟨Ext.refl _, rfl⟩
          · obtain ⟨h0, -⟩ := hs
            replace h0 : ρ (.tmp 63) = .agg #[.slice A0 n0 d0, .slice A1 n1 d1, .slice A2 n2 d2, .slice A3 n3 d3, .int .i64 (r.h0), .int .i64 (r.h1), .int .i64 (r.h2), .int .i64 (r.h3)] := h0
            go_simp
            refine (copyRules_any (HIN.out.ext (HI.out.e.trans hF))).mono ?_; rintro e w' ⟨v, rfl, hx, hv⟩; exact ⟨_, rfl, hx, hv⟩
          · obtain ⟨h0, -⟩ := hs
            replace h0 : ρ (.tmp 4) = .pointer (some ⟨w.heap.size + 1, 0, none⟩) := h0
            have hc0 : W.cell? ⟨w.heap.size + 1, 0, none⟩ = some (.int .i64 (s.p)) := hF.cell (by assumption)
            have hc1 : W.cell? ⟨w.heap.size + 1, 1, none⟩ = some (.int .i64 (s.a)) := hF.cell (by assumption)
            have hc2 : W.cell? ⟨w.heap.size + 1, 2, none⟩ = some (.int .i64 (s.b)) := hF.cell (by assumption)
            have hc3 : W.cell? ⟨w.heap.size + 1, 3, none⟩ = some (.int .i64 (s.m)) := hF.cell (by assumption)
            have hc4 : W.cell? ⟨w.heap.size + 1, 4, none⟩ = some (.int .i64 (s.wt)) := hF.cell (by assumption)
            have hc5 : W.cell? ⟨w.heap.size + 1, 5, none⟩ = some (.int .i64 (s.g)) := hF.cell (by assumption)
            have hc6 : W.cell? ⟨w.heap.size + 1, 6, none⟩ = some (.int .i64 (s.t)) := hF.cell (by assumption)
            go_simp
            exact ⟨Ext.refl _, rfl⟩
          · obtain ⟨h0, h1, -⟩ := hs
            replace h0 : (RuV r) (ρ (.tmp 64)) W := h0
            replace h1 : ρ (.tmp 65) = .agg #[.int .i64 (s.p), .int .i64 (s.a), .int .i64 (s.b), .int .i64 (s.m), .int .i64 (s.wt), .int .i64 (s.g), .int .i64 (s.t)] := h1
            go_simp
            refine (HHD.out _ _ h0).mono ?_; rintro e w' ⟨rfl, hx⟩; exact ⟨_, rfl, hx, rfl⟩
          · obtain ⟨h0, -⟩ := hs
            replace h0 : ρ (.tmp 66) = .tuple #[.int .i64 hv, .int .i64 eg] := h0
            go_simp
            exact ⟨Ext.refl _, rfl⟩
          · obtain ⟨h0, -⟩ := hs
            replace h0 : ρ (.tmp 62) = .tuple #[.int .i64 hv, .int .i64 eg] := h0
            go_simp
            exact ⟨Ext.refl _, rfl⟩
          · obtain ⟨h0, -⟩ := hs
            replace h0 : ρ (.tmp 62) = .tuple #[.int .i64 hv, .int .i64 eg] := h0
            go_simp
            exact ⟨Ext.refl _, rfl⟩
          · obtain ⟨h0, -⟩ := hs
            replace h0 : ρ (.tmp 67) = .int .i64 (hv) := h0
            go_simp
            exact ⟨Ext.refl _, rfl⟩
          · obtain ⟨h0, -⟩ := hs
            replace h0 : ρ (.tmp 68) = .int .i64 (eg) := h0
            go_simp
            exact ⟨Ext.refl _, rfl⟩
        · intro fv W8 hF hs
          obtain ⟨-, -, -, -, -, -, -, h12, h13, -⟩ := hs
          replace h12 : fv 12 = .int .i64 (hv) := h12
          replace h13 : fv 13 = .int .i64 (eg) := h13
          simp only [fin, List.filterMap]
          go_simp
          replace HI := Lib.hid (HI.out.ext hF)
          replace KA := Lib.hid (KA.out.ext hF)
          replace KB := Lib.hid (KB.out.ext hF)
          clear hF
          clear y0 y1 y2 y3 y4 y5 y6 y7 x0 x1 x2 x3 x4 x5 x6 v0 v1 v2 v3
          obtain ⟨y0, y1, y2, y3, y4, y5, y6, y7, x0, x1, x2, x3, x4, x5, x6, v0, v1, v2, v3⟩ := HI.out.lay
          go_wp2
          clear h12 h13
          refine wp_region_each [some 70, some 71, some 72, some 73, some 74, some 75, some 76, some 69, some 77, some 78, some 14, some 15] [[3], [70], [4], [5], [73], [74], [71, 72, 75], [76], [69], [69], [77], [78]]
            [Is (.agg #[.slice A0 n0 d0, .slice A1 n1 d1, .slice A2 n2 d2, .slice A3 n3 d3, .int .i64 (r.h0), .int .i64 (r.h1), .int .i64 (r.h2), .int .i64 (r.h3)]), RuV r, Is (.agg #[.int .i64 (s.p), .int .i64 (s.a), .int .i64 (s.b), .int .i64 (s.m), .int .i64 (s.wt), .int .i64 (s.g), .int .i64 (s.t)]), Is (.pointer (some ⟨w.heap.size + 1 + 1, 0, none⟩)), Is (.slice B n cb), IntsSl n xs, Is (.tuple #[.int .i64 gr, .int .i64 ei]), Is (.tuple #[.int .i64 gr, .int .i64 ei]), Is (.int .i64 (gr)), Is (.int .i64 (ei)), Is (.int .i64 (gr)), Is (.int .i64 (ei))]
            (by kernel_rfl) (by kernel_rfl) (by kernel_rfl) (by kernel_rfl) (by kernel_rfl) Ext (fun W => Ext W8 W)
            (fun W _ => Ext.refl W) (fun W W' h k => h.trans k) ?_ (Ext.drew _) ?_ ?_
          · repeat (refine ⟨fun _ _ _ _ k h => (by first | exact h | exact (by first | exact RuV.ext h k | exact Fresh30.ext h k | exact IntsSl.ext h k | exact RunP.ext h k)), ?_⟩)
            exact trivial
          · refine ⟨?_, ?_, ?_, ?_, ?_, ?_, ?_, ?_, ?_, ?_, ?_, ?_, trivial⟩
            all_goals intro ρ W ⟨kc, kg, kf⟩ hF hs
            · obtain ⟨h0, -⟩ := hs
              replace h0 : ρ (.tmp 3) = .pointer (some ⟨w.heap.size, 0, none⟩) := h0
              have hc0 : W.cell? ⟨w.heap.size, 0, none⟩ = some (.slice A0 n0 d0) := hF.cell (by assumption)
              have hc1 : W.cell? ⟨w.heap.size, 1, none⟩ = some (.slice A1 n1 d1) := hF.cell (by assumption)
              have hc2 : W.cell? ⟨w.heap.size, 2, none⟩ = some (.slice A2 n2 d2) := hF.cell (by assumption)
              have hc3 : W.cell? ⟨w.heap.size, 3, none⟩ = some (.slice A3 n3 d3) := hF.cell (by assumption)
              have hc4 : W.cell? ⟨w.heap.size, 4, none⟩ = some (.int .i64 (r.h0)) := hF.cell (by assumption)
              have hc5 : W.cell? ⟨w.heap.size, 5, none⟩ = some (.int .i64 (r.h1)) := hF.cell (by assumption)
              have hc6 : W.cell? ⟨w.heap.size, 6, none⟩ = some (.int .i64 (r.h2)) := hF.cell (by assumption)
              have hc7 : W.cell? ⟨w.heap.size, 7, none⟩ = some (.int .i64 (r.h3)) := hF.cell (by assumption)
              go_simp
              exact ⟨Ext.refl _, rfl⟩
            · obtain ⟨h0, -⟩ := hs
              replace h0 : ρ (.tmp 70) = .agg #[.slice A0 n0 d0, .slice A1 n1 d1, .slice A2 n2 d2, .slice A3 n3 d3, .int .i64 (r.h0), .int .i64 (r.h1), .int .i64 (r.h2), .int .i64 (r.h3)] := h0
              go_simp
              refine (copyRules_any (HIN.out.ext (HI.out.e.trans hF))).mono ?_; rintro e w' ⟨v, rfl, hx, hv⟩; exact ⟨_, rfl, hx, hv⟩
            · obtain ⟨h0, -⟩ := hs
              replace h0 : ρ (.tmp 4) = .pointer (some ⟨w.heap.size + 1, 0, none⟩) := h0
              have hc0 : W.cell? ⟨w.heap.size + 1, 0, none⟩ = some (.int .i64 (s.p)) := hF.cell (by assumption)
              have hc1 : W.cell? ⟨w.heap.size + 1, 1, none⟩ = some (.int .i64 (s.a)) := hF.cell (by assumption)
              have hc2 : W.cell? ⟨w.heap.size + 1, 2, none⟩ = some (.int .i64 (s.b)) := hF.cell (by assumption)
              have hc3 : W.cell? ⟨w.heap.size + 1, 3, none⟩ = some (.int .i64 (s.m)) := hF.cell (by assumption)
              have hc4 : W.cell? ⟨w.heap.size + 1, 4, none⟩ = some (.int .i64 (s.wt)) := hF.cell (by assumption)
              have hc5 : W.cell? ⟨w.heap.size + 1, 5, none⟩ = some (.int .i64 (s.g)) := hF.cell (by assumption)
              have hc6 : W.cell? ⟨w.heap.size + 1, 6, none⟩ = some (.int .i64 (s.t)) := hF.cell (by assumption)
              go_simp
              exact ⟨Ext.refl _, rfl⟩
            · obtain ⟨h0, -⟩ := hs
              replace h0 : ρ (.tmp 5) = .pointer (some ⟨w.heap.size + 1 + 1, 0, none⟩) := h0
              go_simp
              exact ⟨Ext.refl _, rfl⟩
            · obtain ⟨h0, -⟩ := hs
              replace h0 : ρ (.tmp 73) = .pointer (some ⟨w.heap.size + 1 + 1, 0, none⟩) := h0
              have hc0 : W.cell? ⟨w.heap.size + 1 + 1, 0, none⟩ = some (.slice B n cb) := hF.cell (by assumption)
              go_simp
              exact ⟨Ext.refl _, rfl⟩
            · obtain ⟨h0, -⟩ := hs
              replace h0 : ρ (.tmp 74) = .slice B n cb := h0
              go_simp
              refine (copyInts_any HN.out (HX.out.ext (HI.out.e.trans hF)) (by omega) HNIL.out).mono ?_; rintro e w' ⟨A1, c1, rfl, hi, hx⟩; exact ⟨_, rfl, hx, _, _, rfl, hi⟩
            · obtain ⟨h0, h1, h2, -⟩ := hs
              replace h0 : (RuV r) (ρ (.tmp 71)) W := h0
              replace h1 : ρ (.tmp 72) = .agg #[.int .i64 (s.p), .int .i64 (s.a), .int .i64 (s.b), .int .i64 (s.m), .int .i64 (s.wt), .int .i64 (s.g), .int .i64 (s.t)] := h1
              replace h2 : (IntsSl n xs) (ρ (.tmp 75)) W := h2
              obtain ⟨A1, c1, hA1, hI1⟩ := h2
              replace h2 : ρ (.tmp 75) = .slice A1 n c1 := hA1
              go_simp
              refine (HGR.out _ _ _ _ h0 hI1).mono ?_; rintro e w' ⟨rfl, hx⟩; exact ⟨_, rfl, hx, rfl⟩
            · obtain ⟨h0, -⟩ := hs
              replace h0 : ρ (.tmp 76) = .tuple #[.int .i64 gr, .int .i64 ei] := h0
              go_simp
              exact ⟨Ext.refl _, rfl⟩
            · obtain ⟨h0, -⟩ := hs
              replace h0 : ρ (.tmp 69) = .tuple #[.int .i64 gr, .int .i64 ei] := h0
              go_simp
              exact ⟨Ext.refl _, rfl⟩
            · obtain ⟨h0, -⟩ := hs
              replace h0 : ρ (.tmp 69) = .tuple #[.int .i64 gr, .int .i64 ei] := h0
              go_simp
              exact ⟨Ext.refl _, rfl⟩
            · obtain ⟨h0, -⟩ := hs
              replace h0 : ρ (.tmp 77) = .int .i64 (gr) := h0
              go_simp
              exact ⟨Ext.refl _, rfl⟩
            · obtain ⟨h0, -⟩ := hs
              replace h0 : ρ (.tmp 78) = .int .i64 (ei) := h0
              go_simp
              exact ⟨Ext.refl _, rfl⟩
          · intro fv W9 hF hs
            obtain ⟨-, -, -, -, -, -, -, -, -, -, h14, h15, -⟩ := hs
            replace h14 : fv 14 = .int .i64 (gr) := h14
            replace h15 : fv 15 = .int .i64 (ei) := h15
            simp only [fin, List.filterMap]
            go_simp
            replace HI := Lib.hid (HI.out.ext hF)
            replace KA := Lib.hid (KA.out.ext hF)
            replace KB := Lib.hid (KB.out.ext hF)
            clear hF
            clear HST HRUN HHD HGR HIN HX HN HNIL
            clear y0 y1 y2 y3 y4 y5 y6 y7 x0 x1 x2 x3 x4 x5 x6 v0 v1 v2 v3
            obtain ⟨y0, y1, y2, y3, y4, y5, y6, y7, x0, x1, x2, x3, x4, x5, x6, v0, v1, v2, v3⟩ := HI.out.lay
            go_upto_if 82 with (go_at_call 28; refine (HRE.out _ HI.out.e).mono ?_; rintro e W10 ⟨rfl, hx⟩; have XT := Lib.hid hx; clear hx)
            replace HI := Lib.hid (HI.out.ext XT.out)
            replace KA := Lib.hid (KA.out.ext XT.out)
            replace KB := Lib.hid (KB.out.ext XT.out)
            clear XT
            clear y0 y1 y2 y3 y4 y5 y6 y7 x0 x1 x2 x3 x4 x5 x6 v0 v1 v2 v3
            clear h14 h15
            obtain ⟨y0, y1, y2, y3, y4, y5, y6, y7, x0, x1, x2, x3, x4, x5, x6, v0, v1, v2, v3⟩ := HI.out.lay
            go_cut [16] from 82 to 84 (fun s16 wx => s16 = .int .i64 c0 ∧ BoxI w wx 48 #[.slice A0 n0 d0, .slice A1 n1 d1, .slice A2 n2 d2, .slice A3 n3 d3, .int .i64 r.h0, .int .i64 r.h1, .int .i64 r.h2, .int .i64 r.h3] s #[.slice B n cb, .int .i64 k.h, .int .i64 k.c, .int .i64 k.d] ∧ Blk wx q1 30 #[.int .i64 ya.p, .int .i64 ya.a, .int .i64 ya.b, .int .i64 ya.m, .int .i64 ya.wt, .int .i64 ya.g, .int .i64 ya.t] ∧ Blk wx q2 30 #[.int .i64 yb.p, .int .i64 yb.a, .int .i64 yb.b, .int .i64 yb.m, .int .i64 yb.wt, .int .i64 yb.g, .int .i64 yb.t])
            case first =>
              by_cases h0 : c1 = 0
              · have b1 : (c1 == 0) = true := by simp [h0]
                have b2 : (c1 != 0) = false := by simp [h0]
                have HQ := Lib.hid (show c2 = c0 by rw [HC0.out, if_pos h0])
                clear h0
                go_wp2_with (go_at_call 19; refine (HSE.out _).mono ?_; rintro e W10 ⟨rfl, hx⟩; have XT := Lib.hid hx; clear hx)
                replace HI := Lib.hid (HI.out.ext XT.out)
                replace KA := Lib.hid (KA.out.ext XT.out)
                replace KB := Lib.hid (KB.out.ext XT.out)
                clear XT
                go_meet
                exact ⟨by rw [HQ.out], HI.out, KA.out, KB.out⟩
              · have b1 : (c1 == 0) = false := by simp [h0]
                have b2 : (c1 != 0) = true := by simp [h0]
                have HQ := Lib.hid (show c1 = c0 by rw [HC0.out, if_neg h0])
                clear h0
                go_wp2
                go_meet
                exact ⟨by rw [HQ.out], HI.out, KA.out, KB.out⟩
            case rest =>
              obtain ⟨rfl, hI9, hA9, hB9⟩ := hcut
              have HI := Lib.hid hI9
              have KA := Lib.hid hA9
              have KB := Lib.hid hB9
              clear hI9 hA9 hB9
              clear HRE HSE HC0
              clear y0 y1 y2 y3 y4 y5 y6 y7 x0 x1 x2 x3 x4 x5 x6 v0 v1 v2 v3
              by_cases h0 : c0 = 0
              case neg =>
                have b1 : (c0 == 0) = false := by simp [h0]
                have b2 : (c0 != 0) = true := by simp [h0]
                obtain ⟨q1', q2', q3', q4', q5', q6', q7', q8'⟩ := HBAD.out h0
                clear HBAD HG0 HRH HKE HPE HCE HE1 HY1 HRS HEI HGR0 HRG HEF HY2 HRR h0
                subst q1' q2' q3' q4' q5' q6' q7' q8'
                obtain ⟨y0, y1, y2, y3, y4, y5, y6, y7, x0, x1, x2, x3, x4, x5, x6, v0, v1, v2, v3⟩ := HI.out.lay
                obtain ⟨ma0, ma1, ma2, ma3, ma4, ma5, ma6⟩ := blk_lay7z KA.out
                obtain ⟨mb0, mb1, mb2, mb3, mb4, mb5, mb6⟩ := blk_lay7z KB.out
                go_wp2
                go_ret
                exact ⟨rfl, HI.out.e⟩
              case pos =>
                have b1 : (c0 == 0) = true := by simp [h0]
                have b2 : (c0 != 0) = false := by simp [h0]
                have hg := HG0.out h0
                replace HRH := Lib.hid (HRH.out h0)
                replace HE1 := Lib.hid (HE1.out h0)
                replace HY1 := Lib.hid (HY1.out h0)
                replace HRS := Lib.hid (HRS.out h0)
                replace HEI := Lib.hid (HEI.out h0)
                replace HGR0 := Lib.hid (HGR0.out h0)
                replace HRG := Lib.hid (HRG.out h0)
                replace HEF := Lib.hid (HEF.out h0)
                replace HY2 := Lib.hid (HY2.out h0)
                replace HRR := Lib.hid (HRR.out h0)
                clear HBAD HG0 h0
                subst hg
                obtain ⟨y0, y1, y2, y3, y4, y5, y6, y7, x0, x1, x2, x3, x4, x5, x6, v0, v1, v2, v3⟩ := HI.out.lay
                go_wp2_with (go_at_call 29; refine (HRH.out _ HI.out.e).mono ?_; rintro e W9 ⟨rfl, hx⟩; have XT := Lib.hid hx; clear hx; refine Hid.out ?_)
                refine Lib.hid ?_
                replace HI := Lib.hid (HI.out.ext XT.out)
                replace KA := Lib.hid (KA.out.ext XT.out)
                replace KB := Lib.hid (KB.out.ext XT.out)
                clear XT
                clear HRH
                clear y0 y1 y2 y3 y4 y5 y6 y7 x0 x1 x2 x3 x4 x5 x6 v0 v1 v2 v3
                obtain ⟨y0, y1, y2, y3, y4, y5, y6, y7, x0, x1, x2, x3, x4, x5, x6, v0, v1, v2, v3⟩ := HI.out.lay
                go_upto_if 135 with (go_at_call 30; refine (HKE.out _).mono ?_; rintro e W10 ⟨rfl, hx⟩; have XT := Lib.hid hx; clear hx)
                replace HI := Lib.hid (HI.out.ext XT.out)
                replace KA := Lib.hid (KA.out.ext XT.out)
                replace KB := Lib.hid (KB.out.ext XT.out)
                clear XT
                clear y0 y1 y2 y3 y4 y5 y6 y7 x0 x1 x2 x3 x4 x5 x6 v0 v1 v2 v3
                clear b1 b2
                obtain ⟨y0, y1, y2, y3, y4, y5, y6, y7, x0, x1, x2, x3, x4, x5, x6, v0, v1, v2, v3⟩ := HI.out.lay
                go_cut [16] from 135 to 138 (fun s16 wx => s16 = .int .i64 e1 ∧ BoxI w wx 48 #[.slice A0 n0 d0, .slice A1 n1 d1, .slice A2 n2 d2, .slice A3 n3 d3, .int .i64 r.h0, .int .i64 r.h1, .int .i64 r.h2, .int .i64 r.h3] s #[.slice B n cb, .int .i64 k.h, .int .i64 k.c, .int .i64 k.d] ∧ Blk wx q1 30 #[.int .i64 ya.p, .int .i64 ya.a, .int .i64 ya.b, .int .i64 ya.m, .int .i64 ya.wt, .int .i64 ya.g, .int .i64 ya.t] ∧ Blk wx q2 30 #[.int .i64 yb.p, .int .i64 yb.a, .int .i64 yb.b, .int .i64 yb.m, .int .i64 yb.wt, .int .i64 yb.g, .int .i64 yb.t])
                case first =>
                  by_cases h0 : ck = 0
                  · have b1 : (ck == 0) = true := by simp [h0]
                    have b2 : (ck != 0) = false := by simp [h0]
                    have HQ := Lib.hid (show cp = e1 by rw [HE1.out, if_pos h0])
                    clear h0
                    go_wp2_with (go_at_call 21; refine (HPE.out _).mono ?_; rintro e W10 ⟨rfl, hx⟩; have XT := Lib.hid hx; clear hx)
                    replace HI := Lib.hid (HI.out.ext XT.out)
                    replace KA := Lib.hid (KA.out.ext XT.out)
                    replace KB := Lib.hid (KB.out.ext XT.out)
                    clear XT
                    go_meet
                    exact ⟨by rw [HQ.out], HI.out, KA.out, KB.out⟩
                  · have b1 : (ck == 0) = false := by simp [h0]
                    have b2 : (ck != 0) = true := by simp [h0]
                    have HQ := Lib.hid (show ck = e1 by rw [HE1.out, if_neg h0])
                    clear h0
                    go_wp2
                    go_meet
                    exact ⟨by rw [HQ.out], HI.out, KA.out, KB.out⟩
                case rest =>
                  obtain ⟨rfl, hI9, hA9, hB9⟩ := hcut
                  have HI := Lib.hid hI9
                  have KA := Lib.hid hA9
                  have KB := Lib.hid hB9
                  clear hI9 hA9 hB9
                  clear HKE HE1
                  clear y0 y1 y2 y3 y4 y5 y6 y7 x0 x1 x2 x3 x4 x5 x6 v0 v1 v2 v3
                  go_upto_region 22 with (fail)
                  go_cut [168] from 139 to 167 (fun s168 wx => s168 = .bool false ∧ BoxI w wx 48 #[.slice A0 n0 d0, .slice A1 n1 d1, .slice A2 n2 d2, .slice A3 n3 d3, .int .i64 r.h0, .int .i64 r.h1, .int .i64 r.h2, .int .i64 r.h3] s #[.slice B n cb, .int .i64 k.h, .int .i64 k.c, .int .i64 k.d] ∧ Blk wx q1 30 #[.int .i64 ya.p, .int .i64 ya.a, .int .i64 ya.b, .int .i64 ya.m, .int .i64 ya.wt, .int .i64 ya.g, .int .i64 ya.t] ∧ Blk wx q2 30 #[.int .i64 yb.p, .int .i64 yb.a, .int .i64 yb.b, .int .i64 yb.m, .int .i64 yb.wt, .int .i64 yb.g, .int .i64 yb.t])
                  case first =>
                    by_cases h0 : e1 = 0
                    · have HR1 := Lib.hid (HRS.out h0)
                      clear HRS HY1
                      subst h0
                      obtain ⟨y0, y1, y2, y3, y4, y5, y6, y7, x0, x1, x2, x3, x4, x5, x6, v0, v1, v2, v3⟩ := HI.out.lay
                      obtain ⟨ma0, ma1, ma2, ma3, ma4, ma5, ma6⟩ := blk_lay7 KA.out
                      obtain ⟨mb0, mb1, mb2, mb3, mb4, mb5, mb6⟩ := blk_lay7 KB.out
                      refine wp_region_eachM [true, true, true, false, false, false, false, false, false, false, false, true, true, true, true, true, true, true, true, true, true, true, true, true, true, true, true, true, true, true] [(141, true, false), (141, true, false), (141, true, false), (141, true, false), (145, false, false), (145, false, false), (145, false, false), (141, true, false), (151, false, true), (151, false, true), (151, false, true), (154, true, true), (154, true, true), (154, true, true), (157, false, true), (157, false, true), (157, false, true), (157, false, true), (157, false, true), (157, false, true), (157, false, true), (157, false, true), (154, true, true), (151, false, true)] [some 139, some 140, some 141, some 142, some 143, some 144, some 145, some 146, some 147, some 148, some 149, some 150, some 151, some 152, some 153, some 154, some 155, some 156, some 157, some 158, some 159, some 160, some 161, some 162, some 163, some 164, some 165, some 166, some 167, some 168] [[16], [139], [140], [9, 141], [16, 141], [142, 143, 141], [144, 141], [8, 145], [145], [146, 147, 145], [145, 148, 141], [141, 149], [150], [16, 151], [152, 151], [153, 151], [9, 154], [155, 154], [156, 154], [8, 157], [3, 157], [4, 157], [7, 157], [5, 157], [162, 157], [159, 160, 161, 163, 157], [158, 164, 157], [157, 165, 154], [154, 166, 151], [151, 167]]
                        [Is (.int .i64 (0)), Is (.bool (false)), Is (.bool (false)), Is (undef), Is (undef), Is (undef), Is (undef), Is (undef), Is (undef), Is (undef), Is (undef), Is (.bool (false)), Is (.bool (false)), Is (.int .i64 (0)), Is (.bool (true)), Is (.bool (true)), Is (.int .i64 (0)), Is (.bool (false)), Is (.bool (false)), Is (.agg #[.int .i64 (ya.p), .int .i64 (ya.a), .int .i64 (ya.b), .int .i64 (ya.m), .int .i64 (ya.wt), .int .i64 (ya.g), .int .i64 (ya.t)]), Is (.agg #[.slice A0 n0 d0, .slice A1 n1 d1, .slice A2 n2 d2, .slice A3 n3 d3, .int .i64 (r.h0), .int .i64 (r.h1), .int .i64 (r.h2), .int .i64 (r.h3)]), Is (.agg #[.int .i64 (s.p), .int .i64 (s.a), .int .i64 (s.b), .int .i64 (s.m), .int .i64 (s.wt), .int .i64 (s.g), .int .i64 (s.t)]), Is (.int .i64 (kv)), Is (.pointer (some ⟨w.heap.size + 1 + 1, 1, none⟩)), Is (.agg #[.int .i64 (k.h), .int .i64 (k.c), .int .i64 (k.d)]), Is (.agg #[.int .i64 ya.p, .int .i64 ya.a, .int .i64 ya.b, .int .i64 ya.m, .int .i64 ya.wt, .int .i64 ya.g, .int .i64 ya.t]), Is (.bool (false)), Is (.bool (false)), Is (.bool (false)), Is (.bool (false))]
                        (by kernel_rfl) (by kernel_rfl) (by kernel_rfl) (by kernel_rfl) (by kernel_rfl) Ext (fun W => Ext wc W)
                        (fun W _ => Ext.refl W) (fun W W' h k => h.trans k) ?_ (by intro p hp; simp only [List.mem_cons, List.not_mem_nil, or_false] at hp; rcases hp with rfl | rfl | rfl | rfl | rfl | rfl | rfl | rfl | rfl | rfl | rfl | rfl | rfl | rfl | rfl | rfl | rfl | rfl | rfl | rfl | rfl | rfl | rfl | rfl <;> exact ⟨_, rfl, fun v W h => by rw [show v = _ from h]; first | (simp; done) | (simp [undef]; done)⟩) (Ext.drew _) ?_ ?_
                      · repeat (refine ⟨fun _ _ _ _ k h => (by first | exact h | exact (by first | exact RuV.ext h k | exact Fresh30.ext h k | exact IntsSl.ext h k | exact RunP.ext h k)), ?_⟩)
                        exact trivial
                      · refine ⟨?_, ?_, ?_, ?_, ?_, ?_, ?_, ?_, ?_, ?_, ?_, ?_, ?_, ?_, ?_, ?_, ?_, ?_, ?_, ?_, ?_, ?_, ?_, ?_, ?_, ?_, ?_, ?_, ?_, ?_, trivial⟩
                        · intro ρ W ⟨kc, kg, kf⟩ hF hs
                          obtain ⟨h0, -⟩ := hs
                          replace h0 : ρ (.tmp 16) = .int .i64 (0) := h0
                          go_simp
                          exact ⟨Ext.refl _, rfl⟩
                        · intro ρ W ⟨kc, kg, kf⟩ hF hs
                          obtain ⟨h0, -⟩ := hs
                          replace h0 : ρ (.tmp 139) = .int .i64 (0) := h0
                          go_simp
                          first | exact ⟨Ext.refl _, rfl⟩ | (simp; exact Ext.refl _) | exact ⟨Ext.refl _, by simp [Is]⟩
                        · intro ρ W ⟨kc, kg, kf⟩ hF hs
                          obtain ⟨h0, -⟩ := hs
                          replace h0 : ρ (.tmp 140) = .bool (false) := h0
                          go_simp
                          first | exact ⟨Ext.refl _, rfl⟩ | (simp; exact Ext.refl _) | exact ⟨Ext.refl _, by simp [Is]⟩
                        · exact fun _ => rfl
                        · exact fun _ => rfl
                        · exact fun _ => rfl
                        · exact fun _ => rfl
                        · exact fun _ => rfl
                        · exact fun _ => rfl
                        · exact fun _ => rfl
                        · exact fun _ => rfl
                        · intro ρ W ⟨kc, kg, kf⟩ hF hs
                          obtain ⟨h0, h1, -⟩ := hs
                          replace h0 : ρ (.tmp 141) = .bool (false) := h0
                          replace h1 : ρ (.tmp 149) = undef := h1
                          go_simp
                          first | exact ⟨Ext.refl _, rfl⟩ | (simp; exact Ext.refl _) | exact ⟨Ext.refl _, by simp [Is]⟩
                        · intro ρ W ⟨kc, kg, kf⟩ hF hs
                          obtain ⟨h0, -⟩ := hs
                          replace h0 : ρ (.tmp 150) = .bool (false) := h0
                          go_simp
                          first | exact ⟨Ext.refl _, rfl⟩ | (simp; exact Ext.refl _) | exact ⟨Ext.refl _, by simp [Is]⟩
                        · intro ρ W ⟨kc, kg, kf⟩ hF hs
                          obtain ⟨h0, h1, -⟩ := hs
                          replace h0 : ρ (.tmp 16) = .int .i64 (0) := h0
                          replace h1 : ρ (.tmp 151) = .bool (false) := h1
                          go_simp
                          exact ⟨Ext.refl _, rfl⟩
                        · intro ρ W ⟨kc, kg, kf⟩ hF hs
                          obtain ⟨h0, h1, -⟩ := hs
                          replace h0 : ρ (.tmp 152) = .int .i64 (0) := h0
                          replace h1 : ρ (.tmp 151) = .bool (false) := h1
                          go_simp
                          first | exact ⟨Ext.refl _, rfl⟩ | (simp; exact Ext.refl _) | exact ⟨Ext.refl _, by simp [Is]⟩
                        · intro ρ W ⟨kc, kg, kf⟩ hF hs
                          obtain ⟨h0, h1, -⟩ := hs
                          replace h0 : ρ (.tmp 153) = .bool (true) := h0
                          replace h1 : ρ (.tmp 151) = .bool (false) := h1
                          go_simp
                          first | exact ⟨Ext.refl _, rfl⟩ | (simp; exact Ext.refl _) | exact ⟨Ext.refl _, by simp [Is]⟩
                        · intro ρ W ⟨kc, kg, kf⟩ hF hs
                          obtain ⟨h0, h1, -⟩ := hs
                          replace h0 : ρ (.tmp 9) = .int .i64 (0) := h0
                          replace h1 : ρ (.tmp 154) = .bool (true) := h1
                          go_simp
                          exact ⟨Ext.refl _, rfl⟩
                        · intro ρ W ⟨kc, kg, kf⟩ hF hs
                          obtain ⟨h0, h1, -⟩ := hs
                          replace h0 : ρ (.tmp 155) = .int .i64 (0) := h0
                          replace h1 : ρ (.tmp 154) = .bool (true) := h1
                          go_simp
                          first | exact ⟨Ext.refl _, rfl⟩ | (simp; exact Ext.refl _) | exact ⟨Ext.refl _, by simp [Is]⟩
                        · intro ρ W ⟨kc, kg, kf⟩ hF hs
                          obtain ⟨h0, h1, -⟩ := hs
                          replace h0 : ρ (.tmp 156) = .bool (false) := h0
                          replace h1 : ρ (.tmp 154) = .bool (true) := h1
                          go_simp
                          first | exact ⟨Ext.refl _, rfl⟩ | (simp; exact Ext.refl _) | exact ⟨Ext.refl _, by simp [Is]⟩
                        · intro ρ W ⟨kc, kg, kf⟩ hF hs
                          obtain ⟨h0, h1, -⟩ := hs
                          replace h0 : ρ (.tmp 8) = .pointer (some ⟨q1, 0, none⟩) := h0
                          replace h1 : ρ (.tmp 157) = .bool (false) := h1
                          have hc0 : W.cell? ⟨q1, 0, none⟩ = some (.int .i64 (ya.p)) := hF.cell (by assumption)
                          have hc1 : W.cell? ⟨q1, 1, none⟩ = some (.int .i64 (ya.a)) := hF.cell (by assumption)
                          have hc2 : W.cell? ⟨q1, 2, none⟩ = some (.int .i64 (ya.b)) := hF.cell (by assumption)
                          have hc3 : W.cell? ⟨q1, 3, none⟩ = some (.int .i64 (ya.m)) := hF.cell (by assumption)
                          have hc4 : W.cell? ⟨q1, 4, none⟩ = some (.int .i64 (ya.wt)) := hF.cell (by assumption)
                          have hc5 : W.cell? ⟨q1, 5, none⟩ = some (.int .i64 (ya.g)) := hF.cell (by assumption)
                          have hc6 : W.cell? ⟨q1, 6, none⟩ = some (.int .i64 (ya.t)) := hF.cell (by assumption)
                          go_simp
                          exact ⟨Ext.refl _, rfl⟩
                        · intro ρ W ⟨kc, kg, kf⟩ hF hs
                          obtain ⟨h0, h1, -⟩ := hs
                          replace h0 : ρ (.tmp 3) = .pointer (some ⟨w.heap.size, 0, none⟩) := h0
                          replace h1 : ρ (.tmp 157) = .bool (false) := h1
                          have hc0 : W.cell? ⟨w.heap.size, 0, none⟩ = some (.slice A0 n0 d0) := hF.cell (by assumption)
                          have hc1 : W.cell? ⟨w.heap.size, 1, none⟩ = some (.slice A1 n1 d1) := hF.cell (by assumption)
                          have hc2 : W.cell? ⟨w.heap.size, 2, none⟩ = some (.slice A2 n2 d2) := hF.cell (by assumption)
                          have hc3 : W.cell? ⟨w.heap.size, 3, none⟩ = some (.slice A3 n3 d3) := hF.cell (by assumption)
                          have hc4 : W.cell? ⟨w.heap.size, 4, none⟩ = some (.int .i64 (r.h0)) := hF.cell (by assumption)
                          have hc5 : W.cell? ⟨w.heap.size, 5, none⟩ = some (.int .i64 (r.h1)) := hF.cell (by assumption)
                          have hc6 : W.cell? ⟨w.heap.size, 6, none⟩ = some (.int .i64 (r.h2)) := hF.cell (by assumption)
                          have hc7 : W.cell? ⟨w.heap.size, 7, none⟩ = some (.int .i64 (r.h3)) := hF.cell (by assumption)
                          go_simp
                          exact ⟨Ext.refl _, rfl⟩
                        · intro ρ W ⟨kc, kg, kf⟩ hF hs
                          obtain ⟨h0, h1, -⟩ := hs
                          replace h0 : ρ (.tmp 4) = .pointer (some ⟨w.heap.size + 1, 0, none⟩) := h0
                          replace h1 : ρ (.tmp 157) = .bool (false) := h1
                          have hc0 : W.cell? ⟨w.heap.size + 1, 0, none⟩ = some (.int .i64 (s.p)) := hF.cell (by assumption)
                          have hc1 : W.cell? ⟨w.heap.size + 1, 1, none⟩ = some (.int .i64 (s.a)) := hF.cell (by assumption)
                          have hc2 : W.cell? ⟨w.heap.size + 1, 2, none⟩ = some (.int .i64 (s.b)) := hF.cell (by assumption)
                          have hc3 : W.cell? ⟨w.heap.size + 1, 3, none⟩ = some (.int .i64 (s.m)) := hF.cell (by assumption)
                          have hc4 : W.cell? ⟨w.heap.size + 1, 4, none⟩ = some (.int .i64 (s.wt)) := hF.cell (by assumption)
                          have hc5 : W.cell? ⟨w.heap.size + 1, 5, none⟩ = some (.int .i64 (s.g)) := hF.cell (by assumption)
                          have hc6 : W.cell? ⟨w.heap.size + 1, 6, none⟩ = some (.int .i64 (s.t)) := hF.cell (by assumption)
                          go_simp
                          exact ⟨Ext.refl _, rfl⟩
                        · intro ρ W ⟨kc, kg, kf⟩ hF hs
                          obtain ⟨h0, h1, -⟩ := hs
                          replace h0 : ρ (.tmp 7) = .int .i64 (kv) := h0
                          replace h1 : ρ (.tmp 157) = .bool (false) := h1
                          go_simp
                          exact ⟨Ext.refl _, rfl⟩
                        · intro ρ W ⟨kc, kg, kf⟩ hF hs
                          obtain ⟨h0, h1, -⟩ := hs
                          replace h0 : ρ (.tmp 5) = .pointer (some ⟨w.heap.size + 1 + 1, 0, none⟩) := h0
                          replace h1 : ρ (.tmp 157) = .bool (false) := h1
                          go_simp
                          exact ⟨Ext.refl _, rfl⟩
                        · intro ρ W ⟨kc, kg, kf⟩ hF hs
                          obtain ⟨h0, h1, -⟩ := hs
                          replace h0 : ρ (.tmp 162) = .pointer (some ⟨w.heap.size + 1 + 1, 1, none⟩) := h0
                          replace h1 : ρ (.tmp 157) = .bool (false) := h1
                          have hc0 : W.cell? ⟨w.heap.size + 1 + 1, 1, none⟩ = some (.int .i64 (k.h)) := hF.cell (by assumption)
                          have hc1 : W.cell? ⟨w.heap.size + 1 + 1, 2, none⟩ = some (.int .i64 (k.c)) := hF.cell (by assumption)
                          have hc2 : W.cell? ⟨w.heap.size + 1 + 1, 3, none⟩ = some (.int .i64 (k.d)) := hF.cell (by assumption)
                          go_simp
                          exact ⟨Ext.refl _, rfl⟩
                        · intro ρ W ⟨kc, kg, kf⟩ hF hs
                          obtain ⟨h0, h1, h2, h3, h4, -⟩ := hs
                          replace h0 : ρ (.tmp 159) = .agg #[.slice A0 n0 d0, .slice A1 n1 d1, .slice A2 n2 d2, .slice A3 n3 d3, .int .i64 (r.h0), .int .i64 (r.h1), .int .i64 (r.h2), .int .i64 (r.h3)] := h0
                          replace h1 : ρ (.tmp 160) = .agg #[.int .i64 (s.p), .int .i64 (s.a), .int .i64 (s.b), .int .i64 (s.m), .int .i64 (s.wt), .int .i64 (s.g), .int .i64 (s.t)] := h1
                          replace h2 : ρ (.tmp 161) = .int .i64 (kv) := h2
                          replace h3 : ρ (.tmp 163) = .agg #[.int .i64 (k.h), .int .i64 (k.c), .int .i64 (k.d)] := h3
                          replace h4 : ρ (.tmp 157) = .bool (false) := h4
                          go_simp
                          refine (HR1.out _ (HI.out.e.trans hF)).mono ?_; rintro e w' ⟨rfl, hx⟩; exact ⟨_, rfl, hx, rfl⟩
                        · intro ρ W ⟨kc, kg, kf⟩ hF hs
                          obtain ⟨h0, h1, h2, -⟩ := hs
                          replace h0 : ρ (.tmp 158) = .agg #[.int .i64 (ya.p), .int .i64 (ya.a), .int .i64 (ya.b), .int .i64 (ya.m), .int .i64 (ya.wt), .int .i64 (ya.g), .int .i64 (ya.t)] := h0
                          replace h1 : ρ (.tmp 164) = .agg #[.int .i64 ya.p, .int .i64 ya.a, .int .i64 ya.b, .int .i64 ya.m, .int .i64 ya.wt, .int .i64 ya.g, .int .i64 ya.t] := h1
                          replace h2 : ρ (.tmp 157) = .bool (false) := h2
                          go_simp
                          first | exact ⟨Ext.refl _, rfl⟩ | (simp; exact Ext.refl _) | exact ⟨Ext.refl _, by simp [Is]⟩
                        · intro ρ W ⟨kc, kg, kf⟩ hF hs
                          obtain ⟨h0, h1, h2, -⟩ := hs
                          replace h0 : ρ (.tmp 157) = .bool (false) := h0
                          replace h1 : ρ (.tmp 165) = .bool (false) := h1
                          replace h2 : ρ (.tmp 154) = .bool (true) := h2
                          go_simp
                          first | exact ⟨Ext.refl _, rfl⟩ | (simp; exact Ext.refl _) | exact ⟨Ext.refl _, by simp [Is]⟩
                        · intro ρ W ⟨kc, kg, kf⟩ hF hs
                          obtain ⟨h0, h1, h2, -⟩ := hs
                          replace h0 : ρ (.tmp 154) = .bool (true) := h0
                          replace h1 : ρ (.tmp 166) = .bool (false) := h1
                          replace h2 : ρ (.tmp 151) = .bool (false) := h2
                          go_simp
                          first | exact ⟨Ext.refl _, rfl⟩ | (simp; exact Ext.refl _) | exact ⟨Ext.refl _, by simp [Is]⟩
                        · intro ρ W ⟨kc, kg, kf⟩ hF hs
                          obtain ⟨h0, h1, -⟩ := hs
                          replace h0 : ρ (.tmp 151) = .bool (false) := h0
                          replace h1 : ρ (.tmp 167) = .bool (false) := h1
                          go_simp
                          first | exact ⟨Ext.refl _, rfl⟩ | (simp; exact Ext.refl _) | exact ⟨Ext.refl _, by simp [Is]⟩
                      · intro fv Wx hF hs
                        obtain ⟨-, -, -, -, -, -, -, -, -, -, -, -, -, -, -, -, -, -, -, -, -, -, -, -, -, -, -, -, -, h168, -⟩ := hs
                        replace h168 : fv 168 = .bool (false) := h168
                        simp only [fin, List.filterMap]
                        go_simp
                        replace HI := Lib.hid (HI.out.ext hF)
                        replace KA := Lib.hid (KA.out.ext hF)
                        replace KB := Lib.hid (KB.out.ext hF)
                        clear hF
                        clear y0 y1 y2 y3 y4 y5 y6 y7 x0 x1 x2 x3 x4 x5 x6 v0 v1 v2 v3
                        clear ma0 ma1 ma2 ma3 ma4 ma5 ma6 mb0 mb1 mb2 mb3 mb4 mb5 mb6
                        go_wp2
                        go_meet
                        exact ⟨rfl, HI.out, KA.out, KB.out⟩
                    · have b1 : (e1 == 0) = false := by simp [h0]
                      have b2 : (e1 != 0) = true := by simp [h0]
                      have hz := HY1.out h0
                      clear HRS HY1 h0
                      subst hz
                      obtain ⟨y0, y1, y2, y3, y4, y5, y6, y7, x0, x1, x2, x3, x4, x5, x6, v0, v1, v2, v3⟩ := HI.out.lay
                      obtain ⟨ma0, ma1, ma2, ma3, ma4, ma5, ma6⟩ := blk_lay7z KA.out
                      obtain ⟨mb0, mb1, mb2, mb3, mb4, mb5, mb6⟩ := blk_lay7 KB.out
                      refine wp_region_eachM [true, true, true, true, true, true, true, true, true, true, true, true, true, true, true, true, false, false, false, false, false, false, false, false, false, false, false, false, true, true] [(141, true, true), (141, true, true), (141, true, true), (141, true, true), (145, false, true), (145, false, true), (145, false, true), (141, true, true), (151, false, true), (151, false, true), (151, false, true), (154, true, false), (154, true, false), (154, true, false), (157, false, false), (157, false, false), (157, false, false), (157, false, false), (157, false, false), (157, false, false), (157, false, false), (157, false, false), (154, true, false), (151, false, true)] [some 139, some 140, some 141, some 142, some 143, some 144, some 145, some 146, some 147, some 148, some 149, some 150, some 151, some 152, some 153, some 154, some 155, some 156, some 157, some 158, some 159, some 160, some 161, some 162, some 163, some 164, some 165, some 166, some 167, some 168] [[16], [139], [140], [9, 141], [16, 141], [142, 143, 141], [144, 141], [8, 145], [145], [146, 147, 145], [145, 148, 141], [141, 149], [150], [16, 151], [152, 151], [153, 151], [9, 154], [155, 154], [156, 154], [8, 157], [3, 157], [4, 157], [7, 157], [5, 157], [162, 157], [159, 160, 161, 163, 157], [158, 164, 157], [157, 165, 154], [154, 166, 151], [151, 167]]
                        [Is (.int .i64 (e1)), Is (.bool (true)), Is (.bool (true)), Is (.int .i64 (e1)), Is (.int .i64 (e1)), Is (.bool (false)), Is (.bool (false)), Is (.agg #[.int .i64 (0), .int .i64 (0), .int .i64 (0), .int .i64 (0), .int .i64 (0), .int .i64 (0), .int .i64 (0)]), Is (.agg #[.int .i64 0, .int .i64 0, .int .i64 0, .int .i64 0, .int .i64 0, .int .i64 0, .int .i64 0]), Is (.bool (false)), Is (.bool (false)), Is (.bool (false)), Is (.bool (false)), Is (.int .i64 (e1)), Is (.bool (false)), Is (.bool (false)), Is (undef), Is (undef), Is (undef), Is (undef), Is (undef), Is (undef), Is (undef), Is (undef), Is (undef), Is (undef), Is (undef), Is (undef), Is (.bool (false)), Is (.bool (false))]
                        (by kernel_rfl) (by kernel_rfl) (by kernel_rfl) (by kernel_rfl) (by kernel_rfl) Ext (fun W => Ext wc W)
                        (fun W _ => Ext.refl W) (fun W W' h k => h.trans k) ?_ (by intro p hp; simp only [List.mem_cons, List.not_mem_nil, or_false] at hp; rcases hp with rfl | rfl | rfl | rfl | rfl | rfl | rfl | rfl | rfl | rfl | rfl | rfl | rfl | rfl | rfl | rfl | rfl | rfl | rfl | rfl | rfl | rfl | rfl | rfl <;> exact ⟨_, rfl, fun v W h => by rw [show v = _ from h]; first | (simp; done) | (simp [undef]; done)⟩) (Ext.drew _) ?_ ?_
                      · repeat (refine ⟨fun _ _ _ _ k h => (by first | exact h | exact (by first | exact RuV.ext h k | exact Fresh30.ext h k | exact IntsSl.ext h k | exact RunP.ext h k)), ?_⟩)
                        exact trivial
                      · refine ⟨?_, ?_, ?_, ?_, ?_, ?_, ?_, ?_, ?_, ?_, ?_, ?_, ?_, ?_, ?_, ?_, ?_, ?_, ?_, ?_, ?_, ?_, ?_, ?_, ?_, ?_, ?_, ?_, ?_, ?_, trivial⟩
                        · intro ρ W ⟨kc, kg, kf⟩ hF hs
                          obtain ⟨h0, -⟩ := hs
                          replace h0 : ρ (.tmp 16) = .int .i64 (e1) := h0
                          go_simp
                          exact ⟨Ext.refl _, rfl⟩
                        · intro ρ W ⟨kc, kg, kf⟩ hF hs
                          obtain ⟨h0, -⟩ := hs
                          replace h0 : ρ (.tmp 139) = .int .i64 (e1) := h0
                          go_simp
                          first | exact ⟨Ext.refl _, rfl⟩ | (simp; exact Ext.refl _) | exact ⟨Ext.refl _, by simp [Is]⟩
                        · intro ρ W ⟨kc, kg, kf⟩ hF hs
                          obtain ⟨h0, -⟩ := hs
                          replace h0 : ρ (.tmp 140) = .bool (true) := h0
                          go_simp
                          first | exact ⟨Ext.refl _, rfl⟩ | (simp; exact Ext.refl _) | exact ⟨Ext.refl _, by simp [Is]⟩
                        · intro ρ W ⟨kc, kg, kf⟩ hF hs
                          obtain ⟨h0, h1, -⟩ := hs
                          replace h0 : ρ (.tmp 9) = .int .i64 (e1) := h0
                          replace h1 : ρ (.tmp 141) = .bool (true) := h1
                          go_simp
                          exact ⟨Ext.refl _, rfl⟩
                        · intro ρ W ⟨kc, kg, kf⟩ hF hs
                          obtain ⟨h0, h1, -⟩ := hs
                          replace h0 : ρ (.tmp 16) = .int .i64 (e1) := h0
                          replace h1 : ρ (.tmp 141) = .bool (true) := h1
                          go_simp
                          exact ⟨Ext.refl _, rfl⟩
                        · intro ρ W ⟨kc, kg, kf⟩ hF hs
                          obtain ⟨h0, h1, h2, -⟩ := hs
                          replace h0 : ρ (.tmp 142) = .int .i64 (e1) := h0
                          replace h1 : ρ (.tmp 143) = .int .i64 (e1) := h1
                          replace h2 : ρ (.tmp 141) = .bool (true) := h2
                          go_simp
                          first | exact ⟨Ext.refl _, rfl⟩ | (simp; exact Ext.refl _) | exact ⟨Ext.refl _, by simp [Is]⟩
                        · intro ρ W ⟨kc, kg, kf⟩ hF hs
                          obtain ⟨h0, h1, -⟩ := hs
                          replace h0 : ρ (.tmp 144) = .bool (false) := h0
                          replace h1 : ρ (.tmp 141) = .bool (true) := h1
                          go_simp
                          first | exact ⟨Ext.refl _, rfl⟩ | (simp; exact Ext.refl _) | exact ⟨Ext.refl _, by simp [Is]⟩
                        · intro ρ W ⟨kc, kg, kf⟩ hF hs
                          obtain ⟨h0, h1, -⟩ := hs
                          replace h0 : ρ (.tmp 8) = .pointer (some ⟨q1, 0, none⟩) := h0
                          replace h1 : ρ (.tmp 145) = .bool (false) := h1
                          have hc0 : W.cell? ⟨q1, 0, none⟩ = some (.int .i64 (0)) := hF.cell (by assumption)
                          have hc1 : W.cell? ⟨q1, 1, none⟩ = some (.int .i64 (0)) := hF.cell (by assumption)
                          have hc2 : W.cell? ⟨q1, 2, none⟩ = some (.int .i64 (0)) := hF.cell (by assumption)
                          have hc3 : W.cell? ⟨q1, 3, none⟩ = some (.int .i64 (0)) := hF.cell (by assumption)
                          have hc4 : W.cell? ⟨q1, 4, none⟩ = some (.int .i64 (0)) := hF.cell (by assumption)
                          have hc5 : W.cell? ⟨q1, 5, none⟩ = some (.int .i64 (0)) := hF.cell (by assumption)
                          have hc6 : W.cell? ⟨q1, 6, none⟩ = some (.int .i64 (0)) := hF.cell (by assumption)
                          go_simp
                          exact ⟨Ext.refl _, rfl⟩
                        · intro ρ W ⟨kc, kg, kf⟩ hF hs
                          obtain ⟨h0, -⟩ := hs
                          replace h0 : ρ (.tmp 145) = .bool (false) := h0
                          go_simp
                          exact ⟨Ext.refl _, rfl⟩
                        · intro ρ W ⟨kc, kg, kf⟩ hF hs
                          obtain ⟨h0, h1, h2, -⟩ := hs
                          replace h0 : ρ (.tmp 146) = .agg #[.int .i64 (0), .int .i64 (0), .int .i64 (0), .int .i64 (0), .int .i64 (0), .int .i64 (0), .int .i64 (0)] := h0
                          replace h1 : ρ (.tmp 147) = .agg #[.int .i64 0, .int .i64 0, .int .i64 0, .int .i64 0, .int .i64 0, .int .i64 0, .int .i64 0] := h1
                          replace h2 : ρ (.tmp 145) = .bool (false) := h2
                          go_simp
                          first | exact ⟨Ext.refl _, rfl⟩ | (simp; exact Ext.refl _) | exact ⟨Ext.refl _, by simp [Is]⟩
                        · intro ρ W ⟨kc, kg, kf⟩ hF hs
                          obtain ⟨h0, h1, h2, -⟩ := hs
                          replace h0 : ρ (.tmp 145) = .bool (false) := h0
                          replace h1 : ρ (.tmp 148) = .bool (false) := h1
                          replace h2 : ρ (.tmp 141) = .bool (true) := h2
                          go_simp
                          first | exact ⟨Ext.refl _, rfl⟩ | (simp; exact Ext.refl _) | exact ⟨Ext.refl _, by simp [Is]⟩
                        · intro ρ W ⟨kc, kg, kf⟩ hF hs
                          obtain ⟨h0, h1, -⟩ := hs
                          replace h0 : ρ (.tmp 141) = .bool (true) := h0
                          replace h1 : ρ (.tmp 149) = .bool (false) := h1
                          go_simp
                          first | exact ⟨Ext.refl _, rfl⟩ | (simp; exact Ext.refl _) | exact ⟨Ext.refl _, by simp [Is]⟩
                        · intro ρ W ⟨kc, kg, kf⟩ hF hs
                          obtain ⟨h0, -⟩ := hs
                          replace h0 : ρ (.tmp 150) = .bool (false) := h0
                          go_simp
                          first | exact ⟨Ext.refl _, rfl⟩ | (simp; exact Ext.refl _) | exact ⟨Ext.refl _, by simp [Is]⟩
                        · intro ρ W ⟨kc, kg, kf⟩ hF hs
                          obtain ⟨h0, h1, -⟩ := hs
                          replace h0 : ρ (.tmp 16) = .int .i64 (e1) := h0
                          replace h1 : ρ (.tmp 151) = .bool (false) := h1
                          go_simp
                          exact ⟨Ext.refl _, rfl⟩
                        · intro ρ W ⟨kc, kg, kf⟩ hF hs
                          obtain ⟨h0, h1, -⟩ := hs
                          replace h0 : ρ (.tmp 152) = .int .i64 (e1) := h0
                          replace h1 : ρ (.tmp 151) = .bool (false) := h1
                          go_simp
                          first | exact ⟨Ext.refl _, rfl⟩ | (simp; exact Ext.refl _) | exact ⟨Ext.refl _, by simp [Is]⟩
                        · intro ρ W ⟨kc, kg, kf⟩ hF hs
                          obtain ⟨h0, h1, -⟩ := hs
                          replace h0 : ρ (.tmp 153) = .bool (false) := h0
                          replace h1 : ρ (.tmp 151) = .bool (false) := h1
                          go_simp
                          first | exact ⟨Ext.refl _, rfl⟩ | (simp; exact Ext.refl _) | exact ⟨Ext.refl _, by simp [Is]⟩
                        · exact fun _ => rfl
                        · exact fun _ => rfl
                        · exact fun _ => rfl
                        · exact fun _ => rfl
                        · exact fun _ => rfl
                        · exact fun _ => rfl
                        · exact fun _ => rfl
                        · exact fun _ => rfl
                        · exact fun _ => rfl
                        · exact fun _ => rfl
                        · exact fun _ => rfl
                        · exact fun _ => rfl
                        · intro ρ W ⟨kc, kg, kf⟩ hF hs
                          obtain ⟨h0, h1, h2, -⟩ := hs
                          replace h0 : ρ (.tmp 154) = .bool (false) := h0
                          replace h1 : ρ (.tmp 166) = undef := h1
                          replace h2 : ρ (.tmp 151) = .bool (false) := h2
                          go_simp
                          first | exact ⟨Ext.refl _, rfl⟩ | (simp; exact Ext.refl _) | exact ⟨Ext.refl _, by simp [Is]⟩
                        · intro ρ W ⟨kc, kg, kf⟩ hF hs
                          obtain ⟨h0, h1, -⟩ := hs
                          replace h0 : ρ (.tmp 151) = .bool (false) := h0
                          replace h1 : ρ (.tmp 167) = .bool (false) := h1
                          go_simp
                          first | exact ⟨Ext.refl _, rfl⟩ | (simp; exact Ext.refl _) | exact ⟨Ext.refl _, by simp [Is]⟩
                      · intro fv Wx hF hs
                        obtain ⟨-, -, -, -, -, -, -, -, -, -, -, -, -, -, -, -, -, -, -, -, -, -, -, -, -, -, -, -, -, h168, -⟩ := hs
                        replace h168 : fv 168 = .bool (false) := h168
                        simp only [fin, List.filterMap]
                        go_simp
                        replace HI := Lib.hid (HI.out.ext hF)
                        replace KA := Lib.hid (KA.out.ext hF)
                        replace KB := Lib.hid (KB.out.ext hF)
                        clear hF
                        clear y0 y1 y2 y3 y4 y5 y6 y7 x0 x1 x2 x3 x4 x5 x6 v0 v1 v2 v3
                        clear ma0 ma1 ma2 ma3 ma4 ma5 ma6 mb0 mb1 mb2 mb3 mb4 mb5 mb6
                        go_wp2
                        go_meet
                        exact ⟨rfl, HI.out, KA.out, KB.out⟩
                  case rest =>
                    obtain ⟨rfl, hI9, hA9, hB9⟩ := hcut
                    have HI := Lib.hid hI9
                    have KA := Lib.hid hA9
                    have KB := Lib.hid hB9
                    clear hI9 hA9 hB9
                    clear HRS HY1
                    obtain ⟨y0, y1, y2, y3, y4, y5, y6, y7, x0, x1, x2, x3, x4, x5, x6, v0, v1, v2, v3⟩ := HI.out.lay
                    go_upto_region 25 with (go_at_call 32; refine (HCE.out _ HI.out.e).mono ?_; rintro e W10 ⟨rfl, hx⟩; have XT := Lib.hid hx; clear hx)
                    replace HI := Lib.hid (HI.out.ext XT.out)
                    replace KA := Lib.hid (KA.out.ext XT.out)
                    replace KB := Lib.hid (KB.out.ext XT.out)
                    clear XT
                    clear HCE
                    clear y0 y1 y2 y3 y4 y5 y6 y7 x0 x1 x2 x3 x4 x5 x6 v0 v1 v2 v3
                    have KC := Lib.hid (Blk.new W10 32 #[.int .i64 1000, .int .i64 1000, .int .i64 1000])
                    have E1 := Lib.hid (Ext.alloc W10 (.cells #[.int .i64 1000, .int .i64 1000, .int .i64 1000] 32))
                    go_upto_region 26 with (fail)
                    obtain ⟨W11, hW11⟩ : ∃ V, V = W10.alloc (.cells #[.int .i64 1000, .int .i64 1000, .int .i64 1000] 32) := ⟨_, rfl⟩
                    rw [← hW11] at KC E1 ⊢
                    clear hW11
                    replace HI := Lib.hid (HI.out.ext E1.out)
                    replace KA := Lib.hid (KA.out.ext E1.out)
                    replace KB := Lib.hid (KB.out.ext E1.out)
                    clear E1
                    generalize W10.heap.size = q3 at KC ⊢
                    obtain ⟨y0, y1, y2, y3, y4, y5, y6, y7, x0, x1, x2, x3, x4, x5, x6, v0, v1, v2, v3⟩ := HI.out.lay
                    have al0 : W11.cell? ⟨q3, 0, none⟩ = some (.int .i64 1000) := KC.out.cell 0
                    have al1 : W11.cell? ⟨q3, 1, none⟩ = some (.int .i64 1000) := KC.out.cell 1
                    have al2 : W11.cell? ⟨q3, 2, none⟩ = some (.int .i64 1000) := KC.out.cell 2
                    have hei := HEI.out
                    clear HEI
                    subst hei
                    go_cut [202] from 173 to 201 (fun s202 wx => s202 = .bool false ∧ BoxI w wx 48 #[.slice A0 n0 d0, .slice A1 n1 d1, .slice A2 n2 d2, .slice A3 n3 d3, .int .i64 r.h0, .int .i64 r.h1, .int .i64 r.h2, .int .i64 r.h3] s #[.slice B n cb, .int .i64 k.h, .int .i64 k.c, .int .i64 k.d] ∧ Blk wx q1 30 #[.int .i64 ya.p, .int .i64 ya.a, .int .i64 ya.b, .int .i64 ya.m, .int .i64 ya.wt, .int .i64 ya.g, .int .i64 ya.t] ∧ Blk wx q2 30 #[.int .i64 yb.p, .int .i64 yb.a, .int .i64 yb.b, .int .i64 yb.m, .int .i64 yb.wt, .int .i64 yb.g, .int .i64 yb.t])
                    case first =>
                      by_cases h0 : ei = 0
                      · obtain ⟨yg, hyg, hR3⟩ := HRG.out h0
                        have HR3 := Lib.hid hR3
                        clear HRG HGR0 hR3
                        subst h0 hyg
                        go_wp2_with (go_at_call 33; refine (HR3.out _ HI.out.e).mono ?_; rintro e W12 ⟨rfl, hx⟩; have XT := Lib.hid hx; clear hx; have hfi := field30 yg.p yg.a yg.b yg.m yg.wt yg.g yg.t W12)
                        replace HI := Lib.hid (HI.out.ext XT.out)
                        replace KA := Lib.hid (KA.out.ext XT.out)
                        replace KB := Lib.hid (KB.out.ext XT.out)
                        clear XT
                        go_meet
                        exact ⟨rfl, HI.out, KA.out, KB.out⟩
                      · have b1 : (ei == 0) = false := by simp [h0]
                        have b2 : (ei != 0) = true := by simp [h0]
                        have hz := HGR0.out h0
                        clear HRG HGR0 h0
                        subst hz
                        go_wp2
                        go_meet
                        exact ⟨rfl, HI.out, KA.out, KB.out⟩
                    case rest =>
                      obtain ⟨rfl, hI9, hA9, hB9⟩ := hcut
                      have HI := Lib.hid hI9
                      have KA := Lib.hid hA9
                      have KB := Lib.hid hB9
                      clear hI9 hA9 hB9
                      clear HRG HGR0 KC al0 al1 al2
                      clear y0 y1 y2 y3 y4 y5 y6 y7 x0 x1 x2 x3 x4 x5 x6 v0 v1 v2 v3
                      obtain ⟨y0, y1, y2, y3, y4, y5, y6, y7, x0, x1, x2, x3, x4, x5, x6, v0, v1, v2, v3⟩ := HI.out.lay
                      go_upto_if 204 with (fail)
                      go_cut [16] from 204 to 207 (fun s16 wx => s16 = .int .i64 ef ∧ BoxI w wx 48 #[.slice A0 n0 d0, .slice A1 n1 d1, .slice A2 n2 d2, .slice A3 n3 d3, .int .i64 r.h0, .int .i64 r.h1, .int .i64 r.h2, .int .i64 r.h3] s #[.slice B n cb, .int .i64 k.h, .int .i64 k.c, .int .i64 k.d] ∧ Blk wx q1 30 #[.int .i64 ya.p, .int .i64 ya.a, .int .i64 ya.b, .int .i64 ya.m, .int .i64 ya.wt, .int .i64 ya.g, .int .i64 ya.t] ∧ Blk wx q2 30 #[.int .i64 yb.p, .int .i64 yb.a, .int .i64 yb.b, .int .i64 yb.m, .int .i64 yb.wt, .int .i64 yb.g, .int .i64 yb.t])
                      case first =>
                        by_cases h0 : ei = 0
                        · have b1 : (ei == 0) = true := by simp [h0]
                          have b2 : (ei != 0) = false := by simp [h0]
                          have HQ := Lib.hid (show cp = ef by rw [HEF.out, if_pos h0])
                          clear h0
                          go_wp2_with (go_at_call 21; refine (HPE.out _).mono ?_; rintro e W10 ⟨rfl, hx⟩; have XT := Lib.hid hx; clear hx)
                          replace HI := Lib.hid (HI.out.ext XT.out)
                          replace KA := Lib.hid (KA.out.ext XT.out)
                          replace KB := Lib.hid (KB.out.ext XT.out)
                          clear XT
                          go_meet
                          exact ⟨by rw [HQ.out], HI.out, KA.out, KB.out⟩
                        · have b1 : (ei == 0) = false := by simp [h0]
                          have b2 : (ei != 0) = true := by simp [h0]
                          have HQ := Lib.hid (show ei = ef by rw [HEF.out, if_neg h0])
                          clear h0
                          go_wp2
                          go_meet
                          exact ⟨by rw [HQ.out], HI.out, KA.out, KB.out⟩
                      case rest =>
                        obtain ⟨rfl, hI9, hA9, hB9⟩ := hcut
                        have HI := Lib.hid hI9
                        have KA := Lib.hid hA9
                        have KB := Lib.hid hB9
                        clear hI9 hA9 hB9
                        clear HPE HEF
                        clear y0 y1 y2 y3 y4 y5 y6 y7 x0 x1 x2 x3 x4 x5 x6 v0 v1 v2 v3
                        by_cases h0 : ef = 0
                        case neg =>
                          have b1 : (ef == 0) = false := by simp [h0]
                          have b2 : (ef != 0) = true := by simp [h0]
                          have hz := HY2.out h0
                          clear HY2 HRR h0
                          subst hz
                          obtain ⟨y0, y1, y2, y3, y4, y5, y6, y7, x0, x1, x2, x3, x4, x5, x6, v0, v1, v2, v3⟩ := HI.out.lay
                          obtain ⟨mb0, mb1, mb2, mb3, mb4, mb5, mb6⟩ := blk_lay7z KB.out
                          go_wp2
                          go_ret
                          exact ⟨rfl, HI.out.e⟩
                        case pos =>
                          have HR2 := Lib.hid (HRR.out h0)
                          clear HRR HY2
                          subst h0
                          generalize wc = W11 at HI KA KB ⊢
                          obtain ⟨y0, y1, y2, y3, y4, y5, y6, y7, x0, x1, x2, x3, x4, x5, x6, v0, v1, v2, v3⟩ := HI.out.lay
                          obtain ⟨ma0, ma1, ma2, ma3, ma4, ma5, ma6⟩ := blk_lay7 KA.out
                          obtain ⟨mb0, mb1, mb2, mb3, mb4, mb5, mb6⟩ := blk_lay7 KB.out
                          go_wp2
                          refine wp_region_eachM [true, true, true, true, true, true, true, true, true, true, true, true, true, true] [(220, true, true), (220, true, true), (220, true, true), (220, true, true), (220, true, true), (220, true, true), (220, true, true), (220, true, true), (220, true, true)] [some 218, some 219, some 220, some 221, some 222, some 223, some 224, some 225, some 226, some 227, some 228, some 229, some 230, some 6] [[11], [218], [219], [10, 220], [3, 220], [4, 220], [5, 220], [224, 220], [5, 220], [226, 220], [222, 223, 225, 227, 220], [221, 228, 220], [220, 229], [230]]
                            [Is (.int .i64 (0)), Is (.bool (true)), Is (.bool (true)), Is (.agg #[.int .i64 (yb.p), .int .i64 (yb.a), .int .i64 (yb.b), .int .i64 (yb.m), .int .i64 (yb.wt), .int .i64 (yb.g), .int .i64 (yb.t)]), Is (.agg #[.slice A0 n0 d0, .slice A1 n1 d1, .slice A2 n2 d2, .slice A3 n3 d3, .int .i64 (r.h0), .int .i64 (r.h1), .int .i64 (r.h2), .int .i64 (r.h3)]), Is (.agg #[.int .i64 (s.p), .int .i64 (s.a), .int .i64 (s.b), .int .i64 (s.m), .int .i64 (s.wt), .int .i64 (s.g), .int .i64 (s.t)]), Is (.pointer (some ⟨w.heap.size + 1 + 1, 0, none⟩)), Is (.slice B n cb), Is (.pointer (some ⟨w.heap.size + 1 + 1, 1, none⟩)), Is (.agg #[.int .i64 (k.h), .int .i64 (k.c), .int .i64 (k.d)]), Is (.agg #[.int .i64 yb.p, .int .i64 yb.a, .int .i64 yb.b, .int .i64 yb.m, .int .i64 yb.wt, .int .i64 yb.g, .int .i64 yb.t]), Is (.bool (true)), Is (.bool (true)), Is (.bool (true))]
                            (by kernel_rfl) (by kernel_rfl) (by kernel_rfl) (by kernel_rfl) (by kernel_rfl) Ext (fun W => Ext W11 W)
                            (fun W _ => Ext.refl W) (fun W W' h k => h.trans k) ?_ (by intro p hp; simp only [List.mem_cons, List.not_mem_nil, or_false] at hp; rcases hp with rfl | rfl | rfl | rfl | rfl | rfl | rfl | rfl | rfl <;> exact ⟨_, rfl, fun v W h => by rw [show v = _ from h]; first | (simp; done) | (simp [undef]; done)⟩) (Ext.drew _) ?_ ?_
                          · repeat (refine ⟨fun _ _ _ _ k h => (by first | exact h | exact (by first | exact RuV.ext h k | exact Fresh30.ext h k | exact IntsSl.ext h k | exact RunP.ext h k)), ?_⟩)
                            exact trivial
                          · refine ⟨?_, ?_, ?_, ?_, ?_, ?_, ?_, ?_, ?_, ?_, ?_, ?_, ?_, ?_, trivial⟩
                            · intro ρ W ⟨kc, kg, kf⟩ hF hs
                              obtain ⟨h0, -⟩ := hs
                              replace h0 : ρ (.tmp 11) = .int .i64 (0) := h0
                              go_simp
                              exact ⟨Ext.refl _, rfl⟩
                            · intro ρ W ⟨kc, kg, kf⟩ hF hs
                              obtain ⟨h0, -⟩ := hs
                              replace h0 : ρ (.tmp 218) = .int .i64 (0) := h0
                              go_simp
                              first | exact ⟨Ext.refl _, rfl⟩ | (simp; exact Ext.refl _) | exact ⟨Ext.refl _, by simp [Is]⟩
                            · intro ρ W ⟨kc, kg, kf⟩ hF hs
                              obtain ⟨h0, -⟩ := hs
                              replace h0 : ρ (.tmp 219) = .bool (true) := h0
                              go_simp
                              first | exact ⟨Ext.refl _, rfl⟩ | (simp; exact Ext.refl _) | exact ⟨Ext.refl _, by simp [Is]⟩
                            · intro ρ W ⟨kc, kg, kf⟩ hF hs
                              obtain ⟨h0, h1, -⟩ := hs
                              replace h0 : ρ (.tmp 10) = .pointer (some ⟨q2, 0, none⟩) := h0
                              replace h1 : ρ (.tmp 220) = .bool (true) := h1
                              have hc0 : W.cell? ⟨q2, 0, none⟩ = some (.int .i64 (yb.p)) := hF.cell (by assumption)
                              have hc1 : W.cell? ⟨q2, 1, none⟩ = some (.int .i64 (yb.a)) := hF.cell (by assumption)
                              have hc2 : W.cell? ⟨q2, 2, none⟩ = some (.int .i64 (yb.b)) := hF.cell (by assumption)
                              have hc3 : W.cell? ⟨q2, 3, none⟩ = some (.int .i64 (yb.m)) := hF.cell (by assumption)
                              have hc4 : W.cell? ⟨q2, 4, none⟩ = some (.int .i64 (yb.wt)) := hF.cell (by assumption)
                              have hc5 : W.cell? ⟨q2, 5, none⟩ = some (.int .i64 (yb.g)) := hF.cell (by assumption)
                              have hc6 : W.cell? ⟨q2, 6, none⟩ = some (.int .i64 (yb.t)) := hF.cell (by assumption)
                              go_simp
                              exact ⟨Ext.refl _, rfl⟩
                            · intro ρ W ⟨kc, kg, kf⟩ hF hs
                              obtain ⟨h0, h1, -⟩ := hs
                              replace h0 : ρ (.tmp 3) = .pointer (some ⟨w.heap.size, 0, none⟩) := h0
                              replace h1 : ρ (.tmp 220) = .bool (true) := h1
                              have hc0 : W.cell? ⟨w.heap.size, 0, none⟩ = some (.slice A0 n0 d0) := hF.cell (by assumption)
                              have hc1 : W.cell? ⟨w.heap.size, 1, none⟩ = some (.slice A1 n1 d1) := hF.cell (by assumption)
                              have hc2 : W.cell? ⟨w.heap.size, 2, none⟩ = some (.slice A2 n2 d2) := hF.cell (by assumption)
                              have hc3 : W.cell? ⟨w.heap.size, 3, none⟩ = some (.slice A3 n3 d3) := hF.cell (by assumption)
                              have hc4 : W.cell? ⟨w.heap.size, 4, none⟩ = some (.int .i64 (r.h0)) := hF.cell (by assumption)
                              have hc5 : W.cell? ⟨w.heap.size, 5, none⟩ = some (.int .i64 (r.h1)) := hF.cell (by assumption)
                              have hc6 : W.cell? ⟨w.heap.size, 6, none⟩ = some (.int .i64 (r.h2)) := hF.cell (by assumption)
                              have hc7 : W.cell? ⟨w.heap.size, 7, none⟩ = some (.int .i64 (r.h3)) := hF.cell (by assumption)
                              go_simp
                              exact ⟨Ext.refl _, rfl⟩
                            · intro ρ W ⟨kc, kg, kf⟩ hF hs
                              obtain ⟨h0, h1, -⟩ := hs
                              replace h0 : ρ (.tmp 4) = .pointer (some ⟨w.heap.size + 1, 0, none⟩) := h0
                              replace h1 : ρ (.tmp 220) = .bool (true) := h1
                              have hc0 : W.cell? ⟨w.heap.size + 1, 0, none⟩ = some (.int .i64 (s.p)) := hF.cell (by assumption)
                              have hc1 : W.cell? ⟨w.heap.size + 1, 1, none⟩ = some (.int .i64 (s.a)) := hF.cell (by assumption)
                              have hc2 : W.cell? ⟨w.heap.size + 1, 2, none⟩ = some (.int .i64 (s.b)) := hF.cell (by assumption)
                              have hc3 : W.cell? ⟨w.heap.size + 1, 3, none⟩ = some (.int .i64 (s.m)) := hF.cell (by assumption)
                              have hc4 : W.cell? ⟨w.heap.size + 1, 4, none⟩ = some (.int .i64 (s.wt)) := hF.cell (by assumption)
                              have hc5 : W.cell? ⟨w.heap.size + 1, 5, none⟩ = some (.int .i64 (s.g)) := hF.cell (by assumption)
                              have hc6 : W.cell? ⟨w.heap.size + 1, 6, none⟩ = some (.int .i64 (s.t)) := hF.cell (by assumption)
                              go_simp
                              exact ⟨Ext.refl _, rfl⟩
                            · intro ρ W ⟨kc, kg, kf⟩ hF hs
                              obtain ⟨h0, h1, -⟩ := hs
                              replace h0 : ρ (.tmp 5) = .pointer (some ⟨w.heap.size + 1 + 1, 0, none⟩) := h0
                              replace h1 : ρ (.tmp 220) = .bool (true) := h1
                              go_simp
                              exact ⟨Ext.refl _, rfl⟩
                            · intro ρ W ⟨kc, kg, kf⟩ hF hs
                              obtain ⟨h0, h1, -⟩ := hs
                              replace h0 : ρ (.tmp 224) = .pointer (some ⟨w.heap.size + 1 + 1, 0, none⟩) := h0
                              replace h1 : ρ (.tmp 220) = .bool (true) := h1
                              have hc0 : W.cell? ⟨w.heap.size + 1 + 1, 0, none⟩ = some (.slice B n cb) := hF.cell (by assumption)
                              go_simp
                              exact ⟨Ext.refl _, rfl⟩
                            · intro ρ W ⟨kc, kg, kf⟩ hF hs
                              obtain ⟨h0, h1, -⟩ := hs
                              replace h0 : ρ (.tmp 5) = .pointer (some ⟨w.heap.size + 1 + 1, 0, none⟩) := h0
                              replace h1 : ρ (.tmp 220) = .bool (true) := h1
                              go_simp
                              exact ⟨Ext.refl _, rfl⟩
                            · intro ρ W ⟨kc, kg, kf⟩ hF hs
                              obtain ⟨h0, h1, -⟩ := hs
                              replace h0 : ρ (.tmp 226) = .pointer (some ⟨w.heap.size + 1 + 1, 1, none⟩) := h0
                              replace h1 : ρ (.tmp 220) = .bool (true) := h1
                              have hc0 : W.cell? ⟨w.heap.size + 1 + 1, 1, none⟩ = some (.int .i64 (k.h)) := hF.cell (by assumption)
                              have hc1 : W.cell? ⟨w.heap.size + 1 + 1, 2, none⟩ = some (.int .i64 (k.c)) := hF.cell (by assumption)
                              have hc2 : W.cell? ⟨w.heap.size + 1 + 1, 3, none⟩ = some (.int .i64 (k.d)) := hF.cell (by assumption)
                              go_simp
                              exact ⟨Ext.refl _, rfl⟩
                            · intro ρ W ⟨kc, kg, kf⟩ hF hs
                              obtain ⟨h0, h1, h2, h3, h4, -⟩ := hs
                              replace h0 : ρ (.tmp 222) = .agg #[.slice A0 n0 d0, .slice A1 n1 d1, .slice A2 n2 d2, .slice A3 n3 d3, .int .i64 (r.h0), .int .i64 (r.h1), .int .i64 (r.h2), .int .i64 (r.h3)] := h0
                              replace h1 : ρ (.tmp 223) = .agg #[.int .i64 (s.p), .int .i64 (s.a), .int .i64 (s.b), .int .i64 (s.m), .int .i64 (s.wt), .int .i64 (s.g), .int .i64 (s.t)] := h1
                              replace h2 : ρ (.tmp 225) = .slice B n cb := h2
                              replace h3 : ρ (.tmp 227) = .agg #[.int .i64 (k.h), .int .i64 (k.c), .int .i64 (k.d)] := h3
                              replace h4 : ρ (.tmp 220) = .bool (true) := h4
                              go_simp
                              refine (HR2.out _ (HI.out.e.trans hF)).mono ?_; rintro e w' ⟨rfl, hx⟩; exact ⟨_, rfl, hx, rfl⟩
                            · intro ρ W ⟨kc, kg, kf⟩ hF hs
                              obtain ⟨h0, h1, h2, -⟩ := hs
                              replace h0 : ρ (.tmp 221) = .agg #[.int .i64 (yb.p), .int .i64 (yb.a), .int .i64 (yb.b), .int .i64 (yb.m), .int .i64 (yb.wt), .int .i64 (yb.g), .int .i64 (yb.t)] := h0
                              replace h1 : ρ (.tmp 228) = .agg #[.int .i64 yb.p, .int .i64 yb.a, .int .i64 yb.b, .int .i64 yb.m, .int .i64 yb.wt, .int .i64 yb.g, .int .i64 yb.t] := h1
                              replace h2 : ρ (.tmp 220) = .bool (true) := h2
                              go_simp
                              first | exact ⟨Ext.refl _, rfl⟩ | (simp; exact Ext.refl _) | exact ⟨Ext.refl _, by simp [Is]⟩
                            · intro ρ W ⟨kc, kg, kf⟩ hF hs
                              obtain ⟨h0, h1, -⟩ := hs
                              replace h0 : ρ (.tmp 220) = .bool (true) := h0
                              replace h1 : ρ (.tmp 229) = .bool (true) := h1
                              go_simp
                              first | exact ⟨Ext.refl _, rfl⟩ | (simp; exact Ext.refl _) | exact ⟨Ext.refl _, by simp [Is]⟩
                            · intro ρ W ⟨kc, kg, kf⟩ hF hs
                              obtain ⟨h0, -⟩ := hs
                              replace h0 : ρ (.tmp 230) = .bool (true) := h0
                              go_simp
                              first | exact ⟨Ext.refl _, rfl⟩ | (simp; exact Ext.refl _) | exact ⟨Ext.refl _, by simp [Is]⟩
                          · intro fv Wy hF hs
                            obtain ⟨-, -, -, -, -, -, -, -, -, -, -, -, -, h6, -⟩ := hs
                            replace h6 : fv 6 = .bool (true) := h6
                            simp only [fin, List.filterMap]
                            go_simp
                            go_wp2
                            go_ret
                            exact ⟨rfl, HI.out.e.trans hF⟩

end Go.Proofs.YtkmekbafjnlfkaaGreat

/- SteelRuns for all; the opener of a run. -/

namespace Go.Proofs.YtkmekbafjnlfkaaGreat
open Go.RowKit Go.Shelf Go.Mem Go.RegInv
attribute [local go_sem] RelUpon_value RelUpon_skip RelUpon_enter BigFrame.eval_const BigFrame.eval_global BigFrame.eval_func

section
open Go.ChangeShapes Go.WideShapes Go.Deep
variable {H : Type} {enc : TypeId × Value → H} {w : World} {base : Nat} {spare : Nat → Bool} {held : Bool} {r : Reach} {b0 : Nat} {v : Value} {d : DataW H} {p : List MemPlace}
theorem open_intsR {fuel : Nat} {v : Value} {x : DataW H × List MemPlace} (h : DataW.trod enc Tryz.prog w base spare held fuel 46 [v] = some x) :
    ∃ A n cap xs, v = .slice A n cap ∧ (A = none → cap = 0) ∧ n ≤ cap ∧ cap ≤ maxLen ∧ xs.length = n ∧ (n ≤ 1152921504606846976 → RowsAt 1 encI w A xs) :=
  open_rows 1 encI (by decide) Tryz.underlying46 (by kernel_rfl) (fun fuel cs x h => by
    obtain ⟨z, e, _⟩ := DataW.trod_int (k := .i64) Tryz.underlying3 h
    exact ⟨z, e⟩) h
set_option maxRecDepth 100000 in
theorem open_runR (hv : Value.okWide Tryz.prog w r b0 48 v) (h : DataW.Trod enc Tryz.prog w base spare held 48 v d p) :
    ∃ B n cb xs y0 y1 y2, v = .agg #[.slice B n cb, .int .i64 y0, .int .i64 y1, .int .i64 y2] ∧ (B = none → cb = 0) ∧ xs.length = n ∧ (n ≤ 1000 → RowsAt 1 encI w B xs) := by
  have hu := Tryz.underlying48
  obtain ⟨cs, rfl, hsz⟩ : ∃ cs, v = .agg cs ∧ cs.size = Tryz.prog.cellsOf 48 := by
    unfold Value.okWide at hv
    simp only [hu] at hv
    cases v <;> simp_all
  obtain ⟨l⟩ := cs
  match l, hsz.trans (show Tryz.prog.cellsOf 48 = 4 by kernel_rfl) with
  | [c0, c1, c2, c3], _ =>
    obtain ⟨fuel, hf⟩ := h
    obtain ⟨xs, n, _, _, _, hlen, hF⟩ := DataW.trod_struct hu hf
    match xs, hlen with
    | [y0, y1], _ =>
      have h0 : DataW.trod enc Tryz.prog w base spare held n 46 [c0] = some y0 := hF 0 _ rfl
      have h1 : DataW.trod enc Tryz.prog w base spare held n 32 [c1, c2, c3] = some y1 := hF 1 _ rfl
      obtain ⟨A0, n0, d0, x0, rfl, a0, _, _, l0, r0⟩ := open_intsR h0
      obtain ⟨q0, q1, q2, m, _, _, k0, k1, k2⟩ := trod_struct3 Tryz.underlying32 h1
      obtain ⟨z0, e0, _⟩ := DataW.trod_int (k := .i64) Tryz.underlying3 (show DataW.trod enc Tryz.prog w base spare held m 3 [c1] = some _ from k0)
      obtain ⟨z1, e1, _⟩ := DataW.trod_int (k := .i64) Tryz.underlying3 (show DataW.trod enc Tryz.prog w base spare held m 3 [c2] = some _ from k1)
      obtain ⟨z2, e2, _⟩ := DataW.trod_int (k := .i64) Tryz.underlying3 (show DataW.trod enc Tryz.prog w base spare held m 3 [c3] = some _ from k2)
      simp at e0 e1 e2
      subst e0 e1 e2
      exact ⟨A0, n0, d0, x0, z0, z1, z2, rfl, a0, l0, fun g => r0 (by omega)⟩
end
theorem short_all (n : Nat) (w : World) : Calls Tryz.prog 22 #[.int .i64 (n : Int)] w fun e w' => e = .returned (.bool (shortB n)) ∧ Ext w w' := by
  obtain ⟨sb, hsb⟩ : ∃ sb, sb = shortB n := ⟨_, rfl⟩
  rw [← hsb]
  unfold shortB at hsb
  by_cases g0 : (n : Int) ≤ 30
  · have HF := Lib.hid (show sb = true by rw [hsb, decide_eq_true (show n ≤ 30 by omega)]; rfl)
    clear hsb
    go_enter Tryz.func22, Tryz.ntmps22
    go_wp2
    go_ret
    exact ⟨ret_bool HF.out.symm, Ext.refl _⟩
  · by_cases g1 : (200 : Int) < (n : Int)
    · by_cases g2 : (n : Int) ≤ 202
      · have HF := Lib.hid (show sb = true by rw [hsb, decide_eq_true (show 200 < n by omega), decide_eq_true (show n ≤ 202 by omega)]; simp)
        clear hsb
        go_enter Tryz.func22, Tryz.ntmps22
        go_wp2
        go_ret
        exact ⟨ret_bool (by rw [HF.out]), Ext.refl _⟩
      · have HF := Lib.hid (show sb = false by rw [hsb, decide_eq_false (show ¬ n ≤ 30 by omega), decide_eq_false (show ¬ n ≤ 202 by omega)]; simp)
        clear hsb
        go_enter Tryz.func22, Tryz.ntmps22
        go_wp2
        go_ret
        exact ⟨ret_bool (by rw [HF.out]), Ext.refl _⟩
    · have HF := Lib.hid (show sb = false by rw [hsb, decide_eq_false (show ¬ n ≤ 30 by omega), decide_eq_false (show ¬ 200 < n by omega)]; rfl)
      clear hsb
      go_enter Tryz.func22, Tryz.ntmps22
      go_wp2
      go_ret
      exact ⟨ret_bool HF.out.symm, Ext.refl _⟩

theorem pick_okR {k : Pk} (h : pickE k.h k.c k.d = 0) : PkOK k := by
  have h4 := rangeE_zeros (show rangeE 0 1000 [k.h, k.c, k.d] = 0 from h)
  have a := h4 k.h (by simp)
  have b := h4 k.c (by simp)
  have c := h4 k.d (by simp)
  exact ⟨a.1, a.2, b.1, b.2, c.1, c.2⟩
theorem all_ok : PkOK (⟨1000, 1000, 1000⟩ : Pk) := ⟨by decide, by decide, by decide, by decide, by decide, by decide⟩
theorem all_pick : pickE (⟨1000, 1000, 1000⟩ : Pk).h (⟨1000, 1000, 1000⟩ : Pk).c (⟨1000, 1000, 1000⟩ : Pk).d = 0 := by decide
section
variable {r : Ru} {s : St} {xs : List Int} {k : Pk}
theorem runE_r (hr : ¬ rulesE r = 0) : runE r s xs k = rulesE r := by simp only [runE, firstE, ne_eq, hr, not_false_eq_true, if_true]
theorem runE_s (hr : rulesE r = 0) (hs : ¬ stateE [s.p, s.a, s.b, s.m, s.wt, s.g, s.t] = 0) : runE r s xs k = stateE [s.p, s.a, s.b, s.m, s.wt, s.g, s.t] := by simp only [runE, firstE, ne_eq, hr, hs, not_true_eq_false, not_false_eq_true, if_true, if_false]
theorem runE_c (hr : rulesE r = 0) (hs : stateE [s.p, s.a, s.b, s.m, s.wt, s.g, s.t] = 0) (hc : ¬ curveE xs = 0) : runE r s xs k = curveE xs := by simp only [runE, firstE, ne_eq, hr, hs, hc, not_true_eq_false, not_false_eq_true, if_true, if_false]
theorem runE_p (hr : rulesE r = 0) (hs : stateE [s.p, s.a, s.b, s.m, s.wt, s.g, s.t] = 0) (hc : curveE xs = 0) : runE r s xs k = pickE k.h k.c k.d := by
  simp only [runE, firstE, ne_eq, hr, hs, hc, not_true_eq_false, if_false]
  split
  · rfl
  · rename_i h; exact (by simpa using h : pickE k.h k.c k.d = 0).symm
theorem runE_0 (hr : rulesE r = 0) (hs : stateE [s.p, s.a, s.b, s.m, s.wt, s.g, s.t] = 0) (hc : curveE xs = 0) (hp : pickE k.h k.c k.d = 0) : runE r s xs k = 0 := (runE_p hr hs hc).trans hp
theorem bothE_r (hr : ¬ rulesE r = 0) : bothE r [s.p, s.a, s.b, s.m, s.wt, s.g, s.t] = rulesE r := by simp only [bothE, firstE, ne_eq, hr, not_false_eq_true, if_true]
theorem bothE_s (hr : rulesE r = 0) (hs : ¬ stateE [s.p, s.a, s.b, s.m, s.wt, s.g, s.t] = 0) : bothE r [s.p, s.a, s.b, s.m, s.wt, s.g, s.t] = stateE [s.p, s.a, s.b, s.m, s.wt, s.g, s.t] := by simp only [bothE, firstE, ne_eq, hr, hs, not_true_eq_false, not_false_eq_true, if_true, if_false]
theorem bothE_ok (hr : rulesE r = 0) (hs : stateE [s.p, s.a, s.b, s.m, s.wt, s.g, s.t] = 0) : bothE r [s.p, s.a, s.b, s.m, s.wt, s.g, s.t] = 0 := by simp only [bothE, firstE, ne_eq, hr, hs, not_true_eq_false, if_false]
end
theorem curveE_one (x : Int) : curveE [x] = kelE x := by
  rw [curveE_eq]
  rw [if_neg (by simp)]
  simp only [List.length_cons, List.length_nil, firstAt, kelAt, List.getD_cons_zero]
  split
  · rfl
  · rename_i h; exact (by simpa using h : kelE x = 0).symm
theorem curveE_one_ne {x : Int} (h : ¬ kelE x = 0) : ¬ curveE [x] = 0 := by rw [curveE_one]; exact h
theorem curveE_one_eq {x : Int} (h : kelE x = 0) : curveE [x] = 0 := by rw [curveE_one]; exact h
theorem curveE_head {xs : List Int} {x : Int} (h : curveE xs = 0) (hx : xs[0]? = some x) : kelE x = 0 := by
  rw [curveE_eq] at h
  split at h
  · cases h
  · have h1 := firstAt_zero h 0 (Nat.le_refl _) (by have := (List.getElem?_eq_some_iff.1 hx).1; omega)
    unfold kelAt at h1
    rwa [List.getD_eq_getElem?_getD, hx] at h1
set_option maxRecDepth 100000 in
theorem runs_many (r : Ru) (A0 A1 A2 A3 B : Option Addr) (n0 n1 n2 n3 c0 c1 c2 c3 n cb : Nat) (w : World) (s : St) (k : Pk) (h : ¬ (n0 ≤ 10 ∧ n1 ≤ 10 ∧ n2 ≤ 10 ∧ n3 ≤ 10) ∨ shortB n = false) :
    Calls Tryz.prog 4 #[.agg #[.slice A0 n0 c0, .slice A1 n1 c1, .slice A2 n2 c2, .slice A3 n3 c3, .int .i64 r.h0, .int .i64 r.h1, .int .i64 r.h2, .int .i64 r.h3], .agg #[.int .i64 s.p, .int .i64 s.a, .int .i64 s.b, .int .i64 s.m, .int .i64 s.wt, .int .i64 s.g, .int .i64 s.t], .agg #[.slice B n cb, .int .i64 k.h, .int .i64 k.c, .int .i64 k.d]] w fun e w' => e = .returned (.bool true) ∧ Ext w w' := by
  obtain ⟨W0, hW0⟩ : ∃ W0, W0 = ((w.alloc (.cells #[.slice A0 n0 c0, .slice A1 n1 c1, .slice A2 n2 c2, .slice A3 n3 c3, .int .i64 r.h0, .int .i64 r.h1, .int .i64 r.h2, .int .i64 r.h3] 28)).alloc (.cells #[.int .i64 s.p, .int .i64 s.a, .int .i64 s.b, .int .i64 s.m, .int .i64 s.wt, .int .i64 s.g, .int .i64 s.t] 30)).alloc (.cells #[.slice B n cb, .int .i64 k.h, .int .i64 k.c, .int .i64 k.d] 48) := ⟨_, rfl⟩
  have HI := Lib.hid (show BoxI w W0 48 #[.slice A0 n0 c0, .slice A1 n1 c1, .slice A2 n2 c2, .slice A3 n3 c3, .int .i64 r.h0, .int .i64 r.h1, .int .i64 r.h2, .int .i64 r.h3] s #[.slice B n cb, .int .i64 k.h, .int .i64 k.c, .int .i64 k.d] by rw [hW0]; exact BoxI.new _ _ _ _ _)
  have HFEW := Lib.hid (fun W => few_any A0 A1 A2 A3 n0 n1 n2 n3 c0 c1 c2 c3 r.h0 r.h1 r.h2 r.h3 W)
  by_cases h10 : n0 ≤ 10 ∧ n1 ≤ 10 ∧ n2 ≤ 10 ∧ n3 ≤ 10
  · rw [decide_eq_true h10] at HFEW
    have hsh : shortB n = false := by rcases h with h | h; exact absurd h10 h; exact h
    have HSH := Lib.hid (fun W => by have := short_all n W; rw [hsh] at this; exact this)
    clear h h10 hsh
    go_enter Tryz.func4, Tryz.ntmps4
    go_wp2_with (go_at_call 13; rw [← hW0]; refine (awake_any _).mono ?_; rintro e W1 ⟨rfl, hx⟩; have XT := Lib.hid hx; clear hx hW0; refine Hid.out ?_)
    refine Lib.hid ?_
    replace HI := Lib.hid (HI.out.ext XT.out)
    clear XT
    have y0 : W1.cell? ⟨w.heap.size, 0, none⟩ = some (.slice A0 n0 c0) := HI.out.k0.cell 0
    have y1 : W1.cell? ⟨w.heap.size, 1, none⟩ = some (.slice A1 n1 c1) := HI.out.k0.cell 1
    have y2 : W1.cell? ⟨w.heap.size, 2, none⟩ = some (.slice A2 n2 c2) := HI.out.k0.cell 2
    have y3 : W1.cell? ⟨w.heap.size, 3, none⟩ = some (.slice A3 n3 c3) := HI.out.k0.cell 3
    have y4 : W1.cell? ⟨w.heap.size, 4, none⟩ = some (.int .i64 r.h0) := HI.out.k0.cell 4
    have y5 : W1.cell? ⟨w.heap.size, 5, none⟩ = some (.int .i64 r.h1) := HI.out.k0.cell 5
    have y6 : W1.cell? ⟨w.heap.size, 6, none⟩ = some (.int .i64 r.h2) := HI.out.k0.cell 6
    have y7 : W1.cell? ⟨w.heap.size, 7, none⟩ = some (.int .i64 r.h3) := HI.out.k0.cell 7
    have x0 : W1.cell? ⟨w.heap.size + 1, 0, none⟩ = some (.int .i64 s.p) := HI.out.k1.cell 0
    have x1 : W1.cell? ⟨w.heap.size + 1, 1, none⟩ = some (.int .i64 s.a) := HI.out.k1.cell 1
    have x2 : W1.cell? ⟨w.heap.size + 1, 2, none⟩ = some (.int .i64 s.b) := HI.out.k1.cell 2
    have x3 : W1.cell? ⟨w.heap.size + 1, 3, none⟩ = some (.int .i64 s.m) := HI.out.k1.cell 3
    have x4 : W1.cell? ⟨w.heap.size + 1, 4, none⟩ = some (.int .i64 s.wt) := HI.out.k1.cell 4
    have x5 : W1.cell? ⟨w.heap.size + 1, 5, none⟩ = some (.int .i64 s.g) := HI.out.k1.cell 5
    have x6 : W1.cell? ⟨w.heap.size + 1, 6, none⟩ = some (.int .i64 s.t) := HI.out.k1.cell 6
    have v0 : W1.cell? ⟨w.heap.size + 1 + 1, 0, none⟩ = some (.slice B n cb) := HI.out.k2.cell 0
    have v1 : W1.cell? ⟨w.heap.size + 1 + 1, 1, none⟩ = some (.int .i64 k.h) := HI.out.k2.cell 1
    have v2 : W1.cell? ⟨w.heap.size + 1 + 1, 2, none⟩ = some (.int .i64 k.c) := HI.out.k2.cell 2
    have v3 : W1.cell? ⟨w.heap.size + 1 + 1, 3, none⟩ = some (.int .i64 k.d) := HI.out.k2.cell 3
    go_wp2_with (go_at_call 14; refine (HFEW.out _).mono ?_; rintro e W2 ⟨rfl, hx⟩; have XT := Lib.hid hx; clear hx; refine Hid.out ?_)
    refine Lib.hid ?_
    replace HI := Lib.hid (HI.out.ext XT.out)
    clear XT
    clear y0 y1 y2 y3 y4 y5 y6 y7 x0 x1 x2 x3 x4 x5 x6 v0 v1 v2 v3
    have y0 : W2.cell? ⟨w.heap.size, 0, none⟩ = some (.slice A0 n0 c0) := HI.out.k0.cell 0
    have y1 : W2.cell? ⟨w.heap.size, 1, none⟩ = some (.slice A1 n1 c1) := HI.out.k0.cell 1
    have y2 : W2.cell? ⟨w.heap.size, 2, none⟩ = some (.slice A2 n2 c2) := HI.out.k0.cell 2
    have y3 : W2.cell? ⟨w.heap.size, 3, none⟩ = some (.slice A3 n3 c3) := HI.out.k0.cell 3
    have y4 : W2.cell? ⟨w.heap.size, 4, none⟩ = some (.int .i64 r.h0) := HI.out.k0.cell 4
    have y5 : W2.cell? ⟨w.heap.size, 5, none⟩ = some (.int .i64 r.h1) := HI.out.k0.cell 5
    have y6 : W2.cell? ⟨w.heap.size, 6, none⟩ = some (.int .i64 r.h2) := HI.out.k0.cell 6
    have y7 : W2.cell? ⟨w.heap.size, 7, none⟩ = some (.int .i64 r.h3) := HI.out.k0.cell 7
    have x0 : W2.cell? ⟨w.heap.size + 1, 0, none⟩ = some (.int .i64 s.p) := HI.out.k1.cell 0
    have x1 : W2.cell? ⟨w.heap.size + 1, 1, none⟩ = some (.int .i64 s.a) := HI.out.k1.cell 1
    have x2 : W2.cell? ⟨w.heap.size + 1, 2, none⟩ = some (.int .i64 s.b) := HI.out.k1.cell 2
    have x3 : W2.cell? ⟨w.heap.size + 1, 3, none⟩ = some (.int .i64 s.m) := HI.out.k1.cell 3
    have x4 : W2.cell? ⟨w.heap.size + 1, 4, none⟩ = some (.int .i64 s.wt) := HI.out.k1.cell 4
    have x5 : W2.cell? ⟨w.heap.size + 1, 5, none⟩ = some (.int .i64 s.g) := HI.out.k1.cell 5
    have x6 : W2.cell? ⟨w.heap.size + 1, 6, none⟩ = some (.int .i64 s.t) := HI.out.k1.cell 6
    have v0 : W2.cell? ⟨w.heap.size + 1 + 1, 0, none⟩ = some (.slice B n cb) := HI.out.k2.cell 0
    have v1 : W2.cell? ⟨w.heap.size + 1 + 1, 1, none⟩ = some (.int .i64 k.h) := HI.out.k2.cell 1
    have v2 : W2.cell? ⟨w.heap.size + 1 + 1, 2, none⟩ = some (.int .i64 k.c) := HI.out.k2.cell 2
    have v3 : W2.cell? ⟨w.heap.size + 1 + 1, 3, none⟩ = some (.int .i64 k.d) := HI.out.k2.cell 3
    go_wp2_with (go_at_call 22; refine (HSH.out _).mono ?_; rintro e W3 ⟨rfl, hx⟩; have XT := Lib.hid hx; clear hx; refine Hid.out ?_)
    refine Lib.hid ?_
    replace HI := Lib.hid (HI.out.ext XT.out)
    clear XT
    clear y0 y1 y2 y3 y4 y5 y6 y7 x0 x1 x2 x3 x4 x5 x6 v0 v1 v2 v3
    have y0 : W3.cell? ⟨w.heap.size, 0, none⟩ = some (.slice A0 n0 c0) := HI.out.k0.cell 0
    have y1 : W3.cell? ⟨w.heap.size, 1, none⟩ = some (.slice A1 n1 c1) := HI.out.k0.cell 1
    have y2 : W3.cell? ⟨w.heap.size, 2, none⟩ = some (.slice A2 n2 c2) := HI.out.k0.cell 2
    have y3 : W3.cell? ⟨w.heap.size, 3, none⟩ = some (.slice A3 n3 c3) := HI.out.k0.cell 3
    have y4 : W3.cell? ⟨w.heap.size, 4, none⟩ = some (.int .i64 r.h0) := HI.out.k0.cell 4
    have y5 : W3.cell? ⟨w.heap.size, 5, none⟩ = some (.int .i64 r.h1) := HI.out.k0.cell 5
    have y6 : W3.cell? ⟨w.heap.size, 6, none⟩ = some (.int .i64 r.h2) := HI.out.k0.cell 6
    have y7 : W3.cell? ⟨w.heap.size, 7, none⟩ = some (.int .i64 r.h3) := HI.out.k0.cell 7
    have x0 : W3.cell? ⟨w.heap.size + 1, 0, none⟩ = some (.int .i64 s.p) := HI.out.k1.cell 0
    have x1 : W3.cell? ⟨w.heap.size + 1, 1, none⟩ = some (.int .i64 s.a) := HI.out.k1.cell 1
    have x2 : W3.cell? ⟨w.heap.size + 1, 2, none⟩ = some (.int .i64 s.b) := HI.out.k1.cell 2
    have x3 : W3.cell? ⟨w.heap.size + 1, 3, none⟩ = some (.int .i64 s.m) := HI.out.k1.cell 3
    have x4 : W3.cell? ⟨w.heap.size + 1, 4, none⟩ = some (.int .i64 s.wt) := HI.out.k1.cell 4
    have x5 : W3.cell? ⟨w.heap.size + 1, 5, none⟩ = some (.int .i64 s.g) := HI.out.k1.cell 5
    have x6 : W3.cell? ⟨w.heap.size + 1, 6, none⟩ = some (.int .i64 s.t) := HI.out.k1.cell 6
    have v0 : W3.cell? ⟨w.heap.size + 1 + 1, 0, none⟩ = some (.slice B n cb) := HI.out.k2.cell 0
    have v1 : W3.cell? ⟨w.heap.size + 1 + 1, 1, none⟩ = some (.int .i64 k.h) := HI.out.k2.cell 1
    have v2 : W3.cell? ⟨w.heap.size + 1 + 1, 2, none⟩ = some (.int .i64 k.c) := HI.out.k2.cell 2
    have v3 : W3.cell? ⟨w.heap.size + 1 + 1, 3, none⟩ = some (.int .i64 k.d) := HI.out.k2.cell 3
    go_wp2
    go_ret
    exact ⟨rfl, HI.out.e⟩
  · rw [decide_eq_false h10] at HFEW
    clear h h10
    go_enter Tryz.func4, Tryz.ntmps4
    go_wp2_with (go_at_call 13; rw [← hW0]; refine (awake_any _).mono ?_; rintro e W1 ⟨rfl, hx⟩; have XT := Lib.hid hx; clear hx hW0; refine Hid.out ?_)
    refine Lib.hid ?_
    replace HI := Lib.hid (HI.out.ext XT.out)
    clear XT
    have y0 : W1.cell? ⟨w.heap.size, 0, none⟩ = some (.slice A0 n0 c0) := HI.out.k0.cell 0
    have y1 : W1.cell? ⟨w.heap.size, 1, none⟩ = some (.slice A1 n1 c1) := HI.out.k0.cell 1
    have y2 : W1.cell? ⟨w.heap.size, 2, none⟩ = some (.slice A2 n2 c2) := HI.out.k0.cell 2
    have y3 : W1.cell? ⟨w.heap.size, 3, none⟩ = some (.slice A3 n3 c3) := HI.out.k0.cell 3
    have y4 : W1.cell? ⟨w.heap.size, 4, none⟩ = some (.int .i64 r.h0) := HI.out.k0.cell 4
    have y5 : W1.cell? ⟨w.heap.size, 5, none⟩ = some (.int .i64 r.h1) := HI.out.k0.cell 5
    have y6 : W1.cell? ⟨w.heap.size, 6, none⟩ = some (.int .i64 r.h2) := HI.out.k0.cell 6
    have y7 : W1.cell? ⟨w.heap.size, 7, none⟩ = some (.int .i64 r.h3) := HI.out.k0.cell 7
    have x0 : W1.cell? ⟨w.heap.size + 1, 0, none⟩ = some (.int .i64 s.p) := HI.out.k1.cell 0
    have x1 : W1.cell? ⟨w.heap.size + 1, 1, none⟩ = some (.int .i64 s.a) := HI.out.k1.cell 1
    have x2 : W1.cell? ⟨w.heap.size + 1, 2, none⟩ = some (.int .i64 s.b) := HI.out.k1.cell 2
    have x3 : W1.cell? ⟨w.heap.size + 1, 3, none⟩ = some (.int .i64 s.m) := HI.out.k1.cell 3
    have x4 : W1.cell? ⟨w.heap.size + 1, 4, none⟩ = some (.int .i64 s.wt) := HI.out.k1.cell 4
    have x5 : W1.cell? ⟨w.heap.size + 1, 5, none⟩ = some (.int .i64 s.g) := HI.out.k1.cell 5
    have x6 : W1.cell? ⟨w.heap.size + 1, 6, none⟩ = some (.int .i64 s.t) := HI.out.k1.cell 6
    have v0 : W1.cell? ⟨w.heap.size + 1 + 1, 0, none⟩ = some (.slice B n cb) := HI.out.k2.cell 0
    have v1 : W1.cell? ⟨w.heap.size + 1 + 1, 1, none⟩ = some (.int .i64 k.h) := HI.out.k2.cell 1
    have v2 : W1.cell? ⟨w.heap.size + 1 + 1, 2, none⟩ = some (.int .i64 k.c) := HI.out.k2.cell 2
    have v3 : W1.cell? ⟨w.heap.size + 1 + 1, 3, none⟩ = some (.int .i64 k.d) := HI.out.k2.cell 3
    go_wp2_with (go_at_call 14; refine (HFEW.out _).mono ?_; rintro e W2 ⟨rfl, hx⟩; have XT := Lib.hid hx; clear hx)
    go_ret
    exact ⟨rfl, HI.out.e.trans XT.out⟩
section
variable {r : Ru} {s : St} {xs : List Int} {k : Pk}
theorem runs_zero (h : (if rulesE r = 0 then stateE [s.p, s.a, s.b, s.m, s.wt, s.g, s.t] else rulesE r) = 0) : rulesE r = 0 ∧ stateE [s.p, s.a, s.b, s.m, s.wt, s.g, s.t] = 0 := by
  by_cases hr : rulesE r = 0
  · rw [if_pos hr] at h; exact ⟨hr, h⟩
  · rw [if_neg hr] at h; exact absurd h hr
theorem runE_bad (h : ¬ (if rulesE r = 0 then stateE [s.p, s.a, s.b, s.m, s.wt, s.g, s.t] else rulesE r) = 0) : runE r s xs k = (if rulesE r = 0 then stateE [s.p, s.a, s.b, s.m, s.wt, s.g, s.t] else rulesE r) := by
  by_cases hr : rulesE r = 0
  · rw [if_pos hr] at h ⊢; exact runE_s hr h
  · rw [if_neg hr]; exact runE_r hr
theorem bothE_bad (h : ¬ (if rulesE r = 0 then stateE [s.p, s.a, s.b, s.m, s.wt, s.g, s.t] else rulesE r) = 0) : bothE r [s.p, s.a, s.b, s.m, s.wt, s.g, s.t] = (if rulesE r = 0 then stateE [s.p, s.a, s.b, s.m, s.wt, s.g, s.t] else rulesE r) := by
  by_cases hr : rulesE r = 0
  · rw [if_pos hr] at h ⊢; exact bothE_s hr h
  · rw [if_neg hr]; exact bothE_r hr
theorem runE_good (h : (if rulesE r = 0 then stateE [s.p, s.a, s.b, s.m, s.wt, s.g, s.t] else rulesE r) = 0) : runE r s xs k = if curveE xs = 0 then pickE k.h k.c k.d else curveE xs := by
  obtain ⟨hr, hs⟩ := runs_zero h
  split
  · exact runE_p hr hs ‹_›
  · exact runE_c hr hs ‹_›
end
theorem runs_few {r : Ru} {A0 A1 A2 A3 B : Option Addr} {n0 n1 n2 n3 c0 c1 c2 c3 n cb : Nat} {xs : List Int} {w : World} (s : St) (k : Pk) (hR : RuIn r (.agg #[.slice A0 n0 c0, .slice A1 n1 c1, .slice A2 n2 c2, .slice A3 n3 c3, .int .i64 r.h0, .int .i64 r.h1, .int .i64 r.h2, .int .i64 r.h3]) w) (h10 : n0 ≤ 10 ∧ n1 ≤ 10 ∧ n2 ≤ 10 ∧ n3 ≤ 10) (hsh : shortB n = true) (hn2 : n ≤ 1000) (hn : xs.length = n) (hB : RowsAt 1 encI w B xs) (hnil : B = none → cb = 0) :
    Calls Tryz.prog 4 #[.agg #[.slice A0 n0 c0, .slice A1 n1 c1, .slice A2 n2 c2, .slice A3 n3 c3, .int .i64 r.h0, .int .i64 r.h1, .int .i64 r.h2, .int .i64 r.h3], .agg #[.int .i64 s.p, .int .i64 s.a, .int .i64 s.b, .int .i64 s.m, .int .i64 s.wt, .int .i64 s.g, .int .i64 s.t], .agg #[.slice B n cb, .int .i64 k.h, .int .i64 k.c, .int .i64 k.d]] w fun e w' => e = .returned (.bool true) ∧ Ext w w' := by
  obtain ⟨kv, hkv⟩ : ∃ kv, (n = 0 ∧ kv = 300) ∨ (0 < n ∧ ∃ b o, B = some ⟨b, o, none⟩ ∧ w.cell? ⟨b, o, none⟩ = some (.int .i64 kv)) := by
    by_cases h0 : n = 0
    · exact ⟨300, .inl ⟨h0, rfl⟩⟩
    · obtain ⟨kv, hkv⟩ : ∃ x, xs[0]? = some x := ⟨_, List.getElem?_eq_getElem (by omega)⟩
      obtain ⟨b, o, hA, -, hc⟩ := hB.2 0 kv hkv
      exact ⟨kv, .inr ⟨by omega, b, o, hA, by have := hc 0 _ rfl; simpa using this⟩⟩
  have bad : ∀ xs k, ¬ (if rulesE r = 0 then stateE [s.p, s.a, s.b, s.m, s.wt, s.g, s.t] else rulesE r) = 0 → ¬ runE r s xs k = 0 := fun xs k h => by rw [runE_bad h]; exact h
  exact runs_core (c0 := (if rulesE r = 0 then stateE [s.p, s.a, s.b, s.m, s.wt, s.g, s.t] else rulesE r)) (ck := kelE kv) (cp := pickE k.h k.c k.d) (cc := curveE xs) hR h10 hn hB hnil hsh hn2 hkv
    (fun u W h => stepped_any h s k kv) (fun u W A c h hx => runOf_any h rulesOK s k hx) (fun u W h => hardnessOf_any h s.p s.a s.b s.m s.wt s.g s.t) (fun u W A c h hx => grainsOf_any h s hx)
    (fun W e => rulesErr_any (hR.at.ext e) h10) (fun W => stateErr_any s.p s.a s.b s.m s.wt s.g s.t W) rfl
    (fun h => ⟨runE_bad h, runE_bad h, bothE_bad h, runE_bad h, if_neg (bad _ _ h), if_neg (bad _ _ h), if_neg (by rw [bothE_bad h]; exact h), by rw [if_neg (bad _ _ h)]⟩)
    (fun h => bothE_ok (runs_zero h).1 (runs_zero h).2)
    (fun h W _ => by
      have := refHardness_any A0 A1 A2 A3 n0 n1 n2 n3 c0 c1 c2 c3 W (runs_zero h).1 (state_ok (runs_zero h).2)
      rw [if_pos (bothE_ok (runs_zero h).1 (runs_zero h).2)]
      exact this)
    (fun W => kelvinErr_any kv W) (fun W => pickErr_any k.h k.c k.d W) (fun W e => curveErr_any (rowsI_ints hn (hB.ext e)))
    (fun h => by rw [runE_good h, curveE_one])
    (fun _ h => if_neg h)
    (fun _ h W e => by
      obtain ⟨hr, hs, hp⟩ := run_ok h
      rw [if_pos h]
      exact refStep_any (hR.at.ext e) hr s hs k hp kv)
    (fun h => by
      rw [runE_good h, all_pick]
      split
      · rename_i h2; exact h2.symm
      · rfl)
    (fun h h2 => by rw [if_neg (by rw [runE_good h, if_neg h2]; exact h2)])
    (fun h h2 => ⟨runK r (⟨1000, 1000, 1000⟩ : Pk) s xs, by rw [if_pos (by rw [runE_good h, if_pos h2]; exact all_pick)], fun W e => refRun_any (hR.at.ext e) (runs_zero h).1 s (state_ok (runs_zero h).2) (⟨1000, 1000, 1000⟩ : Pk) all_ok (rowsI_ints hn (hB.ext e))⟩)
    (fun h => runE_good h)
    (fun _ h => if_neg h)
    (fun _ h W e => by
      obtain ⟨hr, hs, hp⟩ := run_ok h
      rw [if_pos h]
      exact refRun_any (hR.at.ext e) hr s hs k hp (rowsI_ints hn (hB.ext e)))
theorem runs_any {r : Ru} {A0 A1 A2 A3 B : Option Addr} {n0 n1 n2 n3 c0 c1 c2 c3 n cb : Nat} {xs : List Int} {w : World} (s : St) (k : Pk) (hR : n0 ≤ 10 → n1 ≤ 10 → n2 ≤ 10 → n3 ≤ 10 → RuIn r (.agg #[.slice A0 n0 c0, .slice A1 n1 c1, .slice A2 n2 c2, .slice A3 n3 c3, .int .i64 r.h0, .int .i64 r.h1, .int .i64 r.h2, .int .i64 r.h3]) w) (hn : xs.length = n) (hB : n ≤ 1000 → RowsAt 1 encI w B xs) (hnil : B = none → cb = 0) :
    Calls Tryz.prog 4 #[.agg #[.slice A0 n0 c0, .slice A1 n1 c1, .slice A2 n2 c2, .slice A3 n3 c3, .int .i64 r.h0, .int .i64 r.h1, .int .i64 r.h2, .int .i64 r.h3], .agg #[.int .i64 s.p, .int .i64 s.a, .int .i64 s.b, .int .i64 s.m, .int .i64 s.wt, .int .i64 s.g, .int .i64 s.t], .agg #[.slice B n cb, .int .i64 k.h, .int .i64 k.c, .int .i64 k.d]] w fun e w' => e = .returned (.bool true) ∧ Ext w w' := by
  by_cases h10 : n0 ≤ 10 ∧ n1 ≤ 10 ∧ n2 ≤ 10 ∧ n3 ≤ 10
  · by_cases hsh : shortB n = true
    · have hn2 : n ≤ 1000 := by
        unfold shortB at hsh
        simp at hsh
        omega
      exact runs_few s k (hR h10.1 h10.2.1 h10.2.2.1 h10.2.2.2) h10 hsh hn2 hn (hB hn2) hnil
    · exact runs_many r A0 A1 A2 A3 B n0 n1 n2 n3 c0 c1 c2 c3 n cb w s k (.inr (by simpa using hsh))
  · exact runs_many r A0 A1 A2 A3 B n0 n1 n2 n3 c0 c1 c2 c3 n cb w s k (.inl h10)

end Go.Proofs.YtkmekbafjnlfkaaGreat

