/- wp_region_each where of the guarded operations some run and some are refused. By mkmixed.py out of RegGuard. -/
import Derived.Test.YtjdilmmpdlcimaaGreatR4
namespace Go.RegInv

variable {P : Program} {Le : World → World → Prop} {F : World → Prop} {Ψ : Tmp → Value → World → Prop}
section
variable {n : Nat} {ops : Array Oper}

/-- The slots that guards ask, each with the answer that is wanted, and whether the operation runs. -/
def guardsM (n : Nat) (all : List Oper) : List Oper → List Bool → Option (List (Tmp × Bool × Bool))
  | o :: l, m :: ms => (match o.guard with
    | none => if m then guardsM n all l ms else none
    | some p => match (all[p.1]?).bind (·.dst) with
      | some t => if t < n then (guardsM n all l ms).map (fun g => (t, p.2, m) :: g) else none
      | none => none)
  | [], _ => some []
  | _ :: _, [] => none
theorem guardsM_at {n : Nat} {all : List Oper} : ∀ {l : List Oper} {ms : List Bool} {gs : List (Tmp × Bool × Bool)}, guardsM n all l ms = some gs → ∀ {i : Nat} {o : Oper}, l[i]? = some o →
    ∃ m, ms[i]? = some m ∧ (o.guard = none → m = true) ∧ ∀ j want, o.guard = some (j, want) → ∃ t, ((all[j]?).bind (·.dst)) = some t ∧ t < n ∧ (t, want, m) ∈ gs
  | o' :: l, m :: ms, gs, h, i, o, hi => by
    unfold guardsM at h
    cases hgo : o'.guard with
    | none =>
      rw [hgo] at h
      dsimp only at h
      split at h
      · rename_i hm
        cases i with
        | zero =>
          obtain rfl : o' = o := by simpa using hi
          exact ⟨m, rfl, fun _ => hm, fun j want h' => by rw [hgo] at h'; cases h'⟩
        | succ i =>
          obtain ⟨m2, h1, h2, h3⟩ := guardsM_at h (i := i) (o := o) (by simpa using hi)
          exact ⟨m2, by simpa using h1, h2, h3⟩
      · cases h
    | some p =>
      rw [hgo] at h
      dsimp only at h
      cases ht : (all[p.1]?).bind (·.dst) with
      | none => rw [ht] at h; cases h
      | some t =>
        rw [ht] at h
        dsimp only at h
        split at h
        · rename_i hlt
          cases hr : guardsM n all l ms with
          | none => rw [hr] at h; cases h
          | some g =>
            rw [hr] at h
            obtain rfl : (t, p.2, m) :: g = gs := by simpa using h
            cases i with
            | zero =>
              obtain rfl : o' = o := by simpa using hi
              refine ⟨m, rfl, fun h' => (by rw [hgo] at h'; cases h'), fun j want h' => ?_⟩
              rw [hgo] at h'
              obtain rfl : p = (j, want) := by simpa using h'
              exact ⟨t, ht, hlt, by simp⟩
            | succ i =>
              obtain ⟨m2, h1, h2, h3⟩ := guardsM_at hr (i := i) (o := o) (by simpa using hi)
              refine ⟨m2, by simpa using h1, h2, fun j want h' => ?_⟩
              obtain ⟨t2, h4, h5, h6⟩ := h3 j want h'
              exact ⟨t2, h4, h5, by simp [h6]⟩
        · cases h
  | [], _, _, _, i, o, hi => by simp at hi
  | _ :: _, [], _, h, _, _, _ => by simp [guardsM] at h

/-- What is asked of the operations: of a refused one only that its slot may be empty. -/
def AsksM (P : Program) (Le : World → World → Prop) (F : World → Prop) (ds : List (Option Tmp)) (φs : List (Value → World → Prop)) (a0 : Act) : List Oper → List (Value → World → Prop) → List (List Tmp) → List Bool → Prop
  | o :: l, φ :: rest, t :: ts, m :: ms => (match m with | true => ∀ (ρ : Operand → Value) (W : World), Std ρ → F W → slotsAt ds φs a0 ρ W t → RelUpon P Le φ W ((execOp ρ o).run P W) | false => ∀ W, φ undef W) ∧ AsksM P Le F ds φs a0 l rest ts ms
  | [], _, _, _ => True
  | _, _, _, _ => False
theorem asksM_at {ds : List (Option Tmp)} {φs : List (Value → World → Prop)} {a0 : Act} : ∀ {l : List Oper} {rest : List (Value → World → Prop)} {ts : List (List Tmp)} {ms : List Bool}, AsksM P Le F ds φs a0 l rest ts ms → ∀ {i : Nat} {o : Oper}, l[i]? = some o →
    ∃ φ t m, rest[i]? = some φ ∧ ts[i]? = some t ∧ ms[i]? = some m ∧ (m = true → ∀ (ρ : Operand → Value) (W : World), Std ρ → F W → slotsAt ds φs a0 ρ W t → RelUpon P Le φ W ((execOp ρ o).run P W)) ∧ (m = false → ∀ W, φ undef W)
  | o' :: _, φ :: _, t :: _, m :: _, h, 0, o, hi => by
    obtain rfl : o' = o := by simpa using hi
    cases m with
    | true => exact ⟨φ, t, true, rfl, rfl, rfl, fun _ => h.1, (fun hg => by cases hg)⟩
    | false => exact ⟨φ, t, false, rfl, rfl, rfl, (fun hg => by cases hg), fun _ => h.1⟩
  | _ :: _, _ :: _, _ :: _, _ :: _, h, i + 1, o, hi => by
    obtain ⟨φ, t, m, h1, h2, h3, h4⟩ := asksM_at h.2 (i := i) (o := o) (by simpa using hi)
    exact ⟨φ, t, m, by simpa using h1, by simpa using h2, by simpa using h3, h4⟩
  | [], _, _, _, _, _, _, hi => by simp at hi
  | _ :: _, [], _, _, h, _, _, _ => h.elim
  | _ :: _, _ :: _, [], _, h, _, _, _ => h.elim
  | _ :: _, _ :: _, _ :: _, [], h, _, _, _ => h.elim

/-- **EVERY ORDER AT ONCE, each guard known to let its operation run, or to refuse it.** -/
theorem wp_region_eachM {id : Nat} {Q : Exit → Act → World → Prop} {a : Act} {w : World} {l : List Oper} (ms : List Bool) (gs : List (Tmp × Bool × Bool)) (ds : List (Option Tmp)) (ts : List (List Tmp)) (φs : List (Value → World → Prop))
    (hm : P.follows .mixedOrders = true) (hB : depsB a.tmps.size l.toArray = true) (hg : guardsM a.tmps.size l l ms = some gs) (hds : l.map (·.dst) = ds) (hts : l.map (·.looksAt l.toArray) = ts)
    (Le : World → World → Prop) (F : World → Prop)
    (hrefl : ∀ W, F W → Le W W) (hF : ∀ W W', F W → Le W W' → F W') (hφ : Keeps Le F φs)
    (hG : ∀ p ∈ gs, ∃ φ, look ds φs p.1 = some φ ∧ ∀ v W, φ v W → (v = .bool p.2.1 ↔ p.2.2 = true))
    (h0 : F w.drew) (hO : AsksM P Le F ds φs a l φs ts ms)
    (hend : ∀ (f : Tmp → Value) (W : World), F W → Ends f W ds φs → Q .normal (fin a (ds.filterMap (fun d => d)) f) W) : (Code.region id l.toArray true).wp P Q a w := by
  have hdsts : dsts l.toArray = ds.filterMap (fun d => d) := by rw [← hds]; unfold dsts; rw [List.filterMap_map]; rfl
  have hat : ∀ {i : Nat} {o : Oper} {t : Tmp} {φ : Value → World → Prop}, l[i]? = some o → o.dst = some t → φs[i]? = some φ → look ds φs t = some φ := by
    intro i o t φ hi hd hp
    refine look_at (i := i) (by rw [← hds, List.getElem?_map, hi]; simp [hd]) hp fun j hj => ?_
    rw [← hds, List.getElem?_map] at hj
    cases hlj : l[j]? with
    | none => rw [hlj] at hj; cases hj
    | some oj =>
      rw [hlj] at hj
      exact ((depsB_at hB (i := i) (o := o) (by simpa using hi)).1 t hd).2 j oj (by simpa using hlj) (by simpa using hj)
  refine wp_region_inv (Ψ := fun t => (look ds φs t).getD (fun _ _ => True)) (ds.filterMap (fun d => d)) ts hm hB hdsts hts Le F hrefl hF ?_ h0 ?_ ?_
  · intro t v W W' h1 h2 h3
    cases hl : look ds φs t with
    | none => simp
    | some φ =>
      simp only [hl, Option.getD_some] at h3 ⊢
      exact look_keeps hφ hl v W W' h1 h2 h3
  · refine obls_of fun i o hi => ?_
    obtain ⟨φ, t, m, h1, h2, hm', h3, hU⟩ := asksM_at hO hi
    have ht : ts.getD i [] = t := by simp [h2]
    rw [ht]
    intro A W hF' hs
    have hE : ∀ d, o.dst = some d → (dstPost (fun t => (look ds φs t).getD (fun _ _ => True)) o = φ) := by
      intro d hd
      funext v W
      simp [dstPost, hd, hat hi hd h1]
    obtain ⟨m', hm'', hg0, hg1⟩ := guardsM_at hg hi
    obtain rfl : m' = m := by rw [hm''] at hm'; simpa using hm'
    -- what the guard's slot holds, and whether the operation runs
    have hsl : ∀ (j : Nat) (want : Bool), o.guard = some (j, want) → ∃ t', ((l[j]?).bind (·.dst)) = some t' ∧ (A.eval (.tmp t') = .bool want ↔ m' = true) := by
      intro j want hgo
      obtain ⟨t', h6, h7, h8⟩ := hg1 j want hgo
      obtain ⟨φ', h9, h10⟩ := hG _ h8
      have hmem : t' ∈ t := by
        have h11 : o.looksAt l.toArray = t := by
          rw [← hts, List.getElem?_map, hi] at h2
          simpa using h2
        rw [← h11]
        unfold Oper.looksAt
        rw [hgo]
        simp [h6]
      have h11 := slots_mem hs t' hmem
      have h12 : t' ∈ ds.filterMap (fun d => d) := by
        rw [← hds, List.filterMap_map]
        cases hlj : l[j]? with
        | none => rw [hlj] at h6; cases h6
        | some oj =>
          rw [hlj] at h6
          exact List.mem_filterMap.2 ⟨oj, List.mem_of_getElem? hlj, by simpa using h6⟩
      unfold slot at h11
      rw [if_pos (by simpa using h12)] at h11
      simp only [h9, Option.getD_some] at h11
      exact ⟨t', h6, h10 _ _ h11⟩
    have hyi : ∀ (j : Nat) (want : Bool) (t' : Tmp), ((l[j]?).bind (·.dst)) = some t' → (A.eval (.tmp t') = .bool want ↔ yielded l.toArray A.tmps j = some want) := by
      intro j want t' h6
      have h16 : (l.toArray[j]?).bind (·.dst) = some t' := by simpa using h6
      unfold yielded
      rw [h16]
      simp only [Act.eval, Option.bind_some]
      cases hq : A.tmps[t']? with
      | none =>
        have : A.tmps.size ≤ t' := by simpa using hq
        simp [Array.getD, Nat.not_lt.2 this, undef]
      | some u =>
        have hlt : t' < A.tmps.size := (Array.getElem?_eq_some_iff.1 hq).1
        have h17 : A.tmps[t'] = u := (Array.getElem?_eq_some_iff.1 hq).2
        simp only [Array.getD, hlt, dif_pos]
        rw [show A.tmps.getInternal t' hlt = u from h17]
        cases u <;> simp
    cases m' with
    | false =>
      refine ⟨fun hw => ?_, fun _ => ?_⟩
      · exfalso
        cases hgo : o.guard with
        | none => simpa using hg0 hgo
        | some p =>
          obtain ⟨j, want⟩ := p
          obtain ⟨t', h6, h10⟩ := hsl j want hgo
          have h18 : ¬ yielded l.toArray A.tmps j = some want := fun h => by simpa using h10.1 ((hyi j want t' h6).2 h)
          simp [Region.wanted, hgo, h18] at hw
      · cases hd : o.dst with
        | none => simp [dstPost, hd]
        | some d => rw [hE d hd]; exact hU rfl W
    | true =>
    refine ⟨fun _ => ?_, fun hw => ?_⟩
    case' refine_2 =>
      exfalso
      cases hgo : o.guard with
      | none => simp [Region.wanted, hgo] at hw
      | some p =>
        obtain ⟨j, want⟩ := p
        obtain ⟨t', h6, h10⟩ := hsl j want hgo
        have h15 := (hyi j want t' h6).1 (h10.2 rfl)
        simp [Region.wanted, hgo, h15] at hw
    case' refine_1 => skip
    have h4 := h3 rfl A.eval W (Std.eval A) hF' (slotsAt_of fun u hu => by
      have h5 := slots_mem hs u hu
      unfold slot at h5
      unfold slotAt
      split at h5
      · rename_i hc
        cases hl : look ds φs u with
        | some φ' => simpa [hl] using h5
        | none =>
          exfalso
          have hmem : u ∈ dsts l.toArray := by rw [hdsts]; simpa using hc
          obtain ⟨j, oj, hj, hdj⟩ := mem_dsts.1 hmem
          obtain ⟨φj, _, _, hj1, _⟩ := asksM_at hO (i := j) (o := oj) (by simpa using hj)
          rw [hat (by simpa using hj) hdj hj1] at hl
          cases hl
      · rename_i hc
        cases hl : look ds φs u with
        | none => exact h5
        | some φ' =>
          exfalso
          refine hc ?_
          have : u ∈ ds.filterMap (fun d => d) := by
            clear hc h5
            have aux : ∀ {ds : List (Option Tmp)} {φs : List (Value → World → Prop)}, look ds φs u = some φ' → some u ∈ ds := by
              intro ds
              induction ds with
              | nil => intro φs h; cases φs <;> cases h
              | cons d ds ih =>
                intro φs h
                cases φs with
                | nil => cases d <;> cases h
                | cons φ φs =>
                  cases d with
                  | none => exact List.mem_cons_of_mem _ (ih h)
                  | some d =>
                    unfold look at h
                    cases hb : Nat.beq d u
                    · rw [hb] at h; exact List.mem_cons_of_mem _ (ih h)
                    · have e : d = u := Nat.eq_of_beq_eq_true hb
                      rw [e]; exact List.mem_cons_self
            exact List.mem_filterMap.2 ⟨some u, aux hl, rfl⟩
          simpa using this)
    cases hd : o.dst with
    | none =>
      have e : ∀ v W, dstPost (fun t => (look ds φs t).getD (fun _ _ => True)) o v W := fun v W => by simp [dstPost, hd]
      generalize (execOp A.eval o).run P W = r at h4
      cases r with
      | ok nx W' =>
        cases nx <;> simp only [RelUpon] at h4 ⊢
        case value v => exact ⟨h4.1, e _ _⟩
        case skip => exact ⟨h4.1, e _ _⟩
        case enter f args => exact h4.mono fun _ _ ⟨v, h5, h6, _⟩ => ⟨v, h5, h6, e _ _⟩
      | halt x W' => simp only [RelUpon] at h4
    | some d =>
      have e : dstPost (fun t => (look ds φs t).getD (fun _ _ => True)) o = φ := by
        funext v W
        simp [dstPost, hd, hat hi hd h1]
      rw [e]; exact h4
  · intro f W hFW hall
    refine hend f W hFW (ends_of fun i t φ h1 h2 => ?_)
    have h3 := hall t (List.mem_filterMap.2 ⟨some t, List.mem_of_getElem? h1, rfl⟩)
    rw [← hds, List.getElem?_map] at h1
    cases hli : l[i]? with
    | none => rw [hli] at h1; cases h1
    | some o =>
      rw [hli] at h1
      rw [hat hli (by simpa using h1) h2] at h3
      exact h3
end
end Go.RegInv
