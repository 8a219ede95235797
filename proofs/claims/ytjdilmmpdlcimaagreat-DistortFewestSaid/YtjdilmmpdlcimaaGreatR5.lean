/- wp_region_each where operations are guarded by answers that refuse them. By mkrefused.py out of RegGuard. -/
import Derived.Test.YtjdilmmpdlcimaaGreatR4
namespace Go.RegInv

variable {P : Program} {Le : World → World → Prop} {F : World → Prop} {Ψ : Tmp → Value → World → Prop}
section
variable {n : Nat} {ops : Array Oper}

/-- What is asked of the operations: of a guarded one only that its slot may be empty. -/
def AsksN (P : Program) (Le : World → World → Prop) (F : World → Prop) (ds : List (Option Tmp)) (φs : List (Value → World → Prop)) (a0 : Act) : List Oper → List (Value → World → Prop) → List (List Tmp) → Prop
  | o :: l, φ :: rest, t :: ts => (match o.guard with | none => ∀ (ρ : Operand → Value) (W : World), Std ρ → F W → slotsAt ds φs a0 ρ W t → RelUpon P Le φ W ((execOp ρ o).run P W) | some _ => ∀ W, φ undef W) ∧ AsksN P Le F ds φs a0 l rest ts
  | [], _, _ => True
  | _, _, _ => False
theorem asksN_at {ds : List (Option Tmp)} {φs : List (Value → World → Prop)} {a0 : Act} : ∀ {l : List Oper} {rest : List (Value → World → Prop)} {ts : List (List Tmp)}, AsksN P Le F ds φs a0 l rest ts → ∀ {i : Nat} {o : Oper}, l[i]? = some o →
    ∃ φ t, rest[i]? = some φ ∧ ts[i]? = some t ∧ (o.guard = none → ∀ (ρ : Operand → Value) (W : World), Std ρ → F W → slotsAt ds φs a0 ρ W t → RelUpon P Le φ W ((execOp ρ o).run P W)) ∧ (o.guard.isSome = true → ∀ W, φ undef W)
  | o' :: _, φ :: _, t :: _, h, 0, o, hi => by
    obtain rfl : o' = o := by simpa using hi
    refine ⟨φ, t, rfl, rfl, fun hg => ?_, fun hg => ?_⟩
    · have := h.1
      rw [hg] at this
      exact this
    · have := h.1
      obtain ⟨p, hp⟩ := Option.isSome_iff_exists.1 hg
      rw [hp] at this
      exact this
  | _ :: _, _ :: _, _ :: _, h, i + 1, o, hi => by
    obtain ⟨φ, t, h1, h2, h3⟩ := asksN_at h.2 (i := i) (o := o) (by simpa using hi)
    exact ⟨φ, t, by simpa using h1, by simpa using h2, h3⟩
  | [], _, _, _, _, _, hi => by simp at hi
  | _ :: _, [], _, h, _, _, _ => h.elim
  | _ :: _, _ :: _, [], h, _, _, _ => h.elim

/-- **EVERY ORDER AT ONCE, each guard known to refuse.** -/
theorem wp_region_eachN {id : Nat} {Q : Exit → Act → World → Prop} {a : Act} {w : World} {l : List Oper} (gs : List (Tmp × Bool)) (ds : List (Option Tmp)) (ts : List (List Tmp)) (φs : List (Value → World → Prop))
    (hm : P.follows .mixedOrders = true) (hB : depsB a.tmps.size l.toArray = true) (hg : guardsAt a.tmps.size l = some gs) (hds : l.map (·.dst) = ds) (hts : l.map (·.looksAt l.toArray) = ts)
    (Le : World → World → Prop) (F : World → Prop)
    (hrefl : ∀ W, F W → Le W W) (hF : ∀ W W', F W → Le W W' → F W') (hφ : Keeps Le F φs)
    (hG : ∀ p ∈ gs, ∃ φ, look ds φs p.1 = some φ ∧ ∀ v W, φ v W → v = .bool (!p.2))
    (h0 : F w.drew) (hO : AsksN P Le F ds φs a l φs ts)
    (hend : ∀ (f : Tmp → Value) (W : World), F W → Ends f W ds φs → Q .normal (fin a (ds.filterMap (fun d => d)) f) W) : (Code.region id l.toArray true).wp P Q a w := by
  have hdsts : dsts l.toArray = ds.filterMap (fun d => d) := by rw [← hds]; unfold dsts; rw [List.filterMap_map]; rfl
  have hat : ∀ {i : Nat} {o : Oper} {t : Tmp} {φ : Value → World → Prop}, l[i]? = some o → o.dst = some t → φs[i]? = some φ → look ds φs t = some φ := by
    intro i o t φ hi hd hp
    refine look_at (i := i) (by rw [← hds, List.getElem?_map, hi]; simp [hd]) hp fun j hj => ?_
    rw [← hds, List.getElem?_map] at hj
    cases hlj : l[j]? with
    | none => rw [hlj] at hj; cases hj
    | some oj =>
      rw [hlj] at hj
      exact ((depsB_at hB (i := i) (o := o) (by simpa using hi)).1 t hd).2 j oj (by simpa using hlj) (by simpa using hj)
  refine wp_region_inv (Ψ := fun t => (look ds φs t).getD (fun _ _ => True)) (ds.filterMap (fun d => d)) ts hm hB hdsts hts Le F hrefl hF ?_ h0 ?_ ?_
  · intro t v W W' h1 h2 h3
    cases hl : look ds φs t with
    | none => simp
    | some φ =>
      simp only [hl, Option.getD_some] at h3 ⊢
      exact look_keeps hφ hl v W W' h1 h2 h3
  · refine obls_of fun i o hi => ?_
    obtain ⟨φ, t, h1, h2, h3, hU⟩ := asksN_at hO hi
    have ht : ts.getD i [] = t := by simp [h2]
    rw [ht]
    intro A W hF' hs
    have hE : ∀ d, o.dst = some d → (dstPost (fun t => (look ds φs t).getD (fun _ _ => True)) o = φ) := by
      intro d hd
      funext v W
      simp [dstPost, hd, hat hi hd h1]
    cases hgo : o.guard with
    | some p =>
      refine ⟨fun hw => ?_, fun _ => ?_⟩
      · exfalso
        obtain ⟨j, want⟩ := p
        obtain ⟨t', h6, h7, h8⟩ := guardsAt_at hg hi hgo
        obtain ⟨φ', h9, h10⟩ := hG _ h8
        have hmem : t' ∈ t := by
          have h11 : o.looksAt l.toArray = t := by
            rw [← hts, List.getElem?_map, hi] at h2
            simpa using h2
          rw [← h11]
          unfold Oper.looksAt
          rw [hgo]
          simp [h6]
        have h11 := slots_mem hs t' hmem
        have h12 : t' ∈ ds.filterMap (fun d => d) := by
          rw [← hds, List.filterMap_map]
          cases hlj : l[j]? with
          | none => rw [hlj] at h6; cases h6
          | some oj =>
            rw [hlj] at h6
            exact List.mem_filterMap.2 ⟨oj, List.mem_of_getElem? hlj, by simpa using h6⟩
        unfold slot at h11
        rw [if_pos (by simpa using h12)] at h11
        simp only [h9, Option.getD_some] at h11
        have h13 := h10 _ _ h11
        dsimp only at h13
        have h14 : A.tmps[t']? = some (.bool (!want)) := by
          simp only [Act.eval] at h13
          cases hq : A.tmps[t']? with
          | none =>
            exfalso
            have : A.tmps.size ≤ t' := by simpa using hq
            simp [Array.getD, Nat.not_lt.2 this, undef] at h13
          | some u =>
            have hlt : t' < A.tmps.size := (Array.getElem?_eq_some_iff.1 hq).1
            have : A.tmps[t'] = u := (Array.getElem?_eq_some_iff.1 hq).2
            simp [Array.getD, hlt, this] at h13
            rw [h13]
        have h15 : yielded l.toArray A.tmps j = some (!want) := by
          unfold yielded
          have : (l.toArray[j]?).bind (·.dst) = some t' := by simpa using h6
          rw [this]
          simp [h14]
        simp [Region.wanted, hgo, h15] at hw
      · cases hd : o.dst with
        | none => simp [dstPost, hd]
        | some d => rw [hE d hd]; exact hU (by simp [hgo]) W
    | none =>
    refine ⟨fun _ => ?_, fun hw => by simp [Region.wanted, hgo] at hw⟩
    have h4 := h3 hgo A.eval W (Std.eval A) hF' (slotsAt_of fun u hu => by
      have h5 := slots_mem hs u hu
      unfold slot at h5
      unfold slotAt
      split at h5
      · rename_i hc
        cases hl : look ds φs u with
        | some φ' => simpa [hl] using h5
        | none =>
          exfalso
          have hmem : u ∈ dsts l.toArray := by rw [hdsts]; simpa using hc
          obtain ⟨j, oj, hj, hdj⟩ := mem_dsts.1 hmem
          obtain ⟨φj, _, hj1, _, _⟩ := asksN_at hO (i := j) (o := oj) (by simpa using hj)
          rw [hat (by simpa using hj) hdj hj1] at hl
          cases hl
      · rename_i hc
        cases hl : look ds φs u with
        | none => exact h5
        | some φ' =>
          exfalso
          refine hc ?_
          have : u ∈ ds.filterMap (fun d => d) := by
            clear hc h5
            have aux : ∀ {ds : List (Option Tmp)} {φs : List (Value → World → Prop)}, look ds φs u = some φ' → some u ∈ ds := by
              intro ds
              induction ds with
              | nil => intro φs h; cases φs <;> cases h
              | cons d ds ih =>
                intro φs h
                cases φs with
                | nil => cases d <;> cases h
                | cons φ φs =>
                  cases d with
                  | none => exact List.mem_cons_of_mem _ (ih h)
                  | some d =>
                    unfold look at h
                    cases hb : Nat.beq d u
                    · rw [hb] at h; exact List.mem_cons_of_mem _ (ih h)
                    · have e : d = u := Nat.eq_of_beq_eq_true hb
                      rw [e]; exact List.mem_cons_self
            exact List.mem_filterMap.2 ⟨some u, aux hl, rfl⟩
          simpa using this)
    cases hd : o.dst with
    | none =>
      have e : ∀ v W, dstPost (fun t => (look ds φs t).getD (fun _ _ => True)) o v W := fun v W => by simp [dstPost, hd]
      generalize (execOp A.eval o).run P W = r at h4
      cases r with
      | ok nx W' =>
        cases nx <;> simp only [RelUpon] at h4 ⊢
        case value v => exact ⟨h4.1, e _ _⟩
        case skip => exact ⟨h4.1, e _ _⟩
        case enter f args => exact h4.mono fun _ _ ⟨v, h5, h6, _⟩ => ⟨v, h5, h6, e _ _⟩
      | halt x W' => simp only [RelUpon] at h4
    | some d =>
      have e : dstPost (fun t => (look ds φs t).getD (fun _ _ => True)) o = φ := by
        funext v W
        simp [dstPost, hd, hat hi hd h1]
      rw [e]; exact h4
  · intro f W hFW hall
    refine hend f W hFW (ends_of fun i t φ h1 h2 => ?_)
    have h3 := hall t (List.mem_filterMap.2 ⟨some t, List.mem_of_getElem? h1, rfl⟩)
    rw [← hds, List.getElem?_map] at h1
    cases hli : l[i]? with
    | none => rw [hli] at h1; cases h1
    | some o =>
      rw [hli] at h1
      rw [hat hli (by simpa using h1) h2] at h3
      exact h3
end
end Go.RegInv
