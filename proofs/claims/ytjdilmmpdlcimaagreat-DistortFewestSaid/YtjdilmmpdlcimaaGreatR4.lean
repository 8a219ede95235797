/- wp_region_each where operations are guarded by answers that are known. By mkguard.py out of RegInv. -/
import Derived.Test.YtjdilmmpdlcimaaGreatMA
namespace Go.RegInv

variable {P : Program} {Le : World → World → Prop} {F : World → Prop} {Ψ : Tmp → Value → World → Prop}
section
variable {n : Nat} {ops : Array Oper}

/-- The slots that guards ask, each with the answer that is wanted. -/
def guardsAt (n : Nat) (l : List Oper) : Option (List (Tmp × Bool)) :=
  (l.filter (fun o => o.guard.isSome)).mapM fun o => o.guard.bind fun p => ((l[p.1]?).bind (·.dst)).bind fun t => if t < n then some (t, p.2) else none
theorem mapM_mem {α β : Type} {f : α → Option β} : ∀ {l : List α} {gs : List β}, l.mapM f = some gs → ∀ x ∈ l, ∃ y, f x = some y ∧ y ∈ gs
  | [], _, _, x, hx => by cases hx
  | y :: l, gs, h, x, hx => by
    rw [List.mapM_cons] at h
    cases hy : f y with
    | none => rw [hy] at h; cases h
    | some z =>
      rw [hy] at h
      cases hl : l.mapM f with
      | none => rw [hl] at h; cases h
      | some zs =>
        rw [hl] at h
        obtain rfl : z :: zs = gs := by simpa using h
        rcases List.mem_cons.1 hx with rfl | h2
        · exact ⟨z, hy, by simp⟩
        · obtain ⟨u, h3, h4⟩ := mapM_mem hl x h2
          exact ⟨u, h3, by simp [h4]⟩
theorem guardsAt_at {m : Nat} {l : List Oper} {gs : List (Tmp × Bool)} (h : guardsAt m l = some gs) {i : Nat} {o : Oper} (hi : l[i]? = some o) {j : Nat} {want : Bool} (hg : o.guard = some (j, want)) :
    ∃ t, ((l[j]?).bind (·.dst)) = some t ∧ t < m ∧ (t, want) ∈ gs := by
  obtain ⟨y, h1, h2⟩ := mapM_mem h o (List.mem_filter.2 ⟨List.mem_of_getElem? hi, by simp [hg]⟩)
  rw [hg] at h1
  cases h3 : (l[j]?).bind (·.dst) with
  | none => simp [h3] at h1
  | some t =>
    simp only [Option.bind_some, h3] at h1
    split at h1
    · rename_i h4
      obtain rfl : (t, want) = y := by simpa using h1
      exact ⟨t, rfl, h4, h2⟩
    · cases h1

/-- **EVERY ORDER AT ONCE, each guard's answer known.** -/
theorem wp_region_eachG {id : Nat} {Q : Exit → Act → World → Prop} {a : Act} {w : World} {l : List Oper} (gs : List (Tmp × Bool)) (ds : List (Option Tmp)) (ts : List (List Tmp)) (φs : List (Value → World → Prop))
    (hm : P.follows .mixedOrders = true) (hB : depsB a.tmps.size l.toArray = true) (hg : guardsAt a.tmps.size l = some gs) (hds : l.map (·.dst) = ds) (hts : l.map (·.looksAt l.toArray) = ts)
    (Le : World → World → Prop) (F : World → Prop)
    (hrefl : ∀ W, F W → Le W W) (hF : ∀ W W', F W → Le W W' → F W') (hφ : Keeps Le F φs)
    (hG : ∀ p ∈ gs, ∃ φ, look ds φs p.1 = some φ ∧ ∀ v W, φ v W → v = .bool p.2)
    (h0 : F w.drew) (hO : Asks P Le F ds φs a l φs ts)
    (hend : ∀ (f : Tmp → Value) (W : World), F W → Ends f W ds φs → Q .normal (fin a (ds.filterMap (fun d => d)) f) W) : (Code.region id l.toArray true).wp P Q a w := by
  have hdsts : dsts l.toArray = ds.filterMap (fun d => d) := by rw [← hds]; unfold dsts; rw [List.filterMap_map]; rfl
  have hat : ∀ {i : Nat} {o : Oper} {t : Tmp} {φ : Value → World → Prop}, l[i]? = some o → o.dst = some t → φs[i]? = some φ → look ds φs t = some φ := by
    intro i o t φ hi hd hp
    refine look_at (i := i) (by rw [← hds, List.getElem?_map, hi]; simp [hd]) hp fun j hj => ?_
    rw [← hds, List.getElem?_map] at hj
    cases hlj : l[j]? with
    | none => rw [hlj] at hj; cases hj
    | some oj =>
      rw [hlj] at hj
      exact ((depsB_at hB (i := i) (o := o) (by simpa using hi)).1 t hd).2 j oj (by simpa using hlj) (by simpa using hj)
  refine wp_region_inv (Ψ := fun t => (look ds φs t).getD (fun _ _ => True)) (ds.filterMap (fun d => d)) ts hm hB hdsts hts Le F hrefl hF ?_ h0 ?_ ?_
  · intro t v W W' h1 h2 h3
    cases hl : look ds φs t with
    | none => simp
    | some φ =>
      simp only [hl, Option.getD_some] at h3 ⊢
      exact look_keeps hφ hl v W W' h1 h2 h3
  · refine obls_of fun i o hi => ?_
    obtain ⟨φ, t, h1, h2, h3⟩ := asks_at hO hi
    have ht : ts.getD i [] = t := by simp [h2]
    rw [ht]
    intro A W hF' hs
    refine ⟨fun _ => ?_, fun hw => ?_⟩
    case' refine_2 =>
      exfalso
      cases hgo : o.guard with
      | none => simp [Region.wanted, hgo] at hw
      | some p =>
        obtain ⟨j, want⟩ := p
        obtain ⟨t', h6, h7, h8⟩ := guardsAt_at hg hi hgo
        obtain ⟨φ', h9, h10⟩ := hG _ h8
        have hmem : t' ∈ t := by
          have h11 : o.looksAt l.toArray = t := by
            rw [← hts, List.getElem?_map, hi] at h2
            simpa using h2
          rw [← h11]
          unfold Oper.looksAt
          rw [hgo]
          simp [h6]
        have h11 := slots_mem hs t' hmem
        have h12 : t' ∈ ds.filterMap (fun d => d) := by
          rw [← hds, List.filterMap_map]
          cases hlj : l[j]? with
          | none => rw [hlj] at h6; cases h6
          | some oj =>
            rw [hlj] at h6
            exact List.mem_filterMap.2 ⟨oj, List.mem_of_getElem? hlj, by simpa using h6⟩
        unfold slot at h11
        rw [if_pos (by simpa using h12)] at h11
        simp only [h9, Option.getD_some] at h11
        have h13 := h10 _ _ h11
        dsimp only at h13
        have h14 : A.tmps[t']? = some (.bool want) := by
          simp only [Act.eval] at h13
          cases hq : A.tmps[t']? with
          | none =>
            exfalso
            have : A.tmps.size ≤ t' := by simpa using hq
            simp [Array.getD, Nat.not_lt.2 this, undef] at h13
          | some u =>
            have hlt : t' < A.tmps.size := (Array.getElem?_eq_some_iff.1 hq).1
            have : A.tmps[t'] = u := (Array.getElem?_eq_some_iff.1 hq).2
            simp [Array.getD, hlt, this] at h13
            rw [h13]
        have h15 : yielded l.toArray A.tmps j = some want := by
          unfold yielded
          have : (l.toArray[j]?).bind (·.dst) = some t' := by simpa using h6
          rw [this]
          simp [h14]
        simp [Region.wanted, hgo, h15] at hw
    case' refine_1 => skip
    have h4 := h3 A.eval W (Std.eval A) hF' (slotsAt_of fun u hu => by
      have h5 := slots_mem hs u hu
      unfold slot at h5
      unfold slotAt
      split at h5
      · rename_i hc
        cases hl : look ds φs u with
        | some φ' => simpa [hl] using h5
        | none =>
          exfalso
          have hmem : u ∈ dsts l.toArray := by rw [hdsts]; simpa using hc
          obtain ⟨j, oj, hj, hdj⟩ := mem_dsts.1 hmem
          obtain ⟨φj, _, hj1, _⟩ := asks_at hO (i := j) (o := oj) (by simpa using hj)
          rw [hat (by simpa using hj) hdj hj1] at hl
          cases hl
      · rename_i hc
        cases hl : look ds φs u with
        | none => exact h5
        | some φ' =>
          exfalso
          refine hc ?_
          have : u ∈ ds.filterMap (fun d => d) := by
            clear hc h5
            have aux : ∀ {ds : List (Option Tmp)} {φs : List (Value → World → Prop)}, look ds φs u = some φ' → some u ∈ ds := by
              intro ds
              induction ds with
              | nil => intro φs h; cases φs <;> cases h
              | cons d ds ih =>
                intro φs h
                cases φs with
                | nil => cases d <;> cases h
                | cons φ φs =>
                  cases d with
                  | none => exact List.mem_cons_of_mem _ (ih h)
                  | some d =>
                    unfold look at h
                    cases hb : Nat.beq d u
                    · rw [hb] at h; exact List.mem_cons_of_mem _ (ih h)
                    · have e : d = u := Nat.eq_of_beq_eq_true hb
                      rw [e]; exact List.mem_cons_self
            exact List.mem_filterMap.2 ⟨some u, aux hl, rfl⟩
          simpa using this)
    cases hd : o.dst with
    | none =>
      have e : ∀ v W, dstPost (fun t => (look ds φs t).getD (fun _ _ => True)) o v W := fun v W => by simp [dstPost, hd]
      generalize (execOp A.eval o).run P W = r at h4
      cases r with
      | ok nx W' =>
        cases nx <;> simp only [RelUpon] at h4 ⊢
        case value v => exact ⟨h4.1, e _ _⟩
        case skip => exact ⟨h4.1, e _ _⟩
        case enter f args => exact h4.mono fun _ _ ⟨v, h5, h6, _⟩ => ⟨v, h5, h6, e _ _⟩
      | halt x W' => simp only [RelUpon] at h4
    | some d =>
      have e : dstPost (fun t => (look ds φs t).getD (fun _ _ => True)) o = φ := by
        funext v W
        simp [dstPost, hd, hat hi hd h1]
      rw [e]; exact h4
  · intro f W hFW hall
    refine hend f W hFW (ends_of fun i t φ h1 h2 => ?_)
    have h3 := hall t (List.mem_filterMap.2 ⟨some t, List.mem_of_getElem? h1, rfl⟩)
    rw [← hds, List.getElem?_map] at h1
    cases hli : l[i]? with
    | none => rw [hli] at h1; cases h1
    | some o =>
      rw [hli] at h1
      rw [hat hli (by simpa using h1) h2] at h3
      exact h3
end
end Go.RegInv
