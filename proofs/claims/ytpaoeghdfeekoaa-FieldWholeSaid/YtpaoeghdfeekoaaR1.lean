/- RegInv inside a fence that asks nothing, also in a round of a loop over a function. By mkin.py out of RegInv. -/
import Derived.Test.YtpaoeghdfeekoaaR0
import Derived.OrdersIn
import Derived.RangeFuncCalls
import Derived.OwnWalkIn
namespace Go.RegInv

/-- A fence that asks nothing, perhaps in a round. -/
structure WideIn (Fc : Fence) : Prop where
  fn : ∀ f, Fc.fn f
  depth : Fc.depth.isSome = false
  calls : ∀ {n : Nat} {P : Program} {f : FuncId} {args : Array Value} {w : World} {R : Ending → World → Prop}, Calls P f args w R → CallsIn Fc n P f args w R
theorem WideIn.wide : WideIn Fence.wide := ⟨fun _ => trivial, rfl, fun h => callsIn_wide.2 h⟩
theorem WideIn.inRound (l : Nat) : WideIn (Fence.wide.inRound l) := ⟨fun _ => trivial, rfl, fun h => CallsIn.inRound l (callsIn_wide.2 h)⟩
def noDefer (ops : Array Oper) : Bool := ops.all fun o => match o.op with | .defer _ => false | _ => true

variable {Fc : Fence} {m : Nat} {P : Program} {Le : World → World → Prop} {F : World → Prop} {Ψ : Tmp → Value → World → Prop} {n : Nat} {ops : Array Oper}

theorem semAt_of {ρ : Operand → Value} {ro : Option Nat} {i : Nat} {o : Oper} (h : noDefer ops = true) (hi : ops[i]? = some o) : o.semAt ro ρ = execOp ρ o := by
  cases ro with
  | none => rfl
  | some l =>
    have := Array.all_eq_true_iff_forall_mem.1 h o (Array.mem_of_getElem? hi)
    unfold Oper.semAt
    cases ho : o.op <;> simp_all

/-- One operation that may come up. -/
theorem good_stepIn (hW : WideIn Fc) (hnd : noDefer ops = true) {a0 : Act} {listed : Array Bool} {a : Act} {W : World} {Q : Exit → Act → World → Prop} {K : Act → World → Prop} {i : Nat} {o : Oper} {ts : List Tmp}
    (hB : depsB a0.tmps.size ops = true) (hls : listed.size = ops.size) (hF : ∀ W W', F W → Le W W' → F W') (hΨ : ∀ t v W W', F W → Le W W' → Ψ t v W → Ψ t v W')
    (hi : ops[i]? = some o) (hr : i ∈ Region.ready .any ops listed) (hts : o.looksAt ops = ts) (ho : Obl P Le F (dsts ops) Ψ a0 ops o ts) (hrefl : ∀ W, F W → Le W W)
    (hg : Good F Ψ a0 ops listed a W) (hK : ∀ a' W', Good F Ψ a0 ops (listed.setIfInBounds i true) a' W' → K a' W') : wpOpIn Fc m P ops Q i K a W := by
  obtain ⟨hd1, hd2, hd3⟩ := depsB_at hB hi
  obtain ⟨hun, o', ho', hall⟩ := mem_ready.1 hr
  rw [hi] at ho'
  obtain rfl : o = o' := by simpa using ho'
  have hlt : i < ops.size := (Array.getElem?_eq_some_iff.1 hi).1
  have hun' : listed.getD i false = false := by
    have : i < listed.size := by omega
    simp [this] at hun ⊢
    exact hun
  -- the slots that are read
  have hsl : slots (dsts ops) Ψ a0 a W ts := slots_of fun t ht => by
    unfold slot
    split
    · rename_i hc
      obtain ⟨j, oj, hj, hdj⟩ := mem_dsts.1 (by simpa using hc)
      obtain ⟨e, he, hb, hon⟩ := hd2 t (by rw [hts]; exact ht) j oj hj hdj
      have hl := hall e he hb
      rw [hon] at hl
      exact hg.done j oj t hj hdj hl
    · rename_i hc
      refine hg.other t fun j oj hj hdj => absurd ?_ hc
      simpa using mem_dsts.2 ⟨j, oj, hj, hdj⟩
  obtain ⟨hyes, hno⟩ := ho a W hg.base hsl
  -- what a value does
  have put : ∀ (v : Value) (W' : World), Le W W' → dstPost Ψ o v W' → Good F Ψ a0 ops (listed.setIfInBounds i true) (a.put o.dst v) W' := by
    intro v W' hle hv
    have hbase := hF _ _ hg.base hle
    cases hdst : o.dst with
    | none =>
      refine ⟨hg.defers, hg.size, hbase, fun j oj t hj hdj hl => ?_, fun t ht => hg.other t fun j oj hj hdj => ?_⟩
      · have hne : i ≠ j := by
          rintro rfl
          rw [hi] at hj
          obtain rfl : o = oj := by simpa using hj
          rw [hdst] at hdj; cases hdj
        rw [listed_of_ne hne] at hl
        exact hΨ _ _ _ _ hg.base hle (hg.done j oj t hj hdj hl)
      · have := ht j oj hj hdj
        have hne : i ≠ j := by
          rintro rfl
          rw [hi] at hj
          obtain rfl : o = oj := by simpa using hj
          rw [hdst] at hdj; cases hdj
        rwa [listed_of_ne hne] at this
    | some d =>
      obtain ⟨hdn, huniq⟩ := hd1 d hdst
      have hda : d < a.tmps.size := by rw [hg.size]; exact hdn
      refine ⟨hg.defers, by simp [Act.put, hg.size], hbase, fun j oj t hj hdj hl => ?_, fun t ht => ?_⟩
      · by_cases hne : i = j
        · subst hne
          rw [hi] at hj
          obtain rfl : o = oj := by simpa using hj
          rw [hdst] at hdj
          obtain rfl : d = t := by simpa using hdj
          rw [eval_put_same a hda]
          simpa [dstPost, hdst] using hv
        · rw [listed_of_ne hne] at hl
          have htd : d ≠ t := by
            rintro rfl
            exact hne (huniq j oj hj hdj).symm
          rw [eval_put_other a htd]
          exact hΨ _ _ _ _ hg.base hle (hg.done j oj t hj hdj hl)
      · have htd : d ≠ t := by
          rintro rfl
          have := ht i o hi hdst
          simp [hls, hlt] at this
        rw [eval_put_other a htd]
        refine hg.other t fun j oj hj hdj => ?_
        have h2 := ht j oj hj hdj
        have hne : i ≠ j := by
          rintro rfl
          rw [hi] at hj
          obtain rfl : o = oj := by simpa using hj
          rw [hdst] at hdj
          exact htd (by simpa using hdj)
        rwa [listed_of_ne hne] at h2
  unfold wpOpIn
  simp only [hi]
  split
  · rename_i hw
    have h1 := hyes hw
    unfold Oper.wpIn
    refine ⟨fun f _ => hW.fn f, ?_⟩
    rw [semAt_of hnd hi]
    generalize (execOp a.eval o).run P W = r at h1
    cases r with
    | ok nx W' =>
      cases nx <;> simp only [RelUpon] at h1 <;> simp only [Oper.uponIn]
      case value v => exact hK _ _ (put v W' h1.1 h1.2)
      case skip => exact hK _ _ (put undef W' h1.1 h1.2)
      case enter f args =>
        refine ⟨(fun hd => by rw [hW.depth] at hd; exact absurd hd (by decide)), ?_⟩
        refine CallsIn.mono (hW.calls h1) ?_
        rintro e W'' ⟨v, rfl, hle, hv⟩
        exact hK _ _ (put v W'' hle hv)
    | halt x W' => simp only [RelUpon] at h1
  · rename_i hw
    have hw' : Region.wanted o (yielded ops a.tmps) = false := by simpa using hw
    exact ⟨fun f _ => hW.fn f, hK _ _ (put undef W (hrefl W hg.base) (hno hw'))⟩

/-- **EVERY ORDER AT ONCE.** -/
theorem wpIn_region_inv (hW : WideIn Fc) {l : List Oper} (hnd : noDefer l.toArray = true) {id : Nat} {Q : Exit → Act → World → Prop} {a : Act} {w : World} (ds : List Tmp) (ts : List (List Tmp))
    (hm : P.follows .mixedOrders = true) (hB : depsB a.tmps.size l.toArray = true) (hds : dsts l.toArray = ds) (hts : l.map (·.looksAt l.toArray) = ts)
    (Le : World → World → Prop) (F : World → Prop) (Ψ : Tmp → Value → World → Prop)
    (hrefl : ∀ W, F W → Le W W) (hF : ∀ W W', F W → Le W W' → F W') (hΨ : ∀ t v W W', F W → Le W W' → Ψ t v W → Ψ t v W')
    (h0 : F w.drew) (hO : Obls P Le F ds Ψ a l.toArray l ts)
    (hend : ∀ (f : Tmp → Value) (W : World), F W → (∀ t ∈ ds, Ψ t (f t) W) → Q .normal (fin a ds f) W) : (Code.region id l.toArray true).wpIn Fc m P Q a w := by
  subst hds
  refine wpIn_region_any hm ?_
  have hend' : ∀ (listed : Array Bool) (a' : Act) (W : World), (∀ i, i < l.toArray.size → listed.getD i false = true) → Good F Ψ a l.toArray listed a' W → Q .normal a' W := by
    intro listed a' W hall hg
    have hall' : ∀ i o, l.toArray[i]? = some o → listed.getD i false = true := fun i o hi => hall i (Array.getElem?_eq_some_iff.1 hi).1
    rw [act_fin (a := a') (a0 := a) (ds := dsts l.toArray) hg.defers hg.size (fun t ht => hg.other t fun i o hi hd => absurd (mem_dsts.2 ⟨i, o, hi, hd⟩) ht)]
    refine hend _ W hg.base fun t ht => ?_
    obtain ⟨i, o, hi, hd⟩ := mem_dsts.1 ht
    exact hg.done i o t hi hd (hall' i o hi)
  have main : ∀ (fuel : Nat) (listed : Array Bool) (a' : Act) (W : World), listed.size = l.toArray.size → unl listed l.toArray.size = fuel → Good F Ψ a l.toArray listed a' W →
      wpAnyIn Fc m P .any l.toArray Q fuel listed a' W := by
    intro fuel
    induction fuel with
    | zero =>
      intro listed a' W hls hu hg
      have hall := unl_zero hu
      have hr : Region.ready .any l.toArray listed = [] := by
        rw [List.eq_nil_iff_forall_not_mem]
        intro i hi
        obtain ⟨h1, o, ho, _⟩ := mem_ready.1 hi
        rw [hall i (Array.getElem?_eq_some_iff.1 ho).1] at h1
        cases h1
      exact ⟨hr, hend' listed a' W (all_listed hB hls hr) hg⟩
    | succ fuel ih =>
      intro listed a' W hls hu hg
      refine ⟨fun hr => hend' listed a' W (all_listed hB hls hr) hg, fun i hi => ?_⟩
      obtain ⟨hun, o, ho, _⟩ := mem_ready.1 hi
      have hlt : i < l.toArray.size := (Array.getElem?_eq_some_iff.1 ho).1
      have hlo : l[i]? = some o := by simpa using ho
      refine good_stepIn hW hnd (ts := o.looksAt l.toArray) hB hls hF hΨ ho hi rfl ?_ hrefl hg (fun a'' W'' hg' => ih _ a'' W'' (by simpa using hls) ?_ hg')
      · have := obls_at hO hlo
        rw [← hts] at this
        have e : (l.map (·.looksAt l.toArray)).getD i [] = o.looksAt l.toArray := by
          rw [List.getD_eq_getElem?_getD, List.getElem?_map, hlo]; rfl
        rwa [e] at this
      · have := unl_set (l := listed) (i := i) hun (by omega) hlt
        omega
  have hcount : ∀ n : Nat, n ≤ l.toArray.size → unl (Array.replicate l.toArray.size false) n = n := by
    intro n
    induction n with
    | zero => intro _; rfl
    | succ n ih =>
      intro hn
      unfold unl
      rw [ih (by omega)]
      have h3 : n < l.length := by simp only [List.size_toArray] at hn; omega
      have : (Array.replicate l.toArray.size false).getD n true = false := by simp [h3]
      rw [this]; simp
  exact main _ _ a w.drew (by simp) (hcount _ (Nat.le_refl _)) ⟨rfl, rfl, h0, fun i o t hi _ hl => by
    have h3 : i < l.length := by have := (Array.getElem?_eq_some_iff.1 hi).1; simpa using this
    simp [h3] at hl, fun t _ => rfl⟩
/-- **EVERY ORDER AT ONCE, no operation guarded**: `φs` beside the operations. -/
theorem wpIn_region_each (hW : WideIn Fc) {l : List Oper} (hnd : noDefer l.toArray = true) {id : Nat} {Q : Exit → Act → World → Prop} {a : Act} {w : World} (ds : List (Option Tmp)) (ts : List (List Tmp)) (φs : List (Value → World → Prop))
    (hm : P.follows .mixedOrders = true) (hB : depsB a.tmps.size l.toArray = true) (hg : l.all (fun o => o.guard.isNone) = true) (hds : l.map (·.dst) = ds) (hts : l.map (·.looksAt l.toArray) = ts)
    (Le : World → World → Prop) (F : World → Prop)
    (hrefl : ∀ W, F W → Le W W) (hF : ∀ W W', F W → Le W W' → F W') (hφ : Keeps Le F φs)
    (h0 : F w.drew) (hO : Asks P Le F ds φs a l φs ts)
    (hend : ∀ (f : Tmp → Value) (W : World), F W → Ends f W ds φs → Q .normal (fin a (ds.filterMap (fun d => d)) f) W) : (Code.region id l.toArray true).wpIn Fc m P Q a w := by
  have hdsts : dsts l.toArray = ds.filterMap (fun d => d) := by rw [← hds]; unfold dsts; rw [List.filterMap_map]; rfl
  have hat : ∀ {i : Nat} {o : Oper} {t : Tmp} {φ : Value → World → Prop}, l[i]? = some o → o.dst = some t → φs[i]? = some φ → look ds φs t = some φ := by
    intro i o t φ hi hd hp
    refine look_at (i := i) (by rw [← hds, List.getElem?_map, hi]; simp [hd]) hp fun j hj => ?_
    rw [← hds, List.getElem?_map] at hj
    cases hlj : l[j]? with
    | none => rw [hlj] at hj; cases hj
    | some oj =>
      rw [hlj] at hj
      exact ((depsB_at hB (i := i) (o := o) (by simpa using hi)).1 t hd).2 j oj (by simpa using hlj) (by simpa using hj)
  refine wpIn_region_inv hW hnd (Ψ := fun t => (look ds φs t).getD (fun _ _ => True)) (ds.filterMap (fun d => d)) ts hm hB hdsts hts Le F hrefl hF ?_ h0 ?_ ?_
  · intro t v W W' h1 h2 h3
    cases hl : look ds φs t with
    | none => simp
    | some φ =>
      simp only [hl, Option.getD_some] at h3 ⊢
      exact look_keeps hφ hl v W W' h1 h2 h3
  · refine obls_of fun i o hi => ?_
    obtain ⟨φ, t, h1, h2, h3⟩ := asks_at hO hi
    have hgo : o.guard = none := by
      have := List.all_eq_true.1 hg o (List.mem_of_getElem? hi)
      simpa using this
    have ht : ts.getD i [] = t := by simp [h2]
    rw [ht]
    intro A W hF' hs
    refine ⟨fun _ => ?_, fun hw => by simp [Region.wanted, hgo] at hw⟩
    have h4 := h3 A.eval W (Std.eval A) hF' (slotsAt_of fun u hu => by
      have h5 := slots_mem hs u hu
      unfold slot at h5
      unfold slotAt
      split at h5
      · rename_i hc
        cases hl : look ds φs u with
        | some φ' => simpa [hl] using h5
        | none =>
          exfalso
          have hmem : u ∈ dsts l.toArray := by rw [hdsts]; simpa using hc
          obtain ⟨j, oj, hj, hdj⟩ := mem_dsts.1 hmem
          obtain ⟨φj, _, hj1, _⟩ := asks_at hO (i := j) (o := oj) (by simpa using hj)
          rw [hat (by simpa using hj) hdj hj1] at hl
          cases hl
      · rename_i hc
        cases hl : look ds φs u with
        | none => exact h5
        | some φ' =>
          exfalso
          refine hc ?_
          have : u ∈ ds.filterMap (fun d => d) := by
            clear hc h5
            have aux : ∀ {ds : List (Option Tmp)} {φs : List (Value → World → Prop)}, look ds φs u = some φ' → some u ∈ ds := by
              intro ds
              induction ds with
              | nil => intro φs h; cases φs <;> cases h
              | cons d ds ih =>
                intro φs h
                cases φs with
                | nil => cases d <;> cases h
                | cons φ φs =>
                  cases d with
                  | none => exact List.mem_cons_of_mem _ (ih h)
                  | some d =>
                    unfold look at h
                    cases hb : Nat.beq d u
                    · rw [hb] at h; exact List.mem_cons_of_mem _ (ih h)
                    · have e : d = u := Nat.eq_of_beq_eq_true hb
                      rw [e]; exact List.mem_cons_self
            exact List.mem_filterMap.2 ⟨some u, aux hl, rfl⟩
          simpa using this)
    cases hd : o.dst with
    | none =>
      have e : ∀ v W, dstPost (fun t => (look ds φs t).getD (fun _ _ => True)) o v W := fun v W => by simp [dstPost, hd]
      generalize (execOp A.eval o).run P W = r at h4
      cases r with
      | ok nx W' =>
        cases nx <;> simp only [RelUpon] at h4 ⊢
        case value v => exact ⟨h4.1, e _ _⟩
        case skip => exact ⟨h4.1, e _ _⟩
        case enter f args => exact h4.mono fun _ _ ⟨v, h5, h6, _⟩ => ⟨v, h5, h6, e _ _⟩
      | halt x W' => simp only [RelUpon] at h4
    | some d =>
      have e : dstPost (fun t => (look ds φs t).getD (fun _ _ => True)) o = φ := by
        funext v W
        simp [dstPost, hd, hat hi hd h1]
      rw [e]; exact h4
  · intro f W hFW hall
    refine hend f W hFW (ends_of fun i t φ h1 h2 => ?_)
    have h3 := hall t (List.mem_filterMap.2 ⟨some t, List.mem_of_getElem? h1, rfl⟩)
    rw [← hds, List.getElem?_map] at h1
    cases hli : l[i]? with
    | none => rw [hli] at h1; cases h1
    | some o =>
      rw [hli] at h1
      rw [hat hli (by simpa using h1) h2] at h3
      exact h3
/-- One operation of the first that may come up. -/
theorem part_stepIn (hW : WideIn Fc) {full : Array Oper} {a0 : Act} {listed : Array Bool} {a : Act} {W : World} {Q : Exit → Act → World → Prop} {K : Act → World → Prop} {i : Nat} {o : Oper} {ts : List Tmp}
    (hB : depsB a0.tmps.size ops = true) (hls : i < listed.size) (hF : ∀ W W', F W → Le W W' → F W') (hΨ : ∀ t v W W', F W → Le W W' → Ψ t v W → Ψ t v W')
    (hi : ops[i]? = some o) (hfull : full[i]? = some o) (hnd : noDefer full = true) (hgd : o.guard = none) (_hun : listed.getD i true = false) (hall : ∀ e ∈ o.after, Region.binds .any e = true → listed.getD e.on false = true) (hts : o.looksAt ops = ts)
    (ho : ∀ (A : Act) (W : World), F W → slots (dsts ops) Ψ a0 A W ts → RelUpon P Le (dstPost Ψ o) W ((execOp A.eval o).run P W))
    (hg : Good F Ψ a0 ops listed a W) (hK : ∀ a' W', Good F Ψ a0 ops (listed.setIfInBounds i true) a' W' → K a' W') : wpOpIn Fc m P full Q i K a W := by
  obtain ⟨hd1, hd2, hd3⟩ := depsB_at hB hi
  -- the slots that are read
  have hsl : slots (dsts ops) Ψ a0 a W ts := slots_of fun t ht => by
    unfold slot
    split
    · rename_i hc
      obtain ⟨j, oj, hj, hdj⟩ := mem_dsts.1 (by simpa using hc)
      obtain ⟨e, he, hb, hon⟩ := hd2 t (by rw [hts]; exact ht) j oj hj hdj
      have hl := hall e he hb
      rw [hon] at hl
      exact hg.done j oj t hj hdj hl
    · rename_i hc
      refine hg.other t fun j oj hj hdj => absurd ?_ hc
      simpa using mem_dsts.2 ⟨j, oj, hj, hdj⟩
  have h1 := ho a W hg.base hsl
  -- what a value does
  have put : ∀ (v : Value) (W' : World), Le W W' → dstPost Ψ o v W' → Good F Ψ a0 ops (listed.setIfInBounds i true) (a.put o.dst v) W' := by
    intro v W' hle hv
    have hbase := hF _ _ hg.base hle
    cases hdst : o.dst with
    | none =>
      refine ⟨hg.defers, hg.size, hbase, fun j oj t hj hdj hl => ?_, fun t ht => hg.other t fun j oj hj hdj => ?_⟩
      · have hne : i ≠ j := by
          rintro rfl
          rw [hi] at hj
          obtain rfl : o = oj := by simpa using hj
          rw [hdst] at hdj; cases hdj
        rw [listed_of_ne hne] at hl
        exact hΨ _ _ _ _ hg.base hle (hg.done j oj t hj hdj hl)
      · have := ht j oj hj hdj
        have hne : i ≠ j := by
          rintro rfl
          rw [hi] at hj
          obtain rfl : o = oj := by simpa using hj
          rw [hdst] at hdj; cases hdj
        rwa [listed_of_ne hne] at this
    | some d =>
      obtain ⟨hdn, huniq⟩ := hd1 d hdst
      have hda : d < a.tmps.size := by rw [hg.size]; exact hdn
      refine ⟨hg.defers, by simp [Act.put, hg.size], hbase, fun j oj t hj hdj hl => ?_, fun t ht => ?_⟩
      · by_cases hne : i = j
        · subst hne
          rw [hi] at hj
          obtain rfl : o = oj := by simpa using hj
          rw [hdst] at hdj
          obtain rfl : d = t := by simpa using hdj
          rw [eval_put_same a hda]
          simpa [dstPost, hdst] using hv
        · rw [listed_of_ne hne] at hl
          have htd : d ≠ t := by
            rintro rfl
            exact hne (huniq j oj hj hdj).symm
          rw [eval_put_other a htd]
          exact hΨ _ _ _ _ hg.base hle (hg.done j oj t hj hdj hl)
      · have htd : d ≠ t := by
          rintro rfl
          have := ht i o hi hdst
          simp [hls] at this
        rw [eval_put_other a htd]
        refine hg.other t fun j oj hj hdj => ?_
        have h2 := ht j oj hj hdj
        have hne : i ≠ j := by
          rintro rfl
          rw [hi] at hj
          obtain rfl : o = oj := by simpa using hj
          rw [hdst] at hdj
          exact htd (by simpa using hdj)
        rwa [listed_of_ne hne] at h2
  unfold wpOpIn
  simp only [hfull]
  have hw : Region.wanted o (yielded full a.tmps) = true := by simp [Region.wanted, hgd]
  rw [if_pos hw]
  unfold Oper.wpIn
  refine ⟨fun f _ => hW.fn f, ?_⟩
  rw [semAt_of hnd hfull]
  generalize (execOp a.eval o).run P W = r at h1
  cases r with
  | ok nx W' =>
    cases nx <;> simp only [RelUpon] at h1 <;> simp only [Oper.uponIn]
    case value v => exact hK _ _ (put v W' h1.1 h1.2)
    case skip => exact hK _ _ (put undef W' h1.1 h1.2)
    case enter f args =>
      refine ⟨(fun hd => by rw [hW.depth] at hd; exact absurd hd (by decide)), ?_⟩
      refine CallsIn.mono (hW.calls h1) ?_
      rintro e W'' ⟨v, rfl, hle, hv⟩
      exact hK _ _ (put v W'' hle hv)
  | halt x W' => simp only [RelUpon] at h1

/-- The last operations, one by one. -/
theorem tail_runIn {Q : Exit → Act → World → Prop} {k : Nat} (hT : tailB k ops = true) (hE : backB ops = true) : ∀ (fuel i : Nat) (listed : Array Bool) (a : Act) (W : World), k ≤ i → i + fuel = ops.size → listed.size = ops.size →
    (∀ j, j < i → listed.getD j true = true) → (∀ j, i ≤ j → j < ops.size → listed.getD j true = false) → wpListIn Fc m P ops Q (ops.toList.drop i) a W → wpAnyIn Fc m P .any ops Q fuel listed a W
  | 0, i, listed, a, W, _, hs, hls, hin, _, h => by
    have hr : Region.ready .any ops listed = [] := by
      rw [List.eq_nil_iff_forall_not_mem]
      intro j hj
      obtain ⟨h1, o, ho, _⟩ := mem_ready.1 hj
      rw [hin j (by have := (Array.getElem?_eq_some_iff.1 ho).1; omega)] at h1
      cases h1
    rw [List.drop_of_length_le (by simp; omega)] at h
    exact ⟨hr, h⟩
  | fuel + 1, i, listed, a, W, hk, hs, hls, hin, hout, h => by
    have hlt : i < ops.size := by omega
    have hi : ops[i]? = some ops[i] := Array.getElem?_eq_getElem hlt
    have hedge : ∀ j, j < i → listed.getD j false = true := fun j hj => by
      have h1 := hin j hj
      have h2 : j < listed.size := by omega
      simp [h2] at h1 ⊢
      exact h1
    refine ⟨fun hr => ?_, fun j hj => ?_⟩
    · exfalso
      have : i ∈ Region.ready .any ops listed := mem_ready.2 ⟨hout i (Nat.le_refl _) hlt, _, hi, fun e he hbd => hedge _ (backB_at hE hi e he hbd)⟩
      rw [hr] at this; cases this
    · obtain ⟨h1, o, ho, hall⟩ := mem_ready.1 hj
      have hjs := (Array.getElem?_eq_some_iff.1 ho).1
      have hij : j = i := by
        rcases Nat.lt_trichotomy j i with h2 | h2 | h2
        · rw [hin j h2] at h1; cases h1
        · exact h2
        · obtain ⟨e, he, hbd, hon⟩ := tailB_at hT ho (by omega) h2
          have h3 := hall e he hbd
          rw [hon] at h3
          have h4 := hout i (Nat.le_refl _) hlt
          have h5 : i < listed.size := by omega
          simp [h5] at h3 h4
          rw [h4] at h3; cases h3
      subst hij
      rw [hi] at ho
      obtain rfl : ops[j] = o := by simpa using ho
      rw [List.drop_eq_getElem_cons (by simpa using hjs)] at h
      have e : ops.toList[j]'(by simpa using hjs) = ops[j] := by simp
      rw [e] at h
      unfold wpListIn at h
      unfold wpOpIn
      simp only [hi]
      have next : ∀ a' W', wpListIn Fc m P ops Q (ops.toList.drop (j + 1)) a' W' → wpAnyIn Fc m P .any ops Q fuel (listed.setIfInBounds j true) a' W' := fun a' W' h' =>
        tail_runIn hT hE fuel (j + 1) _ a' W' (by omega) (by omega) (by simpa using hls)
          (fun j' hj' => by
            by_cases hjj : j = j'
            · subst hjj
              have : j < listed.size := by omega
              simp [this]
            · rw [getD_set_ne true hjj]; exact hin j' (by omega))
          (fun j' hj1 hj2 => by rw [getD_set_ne true (by omega)]; exact hout j' (by omega) hj2) h'
      split
      · rename_i hw
        rw [if_pos hw] at h
        exact Oper.wpIn_mono next h
      · rename_i hw
        rw [if_neg hw] at h
        exact ⟨h.1, next _ _ h.2⟩
/-- **THE FIRST k OPERATIONS IN EVERY ORDER, THE OTHERS IN THEIRS.** -/
theorem wpIn_region_part (hW : WideIn Fc) {l : List Oper} (hnd : noDefer l.toArray = true) {id : Nat} {Q : Exit → Act → World → Prop} {a : Act} {w : World} (k : Nat) (ds : List (Option Tmp)) (ts : List (List Tmp)) (φs : List (Value → World → Prop))
    (hm : P.follows .mixedOrders = true) (hB : depsB a.tmps.size (l.take k).toArray = true) (hT : tailB k l.toArray = true) (hE : backB l.toArray = true) (hg : (l.take k).all (fun o => o.guard.isNone) = true)
    (hds : (l.take k).map (·.dst) = ds) (hts : (l.take k).map (·.looksAt (l.take k).toArray) = ts)
    (Le : World → World → Prop) (F : World → Prop)
    (_hrefl : ∀ W, F W → Le W W) (hF : ∀ W W', F W → Le W W' → F W') (hφ : Keeps Le F φs)
    (h0 : F w.drew) (hO : Asks P Le F ds φs a (l.take k) φs ts)
    (hend : ∀ (f : Tmp → Value) (W : World), F W → Ends f W ds φs → wpListIn Fc m P l.toArray Q (l.drop k) (fin a (ds.filterMap (fun d => d)) f) W) : (Code.region id l.toArray true).wpIn Fc m P Q a w := by
  obtain ⟨p, hp⟩ : ∃ p, p = l.take k := ⟨_, rfl⟩
  rw [← hp] at hB hg hds hts hO
  have hpl : ∀ {i : Nat} {o : Oper}, p[i]? = some o → l[i]? = some o := fun {i o} hi => by
    rw [hp, List.getElem?_take] at hi
    split at hi
    · exact hi
    · cases hi
  have hplt : ∀ {i : Nat} {o : Oper}, p[i]? = some o → i < k := fun {i o} hi => by
    rw [hp, List.getElem?_take] at hi
    split at hi
    · assumption
    · cases hi
  have hlp : ∀ {i : Nat} {o : Oper}, l[i]? = some o → i < k → p[i]? = some o := fun {i o} hi hk => by rw [hp, List.getElem?_take, if_pos hk]; exact hi
  have hdsts : dsts p.toArray = ds.filterMap (fun d => d) := by rw [← hds]; unfold dsts; rw [List.filterMap_map]; rfl
  have hat : ∀ {i : Nat} {o : Oper} {t : Tmp} {φ : Value → World → Prop}, p[i]? = some o → o.dst = some t → φs[i]? = some φ → look ds φs t = some φ := by
    intro i o t φ hi hd hp'
    refine look_at (i := i) (by rw [← hds, List.getElem?_map, hi]; simp [hd]) hp' fun j hj => ?_
    rw [← hds, List.getElem?_map] at hj
    cases hlj : p[j]? with
    | none => rw [hlj] at hj; cases hj
    | some oj =>
      rw [hlj] at hj
      exact ((depsB_at hB (i := i) (o := o) (by simpa using hi)).1 t hd).2 j oj (by simpa using hlj) (by simpa using hj)
  have hΨ : ∀ t v W W', F W → Le W W' → (fun t => (look ds φs t).getD (fun _ _ => True)) t v W → (fun t => (look ds φs t).getD (fun _ _ => True)) t v W' := by
    intro t v W W' h1 h2 h3
    cases hl : look ds φs t with
    | none => simp
    | some φ =>
      simp only [hl, Option.getD_some] at h3 ⊢
      exact look_keeps hφ hl v W W' h1 h2 h3
  have goodEnd : ∀ {listed : Array Bool} {a' : Act} {W : World}, Good F (fun t => (look ds φs t).getD (fun _ _ => True)) a p.toArray listed a' W → (∀ i, i < p.toArray.size → listed.getD i false = true) →
      wpListIn Fc m P l.toArray Q (l.drop k) a' W := by
    intro listed a' W hg' hall
    rw [act_fin (a := a') (a0 := a) (ds := dsts p.toArray) hg'.defers hg'.size (fun t ht => hg'.other t fun i o hi hd => absurd (mem_dsts.2 ⟨i, o, hi, hd⟩) ht), hdsts]
    refine hend _ W hg'.base (ends_of fun i t φ h1 h2 => ?_)
    rw [← hds, List.getElem?_map] at h1
    cases hli : p[i]? with
    | none => rw [hli] at h1; cases h1
    | some o =>
      rw [hli] at h1
      have hd : o.dst = some t := by simpa using h1
      have h3 := hg'.done i o t (by simpa using hli) hd (hall i (by have := (List.getElem?_eq_some_iff.1 hli).1; simpa using this))
      rw [hat hli hd h2] at h3
      exact h3
  refine wpIn_region_any hm ?_
  have main : ∀ (fuel : Nat) (listed : Array Bool) (a' : Act) (W : World), listed.size = l.toArray.size → unl listed l.toArray.size = fuel → (∀ j, k ≤ j → j < l.toArray.size → listed.getD j true = false) →
      Good F (fun t => (look ds φs t).getD (fun _ _ => True)) a p.toArray listed a' W → wpAnyIn Fc m P .any l.toArray Q fuel listed a' W := by
    intro fuel
    induction fuel with
    | zero =>
      intro listed a' W hls hu hout hgood
      have hall := unl_zero hu
      -- nothing is left: so there is no last operation
      have hkn : l.toArray.size ≤ k := by
        rcases Nat.lt_or_ge k l.toArray.size with h1 | h1
        · have h2 := hout k (Nat.le_refl _) h1
          rw [hall k h1] at h2; cases h2
        · exact h1
      have hr : Region.ready .any l.toArray listed = [] := by
        rw [List.eq_nil_iff_forall_not_mem]
        intro i hi
        obtain ⟨h1, o, ho, _⟩ := mem_ready.1 hi
        rw [hall i (Array.getElem?_eq_some_iff.1 ho).1] at h1
        cases h1
      refine ⟨hr, ?_⟩
      have h9 := goodEnd (listed := listed) hgood (fun i hi => by
        have h1 := hall i (by
          have h3 : i < p.length := by simpa using hi
          have h4 : p.length ≤ l.length := by rw [hp, List.length_take]; omega
          simp; omega)
        have h2 : i < listed.size := by
          have h3 : i < p.length := by simpa using hi
          have h4 : p.length ≤ l.length := by rw [hp, List.length_take]; omega
          simp at hls; omega
        simp [h2] at h1 ⊢
        exact h1)
      rw [List.drop_of_length_le (by simpa using hkn)] at h9
      exact h9
    | succ fuel ih =>
      intro listed a' W hls hu hout hgood
      refine ⟨fun hr => ?_, fun i hi => ?_⟩
      · exfalso
        -- the first that has not come up is ready
        have hall : ∀ i, i < l.toArray.size → listed.getD i false = true := by
          intro i
          induction i using Nat.strongRecOn with
          | ind i ihi =>
            intro hi
            by_cases hc : listed.getD i false = true
            · exact hc
            · exfalso
              have hm' : i ∈ Region.ready .any l.toArray listed := by
                refine mem_ready.2 ⟨?_, l.toArray[i], Array.getElem?_eq_getElem hi, fun e he hb => ihi e.on (backB_at hE (Array.getElem?_eq_getElem hi) e he hb) (Nat.lt_trans (backB_at hE (Array.getElem?_eq_getElem hi) e he hb) hi)⟩
                have : i < listed.size := by omega
                simp [this] at hc ⊢
                exact hc
              rw [hr] at hm'
              cases hm'
        have hz : unl listed l.toArray.size = 0 := by
          have : ∀ n, n ≤ l.toArray.size → unl listed n = 0 := by
            intro n
            induction n with
            | zero => intro _; rfl
            | succ n ihn =>
              intro hn
              unfold unl
              have h1 := hall n (by omega)
              have h2 : n < listed.size := by omega
              have h3 : listed.getD n true = true := by simp [h2] at h1 ⊢; exact h1
              rw [ihn (by omega), h3]; simp
          exact this _ (Nat.le_refl _)
        omega
      · obtain ⟨hun, o, ho, hall⟩ := mem_ready.1 hi
        have hlt : i < l.toArray.size := (Array.getElem?_eq_some_iff.1 ho).1
        have hlo : l[i]? = some o := by simpa using ho
        by_cases hik : i < k
        · have hpo := hlp hlo hik
          obtain ⟨φ, t, h1, h2, h3⟩ := asks_at hO hpo
          have hgo : o.guard = none := by
            have := List.all_eq_true.1 hg o (List.mem_of_getElem? hpo)
            simpa using this
          have htl : o.looksAt p.toArray = t := by
            rw [← hts, List.getElem?_map, hpo] at h2
            simpa using h2
          refine part_stepIn hW (ts := t) (ops := p.toArray) (Ψ := fun t => (look ds φs t).getD (fun _ _ => True)) hB (by omega) hF hΨ (by simpa using hpo) ho hnd hgo hun hall htl ?_ hgood (fun a'' W'' hg' => ih _ a'' W'' (by simpa using hls) ?_ ?_ hg')
          · intro A W1 hF' hs
            have h4 := h3 A.eval W1 (Std.eval A) hF' (slotsAt_of fun u hu => slotAt_of (hdsts := hdsts) (fun j oj _ hj hdj => by
                obtain ⟨φj, _, hj1, _⟩ := asks_at hO (i := j) (o := oj) (by simpa using hj)
                exact ⟨φj, hat (by simpa using hj) hdj hj1⟩) (slots_mem hs u hu))
            exact relUpon_dst h4 (fun d hd => hat hpo hd h1)
          · have := unl_set (l := listed) (i := i) hun (by omega) hlt
            omega
          · intro j hj1 hj2
            rw [getD_set_ne true (by omega)]
            exact hout j hj1 hj2
        · -- a last operation: all before it have come up
          have hin : ∀ j, j < i → listed.getD j true = true := fun j hj => by
            obtain ⟨e, he, hbd, hon⟩ := tailB_at hT ho (by omega) hj
            have h3 := hall e he hbd
            rw [hon] at h3
            have h5 : j < listed.size := by omega
            simp [h5] at h3 ⊢
            exact h3
          have hik' : i = k := by
            rcases Nat.lt_or_ge k i with h1 | h1
            · have h2 := hin k h1
              rw [hout k (Nat.le_refl _) (by omega)] at h2; cases h2
            · omega
          subst hik'
          have h9 := goodEnd (listed := listed) hgood (fun j hj => by
            have h3 : j < p.length := by simpa using hj
            have h4 : p.length ≤ i := by rw [hp, List.length_take]; omega
            have h1 := hin j (by omega)
            have h2 : j < listed.size := by omega
            simp [h2] at h1 ⊢
            exact h1)
          have h10 := tail_runIn hT hE (fuel + 1) i listed a' W (Nat.le_refl _) (by
            have : unl listed l.toArray.size = l.toArray.size - i := unl_tail hin hout (by omega)
            omega) hls hin hout h9
          exact h10.2 i hi
  have hcount : ∀ n : Nat, n ≤ l.toArray.size → unl (Array.replicate l.toArray.size false) n = n := by
    intro n
    induction n with
    | zero => intro _; rfl
    | succ n ih =>
      intro hn
      unfold unl
      rw [ih (by omega)]
      have h3 : n < l.length := by simp only [List.size_toArray] at hn; omega
      have : (Array.replicate l.toArray.size false).getD n true = false := by simp [h3]
      rw [this]; simp
  exact main _ _ a w.drew (by simp) (hcount _ (Nat.le_refl _)) (fun j _ hj => by
    have h3 : j < l.length := by simpa using hj
    simp [h3]) ⟨rfl, rfl, h0, fun i o t hi _ hl => by
    have h4 : i < l.length := by
      have h3 : i < p.length := by have := (Array.getElem?_eq_some_iff.1 hi).1; simpa using this
      have h5 : p.length ≤ l.length := by rw [hp, List.length_take]; omega
      omega
    simp [h4] at hl, fun t _ => rfl⟩
end Go.RegInv
