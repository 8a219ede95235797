/- A drawn region with two stores, the second of which waits for all: what the first one does not wait for may come behind it. -/
import Derived.Test.YtjdilmmpdlcimaaR7
namespace Go.RegInv

variable {P : Program}

/-- What kind of operation: one that the first store waits for, another one, the first store, the second one. -/
inductive Kq where
  | pre
  | post
  | s1
  | s2

def seqB (ks : List Kq) (p1 p2 : Nat) (ops : Array Oper) : Bool := (List.range ops.size).all fun i => match ks[i]? with
  | none => false
  | some .pre => reachB ops ops.size p1 i && reachB ops ops.size p2 i
  | some .post => reachB ops ops.size p2 i
  | some .s1 => i == p1 && reachB ops ops.size p2 p1 && ((ops[i]?).bind (·.dst)).isNone
  | some .s2 => i == p2 && ((ops[i]?).bind (·.dst)).isNone

def AskQ (P : Program) (V0 V1 V2 : World) (ds : List (Option Tmp)) (φs : List (Value → World → Prop)) (a0 : Act) (o : Oper) (φ : Value → World → Prop) (t : List Tmp) : Kq → Prop
  | .pre => ∀ (ρ : Operand → Value) (W : World), Std ρ → W = V0 → slotsAt ds φs a0 ρ W t → RelUpon P (fun x y => x = y) φ W ((execOp ρ o).run P W)
  | .post => ∀ (ρ : Operand → Value) (W : World), Std ρ → W = V0 ∨ W = V1 → slotsAt ds φs a0 ρ W t → RelUpon P (fun x y => x = y) φ W ((execOp ρ o).run P W)
  | .s1 => ∀ (ρ : Operand → Value) (W : World), Std ρ → W = V0 → slotsAt ds φs a0 ρ W t → (execOp ρ o).run P W = .ok .skip V1
  | .s2 => ∀ (ρ : Operand → Value) (W : World), Std ρ → W = V1 → slotsAt ds φs a0 ρ W t → (execOp ρ o).run P W = .ok .skip V2
def AsksQ (P : Program) (V0 V1 V2 : World) (ds : List (Option Tmp)) (φs : List (Value → World → Prop)) (a0 : Act) : List Kq → List Oper → List (Value → World → Prop) → List (List Tmp) → Prop
  | .pre :: ks, o :: l, φ :: rest, t :: ts => (∀ (ρ : Operand → Value) (W : World), Std ρ → W = V0 → slotsAt ds φs a0 ρ W t → RelUpon P (fun x y => x = y) φ W ((execOp ρ o).run P W)) ∧ AsksQ P V0 V1 V2 ds φs a0 ks l rest ts
  | .post :: ks, o :: l, φ :: rest, t :: ts => (∀ (ρ : Operand → Value) (W : World), Std ρ → W = V0 ∨ W = V1 → slotsAt ds φs a0 ρ W t → RelUpon P (fun x y => x = y) φ W ((execOp ρ o).run P W)) ∧ AsksQ P V0 V1 V2 ds φs a0 ks l rest ts
  | .s1 :: ks, o :: l, _ :: rest, t :: ts => (∀ (ρ : Operand → Value) (W : World), Std ρ → W = V0 → slotsAt ds φs a0 ρ W t → (execOp ρ o).run P W = .ok .skip V1) ∧ AsksQ P V0 V1 V2 ds φs a0 ks l rest ts
  | .s2 :: ks, o :: l, _ :: rest, t :: ts => (∀ (ρ : Operand → Value) (W : World), Std ρ → W = V1 → slotsAt ds φs a0 ρ W t → (execOp ρ o).run P W = .ok .skip V2) ∧ AsksQ P V0 V1 V2 ds φs a0 ks l rest ts
  | [], [], _, _ => True
  | _, _, _, _ => False
theorem asksQ_at {V0 V1 V2 : World} {ds : List (Option Tmp)} {φs : List (Value → World → Prop)} {a0 : Act} : ∀ {ks : List Kq} {l : List Oper} {rest : List (Value → World → Prop)} {ts : List (List Tmp)}, AsksQ P V0 V1 V2 ds φs a0 ks l rest ts → ∀ {i : Nat} {o : Oper}, l[i]? = some o →
    ∃ k φ t, ks[i]? = some k ∧ rest[i]? = some φ ∧ ts[i]? = some t ∧ AskQ P V0 V1 V2 ds φs a0 o φ t k
  | .pre :: _, o' :: _, φ :: _, t :: _, h, 0, o, hi => by
    obtain rfl : o' = o := by simpa using hi
    exact ⟨_, φ, t, rfl, rfl, rfl, h.1⟩
  | .pre :: _, _ :: _, _ :: _, _ :: _, h, i + 1, o, hi => by
    obtain ⟨k, φ, t, h1, h2, h3, h4⟩ := asksQ_at h.2 (i := i) (o := o) (by simpa using hi)
    exact ⟨k, φ, t, by simpa using h1, by simpa using h2, by simpa using h3, h4⟩
  | .pre :: _, [], _, _, h, _, _, hi => by simp at hi
  | .pre :: _, _ :: _, [], _, h, _, _, _ => h.elim
  | .pre :: _, _ :: _, _ :: _, [], h, _, _, _ => h.elim
  | .post :: _, o' :: _, φ :: _, t :: _, h, 0, o, hi => by
    obtain rfl : o' = o := by simpa using hi
    exact ⟨_, φ, t, rfl, rfl, rfl, h.1⟩
  | .post :: _, _ :: _, _ :: _, _ :: _, h, i + 1, o, hi => by
    obtain ⟨k, φ, t, h1, h2, h3, h4⟩ := asksQ_at h.2 (i := i) (o := o) (by simpa using hi)
    exact ⟨k, φ, t, by simpa using h1, by simpa using h2, by simpa using h3, h4⟩
  | .post :: _, [], _, _, h, _, _, hi => by simp at hi
  | .post :: _, _ :: _, [], _, h, _, _, _ => h.elim
  | .post :: _, _ :: _, _ :: _, [], h, _, _, _ => h.elim
  | .s1 :: _, o' :: _, φ :: _, t :: _, h, 0, o, hi => by
    obtain rfl : o' = o := by simpa using hi
    exact ⟨_, φ, t, rfl, rfl, rfl, h.1⟩
  | .s1 :: _, _ :: _, _ :: _, _ :: _, h, i + 1, o, hi => by
    obtain ⟨k, φ, t, h1, h2, h3, h4⟩ := asksQ_at h.2 (i := i) (o := o) (by simpa using hi)
    exact ⟨k, φ, t, by simpa using h1, by simpa using h2, by simpa using h3, h4⟩
  | .s1 :: _, [], _, _, h, _, _, hi => by simp at hi
  | .s1 :: _, _ :: _, [], _, h, _, _, _ => h.elim
  | .s1 :: _, _ :: _, _ :: _, [], h, _, _, _ => h.elim
  | .s2 :: _, o' :: _, φ :: _, t :: _, h, 0, o, hi => by
    obtain rfl : o' = o := by simpa using hi
    exact ⟨_, φ, t, rfl, rfl, rfl, h.1⟩
  | .s2 :: _, _ :: _, _ :: _, _ :: _, h, i + 1, o, hi => by
    obtain ⟨k, φ, t, h1, h2, h3, h4⟩ := asksQ_at h.2 (i := i) (o := o) (by simpa using hi)
    exact ⟨k, φ, t, by simpa using h1, by simpa using h2, by simpa using h3, h4⟩
  | .s2 :: _, [], _, _, h, _, _, hi => by simp at hi
  | .s2 :: _, _ :: _, [], _, h, _, _, _ => h.elim
  | .s2 :: _, _ :: _, _ :: _, [], h, _, _, _ => h.elim
  | [], [], _, _, _, _, _, hi => by simp at hi
  | [], _ :: _, _, _, h, _, _, _ => h.elim
/-- **TWO STORES, THE SECOND BEHIND ALL.** `V1`, `V2`: the worlds behind them. -/
theorem wp_region_seq {id : Nat} {Q : Exit → Act → World → Prop} {a : Act} {w : World} {l : List Oper} (ks : List Kq) (p1 p2 : Nat) (ds : List (Option Tmp)) (ts : List (List Tmp)) (φs : List (Value → World → Prop))
    (hm : P.follows .mixedOrders = true) (hB : depsB a.tmps.size l.toArray = true) (hT : seqB ks p1 p2 l.toArray = true) (hg : l.all (fun o => o.guard.isNone) = true)
    (hp1 : decide (p1 < l.length) = true) (hp2 : decide (p2 < l.length) = true) (hk1 : ks[p1]? = some .s1) (hk2 : ks[p2]? = some .s2)
    (hds : l.map (·.dst) = ds) (hts : l.map (·.looksAt l.toArray) = ts)
    (hφ : Keeps (fun _ _ => True) (fun _ => True) φs) (V1 V2 : World)
    (hO : AsksQ P w.drew V1 V2 ds φs a ks l φs ts)
    (hend : ∀ (f : Tmp → Value), Ends f V2 ds φs → Q .normal (fin a (ds.filterMap (fun d => d)) f) V2) : (Code.region id l.toArray true).wp P Q a w := by
  have hp1 := of_decide_eq_true hp1
  have hp2 := of_decide_eq_true hp2
  have hF : ∀ (W W' : World), (fun (_ : World) => True) W → (fun (_ _ : World) => True) W W' → (fun (_ : World) => True) W' := fun _ _ _ _ => trivial
  have hdsts : dsts l.toArray = ds.filterMap (fun d => d) := by rw [← hds]; unfold dsts; rw [List.filterMap_map]; rfl
  have hat : ∀ {i : Nat} {o : Oper} {t : Tmp} {φ : Value → World → Prop}, l[i]? = some o → o.dst = some t → φs[i]? = some φ → look ds φs t = some φ := by
    intro i o t φ hi hd hp
    refine look_at (i := i) (by rw [← hds, List.getElem?_map, hi]; simp [hd]) hp fun j hj => ?_
    rw [← hds, List.getElem?_map] at hj
    cases hlj : l[j]? with
    | none => rw [hlj] at hj; cases hj
    | some oj =>
      rw [hlj] at hj
      exact ((depsB_at hB (i := i) (o := o) (by simpa using hi)).1 t hd).2 j oj (by simpa using hlj) (by simpa using hj)
  have hG : ∀ (i : Nat) (o : Oper), l.toArray[i]? = some o → o.guard = none := fun i o hi => by
    have := List.all_eq_true.1 hg o (List.mem_of_getElem? (by simpa using hi))
    simpa using this
  have hpred : ∀ {i : Nat} {o : Oper}, l[i]? = some o → ∃ k φ, ks[i]? = some k ∧ φs[i]? = some φ ∧ AskQ P w.drew V1 V2 ds φs a o φ (o.looksAt l.toArray) k := by
    intro i o hi
    obtain ⟨k, φ, t, h1, h2, h3, h4⟩ := asksQ_at hO hi
    refine ⟨k, φ, h1, h2, ?_⟩
    rw [← hts, List.getElem?_map, hi] at h3
    rw [show o.looksAt l.toArray = t by simpa using h3]
    exact h4
  have hΨ := lookK (F := fun _ => True) (Le := fun _ _ => True) hφ (ds := ds)
  -- slots that are read, as the obligations want them
  have hslots : ∀ {listed : Array Bool} {a' : Act} {W : World} {o : Oper} {i : Nat}, Good (fun _ => True) (fun t => (look ds φs t).getD (fun _ _ => True)) a l.toArray listed a' W → l.toArray[i]? = some o →
      (∀ e ∈ o.after, Region.binds .any e = true → listed.getD e.on false = true) → slotsAt ds φs a a'.eval W (o.looksAt l.toArray) := by
    intro listed a' W o i hgood ho hall
    refine slotsAt_of fun u hu => ?_
    unfold slotAt
    cases hl : look ds φs u with
    | none =>
      refine hgood.other u fun j oj hj hdj => ?_
      obtain ⟨k, φ, h1, h2, -⟩ := hpred (i := j) (o := oj) (by simpa using hj)
      rw [hat (by simpa using hj) hdj h2] at hl; cases hl
    | some φ =>
      have hm : some u ∈ ds := look_mem hl
      obtain ⟨j, hj⟩ := List.mem_iff_getElem?.1 hm
      rw [← hds, List.getElem?_map] at hj
      cases hlj : l[j]? with
      | none => rw [hlj] at hj; cases hj
      | some oj =>
        rw [hlj] at hj
        have hdj : oj.dst = some u := by simpa using hj
        obtain ⟨e, he, hb, hon⟩ := (depsB_at hB ho).2.1 u hu j oj (by simpa using hlj) hdj
        have h1 := hall e he hb
        rw [hon] at h1
        have h2 := hgood.done j oj u (by simpa using hlj) hdj h1
        simpa [hl] using h2
  have htest : ∀ (i : Nat) (k : Kq), i < l.toArray.size → ks[i]? = some k → (match k with
      | .pre => reachB l.toArray l.toArray.size p1 i = true ∧ reachB l.toArray l.toArray.size p2 i = true
      | .post => reachB l.toArray l.toArray.size p2 i = true
      | .s1 => i = p1 ∧ reachB l.toArray l.toArray.size p2 p1 = true ∧ ((l.toArray[i]?).bind (·.dst)) = none
      | .s2 => i = p2 ∧ ((l.toArray[i]?).bind (·.dst)) = none) := by
    intro i k hi hk
    unfold seqB at hT
    rw [List.all_eq_true] at hT
    have h1 := hT i (List.mem_range.2 hi)
    rw [hk] at h1
    cases k with
    | pre => simpa using h1
    | post => simpa using h1
    | s1 =>
      simp only [Bool.and_eq_true, beq_iff_eq] at h1
      exact ⟨h1.1.1, h1.1.2, Option.isNone_iff_eq_none.1 h1.2⟩
    | s2 =>
      simp only [Bool.and_eq_true, beq_iff_eq] at h1
      exact ⟨h1.1, Option.isNone_iff_eq_none.1 h1.2⟩
  have hsz1 : p1 < l.toArray.size := by simpa using hp1
  have hsz2 : p2 < l.toArray.size := by simpa using hp2
  obtain ⟨o2, ho2⟩ : ∃ o, l.toArray[p2]? = some o := ⟨_, Array.getElem?_eq_getElem hsz2⟩
  obtain ⟨o1, ho1⟩ : ∃ o, l.toArray[p1]? = some o := ⟨_, Array.getElem?_eq_getElem hsz1⟩
  have hr21 := (htest p1 _ hsz1 hk1).2.1
  refine wp_region_any hm ?_
  have hend' : ∀ (listed : Array Bool) (a' : Act), (∀ i, i < l.toArray.size → listed.getD i false = true) → Good (fun _ => True) (fun t => (look ds φs t).getD (fun _ _ => True)) a l.toArray listed a' V2 → Q .normal a' V2 := by
    intro listed a' hall hgood
    rw [act_fin (a := a') (a0 := a) (ds := dsts l.toArray) hgood.defers hgood.size (fun t ht => hgood.other t fun i o hi hd => absurd (mem_dsts.2 ⟨i, o, hi, hd⟩) ht), hdsts]
    refine hend _ (ends_of fun i t φ h1 h2 => ?_)
    rw [← hds, List.getElem?_map] at h1
    cases hli : l[i]? with
    | none => rw [hli] at h1; cases h1
    | some o =>
      rw [hli] at h1
      have hi' : l.toArray[i]? = some o := by simpa using hli
      have h3 := hgood.done i o t hi' (by simpa using h1) (hall i (Array.getElem?_eq_some_iff.1 hi').1)
      rw [hat hli (by simpa using h1) h2] at h3
      exact h3
  -- which stores have come up, and the world
  have main : ∀ (fuel : Nat) (listed : Array Bool) (a' : Act) (W : World), listed.size = l.toArray.size → unl listed l.toArray.size = fuel → Closed l.toArray listed →
      ((listed.getD p1 false = false ∧ listed.getD p2 false = false ∧ W = w.drew) ∨ (listed.getD p1 false = true ∧ listed.getD p2 false = false ∧ W = V1) ∨ (listed.getD p1 false = true ∧ listed.getD p2 false = true ∧ W = V2)) →
      Good (fun _ => True) (fun t => (look ds φs t).getD (fun _ _ => True)) a l.toArray listed a' W → wpAny P .any l.toArray Q fuel listed a' W := by
    intro fuel
    have fin' : ∀ (listed : Array Bool) (a' : Act) (W : World), (∀ i, i < l.toArray.size → listed.getD i false = true) →
      ((listed.getD p1 false = false ∧ listed.getD p2 false = false ∧ W = w.drew) ∨ (listed.getD p1 false = true ∧ listed.getD p2 false = false ∧ W = V1) ∨ (listed.getD p1 false = true ∧ listed.getD p2 false = true ∧ W = V2)) →
      Good (fun _ => True) (fun t => (look ds φs t).getD (fun _ _ => True)) a l.toArray listed a' W → Q .normal a' W := by
      intro listed a' W hall hph hgood
      have h1 := hall p1 hsz1
      have h2 := hall p2 hsz2
      rcases hph with ⟨e1, -, -⟩ | ⟨-, e2, -⟩ | ⟨-, -, rfl⟩
      · rw [h1] at e1; cases e1
      · rw [h2] at e2; cases e2
      · exact hend' listed a' hall hgood
    induction fuel with
    | zero =>
      intro listed a' W hls hu hcl hph hgood
      have hall0 := unl_zero hu
      have hall : ∀ i, i < l.toArray.size → listed.getD i false = true := fun i hi => by
        have h1 := hall0 i hi
        have h2 : i < listed.size := by omega
        simp [h2] at h1 ⊢
        exact h1
      have hr : Region.ready .any l.toArray listed = [] := by
        rw [List.eq_nil_iff_forall_not_mem]
        intro i hi
        obtain ⟨h1, o, ho, _⟩ := mem_ready.1 hi
        rw [hall0 i (Array.getElem?_eq_some_iff.1 ho).1] at h1
        cases h1
      exact ⟨hr, fin' listed a' W hall hph hgood⟩
    | succ fuel ih =>
      intro listed a' W hls hu hcl hph hgood
      refine ⟨fun hr => fin' listed a' W (all_listed hB hls hr) hph hgood, fun i hi => ?_⟩
      obtain ⟨hun, o, ho, hall⟩ := mem_ready.1 hi
      have hlt : i < l.toArray.size := (Array.getElem?_eq_some_iff.1 ho).1
      have hlo : l[i]? = some o := by simpa using ho
      have hunf : listed.getD i false = false := by
        have : i < listed.size := by omega
        simp [this] at hun ⊢
        exact hun
      obtain ⟨k, φ, hk, hφi, hask⟩ := hpred hlo
      have hsl := hslots hgood ho hall
      have hu2 : unl (listed.setIfInBounds i true) l.toArray.size = fuel := by
        have := unl_set (l := listed) (i := i) hun (by omega) hlt
        omega
      have hset : ∀ j, j ≠ i → (listed.setIfInBounds i true).getD j false = listed.getD j false := fun j hj => getD_set_ne false (fun e => hj e.symm)
      have hseti : (listed.setIfInBounds i true).getD i false = true := by
        have : i < listed.size := by omega
        simp [this]
      -- a store that has come up had waited
      have waited : ∀ (j : Nat) (oj : Oper) (q : Nat), l.toArray[j]? = some oj → listed.getD j false = true → reachB l.toArray l.toArray.size j q = true → listed.getD q false = true := fun j oj q hj hl hr =>
        reach_listed hcl _ _ _ hr (fun o' ho' => by
          rw [hj] at ho'
          obtain rfl : oj = o' := by simpa using ho'
          exact hcl j oj hj hl) oj hj
      have hpost : ∀ v W', φ v W' → dstPost (fun t => (look ds φs t).getD (fun _ _ => True)) o v W' := fun v W' hv => by
        unfold dstPost
        cases hd : o.dst with
        | none => trivial
        | some d =>
          simp only [hat hlo hd hφi, Option.getD_some]
          exact hv
      have hput : ∀ v W', dstPost (fun t => (look ds φs t).getD (fun _ _ => True)) o v W' → Good (fun _ => True) (fun t => (look ds φs t).getD (fun _ _ => True)) a l.toArray (listed.setIfInBounds i true) (a'.put o.dst v) W' := fun v W' hv =>
        good_put (Le := fun _ _ => True) hB (by omega) hF hΨ ho hgood v W' trivial hv
      have hclS := hcl.set ho hall
      have hlsS : (listed.setIfInBounds i true).size = l.toArray.size := by simpa using hls
      have ht := htest i k hlt hk
      -- an operation that is no store
      have plain : i ≠ p1 → i ≠ p2 → RelUpon P (fun x y => x = y) φ W ((execOp a'.eval o).run P W) → wpOp P l.toArray Q i (wpAny P .any l.toArray Q fuel (listed.setIfInBounds i true)) a' W := fun n1 n2 h => by
        refine op_out (Le := fun x y => x = y) (φ := φ) ho (hG i o ho) h (fun v W' hW hv => ?_)
        subst hW
        refine ih _ _ _ hlsS hu2 hclS ?_ (hput v _ (hpost v _ hv))
        rw [hset p1 (fun e => n1 e.symm), hset p2 (fun e => n2 e.symm)]
        exact hph
      have nodst : ((l.toArray[i]?).bind (·.dst)) = none → o.dst = none := fun h => by
        rw [ho] at h; simpa using h
      cases k with
      | pre =>
        have n1 : i ≠ p1 := by rintro rfl; rw [hk1] at hk; cases hk
        have n2 : i ≠ p2 := by rintro rfl; rw [hk2] at hk; cases hk
        rcases hph with ⟨-, -, rfl⟩ | ⟨e1, -, -⟩ | ⟨e1, -, -⟩
        · exact plain n1 n2 (hask a'.eval _ (Std.eval a') rfl hsl)
        · have := waited p1 o1 i ho1 e1 ht.1
          rw [hunf] at this; cases this
        · have := waited p1 o1 i ho1 e1 ht.1
          rw [hunf] at this; cases this
      | post =>
        have n1 : i ≠ p1 := by rintro rfl; rw [hk1] at hk; cases hk
        have n2 : i ≠ p2 := by rintro rfl; rw [hk2] at hk; cases hk
        rcases hph with ⟨-, -, rfl⟩ | ⟨-, -, rfl⟩ | ⟨-, e2, -⟩
        · exact plain n1 n2 (hask a'.eval _ (Std.eval a') (.inl rfl) hsl)
        · exact plain n1 n2 (hask a'.eval _ (Std.eval a') (.inr rfl) hsl)
        · have := waited p2 o2 i ho2 e2 ht
          rw [hunf] at this; cases this
      | s1 =>
        obtain ⟨rfl, -, hd⟩ := ht
        have hd := nodst hd
        have n2 : p2 ≠ i := by rintro rfl; rw [hk2] at hk; cases hk
        rcases hph with ⟨-, e2, rfl⟩ | ⟨e1, -, -⟩ | ⟨e1, -, -⟩
        · refine op_out (Le := fun _ y => y = V1) (φ := fun _ _ => True) ho (hG i o ho) ?_ (fun v W' hW _ => ?_)
          · rw [hask a'.eval _ (Std.eval a') rfl hsl]
            exact ⟨rfl, trivial⟩
          · subst hW
            refine ih _ _ _ hlsS hu2 hclS ?_ (hput v _ (by unfold dstPost; rw [hd]; trivial))
            rw [hseti, hset p2 n2]
            exact .inr (.inl ⟨rfl, e2, rfl⟩)
        · rw [hunf] at e1; cases e1
        · rw [hunf] at e1; cases e1
      | s2 =>
        obtain ⟨rfl, hd⟩ := ht
        have hd := nodst hd
        have n1 : p1 ≠ i := by rintro rfl; rw [hk1] at hk; cases hk
        have h1 : listed.getD p1 false = true := reach_listed hcl _ _ _ hr21 (fun o' ho' => by
          rw [ho] at ho'
          obtain rfl : o = o' := by simpa using ho'
          exact hall) o ho
        rcases hph with ⟨e1, -, -⟩ | ⟨-, -, rfl⟩ | ⟨-, e2, -⟩
        · rw [h1] at e1; cases e1
        · refine op_out (Le := fun _ y => y = V2) (φ := fun _ _ => True) ho (hG i o ho) ?_ (fun v W' hW _ => ?_)
          · rw [hask a'.eval _ (Std.eval a') rfl hsl]
            exact ⟨rfl, trivial⟩
          · subst hW
            refine ih _ _ _ hlsS hu2 hclS ?_ (hput v _ (by unfold dstPost; rw [hd]; trivial))
            rw [hseti, hset p1 n1]
            exact .inr (.inr ⟨h1, rfl, rfl⟩)
        · rw [hunf] at e2; cases e2
  have hcount : ∀ n : Nat, n ≤ l.toArray.size → unl (Array.replicate l.toArray.size false) n = n := by
    intro n
    induction n with
    | zero => intro _; rfl
    | succ n ih =>
      intro hn
      unfold unl
      rw [ih (by omega)]
      have h3 : n < l.length := by simp only [List.size_toArray] at hn; omega
      have : (Array.replicate l.toArray.size false).getD n true = false := by simp [h3]
      rw [this]; simp
  have hfalse : ∀ j, (Array.replicate l.toArray.size false).getD j false = false := fun j => by
    by_cases h : j < l.length <;> simp [h]
  have nope : ∀ {p : Prop} (j : Nat), (Array.replicate l.toArray.size false).getD j false = true → p := fun j h => by rw [hfalse j] at h; cases h
  exact main _ _ a w.drew (by simp) (hcount _ (Nat.le_refl _)) (fun j oj hj hl => nope j hl) (.inl ⟨hfalse _, hfalse _, rfl⟩)
    ⟨rfl, rfl, trivial, fun i o t _ _ hl => nope i hl, fun t _ => rfl⟩
end Go.RegInv
