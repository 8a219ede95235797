/- A region that draws its order, whose operations read, make new memory and call: each slot gets a predicate that later steps keep; one look at each operation serves every order. -/
import Derived.WalkKit
import Derived.BigFrame
namespace Go.RegInv

variable {P : Program} {Le : World → World → Prop} {F : World → Prop} {Ψ : Tmp → Value → World → Prop}

def RelUpon (P : Program) (Le : World → World → Prop) (Φ : Value → World → Prop) (W : World) : Result Next → Prop
  | .ok (.value v) W' => Le W W' ∧ Φ v W'
  | .ok .skip W' => Le W W' ∧ Φ undef W'
  | .ok (.enter f args) W' => Calls P f args W' fun e W'' => ∃ v, e = .returned v ∧ Le W W'' ∧ Φ v W''
  | _ => False

theorem RelUpon_value {Φ : Value → World → Prop} {W W' : World} (v : Value) : RelUpon P Le Φ W (.ok (.value v) W') = (Le W W' ∧ Φ v W') := rfl
theorem RelUpon_skip {Φ : Value → World → Prop} {W W' : World} : RelUpon P Le Φ W (.ok .skip W') = (Le W W' ∧ Φ undef W') := rfl
theorem RelUpon_enter {Φ : Value → World → Prop} {W W' : World} (f : FuncId) (args : Array Value) :
    RelUpon P Le Φ W (.ok (.enter f args) W') = Calls P f args W' fun e W'' => ∃ v, e = .returned v ∧ Le W W'' ∧ Φ v W'' := rfl

def dsts (ops : Array Oper) : List Tmp := ops.toList.filterMap (·.dst)

def slot (ds : List Tmp) (Ψ : Tmp → Value → World → Prop) (a0 : Act) (t : Tmp) (v : Value) (W : World) : Prop :=
  if ds.contains t then Ψ t v W else v = a0.eval (.tmp t)

def slots (ds : List Tmp) (Ψ : Tmp → Value → World → Prop) (a0 : Act) (A : Act) (W : World) : List Tmp → Prop
  | [] => True
  | t :: ts => slot ds Ψ a0 t (A.eval (.tmp t)) W ∧ slots ds Ψ a0 A W ts

theorem slots_of {ds : List Tmp} {a0 A : Act} {W : World} : ∀ {ts : List Tmp}, (∀ t ∈ ts, slot ds Ψ a0 t (A.eval (.tmp t)) W) → slots ds Ψ a0 A W ts
  | [], _ => trivial
  | t :: _, h => ⟨h t (by simp), slots_of fun u hu => h u (by simp [hu])⟩

def dstPost (Ψ : Tmp → Value → World → Prop) (o : Oper) (v : Value) (W : World) : Prop :=
  match o.dst with
  | some t => Ψ t v W
  | none => True

/-- What is asked of one operation. -/
def Obl (P : Program) (Le : World → World → Prop) (F : World → Prop) (ds : List Tmp) (Ψ : Tmp → Value → World → Prop) (a0 : Act) (ops : Array Oper) (o : Oper) (ts : List Tmp) : Prop :=
  ∀ (A : Act) (W : World), F W → slots ds Ψ a0 A W ts →
    (Region.wanted o (yielded ops A.tmps) = true → RelUpon P Le (dstPost Ψ o) W ((execOp A.eval o).run P W)) ∧
    (Region.wanted o (yielded ops A.tmps) = false → dstPost Ψ o undef W)

def Obls (P : Program) (Le : World → World → Prop) (F : World → Prop) (ds : List Tmp) (Ψ : Tmp → Value → World → Prop) (a0 : Act) (ops : Array Oper) : List Oper → List (List Tmp) → Prop
  | [], _ => True
  | o :: l, ts => Obl P Le F ds Ψ a0 ops o (ts.headD []) ∧ Obls P Le F ds Ψ a0 ops l ts.tail

theorem obls_at {ds : List Tmp} {a0 : Act} {ops : Array Oper} : ∀ {l : List Oper} {ts : List (List Tmp)}, Obls P Le F ds Ψ a0 ops l ts → ∀ {i : Nat} {o : Oper}, l[i]? = some o →
    Obl P Le F ds Ψ a0 ops o (ts.getD i [])
  | o' :: _, ts, h, 0, o, hi => by
    have h2 : o' = o := by simpa using hi
    subst h2
    have e : ts.headD [] = ts.getD 0 [] := by cases ts <;> rfl
    rw [← e]; exact h.1
  | _ :: _, ts, h, i + 1, o, hi => by
    have := obls_at h.2 (i := i) (o := o) (by simpa using hi)
    have e : ts.tail.getD i [] = ts.getD (i + 1) [] := by cases ts <;> simp
    rw [← e]; exact this
  | [], _, _, _, _, hi => by simp at hi

/-- Each slot is written once and lies in the frame; who reads a slot that the region writes waits for its writer; edges lead back. -/
def depsB (n : Nat) (ops : Array Oper) : Bool :=
  (List.range ops.size).all fun i => match ops[i]? with
    | none => true
    | some o =>
      (match o.dst with
        | none => true
        | some t => decide (t < n) && (List.range ops.size).all fun j => j == i || ((ops[j]?).bind (·.dst)) != some t) &&
      ((o.looksAt ops).all fun t => (List.range ops.size).all fun j => ((ops[j]?).bind (·.dst)) != some t || o.after.any fun e => Region.binds .any e && e.on == j) &&
      o.after.all fun e => !Region.binds .any e || decide (e.on < i)

section
variable {n : Nat} {ops : Array Oper}
theorem depsB_at (h : depsB n ops = true) {i : Nat} {o : Oper} (hi : ops[i]? = some o) :
    (∀ t, o.dst = some t → t < n ∧ ∀ j oj, ops[j]? = some oj → oj.dst = some t → j = i) ∧
    (∀ t ∈ o.looksAt ops, ∀ j oj, ops[j]? = some oj → oj.dst = some t → ∃ e ∈ o.after, Region.binds .any e = true ∧ e.on = j) ∧
    (∀ e ∈ o.after, Region.binds .any e = true → e.on < i) := by
  have hlt : i < ops.size := (Array.getElem?_eq_some_iff.1 hi).1
  unfold depsB at h
  rw [List.all_eq_true] at h
  have h1 := h i (List.mem_range.2 hlt)
  simp only [hi, Bool.and_eq_true] at h1
  obtain ⟨⟨ha, hb⟩, hc⟩ := h1
  refine ⟨fun t ht => ?_, fun t ht j oj hj hd => ?_, fun e he hbd => ?_⟩
  · simp only [ht, Bool.and_eq_true, decide_eq_true_eq, List.all_eq_true, List.mem_range, Bool.or_eq_true, beq_iff_eq, bne_iff_ne] at ha
    refine ⟨ha.1, fun j oj hj hd => ?_⟩
    rcases ha.2 j (Array.getElem?_eq_some_iff.1 hj).1 with h2 | h2
    · exact h2
    · exact absurd (by simp [hj, hd]) h2
  · rw [List.all_eq_true] at hb
    have h2 := hb t ht
    rw [List.all_eq_true] at h2
    have h3 := h2 j (List.mem_range.2 (Array.getElem?_eq_some_iff.1 hj).1)
    simp only [hj, Option.bind_some, hd, bne_self_eq_false, Bool.false_or] at h3
    obtain ⟨e, he, h4⟩ := Array.any_eq_true'.1 h3
    simp only [Bool.and_eq_true, beq_iff_eq] at h4
    exact ⟨e, he, h4.1, h4.2⟩
  · have h2 := Array.all_eq_true_iff_forall_mem.1 hc e he
    simp only [hbd, Bool.not_true, Bool.false_or, decide_eq_true_eq] at h2
    exact h2

structure Good (F : World → Prop) (Ψ : Tmp → Value → World → Prop) (a0 : Act) (ops : Array Oper) (listed : Array Bool) (a : Act) (W : World) : Prop where
  defers : a.defers = a0.defers
  size : a.tmps.size = a0.tmps.size
  base : F W
  done : ∀ i o t, ops[i]? = some o → o.dst = some t → listed.getD i false = true → Ψ t (a.eval (.tmp t)) W
  other : ∀ t, (∀ i o, ops[i]? = some o → o.dst = some t → listed.getD i false = false) → a.eval (.tmp t) = a0.eval (.tmp t)

theorem mem_dsts {t : Tmp} : t ∈ dsts ops ↔ ∃ (i : Nat) (o : Oper), ops[i]? = some o ∧ o.dst = some t := by
  unfold dsts
  rw [List.mem_filterMap]
  constructor
  · rintro ⟨o, ho, hd⟩
    obtain ⟨i, hi, he⟩ := Array.mem_iff_getElem.1 (Array.mem_toList_iff.1 ho)
    exact ⟨i, o, by rw [Array.getElem?_eq_getElem hi, he], hd⟩
  · rintro ⟨i, o, hi, hd⟩
    exact ⟨o, Array.mem_toList_iff.2 (Array.mem_of_getElem? hi), hd⟩

theorem eval_put_same (a : Act) {t : Tmp} (ht : t < a.tmps.size) (v : Value) : (a.put (some t) v).eval (.tmp t) = v := by
  simp [Act.eval, Act.put, ht]
theorem eval_put_other (a : Act) {t u : Tmp} (h : t ≠ u) (v : Value) : (a.put (some t) v).eval (.tmp u) = a.eval (.tmp u) :=
  Act.eval_put fun d hd e => by simp at hd e; exact h (by rw [hd, e])

theorem listed_of_ne {listed : Array Bool} {i j : Nat} (h : i ≠ j) : (listed.setIfInBounds i true).getD j false = listed.getD j false := getD_set_ne false h

/-- One operation that may come up. -/
theorem good_step {a0 : Act} {listed : Array Bool} {a : Act} {W : World} {Q : Exit → Act → World → Prop} {K : Act → World → Prop} {i : Nat} {o : Oper} {ts : List Tmp}
    (hB : depsB a0.tmps.size ops = true) (hls : listed.size = ops.size) (hF : ∀ W W', F W → Le W W' → F W') (hΨ : ∀ t v W W', F W → Le W W' → Ψ t v W → Ψ t v W')
    (hi : ops[i]? = some o) (hr : i ∈ Region.ready .any ops listed) (hts : o.looksAt ops = ts) (ho : Obl P Le F (dsts ops) Ψ a0 ops o ts) (hrefl : ∀ W, F W → Le W W)
    (hg : Good F Ψ a0 ops listed a W) (hK : ∀ a' W', Good F Ψ a0 ops (listed.setIfInBounds i true) a' W' → K a' W') : wpOp P ops Q i K a W := by
  obtain ⟨hd1, hd2, hd3⟩ := depsB_at hB hi
  obtain ⟨hun, o', ho', hall⟩ := mem_ready.1 hr
  rw [hi] at ho'
  obtain rfl : o = o' := by simpa using ho'
  have hlt : i < ops.size := (Array.getElem?_eq_some_iff.1 hi).1
  have hun' : listed.getD i false = false := by
    have : i < listed.size := by omega
    simp [this] at hun ⊢
    exact hun
  -- the slots that are read
  have hsl : slots (dsts ops) Ψ a0 a W ts := slots_of fun t ht => by
    unfold slot
    split
    · rename_i hc
      obtain ⟨j, oj, hj, hdj⟩ := mem_dsts.1 (by simpa using hc)
      obtain ⟨e, he, hb, hon⟩ := hd2 t (by rw [hts]; exact ht) j oj hj hdj
      have hl := hall e he hb
      rw [hon] at hl
      exact hg.done j oj t hj hdj hl
    · rename_i hc
      refine hg.other t fun j oj hj hdj => absurd ?_ hc
      simpa using mem_dsts.2 ⟨j, oj, hj, hdj⟩
  obtain ⟨hyes, hno⟩ := ho a W hg.base hsl
  -- what a value does
  have put : ∀ (v : Value) (W' : World), Le W W' → dstPost Ψ o v W' → Good F Ψ a0 ops (listed.setIfInBounds i true) (a.put o.dst v) W' := by
    intro v W' hle hv
    have hbase := hF _ _ hg.base hle
    cases hdst : o.dst with
    | none =>
      refine ⟨hg.defers, hg.size, hbase, fun j oj t hj hdj hl => ?_, fun t ht => hg.other t fun j oj hj hdj => ?_⟩
      · have hne : i ≠ j := by
          rintro rfl
          rw [hi] at hj
          obtain rfl : o = oj := by simpa using hj
          rw [hdst] at hdj; cases hdj
        rw [listed_of_ne hne] at hl
        exact hΨ _ _ _ _ hg.base hle (hg.done j oj t hj hdj hl)
      · have := ht j oj hj hdj
        have hne : i ≠ j := by
          rintro rfl
          rw [hi] at hj
          obtain rfl : o = oj := by simpa using hj
          rw [hdst] at hdj; cases hdj
        rwa [listed_of_ne hne] at this
    | some d =>
      obtain ⟨hdn, huniq⟩ := hd1 d hdst
      have hda : d < a.tmps.size := by rw [hg.size]; exact hdn
      refine ⟨hg.defers, by simp [Act.put, hg.size], hbase, fun j oj t hj hdj hl => ?_, fun t ht => ?_⟩
      · by_cases hne : i = j
        · subst hne
          rw [hi] at hj
          obtain rfl : o = oj := by simpa using hj
          rw [hdst] at hdj
          obtain rfl : d = t := by simpa using hdj
          rw [eval_put_same a hda]
          simpa [dstPost, hdst] using hv
        · rw [listed_of_ne hne] at hl
          have htd : d ≠ t := by
            rintro rfl
            exact hne (huniq j oj hj hdj).symm
          rw [eval_put_other a htd]
          exact hΨ _ _ _ _ hg.base hle (hg.done j oj t hj hdj hl)
      · have htd : d ≠ t := by
          rintro rfl
          have := ht i o hi hdst
          simp [hls, hlt] at this
        rw [eval_put_other a htd]
        refine hg.other t fun j oj hj hdj => ?_
        have h2 := ht j oj hj hdj
        have hne : i ≠ j := by
          rintro rfl
          rw [hi] at hj
          obtain rfl : o = oj := by simpa using hj
          rw [hdst] at hdj
          exact htd (by simpa using hdj)
        rwa [listed_of_ne hne] at h2
  unfold wpOp
  simp only [hi]
  split
  · rename_i hw
    refine .inl ?_
    have h1 := hyes hw
    unfold Oper.wp
    generalize (execOp a.eval o).run P W = r at h1
    cases r with
    | ok nx W' =>
      cases nx <;> simp only [RelUpon] at h1 <;> simp only [Oper.upon]
      case value v => exact hK _ _ (put v W' h1.1 h1.2)
      case skip => exact hK _ _ (put undef W' h1.1 h1.2)
      case enter f args =>
        refine Calls.mono h1 ?_
        rintro e W'' ⟨v, rfl, hle, hv⟩
        exact hK _ _ (put v W'' hle hv)
    | halt x W' => simp only [RelUpon] at h1
  · rename_i hw
    have hw' : Region.wanted o (yielded ops a.tmps) = false := by simpa using hw
    exact hK _ _ (put undef W (hrefl W hg.base) (hno hw'))

def unl (l : Array Bool) : Nat → Nat
  | 0 => 0
  | n + 1 => unl l n + if l.getD n true then 0 else 1

theorem unl_set {l : Array Bool} {i : Nat} (hl : l.getD i true = false) (his : i < l.size) : ∀ {n : Nat}, i < n → unl l n = unl (l.setIfInBounds i true) n + 1
  | n + 1, h => by
    unfold unl
    by_cases hin : i = n
    · subst hin
      have e1 : ∀ m, m ≤ i → unl (l.setIfInBounds i true) m = unl l m := by
        intro m
        induction m with
        | zero => intro _; rfl
        | succ m ih =>
          intro hm
          unfold unl
          rw [ih (by omega), getD_set_ne true (by omega)]
      rw [e1 i (Nat.le_refl _), hl]
      have : (l.setIfInBounds i true).getD i true = true := by simp
      rw [this]
      simp
    · have := unl_set hl his (n := n) (by omega)
      rw [this, getD_set_ne true hin]
      omega

theorem unl_zero {l : Array Bool} : ∀ {n : Nat}, unl l n = 0 → ∀ i, i < n → l.getD i true = true
  | n + 1, h, i, hi => by
    unfold unl at h
    by_cases hin : i = n
    · subst hin
      by_cases hc : l.getD i true = true
      · exact hc
      · simp [hc] at h
    · exact unl_zero (n := n) (by omega) i (by omega)

/-- All have come up when none is ready. -/
theorem all_listed {listed : Array Bool} (hB : depsB n ops = true) (hls : listed.size = ops.size) (hr : Region.ready .any ops listed = []) : ∀ i, i < ops.size → listed.getD i false = true := by
  intro i
  induction i using Nat.strongRecOn with
  | ind i ih =>
    intro hi
    by_cases hc : listed.getD i false = true
    · exact hc
    · exfalso
      have hm : i ∈ Region.ready .any ops listed := by
        refine mem_ready.2 ⟨?_, ops[i], Array.getElem?_eq_getElem hi, fun e he hb => ih e.on ((depsB_at hB (Array.getElem?_eq_getElem hi)).2.2 e he hb) ?_⟩
        · have : i < listed.size := by omega
          simp [this] at hc ⊢
          exact hc
        · exact Nat.lt_trans ((depsB_at hB (Array.getElem?_eq_getElem hi)).2.2 e he hb) hi
      rw [hr] at hm
      cases hm

def fin (a0 : Act) (ds : List Tmp) (f : Tmp → Value) : Act := { tmps := ds.foldl (fun m t => m.setIfInBounds t (f t)) a0.tmps, defers := a0.defers }

theorem foldl_set_size (f : Tmp → Value) : ∀ (ds : List Tmp) (m : Array Value), (ds.foldl (fun m t => m.setIfInBounds t (f t)) m).size = m.size
  | [], _ => rfl
  | d :: ds, m => by rw [List.foldl_cons, foldl_set_size f ds]; simp

theorem foldl_set_at (f : Tmp → Value) : ∀ (ds : List Tmp) (m : Array Value) (t : Tmp), t < m.size → (ds.foldl (fun m t => m.setIfInBounds t (f t)) m).getD t undef = if t ∈ ds then f t else m.getD t undef
  | [], _, _, _ => by simp
  | d :: ds, m, t, ht => by
    rw [List.foldl_cons, foldl_set_at f ds _ t (by simpa using ht)]
    by_cases h1 : t ∈ ds
    · simp [h1]
    · by_cases h2 : t = d
      · subst h2; simp [h1, ht]
      · simp [h1, h2, Array.getElem?_setIfInBounds_ne (Ne.symm h2)]

theorem act_fin {a a0 : Act} {ds : List Tmp} (hd : a.defers = a0.defers) (hs : a.tmps.size = a0.tmps.size) (ho : ∀ t, t ∉ ds → a.eval (.tmp t) = a0.eval (.tmp t)) :
    a = fin a0 ds (fun t => a.eval (.tmp t)) := by
  obtain ⟨tm, df⟩ := a
  obtain ⟨tm0, df0⟩ := a0
  simp only at hd hs
  subst hd
  unfold fin
  congr 1
  apply Array.ext
  · rw [foldl_set_size]; exact hs
  · intro t h1 h2
    have h3 : t < tm0.size := by omega
    have h4 := foldl_set_at (fun t => ({ tmps := tm, defers := df } : Act).eval (.tmp t)) ds tm0 t h3
    have h5 : (ds.foldl (fun m t => m.setIfInBounds t (({ tmps := tm, defers := df } : Act).eval (.tmp t))) tm0).getD t undef = tm.getD t undef := by
      rw [h4]
      by_cases h6 : t ∈ ds
      · simp [h6, Act.eval]
      · have := ho t h6
        simp only [Act.eval] at this
        simp [h6, this]
    simp only [Array.getD_eq_getD_getElem?, Array.getElem?_eq_getElem h1, Array.getElem?_eq_getElem h2, Option.getD_some] at h5
    exact h5.symm

/-- **EVERY ORDER AT ONCE.** -/
theorem wp_region_inv {id : Nat} {Q : Exit → Act → World → Prop} {a : Act} {w : World} {l : List Oper} (ds : List Tmp) (ts : List (List Tmp))
    (hm : P.follows .mixedOrders = true) (hB : depsB a.tmps.size l.toArray = true) (hds : dsts l.toArray = ds) (hts : l.map (·.looksAt l.toArray) = ts)
    (Le : World → World → Prop) (F : World → Prop) (Ψ : Tmp → Value → World → Prop)
    (hrefl : ∀ W, F W → Le W W) (hF : ∀ W W', F W → Le W W' → F W') (hΨ : ∀ t v W W', F W → Le W W' → Ψ t v W → Ψ t v W')
    (h0 : F w.drew) (hO : Obls P Le F ds Ψ a l.toArray l ts)
    (hend : ∀ (f : Tmp → Value) (W : World), F W → (∀ t ∈ ds, Ψ t (f t) W) → Q .normal (fin a ds f) W) : (Code.region id l.toArray true).wp P Q a w := by
  subst hds
  refine wp_region_any hm ?_
  have hend' : ∀ (listed : Array Bool) (a' : Act) (W : World), (∀ i, i < l.toArray.size → listed.getD i false = true) → Good F Ψ a l.toArray listed a' W → Q .normal a' W := by
    intro listed a' W hall hg
    have hall' : ∀ i o, l.toArray[i]? = some o → listed.getD i false = true := fun i o hi => hall i (Array.getElem?_eq_some_iff.1 hi).1
    rw [act_fin (a := a') (a0 := a) (ds := dsts l.toArray) hg.defers hg.size (fun t ht => hg.other t fun i o hi hd => absurd (mem_dsts.2 ⟨i, o, hi, hd⟩) ht)]
    refine hend _ W hg.base fun t ht => ?_
    obtain ⟨i, o, hi, hd⟩ := mem_dsts.1 ht
    exact hg.done i o t hi hd (hall' i o hi)
  have main : ∀ (fuel : Nat) (listed : Array Bool) (a' : Act) (W : World), listed.size = l.toArray.size → unl listed l.toArray.size = fuel → Good F Ψ a l.toArray listed a' W →
      wpAny P .any l.toArray Q fuel listed a' W := by
    intro fuel
    induction fuel with
    | zero =>
      intro listed a' W hls hu hg
      have hall := unl_zero hu
      have hr : Region.ready .any l.toArray listed = [] := by
        rw [List.eq_nil_iff_forall_not_mem]
        intro i hi
        obtain ⟨h1, o, ho, _⟩ := mem_ready.1 hi
        rw [hall i (Array.getElem?_eq_some_iff.1 ho).1] at h1
        cases h1
      exact ⟨hr, hend' listed a' W (all_listed hB hls hr) hg⟩
    | succ fuel ih =>
      intro listed a' W hls hu hg
      refine ⟨fun hr => hend' listed a' W (all_listed hB hls hr) hg, fun i hi => ?_⟩
      obtain ⟨hun, o, ho, _⟩ := mem_ready.1 hi
      have hlt : i < l.toArray.size := (Array.getElem?_eq_some_iff.1 ho).1
      have hlo : l[i]? = some o := by simpa using ho
      refine good_step (ts := o.looksAt l.toArray) hB hls hF hΨ ho hi rfl ?_ hrefl hg (fun a'' W'' hg' => ih _ a'' W'' (by simpa using hls) ?_ hg')
      · have := obls_at hO hlo
        rw [← hts] at this
        have e : (l.map (·.looksAt l.toArray)).getD i [] = o.looksAt l.toArray := by
          rw [List.getD_eq_getElem?_getD, List.getElem?_map, hlo]; rfl
        rwa [e] at this
      · have := unl_set (l := listed) (i := i) hun (by omega) hlt
        omega
  have hcount : ∀ n : Nat, n ≤ l.toArray.size → unl (Array.replicate l.toArray.size false) n = n := by
    intro n
    induction n with
    | zero => intro _; rfl
    | succ n ih =>
      intro hn
      unfold unl
      rw [ih (by omega)]
      have h3 : n < l.length := by simp only [List.size_toArray] at hn; omega
      have : (Array.replicate l.toArray.size false).getD n true = false := by simp [h3]
      rw [this]; simp
  exact main _ _ a w.drew (by simp) (hcount _ (Nat.le_refl _)) ⟨rfl, rfl, h0, fun i o t hi _ hl => by
    have h3 : i < l.length := by have := (Array.getElem?_eq_some_iff.1 hi).1; simpa using this
    simp [h3] at hl, fun t _ => rfl⟩

/-! The predicates as a list beside the operations. -/

def look : List (Option Tmp) → List (Value → World → Prop) → Nat → Option (Value → World → Prop)
  | some d :: ds, φ :: φs, t => bif Nat.beq d t then some φ else look ds φs t
  | none :: ds, _ :: φs, t => look ds φs t
  | _, _, _ => none

def slotAt (ds : List (Option Tmp)) (φs : List (Value → World → Prop)) (a0 : Act) (t : Tmp) (v : Value) (W : World) : Prop :=
  match look ds φs t with
  | some φ => φ v W
  | none => v = a0.eval (.tmp t)

/-- What operands read as, whatever the frame. -/
structure Std (ρ : Operand → Value) : Prop where
  const : ∀ v, ρ (.const v) = v
  global : ∀ g, ρ (.global g) = .pointer (some ⟨g, 0, none⟩)
  func : ∀ f, ρ (.func f) = .func (.func f) #[] #[]
theorem Std.eval (A : Act) : Std A.eval := ⟨fun _ => rfl, fun _ => rfl, fun _ => rfl⟩

def slotsAt (ds : List (Option Tmp)) (φs : List (Value → World → Prop)) (a0 : Act) (ρ : Operand → Value) (W : World) : List Tmp → Prop
  | [] => True
  | t :: ts => slotAt ds φs a0 t (ρ (.tmp t)) W ∧ slotsAt ds φs a0 ρ W ts

def Asks (P : Program) (Le : World → World → Prop) (F : World → Prop) (ds : List (Option Tmp)) (φs : List (Value → World → Prop)) (a0 : Act) : List Oper → List (Value → World → Prop) → List (List Tmp) → Prop
  | o :: l, φ :: rest, t :: ts => (∀ (ρ : Operand → Value) (W : World), Std ρ → F W → slotsAt ds φs a0 ρ W t → RelUpon P Le φ W ((execOp ρ o).run P W)) ∧ Asks P Le F ds φs a0 l rest ts
  | [], _, _ => True
  | _, _, _ => False

def Ends (f : Tmp → Value) (W : World) : List (Option Tmp) → List (Value → World → Prop) → Prop
  | some d :: ds, φ :: φs => φ (f d) W ∧ Ends f W ds φs
  | none :: ds, _ :: φs => Ends f W ds φs
  | _, _ => True

def Keeps (Le : World → World → Prop) (F : World → Prop) : List (Value → World → Prop) → Prop
  | [] => True
  | φ :: φs => (∀ v W W', F W → Le W W' → φ v W → φ v W') ∧ Keeps Le F φs

theorem look_keeps : ∀ {ds : List (Option Tmp)} {φs : List (Value → World → Prop)} {t : Nat} {φ : Value → World → Prop}, Keeps Le F φs → look ds φs t = some φ → ∀ v W W', F W → Le W W' → φ v W → φ v W'
  | some d :: ds, φ' :: φs, t, φ, hk, h => by
    unfold look at h
    cases hb : Nat.beq d t
    · rw [hb] at h; exact look_keeps hk.2 h
    · rw [hb] at h
      obtain rfl : φ' = φ := by simpa using h
      exact hk.1
  | none :: ds, _ :: φs, t, φ, hk, h => look_keeps (ds := ds) hk.2 h
  | [], φs, _, _, _, h => by cases φs <;> cases h
  | some _ :: _, [], _, _, _, h => by cases h
  | none :: _, [], _, _, _, h => by cases h

theorem look_at : ∀ {ds : List (Option Tmp)} {φs : List (Value → World → Prop)} {i t : Nat} {φ : Value → World → Prop}, ds[i]? = some (some t) → φs[i]? = some φ → (∀ j, ds[j]? = some (some t) → j = i) → look ds φs t = some φ
  | some d :: ds, φ' :: φs, 0, t, φ, h1, h2, _ => by
    obtain rfl : d = t := by simpa using h1
    obtain rfl : φ' = φ := by simpa using h2
    unfold look
    have : Nat.beq d d = true := Nat.beq_refl d
    rw [this]; rfl
  | some d :: ds, φ' :: φs, i + 1, t, φ, h1, h2, hu => by
    unfold look
    have hne : Nat.beq d t = false := by
      cases hb : Nat.beq d t
      · rfl
      · have e : d = t := Nat.eq_of_beq_eq_true hb
        have := hu 0 (by rw [e]; rfl)
        omega
    rw [hne]
    exact look_at (ds := ds) (φs := φs) (i := i) (by simpa using h1) (by simpa using h2) (fun j hj => by have := hu (j + 1) (by simpa using hj); omega)
  | none :: ds, _ :: φs, 0, t, φ, h1, _, _ => by simp at h1
  | none :: ds, _ :: φs, i + 1, t, φ, h1, h2, hu => by
    unfold look
    exact look_at (ds := ds) (φs := φs) (i := i) (by simpa using h1) (by simpa using h2) (fun j hj => by have := hu (j + 1) (by simpa using hj); omega)
  | [], _, _, _, _, h1, _, _ => by simp at h1
  | _ :: _, [], _, _, _, _, h2, _ => by simp at h2

theorem ends_of {f : Tmp → Value} {W : World} : ∀ {ds : List (Option Tmp)} {φs : List (Value → World → Prop)}, (∀ (i : Nat) (t : Tmp) (φ : Value → World → Prop), ds[i]? = some (some t) → φs[i]? = some φ → φ (f t) W) → Ends f W ds φs
  | some d :: ds, φ :: φs, h => ⟨h 0 d φ rfl rfl, ends_of fun i t φ' h1 h2 => h (i + 1) t φ' (by simpa using h1) (by simpa using h2)⟩
  | none :: ds, _ :: φs, h => ends_of (ds := ds) (φs := φs) fun i t φ' h1 h2 => h (i + 1) t φ' (by simpa using h1) (by simpa using h2)
  | [], φs, _ => by cases φs <;> trivial
  | some _ :: _, [], _ => trivial
  | none :: _, [], _ => trivial

theorem asks_at {ds : List (Option Tmp)} {φs : List (Value → World → Prop)} {a0 : Act} : ∀ {l : List Oper} {rest : List (Value → World → Prop)} {ts : List (List Tmp)}, Asks P Le F ds φs a0 l rest ts → ∀ {i : Nat} {o : Oper}, l[i]? = some o →
    ∃ φ t, rest[i]? = some φ ∧ ts[i]? = some t ∧ ∀ (ρ : Operand → Value) (W : World), Std ρ → F W → slotsAt ds φs a0 ρ W t → RelUpon P Le φ W ((execOp ρ o).run P W)
  | o' :: _, φ :: _, t :: _, h, 0, o, hi => by
    obtain rfl : o' = o := by simpa using hi
    exact ⟨φ, t, rfl, rfl, h.1⟩
  | _ :: _, _ :: _, _ :: _, h, i + 1, o, hi => by
    obtain ⟨φ, t, h1, h2, h3⟩ := asks_at h.2 (i := i) (o := o) (by simpa using hi)
    exact ⟨φ, t, by simpa using h1, by simpa using h2, h3⟩
  | [], _, _, _, _, _, hi => by simp at hi
  | _ :: _, [], _, h, _, _, _ => h.elim
  | _ :: _, _ :: _, [], h, _, _, _ => h.elim

theorem obls_of {ds : List Tmp} {a0 : Act} {ops : Array Oper} : ∀ {l : List Oper} {ts : List (List Tmp)}, (∀ (i : Nat) (o : Oper), l[i]? = some o → Obl P Le F ds Ψ a0 ops o (ts.getD i [])) → Obls P Le F ds Ψ a0 ops l ts
  | [], _, _ => trivial
  | o :: l, ts, h => by
    refine ⟨?_, obls_of fun i o' hi => ?_⟩
    · have := h 0 o rfl
      have e : ts.getD 0 [] = ts.headD [] := by cases ts <;> rfl
      rwa [e] at this
    · have := h (i + 1) o' (by simpa using hi)
      have e : ts.getD (i + 1) [] = ts.tail.getD i [] := by cases ts <;> simp
      rwa [e] at this

theorem slotsAt_of {ds : List (Option Tmp)} {φs : List (Value → World → Prop)} {a0 A : Act} {W : World} : ∀ {ts : List Tmp}, (∀ t ∈ ts, slotAt ds φs a0 t (A.eval (.tmp t)) W) → slotsAt ds φs a0 A.eval W ts
  | [], _ => trivial
  | t :: _, h => ⟨h t (by simp), slotsAt_of fun u hu => h u (by simp [hu])⟩
theorem slots_mem {ds : List Tmp} {a0 A : Act} {W : World} : ∀ {ts : List Tmp}, slots ds Ψ a0 A W ts → ∀ t ∈ ts, slot ds Ψ a0 t (A.eval (.tmp t)) W
  | _ :: _, h, _, ht => by
    rcases List.mem_cons.1 ht with rfl | h2
    · exact h.1
    · exact slots_mem h.2 _ h2

/-- **EVERY ORDER AT ONCE, no operation guarded**: `φs` beside the operations. -/
theorem wp_region_each {id : Nat} {Q : Exit → Act → World → Prop} {a : Act} {w : World} {l : List Oper} (ds : List (Option Tmp)) (ts : List (List Tmp)) (φs : List (Value → World → Prop))
    (hm : P.follows .mixedOrders = true) (hB : depsB a.tmps.size l.toArray = true) (hg : l.all (fun o => o.guard.isNone) = true) (hds : l.map (·.dst) = ds) (hts : l.map (·.looksAt l.toArray) = ts)
    (Le : World → World → Prop) (F : World → Prop)
    (hrefl : ∀ W, F W → Le W W) (hF : ∀ W W', F W → Le W W' → F W') (hφ : Keeps Le F φs)
    (h0 : F w.drew) (hO : Asks P Le F ds φs a l φs ts)
    (hend : ∀ (f : Tmp → Value) (W : World), F W → Ends f W ds φs → Q .normal (fin a (ds.filterMap (fun d => d)) f) W) : (Code.region id l.toArray true).wp P Q a w := by
  have hdsts : dsts l.toArray = ds.filterMap (fun d => d) := by rw [← hds]; unfold dsts; rw [List.filterMap_map]; rfl
  have hat : ∀ {i : Nat} {o : Oper} {t : Tmp} {φ : Value → World → Prop}, l[i]? = some o → o.dst = some t → φs[i]? = some φ → look ds φs t = some φ := by
    intro i o t φ hi hd hp
    refine look_at (i := i) (by rw [← hds, List.getElem?_map, hi]; simp [hd]) hp fun j hj => ?_
    rw [← hds, List.getElem?_map] at hj
    cases hlj : l[j]? with
    | none => rw [hlj] at hj; cases hj
    | some oj =>
      rw [hlj] at hj
      exact ((depsB_at hB (i := i) (o := o) (by simpa using hi)).1 t hd).2 j oj (by simpa using hlj) (by simpa using hj)
  refine wp_region_inv (Ψ := fun t => (look ds φs t).getD (fun _ _ => True)) (ds.filterMap (fun d => d)) ts hm hB hdsts hts Le F hrefl hF ?_ h0 ?_ ?_
  · intro t v W W' h1 h2 h3
    cases hl : look ds φs t with
    | none => simp
    | some φ =>
      simp only [hl, Option.getD_some] at h3 ⊢
      exact look_keeps hφ hl v W W' h1 h2 h3
  · refine obls_of fun i o hi => ?_
    obtain ⟨φ, t, h1, h2, h3⟩ := asks_at hO hi
    have hgo : o.guard = none := by
      have := List.all_eq_true.1 hg o (List.mem_of_getElem? hi)
      simpa using this
    have ht : ts.getD i [] = t := by simp [h2]
    rw [ht]
    intro A W hF' hs
    refine ⟨fun _ => ?_, fun hw => by simp [Region.wanted, hgo] at hw⟩
    have h4 := h3 A.eval W (Std.eval A) hF' (slotsAt_of fun u hu => by
      have h5 := slots_mem hs u hu
      unfold slot at h5
      unfold slotAt
      split at h5
      · rename_i hc
        cases hl : look ds φs u with
        | some φ' => simpa [hl] using h5
        | none =>
          exfalso
          have hmem : u ∈ dsts l.toArray := by rw [hdsts]; simpa using hc
          obtain ⟨j, oj, hj, hdj⟩ := mem_dsts.1 hmem
          obtain ⟨φj, _, hj1, _⟩ := asks_at hO (i := j) (o := oj) (by simpa using hj)
          rw [hat (by simpa using hj) hdj hj1] at hl
          cases hl
      · rename_i hc
        cases hl : look ds φs u with
        | none => exact h5
        | some φ' =>
          exfalso
          refine hc ?_
          have : u ∈ ds.filterMap (fun d => d) := by
            clear hc h5
            have aux : ∀ {ds : List (Option Tmp)} {φs : List (Value → World → Prop)}, look ds φs u = some φ' → some u ∈ ds := by
              intro ds
              induction ds with
              | nil => intro φs h; cases φs <;> cases h
              | cons d ds ih =>
                intro φs h
                cases φs with
                | nil => cases d <;> cases h
                | cons φ φs =>
                  cases d with
                  | none => exact List.mem_cons_of_mem _ (ih h)
                  | some d =>
                    unfold look at h
                    cases hb : Nat.beq d u
                    · rw [hb] at h; exact List.mem_cons_of_mem _ (ih h)
                    · have e : d = u := Nat.eq_of_beq_eq_true hb
                      rw [e]; exact List.mem_cons_self
            exact List.mem_filterMap.2 ⟨some u, aux hl, rfl⟩
          simpa using this)
    cases hd : o.dst with
    | none =>
      have e : ∀ v W, dstPost (fun t => (look ds φs t).getD (fun _ _ => True)) o v W := fun v W => by simp [dstPost, hd]
      generalize (execOp A.eval o).run P W = r at h4
      cases r with
      | ok nx W' =>
        cases nx <;> simp only [RelUpon] at h4 ⊢
        case value v => exact ⟨h4.1, e _ _⟩
        case skip => exact ⟨h4.1, e _ _⟩
        case enter f args => exact h4.mono fun _ _ ⟨v, h5, h6, _⟩ => ⟨v, h5, h6, e _ _⟩
      | halt x W' => simp only [RelUpon] at h4
    | some d =>
      have e : dstPost (fun t => (look ds φs t).getD (fun _ _ => True)) o = φ := by
        funext v W
        simp [dstPost, hd, hat hi hd h1]
      rw [e]; exact h4
  · intro f W hFW hall
    refine hend f W hFW (ends_of fun i t φ h1 h2 => ?_)
    have h3 := hall t (List.mem_filterMap.2 ⟨some t, List.mem_of_getElem? h1, rfl⟩)
    rw [← hds, List.getElem?_map] at h1
    cases hli : l[i]? with
    | none => rw [hli] at h1; cases h1
    | some o =>
      rw [hli] at h1
      rw [hat hli (by simpa using h1) h2] at h3
      exact h3
/-- One operation of the first that may come up. -/
theorem part_step {full : Array Oper} {a0 : Act} {listed : Array Bool} {a : Act} {W : World} {Q : Exit → Act → World → Prop} {K : Act → World → Prop} {i : Nat} {o : Oper} {ts : List Tmp}
    (hB : depsB a0.tmps.size ops = true) (hls : i < listed.size) (hF : ∀ W W', F W → Le W W' → F W') (hΨ : ∀ t v W W', F W → Le W W' → Ψ t v W → Ψ t v W')
    (hi : ops[i]? = some o) (hfull : full[i]? = some o) (hgd : o.guard = none) (_hun : listed.getD i true = false) (hall : ∀ e ∈ o.after, Region.binds .any e = true → listed.getD e.on false = true) (hts : o.looksAt ops = ts)
    (ho : ∀ (A : Act) (W : World), F W → slots (dsts ops) Ψ a0 A W ts → RelUpon P Le (dstPost Ψ o) W ((execOp A.eval o).run P W))
    (hg : Good F Ψ a0 ops listed a W) (hK : ∀ a' W', Good F Ψ a0 ops (listed.setIfInBounds i true) a' W' → K a' W') : wpOp P full Q i K a W := by
  obtain ⟨hd1, hd2, hd3⟩ := depsB_at hB hi
  -- the slots that are read
  have hsl : slots (dsts ops) Ψ a0 a W ts := slots_of fun t ht => by
    unfold slot
    split
    · rename_i hc
      obtain ⟨j, oj, hj, hdj⟩ := mem_dsts.1 (by simpa using hc)
      obtain ⟨e, he, hb, hon⟩ := hd2 t (by rw [hts]; exact ht) j oj hj hdj
      have hl := hall e he hb
      rw [hon] at hl
      exact hg.done j oj t hj hdj hl
    · rename_i hc
      refine hg.other t fun j oj hj hdj => absurd ?_ hc
      simpa using mem_dsts.2 ⟨j, oj, hj, hdj⟩
  have h1 := ho a W hg.base hsl
  -- what a value does
  have put : ∀ (v : Value) (W' : World), Le W W' → dstPost Ψ o v W' → Good F Ψ a0 ops (listed.setIfInBounds i true) (a.put o.dst v) W' := by
    intro v W' hle hv
    have hbase := hF _ _ hg.base hle
    cases hdst : o.dst with
    | none =>
      refine ⟨hg.defers, hg.size, hbase, fun j oj t hj hdj hl => ?_, fun t ht => hg.other t fun j oj hj hdj => ?_⟩
      · have hne : i ≠ j := by
          rintro rfl
          rw [hi] at hj
          obtain rfl : o = oj := by simpa using hj
          rw [hdst] at hdj; cases hdj
        rw [listed_of_ne hne] at hl
        exact hΨ _ _ _ _ hg.base hle (hg.done j oj t hj hdj hl)
      · have := ht j oj hj hdj
        have hne : i ≠ j := by
          rintro rfl
          rw [hi] at hj
          obtain rfl : o = oj := by simpa using hj
          rw [hdst] at hdj; cases hdj
        rwa [listed_of_ne hne] at this
    | some d =>
      obtain ⟨hdn, huniq⟩ := hd1 d hdst
      have hda : d < a.tmps.size := by rw [hg.size]; exact hdn
      refine ⟨hg.defers, by simp [Act.put, hg.size], hbase, fun j oj t hj hdj hl => ?_, fun t ht => ?_⟩
      · by_cases hne : i = j
        · subst hne
          rw [hi] at hj
          obtain rfl : o = oj := by simpa using hj
          rw [hdst] at hdj
          obtain rfl : d = t := by simpa using hdj
          rw [eval_put_same a hda]
          simpa [dstPost, hdst] using hv
        · rw [listed_of_ne hne] at hl
          have htd : d ≠ t := by
            rintro rfl
            exact hne (huniq j oj hj hdj).symm
          rw [eval_put_other a htd]
          exact hΨ _ _ _ _ hg.base hle (hg.done j oj t hj hdj hl)
      · have htd : d ≠ t := by
          rintro rfl
          have := ht i o hi hdst
          simp [hls] at this
        rw [eval_put_other a htd]
        refine hg.other t fun j oj hj hdj => ?_
        have h2 := ht j oj hj hdj
        have hne : i ≠ j := by
          rintro rfl
          rw [hi] at hj
          obtain rfl : o = oj := by simpa using hj
          rw [hdst] at hdj
          exact htd (by simpa using hdj)
        rwa [listed_of_ne hne] at h2
  unfold wpOp
  simp only [hfull]
  have hw : Region.wanted o (yielded full a.tmps) = true := by simp [Region.wanted, hgd]
  rw [if_pos hw]
  refine .inl ?_
  unfold Oper.wp
  generalize (execOp a.eval o).run P W = r at h1
  cases r with
  | ok nx W' =>
    cases nx <;> simp only [RelUpon] at h1 <;> simp only [Oper.upon]
    case value v => exact hK _ _ (put v W' h1.1 h1.2)
    case skip => exact hK _ _ (put undef W' h1.1 h1.2)
    case enter f args =>
      refine Calls.mono h1 ?_
      rintro e W'' ⟨v, rfl, hle, hv⟩
      exact hK _ _ (put v W'' hle hv)
  | halt x W' => simp only [RelUpon] at h1


/-! A region whose last operations wait for all before them: the others in every order, these in theirs. -/

/-- From index k on each operation waits for all before it. -/
def tailB (k : Nat) (ops : Array Oper) : Bool :=
  (List.range ops.size).all fun i => decide (i < k) || match ops[i]? with
    | none => true
    | some o => (List.range i).all fun j => o.after.any fun e => Region.binds .any e && e.on == j

theorem tailB_at {k : Nat} (h : tailB k ops = true) {i : Nat} {o : Oper} (hi : ops[i]? = some o) (hk : k ≤ i) {j : Nat} (hj : j < i) : ∃ e ∈ o.after, Region.binds .any e = true ∧ e.on = j := by
  unfold tailB at h
  rw [List.all_eq_true] at h
  have h1 := h i (List.mem_range.2 (Array.getElem?_eq_some_iff.1 hi).1)
  have hk' : ¬ i < k := by omega
  simp only [hk', decide_false, Bool.false_or, hi, List.all_eq_true, List.mem_range] at h1
  obtain ⟨e, he, h4⟩ := Array.any_eq_true'.1 (h1 j hj)
  simp only [Bool.and_eq_true, beq_iff_eq] at h4
  exact ⟨e, he, h4.1, h4.2⟩

/-- Edges lead back. -/
def backB (ops : Array Oper) : Bool := (List.range ops.size).all fun i => match ops[i]? with
  | none => true
  | some o => o.after.all fun e => !Region.binds .any e || decide (e.on < i)
theorem backB_at (h : backB ops = true) {i : Nat} {o : Oper} (hi : ops[i]? = some o) : ∀ e ∈ o.after, Region.binds .any e = true → e.on < i := by
  intro e he hbd
  unfold backB at h
  rw [List.all_eq_true] at h
  have h1 := h i (List.mem_range.2 (Array.getElem?_eq_some_iff.1 hi).1)
  simp only [hi] at h1
  have h2 := Array.all_eq_true_iff_forall_mem.1 h1 e he
  simp only [hbd, Bool.not_true, Bool.false_or, decide_eq_true_eq] at h2
  exact h2

/-- The last operations, one by one. -/
theorem tail_run {Q : Exit → Act → World → Prop} {k : Nat} (hT : tailB k ops = true) (hE : backB ops = true) : ∀ (fuel i : Nat) (listed : Array Bool) (a : Act) (W : World), k ≤ i → i + fuel = ops.size → listed.size = ops.size →
    (∀ j, j < i → listed.getD j true = true) → (∀ j, i ≤ j → j < ops.size → listed.getD j true = false) → wpList P ops Q (ops.toList.drop i) a W → wpAny P .any ops Q fuel listed a W
  | 0, i, listed, a, W, _, hs, hls, hin, _, h => by
    have hr : Region.ready .any ops listed = [] := by
      rw [List.eq_nil_iff_forall_not_mem]
      intro j hj
      obtain ⟨h1, o, ho, _⟩ := mem_ready.1 hj
      rw [hin j (by have := (Array.getElem?_eq_some_iff.1 ho).1; omega)] at h1
      cases h1
    rw [List.drop_of_length_le (by simp; omega)] at h
    exact ⟨hr, h⟩
  | fuel + 1, i, listed, a, W, hk, hs, hls, hin, hout, h => by
    have hlt : i < ops.size := by omega
    have hi : ops[i]? = some ops[i] := Array.getElem?_eq_getElem hlt
    have hedge : ∀ j, j < i → listed.getD j false = true := fun j hj => by
      have h1 := hin j hj
      have h2 : j < listed.size := by omega
      simp [h2] at h1 ⊢
      exact h1
    refine ⟨fun hr => ?_, fun j hj => ?_⟩
    · exfalso
      have : i ∈ Region.ready .any ops listed := mem_ready.2 ⟨hout i (Nat.le_refl _) hlt, _, hi, fun e he hbd => hedge _ (backB_at hE hi e he hbd)⟩
      rw [hr] at this; cases this
    · obtain ⟨h1, o, ho, hall⟩ := mem_ready.1 hj
      have hjs := (Array.getElem?_eq_some_iff.1 ho).1
      have hij : j = i := by
        rcases Nat.lt_trichotomy j i with h2 | h2 | h2
        · rw [hin j h2] at h1; cases h1
        · exact h2
        · obtain ⟨e, he, hbd, hon⟩ := tailB_at hT ho (by omega) h2
          have h3 := hall e he hbd
          rw [hon] at h3
          have h4 := hout i (Nat.le_refl _) hlt
          have h5 : i < listed.size := by omega
          simp [h5] at h3 h4
          rw [h4] at h3; cases h3
      subst hij
      rw [hi] at ho
      obtain rfl : ops[j] = o := by simpa using ho
      rw [List.drop_eq_getElem_cons (by simpa using hjs)] at h
      have e : ops.toList[j]'(by simpa using hjs) = ops[j] := by simp
      rw [e] at h
      unfold wpList at h
      unfold wpOp
      simp only [hi]
      have next : ∀ a' W', wpList P ops Q (ops.toList.drop (j + 1)) a' W' → wpAny P .any ops Q fuel (listed.setIfInBounds j true) a' W' := fun a' W' h' =>
        tail_run hT hE fuel (j + 1) _ a' W' (by omega) (by omega) (by simpa using hls)
          (fun j' hj' => by
            by_cases hjj : j = j'
            · subst hjj
              have : j < listed.size := by omega
              simp [this]
            · rw [getD_set_ne true hjj]; exact hin j' (by omega))
          (fun j' hj1 hj2 => by rw [getD_set_ne true (by omega)]; exact hout j' (by omega) hj2) h'
      split
      · rename_i hw
        rw [if_pos hw] at h
        rcases h with h | h
        · exact .inl (Oper.wp_mono next h)
        · exact .inr h
      · rename_i hw
        rw [if_neg hw] at h
        exact next _ _ h

theorem unl_tail {l : Array Bool} {i n : Nat} (hin : ∀ j, j < i → l.getD j true = true) (hout : ∀ j, i ≤ j → j < n → l.getD j true = false) (hi : i ≤ n) : unl l n = n - i := by
  have h1 : ∀ m, m ≤ i → unl l m = 0 := by
    intro m
    induction m with
    | zero => intro _; rfl
    | succ m ih => intro hm; unfold unl; rw [ih (by omega), hin m (by omega)]; simp
  have h2 : ∀ d, i + d ≤ n → unl l (i + d) = d := by
    intro d
    induction d with
    | zero => intro _; exact h1 i (Nat.le_refl _)
    | succ d ih =>
      intro hd
      show unl l (i + d + 1) = d + 1
      unfold unl
      rw [ih (by omega), hout (i + d) (by omega) (by omega)]; simp
  have := h2 (n - i) (by omega)
  rwa [show i + (n - i) = n by omega] at this

theorem look_mem {u : Tmp} {φ' : Value → World → Prop} : ∀ {ds : List (Option Tmp)} {φs : List (Value → World → Prop)}, look ds φs u = some φ' → some u ∈ ds := by
  intro ds
  induction ds with
  | nil => intro φs h; cases φs <;> cases h
  | cons d ds ih =>
    intro φs h
    cases φs with
    | nil => cases d <;> cases h
    | cons φ φs =>
      cases d with
      | none => exact List.mem_cons_of_mem _ (ih h)
      | some d =>
        unfold look at h
        cases hb : Nat.beq d u
        · rw [hb] at h; exact List.mem_cons_of_mem _ (ih h)
        · have e : d = u := Nat.eq_of_beq_eq_true hb
          rw [e]; exact List.mem_cons_self

theorem slotAt_of {ds : List (Option Tmp)} {φs : List (Value → World → Prop)} {p : List Oper} {a0 : Act} {u : Tmp} {v : Value} {W : World} (hdsts : dsts p.toArray = ds.filterMap (fun d => d))
    (hl : ∀ (j : Nat) (oj : Oper), True → p.toArray[j]? = some oj → oj.dst = some u → ∃ φ, look ds φs u = some φ) (h : slot (dsts p.toArray) (fun t => (look ds φs t).getD (fun _ _ => True)) a0 u v W) : slotAt ds φs a0 u v W := by
  unfold slot at h
  unfold slotAt
  split at h
  · rename_i hc
    obtain ⟨j, oj, hj, hdj⟩ := mem_dsts.1 (by simpa using hc)
    obtain ⟨φ, hφ⟩ := hl j oj trivial hj hdj
    simpa [hφ] using h
  · rename_i hc
    cases hlk : look ds φs u with
    | none => exact h
    | some φ' =>
      exfalso
      refine hc ?_
      have : u ∈ dsts p.toArray := by rw [hdsts]; exact List.mem_filterMap.2 ⟨some u, look_mem hlk, rfl⟩
      simpa using this

theorem relUpon_dst {ds : List (Option Tmp)} {φs : List (Value → World → Prop)} {o : Oper} {φ : Value → World → Prop} {W : World} {r : Result Next} (h4 : RelUpon P Le φ W r) (hl : ∀ d, o.dst = some d → look ds φs d = some φ) :
    RelUpon P Le (dstPost (fun t => (look ds φs t).getD (fun _ _ => True)) o) W r := by
  cases hd : o.dst with
  | none =>
    have e : ∀ v W, dstPost (fun t => (look ds φs t).getD (fun _ _ => True)) o v W := fun v W => by simp [dstPost, hd]
    cases r with
    | ok nx W' =>
      cases nx <;> simp only [RelUpon] at h4 ⊢
      case value v => exact ⟨h4.1, e _ _⟩
      case skip => exact ⟨h4.1, e _ _⟩
      case enter f args => exact h4.mono fun _ _ ⟨v, h5, h6, _⟩ => ⟨v, h5, h6, e _ _⟩
    | halt x W' => simp only [RelUpon] at h4
  | some d =>
    have e : dstPost (fun t => (look ds φs t).getD (fun _ _ => True)) o = φ := by
      funext v W
      simp [dstPost, hd, hl d hd]
    rw [e]; exact h4


/-- **THE FIRST k OPERATIONS IN EVERY ORDER, THE OTHERS IN THEIRS.** -/
theorem wp_region_part {id : Nat} {Q : Exit → Act → World → Prop} {a : Act} {w : World} {l : List Oper} (k : Nat) (ds : List (Option Tmp)) (ts : List (List Tmp)) (φs : List (Value → World → Prop))
    (hm : P.follows .mixedOrders = true) (hB : depsB a.tmps.size (l.take k).toArray = true) (hT : tailB k l.toArray = true) (hE : backB l.toArray = true) (hg : (l.take k).all (fun o => o.guard.isNone) = true)
    (hds : (l.take k).map (·.dst) = ds) (hts : (l.take k).map (·.looksAt (l.take k).toArray) = ts)
    (Le : World → World → Prop) (F : World → Prop)
    (_hrefl : ∀ W, F W → Le W W) (hF : ∀ W W', F W → Le W W' → F W') (hφ : Keeps Le F φs)
    (h0 : F w.drew) (hO : Asks P Le F ds φs a (l.take k) φs ts)
    (hend : ∀ (f : Tmp → Value) (W : World), F W → Ends f W ds φs → wpList P l.toArray Q (l.drop k) (fin a (ds.filterMap (fun d => d)) f) W) : (Code.region id l.toArray true).wp P Q a w := by
  obtain ⟨p, hp⟩ : ∃ p, p = l.take k := ⟨_, rfl⟩
  rw [← hp] at hB hg hds hts hO
  have hpl : ∀ {i : Nat} {o : Oper}, p[i]? = some o → l[i]? = some o := fun {i o} hi => by
    rw [hp, List.getElem?_take] at hi
    split at hi
    · exact hi
    · cases hi
  have hplt : ∀ {i : Nat} {o : Oper}, p[i]? = some o → i < k := fun {i o} hi => by
    rw [hp, List.getElem?_take] at hi
    split at hi
    · assumption
    · cases hi
  have hlp : ∀ {i : Nat} {o : Oper}, l[i]? = some o → i < k → p[i]? = some o := fun {i o} hi hk => by rw [hp, List.getElem?_take, if_pos hk]; exact hi
  have hdsts : dsts p.toArray = ds.filterMap (fun d => d) := by rw [← hds]; unfold dsts; rw [List.filterMap_map]; rfl
  have hat : ∀ {i : Nat} {o : Oper} {t : Tmp} {φ : Value → World → Prop}, p[i]? = some o → o.dst = some t → φs[i]? = some φ → look ds φs t = some φ := by
    intro i o t φ hi hd hp'
    refine look_at (i := i) (by rw [← hds, List.getElem?_map, hi]; simp [hd]) hp' fun j hj => ?_
    rw [← hds, List.getElem?_map] at hj
    cases hlj : p[j]? with
    | none => rw [hlj] at hj; cases hj
    | some oj =>
      rw [hlj] at hj
      exact ((depsB_at hB (i := i) (o := o) (by simpa using hi)).1 t hd).2 j oj (by simpa using hlj) (by simpa using hj)
  have hΨ : ∀ t v W W', F W → Le W W' → (fun t => (look ds φs t).getD (fun _ _ => True)) t v W → (fun t => (look ds φs t).getD (fun _ _ => True)) t v W' := by
    intro t v W W' h1 h2 h3
    cases hl : look ds φs t with
    | none => simp
    | some φ =>
      simp only [hl, Option.getD_some] at h3 ⊢
      exact look_keeps hφ hl v W W' h1 h2 h3
  have goodEnd : ∀ {listed : Array Bool} {a' : Act} {W : World}, Good F (fun t => (look ds φs t).getD (fun _ _ => True)) a p.toArray listed a' W → (∀ i, i < p.toArray.size → listed.getD i false = true) →
      wpList P l.toArray Q (l.drop k) a' W := by
    intro listed a' W hg' hall
    rw [act_fin (a := a') (a0 := a) (ds := dsts p.toArray) hg'.defers hg'.size (fun t ht => hg'.other t fun i o hi hd => absurd (mem_dsts.2 ⟨i, o, hi, hd⟩) ht), hdsts]
    refine hend _ W hg'.base (ends_of fun i t φ h1 h2 => ?_)
    rw [← hds, List.getElem?_map] at h1
    cases hli : p[i]? with
    | none => rw [hli] at h1; cases h1
    | some o =>
      rw [hli] at h1
      have hd : o.dst = some t := by simpa using h1
      have h3 := hg'.done i o t (by simpa using hli) hd (hall i (by have := (List.getElem?_eq_some_iff.1 hli).1; simpa using this))
      rw [hat hli hd h2] at h3
      exact h3
  refine wp_region_any hm ?_
  have main : ∀ (fuel : Nat) (listed : Array Bool) (a' : Act) (W : World), listed.size = l.toArray.size → unl listed l.toArray.size = fuel → (∀ j, k ≤ j → j < l.toArray.size → listed.getD j true = false) →
      Good F (fun t => (look ds φs t).getD (fun _ _ => True)) a p.toArray listed a' W → wpAny P .any l.toArray Q fuel listed a' W := by
    intro fuel
    induction fuel with
    | zero =>
      intro listed a' W hls hu hout hgood
      have hall := unl_zero hu
      -- nothing is left: so there is no last operation
      have hkn : l.toArray.size ≤ k := by
        rcases Nat.lt_or_ge k l.toArray.size with h1 | h1
        · have h2 := hout k (Nat.le_refl _) h1
          rw [hall k h1] at h2; cases h2
        · exact h1
      have hr : Region.ready .any l.toArray listed = [] := by
        rw [List.eq_nil_iff_forall_not_mem]
        intro i hi
        obtain ⟨h1, o, ho, _⟩ := mem_ready.1 hi
        rw [hall i (Array.getElem?_eq_some_iff.1 ho).1] at h1
        cases h1
      refine ⟨hr, ?_⟩
      have h9 := goodEnd (listed := listed) hgood (fun i hi => by
        have h1 := hall i (by
          have h3 : i < p.length := by simpa using hi
          have h4 : p.length ≤ l.length := by rw [hp, List.length_take]; omega
          simp; omega)
        have h2 : i < listed.size := by
          have h3 : i < p.length := by simpa using hi
          have h4 : p.length ≤ l.length := by rw [hp, List.length_take]; omega
          simp at hls; omega
        simp [h2] at h1 ⊢
        exact h1)
      rw [List.drop_of_length_le (by simpa using hkn)] at h9
      exact h9
    | succ fuel ih =>
      intro listed a' W hls hu hout hgood
      refine ⟨fun hr => ?_, fun i hi => ?_⟩
      · exfalso
        -- the first that has not come up is ready
        have hall : ∀ i, i < l.toArray.size → listed.getD i false = true := by
          intro i
          induction i using Nat.strongRecOn with
          | ind i ihi =>
            intro hi
            by_cases hc : listed.getD i false = true
            · exact hc
            · exfalso
              have hm' : i ∈ Region.ready .any l.toArray listed := by
                refine mem_ready.2 ⟨?_, l.toArray[i], Array.getElem?_eq_getElem hi, fun e he hb => ihi e.on (backB_at hE (Array.getElem?_eq_getElem hi) e he hb) (Nat.lt_trans (backB_at hE (Array.getElem?_eq_getElem hi) e he hb) hi)⟩
                have : i < listed.size := by omega
                simp [this] at hc ⊢
                exact hc
              rw [hr] at hm'
              cases hm'
        have hz : unl listed l.toArray.size = 0 := by
          have : ∀ n, n ≤ l.toArray.size → unl listed n = 0 := by
            intro n
            induction n with
            | zero => intro _; rfl
            | succ n ihn =>
              intro hn
              unfold unl
              have h1 := hall n (by omega)
              have h2 : n < listed.size := by omega
              have h3 : listed.getD n true = true := by simp [h2] at h1 ⊢; exact h1
              rw [ihn (by omega), h3]; simp
          exact this _ (Nat.le_refl _)
        omega
      · obtain ⟨hun, o, ho, hall⟩ := mem_ready.1 hi
        have hlt : i < l.toArray.size := (Array.getElem?_eq_some_iff.1 ho).1
        have hlo : l[i]? = some o := by simpa using ho
        by_cases hik : i < k
        · have hpo := hlp hlo hik
          obtain ⟨φ, t, h1, h2, h3⟩ := asks_at hO hpo
          have hgo : o.guard = none := by
            have := List.all_eq_true.1 hg o (List.mem_of_getElem? hpo)
            simpa using this
          have htl : o.looksAt p.toArray = t := by
            rw [← hts, List.getElem?_map, hpo] at h2
            simpa using h2
          refine part_step (ts := t) (ops := p.toArray) (Ψ := fun t => (look ds φs t).getD (fun _ _ => True)) hB (by omega) hF hΨ (by simpa using hpo) ho hgo hun hall htl ?_ hgood (fun a'' W'' hg' => ih _ a'' W'' (by simpa using hls) ?_ ?_ hg')
          · intro A W1 hF' hs
            have h4 := h3 A.eval W1 (Std.eval A) hF' (slotsAt_of fun u hu => slotAt_of (hdsts := hdsts) (fun j oj _ hj hdj => by
                obtain ⟨φj, _, hj1, _⟩ := asks_at hO (i := j) (o := oj) (by simpa using hj)
                exact ⟨φj, hat (by simpa using hj) hdj hj1⟩) (slots_mem hs u hu))
            exact relUpon_dst h4 (fun d hd => hat hpo hd h1)
          · have := unl_set (l := listed) (i := i) hun (by omega) hlt
            omega
          · intro j hj1 hj2
            rw [getD_set_ne true (by omega)]
            exact hout j hj1 hj2
        · -- a last operation: all before it have come up
          have hin : ∀ j, j < i → listed.getD j true = true := fun j hj => by
            obtain ⟨e, he, hbd, hon⟩ := tailB_at hT ho (by omega) hj
            have h3 := hall e he hbd
            rw [hon] at h3
            have h5 : j < listed.size := by omega
            simp [h5] at h3 ⊢
            exact h3
          have hik' : i = k := by
            rcases Nat.lt_or_ge k i with h1 | h1
            · have h2 := hin k h1
              rw [hout k (Nat.le_refl _) (by omega)] at h2; cases h2
            · omega
          subst hik'
          have h9 := goodEnd (listed := listed) hgood (fun j hj => by
            have h3 : j < p.length := by simpa using hj
            have h4 : p.length ≤ i := by rw [hp, List.length_take]; omega
            have h1 := hin j (by omega)
            have h2 : j < listed.size := by omega
            simp [h2] at h1 ⊢
            exact h1)
          have h10 := tail_run hT hE (fuel + 1) i listed a' W (Nat.le_refl _) (by
            have : unl listed l.toArray.size = l.toArray.size - i := unl_tail hin hout (by omega)
            omega) hls hin hout h9
          exact h10.2 i hi
  have hcount : ∀ n : Nat, n ≤ l.toArray.size → unl (Array.replicate l.toArray.size false) n = n := by
    intro n
    induction n with
    | zero => intro _; rfl
    | succ n ih =>
      intro hn
      unfold unl
      rw [ih (by omega)]
      have h3 : n < l.length := by simp only [List.size_toArray] at hn; omega
      have : (Array.replicate l.toArray.size false).getD n true = false := by simp [h3]
      rw [this]; simp
  exact main _ _ a w.drew (by simp) (hcount _ (Nat.le_refl _)) (fun j _ hj => by
    have h3 : j < l.length := by simpa using hj
    simp [h3]) ⟨rfl, rfl, h0, fun i o t hi _ hl => by
    have h4 : i < l.length := by
      have h3 : i < p.length := by have := (Array.getElem?_eq_some_iff.1 hi).1; simpa using this
      have h5 : p.length ≤ l.length := by rw [hp, List.length_take]; omega
      omega
    simp [h4] at hl, fun t _ => rfl⟩
end

/-- The value is known. -/
def Is (v : Value) : Value → World → Prop := fun u _ => u = v
end Go.RegInv
