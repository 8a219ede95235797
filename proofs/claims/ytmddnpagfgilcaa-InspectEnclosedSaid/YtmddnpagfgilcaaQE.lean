/- Part 5 of what the row builds on. -/
import Derived.Test.YtmddnpagfgilcaaQD

namespace Go.RegInv

variable {P : Program} {Le : World → World → Prop} {F : World → Prop} {Ψ : Tmp → Value → World → Prop}

/-- What kind of operation: any, one that makes a block, one that may come late, a store. -/
inductive Kd where
  | op
  | new
  | late (v : Value)
  | store

def Kd.isLate : Kd → Bool
  | .late _ => true
  | _ => false
def Kd.isStore : Kd → Bool
  | .store => true
  | _ => false
def isStoreOp (o : Oper) : Bool := match o.op with
  | .store _ _ _ => true
  | _ => false

/-- Stores have no slot, wait for all that is neither late nor a store, and read no late slot; what is late has a slot. -/
def freeB (ks : List Kd) (ops : Array Oper) : Bool := (List.range ops.size).all fun i => match ops[i]? with
  | none => true
  | some o => match ks[i]? with
    | some .store => isStoreOp o && o.dst.isNone && (List.range ops.size).all fun j => match ks[j]? with
      | some .store => true
      | some (.late _) => (match (ops[j]?).bind (·.dst) with
        | some t => !(o.looksAt ops).contains t
        | none => true)
      | _ => reachB ops ops.size i j
    | some (.late _) => o.dst.isSome
    | some _ => true
    | none => false

def AsksL (P : Program) (Le : World → World → Prop) (F : World → Prop) (ds : List (Option Tmp)) (φs : List (Value → World → Prop)) (a0 : Act) : List Kd → List Oper → List (Value → World → Prop) → List (List Tmp) → Prop
  | .op :: ks, o :: l, φ :: rest, t :: ts => (∀ (ρ : Operand → Value) (W : World), Std ρ → F W → slotsAt ds φs a0 ρ W t → RelUpon P Le φ W ((execOp ρ o).run P W)) ∧ AsksL P Le F ds φs a0 ks l rest ts
  | .new :: ks, o :: l, φ :: rest, t :: ts => (∀ (ρ : Operand → Value) (W : World), Std ρ → F W → slotsAt ds φs a0 ρ W t → ∃ W', (execOp ρ o).run P W = .ok (.value (.pointer (some ⟨W.heap.size, 0, none⟩))) W' ∧ W.heap.size < W'.heap.size ∧ Le W W' ∧ φ (.pointer (some ⟨W.heap.size, 0, none⟩)) W') ∧ AsksL P Le F ds φs a0 ks l rest ts
  | .late v :: ks, o :: l, φ :: rest, t :: ts => (φ = (fun u _ => u = v) ∧ ∀ (ρ : Operand → Value) (W : World), Std ρ → F W → slotsAt ds φs a0 ρ W t → ∀ W', (execOp ρ o).run P W' = .ok (.value v) W') ∧ AsksL P Le F ds φs a0 ks l rest ts
  | .store :: ks, _ :: l, _ :: rest, _ :: ts => AsksL P Le F ds φs a0 ks l rest ts
  | [], [], _, _ => True
  | _, _, _, _ => False

def AskK (P : Program) (Le : World → World → Prop) (F : World → Prop) (ds : List (Option Tmp)) (φs : List (Value → World → Prop)) (a0 : Act) (o : Oper) (φ : Value → World → Prop) (t : List Tmp) : Kd → Prop
  | .op => ∀ (ρ : Operand → Value) (W : World), Std ρ → F W → slotsAt ds φs a0 ρ W t → RelUpon P Le φ W ((execOp ρ o).run P W)
  | .new => ∀ (ρ : Operand → Value) (W : World), Std ρ → F W → slotsAt ds φs a0 ρ W t → ∃ W', (execOp ρ o).run P W = .ok (.value (.pointer (some ⟨W.heap.size, 0, none⟩))) W' ∧ W.heap.size < W'.heap.size ∧ Le W W' ∧ φ (.pointer (some ⟨W.heap.size, 0, none⟩)) W'
  | .late v => φ = (fun u _ => u = v) ∧ ∀ (ρ : Operand → Value) (W : World), Std ρ → F W → slotsAt ds φs a0 ρ W t → ∀ W', (execOp ρ o).run P W' = .ok (.value v) W'
  | .store => True

theorem asksL_at {ds : List (Option Tmp)} {φs : List (Value → World → Prop)} {a0 : Act} : ∀ {ks : List Kd} {l : List Oper} {rest : List (Value → World → Prop)} {ts : List (List Tmp)}, AsksL P Le F ds φs a0 ks l rest ts → ∀ {i : Nat} {o : Oper}, l[i]? = some o →
    ∃ k φ t, ks[i]? = some k ∧ rest[i]? = some φ ∧ ts[i]? = some t ∧ AskK P Le F ds φs a0 o φ t k
  | .op :: _, o' :: _, φ :: _, t :: _, h, 0, o, hi => by
    obtain rfl : o' = o := by simpa using hi
    exact ⟨_, φ, t, rfl, rfl, rfl, h.1⟩
  | .new :: _, o' :: _, φ :: _, t :: _, h, 0, o, hi => by
    obtain rfl : o' = o := by simpa using hi
    exact ⟨_, φ, t, rfl, rfl, rfl, h.1⟩
  | .late v :: _, o' :: _, φ :: _, t :: _, h, 0, o, hi => by
    obtain rfl : o' = o := by simpa using hi
    exact ⟨_, φ, t, rfl, rfl, rfl, h.1⟩
  | .store :: _, o' :: _, φ :: _, t :: _, h, 0, o, hi => ⟨_, φ, t, rfl, rfl, rfl, trivial⟩
  | .op :: _, _ :: _, _ :: _, _ :: _, h, i + 1, o, hi => by
    obtain ⟨k, φ, t, h1, h2, h3, h4⟩ := asksL_at h.2 (i := i) (o := o) (by simpa using hi)
    exact ⟨k, φ, t, by simpa using h1, by simpa using h2, by simpa using h3, h4⟩
  | .new :: _, _ :: _, _ :: _, _ :: _, h, i + 1, o, hi => by
    obtain ⟨k, φ, t, h1, h2, h3, h4⟩ := asksL_at h.2 (i := i) (o := o) (by simpa using hi)
    exact ⟨k, φ, t, by simpa using h1, by simpa using h2, by simpa using h3, h4⟩
  | .late _ :: _, _ :: _, _ :: _, _ :: _, h, i + 1, o, hi => by
    obtain ⟨k, φ, t, h1, h2, h3, h4⟩ := asksL_at h.2 (i := i) (o := o) (by simpa using hi)
    exact ⟨k, φ, t, by simpa using h1, by simpa using h2, by simpa using h3, h4⟩
  | .store :: ks, _ :: l, _ :: rest, _ :: ts, h, i + 1, o, hi => by
    obtain ⟨k, φ, t, h1, h2, h3, h4⟩ := asksL_at (ks := ks) (l := l) (rest := rest) (ts := ts) h (i := i) (o := o) (by simpa using hi)
    exact ⟨k, φ, t, by simpa using h1, by simpa using h2, by simpa using h3, h4⟩
  | [], [], _, _, _, _, _, hi => by simp at hi
  | [], _ :: _, _, _, h, _, _, _ => h.elim
  | .op :: _, [], _, _, h, _, _, hi => by simp at hi
  | .new :: _, [], _, _, h, _, _, hi => by simp at hi
  | .late _ :: _, [], _, _, h, _, _, hi => by simp at hi
  | .store :: _, [], _, _, h, _, _, hi => by simp at hi
  | .op :: _, _ :: _, [], _, h, _, _, _ => h.elim
  | .new :: _, _ :: _, [], _, h, _, _, _ => h.elim
  | .late _ :: _, _ :: _, [], _, h, _, _, _ => h.elim
  | .store :: _, _ :: _, [], _, h, _, _, _ => h.elim
  | .op :: _, _ :: _, _ :: _, [], h, _, _, _ => h.elim
  | .new :: _, _ :: _, _ :: _, [], h, _, _, _ => h.elim
  | .late _ :: _, _ :: _, _ :: _, [], h, _, _, _ => h.elim
  | .store :: _, _ :: _, _ :: _, [], h, _, _, _ => h.elim

/-- The stores, one by one, each from a known world tO a known one. -/
def StoresRun (P : Program) (ρ : Operand → Value) (K : World → Prop) : List Oper → World → Prop
  | [], W => K W
  | s :: τ, W => ∃ W', (execOp ρ s).run P W = .ok .skip W' ∧ StoresRun P ρ K τ W'
theorem StoresRun.mono {ρ : Operand → Value} {K K' : World → Prop} (h : ∀ W, K W → K' W) : ∀ {τ : List Oper} {W : World}, StoresRun P ρ K τ W → StoresRun P ρ K' τ W
  | [], _, hk => h _ hk
  | _ :: _, _, ⟨W', h1, h2⟩ => ⟨W', h1, h2.mono h⟩

theorem store_congr {ops : Array Oper} {o : Oper} (ho : isStoreOp o = true) {ρ ρ' : Operand → Value} (k : Std ρ) (k' : Std ρ') (h : ∀ t ∈ o.looksAt ops, ρ (.tmp t) = ρ' (.tmp t)) : execOp ρ o = execOp ρ' o := by
  unfold isStoreOp at ho
  split at ho
  · rename_i T a x hop
    have hx : ∀ y, y = a ∨ y = x → ρ y = ρ' y := by
      intro y hy
      cases y with
      | tmp t =>
        refine h t ?_
        unfold Oper.looksAt
        rw [hop]
        simp only [Op.operands]
        refine List.mem_append_left _ (List.mem_filterMap.2 ⟨.tmp t, ?_, rfl⟩)
        rcases hy with hy | hy <;> simp [hy]
      | const v => rw [k.const, k'.const]
      | global g => rw [k.global, k'.global]
      | func f => rw [k.func, k'.func]
    simp only [execOp, hop, hx a (.inl rfl), hx x (.inr rfl)]
  · cases ho

theorem fin_congr {a0 : Act} {ds : List Tmp} {f g : Tmp → Value} (h : ∀ t ∈ ds, f t = g t) : fin a0 ds f = fin a0 ds g := by
  unfold fin
  congr 1
  have : ∀ (ds : List Tmp), (∀ t ∈ ds, f t = g t) → ∀ m : Array Value, ds.foldl (fun m t => m.setIfInBounds t (f t)) m = ds.foldl (fun m t => m.setIfInBounds t (g t)) m := by
    intro ds
    induction ds with
    | nil => intro _ _; rfl
    | cons d ds ih =>
      intro h m
      rw [List.foldl_cons, List.foldl_cons, h d (by simp)]
      exact ih (fun t ht => h t (by simp [ht])) _
  exact this ds h _

/-- What a slot reads as at the end. -/
def atEnd (ds : List Tmp) (a0 : Act) (f : Tmp → Value) (t : Tmp) : Value := bif ds.contains t then f t else a0.eval (.tmp t)

theorem perm_one {α : Type} {o : α} {τ : List α} (h : τ.Perm [o]) : τ = [o] := List.perm_singleton.1 h
theorem perm_two {α : Type} {x y : α} {τ : List α} (h : τ.Perm [x, y]) : τ = [x, y] ∨ τ = [y, x] := by
  have hl := h.length_eq
  rcases τ with _ | ⟨u, _ | ⟨v, _ | ⟨w, τ⟩⟩⟩
  · simp at hl
  · simp at hl
  rotate_left
  · simp at hl
  have hu : u ∈ [x, y] := h.mem_iff.1 (by simp)
  rcases List.mem_cons.1 hu with rfl | hu
  · have := (List.perm_cons u).1 h
    rw [List.perm_singleton.1 this]; exact .inl rfl
  · obtain rfl : u = y := by simpa using hu
    have h2 : [u, v].Perm [u, x] := h.trans (List.Perm.swap _ _ _)
    have := (List.perm_cons u).1 h2
    rw [List.perm_singleton.1 this]; exact .inr rfl

/-- An operation that has no guard, whatever it comes tO. -/
theorem op_out {full : Array Oper} {Q : Exit → Act → World → Prop} {K : Act → World → Prop} {i : Nat} {o : Oper} {a : Act} {W : World} {φ : Value → World → Prop} (hfull : full[i]? = some o) (hgd : o.guard = none)
    (h1 : RelUpon P Le φ W ((execOp a.eval o).run P W)) (hK : ∀ v W', Le W W' → φ v W' → K (a.put o.dst v) W') : wpOp P full Q i K a W := by
  unfold wpOp
  simp only [hfull]
  have hw : Region.wanted o (yielded full a.tmps) = true := by simp [Region.wanted, hgd]
  rw [if_pos hw]
  refine .inl ?_
  unfold Oper.wp
  generalize (execOp a.eval o).run P W = r at h1
  cases r with
  | ok nx W' =>
    cases nx <;> simp only [RelUpon] at h1 <;> simp only [Oper.upon]
    case value v => exact hK _ _ h1.1 h1.2
    case skip => exact hK _ _ h1.1 h1.2
    case enter f args =>
      refine Calls.mono h1 ?_
      rintro e W'' ⟨v, rfl, hle, hv⟩
      exact hK _ _ hle hv
  | halt x W' => simp only [RelUpon] at h1

/-- The operations at the places that are not done. -/
def opsAt (ops : Array Oper) (r : List Nat) : List Oper := r.filterMap (ops[·]?)

/-- Behind the first store. -/
theorem free_after {ops : Array Oper} {a0 : Act} {Q : Exit → Act → World → Prop} {ks : List Kd} {f : Tmp → Value} {rd : List Tmp} (hB : depsB a0.tmps.size ops = true) (hG : ∀ (i : Nat) (o : Oper), ops[i]? = some o → o.guard = none)
    (hS : ∀ (i : Nat) (o : Oper), ops[i]? = some o → ks[i]? = some .store → isStoreOp o = true ∧ o.dst = none ∧ (∀ t ∈ o.looksAt ops, t ∈ rd))
    (hR : ∀ t ∈ rd, ∀ (j : Nat) (oj : Oper), ops[j]? = some oj → oj.dst = some t → ∀ v, ks[j]? ≠ some (.late v))
    (hV : ∀ (i : Nat) (o : Oper), ops[i]? = some o → ks[i]? ≠ none)
    (hL : ∀ (i : Nat) (o : Oper) (v : Value), ops[i]? = some o → ks[i]? = some (.late v) → ∃ t, o.dst = some t ∧ f t = v ∧ ∀ (ρ : Operand → Value), Std ρ → (∀ u ∈ o.looksAt ops, ρ (.tmp u) = atEnd (dsts ops) a0 f u) → ∀ W', (execOp ρ o).run P W' = .ok (.value v) W') :
    ∀ (fuel : Nat) (listed : Array Bool) (a : Act) (W : World) (r : List Nat), listed.size = ops.size → unl listed ops.size = fuel →
      (∀ (j : Nat) (k : Kd), j < ops.size → ks[j]? = some k → k.isLate = false → k.isStore = false → listed.getD j false = true) →
      r.Nodup → (∀ j, j ∈ r ↔ j < ops.size ∧ ks[j]? = some .store ∧ listed.getD j false = false) →
      a.defers = a0.defers → a.tmps.size = a0.tmps.size →
      (∀ (i : Nat) (o : Oper) (t : Tmp), ops[i]? = some o → o.dst = some t → listed.getD i false = true → a.eval (.tmp t) = f t) →
      (∀ t, (∀ (i : Nat) (o : Oper), ops[i]? = some o → o.dst = some t → listed.getD i false = false) → a.eval (.tmp t) = a0.eval (.tmp t)) →
      (∀ σ : List Nat, σ.Perm r → ∀ (ρ : Operand → Value), Std ρ → (∀ t ∈ rd, ρ (.tmp t) = atEnd (dsts ops) a0 f t) → StoresRun P ρ (fun W' => Q .normal (fin a0 (dsts ops) f) W') (opsAt ops σ) W) →
      wpAny P .any ops Q fuel listed a W := by
  intro fuel
  induction fuel with
  | zero =>
    intro listed a W r hls hu hE hn hr hdf hsz hdone hother hst
    have hall := unl_zero hu
    have hr0 : r = [] := by
      rw [List.eq_nil_iff_forall_not_mem]
      intro j hj
      obtain ⟨h1, h2, h3⟩ := (hr j).1 hj
      have h4 := hall j h1
      have h5 : j < listed.size := by omega
      simp [h5] at h3 h4
      rw [h3] at h4; cases h4
    subst hr0
    have hready : Region.ready .any ops listed = [] := by
      rw [List.eq_nil_iff_forall_not_mem]
      intro j hj
      obtain ⟨h1, o, ho, _⟩ := mem_ready.1 hj
      rw [hall j (by have := (Array.getElem?_eq_some_iff.1 ho).1; omega)] at h1
      cases h1
    refine ⟨hready, ?_⟩
    have hd : ∀ t ∈ dsts ops, a.eval (.tmp t) = f t := fun t ht => by
      obtain ⟨i, o, hi, hdt⟩ := mem_dsts.1 ht
      refine hdone i o t hi hdt ?_
      have h1 := hall i (Array.getElem?_eq_some_iff.1 hi).1
      have h2 : i < listed.size := by have := (Array.getElem?_eq_some_iff.1 hi).1; omega
      simp [h2] at h1 ⊢
      exact h1
    rw [act_fin (a := a) (a0 := a0) (ds := dsts ops) hdf hsz (fun t ht => hother t fun i o hi hdt => absurd (mem_dsts.2 ⟨i, o, hi, hdt⟩) ht), fin_congr hd]
    exact hst [] (List.Perm.refl _) a.eval (Std.eval a) (fun t ht => by
      unfold atEnd
      cases hc : (dsts ops).contains t
      · simp only [cond_false]
        exact hother t fun i o hi hdt => absurd (mem_dsts.2 ⟨i, o, hi, hdt⟩) (by simpa using hc)
      · simp only [cond_true]
        exact hd t (by simpa using hc))
  | succ fuel ih =>
    intro listed a W r hls hu hE hn hr hdf hsz hdone hother hst
    refine ⟨fun hready => ?_, fun i hi => ?_⟩
    · exfalso
      have h1 := all_listed hB hls hready
      have hz : ∀ n, n ≤ ops.size → unl listed n = 0 := by
        intro n
        induction n with
        | zero => intro _; rfl
        | succ n ihn =>
          intro hn
          unfold unl
          have h2 := h1 n (by omega)
          have h3 : n < listed.size := by omega
          have h4 : listed.getD n true = true := by simp [h3] at h2 ⊢; exact h2
          rw [ihn (by omega), h4]; simp
      have := hz _ (Nat.le_refl _)
      omega
    · obtain ⟨hun, o, ho, hall⟩ := mem_ready.1 hi
      have hlt : i < ops.size := (Array.getElem?_eq_some_iff.1 ho).1
      have hunf : listed.getD i false = false := by
        have : i < listed.size := by omega
        simp [this] at hun ⊢
        exact hun
      obtain ⟨hd1, hd2, hd3⟩ := depsB_at hB ho
      have reads : ∀ u ∈ o.looksAt ops, a.eval (.tmp u) = atEnd (dsts ops) a0 f u := fun u hu' => by
        unfold atEnd
        cases hc : (dsts ops).contains u
        · simp only [cond_false]
          exact hother u fun j oj hj hdt => absurd (mem_dsts.2 ⟨j, oj, hj, hdt⟩) (by simpa using hc)
        · simp only [cond_true]
          obtain ⟨j, oj, hj, hdj⟩ := mem_dsts.1 (by simpa using hc)
          obtain ⟨e, he, hb, hon⟩ := hd2 u hu' j oj hj hdj
          have h1 := hall e he hb
          rw [hon] at h1
          exact hdone j oj u hj hdj h1
      have hu2 : unl (listed.setIfInBounds i true) ops.size = fuel := by
        have := unl_set (l := listed) (i := i) hun (by omega) hlt
        omega
      have hset : ∀ j, j ≠ i → (listed.setIfInBounds i true).getD j false = listed.getD j false := fun j hj => getD_set_ne false (fun e => hj e.symm)
      have hseti : (listed.setIfInBounds i true).getD i false = true := by
        have : i < listed.size := by omega
        simp [this]
      cases hk : ks[i]? with
      | none => exact absurd hk (hV i o ho)
      | some k =>
        cases k with
        | op =>
          have := hE i _ hlt hk rfl rfl
          rw [hunf] at this; cases this
        | new =>
          have := hE i _ hlt hk rfl rfl
          rw [hunf] at this; cases this
        | late v =>
          obtain ⟨t, hdt, hft, hrun⟩ := hL i o v ho hk
          obtain ⟨htn, huniq⟩ := hd1 t hdt
          have hta : t < a.tmps.size := by rw [hsz]; exact htn
          refine op_out (Le := fun x y => x = y) (φ := fun u _ => u = v) ho (hG i o ho) ?_ (fun u W' hW hu' => ?_)
          · rw [hrun a.eval (Std.eval a) reads W]
            exact ⟨rfl, rfl⟩
          · subst hW hu'
            rw [hdt]
            refine ih _ _ _ r (by simpa using hls) hu2 (fun j k' h1 h2 h3 h4 => ?_) hn (fun j => ?_) (by simpa [Act.put] using hdf) (by simp [Act.put, hsz]) (fun j oj u hj hdj hl => ?_) (fun u hu' => ?_) hst
            · have h5 : j ≠ i := by
                rintro rfl
                rw [hk] at h2
                obtain rfl := Option.some.inj h2
                cases h3
              rw [hset j h5]; exact hE j k' h1 h2 h3 h4
            · rw [hr j]
              constructor
              · rintro ⟨h1, h2, h3⟩
                have h5 : j ≠ i := by
                  rintro rfl
                  rw [hk] at h2; cases h2
                exact ⟨h1, h2, by rw [hset j h5]; exact h3⟩
              · rintro ⟨h1, h2, h3⟩
                have h5 : j ≠ i := by
                  rintro rfl
                  rw [hk] at h2; cases h2
                exact ⟨h1, h2, by rw [← hset j h5]; exact h3⟩
            · by_cases h5 : j = i
              · subst h5
                rw [ho] at hj
                obtain rfl := Option.some.inj hj
                rw [hdt] at hdj
                obtain rfl := Option.some.inj hdj
                rw [eval_put_same a hta, hft]
              · have h6 : t ≠ u := by
                  rintro rfl
                  exact h5 (huniq j oj hj hdj)
                rw [eval_put_other a h6]
                rw [hset j h5] at hl
                exact hdone j oj u hj hdj hl
            · have h6 : t ≠ u := by
                rintro rfl
                have := hu' i o ho hdt
                rw [hseti] at this; cases this
              rw [eval_put_other a h6]
              refine hother u fun j oj hj hdj => ?_
              have h5 : j ≠ i := by
                rintro rfl
                rw [ho] at hj
                obtain rfl := Option.some.inj hj
                rw [hdt] at hdj
                exact h6 (Option.some.inj hdj)
              rw [← hset j h5]; exact hu' j oj hj hdj
        | store =>
          obtain ⟨hso, hsd, hsr⟩ := hS i o ho hk
          have hir : i ∈ r := (hr i).2 ⟨hlt, hk, hunf⟩
          have hrd : ∀ t ∈ rd, a.eval (.tmp t) = atEnd (dsts ops) a0 f t := fun t ht => by
            unfold atEnd
            cases hc : (dsts ops).contains t
            · simp only [cond_false]
              exact hother t fun j oj hj hdt => absurd (mem_dsts.2 ⟨j, oj, hj, hdt⟩) (by simpa using hc)
            · simp only [cond_true]
              obtain ⟨j, oj, hj, hdj⟩ := mem_dsts.1 (by simpa using hc)
              refine hdone j oj t hj hdj ?_
              cases hkj : ks[j]? with
              | none => exact absurd hkj (hV j oj hj)
              | some kj =>
                refine hE j kj (Array.getElem?_eq_some_iff.1 hj).1 hkj ?_ ?_
                · cases kj with
                  | late v => exact absurd hkj (hR t ht j oj hj hdj v)
                  | _ => rfl
                · cases kj with
                  | store =>
                    rw [(hS j oj hj hkj).2.1] at hdj; cases hdj
                  | _ => rfl
          have hpm : r.Perm (i :: r.erase i) := List.perm_cons_erase hir
          have hcons : ∀ σ, opsAt ops (i :: σ) = o :: opsAt ops σ := fun σ => by
            unfold opsAt
            rw [List.filterMap_cons]; simp only [ho]
          obtain ⟨W2, hW2, -⟩ := (hcons _ ▸ hst (i :: r.erase i) hpm.symm a.eval (Std.eval a) hrd : StoresRun P a.eval _ (o :: opsAt ops (r.erase i)) W)
          refine op_out (Le := fun _ y => y = W2) (φ := fun u _ => u = undef) ho (hG i o ho) ?_ (fun u W' hW hu' => ?_)
          · rw [hW2]
            exact ⟨rfl, rfl⟩
          · subst hW hu'
            rw [hsd]
            have e1 : a.put none undef = a := rfl
            rw [e1]
            refine ih _ _ _ (r.erase i) (by simpa using hls) hu2 (fun j k' h1 h2 h3 h4 => ?_) (hn.erase i) (fun j => ?_) hdf hsz (fun j oj u hj hdj hl => ?_) (fun u hu' => ?_) (fun σ hσ ρ hρ hρr => ?_)
            · have h5 : j ≠ i := by
                rintro rfl
                rw [hk] at h2
                obtain rfl := Option.some.inj h2
                cases h4
              rw [hset j h5]; exact hE j k' h1 h2 h3 h4
            · rw [hn.mem_erase_iff, hr j]
              constructor
              · rintro ⟨h0, h1, h2, h3⟩
                exact ⟨h1, h2, by rw [hset j h0]; exact h3⟩
              · rintro ⟨h1, h2, h3⟩
                have h5 : j ≠ i := by
                  rintro rfl
                  rw [hseti] at h3; cases h3
                exact ⟨h5, h1, h2, by rw [← hset j h5]; exact h3⟩
            · by_cases h5 : j = i
              · subst h5
                rw [ho] at hj
                obtain rfl := Option.some.inj hj
                rw [hsd] at hdj; cases hdj
              · rw [hset j h5] at hl
                exact hdone j oj u hj hdj hl
            · refine hother u fun j oj hj hdj => ?_
              have h5 : j ≠ i := by
                rintro rfl
                rw [ho] at hj
                obtain rfl := Option.some.inj hj
                rw [hsd] at hdj; cases hdj
              rw [← hset j h5]; exact hu' j oj hj hdj
            · obtain ⟨W3, hW3, hrest⟩ := (hcons _ ▸ hst (i :: σ) ((List.Perm.cons i hσ).trans hpm.symm) ρ hρ hρr : StoresRun P ρ _ (o :: opsAt ops σ) W)
              have hex : execOp ρ o = execOp a.eval o := store_congr (ops := ops) hso hρ (Std.eval a) (fun t ht => by rw [hρr t (hsr t ht), hrd t (hsr t ht)])
              rw [hex, hW2] at hW3
              obtain rfl : W' = W3 := by simpa using hW3
              exact hrest

theorem lookK {ds : List (Option Tmp)} {φs : List (Value → World → Prop)} (hφ : Keeps Le F φs) (t : Tmp) (v : Value) (W W' : World) (h1 : F W) (h2 : Le W W') (h3 : ((look ds φs t).getD (fun _ _ => True)) v W) :
    ((look ds φs t).getD (fun _ _ => True)) v W' := by
  cases hl : look ds φs t with
  | none => simp
  | some φ =>
    simp only [hl, Option.getD_some] at h3 ⊢
    exact look_keeps hφ hl v W W' h1 h2 h3

/-- The slots of the blocks that are made. -/
def news : List Kd → List (Option Tmp) → List Tmp
  | .new :: ks, some d :: ds => d :: news ks ds
  | _ :: ks, _ :: ds => news ks ds
  | _, _ => []
def Apart (f : Tmp → Value) : List Tmp → Prop
  | [] => True
  | t :: ts => (∀ u ∈ ts, f t ≠ f u) ∧ Apart f ts
theorem news_mem : ∀ {ks : List Kd} {ds : List (Option Tmp)} {t : Tmp}, t ∈ news ks ds → ∃ i : Nat, ks[i]? = some .new ∧ ds[i]? = some (some t)
  | [], _, t, h => by simp [news] at h
  | k :: ks, [], t, h => by cases k <;> simp [news] at h
  | .new :: ks, some d :: ds, t, h => by
    rcases List.mem_cons.1 (show t ∈ d :: news ks ds from h) with rfl | h2
    · exact ⟨0, rfl, rfl⟩
    · obtain ⟨i, h3, h4⟩ := news_mem h2
      exact ⟨i + 1, by simpa using h3, by simpa using h4⟩
  | .new :: ks, none :: ds, t, h => by
    obtain ⟨i, h3, h4⟩ := news_mem (show t ∈ news ks ds from h)
    exact ⟨i + 1, by simpa using h3, by simpa using h4⟩
  | .op :: ks, _ :: ds, t, h => by
    obtain ⟨i, h3, h4⟩ := news_mem (show t ∈ news ks ds from h)
    exact ⟨i + 1, by simpa using h3, by simpa using h4⟩
  | .late _ :: ks, _ :: ds, t, h => by
    obtain ⟨i, h3, h4⟩ := news_mem (show t ∈ news ks ds from h)
    exact ⟨i + 1, by simpa using h3, by simpa using h4⟩
  | .store :: ks, _ :: ds, t, h => by
    obtain ⟨i, h3, h4⟩ := news_mem (show t ∈ news ks ds from h)
    exact ⟨i + 1, by simpa using h3, by simpa using h4⟩
theorem apart_of {f : Tmp → Value} : ∀ {ks : List Kd} {ds : List (Option Tmp)}, (∀ (i j : Nat) (t u : Tmp), i ≠ j → ks[i]? = some .new → ds[i]? = some (some t) → ks[j]? = some .new → ds[j]? = some (some u) → f t ≠ f u) → Apart f (news ks ds)
  | [], _, _ => trivial
  | k :: ks, [], _ => by cases k <;> trivial
  | .new :: ks, some d :: ds, h => ⟨fun u hu => by
      obtain ⟨j, h1, h2⟩ := news_mem hu
      exact h 0 (j + 1) d u (by omega) rfl rfl (by simpa using h1) (by simpa using h2), apart_of (fun i j t u h1 h2 h3 h4 h5 => h (i + 1) (j + 1) t u (by omega) (by simpa using h2) (by simpa using h3) (by simpa using h4) (by simpa using h5))⟩
  | .new :: ks, none :: ds, h => apart_of (ks := ks) (ds := ds) (fun i j t u h1 h2 h3 h4 h5 => h (i + 1) (j + 1) t u (by omega) (by simpa using h2) (by simpa using h3) (by simpa using h4) (by simpa using h5))
  | .op :: ks, _ :: ds, h => apart_of (ks := ks) (ds := ds) (fun i j t u h1 h2 h3 h4 h5 => h (i + 1) (j + 1) t u (by omega) (by simpa using h2) (by simpa using h3) (by simpa using h4) (by simpa using h5))
  | .late _ :: ks, _ :: ds, h => apart_of (ks := ks) (ds := ds) (fun i j t u h1 h2 h3 h4 h5 => h (i + 1) (j + 1) t u (by omega) (by simpa using h2) (by simpa using h3) (by simpa using h4) (by simpa using h5))
  | .store :: ks, _ :: ds, h => apart_of (ks := ks) (ds := ds) (fun i j t u h1 h2 h3 h4 h5 => h (i + 1) (j + 1) t u (by omega) (by simpa using h2) (by simpa using h3) (by simpa using h4) (by simpa using h5))

theorem slotsAt_of' {ds : List (Option Tmp)} {φs : List (Value → World → Prop)} {a0 : Act} {ρ : Operand → Value} {W : World} : ∀ {ts : List Tmp}, (∀ t ∈ ts, slotAt ds φs a0 t (ρ (.tmp t)) W) → slotsAt ds φs a0 ρ W ts
  | [], _ => trivial
  | t :: _, h => ⟨h t (by simp), slotsAt_of' fun u hu => h u (by simp [hu])⟩

def ReadsAt (ρ : Operand → Value) (g : Tmp → Value) : List Tmp → Prop
  | [] => True
  | t :: ts => ρ (.tmp t) = g t ∧ ReadsAt ρ g ts
theorem readsAt_of {ρ : Operand → Value} {g : Tmp → Value} : ∀ {ts : List Tmp}, (∀ t ∈ ts, ρ (.tmp t) = g t) → ReadsAt ρ g ts
  | [], _ => trivial
  | _ :: _, h => ⟨h _ (by simp), readsAt_of fun u hu => h u (by simp [hu])⟩
theorem stores_one {ρ : Operand → Value} {K : World → Prop} {l : List Oper} {i : Nat} {σ : List Nat} {W : World} (o : Oper) (hi : l[i]? = some o) (hσ : σ.Perm [i]) (W' : World) (hW : (execOp ρ o).run P W = .ok .skip W') (hK : K W') : StoresRun P ρ K (opsAt l.toArray σ) W := by
  rw [perm_one hσ]
  have : opsAt l.toArray [i] = [o] := by simp [opsAt, hi]
  rw [this]
  exact ⟨W', hW, hK⟩
/-- Two stores that may come in any order, with what both orders give. -/
theorem stores_two {ρ : Operand → Value} {K R : World → Prop} {l : List Oper} {i j : Nat} {σ : List Nat} {W : World} (o o' : Oper) (hi : l[i]? = some o) (hj : l[j]? = some o') (hσ : σ.Perm [i, j]) (W1 W2 W3 W4 : World)
    (h1 : (execOp ρ o).run P W = .ok .skip W1) (h2 : (execOp ρ o').run P W1 = .ok .skip W2) (h3 : (execOp ρ o').run P W = .ok .skip W3) (h4 : (execOp ρ o).run P W3 = .ok .skip W4)
    (hR : R W2) (hR' : R W4) (hK : ∀ W', R W' → K W') : StoresRun P ρ K (opsAt l.toArray σ) W := by
  have e1 : opsAt l.toArray [i, j] = [o, o'] := by simp [opsAt, hi, hj]
  have e2 : opsAt l.toArray [j, i] = [o', o] := by simp [opsAt, hi, hj]
  rcases perm_two hσ with rfl | rfl
  · rw [e1]; exact ⟨W1, h1, W2, h2, hK _ hR⟩
  · rw [e2]; exact ⟨W3, h3, W4, h4, hK _ hR'⟩

/-- **STORES THAT WAIT FOR ALL BUT SOME LATE OPERATIONS; BLOCKS THAT ARE APART.** `st`: the stores' places, `rd`: the slots that they read. -/
theorem wp_region_free {id : Nat} {Q : Exit → Act → World → Prop} {a : Act} {w : World} {l : List Oper} (ks : List Kd) (st : List Nat) (rd : List Tmp) (al : List Tmp) (ds : List (Option Tmp)) (ts : List (List Tmp)) (φs : List (Value → World → Prop))
    (hm : P.follows .mixedOrders = true) (hB : depsB a.tmps.size l.toArray = true) (hT : freeB ks l.toArray = true) (hg : l.all (fun o => o.guard.isNone) = true)
    (hstl : ((List.range l.length).filter fun i => (ks[i]?).elim false Kd.isStore) = st) (hrd : (opsAt l.toArray st).flatMap (·.looksAt l.toArray) = rd) (hal : news ks ds = al)
    (hds : l.map (·.dst) = ds) (hts : l.map (·.looksAt l.toArray) = ts)
    (Le : World → World → Prop) (F : World → Prop)
    (hrefl : ∀ W, F W → Le W W) (hF : ∀ W W', F W → Le W W' → F W') (hsize : ∀ W W', Le W W' → W.heap.size ≤ W'.heap.size) (hφ : Keeps Le F φs)
    (h0 : F w.drew) (hO : AsksL P Le F ds φs a ks l φs ts)
    (hend : ∀ (f : Tmp → Value) (W : World), F W → Ends f W ds φs → Apart f al → ∀ σ : List Nat, σ.Perm st → ∀ (ρ : Operand → Value), Std ρ → ReadsAt ρ (atEnd (ds.filterMap (fun d => d)) a f) rd →
      StoresRun P ρ (fun W' => Q .normal (fin a (ds.filterMap (fun d => d)) f) W') (opsAt l.toArray σ) W) : (Code.region id l.toArray true).wp P Q a w := by
  have hdsts : dsts l.toArray = ds.filterMap (fun d => d) := by rw [← hds]; unfold dsts; rw [List.filterMap_map]; rfl
  have hat : ∀ {i : Nat} {o : Oper} {t : Tmp} {φ : Value → World → Prop}, l[i]? = some o → o.dst = some t → φs[i]? = some φ → look ds φs t = some φ := by
    intro i o t φ hi hd hp
    refine look_at (i := i) (by rw [← hds, List.getElem?_map, hi]; simp [hd]) hp fun j hj => ?_
    rw [← hds, List.getElem?_map] at hj
    cases hlj : l[j]? with
    | none => rw [hlj] at hj; cases hj
    | some oj =>
      rw [hlj] at hj
      exact ((depsB_at hB (i := i) (o := o) (by simpa using hi)).1 t hd).2 j oj (by simpa using hlj) (by simpa using hj)
  have hG : ∀ (i : Nat) (o : Oper), l.toArray[i]? = some o → o.guard = none := fun i o hi => by
    have := List.all_eq_true.1 hg o (List.mem_of_getElem? (by simpa using hi))
    simpa using this
  have hfree : ∀ (i : Nat) (o : Oper), l.toArray[i]? = some o → ∃ k, ks[i]? = some k ∧ (k = .store → isStoreOp o = true ∧ o.dst = none ∧ ∀ j, j < l.toArray.size → ∀ kj, ks[j]? = some kj → kj ≠ .store →
      (∀ v, kj = .late v → ∀ t oj, l.toArray[j]? = some oj → oj.dst = some t → t ∉ o.looksAt l.toArray) ∧ (kj.isLate = false → reachB l.toArray l.toArray.size i j = true)) := by
    intro i o hi
    have hlt := (Array.getElem?_eq_some_iff.1 hi).1
    unfold freeB at hT
    rw [List.all_eq_true] at hT
    have h1 := hT i (List.mem_range.2 hlt)
    simp only [hi] at h1
    cases hk : ks[i]? with
    | none => rw [hk] at h1; cases h1
    | some k =>
      refine ⟨k, rfl, fun e => ?_⟩
      subst e
      rw [hk] at h1
      simp only [Bool.and_eq_true, List.all_eq_true, List.mem_range] at h1
      refine ⟨h1.1.1, by simpa using h1.1.2, fun j hj kj hkj hne => ?_⟩
      have h2 := h1.2 j hj
      rw [hkj] at h2
      cases kj with
      | store => exact absurd rfl hne
      | late v =>
        refine ⟨fun v' _ t oj hoj hd => ?_, fun h => by cases h⟩
        simp only [hoj, Option.bind_some, hd] at h2
        simpa using h2
      | op => exact ⟨(fun v h => by cases h), fun _ => h2⟩
      | new => exact ⟨(fun v h => by cases h), fun _ => h2⟩
  have hlate : ∀ (i : Nat) (o : Oper) (v : Value), l.toArray[i]? = some o → ks[i]? = some (.late v) → ∃ t, o.dst = some t := by
    intro i o v hi hk
    have hlt := (Array.getElem?_eq_some_iff.1 hi).1
    unfold freeB at hT
    rw [List.all_eq_true] at hT
    have h1 := hT i (List.mem_range.2 hlt)
    simp only [hi, hk] at h1
    exact Option.isSome_iff_exists.1 h1
  have hpred : ∀ {i : Nat} {o : Oper}, l[i]? = some o → ∃ k φ, ks[i]? = some k ∧ φs[i]? = some φ ∧ AskK P Le F ds φs a o φ (o.looksAt l.toArray) k := by
    intro i o hi
    obtain ⟨k, φ, t, h1, h2, h3, h4⟩ := asksL_at hO hi
    refine ⟨k, φ, h1, h2, ?_⟩
    rw [← hts, List.getElem?_map, hi] at h3
    rw [show o.looksAt l.toArray = t by simpa using h3]
    exact h4
  have hΨ := lookK (F := F) (Le := Le) hφ (ds := ds)
  -- slots that are read, as the obligations want them
  have hslots : ∀ {listed : Array Bool} {a' : Act} {W : World} {o : Oper} {i : Nat}, Good F (fun t => (look ds φs t).getD (fun _ _ => True)) a l.toArray listed a' W → l.toArray[i]? = some o →
      (∀ e ∈ o.after, Region.binds .any e = true → listed.getD e.on false = true) → slotsAt ds φs a a'.eval W (o.looksAt l.toArray) := by
    intro listed a' W o i hgood ho hall
    refine slotsAt_of fun u hu => ?_
    unfold slotAt
    cases hl : look ds φs u with
    | none =>
      refine hgood.other u fun j oj hj hdj => ?_
      obtain ⟨k, φ, h1, h2, -⟩ := hpred (i := j) (o := oj) (by simpa using hj)
      rw [hat (by simpa using hj) hdj h2] at hl; cases hl
    | some φ =>
      have hm : some u ∈ ds := look_mem hl
      obtain ⟨j, hj⟩ := List.mem_iff_getElem?.1 hm
      rw [← hds, List.getElem?_map] at hj
      cases hlj : l[j]? with
      | none => rw [hlj] at hj; cases hj
      | some oj =>
        rw [hlj] at hj
        have hdj : oj.dst = some u := by simpa using hj
        obtain ⟨e, he, hb, hon⟩ := (depsB_at hB ho).2.1 u hu j oj (by simpa using hlj) hdj
        have h1 := hall e he hb
        rw [hon] at h1
        have h2 := hgood.done j oj u (by simpa using hlj) hdj h1
        simpa [hl] using h2
  refine wp_region_any hm ?_
  have switch : ∀ (fuel : Nat) (listed : Array Bool) (a' : Act) (W : World), listed.size = l.toArray.size → unl listed l.toArray.size = fuel →
      (∀ j, j < l.toArray.size → ks[j]? = some .store → listed.getD j false = false) →
      (∀ (i : Nat) (o : Oper) (t : Tmp), l.toArray[i]? = some o → ks[i]? = some .new → o.dst = some t → listed.getD i false = true → ∃ q, a'.eval (.tmp t) = .pointer (some ⟨q, 0, none⟩) ∧ q < W.heap.size) →
      (∀ (i j : Nat) (o o' : Oper) (t u : Tmp), i ≠ j → l.toArray[i]? = some o → ks[i]? = some .new → o.dst = some t → listed.getD i false = true → l.toArray[j]? = some o' → ks[j]? = some .new → o'.dst = some u → listed.getD j false = true → a'.eval (.tmp t) ≠ a'.eval (.tmp u)) →
      Good F (fun t => (look ds φs t).getD (fun _ _ => True)) a l.toArray listed a' W →
      (∀ (j : Nat) (k : Kd), j < l.toArray.size → ks[j]? = some k → k.isLate = false → k.isStore = false → listed.getD j false = true) → wpAny P .any l.toArray Q fuel listed a' W := by
    intro fuel listed a' W hls hu hst hn1 hn2 hgood hE
    obtain ⟨f, hf1, hf2⟩ : ∃ f : Tmp → Value, (∀ (i : Nat) (o : Oper) (v : Value) (t : Tmp), l.toArray[i]? = some o → ks[i]? = some (.late v) → o.dst = some t → f t = v) ∧
        (∀ (i : Nat) (o : Oper) (t : Tmp) (k : Kd), l.toArray[i]? = some o → ks[i]? = some k → k.isLate = false → o.dst = some t → f t = a'.eval (.tmp t)) := by
      classical
      refine ⟨fun t => if h : ∃ v, ∃ (i : Nat) (o : Oper), l.toArray[i]? = some o ∧ ks[i]? = some (Kd.late v) ∧ o.dst = some t then h.choose else a'.eval (.tmp t), ?_, ?_⟩
      · intro i o v t hi hk hd
        have h : ∃ v, ∃ (i : Nat) (o : Oper), l.toArray[i]? = some o ∧ ks[i]? = some (Kd.late v) ∧ o.dst = some t := ⟨v, i, o, hi, hk, hd⟩
        simp only [dif_pos h]
        obtain ⟨i2, o2, h1, h2, h3⟩ := h.choose_spec
        have e : i2 = i := ((depsB_at hB hi).1 t hd).2 i2 o2 h1 h3
        rw [e, hk] at h2
        have h4 := Option.some.inj h2
        injection h4 with h5
        exact h5.symm
      · intro i o t k hi hk hl hd
        have h : ¬ ∃ v, ∃ (i : Nat) (o : Oper), l.toArray[i]? = some o ∧ ks[i]? = some (Kd.late v) ∧ o.dst = some t := by
          rintro ⟨v, i2, o2, h1, h2, h3⟩
          have e : i2 = i := ((depsB_at hB hi).1 t hd).2 i2 o2 h1 h3
          rw [e, hk] at h2
          have h4 := Option.some.inj h2
          rw [h4] at hl; cases hl
        simp only [dif_neg h]
    have hall : ∀ (j : Nat) (oj : Oper) (u : Tmp) (φ : Value → World → Prop), l[j]? = some oj → oj.dst = some u → φs[j]? = some φ → φ (f u) W := by
      intro j oj u φ hj hd hφj
      have hj' : l.toArray[j]? = some oj := by simpa using hj
      obtain ⟨k, φ', h1, h2, h3⟩ := hpred hj
      obtain rfl : φ' = φ := by rw [hφj] at h2; exact (Option.some.inj h2).symm
      have early : k.isLate = false → k.isStore = false → φ' (f u) W := fun e1 e2 => by
        rw [hf2 j oj u k hj' h1 e1 hd]
        have h4 := hgood.done j oj u hj' hd (hE j k (Array.getElem?_eq_some_iff.1 hj').1 h1 e1 e2)
        rw [hat hj hd h2] at h4
        exact h4
      cases k with
      | late v => rw [h3.1]; exact hf1 j oj v u hj' h1 hd
      | store =>
        obtain ⟨k', hk', hf⟩ := hfree j oj hj'
        rw [h1] at hk'
        rw [(hf (Option.some.inj hk').symm).2.1] at hd; cases hd
      | op => exact early rfl rfl
      | new => exact early rfl rfl
    have hmem : ∀ (i : Nat) (o : Oper), l.toArray[i]? = some o → ks[i]? = some .store → o ∈ opsAt l.toArray st := fun i o hi hk => by
      rw [← hstl]
      have hlt : i < l.length := by simpa using (Array.getElem?_eq_some_iff.1 hi).1
      exact List.mem_filterMap.2 ⟨i, List.mem_filter.2 ⟨List.mem_range.2 hlt, by simp [hk, Kd.isStore]⟩, hi⟩
    have hback : ∀ o ∈ opsAt l.toArray st, ∃ i : Nat, l.toArray[i]? = some o ∧ ks[i]? = some .store := fun o ho => by
      rw [← hstl] at ho
      obtain ⟨i, h1, h2⟩ := List.mem_filterMap.1 ho
      obtain ⟨-, h3⟩ := List.mem_filter.1 h1
      refine ⟨i, h2, ?_⟩
      cases hk : ks[i]? with
      | none => rw [hk] at h3; cases h3
      | some k =>
        rw [hk] at h3
        cases k <;> first | rfl | cases h3
    refine free_after (f := f) (rd := rd) (ks := ks) hB hG ?_ ?_ ?_ ?_ fuel listed a' W ((List.range l.length).filter fun i => (ks[i]?).elim false Kd.isStore) hls hu hE ?_ ?_ hgood.defers hgood.size ?_ hgood.other ?_
    · intro i o hi hk
      obtain ⟨k', hk', hf⟩ := hfree i o hi
      rw [hk] at hk'
      obtain ⟨h1, h2, -⟩ := hf (Option.some.inj hk').symm
      exact ⟨h1, h2, fun t ht => by rw [← hrd]; exact List.mem_flatMap.2 ⟨o, hmem i o hi hk, ht⟩⟩
    · intro t ht j oj hj hd v hkj
      rw [← hrd] at ht
      obtain ⟨o, ho, ht'⟩ := List.mem_flatMap.1 ht
      obtain ⟨i, hi, hk⟩ := hback o ho
      obtain ⟨k', hk', hf⟩ := hfree i o hi
      rw [hk] at hk'
      obtain ⟨-, -, h3⟩ := hf (Option.some.inj hk').symm
      exact (h3 j (Array.getElem?_eq_some_iff.1 hj).1 _ hkj (by intro h; cases h)).1 v rfl t oj hj hd ht'
    · intro i o hi
      obtain ⟨k', hk', -⟩ := hfree i o hi
      rw [hk']; intro h; cases h
    · intro i o v hi hk
      obtain ⟨t, hd⟩ := hlate i o v hi hk
      refine ⟨t, hd, hf1 i o v t hi hk hd, fun ρ hρ hr W' => ?_⟩
      obtain ⟨k, φ, h1, h2, h3⟩ := hpred (i := i) (o := o) (by simpa using hi)
      rw [hk] at h1
      obtain rfl := Option.some.inj h1
      refine h3.2 ρ W hρ hgood.base (slotsAt_of' fun u hu => ?_) W'
      unfold slotAt
      rw [hr u hu]
      unfold atEnd
      cases hl : look ds φs u with
      | none =>
        have hc : (dsts l.toArray).contains u = false := by
          rw [Bool.eq_false_iff]
          intro hc
          obtain ⟨j, oj, hj, hdj⟩ := mem_dsts.1 (by simpa using hc)
          obtain ⟨k, φ, -, h5, -⟩ := hpred (i := j) (o := oj) (by simpa using hj)
          rw [hat (by simpa using hj) hdj h5] at hl; cases hl
        rw [hc]; rfl
      | some φ' =>
        have hm : some u ∈ ds := look_mem hl
        obtain ⟨j, hj⟩ := List.mem_iff_getElem?.1 hm
        rw [← hds, List.getElem?_map] at hj
        cases hlj : l[j]? with
        | none => rw [hlj] at hj; cases hj
        | some oj =>
          rw [hlj] at hj
          have hdj : oj.dst = some u := by simpa using hj
          have hc : (dsts l.toArray).contains u = true := by
            simpa using mem_dsts.2 ⟨j, oj, (by simpa using hlj), hdj⟩
          rw [hc]
          obtain ⟨k, φ, -, h5, -⟩ := hpred (i := j) (o := oj) hlj
          rw [hat hlj hdj h5] at hl
          obtain rfl := Option.some.inj hl
          exact hall j oj u φ hlj hdj h5
    · exact (List.nodup_range).filter _
    · intro j
      rw [List.mem_filter, List.mem_range]
      constructor
      · rintro ⟨h1, h2⟩
        have hk : ks[j]? = some .store := by
          cases hk : ks[j]? with
          | none => rw [hk] at h2; cases h2
          | some k =>
            rw [hk] at h2
            cases k <;> first | rfl | cases h2
        exact ⟨by simpa using h1, hk, hst j (by simpa using h1) hk⟩
      · rintro ⟨h1, h2, -⟩
        exact ⟨by simpa using h1, by simp [h2, Kd.isStore]⟩
    · intro i o t hi hd hl
      obtain ⟨k, φ, h1, h2, h3⟩ := hpred (i := i) (o := o) (by simpa using hi)
      cases k with
      | late v =>
        rw [hf1 i o v t hi h1 hd]
        have h4 := hgood.done i o t hi hd hl
        rw [hat (by simpa using hi) hd h2, h3.1] at h4
        exact h4
      | op => exact (hf2 i o t _ hi h1 rfl hd).symm
      | new => exact (hf2 i o t _ hi h1 rfl hd).symm
      | store => exact (hf2 i o t _ hi h1 rfl hd).symm
    · intro σ hσ ρ hρ hr
      rw [hdsts] at hr ⊢
      rw [hstl] at hσ
      refine hend f W hgood.base (ends_of fun i t φ h1 h2 => ?_) ?_ σ hσ ρ hρ (readsAt_of hr)
      · rw [← hds, List.getElem?_map] at h1
        cases hli : l[i]? with
        | none => rw [hli] at h1; cases h1
        | some o =>
          rw [hli] at h1
          exact hall i o t φ hli (by simpa using h1) h2
      · rw [← hal]
        refine apart_of fun i j t u hne h1 h2 h3 h4 => ?_
        rw [← hds, List.getElem?_map] at h2 h4
        cases hli : l[i]? with
        | none => rw [hli] at h2; cases h2
        | some o =>
          cases hlj : l[j]? with
          | none => rw [hlj] at h4; cases h4
          | some o' =>
            rw [hli] at h2
            rw [hlj] at h4
            have hi' : l.toArray[i]? = some o := by simpa using hli
            have hj' : l.toArray[j]? = some o' := by simpa using hlj
            have hd : o.dst = some t := by simpa using h2
            have hd' : o'.dst = some u := by simpa using h4
            rw [hf2 i o t _ hi' h1 rfl hd, hf2 j o' u _ hj' h3 rfl hd']
            exact hn2 i j o o' t u hne hi' h1 hd (hE i _ (Array.getElem?_eq_some_iff.1 hi').1 h1 rfl rfl) hj' h3 hd' (hE j _ (Array.getElem?_eq_some_iff.1 hj').1 h3 rfl rfl)
  have main : ∀ (fuel : Nat) (listed : Array Bool) (a' : Act) (W : World), listed.size = l.toArray.size → unl listed l.toArray.size = fuel → Closed l.toArray listed →
      (∀ j, j < l.toArray.size → ks[j]? = some .store → listed.getD j false = false) →
      (∀ (i : Nat) (o : Oper) (t : Tmp), l.toArray[i]? = some o → ks[i]? = some .new → o.dst = some t → listed.getD i false = true → ∃ q, a'.eval (.tmp t) = .pointer (some ⟨q, 0, none⟩) ∧ q < W.heap.size) →
      (∀ (i j : Nat) (o o' : Oper) (t u : Tmp), i ≠ j → l.toArray[i]? = some o → ks[i]? = some .new → o.dst = some t → listed.getD i false = true → l.toArray[j]? = some o' → ks[j]? = some .new → o'.dst = some u → listed.getD j false = true → a'.eval (.tmp t) ≠ a'.eval (.tmp u)) →
      Good F (fun t => (look ds φs t).getD (fun _ _ => True)) a l.toArray listed a' W → wpAny P .any l.toArray Q fuel listed a' W := by
    intro fuel
    induction fuel with
    | zero =>
      intro listed a' W hls hu hcl hst hn1 hn2 hgood
      have hall := unl_zero hu
      exact switch 0 listed a' W hls hu hst hn1 hn2 hgood fun j k hj _ _ _ => by
        have h1 := hall j hj
        have h2 : j < listed.size := by omega
        simp [h2] at h1 ⊢
        exact h1
    | succ fuel ih =>
      intro listed a' W hls hu hcl hst hn1 hn2 hgood
      by_cases hE : ∀ (j : Nat) (k : Kd), j < l.toArray.size → ks[j]? = some k → k.isLate = false → k.isStore = false → listed.getD j false = true
      · exact switch _ listed a' W hls hu hst hn1 hn2 hgood hE
      · refine ⟨fun hr => absurd (fun j k hj _ _ _ => all_listed hB hls hr j hj) hE, fun i hi => ?_⟩
        obtain ⟨hun, o, ho, hall⟩ := mem_ready.1 hi
        have hlt : i < l.toArray.size := (Array.getElem?_eq_some_iff.1 ho).1
        have hlo : l[i]? = some o := by simpa using ho
        obtain ⟨k, φ, hk, hφi, hask⟩ := hpred hlo
        have hsl := hslots hgood ho hall
        have hu2 : unl (listed.setIfInBounds i true) l.toArray.size = fuel := by
          have := unl_set (l := listed) (i := i) hun (by omega) hlt
          omega
        have hset : ∀ j, j ≠ i → (listed.setIfInBounds i true).getD j false = listed.getD j false := fun j hj => getD_set_ne false (fun e => hj e.symm)
        have hns : k ≠ .store → ∀ j, j < l.toArray.size → ks[j]? = some .store → (listed.setIfInBounds i true).getD j false = false := fun hne j hj hkj => by
          have h5 : j ≠ i := by
            rintro rfl
            rw [hk] at hkj
            exact hne (Option.some.inj hkj)
          rw [hset j h5]; exact hst j hj hkj
        have hpost : ∀ v W', φ v W' → dstPost (fun t => (look ds φs t).getD (fun _ _ => True)) o v W' := fun v W' hv => by
          unfold dstPost
          cases hd : o.dst with
          | none => trivial
          | some d =>
            simp only [hat hlo hd hφi, Option.getD_some]
            exact hv
        have hput : ∀ v W', Le W W' → φ v W' → Good F (fun t => (look ds φs t).getD (fun _ _ => True)) a l.toArray (listed.setIfInBounds i true) (a'.put o.dst v) W' := fun v W' hle hv =>
          good_put hB (by omega) hF hΨ ho hgood v W' hle (hpost v W' hv)
        -- the slots of blocks that were made before
        have hkeep : ∀ (j : Nat) (oj : Oper) (u : Tmp) (v : Value), j ≠ i → l.toArray[j]? = some oj → oj.dst = some u → (a'.put o.dst v).eval (.tmp u) = a'.eval (.tmp u) := fun j oj u v hji hj hdj => by
          refine Act.eval_put fun d hd e => ?_
          have e2 : u = d := by simpa using e
          subst e2
          exact hji (((depsB_at hB ho).1 u hd).2 j oj hj hdj)
        cases k with
        | store =>
          obtain ⟨k', hk', hf⟩ := hfree i o ho
          rw [hk] at hk'
          obtain ⟨-, -, hreach⟩ := hf (Option.some.inj hk').symm
          refine absurd (fun j kj hj hkj h1 h2 => ?_) hE
          have hall' : ∀ o', l.toArray[i]? = some o' → ∀ e ∈ o'.after, Region.binds .any e = true → listed.getD e.on false = true := fun o' ho' => by
            rw [ho] at ho'
            obtain rfl : o = o' := by simpa using ho'
            exact hall
          exact reach_listed hcl _ _ _ ((hreach j hj kj hkj (by rintro rfl; cases h2)).2 h1) hall' o ho
        | op =>
          refine op_out (Le := Le) ho (hG i o ho) (hask a'.eval W (Std.eval a') hgood.base hsl) (fun v W' hle hv => ih _ _ _ (by simpa using hls) hu2 (hcl.set ho hall) (hns (by intro h; cases h)) ?_ ?_ (hput v W' hle hv))
          · intro j oj t hj hkj hdj hl
            have h5 : j ≠ i := by rintro rfl; rw [hk] at hkj; cases hkj
            rw [hset j h5] at hl
            obtain ⟨q, h1, h2⟩ := hn1 j oj t hj hkj hdj hl
            exact ⟨q, by rw [hkeep j oj t v h5 hj hdj]; exact h1, Nat.lt_of_lt_of_le h2 (hsize _ _ hle)⟩
          · intro j j' oj oj' t u hne hj hkj hdj hl hj' hkj' hdj' hl'
            have h5 : j ≠ i := by rintro rfl; rw [hk] at hkj; cases hkj
            have h6 : j' ≠ i := by rintro rfl; rw [hk] at hkj'; cases hkj'
            rw [hset j h5] at hl
            rw [hset j' h6] at hl'
            rw [hkeep j oj t v h5 hj hdj, hkeep j' oj' u v h6 hj' hdj']
            exact hn2 j j' oj oj' t u hne hj hkj hdj hl hj' hkj' hdj' hl'
        | late v0 =>
          refine op_out (Le := Le) (φ := φ) ho (hG i o ho) ?_ (fun v W' hle hv => ih _ _ _ (by simpa using hls) hu2 (hcl.set ho hall) (hns (by intro h; cases h)) ?_ ?_ (hput v W' hle hv))
          · rw [hask.2 a'.eval W (Std.eval a') hgood.base hsl W]
            exact ⟨hrefl W hgood.base, by rw [hask.1]⟩
          · intro j oj t hj hkj hdj hl
            have h5 : j ≠ i := by rintro rfl; rw [hk] at hkj; cases hkj
            rw [hset j h5] at hl
            obtain ⟨q, h1, h2⟩ := hn1 j oj t hj hkj hdj hl
            exact ⟨q, by rw [hkeep j oj t v h5 hj hdj]; exact h1, Nat.lt_of_lt_of_le h2 (hsize _ _ hle)⟩
          · intro j j' oj oj' t u hne hj hkj hdj hl hj' hkj' hdj' hl'
            have h5 : j ≠ i := by rintro rfl; rw [hk] at hkj; cases hkj
            have h6 : j' ≠ i := by rintro rfl; rw [hk] at hkj'; cases hkj'
            rw [hset j h5] at hl
            rw [hset j' h6] at hl'
            rw [hkeep j oj t v h5 hj hdj, hkeep j' oj' u v h6 hj' hdj']
            exact hn2 j j' oj oj' t u hne hj hkj hdj hl hj' hkj' hdj' hl'
        | new =>
          obtain ⟨W1, hrun, hlt1, hle1, hφ1⟩ := hask a'.eval W (Std.eval a') hgood.base hsl
          refine op_out (Le := fun _ y => y = W1) (φ := fun u _ => u = .pointer (some ⟨W.heap.size, 0, none⟩)) ho (hG i o ho) (by rw [hrun]; exact ⟨rfl, rfl⟩) (fun v W' hle hv => ?_)
          subst hle hv
          have own : ∀ t, o.dst = some t → (a'.put o.dst (.pointer (some ⟨W.heap.size, 0, none⟩))).eval (.tmp t) = .pointer (some ⟨W.heap.size, 0, none⟩) := fun t ht => by
            rw [ht]
            exact eval_put_same a' (by rw [hgood.size]; exact ((depsB_at hB ho).1 t ht).1) _
          have ownj : ∀ j oj t, j = i → l.toArray[j]? = some oj → oj.dst = some t → o.dst = some t := fun j oj t hji hj hdj => by
            subst hji
            rw [ho] at hj
            rw [Option.some.inj hj]; exact hdj
          refine ih _ _ _ (by simpa using hls) hu2 (hcl.set ho hall) (hns (by intro h; cases h)) ?_ ?_ (hput _ _ hle1 hφ1)
          · intro j oj t hj hkj hdj hl
            by_cases h5 : j = i
            · exact ⟨_, own t (ownj j oj t h5 hj hdj), hlt1⟩
            · rw [hset j h5] at hl
              obtain ⟨q, h1, h2⟩ := hn1 j oj t hj hkj hdj hl
              exact ⟨q, by rw [hkeep j oj t _ h5 hj hdj]; exact h1, Nat.lt_of_lt_of_le h2 (hsize _ _ hle1)⟩
          · intro j j' oj oj' t u hne hj hkj hdj hl hj' hkj' hdj' hl'
            by_cases h5 : j = i
            · have h6 : j' ≠ i := fun e => hne (h5.trans e.symm)
              rw [hset j' h6] at hl'
              rw [own t (ownj j oj t h5 hj hdj), hkeep j' oj' u _ h6 hj' hdj']
              obtain ⟨q, h1, h2⟩ := hn1 j' oj' u hj' hkj' hdj' hl'
              rw [h1]
              intro e
              simp at e <;> omega
            · rw [hset j h5] at hl
              rw [hkeep j oj t _ h5 hj hdj]
              by_cases h6 : j' = i
              · rw [own u (ownj j' oj' u h6 hj' hdj')]
                obtain ⟨q, h1, h2⟩ := hn1 j oj t hj hkj hdj hl
                rw [h1]
                intro e
                simp at e <;> omega
              · rw [hset j' h6] at hl'
                rw [hkeep j' oj' u _ h6 hj' hdj']
                exact hn2 j j' oj oj' t u hne hj hkj hdj hl hj' hkj' hdj' hl'
  have hcount : ∀ n : Nat, n ≤ l.toArray.size → unl (Array.replicate l.toArray.size false) n = n := by
    intro n
    induction n with
    | zero => intro _; rfl
    | succ n ih =>
      intro hn
      unfold unl
      rw [ih (by omega)]
      have h3 : n < l.length := by simp only [List.size_toArray] at hn; omega
      have : (Array.replicate l.toArray.size false).getD n true = false := by simp [h3]
      rw [this]; simp
  have hfalse : ∀ j, (Array.replicate l.toArray.size false).getD j false = false := fun j => by
    by_cases h : j < l.length <;> simp [h]
  have nope : ∀ {p : Prop} (j : Nat), (Array.replicate l.toArray.size false).getD j false = true → p := fun j h => by rw [hfalse j] at h; cases h
  exact main _ _ a w.drew (by simp) (hcount _ (Nat.le_refl _)) (fun j oj hj hl => nope j hl) (fun j _ _ => hfalse j) (fun j _ _ _ _ _ hl => nope j hl) (fun j _ _ _ _ _ _ _ _ _ hl => nope j hl)
    ⟨rfl, rfl, h0, fun i o t _ _ hl => nope i hl, fun t _ => rfl⟩
end Go.RegInv

namespace Go.Proofs.Ytmddnpagfgilcaa
open Go.RowKit Go.Shelf Go.Mem Go.RegInv
attribute [local go_sem] RelUpon_value RelUpon_skip RelUpon_enter BigFrame.eval_const BigFrame.eval_global BigFrame.eval_func

end Go.Proofs.Ytmddnpagfgilcaa

namespace Go.Proofs.Ytmddnpagfgilcaa
open Go.RowKit Go.Shelf Go.Mem Go.RegInv
attribute [local go_sem] RelUpon_value RelUpon_skip RelUpon_enter BigFrame.eval_const BigFrame.eval_global BigFrame.eval_func

theorem refLimit_any (l : Int) (w : World) : Calls Try.prog 23 #[.int .i64 l] w fun e w' => e = .returned (.int .i64 (errIf (!hardB l) 2)) ∧ w = w' := by
  have H1 := Lib.hid (fun W => isHard_any l W)
  generalize hardB l = b1 at *
  cases b1 with
  | false =>
    go_enter Try.func23, Try.ntmps23
    go_wp2_with (go_at_call 87; (with_reducible refine (H1.out _).mono ?_); rintro e w' ⟨rfl, rfl⟩)
    go_ret
    exact ⟨rfl, rfl⟩
  | true =>
    go_enter Try.func23, Try.ntmps23
    go_wp2_with (go_at_call 87; (with_reducible refine (H1.out _).mono ?_); rintro e w' ⟨rfl, rfl⟩)
    go_ret
    exact ⟨rfl, rfl⟩
theorem limE_eq (l : Int) : rangeE 0 2000 [l] = errIf (!hardB l) 2 := by
  unfold rangeE errIf hardB withinB outB
  by_cases h1 : 0 ≤ l <;> by_cases h2 : l ≤ 2000 <;> simp [h1, h2] <;> omega
theorem getI {xs : List In} {n i : Nat} (hn : xs.length = n) (h : i < n) : xs[i]? = some (xs.getD i default) := by
  rw [List.getD_eq_getElem?_getD, List.getElem?_eq_getElem (by omega)]; rfl
theorem w64_in (n : Int) (h : -9223372036854775808 ≤ n ∧ n ≤ 9223372036854775807) : wrap64 n = n := by unfold wrap64; omega
theorem depth_next {xs : List In} {n : Nat} (hn : xs.length = n) (hz : (checkT xs).2 = 0) {i : Nat} (h : i + 1 < n) : (xs.getD i default).d < (xs.getD (i + 1) default).d := by
  obtain ⟨-, -, hok⟩ := checkT_ok hz
  obtain ⟨a0, a1, a2, a3, -, -, -, -⟩ := hok i _ (getI hn (by omega))
  obtain ⟨b0, b1, b2, b3, -, -, -, hd⟩ := hok (i + 1) _ (getI hn h)
  unfold distK dist1 at hd
  rw [if_neg (by omega), Nat.add_sub_cancel] at hd
  have hd := of_decide_eq_false hd
  rw [w64_in _ (by omega), w64_in _ (by omega)] at hd
  omega
theorem depth_lt {xs : List In} {n : Nat} (hn : xs.length = n) (hz : (checkT xs).2 = 0) {i : Nat} : ∀ {j : Nat}, i < j → j < n → (xs.getD i default).d < (xs.getD j default).d
  | 0, h, _ => by omega
  | j + 1, h, hj => by
    have h1 := depth_next hn hz hj
    rcases Nat.lt_or_ge i j with h2 | h2
    · have := depth_lt hn hz h2 (show j < n by omega); omega
    · rw [show i = j by omega]; exact h1
theorem mapI {xs : List In} {n i : Nat} {g : In → Int × Int} (hn : xs.length = n) (h : i < n) : (xs.map g).getD i default = g (xs.getD i default) := by
  rw [List.getD_eq_getElem?_getD, List.getD_eq_getElem?_getD, List.getElem?_map, List.getElem?_eq_getElem (by omega)]; rfl
/-- What the values of a curve want. -/
structure Crv (ps : List (Int × Int)) (n : Nat) (d : Int) : Prop where
  len : ps.length = n
  two : 2 ≤ n
  most : n ≤ 20
  dep : 0 ≤ d ∧ d ≤ 10000
  bd : ∀ (i : Nat) (p : Int × Int), ps[i]? = some p → 0 ≤ p.1 ∧ p.1 ≤ 10000 ∧ 0 ≤ p.2 ∧ p.2 ≤ 2000
  asc : ∀ i j, i < j → j < n → (ps.getD i default).1 < (ps.getD j default).1
  inn : (ps.getD 0 default).1 ≤ d ∧ d ≤ (ps.getD (n - 1) default).1
theorem crv_lo {xs : List In} {n : Nat} {d : Int} (hn : xs.length = n) (hz : (checkT xs).2 = 0) (hd : (xs.getD 0 default).d ≤ d ∧ d ≤ (xs.getD (n - 1) default).d) : Crv (loP xs) n d := by
  obtain ⟨m2, m20, hok⟩ := checkT_ok hz
  rw [hn] at m2 m20
  have x0 := hok 0 _ (getI hn (by omega))
  have x1 := hok (n - 1) _ (getI hn (by omega))
  refine ⟨by simp [loP, hn], m2, m20, ⟨by omega, by omega⟩, fun i p h => ?_, fun i j h1 h2 => ?_, ?_⟩
  · simp only [loP, List.getElem?_map, Option.map_eq_some_iff] at h
    obtain ⟨y, hy, rfl⟩ := h
    have := hok i y hy
    exact ⟨by dsimp only; omega, by dsimp only; omega, by dsimp only; omega, by dsimp only; omega⟩
  · unfold loP; rw [mapI hn (by omega), mapI hn (by omega)]; exact depth_lt hn hz h1 h2
  · unfold loP; rw [mapI hn (by omega), mapI hn (by omega)]; exact hd
theorem crv_up {xs : List In} {n : Nat} {d : Int} (hn : xs.length = n) (hz : (checkT xs).2 = 0) (hd : (xs.getD 0 default).d ≤ d ∧ d ≤ (xs.getD (n - 1) default).d) : Crv (upP xs) n d := by
  obtain ⟨m2, m20, hok⟩ := checkT_ok hz
  rw [hn] at m2 m20
  have x0 := hok 0 _ (getI hn (by omega))
  have x1 := hok (n - 1) _ (getI hn (by omega))
  refine ⟨by simp [upP, hn], m2, m20, ⟨by omega, by omega⟩, fun i p h => ?_, fun i j h1 h2 => ?_, ?_⟩
  · simp only [upP, List.getElem?_map, Option.map_eq_some_iff] at h
    obtain ⟨y, hy, rfl⟩ := h
    have := hok i y hy
    exact ⟨by dsimp only; omega, by dsimp only; omega, by dsimp only; omega, by dsimp only; omega⟩
  · unfold upP; rw [mapI hn (by omega), mapI hn (by omega)]; exact depth_lt hn hz h1 h2
  · unfold upP; rw [mapI hn (by omega), mapI hn (by omega)]; exact hd

set_option maxRecDepth 100000 in
set_option maxHeartbeats 4000000 in
theorem hardAt_ok {A : Option Addr} {n ca : Nat} {xs : List In} {w : World} (d : Int) (hn : xs.length = n) (hA : RowsAt 4 In.enc w A xs) (hz : (checkT xs).2 = 0) (hd : withinB d (xs.getD 0 default).d (xs.getD (n - 1) default).d = true) :
    Calls Try.prog 17 #[.agg #[.slice A n ca], .int .i64 d] w fun e w' => e = .returned (.tuple #[.agg #[.int .i64 (atV (loP xs) d n).1, .int .i64 (atV (loP xs) d n).2, .int .i64 (atV (upP xs) d n).1, .int .i64 (atV (upP xs) d n).2], .int .i64 0]) ∧ Ext w w' := by
  obtain ⟨m2, m20, hok⟩ := checkT_ok hz
  rw [hn] at m2 m20
  have HTE := Lib.hid (fun W (e : Ext w W) => show Calls Try.prog 83 #[.agg #[.slice A n ca]] W fun e w' => e = .returned (.int .i64 0) ∧ Ext W w' from by
    have := traverseError_any (ca := ca) hn (hA.ext e)
    rw [hz] at this
    exact this)
  obtain ⟨x0, hx0⟩ : ∃ x0, x0 = xs.getD 0 default := ⟨_, rfl⟩
  obtain ⟨x1, hx1⟩ : ∃ x1, x1 = xs.getD (n - 1) default := ⟨_, rfl⟩
  have g0 : xs[0]? = some x0 := by rw [hx0]; exact getI hn (by omega)
  have g1 : xs[n - 1]? = some x1 := by rw [hx1]; exact getI hn (by omega)
  obtain ⟨b, o, rfl, hb, hc⟩ := row_at hA g0
  obtain ⟨b2, o2, he, _, hc2⟩ := row_at hA g1
  obtain ⟨rfl, rfl⟩ : b = b2 ∧ o = o2 := by simpa using he
  have P0 := Lib.hid (show w.cell? ⟨b, o, none⟩ = some (.int .i64 x0.d) by have := hc 0 _ rfl; simpa using this)
  have P1 := Lib.hid (show w.cell? ⟨b, o + (n - 1) * 4, none⟩ = some (.int .i64 x1.d) from hc2 0 _ rfl)
  clear hc hc2 he g0 g1 hb
  have CL := crv_lo hn hz (by rw [withinB_eq] at hd; exact of_decide_eq_true hd)
  have CU := crv_up hn hz (by rw [withinB_eq] at hd; exact of_decide_eq_true hd)
  rw [← hx0, ← hx1] at hd
  have HRG := Lib.hid (fun W s (hI : IntsAt W s [d]) => show Calls Try.prog 79 #[.int .i64 x0.d, .int .i64 x1.d, s] W fun e w' => e = .returned (.int .i64 0) ∧ Ext W w' from by
    have := rangeError_any x0.d x1.d _ [d] _ hI
    rw [show rangeE x0.d x1.d [d] = 0 by rw [rangeE_one, hd]; rfl] at this
    exact this)
  have HCO := Lib.hid (fun W => curvesOf_any (A := some ⟨b, o, none⟩) (n := n) (ca := ca) W)
  have HL := Lib.hid (fun W tb (e : Ext w W) (k : Blk W tb 24 #[.slice (some ⟨b, o, none⟩) n ca]) => at119_any (cp := #[.pointer (some ⟨tb, 0, none⟩)]) (w := W) CL.len CL.two (by have := CL.most; omega) CL.dep CL.bd CL.asc CL.inn (fun i p W2 hp e2 => by
    simp only [loP, List.getElem?_map, Option.map_eq_some_iff] at hp
    obtain ⟨y, hy, rfl⟩ := hp
    exact clos119_any hn (hA.ext (e.trans e2)) ((k.ext e2).cell 0) hy))
  have HH := Lib.hid (fun W tb (e : Ext w W) (k : Blk W tb 24 #[.slice (some ⟨b, o, none⟩) n ca]) => at120_any (cp := #[.pointer (some ⟨tb, 0, none⟩)]) (w := W) CU.len CU.two (by have := CU.most; omega) CU.dep CU.bd CU.asc CU.inn (fun i p W2 hp e2 => by
    simp only [upP, List.getElem?_map, Option.map_eq_some_iff] at hp
    obtain ⟨y, hy, rfl⟩ := hp
    exact clos120_any hn (hA.ext (e.trans e2)) ((k.ext e2).cell 0) hy))
  clear hn hA hz hok hx0 hx1 hd CL CU
  generalize atV (loP xs) d n = lo at *
  generalize atV (upP xs) d n = hi at *

  obtain ⟨W0, hW0⟩ : ∃ W0, W0 = (w.alloc (.cells #[.slice (some ⟨b, o, none⟩) n ca] 24)).alloc (.cells #[.int .i64 0, .int .i64 0, .int .i64 0, .int .i64 0] 34) := ⟨_, rfl⟩
  have K0 := Lib.hid (show Blk W0 w.heap.size 24 #[.slice (some ⟨b, o, none⟩) n ca] by rw [hW0]; exact (Blk.new _ _ _).alloc _)
  have K1 := Lib.hid (show Blk W0 (w.heap.size + 1) 34 #[.int .i64 0, .int .i64 0, .int .i64 0, .int .i64 0] by rw [hW0]; exact Blk.newAt _ _ _ (by simp))
  have E0 := Lib.hid (show Ext w W0 by rw [hW0]; exact (Ext.alloc _ _).trans (Ext.alloc _ _))
  have y0 : W0.cell? ⟨w.heap.size, 0, none⟩ = some (.slice (some ⟨b, o, none⟩) n ca) := K0.out.cell 0
  go_enter Try.func17, Try.ntmps17
  go_wp2_with (fail)
  rw [← hW0]
  clear hW0
  go_wp2_with (go_at_call 83; refine (HTE.out _ E0.out).mono ?_; rintro e W1 ⟨rfl, hx⟩; have X1 := Lib.hid hx; clear hx y0; refine Hid.out ?_)
  refine Lib.hid ?_
  have B0 := Lib.hid (K0.out.ext X1.out)
  have B1 := Lib.hid (K1.out.ext X1.out)
  have X := Lib.hid (E0.out.trans X1.out)
  have y0 : W1.cell? ⟨w.heap.size, 0, none⟩ = some (.slice (some ⟨b, o, none⟩) n ca) := B0.out.cell 0
  have t0 := X.out.cell P0.out
  have t1 := X.out.cell P1.out
  clear K0 K1 X1
  go_wp2
  refine wp_region_each [some 20, some 21, some 22, some 23, some 24, some 25, some 26, some 27, some 28, some 29, some 30, some 31, some 32, some 33, some 34, some 8] [[2], [20], [21], [22], [23], [2], [25], [7], [27], [26, 28], [29], [30], [1], [32], [24, 31, 33], [34]]
    [Is (.pointer (some ⟨w.heap.size, 0, none⟩)), Is (.slice (some ⟨b, o, none⟩) n ca), Is (.pointer (some ⟨b, o, none⟩)), Is (.pointer (some ⟨b, o, none⟩)), Is (.int .i64 (x0.d)), Is (.pointer (some ⟨w.heap.size, 0, none⟩)), Is (.slice (some ⟨b, o, none⟩) n ca), Is (.int .i64 ((n : Int))), Is (.int .i64 ((n : Int) - 1)), Is (.pointer (some ⟨b, o + (n - 1) * 4, none⟩)), Is (.pointer (some ⟨b, o + (n - 1) * 4, none⟩)), Is (.int .i64 (x1.d)), Is (.int .i64 (d)), Ints [d], Is (.int .i64 (0)), Is (.int .i64 (0))]
    (by kernel_rfl) (by kernel_rfl) (by kernel_rfl) (by kernel_rfl) (by kernel_rfl) Ext (fun W => Ext W1 W)
    (fun W _ => Ext.refl W) (fun W W' h k => h.trans k) ?_ (Ext.drew _) ?_ ?_
  · repeat (refine ⟨fun _ _ _ _ k h => (by first | exact h | exact (IntsAt.ext h k)), ?_⟩)
    exact trivial
  · refine ⟨?_, ?_, ?_, ?_, ?_, ?_, ?_, ?_, ?_, ?_, ?_, ?_, ?_, ?_, ?_, ?_, trivial⟩
    all_goals intro ρ W ⟨kc, kg, kf⟩ hF hs
    · obtain ⟨h0, -⟩ := hs
      replace h0 : ρ (.tmp 2) = .pointer (some ⟨w.heap.size, 0, none⟩) := h0
      go_simp
      exact ⟨Ext.refl _, rfl⟩
    · obtain ⟨h0, -⟩ := hs
      replace h0 : ρ (.tmp 20) = .pointer (some ⟨w.heap.size, 0, none⟩) := h0
      have hc0 : W.cell? ⟨w.heap.size, 0, none⟩ = some (.slice (some ⟨b, o, none⟩) n ca) := hF.cell (by assumption)
      go_simp
      exact ⟨Ext.refl _, rfl⟩
    · obtain ⟨h0, -⟩ := hs
      replace h0 : ρ (.tmp 21) = .slice (some ⟨b, o, none⟩) n ca := h0
      have hb2 : (0 : Int) < (n : Int) := by omega
      have hb3 : 0 < n := by omega
      go_simp
      exact ⟨Ext.refl _, rfl⟩
    · obtain ⟨h0, -⟩ := hs
      replace h0 : ρ (.tmp 22) = .pointer (some ⟨b, o, none⟩) := h0
      go_simp
      exact ⟨Ext.refl _, rfl⟩
    · obtain ⟨h0, -⟩ := hs
      replace h0 : ρ (.tmp 23) = .pointer (some ⟨b, o, none⟩) := h0
      have hc0 : W.cell? ⟨b, o, none⟩ = some (.int .i64 (x0.d)) := hF.cell (by assumption)
      go_simp
      exact ⟨Ext.refl _, rfl⟩
    · obtain ⟨h0, -⟩ := hs
      replace h0 : ρ (.tmp 2) = .pointer (some ⟨w.heap.size, 0, none⟩) := h0
      go_simp
      exact ⟨Ext.refl _, rfl⟩
    · obtain ⟨h0, -⟩ := hs
      replace h0 : ρ (.tmp 25) = .pointer (some ⟨w.heap.size, 0, none⟩) := h0
      have hc0 : W.cell? ⟨w.heap.size, 0, none⟩ = some (.slice (some ⟨b, o, none⟩) n ca) := hF.cell (by assumption)
      go_simp
      exact ⟨Ext.refl _, rfl⟩
    · obtain ⟨h0, -⟩ := hs
      replace h0 : ρ (.tmp 7) = .int .i64 ((n : Int)) := h0
      go_simp
      exact ⟨Ext.refl _, rfl⟩
    · obtain ⟨h0, -⟩ := hs
      replace h0 : ρ (.tmp 27) = .int .i64 ((n : Int)) := h0
      have hw : IntKind.i64.wrap ((n : Int) - 1) = (n : Int) - 1 := wrap_id _ (by omega) (by omega)
      go_simp
      exact ⟨Ext.refl _, rfl⟩
    · obtain ⟨h0, h1, -⟩ := hs
      replace h0 : ρ (.tmp 26) = .slice (some ⟨b, o, none⟩) n ca := h0
      replace h1 : ρ (.tmp 28) = .int .i64 ((n : Int) - 1) := h1
      have hb6 : (1 : Int) ≤ (n : Int) := by omega
      have hb2 : (n : Int) - 1 < (n : Int) := by omega
      have hb3 : (0 : Int) ≤ (n : Int) - 1 := by omega
      have hb4 : ((n : Int) - 1).toNat = n - 1 := by omega
      have hb5 : n - 1 < n := by omega
      go_simp
      exact ⟨Ext.refl _, rfl⟩
    · obtain ⟨h0, -⟩ := hs
      replace h0 : ρ (.tmp 29) = .pointer (some ⟨b, o + (n - 1) * 4, none⟩) := h0
      go_simp
      exact ⟨Ext.refl _, rfl⟩
    · obtain ⟨h0, -⟩ := hs
      replace h0 : ρ (.tmp 30) = .pointer (some ⟨b, o + (n - 1) * 4, none⟩) := h0
      have hc0 : W.cell? ⟨b, o + (n - 1) * 4, none⟩ = some (.int .i64 (x1.d)) := hF.cell (by assumption)
      go_simp
      exact ⟨Ext.refl _, rfl⟩
    · obtain ⟨h0, -⟩ := hs
      replace h0 : ρ (.tmp 1) = .int .i64 (d) := h0
      go_simp
      exact ⟨Ext.refl _, rfl⟩
    · obtain ⟨h0, -⟩ := hs
      replace h0 : ρ (.tmp 32) = .int .i64 (d) := h0
      go_simp
      exact ⟨Ext.alloc _ _, ints_new _ [d] _ (by simp)⟩
    · obtain ⟨h0, h1, h2, -⟩ := hs
      replace h0 : ρ (.tmp 24) = .int .i64 (x0.d) := h0
      replace h1 : ρ (.tmp 31) = .int .i64 (x1.d) := h1
      replace h2 : (Ints [d]) (ρ (.tmp 33)) W := h2
      go_simp
      refine (HRG.out _ _ h2).mono ?_; rintro e w' ⟨rfl, hx⟩; exact ⟨_, rfl, hx, rfl⟩
    · obtain ⟨h0, -⟩ := hs
      replace h0 : ρ (.tmp 34) = .int .i64 (0) := h0
      go_simp
      exact ⟨Ext.refl _, rfl⟩
  · intro fv W2 hF hs
    obtain ⟨-, -, -, -, -, -, -, -, -, -, -, -, -, -, -, h8, -⟩ := hs
    replace h8 : fv 8 = .int .i64 (0) := h8
    simp only [fin, List.filterMap]
    go_simp
    have X := Lib.hid (X.out.trans hF)
    have B0 := Lib.hid (B0.out.ext hF)
    have B1 := Lib.hid (B1.out.ext hF)
    clear hF y0 t0 t1 h8
    have y0 : W2.cell? ⟨w.heap.size, 0, none⟩ = some (.slice (some ⟨b, o, none⟩) n ca) := B0.out.cell 0
    go_wp2_with (go_at_call 84; refine (HCO.out _).mono ?_; rintro e W3 ⟨tb, rfl, hk, hx⟩; have X3 := Lib.hid (X.out.trans hx); have B3 := Lib.hid (B1.out.ext hx); have KT := Lib.hid hk; clear hx hk y0; refine Hid.out ?_)
    refine Lib.hid ?_
    go_wp2_with (go_at_call 85; refine (HL.out _ _ X3.out KT.out).mono ?_; rintro e W4 ⟨rfl, hx⟩; have X4 := Lib.hid (X3.out.trans hx); have B4 := Lib.hid (B3.out.ext hx); have KT4 := Lib.hid (KT.out.ext hx); clear hx; refine Hid.out ?_)
    refine Lib.hid ?_
    go_wp2_with (go_at_call 85; refine (HH.out _ _ X4.out KT4.out).mono ?_; rintro e W5 ⟨rfl, hx⟩; have X5 := Lib.hid (X4.out.trans hx); have B5 := Lib.hid (B4.out.ext hx); clear hx; refine Hid.out ?_)
    refine Lib.hid ?_
    have f0 := B5.out.free 0
    have f1 := B5.out.free 1
    have f2 := B5.out.free 2
    have f3 := B5.out.free 3
    have c0 : W5.cell? ⟨w.heap.size + 1, 0, none⟩ = some (.int .i64 0) := B5.out.cell 0
    have c1 : W5.cell? ⟨w.heap.size + 1, 1, none⟩ = some (.int .i64 0) := B5.out.cell 1
    have c2 : W5.cell? ⟨w.heap.size + 1, 2, none⟩ = some (.int .i64 0) := B5.out.cell 2
    have c3 : W5.cell? ⟨w.heap.size + 1, 3, none⟩ = some (.int .i64 0) := B5.out.cell 3
    clear B5 B4 B3 B0 B1 KT KT4
    go_wp2
    exact bodyPost_ret (v := .tuple #[.agg #[.int .i64 lo.1, .int .i64 lo.2, .int .i64 hi.1, .int .i64 hi.2], .int .i64 0]) (by simp [results, Try.f17, go_sem, c0, c1, c2, c3]) rfl ⟨rfl, (Ext.set (Ext.set (Ext.set (Ext.set X5.out (by dsimp only; omega) _) (by dsimp only; omega) _) (by dsimp only; omega) _) (by dsimp only; omega) _)⟩

end Go.Proofs.Ytmddnpagfgilcaa

namespace Go.Proofs.Ytmddnpagfgilcaa
open Go.RowKit Go.Shelf Go.Mem Go.RegInv
attribute [local go_sem] RelUpon_value RelUpon_skip RelUpon_enter BigFrame.eval_const BigFrame.eval_global BigFrame.eval_func

theorem fallK_none {ps : List (Int × Int)} {l : Int} : ∀ {f k : Nat}, fallK ps l f k = none ↔ ∀ i, k ≤ i → i < k + f → l ≤ (ps.getD i default).2
  | 0, k => by simp [fallK]; intro i h1 h2; omega
  | f + 1, k => by
    rw [fallK]
    by_cases h : l ≤ (ps.getD k default).2
    · rw [if_pos h, fallK_none]
      constructor
      · intro hh i h1 h2
        rcases Nat.lt_or_ge k i with h3 | h3
        · exact hh i h3 (by omega)
        · rw [show i = k by omega]; exact h
      · intro hh i h1 h2
        exact hh i (by omega) (by omega)
    · rw [if_neg h]
      constructor
      · intro hh
        exfalso
        revert hh
        split <;> intro hh <;> cases hh
      · intro hh
        exact absurd (hh k (Nat.le_refl _) (by omega)) h
theorem fall_both {xs : List In} {n : Nat} {l : Int} (hn : xs.length = n) (hz : (checkT xs).2 = 0) {hi : Int × Int} (h : fallK (upP xs) l n 0 = some hi) : ∃ lo, fallK (loP xs) l n 0 = some lo := by
  obtain ⟨m2, m20, hok⟩ := checkT_ok hz
  cases hl : fallK (loP xs) l n 0 with
  | some lo => exact ⟨lo, rfl⟩
  | none =>
    exfalso
    have h2 : fallK (upP xs) l n 0 = none := fallK_none.2 fun i h1 h2 => by
      have h3 := fallK_none.1 hl i h1 h2
      unfold loP at h3
      unfold upP
      rw [mapI hn (by omega)] at h3 ⊢
      have := hok i _ (getI hn (by omega))
      dsimp only at h3 ⊢
      omega
    rw [h2] at h; cases h

end Go.Proofs.Ytmddnpagfgilcaa

namespace Go.Proofs.Ytmddnpagfgilcaa
open Go.RowKit Go.Shelf Go.Mem Go.RegInv
attribute [local go_sem] RelUpon_value RelUpon_skip RelUpon_enter BigFrame.eval_const BigFrame.eval_global BigFrame.eval_func

theorem firstAt_none {E : Nat → Int} : ∀ {n k : Nat}, (∀ i, k ≤ i → i < k + n → E i = 0) → firstAt E n k = (0, 0)
  | 0, k, _ => rfl
  | n + 1, k, h => by
    rw [firstAt, h k (Nat.le_refl _) (by omega)]
    exact firstAt_none fun i h1 h2 => h i (by omega) (by omega)
theorem checkT_of {xs : List In} (h2 : 2 ≤ xs.length) (h20 : xs.length ≤ 20) (h : ∀ i, i < xs.length → 1 ≤ (xs.getD i default).d ∧ (xs.getD i default).d ≤ 10000 ∧ 1 ≤ (xs.getD i default).g ∧ (xs.getD i default).g ≤ 10000 ∧ 0 ≤ (xs.getD i default).lo ∧ (xs.getD i default).lo ≤ (xs.getD i default).hi ∧ (xs.getD i default).hi ≤ 2000 ∧ distK xs i = false) : (checkT xs).2 = 0 := by
  unfold checkT
  have hc : countE xs.length 2 20 = 0 := by
    unfold countE
    rw [decide_eq_false (show ¬ ((xs.length : Int) < 2) by omega), decide_eq_false (show ¬ ((20 : Int) < xs.length) by omega)]
    rfl
  rw [if_neg (by simp [hc]), firstAt_none]
  intro i _ hi
  obtain ⟨a1, a2, a3, a4, a5, a6, a7, a8⟩ := h i (by omega)
  unfold indAt
  rw [a8, indE_eq, if_pos (by rw [withinB_eq]; exact decide_eq_true ⟨a1, a2⟩), if_pos (by rw [withinB_eq]; exact decide_eq_true ⟨a3, a4⟩), if_pos (by unfold hardB; rw [withinB_eq]; exact decide_eq_true ⟨a5, by omega⟩), if_pos (by unfold hardB; rw [withinB_eq]; exact decide_eq_true ⟨by omega, a7⟩), if_neg (by omega)]
  rfl
/-- The place in a range that a number picks. -/
def pickH (xs : List In) (pl : List Int) (i : Nat) : Int := (xs.getD i default).lo + pl.getD i 0 % ((xs.getD i default).hi - (xs.getD i default).lo + 1)
def exI (xs : List In) (pl : List Int) (i : Nat) : In := ⟨(xs.getD i default).d, (xs.getD i default).g, pickH xs pl i, pickH xs pl i⟩
def naI (xs : List In) (pl : List Int) (i : Nat) : In := ⟨(xs.getD i default).d, (xs.getD i default).g, pickH xs pl i, (xs.getD i default).hi⟩
theorem range_at {f : Nat → In} {n i : Nat} (h : i < n) : ((List.range n).map f)[i]? = some (f i) := by simp [h]
theorem range_getD {f : Nat → In} {n i : Nat} (h : i < n) : ((List.range n).map f).getD i default = f i := by simp [h]
theorem dist_same {f : Nat → In} {xs : List In} {n i : Nat} (hn : xs.length = n) (hd : ∀ j, (f j).d = (xs.getD j default).d ∧ (f j).g = (xs.getD j default).g) (hi : i < n) : distK ((List.range n).map f) i = distK xs i := by
  have _ := hn
  unfold distK
  by_cases h : i = 0
  · rw [if_pos h, if_pos h, range_getD (by omega)]
    unfold dist0; rw [(hd 0).1, (hd 0).2]
  · rw [if_neg h, if_neg h, range_getD (by omega), range_getD hi]
    unfold dist1; rw [(hd i).1, (hd i).2, (hd (i - 1)).1, (hd (i - 1)).2]
theorem pick_in {xs : List In} {pl : List Int} {i : Nat} (h : (xs.getD i default).lo ≤ (xs.getD i default).hi) : (xs.getD i default).lo ≤ pickH xs pl i ∧ pickH xs pl i ≤ (xs.getD i default).hi := by
  unfold pickH
  generalize xs.getD i default = x at *
  have h1 := Int.emod_nonneg (pl.getD i 0) (show x.hi - x.lo + 1 ≠ 0 by omega)
  have h2 := Int.emod_lt_of_pos (pl.getD i 0) (show 0 < x.hi - x.lo + 1 by omega)
  omega
theorem same_ok {f : Nat → In} {xs : List In} {n : Nat} (hn : xs.length = n) (hz : (checkT xs).2 = 0) (hd : ∀ j, (f j).d = (xs.getD j default).d ∧ (f j).g = (xs.getD j default).g)
    (hv : ∀ j, j < n → (xs.getD j default).lo ≤ (f j).lo ∧ (f j).lo ≤ (f j).hi ∧ (f j).hi ≤ (xs.getD j default).hi) : (checkT ((List.range n).map f)).2 = 0 := by
  obtain ⟨h2, h20, hok⟩ := checkT_ok hz
  refine checkT_of (by simp; omega) (by simp; omega) fun i hi => ?_
  have hi2 : i < n := by simpa using hi
  have h := hok i _ (getI hn hi2)
  rw [range_getD hi2, dist_same hn hd hi2, (hd i).1, (hd i).2]
  have h3 := hv i hi2
  exact ⟨h.1, h.2.1, h.2.2.1, h.2.2.2.1, by omega, h3.2.1, by omega, h.2.2.2.2.2.2.2⟩
theorem lo_le {xs : List In} {n j : Nat} (hn : xs.length = n) (hz : (checkT xs).2 = 0) (h : j < n) : (xs.getD j default).lo ≤ (xs.getD j default).hi := ((checkT_ok hz).2.2 j _ (getI hn h)).2.2.2.2.2.1
theorem ex_ok {xs : List In} {pl : List Int} {n : Nat} (hn : xs.length = n) (hz : (checkT xs).2 = 0) : (checkT ((List.range n).map (exI xs pl))).2 = 0 :=
  same_ok hn hz (fun _ => ⟨rfl, rfl⟩) fun _ h => ⟨(pick_in (lo_le hn hz h)).1, Int.le_refl _, (pick_in (lo_le hn hz h)).2⟩
theorem na_ok {xs : List In} {pl : List Int} {n : Nat} (hn : xs.length = n) (hz : (checkT xs).2 = 0) : (checkT ((List.range n).map (naI xs pl))).2 = 0 :=
  same_ok hn hz (fun _ => ⟨rfl, rfl⟩) fun _ h => ⟨(pick_in (lo_le hn hz h)).1, (pick_in (lo_le hn hz h)).2, Int.le_refl _⟩
/-- Lowest terms, and small. -/
structure Low (p : Int × Int) : Prop where
  a : -1000000000 ≤ p.1 ∧ p.1 ≤ 1000000000
  b : 1 ≤ p.2 ∧ p.2 ≤ 1000000000
  g : Nat.gcd p.1.natAbs p.2.natAbs = 1
theorem low_of {a b : Int} (ha : 0 ≤ a ∧ a ≤ 1000000000) (hb : 0 < b ∧ b ≤ 1000000000) : Low (lowT a b) := by
  obtain ⟨n, rfl⟩ : ∃ n : Nat, a = n := ⟨a.toNat, by omega⟩
  obtain ⟨d, rfl⟩ : ∃ d : Nat, b = d := ⟨b.toNat, by omega⟩
  have hd : 0 < d := by omega
  rw [lowT_nat]
  have h1 := Nat.div_le_self n (Nat.gcd n d)
  have h2 := Nat.div_le_self d (Nat.gcd n d)
  have h3 := low_pos (n := n) hd
  have h4 := low_coprime (n := n) hd
  generalize n / Nat.gcd n d = u at *
  generalize d / Nat.gcd n d = v at *
  exact ⟨⟨by dsimp only; omega, by dsimp only; omega⟩, ⟨by dsimp only; omega, by dsimp only; omega⟩, h4⟩
theorem fall_low {ps : List (Int × Int)} {l : Int} {n : Nat} (hl : 0 ≤ l ∧ l ≤ 2000) (hb : ∀ i, i < n → 0 ≤ (ps.getD i default).1 ∧ (ps.getD i default).1 ≤ 10000 ∧ 0 ≤ (ps.getD i default).2 ∧ (ps.getD i default).2 ≤ 2000) (A : Asc ps n) {p : Int × Int} (hp : fallK ps l n 0 = some p) : Low p := by
  obtain ⟨i, -, hi, p1, p2, rfl⟩ := fall_spec hp (fun m h => by omega)
  have hi : i < n := by omega
  have P := fallQ_pos hi p1 p2
  have bp := fallQ_bds A hi p1 p2
  have b1 := hb i hi
  have b2 := hb (i - 1) (by omega)
  have hq : (fallQ ps l i).2 ≤ 2000 := by
    unfold fallQ
    by_cases h : i = 0
    · rw [if_pos h]; show (1 : Int) ≤ 2000; omega
    · rw [if_neg h]; dsimp only; omega
  generalize fallQ ps l i = q at *
  generalize ps.getD i default = x at *
  generalize ps.getD (i - 1) default = y at *
  have e1 : 0 ≤ y.1 * q.2 := Int.mul_nonneg (by omega) (by omega)
  have e2 : x.1 * q.2 ≤ 10000 * 2000 := Int.mul_le_mul b1.2.1 hq (by omega) (by decide)
  exact low_of ⟨by omega, by omega⟩ ⟨P, by omega⟩
/-- What a case depth is. -/
def CaseR (xs : List In) (n : Nat) (l : Int) (p q : Int × Int) (e : Int) : Prop :=
  (p = (0, 0) ∧ q = (0, 0) ∧ (e = 12 ∨ e = 21)) ∨ (e = 0 ∧ fallK (loP xs) l n 0 = some p ∧ fallK (upP xs) l n 0 = some q)
theorem case_all {xs : List In} {n : Nat} {l : Int} (hn : xs.length = n) (hz : (checkT xs).2 = 0) (hl : 0 ≤ l ∧ l ≤ 2000) : ∃ p q e, CaseR xs n l p q e ∧
    ∀ W A c, RowsAt 4 In.enc W A xs → Calls Try.prog 18 #[.agg #[.slice A n c], .int .i64 l] W fun r w' => r = .returned (.tuple #[.agg #[.int .i64 p.1, .int .i64 p.2, .int .i64 q.1, .int .i64 q.2], .int .i64 e]) ∧ Ext W w' := by
  have hc : caseE xs l = 0 := by
    unfold caseE; rw [hz, limE_eq, show hardB l = true by unfold hardB; rw [withinB_eq]; exact decide_eq_true hl]; rfl
  by_cases hh : (xs.getD 0 default).hi < l
  · exact ⟨(0, 0), (0, 0), 12, Or.inl ⟨rfl, rfl, Or.inl rfl⟩, fun W A c h => caseOf_none l hn h hc hh⟩
  · cases hf : fallK (upP xs) l n 0 with
    | none => exact ⟨(0, 0), (0, 0), 21, Or.inl ⟨rfl, rfl, Or.inr rfl⟩, fun W A c h => caseOf_open l hn h hc hh hf⟩
    | some hi =>
      obtain ⟨lo, hg⟩ := fall_both hn hz hf
      exact ⟨lo, hi, 0, Or.inr ⟨rfl, hg, hf⟩, fun W A c h => caseOf_ok l hn h hc hh hf hg⟩
theorem loP_at {xs : List In} {n i : Nat} (hn : xs.length = n) (h : i < n) : (loP xs).getD i default = ((xs.getD i default).d, (xs.getD i default).lo) := by
  unfold loP; exact mapI hn h
theorem upP_at {xs : List In} {n i : Nat} (hn : xs.length = n) (h : i < n) : (upP xs).getD i default = ((xs.getD i default).d, (xs.getD i default).hi) := by
  unfold upP; exact mapI hn h
theorem asc_lo {xs : List In} {n : Nat} (hn : xs.length = n) (hz : (checkT xs).2 = 0) : Asc (loP xs) n :=
  ⟨by have := (checkT_ok hz).1; omega, fun i j h1 h2 => by rw [loP_at hn (by omega), loP_at hn h2]; exact depth_lt hn hz h1 h2⟩
theorem asc_up {xs : List In} {n : Nat} (hn : xs.length = n) (hz : (checkT xs).2 = 0) : Asc (upP xs) n :=
  ⟨by have := (checkT_ok hz).1; omega, fun i j h1 h2 => by rw [upP_at hn (by omega), upP_at hn h2]; exact depth_lt hn hz h1 h2⟩
theorem bds_lo {xs : List In} {n : Nat} (hn : xs.length = n) (hz : (checkT xs).2 = 0) (i : Nat) (h : i < n) : 0 ≤ ((loP xs).getD i default).1 ∧ ((loP xs).getD i default).1 ≤ 10000 ∧ 0 ≤ ((loP xs).getD i default).2 ∧ ((loP xs).getD i default).2 ≤ 2000 := by
  have := (checkT_ok hz).2.2 i _ (getI hn h)
  rw [loP_at hn h]; dsimp only; omega
theorem bds_up {xs : List In} {n : Nat} (hn : xs.length = n) (hz : (checkT xs).2 = 0) (i : Nat) (h : i < n) : 0 ≤ ((upP xs).getD i default).1 ∧ ((upP xs).getD i default).1 ≤ 10000 ∧ 0 ≤ ((upP xs).getD i default).2 ∧ ((upP xs).getD i default).2 ≤ 2000 := by
  have := (checkT_ok hz).2.2 i _ (getI hn h)
  rw [upP_at hn h]; dsimp only; omega
/-- A span of depths within a traverse. -/
structure Spd (d0 d1 : Int) (p q : Int × Int) : Prop where
  lp : Low p
  lq : Low q
  le : p.1 * q.2 ≤ q.1 * p.2
  l0 : d0 * p.2 ≤ p.1
  l1 : q.1 ≤ d1 * q.2
theorem case_spd {xs : List In} {n : Nat} {l : Int} {p q : Int × Int} (hn : xs.length = n) (hz : (checkT xs).2 = 0) (hl : 0 ≤ l ∧ l ≤ 2000) (h : CaseR xs n l p q 0) : Spd (xs.getD 0 default).d (xs.getD (n - 1) default).d p q := by
  have hn0 : 0 < n := by have := (checkT_ok hz).1; omega
  rcases h with ⟨-, -, h | h⟩ | ⟨-, hp, hq⟩
  · cases h
  · cases h
  have f1 := fall_in (asc_lo hn hz) hp
  have f2 := fall_in (asc_up hn hz) hq
  rw [loP_at hn hn0] at f1
  rw [upP_at hn (show n - 1 < n by omega)] at f2
  exact ⟨fall_low hl (bds_lo hn hz) (asc_lo hn hz) hp, fall_low hl (bds_up hn hz) (asc_up hn hz) hq,
    fall_le (asc_lo hn hz) (fun i hi => by rw [loP_at hn hi, upP_at hn hi]) (fun i hi => by
      have := lo_le hn hz hi
      rw [loP_at hn hi, upP_at hn hi]; dsimp only; omega) hp hq, f1.2.1, f2.2.2⟩
/-- Where a traverse lies within another one, and the limit is no lower. -/
theorem case_in {xs ys : List In} {n : Nat} {l m : Int} {p q r s : Int × Int} (hn : xs.length = n) (hm : ys.length = n) (hz : (checkT xs).2 = 0)
    (hd : ∀ i, i < n → (xs.getD i default).d = (ys.getD i default).d) (hlo : ∀ i, i < n → (xs.getD i default).lo - l ≤ (ys.getD i default).lo - m) (h : CaseR xs n l p q 0) (k : CaseR ys n m r s 0) : p.1 * r.2 ≤ r.1 * p.2 := by
  rcases h with ⟨-, -, h | h⟩ | ⟨-, hp, hq⟩
  · cases h
  · cases h
  rcases k with ⟨-, -, k | k⟩ | ⟨-, hr, hs⟩
  · cases k
  · cases k
  exact fall_le (asc_lo hn hz) (fun i hi => by rw [loP_at hn hi, loP_at hm hi]; exact hd i hi) (fun i hi => by rw [loP_at hn hi, loP_at hm hi]; exact hlo i hi) hp hr
theorem case_in2 {xs ys : List In} {n : Nat} {l m : Int} {p q r s : Int × Int} (hn : xs.length = n) (hm : ys.length = n) (hz : (checkT xs).2 = 0)
    (hd : ∀ i, i < n → (xs.getD i default).d = (ys.getD i default).d) (hhi : ∀ i, i < n → (xs.getD i default).hi - l ≤ (ys.getD i default).hi - m) (h : CaseR xs n l p q 0) (k : CaseR ys n m r s 0) : q.1 * s.2 ≤ s.1 * q.2 := by
  rcases h with ⟨-, -, h | h⟩ | ⟨-, hp, hq⟩
  · cases h
  · cases h
  rcases k with ⟨-, -, k | k⟩ | ⟨-, hr, hs⟩
  · cases k
  · cases k
  exact fall_le (asc_up hn hz) (fun i hi => by rw [upP_at hn hi, upP_at hm hi]; exact hd i hi) (fun i hi => by rw [upP_at hn hi, upP_at hm hi]; exact hhi i hi) hq hs

end Go.Proofs.Ytmddnpagfgilcaa

namespace Go.Proofs.Ytmddnpagfgilcaa
open Go.RowKit Go.Shelf Go.Mem Go.RegInv
attribute [local go_sem] RelUpon_value RelUpon_skip RelUpon_enter BigFrame.eval_const BigFrame.eval_global BigFrame.eval_func

theorem cmp_le {x y : Int} (h : x ≤ y) : cmpV x y ≤ 0 := by
  unfold cmpV; split
  · omega
  · split <;> omega
theorem cmp_ge {x y : Int} (h : y ≤ x) : 0 ≤ cmpV x y := by
  unfold cmpV; split
  · omega
  · split <;> omega
theorem low_prod {p q : Int × Int} (hp : Low p) (hq : Low q) : -9000000000000000000 ≤ p.1 * q.2 ∧ p.1 * q.2 ≤ 9000000000000000000 := by
  obtain ⟨⟨a1, a2⟩, -, -⟩ := hp
  obtain ⟨-, ⟨b1, b2⟩, -⟩ := hq
  generalize p.1 = a at *
  generalize q.2 = b at *
  have e1 : a * b ≤ 1000000000 * b := Int.mul_le_mul_of_nonneg_right a2 (by omega)
  have e2 : -1000000000 * b ≤ a * b := Int.mul_le_mul_of_nonneg_right a1 (by omega)
  omega
theorem low_cmp_any {p q : Int × Int} (hp : Low p) (hq : Low q) (w : World) : Calls Try.prog 29 #[.agg #[.int .i64 p.1, .int .i64 p.2], .agg #[.int .i64 q.1, .int .i64 q.2]] w fun e w' => e = .returned (.int .i64 (cmpV (p.1 * q.2) (q.1 * p.2))) ∧ Ext w w' :=
  cmp_any p.1 p.2 q.1 q.2 w (low_prod hp hq) (low_prod hq hp)
theorem low_whole {d : Int} (h : 0 ≤ d ∧ d ≤ 10000) : Low (d, 1) := ⟨by dsimp only; omega, by dsimp only; omega, by simp⟩
set_option maxRecDepth 100000 in
set_option maxHeartbeats 8000000 in
theorem spanned_ok {A : Option Addr} {n ca : Nat} {xs : List In} {w : World} {p q : Int × Int} (hn : xs.length = n) (hr : RowsAt 4 In.enc w A xs) (h1 : 0 < n) (h20 : n ≤ 20)
    (hd0 : 0 ≤ (xs.getD 0 default).d ∧ (xs.getD 0 default).d ≤ 10000) (hd1 : 0 ≤ (xs.getD (n - 1) default).d ∧ (xs.getD (n - 1) default).d ≤ 10000) (HS : Spd (xs.getD 0 default).d (xs.getD (n - 1) default).d p q) :
    Calls Try.prog 27 #[.agg #[.slice A n ca], .agg #[.int .i64 p.1, .int .i64 p.2, .int .i64 q.1, .int .i64 q.2]] w fun e w' => e = .returned (.bool true) ∧ Ext w w' := by
  obtain ⟨x0, hx0⟩ : ∃ x0, x0 = xs.getD 0 default := ⟨_, rfl⟩
  obtain ⟨x1, hx1⟩ : ∃ x1, x1 = xs.getD (n - 1) default := ⟨_, rfl⟩
  have g0 : xs[0]? = some x0 := by rw [hx0]; exact getI hn (by omega)
  have g1 : xs[n - 1]? = some x1 := by rw [hx1]; exact getI hn (by omega)
  obtain ⟨b, o, rfl, hb, hc⟩ := row_at hr g0
  obtain ⟨b2, o2, he, _, hc2⟩ := row_at hr g1
  obtain ⟨rfl, rfl⟩ : b = b2 ∧ o = o2 := by simpa using he
  have G0 := Lib.hid (show w.cell? ⟨b, o, none⟩ = some (.int .i64 x0.d) by have := hc 0 _ rfl; simpa using this)
  have G1 := Lib.hid (show w.cell? ⟨b, o + (n - 1) * 4, none⟩ = some (.int .i64 x1.d) from hc2 0 _ rfl)
  clear hc hc2 he g0 g1 hb
  rw [← hx0, ← hx1] at HS
  rw [← hx0] at hd0
  rw [← hx1] at hd1
  clear hx0 hx1 hr hn
  have HL1 := Lib.hid (fun W => isLowest_ok p.1 p.2 W HS.lp.a HS.lp.b HS.lp.g)
  have HL2 := Lib.hid (fun W => isLowest_ok q.1 q.2 W HS.lq.a HS.lq.b HS.lq.g)
  have HS1 := Lib.hid (fun W => isSmall_ok p.1 p.2 W HS.lp.a HS.lp.b)
  have HS2 := Lib.hid (fun W => isSmall_ok q.1 q.2 W HS.lq.a HS.lq.b)
  have HC1 := Lib.hid (fun W => low_cmp_any HS.lp HS.lq W)
  have HC2 := Lib.hid (fun W => show Calls Try.prog 29 #[.agg #[.int .i64 p.1, .int .i64 p.2], .agg #[.int .i64 x0.d, .int .i64 1]] W fun e w' => e = .returned (.int .i64 (cmpV (p.1 * 1) (x0.d * p.2))) ∧ Ext W w' from low_cmp_any HS.lp (low_whole hd0) W)
  have HC3 := Lib.hid (fun W => show Calls Try.prog 29 #[.agg #[.int .i64 q.1, .int .i64 q.2], .agg #[.int .i64 x1.d, .int .i64 1]] W fun e w' => e = .returned (.int .i64 (cmpV (q.1 * 1) (x1.d * q.2))) ∧ Ext W w' from low_cmp_any HS.lq (low_whole hd1) W)
  have l1 := cmp_le HS.le
  have l2 : 0 ≤ cmpV (p.1 * 1) (x0.d * p.2) := cmp_ge (by have := HS.l0; omega)
  have l3 : cmpV (q.1 * 1) (x1.d * q.2) ≤ 0 := cmp_le (by have := HS.l1; omega)
  clear HS hd0 hd1
  generalize cmpV (p.1 * q.2) (q.1 * p.2) = c1 at *
  generalize cmpV (p.1 * 1) (x0.d * p.2) = c2 at *
  generalize cmpV (q.1 * 1) (x1.d * q.2) = c3 at *
  have P0 := Lib.hid (show Blk ((w.alloc (.cells #[.slice (some ⟨b, o, none⟩) n ca] 24)).alloc (.cells #[.int .i64 p.1, .int .i64 p.2, .int .i64 q.1, .int .i64 q.2] 34)) w.heap.size 24 #[.slice (some ⟨b, o, none⟩) n ca] from (Blk.new _ _ _).alloc _)
  have P1 := Lib.hid (show Blk ((w.alloc (.cells #[.slice (some ⟨b, o, none⟩) n ca] 24)).alloc (.cells #[.int .i64 p.1, .int .i64 p.2, .int .i64 q.1, .int .i64 q.2] 34)) (w.heap.size + 1) 34 #[.int .i64 p.1, .int .i64 p.2, .int .i64 q.1, .int .i64 q.2] from Blk.newAt _ _ _ (by simp))
  go_enter Try.func27, Try.ntmps27
  go_wp2_with (go_at_call 68; refine (HL1.out _).mono ?_; rintro e W1 ⟨rfl, hx⟩; have X := Lib.hid (((Ext.alloc _ _).trans (Ext.alloc _ _)).trans hx); have K0 := Lib.hid (P0.out.ext hx); have K1 := Lib.hid (P1.out.ext hx); clear hx; refine Hid.out ?_)
  refine Lib.hid ?_
  clear P0 P1
  have z0 : W1.cell? ⟨w.heap.size + 1, 0, none⟩ = some (.int .i64 p.1) := K1.out.cell 0
  have z1 : W1.cell? ⟨w.heap.size + 1, 1, none⟩ = some (.int .i64 p.2) := K1.out.cell 1
  have z2 : W1.cell? ⟨w.heap.size + 1, 2, none⟩ = some (.int .i64 q.1) := K1.out.cell 2
  have z3 : W1.cell? ⟨w.heap.size + 1, 3, none⟩ = some (.int .i64 q.2) := K1.out.cell 3
  go_wp2_with (go_at_call 31; refine (HS1.out _).mono ?_; rintro e W2 ⟨rfl, hx⟩; have X := Lib.hid (X.out.trans hx); have K0 := Lib.hid (K0.out.ext hx); have K1 := Lib.hid (K1.out.ext hx); clear hx z0 z1 z2 z3; refine Hid.out ?_)
  refine Lib.hid ?_
  have z0 : W2.cell? ⟨w.heap.size + 1, 0, none⟩ = some (.int .i64 p.1) := K1.out.cell 0
  have z1 : W2.cell? ⟨w.heap.size + 1, 1, none⟩ = some (.int .i64 p.2) := K1.out.cell 1
  have z2 : W2.cell? ⟨w.heap.size + 1, 2, none⟩ = some (.int .i64 q.1) := K1.out.cell 2
  have z3 : W2.cell? ⟨w.heap.size + 1, 3, none⟩ = some (.int .i64 q.2) := K1.out.cell 3
  go_wp2_with (go_at_call 68; refine (HL2.out _).mono ?_; rintro e W3 ⟨rfl, hx⟩; have X := Lib.hid (X.out.trans hx); have K0 := Lib.hid (K0.out.ext hx); have K1 := Lib.hid (K1.out.ext hx); clear hx z0 z1 z2 z3; refine Hid.out ?_)
  refine Lib.hid ?_
  have z0 : W3.cell? ⟨w.heap.size + 1, 0, none⟩ = some (.int .i64 p.1) := K1.out.cell 0
  have z1 : W3.cell? ⟨w.heap.size + 1, 1, none⟩ = some (.int .i64 p.2) := K1.out.cell 1
  have z2 : W3.cell? ⟨w.heap.size + 1, 2, none⟩ = some (.int .i64 q.1) := K1.out.cell 2
  have z3 : W3.cell? ⟨w.heap.size + 1, 3, none⟩ = some (.int .i64 q.2) := K1.out.cell 3
  go_wp2_with (go_at_call 31; refine (HS2.out _).mono ?_; rintro e W4 ⟨rfl, hx⟩; have X := Lib.hid (X.out.trans hx); have K0 := Lib.hid (K0.out.ext hx); have K1 := Lib.hid (K1.out.ext hx); clear hx z0 z1 z2 z3; refine Hid.out ?_)
  refine Lib.hid ?_
  have z0 : W4.cell? ⟨w.heap.size + 1, 0, none⟩ = some (.int .i64 p.1) := K1.out.cell 0
  have z1 : W4.cell? ⟨w.heap.size + 1, 1, none⟩ = some (.int .i64 p.2) := K1.out.cell 1
  have z2 : W4.cell? ⟨w.heap.size + 1, 2, none⟩ = some (.int .i64 q.1) := K1.out.cell 2
  have z3 : W4.cell? ⟨w.heap.size + 1, 3, none⟩ = some (.int .i64 q.2) := K1.out.cell 3
  go_wp2_with (go_at_call 29; refine (HC1.out _).mono ?_; rintro e W5 ⟨rfl, hx⟩; have X := Lib.hid (X.out.trans hx); have K0 := Lib.hid (K0.out.ext hx); have K1 := Lib.hid (K1.out.ext hx); clear hx z0 z1 z2 z3; refine Hid.out ?_)
  refine Lib.hid ?_
  have z0 : W5.cell? ⟨w.heap.size + 1, 0, none⟩ = some (.int .i64 p.1) := K1.out.cell 0
  have z1 : W5.cell? ⟨w.heap.size + 1, 1, none⟩ = some (.int .i64 p.2) := K1.out.cell 1
  have z2 : W5.cell? ⟨w.heap.size + 1, 2, none⟩ = some (.int .i64 q.1) := K1.out.cell 2
  have z3 : W5.cell? ⟨w.heap.size + 1, 3, none⟩ = some (.int .i64 q.2) := K1.out.cell 3
  have hl1 : ¬ 0 < c1 := by omega
  have y0 : W5.cell? ⟨w.heap.size, 0, none⟩ = some (.slice (some ⟨b, o, none⟩) n ca) := K0.out.cell 0
  have p0 : W5.cell? ⟨b, o, none⟩ = some (.int .i64 x0.d) := X.out.cell G0.out
  have p1 : W5.cell? ⟨b, o + (n - 1) * 4, none⟩ = some (.int .i64 x1.d) := X.out.cell G1.out
  go_wp2
  refine wp_region_eachG [(45, true), (45, true), (45, true), (45, true), (45, true), (45, true), (45, true), (45, true), (45, true), (45, true), (45, true), (45, true), (45, true), (45, true)] [some 35, some 36, some 37, some 38, some 39, some 40, some 41, some 42, some 43, some 44, some 45, some 46, some 47, some 48, some 49, some 50, some 51, some 52, some 53, some 54, some 55, some 56, some 57, some 58, some 59, some 60, some 4] [[3], [35], [2], [37], [38], [39], [40], [41], [36, 42], [43], [44], [3, 45], [46, 45], [2, 45], [48, 45], [2, 45], [50, 45], [51, 45], [52, 45], [49, 53, 45], [54, 45], [55, 45], [56, 45], [47, 57, 45], [58, 45], [45, 59], [60]]
    [Is (.pointer (some ⟨w.heap.size + 1, 0, none⟩)), Is (.agg #[.int .i64 (p.1), .int .i64 (p.2)]), Is (.pointer (some ⟨w.heap.size, 0, none⟩)), Is (.slice (some ⟨b, o, none⟩) n ca), Is (.pointer (some ⟨b, o, none⟩)), Is (.pointer (some ⟨b, o, none⟩)), Is (.int .i64 (x0.d)), Is (.agg #[.int .i64 x0.d, .int .i64 1]), Is (.int .i64 (c2)), Is (.bool (true)), Is (.bool (true)), Is (.pointer (some ⟨w.heap.size + 1, 2, none⟩)), Is (.agg #[.int .i64 (q.1), .int .i64 (q.2)]), Is (.pointer (some ⟨w.heap.size, 0, none⟩)), Is (.slice (some ⟨b, o, none⟩) n ca), Is (.pointer (some ⟨w.heap.size, 0, none⟩)), Is (.slice (some ⟨b, o, none⟩) n ca), Is (.int .i64 ((n : Int))), Is (.int .i64 ((n : Int) - 1)), Is (.pointer (some ⟨b, o + (n - 1) * 4, none⟩)), Is (.pointer (some ⟨b, o + (n - 1) * 4, none⟩)), Is (.int .i64 (x1.d)), Is (.agg #[.int .i64 x1.d, .int .i64 1]), Is (.int .i64 (c3)), Is (.bool (true)), Is (.bool (true)), Is (.bool (true))]
    (by kernel_rfl) (by kernel_rfl) (by kernel_rfl) (by kernel_rfl) (by kernel_rfl) Ext (fun W => Ext W5 W)
    (fun W _ => Ext.refl W) (fun W W' h k => h.trans k) ?_ (by intro p hp; simp only [List.mem_cons, List.not_mem_nil, or_false] at hp; rcases hp with rfl | rfl | rfl | rfl | rfl | rfl | rfl | rfl | rfl | rfl | rfl | rfl | rfl | rfl <;> exact ⟨_, rfl, fun _ _ h => h⟩) (Ext.drew _) ?_ ?_
  · repeat (refine ⟨fun _ _ _ _ k h => (by first | exact h | exact (IntsAt.ext h k)), ?_⟩)
    exact trivial
  · refine ⟨?_, ?_, ?_, ?_, ?_, ?_, ?_, ?_, ?_, ?_, ?_, ?_, ?_, ?_, ?_, ?_, ?_, ?_, ?_, ?_, ?_, ?_, ?_, ?_, ?_, ?_, ?_, trivial⟩
    all_goals intro ρ W ⟨kc, kg, kf⟩ hF hs
    · obtain ⟨h0, -⟩ := hs
      replace h0 : ρ (.tmp 3) = .pointer (some ⟨w.heap.size + 1, 0, none⟩) := h0
      go_simp
      exact ⟨Ext.refl _, rfl⟩
    · obtain ⟨h0, -⟩ := hs
      replace h0 : ρ (.tmp 35) = .pointer (some ⟨w.heap.size + 1, 0, none⟩) := h0
      have hc0 : W.cell? ⟨w.heap.size + 1, 0, none⟩ = some (.int .i64 (p.1)) := hF.cell (by assumption)
      have hc1 : W.cell? ⟨w.heap.size + 1, 1, none⟩ = some (.int .i64 (p.2)) := hF.cell (by assumption)
      go_simp
      exact ⟨Ext.refl _, rfl⟩
    · obtain ⟨h0, -⟩ := hs
      replace h0 : ρ (.tmp 2) = .pointer (some ⟨w.heap.size, 0, none⟩) := h0
      go_simp
      exact ⟨Ext.refl _, rfl⟩
    · obtain ⟨h0, -⟩ := hs
      replace h0 : ρ (.tmp 37) = .pointer (some ⟨w.heap.size, 0, none⟩) := h0
      have hc0 : W.cell? ⟨w.heap.size, 0, none⟩ = some (.slice (some ⟨b, o, none⟩) n ca) := hF.cell (by assumption)
      go_simp
      exact ⟨Ext.refl _, rfl⟩
    · obtain ⟨h0, -⟩ := hs
      replace h0 : ρ (.tmp 38) = .slice (some ⟨b, o, none⟩) n ca := h0
      have hb2 : (0 : Int) < (n : Int) := by omega
      have hb3 : 0 < n := by omega
      go_simp
      exact ⟨Ext.refl _, rfl⟩
    · obtain ⟨h0, -⟩ := hs
      replace h0 : ρ (.tmp 39) = .pointer (some ⟨b, o, none⟩) := h0
      go_simp
      exact ⟨Ext.refl _, rfl⟩
    · obtain ⟨h0, -⟩ := hs
      replace h0 : ρ (.tmp 40) = .pointer (some ⟨b, o, none⟩) := h0
      have hc0 : W.cell? ⟨b, o, none⟩ = some (.int .i64 (x0.d)) := hF.cell (by assumption)
      go_simp
      exact ⟨Ext.refl _, rfl⟩
    · obtain ⟨h0, -⟩ := hs
      replace h0 : ρ (.tmp 41) = .int .i64 (x0.d) := h0
      go_simp
      refine (whole_any _ _).mono ?_; rintro e w' ⟨rfl, hx⟩; exact ⟨_, rfl, hx, rfl⟩
    · obtain ⟨h0, h1, -⟩ := hs
      replace h0 : ρ (.tmp 36) = .agg #[.int .i64 (p.1), .int .i64 (p.2)] := h0
      replace h1 : ρ (.tmp 42) = .agg #[.int .i64 x0.d, .int .i64 1] := h1
      go_simp
      refine (HC2.out _).mono ?_; rintro e w' ⟨rfl, hx⟩; exact ⟨_, rfl, hx, rfl⟩
    · obtain ⟨h0, -⟩ := hs
      replace h0 : ρ (.tmp 43) = .int .i64 (c2) := h0
      have hd : decide ((0 : Int) ≤ c2) = true := by simp; omega
      go_simp
      exact ⟨Ext.refl _, rfl⟩
    · obtain ⟨h0, -⟩ := hs
      replace h0 : ρ (.tmp 44) = .bool (true) := h0
      go_simp
      exact ⟨Ext.refl _, rfl⟩
    · obtain ⟨h0, h1, -⟩ := hs
      replace h0 : ρ (.tmp 3) = .pointer (some ⟨w.heap.size + 1, 0, none⟩) := h0
      replace h1 : ρ (.tmp 45) = .bool (true) := h1
      go_simp
      exact ⟨Ext.refl _, rfl⟩
    · obtain ⟨h0, h1, -⟩ := hs
      replace h0 : ρ (.tmp 46) = .pointer (some ⟨w.heap.size + 1, 2, none⟩) := h0
      replace h1 : ρ (.tmp 45) = .bool (true) := h1
      have hc0 : W.cell? ⟨w.heap.size + 1, 2, none⟩ = some (.int .i64 (q.1)) := hF.cell (by assumption)
      have hc1 : W.cell? ⟨w.heap.size + 1, 3, none⟩ = some (.int .i64 (q.2)) := hF.cell (by assumption)
      go_simp
      exact ⟨Ext.refl _, rfl⟩
    · obtain ⟨h0, h1, -⟩ := hs
      replace h0 : ρ (.tmp 2) = .pointer (some ⟨w.heap.size, 0, none⟩) := h0
      replace h1 : ρ (.tmp 45) = .bool (true) := h1
      go_simp
      exact ⟨Ext.refl _, rfl⟩
    · obtain ⟨h0, h1, -⟩ := hs
      replace h0 : ρ (.tmp 48) = .pointer (some ⟨w.heap.size, 0, none⟩) := h0
      replace h1 : ρ (.tmp 45) = .bool (true) := h1
      have hc0 : W.cell? ⟨w.heap.size, 0, none⟩ = some (.slice (some ⟨b, o, none⟩) n ca) := hF.cell (by assumption)
      go_simp
      exact ⟨Ext.refl _, rfl⟩
    · obtain ⟨h0, h1, -⟩ := hs
      replace h0 : ρ (.tmp 2) = .pointer (some ⟨w.heap.size, 0, none⟩) := h0
      replace h1 : ρ (.tmp 45) = .bool (true) := h1
      go_simp
      exact ⟨Ext.refl _, rfl⟩
    · obtain ⟨h0, h1, -⟩ := hs
      replace h0 : ρ (.tmp 50) = .pointer (some ⟨w.heap.size, 0, none⟩) := h0
      replace h1 : ρ (.tmp 45) = .bool (true) := h1
      have hc0 : W.cell? ⟨w.heap.size, 0, none⟩ = some (.slice (some ⟨b, o, none⟩) n ca) := hF.cell (by assumption)
      go_simp
      exact ⟨Ext.refl _, rfl⟩
    · obtain ⟨h0, h1, -⟩ := hs
      replace h0 : ρ (.tmp 51) = .slice (some ⟨b, o, none⟩) n ca := h0
      replace h1 : ρ (.tmp 45) = .bool (true) := h1
      go_simp
      exact ⟨Ext.refl _, rfl⟩
    · obtain ⟨h0, h1, -⟩ := hs
      replace h0 : ρ (.tmp 52) = .int .i64 ((n : Int)) := h0
      replace h1 : ρ (.tmp 45) = .bool (true) := h1
      have hw : IntKind.i64.wrap ((n : Int) - 1) = (n : Int) - 1 := wrap_id _ (by omega) (by omega)
      go_simp
      exact ⟨Ext.refl _, rfl⟩
    · obtain ⟨h0, h1, h2, -⟩ := hs
      replace h0 : ρ (.tmp 49) = .slice (some ⟨b, o, none⟩) n ca := h0
      replace h1 : ρ (.tmp 53) = .int .i64 ((n : Int) - 1) := h1
      replace h2 : ρ (.tmp 45) = .bool (true) := h2
      have hb6 : (1 : Int) ≤ (n : Int) := by omega
      have hb2 : (n : Int) - 1 < (n : Int) := by omega
      have hb3 : (0 : Int) ≤ (n : Int) - 1 := by omega
      have hb4 : ((n : Int) - 1).toNat = n - 1 := by omega
      have hb5 : n - 1 < n := by omega
      go_simp
      exact ⟨Ext.refl _, rfl⟩
    · obtain ⟨h0, h1, -⟩ := hs
      replace h0 : ρ (.tmp 54) = .pointer (some ⟨b, o + (n - 1) * 4, none⟩) := h0
      replace h1 : ρ (.tmp 45) = .bool (true) := h1
      go_simp
      exact ⟨Ext.refl _, rfl⟩
    · obtain ⟨h0, h1, -⟩ := hs
      replace h0 : ρ (.tmp 55) = .pointer (some ⟨b, o + (n - 1) * 4, none⟩) := h0
      replace h1 : ρ (.tmp 45) = .bool (true) := h1
      have hc0 : W.cell? ⟨b, o + (n - 1) * 4, none⟩ = some (.int .i64 (x1.d)) := hF.cell (by assumption)
      go_simp
      exact ⟨Ext.refl _, rfl⟩
    · obtain ⟨h0, h1, -⟩ := hs
      replace h0 : ρ (.tmp 56) = .int .i64 (x1.d) := h0
      replace h1 : ρ (.tmp 45) = .bool (true) := h1
      go_simp
      refine (whole_any _ _).mono ?_; rintro e w' ⟨rfl, hx⟩; exact ⟨_, rfl, hx, rfl⟩
    · obtain ⟨h0, h1, h2, -⟩ := hs
      replace h0 : ρ (.tmp 47) = .agg #[.int .i64 (q.1), .int .i64 (q.2)] := h0
      replace h1 : ρ (.tmp 57) = .agg #[.int .i64 x1.d, .int .i64 1] := h1
      replace h2 : ρ (.tmp 45) = .bool (true) := h2
      go_simp
      refine (HC3.out _).mono ?_; rintro e w' ⟨rfl, hx⟩; exact ⟨_, rfl, hx, rfl⟩
    · obtain ⟨h0, h1, -⟩ := hs
      replace h0 : ρ (.tmp 58) = .int .i64 (c3) := h0
      replace h1 : ρ (.tmp 45) = .bool (true) := h1
      have hd : decide (c3 ≤ (0 : Int)) = true := by simp; omega
      go_simp
      exact ⟨Ext.refl _, rfl⟩
    · obtain ⟨h0, h1, -⟩ := hs
      replace h0 : ρ (.tmp 45) = .bool (true) := h0
      replace h1 : ρ (.tmp 59) = .bool (true) := h1
      go_simp
      exact ⟨Ext.refl _, rfl⟩
    · obtain ⟨h0, -⟩ := hs
      replace h0 : ρ (.tmp 60) = .bool (true) := h0
      go_simp
      exact ⟨Ext.refl _, rfl⟩
  · intro fv W6 hF hs
    obtain ⟨-, -, -, -, -, -, -, -, -, -, -, -, -, -, -, -, -, -, -, -, -, -, -, -, -, -, h4, -⟩ := hs
    replace h4 : fv 4 = .bool (true) := h4
    simp only [fin, List.filterMap]
    go_simp
    have X := Lib.hid (X.out.trans hF)
    clear hF
    go_wp2
    go_ret
    exact ⟨rfl, X.out⟩

set_option maxRecDepth 100000 in
set_option maxHeartbeats 8000000 in
theorem inside_ok {w : World} {a b c d : Int × Int} (ha : Low a) (hb : Low b) (hc : Low c) (hd : Low d) (h1 : c.1 * a.2 ≤ a.1 * c.2) (h2 : b.1 * d.2 ≤ d.1 * b.2) :
    Calls Try.prog 28 #[.agg #[.int .i64 a.1, .int .i64 a.2, .int .i64 b.1, .int .i64 b.2], .agg #[.int .i64 c.1, .int .i64 c.2, .int .i64 d.1, .int .i64 d.2]] w fun e w' => e = .returned (.bool true) ∧ Ext w w' := by
  have H1 := Lib.hid (fun W => low_cmp_any hc ha W)
  have H2 := Lib.hid (fun W => low_cmp_any hb hd W)
  have l1 := cmp_le h1
  have l2 := cmp_le h2
  clear ha hb hc hd h1 h2
  generalize cmpV (c.1 * a.2) (a.1 * c.2) = c1 at *
  generalize cmpV (b.1 * d.2) (d.1 * b.2) = c2 at *
  have P0 := Lib.hid (show Blk ((w.alloc (.cells #[.int .i64 a.1, .int .i64 a.2, .int .i64 b.1, .int .i64 b.2] 34)).alloc (.cells #[.int .i64 c.1, .int .i64 c.2, .int .i64 d.1, .int .i64 d.2] 34)) w.heap.size 34 #[.int .i64 a.1, .int .i64 a.2, .int .i64 b.1, .int .i64 b.2] from (Blk.new _ _ _).alloc _)
  have P1 := Lib.hid (show Blk ((w.alloc (.cells #[.int .i64 a.1, .int .i64 a.2, .int .i64 b.1, .int .i64 b.2] 34)).alloc (.cells #[.int .i64 c.1, .int .i64 c.2, .int .i64 d.1, .int .i64 d.2] 34)) (w.heap.size + 1) 34 #[.int .i64 c.1, .int .i64 c.2, .int .i64 d.1, .int .i64 d.2] from Blk.newAt _ _ _ (by simp))
  go_enter Try.func28, Try.ntmps28
  go_wp2_with (go_at_call 29; refine (H1.out _).mono ?_; rintro e W1 ⟨rfl, hx⟩; have X := Lib.hid (((Ext.alloc _ _).trans (Ext.alloc _ _)).trans hx); have K0 := Lib.hid (P0.out.ext hx); have K1 := Lib.hid (P1.out.ext hx); clear hx; refine Hid.out ?_)
  refine Lib.hid ?_
  clear P0 P1
  have hc1 : c1 ≤ 0 := l1
  have y2 : W1.cell? ⟨w.heap.size, 2, none⟩ = some (.int .i64 b.1) := K0.out.cell 2
  have y3 : W1.cell? ⟨w.heap.size, 3, none⟩ = some (.int .i64 b.2) := K0.out.cell 3
  have z2 : W1.cell? ⟨w.heap.size + 1, 2, none⟩ = some (.int .i64 d.1) := K1.out.cell 2
  have z3 : W1.cell? ⟨w.heap.size + 1, 3, none⟩ = some (.int .i64 d.2) := K1.out.cell 3
  go_wp2_with (go_at_call 29; refine (H2.out _).mono ?_; rintro e W2 ⟨rfl, hx⟩; have X := Lib.hid (X.out.trans hx); clear hx)
  go_ret
  exact ⟨by simp, X.out⟩

end Go.Proofs.Ytmddnpagfgilcaa

namespace Go.Proofs.Ytmddnpagfgilcaa
open Go.RowKit Go.Shelf Go.Mem Go.RegInv
attribute [local go_sem] RelUpon_value RelUpon_skip RelUpon_enter BigFrame.eval_const BigFrame.eval_global BigFrame.eval_func

set_option maxRecDepth 100000 in
set_option maxHeartbeats 4000000 in
theorem awake_any (w : World) : Calls Try.prog 13 #[] w fun e w' => e = .returned (.bool true) ∧ Ext w w' := by
  have HCA := Lib.hid (fun (g : Nat) W (h : RowsAt 4 In.enc W (some ⟨g, 0, none⟩) exT) => caseOf_ok (ca := 3) 550 (n := 3) rfl h ex1.1 ex1.2.1 ex1.2.2.1 ex1.2.2.2)
  have HCO := Lib.hid (fun (g : Nat) W (h : RowsAt 3 Kn.enc W (some ⟨g, 0, none⟩) exX) => show Calls Try.prog 36 #[.agg #[.slice (some ⟨g, 0, none⟩) 3 3], .agg #[.int .i64 450, .int .i64 600]] W fun e w' => e = .returned (.tuple #[.agg #[.int .i64 43, .int .i64 56], .int .i64 0]) ∧ Ext W w' from by
    have := convertedOf_ok (ca := 3) 450 600 (n := 3) rfl h ex2.1 ex2.2.1
    rw [ex2.2.2] at this
    exact this)
  have HLO := Lib.hid (fun W => show Calls Try.prog 54 #[.int .i64 10, .int .i64 10, .int .i64 50] W fun e w' => e = .returned (.tuple #[.int .i64 7, .int .i64 0]) ∧ Ext W w' from by
    have := lowerShare_any 10 10 50 W
    rw [ex3.1, ex3.2] at this
    exact this)
  have HAC := Lib.hid (fun W => show Calls Try.prog 59 #[.agg #[.int .i64 10, .int .i64 2, .int .i64 0], .int .i64 3] W fun e w' => e = .returned (.tuple #[.agg #[.int .i64 7, .int .i64 15], .int .i64 0]) ∧ Ext W w' from by
    have := accOf_any 10 2 0 3 W
    rw [ex4.1, ex4.2] at this
    exact this)
  have HFI := Lib.hid (fun (g : Nat) W (h : RowsAt 2 Pr.enc W (some ⟨g, 0, none⟩) exP) => show Calls Try.prog 72 #[.slice (some ⟨g, 0, none⟩) 3 3] W fun e w' => e = .returned (.tuple #[.agg #[.int .i64 3, .int .i64 2, .int .i64 (-1), .int .i64 2, .int .i64 0, .int .i64 2, .int .i64 1, .int .i64 1], .int .i64 0]) ∧ Ext W w' from
    fitOf_ok (ca := 3) (n := 3) rfl h ex5.1 ex5.2.1 ex5.2.2.1 ex5.2.2.2.1 ex5.2.2.2.2.1 ex5.2.2.2.2.2.1 ex5.2.2.2.2.2.2)
  have L1 := Lib.hid (fun W => show Calls Try.prog 74 #[.int .i64 225, .int .i64 2] W fun e w' => e = .returned (.agg #[.int .i64 225, .int .i64 2]) ∧ Ext W w' from by
    have := lowest_any 225 2 ⟨by decide, by decide⟩ (by decide) ⟨by decide, by decide⟩ W
    rw [ex6.1] at this
    exact this)
  have L2 := Lib.hid (fun W => show Calls Try.prog 74 #[.int .i64 235, .int .i64 2] W fun e w' => e = .returned (.agg #[.int .i64 235, .int .i64 2]) ∧ Ext W w' from by
    have := lowest_any 235 2 ⟨by decide, by decide⟩ (by decide) ⟨by decide, by decide⟩ W
    rw [ex6.2.1] at this
    exact this)
  have L3 := Lib.hid (fun W => show Calls Try.prog 74 #[.int .i64 3, .int .i64 2] W fun e w' => e = .returned (.agg #[.int .i64 3, .int .i64 2]) ∧ Ext W w' from by
    have := lowest_any 3 2 ⟨by decide, by decide⟩ (by decide) ⟨by decide, by decide⟩ W
    rw [ex6.2.2.1] at this
    exact this)
  have L4 := Lib.hid (fun W => show Calls Try.prog 74 #[.int .i64 (-1), .int .i64 2] W fun e w' => e = .returned (.agg #[.int .i64 (-1), .int .i64 2]) ∧ Ext W w' from by
    have := lowest_any (-1) 2 ⟨by decide, by decide⟩ (by decide) ⟨by decide, by decide⟩ W
    rw [ex6.2.2.2] at this
    exact this)
  have L5 := Lib.hid (fun W => whole_any 1 W)
  go_enter Try.func13, Try.ntmps13
  go_wp2_with (go_at_call 70; refine (traverse_any _).mono ?_; rintro e W1 ⟨g1, rfl, hr, hx⟩; have X1 := Lib.hid hx; have R1 := Lib.hid hr; clear hx hr; refine Hid.out ?_)
  refine Lib.hid ?_
  go_wp2_with (go_at_call 18; refine (HCA.out g1 _ R1.out).mono ?_; rintro e W2 ⟨rfl, hx⟩; have X2 := Lib.hid (X1.out.trans (hx.trans (Ext.alloc W2 (.cells #[.int .i64 225, .int .i64 2, .int .i64 235, .int .i64 2] 34)))); have B1 := Lib.hid (Blk.new W2 34 #[.int .i64 225, .int .i64 2, .int .i64 235, .int .i64 2]); clear hx X1 R1; refine Hid.out ?_)
  refine Lib.hid ?_
  go_wp2_with (go_at_call 71; refine (table_any _).mono ?_; rintro e W3 ⟨g2, rfl, hr, hx⟩; have X3 := Lib.hid (X2.out.trans hx); have B1 := Lib.hid (B1.out.ext hx); have R2 := Lib.hid hr; clear hx hr X2; refine Hid.out ?_)
  refine Lib.hid ?_
  go_wp2_with (go_at_call 36; refine (HCO.out g2 _ R2.out).mono ?_; rintro e W4 ⟨rfl, hx⟩; have X4 := Lib.hid (X3.out.trans (hx.trans (Ext.alloc W4 (.cells #[.int .i64 43, .int .i64 56] 41)))); have B1 := Lib.hid ((B1.out.ext hx).alloc (.cells #[.int .i64 43, .int .i64 56] 41)); have B2 := Lib.hid (Blk.new W4 41 #[.int .i64 43, .int .i64 56]); clear hx X3 R2; refine Hid.out ?_)
  refine Lib.hid ?_
  go_wp2_with (go_at_call 54; refine (HLO.out _).mono ?_; rintro e W5 ⟨rfl, hx⟩; have X5 := Lib.hid (X4.out.trans hx); have B1 := Lib.hid (B1.out.ext hx); have B2 := Lib.hid (B2.out.ext hx); clear hx X4; refine Hid.out ?_)
  refine Lib.hid ?_
  go_wp2_with (go_at_call 59; refine (HAC.out _).mono ?_; rintro e W6 ⟨rfl, hx⟩; have X6 := Lib.hid (X5.out.trans (hx.trans (Ext.alloc W6 (.cells #[.int .i64 7, .int .i64 15] 32)))); have B1 := Lib.hid ((B1.out.ext hx).alloc (.cells #[.int .i64 7, .int .i64 15] 32)); have B2 := Lib.hid ((B2.out.ext hx).alloc (.cells #[.int .i64 7, .int .i64 15] 32)); have B3 := Lib.hid (Blk.new W6 32 #[.int .i64 7, .int .i64 15]); clear hx X5; refine Hid.out ?_)
  refine Lib.hid ?_
  go_wp2_with (go_at_call 73; refine (pairs_any _).mono ?_; rintro e W7 ⟨g3, rfl, hr, hx⟩; have X7 := Lib.hid (X6.out.trans hx); have B1 := Lib.hid (B1.out.ext hx); have B2 := Lib.hid (B2.out.ext hx); have B3 := Lib.hid (B3.out.ext hx); have R3 := Lib.hid hr; clear hx hr X6; refine Hid.out ?_)
  refine Lib.hid ?_
  go_wp2_with (go_at_call 72; refine (HFI.out g3 _ R3.out).mono ?_; rintro e W8 ⟨rfl, hx⟩; have X8 := Lib.hid (X7.out.trans (hx.trans (Ext.alloc W8 (.cells #[.int .i64 3, .int .i64 2, .int .i64 (-1), .int .i64 2, .int .i64 0, .int .i64 2, .int .i64 1, .int .i64 1] 118)))); have B1 := Lib.hid ((B1.out.ext hx).alloc (.cells #[.int .i64 3, .int .i64 2, .int .i64 (-1), .int .i64 2, .int .i64 0, .int .i64 2, .int .i64 1, .int .i64 1] 118)); have B2 := Lib.hid ((B2.out.ext hx).alloc (.cells #[.int .i64 3, .int .i64 2, .int .i64 (-1), .int .i64 2, .int .i64 0, .int .i64 2, .int .i64 1, .int .i64 1] 118)); have B3 := Lib.hid ((B3.out.ext hx).alloc (.cells #[.int .i64 3, .int .i64 2, .int .i64 (-1), .int .i64 2, .int .i64 0, .int .i64 2, .int .i64 1, .int .i64 1] 118)); have B4 := Lib.hid (Blk.new W8 118 #[.int .i64 3, .int .i64 2, .int .i64 (-1), .int .i64 2, .int .i64 0, .int .i64 2, .int .i64 1, .int .i64 1]); clear hx X7 R3; refine Hid.out ?_)
  refine Lib.hid ?_
  obtain ⟨W9, hW9⟩ : ∃ W9, W9 = W8.alloc (.cells #[.int .i64 3, .int .i64 2, .int .i64 (-1), .int .i64 2, .int .i64 0, .int .i64 2, .int .i64 1, .int .i64 1] 118) := ⟨_, rfl⟩
  generalize W2.heap.size = q1 at *
  generalize W4.heap.size = q2 at *
  generalize W6.heap.size = q3 at *
  rw [← hW9] at B1 B2 B3 B4 X8
  go_wp2_with (fail)
  rw [← hW9]
  clear hW9
  generalize W8.heap.size = q4 at *
  have y10 : W9.cell? ⟨q1, 0, none⟩ = some (.int .i64 (225)) := B1.out.cell 0
  have y11 : W9.cell? ⟨q1, 1, none⟩ = some (.int .i64 (2)) := B1.out.cell 1
  have y12 : W9.cell? ⟨q1, 2, none⟩ = some (.int .i64 (235)) := B1.out.cell 2
  have y13 : W9.cell? ⟨q1, 3, none⟩ = some (.int .i64 (2)) := B1.out.cell 3
  have y20 : W9.cell? ⟨q2, 0, none⟩ = some (.int .i64 (43)) := B2.out.cell 0
  have y21 : W9.cell? ⟨q2, 1, none⟩ = some (.int .i64 (56)) := B2.out.cell 1
  have y30 : W9.cell? ⟨q3, 0, none⟩ = some (.int .i64 (7)) := B3.out.cell 0
  have y31 : W9.cell? ⟨q3, 1, none⟩ = some (.int .i64 (15)) := B3.out.cell 1
  have y40 : W9.cell? ⟨q4, 0, none⟩ = some (.int .i64 (3)) := B4.out.cell 0
  have y41 : W9.cell? ⟨q4, 1, none⟩ = some (.int .i64 (2)) := B4.out.cell 1
  have y42 : W9.cell? ⟨q4, 2, none⟩ = some (.int .i64 ((-1))) := B4.out.cell 2
  have y43 : W9.cell? ⟨q4, 3, none⟩ = some (.int .i64 (2)) := B4.out.cell 3
  have y44 : W9.cell? ⟨q4, 4, none⟩ = some (.int .i64 (0)) := B4.out.cell 4
  have y45 : W9.cell? ⟨q4, 5, none⟩ = some (.int .i64 (2)) := B4.out.cell 5
  have y46 : W9.cell? ⟨q4, 6, none⟩ = some (.int .i64 (1)) := B4.out.cell 6
  have y47 : W9.cell? ⟨q4, 7, none⟩ = some (.int .i64 (1)) := B4.out.cell 7
  refine wp_region_eachG [(38, true), (38, true), (38, true), (38, true), (38, true), (45, true), (45, true), (49, true), (49, true), (49, true), (54, true), (54, true), (58, true), (58, true), (62, true), (62, true), (66, true), (66, true), (66, true), (71, true), (71, true), (75, true), (75, true), (75, true), (75, true), (75, true), (75, true), (75, true)] [some 36, some 37, some 38, some 39, some 40, some 41, some 42, some 43, some 44, some 45, some 46, some 47, some 48, some 49, some 50, some 51, some 52, some 53, some 54, some 55, some 56, some 57, some 58, some 59, some 60, some 61, some 62, some 63, some 64, some 65, some 66, some 67, some 68, some 69, some 70, some 71, some 72, some 73, some 74, some 75, some 76, some 77, some 78, some 79, some 80, some 81, some 82, some 83, some 0] [[2], [36], [37], [1, 38], [38], [38], [40, 41, 38], [39, 42, 38], [38, 43], [44], [4, 45], [46, 45], [45, 47], [48], [3, 49], [49], [50, 51, 49], [49, 52], [53], [6, 54], [55, 54], [54, 56], [57], [5, 58], [59, 58], [58, 60], [61], [8, 62], [63, 62], [62, 64], [65], [7, 66], [66], [67, 68, 66], [66, 69], [70], [10, 71], [72, 71], [71, 73], [74], [9, 75], [75], [75], [75], [75], [77, 78, 79, 80, 75], [76, 81, 75], [75, 82], [83]]
    [Is (.int .i64 (0)), Is (.bool (true)), Is (.bool (true)), Is (.agg #[.int .i64 (225), .int .i64 (2), .int .i64 (235), .int .i64 (2)]), Is (.agg #[.int .i64 225, .int .i64 2]), Is (.agg #[.int .i64 235, .int .i64 2]), Is (.agg #[.int .i64 225, .int .i64 2, .int .i64 235, .int .i64 2]), Is (.bool (true)), Is (.bool (true)), Is (.bool (true)), Is (.int .i64 (0)), Is (.bool (true)), Is (.bool (true)), Is (.bool (true)), Is (.agg #[.int .i64 (43), .int .i64 (56)]), Is (.agg #[.int .i64 43, .int .i64 56]), Is (.bool (true)), Is (.bool (true)), Is (.bool (true)), Is (.int .i64 (0)), Is (.bool (true)), Is (.bool (true)), Is (.bool (true)), Is (.int .i64 (7)), Is (.bool (true)), Is (.bool (true)), Is (.bool (true)), Is (.int .i64 (0)), Is (.bool (true)), Is (.bool (true)), Is (.bool (true)), Is (.agg #[.int .i64 (7), .int .i64 (15)]), Is (.agg #[.int .i64 7, .int .i64 15]), Is (.bool (true)), Is (.bool (true)), Is (.bool (true)), Is (.int .i64 (0)), Is (.bool (true)), Is (.bool (true)), Is (.bool (true)), Is (.agg #[.int .i64 (3), .int .i64 (2), .int .i64 ((-1)), .int .i64 (2), .int .i64 (0), .int .i64 (2), .int .i64 (1), .int .i64 (1)]), Is (.agg #[.int .i64 3, .int .i64 2]), Is (.agg #[.int .i64 (-1), .int .i64 2]), Is (.agg #[.int .i64 0, .int .i64 2]), Is (.agg #[.int .i64 1, .int .i64 1]), Is (.agg #[.int .i64 3, .int .i64 2, .int .i64 (-1), .int .i64 2, .int .i64 0, .int .i64 2, .int .i64 1, .int .i64 1]), Is (.bool (true)), Is (.bool (true)), Is (.bool (true))]
    (by kernel_rfl) (by kernel_rfl) (by kernel_rfl) (by kernel_rfl) (by kernel_rfl) Ext (fun W => Ext W9 W)
    (fun W _ => Ext.refl W) (fun W W' h k => h.trans k) ?_ (by intro p hp; simp only [List.mem_cons, List.not_mem_nil, or_false] at hp; rcases hp with rfl | rfl | rfl | rfl | rfl | rfl | rfl | rfl | rfl | rfl | rfl | rfl | rfl | rfl | rfl | rfl | rfl | rfl | rfl | rfl | rfl | rfl | rfl | rfl | rfl | rfl | rfl | rfl <;> exact ⟨_, rfl, fun _ _ h => h⟩) (Ext.drew _) ?_ ?_
  · repeat (refine ⟨fun _ _ _ _ k h => (by first | exact h | exact (IntsAt.ext h k)), ?_⟩)
    exact trivial
  · refine ⟨?_, ?_, ?_, ?_, ?_, ?_, ?_, ?_, ?_, ?_, ?_, ?_, ?_, ?_, ?_, ?_, ?_, ?_, ?_, ?_, ?_, ?_, ?_, ?_, ?_, ?_, ?_, ?_, ?_, ?_, ?_, ?_, ?_, ?_, ?_, ?_, ?_, ?_, ?_, ?_, ?_, ?_, ?_, ?_, ?_, ?_, ?_, ?_, ?_, trivial⟩
    all_goals intro ρ W ⟨kc, kg, kf⟩ hF hs
    · obtain ⟨h0, -⟩ := hs
      replace h0 : ρ (.tmp 2) = .int .i64 (0) := h0
      go_simp
      exact ⟨Ext.refl _, rfl⟩
    · obtain ⟨h0, -⟩ := hs
      replace h0 : ρ (.tmp 36) = .int .i64 (0) := h0
      go_simp
      exact ⟨Ext.refl _, rfl⟩
    · obtain ⟨h0, -⟩ := hs
      replace h0 : ρ (.tmp 37) = .bool (true) := h0
      go_simp
      exact ⟨Ext.refl _, rfl⟩
    · obtain ⟨h0, h1, -⟩ := hs
      replace h0 : ρ (.tmp 1) = .pointer (some ⟨q1, 0, none⟩) := h0
      replace h1 : ρ (.tmp 38) = .bool (true) := h1
      have hc0 : W.cell? ⟨q1, 0, none⟩ = some (.int .i64 (225)) := hF.cell (by assumption)
      have hc1 : W.cell? ⟨q1, 1, none⟩ = some (.int .i64 (2)) := hF.cell (by assumption)
      have hc2 : W.cell? ⟨q1, 2, none⟩ = some (.int .i64 (235)) := hF.cell (by assumption)
      have hc3 : W.cell? ⟨q1, 3, none⟩ = some (.int .i64 (2)) := hF.cell (by assumption)
      go_simp
      exact ⟨Ext.refl _, rfl⟩
    · obtain ⟨h0, -⟩ := hs
      replace h0 : ρ (.tmp 38) = .bool (true) := h0
      go_simp
      refine (L1.out _).mono ?_; rintro e w' ⟨rfl, hx⟩; exact ⟨_, rfl, hx, rfl⟩
    · obtain ⟨h0, -⟩ := hs
      replace h0 : ρ (.tmp 38) = .bool (true) := h0
      go_simp
      refine (L2.out _).mono ?_; rintro e w' ⟨rfl, hx⟩; exact ⟨_, rfl, hx, rfl⟩
    · obtain ⟨h0, h1, h2, -⟩ := hs
      replace h0 : ρ (.tmp 40) = .agg #[.int .i64 225, .int .i64 2] := h0
      replace h1 : ρ (.tmp 41) = .agg #[.int .i64 235, .int .i64 2] := h1
      replace h2 : ρ (.tmp 38) = .bool (true) := h2
      go_simp
      exact ⟨Ext.refl _, rfl⟩
    · obtain ⟨h0, h1, h2, -⟩ := hs
      replace h0 : ρ (.tmp 39) = .agg #[.int .i64 (225), .int .i64 (2), .int .i64 (235), .int .i64 (2)] := h0
      replace h1 : ρ (.tmp 42) = .agg #[.int .i64 225, .int .i64 2, .int .i64 235, .int .i64 2] := h1
      replace h2 : ρ (.tmp 38) = .bool (true) := h2
      go_simp
      exact ⟨Ext.refl _, rfl⟩
    · obtain ⟨h0, h1, -⟩ := hs
      replace h0 : ρ (.tmp 38) = .bool (true) := h0
      replace h1 : ρ (.tmp 43) = .bool (true) := h1
      go_simp
      exact ⟨Ext.refl _, rfl⟩
    · obtain ⟨h0, -⟩ := hs
      replace h0 : ρ (.tmp 44) = .bool (true) := h0
      go_simp
      exact ⟨Ext.refl _, rfl⟩
    · obtain ⟨h0, h1, -⟩ := hs
      replace h0 : ρ (.tmp 4) = .int .i64 (0) := h0
      replace h1 : ρ (.tmp 45) = .bool (true) := h1
      go_simp
      exact ⟨Ext.refl _, rfl⟩
    · obtain ⟨h0, h1, -⟩ := hs
      replace h0 : ρ (.tmp 46) = .int .i64 (0) := h0
      replace h1 : ρ (.tmp 45) = .bool (true) := h1
      go_simp
      exact ⟨Ext.refl _, rfl⟩
    · obtain ⟨h0, h1, -⟩ := hs
      replace h0 : ρ (.tmp 45) = .bool (true) := h0
      replace h1 : ρ (.tmp 47) = .bool (true) := h1
      go_simp
      exact ⟨Ext.refl _, rfl⟩
    · obtain ⟨h0, -⟩ := hs
      replace h0 : ρ (.tmp 48) = .bool (true) := h0
      go_simp
      exact ⟨Ext.refl _, rfl⟩
    · obtain ⟨h0, h1, -⟩ := hs
      replace h0 : ρ (.tmp 3) = .pointer (some ⟨q2, 0, none⟩) := h0
      replace h1 : ρ (.tmp 49) = .bool (true) := h1
      have hc0 : W.cell? ⟨q2, 0, none⟩ = some (.int .i64 (43)) := hF.cell (by assumption)
      have hc1 : W.cell? ⟨q2, 1, none⟩ = some (.int .i64 (56)) := hF.cell (by assumption)
      go_simp
      exact ⟨Ext.refl _, rfl⟩
    · obtain ⟨h0, -⟩ := hs
      replace h0 : ρ (.tmp 49) = .bool (true) := h0
      go_simp
      exact ⟨Ext.refl _, rfl⟩
    · obtain ⟨h0, h1, h2, -⟩ := hs
      replace h0 : ρ (.tmp 50) = .agg #[.int .i64 (43), .int .i64 (56)] := h0
      replace h1 : ρ (.tmp 51) = .agg #[.int .i64 43, .int .i64 56] := h1
      replace h2 : ρ (.tmp 49) = .bool (true) := h2
      go_simp
      exact ⟨Ext.refl _, rfl⟩
    · obtain ⟨h0, h1, -⟩ := hs
      replace h0 : ρ (.tmp 49) = .bool (true) := h0
      replace h1 : ρ (.tmp 52) = .bool (true) := h1
      go_simp
      exact ⟨Ext.refl _, rfl⟩
    · obtain ⟨h0, -⟩ := hs
      replace h0 : ρ (.tmp 53) = .bool (true) := h0
      go_simp
      exact ⟨Ext.refl _, rfl⟩
    · obtain ⟨h0, h1, -⟩ := hs
      replace h0 : ρ (.tmp 6) = .int .i64 (0) := h0
      replace h1 : ρ (.tmp 54) = .bool (true) := h1
      go_simp
      exact ⟨Ext.refl _, rfl⟩
    · obtain ⟨h0, h1, -⟩ := hs
      replace h0 : ρ (.tmp 55) = .int .i64 (0) := h0
      replace h1 : ρ (.tmp 54) = .bool (true) := h1
      go_simp
      exact ⟨Ext.refl _, rfl⟩
    · obtain ⟨h0, h1, -⟩ := hs
      replace h0 : ρ (.tmp 54) = .bool (true) := h0
      replace h1 : ρ (.tmp 56) = .bool (true) := h1
      go_simp
      exact ⟨Ext.refl _, rfl⟩
    · obtain ⟨h0, -⟩ := hs
      replace h0 : ρ (.tmp 57) = .bool (true) := h0
      go_simp
      exact ⟨Ext.refl _, rfl⟩
    · obtain ⟨h0, h1, -⟩ := hs
      replace h0 : ρ (.tmp 5) = .int .i64 (7) := h0
      replace h1 : ρ (.tmp 58) = .bool (true) := h1
      go_simp
      exact ⟨Ext.refl _, rfl⟩
    · obtain ⟨h0, h1, -⟩ := hs
      replace h0 : ρ (.tmp 59) = .int .i64 (7) := h0
      replace h1 : ρ (.tmp 58) = .bool (true) := h1
      go_simp
      exact ⟨Ext.refl _, rfl⟩
    · obtain ⟨h0, h1, -⟩ := hs
      replace h0 : ρ (.tmp 58) = .bool (true) := h0
      replace h1 : ρ (.tmp 60) = .bool (true) := h1
      go_simp
      exact ⟨Ext.refl _, rfl⟩
    · obtain ⟨h0, -⟩ := hs
      replace h0 : ρ (.tmp 61) = .bool (true) := h0
      go_simp
      exact ⟨Ext.refl _, rfl⟩
    · obtain ⟨h0, h1, -⟩ := hs
      replace h0 : ρ (.tmp 8) = .int .i64 (0) := h0
      replace h1 : ρ (.tmp 62) = .bool (true) := h1
      go_simp
      exact ⟨Ext.refl _, rfl⟩
    · obtain ⟨h0, h1, -⟩ := hs
      replace h0 : ρ (.tmp 63) = .int .i64 (0) := h0
      replace h1 : ρ (.tmp 62) = .bool (true) := h1
      go_simp
      exact ⟨Ext.refl _, rfl⟩
    · obtain ⟨h0, h1, -⟩ := hs
      replace h0 : ρ (.tmp 62) = .bool (true) := h0
      replace h1 : ρ (.tmp 64) = .bool (true) := h1
      go_simp
      exact ⟨Ext.refl _, rfl⟩
    · obtain ⟨h0, -⟩ := hs
      replace h0 : ρ (.tmp 65) = .bool (true) := h0
      go_simp
      exact ⟨Ext.refl _, rfl⟩
    · obtain ⟨h0, h1, -⟩ := hs
      replace h0 : ρ (.tmp 7) = .pointer (some ⟨q3, 0, none⟩) := h0
      replace h1 : ρ (.tmp 66) = .bool (true) := h1
      have hc0 : W.cell? ⟨q3, 0, none⟩ = some (.int .i64 (7)) := hF.cell (by assumption)
      have hc1 : W.cell? ⟨q3, 1, none⟩ = some (.int .i64 (15)) := hF.cell (by assumption)
      go_simp
      exact ⟨Ext.refl _, rfl⟩
    · obtain ⟨h0, -⟩ := hs
      replace h0 : ρ (.tmp 66) = .bool (true) := h0
      go_simp
      exact ⟨Ext.refl _, rfl⟩
    · obtain ⟨h0, h1, h2, -⟩ := hs
      replace h0 : ρ (.tmp 67) = .agg #[.int .i64 (7), .int .i64 (15)] := h0
      replace h1 : ρ (.tmp 68) = .agg #[.int .i64 7, .int .i64 15] := h1
      replace h2 : ρ (.tmp 66) = .bool (true) := h2
      go_simp
      exact ⟨Ext.refl _, rfl⟩
    · obtain ⟨h0, h1, -⟩ := hs
      replace h0 : ρ (.tmp 66) = .bool (true) := h0
      replace h1 : ρ (.tmp 69) = .bool (true) := h1
      go_simp
      exact ⟨Ext.refl _, rfl⟩
    · obtain ⟨h0, -⟩ := hs
      replace h0 : ρ (.tmp 70) = .bool (true) := h0
      go_simp
      exact ⟨Ext.refl _, rfl⟩
    · obtain ⟨h0, h1, -⟩ := hs
      replace h0 : ρ (.tmp 10) = .int .i64 (0) := h0
      replace h1 : ρ (.tmp 71) = .bool (true) := h1
      go_simp
      exact ⟨Ext.refl _, rfl⟩
    · obtain ⟨h0, h1, -⟩ := hs
      replace h0 : ρ (.tmp 72) = .int .i64 (0) := h0
      replace h1 : ρ (.tmp 71) = .bool (true) := h1
      go_simp
      exact ⟨Ext.refl _, rfl⟩
    · obtain ⟨h0, h1, -⟩ := hs
      replace h0 : ρ (.tmp 71) = .bool (true) := h0
      replace h1 : ρ (.tmp 73) = .bool (true) := h1
      go_simp
      exact ⟨Ext.refl _, rfl⟩
    · obtain ⟨h0, -⟩ := hs
      replace h0 : ρ (.tmp 74) = .bool (true) := h0
      go_simp
      exact ⟨Ext.refl _, rfl⟩
    · obtain ⟨h0, h1, -⟩ := hs
      replace h0 : ρ (.tmp 9) = .pointer (some ⟨q4, 0, none⟩) := h0
      replace h1 : ρ (.tmp 75) = .bool (true) := h1
      have hc0 : W.cell? ⟨q4, 0, none⟩ = some (.int .i64 (3)) := hF.cell (by assumption)
      have hc1 : W.cell? ⟨q4, 1, none⟩ = some (.int .i64 (2)) := hF.cell (by assumption)
      have hc2 : W.cell? ⟨q4, 2, none⟩ = some (.int .i64 ((-1))) := hF.cell (by assumption)
      have hc3 : W.cell? ⟨q4, 3, none⟩ = some (.int .i64 (2)) := hF.cell (by assumption)
      have hc4 : W.cell? ⟨q4, 4, none⟩ = some (.int .i64 (0)) := hF.cell (by assumption)
      have hc5 : W.cell? ⟨q4, 5, none⟩ = some (.int .i64 (2)) := hF.cell (by assumption)
      have hc6 : W.cell? ⟨q4, 6, none⟩ = some (.int .i64 (1)) := hF.cell (by assumption)
      have hc7 : W.cell? ⟨q4, 7, none⟩ = some (.int .i64 (1)) := hF.cell (by assumption)
      go_simp
      exact ⟨Ext.refl _, rfl⟩
    · obtain ⟨h0, -⟩ := hs
      replace h0 : ρ (.tmp 75) = .bool (true) := h0
      go_simp
      refine (L3.out _).mono ?_; rintro e w' ⟨rfl, hx⟩; exact ⟨_, rfl, hx, rfl⟩
    · obtain ⟨h0, -⟩ := hs
      replace h0 : ρ (.tmp 75) = .bool (true) := h0
      go_simp
      refine (L4.out _).mono ?_; rintro e w' ⟨rfl, hx⟩; exact ⟨_, rfl, hx, rfl⟩
    · obtain ⟨h0, -⟩ := hs
      replace h0 : ρ (.tmp 75) = .bool (true) := h0
      go_simp
      exact ⟨Ext.refl _, rfl⟩
    · obtain ⟨h0, -⟩ := hs
      replace h0 : ρ (.tmp 75) = .bool (true) := h0
      go_simp
      refine (L5.out _).mono ?_; rintro e w' ⟨rfl, hx⟩; exact ⟨_, rfl, hx, rfl⟩
    · obtain ⟨h0, h1, h2, h3, h4, -⟩ := hs
      replace h0 : ρ (.tmp 77) = .agg #[.int .i64 3, .int .i64 2] := h0
      replace h1 : ρ (.tmp 78) = .agg #[.int .i64 (-1), .int .i64 2] := h1
      replace h2 : ρ (.tmp 79) = .agg #[.int .i64 0, .int .i64 2] := h2
      replace h3 : ρ (.tmp 80) = .agg #[.int .i64 1, .int .i64 1] := h3
      replace h4 : ρ (.tmp 75) = .bool (true) := h4
      go_simp
      exact ⟨Ext.refl _, rfl⟩
    · obtain ⟨h0, h1, h2, -⟩ := hs
      replace h0 : ρ (.tmp 76) = .agg #[.int .i64 (3), .int .i64 (2), .int .i64 ((-1)), .int .i64 (2), .int .i64 (0), .int .i64 (2), .int .i64 (1), .int .i64 (1)] := h0
      replace h1 : ρ (.tmp 81) = .agg #[.int .i64 3, .int .i64 2, .int .i64 (-1), .int .i64 2, .int .i64 0, .int .i64 2, .int .i64 1, .int .i64 1] := h1
      replace h2 : ρ (.tmp 75) = .bool (true) := h2
      go_simp
      exact ⟨Ext.refl _, rfl⟩
    · obtain ⟨h0, h1, -⟩ := hs
      replace h0 : ρ (.tmp 75) = .bool (true) := h0
      replace h1 : ρ (.tmp 82) = .bool (true) := h1
      go_simp
      exact ⟨Ext.refl _, rfl⟩
    · obtain ⟨h0, -⟩ := hs
      replace h0 : ρ (.tmp 83) = .bool (true) := h0
      go_simp
      exact ⟨Ext.refl _, rfl⟩
  · intro fv W hF hs
    obtain ⟨-, -, -, -, -, -, -, -, -, -, -, -, -, -, -, -, -, -, -, -, -, -, -, -, -, -, -, -, -, -, -, -, -, -, -, -, -, -, -, -, -, -, -, -, -, -, -, -, h0, -⟩ := hs
    replace h0 : fv 0 = .bool (true) := h0
    simp only [fin, List.filterMap]
    go_simp
    go_wp2
    go_ret
    exact ⟨rfl, X8.out.trans hF⟩

end Go.Proofs.Ytmddnpagfgilcaa

namespace Go.Proofs.Ytmddnpagfgilcaa
open Go.RowKit Go.Shelf Go.Mem Go.RegInv
attribute [local go_sem] RelUpon_value RelUpon_skip RelUpon_enter BigFrame.eval_const BigFrame.eval_global BigFrame.eval_func

section
open Go.ChangeShapes Go.WideShapes Go.Deep
variable {H : Type} {enc : TypeId × Value → H} {w : World} {base : Nat} {spare : Nat → Bool} {held : Bool} {r : Reach} {b0 : Nat} {v : Value} {d : DataW H} {p : List MemPlace}
theorem trod_pair {P : Program} {t e : TypeId} {fuel : Nat} {c0 c1 : Value} {x : DataW H × List MemPlace} (ht : P.underlying t = some (.array 2 e)) (hce : P.cellsOf e = 1) (h : DataW.trod enc P w base spare held fuel t [c0, c1] = some x) :
    ∃ y0 y1 n, DataW.trod enc P w base spare held n e [c0] = some y0 ∧ DataW.trod enc P w base spare held n e [c1] = some y1 := by
  cases fuel with
  | zero => simp [DataW.trod] at h
  | succ n =>
    unfold DataW.trod at h
    rw [ht] at h
    simp [show List.range 2 = [0, 1] from rfl, hce] at h
    obtain ⟨-, h⟩ := h
    cases h0 : DataW.trod enc P w base spare held n e [c0] with
    | none => simp [h0] at h
    | some y0 =>
      cases h1 : DataW.trod enc P w base spare held n e [c1] with
      | none => simp [h0, h1] at h
      | some y1 => exact ⟨y0, y1, n, h0, h1⟩
set_option maxRecDepth 100000 in
theorem open_pair (hv : Value.okWide Try.prog w r b0 52 v) (h : DataW.Trod enc Try.prog w base spare held 52 v d p) : ∃ z0 z1, v = .agg #[.int .i64 z0, .int .i64 z1] := by
  have hu := (by kernel_rfl : Try.prog.underlying 52 = some (.array 2 3))
  obtain ⟨cs, rfl, hsz⟩ : ∃ cs, v = .agg cs ∧ cs.size = Try.prog.cellsOf 52 := by
    unfold Value.okWide at hv
    simp only [hu] at hv
    cases v <;> simp_all
  obtain ⟨l⟩ := cs
  match l, hsz.trans (show Try.prog.cellsOf 52 = 2 by kernel_rfl) with
  | [c0, c1], _ =>
    obtain ⟨fuel, hf⟩ := h
    obtain ⟨y0, y1, n, h0, h1⟩ := trod_pair hu (by kernel_rfl) hf
    obtain ⟨z0, e0, _⟩ := DataW.trod_int (k := .i64) Try.underlying3 h0
    obtain ⟨z1, e1, _⟩ := DataW.trod_int (k := .i64) Try.underlying3 h1
    simp at e0 e1
    exact ⟨z0, z1, by rw [e0, e1]⟩
end

end Go.Proofs.Ytmddnpagfgilcaa

namespace Go.Proofs.Ytmddnpagfgilcaa
open Go.RowKit Go.Shelf Go.Mem Go.RegInv
attribute [local go_sem] RelUpon_value RelUpon_skip RelUpon_enter BigFrame.eval_const BigFrame.eval_global BigFrame.eval_func

section
open Go.ChangeShapes Go.WideShapes Go.Deep
variable {H : Type} {enc : TypeId × Value → H} {w : World} {base : Nat} {spare : Nat → Bool} {held : Bool} {r : Reach} {b0 : Nat} {v : Value} {d : DataW H} {p : List MemPlace}
end

end Go.Proofs.Ytmddnpagfgilcaa

namespace Go.Proofs.Ytmddnpagfgilcaa
open Go.RowKit Go.Shelf Go.Mem Go.RegInv
attribute [local go_sem] RelUpon_value RelUpon_skip RelUpon_enter BigFrame.eval_const BigFrame.eval_global BigFrame.eval_func

theorem tmod_lim {a m : Int} (hm : 0 < m) : a.tmod m < m ∧ -m < a.tmod m := by
  have := Nat.mod_lt a.natAbs (show 0 < m.natAbs by omega)
  rw [← Int.natAbs_tmod] at this
  omega
theorem emod_of {a m : Int} (hm : 0 < m) : a % m = if a.tmod m < 0 then a.tmod m + m else a.tmod m := by
  rw [Int.emod_eq_tmod]
  obtain ⟨h1, h2⟩ := tmod_lim (a := a) hm
  by_cases h : 0 ≤ a ∨ m ∣ a
  · rw [if_pos h]
    have : ¬ a.tmod m < 0 := by
      rcases h with h | h
      · have := Int.tmod_nonneg m h; omega
      · rw [Int.tmod_eq_zero_of_dvd h]; omega
    rw [if_neg this]; simp
  · rw [if_neg h]
    have h3 : a < 0 := by omega
    have h4 : a.tmod m ≤ 0 := by
      have := Int.tmod_nonneg m (show 0 ≤ -a by omega)
      rw [Int.neg_tmod] at this
      omega
    have h5 : a.tmod m ≠ 0 := fun e => h (Or.inr (Int.dvd_of_tmod_eq_zero e))
    rw [if_pos (by omega), show ((m.natAbs : Nat) : Int) = m by omega]
set_option maxRecDepth 100000 in
set_option maxHeartbeats 2000000 in
theorem mod_any (a m : Int) (hm : 0 < m ∧ m ≤ 1000000) (w : World) : Calls Try.prog 26 #[.int .i64 a, .int .i64 m] w fun e w' => e = .returned (.int .i64 (a % m)) ∧ w = w' := by
  obtain ⟨hm1, hm2⟩ := hm
  obtain ⟨h1, h2⟩ := tmod_lim (a := a) hm1
  have HE := Lib.hid (emod_of (a := a) hm1)
  have hm0 : m ≠ 0 := by omega
  by_cases h : a.tmod m < 0
  · have HZ := Lib.hid (show a % m = a.tmod m + m by rw [HE.out, if_pos h])
    clear HE
    generalize a % m = z at *
    go_enter Try.func26, Try.ntmps26
    go_wp2
    go_ret
    exact ⟨ret_int HZ.out.symm, rfl⟩
  · have HZ := Lib.hid (show a % m = a.tmod m by rw [HE.out, if_neg h])
    clear HE
    generalize a % m = z at *
    go_enter Try.func26, Try.ntmps26
    go_wp2
    go_ret
    exact ⟨ret_int HZ.out.symm, rfl⟩
end Go.Proofs.Ytmddnpagfgilcaa

namespace Go.Proofs.Ytmddnpagfgilcaa
open Go.RowKit Go.Shelf Go.Mem Go.RegInv
attribute [local go_sem] RelUpon_value RelUpon_skip RelUpon_enter BigFrame.eval_const BigFrame.eval_global BigFrame.eval_func

def TabC (n : Nat) (xs : List Kn) : Value → World → Prop := fun u W => ∃ A' c', u = .agg #[.slice A' n c'] ∧ RowsAt 3 Kn.enc W A' xs
theorem TabC.ext {n : Nat} {xs : List Kn} {u : Value} {W W' : World} (h : TabC n xs u W) (k : Ext W W') : TabC n xs u W' := by
  obtain ⟨A', c', e, hr⟩ := h
  exact ⟨A', c', e, hr.ext k⟩
def PtsC (n : Nat) (ps : List (Int × Int)) : Value → World → Prop := fun u W => ∃ A' c', u = .slice A' n c' ∧ RowsAt 2 frEnc W A' ps
theorem PtsC.ext {n : Nat} {ps : List (Int × Int)} {u : Value} {W W' : World} (h : PtsC n ps u W) (k : Ext W W') : PtsC n ps u W' := by
  obtain ⟨A', c', e, hr⟩ := h
  exact ⟨A', c', e, hr.ext k⟩
end Go.Proofs.Ytmddnpagfgilcaa

namespace Go.Proofs.Ytmddnpagfgilcaa
open Go.RowKit Go.Shelf Go.Mem Go.RegInv
attribute [local go_sem] RelUpon_value RelUpon_skip RelUpon_enter BigFrame.eval_const BigFrame.eval_global BigFrame.eval_func

theorem wpList_copyO {α : Type} {W : World} {ops : Array Oper} {rest : List Oper} {o : Oper} {a : Act} {Q : Exit → Act → World → Prop} (hgd : o.guard = none) (s x : Operand) (t : TypeId)
    (ho : o.op = .call { callee := .builtin .append, args := #[s, x], argTypes := #[t, t] })
    (e : TypeId) (i : TypeInfo) (z : Value) (size bytes : Nat) (ht : Try.prog.underlying t = some (.slice e)) (hi : Try.prog.info? e = some i) (hz : i.zero = some z)
    (hsize : i.size = size) (hby : i.bytes = bytes) (hzs : z.cells.size = size) (hsz : 0 < size) (hb1 : bytes ≤ 1000)
    (enc : α → List Value) (hk : ∀ x, (enc x).length = size) (h1 : ∀ x, ∀ u ∈ enc x, u.oneCell' = true)
    (hs : a.eval s = .slice (some ⟨W.heap.size, 0, none⟩) 0 0) (ad : Addr) (n ca : Nat) (xs : List α) (hx : a.eval x = .slice (some ad) n ca) (hn : xs.length = n) (hA : RowsAt size enc W (some ad) xs) (h6 : n ≤ 1000)
    (h : ∀ A' c' w', w'.ownsRow W.heap.size e size (.slice A' n c') n (xs.flatMap enc) → Ext W w' → wpList Try.prog ops Q rest (a.put o.dst (.slice A' n c')) w') :
    wpList Try.prog ops Q (o :: rest) a (W.alloc (.cells #[] e)) := by
  have hown : (W.alloc (.cells #[] e)).ownsRow W.heap.size e size (.slice (some ⟨W.heap.size, 0, none⟩) 0 0) 0 [] :=
    ⟨by simp, .inr ⟨W.heap.size, 0, #[], rfl, Nat.le_refl _, Blk.new W e #[], Nat.le_refl _, by unfold maxLen; omega, by simp, by simp⟩⟩
  have hnews : ∀ j u, (xs.flatMap enc)[j]? = some u → (W.alloc (.cells #[] e)).cell? (ad.add j) = some u := fun j u hu => by
    obtain ⟨s, hs, hj⟩ := flat_idx (k := size) (enc := enc) hsz hk xs j u hu
    obtain ⟨b, o, e', _, hc⟩ := hA.2 _ s hs
    obtain rfl : ad = ⟨b, o, none⟩ := by simpa using e'
    have := (Ext.alloc W (.cells #[] e)).cell (hc _ _ hj)
    have hdm := Nat.div_add_mod j size
    rw [Nat.mul_comm] at hdm
    rw [WideShapes.add_plain, show o + j = o + j / size * size + j % size by omega]; exact this
  refine wpList_append_own _ hgd s x t ho W.heap.size e i z size bytes ht hi hz hsize hby hzs hsz _ _ _ hs hown ad n ca (xs.flatMap enc) hx (by rw [flat_lenG hk, hn]) hnews (flat_one h1 xs) (by unfold maxLen; omega) (by
    have := Nat.mul_le_mul h6 hb1
    rw [Nat.zero_add]; omega) (by simp) ?_
  intro v' w1 hown' hgrow hnone
  have hE : Ext W w1 := Ext.grownBy (Ext.alloc W _) hgrow (fun g hg => own_base hown hg)
  obtain ⟨A', c', hv'⟩ := own_slice hown'
  rw [Nat.zero_add] at hv'
  subst hv'
  rw [Nat.zero_add, List.nil_append] at hown'
  exact h A' c' w1 hown' hE

set_option maxRecDepth 100000 in
set_option maxHeartbeats 1000000 in
theorem copyTraverse_own {b o : Nat} {n ca : Nat} {xs : List In} {w : World} (hn : xs.length = n) (hA : RowsAt 4 In.enc w (some ⟨b, o, none⟩) xs) (h6 : n ≤ 1000) :
    Calls Try.prog 16 #[.agg #[.slice (some ⟨b, o, none⟩) n ca]] w fun e w' => ∃ A' c' B, e = .returned (.agg #[.slice A' n c']) ∧ w'.ownsRow B 43 4 (.slice A' n c') n (xs.flatMap In.enc) ∧ w.heap.size ≤ B ∧ Ext w w' := by
  obtain ⟨i0, hi0, hz0, ha0, hb0⟩ := info_parts info43G
  have I0 := Lib.hid hz0
  obtain ⟨W0, hW0⟩ : ∃ W0, W0 = (w.alloc (.cells #[.slice (some ⟨b, o, none⟩) n ca] 24)).alloc (.cells #[.slice none 0 0] 24) := ⟨_, rfl⟩
  have K1 := Lib.hid (show Blk W0 (w.heap.size + 1) 24 #[.slice none 0 0] by rw [hW0]; exact Blk.newAt _ _ _ (by simp))
  have E0 := Lib.hid (show Ext w W0 by rw [hW0]; exact (Ext.alloc _ _).trans (Ext.alloc _ _))
  have HSZ := Lib.hid (show W0.heap.size = w.heap.size + 1 + 1 by rw [hW0]; simp)
  have HN := Lib.hid hn
  have HA := Lib.hid (hA.ext E0.out)
  clear hn hA hz0
  go_enter Try.func16, Try.ntmps16
  refine Hid.out ?_
  refine Lib.hid ?_
  go_wp2_with (at_builtin; rw [← hW0]; refine wpList_copyO rfl _ _ 22 rfl 43 i0 (.agg #[.int .i64 0, .int .i64 0, .int .i64 0, .int .i64 0]) 4 32 Try.underlying22 hi0 I0.out ha0 hb0 rfl (by decide) (by decide) In.enc (fun _ => rfl) In_one (by first | rfl | (rw [HSZ.out]; rfl)) ⟨b, o, none⟩ n ca xs rfl HN.out HA.out (by omega) ?_; intro A' c' V0 hro hx; have XR := Lib.hid hro; have XX := Lib.hid (E0.out.trans hx); have k0 := K1.out.ext hx; have f0 := k0.free 0; have x0 : V0.cell? ⟨w.heap.size + 1, 0, none⟩ = some (.slice none 0 0) := k0.cell 0; clear hro hx k0 hW0; refine Hid.out ?_)
  refine Lib.hid ?_
  go_wp2
  exact bodyPost_ret (v := .agg #[.slice A' n c']) (by simp [results, Try.f16, go_sem, x0]) rfl ⟨A', c', W0.heap.size, rfl, own_set (p := ⟨w.heap.size + 1, 0, none⟩) XR.out (own_not XR.out (by have := HSZ.out; dsimp only; omega)) _, by have := HSZ.out; omega, Ext.set XX.out (by dsimp only; omega) _⟩

end Go.Proofs.Ytmddnpagfgilcaa

namespace Go.Proofs.Ytmddnpagfgilcaa
open Go.RowKit Go.Shelf Go.Mem Go.RegInv
attribute [local go_sem] RelUpon_value RelUpon_skip RelUpon_enter BigFrame.eval_const BigFrame.eval_global BigFrame.eval_func

theorem refTraverseErr_long {A : Option Addr} {n ca : Nat} (hhi : 20 < n) (w : World) : Calls Try.prog 25 #[.agg #[.slice A n ca]] w fun e w' => e = .returned (.int .i64 8) ∧ Ext w w' := by
  have HT := Lib.hid (fun W => show Calls Try.prog 19 #[.agg #[.slice A n ca]] W fun e w' => e = .returned (.tuple #[.int .i64 0, .int .i64 8]) ∧ Ext W w' from by
    obtain ⟨W0, hW0⟩ : ∃ W0, W0 = W.alloc (.cells #[.slice A n ca] 24) := ⟨_, rfl⟩
    have K0 := Lib.hid (show Blk W0 W.heap.size 24 #[.slice A n ca] by rw [hW0]; exact Blk.new _ _ _)
    have E0 := Lib.hid (show Ext W W0 by rw [hW0]; exact Ext.alloc _ _)
    have y0 : W0.cell? ⟨W.heap.size, 0, none⟩ = some (.slice A n ca) := K0.out.cell 0
    have hlo2 : ¬ (n : Int) < 2 := by omega
    have hhi2 : (20 : Int) < n := by omega
    clear hhi
    go_enter Try.func19, Try.ntmps19
    go_wp2
    rw [← hW0]
    clear hW0
    go_wp2
    go_ret2
    exact ⟨rfl, E0.out⟩)
  clear hhi
  go_enter Try.func25, Try.ntmps25
  go_wp2_with (go_at_call 19; refine (HT.out _).mono ?_; rintro e W1 ⟨rfl, hx⟩; have X1 := Lib.hid ((Ext.alloc _ _).trans hx); clear hx)
  go_ret
  exact ⟨rfl, X1.out⟩

set_option maxRecDepth 100000 in
set_option maxHeartbeats 8000000 in
theorem enc_bad {A : Option Addr} {n ca : Nat} {B : Option Addr} {m cb : Nat} {w : World} (l0 l1 : Int) (z : Int) (hz : z ≠ 0) (HTE : Hid (∀ W, Ext w W → Calls Try.prog 25 #[.agg #[.slice A n ca]] W fun e w' => e = .returned (.int .i64 z) ∧ Ext W w')) : Calls Try.prog 4 #[.agg #[.slice A n ca], .slice B m cb, .agg #[.int .i64 l0, .int .i64 l1]] w fun e w' => e = .returned (.bool true) ∧ Ext w w' := by
  have hz2 : (z != 0) = true := by simp [hz]
  clear hz
  have P0 := Lib.hid (show Blk ((w.alloc (.cells #[.slice A n ca] 24)).alloc (.cells #[.int .i64 l0, .int .i64 l1] 52)) w.heap.size 24 #[.slice A n ca] from (Blk.new _ _ _).alloc _)
  have P1 := Lib.hid (show Blk ((w.alloc (.cells #[.slice A n ca] 24)).alloc (.cells #[.int .i64 l0, .int .i64 l1] 52)) (w.heap.size + 1) 52 #[.int .i64 l0, .int .i64 l1] from Blk.newAt _ _ _ (by simp))
  go_enter Try.func4, Try.ntmps4
  go_wp2_with (go_at_call 13; refine (awake_any _).mono ?_; rintro e W1 ⟨rfl, hx⟩; have X := Lib.hid (((Ext.alloc _ _).trans (Ext.alloc _ _)).trans hx); have K0 := Lib.hid (P0.out.ext hx); have K1 := Lib.hid (P1.out.ext hx); clear hx; refine Hid.out ?_)
  refine Lib.hid ?_
  clear P0 P1
  have y0 : W1.cell? ⟨w.heap.size, 0, none⟩ = some (.slice A n ca) := K0.out.cell 0
  have z0 : W1.cell? ⟨w.heap.size + 1, 0, none⟩ = some (.int .i64 l0) := K1.out.cell 0
  have z1 : W1.cell? ⟨w.heap.size + 1, 1, none⟩ = some (.int .i64 l1) := K1.out.cell 1
  go_wp2_with (go_at_call 25; refine (HTE.out _ X.out).mono ?_; rintro e W2 ⟨rfl, hx⟩; have X := Lib.hid (X.out.trans hx); have K0 := Lib.hid (K0.out.ext hx); have K1 := Lib.hid (K1.out.ext hx); clear hx y0 z0 z1; refine Hid.out ?_)
  refine Lib.hid ?_
  have y0 : W2.cell? ⟨w.heap.size, 0, none⟩ = some (.slice A n ca) := K0.out.cell 0
  have z0 : W2.cell? ⟨w.heap.size + 1, 0, none⟩ = some (.int .i64 l0) := K1.out.cell 0
  have z1 : W2.cell? ⟨w.heap.size + 1, 1, none⟩ = some (.int .i64 l1) := K1.out.cell 1
  go_wp2
  go_ret
  exact ⟨rfl, X.out⟩
set_option maxRecDepth 100000 in
set_option maxHeartbeats 8000000 in
theorem enc_len {A : Option Addr} {n ca : Nat} {B : Option Addr} {m cb : Nat} {w : World} (l0 l1 : Int) (hnm : m ≠ n) (HTE : Hid (∀ W, Ext w W → Calls Try.prog 25 #[.agg #[.slice A n ca]] W fun e w' => e = .returned (.int .i64 0) ∧ Ext W w')) : Calls Try.prog 4 #[.agg #[.slice A n ca], .slice B m cb, .agg #[.int .i64 l0, .int .i64 l1]] w fun e w' => e = .returned (.bool true) ∧ Ext w w' := by
  have hz2 : ((m : Int) != (n : Int)) = true := by simp; omega
  have hz3 : (m : Int) ≠ (n : Int) := by omega
  clear hnm
  have P0 := Lib.hid (show Blk ((w.alloc (.cells #[.slice A n ca] 24)).alloc (.cells #[.int .i64 l0, .int .i64 l1] 52)) w.heap.size 24 #[.slice A n ca] from (Blk.new _ _ _).alloc _)
  have P1 := Lib.hid (show Blk ((w.alloc (.cells #[.slice A n ca] 24)).alloc (.cells #[.int .i64 l0, .int .i64 l1] 52)) (w.heap.size + 1) 52 #[.int .i64 l0, .int .i64 l1] from Blk.newAt _ _ _ (by simp))
  go_enter Try.func4, Try.ntmps4
  go_wp2_with (go_at_call 13; refine (awake_any _).mono ?_; rintro e W1 ⟨rfl, hx⟩; have X := Lib.hid (((Ext.alloc _ _).trans (Ext.alloc _ _)).trans hx); have K0 := Lib.hid (P0.out.ext hx); have K1 := Lib.hid (P1.out.ext hx); clear hx; refine Hid.out ?_)
  refine Lib.hid ?_
  clear P0 P1
  have y0 : W1.cell? ⟨w.heap.size, 0, none⟩ = some (.slice A n ca) := K0.out.cell 0
  have z0 : W1.cell? ⟨w.heap.size + 1, 0, none⟩ = some (.int .i64 l0) := K1.out.cell 0
  have z1 : W1.cell? ⟨w.heap.size + 1, 1, none⟩ = some (.int .i64 l1) := K1.out.cell 1
  go_wp2_with (go_at_call 25; refine (HTE.out _ X.out).mono ?_; rintro e W2 ⟨rfl, hx⟩; have X := Lib.hid (X.out.trans hx); have K0 := Lib.hid (K0.out.ext hx); have K1 := Lib.hid (K1.out.ext hx); clear hx y0 z0 z1; refine Hid.out ?_)
  refine Lib.hid ?_
  have y0 : W2.cell? ⟨w.heap.size, 0, none⟩ = some (.slice A n ca) := K0.out.cell 0
  have z0 : W2.cell? ⟨w.heap.size + 1, 0, none⟩ = some (.int .i64 l0) := K1.out.cell 0
  have z1 : W2.cell? ⟨w.heap.size + 1, 1, none⟩ = some (.int .i64 l1) := K1.out.cell 1
  go_wp2
  go_ret
  exact ⟨rfl, X.out⟩
set_option maxRecDepth 100000 in
set_option maxHeartbeats 8000000 in
theorem enc_lim0 {A : Option Addr} {n ca : Nat} {B : Option Addr} {m cb : Nat} {w : World} (l0 l1 : Int) (hnm : m = n) (HTE : Hid (∀ W, Ext w W → Calls Try.prog 25 #[.agg #[.slice A n ca]] W fun e w' => e = .returned (.int .i64 0) ∧ Ext W w')) (H0 : Hid (∀ W, Calls Try.prog 23 #[.int .i64 l0] W fun e w' => e = .returned (.int .i64 2) ∧ W = w')) : Calls Try.prog 4 #[.agg #[.slice A n ca], .slice B m cb, .agg #[.int .i64 l0, .int .i64 l1]] w fun e w' => e = .returned (.bool true) ∧ Ext w w' := by
  subst hnm
  have P0 := Lib.hid (show Blk ((w.alloc (.cells #[.slice A m ca] 24)).alloc (.cells #[.int .i64 l0, .int .i64 l1] 52)) w.heap.size 24 #[.slice A m ca] from (Blk.new _ _ _).alloc _)
  have P1 := Lib.hid (show Blk ((w.alloc (.cells #[.slice A m ca] 24)).alloc (.cells #[.int .i64 l0, .int .i64 l1] 52)) (w.heap.size + 1) 52 #[.int .i64 l0, .int .i64 l1] from Blk.newAt _ _ _ (by simp))
  go_enter Try.func4, Try.ntmps4
  go_wp2_with (go_at_call 13; refine (awake_any _).mono ?_; rintro e W1 ⟨rfl, hx⟩; have X := Lib.hid (((Ext.alloc _ _).trans (Ext.alloc _ _)).trans hx); have K0 := Lib.hid (P0.out.ext hx); have K1 := Lib.hid (P1.out.ext hx); clear hx; refine Hid.out ?_)
  refine Lib.hid ?_
  clear P0 P1
  have y0 : W1.cell? ⟨w.heap.size, 0, none⟩ = some (.slice A m ca) := K0.out.cell 0
  have z0 : W1.cell? ⟨w.heap.size + 1, 0, none⟩ = some (.int .i64 l0) := K1.out.cell 0
  have z1 : W1.cell? ⟨w.heap.size + 1, 1, none⟩ = some (.int .i64 l1) := K1.out.cell 1
  go_wp2_with (go_at_call 25; refine (HTE.out _ X.out).mono ?_; rintro e W2 ⟨rfl, hx⟩; have X := Lib.hid (X.out.trans hx); have K0 := Lib.hid (K0.out.ext hx); have K1 := Lib.hid (K1.out.ext hx); clear hx y0 z0 z1; refine Hid.out ?_)
  refine Lib.hid ?_
  have y0 : W2.cell? ⟨w.heap.size, 0, none⟩ = some (.slice A m ca) := K0.out.cell 0
  have z0 : W2.cell? ⟨w.heap.size + 1, 0, none⟩ = some (.int .i64 l0) := K1.out.cell 0
  have z1 : W2.cell? ⟨w.heap.size + 1, 1, none⟩ = some (.int .i64 l1) := K1.out.cell 1
  go_wp2_with (go_at_call 23; refine (H0.out _).mono ?_; rintro e w2 ⟨rfl, rfl⟩; refine Hid.out ?_)
  refine Lib.hid ?_
  go_wp2
  go_ret
  exact ⟨rfl, X.out⟩
set_option maxRecDepth 100000 in
set_option maxHeartbeats 8000000 in
theorem enc_lim1 {A : Option Addr} {n ca : Nat} {B : Option Addr} {m cb : Nat} {w : World} (l0 l1 : Int) (hnm : m = n) (HTE : Hid (∀ W, Ext w W → Calls Try.prog 25 #[.agg #[.slice A n ca]] W fun e w' => e = .returned (.int .i64 0) ∧ Ext W w')) (H0 : Hid (∀ W, Calls Try.prog 23 #[.int .i64 l0] W fun e w' => e = .returned (.int .i64 0) ∧ W = w')) (H1 : Hid (∀ W, Calls Try.prog 23 #[.int .i64 l1] W fun e w' => e = .returned (.int .i64 2) ∧ W = w')) : Calls Try.prog 4 #[.agg #[.slice A n ca], .slice B m cb, .agg #[.int .i64 l0, .int .i64 l1]] w fun e w' => e = .returned (.bool true) ∧ Ext w w' := by
  subst hnm
  have P0 := Lib.hid (show Blk ((w.alloc (.cells #[.slice A m ca] 24)).alloc (.cells #[.int .i64 l0, .int .i64 l1] 52)) w.heap.size 24 #[.slice A m ca] from (Blk.new _ _ _).alloc _)
  have P1 := Lib.hid (show Blk ((w.alloc (.cells #[.slice A m ca] 24)).alloc (.cells #[.int .i64 l0, .int .i64 l1] 52)) (w.heap.size + 1) 52 #[.int .i64 l0, .int .i64 l1] from Blk.newAt _ _ _ (by simp))
  go_enter Try.func4, Try.ntmps4
  go_wp2_with (go_at_call 13; refine (awake_any _).mono ?_; rintro e W1 ⟨rfl, hx⟩; have X := Lib.hid (((Ext.alloc _ _).trans (Ext.alloc _ _)).trans hx); have K0 := Lib.hid (P0.out.ext hx); have K1 := Lib.hid (P1.out.ext hx); clear hx; refine Hid.out ?_)
  refine Lib.hid ?_
  clear P0 P1
  have y0 : W1.cell? ⟨w.heap.size, 0, none⟩ = some (.slice A m ca) := K0.out.cell 0
  have z0 : W1.cell? ⟨w.heap.size + 1, 0, none⟩ = some (.int .i64 l0) := K1.out.cell 0
  have z1 : W1.cell? ⟨w.heap.size + 1, 1, none⟩ = some (.int .i64 l1) := K1.out.cell 1
  go_wp2_with (go_at_call 25; refine (HTE.out _ X.out).mono ?_; rintro e W2 ⟨rfl, hx⟩; have X := Lib.hid (X.out.trans hx); have K0 := Lib.hid (K0.out.ext hx); have K1 := Lib.hid (K1.out.ext hx); clear hx y0 z0 z1; refine Hid.out ?_)
  refine Lib.hid ?_
  have y0 : W2.cell? ⟨w.heap.size, 0, none⟩ = some (.slice A m ca) := K0.out.cell 0
  have z0 : W2.cell? ⟨w.heap.size + 1, 0, none⟩ = some (.int .i64 l0) := K1.out.cell 0
  have z1 : W2.cell? ⟨w.heap.size + 1, 1, none⟩ = some (.int .i64 l1) := K1.out.cell 1
  go_wp2_with (go_at_call 23; refine (H0.out _).mono ?_; rintro e w2 ⟨rfl, rfl⟩; refine Hid.out ?_)
  refine Lib.hid ?_
  go_wp2_with (go_at_call 23; refine (H1.out _).mono ?_; rintro e w2 ⟨rfl, rfl⟩; refine Hid.out ?_)
  refine Lib.hid ?_
  go_wp2
  go_ret
  exact ⟨rfl, X.out⟩
set_option maxRecDepth 100000 in
set_option maxHeartbeats 8000000 in
theorem enc_ord {A : Option Addr} {n ca : Nat} {B : Option Addr} {m cb : Nat} {w : World} (l0 l1 : Int) (hnm : m = n) (hl : l1 < l0) (HTE : Hid (∀ W, Ext w W → Calls Try.prog 25 #[.agg #[.slice A n ca]] W fun e w' => e = .returned (.int .i64 0) ∧ Ext W w')) (H0 : Hid (∀ W, Calls Try.prog 23 #[.int .i64 l0] W fun e w' => e = .returned (.int .i64 0) ∧ W = w')) (H1 : Hid (∀ W, Calls Try.prog 23 #[.int .i64 l1] W fun e w' => e = .returned (.int .i64 0) ∧ W = w')) : Calls Try.prog 4 #[.agg #[.slice A n ca], .slice B m cb, .agg #[.int .i64 l0, .int .i64 l1]] w fun e w' => e = .returned (.bool true) ∧ Ext w w' := by
  subst hnm
  have hl2 : ¬ l0 ≤ l1 := by omega
  have P0 := Lib.hid (show Blk ((w.alloc (.cells #[.slice A m ca] 24)).alloc (.cells #[.int .i64 l0, .int .i64 l1] 52)) w.heap.size 24 #[.slice A m ca] from (Blk.new _ _ _).alloc _)
  have P1 := Lib.hid (show Blk ((w.alloc (.cells #[.slice A m ca] 24)).alloc (.cells #[.int .i64 l0, .int .i64 l1] 52)) (w.heap.size + 1) 52 #[.int .i64 l0, .int .i64 l1] from Blk.newAt _ _ _ (by simp))
  go_enter Try.func4, Try.ntmps4
  go_wp2_with (go_at_call 13; refine (awake_any _).mono ?_; rintro e W1 ⟨rfl, hx⟩; have X := Lib.hid (((Ext.alloc _ _).trans (Ext.alloc _ _)).trans hx); have K0 := Lib.hid (P0.out.ext hx); have K1 := Lib.hid (P1.out.ext hx); clear hx; refine Hid.out ?_)
  refine Lib.hid ?_
  clear P0 P1
  have y0 : W1.cell? ⟨w.heap.size, 0, none⟩ = some (.slice A m ca) := K0.out.cell 0
  have z0 : W1.cell? ⟨w.heap.size + 1, 0, none⟩ = some (.int .i64 l0) := K1.out.cell 0
  have z1 : W1.cell? ⟨w.heap.size + 1, 1, none⟩ = some (.int .i64 l1) := K1.out.cell 1
  go_wp2_with (go_at_call 25; refine (HTE.out _ X.out).mono ?_; rintro e W2 ⟨rfl, hx⟩; have X := Lib.hid (X.out.trans hx); have K0 := Lib.hid (K0.out.ext hx); have K1 := Lib.hid (K1.out.ext hx); clear hx y0 z0 z1; refine Hid.out ?_)
  refine Lib.hid ?_
  have y0 : W2.cell? ⟨w.heap.size, 0, none⟩ = some (.slice A m ca) := K0.out.cell 0
  have z0 : W2.cell? ⟨w.heap.size + 1, 0, none⟩ = some (.int .i64 l0) := K1.out.cell 0
  have z1 : W2.cell? ⟨w.heap.size + 1, 1, none⟩ = some (.int .i64 l1) := K1.out.cell 1
  go_wp2_with (go_at_call 23; refine (H0.out _).mono ?_; rintro e w2 ⟨rfl, rfl⟩; refine Hid.out ?_)
  refine Lib.hid ?_
  go_wp2_with (go_at_call 23; refine (H1.out _).mono ?_; rintro e w2 ⟨rfl, rfl⟩; refine Hid.out ?_)
  refine Lib.hid ?_
  go_wp2
  go_ret
  exact ⟨rfl, X.out⟩

end Go.Proofs.Ytmddnpagfgilcaa
