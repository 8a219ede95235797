/- A drawn region whose stores wait for all operations but some late ones, which read slots alone; the blocks that it makes are apart. -/
import Derived.Test.YtjdilmmpdlcimaaGreatMA
namespace Go.RegInv

variable {P : Program} {Le : World → World → Prop} {F : World → Prop} {Ψ : Tmp → Value → World → Prop}

/-- What kind of operation: any, one that makes a block, one that may come late, a store. -/
inductive Kd where
  | op
  | new
  | late (v : Value)
  | store

def Kd.isLate : Kd → Bool
  | .late _ => true
  | _ => false
def Kd.isStore : Kd → Bool
  | .store => true
  | _ => false
def isStoreOp (o : Oper) : Bool := match o.op with
  | .store _ _ _ => true
  | _ => false

/-- Stores have no slot, wait for all that is neither late nor a store, and read no late slot; what is late has a slot. -/
def freeB (ks : List Kd) (ops : Array Oper) : Bool := (List.range ops.size).all fun i => match ops[i]? with
  | none => true
  | some o => match ks[i]? with
    | some .store => isStoreOp o && o.dst.isNone && (List.range ops.size).all fun j => match ks[j]? with
      | some .store => true
      | some (.late _) => (match (ops[j]?).bind (·.dst) with
        | some t => !(o.looksAt ops).contains t
        | none => true)
      | _ => reachB ops ops.size i j
    | some (.late _) => o.dst.isSome
    | some _ => true
    | none => false

def AsksL (P : Program) (Le : World → World → Prop) (F : World → Prop) (ds : List (Option Tmp)) (φs : List (Value → World → Prop)) (a0 : Act) : List Kd → List Oper → List (Value → World → Prop) → List (List Tmp) → Prop
  | .op :: ks, o :: l, φ :: rest, t :: ts => (∀ (ρ : Operand → Value) (W : World), Std ρ → F W → slotsAt ds φs a0 ρ W t → RelUpon P Le φ W ((execOp ρ o).run P W)) ∧ AsksL P Le F ds φs a0 ks l rest ts
  | .new :: ks, o :: l, φ :: rest, t :: ts => (∀ (ρ : Operand → Value) (W : World), Std ρ → F W → slotsAt ds φs a0 ρ W t → ∃ W', (execOp ρ o).run P W = .ok (.value (.pointer (some ⟨W.heap.size, 0, none⟩))) W' ∧ W.heap.size < W'.heap.size ∧ Le W W' ∧ φ (.pointer (some ⟨W.heap.size, 0, none⟩)) W') ∧ AsksL P Le F ds φs a0 ks l rest ts
  | .late v :: ks, o :: l, φ :: rest, t :: ts => (φ = (fun u _ => u = v) ∧ ∀ (ρ : Operand → Value) (W : World), Std ρ → F W → slotsAt ds φs a0 ρ W t → ∀ W', (execOp ρ o).run P W' = .ok (.value v) W') ∧ AsksL P Le F ds φs a0 ks l rest ts
  | .store :: ks, _ :: l, _ :: rest, _ :: ts => AsksL P Le F ds φs a0 ks l rest ts
  | [], [], _, _ => True
  | _, _, _, _ => False

def AskK (P : Program) (Le : World → World → Prop) (F : World → Prop) (ds : List (Option Tmp)) (φs : List (Value → World → Prop)) (a0 : Act) (o : Oper) (φ : Value → World → Prop) (t : List Tmp) : Kd → Prop
  | .op => ∀ (ρ : Operand → Value) (W : World), Std ρ → F W → slotsAt ds φs a0 ρ W t → RelUpon P Le φ W ((execOp ρ o).run P W)
  | .new => ∀ (ρ : Operand → Value) (W : World), Std ρ → F W → slotsAt ds φs a0 ρ W t → ∃ W', (execOp ρ o).run P W = .ok (.value (.pointer (some ⟨W.heap.size, 0, none⟩))) W' ∧ W.heap.size < W'.heap.size ∧ Le W W' ∧ φ (.pointer (some ⟨W.heap.size, 0, none⟩)) W'
  | .late v => φ = (fun u _ => u = v) ∧ ∀ (ρ : Operand → Value) (W : World), Std ρ → F W → slotsAt ds φs a0 ρ W t → ∀ W', (execOp ρ o).run P W' = .ok (.value v) W'
  | .store => True

theorem asksL_at {ds : List (Option Tmp)} {φs : List (Value → World → Prop)} {a0 : Act} : ∀ {ks : List Kd} {l : List Oper} {rest : List (Value → World → Prop)} {ts : List (List Tmp)}, AsksL P Le F ds φs a0 ks l rest ts → ∀ {i : Nat} {o : Oper}, l[i]? = some o →
    ∃ k φ t, ks[i]? = some k ∧ rest[i]? = some φ ∧ ts[i]? = some t ∧ AskK P Le F ds φs a0 o φ t k
  | .op :: _, o' :: _, φ :: _, t :: _, h, 0, o, hi => by
    obtain rfl : o' = o := by simpa using hi
    exact ⟨_, φ, t, rfl, rfl, rfl, h.1⟩
  | .new :: _, o' :: _, φ :: _, t :: _, h, 0, o, hi => by
    obtain rfl : o' = o := by simpa using hi
    exact ⟨_, φ, t, rfl, rfl, rfl, h.1⟩
  | .late v :: _, o' :: _, φ :: _, t :: _, h, 0, o, hi => by
    obtain rfl : o' = o := by simpa using hi
    exact ⟨_, φ, t, rfl, rfl, rfl, h.1⟩
  | .store :: _, o' :: _, φ :: _, t :: _, h, 0, o, hi => ⟨_, φ, t, rfl, rfl, rfl, trivial⟩
  | .op :: _, _ :: _, _ :: _, _ :: _, h, i + 1, o, hi => by
    obtain ⟨k, φ, t, h1, h2, h3, h4⟩ := asksL_at h.2 (i := i) (o := o) (by simpa using hi)
    exact ⟨k, φ, t, by simpa using h1, by simpa using h2, by simpa using h3, h4⟩
  | .new :: _, _ :: _, _ :: _, _ :: _, h, i + 1, o, hi => by
    obtain ⟨k, φ, t, h1, h2, h3, h4⟩ := asksL_at h.2 (i := i) (o := o) (by simpa using hi)
    exact ⟨k, φ, t, by simpa using h1, by simpa using h2, by simpa using h3, h4⟩
  | .late _ :: _, _ :: _, _ :: _, _ :: _, h, i + 1, o, hi => by
    obtain ⟨k, φ, t, h1, h2, h3, h4⟩ := asksL_at h.2 (i := i) (o := o) (by simpa using hi)
    exact ⟨k, φ, t, by simpa using h1, by simpa using h2, by simpa using h3, h4⟩
  | .store :: ks, _ :: l, _ :: rest, _ :: ts, h, i + 1, o, hi => by
    obtain ⟨k, φ, t, h1, h2, h3, h4⟩ := asksL_at (ks := ks) (l := l) (rest := rest) (ts := ts) h (i := i) (o := o) (by simpa using hi)
    exact ⟨k, φ, t, by simpa using h1, by simpa using h2, by simpa using h3, h4⟩
  | [], [], _, _, _, _, _, hi => by simp at hi
  | [], _ :: _, _, _, h, _, _, _ => h.elim
  | .op :: _, [], _, _, h, _, _, hi => by simp at hi
  | .new :: _, [], _, _, h, _, _, hi => by simp at hi
  | .late _ :: _, [], _, _, h, _, _, hi => by simp at hi
  | .store :: _, [], _, _, h, _, _, hi => by simp at hi
  | .op :: _, _ :: _, [], _, h, _, _, _ => h.elim
  | .new :: _, _ :: _, [], _, h, _, _, _ => h.elim
  | .late _ :: _, _ :: _, [], _, h, _, _, _ => h.elim
  | .store :: _, _ :: _, [], _, h, _, _, _ => h.elim
  | .op :: _, _ :: _, _ :: _, [], h, _, _, _ => h.elim
  | .new :: _, _ :: _, _ :: _, [], h, _, _, _ => h.elim
  | .late _ :: _, _ :: _, _ :: _, [], h, _, _, _ => h.elim
  | .store :: _, _ :: _, _ :: _, [], h, _, _, _ => h.elim

/-- The stores, one by one, each from a known world to a known one. -/
def StoresRun (P : Program) (ρ : Operand → Value) (K : World → Prop) : List Oper → World → Prop
  | [], W => K W
  | s :: τ, W => ∃ W', (execOp ρ s).run P W = .ok .skip W' ∧ StoresRun P ρ K τ W'
theorem StoresRun.mono {ρ : Operand → Value} {K K' : World → Prop} (h : ∀ W, K W → K' W) : ∀ {τ : List Oper} {W : World}, StoresRun P ρ K τ W → StoresRun P ρ K' τ W
  | [], _, hk => h _ hk
  | _ :: _, _, ⟨W', h1, h2⟩ => ⟨W', h1, h2.mono h⟩

theorem store_congr {ops : Array Oper} {o : Oper} (ho : isStoreOp o = true) {ρ ρ' : Operand → Value} (k : Std ρ) (k' : Std ρ') (h : ∀ t ∈ o.looksAt ops, ρ (.tmp t) = ρ' (.tmp t)) : execOp ρ o = execOp ρ' o := by
  unfold isStoreOp at ho
  split at ho
  · rename_i T a x hop
    have hx : ∀ y, y = a ∨ y = x → ρ y = ρ' y := by
      intro y hy
      cases y with
      | tmp t =>
        refine h t ?_
        unfold Oper.looksAt
        rw [hop]
        simp only [Op.operands]
        refine List.mem_append_left _ (List.mem_filterMap.2 ⟨.tmp t, ?_, rfl⟩)
        rcases hy with hy | hy <;> simp [hy]
      | const v => rw [k.const, k'.const]
      | global g => rw [k.global, k'.global]
      | func f => rw [k.func, k'.func]
    simp only [execOp, hop, hx a (.inl rfl), hx x (.inr rfl)]
  · cases ho

theorem fin_congr {a0 : Act} {ds : List Tmp} {f g : Tmp → Value} (h : ∀ t ∈ ds, f t = g t) : fin a0 ds f = fin a0 ds g := by
  unfold fin
  congr 1
  have : ∀ (ds : List Tmp), (∀ t ∈ ds, f t = g t) → ∀ m : Array Value, ds.foldl (fun m t => m.setIfInBounds t (f t)) m = ds.foldl (fun m t => m.setIfInBounds t (g t)) m := by
    intro ds
    induction ds with
    | nil => intro _ _; rfl
    | cons d ds ih =>
      intro h m
      rw [List.foldl_cons, List.foldl_cons, h d (by simp)]
      exact ih (fun t ht => h t (by simp [ht])) _
  exact this ds h _

/-- What a slot reads as at the end. -/
def atEnd (ds : List Tmp) (a0 : Act) (f : Tmp → Value) (t : Tmp) : Value := bif ds.contains t then f t else a0.eval (.tmp t)

theorem perm_one {α : Type} {o : α} {τ : List α} (h : τ.Perm [o]) : τ = [o] := List.perm_singleton.1 h
theorem perm_two {α : Type} {x y : α} {τ : List α} (h : τ.Perm [x, y]) : τ = [x, y] ∨ τ = [y, x] := by
  have hl := h.length_eq
  rcases τ with _ | ⟨u, _ | ⟨v, _ | ⟨w, τ⟩⟩⟩
  · simp at hl
  · simp at hl
  rotate_left
  · simp at hl
  have hu : u ∈ [x, y] := h.mem_iff.1 (by simp)
  rcases List.mem_cons.1 hu with rfl | hu
  · have := (List.perm_cons u).1 h
    rw [List.perm_singleton.1 this]; exact .inl rfl
  · obtain rfl : u = y := by simpa using hu
    have h2 : [u, v].Perm [u, x] := h.trans (List.Perm.swap _ _ _)
    have := (List.perm_cons u).1 h2
    rw [List.perm_singleton.1 this]; exact .inr rfl

/-- An operation that has no guard, whatever it comes to. -/
theorem op_out {full : Array Oper} {Q : Exit → Act → World → Prop} {K : Act → World → Prop} {i : Nat} {o : Oper} {a : Act} {W : World} {φ : Value → World → Prop} (hfull : full[i]? = some o) (hgd : o.guard = none)
    (h1 : RelUpon P Le φ W ((execOp a.eval o).run P W)) (hK : ∀ v W', Le W W' → φ v W' → K (a.put o.dst v) W') : wpOp P full Q i K a W := by
  unfold wpOp
  simp only [hfull]
  have hw : Region.wanted o (yielded full a.tmps) = true := by simp [Region.wanted, hgd]
  rw [if_pos hw]
  refine .inl ?_
  unfold Oper.wp
  generalize (execOp a.eval o).run P W = r at h1
  cases r with
  | ok nx W' =>
    cases nx <;> simp only [RelUpon] at h1 <;> simp only [Oper.upon]
    case value v => exact hK _ _ h1.1 h1.2
    case skip => exact hK _ _ h1.1 h1.2
    case enter f args =>
      refine Calls.mono h1 ?_
      rintro e W'' ⟨v, rfl, hle, hv⟩
      exact hK _ _ hle hv
  | halt x W' => simp only [RelUpon] at h1

/-- The operations at the places that are not done. -/
def opsAt (ops : Array Oper) (r : List Nat) : List Oper := r.filterMap (ops[·]?)

/-- Behind the first store. -/
theorem free_after {ops : Array Oper} {a0 : Act} {Q : Exit → Act → World → Prop} {ks : List Kd} {f : Tmp → Value} {rd : List Tmp} (hB : depsB a0.tmps.size ops = true) (hG : ∀ (i : Nat) (o : Oper), ops[i]? = some o → o.guard = none)
    (hS : ∀ (i : Nat) (o : Oper), ops[i]? = some o → ks[i]? = some .store → isStoreOp o = true ∧ o.dst = none ∧ (∀ t ∈ o.looksAt ops, t ∈ rd))
    (hR : ∀ t ∈ rd, ∀ (j : Nat) (oj : Oper), ops[j]? = some oj → oj.dst = some t → ∀ v, ks[j]? ≠ some (.late v))
    (hV : ∀ (i : Nat) (o : Oper), ops[i]? = some o → ks[i]? ≠ none)
    (hL : ∀ (i : Nat) (o : Oper) (v : Value), ops[i]? = some o → ks[i]? = some (.late v) → ∃ t, o.dst = some t ∧ f t = v ∧ ∀ (ρ : Operand → Value), Std ρ → (∀ u ∈ o.looksAt ops, ρ (.tmp u) = atEnd (dsts ops) a0 f u) → ∀ W', (execOp ρ o).run P W' = .ok (.value v) W') :
    ∀ (fuel : Nat) (listed : Array Bool) (a : Act) (W : World) (r : List Nat), listed.size = ops.size → unl listed ops.size = fuel →
      (∀ (j : Nat) (k : Kd), j < ops.size → ks[j]? = some k → k.isLate = false → k.isStore = false → listed.getD j false = true) →
      r.Nodup → (∀ j, j ∈ r ↔ j < ops.size ∧ ks[j]? = some .store ∧ listed.getD j false = false) →
      a.defers = a0.defers → a.tmps.size = a0.tmps.size →
      (∀ (i : Nat) (o : Oper) (t : Tmp), ops[i]? = some o → o.dst = some t → listed.getD i false = true → a.eval (.tmp t) = f t) →
      (∀ t, (∀ (i : Nat) (o : Oper), ops[i]? = some o → o.dst = some t → listed.getD i false = false) → a.eval (.tmp t) = a0.eval (.tmp t)) →
      (∀ σ : List Nat, σ.Perm r → ∀ (ρ : Operand → Value), Std ρ → (∀ t ∈ rd, ρ (.tmp t) = atEnd (dsts ops) a0 f t) → StoresRun P ρ (fun W' => Q .normal (fin a0 (dsts ops) f) W') (opsAt ops σ) W) →
      wpAny P .any ops Q fuel listed a W := by
  intro fuel
  induction fuel with
  | zero =>
    intro listed a W r hls hu hE hn hr hdf hsz hdone hother hst
    have hall := unl_zero hu
    have hr0 : r = [] := by
      rw [List.eq_nil_iff_forall_not_mem]
      intro j hj
      obtain ⟨h1, h2, h3⟩ := (hr j).1 hj
      have h4 := hall j h1
      have h5 : j < listed.size := by omega
      simp [h5] at h3 h4
      rw [h3] at h4; cases h4
    subst hr0
    have hready : Region.ready .any ops listed = [] := by
      rw [List.eq_nil_iff_forall_not_mem]
      intro j hj
      obtain ⟨h1, o, ho, _⟩ := mem_ready.1 hj
      rw [hall j (by have := (Array.getElem?_eq_some_iff.1 ho).1; omega)] at h1
      cases h1
    refine ⟨hready, ?_⟩
    have hd : ∀ t ∈ dsts ops, a.eval (.tmp t) = f t := fun t ht => by
      obtain ⟨i, o, hi, hdt⟩ := mem_dsts.1 ht
      refine hdone i o t hi hdt ?_
      have h1 := hall i (Array.getElem?_eq_some_iff.1 hi).1
      have h2 : i < listed.size := by have := (Array.getElem?_eq_some_iff.1 hi).1; omega
      simp [h2] at h1 ⊢
      exact h1
    rw [act_fin (a := a) (a0 := a0) (ds := dsts ops) hdf hsz (fun t ht => hother t fun i o hi hdt => absurd (mem_dsts.2 ⟨i, o, hi, hdt⟩) ht), fin_congr hd]
    exact hst [] (List.Perm.refl _) a.eval (Std.eval a) (fun t ht => by
      unfold atEnd
      cases hc : (dsts ops).contains t
      · simp only [cond_false]
        exact hother t fun i o hi hdt => absurd (mem_dsts.2 ⟨i, o, hi, hdt⟩) (by simpa using hc)
      · simp only [cond_true]
        exact hd t (by simpa using hc))
  | succ fuel ih =>
    intro listed a W r hls hu hE hn hr hdf hsz hdone hother hst
    refine ⟨fun hready => ?_, fun i hi => ?_⟩
    · exfalso
      have h1 := all_listed hB hls hready
      have hz : ∀ n, n ≤ ops.size → unl listed n = 0 := by
        intro n
        induction n with
        | zero => intro _; rfl
        | succ n ihn =>
          intro hn
          unfold unl
          have h2 := h1 n (by omega)
          have h3 : n < listed.size := by omega
          have h4 : listed.getD n true = true := by simp [h3] at h2 ⊢; exact h2
          rw [ihn (by omega), h4]; simp
      have := hz _ (Nat.le_refl _)
      omega
    · obtain ⟨hun, o, ho, hall⟩ := mem_ready.1 hi
      have hlt : i < ops.size := (Array.getElem?_eq_some_iff.1 ho).1
      have hunf : listed.getD i false = false := by
        have : i < listed.size := by omega
        simp [this] at hun ⊢
        exact hun
      obtain ⟨hd1, hd2, hd3⟩ := depsB_at hB ho
      have reads : ∀ u ∈ o.looksAt ops, a.eval (.tmp u) = atEnd (dsts ops) a0 f u := fun u hu' => by
        unfold atEnd
        cases hc : (dsts ops).contains u
        · simp only [cond_false]
          exact hother u fun j oj hj hdt => absurd (mem_dsts.2 ⟨j, oj, hj, hdt⟩) (by simpa using hc)
        · simp only [cond_true]
          obtain ⟨j, oj, hj, hdj⟩ := mem_dsts.1 (by simpa using hc)
          obtain ⟨e, he, hb, hon⟩ := hd2 u hu' j oj hj hdj
          have h1 := hall e he hb
          rw [hon] at h1
          exact hdone j oj u hj hdj h1
      have hu2 : unl (listed.setIfInBounds i true) ops.size = fuel := by
        have := unl_set (l := listed) (i := i) hun (by omega) hlt
        omega
      have hset : ∀ j, j ≠ i → (listed.setIfInBounds i true).getD j false = listed.getD j false := fun j hj => getD_set_ne false (fun e => hj e.symm)
      have hseti : (listed.setIfInBounds i true).getD i false = true := by
        have : i < listed.size := by omega
        simp [this]
      cases hk : ks[i]? with
      | none => exact absurd hk (hV i o ho)
      | some k =>
        cases k with
        | op =>
          have := hE i _ hlt hk rfl rfl
          rw [hunf] at this; cases this
        | new =>
          have := hE i _ hlt hk rfl rfl
          rw [hunf] at this; cases this
        | late v =>
          obtain ⟨t, hdt, hft, hrun⟩ := hL i o v ho hk
          obtain ⟨htn, huniq⟩ := hd1 t hdt
          have hta : t < a.tmps.size := by rw [hsz]; exact htn
          refine op_out (Le := fun x y => x = y) (φ := fun u _ => u = v) ho (hG i o ho) ?_ (fun u W' hW hu' => ?_)
          · rw [hrun a.eval (Std.eval a) reads W]
            exact ⟨rfl, rfl⟩
          · subst hW hu'
            rw [hdt]
            refine ih _ _ _ r (by simpa using hls) hu2 (fun j k' h1 h2 h3 h4 => ?_) hn (fun j => ?_) (by simpa [Act.put] using hdf) (by simp [Act.put, hsz]) (fun j oj u hj hdj hl => ?_) (fun u hu' => ?_) hst
            · have h5 : j ≠ i := by
                rintro rfl
                rw [hk] at h2
                obtain rfl := Option.some.inj h2
                cases h3
              rw [hset j h5]; exact hE j k' h1 h2 h3 h4
            · rw [hr j]
              constructor
              · rintro ⟨h1, h2, h3⟩
                have h5 : j ≠ i := by
                  rintro rfl
                  rw [hk] at h2; cases h2
                exact ⟨h1, h2, by rw [hset j h5]; exact h3⟩
              · rintro ⟨h1, h2, h3⟩
                have h5 : j ≠ i := by
                  rintro rfl
                  rw [hk] at h2; cases h2
                exact ⟨h1, h2, by rw [← hset j h5]; exact h3⟩
            · by_cases h5 : j = i
              · subst h5
                rw [ho] at hj
                obtain rfl := Option.some.inj hj
                rw [hdt] at hdj
                obtain rfl := Option.some.inj hdj
                rw [eval_put_same a hta, hft]
              · have h6 : t ≠ u := by
                  rintro rfl
                  exact h5 (huniq j oj hj hdj)
                rw [eval_put_other a h6]
                rw [hset j h5] at hl
                exact hdone j oj u hj hdj hl
            · have h6 : t ≠ u := by
                rintro rfl
                have := hu' i o ho hdt
                rw [hseti] at this; cases this
              rw [eval_put_other a h6]
              refine hother u fun j oj hj hdj => ?_
              have h5 : j ≠ i := by
                rintro rfl
                rw [ho] at hj
                obtain rfl := Option.some.inj hj
                rw [hdt] at hdj
                exact h6 (Option.some.inj hdj)
              rw [← hset j h5]; exact hu' j oj hj hdj
        | store =>
          obtain ⟨hso, hsd, hsr⟩ := hS i o ho hk
          have hir : i ∈ r := (hr i).2 ⟨hlt, hk, hunf⟩
          have hrd : ∀ t ∈ rd, a.eval (.tmp t) = atEnd (dsts ops) a0 f t := fun t ht => by
            unfold atEnd
            cases hc : (dsts ops).contains t
            · simp only [cond_false]
              exact hother t fun j oj hj hdt => absurd (mem_dsts.2 ⟨j, oj, hj, hdt⟩) (by simpa using hc)
            · simp only [cond_true]
              obtain ⟨j, oj, hj, hdj⟩ := mem_dsts.1 (by simpa using hc)
              refine hdone j oj t hj hdj ?_
              cases hkj : ks[j]? with
              | none => exact absurd hkj (hV j oj hj)
              | some kj =>
                refine hE j kj (Array.getElem?_eq_some_iff.1 hj).1 hkj ?_ ?_
                · cases kj with
                  | late v => exact absurd hkj (hR t ht j oj hj hdj v)
                  | _ => rfl
                · cases kj with
                  | store =>
                    rw [(hS j oj hj hkj).2.1] at hdj; cases hdj
                  | _ => rfl
          have hpm : r.Perm (i :: r.erase i) := List.perm_cons_erase hir
          have hcons : ∀ σ, opsAt ops (i :: σ) = o :: opsAt ops σ := fun σ => by
            unfold opsAt
            rw [List.filterMap_cons]; simp only [ho]
          obtain ⟨W2, hW2, -⟩ := (hcons _ ▸ hst (i :: r.erase i) hpm.symm a.eval (Std.eval a) hrd : StoresRun P a.eval _ (o :: opsAt ops (r.erase i)) W)
          refine op_out (Le := fun _ y => y = W2) (φ := fun u _ => u = undef) ho (hG i o ho) ?_ (fun u W' hW hu' => ?_)
          · rw [hW2]
            exact ⟨rfl, rfl⟩
          · subst hW hu'
            rw [hsd]
            have e1 : a.put none undef = a := rfl
            rw [e1]
            refine ih _ _ _ (r.erase i) (by simpa using hls) hu2 (fun j k' h1 h2 h3 h4 => ?_) (hn.erase i) (fun j => ?_) hdf hsz (fun j oj u hj hdj hl => ?_) (fun u hu' => ?_) (fun σ hσ ρ hρ hρr => ?_)
            · have h5 : j ≠ i := by
                rintro rfl
                rw [hk] at h2
                obtain rfl := Option.some.inj h2
                cases h4
              rw [hset j h5]; exact hE j k' h1 h2 h3 h4
            · rw [hn.mem_erase_iff, hr j]
              constructor
              · rintro ⟨h0, h1, h2, h3⟩
                exact ⟨h1, h2, by rw [hset j h0]; exact h3⟩
              · rintro ⟨h1, h2, h3⟩
                have h5 : j ≠ i := by
                  rintro rfl
                  rw [hseti] at h3; cases h3
                exact ⟨h5, h1, h2, by rw [← hset j h5]; exact h3⟩
            · by_cases h5 : j = i
              · subst h5
                rw [ho] at hj
                obtain rfl := Option.some.inj hj
                rw [hsd] at hdj; cases hdj
              · rw [hset j h5] at hl
                exact hdone j oj u hj hdj hl
            · refine hother u fun j oj hj hdj => ?_
              have h5 : j ≠ i := by
                rintro rfl
                rw [ho] at hj
                obtain rfl := Option.some.inj hj
                rw [hsd] at hdj; cases hdj
              rw [← hset j h5]; exact hu' j oj hj hdj
            · obtain ⟨W3, hW3, hrest⟩ := (hcons _ ▸ hst (i :: σ) ((List.Perm.cons i hσ).trans hpm.symm) ρ hρ hρr : StoresRun P ρ _ (o :: opsAt ops σ) W)
              have hex : execOp ρ o = execOp a.eval o := store_congr (ops := ops) hso hρ (Std.eval a) (fun t ht => by rw [hρr t (hsr t ht), hrd t (hsr t ht)])
              rw [hex, hW2] at hW3
              obtain rfl : W' = W3 := by simpa using hW3
              exact hrest

theorem lookK {ds : List (Option Tmp)} {φs : List (Value → World → Prop)} (hφ : Keeps Le F φs) (t : Tmp) (v : Value) (W W' : World) (h1 : F W) (h2 : Le W W') (h3 : ((look ds φs t).getD (fun _ _ => True)) v W) :
    ((look ds φs t).getD (fun _ _ => True)) v W' := by
  cases hl : look ds φs t with
  | none => simp
  | some φ =>
    simp only [hl, Option.getD_some] at h3 ⊢
    exact look_keeps hφ hl v W W' h1 h2 h3

/-- The slots of the blocks that are made. -/
def news : List Kd → List (Option Tmp) → List Tmp
  | .new :: ks, some d :: ds => d :: news ks ds
  | _ :: ks, _ :: ds => news ks ds
  | _, _ => []
def Apart (f : Tmp → Value) : List Tmp → Prop
  | [] => True
  | t :: ts => (∀ u ∈ ts, f t ≠ f u) ∧ Apart f ts
theorem news_mem : ∀ {ks : List Kd} {ds : List (Option Tmp)} {t : Tmp}, t ∈ news ks ds → ∃ i : Nat, ks[i]? = some .new ∧ ds[i]? = some (some t)
  | [], _, t, h => by simp [news] at h
  | k :: ks, [], t, h => by cases k <;> simp [news] at h
  | .new :: ks, some d :: ds, t, h => by
    rcases List.mem_cons.1 (show t ∈ d :: news ks ds from h) with rfl | h2
    · exact ⟨0, rfl, rfl⟩
    · obtain ⟨i, h3, h4⟩ := news_mem h2
      exact ⟨i + 1, by simpa using h3, by simpa using h4⟩
  | .new :: ks, none :: ds, t, h => by
    obtain ⟨i, h3, h4⟩ := news_mem (show t ∈ news ks ds from h)
    exact ⟨i + 1, by simpa using h3, by simpa using h4⟩
  | .op :: ks, _ :: ds, t, h => by
    obtain ⟨i, h3, h4⟩ := news_mem (show t ∈ news ks ds from h)
    exact ⟨i + 1, by simpa using h3, by simpa using h4⟩
  | .late _ :: ks, _ :: ds, t, h => by
    obtain ⟨i, h3, h4⟩ := news_mem (show t ∈ news ks ds from h)
    exact ⟨i + 1, by simpa using h3, by simpa using h4⟩
  | .store :: ks, _ :: ds, t, h => by
    obtain ⟨i, h3, h4⟩ := news_mem (show t ∈ news ks ds from h)
    exact ⟨i + 1, by simpa using h3, by simpa using h4⟩
theorem apart_of {f : Tmp → Value} : ∀ {ks : List Kd} {ds : List (Option Tmp)}, (∀ (i j : Nat) (t u : Tmp), i ≠ j → ks[i]? = some .new → ds[i]? = some (some t) → ks[j]? = some .new → ds[j]? = some (some u) → f t ≠ f u) → Apart f (news ks ds)
  | [], _, _ => trivial
  | k :: ks, [], _ => by cases k <;> trivial
  | .new :: ks, some d :: ds, h => ⟨fun u hu => by
      obtain ⟨j, h1, h2⟩ := news_mem hu
      exact h 0 (j + 1) d u (by omega) rfl rfl (by simpa using h1) (by simpa using h2), apart_of (fun i j t u h1 h2 h3 h4 h5 => h (i + 1) (j + 1) t u (by omega) (by simpa using h2) (by simpa using h3) (by simpa using h4) (by simpa using h5))⟩
  | .new :: ks, none :: ds, h => apart_of (ks := ks) (ds := ds) (fun i j t u h1 h2 h3 h4 h5 => h (i + 1) (j + 1) t u (by omega) (by simpa using h2) (by simpa using h3) (by simpa using h4) (by simpa using h5))
  | .op :: ks, _ :: ds, h => apart_of (ks := ks) (ds := ds) (fun i j t u h1 h2 h3 h4 h5 => h (i + 1) (j + 1) t u (by omega) (by simpa using h2) (by simpa using h3) (by simpa using h4) (by simpa using h5))
  | .late _ :: ks, _ :: ds, h => apart_of (ks := ks) (ds := ds) (fun i j t u h1 h2 h3 h4 h5 => h (i + 1) (j + 1) t u (by omega) (by simpa using h2) (by simpa using h3) (by simpa using h4) (by simpa using h5))
  | .store :: ks, _ :: ds, h => apart_of (ks := ks) (ds := ds) (fun i j t u h1 h2 h3 h4 h5 => h (i + 1) (j + 1) t u (by omega) (by simpa using h2) (by simpa using h3) (by simpa using h4) (by simpa using h5))

theorem slotsAt_of' {ds : List (Option Tmp)} {φs : List (Value → World → Prop)} {a0 : Act} {ρ : Operand → Value} {W : World} : ∀ {ts : List Tmp}, (∀ t ∈ ts, slotAt ds φs a0 t (ρ (.tmp t)) W) → slotsAt ds φs a0 ρ W ts
  | [], _ => trivial
  | t :: _, h => ⟨h t (by simp), slotsAt_of' fun u hu => h u (by simp [hu])⟩

def ReadsAt (ρ : Operand → Value) (g : Tmp → Value) : List Tmp → Prop
  | [] => True
  | t :: ts => ρ (.tmp t) = g t ∧ ReadsAt ρ g ts
theorem readsAt_of {ρ : Operand → Value} {g : Tmp → Value} : ∀ {ts : List Tmp}, (∀ t ∈ ts, ρ (.tmp t) = g t) → ReadsAt ρ g ts
  | [], _ => trivial
  | _ :: _, h => ⟨h _ (by simp), readsAt_of fun u hu => h u (by simp [hu])⟩
theorem stores_one {ρ : Operand → Value} {K : World → Prop} {l : List Oper} {i : Nat} {σ : List Nat} {W : World} (o : Oper) (hi : l[i]? = some o) (hσ : σ.Perm [i]) (W' : World) (hW : (execOp ρ o).run P W = .ok .skip W') (hK : K W') : StoresRun P ρ K (opsAt l.toArray σ) W := by
  rw [perm_one hσ]
  have : opsAt l.toArray [i] = [o] := by simp [opsAt, hi]
  rw [this]
  exact ⟨W', hW, hK⟩
/-- Two stores that may come in any order, with what both orders give. -/
theorem stores_two {ρ : Operand → Value} {K R : World → Prop} {l : List Oper} {i j : Nat} {σ : List Nat} {W : World} (o o' : Oper) (hi : l[i]? = some o) (hj : l[j]? = some o') (hσ : σ.Perm [i, j]) (W1 W2 W3 W4 : World)
    (h1 : (execOp ρ o).run P W = .ok .skip W1) (h2 : (execOp ρ o').run P W1 = .ok .skip W2) (h3 : (execOp ρ o').run P W = .ok .skip W3) (h4 : (execOp ρ o).run P W3 = .ok .skip W4)
    (hR : R W2) (hR' : R W4) (hK : ∀ W', R W' → K W') : StoresRun P ρ K (opsAt l.toArray σ) W := by
  have e1 : opsAt l.toArray [i, j] = [o, o'] := by simp [opsAt, hi, hj]
  have e2 : opsAt l.toArray [j, i] = [o', o] := by simp [opsAt, hi, hj]
  rcases perm_two hσ with rfl | rfl
  · rw [e1]; exact ⟨W1, h1, W2, h2, hK _ hR⟩
  · rw [e2]; exact ⟨W3, h3, W4, h4, hK _ hR'⟩

/-- **STORES THAT WAIT FOR ALL BUT SOME LATE OPERATIONS; BLOCKS THAT ARE APART.** `st`: the stores' places, `rd`: the slots that they read. -/
theorem wp_region_free {id : Nat} {Q : Exit → Act → World → Prop} {a : Act} {w : World} {l : List Oper} (ks : List Kd) (st : List Nat) (rd : List Tmp) (al : List Tmp) (ds : List (Option Tmp)) (ts : List (List Tmp)) (φs : List (Value → World → Prop))
    (hm : P.follows .mixedOrders = true) (hB : depsB a.tmps.size l.toArray = true) (hT : freeB ks l.toArray = true) (hg : l.all (fun o => o.guard.isNone) = true)
    (hstl : ((List.range l.length).filter fun i => (ks[i]?).elim false Kd.isStore) = st) (hrd : (opsAt l.toArray st).flatMap (·.looksAt l.toArray) = rd) (hal : news ks ds = al)
    (hds : l.map (·.dst) = ds) (hts : l.map (·.looksAt l.toArray) = ts)
    (Le : World → World → Prop) (F : World → Prop)
    (hrefl : ∀ W, F W → Le W W) (hF : ∀ W W', F W → Le W W' → F W') (hsize : ∀ W W', Le W W' → W.heap.size ≤ W'.heap.size) (hφ : Keeps Le F φs)
    (h0 : F w.drew) (hO : AsksL P Le F ds φs a ks l φs ts)
    (hend : ∀ (f : Tmp → Value) (W : World), F W → Ends f W ds φs → Apart f al → ∀ σ : List Nat, σ.Perm st → ∀ (ρ : Operand → Value), Std ρ → ReadsAt ρ (atEnd (ds.filterMap (fun d => d)) a f) rd →
      StoresRun P ρ (fun W' => Q .normal (fin a (ds.filterMap (fun d => d)) f) W') (opsAt l.toArray σ) W) : (Code.region id l.toArray true).wp P Q a w := by
  have hdsts : dsts l.toArray = ds.filterMap (fun d => d) := by rw [← hds]; unfold dsts; rw [List.filterMap_map]; rfl
  have hat : ∀ {i : Nat} {o : Oper} {t : Tmp} {φ : Value → World → Prop}, l[i]? = some o → o.dst = some t → φs[i]? = some φ → look ds φs t = some φ := by
    intro i o t φ hi hd hp
    refine look_at (i := i) (by rw [← hds, List.getElem?_map, hi]; simp [hd]) hp fun j hj => ?_
    rw [← hds, List.getElem?_map] at hj
    cases hlj : l[j]? with
    | none => rw [hlj] at hj; cases hj
    | some oj =>
      rw [hlj] at hj
      exact ((depsB_at hB (i := i) (o := o) (by simpa using hi)).1 t hd).2 j oj (by simpa using hlj) (by simpa using hj)
  have hG : ∀ (i : Nat) (o : Oper), l.toArray[i]? = some o → o.guard = none := fun i o hi => by
    have := List.all_eq_true.1 hg o (List.mem_of_getElem? (by simpa using hi))
    simpa using this
  have hfree : ∀ (i : Nat) (o : Oper), l.toArray[i]? = some o → ∃ k, ks[i]? = some k ∧ (k = .store → isStoreOp o = true ∧ o.dst = none ∧ ∀ j, j < l.toArray.size → ∀ kj, ks[j]? = some kj → kj ≠ .store →
      (∀ v, kj = .late v → ∀ t oj, l.toArray[j]? = some oj → oj.dst = some t → t ∉ o.looksAt l.toArray) ∧ (kj.isLate = false → reachB l.toArray l.toArray.size i j = true)) := by
    intro i o hi
    have hlt := (Array.getElem?_eq_some_iff.1 hi).1
    unfold freeB at hT
    rw [List.all_eq_true] at hT
    have h1 := hT i (List.mem_range.2 hlt)
    simp only [hi] at h1
    cases hk : ks[i]? with
    | none => rw [hk] at h1; cases h1
    | some k =>
      refine ⟨k, rfl, fun e => ?_⟩
      subst e
      rw [hk] at h1
      simp only [Bool.and_eq_true, List.all_eq_true, List.mem_range] at h1
      refine ⟨h1.1.1, by simpa using h1.1.2, fun j hj kj hkj hne => ?_⟩
      have h2 := h1.2 j hj
      rw [hkj] at h2
      cases kj with
      | store => exact absurd rfl hne
      | late v =>
        refine ⟨fun v' _ t oj hoj hd => ?_, fun h => by cases h⟩
        simp only [hoj, Option.bind_some, hd] at h2
        simpa using h2
      | op => exact ⟨(fun v h => by cases h), fun _ => h2⟩
      | new => exact ⟨(fun v h => by cases h), fun _ => h2⟩
  have hlate : ∀ (i : Nat) (o : Oper) (v : Value), l.toArray[i]? = some o → ks[i]? = some (.late v) → ∃ t, o.dst = some t := by
    intro i o v hi hk
    have hlt := (Array.getElem?_eq_some_iff.1 hi).1
    unfold freeB at hT
    rw [List.all_eq_true] at hT
    have h1 := hT i (List.mem_range.2 hlt)
    simp only [hi, hk] at h1
    exact Option.isSome_iff_exists.1 h1
  have hpred : ∀ {i : Nat} {o : Oper}, l[i]? = some o → ∃ k φ, ks[i]? = some k ∧ φs[i]? = some φ ∧ AskK P Le F ds φs a o φ (o.looksAt l.toArray) k := by
    intro i o hi
    obtain ⟨k, φ, t, h1, h2, h3, h4⟩ := asksL_at hO hi
    refine ⟨k, φ, h1, h2, ?_⟩
    rw [← hts, List.getElem?_map, hi] at h3
    rw [show o.looksAt l.toArray = t by simpa using h3]
    exact h4
  have hΨ := lookK (F := F) (Le := Le) hφ (ds := ds)
  -- slots that are read, as the obligations want them
  have hslots : ∀ {listed : Array Bool} {a' : Act} {W : World} {o : Oper} {i : Nat}, Good F (fun t => (look ds φs t).getD (fun _ _ => True)) a l.toArray listed a' W → l.toArray[i]? = some o →
      (∀ e ∈ o.after, Region.binds .any e = true → listed.getD e.on false = true) → slotsAt ds φs a a'.eval W (o.looksAt l.toArray) := by
    intro listed a' W o i hgood ho hall
    refine slotsAt_of fun u hu => ?_
    unfold slotAt
    cases hl : look ds φs u with
    | none =>
      refine hgood.other u fun j oj hj hdj => ?_
      obtain ⟨k, φ, h1, h2, -⟩ := hpred (i := j) (o := oj) (by simpa using hj)
      rw [hat (by simpa using hj) hdj h2] at hl; cases hl
    | some φ =>
      have hm : some u ∈ ds := look_mem hl
      obtain ⟨j, hj⟩ := List.mem_iff_getElem?.1 hm
      rw [← hds, List.getElem?_map] at hj
      cases hlj : l[j]? with
      | none => rw [hlj] at hj; cases hj
      | some oj =>
        rw [hlj] at hj
        have hdj : oj.dst = some u := by simpa using hj
        obtain ⟨e, he, hb, hon⟩ := (depsB_at hB ho).2.1 u hu j oj (by simpa using hlj) hdj
        have h1 := hall e he hb
        rw [hon] at h1
        have h2 := hgood.done j oj u (by simpa using hlj) hdj h1
        simpa [hl] using h2
  refine wp_region_any hm ?_
  have switch : ∀ (fuel : Nat) (listed : Array Bool) (a' : Act) (W : World), listed.size = l.toArray.size → unl listed l.toArray.size = fuel →
      (∀ j, j < l.toArray.size → ks[j]? = some .store → listed.getD j false = false) →
      (∀ (i : Nat) (o : Oper) (t : Tmp), l.toArray[i]? = some o → ks[i]? = some .new → o.dst = some t → listed.getD i false = true → ∃ q, a'.eval (.tmp t) = .pointer (some ⟨q, 0, none⟩) ∧ q < W.heap.size) →
      (∀ (i j : Nat) (o o' : Oper) (t u : Tmp), i ≠ j → l.toArray[i]? = some o → ks[i]? = some .new → o.dst = some t → listed.getD i false = true → l.toArray[j]? = some o' → ks[j]? = some .new → o'.dst = some u → listed.getD j false = true → a'.eval (.tmp t) ≠ a'.eval (.tmp u)) →
      Good F (fun t => (look ds φs t).getD (fun _ _ => True)) a l.toArray listed a' W →
      (∀ (j : Nat) (k : Kd), j < l.toArray.size → ks[j]? = some k → k.isLate = false → k.isStore = false → listed.getD j false = true) → wpAny P .any l.toArray Q fuel listed a' W := by
    intro fuel listed a' W hls hu hst hn1 hn2 hgood hE
    obtain ⟨f, hf1, hf2⟩ : ∃ f : Tmp → Value, (∀ (i : Nat) (o : Oper) (v : Value) (t : Tmp), l.toArray[i]? = some o → ks[i]? = some (.late v) → o.dst = some t → f t = v) ∧
        (∀ (i : Nat) (o : Oper) (t : Tmp) (k : Kd), l.toArray[i]? = some o → ks[i]? = some k → k.isLate = false → o.dst = some t → f t = a'.eval (.tmp t)) := by
      classical
      refine ⟨fun t => if h : ∃ v, ∃ (i : Nat) (o : Oper), l.toArray[i]? = some o ∧ ks[i]? = some (Kd.late v) ∧ o.dst = some t then h.choose else a'.eval (.tmp t), ?_, ?_⟩
      · intro i o v t hi hk hd
        have h : ∃ v, ∃ (i : Nat) (o : Oper), l.toArray[i]? = some o ∧ ks[i]? = some (Kd.late v) ∧ o.dst = some t := ⟨v, i, o, hi, hk, hd⟩
        simp only [dif_pos h]
        obtain ⟨i2, o2, h1, h2, h3⟩ := h.choose_spec
        have e : i2 = i := ((depsB_at hB hi).1 t hd).2 i2 o2 h1 h3
        rw [e, hk] at h2
        have h4 := Option.some.inj h2
        injection h4 with h5
        exact h5.symm
      · intro i o t k hi hk hl hd
        have h : ¬ ∃ v, ∃ (i : Nat) (o : Oper), l.toArray[i]? = some o ∧ ks[i]? = some (Kd.late v) ∧ o.dst = some t := by
          rintro ⟨v, i2, o2, h1, h2, h3⟩
          have e : i2 = i := ((depsB_at hB hi).1 t hd).2 i2 o2 h1 h3
          rw [e, hk] at h2
          have h4 := Option.some.inj h2
          rw [h4] at hl; cases hl
        simp only [dif_neg h]
    have hall : ∀ (j : Nat) (oj : Oper) (u : Tmp) (φ : Value → World → Prop), l[j]? = some oj → oj.dst = some u → φs[j]? = some φ → φ (f u) W := by
      intro j oj u φ hj hd hφj
      have hj' : l.toArray[j]? = some oj := by simpa using hj
      obtain ⟨k, φ', h1, h2, h3⟩ := hpred hj
      obtain rfl : φ' = φ := by rw [hφj] at h2; exact (Option.some.inj h2).symm
      have early : k.isLate = false → k.isStore = false → φ' (f u) W := fun e1 e2 => by
        rw [hf2 j oj u k hj' h1 e1 hd]
        have h4 := hgood.done j oj u hj' hd (hE j k (Array.getElem?_eq_some_iff.1 hj').1 h1 e1 e2)
        rw [hat hj hd h2] at h4
        exact h4
      cases k with
      | late v => rw [h3.1]; exact hf1 j oj v u hj' h1 hd
      | store =>
        obtain ⟨k', hk', hf⟩ := hfree j oj hj'
        rw [h1] at hk'
        rw [(hf (Option.some.inj hk').symm).2.1] at hd; cases hd
      | op => exact early rfl rfl
      | new => exact early rfl rfl
    have hmem : ∀ (i : Nat) (o : Oper), l.toArray[i]? = some o → ks[i]? = some .store → o ∈ opsAt l.toArray st := fun i o hi hk => by
      rw [← hstl]
      have hlt : i < l.length := by simpa using (Array.getElem?_eq_some_iff.1 hi).1
      exact List.mem_filterMap.2 ⟨i, List.mem_filter.2 ⟨List.mem_range.2 hlt, by simp [hk, Kd.isStore]⟩, hi⟩
    have hback : ∀ o ∈ opsAt l.toArray st, ∃ i : Nat, l.toArray[i]? = some o ∧ ks[i]? = some .store := fun o ho => by
      rw [← hstl] at ho
      obtain ⟨i, h1, h2⟩ := List.mem_filterMap.1 ho
      obtain ⟨-, h3⟩ := List.mem_filter.1 h1
      refine ⟨i, h2, ?_⟩
      cases hk : ks[i]? with
      | none => rw [hk] at h3; cases h3
      | some k =>
        rw [hk] at h3
        cases k <;> first | rfl | cases h3
    refine free_after (f := f) (rd := rd) (ks := ks) hB hG ?_ ?_ ?_ ?_ fuel listed a' W ((List.range l.length).filter fun i => (ks[i]?).elim false Kd.isStore) hls hu hE ?_ ?_ hgood.defers hgood.size ?_ hgood.other ?_
    · intro i o hi hk
      obtain ⟨k', hk', hf⟩ := hfree i o hi
      rw [hk] at hk'
      obtain ⟨h1, h2, -⟩ := hf (Option.some.inj hk').symm
      exact ⟨h1, h2, fun t ht => by rw [← hrd]; exact List.mem_flatMap.2 ⟨o, hmem i o hi hk, ht⟩⟩
    · intro t ht j oj hj hd v hkj
      rw [← hrd] at ht
      obtain ⟨o, ho, ht'⟩ := List.mem_flatMap.1 ht
      obtain ⟨i, hi, hk⟩ := hback o ho
      obtain ⟨k', hk', hf⟩ := hfree i o hi
      rw [hk] at hk'
      obtain ⟨-, -, h3⟩ := hf (Option.some.inj hk').symm
      exact (h3 j (Array.getElem?_eq_some_iff.1 hj).1 _ hkj (by intro h; cases h)).1 v rfl t oj hj hd ht'
    · intro i o hi
      obtain ⟨k', hk', -⟩ := hfree i o hi
      rw [hk']; intro h; cases h
    · intro i o v hi hk
      obtain ⟨t, hd⟩ := hlate i o v hi hk
      refine ⟨t, hd, hf1 i o v t hi hk hd, fun ρ hρ hr W' => ?_⟩
      obtain ⟨k, φ, h1, h2, h3⟩ := hpred (i := i) (o := o) (by simpa using hi)
      rw [hk] at h1
      obtain rfl := Option.some.inj h1
      refine h3.2 ρ W hρ hgood.base (slotsAt_of' fun u hu => ?_) W'
      unfold slotAt
      rw [hr u hu]
      unfold atEnd
      cases hl : look ds φs u with
      | none =>
        have hc : (dsts l.toArray).contains u = false := by
          rw [Bool.eq_false_iff]
          intro hc
          obtain ⟨j, oj, hj, hdj⟩ := mem_dsts.1 (by simpa using hc)
          obtain ⟨k, φ, -, h5, -⟩ := hpred (i := j) (o := oj) (by simpa using hj)
          rw [hat (by simpa using hj) hdj h5] at hl; cases hl
        rw [hc]; rfl
      | some φ' =>
        have hm : some u ∈ ds := look_mem hl
        obtain ⟨j, hj⟩ := List.mem_iff_getElem?.1 hm
        rw [← hds, List.getElem?_map] at hj
        cases hlj : l[j]? with
        | none => rw [hlj] at hj; cases hj
        | some oj =>
          rw [hlj] at hj
          have hdj : oj.dst = some u := by simpa using hj
          have hc : (dsts l.toArray).contains u = true := by
            simpa using mem_dsts.2 ⟨j, oj, (by simpa using hlj), hdj⟩
          rw [hc]
          obtain ⟨k, φ, -, h5, -⟩ := hpred (i := j) (o := oj) hlj
          rw [hat hlj hdj h5] at hl
          obtain rfl := Option.some.inj hl
          exact hall j oj u φ hlj hdj h5
    · exact (List.nodup_range).filter _
    · intro j
      rw [List.mem_filter, List.mem_range]
      constructor
      · rintro ⟨h1, h2⟩
        have hk : ks[j]? = some .store := by
          cases hk : ks[j]? with
          | none => rw [hk] at h2; cases h2
          | some k =>
            rw [hk] at h2
            cases k <;> first | rfl | cases h2
        exact ⟨by simpa using h1, hk, hst j (by simpa using h1) hk⟩
      · rintro ⟨h1, h2, -⟩
        exact ⟨by simpa using h1, by simp [h2, Kd.isStore]⟩
    · intro i o t hi hd hl
      obtain ⟨k, φ, h1, h2, h3⟩ := hpred (i := i) (o := o) (by simpa using hi)
      cases k with
      | late v =>
        rw [hf1 i o v t hi h1 hd]
        have h4 := hgood.done i o t hi hd hl
        rw [hat (by simpa using hi) hd h2, h3.1] at h4
        exact h4
      | op => exact (hf2 i o t _ hi h1 rfl hd).symm
      | new => exact (hf2 i o t _ hi h1 rfl hd).symm
      | store => exact (hf2 i o t _ hi h1 rfl hd).symm
    · intro σ hσ ρ hρ hr
      rw [hdsts] at hr ⊢
      rw [hstl] at hσ
      refine hend f W hgood.base (ends_of fun i t φ h1 h2 => ?_) ?_ σ hσ ρ hρ (readsAt_of hr)
      · rw [← hds, List.getElem?_map] at h1
        cases hli : l[i]? with
        | none => rw [hli] at h1; cases h1
        | some o =>
          rw [hli] at h1
          exact hall i o t φ hli (by simpa using h1) h2
      · rw [← hal]
        refine apart_of fun i j t u hne h1 h2 h3 h4 => ?_
        rw [← hds, List.getElem?_map] at h2 h4
        cases hli : l[i]? with
        | none => rw [hli] at h2; cases h2
        | some o =>
          cases hlj : l[j]? with
          | none => rw [hlj] at h4; cases h4
          | some o' =>
            rw [hli] at h2
            rw [hlj] at h4
            have hi' : l.toArray[i]? = some o := by simpa using hli
            have hj' : l.toArray[j]? = some o' := by simpa using hlj
            have hd : o.dst = some t := by simpa using h2
            have hd' : o'.dst = some u := by simpa using h4
            rw [hf2 i o t _ hi' h1 rfl hd, hf2 j o' u _ hj' h3 rfl hd']
            exact hn2 i j o o' t u hne hi' h1 hd (hE i _ (Array.getElem?_eq_some_iff.1 hi').1 h1 rfl rfl) hj' h3 hd' (hE j _ (Array.getElem?_eq_some_iff.1 hj').1 h3 rfl rfl)
  have main : ∀ (fuel : Nat) (listed : Array Bool) (a' : Act) (W : World), listed.size = l.toArray.size → unl listed l.toArray.size = fuel → Closed l.toArray listed →
      (∀ j, j < l.toArray.size → ks[j]? = some .store → listed.getD j false = false) →
      (∀ (i : Nat) (o : Oper) (t : Tmp), l.toArray[i]? = some o → ks[i]? = some .new → o.dst = some t → listed.getD i false = true → ∃ q, a'.eval (.tmp t) = .pointer (some ⟨q, 0, none⟩) ∧ q < W.heap.size) →
      (∀ (i j : Nat) (o o' : Oper) (t u : Tmp), i ≠ j → l.toArray[i]? = some o → ks[i]? = some .new → o.dst = some t → listed.getD i false = true → l.toArray[j]? = some o' → ks[j]? = some .new → o'.dst = some u → listed.getD j false = true → a'.eval (.tmp t) ≠ a'.eval (.tmp u)) →
      Good F (fun t => (look ds φs t).getD (fun _ _ => True)) a l.toArray listed a' W → wpAny P .any l.toArray Q fuel listed a' W := by
    intro fuel
    induction fuel with
    | zero =>
      intro listed a' W hls hu hcl hst hn1 hn2 hgood
      have hall := unl_zero hu
      exact switch 0 listed a' W hls hu hst hn1 hn2 hgood fun j k hj _ _ _ => by
        have h1 := hall j hj
        have h2 : j < listed.size := by omega
        simp [h2] at h1 ⊢
        exact h1
    | succ fuel ih =>
      intro listed a' W hls hu hcl hst hn1 hn2 hgood
      by_cases hE : ∀ (j : Nat) (k : Kd), j < l.toArray.size → ks[j]? = some k → k.isLate = false → k.isStore = false → listed.getD j false = true
      · exact switch _ listed a' W hls hu hst hn1 hn2 hgood hE
      · refine ⟨fun hr => absurd (fun j k hj _ _ _ => all_listed hB hls hr j hj) hE, fun i hi => ?_⟩
        obtain ⟨hun, o, ho, hall⟩ := mem_ready.1 hi
        have hlt : i < l.toArray.size := (Array.getElem?_eq_some_iff.1 ho).1
        have hlo : l[i]? = some o := by simpa using ho
        obtain ⟨k, φ, hk, hφi, hask⟩ := hpred hlo
        have hsl := hslots hgood ho hall
        have hu2 : unl (listed.setIfInBounds i true) l.toArray.size = fuel := by
          have := unl_set (l := listed) (i := i) hun (by omega) hlt
          omega
        have hset : ∀ j, j ≠ i → (listed.setIfInBounds i true).getD j false = listed.getD j false := fun j hj => getD_set_ne false (fun e => hj e.symm)
        have hns : k ≠ .store → ∀ j, j < l.toArray.size → ks[j]? = some .store → (listed.setIfInBounds i true).getD j false = false := fun hne j hj hkj => by
          have h5 : j ≠ i := by
            rintro rfl
            rw [hk] at hkj
            exact hne (Option.some.inj hkj)
          rw [hset j h5]; exact hst j hj hkj
        have hpost : ∀ v W', φ v W' → dstPost (fun t => (look ds φs t).getD (fun _ _ => True)) o v W' := fun v W' hv => by
          unfold dstPost
          cases hd : o.dst with
          | none => trivial
          | some d =>
            simp only [hat hlo hd hφi, Option.getD_some]
            exact hv
        have hput : ∀ v W', Le W W' → φ v W' → Good F (fun t => (look ds φs t).getD (fun _ _ => True)) a l.toArray (listed.setIfInBounds i true) (a'.put o.dst v) W' := fun v W' hle hv =>
          good_put hB (by omega) hF hΨ ho hgood v W' hle (hpost v W' hv)
        -- the slots of blocks that were made before
        have hkeep : ∀ (j : Nat) (oj : Oper) (u : Tmp) (v : Value), j ≠ i → l.toArray[j]? = some oj → oj.dst = some u → (a'.put o.dst v).eval (.tmp u) = a'.eval (.tmp u) := fun j oj u v hji hj hdj => by
          refine Act.eval_put fun d hd e => ?_
          have e2 : u = d := by simpa using e
          subst e2
          exact hji (((depsB_at hB ho).1 u hd).2 j oj hj hdj)
        cases k with
        | store =>
          obtain ⟨k', hk', hf⟩ := hfree i o ho
          rw [hk] at hk'
          obtain ⟨-, -, hreach⟩ := hf (Option.some.inj hk').symm
          refine absurd (fun j kj hj hkj h1 h2 => ?_) hE
          have hall' : ∀ o', l.toArray[i]? = some o' → ∀ e ∈ o'.after, Region.binds .any e = true → listed.getD e.on false = true := fun o' ho' => by
            rw [ho] at ho'
            obtain rfl : o = o' := by simpa using ho'
            exact hall
          exact reach_listed hcl _ _ _ ((hreach j hj kj hkj (by rintro rfl; cases h2)).2 h1) hall' o ho
        | op =>
          refine op_out (Le := Le) ho (hG i o ho) (hask a'.eval W (Std.eval a') hgood.base hsl) (fun v W' hle hv => ih _ _ _ (by simpa using hls) hu2 (hcl.set ho hall) (hns (by intro h; cases h)) ?_ ?_ (hput v W' hle hv))
          · intro j oj t hj hkj hdj hl
            have h5 : j ≠ i := by rintro rfl; rw [hk] at hkj; cases hkj
            rw [hset j h5] at hl
            obtain ⟨q, h1, h2⟩ := hn1 j oj t hj hkj hdj hl
            exact ⟨q, by rw [hkeep j oj t v h5 hj hdj]; exact h1, Nat.lt_of_lt_of_le h2 (hsize _ _ hle)⟩
          · intro j j' oj oj' t u hne hj hkj hdj hl hj' hkj' hdj' hl'
            have h5 : j ≠ i := by rintro rfl; rw [hk] at hkj; cases hkj
            have h6 : j' ≠ i := by rintro rfl; rw [hk] at hkj'; cases hkj'
            rw [hset j h5] at hl
            rw [hset j' h6] at hl'
            rw [hkeep j oj t v h5 hj hdj, hkeep j' oj' u v h6 hj' hdj']
            exact hn2 j j' oj oj' t u hne hj hkj hdj hl hj' hkj' hdj' hl'
        | late v0 =>
          refine op_out (Le := Le) (φ := φ) ho (hG i o ho) ?_ (fun v W' hle hv => ih _ _ _ (by simpa using hls) hu2 (hcl.set ho hall) (hns (by intro h; cases h)) ?_ ?_ (hput v W' hle hv))
          · rw [hask.2 a'.eval W (Std.eval a') hgood.base hsl W]
            exact ⟨hrefl W hgood.base, by rw [hask.1]⟩
          · intro j oj t hj hkj hdj hl
            have h5 : j ≠ i := by rintro rfl; rw [hk] at hkj; cases hkj
            rw [hset j h5] at hl
            obtain ⟨q, h1, h2⟩ := hn1 j oj t hj hkj hdj hl
            exact ⟨q, by rw [hkeep j oj t v h5 hj hdj]; exact h1, Nat.lt_of_lt_of_le h2 (hsize _ _ hle)⟩
          · intro j j' oj oj' t u hne hj hkj hdj hl hj' hkj' hdj' hl'
            have h5 : j ≠ i := by rintro rfl; rw [hk] at hkj; cases hkj
            have h6 : j' ≠ i := by rintro rfl; rw [hk] at hkj'; cases hkj'
            rw [hset j h5] at hl
            rw [hset j' h6] at hl'
            rw [hkeep j oj t v h5 hj hdj, hkeep j' oj' u v h6 hj' hdj']
            exact hn2 j j' oj oj' t u hne hj hkj hdj hl hj' hkj' hdj' hl'
        | new =>
          obtain ⟨W1, hrun, hlt1, hle1, hφ1⟩ := hask a'.eval W (Std.eval a') hgood.base hsl
          refine op_out (Le := fun _ y => y = W1) (φ := fun u _ => u = .pointer (some ⟨W.heap.size, 0, none⟩)) ho (hG i o ho) (by rw [hrun]; exact ⟨rfl, rfl⟩) (fun v W' hle hv => ?_)
          subst hle hv
          have own : ∀ t, o.dst = some t → (a'.put o.dst (.pointer (some ⟨W.heap.size, 0, none⟩))).eval (.tmp t) = .pointer (some ⟨W.heap.size, 0, none⟩) := fun t ht => by
            rw [ht]
            exact eval_put_same a' (by rw [hgood.size]; exact ((depsB_at hB ho).1 t ht).1) _
          have ownj : ∀ j oj t, j = i → l.toArray[j]? = some oj → oj.dst = some t → o.dst = some t := fun j oj t hji hj hdj => by
            subst hji
            rw [ho] at hj
            rw [Option.some.inj hj]; exact hdj
          refine ih _ _ _ (by simpa using hls) hu2 (hcl.set ho hall) (hns (by intro h; cases h)) ?_ ?_ (hput _ _ hle1 hφ1)
          · intro j oj t hj hkj hdj hl
            by_cases h5 : j = i
            · exact ⟨_, own t (ownj j oj t h5 hj hdj), hlt1⟩
            · rw [hset j h5] at hl
              obtain ⟨q, h1, h2⟩ := hn1 j oj t hj hkj hdj hl
              exact ⟨q, by rw [hkeep j oj t _ h5 hj hdj]; exact h1, Nat.lt_of_lt_of_le h2 (hsize _ _ hle1)⟩
          · intro j j' oj oj' t u hne hj hkj hdj hl hj' hkj' hdj' hl'
            by_cases h5 : j = i
            · have h6 : j' ≠ i := fun e => hne (h5.trans e.symm)
              rw [hset j' h6] at hl'
              rw [own t (ownj j oj t h5 hj hdj), hkeep j' oj' u _ h6 hj' hdj']
              obtain ⟨q, h1, h2⟩ := hn1 j' oj' u hj' hkj' hdj' hl'
              rw [h1]
              intro e
              simp at e <;> omega
            · rw [hset j h5] at hl
              rw [hkeep j oj t _ h5 hj hdj]
              by_cases h6 : j' = i
              · rw [own u (ownj j' oj' u h6 hj' hdj')]
                obtain ⟨q, h1, h2⟩ := hn1 j oj t hj hkj hdj hl
                rw [h1]
                intro e
                simp at e <;> omega
              · rw [hset j' h6] at hl'
                rw [hkeep j' oj' u _ h6 hj' hdj']
                exact hn2 j j' oj oj' t u hne hj hkj hdj hl hj' hkj' hdj' hl'
  have hcount : ∀ n : Nat, n ≤ l.toArray.size → unl (Array.replicate l.toArray.size false) n = n := by
    intro n
    induction n with
    | zero => intro _; rfl
    | succ n ih =>
      intro hn
      unfold unl
      rw [ih (by omega)]
      have h3 : n < l.length := by simp only [List.size_toArray] at hn; omega
      have : (Array.replicate l.toArray.size false).getD n true = false := by simp [h3]
      rw [this]; simp
  have hfalse : ∀ j, (Array.replicate l.toArray.size false).getD j false = false := fun j => by
    by_cases h : j < l.length <;> simp [h]
  have nope : ∀ {p : Prop} (j : Nat), (Array.replicate l.toArray.size false).getD j false = true → p := fun j h => by rw [hfalse j] at h; cases h
  exact main _ _ a w.drew (by simp) (hcount _ (Nat.le_refl _)) (fun j oj hj hl => nope j hl) (fun j _ _ => hfalse j) (fun j _ _ _ _ _ hl => nope j hl) (fun j _ _ _ _ _ _ _ _ _ hl => nope j hl)
    ⟨rfl, rfl, h0, fun i o t _ _ hl => nope i hl, fun t _ => rfl⟩
end Go.RegInv
