/- A drawn region whose operations may write, too: what holds of each is told until an operation ends it; blocks that it makes are apart. What the law of regions that write is used with: pointers to new blocks, stores, appends. -/
import Derived.Test.YtjdilmmpdlcimaaGreatR7
import Derived.Deep.AppendLies
import Derived.Lib.BufferOwn
import Derived.Lib.BufferWrite

namespace Go.RegInv

variable {P : Program} {Le : World → World → Prop} {F : World → Prop}

/-- The block that a pointer or a slice points into; of a struct, that of its last slice. -/
def blkU : Value → Option Nat
  | .pointer (some p) => some p.block
  | .slice (some p) _ _ => some p.block
  | .agg a => match a.toList.getLast? with
    | some (.slice (some p) _ _) => some p.block
    | some (.pointer (some p)) => some p.block
    | _ => none
  | _ => none
/-- Not in one block. -/
def Apt (u v : Value) : Prop := ∀ q, blkU u = some q → blkU v ≠ some q
theorem Apt.symm {u v : Value} (h : Apt u v) : Apt v u := fun q h1 h2 => h q h2 h1
def AptL (f : Tmp → Value) : List Tmp → Prop
  | [] => True
  | t :: ts => (∀ u ∈ ts, Apt (f t) (f u)) ∧ AptL f ts
abbrev Fact := List Value → Value → World → Prop
/-- The value is this one. -/
def Iv (v : Value) : Fact := fun _ u _ => u = v
def Ph (p : Value → World → Prop) : Fact := fun _ v W => p v W
/-- A pointer to a new block that holds these cells. -/
def Nb (base : Nat) (T : TypeId) (cs : Array Value) : Fact := fun _ v W => ∃ q, v = .pointer (some ⟨q, 0, none⟩) ∧ base ≤ q ∧ Mem.Blk W q T cs

def argsAt (ρ : Operand → Value) (ts : List Tmp) : List Value := ts.map fun t => ρ (.tmp t)
def dstV (o : Oper) (v : Value) : Value := match o.dst with
  | some _ => v
  | none => undef
def valAt (ρ : Operand → Value) (o : Oper) : Value := match o.dst with
  | some t => ρ (.tmp t)
  | none => undef
def NewV : Bool → Value → World → World → Prop
  | true, v, W, W' => ∀ q, blkU v = some q → W.heap.size ≤ q ∧ q < W'.heap.size
  | false, _, _, _ => True
def wrOf (Le : World → World → Prop) (wr : List (Nat × (List Value → World → World → Prop))) (j : Nat) : List Value → World → World → Prop := match wr with
  | [] => fun _ => Le
  | (k, R) :: rest => bif Nat.beq k j then R else wrOf Le rest j

/-- Who reads what operation i makes? -/
def readsB (ops : Array Oper) (k i : Nat) : Bool := match (ops[i]?).bind (·.dst), ops[k]? with
  | some t, some o => (o.looksAt ops).contains t
  | _, _ => false
/-- Whoever ends a fact waits for all that use it. -/
def endsB (ks us kbs : List (List Nat)) (ops : Array Oper) : Bool := (List.range ops.size).all fun j =>
  ((ks.getD j []).all fun i => (List.range ops.size).all fun k => k == j || !readsB ops k i || reachB ops ops.size j k) &&
  ((kbs.getD j []).all fun m => (List.range ops.size).all fun k => k == j || !(us.getD k []).contains m || reachB ops ops.size j k)

def AliveO (ks : List (List Nat)) (listed : Array Bool) (i : Nat) : Prop := listed.getD i false = true ∧ ∀ j, i ∈ ks.getD j [] → listed.getD j false = false
def AliveB (kbs : List (List Nat)) (listed : Array Bool) (m : Nat) : Prop := ∀ j, m ∈ kbs.getD j [] → listed.getD j false = false

structure GoodU (F : World → Prop) (bs : List (World → Prop)) (φs : List Fact) (nw : List Bool) (ks kbs : List (List Nat)) (a0 : Act) (ops : Array Oper) (listed : Array Bool) (a : Act) (W : World) : Prop where
  defers : a.defers = a0.defers
  size : a.tmps.size = a0.tmps.size
  base : F W
  closed : Closed ops listed
  facts : ∀ m b, bs[m]? = some b → AliveB kbs listed m → b W
  done : ∀ i o φ, ops[i]? = some o → φs[i]? = some φ → AliveO ks listed i → φ (argsAt a.eval (o.looksAt ops)) (valAt a.eval o) W
  other : ∀ t, (∀ i o, ops[i]? = some o → o.dst = some t → listed.getD i false = false) → a.eval (.tmp t) = a0.eval (.tmp t)
  newb : ∀ i o, ops[i]? = some o → nw.getD i false = true → listed.getD i false = true → ∀ q, blkU (valAt a.eval o) = some q → q < W.heap.size
  apart : ∀ i j o o', i ≠ j → ops[i]? = some o → ops[j]? = some o' → nw.getD i false = true → nw.getD j false = true → listed.getD i false = true → listed.getD j false = true → Apt (valAt a.eval o) (valAt a.eval o')

/-- Which fact tells of a slot. -/
def lookU : List (Option Tmp) → List (List Tmp) → List Fact → Nat → Option (List Tmp × Fact)
  | some d :: ds, ts :: tss, φ :: φs, t => bif Nat.beq d t then some (ts, φ) else lookU ds tss φs t
  | none :: ds, _ :: tss, _ :: φs, t => lookU ds tss φs t
  | _, _, _, _ => none
def slotU (ds : List (Option Tmp)) (tss : List (List Tmp)) (φs : List Fact) (a0 : Act) (ρ : Operand → Value) (W : World) (t : Tmp) : Prop := match lookU ds tss φs t with
  | some (ts, φ) => φ (argsAt ρ ts) (ρ (.tmp t)) W
  | none => ρ (.tmp t) = a0.eval (.tmp t)
def slotsU (ds : List (Option Tmp)) (tss : List (List Tmp)) (φs : List Fact) (a0 : Act) (ρ : Operand → Value) (W : World) : List Tmp → Prop
  | [] => True
  | t :: ts => slotU ds tss φs a0 ρ W t ∧ slotsU ds tss φs a0 ρ W ts
def baseU (bs : List (World → Prop)) (W : World) : List Nat → Prop
  | [] => True
  | m :: ms => (bs.getD m (fun _ => True)) W ∧ baseU bs W ms

def AskU (P : Program) (F : World → Prop) (bs : List (World → Prop)) (ds : List (Option Tmp)) (tss : List (List Tmp)) (φs : List Fact) (a0 : Act) (R : List Value → World → World → Prop) (n : Bool) (u : List Nat) (o : Oper) (φ : Fact) (ts : List Tmp) : Prop :=
  ∀ (ρ : Operand → Value) (W : World), Std ρ → F W → baseU bs W u → slotsU ds tss φs a0 ρ W ts → RelUpon P (R (argsAt ρ ts)) (fun v W' => φ (argsAt ρ ts) (dstV o v) W' ∧ NewV n v W W') W ((execOp ρ o).run P W)
def AsksU (P : Program) (F : World → Prop) (bs : List (World → Prop)) (ds : List (Option Tmp)) (tss : List (List Tmp)) (φs : List Fact) (a0 : Act) (Rs : Nat → List Value → World → World → Prop) (nw : List Bool) (us : List (List Nat)) : Nat → List Oper → List Fact → List (List Tmp) → Prop
  | i, o :: l, φ :: rest, ts :: more => AskU P F bs ds tss φs a0 (Rs i) (nw.getD i false) (us.getD i []) o φ ts ∧ AsksU P F bs ds tss φs a0 Rs nw us (i + 1) l rest more
  | _, [], _, _ => True
  | _, _, _, _ => False

/-- Facts outlast what all operations do. -/
def KeepsP (Le : World → World → Prop) (F : World → Prop) : List Fact → Prop
  | [] => True
  | φ :: φs => (∀ vs v W W', F W → Le W W' → φ vs v W → φ vs v W') ∧ KeepsP Le F φs
def KeepsA (Le : World → World → Prop) (F : World → Prop) : List (World → Prop) → Prop
  | [] => True
  | b :: bs => (∀ W W', F W → Le W W' → b W → b W') ∧ KeepsA Le F bs
/-- The operation that makes what the first slot holds that i looks at. -/
def hdN (nw : List Bool) (ds : List (Option Tmp)) (tss : List (List Tmp)) (i : Nat) : Option Nat := match (tss.getD i []).head? with
  | some t => (List.range ds.length).find? fun n => (match ds.getD n none with
    | some d => Nat.beq d t
    | none => false) && nw.getD n false
  | none => none
/-- Is what i makes, or writes to, apart from what j writes to? -/
def apB (nw : List Bool) (ds : List (Option Tmp)) (tss : List (List Tmp)) (i j : Nat) : Bool := nw.getD i false && match hdN nw ds tss j with
  | some n => !Nat.beq n i
  | none => false
def ap2B (nw : List Bool) (ds : List (Option Tmp)) (tss : List (List Tmp)) (i j : Nat) : Bool := match hdN nw ds tss i, hdN nw ds tss j with
  | some m, some n => !Nat.beq m n
  | _, _ => false
theorem hdN_spec {nw : List Bool} {ds : List (Option Tmp)} {tss : List (List Tmp)} {ops : Array Oper} (hds : ops.toList.map (·.dst) = ds) {i n : Nat} (h : hdN nw ds tss i = some n) : ∃ t rest on, tss.getD i [] = t :: rest ∧ ops[n]? = some on ∧ on.dst = some t ∧ nw.getD n false = true := by
  unfold hdN at h
  cases hl : tss.getD i [] with
  | nil => rw [hl] at h; cases h
  | cons t rest =>
    rw [hl] at h
    simp only [List.head?_cons] at h
    have h1 := List.find?_some h
    rw [Bool.and_eq_true] at h1
    obtain ⟨hnt, hnw⟩ := h1
    rw [List.getD_eq_getElem?_getD, ← hds, List.getElem?_map, Array.getElem?_toList] at hnt
    cases hon : ops[n]? with
    | none => rw [hon] at hnt; cases hnt
    | some on =>
      rw [hon] at hnt
      refine ⟨t, rest, on, rfl, rfl, ?_, hnw⟩
      cases hdn : on.dst with
      | none => simp [hdn] at hnt
      | some d =>
        simp [hdn] at hnt
        rw [hnt]
def KeepsI (F : World → Prop) (R : List Value → World → World → Prop) (ap ap2 : Nat → Bool) (kl : List Nat) (j : Nat) : Nat → List Fact → Prop
  | _, [] => True
  | i, φ :: φs => (bif kl.contains i || Nat.beq i j then True else ∀ vs v bs W W', F W → R bs W W' → (ap i = true → Apt v (bs.getD 0 undef)) → (ap2 i = true → Apt (vs.getD 0 undef) (bs.getD 0 undef)) → φ vs v W → φ vs v W') ∧ KeepsI F R ap ap2 kl j (i + 1) φs
def KeepsJ (F : World → Prop) (R : List Value → World → World → Prop) (kl : List Nat) : Nat → List (World → Prop) → Prop
  | _, [] => True
  | i, b :: bs => (bif kl.contains i then True else ∀ vs W W', F W → R vs W W' → b W → b W') ∧ KeepsJ F R kl (i + 1) bs
def KeepsW (F : World → Prop) (bs : List (World → Prop)) (φs : List Fact) (nw : List Bool) (ds : List (Option Tmp)) (tss : List (List Tmp)) (ks kbs wts : List (List Nat)) : List (Nat × (List Value → World → World → Prop)) → Prop
  | [] => True
  | (j, R) :: rest => (∀ vs W W', F W → R vs W W' → F W' ∧ W.heap.size ≤ W'.heap.size) ∧ KeepsI F R (fun i => apB nw ds tss i j) (fun i => ap2B nw ds tss i j) (ks.getD j [] ++ wts.getD j []) j 0 φs ∧ KeepsJ F R (kbs.getD j []) 0 bs ∧ KeepsW F bs φs nw ds tss ks kbs wts rest

/-- Those told to wait for j do. -/
def waitsB (wts : List (List Nat)) (ops : Array Oper) : Bool := (List.range ops.size).all fun j => (wts.getD j []).all fun i => reachB ops ops.size i j
def allKills (ks : List (List Nat)) (i : Nat) : Bool := ks.any fun l => l.contains i
def atE (ds : List Tmp) (a0 : Act) (f : Tmp → Value) : Operand → Value
  | .tmp t => atEnd ds a0 f t
  | _ => undef
def EndsU (ds : List Tmp) (a0 : Act) (f : Tmp → Value) (W : World) (ks : List (List Nat)) : Nat → List (Option Tmp) → List (List Tmp) → List Fact → Prop
  | i, d :: dl, ts :: tss, φ :: φs => (bif allKills ks i then True else φ (argsAt (atE ds a0 f) ts) (match d with
    | some t => f t
    | none => undef) W) ∧ EndsU ds a0 f W ks (i + 1) dl tss φs
  | _, _, _, _ => True
def EndsB (W : World) (kbs : List (List Nat)) : Nat → List (World → Prop) → Prop
  | _, [] => True
  | m, b :: bs => (bif allKills kbs m then True else b W) ∧ EndsB W kbs (m + 1) bs
def newsU : List Bool → List (Option Tmp) → List Tmp
  | true :: nw, some t :: ds => t :: newsU nw ds
  | _ :: nw, _ :: ds => newsU nw ds
  | _, _ => []

theorem lookU_at : ∀ {ds : List (Option Tmp)} {tss : List (List Tmp)} {φs : List Fact} {i : Nat} {t : Tmp} {ts : List Tmp} {φ : Fact}, ds[i]? = some (some t) → tss[i]? = some ts → φs[i]? = some φ → (∀ j, ds[j]? = some (some t) → j = i) → lookU ds tss φs t = some (ts, φ)
  | some d :: ds, ts' :: tss, φ' :: φs, 0, t, ts, φ, h1, h2, h3, _ => by
    obtain rfl : d = t := by simpa using h1
    obtain rfl : ts' = ts := by simpa using h2
    obtain rfl : φ' = φ := by simpa using h3
    unfold lookU
    have : Nat.beq d d = true := Nat.beq_refl d
    rw [this]; rfl
  | some d :: ds, ts' :: tss, φ' :: φs, i + 1, t, ts, φ, h1, h2, h3, hu => by
    unfold lookU
    have hne : Nat.beq d t = false := by
      cases hb : Nat.beq d t
      · rfl
      · have e : d = t := Nat.eq_of_beq_eq_true hb
        have := hu 0 (by rw [e]; rfl)
        omega
    rw [hne]
    exact lookU_at (ds := ds) (tss := tss) (φs := φs) (i := i) (by simpa using h1) (by simpa using h2) (by simpa using h3) (fun j hj => by have := hu (j + 1) (by simpa using hj); omega)
  | none :: ds, _ :: tss, _ :: φs, 0, t, ts, φ, h1, _, _, _ => by simp at h1
  | none :: ds, _ :: tss, _ :: φs, i + 1, t, ts, φ, h1, h2, h3, hu => by
    unfold lookU
    exact lookU_at (ds := ds) (tss := tss) (φs := φs) (i := i) (by simpa using h1) (by simpa using h2) (by simpa using h3) (fun j hj => by have := hu (j + 1) (by simpa using hj); omega)
  | [], _, _, _, _, _, _, h1, _, _, _ => by simp at h1
  | _ :: _, [], _, _, _, _, _, _, h2, _, _ => by simp at h2
  | _ :: _, _ :: _, [], _, _, _, _, _, _, h3, _ => by simp at h3
theorem lookU_mem {t : Tmp} {x : List Tmp × Fact} : ∀ {ds : List (Option Tmp)} {tss : List (List Tmp)} {φs : List Fact}, lookU ds tss φs t = some x → some t ∈ ds
  | some d :: ds, ts' :: tss, φ' :: φs, h => by
    unfold lookU at h
    cases hb : Nat.beq d t
    · rw [hb] at h
      exact List.mem_cons_of_mem _ (lookU_mem h)
    · rw [Nat.eq_of_beq_eq_true hb]
      exact List.mem_cons_self
  | none :: ds, _ :: tss, _ :: φs, h => List.mem_cons_of_mem _ (lookU_mem (ds := ds) (tss := tss) (φs := φs) h)
  | [], _, _, h => by simp [lookU] at h
  | some _ :: _, [], _, h => by simp [lookU] at h
  | none :: _, [], _, h => by simp [lookU] at h
  | some _ :: _, _ :: _, [], h => by simp [lookU] at h
  | none :: _, _ :: _, [], h => by simp [lookU] at h
theorem slotsU_of {ds : List (Option Tmp)} {tss : List (List Tmp)} {φs : List Fact} {a0 : Act} {ρ : Operand → Value} {W : World} : ∀ {ts : List Tmp}, (∀ t ∈ ts, slotU ds tss φs a0 ρ W t) → slotsU ds tss φs a0 ρ W ts
  | [], _ => trivial
  | t :: _, h => ⟨h t (by simp), slotsU_of fun u hu => h u (by simp [hu])⟩
theorem baseU_of {bs : List (World → Prop)} {W : World} : ∀ {ms : List Nat}, (∀ m ∈ ms, ∀ b, bs[m]? = some b → b W) → baseU bs W ms
  | [], _ => trivial
  | m :: _, h => ⟨by
      rw [List.getD_eq_getElem?_getD]
      cases hb : bs[m]? with
      | none => trivial
      | some b => exact h m (by simp) b hb, baseU_of fun u hu => h u (by simp [hu])⟩
theorem asksU_at {bs : List (World → Prop)} {ds : List (Option Tmp)} {tss : List (List Tmp)} {φs : List Fact} {a0 : Act} {Rs : Nat → List Value → World → World → Prop} {nw : List Bool} {us : List (List Nat)} : ∀ {l : List Oper} {rest : List Fact} {more : List (List Tmp)} {k : Nat}, AsksU P F bs ds tss φs a0 Rs nw us k l rest more → ∀ {i : Nat} {o : Oper}, l[i]? = some o →
    ∃ φ ts, rest[i]? = some φ ∧ more[i]? = some ts ∧ AskU P F bs ds tss φs a0 (Rs (k + i)) (nw.getD (k + i) false) (us.getD (k + i) []) o φ ts
  | o' :: _, φ :: _, ts :: _, k, h, 0, o, hi => by
    obtain rfl : o' = o := by simpa using hi
    exact ⟨φ, ts, rfl, rfl, h.1⟩
  | _ :: _, _ :: _, _ :: _, k, h, i + 1, o, hi => by
    obtain ⟨φ, ts, h1, h2, h3⟩ := asksU_at h.2 (i := i) (o := o) (by simpa using hi)
    refine ⟨φ, ts, by simpa using h1, by simpa using h2, ?_⟩
    rwa [show k + (i + 1) = k + 1 + i by omega]
  | [], _, _, _, _, _, _, hi => by simp at hi
  | _ :: _, [], _, _, h, _, _, _ => h.elim
  | _ :: _, _ :: _, [], _, h, _, _, _ => h.elim
theorem keepsP_at : ∀ {φs : List Fact}, KeepsP Le F φs → ∀ {i : Nat} {φ : Fact}, φs[i]? = some φ → ∀ vs v W W', F W → Le W W' → φ vs v W → φ vs v W'
  | φ' :: _, h, 0, φ, hi => by
    obtain rfl : φ' = φ := by simpa using hi
    exact h.1
  | _ :: _, h, i + 1, φ, hi => keepsP_at h.2 (i := i) (by simpa using hi)
  | [], _, _, _, hi => by simp at hi
theorem keepsA_at : ∀ {bs : List (World → Prop)}, KeepsA Le F bs → ∀ {i : Nat} {b : World → Prop}, bs[i]? = some b → ∀ W W', F W → Le W W' → b W → b W'
  | b' :: _, h, 0, b, hi => by
    obtain rfl : b' = b := by simpa using hi
    exact h.1
  | _ :: _, h, i + 1, b, hi => keepsA_at h.2 (i := i) (by simpa using hi)
  | [], _, _, _, hi => by simp at hi
theorem keepsI_at {R : List Value → World → World → Prop} {ap ap2 : Nat → Bool} {kl : List Nat} {j : Nat} : ∀ {φs : List Fact} {k : Nat}, KeepsI F R ap ap2 kl j k φs → ∀ {i : Nat} {φ : Fact}, φs[i]? = some φ → k + i ∉ kl → k + i ≠ j → ∀ vs v bs W W', F W → R bs W W' → (ap (k + i) = true → Apt v (bs.getD 0 undef)) → (ap2 (k + i) = true → Apt (vs.getD 0 undef) (bs.getD 0 undef)) → φ vs v W → φ vs v W'
  | φ' :: _, k, h, 0, φ, hi, hk, hj => by
    obtain rfl : φ' = φ := by simpa using hi
    have h1 := h.1
    have e : (kl.contains k || Nat.beq k j) = false := by
      have a1 : kl.contains k = false := by simpa using hk
      have a2 : Nat.beq k j = false := by
        cases hb : Nat.beq k j
        · rfl
        · exact absurd (Nat.eq_of_beq_eq_true hb) hj
      rw [a1, a2]; rfl
    rw [e] at h1
    exact h1
  | _ :: _, k, h, i + 1, φ, hi, hk, hj => by
    have := keepsI_at h.2 (i := i) (φ := φ) (by simpa using hi) (by rwa [show k + 1 + i = k + (i + 1) by omega]) (by omega)
    rwa [show k + 1 + i = k + (i + 1) by omega] at this
  | [], _, _, _, _, hi, _, _ => by simp at hi
theorem keepsJ_at {R : List Value → World → World → Prop} {kl : List Nat} : ∀ {bs : List (World → Prop)} {k : Nat}, KeepsJ F R kl k bs → ∀ {i : Nat} {b : World → Prop}, bs[i]? = some b → k + i ∉ kl → ∀ vs W W', F W → R vs W W' → b W → b W'
  | b' :: _, k, h, 0, b, hi, hk => by
    obtain rfl : b' = b := by simpa using hi
    have h1 := h.1
    have e : kl.contains k = false := by simpa using hk
    rw [e] at h1
    exact h1
  | _ :: _, k, h, i + 1, b, hi, hk => keepsJ_at h.2 (i := i) (by simpa using hi) (by rwa [show k + 1 + i = k + (i + 1) by omega])
  | [], _, _, _, _, hi, _ => by simp at hi

/-- What any operation leaves. -/
theorem step_keeps {bs : List (World → Prop)} {φs : List Fact} {nw : List Bool} {ds : List (Option Tmp)} {tss : List (List Tmp)} {ks kbs wts : List (List Nat)} (hF : ∀ W W', F W → Le W W' → F W' ∧ W.heap.size ≤ W'.heap.size) (hp : KeepsP Le F φs) (ha : KeepsA Le F bs) (j : Nat) :
    ∀ {wr : List (Nat × (List Value → World → World → Prop))}, KeepsW F bs φs nw ds tss ks kbs wts wr → ∀ vs W W', F W → wrOf Le wr j vs W W' →
      F W' ∧ W.heap.size ≤ W'.heap.size ∧ (∀ i φ, φs[i]? = some φ → i ∉ ks.getD j [] ++ wts.getD j [] → i ≠ j → ∀ vs' v, (apB nw ds tss i j = true → Apt v (vs.getD 0 undef)) → (ap2B nw ds tss i j = true → Apt (vs'.getD 0 undef) (vs.getD 0 undef)) → φ vs' v W → φ vs' v W') ∧ (∀ m b, bs[m]? = some b → m ∉ kbs.getD j [] → b W → b W')
  | [], _, vs, W, W', h, hr => ⟨(hF _ _ h hr).1, (hF _ _ h hr).2, fun i φ hi _ _ vs' v _ _ h2 => keepsP_at hp hi vs' v W W' h hr h2, fun m b hm _ h2 => keepsA_at ha hm W W' h hr h2⟩
  | (k, R) :: rest, hw, vs, W, W', h, hr => by
    unfold wrOf at hr
    cases hb : Nat.beq k j
    · rw [hb] at hr
      exact step_keeps hF hp ha j hw.2.2.2 vs W W' h hr
    · rw [hb] at hr
      obtain rfl : k = j := Nat.eq_of_beq_eq_true hb
      obtain ⟨h1, h2, h3, -⟩ := hw
      refine ⟨(h1 vs W W' h hr).1, (h1 vs W W' h hr).2, fun i φ hi hk hj vs' v hap hap2 h4 => ?_, fun m b hm hk h4 => ?_⟩
      · have := keepsI_at h2 hi (by rwa [Nat.zero_add]) (by simpa using hj) vs' v vs W W' h hr (by simpa using hap) (by simpa using hap2)
        exact this h4
      · exact keepsJ_at h3 hm (by simpa using hk) vs W W' h hr h4

theorem argsAt_congr {ρ ρ' : Operand → Value} {ts : List Tmp} (h : ∀ t ∈ ts, ρ (.tmp t) = ρ' (.tmp t)) : argsAt ρ ts = argsAt ρ' ts := List.map_congr_left fun t ht => h t ht

/-- One more operation. -/
theorem good_uni {bs : List (World → Prop)} {φs : List Fact} {nw : List Bool} {ds : List (Option Tmp)} {tss : List (List Tmp)} {ks kbs wts : List (List Nat)} {wr : List (Nat × (List Value → World → World → Prop))} {a0 : Act} {ops : Array Oper} {listed : Array Bool} {a : Act} {W W' : World} {i : Nat} {o : Oper} {φ : Fact} {v : Value}
    (hB : depsB a0.tmps.size ops = true) (hls : listed.size = ops.size) (hds : ops.toList.map (·.dst) = ds) (hts : ops.toList.map (·.looksAt ops) = tss) (hF : ∀ W W', F W → Le W W' → F W' ∧ W.heap.size ≤ W'.heap.size) (hp : KeepsP Le F φs) (ha : KeepsA Le F bs) (hw : KeepsW F bs φs nw ds tss ks kbs wts wr) (hW : waitsB wts ops = true)
    (hi : ops[i]? = some o) (hφ : φs[i]? = some φ) (hun : listed.getD i false = false) (hall : ∀ e ∈ o.after, Region.binds .any e = true → listed.getD e.on false = true)
    (hg : GoodU F bs φs nw ks kbs a0 ops listed a W) (hR : wrOf Le wr i (argsAt a.eval (o.looksAt ops)) W W') (hv : φ (argsAt a.eval (o.looksAt ops)) (dstV o v) W') (hn : NewV (nw.getD i false) v W W') (hnd : nw.getD i false = true → o.dst ≠ none) :
    GoodU F bs φs nw ks kbs a0 ops (listed.setIfInBounds i true) (a.put o.dst v) W' := by
  obtain ⟨hd1, hd2, hd3⟩ := depsB_at hB hi
  have hlt : i < ops.size := (Array.getElem?_eq_some_iff.1 hi).1
  have hset : ∀ j, j ≠ i → (listed.setIfInBounds i true).getD j false = listed.getD j false := fun j hj => getD_set_ne false (fun e => hj e.symm)
  have hseti : (listed.setIfInBounds i true).getD i false = true := by
    have : i < listed.size := by omega
    simp [this]
  -- slots of others stay
  have hlook : ∀ (k : Nat) (ok : Oper), ops[k]? = some ok → (k = i ∨ listed.getD k false = true) → ∀ t ∈ ok.looksAt ops, (a.put o.dst v).eval (.tmp t) = a.eval (.tmp t) := by
    intro k ok hk hkl t ht
    refine Act.eval_put fun d hd e => ?_
    have e2 : t = d := by simpa using e
    subst e2
    obtain ⟨-, h2, h3⟩ := depsB_at hB hk
    obtain ⟨e, he, hb, hon⟩ := h2 t ht i o hi hd
    rcases hkl with rfl | hkl
    · have := h3 e he hb; omega
    · have := hg.closed k ok hk hkl e he hb
      rw [hon, hun] at this; cases this
  have hval : ∀ (k : Nat) (ok : Oper), k ≠ i → ops[k]? = some ok → valAt (a.put o.dst v).eval ok = valAt a.eval ok := by
    intro k ok hki hk
    unfold valAt
    cases hd : ok.dst with
    | none => rfl
    | some t =>
      refine Act.eval_put fun d hd' e => ?_
      have e2 : t = d := by simpa using e
      subst e2
      exact hki (((depsB_at hB hi).1 t hd').2 k ok hk hd)
  have hvali : valAt (a.put o.dst v).eval o = dstV o v := by
    unfold valAt dstV
    cases hd : o.dst with
    | none => rfl
    | some t => exact eval_put_same a (by rw [hg.size]; exact (hd1 t hd).1) v
  have hself : ∀ (ok : Oper), ops[i]? = some ok → ok = o := fun ok hk => by rw [hi] at hk; exact (Option.some.inj hk).symm
  obtain ⟨hF', hsz, hkp, hkb⟩ := step_keeps hF hp ha i hw _ W W' hg.base hR
  have hnew : nw.getD i false = true → ∀ q, blkU (valAt (a.put o.dst v).eval o) = some q → W.heap.size ≤ q ∧ q < W'.heap.size := fun h q hq => by
    rw [h] at hn
    refine hn q ?_
    rw [hvali] at hq
    unfold dstV at hq
    cases hd : o.dst with
    | none => exact absurd hd (hnd h)
    | some t => rw [hd] at hq; exact hq
  refine ⟨by cases o.dst <;> exact hg.defers, by cases o.dst <;> simp [Act.put, hg.size], hF', hg.closed.set hi hall, ?_, ?_, ?_, ?_, ?_⟩
  · intro m b hm hal
    refine hkb m b hm (fun hk => ?_) (hg.facts m b hm fun j hj => ?_)
    · have := hal i hk
      rw [hseti] at this; cases this
    · have := hal j hj
      by_cases hji : j = i
      · rw [hji]; exact hun
      · rwa [hset j hji] at this
  · intro k ok φk hk hφk hal
    by_cases hki : k = i
    · subst hki
      obtain rfl := hself ok hk
      rw [hφ] at hφk
      obtain rfl := Option.some.inj hφk
      rw [hvali, argsAt_congr (ρ' := a.eval) (hlook k ok hk (.inl rfl))]
      exact hv
    · have hlk : listed.getD k false = true := by have := hal.1; rwa [hset k hki] at this
      rw [hval k ok hki hk, argsAt_congr (ρ' := a.eval) (hlook k ok hk (.inr hlk))]
      have hti : tss.getD i [] = o.looksAt ops := by
        rw [← hts, List.getD_eq_getElem?_getD, List.getElem?_map, Array.getElem?_toList, hi]; rfl
      have htk : tss.getD k [] = ok.looksAt ops := by
        rw [← hts, List.getD_eq_getElem?_getD, List.getElem?_map, Array.getElem?_toList, hk]; rfl
      have hin : ∀ n, hdN nw ds tss i = some n → ∃ on, ops[n]? = some on ∧ nw.getD n false = true ∧ listed.getD n false = true ∧ (argsAt a.eval (o.looksAt ops)).getD 0 undef = valAt a.eval on := fun n hn => by
        obtain ⟨t, rest, on, h1, h2, h3, h4⟩ := hdN_spec hds hn
        rw [hti] at h1
        obtain ⟨e, he, hb, hen⟩ := hd2 t (by rw [h1]; simp) n on h2 h3
        have hln := hall e he hb
        rw [hen] at hln
        exact ⟨on, h2, h4, hln, by rw [h1]; simp [argsAt, valAt, h3]⟩
      have hkn : ∀ n, hdN nw ds tss k = some n → ∃ on, ops[n]? = some on ∧ nw.getD n false = true ∧ listed.getD n false = true ∧ (argsAt a.eval (ok.looksAt ops)).getD 0 undef = valAt a.eval on := fun n hn => by
        obtain ⟨t, rest, on, h1, h2, h3, h4⟩ := hdN_spec hds hn
        rw [htk] at h1
        obtain ⟨e, he, hb, hen⟩ := (depsB_at hB hk).2.1 t (by rw [h1]; simp) n on h2 h3
        have hln := hg.closed k ok hk hlk e he hb
        rw [hen] at hln
        exact ⟨on, h2, h4, hln, by rw [h1]; simp [argsAt, valAt, h3]⟩
      refine hkp k φk hφk (fun h => ?_) hki _ _ (fun hap => ?_) (fun hap => ?_) (hg.done k ok φk hk hφk ⟨hlk, fun j hj => ?_⟩)
      · rcases List.mem_append.1 h with h | h
        · have := hal.2 i h
          rw [hseti] at this; cases this
        · have h6 := List.all_eq_true.1 (List.all_eq_true.1 hW i (List.mem_range.2 hlt)) k h
          have h7 := reach_listed hg.closed _ _ _ h6 (fun o' ho' => hg.closed k o' ho' hlk) ok hk
          rw [hun] at h7; cases h7
      · unfold apB at hap
        rw [Bool.and_eq_true] at hap
        obtain ⟨hnk, hap⟩ := hap
        cases hh : hdN nw ds tss i with
        | none => rw [hh] at hap; cases hap
        | some n =>
          rw [hh] at hap
          obtain ⟨on, h1, h2, h3, h4⟩ := hin n hh
          rw [h4]
          exact hg.apart k n ok on (fun e => by subst e; simp at hap) hk h1 hnk h2 hlk h3
      · unfold ap2B at hap
        cases hh : hdN nw ds tss i with
        | none =>
          rw [hh] at hap
          cases hh2 : hdN nw ds tss k with
          | none => rw [hh2] at hap; cases hap
          | some m => rw [hh2] at hap; cases hap
        | some n =>
          rw [hh] at hap
          cases hh2 : hdN nw ds tss k with
          | none => rw [hh2] at hap; cases hap
          | some m =>
            rw [hh2] at hap
            obtain ⟨on, h1, h2, h3, h4⟩ := hin n hh
            obtain ⟨om, g1, g2, g3, g4⟩ := hkn m hh2
            rw [h4, g4]
            exact hg.apart m n om on (fun e => by subst e; simp at hap) g1 h1 g2 h2 g3 h3
      · have := hal.2 j hj
        by_cases hji : j = i
        · rw [hji]; exact hun
        · rwa [hset j hji] at this
  · intro t ht
    have h5 : (a.put o.dst v).eval (.tmp t) = a.eval (.tmp t) := Act.eval_put fun d hd e => by
      have e2 : t = d := by simpa using e
      subst e2
      have := ht i o hi hd
      rw [hseti] at this; cases this
    rw [h5]
    refine hg.other t fun j oj hj hdj => ?_
    have := ht j oj hj hdj
    by_cases hji : j = i
    · rw [hji]; exact hun
    · rwa [hset j hji] at this
  · intro k ok hk hnk hlk q hq
    by_cases hki : k = i
    · subst hki
      obtain rfl := hself ok hk
      exact (hnew hnk q hq).2
    · rw [hset k hki] at hlk
      rw [hval k ok hki hk] at hq
      have := hg.newb k ok hk hnk hlk q hq
      omega
  · intro k j ok oj hkj hk hj hnk hnj hlk hlj
    by_cases hki : k = i
    · subst hki
      obtain rfl := hself ok hk
      have hjk : j ≠ k := Ne.symm hkj
      rw [hset j hjk] at hlj
      intro q h1 h2
      have h3 := hnew hnk q h1
      rw [hval j oj hjk hj] at h2
      have h4 := hg.newb j oj hj hnj hlj q h2
      omega
    · rw [hset k hki] at hlk
      rw [hval k ok hki hk]
      by_cases hji : j = i
      · subst hji
        obtain rfl := hself oj hj
        intro q h1 h2
        have h3 := hnew hnj q h2
        have h4 := hg.newb k ok hk hnk hlk q h1
        omega
      · rw [hset j hji] at hlj
        rw [hval j oj hji hj]
        exact hg.apart k j ok oj hkj hk hj hnk hnj hlk hlj

theorem endsU_of {ds : List Tmp} {a0 : Act} {f : Tmp → Value} {W : World} {ks : List (List Nat)} : ∀ {dl : List (Option Tmp)} {tss : List (List Tmp)} {φs : List Fact} {k : Nat}, (∀ (i : Nat) (d : Option Tmp) (ts : List Tmp) (φ : Fact), dl[i]? = some d → tss[i]? = some ts → φs[i]? = some φ → allKills ks (k + i) = false → φ (argsAt (atE ds a0 f) ts) (match d with
    | some t => f t
    | none => undef) W) → EndsU ds a0 f W ks k dl tss φs
  | d :: dl, ts :: tss, φ :: φs, k, h => ⟨by
      cases hk : allKills ks k
      · exact h 0 d ts φ rfl rfl rfl hk
      · trivial, endsU_of fun i d' ts' φ' h1 h2 h3 h4 => h (i + 1) d' ts' φ' (by simpa using h1) (by simpa using h2) (by simpa using h3) (by rwa [show k + (i + 1) = k + 1 + i by omega])⟩
  | [], _, _, _, _ => by simp [EndsU]
  | _ :: _, [], _, _, _ => by simp [EndsU]
  | _ :: _, _ :: _, [], _, _ => by simp [EndsU]
theorem endsB_of {W : World} {kbs : List (List Nat)} : ∀ {bs : List (World → Prop)} {k : Nat}, (∀ (i : Nat) (b : World → Prop), bs[i]? = some b → allKills kbs (k + i) = false → b W) → EndsB W kbs k bs
  | [], _, _ => trivial
  | b :: bs, k, h => ⟨by
      cases hk : allKills kbs k
      · exact h 0 b rfl hk
      · trivial, endsB_of fun i b' h1 h2 => h (i + 1) b' (by simpa using h1) (by rwa [show k + (i + 1) = k + 1 + i by omega])⟩
theorem not_killed {ks : List (List Nat)} {i : Nat} (h : allKills ks i = false) (j : Nat) : i ∉ ks.getD j [] := by
  intro hm
  unfold allKills at h
  rw [List.any_eq_false] at h
  cases hj : ks[j]? with
  | none => simp [List.getD_eq_getElem?_getD, hj] at hm
  | some l =>
    have := h l (List.mem_of_getElem? hj)
    simp [List.getD_eq_getElem?_getD, hj] at hm
    simp [hm] at this
theorem newsU_mem : ∀ {nw : List Bool} {ds : List (Option Tmp)} {t : Tmp}, t ∈ newsU nw ds → ∃ i : Nat, nw[i]? = some true ∧ ds[i]? = some (some t)
  | true :: nw, some d :: ds, t, h => by
    rcases List.mem_cons.1 h with rfl | h
    · exact ⟨0, rfl, rfl⟩
    · obtain ⟨i, h1, h2⟩ := newsU_mem h
      exact ⟨i + 1, by simpa using h1, by simpa using h2⟩
  | true :: nw, none :: ds, t, h => by
    obtain ⟨i, h1, h2⟩ := newsU_mem (nw := nw) (ds := ds) h
    exact ⟨i + 1, by simpa using h1, by simpa using h2⟩
  | false :: nw, _ :: ds, t, h => by
    obtain ⟨i, h1, h2⟩ := newsU_mem (nw := nw) (ds := ds) h
    exact ⟨i + 1, by simpa using h1, by simpa using h2⟩
  | [], _, _, h => by simp [newsU] at h
  | true :: _, [], _, h => by simp [newsU] at h
  | false :: _, [], _, h => by simp [newsU] at h
theorem apartU_of {f : Tmp → Value} : ∀ {nw : List Bool} {ds : List (Option Tmp)}, (∀ (i j : Nat) (t u : Tmp), i ≠ j → nw[i]? = some true → ds[i]? = some (some t) → nw[j]? = some true → ds[j]? = some (some u) → Apt (f t) (f u)) → AptL f (newsU nw ds)
  | true :: nw, some d :: ds, h => ⟨fun u hu => by
      obtain ⟨i, h1, h2⟩ := newsU_mem hu
      exact h 0 (i + 1) d u (by omega) rfl rfl (by simpa using h1) (by simpa using h2), apartU_of (nw := nw) (ds := ds) fun i j t u hij h1 h2 h3 h4 => h (i + 1) (j + 1) t u (by omega) (by simpa using h1) (by simpa using h2) (by simpa using h3) (by simpa using h4)⟩
  | true :: nw, none :: ds, h => apartU_of (nw := nw) (ds := ds) fun i j t u hij h1 h2 h3 h4 => h (i + 1) (j + 1) t u (by omega) (by simpa using h1) (by simpa using h2) (by simpa using h3) (by simpa using h4)
  | false :: nw, _ :: ds, h => apartU_of (nw := nw) (ds := ds) fun i j t u hij h1 h2 h3 h4 => h (i + 1) (j + 1) t u (by omega) (by simpa using h1) (by simpa using h2) (by simpa using h3) (by simpa using h4)
  | [], _, _ => by simp [newsU, AptL]
  | true :: _, [], _ => by simp [newsU, AptL]
  | false :: _, [], _ => by simp [newsU, AptL]
def AllB (W : World) : List (World → Prop) → Prop
  | [] => True
  | b :: bs => b W ∧ AllB W bs
theorem allB_at {W : World} : ∀ {bs : List (World → Prop)}, AllB W bs → ∀ {m : Nat} {b : World → Prop}, bs[m]? = some b → b W
  | b' :: _, h, 0, b, hi => by
    obtain rfl : b' = b := by simpa using hi
    exact h.1
  | _ :: _, h, m + 1, b, hi => allB_at h.2 (m := m) (by simpa using hi)
  | [], _, _, _, hi => by simp at hi
def newsOk (nw : List Bool) (ds : List (Option Tmp)) : Bool := (List.range nw.length).all fun i => !nw.getD i false || (ds.getD i none).isSome

/-- **EVERY ORDER AT ONCE, with operations that write.** Beside the operations: `ts` the slots that each looks at, `φs` what holds behind each, `nw` whether it makes a block, `ks` whose facts it ends, `us` which of the facts `bs` it uses, `kbs` which of those it ends, `wts` who waits for it; `wr` what those do that write. -/
theorem wp_region_uni {id : Nat} {Q : Exit → Act → World → Prop} {a : Act} {w : World} {l : List Oper} (ds : List (Option Tmp)) (ts : List (List Tmp)) (φs : List Fact) (nw : List Bool) (ks us kbs wts : List (List Nat)) (bs : List (World → Prop)) (wr : List (Nat × (List Value → World → World → Prop)))
    (hm : P.follows .mixedOrders = true) (hB : depsB a.tmps.size l.toArray = true) (hg : l.all (fun o => o.guard.isNone) = true) (hds : l.map (·.dst) = ds) (hts : l.map (·.looksAt l.toArray) = ts) (hE : endsB ks us kbs l.toArray = true) (hW : waitsB wts l.toArray = true) (hN : newsOk nw ds = true)
    (Le : World → World → Prop) (F : World → Prop) (hF : ∀ W W', F W → Le W W' → F W' ∧ W.heap.size ≤ W'.heap.size) (hp : KeepsP Le F φs) (ha : KeepsA Le F bs) (hw : KeepsW F bs φs nw ds ts ks kbs wts wr)
    (h0 : F w.drew) (hb : AllB w.drew bs) (hO : AsksU P F bs ds ts φs a (wrOf Le wr) nw us 0 l φs ts)
    (hend : ∀ (f : Tmp → Value) (W : World), F W → EndsU (ds.filterMap (fun d => d)) a f W ks 0 ds ts φs → EndsB W kbs 0 bs → AptL f (newsU nw ds) → Q .normal (fin a (ds.filterMap (fun d => d)) f) W) : (Code.region id l.toArray true).wp P Q a w := by
  have hdsts : dsts l.toArray = ds.filterMap (fun d => d) := by rw [← hds]; unfold dsts; rw [List.filterMap_map]; rfl
  have hG : ∀ (i : Nat) (o : Oper), l.toArray[i]? = some o → o.guard = none := fun i o hi => by
    have := List.all_eq_true.1 hg o (List.mem_of_getElem? (by simpa using hi))
    simpa using this
  have hnd : ∀ (i : Nat) (o : Oper), l.toArray[i]? = some o → nw.getD i false = true → o.dst ≠ none := fun i o hi hn => by
    have hlt : i < nw.length := by
      rcases Nat.lt_or_ge i nw.length with h | h
      · exact h
      · simp [List.getD_eq_getElem?_getD, List.getElem?_eq_none h] at hn
    have h1 := List.all_eq_true.1 hN i (List.mem_range.2 hlt)
    rw [hn, ← hds, List.getD_eq_getElem?_getD, List.getElem?_map, show l[i]? = some o by simpa using hi] at h1
    intro h2
    simp [h2] at h1
  have hat : ∀ {i : Nat} {o : Oper} {t : Tmp} {φ : Fact}, l[i]? = some o → o.dst = some t → φs[i]? = some φ → lookU ds ts φs t = some (o.looksAt l.toArray, φ) := by
    intro i o t φ hi hd hp
    refine lookU_at (i := i) (by rw [← hds, List.getElem?_map, hi]; simp [hd]) (by rw [← hts, List.getElem?_map, hi]; rfl) hp fun j hj => ?_
    rw [← hds, List.getElem?_map] at hj
    cases hlj : l[j]? with
    | none => rw [hlj] at hj; cases hj
    | some oj =>
      rw [hlj] at hj
      exact ((depsB_at hB (i := i) (o := o) (by simpa using hi)).1 t hd).2 j oj (by simpa using hlj) (by simpa using hj)
  refine wp_region_any hm ?_
  have hend' : ∀ (listed : Array Bool) (a' : Act) (W : World), (∀ i, i < l.toArray.size → listed.getD i false = true) → GoodU F bs φs nw ks kbs a l.toArray listed a' W → (∀ j, l.toArray.size ≤ j → listed.getD j false = false) → Q .normal a' W := by
    intro listed a' W hall hgd hout
    have hall' : ∀ i o, l.toArray[i]? = some o → listed.getD i false = true := fun i o hi => hall i (Array.getElem?_eq_some_iff.1 hi).1
    rw [act_fin (a := a') (a0 := a) (ds := dsts l.toArray) hgd.defers hgd.size (fun t ht => hgd.other t fun i o hi hd => absurd (mem_dsts.2 ⟨i, o, hi, hd⟩) ht), hdsts]
    have hae : ∀ t, atE (ds.filterMap fun d => d) a (fun t => a'.eval (.tmp t)) (.tmp t) = a'.eval (.tmp t) := fun t => by
      simp only [atE, atEnd]
      cases hc : (ds.filterMap fun d => d).contains t
      · simp only [cond_false]
        refine (hgd.other t fun i o hi hd => ?_).symm
        have : t ∈ dsts l.toArray := mem_dsts.2 ⟨i, o, hi, hd⟩
        rw [hdsts] at this
        simp [this] at hc
      · rfl
    refine hend _ W hgd.base (endsU_of fun i d t φ h1 h2 h3 h4 => ?_) (endsB_of fun m b h1 h2 => hgd.facts m b h1 fun j hj => absurd hj (not_killed (by simpa using h2) j)) (apartU_of fun i j t u hij h1 h2 h3 h4 => ?_)
    · rw [← hds, List.getElem?_map] at h1
      rw [← hts, List.getElem?_map] at h2
      cases hli : l[i]? with
      | none => rw [hli] at h1; cases h1
      | some o =>
        rw [hli] at h1 h2
        have hd : o.dst = d := by simpa using h1
        have ht : o.looksAt l.toArray = t := by simpa using h2
        have hi' : l.toArray[i]? = some o := by simpa using hli
        have h5 := hgd.done i o φ hi' h3 ⟨hall' i o hi', fun j hj => absurd hj (not_killed (by simpa using h4) j)⟩
        rw [ht] at h5
        rw [argsAt_congr (ρ' := a'.eval) fun t _ => hae t]
        subst hd
        exact h5
    · rw [← hds, List.getElem?_map] at h2 h4
      cases hli : l[i]? with
      | none => rw [hli] at h2; cases h2
      | some o =>
        cases hlj : l[j]? with
        | none => rw [hlj] at h4; cases h4
        | some o' =>
          rw [hli] at h2
          rw [hlj] at h4
          have hd : o.dst = some t := by simpa using h2
          have hd' : o'.dst = some u := by simpa using h4
          have hi' : l.toArray[i]? = some o := by simpa using hli
          have hj' : l.toArray[j]? = some o' := by simpa using hlj
          have := hgd.apart i j o o' hij hi' hj' (by simp [List.getD_eq_getElem?_getD, h1]) (by simp [List.getD_eq_getElem?_getD, h3]) (hall' i o hi') (hall' j o' hj')
          unfold valAt at this
          rw [hd, hd'] at this
          exact this
  have main : ∀ (fuel : Nat) (listed : Array Bool) (a' : Act) (W : World), listed.size = l.toArray.size → unl listed l.toArray.size = fuel → GoodU F bs φs nw ks kbs a l.toArray listed a' W →
      wpAny P .any l.toArray Q fuel listed a' W := by
    intro fuel
    induction fuel with
    | zero =>
      intro listed a' W hls hu hgd
      have hall := unl_zero hu
      have hr : Region.ready .any l.toArray listed = [] := by
        rw [List.eq_nil_iff_forall_not_mem]
        intro i hi
        obtain ⟨h1, o, ho, _⟩ := mem_ready.1 hi
        rw [hall i (Array.getElem?_eq_some_iff.1 ho).1] at h1
        cases h1
      exact ⟨hr, hend' listed a' W (all_listed hB hls hr) hgd fun j hj => by
        have : listed.size ≤ j := by omega
        simp [this]⟩
    | succ fuel ih =>
      intro listed a' W hls hu hgd
      refine ⟨fun hr => hend' listed a' W (all_listed hB hls hr) hgd fun j hj => by
        have : listed.size ≤ j := by omega
        simp [this], fun i hi => ?_⟩
      obtain ⟨hun, o, ho, hall⟩ := mem_ready.1 hi
      have hlt : i < l.toArray.size := (Array.getElem?_eq_some_iff.1 ho).1
      have hlo : l[i]? = some o := by simpa using ho
      have hunf : listed.getD i false = false := by
        have : i < listed.size := by omega
        simp [this] at hun ⊢
        exact hun
      obtain ⟨φ, t, h1, h2, h3⟩ := asksU_at hO hlo
      rw [Nat.zero_add] at h3
      have ht : t = o.looksAt l.toArray := by
        rw [← hts, List.getElem?_map, hlo] at h2
        simpa using h2.symm
      subst ht
      have hwait : ∀ j, reachB l.toArray l.toArray.size j i = true → listed.getD j false = false := fun j hr => by
        cases hj : listed.getD j false with
        | false => rfl
        | true =>
          exfalso
          have hjs : j < l.toArray.size := by
            rcases Nat.lt_or_ge j l.toArray.size with h | h
            · exact h
            · have : listed.size ≤ j := by omega
              simp [this] at hj
          have h4 := reach_listed hgd.closed _ _ _ hr (fun o' ho' => hgd.closed j o' ho' hj) l.toArray[j] (Array.getElem?_eq_getElem hjs)
          rw [hunf] at h4; cases h4
      have hends := fun j (hj : j < l.toArray.size) => List.all_eq_true.1 hE j (List.mem_range.2 hj)
      have halive : ∀ k t, t ∈ o.looksAt l.toArray → ∀ ok, l.toArray[k]? = some ok → ok.dst = some t → AliveO ks listed k := fun k t htm ok hk hd => by
        obtain ⟨e, he, hb, hon⟩ := (depsB_at hB ho).2.1 t htm k ok hk hd
        refine ⟨by have := hall e he hb; rwa [hon] at this, fun j hj => ?_⟩
        by_cases hji : j = i
        · rw [hji]; exact hunf
        · rcases Nat.lt_or_ge j l.toArray.size with hjs | hjs
          · have h5 := hends j hjs
            rw [Bool.and_eq_true] at h5
            have h6 := List.all_eq_true.1 (List.all_eq_true.1 h5.1 k hj) i (List.mem_range.2 hlt)
            have hr : readsB l.toArray i k = true := by
              unfold readsB
              simp only [hk, Option.bind_some, hd, ho]
              simpa using htm
            rw [hr] at h6
            refine hwait j ?_
            have hne : (i == j) = false := by simp [Ne.symm hji]
            rw [hne] at h6
            simpa using h6
          · have : listed.size ≤ j := by omega
            simp [this]
      have hask := h3 a'.eval W (Std.eval a') hgd.base (baseU_of fun m hmu b hb => hgd.facts m b hb fun j hj => by
          by_cases hji : j = i
          · rw [hji]; exact hunf
          · rcases Nat.lt_or_ge j l.toArray.size with hjs | hjs
            · have h5 := hends j hjs
              rw [Bool.and_eq_true] at h5
              have h6 := List.all_eq_true.1 (List.all_eq_true.1 h5.2 m hj) i (List.mem_range.2 hlt)
              have hc : (us.getD i []).contains m = true := by simpa using hmu
              rw [hc] at h6
              have hne : (i == j) = false := by simp [Ne.symm hji]
              rw [hne] at h6
              exact hwait j (by simpa using h6)
            · have : listed.size ≤ j := by omega
              simp [this])
        (slotsU_of fun t htm => by
          unfold slotU
          by_cases hmem : t ∈ dsts l.toArray
          · obtain ⟨k, ok, hk, hd⟩ := mem_dsts.1 hmem
            obtain ⟨φk, tk, h4, -, -⟩ := asksU_at hO (i := k) (o := ok) (by simpa using hk)
            rw [hat (by simpa using hk) hd h4]
            have := hgd.done k ok φk hk h4 (halive k t htm ok hk hd)
            unfold valAt at this
            rw [hd] at this
            exact this
          · cases hl : lookU ds ts φs t with
            | some x =>
              exfalso
              refine hmem ?_
              rw [hdsts]
              exact List.mem_filterMap.2 ⟨some t, lookU_mem hl, rfl⟩
            | none => exact hgd.other t fun k ok hk hd => absurd (mem_dsts.2 ⟨k, ok, hk, hd⟩) hmem)
      refine op_out (Le := wrOf Le wr i (argsAt a'.eval (o.looksAt l.toArray))) (φ := fun v W' => φ (argsAt a'.eval (o.looksAt l.toArray)) (dstV o v) W' ∧ NewV (nw.getD i false) v W W') ho (hG i o ho) hask (fun v W' hle hv => ih _ _ _ (by simpa using hls) ?_ ?_)
      · have := unl_set (l := listed) (i := i) hun (by omega) hlt
        omega
      · exact good_uni hB hls (by simpa using hds) (by simpa using hts) hF hp ha hw hW ho h1 hunf hall hgd hle hv.1 hv.2 (hnd i o ho)
  have hcount : ∀ n : Nat, n ≤ l.toArray.size → unl (Array.replicate l.toArray.size false) n = n := by
    intro n
    induction n with
    | zero => intro _; rfl
    | succ n ih =>
      intro hn
      unfold unl
      rw [ih (by omega)]
      have h3 : n < l.length := by simp only [List.size_toArray] at hn; omega
      have : (Array.replicate l.toArray.size false).getD n true = false := by simp [h3]
      rw [this]; simp
  have hfalse : ∀ j, (Array.replicate l.toArray.size false).getD j false = false := fun j => by
    by_cases h : j < l.length <;> simp [h]
  have nope : ∀ {p : Prop} (j : Nat), (Array.replicate l.toArray.size false).getD j false = true → p := fun j h => by rw [hfalse j] at h; cases h
  exact main _ _ a w.drew (by simp) (hcount _ (Nat.le_refl _)) ⟨rfl, rfl, h0, fun j oj hj hl => nope j hl, fun m b hm' _ => allB_at hb hm', fun i o φ _ _ hal => nope i hal.1, fun t _ => rfl, fun i o _ _ hl => nope i hl, fun i j o o' _ _ _ _ _ hl => nope i hl⟩
end Go.RegInv

namespace Go.RegInv
open Mem
variable {P : Program}

/-- Nothing that was there is turned, but the block of the first value, which is of this type and not an old one. -/
def Wr (base : Nat) (T : TypeId) : List Value → World → World → Prop := fun vs W W' => (∀ g, blkU (vs.getD 0 undef) = some g → base ≤ g ∧ ∃ cu, Blk W g T cu) ∧ W.grownBy W' (blkU (vs.getD 0 undef))
theorem Wr.of {base q o : Nat} {T : TypeId} {cs : Array Value} {vs : List Value} {W W' : World} (h0 : vs.getD 0 undef = .pointer (some ⟨q, o, none⟩)) (hq : base ≤ q) (hb : Blk W q T cs) (hg : W.grownBy W' (some q)) : Wr base T vs W W' := by
  unfold Wr
  rw [h0]
  exact ⟨fun g h => by cases h; exact ⟨hq, _, hb⟩, hg⟩
theorem Wr.ofOwn {base n c k : Nat} {T : TypeId} {A : Option Addr} {vs xs : List Value} {W W' : World} (h0 : vs.getD 0 undef = .slice A n c) (ho : W.ownsRow base T k (.slice A n c) n xs) (hg : W.grownBy W' (Value.slice A n c).ownBlock) : Wr base T vs W W' := by
  unfold Wr
  rw [h0]
  rcases ho.2 with ⟨h2, _⟩ | ⟨g, cap, cu, h2, h3, hh, _⟩
  · have hA : A = none := by
      cases A with
      | none => rfl
      | some a => simp at h2
    subst hA
    exact ⟨fun g h => by simp [blkU] at h, hg⟩
  · have hA : A = some ⟨g, 0, none⟩ := by
      simp at h2
      exact h2.1
    subst hA
    exact ⟨fun g' h => by cases h; exact ⟨h3, cu, hh⟩, hg⟩
theorem Wr.ext {W0 W W' : World} {T : TypeId} {vs : List Value} (h : Ext W0 W) (k : Wr W0.heap.size T vs W W') : Ext W0 W' ∧ W.heap.size ≤ W'.heap.size := ⟨h.grownBy k.2 fun g hg => (k.1 g hg).1, k.2.size⟩
theorem blk_wr {base q : Nat} {T T' : TypeId} {cs : Array Value} {vs : List Value} {W W' : World} (h : Blk W q T cs) (k : Wr base T' vs W W') (ha : blkU (vs.getD 0 undef) ≠ some q) : Blk W' q T cs := (k.2.block q h.lt (fun e => ha e.symm)).trans h
theorem blk_wrT {base q : Nat} {T T' : TypeId} {cs : Array Value} {vs : List Value} {W W' : World} (h : Blk W q T cs) (k : Wr base T' vs W W') (hT : T ≠ T') : Blk W' q T cs := blk_wr h k fun e => by
  obtain ⟨-, cu, h2⟩ := k.1 q e
  unfold Blk at h h2
  rw [h] at h2
  simp at h2
  exact hT h2.2
theorem own_wrT {base base' k n : Nat} {T T' : TypeId} {v : Value} {xs vs : List Value} {W W' : World} (h : W.ownsRow base T k v n xs) (e : Wr base' T' vs W W') (hT : T ≠ T') : W'.ownsRow base T k v n xs := by
  refine ⟨h.1, ?_⟩
  rcases h.2 with h2 | ⟨g, cap, cu, h2, h3, hh, h4⟩
  · exact .inl h2
  · exact .inr ⟨g, cap, cu, h2, h3, blk_wrT (show Blk W g T cu from hh) e hT, h4⟩
theorem own_new {base n c k q : Nat} {T : TypeId} {A : Option Addr} {xs : List Value} {W : World} (ho : W.ownsRow base T k (.slice A n c) n xs) (hq : blkU (.slice A n c) = some q) : base ≤ q ∧ q < W.heap.size := by
  rcases ho.2 with ⟨h2, _⟩ | ⟨g, cap, cu, h2, h3, hh, _⟩
  · have hA : A = none := by
      cases A with
      | none => rfl
      | some a => simp at h2
    subst hA
    simp [blkU] at hq
  · have hA : A = some ⟨g, 0, none⟩ := by
      simp at h2
      exact h2.1
    subst hA
    cases hq
    exact ⟨h3, (show Blk W g T cu from hh).lt⟩
theorem Nb.ext {base : Nat} {T : TypeId} {cs : Array Value} {vs : List Value} {v : Value} {W W' : World} (h : Nb base T cs vs v W) (e : Ext W W') : Nb base T cs vs v W' := by
  obtain ⟨q, h1, h2, h3⟩ := h
  exact ⟨q, h1, h2, h3.ext e⟩
theorem Nb.wr {base base' : Nat} {T T' : TypeId} {cs : Array Value} {vs bs : List Value} {v : Value} {W W' : World} (h : Nb base T cs vs v W) (k : Wr base' T' bs W W') (ha : Apt v (bs.getD 0 undef)) : Nb base T cs vs v W' := by
  obtain ⟨q, h1, h2, h3⟩ := h
  exact ⟨q, h1, h2, blk_wr h3 k (ha q (by rw [h1]; rfl))⟩
theorem Nb.wrT {base base' : Nat} {T T' : TypeId} {cs : Array Value} {vs bs : List Value} {v : Value} {W W' : World} (h : Nb base T cs vs v W) (k : Wr base' T' bs W W') (hT : T ≠ T') : Nb base T cs vs v W' := by
  obtain ⟨q, h1, h2, h3⟩ := h
  exact ⟨q, h1, h2, blk_wrT h3 k hT⟩
/-- What a store leaves: the block of the first value holds these cells. -/
def Sb (base : Nat) (T : TypeId) (cs : Array Value) : Fact := fun vs _ W => ∃ q, vs.getD 0 undef = .pointer (some ⟨q, 0, none⟩) ∧ base ≤ q ∧ Blk W q T cs
theorem Sb.ext {base : Nat} {T : TypeId} {cs : Array Value} {vs : List Value} {v : Value} {W W' : World} (h : Sb base T cs vs v W) (e : Ext W W') : Sb base T cs vs v W' := by
  obtain ⟨q, h1, h2, h3⟩ := h
  exact ⟨q, h1, h2, h3.ext e⟩
theorem Sb.wr {base base' : Nat} {T T' : TypeId} {cs : Array Value} {vs bs : List Value} {v : Value} {W W' : World} (h : Sb base T cs vs v W) (k : Wr base' T' bs W W') (ha : Apt (vs.getD 0 undef) (bs.getD 0 undef)) : Sb base T cs vs v W' := by
  obtain ⟨q, h1, h2, h3⟩ := h
  exact ⟨q, h1, h2, blk_wr h3 k (ha q (by rw [h1]; rfl))⟩
theorem Sb.wrT {base base' : Nat} {T T' : TypeId} {cs : Array Value} {vs bs : List Value} {v : Value} {W W' : World} (h : Sb base T cs vs v W) (k : Wr base' T' bs W W') (hT : T ≠ T') : Sb base T cs vs v W' := by
  obtain ⟨q, h1, h2, h3⟩ := h
  exact ⟨q, h1, h2, blk_wrT h3 k hT⟩
/-- As Sb, the cells told by the second value. -/
def Sv (base : Nat) (T : TypeId) (f : Value → Array Value) : Fact := fun vs _ W => ∃ q, vs.getD 0 undef = .pointer (some ⟨q, 0, none⟩) ∧ base ≤ q ∧ Blk W q T (f (vs.getD 1 undef))
theorem Sv.ext {base : Nat} {T : TypeId} {f : Value → Array Value} {vs : List Value} {v : Value} {W W' : World} (h : Sv base T f vs v W) (e : Ext W W') : Sv base T f vs v W' := by
  obtain ⟨q, h1, h2, h3⟩ := h
  exact ⟨q, h1, h2, h3.ext e⟩
theorem Sv.wr {base base' : Nat} {T T' : TypeId} {f : Value → Array Value} {vs bs : List Value} {v : Value} {W W' : World} (h : Sv base T f vs v W) (k : Wr base' T' bs W W') (ha : Apt (vs.getD 0 undef) (bs.getD 0 undef)) : Sv base T f vs v W' := by
  obtain ⟨q, h1, h2, h3⟩ := h
  exact ⟨q, h1, h2, blk_wr h3 k (ha q (by rw [h1]; rfl))⟩
theorem gset {a w : World} {b : Nat} (h : a.grownBy w (some b)) (i : Nat) (v : Value) : a.grownBy (w.setCell ⟨b, i, none⟩ v) (some b) := Lib.grownBy_setB h i v
theorem gset0 (w : World) (b i : Nat) (v : Value) : w.grownBy (w.setCell ⟨b, i, none⟩ v) (some b) := Lib.grownBy_setCell w b i v

/-- A row of one's own, in a new block. -/
def Ow (base : Nat) (e : TypeId) (size n : Nat) (xs : List Value) : Fact := fun _ v W => W.ownsRow base e size v n xs

theorem rel_append {o : Oper} {ρ : Operand → Value} (s x : Operand) (t : TypeId) (ho : o.op = .call { callee := .builtin .append, args := #[s, x], argTypes := #[t, t] })
    {w : World} (base : Nat) (e : TypeId) (i : TypeInfo) (z : Value) (size bytes : Nat) (ht : P.underlying t = some (.slice e)) (hi : P.info? e = some i) (hz : i.zero = some z)
    (hsize : i.size = size) (hby : i.bytes = bytes) (hzs : z.cells.size = size) (hsz : 0 < size)
    (v : Value) (n : Nat) (xs : List Value) (hs : ρ s = v) (hown : w.ownsRow base e size v n xs)
    (ad : Addr) (m c : Nat) (news : List Value) (hx : ρ x = .slice (some ad) m c) (hl : news.length = m * size) (hnews : ∀ j u, news[j]? = some u → w.cell? (ad.add j) = some u) (h1 : ∀ u ∈ news, u.oneCell' = true)
    (hm : 0 < m) (h63 : n + m ≤ maxLen) (hbytes : (n + m) * bytes ≤ 140737488355328) (hbase : base ≤ w.heap.size)
    {Le : World → World → Prop} {Φ : Value → World → Prop}
    (h : ∀ g cap w', w'.ownsRow base e size (.slice (some ⟨g, 0, none⟩) (n + m) cap) (n + m) (xs ++ news) → w.grownBy w' v.ownBlock → (v.ownBlock = some g ∨ g = w.heap.size) → g < w'.heap.size → Le w w' ∧ Φ (.slice (some ⟨g, 0, none⟩) (n + m) cap) w') : RelUpon P Le Φ w ((execOp ρ o).run P w) := by
  obtain ⟨g, cap, w', hr, h2, h3, h4, h5⟩ := run_append_lies (P := P) w t o.type base e i z size bytes ht hi hz hsize hby hzs hsz v n xs hown ad m c news hl hnews h1 hm h63 hbytes hbase w.heap.size rfl
  have : (execOp ρ o).run P w = .ok (.value (.slice (some ⟨g, 0, none⟩) (n + m) cap)) w' := by
    unfold execOp
    simp only [ho, resolve, invoke, builtin, Sem.run_bind, Sem.run_pure, Result.andThen_ok, List.map_toArray, List.map_cons, List.map_nil, hs, hx, hr]
  rw [this]
  exact h g cap w' h2 h3 h4 h5
end Go.RegInv
