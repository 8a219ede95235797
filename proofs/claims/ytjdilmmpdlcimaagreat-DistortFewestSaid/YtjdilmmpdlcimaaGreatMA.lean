/- Memory, regions that draw their order, loops over functions, slices that came in. -/
import Derived.WalkKit
import Derived.WalkLawsBesides
import Derived.WalkSpells
import Derived.Handy
import Derived.LoopTactic
import Derived.Lib.Hide
import Derived.BigQuiet
import Derived.Deep.QuietTactic
import Derived.Deep.Draws
import Derived.BigFrame
import Derived.OrdersIn
import Derived.RangeFuncCalls
import Derived.OwnWalkIn
import Derived.RangeFuncNested
import Derived.RangeFuncBound
import Derived.RangeFuncBox
import Derived.Deep.Slices
import Derived.ChangeSame
import Derived.Deep.Strs
import Derived.Lib.SmallJoins

/- Slices of numbers in memory, kept by whatever only makes new blocks. -/
namespace Go.Mem
open Go.RowKit

/-- Whatever lay in W lies in W'. -/
def Ext (W W' : World) : Prop := Below W.heap.size W W'
theorem Ext.refl (W : World) : Ext W W := Below.refl _ _
theorem Ext.trans {a b c : World} (h : Ext a b) (k : Ext b c) : Ext a c := Below.trans h (Below.mono k h.size)
theorem Ext.alloc (W : World) (o : Obj) : Ext W (W.alloc o) := (Below.refl _ _).alloc (Nat.le_refl _) _
theorem Ext.drew (W : World) : Ext W W.drew := (Below.refl _ _).drew
theorem Ext.drewN (W : World) (n : Nat) : Ext W (W.drewN n) := ⟨rfl, rfl, rfl, Nat.le_refl _, fun _ _ => rfl⟩
theorem Ext.of_eq {W W' : World} (h : W = W') : Ext W W' := h ▸ Ext.refl W
theorem Ext.cell {W W' : World} (h : Ext W W') {p : Addr} {v : Value} (hc : W.cell? p = some v) : W'.cell? p = some v := by
  refine (Below.cell h ?_).trans hc
  rcases Nat.lt_or_ge p.block W.heap.size with h1 | h1
  · exact h1
  · exfalso
    unfold World.cell? at hc
    rw [Array.getElem?_eq_none h1] at hc
    cases hc
theorem Ext.below {B : Nat} {a W W' : World} (h : Below B a W) (k : Ext W W') (hB : B ≤ W.heap.size) : Below B a W' := h.trans (Below.mono k hB)
theorem lt_of_cell {W : World} {p : Addr} {v : Value} (hc : W.cell? p = some v) : p.block < W.heap.size := by
  rcases Nat.lt_or_ge p.block W.heap.size with h1 | h1
  · exact h1
  · exfalso
    unfold World.cell? at hc
    rw [Array.getElem?_eq_none h1] at hc
    cases hc
theorem Ext.free {W W' : World} (h : Ext W W') {p : Addr} (hp : p.block < W.heap.size) (hf : W.frozen? p = false) : W'.frozen? p = false := (Below.frozen h hp).trans hf
theorem Ext.lt {W W' : World} (h : Ext W W') {k : Nat} (hk : k < W.heap.size) : k < W'.heap.size := Nat.lt_of_lt_of_le hk h.size
theorem Ext.grownBy {W a w' : World} {row : Option Nat} (h : Ext W a) (hg : a.grownBy w' row) (hr : ∀ g, row = some g → W.heap.size ≤ g) : Ext W w' := Below.grown h hg h.size hr
theorem Ext.set {W a : World} (h : Ext W a) {p : Addr} (hp : W.heap.size ≤ p.block) (u : Value) : Ext W (a.setCell p u) := Below.setCell h hp u

/-- Block g holds just these cells, all of them free. -/
def Blk (W : World) (g : Nat) (t : TypeId) (cs : Array Value) : Prop := W.heap[g]? = some (.cells cs t (0, 0))
theorem Blk.lt {W : World} {g : Nat} {t : TypeId} {cs : Array Value} (h : Blk W g t cs) : g < W.heap.size := (Array.getElem?_eq_some_iff.1 h).1
theorem Blk.new (W : World) (t : TypeId) (cs : Array Value) : Blk (W.alloc (.cells cs t)) W.heap.size t cs := heap_alloc_new W _
theorem Blk.newAt (W : World) (t : TypeId) (cs : Array Value) {g : Nat} (h : g = W.heap.size) : Blk (W.alloc (.cells cs t)) g t cs := h ▸ heap_alloc_new W _
theorem Blk.cell {W : World} {g : Nat} {t : TypeId} {cs : Array Value} (h : Blk W g t cs) (i : Nat) : W.cell? ⟨g, i, none⟩ = cs[i]? := cell_of_row W g i cs t (0, 0) h
theorem Blk.free {W : World} {g : Nat} {t : TypeId} {cs : Array Value} (h : Blk W g t cs) (i : Nat) : W.frozen? ⟨g, i, none⟩ = false := by
  unfold Blk at h
  simp [World.frozen?, h]
theorem Blk.alloc {W : World} {g : Nat} {t : TypeId} {cs : Array Value} (h : Blk W g t cs) (o : Obj) : Blk (W.alloc o) g t cs := (Below.heap_alloc W o g h.lt).trans h
theorem Blk.drew {W : World} {g : Nat} {t : TypeId} {cs : Array Value} (h : Blk W g t cs) : Blk W.drew g t cs := h
theorem Blk.ext {W W' : World} {g : Nat} {t : TypeId} {cs : Array Value} (h : Blk W g t cs) (e : Ext W W') : Blk W' g t cs := (e.block g h.lt).trans h
theorem Blk.setOther {W : World} {g : Nat} {t : TypeId} {cs : Array Value} (h : Blk W g t cs) {p : Addr} (hp : g ≠ p.block) (u : Value) : Blk (W.setCell p u) g t cs := (Below.heap_setCell W p u g hp).trans h
theorem Blk.setSame {W : World} {g : Nat} {t : TypeId} {cs : Array Value} (h : Blk W g t cs) (i : Nat) (u : Value) : Blk (W.setCell ⟨g, i, none⟩ u) g t (cs.setIfInBounds i u) := by
  unfold Blk at h ⊢
  simp [World.setCell, Array.getElem?_modify, h]
theorem Blk.of_same {W W' : World} {g : Nat} {t : TypeId} {cs : Array Value} (h : Blk W g t cs) (e : W'.heap[g]? = W.heap[g]?) : Blk W' g t cs := e.trans h

/-- A slice value that reads as a list of numbers. -/
def IntsAt (W : World) (v : Value) (xs : List Int) : Prop :=
  (∃ ao cap, v = .slice ao 0 cap ∧ xs = []) ∨
  ∃ b o cap, v = .slice (some ⟨b, o, none⟩) xs.length cap ∧ b < W.heap.size ∧ xs.length ≤ 1152921504606846976 ∧ ∀ i, i < xs.length → W.cell? ⟨b, o + i, none⟩ = some (.int .i64 (xs.getD i 0))
theorem IntsAt.ext {W W' : World} {v : Value} {xs : List Int} (h : IntsAt W v xs) (k : Ext W W') : IntsAt W' v xs := by
  rcases h with h | ⟨b, o, cap, hv, hb, hl, hc⟩
  · exact .inl h
  · exact .inr ⟨b, o, cap, hv, Nat.lt_of_lt_of_le hb k.size, hl, fun i hi => k.cell (hc i hi)⟩
theorem ints_new (W : World) (xs : List Int) (T : TypeId) (h : xs.length ≤ 1152921504606846976) : IntsAt (W.alloc (.cells (xs.map (Value.int .i64)).toArray T)) (.slice (some ⟨W.heap.size, 0, none⟩) xs.length xs.length) xs := by
  refine .inr ⟨W.heap.size, 0, xs.length, rfl, by simp, h, fun i hi => ?_⟩
  simp [hi]

/-- The slice at A of these rows, k cells each. -/
def RowsAt {α : Type} (k : Nat) (enc : α → List Value) (W : World) (A : Option Addr) (xs : List α) : Prop :=
  xs.length ≤ 1152921504606846976 ∧ ∀ i x, xs[i]? = some x → ∃ b o, A = some ⟨b, o, none⟩ ∧ b < W.heap.size ∧ ∀ j u, (enc x)[j]? = some u → W.cell? ⟨b, o + i * k + j, none⟩ = some u
theorem RowsAt.ext {α : Type} {k : Nat} {enc : α → List Value} {W W' : World} {A : Option Addr} {xs : List α} (h : RowsAt k enc W A xs) (e : Ext W W') : RowsAt k enc W' A xs :=
  ⟨h.1, fun i x hx => by
    obtain ⟨b, o, hA, hb, hc⟩ := h.2 i x hx
    exact ⟨b, o, hA, Nat.lt_of_lt_of_le hb e.size, fun j u hu => e.cell (hc j u hu)⟩⟩

end Go.Mem

/- A region that draws its order, whose operations read, make new memory and call: each slot gets a predicate that later steps keep; one look at each operation serves every order. -/
namespace Go.RegInv

variable {P : Program} {Le : World → World → Prop} {F : World → Prop} {Ψ : Tmp → Value → World → Prop}

def RelUpon (P : Program) (Le : World → World → Prop) (Φ : Value → World → Prop) (W : World) : Result Next → Prop
  | .ok (.value v) W' => Le W W' ∧ Φ v W'
  | .ok .skip W' => Le W W' ∧ Φ undef W'
  | .ok (.enter f args) W' => Calls P f args W' fun e W'' => ∃ v, e = .returned v ∧ Le W W'' ∧ Φ v W''
  | _ => False

theorem RelUpon_value {Φ : Value → World → Prop} {W W' : World} (v : Value) : RelUpon P Le Φ W (.ok (.value v) W') = (Le W W' ∧ Φ v W') := rfl
theorem RelUpon_skip {Φ : Value → World → Prop} {W W' : World} : RelUpon P Le Φ W (.ok .skip W') = (Le W W' ∧ Φ undef W') := rfl
theorem RelUpon_enter {Φ : Value → World → Prop} {W W' : World} (f : FuncId) (args : Array Value) :
    RelUpon P Le Φ W (.ok (.enter f args) W') = Calls P f args W' fun e W'' => ∃ v, e = .returned v ∧ Le W W'' ∧ Φ v W'' := rfl

def dsts (ops : Array Oper) : List Tmp := ops.toList.filterMap (·.dst)

def slot (ds : List Tmp) (Ψ : Tmp → Value → World → Prop) (a0 : Act) (t : Tmp) (v : Value) (W : World) : Prop :=
  if ds.contains t then Ψ t v W else v = a0.eval (.tmp t)

def slots (ds : List Tmp) (Ψ : Tmp → Value → World → Prop) (a0 : Act) (A : Act) (W : World) : List Tmp → Prop
  | [] => True
  | t :: ts => slot ds Ψ a0 t (A.eval (.tmp t)) W ∧ slots ds Ψ a0 A W ts

theorem slots_of {ds : List Tmp} {a0 A : Act} {W : World} : ∀ {ts : List Tmp}, (∀ t ∈ ts, slot ds Ψ a0 t (A.eval (.tmp t)) W) → slots ds Ψ a0 A W ts
  | [], _ => trivial
  | t :: _, h => ⟨h t (by simp), slots_of fun u hu => h u (by simp [hu])⟩

def dstPost (Ψ : Tmp → Value → World → Prop) (o : Oper) (v : Value) (W : World) : Prop :=
  match o.dst with
  | some t => Ψ t v W
  | none => True

/-- What is asked of one operation. -/
def Obl (P : Program) (Le : World → World → Prop) (F : World → Prop) (ds : List Tmp) (Ψ : Tmp → Value → World → Prop) (a0 : Act) (ops : Array Oper) (o : Oper) (ts : List Tmp) : Prop :=
  ∀ (A : Act) (W : World), F W → slots ds Ψ a0 A W ts →
    (Region.wanted o (yielded ops A.tmps) = true → RelUpon P Le (dstPost Ψ o) W ((execOp A.eval o).run P W)) ∧
    (Region.wanted o (yielded ops A.tmps) = false → dstPost Ψ o undef W)

def Obls (P : Program) (Le : World → World → Prop) (F : World → Prop) (ds : List Tmp) (Ψ : Tmp → Value → World → Prop) (a0 : Act) (ops : Array Oper) : List Oper → List (List Tmp) → Prop
  | [], _ => True
  | o :: l, ts => Obl P Le F ds Ψ a0 ops o (ts.headD []) ∧ Obls P Le F ds Ψ a0 ops l ts.tail

theorem obls_at {ds : List Tmp} {a0 : Act} {ops : Array Oper} : ∀ {l : List Oper} {ts : List (List Tmp)}, Obls P Le F ds Ψ a0 ops l ts → ∀ {i : Nat} {o : Oper}, l[i]? = some o →
    Obl P Le F ds Ψ a0 ops o (ts.getD i [])
  | o' :: _, ts, h, 0, o, hi => by
    have h2 : o' = o := by simpa using hi
    subst h2
    have e : ts.headD [] = ts.getD 0 [] := by cases ts <;> rfl
    rw [← e]; exact h.1
  | _ :: _, ts, h, i + 1, o, hi => by
    have := obls_at h.2 (i := i) (o := o) (by simpa using hi)
    have e : ts.tail.getD i [] = ts.getD (i + 1) [] := by cases ts <;> simp
    rw [← e]; exact this
  | [], _, _, _, _, hi => by simp at hi

/-- Each slot is written once and lies in the frame; who reads a slot that the region writes waits for its writer; edges lead back. -/
def depsB (n : Nat) (ops : Array Oper) : Bool :=
  (List.range ops.size).all fun i => match ops[i]? with
    | none => true
    | some o =>
      (match o.dst with
        | none => true
        | some t => decide (t < n) && (List.range ops.size).all fun j => j == i || ((ops[j]?).bind (·.dst)) != some t) &&
      ((o.looksAt ops).all fun t => (List.range ops.size).all fun j => ((ops[j]?).bind (·.dst)) != some t || o.after.any fun e => Region.binds .any e && e.on == j) &&
      o.after.all fun e => !Region.binds .any e || decide (e.on < i)

section
variable {n : Nat} {ops : Array Oper}
theorem depsB_at (h : depsB n ops = true) {i : Nat} {o : Oper} (hi : ops[i]? = some o) :
    (∀ t, o.dst = some t → t < n ∧ ∀ j oj, ops[j]? = some oj → oj.dst = some t → j = i) ∧
    (∀ t ∈ o.looksAt ops, ∀ j oj, ops[j]? = some oj → oj.dst = some t → ∃ e ∈ o.after, Region.binds .any e = true ∧ e.on = j) ∧
    (∀ e ∈ o.after, Region.binds .any e = true → e.on < i) := by
  have hlt : i < ops.size := (Array.getElem?_eq_some_iff.1 hi).1
  unfold depsB at h
  rw [List.all_eq_true] at h
  have h1 := h i (List.mem_range.2 hlt)
  simp only [hi, Bool.and_eq_true] at h1
  obtain ⟨⟨ha, hb⟩, hc⟩ := h1
  refine ⟨fun t ht => ?_, fun t ht j oj hj hd => ?_, fun e he hbd => ?_⟩
  · simp only [ht, Bool.and_eq_true, decide_eq_true_eq, List.all_eq_true, List.mem_range, Bool.or_eq_true, beq_iff_eq, bne_iff_ne] at ha
    refine ⟨ha.1, fun j oj hj hd => ?_⟩
    rcases ha.2 j (Array.getElem?_eq_some_iff.1 hj).1 with h2 | h2
    · exact h2
    · exact absurd (by simp [hj, hd]) h2
  · rw [List.all_eq_true] at hb
    have h2 := hb t ht
    rw [List.all_eq_true] at h2
    have h3 := h2 j (List.mem_range.2 (Array.getElem?_eq_some_iff.1 hj).1)
    simp only [hj, Option.bind_some, hd, bne_self_eq_false, Bool.false_or] at h3
    obtain ⟨e, he, h4⟩ := Array.any_eq_true'.1 h3
    simp only [Bool.and_eq_true, beq_iff_eq] at h4
    exact ⟨e, he, h4.1, h4.2⟩
  · have h2 := Array.all_eq_true_iff_forall_mem.1 hc e he
    simp only [hbd, Bool.not_true, Bool.false_or, decide_eq_true_eq] at h2
    exact h2

structure Good (F : World → Prop) (Ψ : Tmp → Value → World → Prop) (a0 : Act) (ops : Array Oper) (listed : Array Bool) (a : Act) (W : World) : Prop where
  defers : a.defers = a0.defers
  size : a.tmps.size = a0.tmps.size
  base : F W
  done : ∀ i o t, ops[i]? = some o → o.dst = some t → listed.getD i false = true → Ψ t (a.eval (.tmp t)) W
  other : ∀ t, (∀ i o, ops[i]? = some o → o.dst = some t → listed.getD i false = false) → a.eval (.tmp t) = a0.eval (.tmp t)

theorem mem_dsts {t : Tmp} : t ∈ dsts ops ↔ ∃ (i : Nat) (o : Oper), ops[i]? = some o ∧ o.dst = some t := by
  unfold dsts
  rw [List.mem_filterMap]
  constructor
  · rintro ⟨o, ho, hd⟩
    obtain ⟨i, hi, he⟩ := Array.mem_iff_getElem.1 (Array.mem_toList_iff.1 ho)
    exact ⟨i, o, by rw [Array.getElem?_eq_getElem hi, he], hd⟩
  · rintro ⟨i, o, hi, hd⟩
    exact ⟨o, Array.mem_toList_iff.2 (Array.mem_of_getElem? hi), hd⟩

theorem eval_put_same (a : Act) {t : Tmp} (ht : t < a.tmps.size) (v : Value) : (a.put (some t) v).eval (.tmp t) = v := by
  simp [Act.eval, Act.put, ht]
theorem eval_put_other (a : Act) {t u : Tmp} (h : t ≠ u) (v : Value) : (a.put (some t) v).eval (.tmp u) = a.eval (.tmp u) :=
  Act.eval_put fun d hd e => by simp at hd e; exact h (by rw [hd, e])

theorem listed_of_ne {listed : Array Bool} {i j : Nat} (h : i ≠ j) : (listed.setIfInBounds i true).getD j false = listed.getD j false := getD_set_ne false h

/-- One operation that may come up. -/
theorem good_step {a0 : Act} {listed : Array Bool} {a : Act} {W : World} {Q : Exit → Act → World → Prop} {K : Act → World → Prop} {i : Nat} {o : Oper} {ts : List Tmp}
    (hB : depsB a0.tmps.size ops = true) (hls : listed.size = ops.size) (hF : ∀ W W', F W → Le W W' → F W') (hΨ : ∀ t v W W', F W → Le W W' → Ψ t v W → Ψ t v W')
    (hi : ops[i]? = some o) (hr : i ∈ Region.ready .any ops listed) (hts : o.looksAt ops = ts) (ho : Obl P Le F (dsts ops) Ψ a0 ops o ts) (hrefl : ∀ W, F W → Le W W)
    (hg : Good F Ψ a0 ops listed a W) (hK : ∀ a' W', Good F Ψ a0 ops (listed.setIfInBounds i true) a' W' → K a' W') : wpOp P ops Q i K a W := by
  obtain ⟨hd1, hd2, hd3⟩ := depsB_at hB hi
  obtain ⟨hun, o', ho', hall⟩ := mem_ready.1 hr
  rw [hi] at ho'
  obtain rfl : o = o' := by simpa using ho'
  have hlt : i < ops.size := (Array.getElem?_eq_some_iff.1 hi).1
  have hun' : listed.getD i false = false := by
    have : i < listed.size := by omega
    simp [this] at hun ⊢
    exact hun
  -- the slots that are read
  have hsl : slots (dsts ops) Ψ a0 a W ts := slots_of fun t ht => by
    unfold slot
    split
    · rename_i hc
      obtain ⟨j, oj, hj, hdj⟩ := mem_dsts.1 (by simpa using hc)
      obtain ⟨e, he, hb, hon⟩ := hd2 t (by rw [hts]; exact ht) j oj hj hdj
      have hl := hall e he hb
      rw [hon] at hl
      exact hg.done j oj t hj hdj hl
    · rename_i hc
      refine hg.other t fun j oj hj hdj => absurd ?_ hc
      simpa using mem_dsts.2 ⟨j, oj, hj, hdj⟩
  obtain ⟨hyes, hno⟩ := ho a W hg.base hsl
  -- what a value does
  have put : ∀ (v : Value) (W' : World), Le W W' → dstPost Ψ o v W' → Good F Ψ a0 ops (listed.setIfInBounds i true) (a.put o.dst v) W' := by
    intro v W' hle hv
    have hbase := hF _ _ hg.base hle
    cases hdst : o.dst with
    | none =>
      refine ⟨hg.defers, hg.size, hbase, fun j oj t hj hdj hl => ?_, fun t ht => hg.other t fun j oj hj hdj => ?_⟩
      · have hne : i ≠ j := by
          rintro rfl
          rw [hi] at hj
          obtain rfl : o = oj := by simpa using hj
          rw [hdst] at hdj; cases hdj
        rw [listed_of_ne hne] at hl
        exact hΨ _ _ _ _ hg.base hle (hg.done j oj t hj hdj hl)
      · have := ht j oj hj hdj
        have hne : i ≠ j := by
          rintro rfl
          rw [hi] at hj
          obtain rfl : o = oj := by simpa using hj
          rw [hdst] at hdj; cases hdj
        rwa [listed_of_ne hne] at this
    | some d =>
      obtain ⟨hdn, huniq⟩ := hd1 d hdst
      have hda : d < a.tmps.size := by rw [hg.size]; exact hdn
      refine ⟨hg.defers, by simp [Act.put, hg.size], hbase, fun j oj t hj hdj hl => ?_, fun t ht => ?_⟩
      · by_cases hne : i = j
        · subst hne
          rw [hi] at hj
          obtain rfl : o = oj := by simpa using hj
          rw [hdst] at hdj
          obtain rfl : d = t := by simpa using hdj
          rw [eval_put_same a hda]
          simpa [dstPost, hdst] using hv
        · rw [listed_of_ne hne] at hl
          have htd : d ≠ t := by
            rintro rfl
            exact hne (huniq j oj hj hdj).symm
          rw [eval_put_other a htd]
          exact hΨ _ _ _ _ hg.base hle (hg.done j oj t hj hdj hl)
      · have htd : d ≠ t := by
          rintro rfl
          have := ht i o hi hdst
          simp [hls, hlt] at this
        rw [eval_put_other a htd]
        refine hg.other t fun j oj hj hdj => ?_
        have h2 := ht j oj hj hdj
        have hne : i ≠ j := by
          rintro rfl
          rw [hi] at hj
          obtain rfl : o = oj := by simpa using hj
          rw [hdst] at hdj
          exact htd (by simpa using hdj)
        rwa [listed_of_ne hne] at h2
  unfold wpOp
  simp only [hi]
  split
  · rename_i hw
    refine .inl ?_
    have h1 := hyes hw
    unfold Oper.wp
    generalize (execOp a.eval o).run P W = r at h1
    cases r with
    | ok nx W' =>
      cases nx <;> simp only [RelUpon] at h1 <;> simp only [Oper.upon]
      case value v => exact hK _ _ (put v W' h1.1 h1.2)
      case skip => exact hK _ _ (put undef W' h1.1 h1.2)
      case enter f args =>
        refine Calls.mono h1 ?_
        rintro e W'' ⟨v, rfl, hle, hv⟩
        exact hK _ _ (put v W'' hle hv)
    | halt x W' => simp only [RelUpon] at h1
  · rename_i hw
    have hw' : Region.wanted o (yielded ops a.tmps) = false := by simpa using hw
    exact hK _ _ (put undef W (hrefl W hg.base) (hno hw'))

def unl (l : Array Bool) : Nat → Nat
  | 0 => 0
  | n + 1 => unl l n + if l.getD n true then 0 else 1

theorem unl_set {l : Array Bool} {i : Nat} (hl : l.getD i true = false) (his : i < l.size) : ∀ {n : Nat}, i < n → unl l n = unl (l.setIfInBounds i true) n + 1
  | n + 1, h => by
    unfold unl
    by_cases hin : i = n
    · subst hin
      have e1 : ∀ m, m ≤ i → unl (l.setIfInBounds i true) m = unl l m := by
        intro m
        induction m with
        | zero => intro _; rfl
        | succ m ih =>
          intro hm
          unfold unl
          rw [ih (by omega), getD_set_ne true (by omega)]
      rw [e1 i (Nat.le_refl _), hl]
      have : (l.setIfInBounds i true).getD i true = true := by simp
      rw [this]
      simp
    · have := unl_set hl his (n := n) (by omega)
      rw [this, getD_set_ne true hin]
      omega

theorem unl_zero {l : Array Bool} : ∀ {n : Nat}, unl l n = 0 → ∀ i, i < n → l.getD i true = true
  | n + 1, h, i, hi => by
    unfold unl at h
    by_cases hin : i = n
    · subst hin
      by_cases hc : l.getD i true = true
      · exact hc
      · simp [hc] at h
    · exact unl_zero (n := n) (by omega) i (by omega)

/-- All have come up when none is ready. -/
theorem all_listed {listed : Array Bool} (hB : depsB n ops = true) (hls : listed.size = ops.size) (hr : Region.ready .any ops listed = []) : ∀ i, i < ops.size → listed.getD i false = true := by
  intro i
  induction i using Nat.strongRecOn with
  | ind i ih =>
    intro hi
    by_cases hc : listed.getD i false = true
    · exact hc
    · exfalso
      have hm : i ∈ Region.ready .any ops listed := by
        refine mem_ready.2 ⟨?_, ops[i], Array.getElem?_eq_getElem hi, fun e he hb => ih e.on ((depsB_at hB (Array.getElem?_eq_getElem hi)).2.2 e he hb) ?_⟩
        · have : i < listed.size := by omega
          simp [this] at hc ⊢
          exact hc
        · exact Nat.lt_trans ((depsB_at hB (Array.getElem?_eq_getElem hi)).2.2 e he hb) hi
      rw [hr] at hm
      cases hm

def fin (a0 : Act) (ds : List Tmp) (f : Tmp → Value) : Act := { tmps := ds.foldl (fun m t => m.setIfInBounds t (f t)) a0.tmps, defers := a0.defers }

theorem foldl_set_size (f : Tmp → Value) : ∀ (ds : List Tmp) (m : Array Value), (ds.foldl (fun m t => m.setIfInBounds t (f t)) m).size = m.size
  | [], _ => rfl
  | d :: ds, m => by rw [List.foldl_cons, foldl_set_size f ds]; simp

theorem foldl_set_at (f : Tmp → Value) : ∀ (ds : List Tmp) (m : Array Value) (t : Tmp), t < m.size → (ds.foldl (fun m t => m.setIfInBounds t (f t)) m).getD t undef = if t ∈ ds then f t else m.getD t undef
  | [], _, _, _ => by simp
  | d :: ds, m, t, ht => by
    rw [List.foldl_cons, foldl_set_at f ds _ t (by simpa using ht)]
    by_cases h1 : t ∈ ds
    · simp [h1]
    · by_cases h2 : t = d
      · subst h2; simp [h1, ht]
      · simp [h1, h2, Array.getElem?_setIfInBounds_ne (Ne.symm h2)]

theorem act_fin {a a0 : Act} {ds : List Tmp} (hd : a.defers = a0.defers) (hs : a.tmps.size = a0.tmps.size) (ho : ∀ t, t ∉ ds → a.eval (.tmp t) = a0.eval (.tmp t)) :
    a = fin a0 ds (fun t => a.eval (.tmp t)) := by
  obtain ⟨tm, df⟩ := a
  obtain ⟨tm0, df0⟩ := a0
  simp only at hd hs
  subst hd
  unfold fin
  congr 1
  apply Array.ext
  · rw [foldl_set_size]; exact hs
  · intro t h1 h2
    have h3 : t < tm0.size := by omega
    have h4 := foldl_set_at (fun t => ({ tmps := tm, defers := df } : Act).eval (.tmp t)) ds tm0 t h3
    have h5 : (ds.foldl (fun m t => m.setIfInBounds t (({ tmps := tm, defers := df } : Act).eval (.tmp t))) tm0).getD t undef = tm.getD t undef := by
      rw [h4]
      by_cases h6 : t ∈ ds
      · simp [h6, Act.eval]
      · have := ho t h6
        simp only [Act.eval] at this
        simp [h6, this]
    simp only [Array.getD_eq_getD_getElem?, Array.getElem?_eq_getElem h1, Array.getElem?_eq_getElem h2, Option.getD_some] at h5
    exact h5.symm

/-- **EVERY ORDER AT ONCE.** -/
theorem wp_region_inv {id : Nat} {Q : Exit → Act → World → Prop} {a : Act} {w : World} {l : List Oper} (ds : List Tmp) (ts : List (List Tmp))
    (hm : P.follows .mixedOrders = true) (hB : depsB a.tmps.size l.toArray = true) (hds : dsts l.toArray = ds) (hts : l.map (·.looksAt l.toArray) = ts)
    (Le : World → World → Prop) (F : World → Prop) (Ψ : Tmp → Value → World → Prop)
    (hrefl : ∀ W, F W → Le W W) (hF : ∀ W W', F W → Le W W' → F W') (hΨ : ∀ t v W W', F W → Le W W' → Ψ t v W → Ψ t v W')
    (h0 : F w.drew) (hO : Obls P Le F ds Ψ a l.toArray l ts)
    (hend : ∀ (f : Tmp → Value) (W : World), F W → (∀ t ∈ ds, Ψ t (f t) W) → Q .normal (fin a ds f) W) : (Code.region id l.toArray true).wp P Q a w := by
  subst hds
  refine wp_region_any hm ?_
  have hend' : ∀ (listed : Array Bool) (a' : Act) (W : World), (∀ i, i < l.toArray.size → listed.getD i false = true) → Good F Ψ a l.toArray listed a' W → Q .normal a' W := by
    intro listed a' W hall hg
    have hall' : ∀ i o, l.toArray[i]? = some o → listed.getD i false = true := fun i o hi => hall i (Array.getElem?_eq_some_iff.1 hi).1
    rw [act_fin (a := a') (a0 := a) (ds := dsts l.toArray) hg.defers hg.size (fun t ht => hg.other t fun i o hi hd => absurd (mem_dsts.2 ⟨i, o, hi, hd⟩) ht)]
    refine hend _ W hg.base fun t ht => ?_
    obtain ⟨i, o, hi, hd⟩ := mem_dsts.1 ht
    exact hg.done i o t hi hd (hall' i o hi)
  have main : ∀ (fuel : Nat) (listed : Array Bool) (a' : Act) (W : World), listed.size = l.toArray.size → unl listed l.toArray.size = fuel → Good F Ψ a l.toArray listed a' W →
      wpAny P .any l.toArray Q fuel listed a' W := by
    intro fuel
    induction fuel with
    | zero =>
      intro listed a' W hls hu hg
      have hall := unl_zero hu
      have hr : Region.ready .any l.toArray listed = [] := by
        rw [List.eq_nil_iff_forall_not_mem]
        intro i hi
        obtain ⟨h1, o, ho, _⟩ := mem_ready.1 hi
        rw [hall i (Array.getElem?_eq_some_iff.1 ho).1] at h1
        cases h1
      exact ⟨hr, hend' listed a' W (all_listed hB hls hr) hg⟩
    | succ fuel ih =>
      intro listed a' W hls hu hg
      refine ⟨fun hr => hend' listed a' W (all_listed hB hls hr) hg, fun i hi => ?_⟩
      obtain ⟨hun, o, ho, _⟩ := mem_ready.1 hi
      have hlt : i < l.toArray.size := (Array.getElem?_eq_some_iff.1 ho).1
      have hlo : l[i]? = some o := by simpa using ho
      refine good_step (ts := o.looksAt l.toArray) hB hls hF hΨ ho hi rfl ?_ hrefl hg (fun a'' W'' hg' => ih _ a'' W'' (by simpa using hls) ?_ hg')
      · have := obls_at hO hlo
        rw [← hts] at this
        have e : (l.map (·.looksAt l.toArray)).getD i [] = o.looksAt l.toArray := by
          rw [List.getD_eq_getElem?_getD, List.getElem?_map, hlo]; rfl
        rwa [e] at this
      · have := unl_set (l := listed) (i := i) hun (by omega) hlt
        omega
  have hcount : ∀ n : Nat, n ≤ l.toArray.size → unl (Array.replicate l.toArray.size false) n = n := by
    intro n
    induction n with
    | zero => intro _; rfl
    | succ n ih =>
      intro hn
      unfold unl
      rw [ih (by omega)]
      have h3 : n < l.length := by simp only [List.size_toArray] at hn; omega
      have : (Array.replicate l.toArray.size false).getD n true = false := by simp [h3]
      rw [this]; simp
  exact main _ _ a w.drew (by simp) (hcount _ (Nat.le_refl _)) ⟨rfl, rfl, h0, fun i o t hi _ hl => by
    have h3 : i < l.length := by have := (Array.getElem?_eq_some_iff.1 hi).1; simpa using this
    simp [h3] at hl, fun t _ => rfl⟩

/-! The predicates as a list beside the operations. -/

def look : List (Option Tmp) → List (Value → World → Prop) → Nat → Option (Value → World → Prop)
  | some d :: ds, φ :: φs, t => bif Nat.beq d t then some φ else look ds φs t
  | none :: ds, _ :: φs, t => look ds φs t
  | _, _, _ => none

def slotAt (ds : List (Option Tmp)) (φs : List (Value → World → Prop)) (a0 : Act) (t : Tmp) (v : Value) (W : World) : Prop :=
  match look ds φs t with
  | some φ => φ v W
  | none => v = a0.eval (.tmp t)

/-- What operands read as, whatever the frame. -/
structure Std (ρ : Operand → Value) : Prop where
  const : ∀ v, ρ (.const v) = v
  global : ∀ g, ρ (.global g) = .pointer (some ⟨g, 0, none⟩)
  func : ∀ f, ρ (.func f) = .func (.func f) #[] #[]
theorem Std.eval (A : Act) : Std A.eval := ⟨fun _ => rfl, fun _ => rfl, fun _ => rfl⟩

def slotsAt (ds : List (Option Tmp)) (φs : List (Value → World → Prop)) (a0 : Act) (ρ : Operand → Value) (W : World) : List Tmp → Prop
  | [] => True
  | t :: ts => slotAt ds φs a0 t (ρ (.tmp t)) W ∧ slotsAt ds φs a0 ρ W ts

def Asks (P : Program) (Le : World → World → Prop) (F : World → Prop) (ds : List (Option Tmp)) (φs : List (Value → World → Prop)) (a0 : Act) : List Oper → List (Value → World → Prop) → List (List Tmp) → Prop
  | o :: l, φ :: rest, t :: ts => (∀ (ρ : Operand → Value) (W : World), Std ρ → F W → slotsAt ds φs a0 ρ W t → RelUpon P Le φ W ((execOp ρ o).run P W)) ∧ Asks P Le F ds φs a0 l rest ts
  | [], _, _ => True
  | _, _, _ => False

def Ends (f : Tmp → Value) (W : World) : List (Option Tmp) → List (Value → World → Prop) → Prop
  | some d :: ds, φ :: φs => φ (f d) W ∧ Ends f W ds φs
  | none :: ds, _ :: φs => Ends f W ds φs
  | _, _ => True

def Keeps (Le : World → World → Prop) (F : World → Prop) : List (Value → World → Prop) → Prop
  | [] => True
  | φ :: φs => (∀ v W W', F W → Le W W' → φ v W → φ v W') ∧ Keeps Le F φs

theorem look_keeps : ∀ {ds : List (Option Tmp)} {φs : List (Value → World → Prop)} {t : Nat} {φ : Value → World → Prop}, Keeps Le F φs → look ds φs t = some φ → ∀ v W W', F W → Le W W' → φ v W → φ v W'
  | some d :: ds, φ' :: φs, t, φ, hk, h => by
    unfold look at h
    cases hb : Nat.beq d t
    · rw [hb] at h; exact look_keeps hk.2 h
    · rw [hb] at h
      obtain rfl : φ' = φ := by simpa using h
      exact hk.1
  | none :: ds, _ :: φs, t, φ, hk, h => look_keeps (ds := ds) hk.2 h
  | [], φs, _, _, _, h => by cases φs <;> cases h
  | some _ :: _, [], _, _, _, h => by cases h
  | none :: _, [], _, _, _, h => by cases h

theorem look_at : ∀ {ds : List (Option Tmp)} {φs : List (Value → World → Prop)} {i t : Nat} {φ : Value → World → Prop}, ds[i]? = some (some t) → φs[i]? = some φ → (∀ j, ds[j]? = some (some t) → j = i) → look ds φs t = some φ
  | some d :: ds, φ' :: φs, 0, t, φ, h1, h2, _ => by
    obtain rfl : d = t := by simpa using h1
    obtain rfl : φ' = φ := by simpa using h2
    unfold look
    have : Nat.beq d d = true := Nat.beq_refl d
    rw [this]; rfl
  | some d :: ds, φ' :: φs, i + 1, t, φ, h1, h2, hu => by
    unfold look
    have hne : Nat.beq d t = false := by
      cases hb : Nat.beq d t
      · rfl
      · have e : d = t := Nat.eq_of_beq_eq_true hb
        have := hu 0 (by rw [e]; rfl)
        omega
    rw [hne]
    exact look_at (ds := ds) (φs := φs) (i := i) (by simpa using h1) (by simpa using h2) (fun j hj => by have := hu (j + 1) (by simpa using hj); omega)
  | none :: ds, _ :: φs, 0, t, φ, h1, _, _ => by simp at h1
  | none :: ds, _ :: φs, i + 1, t, φ, h1, h2, hu => by
    unfold look
    exact look_at (ds := ds) (φs := φs) (i := i) (by simpa using h1) (by simpa using h2) (fun j hj => by have := hu (j + 1) (by simpa using hj); omega)
  | [], _, _, _, _, h1, _, _ => by simp at h1
  | _ :: _, [], _, _, _, _, h2, _ => by simp at h2

theorem ends_of {f : Tmp → Value} {W : World} : ∀ {ds : List (Option Tmp)} {φs : List (Value → World → Prop)}, (∀ (i : Nat) (t : Tmp) (φ : Value → World → Prop), ds[i]? = some (some t) → φs[i]? = some φ → φ (f t) W) → Ends f W ds φs
  | some d :: ds, φ :: φs, h => ⟨h 0 d φ rfl rfl, ends_of fun i t φ' h1 h2 => h (i + 1) t φ' (by simpa using h1) (by simpa using h2)⟩
  | none :: ds, _ :: φs, h => ends_of (ds := ds) (φs := φs) fun i t φ' h1 h2 => h (i + 1) t φ' (by simpa using h1) (by simpa using h2)
  | [], φs, _ => by cases φs <;> trivial
  | some _ :: _, [], _ => trivial
  | none :: _, [], _ => trivial

theorem asks_at {ds : List (Option Tmp)} {φs : List (Value → World → Prop)} {a0 : Act} : ∀ {l : List Oper} {rest : List (Value → World → Prop)} {ts : List (List Tmp)}, Asks P Le F ds φs a0 l rest ts → ∀ {i : Nat} {o : Oper}, l[i]? = some o →
    ∃ φ t, rest[i]? = some φ ∧ ts[i]? = some t ∧ ∀ (ρ : Operand → Value) (W : World), Std ρ → F W → slotsAt ds φs a0 ρ W t → RelUpon P Le φ W ((execOp ρ o).run P W)
  | o' :: _, φ :: _, t :: _, h, 0, o, hi => by
    obtain rfl : o' = o := by simpa using hi
    exact ⟨φ, t, rfl, rfl, h.1⟩
  | _ :: _, _ :: _, _ :: _, h, i + 1, o, hi => by
    obtain ⟨φ, t, h1, h2, h3⟩ := asks_at h.2 (i := i) (o := o) (by simpa using hi)
    exact ⟨φ, t, by simpa using h1, by simpa using h2, h3⟩
  | [], _, _, _, _, _, hi => by simp at hi
  | _ :: _, [], _, h, _, _, _ => h.elim
  | _ :: _, _ :: _, [], h, _, _, _ => h.elim

theorem obls_of {ds : List Tmp} {a0 : Act} {ops : Array Oper} : ∀ {l : List Oper} {ts : List (List Tmp)}, (∀ (i : Nat) (o : Oper), l[i]? = some o → Obl P Le F ds Ψ a0 ops o (ts.getD i [])) → Obls P Le F ds Ψ a0 ops l ts
  | [], _, _ => trivial
  | o :: l, ts, h => by
    refine ⟨?_, obls_of fun i o' hi => ?_⟩
    · have := h 0 o rfl
      have e : ts.getD 0 [] = ts.headD [] := by cases ts <;> rfl
      rwa [e] at this
    · have := h (i + 1) o' (by simpa using hi)
      have e : ts.getD (i + 1) [] = ts.tail.getD i [] := by cases ts <;> simp
      rwa [e] at this

theorem slotsAt_of {ds : List (Option Tmp)} {φs : List (Value → World → Prop)} {a0 A : Act} {W : World} : ∀ {ts : List Tmp}, (∀ t ∈ ts, slotAt ds φs a0 t (A.eval (.tmp t)) W) → slotsAt ds φs a0 A.eval W ts
  | [], _ => trivial
  | t :: _, h => ⟨h t (by simp), slotsAt_of fun u hu => h u (by simp [hu])⟩
theorem slots_mem {ds : List Tmp} {a0 A : Act} {W : World} : ∀ {ts : List Tmp}, slots ds Ψ a0 A W ts → ∀ t ∈ ts, slot ds Ψ a0 t (A.eval (.tmp t)) W
  | _ :: _, h, _, ht => by
    rcases List.mem_cons.1 ht with rfl | h2
    · exact h.1
    · exact slots_mem h.2 _ h2

/-- **EVERY ORDER AT ONCE, no operation guarded**: `φs` beside the operations. -/
theorem wp_region_each {id : Nat} {Q : Exit → Act → World → Prop} {a : Act} {w : World} {l : List Oper} (ds : List (Option Tmp)) (ts : List (List Tmp)) (φs : List (Value → World → Prop))
    (hm : P.follows .mixedOrders = true) (hB : depsB a.tmps.size l.toArray = true) (hg : l.all (fun o => o.guard.isNone) = true) (hds : l.map (·.dst) = ds) (hts : l.map (·.looksAt l.toArray) = ts)
    (Le : World → World → Prop) (F : World → Prop)
    (hrefl : ∀ W, F W → Le W W) (hF : ∀ W W', F W → Le W W' → F W') (hφ : Keeps Le F φs)
    (h0 : F w.drew) (hO : Asks P Le F ds φs a l φs ts)
    (hend : ∀ (f : Tmp → Value) (W : World), F W → Ends f W ds φs → Q .normal (fin a (ds.filterMap (fun d => d)) f) W) : (Code.region id l.toArray true).wp P Q a w := by
  have hdsts : dsts l.toArray = ds.filterMap (fun d => d) := by rw [← hds]; unfold dsts; rw [List.filterMap_map]; rfl
  have hat : ∀ {i : Nat} {o : Oper} {t : Tmp} {φ : Value → World → Prop}, l[i]? = some o → o.dst = some t → φs[i]? = some φ → look ds φs t = some φ := by
    intro i o t φ hi hd hp
    refine look_at (i := i) (by rw [← hds, List.getElem?_map, hi]; simp [hd]) hp fun j hj => ?_
    rw [← hds, List.getElem?_map] at hj
    cases hlj : l[j]? with
    | none => rw [hlj] at hj; cases hj
    | some oj =>
      rw [hlj] at hj
      exact ((depsB_at hB (i := i) (o := o) (by simpa using hi)).1 t hd).2 j oj (by simpa using hlj) (by simpa using hj)
  refine wp_region_inv (Ψ := fun t => (look ds φs t).getD (fun _ _ => True)) (ds.filterMap (fun d => d)) ts hm hB hdsts hts Le F hrefl hF ?_ h0 ?_ ?_
  · intro t v W W' h1 h2 h3
    cases hl : look ds φs t with
    | none => simp
    | some φ =>
      simp only [hl, Option.getD_some] at h3 ⊢
      exact look_keeps hφ hl v W W' h1 h2 h3
  · refine obls_of fun i o hi => ?_
    obtain ⟨φ, t, h1, h2, h3⟩ := asks_at hO hi
    have hgo : o.guard = none := by
      have := List.all_eq_true.1 hg o (List.mem_of_getElem? hi)
      simpa using this
    have ht : ts.getD i [] = t := by simp [h2]
    rw [ht]
    intro A W hF' hs
    refine ⟨fun _ => ?_, fun hw => by simp [Region.wanted, hgo] at hw⟩
    have h4 := h3 A.eval W (Std.eval A) hF' (slotsAt_of fun u hu => by
      have h5 := slots_mem hs u hu
      unfold slot at h5
      unfold slotAt
      split at h5
      · rename_i hc
        cases hl : look ds φs u with
        | some φ' => simpa [hl] using h5
        | none =>
          exfalso
          have hmem : u ∈ dsts l.toArray := by rw [hdsts]; simpa using hc
          obtain ⟨j, oj, hj, hdj⟩ := mem_dsts.1 hmem
          obtain ⟨φj, _, hj1, _⟩ := asks_at hO (i := j) (o := oj) (by simpa using hj)
          rw [hat (by simpa using hj) hdj hj1] at hl
          cases hl
      · rename_i hc
        cases hl : look ds φs u with
        | none => exact h5
        | some φ' =>
          exfalso
          refine hc ?_
          have : u ∈ ds.filterMap (fun d => d) := by
            clear hc h5
            have aux : ∀ {ds : List (Option Tmp)} {φs : List (Value → World → Prop)}, look ds φs u = some φ' → some u ∈ ds := by
              intro ds
              induction ds with
              | nil => intro φs h; cases φs <;> cases h
              | cons d ds ih =>
                intro φs h
                cases φs with
                | nil => cases d <;> cases h
                | cons φ φs =>
                  cases d with
                  | none => exact List.mem_cons_of_mem _ (ih h)
                  | some d =>
                    unfold look at h
                    cases hb : Nat.beq d u
                    · rw [hb] at h; exact List.mem_cons_of_mem _ (ih h)
                    · have e : d = u := Nat.eq_of_beq_eq_true hb
                      rw [e]; exact List.mem_cons_self
            exact List.mem_filterMap.2 ⟨some u, aux hl, rfl⟩
          simpa using this)
    cases hd : o.dst with
    | none =>
      have e : ∀ v W, dstPost (fun t => (look ds φs t).getD (fun _ _ => True)) o v W := fun v W => by simp [dstPost, hd]
      generalize (execOp A.eval o).run P W = r at h4
      cases r with
      | ok nx W' =>
        cases nx <;> simp only [RelUpon] at h4 ⊢
        case value v => exact ⟨h4.1, e _ _⟩
        case skip => exact ⟨h4.1, e _ _⟩
        case enter f args => exact h4.mono fun _ _ ⟨v, h5, h6, _⟩ => ⟨v, h5, h6, e _ _⟩
      | halt x W' => simp only [RelUpon] at h4
    | some d =>
      have e : dstPost (fun t => (look ds φs t).getD (fun _ _ => True)) o = φ := by
        funext v W
        simp [dstPost, hd, hat hi hd h1]
      rw [e]; exact h4
  · intro f W hFW hall
    refine hend f W hFW (ends_of fun i t φ h1 h2 => ?_)
    have h3 := hall t (List.mem_filterMap.2 ⟨some t, List.mem_of_getElem? h1, rfl⟩)
    rw [← hds, List.getElem?_map] at h1
    cases hli : l[i]? with
    | none => rw [hli] at h1; cases h1
    | some o =>
      rw [hli] at h1
      rw [hat hli (by simpa using h1) h2] at h3
      exact h3
/-- One operation of the first that may come up. -/
theorem part_step {full : Array Oper} {a0 : Act} {listed : Array Bool} {a : Act} {W : World} {Q : Exit → Act → World → Prop} {K : Act → World → Prop} {i : Nat} {o : Oper} {ts : List Tmp}
    (hB : depsB a0.tmps.size ops = true) (hls : i < listed.size) (hF : ∀ W W', F W → Le W W' → F W') (hΨ : ∀ t v W W', F W → Le W W' → Ψ t v W → Ψ t v W')
    (hi : ops[i]? = some o) (hfull : full[i]? = some o) (hgd : o.guard = none) (_hun : listed.getD i true = false) (hall : ∀ e ∈ o.after, Region.binds .any e = true → listed.getD e.on false = true) (hts : o.looksAt ops = ts)
    (ho : ∀ (A : Act) (W : World), F W → slots (dsts ops) Ψ a0 A W ts → RelUpon P Le (dstPost Ψ o) W ((execOp A.eval o).run P W))
    (hg : Good F Ψ a0 ops listed a W) (hK : ∀ a' W', Good F Ψ a0 ops (listed.setIfInBounds i true) a' W' → K a' W') : wpOp P full Q i K a W := by
  obtain ⟨hd1, hd2, hd3⟩ := depsB_at hB hi
  -- the slots that are read
  have hsl : slots (dsts ops) Ψ a0 a W ts := slots_of fun t ht => by
    unfold slot
    split
    · rename_i hc
      obtain ⟨j, oj, hj, hdj⟩ := mem_dsts.1 (by simpa using hc)
      obtain ⟨e, he, hb, hon⟩ := hd2 t (by rw [hts]; exact ht) j oj hj hdj
      have hl := hall e he hb
      rw [hon] at hl
      exact hg.done j oj t hj hdj hl
    · rename_i hc
      refine hg.other t fun j oj hj hdj => absurd ?_ hc
      simpa using mem_dsts.2 ⟨j, oj, hj, hdj⟩
  have h1 := ho a W hg.base hsl
  -- what a value does
  have put : ∀ (v : Value) (W' : World), Le W W' → dstPost Ψ o v W' → Good F Ψ a0 ops (listed.setIfInBounds i true) (a.put o.dst v) W' := by
    intro v W' hle hv
    have hbase := hF _ _ hg.base hle
    cases hdst : o.dst with
    | none =>
      refine ⟨hg.defers, hg.size, hbase, fun j oj t hj hdj hl => ?_, fun t ht => hg.other t fun j oj hj hdj => ?_⟩
      · have hne : i ≠ j := by
          rintro rfl
          rw [hi] at hj
          obtain rfl : o = oj := by simpa using hj
          rw [hdst] at hdj; cases hdj
        rw [listed_of_ne hne] at hl
        exact hΨ _ _ _ _ hg.base hle (hg.done j oj t hj hdj hl)
      · have := ht j oj hj hdj
        have hne : i ≠ j := by
          rintro rfl
          rw [hi] at hj
          obtain rfl : o = oj := by simpa using hj
          rw [hdst] at hdj; cases hdj
        rwa [listed_of_ne hne] at this
    | some d =>
      obtain ⟨hdn, huniq⟩ := hd1 d hdst
      have hda : d < a.tmps.size := by rw [hg.size]; exact hdn
      refine ⟨hg.defers, by simp [Act.put, hg.size], hbase, fun j oj t hj hdj hl => ?_, fun t ht => ?_⟩
      · by_cases hne : i = j
        · subst hne
          rw [hi] at hj
          obtain rfl : o = oj := by simpa using hj
          rw [hdst] at hdj
          obtain rfl : d = t := by simpa using hdj
          rw [eval_put_same a hda]
          simpa [dstPost, hdst] using hv
        · rw [listed_of_ne hne] at hl
          have htd : d ≠ t := by
            rintro rfl
            exact hne (huniq j oj hj hdj).symm
          rw [eval_put_other a htd]
          exact hΨ _ _ _ _ hg.base hle (hg.done j oj t hj hdj hl)
      · have htd : d ≠ t := by
          rintro rfl
          have := ht i o hi hdst
          simp [hls] at this
        rw [eval_put_other a htd]
        refine hg.other t fun j oj hj hdj => ?_
        have h2 := ht j oj hj hdj
        have hne : i ≠ j := by
          rintro rfl
          rw [hi] at hj
          obtain rfl : o = oj := by simpa using hj
          rw [hdst] at hdj
          exact htd (by simpa using hdj)
        rwa [listed_of_ne hne] at h2
  unfold wpOp
  simp only [hfull]
  have hw : Region.wanted o (yielded full a.tmps) = true := by simp [Region.wanted, hgd]
  rw [if_pos hw]
  refine .inl ?_
  unfold Oper.wp
  generalize (execOp a.eval o).run P W = r at h1
  cases r with
  | ok nx W' =>
    cases nx <;> simp only [RelUpon] at h1 <;> simp only [Oper.upon]
    case value v => exact hK _ _ (put v W' h1.1 h1.2)
    case skip => exact hK _ _ (put undef W' h1.1 h1.2)
    case enter f args =>
      refine Calls.mono h1 ?_
      rintro e W'' ⟨v, rfl, hle, hv⟩
      exact hK _ _ (put v W'' hle hv)
  | halt x W' => simp only [RelUpon] at h1


/-! A region whose last operations wait for all before them: the others in every order, these in theirs. -/

/-- From index k on each operation waits for all before it. -/
def tailB (k : Nat) (ops : Array Oper) : Bool :=
  (List.range ops.size).all fun i => decide (i < k) || match ops[i]? with
    | none => true
    | some o => (List.range i).all fun j => o.after.any fun e => Region.binds .any e && e.on == j

theorem tailB_at {k : Nat} (h : tailB k ops = true) {i : Nat} {o : Oper} (hi : ops[i]? = some o) (hk : k ≤ i) {j : Nat} (hj : j < i) : ∃ e ∈ o.after, Region.binds .any e = true ∧ e.on = j := by
  unfold tailB at h
  rw [List.all_eq_true] at h
  have h1 := h i (List.mem_range.2 (Array.getElem?_eq_some_iff.1 hi).1)
  have hk' : ¬ i < k := by omega
  simp only [hk', decide_false, Bool.false_or, hi, List.all_eq_true, List.mem_range] at h1
  obtain ⟨e, he, h4⟩ := Array.any_eq_true'.1 (h1 j hj)
  simp only [Bool.and_eq_true, beq_iff_eq] at h4
  exact ⟨e, he, h4.1, h4.2⟩

/-- Edges lead back. -/
def backB (ops : Array Oper) : Bool := (List.range ops.size).all fun i => match ops[i]? with
  | none => true
  | some o => o.after.all fun e => !Region.binds .any e || decide (e.on < i)
theorem backB_at (h : backB ops = true) {i : Nat} {o : Oper} (hi : ops[i]? = some o) : ∀ e ∈ o.after, Region.binds .any e = true → e.on < i := by
  intro e he hbd
  unfold backB at h
  rw [List.all_eq_true] at h
  have h1 := h i (List.mem_range.2 (Array.getElem?_eq_some_iff.1 hi).1)
  simp only [hi] at h1
  have h2 := Array.all_eq_true_iff_forall_mem.1 h1 e he
  simp only [hbd, Bool.not_true, Bool.false_or, decide_eq_true_eq] at h2
  exact h2

/-- The last operations, one by one. -/
theorem tail_run {Q : Exit → Act → World → Prop} {k : Nat} (hT : tailB k ops = true) (hE : backB ops = true) : ∀ (fuel i : Nat) (listed : Array Bool) (a : Act) (W : World), k ≤ i → i + fuel = ops.size → listed.size = ops.size →
    (∀ j, j < i → listed.getD j true = true) → (∀ j, i ≤ j → j < ops.size → listed.getD j true = false) → wpList P ops Q (ops.toList.drop i) a W → wpAny P .any ops Q fuel listed a W
  | 0, i, listed, a, W, _, hs, hls, hin, _, h => by
    have hr : Region.ready .any ops listed = [] := by
      rw [List.eq_nil_iff_forall_not_mem]
      intro j hj
      obtain ⟨h1, o, ho, _⟩ := mem_ready.1 hj
      rw [hin j (by have := (Array.getElem?_eq_some_iff.1 ho).1; omega)] at h1
      cases h1
    rw [List.drop_of_length_le (by simp; omega)] at h
    exact ⟨hr, h⟩
  | fuel + 1, i, listed, a, W, hk, hs, hls, hin, hout, h => by
    have hlt : i < ops.size := by omega
    have hi : ops[i]? = some ops[i] := Array.getElem?_eq_getElem hlt
    have hedge : ∀ j, j < i → listed.getD j false = true := fun j hj => by
      have h1 := hin j hj
      have h2 : j < listed.size := by omega
      simp [h2] at h1 ⊢
      exact h1
    refine ⟨fun hr => ?_, fun j hj => ?_⟩
    · exfalso
      have : i ∈ Region.ready .any ops listed := mem_ready.2 ⟨hout i (Nat.le_refl _) hlt, _, hi, fun e he hbd => hedge _ (backB_at hE hi e he hbd)⟩
      rw [hr] at this; cases this
    · obtain ⟨h1, o, ho, hall⟩ := mem_ready.1 hj
      have hjs := (Array.getElem?_eq_some_iff.1 ho).1
      have hij : j = i := by
        rcases Nat.lt_trichotomy j i with h2 | h2 | h2
        · rw [hin j h2] at h1; cases h1
        · exact h2
        · obtain ⟨e, he, hbd, hon⟩ := tailB_at hT ho (by omega) h2
          have h3 := hall e he hbd
          rw [hon] at h3
          have h4 := hout i (Nat.le_refl _) hlt
          have h5 : i < listed.size := by omega
          simp [h5] at h3 h4
          rw [h4] at h3; cases h3
      subst hij
      rw [hi] at ho
      obtain rfl : ops[j] = o := by simpa using ho
      rw [List.drop_eq_getElem_cons (by simpa using hjs)] at h
      have e : ops.toList[j]'(by simpa using hjs) = ops[j] := by simp
      rw [e] at h
      unfold wpList at h
      unfold wpOp
      simp only [hi]
      have next : ∀ a' W', wpList P ops Q (ops.toList.drop (j + 1)) a' W' → wpAny P .any ops Q fuel (listed.setIfInBounds j true) a' W' := fun a' W' h' =>
        tail_run hT hE fuel (j + 1) _ a' W' (by omega) (by omega) (by simpa using hls)
          (fun j' hj' => by
            by_cases hjj : j = j'
            · subst hjj
              have : j < listed.size := by omega
              simp [this]
            · rw [getD_set_ne true hjj]; exact hin j' (by omega))
          (fun j' hj1 hj2 => by rw [getD_set_ne true (by omega)]; exact hout j' (by omega) hj2) h'
      split
      · rename_i hw
        rw [if_pos hw] at h
        rcases h with h | h
        · exact .inl (Oper.wp_mono next h)
        · exact .inr h
      · rename_i hw
        rw [if_neg hw] at h
        exact next _ _ h

theorem unl_tail {l : Array Bool} {i n : Nat} (hin : ∀ j, j < i → l.getD j true = true) (hout : ∀ j, i ≤ j → j < n → l.getD j true = false) (hi : i ≤ n) : unl l n = n - i := by
  have h1 : ∀ m, m ≤ i → unl l m = 0 := by
    intro m
    induction m with
    | zero => intro _; rfl
    | succ m ih => intro hm; unfold unl; rw [ih (by omega), hin m (by omega)]; simp
  have h2 : ∀ d, i + d ≤ n → unl l (i + d) = d := by
    intro d
    induction d with
    | zero => intro _; exact h1 i (Nat.le_refl _)
    | succ d ih =>
      intro hd
      show unl l (i + d + 1) = d + 1
      unfold unl
      rw [ih (by omega), hout (i + d) (by omega) (by omega)]; simp
  have := h2 (n - i) (by omega)
  rwa [show i + (n - i) = n by omega] at this

theorem look_mem {u : Tmp} {φ' : Value → World → Prop} : ∀ {ds : List (Option Tmp)} {φs : List (Value → World → Prop)}, look ds φs u = some φ' → some u ∈ ds := by
  intro ds
  induction ds with
  | nil => intro φs h; cases φs <;> cases h
  | cons d ds ih =>
    intro φs h
    cases φs with
    | nil => cases d <;> cases h
    | cons φ φs =>
      cases d with
      | none => exact List.mem_cons_of_mem _ (ih h)
      | some d =>
        unfold look at h
        cases hb : Nat.beq d u
        · rw [hb] at h; exact List.mem_cons_of_mem _ (ih h)
        · have e : d = u := Nat.eq_of_beq_eq_true hb
          rw [e]; exact List.mem_cons_self

theorem slotAt_of {ds : List (Option Tmp)} {φs : List (Value → World → Prop)} {p : List Oper} {a0 : Act} {u : Tmp} {v : Value} {W : World} (hdsts : dsts p.toArray = ds.filterMap (fun d => d))
    (hl : ∀ (j : Nat) (oj : Oper), True → p.toArray[j]? = some oj → oj.dst = some u → ∃ φ, look ds φs u = some φ) (h : slot (dsts p.toArray) (fun t => (look ds φs t).getD (fun _ _ => True)) a0 u v W) : slotAt ds φs a0 u v W := by
  unfold slot at h
  unfold slotAt
  split at h
  · rename_i hc
    obtain ⟨j, oj, hj, hdj⟩ := mem_dsts.1 (by simpa using hc)
    obtain ⟨φ, hφ⟩ := hl j oj trivial hj hdj
    simpa [hφ] using h
  · rename_i hc
    cases hlk : look ds φs u with
    | none => exact h
    | some φ' =>
      exfalso
      refine hc ?_
      have : u ∈ dsts p.toArray := by rw [hdsts]; exact List.mem_filterMap.2 ⟨some u, look_mem hlk, rfl⟩
      simpa using this

theorem relUpon_dst {ds : List (Option Tmp)} {φs : List (Value → World → Prop)} {o : Oper} {φ : Value → World → Prop} {W : World} {r : Result Next} (h4 : RelUpon P Le φ W r) (hl : ∀ d, o.dst = some d → look ds φs d = some φ) :
    RelUpon P Le (dstPost (fun t => (look ds φs t).getD (fun _ _ => True)) o) W r := by
  cases hd : o.dst with
  | none =>
    have e : ∀ v W, dstPost (fun t => (look ds φs t).getD (fun _ _ => True)) o v W := fun v W => by simp [dstPost, hd]
    cases r with
    | ok nx W' =>
      cases nx <;> simp only [RelUpon] at h4 ⊢
      case value v => exact ⟨h4.1, e _ _⟩
      case skip => exact ⟨h4.1, e _ _⟩
      case enter f args => exact h4.mono fun _ _ ⟨v, h5, h6, _⟩ => ⟨v, h5, h6, e _ _⟩
    | halt x W' => simp only [RelUpon] at h4
  | some d =>
    have e : dstPost (fun t => (look ds φs t).getD (fun _ _ => True)) o = φ := by
      funext v W
      simp [dstPost, hd, hl d hd]
    rw [e]; exact h4


/-- **THE FIRST k OPERATIONS IN EVERY ORDER, THE OTHERS IN THEIRS.** -/
theorem wp_region_part {id : Nat} {Q : Exit → Act → World → Prop} {a : Act} {w : World} {l : List Oper} (k : Nat) (ds : List (Option Tmp)) (ts : List (List Tmp)) (φs : List (Value → World → Prop))
    (hm : P.follows .mixedOrders = true) (hB : depsB a.tmps.size (l.take k).toArray = true) (hT : tailB k l.toArray = true) (hE : backB l.toArray = true) (hg : (l.take k).all (fun o => o.guard.isNone) = true)
    (hds : (l.take k).map (·.dst) = ds) (hts : (l.take k).map (·.looksAt (l.take k).toArray) = ts)
    (Le : World → World → Prop) (F : World → Prop)
    (_hrefl : ∀ W, F W → Le W W) (hF : ∀ W W', F W → Le W W' → F W') (hφ : Keeps Le F φs)
    (h0 : F w.drew) (hO : Asks P Le F ds φs a (l.take k) φs ts)
    (hend : ∀ (f : Tmp → Value) (W : World), F W → Ends f W ds φs → wpList P l.toArray Q (l.drop k) (fin a (ds.filterMap (fun d => d)) f) W) : (Code.region id l.toArray true).wp P Q a w := by
  obtain ⟨p, hp⟩ : ∃ p, p = l.take k := ⟨_, rfl⟩
  rw [← hp] at hB hg hds hts hO
  have hpl : ∀ {i : Nat} {o : Oper}, p[i]? = some o → l[i]? = some o := fun {i o} hi => by
    rw [hp, List.getElem?_take] at hi
    split at hi
    · exact hi
    · cases hi
  have hplt : ∀ {i : Nat} {o : Oper}, p[i]? = some o → i < k := fun {i o} hi => by
    rw [hp, List.getElem?_take] at hi
    split at hi
    · assumption
    · cases hi
  have hlp : ∀ {i : Nat} {o : Oper}, l[i]? = some o → i < k → p[i]? = some o := fun {i o} hi hk => by rw [hp, List.getElem?_take, if_pos hk]; exact hi
  have hdsts : dsts p.toArray = ds.filterMap (fun d => d) := by rw [← hds]; unfold dsts; rw [List.filterMap_map]; rfl
  have hat : ∀ {i : Nat} {o : Oper} {t : Tmp} {φ : Value → World → Prop}, p[i]? = some o → o.dst = some t → φs[i]? = some φ → look ds φs t = some φ := by
    intro i o t φ hi hd hp'
    refine look_at (i := i) (by rw [← hds, List.getElem?_map, hi]; simp [hd]) hp' fun j hj => ?_
    rw [← hds, List.getElem?_map] at hj
    cases hlj : p[j]? with
    | none => rw [hlj] at hj; cases hj
    | some oj =>
      rw [hlj] at hj
      exact ((depsB_at hB (i := i) (o := o) (by simpa using hi)).1 t hd).2 j oj (by simpa using hlj) (by simpa using hj)
  have hΨ : ∀ t v W W', F W → Le W W' → (fun t => (look ds φs t).getD (fun _ _ => True)) t v W → (fun t => (look ds φs t).getD (fun _ _ => True)) t v W' := by
    intro t v W W' h1 h2 h3
    cases hl : look ds φs t with
    | none => simp
    | some φ =>
      simp only [hl, Option.getD_some] at h3 ⊢
      exact look_keeps hφ hl v W W' h1 h2 h3
  have goodEnd : ∀ {listed : Array Bool} {a' : Act} {W : World}, Good F (fun t => (look ds φs t).getD (fun _ _ => True)) a p.toArray listed a' W → (∀ i, i < p.toArray.size → listed.getD i false = true) →
      wpList P l.toArray Q (l.drop k) a' W := by
    intro listed a' W hg' hall
    rw [act_fin (a := a') (a0 := a) (ds := dsts p.toArray) hg'.defers hg'.size (fun t ht => hg'.other t fun i o hi hd => absurd (mem_dsts.2 ⟨i, o, hi, hd⟩) ht), hdsts]
    refine hend _ W hg'.base (ends_of fun i t φ h1 h2 => ?_)
    rw [← hds, List.getElem?_map] at h1
    cases hli : p[i]? with
    | none => rw [hli] at h1; cases h1
    | some o =>
      rw [hli] at h1
      have hd : o.dst = some t := by simpa using h1
      have h3 := hg'.done i o t (by simpa using hli) hd (hall i (by have := (List.getElem?_eq_some_iff.1 hli).1; simpa using this))
      rw [hat hli hd h2] at h3
      exact h3
  refine wp_region_any hm ?_
  have main : ∀ (fuel : Nat) (listed : Array Bool) (a' : Act) (W : World), listed.size = l.toArray.size → unl listed l.toArray.size = fuel → (∀ j, k ≤ j → j < l.toArray.size → listed.getD j true = false) →
      Good F (fun t => (look ds φs t).getD (fun _ _ => True)) a p.toArray listed a' W → wpAny P .any l.toArray Q fuel listed a' W := by
    intro fuel
    induction fuel with
    | zero =>
      intro listed a' W hls hu hout hgood
      have hall := unl_zero hu
      -- nothing is left: so there is no last operation
      have hkn : l.toArray.size ≤ k := by
        rcases Nat.lt_or_ge k l.toArray.size with h1 | h1
        · have h2 := hout k (Nat.le_refl _) h1
          rw [hall k h1] at h2; cases h2
        · exact h1
      have hr : Region.ready .any l.toArray listed = [] := by
        rw [List.eq_nil_iff_forall_not_mem]
        intro i hi
        obtain ⟨h1, o, ho, _⟩ := mem_ready.1 hi
        rw [hall i (Array.getElem?_eq_some_iff.1 ho).1] at h1
        cases h1
      refine ⟨hr, ?_⟩
      have h9 := goodEnd (listed := listed) hgood (fun i hi => by
        have h1 := hall i (by
          have h3 : i < p.length := by simpa using hi
          have h4 : p.length ≤ l.length := by rw [hp, List.length_take]; omega
          simp; omega)
        have h2 : i < listed.size := by
          have h3 : i < p.length := by simpa using hi
          have h4 : p.length ≤ l.length := by rw [hp, List.length_take]; omega
          simp at hls; omega
        simp [h2] at h1 ⊢
        exact h1)
      rw [List.drop_of_length_le (by simpa using hkn)] at h9
      exact h9
    | succ fuel ih =>
      intro listed a' W hls hu hout hgood
      refine ⟨fun hr => ?_, fun i hi => ?_⟩
      · exfalso
        -- the first that has not come up is ready
        have hall : ∀ i, i < l.toArray.size → listed.getD i false = true := by
          intro i
          induction i using Nat.strongRecOn with
          | ind i ihi =>
            intro hi
            by_cases hc : listed.getD i false = true
            · exact hc
            · exfalso
              have hm' : i ∈ Region.ready .any l.toArray listed := by
                refine mem_ready.2 ⟨?_, l.toArray[i], Array.getElem?_eq_getElem hi, fun e he hb => ihi e.on (backB_at hE (Array.getElem?_eq_getElem hi) e he hb) (Nat.lt_trans (backB_at hE (Array.getElem?_eq_getElem hi) e he hb) hi)⟩
                have : i < listed.size := by omega
                simp [this] at hc ⊢
                exact hc
              rw [hr] at hm'
              cases hm'
        have hz : unl listed l.toArray.size = 0 := by
          have : ∀ n, n ≤ l.toArray.size → unl listed n = 0 := by
            intro n
            induction n with
            | zero => intro _; rfl
            | succ n ihn =>
              intro hn
              unfold unl
              have h1 := hall n (by omega)
              have h2 : n < listed.size := by omega
              have h3 : listed.getD n true = true := by simp [h2] at h1 ⊢; exact h1
              rw [ihn (by omega), h3]; simp
          exact this _ (Nat.le_refl _)
        omega
      · obtain ⟨hun, o, ho, hall⟩ := mem_ready.1 hi
        have hlt : i < l.toArray.size := (Array.getElem?_eq_some_iff.1 ho).1
        have hlo : l[i]? = some o := by simpa using ho
        by_cases hik : i < k
        · have hpo := hlp hlo hik
          obtain ⟨φ, t, h1, h2, h3⟩ := asks_at hO hpo
          have hgo : o.guard = none := by
            have := List.all_eq_true.1 hg o (List.mem_of_getElem? hpo)
            simpa using this
          have htl : o.looksAt p.toArray = t := by
            rw [← hts, List.getElem?_map, hpo] at h2
            simpa using h2
          refine part_step (ts := t) (ops := p.toArray) (Ψ := fun t => (look ds φs t).getD (fun _ _ => True)) hB (by omega) hF hΨ (by simpa using hpo) ho hgo hun hall htl ?_ hgood (fun a'' W'' hg' => ih _ a'' W'' (by simpa using hls) ?_ ?_ hg')
          · intro A W1 hF' hs
            have h4 := h3 A.eval W1 (Std.eval A) hF' (slotsAt_of fun u hu => slotAt_of (hdsts := hdsts) (fun j oj _ hj hdj => by
                obtain ⟨φj, _, hj1, _⟩ := asks_at hO (i := j) (o := oj) (by simpa using hj)
                exact ⟨φj, hat (by simpa using hj) hdj hj1⟩) (slots_mem hs u hu))
            exact relUpon_dst h4 (fun d hd => hat hpo hd h1)
          · have := unl_set (l := listed) (i := i) hun (by omega) hlt
            omega
          · intro j hj1 hj2
            rw [getD_set_ne true (by omega)]
            exact hout j hj1 hj2
        · -- a last operation: all before it have come up
          have hin : ∀ j, j < i → listed.getD j true = true := fun j hj => by
            obtain ⟨e, he, hbd, hon⟩ := tailB_at hT ho (by omega) hj
            have h3 := hall e he hbd
            rw [hon] at h3
            have h5 : j < listed.size := by omega
            simp [h5] at h3 ⊢
            exact h3
          have hik' : i = k := by
            rcases Nat.lt_or_ge k i with h1 | h1
            · have h2 := hin k h1
              rw [hout k (Nat.le_refl _) (by omega)] at h2; cases h2
            · omega
          subst hik'
          have h9 := goodEnd (listed := listed) hgood (fun j hj => by
            have h3 : j < p.length := by simpa using hj
            have h4 : p.length ≤ i := by rw [hp, List.length_take]; omega
            have h1 := hin j (by omega)
            have h2 : j < listed.size := by omega
            simp [h2] at h1 ⊢
            exact h1)
          have h10 := tail_run hT hE (fuel + 1) i listed a' W (Nat.le_refl _) (by
            have : unl listed l.toArray.size = l.toArray.size - i := unl_tail hin hout (by omega)
            omega) hls hin hout h9
          exact h10.2 i hi
  have hcount : ∀ n : Nat, n ≤ l.toArray.size → unl (Array.replicate l.toArray.size false) n = n := by
    intro n
    induction n with
    | zero => intro _; rfl
    | succ n ih =>
      intro hn
      unfold unl
      rw [ih (by omega)]
      have h3 : n < l.length := by simp only [List.size_toArray] at hn; omega
      have : (Array.replicate l.toArray.size false).getD n true = false := by simp [h3]
      rw [this]; simp
  exact main _ _ a w.drew (by simp) (hcount _ (Nat.le_refl _)) (fun j _ hj => by
    have h3 : j < l.length := by simpa using hj
    simp [h3]) ⟨rfl, rfl, h0, fun i o t hi _ hl => by
    have h4 : i < l.length := by
      have h3 : i < p.length := by have := (Array.getElem?_eq_some_iff.1 hi).1; simpa using this
      have h5 : p.length ≤ l.length := by rw [hp, List.length_take]; omega
      omega
    simp [h4] at hl, fun t _ => rfl⟩
end

/-- The value is known. -/
def Is (v : Value) : Value → World → Prop := fun u _ => u = v
end Go.RegInv

/- RegInv inside a fence that asks nothing, also in a round of a loop over a function. By mkin.py out of RegInv. -/
namespace Go.RegInv

/-- A fence that asks nothing, perhaps in a round. -/
structure WideIn (Fc : Fence) : Prop where
  fn : ∀ f, Fc.fn f
  depth : Fc.depth.isSome = false
  calls : ∀ {n : Nat} {P : Program} {f : FuncId} {args : Array Value} {w : World} {R : Ending → World → Prop}, Calls P f args w R → CallsIn Fc n P f args w R
theorem WideIn.wide : WideIn Fence.wide := ⟨fun _ => trivial, rfl, fun h => callsIn_wide.2 h⟩
theorem WideIn.inRound (l : Nat) : WideIn (Fence.wide.inRound l) := ⟨fun _ => trivial, rfl, fun h => CallsIn.inRound l (callsIn_wide.2 h)⟩
def noDefer (ops : Array Oper) : Bool := ops.all fun o => match o.op with | .defer _ => false | _ => true

variable {Fc : Fence} {m : Nat} {P : Program} {Le : World → World → Prop} {F : World → Prop} {Ψ : Tmp → Value → World → Prop} {n : Nat} {ops : Array Oper}

theorem semAt_of {ρ : Operand → Value} {ro : Option Nat} {i : Nat} {o : Oper} (h : noDefer ops = true) (hi : ops[i]? = some o) : o.semAt ro ρ = execOp ρ o := by
  cases ro with
  | none => rfl
  | some l =>
    have := Array.all_eq_true_iff_forall_mem.1 h o (Array.mem_of_getElem? hi)
    unfold Oper.semAt
    cases ho : o.op <;> simp_all

/-- One operation that may come up. -/
theorem good_stepIn (hW : WideIn Fc) (hnd : noDefer ops = true) {a0 : Act} {listed : Array Bool} {a : Act} {W : World} {Q : Exit → Act → World → Prop} {K : Act → World → Prop} {i : Nat} {o : Oper} {ts : List Tmp}
    (hB : depsB a0.tmps.size ops = true) (hls : listed.size = ops.size) (hF : ∀ W W', F W → Le W W' → F W') (hΨ : ∀ t v W W', F W → Le W W' → Ψ t v W → Ψ t v W')
    (hi : ops[i]? = some o) (hr : i ∈ Region.ready .any ops listed) (hts : o.looksAt ops = ts) (ho : Obl P Le F (dsts ops) Ψ a0 ops o ts) (hrefl : ∀ W, F W → Le W W)
    (hg : Good F Ψ a0 ops listed a W) (hK : ∀ a' W', Good F Ψ a0 ops (listed.setIfInBounds i true) a' W' → K a' W') : wpOpIn Fc m P ops Q i K a W := by
  obtain ⟨hd1, hd2, hd3⟩ := depsB_at hB hi
  obtain ⟨hun, o', ho', hall⟩ := mem_ready.1 hr
  rw [hi] at ho'
  obtain rfl : o = o' := by simpa using ho'
  have hlt : i < ops.size := (Array.getElem?_eq_some_iff.1 hi).1
  have hun' : listed.getD i false = false := by
    have : i < listed.size := by omega
    simp [this] at hun ⊢
    exact hun
  -- the slots that are read
  have hsl : slots (dsts ops) Ψ a0 a W ts := slots_of fun t ht => by
    unfold slot
    split
    · rename_i hc
      obtain ⟨j, oj, hj, hdj⟩ := mem_dsts.1 (by simpa using hc)
      obtain ⟨e, he, hb, hon⟩ := hd2 t (by rw [hts]; exact ht) j oj hj hdj
      have hl := hall e he hb
      rw [hon] at hl
      exact hg.done j oj t hj hdj hl
    · rename_i hc
      refine hg.other t fun j oj hj hdj => absurd ?_ hc
      simpa using mem_dsts.2 ⟨j, oj, hj, hdj⟩
  obtain ⟨hyes, hno⟩ := ho a W hg.base hsl
  -- what a value does
  have put : ∀ (v : Value) (W' : World), Le W W' → dstPost Ψ o v W' → Good F Ψ a0 ops (listed.setIfInBounds i true) (a.put o.dst v) W' := by
    intro v W' hle hv
    have hbase := hF _ _ hg.base hle
    cases hdst : o.dst with
    | none =>
      refine ⟨hg.defers, hg.size, hbase, fun j oj t hj hdj hl => ?_, fun t ht => hg.other t fun j oj hj hdj => ?_⟩
      · have hne : i ≠ j := by
          rintro rfl
          rw [hi] at hj
          obtain rfl : o = oj := by simpa using hj
          rw [hdst] at hdj; cases hdj
        rw [listed_of_ne hne] at hl
        exact hΨ _ _ _ _ hg.base hle (hg.done j oj t hj hdj hl)
      · have := ht j oj hj hdj
        have hne : i ≠ j := by
          rintro rfl
          rw [hi] at hj
          obtain rfl : o = oj := by simpa using hj
          rw [hdst] at hdj; cases hdj
        rwa [listed_of_ne hne] at this
    | some d =>
      obtain ⟨hdn, huniq⟩ := hd1 d hdst
      have hda : d < a.tmps.size := by rw [hg.size]; exact hdn
      refine ⟨hg.defers, by simp [Act.put, hg.size], hbase, fun j oj t hj hdj hl => ?_, fun t ht => ?_⟩
      · by_cases hne : i = j
        · subst hne
          rw [hi] at hj
          obtain rfl : o = oj := by simpa using hj
          rw [hdst] at hdj
          obtain rfl : d = t := by simpa using hdj
          rw [eval_put_same a hda]
          simpa [dstPost, hdst] using hv
        · rw [listed_of_ne hne] at hl
          have htd : d ≠ t := by
            rintro rfl
            exact hne (huniq j oj hj hdj).symm
          rw [eval_put_other a htd]
          exact hΨ _ _ _ _ hg.base hle (hg.done j oj t hj hdj hl)
      · have htd : d ≠ t := by
          rintro rfl
          have := ht i o hi hdst
          simp [hls, hlt] at this
        rw [eval_put_other a htd]
        refine hg.other t fun j oj hj hdj => ?_
        have h2 := ht j oj hj hdj
        have hne : i ≠ j := by
          rintro rfl
          rw [hi] at hj
          obtain rfl : o = oj := by simpa using hj
          rw [hdst] at hdj
          exact htd (by simpa using hdj)
        rwa [listed_of_ne hne] at h2
  unfold wpOpIn
  simp only [hi]
  split
  · rename_i hw
    have h1 := hyes hw
    unfold Oper.wpIn
    refine ⟨fun f _ => hW.fn f, ?_⟩
    rw [semAt_of hnd hi]
    generalize (execOp a.eval o).run P W = r at h1
    cases r with
    | ok nx W' =>
      cases nx <;> simp only [RelUpon] at h1 <;> simp only [Oper.uponIn]
      case value v => exact hK _ _ (put v W' h1.1 h1.2)
      case skip => exact hK _ _ (put undef W' h1.1 h1.2)
      case enter f args =>
        refine ⟨(fun hd => by rw [hW.depth] at hd; exact absurd hd (by decide)), ?_⟩
        refine CallsIn.mono (hW.calls h1) ?_
        rintro e W'' ⟨v, rfl, hle, hv⟩
        exact hK _ _ (put v W'' hle hv)
    | halt x W' => simp only [RelUpon] at h1
  · rename_i hw
    have hw' : Region.wanted o (yielded ops a.tmps) = false := by simpa using hw
    exact ⟨fun f _ => hW.fn f, hK _ _ (put undef W (hrefl W hg.base) (hno hw'))⟩

/-- **EVERY ORDER AT ONCE.** -/
theorem wpIn_region_inv (hW : WideIn Fc) {l : List Oper} (hnd : noDefer l.toArray = true) {id : Nat} {Q : Exit → Act → World → Prop} {a : Act} {w : World} (ds : List Tmp) (ts : List (List Tmp))
    (hm : P.follows .mixedOrders = true) (hB : depsB a.tmps.size l.toArray = true) (hds : dsts l.toArray = ds) (hts : l.map (·.looksAt l.toArray) = ts)
    (Le : World → World → Prop) (F : World → Prop) (Ψ : Tmp → Value → World → Prop)
    (hrefl : ∀ W, F W → Le W W) (hF : ∀ W W', F W → Le W W' → F W') (hΨ : ∀ t v W W', F W → Le W W' → Ψ t v W → Ψ t v W')
    (h0 : F w.drew) (hO : Obls P Le F ds Ψ a l.toArray l ts)
    (hend : ∀ (f : Tmp → Value) (W : World), F W → (∀ t ∈ ds, Ψ t (f t) W) → Q .normal (fin a ds f) W) : (Code.region id l.toArray true).wpIn Fc m P Q a w := by
  subst hds
  refine wpIn_region_any hm ?_
  have hend' : ∀ (listed : Array Bool) (a' : Act) (W : World), (∀ i, i < l.toArray.size → listed.getD i false = true) → Good F Ψ a l.toArray listed a' W → Q .normal a' W := by
    intro listed a' W hall hg
    have hall' : ∀ i o, l.toArray[i]? = some o → listed.getD i false = true := fun i o hi => hall i (Array.getElem?_eq_some_iff.1 hi).1
    rw [act_fin (a := a') (a0 := a) (ds := dsts l.toArray) hg.defers hg.size (fun t ht => hg.other t fun i o hi hd => absurd (mem_dsts.2 ⟨i, o, hi, hd⟩) ht)]
    refine hend _ W hg.base fun t ht => ?_
    obtain ⟨i, o, hi, hd⟩ := mem_dsts.1 ht
    exact hg.done i o t hi hd (hall' i o hi)
  have main : ∀ (fuel : Nat) (listed : Array Bool) (a' : Act) (W : World), listed.size = l.toArray.size → unl listed l.toArray.size = fuel → Good F Ψ a l.toArray listed a' W →
      wpAnyIn Fc m P .any l.toArray Q fuel listed a' W := by
    intro fuel
    induction fuel with
    | zero =>
      intro listed a' W hls hu hg
      have hall := unl_zero hu
      have hr : Region.ready .any l.toArray listed = [] := by
        rw [List.eq_nil_iff_forall_not_mem]
        intro i hi
        obtain ⟨h1, o, ho, _⟩ := mem_ready.1 hi
        rw [hall i (Array.getElem?_eq_some_iff.1 ho).1] at h1
        cases h1
      exact ⟨hr, hend' listed a' W (all_listed hB hls hr) hg⟩
    | succ fuel ih =>
      intro listed a' W hls hu hg
      refine ⟨fun hr => hend' listed a' W (all_listed hB hls hr) hg, fun i hi => ?_⟩
      obtain ⟨hun, o, ho, _⟩ := mem_ready.1 hi
      have hlt : i < l.toArray.size := (Array.getElem?_eq_some_iff.1 ho).1
      have hlo : l[i]? = some o := by simpa using ho
      refine good_stepIn hW hnd (ts := o.looksAt l.toArray) hB hls hF hΨ ho hi rfl ?_ hrefl hg (fun a'' W'' hg' => ih _ a'' W'' (by simpa using hls) ?_ hg')
      · have := obls_at hO hlo
        rw [← hts] at this
        have e : (l.map (·.looksAt l.toArray)).getD i [] = o.looksAt l.toArray := by
          rw [List.getD_eq_getElem?_getD, List.getElem?_map, hlo]; rfl
        rwa [e] at this
      · have := unl_set (l := listed) (i := i) hun (by omega) hlt
        omega
  have hcount : ∀ n : Nat, n ≤ l.toArray.size → unl (Array.replicate l.toArray.size false) n = n := by
    intro n
    induction n with
    | zero => intro _; rfl
    | succ n ih =>
      intro hn
      unfold unl
      rw [ih (by omega)]
      have h3 : n < l.length := by simp only [List.size_toArray] at hn; omega
      have : (Array.replicate l.toArray.size false).getD n true = false := by simp [h3]
      rw [this]; simp
  exact main _ _ a w.drew (by simp) (hcount _ (Nat.le_refl _)) ⟨rfl, rfl, h0, fun i o t hi _ hl => by
    have h3 : i < l.length := by have := (Array.getElem?_eq_some_iff.1 hi).1; simpa using this
    simp [h3] at hl, fun t _ => rfl⟩
/-- **EVERY ORDER AT ONCE, no operation guarded**: `φs` beside the operations. -/
theorem wpIn_region_each (hW : WideIn Fc) {l : List Oper} (hnd : noDefer l.toArray = true) {id : Nat} {Q : Exit → Act → World → Prop} {a : Act} {w : World} (ds : List (Option Tmp)) (ts : List (List Tmp)) (φs : List (Value → World → Prop))
    (hm : P.follows .mixedOrders = true) (hB : depsB a.tmps.size l.toArray = true) (hg : l.all (fun o => o.guard.isNone) = true) (hds : l.map (·.dst) = ds) (hts : l.map (·.looksAt l.toArray) = ts)
    (Le : World → World → Prop) (F : World → Prop)
    (hrefl : ∀ W, F W → Le W W) (hF : ∀ W W', F W → Le W W' → F W') (hφ : Keeps Le F φs)
    (h0 : F w.drew) (hO : Asks P Le F ds φs a l φs ts)
    (hend : ∀ (f : Tmp → Value) (W : World), F W → Ends f W ds φs → Q .normal (fin a (ds.filterMap (fun d => d)) f) W) : (Code.region id l.toArray true).wpIn Fc m P Q a w := by
  have hdsts : dsts l.toArray = ds.filterMap (fun d => d) := by rw [← hds]; unfold dsts; rw [List.filterMap_map]; rfl
  have hat : ∀ {i : Nat} {o : Oper} {t : Tmp} {φ : Value → World → Prop}, l[i]? = some o → o.dst = some t → φs[i]? = some φ → look ds φs t = some φ := by
    intro i o t φ hi hd hp
    refine look_at (i := i) (by rw [← hds, List.getElem?_map, hi]; simp [hd]) hp fun j hj => ?_
    rw [← hds, List.getElem?_map] at hj
    cases hlj : l[j]? with
    | none => rw [hlj] at hj; cases hj
    | some oj =>
      rw [hlj] at hj
      exact ((depsB_at hB (i := i) (o := o) (by simpa using hi)).1 t hd).2 j oj (by simpa using hlj) (by simpa using hj)
  refine wpIn_region_inv hW hnd (Ψ := fun t => (look ds φs t).getD (fun _ _ => True)) (ds.filterMap (fun d => d)) ts hm hB hdsts hts Le F hrefl hF ?_ h0 ?_ ?_
  · intro t v W W' h1 h2 h3
    cases hl : look ds φs t with
    | none => simp
    | some φ =>
      simp only [hl, Option.getD_some] at h3 ⊢
      exact look_keeps hφ hl v W W' h1 h2 h3
  · refine obls_of fun i o hi => ?_
    obtain ⟨φ, t, h1, h2, h3⟩ := asks_at hO hi
    have hgo : o.guard = none := by
      have := List.all_eq_true.1 hg o (List.mem_of_getElem? hi)
      simpa using this
    have ht : ts.getD i [] = t := by simp [h2]
    rw [ht]
    intro A W hF' hs
    refine ⟨fun _ => ?_, fun hw => by simp [Region.wanted, hgo] at hw⟩
    have h4 := h3 A.eval W (Std.eval A) hF' (slotsAt_of fun u hu => by
      have h5 := slots_mem hs u hu
      unfold slot at h5
      unfold slotAt
      split at h5
      · rename_i hc
        cases hl : look ds φs u with
        | some φ' => simpa [hl] using h5
        | none =>
          exfalso
          have hmem : u ∈ dsts l.toArray := by rw [hdsts]; simpa using hc
          obtain ⟨j, oj, hj, hdj⟩ := mem_dsts.1 hmem
          obtain ⟨φj, _, hj1, _⟩ := asks_at hO (i := j) (o := oj) (by simpa using hj)
          rw [hat (by simpa using hj) hdj hj1] at hl
          cases hl
      · rename_i hc
        cases hl : look ds φs u with
        | none => exact h5
        | some φ' =>
          exfalso
          refine hc ?_
          have : u ∈ ds.filterMap (fun d => d) := by
            clear hc h5
            have aux : ∀ {ds : List (Option Tmp)} {φs : List (Value → World → Prop)}, look ds φs u = some φ' → some u ∈ ds := by
              intro ds
              induction ds with
              | nil => intro φs h; cases φs <;> cases h
              | cons d ds ih =>
                intro φs h
                cases φs with
                | nil => cases d <;> cases h
                | cons φ φs =>
                  cases d with
                  | none => exact List.mem_cons_of_mem _ (ih h)
                  | some d =>
                    unfold look at h
                    cases hb : Nat.beq d u
                    · rw [hb] at h; exact List.mem_cons_of_mem _ (ih h)
                    · have e : d = u := Nat.eq_of_beq_eq_true hb
                      rw [e]; exact List.mem_cons_self
            exact List.mem_filterMap.2 ⟨some u, aux hl, rfl⟩
          simpa using this)
    cases hd : o.dst with
    | none =>
      have e : ∀ v W, dstPost (fun t => (look ds φs t).getD (fun _ _ => True)) o v W := fun v W => by simp [dstPost, hd]
      generalize (execOp A.eval o).run P W = r at h4
      cases r with
      | ok nx W' =>
        cases nx <;> simp only [RelUpon] at h4 ⊢
        case value v => exact ⟨h4.1, e _ _⟩
        case skip => exact ⟨h4.1, e _ _⟩
        case enter f args => exact h4.mono fun _ _ ⟨v, h5, h6, _⟩ => ⟨v, h5, h6, e _ _⟩
      | halt x W' => simp only [RelUpon] at h4
    | some d =>
      have e : dstPost (fun t => (look ds φs t).getD (fun _ _ => True)) o = φ := by
        funext v W
        simp [dstPost, hd, hat hi hd h1]
      rw [e]; exact h4
  · intro f W hFW hall
    refine hend f W hFW (ends_of fun i t φ h1 h2 => ?_)
    have h3 := hall t (List.mem_filterMap.2 ⟨some t, List.mem_of_getElem? h1, rfl⟩)
    rw [← hds, List.getElem?_map] at h1
    cases hli : l[i]? with
    | none => rw [hli] at h1; cases h1
    | some o =>
      rw [hli] at h1
      rw [hat hli (by simpa using h1) h2] at h3
      exact h3
/-- One operation of the first that may come up. -/
theorem part_stepIn (hW : WideIn Fc) {full : Array Oper} {a0 : Act} {listed : Array Bool} {a : Act} {W : World} {Q : Exit → Act → World → Prop} {K : Act → World → Prop} {i : Nat} {o : Oper} {ts : List Tmp}
    (hB : depsB a0.tmps.size ops = true) (hls : i < listed.size) (hF : ∀ W W', F W → Le W W' → F W') (hΨ : ∀ t v W W', F W → Le W W' → Ψ t v W → Ψ t v W')
    (hi : ops[i]? = some o) (hfull : full[i]? = some o) (hnd : noDefer full = true) (hgd : o.guard = none) (_hun : listed.getD i true = false) (hall : ∀ e ∈ o.after, Region.binds .any e = true → listed.getD e.on false = true) (hts : o.looksAt ops = ts)
    (ho : ∀ (A : Act) (W : World), F W → slots (dsts ops) Ψ a0 A W ts → RelUpon P Le (dstPost Ψ o) W ((execOp A.eval o).run P W))
    (hg : Good F Ψ a0 ops listed a W) (hK : ∀ a' W', Good F Ψ a0 ops (listed.setIfInBounds i true) a' W' → K a' W') : wpOpIn Fc m P full Q i K a W := by
  obtain ⟨hd1, hd2, hd3⟩ := depsB_at hB hi
  -- the slots that are read
  have hsl : slots (dsts ops) Ψ a0 a W ts := slots_of fun t ht => by
    unfold slot
    split
    · rename_i hc
      obtain ⟨j, oj, hj, hdj⟩ := mem_dsts.1 (by simpa using hc)
      obtain ⟨e, he, hb, hon⟩ := hd2 t (by rw [hts]; exact ht) j oj hj hdj
      have hl := hall e he hb
      rw [hon] at hl
      exact hg.done j oj t hj hdj hl
    · rename_i hc
      refine hg.other t fun j oj hj hdj => absurd ?_ hc
      simpa using mem_dsts.2 ⟨j, oj, hj, hdj⟩
  have h1 := ho a W hg.base hsl
  -- what a value does
  have put : ∀ (v : Value) (W' : World), Le W W' → dstPost Ψ o v W' → Good F Ψ a0 ops (listed.setIfInBounds i true) (a.put o.dst v) W' := by
    intro v W' hle hv
    have hbase := hF _ _ hg.base hle
    cases hdst : o.dst with
    | none =>
      refine ⟨hg.defers, hg.size, hbase, fun j oj t hj hdj hl => ?_, fun t ht => hg.other t fun j oj hj hdj => ?_⟩
      · have hne : i ≠ j := by
          rintro rfl
          rw [hi] at hj
          obtain rfl : o = oj := by simpa using hj
          rw [hdst] at hdj; cases hdj
        rw [listed_of_ne hne] at hl
        exact hΨ _ _ _ _ hg.base hle (hg.done j oj t hj hdj hl)
      · have := ht j oj hj hdj
        have hne : i ≠ j := by
          rintro rfl
          rw [hi] at hj
          obtain rfl : o = oj := by simpa using hj
          rw [hdst] at hdj; cases hdj
        rwa [listed_of_ne hne] at this
    | some d =>
      obtain ⟨hdn, huniq⟩ := hd1 d hdst
      have hda : d < a.tmps.size := by rw [hg.size]; exact hdn
      refine ⟨hg.defers, by simp [Act.put, hg.size], hbase, fun j oj t hj hdj hl => ?_, fun t ht => ?_⟩
      · by_cases hne : i = j
        · subst hne
          rw [hi] at hj
          obtain rfl : o = oj := by simpa using hj
          rw [hdst] at hdj
          obtain rfl : d = t := by simpa using hdj
          rw [eval_put_same a hda]
          simpa [dstPost, hdst] using hv
        · rw [listed_of_ne hne] at hl
          have htd : d ≠ t := by
            rintro rfl
            exact hne (huniq j oj hj hdj).symm
          rw [eval_put_other a htd]
          exact hΨ _ _ _ _ hg.base hle (hg.done j oj t hj hdj hl)
      · have htd : d ≠ t := by
          rintro rfl
          have := ht i o hi hdst
          simp [hls] at this
        rw [eval_put_other a htd]
        refine hg.other t fun j oj hj hdj => ?_
        have h2 := ht j oj hj hdj
        have hne : i ≠ j := by
          rintro rfl
          rw [hi] at hj
          obtain rfl : o = oj := by simpa using hj
          rw [hdst] at hdj
          exact htd (by simpa using hdj)
        rwa [listed_of_ne hne] at h2
  unfold wpOpIn
  simp only [hfull]
  have hw : Region.wanted o (yielded full a.tmps) = true := by simp [Region.wanted, hgd]
  rw [if_pos hw]
  unfold Oper.wpIn
  refine ⟨fun f _ => hW.fn f, ?_⟩
  rw [semAt_of hnd hfull]
  generalize (execOp a.eval o).run P W = r at h1
  cases r with
  | ok nx W' =>
    cases nx <;> simp only [RelUpon] at h1 <;> simp only [Oper.uponIn]
    case value v => exact hK _ _ (put v W' h1.1 h1.2)
    case skip => exact hK _ _ (put undef W' h1.1 h1.2)
    case enter f args =>
      refine ⟨(fun hd => by rw [hW.depth] at hd; exact absurd hd (by decide)), ?_⟩
      refine CallsIn.mono (hW.calls h1) ?_
      rintro e W'' ⟨v, rfl, hle, hv⟩
      exact hK _ _ (put v W'' hle hv)
  | halt x W' => simp only [RelUpon] at h1

/-- The last operations, one by one. -/
theorem tail_runIn {Q : Exit → Act → World → Prop} {k : Nat} (hT : tailB k ops = true) (hE : backB ops = true) : ∀ (fuel i : Nat) (listed : Array Bool) (a : Act) (W : World), k ≤ i → i + fuel = ops.size → listed.size = ops.size →
    (∀ j, j < i → listed.getD j true = true) → (∀ j, i ≤ j → j < ops.size → listed.getD j true = false) → wpListIn Fc m P ops Q (ops.toList.drop i) a W → wpAnyIn Fc m P .any ops Q fuel listed a W
  | 0, i, listed, a, W, _, hs, hls, hin, _, h => by
    have hr : Region.ready .any ops listed = [] := by
      rw [List.eq_nil_iff_forall_not_mem]
      intro j hj
      obtain ⟨h1, o, ho, _⟩ := mem_ready.1 hj
      rw [hin j (by have := (Array.getElem?_eq_some_iff.1 ho).1; omega)] at h1
      cases h1
    rw [List.drop_of_length_le (by simp; omega)] at h
    exact ⟨hr, h⟩
  | fuel + 1, i, listed, a, W, hk, hs, hls, hin, hout, h => by
    have hlt : i < ops.size := by omega
    have hi : ops[i]? = some ops[i] := Array.getElem?_eq_getElem hlt
    have hedge : ∀ j, j < i → listed.getD j false = true := fun j hj => by
      have h1 := hin j hj
      have h2 : j < listed.size := by omega
      simp [h2] at h1 ⊢
      exact h1
    refine ⟨fun hr => ?_, fun j hj => ?_⟩
    · exfalso
      have : i ∈ Region.ready .any ops listed := mem_ready.2 ⟨hout i (Nat.le_refl _) hlt, _, hi, fun e he hbd => hedge _ (backB_at hE hi e he hbd)⟩
      rw [hr] at this; cases this
    · obtain ⟨h1, o, ho, hall⟩ := mem_ready.1 hj
      have hjs := (Array.getElem?_eq_some_iff.1 ho).1
      have hij : j = i := by
        rcases Nat.lt_trichotomy j i with h2 | h2 | h2
        · rw [hin j h2] at h1; cases h1
        · exact h2
        · obtain ⟨e, he, hbd, hon⟩ := tailB_at hT ho (by omega) h2
          have h3 := hall e he hbd
          rw [hon] at h3
          have h4 := hout i (Nat.le_refl _) hlt
          have h5 : i < listed.size := by omega
          simp [h5] at h3 h4
          rw [h4] at h3; cases h3
      subst hij
      rw [hi] at ho
      obtain rfl : ops[j] = o := by simpa using ho
      rw [List.drop_eq_getElem_cons (by simpa using hjs)] at h
      have e : ops.toList[j]'(by simpa using hjs) = ops[j] := by simp
      rw [e] at h
      unfold wpListIn at h
      unfold wpOpIn
      simp only [hi]
      have next : ∀ a' W', wpListIn Fc m P ops Q (ops.toList.drop (j + 1)) a' W' → wpAnyIn Fc m P .any ops Q fuel (listed.setIfInBounds j true) a' W' := fun a' W' h' =>
        tail_runIn hT hE fuel (j + 1) _ a' W' (by omega) (by omega) (by simpa using hls)
          (fun j' hj' => by
            by_cases hjj : j = j'
            · subst hjj
              have : j < listed.size := by omega
              simp [this]
            · rw [getD_set_ne true hjj]; exact hin j' (by omega))
          (fun j' hj1 hj2 => by rw [getD_set_ne true (by omega)]; exact hout j' (by omega) hj2) h'
      split
      · rename_i hw
        rw [if_pos hw] at h
        exact Oper.wpIn_mono next h
      · rename_i hw
        rw [if_neg hw] at h
        exact ⟨h.1, next _ _ h.2⟩
/-- **THE FIRST k OPERATIONS IN EVERY ORDER, THE OTHERS IN THEIRS.** -/
theorem wpIn_region_part (hW : WideIn Fc) {l : List Oper} (hnd : noDefer l.toArray = true) {id : Nat} {Q : Exit → Act → World → Prop} {a : Act} {w : World} (k : Nat) (ds : List (Option Tmp)) (ts : List (List Tmp)) (φs : List (Value → World → Prop))
    (hm : P.follows .mixedOrders = true) (hB : depsB a.tmps.size (l.take k).toArray = true) (hT : tailB k l.toArray = true) (hE : backB l.toArray = true) (hg : (l.take k).all (fun o => o.guard.isNone) = true)
    (hds : (l.take k).map (·.dst) = ds) (hts : (l.take k).map (·.looksAt (l.take k).toArray) = ts)
    (Le : World → World → Prop) (F : World → Prop)
    (_hrefl : ∀ W, F W → Le W W) (hF : ∀ W W', F W → Le W W' → F W') (hφ : Keeps Le F φs)
    (h0 : F w.drew) (hO : Asks P Le F ds φs a (l.take k) φs ts)
    (hend : ∀ (f : Tmp → Value) (W : World), F W → Ends f W ds φs → wpListIn Fc m P l.toArray Q (l.drop k) (fin a (ds.filterMap (fun d => d)) f) W) : (Code.region id l.toArray true).wpIn Fc m P Q a w := by
  obtain ⟨p, hp⟩ : ∃ p, p = l.take k := ⟨_, rfl⟩
  rw [← hp] at hB hg hds hts hO
  have hpl : ∀ {i : Nat} {o : Oper}, p[i]? = some o → l[i]? = some o := fun {i o} hi => by
    rw [hp, List.getElem?_take] at hi
    split at hi
    · exact hi
    · cases hi
  have hplt : ∀ {i : Nat} {o : Oper}, p[i]? = some o → i < k := fun {i o} hi => by
    rw [hp, List.getElem?_take] at hi
    split at hi
    · assumption
    · cases hi
  have hlp : ∀ {i : Nat} {o : Oper}, l[i]? = some o → i < k → p[i]? = some o := fun {i o} hi hk => by rw [hp, List.getElem?_take, if_pos hk]; exact hi
  have hdsts : dsts p.toArray = ds.filterMap (fun d => d) := by rw [← hds]; unfold dsts; rw [List.filterMap_map]; rfl
  have hat : ∀ {i : Nat} {o : Oper} {t : Tmp} {φ : Value → World → Prop}, p[i]? = some o → o.dst = some t → φs[i]? = some φ → look ds φs t = some φ := by
    intro i o t φ hi hd hp'
    refine look_at (i := i) (by rw [← hds, List.getElem?_map, hi]; simp [hd]) hp' fun j hj => ?_
    rw [← hds, List.getElem?_map] at hj
    cases hlj : p[j]? with
    | none => rw [hlj] at hj; cases hj
    | some oj =>
      rw [hlj] at hj
      exact ((depsB_at hB (i := i) (o := o) (by simpa using hi)).1 t hd).2 j oj (by simpa using hlj) (by simpa using hj)
  have hΨ : ∀ t v W W', F W → Le W W' → (fun t => (look ds φs t).getD (fun _ _ => True)) t v W → (fun t => (look ds φs t).getD (fun _ _ => True)) t v W' := by
    intro t v W W' h1 h2 h3
    cases hl : look ds φs t with
    | none => simp
    | some φ =>
      simp only [hl, Option.getD_some] at h3 ⊢
      exact look_keeps hφ hl v W W' h1 h2 h3
  have goodEnd : ∀ {listed : Array Bool} {a' : Act} {W : World}, Good F (fun t => (look ds φs t).getD (fun _ _ => True)) a p.toArray listed a' W → (∀ i, i < p.toArray.size → listed.getD i false = true) →
      wpListIn Fc m P l.toArray Q (l.drop k) a' W := by
    intro listed a' W hg' hall
    rw [act_fin (a := a') (a0 := a) (ds := dsts p.toArray) hg'.defers hg'.size (fun t ht => hg'.other t fun i o hi hd => absurd (mem_dsts.2 ⟨i, o, hi, hd⟩) ht), hdsts]
    refine hend _ W hg'.base (ends_of fun i t φ h1 h2 => ?_)
    rw [← hds, List.getElem?_map] at h1
    cases hli : p[i]? with
    | none => rw [hli] at h1; cases h1
    | some o =>
      rw [hli] at h1
      have hd : o.dst = some t := by simpa using h1
      have h3 := hg'.done i o t (by simpa using hli) hd (hall i (by have := (List.getElem?_eq_some_iff.1 hli).1; simpa using this))
      rw [hat hli hd h2] at h3
      exact h3
  refine wpIn_region_any hm ?_
  have main : ∀ (fuel : Nat) (listed : Array Bool) (a' : Act) (W : World), listed.size = l.toArray.size → unl listed l.toArray.size = fuel → (∀ j, k ≤ j → j < l.toArray.size → listed.getD j true = false) →
      Good F (fun t => (look ds φs t).getD (fun _ _ => True)) a p.toArray listed a' W → wpAnyIn Fc m P .any l.toArray Q fuel listed a' W := by
    intro fuel
    induction fuel with
    | zero =>
      intro listed a' W hls hu hout hgood
      have hall := unl_zero hu
      -- nothing is left: so there is no last operation
      have hkn : l.toArray.size ≤ k := by
        rcases Nat.lt_or_ge k l.toArray.size with h1 | h1
        · have h2 := hout k (Nat.le_refl _) h1
          rw [hall k h1] at h2; cases h2
        · exact h1
      have hr : Region.ready .any l.toArray listed = [] := by
        rw [List.eq_nil_iff_forall_not_mem]
        intro i hi
        obtain ⟨h1, o, ho, _⟩ := mem_ready.1 hi
        rw [hall i (Array.getElem?_eq_some_iff.1 ho).1] at h1
        cases h1
      refine ⟨hr, ?_⟩
      have h9 := goodEnd (listed := listed) hgood (fun i hi => by
        have h1 := hall i (by
          have h3 : i < p.length := by simpa using hi
          have h4 : p.length ≤ l.length := by rw [hp, List.length_take]; omega
          simp; omega)
        have h2 : i < listed.size := by
          have h3 : i < p.length := by simpa using hi
          have h4 : p.length ≤ l.length := by rw [hp, List.length_take]; omega
          simp at hls; omega
        simp [h2] at h1 ⊢
        exact h1)
      rw [List.drop_of_length_le (by simpa using hkn)] at h9
      exact h9
    | succ fuel ih =>
      intro listed a' W hls hu hout hgood
      refine ⟨fun hr => ?_, fun i hi => ?_⟩
      · exfalso
        -- the first that has not come up is ready
        have hall : ∀ i, i < l.toArray.size → listed.getD i false = true := by
          intro i
          induction i using Nat.strongRecOn with
          | ind i ihi =>
            intro hi
            by_cases hc : listed.getD i false = true
            · exact hc
            · exfalso
              have hm' : i ∈ Region.ready .any l.toArray listed := by
                refine mem_ready.2 ⟨?_, l.toArray[i], Array.getElem?_eq_getElem hi, fun e he hb => ihi e.on (backB_at hE (Array.getElem?_eq_getElem hi) e he hb) (Nat.lt_trans (backB_at hE (Array.getElem?_eq_getElem hi) e he hb) hi)⟩
                have : i < listed.size := by omega
                simp [this] at hc ⊢
                exact hc
              rw [hr] at hm'
              cases hm'
        have hz : unl listed l.toArray.size = 0 := by
          have : ∀ n, n ≤ l.toArray.size → unl listed n = 0 := by
            intro n
            induction n with
            | zero => intro _; rfl
            | succ n ihn =>
              intro hn
              unfold unl
              have h1 := hall n (by omega)
              have h2 : n < listed.size := by omega
              have h3 : listed.getD n true = true := by simp [h2] at h1 ⊢; exact h1
              rw [ihn (by omega), h3]; simp
          exact this _ (Nat.le_refl _)
        omega
      · obtain ⟨hun, o, ho, hall⟩ := mem_ready.1 hi
        have hlt : i < l.toArray.size := (Array.getElem?_eq_some_iff.1 ho).1
        have hlo : l[i]? = some o := by simpa using ho
        by_cases hik : i < k
        · have hpo := hlp hlo hik
          obtain ⟨φ, t, h1, h2, h3⟩ := asks_at hO hpo
          have hgo : o.guard = none := by
            have := List.all_eq_true.1 hg o (List.mem_of_getElem? hpo)
            simpa using this
          have htl : o.looksAt p.toArray = t := by
            rw [← hts, List.getElem?_map, hpo] at h2
            simpa using h2
          refine part_stepIn hW (ts := t) (ops := p.toArray) (Ψ := fun t => (look ds φs t).getD (fun _ _ => True)) hB (by omega) hF hΨ (by simpa using hpo) ho hnd hgo hun hall htl ?_ hgood (fun a'' W'' hg' => ih _ a'' W'' (by simpa using hls) ?_ ?_ hg')
          · intro A W1 hF' hs
            have h4 := h3 A.eval W1 (Std.eval A) hF' (slotsAt_of fun u hu => slotAt_of (hdsts := hdsts) (fun j oj _ hj hdj => by
                obtain ⟨φj, _, hj1, _⟩ := asks_at hO (i := j) (o := oj) (by simpa using hj)
                exact ⟨φj, hat (by simpa using hj) hdj hj1⟩) (slots_mem hs u hu))
            exact relUpon_dst h4 (fun d hd => hat hpo hd h1)
          · have := unl_set (l := listed) (i := i) hun (by omega) hlt
            omega
          · intro j hj1 hj2
            rw [getD_set_ne true (by omega)]
            exact hout j hj1 hj2
        · -- a last operation: all before it have come up
          have hin : ∀ j, j < i → listed.getD j true = true := fun j hj => by
            obtain ⟨e, he, hbd, hon⟩ := tailB_at hT ho (by omega) hj
            have h3 := hall e he hbd
            rw [hon] at h3
            have h5 : j < listed.size := by omega
            simp [h5] at h3 ⊢
            exact h3
          have hik' : i = k := by
            rcases Nat.lt_or_ge k i with h1 | h1
            · have h2 := hin k h1
              rw [hout k (Nat.le_refl _) (by omega)] at h2; cases h2
            · omega
          subst hik'
          have h9 := goodEnd (listed := listed) hgood (fun j hj => by
            have h3 : j < p.length := by simpa using hj
            have h4 : p.length ≤ i := by rw [hp, List.length_take]; omega
            have h1 := hin j (by omega)
            have h2 : j < listed.size := by omega
            simp [h2] at h1 ⊢
            exact h1)
          have h10 := tail_runIn hT hE (fuel + 1) i listed a' W (Nat.le_refl _) (by
            have : unl listed l.toArray.size = l.toArray.size - i := unl_tail hin hout (by omega)
            omega) hls hin hout h9
          exact h10.2 i hi
  have hcount : ∀ n : Nat, n ≤ l.toArray.size → unl (Array.replicate l.toArray.size false) n = n := by
    intro n
    induction n with
    | zero => intro _; rfl
    | succ n ih =>
      intro hn
      unfold unl
      rw [ih (by omega)]
      have h3 : n < l.length := by simp only [List.size_toArray] at hn; omega
      have : (Array.replicate l.toArray.size false).getD n true = false := by simp [h3]
      rw [this]; simp
  exact main _ _ a w.drew (by simp) (hcount _ (Nat.le_refl _)) (fun j _ hj => by
    have h3 : j < l.length := by simpa using hj
    simp [h3]) ⟨rfl, rfl, h0, fun i o t hi _ hl => by
    have h4 : i < l.length := by
      have h3 : i < p.length := by have := (Array.getElem?_eq_some_iff.1 hi).1; simpa using this
      have h5 : p.length ≤ l.length := by rw [hp, List.length_take]; omega
      omega
    simp [h4] at hl, fun t _ => rfl⟩
end Go.RegInv

/- wp_region_part where the last operations wait for all before them by edges of edges. By mktail.py out of RegInv. -/
namespace Go.RegInv

variable {P : Program} {Le : World → World → Prop} {F : World → Prop} {Ψ : Tmp → Value → World → Prop}
section
variable {n : Nat} {ops : Array Oper}

/-- Operation i waits for j, perhaps by others. -/
def reachB (ops : Array Oper) : Nat → Nat → Nat → Bool
  | 0, _, _ => false
  | fuel + 1, i, j => match ops[i]? with
    | none => false
    | some o => o.after.any fun e => Region.binds .any e && (e.on == j || reachB ops fuel e.on j)
/-- From index k on each operation waits for all before it. -/
def tailR (k : Nat) (ops : Array Oper) : Bool := (List.range ops.size).all fun i => decide (i < k) || (List.range i).all fun j => reachB ops ops.size i j
/-- Whatever an operation that has come up waits for has come up. -/
def Closed (ops : Array Oper) (listed : Array Bool) : Prop := ∀ i o, ops[i]? = some o → listed.getD i false = true → ∀ e ∈ o.after, Region.binds .any e = true → listed.getD e.on false = true
theorem getD_true_mono {listed : Array Bool} {i j : Nat} (h : listed.getD j false = true) : (listed.setIfInBounds i true).getD j false = true := by
  by_cases hij : i = j
  · subst hij
    have : i < listed.size := by
      rcases Nat.lt_or_ge i listed.size with h1 | h1
      · exact h1
      · simp [Nat.not_lt.2 h1] at h
    simp [this]
  · rw [getD_set_ne false hij]; exact h
theorem Closed.set {listed : Array Bool} (hcl : Closed ops listed) {i : Nat} {o : Oper} (ho : ops[i]? = some o) (hall : ∀ e ∈ o.after, Region.binds .any e = true → listed.getD e.on false = true) : Closed ops (listed.setIfInBounds i true) := by
  intro j oj hj hl e he hbd
  by_cases hij : i = j
  · subst hij
    rw [ho] at hj
    obtain rfl : o = oj := by simpa using hj
    exact getD_true_mono (hall e he hbd)
  · rw [getD_set_ne false hij] at hl
    exact getD_true_mono (hcl j oj hj hl e he hbd)
theorem reach_listed {listed : Array Bool} (hcl : Closed ops listed) : ∀ (fuel i j : Nat), reachB ops fuel i j = true → (∀ o, ops[i]? = some o → ∀ e ∈ o.after, Region.binds .any e = true → listed.getD e.on false = true) → (∀ o, ops[i]? = some o → listed.getD j false = true)
  | 0, _, _, h, _ => by cases h
  | fuel + 1, i, j, h, hall => by
    intro o ho
    unfold reachB at h
    simp only [ho] at h
    obtain ⟨e, he, h4⟩ := Array.any_eq_true'.1 h
    simp only [Bool.and_eq_true, Bool.or_eq_true, beq_iff_eq] at h4
    have h5 := hall o ho e he h4.1
    rcases h4.2 with h6 | h6
    · rw [← h6]; exact h5
    · cases hoe : ops[e.on]? with
      | none =>
        exfalso
        cases fuel with
        | zero => cases h6
        | succ fuel => unfold reachB at h6; simp [hoe] at h6
      | some oe => exact reach_listed hcl fuel e.on j h6 (fun o' ho' => hcl _ _ ho' h5) oe hoe
theorem tailR_at {k : Nat} (h : tailR k ops = true) {i : Nat} {o : Oper} (hi : ops[i]? = some o) (hk : k ≤ i) {j : Nat} (hj : j < i) {listed : Array Bool} (hcl : Closed ops listed)
    (hall : ∀ e ∈ o.after, Region.binds .any e = true → listed.getD e.on false = true) : listed.getD j false = true := by
  unfold tailR at h
  rw [List.all_eq_true] at h
  have h1 := h i (List.mem_range.2 (Array.getElem?_eq_some_iff.1 hi).1)
  have hk' : ¬ i < k := by omega
  simp only [hk', decide_false, Bool.false_or, List.all_eq_true, List.mem_range] at h1
  exact reach_listed hcl _ _ _ (h1 j hj) (fun o' ho' => by rw [hi] at ho'; obtain rfl : o = o' := by simpa using ho'
                                                           exact hall) o hi

/-- The last operations, one by one. -/
theorem tail_runR {Q : Exit → Act → World → Prop} {k : Nat} (hT : tailR k ops = true) (hE : backB ops = true) : ∀ (fuel i : Nat) (listed : Array Bool) (a : Act) (W : World), k ≤ i → i + fuel = ops.size → listed.size = ops.size →
    (∀ j, j < i → listed.getD j true = true) → (∀ j, i ≤ j → j < ops.size → listed.getD j true = false) → wpList P ops Q (ops.toList.drop i) a W → wpAny P .any ops Q fuel listed a W
  | 0, i, listed, a, W, _, hs, hls, hin, _, h => by
    have hr : Region.ready .any ops listed = [] := by
      rw [List.eq_nil_iff_forall_not_mem]
      intro j hj
      obtain ⟨h1, o, ho, _⟩ := mem_ready.1 hj
      rw [hin j (by have := (Array.getElem?_eq_some_iff.1 ho).1; omega)] at h1
      cases h1
    rw [List.drop_of_length_le (by simp; omega)] at h
    exact ⟨hr, h⟩
  | fuel + 1, i, listed, a, W, hk, hs, hls, hin, hout, h => by
    have hlt : i < ops.size := by omega
    have hi : ops[i]? = some ops[i] := Array.getElem?_eq_getElem hlt
    have hedge : ∀ j, j < i → listed.getD j false = true := fun j hj => by
      have h1 := hin j hj
      have h2 : j < listed.size := by omega
      simp [h2] at h1 ⊢
      exact h1
    refine ⟨fun hr => ?_, fun j hj => ?_⟩
    · exfalso
      have : i ∈ Region.ready .any ops listed := mem_ready.2 ⟨hout i (Nat.le_refl _) hlt, _, hi, fun e he hbd => hedge _ (backB_at hE hi e he hbd)⟩
      rw [hr] at this; cases this
    · obtain ⟨h1, o, ho, hall⟩ := mem_ready.1 hj
      have hjs := (Array.getElem?_eq_some_iff.1 ho).1
      have hij : j = i := by
        rcases Nat.lt_trichotomy j i with h2 | h2 | h2
        · rw [hin j h2] at h1; cases h1
        · exact h2
        · have h3 := tailR_at hT ho (by omega) h2 (listed := listed) (fun j' oj hj' hl e he hbd => hedge _ (Nat.lt_trans (backB_at hE hj' e he hbd) (by
            rcases Nat.lt_or_ge j' i with h5 | h5
            · exact h5
            · have h6 := hout j' h5 (Array.getElem?_eq_some_iff.1 hj').1
              have h7 : j' < listed.size := by have := (Array.getElem?_eq_some_iff.1 hj').1; omega
              simp [h7] at h6 hl
              rw [h6] at hl; cases hl))) hall
          have h4 := hout i (Nat.le_refl _) hlt
          have h5 : i < listed.size := by omega
          simp [h5] at h3 h4
          rw [h4] at h3; cases h3
      subst hij
      rw [hi] at ho
      obtain rfl : ops[j] = o := by simpa using ho
      rw [List.drop_eq_getElem_cons (by simpa using hjs)] at h
      have e : ops.toList[j]'(by simpa using hjs) = ops[j] := by simp
      rw [e] at h
      unfold wpList at h
      unfold wpOp
      simp only [hi]
      have next : ∀ a' W', wpList P ops Q (ops.toList.drop (j + 1)) a' W' → wpAny P .any ops Q fuel (listed.setIfInBounds j true) a' W' := fun a' W' h' =>
        tail_runR hT hE fuel (j + 1) _ a' W' (by omega) (by omega) (by simpa using hls)
          (fun j' hj' => by
            by_cases hjj : j = j'
            · subst hjj
              have : j < listed.size := by omega
              simp [this]
            · rw [getD_set_ne true hjj]; exact hin j' (by omega))
          (fun j' hj1 hj2 => by rw [getD_set_ne true (by omega)]; exact hout j' (by omega) hj2) h'
      split
      · rename_i hw
        rw [if_pos hw] at h
        rcases h with h | h
        · exact .inl (Oper.wp_mono next h)
        · exact .inr h
      · rename_i hw
        rw [if_neg hw] at h
        exact next _ _ h

/-- **THE FIRST k OPERATIONS IN EVERY ORDER, THE OTHERS IN THEIRS.** -/
theorem wp_region_partR {id : Nat} {Q : Exit → Act → World → Prop} {a : Act} {w : World} {l : List Oper} (k : Nat) (ds : List (Option Tmp)) (ts : List (List Tmp)) (φs : List (Value → World → Prop))
    (hm : P.follows .mixedOrders = true) (hB : depsB a.tmps.size (l.take k).toArray = true) (hT : tailR k l.toArray = true) (hE : backB l.toArray = true) (hg : (l.take k).all (fun o => o.guard.isNone) = true)
    (hds : (l.take k).map (·.dst) = ds) (hts : (l.take k).map (·.looksAt (l.take k).toArray) = ts)
    (Le : World → World → Prop) (F : World → Prop)
    (_hrefl : ∀ W, F W → Le W W) (hF : ∀ W W', F W → Le W W' → F W') (hφ : Keeps Le F φs)
    (h0 : F w.drew) (hO : Asks P Le F ds φs a (l.take k) φs ts)
    (hend : ∀ (f : Tmp → Value) (W : World), F W → Ends f W ds φs → wpList P l.toArray Q (l.drop k) (fin a (ds.filterMap (fun d => d)) f) W) : (Code.region id l.toArray true).wp P Q a w := by
  obtain ⟨p, hp⟩ : ∃ p, p = l.take k := ⟨_, rfl⟩
  rw [← hp] at hB hg hds hts hO
  have hpl : ∀ {i : Nat} {o : Oper}, p[i]? = some o → l[i]? = some o := fun {i o} hi => by
    rw [hp, List.getElem?_take] at hi
    split at hi
    · exact hi
    · cases hi
  have hplt : ∀ {i : Nat} {o : Oper}, p[i]? = some o → i < k := fun {i o} hi => by
    rw [hp, List.getElem?_take] at hi
    split at hi
    · assumption
    · cases hi
  have hlp : ∀ {i : Nat} {o : Oper}, l[i]? = some o → i < k → p[i]? = some o := fun {i o} hi hk => by rw [hp, List.getElem?_take, if_pos hk]; exact hi
  have hdsts : dsts p.toArray = ds.filterMap (fun d => d) := by rw [← hds]; unfold dsts; rw [List.filterMap_map]; rfl
  have hat : ∀ {i : Nat} {o : Oper} {t : Tmp} {φ : Value → World → Prop}, p[i]? = some o → o.dst = some t → φs[i]? = some φ → look ds φs t = some φ := by
    intro i o t φ hi hd hp'
    refine look_at (i := i) (by rw [← hds, List.getElem?_map, hi]; simp [hd]) hp' fun j hj => ?_
    rw [← hds, List.getElem?_map] at hj
    cases hlj : p[j]? with
    | none => rw [hlj] at hj; cases hj
    | some oj =>
      rw [hlj] at hj
      exact ((depsB_at hB (i := i) (o := o) (by simpa using hi)).1 t hd).2 j oj (by simpa using hlj) (by simpa using hj)
  have hΨ : ∀ t v W W', F W → Le W W' → (fun t => (look ds φs t).getD (fun _ _ => True)) t v W → (fun t => (look ds φs t).getD (fun _ _ => True)) t v W' := by
    intro t v W W' h1 h2 h3
    cases hl : look ds φs t with
    | none => simp
    | some φ =>
      simp only [hl, Option.getD_some] at h3 ⊢
      exact look_keeps hφ hl v W W' h1 h2 h3
  have goodEnd : ∀ {listed : Array Bool} {a' : Act} {W : World}, Good F (fun t => (look ds φs t).getD (fun _ _ => True)) a p.toArray listed a' W → (∀ i, i < p.toArray.size → listed.getD i false = true) →
      wpList P l.toArray Q (l.drop k) a' W := by
    intro listed a' W hg' hall
    rw [act_fin (a := a') (a0 := a) (ds := dsts p.toArray) hg'.defers hg'.size (fun t ht => hg'.other t fun i o hi hd => absurd (mem_dsts.2 ⟨i, o, hi, hd⟩) ht), hdsts]
    refine hend _ W hg'.base (ends_of fun i t φ h1 h2 => ?_)
    rw [← hds, List.getElem?_map] at h1
    cases hli : p[i]? with
    | none => rw [hli] at h1; cases h1
    | some o =>
      rw [hli] at h1
      have hd : o.dst = some t := by simpa using h1
      have h3 := hg'.done i o t (by simpa using hli) hd (hall i (by have := (List.getElem?_eq_some_iff.1 hli).1; simpa using this))
      rw [hat hli hd h2] at h3
      exact h3
  refine wp_region_any hm ?_
  have main : ∀ (fuel : Nat) (listed : Array Bool) (a' : Act) (W : World), listed.size = l.toArray.size → unl listed l.toArray.size = fuel → (∀ j, k ≤ j → j < l.toArray.size → listed.getD j true = false) → Closed l.toArray listed →
      Good F (fun t => (look ds φs t).getD (fun _ _ => True)) a p.toArray listed a' W → wpAny P .any l.toArray Q fuel listed a' W := by
    intro fuel
    induction fuel with
    | zero =>
      intro listed a' W hls hu hout hcl hgood
      have hall := unl_zero hu
      -- nothing is left: so there is no last operation
      have hkn : l.toArray.size ≤ k := by
        rcases Nat.lt_or_ge k l.toArray.size with h1 | h1
        · have h2 := hout k (Nat.le_refl _) h1
          rw [hall k h1] at h2; cases h2
        · exact h1
      have hr : Region.ready .any l.toArray listed = [] := by
        rw [List.eq_nil_iff_forall_not_mem]
        intro i hi
        obtain ⟨h1, o, ho, _⟩ := mem_ready.1 hi
        rw [hall i (Array.getElem?_eq_some_iff.1 ho).1] at h1
        cases h1
      refine ⟨hr, ?_⟩
      have h9 := goodEnd (listed := listed) hgood (fun i hi => by
        have h1 := hall i (by
          have h3 : i < p.length := by simpa using hi
          have h4 : p.length ≤ l.length := by rw [hp, List.length_take]; omega
          simp; omega)
        have h2 : i < listed.size := by
          have h3 : i < p.length := by simpa using hi
          have h4 : p.length ≤ l.length := by rw [hp, List.length_take]; omega
          simp at hls; omega
        simp [h2] at h1 ⊢
        exact h1)
      rw [List.drop_of_length_le (by simpa using hkn)] at h9
      exact h9
    | succ fuel ih =>
      intro listed a' W hls hu hout hcl hgood
      refine ⟨fun hr => ?_, fun i hi => ?_⟩
      · exfalso
        -- the first that has not come up is ready
        have hall : ∀ i, i < l.toArray.size → listed.getD i false = true := by
          intro i
          induction i using Nat.strongRecOn with
          | ind i ihi =>
            intro hi
            by_cases hc : listed.getD i false = true
            · exact hc
            · exfalso
              have hm' : i ∈ Region.ready .any l.toArray listed := by
                refine mem_ready.2 ⟨?_, l.toArray[i], Array.getElem?_eq_getElem hi, fun e he hb => ihi e.on (backB_at hE (Array.getElem?_eq_getElem hi) e he hb) (Nat.lt_trans (backB_at hE (Array.getElem?_eq_getElem hi) e he hb) hi)⟩
                have : i < listed.size := by omega
                simp [this] at hc ⊢
                exact hc
              rw [hr] at hm'
              cases hm'
        have hz : unl listed l.toArray.size = 0 := by
          have : ∀ n, n ≤ l.toArray.size → unl listed n = 0 := by
            intro n
            induction n with
            | zero => intro _; rfl
            | succ n ihn =>
              intro hn
              unfold unl
              have h1 := hall n (by omega)
              have h2 : n < listed.size := by omega
              have h3 : listed.getD n true = true := by simp [h2] at h1 ⊢; exact h1
              rw [ihn (by omega), h3]; simp
          exact this _ (Nat.le_refl _)
        omega
      · obtain ⟨hun, o, ho, hall⟩ := mem_ready.1 hi
        have hlt : i < l.toArray.size := (Array.getElem?_eq_some_iff.1 ho).1
        have hlo : l[i]? = some o := by simpa using ho
        by_cases hik : i < k
        · have hpo := hlp hlo hik
          obtain ⟨φ, t, h1, h2, h3⟩ := asks_at hO hpo
          have hgo : o.guard = none := by
            have := List.all_eq_true.1 hg o (List.mem_of_getElem? hpo)
            simpa using this
          have htl : o.looksAt p.toArray = t := by
            rw [← hts, List.getElem?_map, hpo] at h2
            simpa using h2
          refine part_step (ts := t) (ops := p.toArray) (Ψ := fun t => (look ds φs t).getD (fun _ _ => True)) hB (by omega) hF hΨ (by simpa using hpo) ho hgo hun hall htl ?_ hgood (fun a'' W'' hg' => ih _ a'' W'' (by simpa using hls) ?_ ?_ (hcl.set ho hall) hg')
          · intro A W1 hF' hs
            have h4 := h3 A.eval W1 (Std.eval A) hF' (slotsAt_of fun u hu => slotAt_of (hdsts := hdsts) (fun j oj _ hj hdj => by
                obtain ⟨φj, _, hj1, _⟩ := asks_at hO (i := j) (o := oj) (by simpa using hj)
                exact ⟨φj, hat (by simpa using hj) hdj hj1⟩) (slots_mem hs u hu))
            exact relUpon_dst h4 (fun d hd => hat hpo hd h1)
          · have := unl_set (l := listed) (i := i) hun (by omega) hlt
            omega
          · intro j hj1 hj2
            rw [getD_set_ne true (by omega)]
            exact hout j hj1 hj2
        · -- a last operation: all before it have come up
          have hin : ∀ j, j < i → listed.getD j true = true := fun j hj => by
            have h3 := tailR_at hT ho (by omega) hj hcl hall
            have h5 : j < listed.size := by omega
            simp [h5] at h3 ⊢
            exact h3
          have hik' : i = k := by
            rcases Nat.lt_or_ge k i with h1 | h1
            · have h2 := hin k h1
              rw [hout k (Nat.le_refl _) (by omega)] at h2; cases h2
            · omega
          subst hik'
          have h9 := goodEnd (listed := listed) hgood (fun j hj => by
            have h3 : j < p.length := by simpa using hj
            have h4 : p.length ≤ i := by rw [hp, List.length_take]; omega
            have h1 := hin j (by omega)
            have h2 : j < listed.size := by omega
            simp [h2] at h1 ⊢
            exact h1)
          have h10 := tail_runR hT hE (fuel + 1) i listed a' W (Nat.le_refl _) (by
            have : unl listed l.toArray.size = l.toArray.size - i := unl_tail hin hout (by omega)
            omega) hls hin hout h9
          exact h10.2 i hi
  have hcount : ∀ n : Nat, n ≤ l.toArray.size → unl (Array.replicate l.toArray.size false) n = n := by
    intro n
    induction n with
    | zero => intro _; rfl
    | succ n ih =>
      intro hn
      unfold unl
      rw [ih (by omega)]
      have h3 : n < l.length := by simp only [List.size_toArray] at hn; omega
      have : (Array.replicate l.toArray.size false).getD n true = false := by simp [h3]
      rw [this]; simp
  exact main _ _ a w.drew (by simp) (hcount _ (Nat.le_refl _)) (fun j _ hj => by
    have h3 : j < l.length := by simpa using hj
    simp [h3]) (fun j oj hj hl => by
    have h3 : j < l.length := by have := (Array.getElem?_eq_some_iff.1 hj).1; simpa using this
    simp [h3] at hl) ⟨rfl, rfl, h0, fun i o t hi _ hl => by
    have h4 : i < l.length := by
      have h3 : i < p.length := by have := (Array.getElem?_eq_some_iff.1 hi).1; simpa using this
      have h5 : p.length ≤ l.length := by rw [hp, List.length_take]; omega
      omega
    simp [h4] at hl, fun t _ => rfl⟩
end
end Go.RegInv

/- A region that ends in a store and an assignment, where one of the other operations may come behind the store. By mklate.py out of RegInv and RegTail. -/
namespace Go.RegInv

variable {P : Program} {Le : World → World → Prop} {F : World → Prop} {Ψ : Tmp → Value → World → Prop}
section
variable {n : Nat} {ops : Array Oper}

/-- Operation k waits for all before it but j0. -/
def lateB (k j0 : Nat) (ops : Array Oper) : Bool := (List.range k).all fun j => j == j0 || reachB ops ops.size k j
theorem slot_of_good' {P : Tmp → Prop} {a0 : Act} {listed : Array Bool} {a : Act} {W : World} (hr : ∀ t, P t → ∀ j oj, ops[j]? = some oj → oj.dst = some t → listed.getD j false = true)
    (hg : Good F Ψ a0 ops listed a W) (t : Tmp) (ht : P t) : slot (dsts ops) Ψ a0 t (a.eval (.tmp t)) W := by
  unfold slot
  split
  · rename_i hc
    obtain ⟨j, oj, hj, hdj⟩ := mem_dsts.1 (by simpa using hc)
    exact hg.done j oj t hj hdj (hr t ht j oj hj hdj)
  · rename_i hc
    refine hg.other t fun j oj hj hdj => absurd ?_ hc
    simpa using mem_dsts.2 ⟨j, oj, hj, hdj⟩
theorem slot_of_good {a0 : Act} {listed : Array Bool} {a : Act} {W : World} {o : Oper} (hr : ∀ t ∈ o.looksAt ops, ∀ j oj, ops[j]? = some oj → oj.dst = some t → listed.getD j false = true)
    (hg : Good F Ψ a0 ops listed a W) (t : Tmp) (ht : t ∈ o.looksAt ops) : slot (dsts ops) Ψ a0 t (a.eval (.tmp t)) W := slot_of_good' (P := fun t => t ∈ o.looksAt ops) hr hg t ht

/-- What a value does. -/
theorem good_put {a0 : Act} {listed : Array Bool} {a : Act} {W : World} {i : Nat} {o : Oper}
    (hB : depsB a0.tmps.size ops = true) (hls : i < listed.size) (hF : ∀ W W', F W → Le W W' → F W') (hΨ : ∀ t v W W', F W → Le W W' → Ψ t v W → Ψ t v W')
    (hi : ops[i]? = some o) (hg : Good F Ψ a0 ops listed a W) (v : Value) (W' : World) (hle : Le W W') (hv : dstPost Ψ o v W') : Good F Ψ a0 ops (listed.setIfInBounds i true) (a.put o.dst v) W' := by
  obtain ⟨hd1, hd2, hd3⟩ := depsB_at hB hi
  have hbase := hF _ _ hg.base hle
  cases hdst : o.dst with
  | none =>
    refine ⟨hg.defers, hg.size, hbase, fun j oj t hj hdj hl => ?_, fun t ht => hg.other t fun j oj hj hdj => ?_⟩
    · have hne : i ≠ j := by
        rintro rfl
        rw [hi] at hj
        obtain rfl : o = oj := by simpa using hj
        rw [hdst] at hdj; cases hdj
      rw [listed_of_ne hne] at hl
      exact hΨ _ _ _ _ hg.base hle (hg.done j oj t hj hdj hl)
    · have := ht j oj hj hdj
      have hne : i ≠ j := by
        rintro rfl
        rw [hi] at hj
        obtain rfl : o = oj := by simpa using hj
        rw [hdst] at hdj; cases hdj
      rwa [listed_of_ne hne] at this
  | some d =>
    obtain ⟨hdn, huniq⟩ := hd1 d hdst
    have hda : d < a.tmps.size := by rw [hg.size]; exact hdn
    refine ⟨hg.defers, by simp [Act.put, hg.size], hbase, fun j oj t hj hdj hl => ?_, fun t ht => ?_⟩
    · by_cases hne : i = j
      · subst hne
        rw [hi] at hj
        obtain rfl : o = oj := by simpa using hj
        rw [hdst] at hdj
        obtain rfl : d = t := by simpa using hdj
        rw [eval_put_same a hda]
        simpa [dstPost, hdst] using hv
      · rw [listed_of_ne hne] at hl
        have htd : d ≠ t := by
          rintro rfl
          exact hne (huniq j oj hj hdj).symm
        rw [eval_put_other a htd]
        exact hΨ _ _ _ _ hg.base hle (hg.done j oj t hj hdj hl)
    · have htd : d ≠ t := by
        rintro rfl
        have := ht i o hi hdst
        simp [hls] at this
      rw [eval_put_other a htd]
      refine hg.other t fun j oj hj hdj => ?_
      have h2 := ht j oj hj hdj
      have hne : i ≠ j := by
        rintro rfl
        rw [hi] at hj
        obtain rfl : o = oj := by simpa using hj
        rw [hdst] at hdj
        exact htd (by simpa using hdj)
      rwa [listed_of_ne hne] at h2

/-- The last operations, one by one. -/
theorem tail_runL {Q : Exit → Act → World → Prop} {k : Nat} (hT : tailR (k + 1) ops = true) (hE : backB ops = true) : ∀ (fuel i : Nat) (listed : Array Bool) (a : Act) (W : World), k ≤ i → i + fuel = ops.size → listed.size = ops.size →
    (∀ j, j < i → listed.getD j true = true) → (∀ j, i ≤ j → j < ops.size → listed.getD j true = false) → wpList P ops Q (ops.toList.drop i) a W → wpAny P .any ops Q fuel listed a W
  | 0, i, listed, a, W, _, hs, hls, hin, _, h => by
    have hr : Region.ready .any ops listed = [] := by
      rw [List.eq_nil_iff_forall_not_mem]
      intro j hj
      obtain ⟨h1, o, ho, _⟩ := mem_ready.1 hj
      rw [hin j (by have := (Array.getElem?_eq_some_iff.1 ho).1; omega)] at h1
      cases h1
    rw [List.drop_of_length_le (by simp; omega)] at h
    exact ⟨hr, h⟩
  | fuel + 1, i, listed, a, W, hk, hs, hls, hin, hout, h => by
    have hlt : i < ops.size := by omega
    have hi : ops[i]? = some ops[i] := Array.getElem?_eq_getElem hlt
    have hedge : ∀ j, j < i → listed.getD j false = true := fun j hj => by
      have h1 := hin j hj
      have h2 : j < listed.size := by omega
      simp [h2] at h1 ⊢
      exact h1
    refine ⟨fun hr => ?_, fun j hj => ?_⟩
    · exfalso
      have : i ∈ Region.ready .any ops listed := mem_ready.2 ⟨hout i (Nat.le_refl _) hlt, _, hi, fun e he hbd => hedge _ (backB_at hE hi e he hbd)⟩
      rw [hr] at this; cases this
    · obtain ⟨h1, o, ho, hall⟩ := mem_ready.1 hj
      have hjs := (Array.getElem?_eq_some_iff.1 ho).1
      have hij : j = i := by
        rcases Nat.lt_trichotomy j i with h2 | h2 | h2
        · rw [hin j h2] at h1; cases h1
        · exact h2
        · have h3 := tailR_at hT ho (by omega) h2 (listed := listed) (fun j' oj hj' hl e he hbd => hedge _ (Nat.lt_trans (backB_at hE hj' e he hbd) (by
            rcases Nat.lt_or_ge j' i with h5 | h5
            · exact h5
            · have h6 := hout j' h5 (Array.getElem?_eq_some_iff.1 hj').1
              have h7 : j' < listed.size := by have := (Array.getElem?_eq_some_iff.1 hj').1; omega
              simp [h7] at h6 hl
              rw [h6] at hl; cases hl))) hall
          have h4 := hout i (Nat.le_refl _) hlt
          have h5 : i < listed.size := by omega
          simp [h5] at h3 h4
          rw [h4] at h3; cases h3
      subst hij
      rw [hi] at ho
      obtain rfl : ops[j] = o := by simpa using ho
      rw [List.drop_eq_getElem_cons (by simpa using hjs)] at h
      have e : ops.toList[j]'(by simpa using hjs) = ops[j] := by simp
      rw [e] at h
      unfold wpList at h
      unfold wpOp
      simp only [hi]
      have next : ∀ a' W', wpList P ops Q (ops.toList.drop (j + 1)) a' W' → wpAny P .any ops Q fuel (listed.setIfInBounds j true) a' W' := fun a' W' h' =>
        tail_runL hT hE fuel (j + 1) _ a' W' (by omega) (by omega) (by simpa using hls)
          (fun j' hj' => by
            by_cases hjj : j = j'
            · subst hjj
              have : j < listed.size := by omega
              simp [this]
            · rw [getD_set_ne true hjj]; exact hin j' (by omega))
          (fun j' hj1 hj2 => by rw [getD_set_ne true (by omega)]; exact hout j' (by omega) hj2) h'
      split
      · rename_i hw
        rw [if_pos hw] at h
        rcases h with h | h
        · exact .inl (Oper.wp_mono next h)
        · exact .inr h
      · rename_i hw
        rw [if_neg hw] at h
        exact next _ _ h

/-- **A STORE AND AN ASSIGNMENT AT THE END; ONE OF THE OTHERS MAY COME BEHIND THE STORE.** -/
theorem wp_region_late {id : Nat} {Q : Exit → Act → World → Prop} {a : Act} {w : World} {l : List Oper} (k j0 : Nat) (s r oj : Oper) (tj : Tmp) (tss : List Tmp) (ds : List (Option Tmp)) (ts : List (List Tmp)) (φs : List (Value → World → Prop))
    (hm : P.follows .mixedOrders = true) (hB : depsB a.tmps.size (l.take k).toArray = true) (hB1 : depsB a.tmps.size (l.take (k + 1)).toArray = true) (hT : tailR (k + 1) l.toArray = true) (hT0 : lateB k j0 l.toArray = true) (hE : backB l.toArray = true)
    (hl : l.drop k = [s, r]) (hj : (l.take k)[j0]? = some oj) (hdj : oj.dst = some tj) (hsd : s.dst = none) (hsg : s.guard = none) (htss : s.looksAt (l.take (k + 1)).toArray = tss) (hg : (l.take k).all (fun o => o.guard.isNone) = true)
    (hds : (l.take k).map (·.dst) = ds) (hts : (l.take k).map (·.looksAt (l.take k).toArray) = ts)
    (Le : World → World → Prop) (F : World → Prop)
    (_hrefl : ∀ W, F W → Le W W) (hF : ∀ W W', F W → Le W W' → F W') (hφ : Keeps Le F φs)
    (h0 : F w.drew) (hO : Asks P Le F ds φs a (l.take k) φs ts)
    (hpure : ∀ (ρ : Operand → Value) (W : World), Std ρ → F W → slotsAt ds φs a ρ W (ts.getD j0 []) → ∃ v, ∀ W', (execOp ρ oj).run P W' = .ok (.value v) W')
    (hcong : ∀ ρ ρ' : Operand → Value, (∀ x, x ≠ .tmp tj → ρ x = ρ' x) → execOp ρ s = execOp ρ' s)
    (hstore : ∀ (ρ : Operand → Value) (W : World), Std ρ → F W → slotsAt ds φs a ρ W tss → ∃ W', (execOp ρ s).run P W = .ok .skip W')
    (hend : ∀ (f : Tmp → Value) (W : World), F W → Ends f W ds φs → wpList P l.toArray Q (l.drop k) (fin a (ds.filterMap (fun d => d)) f) W) : (Code.region id l.toArray true).wp P Q a w := by
  obtain ⟨p, hp⟩ : ∃ p, p = l.take k := ⟨_, rfl⟩
  rw [← hp] at hB hg hds hts hO hj
  have hpl : ∀ {i : Nat} {o : Oper}, p[i]? = some o → l[i]? = some o := fun {i o} hi => by
    rw [hp, List.getElem?_take] at hi
    split at hi
    · exact hi
    · cases hi
  have hplt : ∀ {i : Nat} {o : Oper}, p[i]? = some o → i < k := fun {i o} hi => by
    rw [hp, List.getElem?_take] at hi
    split at hi
    · assumption
    · cases hi
  have hlp : ∀ {i : Nat} {o : Oper}, l[i]? = some o → i < k → p[i]? = some o := fun {i o} hi hk => by rw [hp, List.getElem?_take, if_pos hk]; exact hi
  have hdsts : dsts p.toArray = ds.filterMap (fun d => d) := by rw [← hds]; unfold dsts; rw [List.filterMap_map]; rfl
  have hat : ∀ {i : Nat} {o : Oper} {t : Tmp} {φ : Value → World → Prop}, p[i]? = some o → o.dst = some t → φs[i]? = some φ → look ds φs t = some φ := by
    intro i o t φ hi hd hp'
    refine look_at (i := i) (by rw [← hds, List.getElem?_map, hi]; simp [hd]) hp' fun j hj => ?_
    rw [← hds, List.getElem?_map] at hj
    cases hlj : p[j]? with
    | none => rw [hlj] at hj; cases hj
    | some oj =>
      rw [hlj] at hj
      exact ((depsB_at hB (i := i) (o := o) (by simpa using hi)).1 t hd).2 j oj (by simpa using hlj) (by simpa using hj)
  have hΨ : ∀ t v W W', F W → Le W W' → (fun t => (look ds φs t).getD (fun _ _ => True)) t v W → (fun t => (look ds φs t).getD (fun _ _ => True)) t v W' := by
    intro t v W W' h1 h2 h3
    cases hl : look ds φs t with
    | none => simp
    | some φ =>
      simp only [hl, Option.getD_some] at h3 ⊢
      exact look_keeps hφ hl v W W' h1 h2 h3
  have goodEnd : ∀ {listed : Array Bool} {a' : Act} {W : World}, Good F (fun t => (look ds φs t).getD (fun _ _ => True)) a p.toArray listed a' W → (∀ i, i < p.toArray.size → listed.getD i false = true) →
      wpList P l.toArray Q (l.drop k) a' W := by
    intro listed a' W hg' hall
    rw [act_fin (a := a') (a0 := a) (ds := dsts p.toArray) hg'.defers hg'.size (fun t ht => hg'.other t fun i o hi hd => absurd (mem_dsts.2 ⟨i, o, hi, hd⟩) ht), hdsts]
    refine hend _ W hg'.base (ends_of fun i t φ h1 h2 => ?_)
    rw [← hds, List.getElem?_map] at h1
    cases hli : p[i]? with
    | none => rw [hli] at h1; cases h1
    | some o =>
      rw [hli] at h1
      have hd : o.dst = some t := by simpa using h1
      have h3 := hg'.done i o t (by simpa using hli) hd (hall i (by have := (List.getElem?_eq_some_iff.1 hli).1; simpa using this))
      rw [hat hli hd h2] at h3
      exact h3
  refine wp_region_any hm ?_
  have main : ∀ (fuel : Nat) (listed : Array Bool) (a' : Act) (W : World), listed.size = l.toArray.size → unl listed l.toArray.size = fuel → (∀ j, k ≤ j → j < l.toArray.size → listed.getD j true = false) → Closed l.toArray listed →
      Good F (fun t => (look ds φs t).getD (fun _ _ => True)) a p.toArray listed a' W → wpAny P .any l.toArray Q fuel listed a' W := by
    intro fuel
    induction fuel with
    | zero =>
      intro listed a' W hls hu hout hcl hgood
      have hall := unl_zero hu
      -- nothing is left: so there is no last operation
      have hkn : l.toArray.size ≤ k := by
        rcases Nat.lt_or_ge k l.toArray.size with h1 | h1
        · have h2 := hout k (Nat.le_refl _) h1
          rw [hall k h1] at h2; cases h2
        · exact h1
      have hr : Region.ready .any l.toArray listed = [] := by
        rw [List.eq_nil_iff_forall_not_mem]
        intro i hi
        obtain ⟨h1, o, ho, _⟩ := mem_ready.1 hi
        rw [hall i (Array.getElem?_eq_some_iff.1 ho).1] at h1
        cases h1
      refine ⟨hr, ?_⟩
      have h9 := goodEnd (listed := listed) hgood (fun i hi => by
        have h1 := hall i (by
          have h3 : i < p.length := by simpa using hi
          have h4 : p.length ≤ l.length := by rw [hp, List.length_take]; omega
          simp; omega)
        have h2 : i < listed.size := by
          have h3 : i < p.length := by simpa using hi
          have h4 : p.length ≤ l.length := by rw [hp, List.length_take]; omega
          simp at hls; omega
        simp [h2] at h1 ⊢
        exact h1)
      rw [List.drop_of_length_le (by simpa using hkn)] at h9
      exact h9
    | succ fuel ih =>
      intro listed a' W hls hu hout hcl hgood
      refine ⟨fun hr => ?_, fun i hi => ?_⟩
      · exfalso
        -- the first that has not come up is ready
        have hall : ∀ i, i < l.toArray.size → listed.getD i false = true := by
          intro i
          induction i using Nat.strongRecOn with
          | ind i ihi =>
            intro hi
            by_cases hc : listed.getD i false = true
            · exact hc
            · exfalso
              have hm' : i ∈ Region.ready .any l.toArray listed := by
                refine mem_ready.2 ⟨?_, l.toArray[i], Array.getElem?_eq_getElem hi, fun e he hb => ihi e.on (backB_at hE (Array.getElem?_eq_getElem hi) e he hb) (Nat.lt_trans (backB_at hE (Array.getElem?_eq_getElem hi) e he hb) hi)⟩
                have : i < listed.size := by omega
                simp [this] at hc ⊢
                exact hc
              rw [hr] at hm'
              cases hm'
        have hz : unl listed l.toArray.size = 0 := by
          have : ∀ n, n ≤ l.toArray.size → unl listed n = 0 := by
            intro n
            induction n with
            | zero => intro _; rfl
            | succ n ihn =>
              intro hn
              unfold unl
              have h1 := hall n (by omega)
              have h2 : n < listed.size := by omega
              have h3 : listed.getD n true = true := by simp [h2] at h1 ⊢; exact h1
              rw [ihn (by omega), h3]; simp
          exact this _ (Nat.le_refl _)
        omega
      · obtain ⟨hun, o, ho, hall⟩ := mem_ready.1 hi
        have hlt : i < l.toArray.size := (Array.getElem?_eq_some_iff.1 ho).1
        have hlo : l[i]? = some o := by simpa using ho
        by_cases hik : i < k
        · have hpo := hlp hlo hik
          obtain ⟨φ, t, h1, h2, h3⟩ := asks_at hO hpo
          have hgo : o.guard = none := by
            have := List.all_eq_true.1 hg o (List.mem_of_getElem? hpo)
            simpa using this
          have htl : o.looksAt p.toArray = t := by
            rw [← hts, List.getElem?_map, hpo] at h2
            simpa using h2
          refine part_step (ts := t) (ops := p.toArray) (Ψ := fun t => (look ds φs t).getD (fun _ _ => True)) hB (by omega) hF hΨ (by simpa using hpo) ho hgo hun hall htl ?_ hgood (fun a'' W'' hg' => ih _ a'' W'' (by simpa using hls) ?_ ?_ (hcl.set ho hall) hg')
          · intro A W1 hF' hs
            have h4 := h3 A.eval W1 (Std.eval A) hF' (slotsAt_of fun u hu => slotAt_of (hdsts := hdsts) (fun j oj _ hj hdj => by
                obtain ⟨φj, _, hj1, _⟩ := asks_at hO (i := j) (o := oj) (by simpa using hj)
                exact ⟨φj, hat (by simpa using hj) hdj hj1⟩) (slots_mem hs u hu))
            exact relUpon_dst h4 (fun d hd => hat hpo hd h1)
          · have := unl_set (l := listed) (i := i) hun (by omega) hlt
            omega
          · intro j hj1 hj2
            rw [getD_set_ne true (by omega)]
            exact hout j hj1 hj2
        · -- a last operation
          have hlen : l.length = k + 2 := by have := congrArg List.length hl; simp at this; omega
          have hks : l[k]? = some s := by
            have := congrArg (·[0]?) hl
            simpa using this
          have hkr : l[k + 1]? = some r := by
            have := congrArg (·[1]?) hl
            simpa using this
          have hjk : j0 < k := hplt hj
          have hoj : l[j0]? = some oj := hpl hj
          have hik' : i = k := by
            rcases Nat.lt_or_ge k i with h1 | h1
            · have h2 := tailR_at hT ho (by omega) h1 hcl hall
              have h3 := hout k (Nat.le_refl _) (by omega)
              have h4 : k < listed.size := by omega
              simp [h4] at h2 h3
              rw [h3] at h2; cases h2
            · omega
          subst hik'
          have hin0 : ∀ j, j < i → j ≠ j0 → listed.getD j false = true := fun j hj1 hj2 => by
            unfold lateB at hT0
            rw [List.all_eq_true] at hT0
            have h1 := hT0 j (List.mem_range.2 hj1)
            simp only [Bool.or_eq_true, beq_iff_eq] at h1
            rcases h1 with h1 | h1
            · exact absurd h1 hj2
            · exact reach_listed hcl _ _ _ h1 (fun o' ho' => by rw [ho] at ho'; obtain rfl : o = o' := by simpa using ho'
                                                                exact hall) o ho
          have asTrue : ∀ {j : Nat} {li : Array Bool}, li.size = l.toArray.size → j < l.toArray.size → li.getD j false = true → li.getD j true = true := fun {j li} h1 h2 h3 => by
            have h4 : j < li.size := by omega
            simp [h4] at h3 ⊢
            exact h3
          have hlj : ∀ {j : Nat}, j < p.toArray.size → j < i := fun {j} h => by
            have h3 : j < p.length := by simpa using h
            have h4 : p.length ≤ i := by rw [hp, List.length_take]; omega
            omega
          by_cases hj0 : listed.getD j0 false = true
          · have hin : ∀ j, j < i → listed.getD j false = true := fun j hj1 => by
              by_cases h : j = j0
              · rw [h]; exact hj0
              · exact hin0 j hj1 h
            have h9 := goodEnd (listed := listed) hgood (fun j hj => hin j (hlj hj))
            have h10 := tail_runL hT hE (fuel + 1) i listed a' W (Nat.le_refl _) (by
              have : unl listed l.toArray.size = l.toArray.size - i := unl_tail (fun j hj => asTrue hls (by omega) (hin j hj)) hout (by omega)
              omega) hls (fun j hj => asTrue hls (by omega) (hin j hj)) hout h9
            exact h10.2 i hi
          · -- the late one has not come up
            have hj0f : listed.getD j0 true = false := by
              have h4 : j0 < listed.size := by omega
              simp [h4] at hj0 ⊢
              exact hj0
            obtain rfl : s = o := by rw [hks] at hlo; simpa using hlo
            -- what the late one gives
            obtain ⟨φ, t, h1, h2, h3⟩ := asks_at hO hj
            have htl : oj.looksAt p.toArray = t := by
              rw [← hts, List.getElem?_map, hj] at h2
              simpa using h2
            have hslj : slotsAt ds φs a a'.eval W t := slotsAt_of fun u hu => slotAt_of (hdsts := hdsts) (fun j' oj' _ hj' hdj' => by
                obtain ⟨φj, _, hj1, _⟩ := asks_at hO (i := j') (o := oj') (by simpa using hj')
                exact ⟨φj, hat (by simpa using hj') hdj' hj1⟩) (slot_of_good (o := oj) (fun t' ht' j' oj' hj' hd' => by
                  obtain ⟨e, he, hbd, hon⟩ := (depsB_at hB (i := j0) (o := oj) (by simpa using hj)).2.1 t' ht' j' oj' hj' hd'
                  have hlt' := backB_at hE (i := j0) (o := oj) (by simpa using hoj) e he hbd
                  rw [← hon]
                  exact hin0 e.on (by omega) (by omega)) hgood u (by rw [htl]; exact hu))
            obtain ⟨v, hv⟩ := hpure a'.eval W (Std.eval a') hgood.base (by rw [List.getD, h2]; exact hslj)
            have hφv : Le W W ∧ φ v W := by
              have h4 := h3 a'.eval W (Std.eval a') hgood.base hslj
              rw [hv W] at h4
              exact h4
            have hg2 := good_put (ops := p.toArray) (Ψ := fun t => (look ds φs t).getD (fun _ _ => True)) (Le := Le) hB (listed := listed) (by omega) hF hΨ (i := j0) (o := oj) (by simpa using hj) hgood v W hφv.1 (by
              simp only [dstPost, hdj, hat hj hdj h1, Option.getD_some]
              exact hφv.2)
            rw [hdj] at hg2
            have h9 := goodEnd (listed := listed.setIfInBounds j0 true) hg2 (fun j hj1 => by
              by_cases h : j0 = j
              · subst h
                have : j0 < listed.size := by omega
                simp [this]
              · rw [getD_set_ne false h]; exact hin0 j (hlj hj1) (fun e => h e.symm))
            rw [hl] at h9
            -- the store
            have hsls : slotsAt ds φs a a'.eval W tss := slotsAt_of fun u hu => slotAt_of (hdsts := hdsts) (fun j' oj' _ hj' hdj' => by
                obtain ⟨φj, _, hj1, _⟩ := asks_at hO (i := j') (o := oj') (by simpa using hj')
                exact ⟨φj, hat (by simpa using hj') hdj' hj1⟩) (slot_of_good' (P := fun t' => t' ∈ tss) (fun t' ht' j' oj' hj' hd' => by
                  have hj'' : (l.take (i + 1))[j']? = some oj' := by
                    have h5 : p[j']? = some oj' := by simpa using hj'
                    rw [List.getElem?_take, if_pos (by have := hplt h5; omega)]
                    exact hpl h5
                  obtain ⟨e, he, hbd, hon⟩ := (depsB_at hB1 (i := i) (o := s) (by rw [List.getElem?_toArray, List.getElem?_take, if_pos (by omega)]; exact hks)).2.1 t' (by rw [htss]; exact ht') j' oj' (by simpa using hj'') hd'
                  have h6 := hall e he hbd
                  rw [hon] at h6
                  exact h6) hgood u hu)
            obtain ⟨W2, hW2⟩ := hstore a'.eval W (Std.eval a') hgood.base hsls
            have hex : execOp (a'.put (some tj) v).eval s = execOp a'.eval s := hcong _ _ (fun x hx => Act.eval_put fun d hd e => hx (by simp at hd; subst hd; exact e))
            unfold wpList at h9
            have hw9 : Region.wanted s (yielded l.toArray (a'.put (some tj) v).tmps) = true := by simp [Region.wanted, hsg]
            rw [if_pos hw9] at h9
            unfold wpOp
            simp only [ho]
            have hw : Region.wanted s (yielded l.toArray a'.tmps) = true := by simp [Region.wanted, hsg]
            rw [if_pos hw]
            rcases h9 with h9 | ⟨h9, h10⟩
            · refine .inl ?_
              unfold Oper.wp at h9 ⊢
              rw [hex, hW2] at h9
              rw [hW2]
              simp only [Oper.upon, hsd] at h9 ⊢
              have e1 : ∀ a : Act, a.put none undef = a := fun _ => rfl
              rw [e1] at h9 ⊢
              -- behind the store
              have hls2 : (listed.setIfInBounds i true).size = l.toArray.size := by simpa using hls
              have hun2 : (listed.setIfInBounds i true).getD j0 true = false := by rw [getD_set_ne true (by omega)]; exact hj0f
              have hu2 : unl (listed.setIfInBounds i true) l.toArray.size = fuel := by
                have := unl_set (l := listed) (i := i) hun (by omega) hlt
                omega
              have hl2 : ∀ j, j < i + 1 → j ≠ j0 → (listed.setIfInBounds i true).getD j false = true := fun j h5 h6 => by
                by_cases h : i = j
                · subst h
                  have : i < listed.size := by omega
                  simp [this]
                · rw [getD_set_ne false h]; exact hin0 j (by omega) h6
              cases fuel with
              | zero =>
                exfalso
                have := unl_zero hu2 j0 (by omega)
                rw [hun2] at this; cases this
              | succ fuel =>
                have hro : l.toArray[i + 1]? = some r := by simpa using hkr
                have hojo : l.toArray[j0]? = some oj := by simpa using hoj
                refine ⟨fun hr => ?_, fun i2 hi2 => ?_⟩
                · exfalso
                  have : j0 ∈ Region.ready .any l.toArray (listed.setIfInBounds i true) := mem_ready.2 ⟨hun2, _, hojo, fun e he hbd => by
                    have h5 := backB_at hE hojo e he hbd
                    exact hl2 e.on (by omega) (by omega)⟩
                  rw [hr] at this; cases this
                · obtain ⟨h5, o2, h6, h7⟩ := mem_ready.1 hi2
                  have h8 := (Array.getElem?_eq_some_iff.1 h6).1
                  have hcl2 : Closed l.toArray (listed.setIfInBounds i true) := hcl.set ho hall
                  have hi2j : i2 = j0 := by
                    by_cases h : i2 = j0
                    · exact h
                    · exfalso
                      rcases Nat.lt_or_ge i2 (i + 1) with h10 | h10
                      · have := asTrue hls2 h8 (hl2 i2 h10 h)
                        rw [h5] at this; cases this
                      · have := tailR_at hT h6 h10 (j := j0) (by omega) hcl2 h7
                        have := asTrue hls2 (by omega) this
                        rw [hun2] at this; cases this
                  subst hi2j
                  obtain rfl : oj = o2 := by rw [hojo] at h6; simpa using h6
                  unfold wpOp
                  simp only [hojo]
                  have hgo : oj.guard = none := by
                    have := List.all_eq_true.1 hg oj (List.mem_of_getElem? hj)
                    simpa using this
                  have hw3 : Region.wanted oj (yielded l.toArray a'.tmps) = true := by simp [Region.wanted, hgo]
                  rw [if_pos hw3]
                  refine .inl ?_
                  unfold Oper.wp
                  rw [hv W2]
                  simp only [Oper.upon, hdj]
                  have hin3 : ∀ j, j < i + 1 → ((listed.setIfInBounds i true).setIfInBounds i2 true).getD j true = true := fun j h10 => by
                    by_cases h : i2 = j
                    · subst h
                      have : i2 < listed.size := by omega
                      simp [this]
                    · rw [getD_set_ne true h]
                      exact asTrue hls2 (by omega) (hl2 j h10 (fun e => h e.symm))
                  have hout3 : ∀ j, i + 1 ≤ j → j < l.toArray.size → ((listed.setIfInBounds i true).setIfInBounds i2 true).getD j true = false := fun j h10 h11 => by
                    rw [getD_set_ne true (by omega), getD_set_ne true (by omega)]
                    exact hout j (by omega) h11
                  refine tail_runL hT hE fuel (i + 1) _ _ _ (by omega) ?_ (by simpa using hls) hin3 hout3 ?_
                  · have h10 : unl ((listed.setIfInBounds i true).setIfInBounds i2 true) l.toArray.size = l.toArray.size - (i + 1) := unl_tail hin3 hout3 (by omega)
                    have h11 := unl_set (l := listed.setIfInBounds i true) (i := i2) hun2 (by omega) h8
                    omega
                  · have e2 : l.toArray.toList.drop (i + 1) = [r] := by
                      have := congrArg (List.drop 1) hl
                      simpa using this
                    rw [e2]
                    exact h9
            · refine .inr ⟨?_, h10⟩
              unfold Oper.asks at h9 ⊢
              rw [hex] at h9
              exact h9
  have hcount : ∀ n : Nat, n ≤ l.toArray.size → unl (Array.replicate l.toArray.size false) n = n := by
    intro n
    induction n with
    | zero => intro _; rfl
    | succ n ih =>
      intro hn
      unfold unl
      rw [ih (by omega)]
      have h3 : n < l.length := by simp only [List.size_toArray] at hn; omega
      have : (Array.replicate l.toArray.size false).getD n true = false := by simp [h3]
      rw [this]; simp
  exact main _ _ a w.drew (by simp) (hcount _ (Nat.le_refl _)) (fun j _ hj => by
    have h3 : j < l.length := by simpa using hj
    simp [h3]) (fun j oj hj hl => by
    have h3 : j < l.length := by have := (Array.getElem?_eq_some_iff.1 hj).1; simpa using this
    simp [h3] at hl) ⟨rfl, rfl, h0, fun i o t hi _ hl => by
    have h4 : i < l.length := by
      have h3 : i < p.length := by have := (Array.getElem?_eq_some_iff.1 hi).1; simpa using this
      have h5 : p.length ≤ l.length := by rw [hp, List.length_take]; omega
      omega
    simp [h4] at hl, fun t _ => rfl⟩
end
end Go.RegInv

/- A loop over a function that hands out a list that is known: a law of its own, also for method values. -/
namespace Go.Mem
open Go.RowKit

/-- Whatever is cells lies as it lay. -/
def CellsKept (W W' : World) : Prop := ∀ (g : Nat) (o : Obj), W.heap[g]? = some o → o.isCells = true → W'.heap[g]? = some o
theorem CellsKept.refl (W : World) : CellsKept W W := fun _ _ h _ => h
theorem CellsKept.ext {W W' : World} (h : Ext W W') : CellsKept W W' := fun g _ ho _ => (h.block g (Array.getElem?_eq_some_iff.1 ho).1).trans ho
theorem CellsKept.blk {W W' : World} (h : CellsKept W W') {g : Nat} {t : TypeId} {cs : Array Value} (b : Blk W g t cs) : Blk W' g t cs := h g _ b rfl
theorem CellsKept.own {W W' : World} (h : CellsKept W W') {base : Nat} {e : TypeId} {size : Nat} {v : Value} {n : Nat} {xs : List Value} (r : W.ownsRow base e size v n xs) : W'.ownsRow base e size v n xs := by
  refine ⟨r.1, ?_⟩
  rcases r.2 with h1 | ⟨g, cap, cur, h1, h2, h3, h4⟩
  · exact .inl h1
  · exact .inr ⟨g, cap, cur, h1, h2, h _ _ h3 rfl, h4⟩
theorem CellsKept.grown {W W' : World} {row : Option Nat} (hg : W.grownBy W' row) (hr : ∀ r, row = some r → ∃ o, W.heap[r]? = some o ∧ o.isCells = false) : CellsKept W W' := fun g o ho hc => by
  refine (hg.block g (Array.getElem?_eq_some_iff.1 ho).1 (fun e => ?_)).trans ho
  obtain ⟨o', h1, h2⟩ := hr g e.symm
  rw [ho] at h1
  obtain rfl : o = o' := by simpa using h1
  rw [hc] at h2; cases h2
theorem CellsKept.put {W : World} {l : Nat} {o : Obj} (o' : Obj) (h : W.heap[l]? = some o) (hc : o.isCells = false) : CellsKept W (W.putObj l o') := CellsKept.grown (grownBy_putObj' W l o') (fun r e => by cases e; exact ⟨o, h, hc⟩)
theorem below_put {B : Nat} {W : World} {l : Nat} {o : Obj} (o' : Obj) (h : W.heap[l]? = some o) (hB : B ≤ l) : Below B W (W.putObj l o') :=
  (Below.refl B W).grown (grownBy_putObj' W l o') (by have := (Array.getElem?_eq_some_iff.1 h).1; omega) (fun k e => by cases e; exact hB)

theorem own_not {W : World} {base : Nat} {e : TypeId} {size : Nat} {v : Value} {n : Nat} {xs : List Value} (r : W.ownsRow base e size v n xs) {g : Nat} (hg : g < base) : some g ≠ v.ownBlock := by
  rcases r.2 with ⟨rfl, _⟩ | ⟨g', cap, cur, rfl, h2, _⟩
  · simp [Value.ownBlock]
  · simp [Value.ownBlock]; omega
theorem own_notBlk {W : World} {base : Nat} {e : TypeId} {size : Nat} {v : Value} {n : Nat} {xs : List Value} (r : W.ownsRow base e size v n xs) {g : Nat} {t : TypeId} {cs : Array Value} (b : Blk W g t cs) (hne : t ≠ e) : some g ≠ v.ownBlock := by
  rcases r.2 with ⟨rfl, _⟩ | ⟨g', cap, cur, rfl, h2, h3, _⟩
  · simp [Value.ownBlock]
  · intro he
    obtain rfl : g = g' := by simpa [Value.ownBlock] using he
    unfold Blk at b
    rw [h3] at b
    simp at b
    exact hne b.2.symm
theorem own_set {W : World} {base : Nat} {e : TypeId} {size : Nat} {v : Value} {n : Nat} {xs : List Value} (r : W.ownsRow base e size v n xs) {p : Addr} (hp : some p.block ≠ v.ownBlock) (u : Value) : (W.setCell p u).ownsRow base e size v n xs := by
  refine ⟨r.1, ?_⟩
  rcases r.2 with h1 | ⟨g, cap, cur, rfl, h2, h3, h4⟩
  · exact .inl h1
  · refine .inr ⟨g, cap, cur, rfl, h2, (Below.heap_setCell W p u g (fun e' => hp (by simp [Value.ownBlock, e']))).trans h3, h4⟩

theorem keepsOthers_ext {W W' : World} (h : Ext W W') : KeepsOthers W W' := ⟨h.size, fun k _o ho _ => (h.block k (Array.getElem?_eq_some_iff.1 ho).1).trans ho⟩
theorem keepsOthers_own {W W' : World} {base : Nat} {e : TypeId} {size : Nat} {v : Value} {n : Nat} {xs : List Value} (r : W.ownsRow base e size v n xs) (hg : W.grownBy W' v.ownBlock) : KeepsOthers W W' := by
  refine ⟨hg.size, fun k o ho hc => (hg.block k (Array.getElem?_eq_some_iff.1 ho).1 (fun e' => ?_)).trans ho⟩
  rcases r.2 with ⟨rfl, _⟩ | ⟨g', cap, cur, rfl, h2, h3, _⟩
  · simp [Value.ownBlock] at e'
  · obtain rfl : k = g' := by simpa [Value.ownBlock] using e'
    rw [h3] at ho
    obtain rfl : Obj.cells cur _ (0, 0) = o := by simpa using ho
    cases hc
theorem below_of {B : Nat} {w W W' : World} (h : Below B w W) (h' : Below B w W') (hs : W.heap.size ≤ W'.heap.size) : Below B W W' :=
  ⟨h'.os.trans h.os.symm, h'.tape.trans h.tape.symm, h'.output.trans h.output.symm, hs, fun k hk => (h'.block k hk).trans (h.block k hk).symm⟩
theorem news_of {W : World} {g : Nat} {t : TypeId} {a b : Value} (h : Blk W g t #[a, b]) : ∀ j u, [a, b][j]? = some u → W.cell? (Addr.add ⟨g, 0, none⟩ j) = some u := by
  intro j u hj
  match j, hj with
  | 0, hj => simpa [Addr.add] using (h.cell 0).trans (by simpa using hj)
  | 1, hj => simpa [Addr.add] using (h.cell 1).trans (by simpa using hj)
  | j + 2, hj => simp at hj
theorem news_of1 {W : World} {g : Nat} {t : TypeId} {a : Value} (h : Blk W g t #[a]) : ∀ j u, [a][j]? = some u → W.cell? (Addr.add ⟨g, 0, none⟩ j) = some u := by
  intro j u hj
  match j, hj with
  | 0, hj => simpa [Addr.add] using (h.cell 0).trans (by simpa using hj)
  | j + 1, hj => simp at hj

/-- The function value hands out the list, one item a round; between two rounds it makes new blocks at most; it wants `Kp` of a round. -/
def IterAt {α : Type} (P : Program) (n : Nat) (gf : FuncId) (first lb : Array Value) (encs : α → Array Value) (full : List α) (Kp : World → World → Prop) (W0 : World) : Prop :=
  ∀ (l : Nat) (J : Nat → World → Prop) (Jx : World → Prop) (W : World), CellsKept W0 W → Below W0.heap.size W0 W → (∀ k A B, J k A → Ext A B → J k B) → (∀ A B, Jx A → Ext A B → Jx B) →
    (∀ k x, full[k]? = some x → ∀ W1, J k W1 → YieldAt Fence.wide (n - 1) P l (encs x) W1 fun e W' => (e = .returned (.bool true) ∧ J (k + 1) W' ∧ Kp W1 W') ∨ (e = .returned (.bool false) ∧ Jx W')) →
    J 0 W → CallsIn Fence.wide n P gf (first ++ #[.func (.yield l) #[] #[]] ++ lb) W fun e W' => (∃ v, e = .returned v) ∧ (J full.length W' ∨ Jx W')

/-- How a round may be left. -/
def RoundEnd (Kp : World → World → Prop) (I : World → Prop) (Ix : Code → World → Prop) (W : World) : Exit → Act → World → Prop
  | .normal, _, W' => KeepsOthers W W' ∧ Kp W W' ∧ I W'
  | .ret, _, W' => KeepsOthers W W' ∧ Ix .ret W'
  | .exit id, _, W' => KeepsOthers W W' ∧ Ix (.exit id) W'
  | .goto t, _, W' => KeepsOthers W W' ∧ Ix (.goto t) W'
  | .panic _, _, _ => False
  | .outgrown, _, _ => False

/-- Abides what the loop does for itself. -/
def Calm (B : Nat) (I : World → Prop) : Prop := ∀ W W', I W → CellsKept W W' → Below B W W' → I W'

variable {P : Program} {n : Nat}

theorem rangeFunc_list {α : Type} {g : Operand} {ps : Array Tmp} {assign body : Code} {Q : Exit → Act → World → Prop} {a : Act} {w : World}
    (_h1 : 1 ≤ n) {gf : FuncId} {first lb : Array Value} (hg : a.eval g = .func (.func gf) first lb) (eg : ∀ args w, (callFunc gf args).run P w = .ok (.enter gf args) w)
    {encs : α → Array Value} {full : List α} {Kp : World → World → Prop} (hseq : IterAt P (n - 1) gf first lb encs full Kp w)
    (hKt : ∀ {A B C : World}, Kp A B → Kp B C → Kp A C) (hKb : ∀ W W', CellsKept W W' → Below w.heap.size W W' → Kp W W') (hps : ∀ x, (encs x).size = ps.size)
    (I : Nat → World → Prop) (Ix : Code → World → Prop) (hI : ∀ k, Calm w.heap.size (I k)) (hIx : ∀ c, Calm w.heap.size (Ix c)) (h0 : I 0 w)
    (Ax : α → Act → World → Prop) (hAx : ∀ x a', Calm w.heap.size (Ax x a'))
    (hassign : ∀ (l : Nat) (k : Nat) (x : α) (W : World) (K : Act → World → Prop), full[k]? = some x → w.heap.size ≤ W.heap.size → I k W → (∀ a' W', KeepsOthers W W' → Kp W W' → I k W' → Ax x a' W' → K a' W') →
      assign.wpIn (Fence.wide.inRound l) (n - 1 - 1) P (Exit.then K (fun _ _ _ => False)) { tmps := (ps.zip (encs x)).foldl (fun t (p, v) => t.setIfInBounds p v) a.tmps, defers := [] } W)
    (hbody : ∀ (l : Nat) (k : Nat) (x : α) (a' : Act) (W : World), full[k]? = some x → w.heap.size ≤ W.heap.size → I k W → Ax x a' W → body.wpIn (Fence.wide.inRound l) (n - 1 - 1) P (RoundEnd Kp (I (k + 1)) Ix W) a' W)
    (hdone : ∀ (D : Nat) (W : World), w.heap.size ≤ D → I full.length W → W.heap[D]? = some (.deferred (some [])) → Q .normal { a with defers := { target := .collected D, args := #[] } :: a.defers } W)
    (hstop : ∀ (D : Nat) (c : Code) (W : World), w.heap.size ≤ D → Ix c W → W.heap[D]? = some (.deferred (some [])) → c.wpIn Fence.wide n P Q { a with defers := { target := .collected D, args := #[] } :: a.defers } W) :
    (Code.rangeFunc g ps assign body).wpIn Fence.wide n P Q a w := by
  refine wpIn_rangeFunc fun fn _ => ?_
  obtain ⟨R, hR⟩ : ∃ R : LoopState → Option Code → Loop, R = fun st pe => { state := st, pending := pe, fn, tmps := a.tmps, params := ps, assign, body, defers := w.heap.size } := ⟨_, rfl⟩
  -- the two blocks of the loop
  let book : LoopState → Option Code → World → Prop := fun st pe W => W.heap[w.heap.size + 1]? = some (.loop (R st pe)) ∧ W.heap[w.heap.size]? = some (.deferred (some []))
  have bookExt : ∀ {st pe A B}, book st pe A → Ext A B → book st pe B := fun h e =>
    ⟨(e.block _ (Array.getElem?_eq_some_iff.1 h.1).1).trans h.1, (e.block _ (Array.getElem?_eq_some_iff.1 h.2).1).trans h.2⟩
  have bookKeep : ∀ {st pe A B}, book st pe A → KeepsOthers A B → book st pe B := fun h e => ⟨e.same _ _ h.1 rfl, e.same _ _ h.2 rfl⟩
  have bookPut : ∀ {st pe st' pe' A}, book st pe A → book st' pe' (A.putObj (w.heap.size + 1) (.loop (R st' pe'))) := fun h =>
    ⟨World.putObj_heap_same (Array.getElem?_eq_some_iff.1 h.1).1, (World.putObj_heap_other (by omega)).trans h.2⟩
  have calmPut : ∀ {st pe A} {C : World → Prop} (o' : Obj), book st pe A → Calm w.heap.size C → C A → C (A.putObj (w.heap.size + 1) o') := fun o' h hC hc =>
    hC _ _ hc (CellsKept.put o' h.1 rfl) (below_put o' h.1 (by omega))
  have kpPut : ∀ {st pe A} (o' : Obj), book st pe A → Kp A (A.putObj (w.heap.size + 1) o') := fun o' h => hKb _ _ (CellsKept.put o' h.1 rfl) (below_put o' h.1 (by omega))
  obtain ⟨W1, hW1⟩ : ∃ W1, (w.alloc (.deferred (some []))).alloc (.loop (R .ready none)) = W1 := ⟨_, rfl⟩
  have e1 : Ext w W1 := by rw [← hW1]; exact (Ext.alloc _ _).trans (Ext.alloc _ _)
  have hb1 : book .ready none W1 := by
    rw [← hW1]
    refine ⟨?_, (Below.heap_alloc _ _ _ (by simp)).trans (World.alloc_heap_new w _)⟩
    have := World.alloc_heap_new (w.alloc (.deferred (some []))) (.loop (R .ready none))
    rwa [World.size_alloc] at this
  refine ⟨w.heap.size + 1, [{ target := .collected w.heap.size, args := #[] }], W1, { target := .fn (.func gf) lb, args := first ++ #[.func (.yield (w.heap.size + 1)) #[] #[]] }, W1, gf,
    first ++ #[.func (.yield (w.heap.size + 1)) #[] #[]] ++ lb, W1, ?_, ?_, fun _ _ => trivial, ?_, fun h => absurd h (by simp [Fence.wide]), ?_⟩
  · rw [← hW1, hR]; exact run_enterLoop_outer _ _ _ _ _
  · simp only [resolve, hg]
    simp [go_sem]
  · simp [invoke, go_sem, eg]
  refine (hseq (w.heap.size + 1) (fun k W => I k W ∧ book .ready none W ∧ w.heap.size ≤ W.heap.size) (fun W => ∃ c, Ix c W ∧ book .done (some c) W) W1 (CellsKept.ext e1) e1
    (fun k A B h e => ⟨hI k _ _ h.1 (CellsKept.ext e) (Below.mono e h.2.2), bookExt h.2.1 e, Nat.le_trans h.2.2 e.size⟩)
    (fun A B ⟨c, h, hb⟩ e => ⟨c, hIx c _ _ h (CellsKept.ext e) (Below.mono e (by have := (Array.getElem?_eq_some_iff.1 hb.1).1; omega)), bookExt hb e⟩)
    ?_ ⟨hI 0 _ _ h0 (CellsKept.ext e1) e1, hb1, e1.size⟩).mono ?_
  · -- one round
    intro k x hx W ⟨hi, hbk, hsz⟩
    have hy := run_yield (P := P) (args := encs x) hbk.1 (by rw [hR]; exact hps x)
    rw [hR] at hy
    refine ⟨fn, _, assign, body, hy, roundIn_of_wpIn (F := Fence.wide) trivial (hassign _ k x W _ hx hsz hi ?_)⟩
    intro a' Wa hka hkpa hia hax
    have hbA := bookKeep hbk hka
    have hsA : w.heap.size ≤ Wa.heap.size := Nat.le_trans hsz hka.size
    refine ⟨_, run_beginRound hbA.1 (by rw [hR]), ?_⟩
    have eb : ({ R .ready none with state := .busy } : Loop) = R .busy none := by rw [hR]
    rw [eb]
    have hbB : book .busy none (Wa.putObj (w.heap.size + 1) (.loop (R .busy none))) := bookPut hbA
    refine wpIn_mono (hbody _ k x a' _ hx (by simpa [World.putObj] using hsA) (calmPut _ hbA (hI k) hia) (calmPut _ hbA (hAx x a') hax)) ?_
    intro e a3 W3 hp
    have fin : ∀ (jump : Option Code), KeepsOthers (Wa.putObj (w.heap.size + 1) (.loop (R .busy none))) W3 →
        (Instr.endRound (w.heap.size + 1) jump).run P W3 = .ok (.bool jump.isNone) (W3.putObj (w.heap.size + 1) (.loop (R (if jump.isNone then .ready else .done) jump))) ∧ book .busy none W3 := fun jump hk3 => by
      have hb3 := bookKeep hbB hk3
      have := run_endRound (P := P) jump hb3.1
      refine ⟨?_, hb3⟩
      rw [this, hR]
    have out : ∀ (c : Code), KeepsOthers (Wa.putObj (w.heap.size + 1) (.loop (R .busy none))) W3 → Ix c W3 → ∃ v W4, (Instr.endRound (w.heap.size + 1) (some c)).run P W3 = .ok v W4 ∧ v = .bool false ∧ ∃ c, Ix c W4 ∧ book .done (some c) W4 := fun c hk3 hc => by
      obtain ⟨hr, hb3⟩ := fin (some c) hk3
      exact ⟨_, _, hr, rfl, c, calmPut _ hb3 (hIx c) hc, bookPut hb3⟩
    cases e with
    | normal =>
      obtain ⟨hk3, hkp3, hi3⟩ := hp
      obtain ⟨hr, hb3⟩ := fin none hk3
      refine ⟨_, _, hr, .inl ⟨rfl, ⟨calmPut _ hb3 (hI (k + 1)) hi3, bookPut hb3, ?_⟩, hKt hkpa (hKt (kpPut _ hbA) (hKt hkp3 (kpPut _ hb3)))⟩⟩
      have := hk3.size
      simp only [World.putObj, Array.size_setIfInBounds] at this ⊢
      omega
    | ret =>
      obtain ⟨v, W4, hr, rfl, hx'⟩ := out .ret hp.1 hp.2
      exact ⟨_, _, hr, .inr ⟨rfl, hx'⟩⟩
    | exit id =>
      obtain ⟨v, W4, hr, rfl, hx'⟩ := out (.exit id) hp.1 hp.2
      exact ⟨_, _, hr, .inr ⟨rfl, hx'⟩⟩
    | goto t =>
      obtain ⟨v, W4, hr, rfl, hx'⟩ := out (.goto t) hp.1 hp.2
      exact ⟨_, _, hr, .inr ⟨rfl, hx'⟩⟩
    | panic ch => exact hp.elim
    | outgrown => exact hp.elim
  · -- behind the function
    rintro e W2 ⟨⟨v, rfl⟩, ⟨hi, hb, _⟩ | ⟨c, hc, hb⟩⟩
    · refine ⟨none, _, by have := run_endLoop (P := P) hb.1 (by rw [hR]; simp); rw [hR] at this; exact this, ?_⟩
      exact hdone _ _ (Nat.le_refl _) (calmPut _ hb (hI _) hi) ((World.putObj_heap_other (by omega)).trans hb.2)
    · refine ⟨some c, _, by have := run_endLoop (P := P) hb.1 (by rw [hR]; simp); rw [hR] at this; exact this, ?_⟩
      exact hstop _ c _ (Nat.le_refl _) (calmPut _ hb (hIx c) hc) ((World.putObj_heap_other (by omega)).trans hb.2)
end Go.Mem

/- A slice of rows that came in, read as a list; structs of one-cell fields. -/
namespace Go.Mem
open Go.ChangeShapes Go.WideShapes Go.RowKit Go.Deep
section
variable {H : Type} {enc : TypeId × Value → H} {P : Program} {w : World} {base : Nat} {spare : Nat → Bool} {held : Bool}

theorem open_rows {α : Type} [Inhabited α] (k : Nat) (ea : α → List Value) (hk : 0 < k) {t e : TypeId} (ht : P.underlying t = some (.slice e)) (hC : P.cellsOf e = k)
    (he : ∀ fuel cs x, DataW.trod enc P w base spare held fuel e cs = some x → ∃ a, cs = ea a) {fuel : Nat} {v : Value} {x : DataW H × List MemPlace}
    (h : DataW.trod enc P w base spare held fuel t [v] = some x) :
    ∃ A n cap xs, v = .slice A n cap ∧ (A = none → cap = 0) ∧ n ≤ cap ∧ cap ≤ maxLen ∧ xs.length = n ∧ (n ≤ 1152921504606846976 → RowsAt k ea w A xs) := by
  rcases open_slice ht h with ⟨hcs, _⟩ | ⟨a, len, cap, m, nf, D, Pl, hcs, hb, hl, hm, hmm, _, hi⟩
  · obtain rfl : v = .slice none 0 0 := by simpa using hcs
    exact ⟨none, 0, 0, [], rfl, fun _ => rfl, Nat.le_refl _, by unfold maxLen; omega, rfl, fun _ => ⟨by simp, by simp⟩⟩
  · obtain rfl : v = .slice (some a) len cap := by simpa using hcs
    have hlm : len ≤ m := by rw [hmm]; split <;> omega
    obtain ⟨f, hf⟩ := choose_lt (n := len) (p := fun i (z : α) => w.cells? base (a.add (i * k)) k = some (ea z)) (fun i hlt => by
      obtain ⟨cs', h1, h2⟩ := hi i (by omega)
      obtain ⟨z, rfl⟩ := he _ _ _ h2
      exact ⟨z, by rw [hC] at h1; exact h1⟩)
    refine ⟨some a, len, cap, (List.range len).map f, rfl, (fun h => by cases h), hl, hm, by simp, fun hle => ⟨by simpa using hle, fun i x hx => ?_⟩⟩
    have hlt : i < len := by simpa using (List.getElem?_eq_some_iff.1 hx).1
    obtain rfl : f i = x := by simpa [hlt] using hx
    obtain ⟨_, hcl, hat⟩ := World.cells?_some (hf i hlt)
    have hc00 : w.cell? ((a.add (i * k)).add 0) = some ((ea (f i))[0]'(by omega)) := by rw [hat 0 hk, List.getElem?_eq_getElem (by omega)]
    obtain ⟨b, off, spot⟩ := a
    obtain rfl : spot = none := by
      obtain ⟨_, hcl0, hat0⟩ := World.cells?_some (hf 0 (by omega))
      have h00 : w.cell? ((Addr.add ⟨b, off, spot⟩ (0 * k)).add 0) = some ((ea (f 0))[0]'(by omega)) := by rw [hat0 0 hk, List.getElem?_eq_getElem (by omega)]
      have := World.cell?_spot h00
      simpa [Addr.add] using this
    refine ⟨b, off, rfl, ?_, fun j u hu => ?_⟩
    · rw [add_plain, add_plain] at hc00
      exact lt_of_cell hc00
    · have hj : j < k := by have := (List.getElem?_eq_some_iff.1 hu).1; omega
      have := hat j hj
      rw [add_plain, add_plain, hu] at this
      exact this

theorem elem1 {t : TypeId} {k : IntKind} (ht : P.underlying t = some (.int k)) {fuel : Nat} {cs : List Value} {x : DataW H × List MemPlace} (h : DataW.trod enc P w base spare held fuel t cs = some x) :
    ∃ a, cs = [.int k a] := by
  obtain ⟨n, h, _⟩ := DataW.trod_int ht h
  exact ⟨n, h⟩
theorem elemB {t : TypeId} (ht : P.underlying t = some .bool) {fuel : Nat} {cs : List Value} {x : DataW H × List MemPlace} (h : DataW.trod enc P w base spare held fuel t cs = some x) :
    ∃ a, cs = [.bool a] := by
  obtain ⟨n, h, _⟩ := DataW.trod_bool ht h
  exact ⟨n, h⟩

theorem elem2 {t : TypeId} {f0 f1 : Field} (ht : P.underlying t = some (.struct #[f0, f1])) (hC : P.cellsOf t = 2) (o0 : f0.offset = 0) (o1 : f1.offset = 1) (k0 : P.cellsOf f0.type = 1) (k1 : P.cellsOf f1.type = 1)
    (i0 : P.underlying f0.type = some (.int .i64)) (i1 : P.underlying f1.type = some (.int .i64)) {fuel : Nat} {cs : List Value} {x : DataW H × List MemPlace} (h : DataW.trod enc P w base spare held fuel t cs = some x) :
    ∃ a b, cs = [.int .i64 a, .int .i64 b] := by
  obtain ⟨y0, y1, n, _, hl, h0, h1⟩ := trod_struct2 ht h
  rw [hC] at hl
  match cs, hl with
  | [c0, c1], _ =>
    rw [o0, k0] at h0
    rw [o1, k1] at h1
    obtain ⟨a, ha, _⟩ := DataW.trod_int i0 h0
    obtain ⟨b, hb, _⟩ := DataW.trod_int i1 h1
    simp at ha hb
    exact ⟨a, b, by rw [ha, hb]⟩

theorem elem3 {t : TypeId} {f0 f1 f2 : Field} (ht : P.underlying t = some (.struct #[f0, f1, f2])) (hC : P.cellsOf t = 3) (o0 : f0.offset = 0) (o1 : f1.offset = 1) (o2 : f2.offset = 2) (k0 : P.cellsOf f0.type = 1) (k1 : P.cellsOf f1.type = 1) (k2 : P.cellsOf f2.type = 1)
    (i0 : P.underlying f0.type = some (.int .i64)) (i1 : P.underlying f1.type = some (.int .i64)) (i2 : P.underlying f2.type = some (.int .i64)) {fuel : Nat} {cs : List Value} {x : DataW H × List MemPlace} (h : DataW.trod enc P w base spare held fuel t cs = some x) :
    ∃ a b c, cs = [.int .i64 a, .int .i64 b, .int .i64 c] := by
  obtain ⟨y0, y1, y2, n, _, hl, h0, h1, h2⟩ := trod_struct3 ht h
  rw [hC] at hl
  match cs, hl with
  | [c0, c1, c2], _ =>
    rw [o0, k0] at h0
    rw [o1, k1] at h1
    rw [o2, k2] at h2
    obtain ⟨a, ha, _⟩ := DataW.trod_int i0 h0
    obtain ⟨b, hb, _⟩ := DataW.trod_int i1 h1
    obtain ⟨c, hc, _⟩ := DataW.trod_int i2 h2
    simp at ha hb hc
    exact ⟨a, b, c, by rw [ha, hb, hc]⟩
end
end Go.Mem

