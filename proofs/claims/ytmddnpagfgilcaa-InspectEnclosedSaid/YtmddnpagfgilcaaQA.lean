/- Part 1 of what the row builds on. -/
import Derived.WalkKit
import Derived.WalkLawsBesides
import Derived.WalkSpells
import Derived.Handy
import Derived.LoopTactic
import Derived.Lib.Hide
import Derived.BigQuiet
import Derived.Deep.QuietTactic
import Derived.Deep.Draws
import Derived.BigFrame
import Derived.OrdersIn
import Derived.RangeFuncCalls
import Derived.OwnWalkIn
import Derived.RangeFuncNested
import Derived.RangeFuncBound
import Derived.RangeFuncBox
import Derived.Deep.Slices
import Derived.ChangeSame
import Derived.Deep.Strs
import Derived.Lib.SmallJoins
import Derived.Test.YtmddnpagfgilcaaProg
import Derived.Outline
import Derived.RangeFuncLeaves
import Derived.Shelf.Abstract
import Derived.Shelf.RegionOpen
import Derived.TacticsInMore
import Derived.LoopNIn
import Derived.LoopIn
import Derived.RegionTactic
import Derived.Laws.MakeOwn
import Derived.StillTailTactics
import Derived.Lib.MinMax
import Derived.Laws.AppendOwn
import Derived.Laws.AppendOwnNone
import Derived.Laws.OwnMore
import Derived.Deep.DeepCutAuto


/- Slices of numbers in memory, kept by whatever only makes new blocks. -/
namespace Go.Mem
open Go.RowKit

/-- Whatever lay in W lies in W'. -/
def Ext (W W' : World) : Prop := Below W.heap.size W W'
theorem Ext.refl (W : World) : Ext W W := Below.refl _ _
theorem Ext.trans {a b c : World} (h : Ext a b) (k : Ext b c) : Ext a c := Below.trans h (Below.mono k h.size)
theorem Ext.alloc (W : World) (o : Obj) : Ext W (W.alloc o) := (Below.refl _ _).alloc (Nat.le_refl _) _
theorem Ext.drew (W : World) : Ext W W.drew := (Below.refl _ _).drew
theorem Ext.drewN (W : World) (n : Nat) : Ext W (W.drewN n) := ⟨rfl, rfl, rfl, Nat.le_refl _, fun _ _ => rfl⟩
theorem Ext.cell {W W' : World} (h : Ext W W') {p : Addr} {v : Value} (hc : W.cell? p = some v) : W'.cell? p = some v := by
  refine (Below.cell h ?_).trans hc
  rcases Nat.lt_or_ge p.block W.heap.size with h1 | h1
  · exact h1
  · exfalso
    unfold World.cell? at hc
    rw [Array.getElem?_eq_none h1] at hc
    cases hc
theorem Ext.below {B : Nat} {a W W' : World} (h : Below B a W) (k : Ext W W') (hB : B ≤ W.heap.size) : Below B a W' := h.trans (Below.mono k hB)
theorem lt_of_cell {W : World} {p : Addr} {v : Value} (hc : W.cell? p = some v) : p.block < W.heap.size := by
  rcases Nat.lt_or_ge p.block W.heap.size with h1 | h1
  · exact h1
  · exfalso
    unfold World.cell? at hc
    rw [Array.getElem?_eq_none h1] at hc
    cases hc
theorem Ext.free {W W' : World} (h : Ext W W') {p : Addr} (hp : p.block < W.heap.size) (hf : W.frozen? p = false) : W'.frozen? p = false := (Below.frozen h hp).trans hf
theorem Ext.lt {W W' : World} (h : Ext W W') {k : Nat} (hk : k < W.heap.size) : k < W'.heap.size := Nat.lt_of_lt_of_le hk h.size
theorem Ext.grownBy {W a w' : World} {row : Option Nat} (h : Ext W a) (hg : a.grownBy w' row) (hr : ∀ g, row = some g → W.heap.size ≤ g) : Ext W w' := Below.grown h hg h.size hr
theorem Ext.set {W a : World} (h : Ext W a) {p : Addr} (hp : W.heap.size ≤ p.block) (u : Value) : Ext W (a.setCell p u) := Below.setCell h hp u

/-- Block g holds just these cells, all of them free. -/
def Blk (W : World) (g : Nat) (t : TypeId) (cs : Array Value) : Prop := W.heap[g]? = some (.cells cs t (0, 0))
theorem Blk.lt {W : World} {g : Nat} {t : TypeId} {cs : Array Value} (h : Blk W g t cs) : g < W.heap.size := (Array.getElem?_eq_some_iff.1 h).1
theorem Blk.new (W : World) (t : TypeId) (cs : Array Value) : Blk (W.alloc (.cells cs t)) W.heap.size t cs := heap_alloc_new W _
theorem Blk.newAt (W : World) (t : TypeId) (cs : Array Value) {g : Nat} (h : g = W.heap.size) : Blk (W.alloc (.cells cs t)) g t cs := h ▸ heap_alloc_new W _
theorem Blk.cell {W : World} {g : Nat} {t : TypeId} {cs : Array Value} (h : Blk W g t cs) (i : Nat) : W.cell? ⟨g, i, none⟩ = cs[i]? := cell_of_row W g i cs t (0, 0) h
theorem Blk.free {W : World} {g : Nat} {t : TypeId} {cs : Array Value} (h : Blk W g t cs) (i : Nat) : W.frozen? ⟨g, i, none⟩ = false := by
  unfold Blk at h
  simp [World.frozen?, h]
theorem Blk.alloc {W : World} {g : Nat} {t : TypeId} {cs : Array Value} (h : Blk W g t cs) (o : Obj) : Blk (W.alloc o) g t cs := (Below.heap_alloc W o g h.lt).trans h
theorem Blk.drew {W : World} {g : Nat} {t : TypeId} {cs : Array Value} (h : Blk W g t cs) : Blk W.drew g t cs := h
theorem Blk.ext {W W' : World} {g : Nat} {t : TypeId} {cs : Array Value} (h : Blk W g t cs) (e : Ext W W') : Blk W' g t cs := (e.block g h.lt).trans h
theorem Blk.setOther {W : World} {g : Nat} {t : TypeId} {cs : Array Value} (h : Blk W g t cs) {p : Addr} (hp : g ≠ p.block) (u : Value) : Blk (W.setCell p u) g t cs := (Below.heap_setCell W p u g hp).trans h
theorem Blk.setSame {W : World} {g : Nat} {t : TypeId} {cs : Array Value} (h : Blk W g t cs) (i : Nat) (u : Value) : Blk (W.setCell ⟨g, i, none⟩ u) g t (cs.setIfInBounds i u) := by
  unfold Blk at h ⊢
  simp [World.setCell, Array.getElem?_modify, h]
/-- A slice value that reads as a list of numbers. -/
def IntsAt (W : World) (v : Value) (xs : List Int) : Prop :=
  (∃ ao cap, v = .slice ao 0 cap ∧ xs = []) ∨
  ∃ b o cap, v = .slice (some ⟨b, o, none⟩) xs.length cap ∧ b < W.heap.size ∧ xs.length ≤ 1152921504606846976 ∧ ∀ i, i < xs.length → W.cell? ⟨b, o + i, none⟩ = some (.int .i64 (xs.getD i 0))
theorem IntsAt.ext {W W' : World} {v : Value} {xs : List Int} (h : IntsAt W v xs) (k : Ext W W') : IntsAt W' v xs := by
  rcases h with h | ⟨b, o, cap, hv, hb, hl, hc⟩
  · exact .inl h
  · exact .inr ⟨b, o, cap, hv, Nat.lt_of_lt_of_le hb k.size, hl, fun i hi => k.cell (hc i hi)⟩
theorem ints_new (W : World) (xs : List Int) (T : TypeId) (h : xs.length ≤ 1152921504606846976) : IntsAt (W.alloc (.cells (xs.map (Value.int .i64)).toArray T)) (.slice (some ⟨W.heap.size, 0, none⟩) xs.length xs.length) xs := by
  refine .inr ⟨W.heap.size, 0, xs.length, rfl, by simp, h, fun i hi => ?_⟩
  simp [hi]

/-- The slice at A of these rows, k cells each. -/
def RowsAt {α : Type} (k : Nat) (enc : α → List Value) (W : World) (A : Option Addr) (xs : List α) : Prop :=
  xs.length ≤ 1152921504606846976 ∧ ∀ i x, xs[i]? = some x → ∃ b o, A = some ⟨b, o, none⟩ ∧ b < W.heap.size ∧ ∀ j u, (enc x)[j]? = some u → W.cell? ⟨b, o + i * k + j, none⟩ = some u
theorem RowsAt.ext {α : Type} {k : Nat} {enc : α → List Value} {W W' : World} {A : Option Addr} {xs : List α} (h : RowsAt k enc W A xs) (e : Ext W W') : RowsAt k enc W' A xs :=
  ⟨h.1, fun i x hx => by
    obtain ⟨b, o, hA, hb, hc⟩ := h.2 i x hx
    exact ⟨b, o, hA, Nat.lt_of_lt_of_le hb e.size, fun j u hu => e.cell (hc j u hu)⟩⟩

end Go.Mem

/- A region that draws its order, whose operations read, make new memory and call: each slot gets a predicate that later steps keep; one look at each operation serves every order. -/
namespace Go.RegInv

variable {P : Program} {Le : World → World → Prop} {F : World → Prop} {Ψ : Tmp → Value → World → Prop}

def RelUpon (P : Program) (Le : World → World → Prop) (Φ : Value → World → Prop) (W : World) : Result Next → Prop
  | .ok (.value v) W' => Le W W' ∧ Φ v W'
  | .ok .skip W' => Le W W' ∧ Φ undef W'
  | .ok (.enter f args) W' => Calls P f args W' fun e W'' => ∃ v, e = .returned v ∧ Le W W'' ∧ Φ v W''
  | _ => False

theorem RelUpon_value {Φ : Value → World → Prop} {W W' : World} (v : Value) : RelUpon P Le Φ W (.ok (.value v) W') = (Le W W' ∧ Φ v W') := rfl
theorem RelUpon_skip {Φ : Value → World → Prop} {W W' : World} : RelUpon P Le Φ W (.ok .skip W') = (Le W W' ∧ Φ undef W') := rfl
theorem RelUpon_enter {Φ : Value → World → Prop} {W W' : World} (f : FuncId) (args : Array Value) :
    RelUpon P Le Φ W (.ok (.enter f args) W') = Calls P f args W' fun e W'' => ∃ v, e = .returned v ∧ Le W W'' ∧ Φ v W'' := rfl

def dsts (ops : Array Oper) : List Tmp := ops.toList.filterMap (·.dst)

def slot (ds : List Tmp) (Ψ : Tmp → Value → World → Prop) (a0 : Act) (t : Tmp) (v : Value) (W : World) : Prop :=
  if ds.contains t then Ψ t v W else v = a0.eval (.tmp t)

def slots (ds : List Tmp) (Ψ : Tmp → Value → World → Prop) (a0 : Act) (A : Act) (W : World) : List Tmp → Prop
  | [] => True
  | t :: ts => slot ds Ψ a0 t (A.eval (.tmp t)) W ∧ slots ds Ψ a0 A W ts

theorem slots_of {ds : List Tmp} {a0 A : Act} {W : World} : ∀ {ts : List Tmp}, (∀ t ∈ ts, slot ds Ψ a0 t (A.eval (.tmp t)) W) → slots ds Ψ a0 A W ts
  | [], _ => trivial
  | t :: _, h => ⟨h t (by simp), slots_of fun u hu => h u (by simp [hu])⟩

def dstPost (Ψ : Tmp → Value → World → Prop) (o : Oper) (v : Value) (W : World) : Prop :=
  match o.dst with
  | some t => Ψ t v W
  | none => True

/-- What is asked of one operation. -/
def Obl (P : Program) (Le : World → World → Prop) (F : World → Prop) (ds : List Tmp) (Ψ : Tmp → Value → World → Prop) (a0 : Act) (ops : Array Oper) (o : Oper) (ts : List Tmp) : Prop :=
  ∀ (A : Act) (W : World), F W → slots ds Ψ a0 A W ts →
    (Region.wanted o (yielded ops A.tmps) = true → RelUpon P Le (dstPost Ψ o) W ((execOp A.eval o).run P W)) ∧
    (Region.wanted o (yielded ops A.tmps) = false → dstPost Ψ o undef W)

def Obls (P : Program) (Le : World → World → Prop) (F : World → Prop) (ds : List Tmp) (Ψ : Tmp → Value → World → Prop) (a0 : Act) (ops : Array Oper) : List Oper → List (List Tmp) → Prop
  | [], _ => True
  | o :: l, ts => Obl P Le F ds Ψ a0 ops o (ts.headD []) ∧ Obls P Le F ds Ψ a0 ops l ts.tail

theorem obls_at {ds : List Tmp} {a0 : Act} {ops : Array Oper} : ∀ {l : List Oper} {ts : List (List Tmp)}, Obls P Le F ds Ψ a0 ops l ts → ∀ {i : Nat} {o : Oper}, l[i]? = some o →
    Obl P Le F ds Ψ a0 ops o (ts.getD i [])
  | o' :: _, ts, h, 0, o, hi => by
    have h2 : o' = o := by simpa using hi
    subst h2
    have e : ts.headD [] = ts.getD 0 [] := by cases ts <;> rfl
    rw [← e]; exact h.1
  | _ :: _, ts, h, i + 1, o, hi => by
    have := obls_at h.2 (i := i) (o := o) (by simpa using hi)
    have e : ts.tail.getD i [] = ts.getD (i + 1) [] := by cases ts <;> simp
    rw [← e]; exact this
  | [], _, _, _, _, hi => by simp at hi

/-- Each slot is written once and lies in the frame; who reads a slot that the region writes waits for its writer; edges lead back. -/
def depsB (n : Nat) (ops : Array Oper) : Bool :=
  (List.range ops.size).all fun i => match ops[i]? with
    | none => true
    | some o =>
      (match o.dst with
        | none => true
        | some t => decide (t < n) && (List.range ops.size).all fun j => j == i || ((ops[j]?).bind (·.dst)) != some t) &&
      ((o.looksAt ops).all fun t => (List.range ops.size).all fun j => ((ops[j]?).bind (·.dst)) != some t || o.after.any fun e => Region.binds .any e && e.on == j) &&
      o.after.all fun e => !Region.binds .any e || decide (e.on < i)

section
variable {n : Nat} {ops : Array Oper}
theorem depsB_at (h : depsB n ops = true) {i : Nat} {o : Oper} (hi : ops[i]? = some o) :
    (∀ t, o.dst = some t → t < n ∧ ∀ j oj, ops[j]? = some oj → oj.dst = some t → j = i) ∧
    (∀ t ∈ o.looksAt ops, ∀ j oj, ops[j]? = some oj → oj.dst = some t → ∃ e ∈ o.after, Region.binds .any e = true ∧ e.on = j) ∧
    (∀ e ∈ o.after, Region.binds .any e = true → e.on < i) := by
  have hlt : i < ops.size := (Array.getElem?_eq_some_iff.1 hi).1
  unfold depsB at h
  rw [List.all_eq_true] at h
  have h1 := h i (List.mem_range.2 hlt)
  simp only [hi, Bool.and_eq_true] at h1
  obtain ⟨⟨ha, hb⟩, hc⟩ := h1
  refine ⟨fun t ht => ?_, fun t ht j oj hj hd => ?_, fun e he hbd => ?_⟩
  · simp only [ht, Bool.and_eq_true, decide_eq_true_eq, List.all_eq_true, List.mem_range, Bool.or_eq_true, beq_iff_eq, bne_iff_ne] at ha
    refine ⟨ha.1, fun j oj hj hd => ?_⟩
    rcases ha.2 j (Array.getElem?_eq_some_iff.1 hj).1 with h2 | h2
    · exact h2
    · exact absurd (by simp [hj, hd]) h2
  · rw [List.all_eq_true] at hb
    have h2 := hb t ht
    rw [List.all_eq_true] at h2
    have h3 := h2 j (List.mem_range.2 (Array.getElem?_eq_some_iff.1 hj).1)
    simp only [hj, Option.bind_some, hd, bne_self_eq_false, Bool.false_or] at h3
    obtain ⟨e, he, h4⟩ := Array.any_eq_true'.1 h3
    simp only [Bool.and_eq_true, beq_iff_eq] at h4
    exact ⟨e, he, h4.1, h4.2⟩
  · have h2 := Array.all_eq_true_iff_forall_mem.1 hc e he
    simp only [hbd, Bool.not_true, Bool.false_or, decide_eq_true_eq] at h2
    exact h2

structure Good (F : World → Prop) (Ψ : Tmp → Value → World → Prop) (a0 : Act) (ops : Array Oper) (listed : Array Bool) (a : Act) (W : World) : Prop where
  defers : a.defers = a0.defers
  size : a.tmps.size = a0.tmps.size
  base : F W
  done : ∀ i o t, ops[i]? = some o → o.dst = some t → listed.getD i false = true → Ψ t (a.eval (.tmp t)) W
  other : ∀ t, (∀ i o, ops[i]? = some o → o.dst = some t → listed.getD i false = false) → a.eval (.tmp t) = a0.eval (.tmp t)

theorem mem_dsts {t : Tmp} : t ∈ dsts ops ↔ ∃ (i : Nat) (o : Oper), ops[i]? = some o ∧ o.dst = some t := by
  unfold dsts
  rw [List.mem_filterMap]
  constructor
  · rintro ⟨o, ho, hd⟩
    obtain ⟨i, hi, he⟩ := Array.mem_iff_getElem.1 (Array.mem_toList_iff.1 ho)
    exact ⟨i, o, by rw [Array.getElem?_eq_getElem hi, he], hd⟩
  · rintro ⟨i, o, hi, hd⟩
    exact ⟨o, Array.mem_toList_iff.2 (Array.mem_of_getElem? hi), hd⟩

theorem eval_put_same (a : Act) {t : Tmp} (ht : t < a.tmps.size) (v : Value) : (a.put (some t) v).eval (.tmp t) = v := by
  simp [Act.eval, Act.put, ht]
theorem eval_put_other (a : Act) {t u : Tmp} (h : t ≠ u) (v : Value) : (a.put (some t) v).eval (.tmp u) = a.eval (.tmp u) :=
  Act.eval_put fun d hd e => by simp at hd e; exact h (by rw [hd, e])

theorem listed_of_ne {listed : Array Bool} {i j : Nat} (h : i ≠ j) : (listed.setIfInBounds i true).getD j false = listed.getD j false := getD_set_ne false h

/-- One operation that may come up. -/
theorem good_step {a0 : Act} {listed : Array Bool} {a : Act} {W : World} {Q : Exit → Act → World → Prop} {K : Act → World → Prop} {i : Nat} {o : Oper} {ts : List Tmp}
    (hB : depsB a0.tmps.size ops = true) (hls : listed.size = ops.size) (hF : ∀ W W', F W → Le W W' → F W') (hΨ : ∀ t v W W', F W → Le W W' → Ψ t v W → Ψ t v W')
    (hi : ops[i]? = some o) (hr : i ∈ Region.ready .any ops listed) (hts : o.looksAt ops = ts) (ho : Obl P Le F (dsts ops) Ψ a0 ops o ts) (hrefl : ∀ W, F W → Le W W)
    (hg : Good F Ψ a0 ops listed a W) (hK : ∀ a' W', Good F Ψ a0 ops (listed.setIfInBounds i true) a' W' → K a' W') : wpOp P ops Q i K a W := by
  obtain ⟨hd1, hd2, hd3⟩ := depsB_at hB hi
  obtain ⟨hun, o', ho', hall⟩ := mem_ready.1 hr
  rw [hi] at ho'
  obtain rfl : o = o' := by simpa using ho'
  have hlt : i < ops.size := (Array.getElem?_eq_some_iff.1 hi).1
  have hun' : listed.getD i false = false := by
    have : i < listed.size := by omega
    simp [this] at hun ⊢
    exact hun
  -- the slots that are read
  have hsl : slots (dsts ops) Ψ a0 a W ts := slots_of fun t ht => by
    unfold slot
    split
    · rename_i hc
      obtain ⟨j, oj, hj, hdj⟩ := mem_dsts.1 (by simpa using hc)
      obtain ⟨e, he, hb, hon⟩ := hd2 t (by rw [hts]; exact ht) j oj hj hdj
      have hl := hall e he hb
      rw [hon] at hl
      exact hg.done j oj t hj hdj hl
    · rename_i hc
      refine hg.other t fun j oj hj hdj => absurd ?_ hc
      simpa using mem_dsts.2 ⟨j, oj, hj, hdj⟩
  obtain ⟨hyes, hno⟩ := ho a W hg.base hsl
  -- what a value does
  have put : ∀ (v : Value) (W' : World), Le W W' → dstPost Ψ o v W' → Good F Ψ a0 ops (listed.setIfInBounds i true) (a.put o.dst v) W' := by
    intro v W' hle hv
    have hbase := hF _ _ hg.base hle
    cases hdst : o.dst with
    | none =>
      refine ⟨hg.defers, hg.size, hbase, fun j oj t hj hdj hl => ?_, fun t ht => hg.other t fun j oj hj hdj => ?_⟩
      · have hne : i ≠ j := by
          rintro rfl
          rw [hi] at hj
          obtain rfl : o = oj := by simpa using hj
          rw [hdst] at hdj; cases hdj
        rw [listed_of_ne hne] at hl
        exact hΨ _ _ _ _ hg.base hle (hg.done j oj t hj hdj hl)
      · have := ht j oj hj hdj
        have hne : i ≠ j := by
          rintro rfl
          rw [hi] at hj
          obtain rfl : o = oj := by simpa using hj
          rw [hdst] at hdj; cases hdj
        rwa [listed_of_ne hne] at this
    | some d =>
      obtain ⟨hdn, huniq⟩ := hd1 d hdst
      have hda : d < a.tmps.size := by rw [hg.size]; exact hdn
      refine ⟨hg.defers, by simp [Act.put, hg.size], hbase, fun j oj t hj hdj hl => ?_, fun t ht => ?_⟩
      · by_cases hne : i = j
        · subst hne
          rw [hi] at hj
          obtain rfl : o = oj := by simpa using hj
          rw [hdst] at hdj
          obtain rfl : d = t := by simpa using hdj
          rw [eval_put_same a hda]
          simpa [dstPost, hdst] using hv
        · rw [listed_of_ne hne] at hl
          have htd : d ≠ t := by
            rintro rfl
            exact hne (huniq j oj hj hdj).symm
          rw [eval_put_other a htd]
          exact hΨ _ _ _ _ hg.base hle (hg.done j oj t hj hdj hl)
      · have htd : d ≠ t := by
          rintro rfl
          have := ht i o hi hdst
          simp [hls, hlt] at this
        rw [eval_put_other a htd]
        refine hg.other t fun j oj hj hdj => ?_
        have h2 := ht j oj hj hdj
        have hne : i ≠ j := by
          rintro rfl
          rw [hi] at hj
          obtain rfl : o = oj := by simpa using hj
          rw [hdst] at hdj
          exact htd (by simpa using hdj)
        rwa [listed_of_ne hne] at h2
  unfold wpOp
  simp only [hi]
  split
  · rename_i hw
    refine .inl ?_
    have h1 := hyes hw
    unfold Oper.wp
    generalize (execOp a.eval o).run P W = r at h1
    cases r with
    | ok nx W' =>
      cases nx <;> simp only [RelUpon] at h1 <;> simp only [Oper.upon]
      case value v => exact hK _ _ (put v W' h1.1 h1.2)
      case skip => exact hK _ _ (put undef W' h1.1 h1.2)
      case enter f args =>
        refine Calls.mono h1 ?_
        rintro e W'' ⟨v, rfl, hle, hv⟩
        exact hK _ _ (put v W'' hle hv)
    | halt x W' => simp only [RelUpon] at h1
  · rename_i hw
    have hw' : Region.wanted o (yielded ops a.tmps) = false := by simpa using hw
    exact hK _ _ (put undef W (hrefl W hg.base) (hno hw'))

def unl (l : Array Bool) : Nat → Nat
  | 0 => 0
  | n + 1 => unl l n + if l.getD n true then 0 else 1

theorem unl_set {l : Array Bool} {i : Nat} (hl : l.getD i true = false) (his : i < l.size) : ∀ {n : Nat}, i < n → unl l n = unl (l.setIfInBounds i true) n + 1
  | n + 1, h => by
    unfold unl
    by_cases hin : i = n
    · subst hin
      have e1 : ∀ m, m ≤ i → unl (l.setIfInBounds i true) m = unl l m := by
        intro m
        induction m with
        | zero => intro _; rfl
        | succ m ih =>
          intro hm
          unfold unl
          rw [ih (by omega), getD_set_ne true (by omega)]
      rw [e1 i (Nat.le_refl _), hl]
      have : (l.setIfInBounds i true).getD i true = true := by simp
      rw [this]
      simp
    · have := unl_set hl his (n := n) (by omega)
      rw [this, getD_set_ne true hin]
      omega

theorem unl_zero {l : Array Bool} : ∀ {n : Nat}, unl l n = 0 → ∀ i, i < n → l.getD i true = true
  | n + 1, h, i, hi => by
    unfold unl at h
    by_cases hin : i = n
    · subst hin
      by_cases hc : l.getD i true = true
      · exact hc
      · simp [hc] at h
    · exact unl_zero (n := n) (by omega) i (by omega)

/-- All have come up when none is ready. -/
theorem all_listed {listed : Array Bool} (hB : depsB n ops = true) (hls : listed.size = ops.size) (hr : Region.ready .any ops listed = []) : ∀ i, i < ops.size → listed.getD i false = true := by
  intro i
  induction i using Nat.strongRecOn with
  | ind i ih =>
    intro hi
    by_cases hc : listed.getD i false = true
    · exact hc
    · exfalso
      have hm : i ∈ Region.ready .any ops listed := by
        refine mem_ready.2 ⟨?_, ops[i], Array.getElem?_eq_getElem hi, fun e he hb => ih e.on ((depsB_at hB (Array.getElem?_eq_getElem hi)).2.2 e he hb) ?_⟩
        · have : i < listed.size := by omega
          simp [this] at hc ⊢
          exact hc
        · exact Nat.lt_trans ((depsB_at hB (Array.getElem?_eq_getElem hi)).2.2 e he hb) hi
      rw [hr] at hm
      cases hm

def fin (a0 : Act) (ds : List Tmp) (f : Tmp → Value) : Act := { tmps := ds.foldl (fun m t => m.setIfInBounds t (f t)) a0.tmps, defers := a0.defers }

theorem foldl_set_size (f : Tmp → Value) : ∀ (ds : List Tmp) (m : Array Value), (ds.foldl (fun m t => m.setIfInBounds t (f t)) m).size = m.size
  | [], _ => rfl
  | d :: ds, m => by rw [List.foldl_cons, foldl_set_size f ds]; simp

theorem foldl_set_at (f : Tmp → Value) : ∀ (ds : List Tmp) (m : Array Value) (t : Tmp), t < m.size → (ds.foldl (fun m t => m.setIfInBounds t (f t)) m).getD t undef = if t ∈ ds then f t else m.getD t undef
  | [], _, _, _ => by simp
  | d :: ds, m, t, ht => by
    rw [List.foldl_cons, foldl_set_at f ds _ t (by simpa using ht)]
    by_cases h1 : t ∈ ds
    · simp [h1]
    · by_cases h2 : t = d
      · subst h2; simp [h1, ht]
      · simp [h1, h2, Array.getElem?_setIfInBounds_ne (Ne.symm h2)]

theorem act_fin {a a0 : Act} {ds : List Tmp} (hd : a.defers = a0.defers) (hs : a.tmps.size = a0.tmps.size) (ho : ∀ t, t ∉ ds → a.eval (.tmp t) = a0.eval (.tmp t)) :
    a = fin a0 ds (fun t => a.eval (.tmp t)) := by
  obtain ⟨tm, df⟩ := a
  obtain ⟨tm0, df0⟩ := a0
  simp only at hd hs
  subst hd
  unfold fin
  congr 1
  apply Array.ext
  · rw [foldl_set_size]; exact hs
  · intro t h1 h2
    have h3 : t < tm0.size := by omega
    have h4 := foldl_set_at (fun t => ({ tmps := tm, defers := df } : Act).eval (.tmp t)) ds tm0 t h3
    have h5 : (ds.foldl (fun m t => m.setIfInBounds t (({ tmps := tm, defers := df } : Act).eval (.tmp t))) tm0).getD t undef = tm.getD t undef := by
      rw [h4]
      by_cases h6 : t ∈ ds
      · simp [h6, Act.eval]
      · have := ho t h6
        simp only [Act.eval] at this
        simp [h6, this]
    simp only [Array.getD_eq_getD_getElem?, Array.getElem?_eq_getElem h1, Array.getElem?_eq_getElem h2, Option.getD_some] at h5
    exact h5.symm

/-- **EVERY ORDER AT ONCE.** -/
theorem wp_region_inv {id : Nat} {Q : Exit → Act → World → Prop} {a : Act} {w : World} {l : List Oper} (ds : List Tmp) (ts : List (List Tmp))
    (hm : P.follows .mixedOrders = true) (hB : depsB a.tmps.size l.toArray = true) (hds : dsts l.toArray = ds) (hts : l.map (·.looksAt l.toArray) = ts)
    (Le : World → World → Prop) (F : World → Prop) (Ψ : Tmp → Value → World → Prop)
    (hrefl : ∀ W, F W → Le W W) (hF : ∀ W W', F W → Le W W' → F W') (hΨ : ∀ t v W W', F W → Le W W' → Ψ t v W → Ψ t v W')
    (h0 : F w.drew) (hO : Obls P Le F ds Ψ a l.toArray l ts)
    (hend : ∀ (f : Tmp → Value) (W : World), F W → (∀ t ∈ ds, Ψ t (f t) W) → Q .normal (fin a ds f) W) : (Code.region id l.toArray true).wp P Q a w := by
  subst hds
  refine wp_region_any hm ?_
  have hend' : ∀ (listed : Array Bool) (a' : Act) (W : World), (∀ i, i < l.toArray.size → listed.getD i false = true) → Good F Ψ a l.toArray listed a' W → Q .normal a' W := by
    intro listed a' W hall hg
    have hall' : ∀ i o, l.toArray[i]? = some o → listed.getD i false = true := fun i o hi => hall i (Array.getElem?_eq_some_iff.1 hi).1
    rw [act_fin (a := a') (a0 := a) (ds := dsts l.toArray) hg.defers hg.size (fun t ht => hg.other t fun i o hi hd => absurd (mem_dsts.2 ⟨i, o, hi, hd⟩) ht)]
    refine hend _ W hg.base fun t ht => ?_
    obtain ⟨i, o, hi, hd⟩ := mem_dsts.1 ht
    exact hg.done i o t hi hd (hall' i o hi)
  have main : ∀ (fuel : Nat) (listed : Array Bool) (a' : Act) (W : World), listed.size = l.toArray.size → unl listed l.toArray.size = fuel → Good F Ψ a l.toArray listed a' W →
      wpAny P .any l.toArray Q fuel listed a' W := by
    intro fuel
    induction fuel with
    | zero =>
      intro listed a' W hls hu hg
      have hall := unl_zero hu
      have hr : Region.ready .any l.toArray listed = [] := by
        rw [List.eq_nil_iff_forall_not_mem]
        intro i hi
        obtain ⟨h1, o, ho, _⟩ := mem_ready.1 hi
        rw [hall i (Array.getElem?_eq_some_iff.1 ho).1] at h1
        cases h1
      exact ⟨hr, hend' listed a' W (all_listed hB hls hr) hg⟩
    | succ fuel ih =>
      intro listed a' W hls hu hg
      refine ⟨fun hr => hend' listed a' W (all_listed hB hls hr) hg, fun i hi => ?_⟩
      obtain ⟨hun, o, ho, _⟩ := mem_ready.1 hi
      have hlt : i < l.toArray.size := (Array.getElem?_eq_some_iff.1 ho).1
      have hlo : l[i]? = some o := by simpa using ho
      refine good_step (ts := o.looksAt l.toArray) hB hls hF hΨ ho hi rfl ?_ hrefl hg (fun a'' W'' hg' => ih _ a'' W'' (by simpa using hls) ?_ hg')
      · have := obls_at hO hlo
        rw [← hts] at this
        have e : (l.map (·.looksAt l.toArray)).getD i [] = o.looksAt l.toArray := by
          rw [List.getD_eq_getElem?_getD, List.getElem?_map, hlo]; rfl
        rwa [e] at this
      · have := unl_set (l := listed) (i := i) hun (by omega) hlt
        omega
  have hcount : ∀ n : Nat, n ≤ l.toArray.size → unl (Array.replicate l.toArray.size false) n = n := by
    intro n
    induction n with
    | zero => intro _; rfl
    | succ n ih =>
      intro hn
      unfold unl
      rw [ih (by omega)]
      have h3 : n < l.length := by simp only [List.size_toArray] at hn; omega
      have : (Array.replicate l.toArray.size false).getD n true = false := by simp [h3]
      rw [this]; simp
  exact main _ _ a w.drew (by simp) (hcount _ (Nat.le_refl _)) ⟨rfl, rfl, h0, fun i o t hi _ hl => by
    have h3 : i < l.length := by have := (Array.getElem?_eq_some_iff.1 hi).1; simpa using this
    simp [h3] at hl, fun t _ => rfl⟩

/-! The predicates as a list beside the operations. -/

def look : List (Option Tmp) → List (Value → World → Prop) → Nat → Option (Value → World → Prop)
  | some d :: ds, φ :: φs, t => bif Nat.beq d t then some φ else look ds φs t
  | none :: ds, _ :: φs, t => look ds φs t
  | _, _, _ => none

def slotAt (ds : List (Option Tmp)) (φs : List (Value → World → Prop)) (a0 : Act) (t : Tmp) (v : Value) (W : World) : Prop :=
  match look ds φs t with
  | some φ => φ v W
  | none => v = a0.eval (.tmp t)

/-- What operands read as, whatever the frame. -/
structure Std (ρ : Operand → Value) : Prop where
  const : ∀ v, ρ (.const v) = v
  global : ∀ g, ρ (.global g) = .pointer (some ⟨g, 0, none⟩)
  func : ∀ f, ρ (.func f) = .func (.func f) #[] #[]
theorem Std.eval (A : Act) : Std A.eval := ⟨fun _ => rfl, fun _ => rfl, fun _ => rfl⟩

def slotsAt (ds : List (Option Tmp)) (φs : List (Value → World → Prop)) (a0 : Act) (ρ : Operand → Value) (W : World) : List Tmp → Prop
  | [] => True
  | t :: ts => slotAt ds φs a0 t (ρ (.tmp t)) W ∧ slotsAt ds φs a0 ρ W ts

def Asks (P : Program) (Le : World → World → Prop) (F : World → Prop) (ds : List (Option Tmp)) (φs : List (Value → World → Prop)) (a0 : Act) : List Oper → List (Value → World → Prop) → List (List Tmp) → Prop
  | o :: l, φ :: rest, t :: ts => (∀ (ρ : Operand → Value) (W : World), Std ρ → F W → slotsAt ds φs a0 ρ W t → RelUpon P Le φ W ((execOp ρ o).run P W)) ∧ Asks P Le F ds φs a0 l rest ts
  | [], _, _ => True
  | _, _, _ => False

def Ends (f : Tmp → Value) (W : World) : List (Option Tmp) → List (Value → World → Prop) → Prop
  | some d :: ds, φ :: φs => φ (f d) W ∧ Ends f W ds φs
  | none :: ds, _ :: φs => Ends f W ds φs
  | _, _ => True

def Keeps (Le : World → World → Prop) (F : World → Prop) : List (Value → World → Prop) → Prop
  | [] => True
  | φ :: φs => (∀ v W W', F W → Le W W' → φ v W → φ v W') ∧ Keeps Le F φs

theorem look_keeps : ∀ {ds : List (Option Tmp)} {φs : List (Value → World → Prop)} {t : Nat} {φ : Value → World → Prop}, Keeps Le F φs → look ds φs t = some φ → ∀ v W W', F W → Le W W' → φ v W → φ v W'
  | some d :: ds, φ' :: φs, t, φ, hk, h => by
    unfold look at h
    cases hb : Nat.beq d t
    · rw [hb] at h; exact look_keeps hk.2 h
    · rw [hb] at h
      obtain rfl : φ' = φ := by simpa using h
      exact hk.1
  | none :: ds, _ :: φs, t, φ, hk, h => look_keeps (ds := ds) hk.2 h
  | [], φs, _, _, _, h => by cases φs <;> cases h
  | some _ :: _, [], _, _, _, h => by cases h
  | none :: _, [], _, _, _, h => by cases h

theorem look_at : ∀ {ds : List (Option Tmp)} {φs : List (Value → World → Prop)} {i t : Nat} {φ : Value → World → Prop}, ds[i]? = some (some t) → φs[i]? = some φ → (∀ j, ds[j]? = some (some t) → j = i) → look ds φs t = some φ
  | some d :: ds, φ' :: φs, 0, t, φ, h1, h2, _ => by
    obtain rfl : d = t := by simpa using h1
    obtain rfl : φ' = φ := by simpa using h2
    unfold look
    have : Nat.beq d d = true := Nat.beq_refl d
    rw [this]; rfl
  | some d :: ds, φ' :: φs, i + 1, t, φ, h1, h2, hu => by
    unfold look
    have hne : Nat.beq d t = false := by
      cases hb : Nat.beq d t
      · rfl
      · have e : d = t := Nat.eq_of_beq_eq_true hb
        have := hu 0 (by rw [e]; rfl)
        omega
    rw [hne]
    exact look_at (ds := ds) (φs := φs) (i := i) (by simpa using h1) (by simpa using h2) (fun j hj => by have := hu (j + 1) (by simpa using hj); omega)
  | none :: ds, _ :: φs, 0, t, φ, h1, _, _ => by simp at h1
  | none :: ds, _ :: φs, i + 1, t, φ, h1, h2, hu => by
    unfold look
    exact look_at (ds := ds) (φs := φs) (i := i) (by simpa using h1) (by simpa using h2) (fun j hj => by have := hu (j + 1) (by simpa using hj); omega)
  | [], _, _, _, _, h1, _, _ => by simp at h1
  | _ :: _, [], _, _, _, _, h2, _ => by simp at h2

theorem ends_of {f : Tmp → Value} {W : World} : ∀ {ds : List (Option Tmp)} {φs : List (Value → World → Prop)}, (∀ (i : Nat) (t : Tmp) (φ : Value → World → Prop), ds[i]? = some (some t) → φs[i]? = some φ → φ (f t) W) → Ends f W ds φs
  | some d :: ds, φ :: φs, h => ⟨h 0 d φ rfl rfl, ends_of fun i t φ' h1 h2 => h (i + 1) t φ' (by simpa using h1) (by simpa using h2)⟩
  | none :: ds, _ :: φs, h => ends_of (ds := ds) (φs := φs) fun i t φ' h1 h2 => h (i + 1) t φ' (by simpa using h1) (by simpa using h2)
  | [], φs, _ => by cases φs <;> trivial
  | some _ :: _, [], _ => trivial
  | none :: _, [], _ => trivial

theorem asks_at {ds : List (Option Tmp)} {φs : List (Value → World → Prop)} {a0 : Act} : ∀ {l : List Oper} {rest : List (Value → World → Prop)} {ts : List (List Tmp)}, Asks P Le F ds φs a0 l rest ts → ∀ {i : Nat} {o : Oper}, l[i]? = some o →
    ∃ φ t, rest[i]? = some φ ∧ ts[i]? = some t ∧ ∀ (ρ : Operand → Value) (W : World), Std ρ → F W → slotsAt ds φs a0 ρ W t → RelUpon P Le φ W ((execOp ρ o).run P W)
  | o' :: _, φ :: _, t :: _, h, 0, o, hi => by
    obtain rfl : o' = o := by simpa using hi
    exact ⟨φ, t, rfl, rfl, h.1⟩
  | _ :: _, _ :: _, _ :: _, h, i + 1, o, hi => by
    obtain ⟨φ, t, h1, h2, h3⟩ := asks_at h.2 (i := i) (o := o) (by simpa using hi)
    exact ⟨φ, t, by simpa using h1, by simpa using h2, h3⟩
  | [], _, _, _, _, _, hi => by simp at hi
  | _ :: _, [], _, h, _, _, _ => h.elim
  | _ :: _, _ :: _, [], h, _, _, _ => h.elim

theorem obls_of {ds : List Tmp} {a0 : Act} {ops : Array Oper} : ∀ {l : List Oper} {ts : List (List Tmp)}, (∀ (i : Nat) (o : Oper), l[i]? = some o → Obl P Le F ds Ψ a0 ops o (ts.getD i [])) → Obls P Le F ds Ψ a0 ops l ts
  | [], _, _ => trivial
  | o :: l, ts, h => by
    refine ⟨?_, obls_of fun i o' hi => ?_⟩
    · have := h 0 o rfl
      have e : ts.getD 0 [] = ts.headD [] := by cases ts <;> rfl
      rwa [e] at this
    · have := h (i + 1) o' (by simpa using hi)
      have e : ts.getD (i + 1) [] = ts.tail.getD i [] := by cases ts <;> simp
      rwa [e] at this

theorem slotsAt_of {ds : List (Option Tmp)} {φs : List (Value → World → Prop)} {a0 A : Act} {W : World} : ∀ {ts : List Tmp}, (∀ t ∈ ts, slotAt ds φs a0 t (A.eval (.tmp t)) W) → slotsAt ds φs a0 A.eval W ts
  | [], _ => trivial
  | t :: _, h => ⟨h t (by simp), slotsAt_of fun u hu => h u (by simp [hu])⟩
theorem slots_mem {ds : List Tmp} {a0 A : Act} {W : World} : ∀ {ts : List Tmp}, slots ds Ψ a0 A W ts → ∀ t ∈ ts, slot ds Ψ a0 t (A.eval (.tmp t)) W
  | _ :: _, h, _, ht => by
    rcases List.mem_cons.1 ht with rfl | h2
    · exact h.1
    · exact slots_mem h.2 _ h2

/-- **EVERY ORDER AT ONCE, no operation guarded**: `φs` beside the operations. -/
theorem wp_region_each {id : Nat} {Q : Exit → Act → World → Prop} {a : Act} {w : World} {l : List Oper} (ds : List (Option Tmp)) (ts : List (List Tmp)) (φs : List (Value → World → Prop))
    (hm : P.follows .mixedOrders = true) (hB : depsB a.tmps.size l.toArray = true) (hg : l.all (fun o => o.guard.isNone) = true) (hds : l.map (·.dst) = ds) (hts : l.map (·.looksAt l.toArray) = ts)
    (Le : World → World → Prop) (F : World → Prop)
    (hrefl : ∀ W, F W → Le W W) (hF : ∀ W W', F W → Le W W' → F W') (hφ : Keeps Le F φs)
    (h0 : F w.drew) (hO : Asks P Le F ds φs a l φs ts)
    (hend : ∀ (f : Tmp → Value) (W : World), F W → Ends f W ds φs → Q .normal (fin a (ds.filterMap (fun d => d)) f) W) : (Code.region id l.toArray true).wp P Q a w := by
  have hdsts : dsts l.toArray = ds.filterMap (fun d => d) := by rw [← hds]; unfold dsts; rw [List.filterMap_map]; rfl
  have hat : ∀ {i : Nat} {o : Oper} {t : Tmp} {φ : Value → World → Prop}, l[i]? = some o → o.dst = some t → φs[i]? = some φ → look ds φs t = some φ := by
    intro i o t φ hi hd hp
    refine look_at (i := i) (by rw [← hds, List.getElem?_map, hi]; simp [hd]) hp fun j hj => ?_
    rw [← hds, List.getElem?_map] at hj
    cases hlj : l[j]? with
    | none => rw [hlj] at hj; cases hj
    | some oj =>
      rw [hlj] at hj
      exact ((depsB_at hB (i := i) (o := o) (by simpa using hi)).1 t hd).2 j oj (by simpa using hlj) (by simpa using hj)
  refine wp_region_inv (Ψ := fun t => (look ds φs t).getD (fun _ _ => True)) (ds.filterMap (fun d => d)) ts hm hB hdsts hts Le F hrefl hF ?_ h0 ?_ ?_
  · intro t v W W' h1 h2 h3
    cases hl : look ds φs t with
    | none => simp
    | some φ =>
      simp only [hl, Option.getD_some] at h3 ⊢
      exact look_keeps hφ hl v W W' h1 h2 h3
  · refine obls_of fun i o hi => ?_
    obtain ⟨φ, t, h1, h2, h3⟩ := asks_at hO hi
    have hgo : o.guard = none := by
      have := List.all_eq_true.1 hg o (List.mem_of_getElem? hi)
      simpa using this
    have ht : ts.getD i [] = t := by simp [h2]
    rw [ht]
    intro A W hF' hs
    refine ⟨fun _ => ?_, fun hw => by simp [Region.wanted, hgo] at hw⟩
    have h4 := h3 A.eval W (Std.eval A) hF' (slotsAt_of fun u hu => by
      have h5 := slots_mem hs u hu
      unfold slot at h5
      unfold slotAt
      split at h5
      · rename_i hc
        cases hl : look ds φs u with
        | some φ' => simpa [hl] using h5
        | none =>
          exfalso
          have hmem : u ∈ dsts l.toArray := by rw [hdsts]; simpa using hc
          obtain ⟨j, oj, hj, hdj⟩ := mem_dsts.1 hmem
          obtain ⟨φj, _, hj1, _⟩ := asks_at hO (i := j) (o := oj) (by simpa using hj)
          rw [hat (by simpa using hj) hdj hj1] at hl
          cases hl
      · rename_i hc
        cases hl : look ds φs u with
        | none => exact h5
        | some φ' =>
          exfalso
          refine hc ?_
          have : u ∈ ds.filterMap (fun d => d) := by
            clear hc h5
            have aux : ∀ {ds : List (Option Tmp)} {φs : List (Value → World → Prop)}, look ds φs u = some φ' → some u ∈ ds := by
              intro ds
              induction ds with
              | nil => intro φs h; cases φs <;> cases h
              | cons d ds ih =>
                intro φs h
                cases φs with
                | nil => cases d <;> cases h
                | cons φ φs =>
                  cases d with
                  | none => exact List.mem_cons_of_mem _ (ih h)
                  | some d =>
                    unfold look at h
                    cases hb : Nat.beq d u
                    · rw [hb] at h; exact List.mem_cons_of_mem _ (ih h)
                    · have e : d = u := Nat.eq_of_beq_eq_true hb
                      rw [e]; exact List.mem_cons_self
            exact List.mem_filterMap.2 ⟨some u, aux hl, rfl⟩
          simpa using this)
    cases hd : o.dst with
    | none =>
      have e : ∀ v W, dstPost (fun t => (look ds φs t).getD (fun _ _ => True)) o v W := fun v W => by simp [dstPost, hd]
      generalize (execOp A.eval o).run P W = r at h4
      cases r with
      | ok nx W' =>
        cases nx <;> simp only [RelUpon] at h4 ⊢
        case value v => exact ⟨h4.1, e _ _⟩
        case skip => exact ⟨h4.1, e _ _⟩
        case enter f args => exact h4.mono fun _ _ ⟨v, h5, h6, _⟩ => ⟨v, h5, h6, e _ _⟩
      | halt x W' => simp only [RelUpon] at h4
    | some d =>
      have e : dstPost (fun t => (look ds φs t).getD (fun _ _ => True)) o = φ := by
        funext v W
        simp [dstPost, hd, hat hi hd h1]
      rw [e]; exact h4
  · intro f W hFW hall
    refine hend f W hFW (ends_of fun i t φ h1 h2 => ?_)
    have h3 := hall t (List.mem_filterMap.2 ⟨some t, List.mem_of_getElem? h1, rfl⟩)
    rw [← hds, List.getElem?_map] at h1
    cases hli : l[i]? with
    | none => rw [hli] at h1; cases h1
    | some o =>
      rw [hli] at h1
      rw [hat hli (by simpa using h1) h2] at h3
      exact h3
/-- One operation of the first that may come up. -/
theorem part_step {full : Array Oper} {a0 : Act} {listed : Array Bool} {a : Act} {W : World} {Q : Exit → Act → World → Prop} {K : Act → World → Prop} {i : Nat} {o : Oper} {ts : List Tmp}
    (hB : depsB a0.tmps.size ops = true) (hls : i < listed.size) (hF : ∀ W W', F W → Le W W' → F W') (hΨ : ∀ t v W W', F W → Le W W' → Ψ t v W → Ψ t v W')
    (hi : ops[i]? = some o) (hfull : full[i]? = some o) (hgd : o.guard = none) (_hun : listed.getD i true = false) (hall : ∀ e ∈ o.after, Region.binds .any e = true → listed.getD e.on false = true) (hts : o.looksAt ops = ts)
    (ho : ∀ (A : Act) (W : World), F W → slots (dsts ops) Ψ a0 A W ts → RelUpon P Le (dstPost Ψ o) W ((execOp A.eval o).run P W))
    (hg : Good F Ψ a0 ops listed a W) (hK : ∀ a' W', Good F Ψ a0 ops (listed.setIfInBounds i true) a' W' → K a' W') : wpOp P full Q i K a W := by
  obtain ⟨hd1, hd2, hd3⟩ := depsB_at hB hi
  -- the slots that are read
  have hsl : slots (dsts ops) Ψ a0 a W ts := slots_of fun t ht => by
    unfold slot
    split
    · rename_i hc
      obtain ⟨j, oj, hj, hdj⟩ := mem_dsts.1 (by simpa using hc)
      obtain ⟨e, he, hb, hon⟩ := hd2 t (by rw [hts]; exact ht) j oj hj hdj
      have hl := hall e he hb
      rw [hon] at hl
      exact hg.done j oj t hj hdj hl
    · rename_i hc
      refine hg.other t fun j oj hj hdj => absurd ?_ hc
      simpa using mem_dsts.2 ⟨j, oj, hj, hdj⟩
  have h1 := ho a W hg.base hsl
  -- what a value does
  have put : ∀ (v : Value) (W' : World), Le W W' → dstPost Ψ o v W' → Good F Ψ a0 ops (listed.setIfInBounds i true) (a.put o.dst v) W' := by
    intro v W' hle hv
    have hbase := hF _ _ hg.base hle
    cases hdst : o.dst with
    | none =>
      refine ⟨hg.defers, hg.size, hbase, fun j oj t hj hdj hl => ?_, fun t ht => hg.other t fun j oj hj hdj => ?_⟩
      · have hne : i ≠ j := by
          rintro rfl
          rw [hi] at hj
          obtain rfl : o = oj := by simpa using hj
          rw [hdst] at hdj; cases hdj
        rw [listed_of_ne hne] at hl
        exact hΨ _ _ _ _ hg.base hle (hg.done j oj t hj hdj hl)
      · have := ht j oj hj hdj
        have hne : i ≠ j := by
          rintro rfl
          rw [hi] at hj
          obtain rfl : o = oj := by simpa using hj
          rw [hdst] at hdj; cases hdj
        rwa [listed_of_ne hne] at this
    | some d =>
      obtain ⟨hdn, huniq⟩ := hd1 d hdst
      have hda : d < a.tmps.size := by rw [hg.size]; exact hdn
      refine ⟨hg.defers, by simp [Act.put, hg.size], hbase, fun j oj t hj hdj hl => ?_, fun t ht => ?_⟩
      · by_cases hne : i = j
        · subst hne
          rw [hi] at hj
          obtain rfl : o = oj := by simpa using hj
          rw [hdst] at hdj
          obtain rfl : d = t := by simpa using hdj
          rw [eval_put_same a hda]
          simpa [dstPost, hdst] using hv
        · rw [listed_of_ne hne] at hl
          have htd : d ≠ t := by
            rintro rfl
            exact hne (huniq j oj hj hdj).symm
          rw [eval_put_other a htd]
          exact hΨ _ _ _ _ hg.base hle (hg.done j oj t hj hdj hl)
      · have htd : d ≠ t := by
          rintro rfl
          have := ht i o hi hdst
          simp [hls] at this
        rw [eval_put_other a htd]
        refine hg.other t fun j oj hj hdj => ?_
        have h2 := ht j oj hj hdj
        have hne : i ≠ j := by
          rintro rfl
          rw [hi] at hj
          obtain rfl : o = oj := by simpa using hj
          rw [hdst] at hdj
          exact htd (by simpa using hdj)
        rwa [listed_of_ne hne] at h2
  unfold wpOp
  simp only [hfull]
  have hw : Region.wanted o (yielded full a.tmps) = true := by simp [Region.wanted, hgd]
  rw [if_pos hw]
  refine .inl ?_
  unfold Oper.wp
  generalize (execOp a.eval o).run P W = r at h1
  cases r with
  | ok nx W' =>
    cases nx <;> simp only [RelUpon] at h1 <;> simp only [Oper.upon]
    case value v => exact hK _ _ (put v W' h1.1 h1.2)
    case skip => exact hK _ _ (put undef W' h1.1 h1.2)
    case enter f args =>
      refine Calls.mono h1 ?_
      rintro e W'' ⟨v, rfl, hle, hv⟩
      exact hK _ _ (put v W'' hle hv)
  | halt x W' => simp only [RelUpon] at h1

/-! A region whose last operations wait for all before them: the others in every order, these in theirs. -/

/-- From index k on each operation waits for all before it. -/
def tailB (k : Nat) (ops : Array Oper) : Bool :=
  (List.range ops.size).all fun i => decide (i < k) || match ops[i]? with
    | none => true
    | some o => (List.range i).all fun j => o.after.any fun e => Region.binds .any e && e.on == j

theorem tailB_at {k : Nat} (h : tailB k ops = true) {i : Nat} {o : Oper} (hi : ops[i]? = some o) (hk : k ≤ i) {j : Nat} (hj : j < i) : ∃ e ∈ o.after, Region.binds .any e = true ∧ e.on = j := by
  unfold tailB at h
  rw [List.all_eq_true] at h
  have h1 := h i (List.mem_range.2 (Array.getElem?_eq_some_iff.1 hi).1)
  have hk' : ¬ i < k := by omega
  simp only [hk', decide_false, Bool.false_or, hi, List.all_eq_true, List.mem_range] at h1
  obtain ⟨e, he, h4⟩ := Array.any_eq_true'.1 (h1 j hj)
  simp only [Bool.and_eq_true, beq_iff_eq] at h4
  exact ⟨e, he, h4.1, h4.2⟩

/-- Edges lead back. -/
def backB (ops : Array Oper) : Bool := (List.range ops.size).all fun i => match ops[i]? with
  | none => true
  | some o => o.after.all fun e => !Region.binds .any e || decide (e.on < i)
theorem backB_at (h : backB ops = true) {i : Nat} {o : Oper} (hi : ops[i]? = some o) : ∀ e ∈ o.after, Region.binds .any e = true → e.on < i := by
  intro e he hbd
  unfold backB at h
  rw [List.all_eq_true] at h
  have h1 := h i (List.mem_range.2 (Array.getElem?_eq_some_iff.1 hi).1)
  simp only [hi] at h1
  have h2 := Array.all_eq_true_iff_forall_mem.1 h1 e he
  simp only [hbd, Bool.not_true, Bool.false_or, decide_eq_true_eq] at h2
  exact h2

/-- The last operations, one by one. -/
theorem tail_run {Q : Exit → Act → World → Prop} {k : Nat} (hT : tailB k ops = true) (hE : backB ops = true) : ∀ (fuel i : Nat) (listed : Array Bool) (a : Act) (W : World), k ≤ i → i + fuel = ops.size → listed.size = ops.size →
    (∀ j, j < i → listed.getD j true = true) → (∀ j, i ≤ j → j < ops.size → listed.getD j true = false) → wpList P ops Q (ops.toList.drop i) a W → wpAny P .any ops Q fuel listed a W
  | 0, i, listed, a, W, _, hs, hls, hin, _, h => by
    have hr : Region.ready .any ops listed = [] := by
      rw [List.eq_nil_iff_forall_not_mem]
      intro j hj
      obtain ⟨h1, o, ho, _⟩ := mem_ready.1 hj
      rw [hin j (by have := (Array.getElem?_eq_some_iff.1 ho).1; omega)] at h1
      cases h1
    rw [List.drop_of_length_le (by simp; omega)] at h
    exact ⟨hr, h⟩
  | fuel + 1, i, listed, a, W, hk, hs, hls, hin, hout, h => by
    have hlt : i < ops.size := by omega
    have hi : ops[i]? = some ops[i] := Array.getElem?_eq_getElem hlt
    have hedge : ∀ j, j < i → listed.getD j false = true := fun j hj => by
      have h1 := hin j hj
      have h2 : j < listed.size := by omega
      simp [h2] at h1 ⊢
      exact h1
    refine ⟨fun hr => ?_, fun j hj => ?_⟩
    · exfalso
      have : i ∈ Region.ready .any ops listed := mem_ready.2 ⟨hout i (Nat.le_refl _) hlt, _, hi, fun e he hbd => hedge _ (backB_at hE hi e he hbd)⟩
      rw [hr] at this; cases this
    · obtain ⟨h1, o, ho, hall⟩ := mem_ready.1 hj
      have hjs := (Array.getElem?_eq_some_iff.1 ho).1
      have hij : j = i := by
        rcases Nat.lt_trichotomy j i with h2 | h2 | h2
        · rw [hin j h2] at h1; cases h1
        · exact h2
        · obtain ⟨e, he, hbd, hon⟩ := tailB_at hT ho (by omega) h2
          have h3 := hall e he hbd
          rw [hon] at h3
          have h4 := hout i (Nat.le_refl _) hlt
          have h5 : i < listed.size := by omega
          simp [h5] at h3 h4
          rw [h4] at h3; cases h3
      subst hij
      rw [hi] at ho
      obtain rfl : ops[j] = o := by simpa using ho
      rw [List.drop_eq_getElem_cons (by simpa using hjs)] at h
      have e : ops.toList[j]'(by simpa using hjs) = ops[j] := by simp
      rw [e] at h
      unfold wpList at h
      unfold wpOp
      simp only [hi]
      have next : ∀ a' W', wpList P ops Q (ops.toList.drop (j + 1)) a' W' → wpAny P .any ops Q fuel (listed.setIfInBounds j true) a' W' := fun a' W' h' =>
        tail_run hT hE fuel (j + 1) _ a' W' (by omega) (by omega) (by simpa using hls)
          (fun j' hj' => by
            by_cases hjj : j = j'
            · subst hjj
              have : j < listed.size := by omega
              simp [this]
            · rw [getD_set_ne true hjj]; exact hin j' (by omega))
          (fun j' hj1 hj2 => by rw [getD_set_ne true (by omega)]; exact hout j' (by omega) hj2) h'
      split
      · rename_i hw
        rw [if_pos hw] at h
        rcases h with h | h
        · exact .inl (Oper.wp_mono next h)
        · exact .inr h
      · rename_i hw
        rw [if_neg hw] at h
        exact next _ _ h

theorem unl_tail {l : Array Bool} {i n : Nat} (hin : ∀ j, j < i → l.getD j true = true) (hout : ∀ j, i ≤ j → j < n → l.getD j true = false) (hi : i ≤ n) : unl l n = n - i := by
  have h1 : ∀ m, m ≤ i → unl l m = 0 := by
    intro m
    induction m with
    | zero => intro _; rfl
    | succ m ih => intro hm; unfold unl; rw [ih (by omega), hin m (by omega)]; simp
  have h2 : ∀ d, i + d ≤ n → unl l (i + d) = d := by
    intro d
    induction d with
    | zero => intro _; exact h1 i (Nat.le_refl _)
    | succ d ih =>
      intro hd
      show unl l (i + d + 1) = d + 1
      unfold unl
      rw [ih (by omega), hout (i + d) (by omega) (by omega)]; simp
  have := h2 (n - i) (by omega)
  rwa [show i + (n - i) = n by omega] at this

theorem look_mem {u : Tmp} {φ' : Value → World → Prop} : ∀ {ds : List (Option Tmp)} {φs : List (Value → World → Prop)}, look ds φs u = some φ' → some u ∈ ds := by
  intro ds
  induction ds with
  | nil => intro φs h; cases φs <;> cases h
  | cons d ds ih =>
    intro φs h
    cases φs with
    | nil => cases d <;> cases h
    | cons φ φs =>
      cases d with
      | none => exact List.mem_cons_of_mem _ (ih h)
      | some d =>
        unfold look at h
        cases hb : Nat.beq d u
        · rw [hb] at h; exact List.mem_cons_of_mem _ (ih h)
        · have e : d = u := Nat.eq_of_beq_eq_true hb
          rw [e]; exact List.mem_cons_self

theorem slotAt_of {ds : List (Option Tmp)} {φs : List (Value → World → Prop)} {p : List Oper} {a0 : Act} {u : Tmp} {v : Value} {W : World} (hdsts : dsts p.toArray = ds.filterMap (fun d => d))
    (hl : ∀ (j : Nat) (oj : Oper), True → p.toArray[j]? = some oj → oj.dst = some u → ∃ φ, look ds φs u = some φ) (h : slot (dsts p.toArray) (fun t => (look ds φs t).getD (fun _ _ => True)) a0 u v W) : slotAt ds φs a0 u v W := by
  unfold slot at h
  unfold slotAt
  split at h
  · rename_i hc
    obtain ⟨j, oj, hj, hdj⟩ := mem_dsts.1 (by simpa using hc)
    obtain ⟨φ, hφ⟩ := hl j oj trivial hj hdj
    simpa [hφ] using h
  · rename_i hc
    cases hlk : look ds φs u with
    | none => exact h
    | some φ' =>
      exfalso
      refine hc ?_
      have : u ∈ dsts p.toArray := by rw [hdsts]; exact List.mem_filterMap.2 ⟨some u, look_mem hlk, rfl⟩
      simpa using this

theorem relUpon_dst {ds : List (Option Tmp)} {φs : List (Value → World → Prop)} {o : Oper} {φ : Value → World → Prop} {W : World} {r : Result Next} (h4 : RelUpon P Le φ W r) (hl : ∀ d, o.dst = some d → look ds φs d = some φ) :
    RelUpon P Le (dstPost (fun t => (look ds φs t).getD (fun _ _ => True)) o) W r := by
  cases hd : o.dst with
  | none =>
    have e : ∀ v W, dstPost (fun t => (look ds φs t).getD (fun _ _ => True)) o v W := fun v W => by simp [dstPost, hd]
    cases r with
    | ok nx W' =>
      cases nx <;> simp only [RelUpon] at h4 ⊢
      case value v => exact ⟨h4.1, e _ _⟩
      case skip => exact ⟨h4.1, e _ _⟩
      case enter f args => exact h4.mono fun _ _ ⟨v, h5, h6, _⟩ => ⟨v, h5, h6, e _ _⟩
    | halt x W' => simp only [RelUpon] at h4
  | some d =>
    have e : dstPost (fun t => (look ds φs t).getD (fun _ _ => True)) o = φ := by
      funext v W
      simp [dstPost, hd, hl d hd]
    rw [e]; exact h4

/-- **THE FIRST k OPERATIONS IN EVERY ORDER, THE OTHERS IN THEIRS.** -/
theorem wp_region_part {id : Nat} {Q : Exit → Act → World → Prop} {a : Act} {w : World} {l : List Oper} (k : Nat) (ds : List (Option Tmp)) (ts : List (List Tmp)) (φs : List (Value → World → Prop))
    (hm : P.follows .mixedOrders = true) (hB : depsB a.tmps.size (l.take k).toArray = true) (hT : tailB k l.toArray = true) (hE : backB l.toArray = true) (hg : (l.take k).all (fun o => o.guard.isNone) = true)
    (hds : (l.take k).map (·.dst) = ds) (hts : (l.take k).map (·.looksAt (l.take k).toArray) = ts)
    (Le : World → World → Prop) (F : World → Prop)
    (_hrefl : ∀ W, F W → Le W W) (hF : ∀ W W', F W → Le W W' → F W') (hφ : Keeps Le F φs)
    (h0 : F w.drew) (hO : Asks P Le F ds φs a (l.take k) φs ts)
    (hend : ∀ (f : Tmp → Value) (W : World), F W → Ends f W ds φs → wpList P l.toArray Q (l.drop k) (fin a (ds.filterMap (fun d => d)) f) W) : (Code.region id l.toArray true).wp P Q a w := by
  obtain ⟨p, hp⟩ : ∃ p, p = l.take k := ⟨_, rfl⟩
  rw [← hp] at hB hg hds hts hO
  have hpl : ∀ {i : Nat} {o : Oper}, p[i]? = some o → l[i]? = some o := fun {i o} hi => by
    rw [hp, List.getElem?_take] at hi
    split at hi
    · exact hi
    · cases hi
  have hplt : ∀ {i : Nat} {o : Oper}, p[i]? = some o → i < k := fun {i o} hi => by
    rw [hp, List.getElem?_take] at hi
    split at hi
    · assumption
    · cases hi
  have hlp : ∀ {i : Nat} {o : Oper}, l[i]? = some o → i < k → p[i]? = some o := fun {i o} hi hk => by rw [hp, List.getElem?_take, if_pos hk]; exact hi
  have hdsts : dsts p.toArray = ds.filterMap (fun d => d) := by rw [← hds]; unfold dsts; rw [List.filterMap_map]; rfl
  have hat : ∀ {i : Nat} {o : Oper} {t : Tmp} {φ : Value → World → Prop}, p[i]? = some o → o.dst = some t → φs[i]? = some φ → look ds φs t = some φ := by
    intro i o t φ hi hd hp'
    refine look_at (i := i) (by rw [← hds, List.getElem?_map, hi]; simp [hd]) hp' fun j hj => ?_
    rw [← hds, List.getElem?_map] at hj
    cases hlj : p[j]? with
    | none => rw [hlj] at hj; cases hj
    | some oj =>
      rw [hlj] at hj
      exact ((depsB_at hB (i := i) (o := o) (by simpa using hi)).1 t hd).2 j oj (by simpa using hlj) (by simpa using hj)
  have hΨ : ∀ t v W W', F W → Le W W' → (fun t => (look ds φs t).getD (fun _ _ => True)) t v W → (fun t => (look ds φs t).getD (fun _ _ => True)) t v W' := by
    intro t v W W' h1 h2 h3
    cases hl : look ds φs t with
    | none => simp
    | some φ =>
      simp only [hl, Option.getD_some] at h3 ⊢
      exact look_keeps hφ hl v W W' h1 h2 h3
  have goodEnd : ∀ {listed : Array Bool} {a' : Act} {W : World}, Good F (fun t => (look ds φs t).getD (fun _ _ => True)) a p.toArray listed a' W → (∀ i, i < p.toArray.size → listed.getD i false = true) →
      wpList P l.toArray Q (l.drop k) a' W := by
    intro listed a' W hg' hall
    rw [act_fin (a := a') (a0 := a) (ds := dsts p.toArray) hg'.defers hg'.size (fun t ht => hg'.other t fun i o hi hd => absurd (mem_dsts.2 ⟨i, o, hi, hd⟩) ht), hdsts]
    refine hend _ W hg'.base (ends_of fun i t φ h1 h2 => ?_)
    rw [← hds, List.getElem?_map] at h1
    cases hli : p[i]? with
    | none => rw [hli] at h1; cases h1
    | some o =>
      rw [hli] at h1
      have hd : o.dst = some t := by simpa using h1
      have h3 := hg'.done i o t (by simpa using hli) hd (hall i (by have := (List.getElem?_eq_some_iff.1 hli).1; simpa using this))
      rw [hat hli hd h2] at h3
      exact h3
  refine wp_region_any hm ?_
  have main : ∀ (fuel : Nat) (listed : Array Bool) (a' : Act) (W : World), listed.size = l.toArray.size → unl listed l.toArray.size = fuel → (∀ j, k ≤ j → j < l.toArray.size → listed.getD j true = false) →
      Good F (fun t => (look ds φs t).getD (fun _ _ => True)) a p.toArray listed a' W → wpAny P .any l.toArray Q fuel listed a' W := by
    intro fuel
    induction fuel with
    | zero =>
      intro listed a' W hls hu hout hgood
      have hall := unl_zero hu
      -- nothing is left: so there is no last operation
      have hkn : l.toArray.size ≤ k := by
        rcases Nat.lt_or_ge k l.toArray.size with h1 | h1
        · have h2 := hout k (Nat.le_refl _) h1
          rw [hall k h1] at h2; cases h2
        · exact h1
      have hr : Region.ready .any l.toArray listed = [] := by
        rw [List.eq_nil_iff_forall_not_mem]
        intro i hi
        obtain ⟨h1, o, ho, _⟩ := mem_ready.1 hi
        rw [hall i (Array.getElem?_eq_some_iff.1 ho).1] at h1
        cases h1
      refine ⟨hr, ?_⟩
      have h9 := goodEnd (listed := listed) hgood (fun i hi => by
        have h1 := hall i (by
          have h3 : i < p.length := by simpa using hi
          have h4 : p.length ≤ l.length := by rw [hp, List.length_take]; omega
          simp; omega)
        have h2 : i < listed.size := by
          have h3 : i < p.length := by simpa using hi
          have h4 : p.length ≤ l.length := by rw [hp, List.length_take]; omega
          simp at hls; omega
        simp [h2] at h1 ⊢
        exact h1)
      rw [List.drop_of_length_le (by simpa using hkn)] at h9
      exact h9
    | succ fuel ih =>
      intro listed a' W hls hu hout hgood
      refine ⟨fun hr => ?_, fun i hi => ?_⟩
      · exfalso
        -- the first that has not come up is ready
        have hall : ∀ i, i < l.toArray.size → listed.getD i false = true := by
          intro i
          induction i using Nat.strongRecOn with
          | ind i ihi =>
            intro hi
            by_cases hc : listed.getD i false = true
            · exact hc
            · exfalso
              have hm' : i ∈ Region.ready .any l.toArray listed := by
                refine mem_ready.2 ⟨?_, l.toArray[i], Array.getElem?_eq_getElem hi, fun e he hb => ihi e.on (backB_at hE (Array.getElem?_eq_getElem hi) e he hb) (Nat.lt_trans (backB_at hE (Array.getElem?_eq_getElem hi) e he hb) hi)⟩
                have : i < listed.size := by omega
                simp [this] at hc ⊢
                exact hc
              rw [hr] at hm'
              cases hm'
        have hz : unl listed l.toArray.size = 0 := by
          have : ∀ n, n ≤ l.toArray.size → unl listed n = 0 := by
            intro n
            induction n with
            | zero => intro _; rfl
            | succ n ihn =>
              intro hn
              unfold unl
              have h1 := hall n (by omega)
              have h2 : n < listed.size := by omega
              have h3 : listed.getD n true = true := by simp [h2] at h1 ⊢; exact h1
              rw [ihn (by omega), h3]; simp
          exact this _ (Nat.le_refl _)
        omega
      · obtain ⟨hun, o, ho, hall⟩ := mem_ready.1 hi
        have hlt : i < l.toArray.size := (Array.getElem?_eq_some_iff.1 ho).1
        have hlo : l[i]? = some o := by simpa using ho
        by_cases hik : i < k
        · have hpo := hlp hlo hik
          obtain ⟨φ, t, h1, h2, h3⟩ := asks_at hO hpo
          have hgo : o.guard = none := by
            have := List.all_eq_true.1 hg o (List.mem_of_getElem? hpo)
            simpa using this
          have htl : o.looksAt p.toArray = t := by
            rw [← hts, List.getElem?_map, hpo] at h2
            simpa using h2
          refine part_step (ts := t) (ops := p.toArray) (Ψ := fun t => (look ds φs t).getD (fun _ _ => True)) hB (by omega) hF hΨ (by simpa using hpo) ho hgo hun hall htl ?_ hgood (fun a'' W'' hg' => ih _ a'' W'' (by simpa using hls) ?_ ?_ hg')
          · intro A W1 hF' hs
            have h4 := h3 A.eval W1 (Std.eval A) hF' (slotsAt_of fun u hu => slotAt_of (hdsts := hdsts) (fun j oj _ hj hdj => by
                obtain ⟨φj, _, hj1, _⟩ := asks_at hO (i := j) (o := oj) (by simpa using hj)
                exact ⟨φj, hat (by simpa using hj) hdj hj1⟩) (slots_mem hs u hu))
            exact relUpon_dst h4 (fun d hd => hat hpo hd h1)
          · have := unl_set (l := listed) (i := i) hun (by omega) hlt
            omega
          · intro j hj1 hj2
            rw [getD_set_ne true (by omega)]
            exact hout j hj1 hj2
        · -- a last operation: all before it have come up
          have hin : ∀ j, j < i → listed.getD j true = true := fun j hj => by
            obtain ⟨e, he, hbd, hon⟩ := tailB_at hT ho (by omega) hj
            have h3 := hall e he hbd
            rw [hon] at h3
            have h5 : j < listed.size := by omega
            simp [h5] at h3 ⊢
            exact h3
          have hik' : i = k := by
            rcases Nat.lt_or_ge k i with h1 | h1
            · have h2 := hin k h1
              rw [hout k (Nat.le_refl _) (by omega)] at h2; cases h2
            · omega
          subst hik'
          have h9 := goodEnd (listed := listed) hgood (fun j hj => by
            have h3 : j < p.length := by simpa using hj
            have h4 : p.length ≤ i := by rw [hp, List.length_take]; omega
            have h1 := hin j (by omega)
            have h2 : j < listed.size := by omega
            simp [h2] at h1 ⊢
            exact h1)
          have h10 := tail_run hT hE (fuel + 1) i listed a' W (Nat.le_refl _) (by
            have : unl listed l.toArray.size = l.toArray.size - i := unl_tail hin hout (by omega)
            omega) hls hin hout h9
          exact h10.2 i hi
  have hcount : ∀ n : Nat, n ≤ l.toArray.size → unl (Array.replicate l.toArray.size false) n = n := by
    intro n
    induction n with
    | zero => intro _; rfl
    | succ n ih =>
      intro hn
      unfold unl
      rw [ih (by omega)]
      have h3 : n < l.length := by simp only [List.size_toArray] at hn; omega
      have : (Array.replicate l.toArray.size false).getD n true = false := by simp [h3]
      rw [this]; simp
  exact main _ _ a w.drew (by simp) (hcount _ (Nat.le_refl _)) (fun j _ hj => by
    have h3 : j < l.length := by simpa using hj
    simp [h3]) ⟨rfl, rfl, h0, fun i o t hi _ hl => by
    have h4 : i < l.length := by
      have h3 : i < p.length := by have := (Array.getElem?_eq_some_iff.1 hi).1; simpa using this
      have h5 : p.length ≤ l.length := by rw [hp, List.length_take]; omega
      omega
    simp [h4] at hl, fun t _ => rfl⟩
end

/-- The value is known. -/
def Is (v : Value) : Value → World → Prop := fun u _ => u = v
end Go.RegInv

/- RegInv inside a fence that asks nothing, also in a round of a loop over a function. By mkin.py out of RegInv. -/
namespace Go.RegInv

variable {Fc : Fence} {m : Nat} {P : Program} {Le : World → World → Prop} {F : World → Prop} {Ψ : Tmp → Value → World → Prop} {n : Nat} {ops : Array Oper}

end Go.RegInv

/- wp_region_part where the last operations wait for all before them by edges of edges. By mktail.py out of RegInv. -/
namespace Go.RegInv

variable {P : Program} {Le : World → World → Prop} {F : World → Prop} {Ψ : Tmp → Value → World → Prop}
section
variable {n : Nat} {ops : Array Oper}

/-- Operation i waits for j, perhaps by others. -/
def reachB (ops : Array Oper) : Nat → Nat → Nat → Bool
  | 0, _, _ => false
  | fuel + 1, i, j => match ops[i]? with
    | none => false
    | some o => o.after.any fun e => Region.binds .any e && (e.on == j || reachB ops fuel e.on j)
/-- Whatever an operation that has come up waits for has come up. -/
def Closed (ops : Array Oper) (listed : Array Bool) : Prop := ∀ i o, ops[i]? = some o → listed.getD i false = true → ∀ e ∈ o.after, Region.binds .any e = true → listed.getD e.on false = true
theorem getD_true_mono {listed : Array Bool} {i j : Nat} (h : listed.getD j false = true) : (listed.setIfInBounds i true).getD j false = true := by
  by_cases hij : i = j
  · subst hij
    have : i < listed.size := by
      rcases Nat.lt_or_ge i listed.size with h1 | h1
      · exact h1
      · simp [Nat.not_lt.2 h1] at h
    simp [this]
  · rw [getD_set_ne false hij]; exact h
theorem Closed.set {listed : Array Bool} (hcl : Closed ops listed) {i : Nat} {o : Oper} (ho : ops[i]? = some o) (hall : ∀ e ∈ o.after, Region.binds .any e = true → listed.getD e.on false = true) : Closed ops (listed.setIfInBounds i true) := by
  intro j oj hj hl e he hbd
  by_cases hij : i = j
  · subst hij
    rw [ho] at hj
    obtain rfl : o = oj := by simpa using hj
    exact getD_true_mono (hall e he hbd)
  · rw [getD_set_ne false hij] at hl
    exact getD_true_mono (hcl j oj hj hl e he hbd)
theorem reach_listed {listed : Array Bool} (hcl : Closed ops listed) : ∀ (fuel i j : Nat), reachB ops fuel i j = true → (∀ o, ops[i]? = some o → ∀ e ∈ o.after, Region.binds .any e = true → listed.getD e.on false = true) → (∀ o, ops[i]? = some o → listed.getD j false = true)
  | 0, _, _, h, _ => by cases h
  | fuel + 1, i, j, h, hall => by
    intro o ho
    unfold reachB at h
    simp only [ho] at h
    obtain ⟨e, he, h4⟩ := Array.any_eq_true'.1 h
    simp only [Bool.and_eq_true, Bool.or_eq_true, beq_iff_eq] at h4
    have h5 := hall o ho e he h4.1
    rcases h4.2 with h6 | h6
    · rw [← h6]; exact h5
    · cases hoe : ops[e.on]? with
      | none =>
        exfalso
        cases fuel with
        | zero => cases h6
        | succ fuel => unfold reachB at h6; simp [hoe] at h6
      | some oe => exact reach_listed hcl fuel e.on j h6 (fun o' ho' => hcl _ _ ho' h5) oe hoe
end
end Go.RegInv

/- A region that ends in a store and an assignment, where one of the other operations may come behind the store. By mklate.py out of RegInv and RegTail. -/
namespace Go.RegInv

variable {P : Program} {Le : World → World → Prop} {F : World → Prop} {Ψ : Tmp → Value → World → Prop}
section
variable {n : Nat} {ops : Array Oper}

/-- What a value does. -/
theorem good_put {a0 : Act} {listed : Array Bool} {a : Act} {W : World} {i : Nat} {o : Oper}
    (hB : depsB a0.tmps.size ops = true) (hls : i < listed.size) (hF : ∀ W W', F W → Le W W' → F W') (hΨ : ∀ t v W W', F W → Le W W' → Ψ t v W → Ψ t v W')
    (hi : ops[i]? = some o) (hg : Good F Ψ a0 ops listed a W) (v : Value) (W' : World) (hle : Le W W') (hv : dstPost Ψ o v W') : Good F Ψ a0 ops (listed.setIfInBounds i true) (a.put o.dst v) W' := by
  obtain ⟨hd1, hd2, hd3⟩ := depsB_at hB hi
  have hbase := hF _ _ hg.base hle
  cases hdst : o.dst with
  | none =>
    refine ⟨hg.defers, hg.size, hbase, fun j oj t hj hdj hl => ?_, fun t ht => hg.other t fun j oj hj hdj => ?_⟩
    · have hne : i ≠ j := by
        rintro rfl
        rw [hi] at hj
        obtain rfl : o = oj := by simpa using hj
        rw [hdst] at hdj; cases hdj
      rw [listed_of_ne hne] at hl
      exact hΨ _ _ _ _ hg.base hle (hg.done j oj t hj hdj hl)
    · have := ht j oj hj hdj
      have hne : i ≠ j := by
        rintro rfl
        rw [hi] at hj
        obtain rfl : o = oj := by simpa using hj
        rw [hdst] at hdj; cases hdj
      rwa [listed_of_ne hne] at this
  | some d =>
    obtain ⟨hdn, huniq⟩ := hd1 d hdst
    have hda : d < a.tmps.size := by rw [hg.size]; exact hdn
    refine ⟨hg.defers, by simp [Act.put, hg.size], hbase, fun j oj t hj hdj hl => ?_, fun t ht => ?_⟩
    · by_cases hne : i = j
      · subst hne
        rw [hi] at hj
        obtain rfl : o = oj := by simpa using hj
        rw [hdst] at hdj
        obtain rfl : d = t := by simpa using hdj
        rw [eval_put_same a hda]
        simpa [dstPost, hdst] using hv
      · rw [listed_of_ne hne] at hl
        have htd : d ≠ t := by
          rintro rfl
          exact hne (huniq j oj hj hdj).symm
        rw [eval_put_other a htd]
        exact hΨ _ _ _ _ hg.base hle (hg.done j oj t hj hdj hl)
    · have htd : d ≠ t := by
        rintro rfl
        have := ht i o hi hdst
        simp [hls] at this
      rw [eval_put_other a htd]
      refine hg.other t fun j oj hj hdj => ?_
      have h2 := ht j oj hj hdj
      have hne : i ≠ j := by
        rintro rfl
        rw [hi] at hj
        obtain rfl : o = oj := by simpa using hj
        rw [hdst] at hdj
        exact htd (by simpa using hdj)
      rwa [listed_of_ne hne] at h2

end
end Go.RegInv

/- A loop over a function that hands out a list that is known: a law of its own, also for method values. -/
namespace Go.Mem
open Go.RowKit

/-- Whatever is cells lies as it lay. -/
def CellsKept (W W' : World) : Prop := ∀ (g : Nat) (o : Obj), W.heap[g]? = some o → o.isCells = true → W'.heap[g]? = some o
theorem CellsKept.refl (W : World) : CellsKept W W := fun _ _ h _ => h
theorem CellsKept.ext {W W' : World} (h : Ext W W') : CellsKept W W' := fun g _ ho _ => (h.block g (Array.getElem?_eq_some_iff.1 ho).1).trans ho
theorem CellsKept.own {W W' : World} (h : CellsKept W W') {base : Nat} {e : TypeId} {size : Nat} {v : Value} {n : Nat} {xs : List Value} (r : W.ownsRow base e size v n xs) : W'.ownsRow base e size v n xs := by
  refine ⟨r.1, ?_⟩
  rcases r.2 with h1 | ⟨g, cap, cur, h1, h2, h3, h4⟩
  · exact .inl h1
  · exact .inr ⟨g, cap, cur, h1, h2, h _ _ h3 rfl, h4⟩
theorem CellsKept.grown {W W' : World} {row : Option Nat} (hg : W.grownBy W' row) (hr : ∀ r, row = some r → ∃ o, W.heap[r]? = some o ∧ o.isCells = false) : CellsKept W W' := fun g o ho hc => by
  refine (hg.block g (Array.getElem?_eq_some_iff.1 ho).1 (fun e => ?_)).trans ho
  obtain ⟨o', h1, h2⟩ := hr g e.symm
  rw [ho] at h1
  obtain rfl : o = o' := by simpa using h1
  rw [hc] at h2; cases h2
theorem CellsKept.put {W : World} {l : Nat} {o : Obj} (o' : Obj) (h : W.heap[l]? = some o) (hc : o.isCells = false) : CellsKept W (W.putObj l o') := CellsKept.grown (grownBy_putObj' W l o') (fun r e => by cases e; exact ⟨o, h, hc⟩)
theorem own_not {W : World} {base : Nat} {e : TypeId} {size : Nat} {v : Value} {n : Nat} {xs : List Value} (r : W.ownsRow base e size v n xs) {g : Nat} (hg : g < base) : some g ≠ v.ownBlock := by
  rcases r.2 with ⟨rfl, _⟩ | ⟨g', cap, cur, rfl, h2, _⟩
  · simp [Value.ownBlock]
  · simp [Value.ownBlock]; omega
theorem own_notBlk {W : World} {base : Nat} {e : TypeId} {size : Nat} {v : Value} {n : Nat} {xs : List Value} (r : W.ownsRow base e size v n xs) {g : Nat} {t : TypeId} {cs : Array Value} (b : Blk W g t cs) (hne : t ≠ e) : some g ≠ v.ownBlock := by
  rcases r.2 with ⟨rfl, _⟩ | ⟨g', cap, cur, rfl, h2, h3, _⟩
  · simp [Value.ownBlock]
  · intro he
    obtain rfl : g = g' := by simpa [Value.ownBlock] using he
    unfold Blk at b
    rw [h3] at b
    simp at b
    exact hne b.2.symm
theorem own_set {W : World} {base : Nat} {e : TypeId} {size : Nat} {v : Value} {n : Nat} {xs : List Value} (r : W.ownsRow base e size v n xs) {p : Addr} (hp : some p.block ≠ v.ownBlock) (u : Value) : (W.setCell p u).ownsRow base e size v n xs := by
  refine ⟨r.1, ?_⟩
  rcases r.2 with h1 | ⟨g, cap, cur, rfl, h2, h3, h4⟩
  · exact .inl h1
  · refine .inr ⟨g, cap, cur, rfl, h2, (Below.heap_setCell W p u g (fun e' => hp (by simp [Value.ownBlock, e']))).trans h3, h4⟩

variable {P : Program} {n : Nat}

end Go.Mem

/- A slice of rows that came in, read as a list; structs of one-cell fields. -/
namespace Go.Mem
open Go.ChangeShapes Go.WideShapes Go.RowKit Go.Deep
section
variable {H : Type} {enc : TypeId × Value → H} {P : Program} {w : World} {base : Nat} {spare : Nat → Bool} {held : Bool}

theorem open_rows {α : Type} [Inhabited α] (k : Nat) (ea : α → List Value) (hk : 0 < k) {t e : TypeId} (ht : P.underlying t = some (.slice e)) (hC : P.cellsOf e = k)
    (he : ∀ fuel cs x, DataW.trod enc P w base spare held fuel e cs = some x → ∃ a, cs = ea a) {fuel : Nat} {v : Value} {x : DataW H × List MemPlace}
    (h : DataW.trod enc P w base spare held fuel t [v] = some x) :
    ∃ A n cap xs, v = .slice A n cap ∧ (A = none → cap = 0) ∧ n ≤ cap ∧ cap ≤ maxLen ∧ xs.length = n ∧ (n ≤ 1152921504606846976 → RowsAt k ea w A xs) := by
  rcases open_slice ht h with ⟨hcs, _⟩ | ⟨a, len, cap, m, nf, D, Pl, hcs, hb, hl, hm, hmm, _, hi⟩
  · obtain rfl : v = .slice none 0 0 := by simpa using hcs
    exact ⟨none, 0, 0, [], rfl, fun _ => rfl, Nat.le_refl _, by unfold maxLen; omega, rfl, fun _ => ⟨by simp, by simp⟩⟩
  · obtain rfl : v = .slice (some a) len cap := by simpa using hcs
    have hlm : len ≤ m := by rw [hmm]; split <;> omega
    obtain ⟨f, hf⟩ := choose_lt (n := len) (p := fun i (z : α) => w.cells? base (a.add (i * k)) k = some (ea z)) (fun i hlt => by
      obtain ⟨cs', h1, h2⟩ := hi i (by omega)
      obtain ⟨z, rfl⟩ := he _ _ _ h2
      exact ⟨z, by rw [hC] at h1; exact h1⟩)
    refine ⟨some a, len, cap, (List.range len).map f, rfl, (fun h => by cases h), hl, hm, by simp, fun hle => ⟨by simpa using hle, fun i x hx => ?_⟩⟩
    have hlt : i < len := by simpa using (List.getElem?_eq_some_iff.1 hx).1
    obtain rfl : f i = x := by simpa [hlt] using hx
    obtain ⟨_, hcl, hat⟩ := World.cells?_some (hf i hlt)
    have hc00 : w.cell? ((a.add (i * k)).add 0) = some ((ea (f i))[0]'(by omega)) := by rw [hat 0 hk, List.getElem?_eq_getElem (by omega)]
    obtain ⟨b, off, spot⟩ := a
    obtain rfl : spot = none := by
      obtain ⟨_, hcl0, hat0⟩ := World.cells?_some (hf 0 (by omega))
      have h00 : w.cell? ((Addr.add ⟨b, off, spot⟩ (0 * k)).add 0) = some ((ea (f 0))[0]'(by omega)) := by rw [hat0 0 hk, List.getElem?_eq_getElem (by omega)]
      have := World.cell?_spot h00
      simpa [Addr.add] using this
    refine ⟨b, off, rfl, ?_, fun j u hu => ?_⟩
    · rw [add_plain, add_plain] at hc00
      exact lt_of_cell hc00
    · have hj : j < k := by have := (List.getElem?_eq_some_iff.1 hu).1; omega
      have := hat j hj
      rw [add_plain, add_plain, hu] at this
      exact this

theorem elem2 {t : TypeId} {f0 f1 : Field} (ht : P.underlying t = some (.struct #[f0, f1])) (hC : P.cellsOf t = 2) (o0 : f0.offset = 0) (o1 : f1.offset = 1) (k0 : P.cellsOf f0.type = 1) (k1 : P.cellsOf f1.type = 1)
    (i0 : P.underlying f0.type = some (.int .i64)) (i1 : P.underlying f1.type = some (.int .i64)) {fuel : Nat} {cs : List Value} {x : DataW H × List MemPlace} (h : DataW.trod enc P w base spare held fuel t cs = some x) :
    ∃ a b, cs = [.int .i64 a, .int .i64 b] := by
  obtain ⟨y0, y1, n, _, hl, h0, h1⟩ := trod_struct2 ht h
  rw [hC] at hl
  match cs, hl with
  | [c0, c1], _ =>
    rw [o0, k0] at h0
    rw [o1, k1] at h1
    obtain ⟨a, ha, _⟩ := DataW.trod_int i0 h0
    obtain ⟨b, hb, _⟩ := DataW.trod_int i1 h1
    simp at ha hb
    exact ⟨a, b, by rw [ha, hb]⟩

end
end Go.Mem

namespace Go.RegInv

variable {P : Program} {Le : World → World → Prop} {F : World → Prop} {Ψ : Tmp → Value → World → Prop}
section
variable {n : Nat} {ops : Array Oper}

/-- The slots that guards ask, each with the answer that is wanted. -/
def guardsAt (n : Nat) (l : List Oper) : Option (List (Tmp × Bool)) :=
  (l.filter (fun o => o.guard.isSome)).mapM fun o => o.guard.bind fun p => ((l[p.1]?).bind (·.dst)).bind fun t => if t < n then some (t, p.2) else none
theorem mapM_mem {α β : Type} {f : α → Option β} : ∀ {l : List α} {gs : List β}, l.mapM f = some gs → ∀ x ∈ l, ∃ y, f x = some y ∧ y ∈ gs
  | [], _, _, x, hx => by cases hx
  | y :: l, gs, h, x, hx => by
    rw [List.mapM_cons] at h
    cases hy : f y with
    | none => rw [hy] at h; cases h
    | some z =>
      rw [hy] at h
      cases hl : l.mapM f with
      | none => rw [hl] at h; cases h
      | some zs =>
        rw [hl] at h
        obtain rfl : z :: zs = gs := by simpa using h
        rcases List.mem_cons.1 hx with rfl | h2
        · exact ⟨z, hy, by simp⟩
        · obtain ⟨u, h3, h4⟩ := mapM_mem hl x h2
          exact ⟨u, h3, by simp [h4]⟩
theorem guardsAt_at {m : Nat} {l : List Oper} {gs : List (Tmp × Bool)} (h : guardsAt m l = some gs) {i : Nat} {o : Oper} (hi : l[i]? = some o) {j : Nat} {want : Bool} (hg : o.guard = some (j, want)) :
    ∃ t, ((l[j]?).bind (·.dst)) = some t ∧ t < m ∧ (t, want) ∈ gs := by
  obtain ⟨y, h1, h2⟩ := mapM_mem h o (List.mem_filter.2 ⟨List.mem_of_getElem? hi, by simp [hg]⟩)
  rw [hg] at h1
  cases h3 : (l[j]?).bind (·.dst) with
  | none => simp [h3] at h1
  | some t =>
    simp only [Option.bind_some, h3] at h1
    split at h1
    · rename_i h4
      obtain rfl : (t, want) = y := by simpa using h1
      exact ⟨t, rfl, h4, h2⟩
    · cases h1

/-- **EVERY ORDER AT ONCE, each guard's answer known.** -/
theorem wp_region_eachG {id : Nat} {Q : Exit → Act → World → Prop} {a : Act} {w : World} {l : List Oper} (gs : List (Tmp × Bool)) (ds : List (Option Tmp)) (ts : List (List Tmp)) (φs : List (Value → World → Prop))
    (hm : P.follows .mixedOrders = true) (hB : depsB a.tmps.size l.toArray = true) (hg : guardsAt a.tmps.size l = some gs) (hds : l.map (·.dst) = ds) (hts : l.map (·.looksAt l.toArray) = ts)
    (Le : World → World → Prop) (F : World → Prop)
    (hrefl : ∀ W, F W → Le W W) (hF : ∀ W W', F W → Le W W' → F W') (hφ : Keeps Le F φs)
    (hG : ∀ p ∈ gs, ∃ φ, look ds φs p.1 = some φ ∧ ∀ v W, φ v W → v = .bool p.2)
    (h0 : F w.drew) (hO : Asks P Le F ds φs a l φs ts)
    (hend : ∀ (f : Tmp → Value) (W : World), F W → Ends f W ds φs → Q .normal (fin a (ds.filterMap (fun d => d)) f) W) : (Code.region id l.toArray true).wp P Q a w := by
  have hdsts : dsts l.toArray = ds.filterMap (fun d => d) := by rw [← hds]; unfold dsts; rw [List.filterMap_map]; rfl
  have hat : ∀ {i : Nat} {o : Oper} {t : Tmp} {φ : Value → World → Prop}, l[i]? = some o → o.dst = some t → φs[i]? = some φ → look ds φs t = some φ := by
    intro i o t φ hi hd hp
    refine look_at (i := i) (by rw [← hds, List.getElem?_map, hi]; simp [hd]) hp fun j hj => ?_
    rw [← hds, List.getElem?_map] at hj
    cases hlj : l[j]? with
    | none => rw [hlj] at hj; cases hj
    | some oj =>
      rw [hlj] at hj
      exact ((depsB_at hB (i := i) (o := o) (by simpa using hi)).1 t hd).2 j oj (by simpa using hlj) (by simpa using hj)
  refine wp_region_inv (Ψ := fun t => (look ds φs t).getD (fun _ _ => True)) (ds.filterMap (fun d => d)) ts hm hB hdsts hts Le F hrefl hF ?_ h0 ?_ ?_
  · intro t v W W' h1 h2 h3
    cases hl : look ds φs t with
    | none => simp
    | some φ =>
      simp only [hl, Option.getD_some] at h3 ⊢
      exact look_keeps hφ hl v W W' h1 h2 h3
  · refine obls_of fun i o hi => ?_
    obtain ⟨φ, t, h1, h2, h3⟩ := asks_at hO hi
    have ht : ts.getD i [] = t := by simp [h2]
    rw [ht]
    intro A W hF' hs
    refine ⟨fun _ => ?_, fun hw => ?_⟩
    case' refine_2 =>
      exfalso
      cases hgo : o.guard with
      | none => simp [Region.wanted, hgo] at hw
      | some p =>
        obtain ⟨j, want⟩ := p
        obtain ⟨t', h6, h7, h8⟩ := guardsAt_at hg hi hgo
        obtain ⟨φ', h9, h10⟩ := hG _ h8
        have hmem : t' ∈ t := by
          have h11 : o.looksAt l.toArray = t := by
            rw [← hts, List.getElem?_map, hi] at h2
            simpa using h2
          rw [← h11]
          unfold Oper.looksAt
          rw [hgo]
          simp [h6]
        have h11 := slots_mem hs t' hmem
        have h12 : t' ∈ ds.filterMap (fun d => d) := by
          rw [← hds, List.filterMap_map]
          cases hlj : l[j]? with
          | none => rw [hlj] at h6; cases h6
          | some oj =>
            rw [hlj] at h6
            exact List.mem_filterMap.2 ⟨oj, List.mem_of_getElem? hlj, by simpa using h6⟩
        unfold slot at h11
        rw [if_pos (by simpa using h12)] at h11
        simp only [h9, Option.getD_some] at h11
        have h13 := h10 _ _ h11
        dsimp only at h13
        have h14 : A.tmps[t']? = some (.bool want) := by
          simp only [Act.eval] at h13
          cases hq : A.tmps[t']? with
          | none =>
            exfalso
            have : A.tmps.size ≤ t' := by simpa using hq
            simp [Array.getD, Nat.not_lt.2 this, undef] at h13
          | some u =>
            have hlt : t' < A.tmps.size := (Array.getElem?_eq_some_iff.1 hq).1
            have : A.tmps[t'] = u := (Array.getElem?_eq_some_iff.1 hq).2
            simp [Array.getD, hlt, this] at h13
            rw [h13]
        have h15 : yielded l.toArray A.tmps j = some want := by
          unfold yielded
          have : (l.toArray[j]?).bind (·.dst) = some t' := by simpa using h6
          rw [this]
          simp [h14]
        simp [Region.wanted, hgo, h15] at hw
    case' refine_1 => skip
    have h4 := h3 A.eval W (Std.eval A) hF' (slotsAt_of fun u hu => by
      have h5 := slots_mem hs u hu
      unfold slot at h5
      unfold slotAt
      split at h5
      · rename_i hc
        cases hl : look ds φs u with
        | some φ' => simpa [hl] using h5
        | none =>
          exfalso
          have hmem : u ∈ dsts l.toArray := by rw [hdsts]; simpa using hc
          obtain ⟨j, oj, hj, hdj⟩ := mem_dsts.1 hmem
          obtain ⟨φj, _, hj1, _⟩ := asks_at hO (i := j) (o := oj) (by simpa using hj)
          rw [hat (by simpa using hj) hdj hj1] at hl
          cases hl
      · rename_i hc
        cases hl : look ds φs u with
        | none => exact h5
        | some φ' =>
          exfalso
          refine hc ?_
          have : u ∈ ds.filterMap (fun d => d) := by
            clear hc h5
            have aux : ∀ {ds : List (Option Tmp)} {φs : List (Value → World → Prop)}, look ds φs u = some φ' → some u ∈ ds := by
              intro ds
              induction ds with
              | nil => intro φs h; cases φs <;> cases h
              | cons d ds ih =>
                intro φs h
                cases φs with
                | nil => cases d <;> cases h
                | cons φ φs =>
                  cases d with
                  | none => exact List.mem_cons_of_mem _ (ih h)
                  | some d =>
                    unfold look at h
                    cases hb : Nat.beq d u
                    · rw [hb] at h; exact List.mem_cons_of_mem _ (ih h)
                    · have e : d = u := Nat.eq_of_beq_eq_true hb
                      rw [e]; exact List.mem_cons_self
            exact List.mem_filterMap.2 ⟨some u, aux hl, rfl⟩
          simpa using this)
    cases hd : o.dst with
    | none =>
      have e : ∀ v W, dstPost (fun t => (look ds φs t).getD (fun _ _ => True)) o v W := fun v W => by simp [dstPost, hd]
      generalize (execOp A.eval o).run P W = r at h4
      cases r with
      | ok nx W' =>
        cases nx <;> simp only [RelUpon] at h4 ⊢
        case value v => exact ⟨h4.1, e _ _⟩
        case skip => exact ⟨h4.1, e _ _⟩
        case enter f args => exact h4.mono fun _ _ ⟨v, h5, h6, _⟩ => ⟨v, h5, h6, e _ _⟩
      | halt x W' => simp only [RelUpon] at h4
    | some d =>
      have e : dstPost (fun t => (look ds φs t).getD (fun _ _ => True)) o = φ := by
        funext v W
        simp [dstPost, hd, hat hi hd h1]
      rw [e]; exact h4
  · intro f W hFW hall
    refine hend f W hFW (ends_of fun i t φ h1 h2 => ?_)
    have h3 := hall t (List.mem_filterMap.2 ⟨some t, List.mem_of_getElem? h1, rfl⟩)
    rw [← hds, List.getElem?_map] at h1
    cases hli : l[i]? with
    | none => rw [hli] at h1; cases h1
    | some o =>
      rw [hli] at h1
      rw [hat hli (by simpa using h1) h2] at h3
      exact h3
end
end Go.RegInv

namespace Go.Proofs.Ytmddnpagfgilcaa
open Go.RowKit Go.Shelf Go.Mem Go.RegInv
attribute [local go_sem] RelUpon_value RelUpon_skip RelUpon_enter BigFrame.eval_const BigFrame.eval_global BigFrame.eval_func
def errIf (b : Bool) (n : Int) : Int := if b then n else 0

theorem errorIf_any (b : Bool) (n : Int) (w : World) :
    Calls Try.prog 81 #[.bool b, .int .i64 n] w fun e w' => e = .returned (.int .i64 (errIf b n)) ∧ w = w' := by
  cases b
  all_goals
    go_enter Try.func81, Try.ntmps81
    go_wp2
    go_ret
    exact ⟨rfl, rfl⟩

def outB (lo hi n : Int) : Bool := decide (n < lo) || decide (hi < n)

theorem outside1 (n lo hi : Int) (a b : Addr) (w : World) (ha : w.cell? a = some (.int .i64 lo)) (hb : w.cell? b = some (.int .i64 hi)) :
    Calls Try.prog 117 #[.int .i64 n, .pointer (some a), .pointer (some b)] w fun e w' => e = .returned (.bool (outB lo hi n)) ∧ w = w' := by
  by_cases h1 : n < lo
  · go_enter Try.func117, Try.ntmps117
    go_wp2
    go_ret
    exact ⟨by simp [outB, h1], rfl⟩
  · by_cases h2 : hi < n
    all_goals
      go_enter Try.func117, Try.ntmps117
      go_wp2
      go_ret
      exact ⟨by simp [outB, h1, h2], rfl⟩

/-- The first index from k on at which p holds, or -1. -/
def idxFrom (p : Int → Bool) : List Int → Nat → Int
  | [], _ => -1
  | x :: l, k => if p x then k else idxFrom p l (k + 1)

theorem idxFrom_drop (p : Int → Bool) (xs : List Int) (k : Nat) (h : k < xs.length) :
    idxFrom p (xs.drop k) k = if p (xs.getD k 0) then (k : Int) else idxFrom p (xs.drop (k + 1)) (k + 1) := by
  rw [List.drop_eq_getElem_cons h, idxFrom]
  simp [h]

theorem idxFrom_any (p : Int → Bool) : ∀ (xs : List Int) (k : Nat), decide (0 ≤ idxFrom p xs k) = xs.any p
  | [], _ => rfl
  | x :: l, k => by
    rw [idxFrom, List.any_cons]
    by_cases h : p x = true
    · simp [h]
    · have h' : p x = false := by simpa using h
      simp [h', idxFrom_any p l (k + 1)]

theorem ret_int {a b : Int} (h : a = b) : Ending.returned (.int .i64 a) = .returned (.int .i64 b) := by rw [h]
theorem ret_bool {a b : Bool} (h : a = b) : Ending.returned (.bool a) = .returned (.bool b) := by rw [h]

set_option maxHeartbeats 400000 in
theorem indexFunc_out (v : Value) (lo hi : Int) (a b : Addr) (xs : List Int) (w : World) (hx : IntsAt w v xs) (ha : w.cell? a = some (.int .i64 lo)) (hb : w.cell? b = some (.int .i64 hi)) :
    Calls Try.prog 136 #[v, .func (.func 117) #[] #[.pointer (some a), .pointer (some b)]] w fun e w' => e = .returned (.int .i64 (idxFrom (outB lo hi) xs 0)) ∧ w = w' := by
  have HF := Lib.hid (fun n => outside1 n lo hi a b w ha hb)
  clear ha hb
  generalize outB lo hi = p at HF
  rcases hx with ⟨ao, cap, rfl, rfl⟩ | ⟨bl, o, cap, rfl, hbl, hm, hc⟩
  · go_enter Try.func136, Try.ntmps136
    go_wp2
    refine wp_loop_rounds 1 ?_
    rw [rounds_succ]
    go_wp2
    go_ret
    exact ⟨rfl, rfl⟩
  · have HC := Lib.hid hc
    clear hc
    go_enter Try.func136, Try.ntmps136
    go_wp2
    go_loop [8] (fun i => ∃ k : Nat, k ≤ xs.length ∧ i = .int .i64 k ∧ idxFrom p xs 0 = idxFrom p (xs.drop k) k) (fun i => xs.length - (intOf i).toNat)
    case atStart => exact ⟨0, Nat.zero_le _, rfl, rfl⟩
    case round =>
      obtain ⟨k, hk, rfl, hr⟩ := hrel
      have HR := Lib.hid hr
      clear hr
      by_cases hlt : k < xs.length
      · have hc := HC.out k hlt
        have HD := Lib.hid (idxFrom_drop p xs k hlt)
        generalize hxk : xs.getD k 0 = x at hc HD
        clear hxk
        cases hz : p x
        · have HZ := Lib.hid hz
          clear hz
          go_wp2_with (go_at_call 117; refine (HF.out _).mono ?_; rintro e w' ⟨rfl, rfl⟩; rw [HZ.out])
          go_round
          case rel => exact ⟨k + 1, by omega, by go_num, by rw [HR.out, HD.out, if_neg (by simp [HZ.out])]⟩
          case measure => simp [intOf]; omega
        · have HZ := Lib.hid hz
          clear hz
          go_wp2_with (go_at_call 117; refine (HF.out _).mono ?_; rintro e w' ⟨rfl, rfl⟩; rw [HZ.out])
          go_ret
          exact ⟨ret_int (by rw [HR.out, HD.out, if_pos HZ.out]), rfl⟩
      · have he : idxFrom p (xs.drop k) k = -1 := by rw [List.drop_of_length_le (by omega)]; rfl
        have HE := Lib.hid he
        clear he
        go_wp2
        go_ret
        exact ⟨ret_int (by rw [HR.out, HE.out]), rfl⟩

theorem containsFunc_out (v : Value) (lo hi : Int) (a b : Addr) (xs : List Int) (w : World) (hx : IntsAt w v xs) (ha : w.cell? a = some (.int .i64 lo)) (hb : w.cell? b = some (.int .i64 hi)) :
    Calls Try.prog 118 #[v, .func (.func 117) #[] #[.pointer (some a), .pointer (some b)]] w fun e w' => e = .returned (.bool (xs.any (outB lo hi))) ∧ w = w' := by
  have HC := Lib.hid (indexFunc_out v lo hi a b xs w hx ha hb)
  have HI := Lib.hid (idxFrom_any (outB lo hi) xs 0)
  clear ha hb hx
  generalize idxFrom (outB lo hi) xs 0 = n at HC HI
  go_enter Try.func118, Try.ntmps118
  go_wp2_with (go_at_call 136; refine HC.out.mono ?_; rintro e w' ⟨rfl, rfl⟩)
  go_ret
  exact ⟨ret_bool (by rw [← HI.out]), rfl⟩

def rangeE (lo hi : Int) (xs : List Int) : Int := errIf (xs.any (outB lo hi)) 2

theorem rangeError_any (lo hi : Int) (v : Value) (xs : List Int) (w : World) (hx : IntsAt w v xs) :
    Calls Try.prog 79 #[.int .i64 lo, .int .i64 hi, v] w fun e w' => e = .returned (.int .i64 (rangeE lo hi xs)) ∧ Ext w w' := by
  have e1 : Ext w ((w.alloc (.cells #[.int .i64 lo] 3)).alloc (.cells #[.int .i64 hi] 3)) := (Ext.alloc _ _).trans (Ext.alloc _ _)
  have HC := Lib.hid (containsFunc_out v lo hi ⟨w.heap.size, 0, none⟩ ⟨w.heap.size + 1, 0, none⟩ xs _ (hx.ext e1) (by go_simp) (by go_simp))
  have HR := Lib.hid (show rangeE lo hi xs = errIf (xs.any (outB lo hi)) 2 from rfl)
  clear hx
  generalize xs.any (outB lo hi) = c at HC HR
  go_enter Try.func79, Try.ntmps79
  go_wp2_with (first
    | (go_at_call 118; refine HC.out.mono ?_; rintro e w' ⟨rfl, rfl⟩)
    | (go_at_call 81; refine (errorIf_any _ _ _).mono ?_; rintro e w' ⟨rfl, rfl⟩))
  go_ret
  exact ⟨ret_int HR.out.symm, e1⟩

/-- The first number that is not 0. -/
def firstE : List Int → Int
  | [] => 0
  | x :: l => if x ≠ 0 then x else firstE l

theorem firstE_drop (xs : List Int) (k : Nat) (h : k < xs.length) : firstE (xs.drop k) = if xs.getD k 0 ≠ 0 then xs.getD k 0 else firstE (xs.drop (k + 1)) := by
  rw [List.drop_eq_getElem_cons h, firstE]
  simp [h]

set_option maxHeartbeats 400000 in
theorem firstOf_any (v : Value) (xs : List Int) (w : World) (hx : IntsAt w v xs) :
    Calls Try.prog 78 #[v] w fun e w' => e = .returned (.int .i64 (firstE xs)) ∧ w = w' := by
  rcases hx with ⟨ao, cap, rfl, rfl⟩ | ⟨bl, o, cap, rfl, hbl, hm, hc⟩
  · go_enter Try.func78, Try.ntmps78
    go_wp2
    refine wp_loop_rounds 1 ?_
    rw [rounds_succ]
    go_wp2
    go_ret
    exact ⟨rfl, rfl⟩
  · have HC := Lib.hid hc
    clear hc
    go_enter Try.func78, Try.ntmps78
    go_wp2
    go_loop [7] (fun i => ∃ k : Nat, k ≤ xs.length ∧ i = .int .i64 k ∧ firstE xs = firstE (xs.drop k)) (fun i => xs.length - (intOf i).toNat)
    case atStart => exact ⟨0, Nat.zero_le _, rfl, rfl⟩
    case round =>
      obtain ⟨k, hk, rfl, hr⟩ := hrel
      have HR := Lib.hid hr
      clear hr
      by_cases hlt : k < xs.length
      · have hc := HC.out k hlt
        have HD := Lib.hid (firstE_drop xs k hlt)
        generalize hxk : xs.getD k 0 = x at hc HD
        clear hxk
        by_cases hz : x = 0
        · have hz' : (x != 0) = false := by simp [hz]
          have HZ := Lib.hid hz
          clear hz
          go_wp2
          go_round
          case rel => exact ⟨k + 1, by omega, by go_num, by rw [HR.out, HD.out, if_neg (by simp [HZ.out])]⟩
          case measure => simp [intOf]; omega
        · have hz' : (x != 0) = true := by simp [hz]
          have HZ := Lib.hid hz
          clear hz
          go_wp2
          go_ret
          exact ⟨ret_int (by rw [HR.out, HD.out, if_pos HZ.out]), rfl⟩
      · have he : firstE (xs.drop k) = 0 := by rw [List.drop_of_length_le (by omega)]; rfl
        have HE := Lib.hid he
        clear he
        go_wp2
        go_ret
        exact ⟨ret_int (by rw [HR.out, HE.out]), rfl⟩

def Ints (xs : List Int) : Value → World → Prop := fun u W => IntsAt W u xs

theorem rangeE_zeros {lo hi : Int} {xs : List Int} (h : rangeE lo hi xs = 0) : ∀ x ∈ xs, lo ≤ x ∧ x ≤ hi := by
  intro x hx
  unfold rangeE errIf at h
  split at h
  · cases h
  · rename_i h1
    have h2 : ∀ y ∈ xs, outB lo hi y = false := by simpa using h1
    have := h2 x hx
    simp [outB] at this
    omega
theorem firstE_zero {xs : List Int} (h : firstE xs = 0) : ∀ x ∈ xs, x = 0 := by
  induction xs with
  | nil => intro x hx; cases hx
  | cons a l ih =>
    intro x hx
    rw [firstE] at h
    split at h
    · rename_i h1; exact absurd h h1
    · rename_i h1
      rcases List.mem_cons.1 hx with rfl | h2
      · simpa using h1
      · exact ih h x h2
end Go.Proofs.Ytmddnpagfgilcaa

namespace Go.Proofs.Ytmddnpagfgilcaa

/-- Pascal's triangle. -/
def pas : Nat → Nat → Nat
  | _, 0 => 1
  | 0, _ + 1 => 0
  | n + 1, k + 1 => pas n k + pas n (k + 1)
theorem pas_zero (n : Nat) : pas n 0 = 1 := by cases n <;> rfl
theorem pas_succ (n k : Nat) : pas (n + 1) (k + 1) = pas n k + pas n (k + 1) := rfl
theorem pas_big : ∀ (n k : Nat), n < k → pas n k = 0
  | 0, 0, h => by omega
  | 0, _ + 1, _ => rfl
  | n + 1, 0, h => by omega
  | n + 1, k + 1, h => by rw [pas_succ, pas_big n k (by omega), pas_big n (k + 1) (by omega)]
theorem pas_mul : ∀ (n k : Nat), (k + 1) * pas n (k + 1) = (n - k) * pas n k
  | 0, 0 => by simp [pas]
  | 0, k + 1 => by simp [pas]
  | n + 1, 0 => by
    have h := pas_mul n 0
    rw [pas_zero] at h ⊢
    rw [pas_succ, pas_zero]
    omega
  | n + 1, k + 1 => by
    have h1 := pas_mul n k
    have h2 := pas_mul n (k + 1)
    rw [pas_succ, pas_succ]
    rcases Nat.lt_or_ge n (k + 1) with h | h
    · rw [pas_big n (k + 1) h, pas_big n (k + 1 + 1) (by omega)]
      rw [show n + 1 - (k + 1) = 0 by omega]
      simp
    · obtain ⟨d, rfl⟩ : ∃ d, n = k + 1 + d := ⟨n - (k + 1), by omega⟩
      rw [show k + 1 + d + 1 - (k + 1) = d + 1 by omega]
      rw [show k + 1 + d - k = d + 1 by omega] at h1
      rw [show k + 1 + d - (k + 1) = d by omega] at h2
      generalize pas (k + 1 + d) k = a at *
      generalize pas (k + 1 + d) (k + 1) = b at *
      generalize pas (k + 1 + d) (k + 1 + 1) = c at *
      grind
theorem pas_le : ∀ (n k : Nat), pas n k ≤ 2 ^ n
  | 0, 0 => by simp [pas]
  | 0, k + 1 => by simp [pas]
  | n + 1, 0 => by rw [pas_zero]; exact Nat.one_le_two_pow
  | n + 1, k + 1 => by
    have h1 := pas_le n k
    have h2 := pas_le n (k + 1)
    rw [pas_succ, Nat.pow_succ]
    omega
theorem pas_le30 {n : Nat} (k : Nat) (h : n ≤ 30) : pas n k ≤ 1073741824 :=
  Nat.le_trans (pas_le n k) (Nat.le_trans (Nat.pow_le_pow_right (by decide) h) (by decide))
/-- One step of the product formula. -/
theorem pas_step (n k : Nat) : ((pas n k : Nat) : Int) * ((n : Int) - (k : Int)) = ((k : Int) + 1) * ((pas n (k + 1) : Nat) : Int) := by
  rcases Nat.lt_or_ge n k with h | h
  · rw [pas_big n k h, pas_big n (k + 1) (by omega)]
    simp
  · have e := congrArg (Nat.cast (R := Int)) (pas_mul n k)
    rw [Int.natCast_mul, Int.natCast_mul, Int.natCast_add, Int.natCast_sub h] at e
    rw [Int.mul_comm, ← e]
    rfl
theorem pas_div (n k : Nat) : ((k : Int) + 1) * ((pas n (k + 1) : Nat) : Int) / ((k : Int) + 1) = ((pas n (k + 1) : Nat) : Int) :=
  Int.mul_ediv_cancel_left _ (by omega)

/-- So many ways with just n hits. -/
def term (t T n : Nat) : Nat := pas T n * t ^ n * (10 - t) ^ (T - n)
theorem term_succ (t T n : Nat) : term t (T + 1) (n + 1) = t * term t T n + (10 - t) * term t T (n + 1) := by
  unfold term
  rw [pas_succ, show T + 1 - (n + 1) = T - n by omega]
  rcases Nat.lt_or_ge T (n + 1) with h | h
  · rw [pas_big T (n + 1) h, Nat.pow_succ]
    generalize (10 - t) ^ (T - n) = a
    generalize t ^ n = b
    generalize pas T n = c
    grind
  · rw [show T - n = (T - (n + 1)) + 1 by omega, Nat.pow_succ, Nat.pow_succ]
    generalize (10 - t) ^ (T - (n + 1)) = a
    generalize t ^ n = b
    generalize pas T n = c
    generalize pas T (n + 1) = d
    generalize 10 - t = q
    grind
theorem term_zero (t T : Nat) : term t (T + 1) 0 = (10 - t) * term t T 0 := by
  unfold term
  rw [pas_zero, pas_zero, Nat.sub_zero, Nat.sub_zero, Nat.pow_succ, Nat.pow_zero]
  generalize (10 - t) ^ T = a
  generalize 10 - t = q
  grind
theorem term_big (t T n : Nat) (h : T < n) : term t T n = 0 := by unfold term; rw [pas_big T n h]; simp
/-- The sum of so many of them, from k hits on. -/
def tl (t T k : Nat) : Nat → Nat
  | 0 => 0
  | m + 1 => tl t T k m + term t T (k + m)
theorem tl_shift (t T k : Nat) : ∀ m, tl t T k (m + 1) = term t T k + tl t T (k + 1) m
  | 0 => by simp [tl]
  | m + 1 => by
    have := tl_shift t T k m
    rw [tl, this, tl, show k + 1 + m = k + (m + 1) by omega]
    omega
theorem tl_succ (t T k : Nat) : ∀ m, tl t (T + 1) (k + 1) m = t * tl t T k m + (10 - t) * tl t T (k + 1) m
  | 0 => by simp [tl]
  | m + 1 => by
    rw [tl, tl, tl, tl_succ t T k m, show k + 1 + m = (k + m) + 1 by omega, term_succ]
    generalize tl t T k m = a
    generalize tl t T (k + 1) m = b
    generalize term t T (k + m) = c
    generalize term t T (k + m + 1) = d
    generalize 10 - t = q
    grind
/-- The ways of at least k hits, trial by trial. -/
def fw (t : Nat) : Nat → Nat → Nat
  | 0, 0 => 1
  | 0, _ + 1 => 0
  | T + 1, k => t * fw t T (k - 1) + (10 - t) * fw t T k
theorem fw_succ (t T k : Nat) : fw t (T + 1) k = t * fw t T (k - 1) + (10 - t) * fw t T k := rfl
theorem tl_fw (t : Nat) : ∀ (T k m : Nat), T + 1 - k ≤ m → tl t T k m = fw t T k
  | 0, 0, m, h => by
    obtain ⟨m, rfl⟩ : ∃ d, m = d + 1 := ⟨m - 1, by omega⟩
    have z : ∀ m, tl t 0 1 m = 0 := by
      intro m
      induction m with
      | zero => rfl
      | succ m ih => rw [tl, ih, term_big _ _ _ (by omega)]
    rw [tl_shift, z]
    simp [term, pas, fw]
  | 0, k + 1, m, _ => by
    have z : ∀ m, tl t 0 (k + 1) m = 0 := by
      intro m
      induction m with
      | zero => rfl
      | succ m ih => rw [tl, ih, term_big _ _ _ (by omega)]
    rw [z]; rfl
  | T + 1, k + 1, m, h => by
    rw [tl_succ, tl_fw t T k m (by omega), tl_fw t T (k + 1) m (by omega), fw_succ]
    rfl
  | T + 1, 0, m, h => by
    obtain ⟨m, rfl⟩ : ∃ d, m = d + 1 := ⟨m - 1, by omega⟩
    have e1 := tl_fw t T 0 m (by omega)
    have e2 := tl_fw t T 0 (m + 1) (by omega)
    rw [tl_shift] at e2
    rw [tl_shift, tl_succ, term_zero, fw_succ, ← e2]
    rw [e1.trans e2.symm]
    generalize tl t T (0 + 1) m = b
    generalize term t T 0 = c
    generalize 10 - t = q
    grind
theorem fw_zero (t : Nat) (ht : t ≤ 10) : ∀ T, fw t T 0 = 10 ^ T
  | 0 => rfl
  | T + 1 => by
    rw [fw_succ, Nat.zero_sub, fw_zero t ht T, ← Nat.add_mul, show t + (10 - t) = 10 by omega, Nat.pow_succ, Nat.mul_comm]
theorem fw_big (t : Nat) : ∀ T k, T < k → fw t T k = 0
  | 0, 0, h => by omega
  | 0, _ + 1, _ => rfl
  | T + 1, k, h => by rw [fw_succ, fw_big t T (k - 1) (by omega), fw_big t T k (by omega)]; simp
theorem fw_anti (t : Nat) : ∀ T k, fw t T (k + 1) ≤ fw t T k
  | 0, k => by rw [fw_big t 0 (k + 1) (by omega)]; exact Nat.zero_le _
  | T + 1, k => by
    rw [fw_succ, fw_succ, Nat.add_sub_cancel]
    refine Nat.add_le_add (Nat.mul_le_mul_left _ ?_) (Nat.mul_le_mul_left _ (fw_anti t T k))
    cases k with
    | zero => exact Nat.le_refl _
    | succ k => exact fw_anti t T k
theorem fw_le (t : Nat) (ht : t ≤ 10) (T : Nat) : ∀ k, fw t T k ≤ 10 ^ T
  | 0 => by rw [fw_zero t ht]; exact Nat.le_refl _
  | k + 1 => Nat.le_trans (fw_anti t T k) (fw_le t ht T k)
/-- A term, and the product of its first two parts, are small. -/
theorem term_le (t : Nat) (ht : t ≤ 10) (T n : Nat) : term t T n ≤ 10 ^ T := by
  have h := tl_fw t T n (T + 1 - n + 1) (by omega)
  rw [tl_shift] at h
  exact Nat.le_trans (by omega) (fw_le t ht T n)
theorem head_le (t : Nat) (ht : t ≤ 10) : ∀ T n, pas T n * t ^ n ≤ 11 ^ T
  | T, 0 => by rw [pas_zero, Nat.pow_zero]; exact Nat.one_le_pow _ _ (by decide)
  | 0, n + 1 => by rw [pas_big 0 (n + 1) (by omega)]; simp
  | T + 1, n + 1 => by
    have h1 := head_le t ht T n
    have h2 := head_le t ht T (n + 1)
    rw [pas_succ, Nat.add_mul, Nat.pow_succ, Nat.pow_succ 11]
    rw [Nat.pow_succ] at h2
    have h3 : pas T n * (t ^ n * t) ≤ 11 ^ T * 10 := by rw [← Nat.mul_assoc]; exact Nat.mul_le_mul h1 ht
    omega
theorem tl_le (t : Nat) (ht : t ≤ 10) (T k m : Nat) : tl t T k m ≤ 10 ^ T := by
  have h : ∀ m j, tl t T k m ≤ tl t T k (m + j) := by
    intro m j
    induction j with
    | zero => exact Nat.le_refl _
    | succ j ih => exact Nat.le_trans ih (Nat.le_add_right _ _)
  have h1 := h m (T + 1)
  rw [tl_fw t T k (m + (T + 1)) (by omega)] at h1
  exact Nat.le_trans h1 (fw_le t ht T k)

/-- The greatest share of at most n tenths that is rare enough. -/
def shr (T h r : Nat) : Nat → Option Nat
  | 0 => if 1000 * fw 0 T h ≤ r * 10 ^ T then some 0 else none
  | n + 1 => if 1000 * fw (n + 1) T h ≤ r * 10 ^ T then some (n + 1) else shr T h r n
theorem pow15 {T : Nat} (h : T ≤ 15) : 10 ^ T ≤ 1000000000000000 := Nat.le_trans (Nat.pow_le_pow_right (by decide) h) (by decide)
theorem pow15b {T : Nat} (h : T ≤ 15) : 11 ^ T ≤ 4177248169415651 := Nat.le_trans (Nat.pow_le_pow_right (by decide) h) (by decide)

end Go.Proofs.Ytmddnpagfgilcaa

namespace Go.Proofs.Ytmddnpagfgilcaa

theorem pas_mono (n k : Nat) : pas n k ≤ pas (n + 1) k := by
  cases k with
  | zero => rw [pas_zero, pas_zero]; exact Nat.le_refl _
  | succ k => rw [pas_succ]; exact Nat.le_add_left _ _
theorem pas_mul_le (c j : Nat) : ∀ (b k : Nat), pas b k * pas c j ≤ pas (b + c) (k + j)
  | 0, 0 => by simp [pas_zero]
  | 0, k + 1 => by rw [pas_big 0 (k + 1) (by omega)]; simp
  | b + 1, 0 => by
    have h := pas_mul_le c j b 0
    rw [pas_zero] at h ⊢
    rw [show b + 1 + c = b + c + 1 by omega]
    exact Nat.le_trans h (pas_mono _ _)
  | b + 1, k + 1 => by
    have h1 := pas_mul_le c j b k
    have h2 := pas_mul_le c j b (k + 1)
    rw [show b + 1 + c = b + c + 1 by omega, show k + 1 + j = k + j + 1 by omega, pas_succ, pas_succ, Nat.add_mul]
    rw [show k + 1 + j = k + j + 1 by omega] at h2
    omega
theorem pas_pos : ∀ (n k : Nat), k ≤ n → 1 ≤ pas n k
  | n, 0, _ => by rw [pas_zero]; exact Nat.le_refl _
  | 0, k + 1, h => by omega
  | n + 1, k + 1, h => by rw [pas_succ]; have := pas_pos n k (by omega); omega

/-- How many samples of s parts have at most a bad ones; b of b + c parts are bad. -/
def vs (b c s : Nat) : Nat → Nat
  | 0 => 0
  | a + 1 => vs b c s a + pas b a * (if a ≤ s then pas c (s - a) else 0)
theorem vs_succ (b c s a : Nat) : vs b c s (a + 1) = vs b c s a + pas b a * (if a ≤ s then pas c (s - a) else 0) := rfl
theorem vs_in {b c s a : Nat} (h : a ≤ s) : vs b c s (a + 1) = vs b c s a + pas b a * pas c (s - a) := by rw [vs_succ, if_pos h]
/-- One bad part less: the difference. -/
theorem vs_diff (b c s : Nat) : ∀ a, vs b (c + 1) (s + 1) (a + 1) = vs (b + 1) c (s + 1) (a + 1) + (if a ≤ s then pas b a * pas c (s - a) else 0)
  | 0 => by
    rw [vs_in (Nat.zero_le _), vs_in (Nat.zero_le _), pas_zero, pas_zero, Nat.sub_zero, pas_succ, if_pos (Nat.zero_le _), Nat.sub_zero]
    simp only [vs]
    omega
  | a + 1 => by
    have ih := vs_diff b c s a
    rw [vs_succ _ _ _ (a + 1), vs_succ _ _ _ (a + 1), ih]
    rcases Nat.lt_or_ge s a with h | h
    · rw [if_neg (by omega), if_neg (by omega), if_neg (by omega), if_neg (by omega)]; omega
    · rw [if_pos h, if_pos (by omega), if_pos (by omega), pas_succ]
      rw [show s + 1 - (a + 1) = s - a by omega]
      rcases Nat.lt_or_ge s (a + 1) with h1 | h1
      · obtain rfl : a = s := by omega
        rw [if_neg (by omega), Nat.sub_self, pas_zero, pas_zero, Nat.add_mul]
        omega
      · rw [if_pos h1, show s - a = s - (a + 1) + 1 by omega, pas_succ]
        generalize pas c (s - (a + 1)) = x
        generalize pas c (s - (a + 1) + 1) = y
        generalize pas b a = u
        generalize pas b (a + 1) = v
        grind
theorem vs_none (c s : Nat) : ∀ a, vs 0 c s (a + 1) = pas c s
  | 0 => by rw [vs_in (Nat.zero_le _), pas_zero]; simp [vs]
  | a + 1 => by rw [vs_succ, vs_none c s a, pas_big 0 (a + 1) (by omega)]; simp
theorem vs_full (s : Nat) (hs : 1 ≤ s) : ∀ (b c : Nat), vs b c s (s + 1) = pas (b + c) s
  | 0, c => by rw [vs_none, Nat.zero_add]
  | b + 1, c => by
    obtain ⟨s, rfl⟩ : ∃ d, s = d + 1 := ⟨s - 1, by omega⟩
    have h := vs_diff b c s (s + 1)
    rw [if_neg (by omega), vs_full (s + 1) hs b (c + 1)] at h
    rw [show b + 1 + c = b + (c + 1) by omega]
    omega
theorem vs_mono (b c s a : Nat) : ∀ d, vs b c s a ≤ vs b c s (a + d)
  | 0 => Nat.le_refl _
  | d + 1 => Nat.le_trans (vs_mono b c s a d) (Nat.le_add_right _ _)
theorem vs_le {b c s a : Nat} (hs : 1 ≤ s) (h : a ≤ s + 1) : vs b c s a ≤ pas (b + c) s := by
  obtain ⟨d, hd⟩ : ∃ d, a + d = s + 1 := ⟨s + 1 - a, by omega⟩
  rw [← vs_full s hs, ← hd]
  exact vs_mono b c s a d
/-- The rows of Pascal's triangle, and that none of the first 31 is great. -/
def rowOf : Nat → List Nat
  | 0 => [1]
  | n + 1 => let r := rowOf n; List.zipWith (· + ·) (0 :: r) (r ++ [0])
theorem pas_row : ∀ n k, (rowOf n).getD k 0 = pas n k ∧ (rowOf n).length = n + 1
  | 0, 0 => ⟨rfl, rfl⟩
  | 0, k + 1 => ⟨rfl, rfl⟩
  | n + 1, k => by
    have hl : (rowOf (n + 1)).length = n + 1 + 1 := by
      have := (pas_row n 0).2
      simp [rowOf, this]
    refine ⟨?_, hl⟩
    have l0 := (pas_row n 0).2
    have h1 : ∀ k, (rowOf n ++ [0]).getD k 0 = pas n k := by
      intro k
      rw [← (pas_row n k).1]
      simp only [List.getD_eq_getElem?_getD, List.getElem?_append]
      split
      · rfl
      · rename_i h
        rw [List.getElem?_eq_none (l := rowOf n) (by omega)]
        rcases Nat.eq_zero_or_pos (k - (rowOf n).length) with h2 | h2
        · rw [h2]; rfl
        · rw [List.getElem?_eq_none (l := [0]) (by simp; omega)]
    rcases Nat.lt_or_ge k (n + 2) with h | h
    · have e : (rowOf (n + 1)).getD k 0 = (0 :: rowOf n).getD k 0 + (rowOf n ++ [0]).getD k 0 := by
        rw [rowOf]
        simp only [List.getD_eq_getElem?_getD, List.getElem?_zipWith]
        rw [List.getElem?_eq_getElem (show k < (0 :: rowOf n).length by simp; omega), List.getElem?_eq_getElem (show k < (rowOf n ++ [0]).length by simp; omega)]
        rfl
      rw [e, h1]
      cases k with
      | zero => simp [pas_zero]
      | succ k =>
        rw [pas_succ, ← (pas_row n k).1]
        rfl
    · rw [List.getD_eq_getElem?_getD, List.getElem?_eq_none (by omega), pas_big _ _ (by omega)]
      rfl
theorem rows_small : ∀ n, n < 31 → ∀ x ∈ rowOf n, x ≤ 155117520 := by decide +kernel
theorem pas_small {n : Nat} (k : Nat) (h : n ≤ 30) : pas n k ≤ 155117520 := by
  rcases Nat.lt_or_ge n k with h1 | h1
  · rw [pas_big n k h1]; exact Nat.zero_le _
  · obtain ⟨e, l⟩ := pas_row n k
    rw [← e, List.getD_eq_getElem?_getD, List.getElem?_eq_getElem (by omega)]
    exact rows_small n (by omega) _ (List.getElem_mem _)

end Go.Proofs.Ytmddnpagfgilcaa

namespace Go.Proofs.Ytmddnpagfgilcaa
open Go.RowKit Go.Shelf Go.Mem Go.RegInv
attribute [local go_sem] RelUpon_value RelUpon_skip RelUpon_enter BigFrame.eval_const BigFrame.eval_global BigFrame.eval_func

theorem wrap_id (x : Int) (h1 : -9223372036854775808 ≤ x) (h2 : x ≤ 9223372036854775807) : IntKind.i64.wrap x = x := IntWalk.i64_in x ⟨h1, h2⟩

set_option maxRecDepth 100000 in
set_option maxHeartbeats 400000 in
theorem chosen_any (n m : Nat) (hn : n ≤ 30) (hm : m ≤ 40) (w : World) :
    Calls Try.prog 130 #[.int .i64 n, .int .i64 m] w fun e w' => e = .returned (.int .i64 (pas n m : Nat)) ∧ w = w' := by
  go_enter Try.func130, Try.ntmps130
  go_wp2
  go_loop [5, 8] (fun u i => ∃ k : Nat, k ≤ m ∧ i = .int .i64 k ∧ u = .int .i64 (pas n k : Nat)) (fun _ i => m - (intOf i).toNat)
  case atStart => exact ⟨0, Nat.zero_le _, rfl, by rw [pas_zero]; rfl⟩
  case round =>
    obtain ⟨k, hk, rfl, rfl⟩ := hrel
    by_cases hlt : k < m
    · have h1 := pas_step n k
      have h2 := pas_div n k
      have b1 := pas_le30 k hn
      have b2 := pas_le30 (k + 1) hn
      rw [← h1] at h2
      have c0 : 0 ≤ ((pas n k : Nat) : Int) * ((n : Int) - (k : Int)) := by rw [h1]; exact Int.mul_nonneg (by omega) (by omega)
      have c1 : ((pas n k : Nat) : Int) * ((n : Int) - (k : Int)) ≤ 100 * 1073741824 := by rw [h1]; exact Int.mul_le_mul (by omega) (by omega) (by omega) (by omega)
      have H2 := Lib.hid h2
      clear h1 h2 b2
      generalize pas n k = p at *
      go_wp2
      go_round
      case rel => exact ⟨k + 1, by omega, by go_num, by rw [H2.out]⟩
      case measure => simp [intOf]; omega
    · obtain rfl : k = m := by omega
      go_wp2
      go_ret
      exact ⟨rfl, rfl⟩

set_option maxRecDepth 100000 in
set_option maxHeartbeats 400000 in
theorem power_any (b m : Nat) (hb : b ≤ 10) (hm : m ≤ 15) (w : World) :
    Calls Try.prog 104 #[.int .i64 b, .int .i64 m] w fun e w' => e = .returned (.int .i64 (b ^ m : Nat)) ∧ w = w' := by
  go_enter Try.func104, Try.ntmps104
  go_wp2
  go_loop [5, 7] (fun u i => ∃ k : Nat, k ≤ m ∧ i = .int .i64 k ∧ u = .int .i64 (b ^ k : Nat)) (fun _ i => m - (intOf i).toNat)
  case atStart => exact ⟨0, Nat.zero_le _, rfl, rfl⟩
  case round =>
    obtain ⟨k, hk, rfl, rfl⟩ := hrel
    by_cases hlt : k < m
    · have h1 : ((b ^ (k + 1) : Nat) : Int) = ((b ^ k : Nat) : Int) * (b : Int) := by rw [Nat.pow_succ, Int.natCast_mul]
      have h2 : b ^ (k + 1) ≤ 1000000000000000 := Nat.le_trans (Nat.pow_le_pow_left hb _) (pow15 (by omega))
      have c0 : 0 ≤ ((b ^ k : Nat) : Int) * (b : Int) := by rw [← h1]; omega
      have c1 : ((b ^ k : Nat) : Int) * (b : Int) ≤ 1000000000000000 := by rw [← h1]; omega
      have H1 := Lib.hid h1
      clear h1 h2
      generalize b ^ k = p at *
      go_wp2
      go_round
      case rel => exact ⟨k + 1, by omega, by go_num, by rw [H1.out]⟩
      case measure => simp [intOf]; omega
    · obtain rfl : k = m := by omega
      go_wp2
      go_ret
      exact ⟨rfl, rfl⟩

theorem term_cast (t T n : Nat) : ((term t T n : Nat) : Int) = ((pas T n : Nat) : Int) * ((t ^ n : Nat) : Int) * (((10 - t) ^ (T - n) : Nat) : Int) := by
  unfold term; rw [Int.natCast_mul, Int.natCast_mul]
set_option maxRecDepth 100000 in
set_option maxHeartbeats 400000 in
theorem ways_any (T h t : Nat) (hT : T ≤ 15) (hh : h ≤ T) (ht : t ≤ 10) (w : World) :
    Calls Try.prog 102 #[.int .i64 T, .int .i64 h, .int .i64 t] w fun e w' => e = .returned (.int .i64 (fw t T h : Nat)) ∧ w = w' := by
  have HE := Lib.hid (tl_fw t T h (T + 1 - h) (Nat.le_refl _))
  go_enter Try.func102, Try.ntmps102
  go_wp2
  go_loop [7, 8] (fun u i => ∃ n : Nat, h ≤ n ∧ n ≤ T + 1 ∧ i = .int .i64 n ∧ u = .int .i64 (tl t T h (n - h) : Nat)) (fun _ i => T + 1 - (intOf i).toNat)
  case atStart => exact ⟨h, Nat.le_refl _, by omega, rfl, by rw [Nat.sub_self]; rfl⟩
  case round =>
    obtain ⟨n, hn, hn1, rfl, rfl⟩ := hrel
    by_cases hlt : n ≤ T
    · have HP := Lib.hid (fun W => power_any t n ht (by omega) W)
      have HQ := Lib.hid (fun W => show Calls Try.prog 104 #[.int .i64 (10 - (t : Int)), .int .i64 ((T : Int) - (n : Int))] W fun e w' => e = .returned (.int .i64 ((10 - t) ^ (T - n) : Nat)) ∧ W = w' from by
        have := power_any (10 - t) (T - n) (by omega) (by omega) W
        rw [Int.natCast_sub ht, Int.natCast_sub hlt] at this
        exact this)
      have HC := Lib.hid (fun W => chosen_any T n (by omega) (by omega) W)
      have h1 := term_cast t T n
      have h2 := Nat.le_trans (term_le t ht T n) (pow15 hT)
      have h3 := Nat.le_trans (head_le t ht T n) (pow15b hT)
      have h4 := Nat.le_trans (tl_le t ht T h (n - h)) (pow15 hT)
      have h5 : tl t T h (n + 1 - h) = tl t T h (n - h) + term t T n := by rw [show n + 1 - h = (n - h) + 1 by omega, tl, show h + (n - h) = n by omega]
      have c0 : 0 ≤ ((pas T n : Nat) : Int) * ((t ^ n : Nat) : Int) := Int.mul_nonneg (by omega) (by omega)
      have c1 : ((pas T n : Nat) : Int) * ((t ^ n : Nat) : Int) ≤ 4177248169415651 := by rw [← Int.natCast_mul]; omega
      have c2 : 0 ≤ ((pas T n : Nat) : Int) * ((t ^ n : Nat) : Int) * (((10 - t) ^ (T - n) : Nat) : Int) := by rw [← h1]; omega
      have c3 : ((pas T n : Nat) : Int) * ((t ^ n : Nat) : Int) * (((10 - t) ^ (T - n) : Nat) : Int) ≤ 1000000000000000 := by rw [← h1]; omega
      have H5 : Hid (((tl t T h (n + 1 - h) : Nat) : Int) = ((tl t T h (n - h) : Nat) : Int) + ((pas T n : Nat) : Int) * ((t ^ n : Nat) : Int) * (((10 - t) ^ (T - n) : Nat) : Int)) := Lib.hid (by rw [h5, Int.natCast_add, h1])
      clear h1 h2 h3 h5
      generalize pas T n = c at *
      generalize t ^ n = p at *
      generalize (10 - t) ^ (T - n) = q at *
      generalize tl t T h (n - h) = z at *
      go_wp2_with (first
        | (go_at_call 130; refine (HC.out _).mono ?_; rintro e w' ⟨rfl, rfl⟩)
        | (go_at_call 104; (with_reducible refine (HP.out _).mono ?_); rintro e w' ⟨rfl, rfl⟩)
        | (go_at_call 104; (with_reducible refine (HQ.out _).mono ?_); rintro e w' ⟨rfl, rfl⟩))
      go_round
      case rel => exact ⟨n + 1, by omega, by omega, by go_num, by rw [H5.out]⟩
      case measure => simp [intOf]; omega
    · have hgt : T < n := by omega
      have hle : ¬ (n : Int) ≤ (T : Int) := by omega
      have HN := Lib.hid (show n - h = T + 1 - h by omega)
      go_wp2
      go_ret
      exact ⟨ret_int (by rw [HN.out, HE.out]), rfl⟩

end Go.Proofs.Ytmddnpagfgilcaa

namespace Go.Proofs.Ytmddnpagfgilcaa
open Go.RowKit Go.Shelf Go.Mem Go.RegInv
attribute [local go_sem] RelUpon_value RelUpon_skip RelUpon_enter BigFrame.eval_const BigFrame.eval_global BigFrame.eval_func

theorem info_parts {P : Program} {T : TypeId} {z : Value} {s b : Nat} (h : (P.info? T).map (fun i => (i.zero, i.size, i.bytes)) = some (some z, s, b)) : ∃ i, P.info? T = some i ∧ i.zero = some z ∧ i.size = s ∧ i.bytes = b := by
  rcases hi : P.info? T with _ | i
  · rw [hi] at h; cases h
  · rw [hi] at h
    simp at h
    exact ⟨i, rfl, h.1, h.2.1, h.2.2⟩
def withinB (x lo hi : Int) : Bool := decide (lo ≤ x) && decide (x ≤ hi)
theorem within_any (x lo hi : Int) (w : World) : Calls Try.prog 20 #[.int .i64 x, .int .i64 lo, .int .i64 hi] w fun e w' => e = .returned (.bool (withinB x lo hi)) ∧ w = w' := by
  by_cases h1 : lo ≤ x
  all_goals
    go_enter Try.func20, Try.ntmps20
    go_wp2
    go_ret
    exact ⟨by simp [withinB, h1] <;> omega, rfl⟩

def studyE (T h : Int) : Int := firstE [rangeE 1 15 [T], rangeE 0 T [h]]
theorem studyError_any (T h : Int) (w : World) : Calls Try.prog 101 #[.int .i64 T, .int .i64 h] w fun e w' => e = .returned (.int .i64 (studyE T h)) ∧ Ext w w' := by
  go_enter Try.func101, Try.ntmps101
  go_wp2_with (go_at_call 79; refine (rangeError_any 1 15 _ [T] _ (ints_new _ [T] _ (by simp))).mono ?_; rintro e W1 ⟨rfl, hx⟩; have X1 := Lib.hid hx; clear hx; refine Hid.out ?_)
  refine Lib.hid ?_
  go_wp2_with (go_at_call 79; refine (rangeError_any 0 T _ [h] _ (ints_new _ [h] _ (by simp))).mono ?_; rintro e W2 ⟨rfl, hx⟩; have X2 := Lib.hid hx; clear hx; refine Hid.out ?_)
  refine Lib.hid ?_
  go_wp2_with (go_at_call 78; refine (firstOf_any _ [rangeE 1 15 [T], rangeE 0 T [h]] _ (ints_new _ [_, _] _ (by simp))).mono ?_; rintro e w' ⟨rfl, rfl⟩)
  go_ret
  exact ⟨rfl, (Ext.alloc _ _).trans (X1.out.trans ((Ext.alloc _ _).trans (X2.out.trans (Ext.alloc _ _))))⟩
def riskE (r : Int) : Int := rangeE 0 999 [r]
theorem riskError_any (r : Int) (w : World) : Calls Try.prog 103 #[.int .i64 r] w fun e w' => e = .returned (.int .i64 (riskE r)) ∧ Ext w w' := by
  go_enter Try.func103, Try.ntmps103
  go_wp2_with (go_at_call 79; refine (rangeError_any 0 999 _ [r] _ (ints_new _ [r] _ (by simp))).mono ?_; rintro e W1 ⟨rfl, hx⟩; have X1 := Lib.hid hx; clear hx)
  go_ret
  exact ⟨rfl, (Ext.alloc _ _).trans X1.out⟩

theorem study_ok {T h : Int} (e : studyE T h = 0) : 1 ≤ T ∧ T ≤ 15 ∧ 0 ≤ h ∧ h ≤ T := by
  have h1 := rangeE_zeros (firstE_zero e (rangeE 1 15 [T]) (by simp)) T (by simp)
  have h2 := rangeE_zeros (firstE_zero e (rangeE 0 T [h]) (by simp)) h (by simp)
  exact ⟨h1.1, h1.2, h2.1, h2.2⟩
end Go.Proofs.Ytmddnpagfgilcaa

namespace Go.Proofs.Ytmddnpagfgilcaa
open Go.RowKit Go.Shelf Go.Mem Go.RegInv
attribute [local go_sem] RelUpon_value RelUpon_skip RelUpon_enter BigFrame.eval_const BigFrame.eval_global BigFrame.eval_func

end Go.Proofs.Ytmddnpagfgilcaa

namespace Go.Proofs.Ytmddnpagfgilcaa
open Go.RowKit Go.Shelf Go.Mem Go.RegInv
attribute [local go_sem] RelUpon_value RelUpon_skip RelUpon_enter BigFrame.eval_const BigFrame.eval_global BigFrame.eval_func

theorem withinB_eq (x lo hi : Int) : withinB x lo hi = decide (lo ≤ x ∧ x ≤ hi) := by simp [withinB]
theorem rangeE_one (lo hi x : Int) : rangeE lo hi [x] = if withinB x lo hi = true then 0 else 2 := by
  unfold rangeE errIf withinB outB
  by_cases h1 : lo ≤ x <;> by_cases h2 : x ≤ hi <;> simp [h1, h2] <;> omega
/-- A number that may be missing. -/
def optE (o : Option Nat) : Int := if o.isSome then 0 else 12
def optV (o : Option Nat) : Int := ((o.getD 0 : Nat) : Int)
theorem shr_step (T h r n : Nat) : shr T h r n = if 1000 * fw n T h ≤ r * 10 ^ T then some n else if n = 0 then none else shr T h r (n - 1) := by
  cases n with
  | zero => rfl
  | succ n => rw [shr]; simp

def lowE (T h r : Int) : Int := firstE [studyE T h, riskE r]
def lowS (T h r : Int) : Option Nat := shr T.toNat h.toNat r.toNat 10
set_option maxRecDepth 100000 in
set_option maxHeartbeats 1000000 in
theorem lowerShare_loop (T h r : Nat) (hT : T ≤ 15) (hh : h ≤ T) (hr : r ≤ 999) (hz : lowE T h r = 0) (w : World) :
    Calls Try.prog 54 #[.int .i64 T, .int .i64 h, .int .i64 r] w fun e w' => e = .returned (.tuple #[.int .i64 (optV (shr T h r 10)), .int .i64 (optE (shr T h r 10))]) ∧ Ext w w' := by
  have HZ := Lib.hid (show firstE [studyE T h, riskE r] = 0 from hz)
  have HA := Lib.hid (fun W => power_any 10 T (by decide) hT W)
  have HF := Lib.hid (fun t (ht : t ≤ 10) W => ways_any T h t hT hh ht W)
  have HS := Lib.hid (shr_step T h r)
  have HL := Lib.hid (fun t (ht : t ≤ 10) => Nat.le_trans (fw_le t ht T h) (pow15 hT))
  have a1 := pow15 hT
  have a2 : ((r : Int)) * ((10 ^ T : Nat) : Int) = ((r * 10 ^ T : Nat) : Int) := by rw [Int.natCast_mul]
  have a3 : r * 10 ^ T ≤ 999 * 1000000000000000 := Nat.mul_le_mul hr a1
  have A2 := Lib.hid a2
  have k0 : 0 ≤ (r : Int) * ((10 ^ T : Nat) : Int) := Int.mul_nonneg (by omega) (Int.natCast_nonneg _)
  have k1 : (r : Int) * ((10 ^ T : Nat) : Int) ≤ 999 * 1000000000000000 := by rw [a2]; omega
  clear a2 a3 hz
  generalize 10 ^ T = p at *
  generalize hso : shr T h r 10 = so at *
  have HSO := Lib.hid hso
  clear hso
  go_enter Try.func54, Try.ntmps54
  go_wp2_with (go_at_call 101; refine (studyError_any T h _).mono ?_; rintro e W1 ⟨rfl, hx⟩; have X1 := Lib.hid hx; clear hx; refine Hid.out ?_)
  refine Lib.hid ?_
  go_wp2_with (go_at_call 103; refine (riskError_any r _).mono ?_; rintro e W2 ⟨rfl, hx⟩; have X2 := Lib.hid (X1.out.trans hx); clear hx X1; refine Hid.out ?_)
  refine Lib.hid ?_
  go_wp2_with (first
    | (go_at_call 78; refine (firstOf_any _ [studyE T h, riskE r] _ (ints_new _ [_, _] _ (by simp))).mono ?_; rintro e w' ⟨rfl, rfl⟩; rw [HZ.out])
    | (go_at_call 104; refine (HA.out _).mono ?_; rintro e w' ⟨rfl, rfl⟩))
  have X3 := Lib.hid (X2.out.trans (Ext.alloc W2 (.cells #[.int .i64 (studyE T h), .int .i64 (riskE r)] 27)))
  clear X2
  go_loopw [10] (fun i wr => ((∃ n : Nat, n ≤ 10 ∧ i = .int .i64 n ∧ so = shr T h r n) ∨ (i = .int .i64 (-1) ∧ so = none)) ∧ Ext w wr) (fun i _ => (intOf i + 1).toNat)
  case atStart => exact ⟨.inl ⟨10, Nat.le_refl _, rfl, HSO.out.symm⟩, X3.out⟩
  case round =>
    obtain ⟨⟨n, hn, rfl, hs⟩ | ⟨rfl, hs⟩, hx⟩ := hrel
    · have S := Lib.hid (hs.trans (HS.out n))
      have X := Lib.hid hx
      have b1 := HL.out n hn
      have HW := Lib.hid (fun W => HF.out n hn W)
      clear hs hx
      generalize fw n T h = f at *
      by_cases hc : 1000 * f ≤ r * p
      · have hc2 : 1000 * (f : Int) ≤ (r : Int) * (p : Int) := by rw [← Int.natCast_mul]; omega
        have S2 := Lib.hid (S.out.trans (if_pos hc))
        clear hc S
        go_wp2_with (go_at_call 102; refine (HW.out _).mono ?_; rintro e w' ⟨rfl, rfl⟩)
        go_ret2
        exact ⟨by rw [S2.out]; rfl, X.out⟩
      · have hc2 : ¬ 1000 * (f : Int) ≤ (r : Int) * (p : Int) := by rw [← Int.natCast_mul]; omega
        have S2 := Lib.hid (S.out.trans (if_neg hc))
        clear hc S
        go_wp2_with (go_at_call 102; refine (HW.out _).mono ?_; rintro e w' ⟨rfl, rfl⟩)
        go_roundw
        case rel =>
          refine ⟨?_, X.out⟩
          rcases Nat.eq_zero_or_pos n with h0 | h0
          · exact .inr ⟨by rw [h0]; rfl, by rw [S2.out, if_pos h0]⟩
          · exact .inl ⟨n - 1, by omega, by congr 1; omega, by rw [S2.out, if_neg (by omega)]⟩
        case measure => simp [intOf]
    · have S := Lib.hid hs
      have X := Lib.hid hx
      clear hs hx
      go_wp2
      go_ret2
      exact ⟨by rw [S.out]; rfl, X.out⟩
set_option maxRecDepth 100000 in
theorem lowerShare_bad (T h r : Int) (hz : lowE T h r ≠ 0) (w : World) :
    Calls Try.prog 54 #[.int .i64 T, .int .i64 h, .int .i64 r] w fun e w' => e = .returned (.tuple #[.int .i64 0, .int .i64 (lowE T h r)]) ∧ Ext w w' := by
  have HZ := Lib.hid (show firstE [studyE T h, riskE r] = lowE T h r from rfl)
  have hz2 : (lowE T h r != 0) = true := by simp [hz]
  generalize lowE T h r = z at *
  go_enter Try.func54, Try.ntmps54
  go_wp2_with (go_at_call 101; refine (studyError_any T h _).mono ?_; rintro e W1 ⟨rfl, hx⟩; have X1 := Lib.hid hx; clear hx; refine Hid.out ?_)
  refine Lib.hid ?_
  go_wp2_with (go_at_call 103; refine (riskError_any r _).mono ?_; rintro e W2 ⟨rfl, hx⟩; have X2 := Lib.hid (X1.out.trans hx); clear hx X1; refine Hid.out ?_)
  refine Lib.hid ?_
  go_wp2_with (go_at_call 78; refine (firstOf_any _ [studyE T h, riskE r] _ (ints_new _ [_, _] _ (by simp))).mono ?_; rintro e w' ⟨rfl, rfl⟩; rw [HZ.out])
  go_ret2
  exact ⟨rfl, X2.out.trans (Ext.alloc _ _)⟩
theorem low_ok {T h r : Int} (e : lowE T h r = 0) : 1 ≤ T ∧ T ≤ 15 ∧ 0 ≤ h ∧ h ≤ T ∧ 0 ≤ r ∧ r ≤ 999 := by
  obtain ⟨h1, h2, h3, h4⟩ := study_ok (firstE_zero e (studyE T h) (by simp))
  have h5 := rangeE_zeros (firstE_zero e (riskE r) (by simp)) r (by simp)
  exact ⟨h1, h2, h3, h4, h5.1, h5.2⟩
def lowF (T h r : Int) : Int := if lowE T h r = 0 then optV (lowS T h r) else 0
def lowG (T h r : Int) : Int := if lowE T h r = 0 then optE (lowS T h r) else lowE T h r
theorem lowerShare_any (T h r : Int) (w : World) :
    Calls Try.prog 54 #[.int .i64 T, .int .i64 h, .int .i64 r] w fun e w' => e = .returned (.tuple #[.int .i64 (lowF T h r), .int .i64 (lowG T h r)]) ∧ Ext w w' := by
  unfold lowF lowG
  by_cases hz : lowE T h r = 0
  · rw [if_pos hz, if_pos hz]
    obtain ⟨h1, h2, h3, h4, h5, h6⟩ := low_ok hz
    have e1 : ((T.toNat : Nat) : Int) = T := Int.toNat_of_nonneg (by omega)
    have e2 : ((h.toNat : Nat) : Int) = h := Int.toNat_of_nonneg (by omega)
    have e3 : ((r.toNat : Nat) : Int) = r := Int.toNat_of_nonneg (by omega)
    have := lowerShare_loop T.toNat h.toNat r.toNat (by omega) (by omega) (by omega) (by rw [e1, e2, e3]; exact hz) w
    rw [e1, e2, e3] at this
    exact this
  · rw [if_neg hz, if_neg hz]
    exact lowerShare_bad T h r hz w

end Go.Proofs.Ytmddnpagfgilcaa

namespace Go.Proofs.Ytmddnpagfgilcaa
open Go.RowKit Go.Shelf Go.Mem Go.RegInv
attribute [local go_sem] RelUpon_value RelUpon_skip RelUpon_enter BigFrame.eval_const BigFrame.eval_global BigFrame.eval_func

def Big (x : Int) : Prop := -1000000000000000000 ≤ x ∧ x ≤ 1000000000000000000
theorem gcd_step (d n : Int) (_hn : n ≠ 0) : Nat.gcd n.natAbs (d.tmod n).natAbs = Nat.gcd d.natAbs n.natAbs := by
  rw [Int.natAbs_tmod, Nat.gcd_comm, ← Nat.gcd_rec, Nat.gcd_comm]

theorem tmod_bd {d n : Int} (h : Big d) (hn : n ≠ 0) : -1000000000000000000 ≤ d.tmod n ∧ d.tmod n ≤ 1000000000000000000 ∧ (d.tmod n).natAbs < n.natAbs := by
  have h1 : (d.tmod n).natAbs < n.natAbs := by rw [Int.natAbs_tmod]; exact Nat.mod_lt _ (by omega)
  have h2 : (d.tmod n).natAbs ≤ d.natAbs := by rw [Int.natAbs_tmod]; exact Nat.mod_le _ _
  unfold Big at h
  omega

theorem wrap_tdiv {x m : Int} (h : Big x) : IntKind.i64.wrap (x.tdiv m) = x.tdiv m := by
  have := Int.natAbs_tdiv_le_natAbs x m
  unfold Big at h
  exact IntWalk.i64_in _ (by omega)

theorem size_any (a : Int) (ha : Big a) (w : World) : Calls Try.prog 131 #[.int .i64 a] w fun e w' => e = .returned (.int .i64 (a.natAbs : Int)) ∧ w = w' := by
  have h : -1000000000000000000 ≤ a ∧ a ≤ 1000000000000000000 := ha
  clear ha
  obtain ⟨h1, h2⟩ := h
  go_enter Try.func131, Try.ntmps131
  go_wp2
  all_goals go_ret
  all_goals exact ⟨ret_int (by omega), rfl⟩

theorem gcd_any (a b : Int) (ha : Big a) (hb : Big b) (w : World) : Calls Try.prog 111 #[.int .i64 a, .int .i64 b] w fun e w' => e = .returned (.int .i64 (Nat.gcd a.natAbs b.natAbs : Int)) ∧ Ext w w' := by
  have HA := Lib.hid ha
  have HB := Lib.hid hb
  obtain ⟨g, hg⟩ : ∃ g, g = Nat.gcd a.natAbs b.natAbs := ⟨_, rfl⟩
  rw [← hg]
  have HG := Lib.hid hg
  clear ha hb hg
  go_enter Try.func111, Try.ntmps111
  go_wp2
  go_loopw [0, 1] (fun d m w2 => ∃ (d2 n2 : Int), d = .int .i64 d2 ∧ m = .int .i64 n2 ∧ Nat.gcd d2.natAbs n2.natAbs = g ∧ Big d2 ∧ Big n2 ∧ Ext w w2) (fun _ m _ => (intOf m).natAbs)
  case atStart => exact ⟨a, b, rfl, rfl, HG.out.symm, HA.out, HB.out, Ext.refl _⟩
  case round =>
    obtain ⟨d2, n2, rfl, rfl, hg2, hd2, hn2, he2⟩ := hrel
    by_cases hz : n2 = 0
    · subst hz
      have HG2 := Lib.hid (show d2.natAbs = g by rw [← hg2]; simp)
      have HS := Lib.hid (size_any d2 hd2)
      clear hg2 hd2 hn2
      go_wp2_with (go_at_call 131; refine (HS.out _).mono ?_; rintro e w' ⟨rfl, rfl⟩)
      go_ret
      exact ⟨ret_int (by rw [HG2.out]), he2⟩
    · have HG2 := Lib.hid ((gcd_step d2 n2 hz).trans hg2)
      have hm : -1000000000000000000 ≤ d2.tmod n2 ∧ d2.tmod n2 ≤ 1000000000000000000 ∧ (d2.tmod n2).natAbs < n2.natAbs := tmod_bd hd2 hz
      have hwr : IntKind.i64.wrap (d2.tmod n2) = d2.tmod n2 := IntWalk.i64_in _ (by omega)
      have hz' : (n2 == 0) = false := by simp [hz]
      have hz2 : (n2 != 0) = true := by simp [hz]
      have HN2 := Lib.hid hn2
      have HM := Lib.hid hm
      have HZ := Lib.hid hz
      clear hg2 hd2 hn2 hm
      go_wp2
      go_quiet (fail)
      go_wp2
      go_roundw
      case rel => exact ⟨n2, d2.tmod n2, rfl, rfl, HG2.out, HN2.out, ⟨HM.out.1, HM.out.2.1⟩, he2.trans (Ext.drewN _ _)⟩
      case measure => exact HM.out.2.2

theorem divisor_any (a b : Int) (ha : Big a) (hb : Big b) (w : World) : Calls Try.prog 137 #[.int .i64 a, .int .i64 b] w fun e w' => e = .returned (.int .i64 (Nat.gcd a.natAbs b.natAbs : Int)) ∧ Ext w w' := by
  have HA := Lib.hid ha
  have HB := Lib.hid hb
  obtain ⟨g, hg⟩ : ∃ g, g = Nat.gcd a.natAbs b.natAbs := ⟨_, rfl⟩
  rw [← hg]
  have HG := Lib.hid hg
  clear ha hb hg
  go_enter Try.func137, Try.ntmps137
  go_wp2
  go_loopw [0, 1] (fun d m w2 => ∃ (d2 n2 : Int), d = .int .i64 d2 ∧ m = .int .i64 n2 ∧ Nat.gcd d2.natAbs n2.natAbs = g ∧ Big d2 ∧ Big n2 ∧ Ext w w2) (fun _ m _ => (intOf m).natAbs)
  case atStart => exact ⟨a, b, rfl, rfl, HG.out.symm, HA.out, HB.out, Ext.refl _⟩
  case round =>
    obtain ⟨d2, n2, rfl, rfl, hg2, hd2, hn2, he2⟩ := hrel
    by_cases hz : n2 = 0
    · subst hz
      have HG2 := Lib.hid (show d2.natAbs = g by rw [← hg2]; simp)
      have hd3 : -1000000000000000000 ≤ d2 ∧ d2 ≤ 1000000000000000000 := hd2
      obtain ⟨hd4, hd5⟩ := hd3
      clear hg2 hd2 hn2
      go_wp2
      all_goals go_ret
      all_goals exact ⟨ret_int (by rw [← HG2.out]; omega), he2⟩
    · have HG2 := Lib.hid ((gcd_step d2 n2 hz).trans hg2)
      have hm : -1000000000000000000 ≤ d2.tmod n2 ∧ d2.tmod n2 ≤ 1000000000000000000 ∧ (d2.tmod n2).natAbs < n2.natAbs := tmod_bd hd2 hz
      have hwr : IntKind.i64.wrap (d2.tmod n2) = d2.tmod n2 := IntWalk.i64_in _ (by omega)
      have hz' : (n2 == 0) = false := by simp [hz]
      have hz2 : (n2 != 0) = true := by simp [hz]
      have HN2 := Lib.hid hn2
      have HM := Lib.hid hm
      have HZ := Lib.hid hz
      clear hg2 hd2 hn2 hm
      go_wp2
      go_quiet (fail)
      go_wp2
      go_roundw
      case rel => exact ⟨n2, d2.tmod n2, rfl, rfl, HG2.out, HN2.out, ⟨HM.out.1, HM.out.2.1⟩, he2.trans (Ext.drewN _ _)⟩
      case measure => exact HM.out.2.2

theorem gcd_pos {a b : Int} (hb : 0 < b) (hB : b ≤ 1000000000000000000) : 1 ≤ Nat.gcd a.natAbs b.natAbs ∧ (Nat.gcd a.natAbs b.natAbs : Int) ≤ 1000000000000000000 := by
  have h1 : Nat.gcd a.natAbs b.natAbs ≠ 0 := by rw [Ne, Nat.gcd_eq_zero_iff]; omega
  have := Nat.le_of_dvd (by omega) (Nat.gcd_dvd_right a.natAbs b.natAbs)
  omega
def lowT (a b : Int) : Int × Int := (a.tdiv (Nat.gcd a.natAbs b.natAbs), b.tdiv (Nat.gcd a.natAbs b.natAbs))

set_option maxRecDepth 100000 in
theorem lowest_any (a b : Int) (ha : Big a) (hb : 0 < b) (hB : Big b) (w : World) : Calls Try.prog 74 #[.int .i64 a, .int .i64 b] w fun e w' => e = .returned (.agg #[.int .i64 (lowT a b).1, .int .i64 (lowT a b).2]) ∧ Ext w w' := by
  have HG := Lib.hid (fun W => gcd_any a b ha hB W)
  have hg1 := gcd_pos (a := a) hb hB.2
  have HWA := Lib.hid (wrap_tdiv (m := (Nat.gcd a.natAbs b.natAbs : Int)) ha)
  have HWB := Lib.hid (wrap_tdiv (m := (Nat.gcd a.natAbs b.natAbs : Int)) hB)
  show Calls Try.prog 74 #[.int .i64 a, .int .i64 b] w fun e w' => e = .returned (.agg #[.int .i64 (a.tdiv (Nat.gcd a.natAbs b.natAbs)), .int .i64 (b.tdiv (Nat.gcd a.natAbs b.natAbs))]) ∧ Ext w w'
  generalize Nat.gcd a.natAbs b.natAbs = g at *
  have hd : decide (b < 0) = false := by simp; omega
  clear ha hB
  go_enter Try.func74, Try.ntmps74
  go_wp2_with (go_at_call 111; refine (HG.out _).mono ?_; rintro e W1 ⟨rfl, hx⟩; have B1 := (Blk.newAt w 32 #[.int .i64 0, .int .i64 0] (g := w.heap.size) rfl).ext hx)
  have X1 := Lib.hid ((Ext.alloc _ _).trans hx)
  clear hx
  refine wp_region_part 7 [some 13, some 14, some 15, some 16, some 17, some 18, some 19] [[0], [5], [13, 14], [1], [5], [16, 17], [15, 18]]
    [Is (.int .i64 (a)), Is (.int .i64 ((g : Int))), Is (.int .i64 (a.tdiv g)), Is (.int .i64 (b)), Is (.int .i64 ((g : Int))), Is (.int .i64 (b.tdiv g)), Is (.agg #[.int .i64 (a.tdiv g), .int .i64 (b.tdiv g)])]
    (by kernel_rfl) (by kernel_rfl) (by kernel_rfl) (by kernel_rfl) (by kernel_rfl) (by kernel_rfl) (by kernel_rfl) Ext (fun W => Ext W1 W)
    (fun W _ => Ext.refl W) (fun W W' h k => h.trans k) ?_ (Ext.drew _) ?_ ?_
  · repeat (refine ⟨fun _ _ _ _ k h => (by first | exact h | exact (IntsAt.ext h k)), ?_⟩)
    exact trivial
  · refine ⟨?_, ?_, ?_, ?_, ?_, ?_, ?_, trivial⟩
    all_goals intro ρ W ⟨kc, kg, kf⟩ hF hs
    · obtain ⟨h0, -⟩ := hs
      replace h0 : ρ (.tmp 0) = .int .i64 (a) := h0
      go_simp
      exact ⟨Ext.refl _, rfl⟩
    · obtain ⟨h0, -⟩ := hs
      replace h0 : ρ (.tmp 5) = .int .i64 ((g : Int)) := h0
      go_simp
      exact ⟨Ext.refl _, rfl⟩
    · obtain ⟨h0, h1, -⟩ := hs
      replace h0 : ρ (.tmp 13) = .int .i64 (a) := h0
      replace h1 : ρ (.tmp 14) = .int .i64 ((g : Int)) := h1
      have hq : IntKind.i64.wrap (a.tdiv g) = a.tdiv g := HWA.out
      have hm2 : ¬ g = 0 := by omega
      go_simp
      exact ⟨Ext.refl _, rfl⟩
    · obtain ⟨h0, -⟩ := hs
      replace h0 : ρ (.tmp 1) = .int .i64 (b) := h0
      go_simp
      exact ⟨Ext.refl _, rfl⟩
    · obtain ⟨h0, -⟩ := hs
      replace h0 : ρ (.tmp 5) = .int .i64 ((g : Int)) := h0
      go_simp
      exact ⟨Ext.refl _, rfl⟩
    · obtain ⟨h0, h1, -⟩ := hs
      replace h0 : ρ (.tmp 16) = .int .i64 (b) := h0
      replace h1 : ρ (.tmp 17) = .int .i64 ((g : Int)) := h1
      have hq : IntKind.i64.wrap (b.tdiv g) = b.tdiv g := HWB.out
      have hm2 : ¬ g = 0 := by omega
      go_simp
      exact ⟨Ext.refl _, rfl⟩
    · obtain ⟨h0, h1, -⟩ := hs
      replace h0 : ρ (.tmp 15) = .int .i64 (a.tdiv g) := h0
      replace h1 : ρ (.tmp 18) = .int .i64 (b.tdiv g) := h1
      go_simp
      exact ⟨Ext.refl _, rfl⟩
  · intro fv W2 hF hs
    obtain ⟨-, -, -, -, -, -, h19, -⟩ := hs
    replace h19 : fv 19 = .agg #[.int .i64 (a.tdiv g), .int .i64 (b.tdiv g)] := h19
    simp only [fin, List.filterMap]
    go_simp
    have B2 := B1.ext hF
    have X2 := Lib.hid (X1.out.trans hF)
    have f0 := B2.free 0
    have f1 := B2.free 1
    clear hF
    have c0 := B2.cell 0
    have c1 := B2.cell 1
    simp only [List.getElem?_toArray, List.getElem?_cons_zero, List.getElem?_cons_succ] at c0 c1
    go_wp2
    exact bodyPost_ret (v := .agg #[.int .i64 (a.tdiv g), .int .i64 (b.tdiv g)]) (by simp [results, Try.f74, go_sem, c0, c1]) rfl ⟨rfl, Ext.set (Ext.set X2.out (by dsimp only; omega) _) (by dsimp only; omega) _⟩

set_option maxRecDepth 100000 in
theorem lowestP_any (a b : Int) (ha : Big a) (hb : 0 < b) (hB : Big b) (w : World) : Calls Try.prog 123 #[.int .i64 a, .int .i64 b] w fun e w' => e = .returned (.agg #[.int .i64 (lowT a b).1, .int .i64 (lowT a b).2]) ∧ Ext w w' := by
  have HG := Lib.hid (fun W => divisor_any a b ha hB W)
  have hg1 := gcd_pos (a := a) hb hB.2
  have HWA := Lib.hid (wrap_tdiv (m := (Nat.gcd a.natAbs b.natAbs : Int)) ha)
  have HWB := Lib.hid (wrap_tdiv (m := (Nat.gcd a.natAbs b.natAbs : Int)) hB)
  show Calls Try.prog 123 #[.int .i64 a, .int .i64 b] w fun e w' => e = .returned (.agg #[.int .i64 (a.tdiv (Nat.gcd a.natAbs b.natAbs)), .int .i64 (b.tdiv (Nat.gcd a.natAbs b.natAbs))]) ∧ Ext w w'
  generalize Nat.gcd a.natAbs b.natAbs = g at *
  have hd : decide (b < 0) = false := by simp; omega
  clear ha hB
  go_enter Try.func123, Try.ntmps123
  go_wp2_with (go_at_call 137; refine (HG.out _).mono ?_; rintro e W1 ⟨rfl, hx⟩; have B1 := (Blk.newAt w 32 #[.int .i64 0, .int .i64 0] (g := w.heap.size) rfl).ext hx)
  have X1 := Lib.hid ((Ext.alloc _ _).trans hx)
  clear hx
  refine wp_region_part 7 [some 9, some 10, some 11, some 12, some 13, some 14, some 15] [[0], [5], [9, 10], [1], [5], [12, 13], [11, 14]]
    [Is (.int .i64 (a)), Is (.int .i64 ((g : Int))), Is (.int .i64 (a.tdiv g)), Is (.int .i64 (b)), Is (.int .i64 ((g : Int))), Is (.int .i64 (b.tdiv g)), Is (.agg #[.int .i64 (a.tdiv g), .int .i64 (b.tdiv g)])]
    (by kernel_rfl) (by kernel_rfl) (by kernel_rfl) (by kernel_rfl) (by kernel_rfl) (by kernel_rfl) (by kernel_rfl) Ext (fun W => Ext W1 W)
    (fun W _ => Ext.refl W) (fun W W' h k => h.trans k) ?_ (Ext.drew _) ?_ ?_
  · repeat (refine ⟨fun _ _ _ _ k h => (by first | exact h | exact (IntsAt.ext h k)), ?_⟩)
    exact trivial
  · refine ⟨?_, ?_, ?_, ?_, ?_, ?_, ?_, trivial⟩
    all_goals intro ρ W ⟨kc, kg, kf⟩ hF hs
    · obtain ⟨h0, -⟩ := hs
      replace h0 : ρ (.tmp 0) = .int .i64 (a) := h0
      go_simp
      exact ⟨Ext.refl _, rfl⟩
    · obtain ⟨h0, -⟩ := hs
      replace h0 : ρ (.tmp 5) = .int .i64 ((g : Int)) := h0
      go_simp
      exact ⟨Ext.refl _, rfl⟩
    · obtain ⟨h0, h1, -⟩ := hs
      replace h0 : ρ (.tmp 9) = .int .i64 (a) := h0
      replace h1 : ρ (.tmp 10) = .int .i64 ((g : Int)) := h1
      have hq : IntKind.i64.wrap (a.tdiv g) = a.tdiv g := HWA.out
      have hm2 : ¬ g = 0 := by omega
      go_simp
      exact ⟨Ext.refl _, rfl⟩
    · obtain ⟨h0, -⟩ := hs
      replace h0 : ρ (.tmp 1) = .int .i64 (b) := h0
      go_simp
      exact ⟨Ext.refl _, rfl⟩
    · obtain ⟨h0, -⟩ := hs
      replace h0 : ρ (.tmp 5) = .int .i64 ((g : Int)) := h0
      go_simp
      exact ⟨Ext.refl _, rfl⟩
    · obtain ⟨h0, h1, -⟩ := hs
      replace h0 : ρ (.tmp 12) = .int .i64 (b) := h0
      replace h1 : ρ (.tmp 13) = .int .i64 ((g : Int)) := h1
      have hq : IntKind.i64.wrap (b.tdiv g) = b.tdiv g := HWB.out
      have hm2 : ¬ g = 0 := by omega
      go_simp
      exact ⟨Ext.refl _, rfl⟩
    · obtain ⟨h0, h1, -⟩ := hs
      replace h0 : ρ (.tmp 11) = .int .i64 (a.tdiv g) := h0
      replace h1 : ρ (.tmp 14) = .int .i64 (b.tdiv g) := h1
      go_simp
      exact ⟨Ext.refl _, rfl⟩
  · intro fv W2 hF hs
    obtain ⟨-, -, -, -, -, -, h15, -⟩ := hs
    replace h15 : fv 15 = .agg #[.int .i64 (a.tdiv g), .int .i64 (b.tdiv g)] := h15
    simp only [fin, List.filterMap]
    go_simp
    have B2 := B1.ext hF
    have X2 := Lib.hid (X1.out.trans hF)
    have f0 := B2.free 0
    have f1 := B2.free 1
    clear hF
    have c0 := B2.cell 0
    have c1 := B2.cell 1
    simp only [List.getElem?_toArray, List.getElem?_cons_zero, List.getElem?_cons_succ] at c0 c1
    go_wp2
    exact bodyPost_ret (v := .agg #[.int .i64 (a.tdiv g), .int .i64 (b.tdiv g)]) (by simp [results, Try.f123, go_sem, c0, c1]) rfl ⟨rfl, Ext.set (Ext.set X2.out (by dsimp only; omega) _) (by dsimp only; omega) _⟩

theorem floor_unique {n b q : Int} (hb : 0 < b) (h1 : q * b ≤ n) (h2 : n < (q + 1) * b) : n / b = q := by
  have a := Int.le_ediv_of_mul_le hb h1
  have c := Int.ediv_lt_of_lt_mul hb h2
  omega

/-- Go's quotient of a negative number, and what is left of it. -/
theorem neg_parts {n b : Int} (hb : 0 < b) (hn : n < 0) : ∃ q r, n.tdiv b = q ∧ n.tmod b = r ∧ r ≤ 0 ∧ -b < r ∧ n = q * b + r ∧ n ≤ q ∧ q ≤ 0 := by
  obtain ⟨a, ha⟩ : ∃ a, n = -a := ⟨-n, by omega⟩
  have ha0 : 0 ≤ a := by omega
  subst ha
  refine ⟨-(a / b), -(a % b), ?_, ?_, ?_, ?_, ?_, ?_, ?_⟩
  · rw [Int.neg_tdiv, Int.tdiv_eq_ediv_of_nonneg ha0]
  · rw [Int.neg_tmod, Int.tmod_eq_emod_of_nonneg ha0]
  · have := Int.emod_nonneg a (show b ≠ 0 by omega); omega
  · have := Int.emod_lt_of_pos a hb; omega
  · have := Int.emod_add_mul_ediv a b
    rw [Int.neg_mul, Int.mul_comm (a / b) b]; omega
  · have := Int.ediv_le_self b ha0; omega
  · have := Int.ediv_nonneg ha0 (show 0 ≤ b by omega); omega

set_option maxHeartbeats 1000000 in
theorem floor_any (n b : Int) (hb : 0 < b ∧ b ≤ 5000000000000000000) (hn : -5000000000000000000 ≤ n ∧ n ≤ 5000000000000000000) (w : World) :
    Calls Try.prog 30 #[.int .i64 n, .int .i64 b] w fun e w' => e = .returned (.int .i64 (n / b)) ∧ w = w' := by
  obtain ⟨hb1, hb2⟩ := hb
  obtain ⟨hn1, hn2⟩ := hn
  by_cases h0 : 0 ≤ n
  · have h1 := Int.emod_nonneg n (show b ≠ 0 by omega)
    have h2 := Int.ediv_nonneg h0 (show 0 ≤ b by omega)
    have h3 := Int.ediv_le_self b h0
    have h4 : decide (n % b < 0) = false := by simp; omega
    go_enter Try.func30, Try.ntmps30
    go_wp2
    go_ret
    exact ⟨rfl, rfl⟩
  · obtain ⟨q, r, hq, hr, r0, rb, he, hnq, hq0⟩ := neg_parts hb1 (show n < 0 by omega)
    by_cases hrz : r = 0
    · have HF := Lib.hid (show n / b = q from floor_unique hb1 (by omega) (by rw [Int.add_mul, Int.one_mul]; omega))
      have hd : decide (r < 0) = false := by simp; omega
      generalize n / b = s at *
      clear he hrz
      go_enter Try.func30, Try.ntmps30
      go_wp2
      go_ret
      exact ⟨ret_int HF.out.symm, rfl⟩
    · have HF := Lib.hid (show n / b = q - 1 from floor_unique hb1 (by rw [Int.sub_mul, Int.one_mul]; omega) (by rw [show q - 1 + 1 = q by omega]; omega))
      have hd : decide (r < 0) = true := by simp; omega
      generalize n / b = s at *
      clear he hrz
      go_enter Try.func30, Try.ntmps30
      go_wp2
      go_ret
      exact ⟨ret_int HF.out.symm, rfl⟩

end Go.Proofs.Ytmddnpagfgilcaa
