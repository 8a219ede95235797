/- A loop over a function that hands out a list that is known: a law of its own, also for method values. -/
import Derived.RangeFuncNested
import Derived.RangeFuncBound
import Derived.RangeFuncCalls
import Derived.RangeFuncBox
import Derived.Test.YtpaoeghdfeekoaaM0
namespace Go.Mem
open Go.RowKit

/-- Whatever is cells lies as it lay. -/
def CellsKept (W W' : World) : Prop := ∀ (g : Nat) (o : Obj), W.heap[g]? = some o → o.isCells = true → W'.heap[g]? = some o
theorem CellsKept.refl (W : World) : CellsKept W W := fun _ _ h _ => h
theorem CellsKept.ext {W W' : World} (h : Ext W W') : CellsKept W W' := fun g _ ho _ => (h.block g (Array.getElem?_eq_some_iff.1 ho).1).trans ho
theorem CellsKept.blk {W W' : World} (h : CellsKept W W') {g : Nat} {t : TypeId} {cs : Array Value} (b : Blk W g t cs) : Blk W' g t cs := h g _ b rfl
theorem CellsKept.own {W W' : World} (h : CellsKept W W') {base : Nat} {e : TypeId} {size : Nat} {v : Value} {n : Nat} {xs : List Value} (r : W.ownsRow base e size v n xs) : W'.ownsRow base e size v n xs := by
  refine ⟨r.1, ?_⟩
  rcases r.2 with h1 | ⟨g, cap, cur, h1, h2, h3, h4⟩
  · exact .inl h1
  · exact .inr ⟨g, cap, cur, h1, h2, h _ _ h3 rfl, h4⟩
theorem CellsKept.grown {W W' : World} {row : Option Nat} (hg : W.grownBy W' row) (hr : ∀ r, row = some r → ∃ o, W.heap[r]? = some o ∧ o.isCells = false) : CellsKept W W' := fun g o ho hc => by
  refine (hg.block g (Array.getElem?_eq_some_iff.1 ho).1 (fun e => ?_)).trans ho
  obtain ⟨o', h1, h2⟩ := hr g e.symm
  rw [ho] at h1
  obtain rfl : o = o' := by simpa using h1
  rw [hc] at h2; cases h2
theorem CellsKept.put {W : World} {l : Nat} {o : Obj} (o' : Obj) (h : W.heap[l]? = some o) (hc : o.isCells = false) : CellsKept W (W.putObj l o') := CellsKept.grown (grownBy_putObj' W l o') (fun r e => by cases e; exact ⟨o, h, hc⟩)
theorem below_put {B : Nat} {W : World} {l : Nat} {o : Obj} (o' : Obj) (h : W.heap[l]? = some o) (hB : B ≤ l) : Below B W (W.putObj l o') :=
  (Below.refl B W).grown (grownBy_putObj' W l o') (by have := (Array.getElem?_eq_some_iff.1 h).1; omega) (fun k e => by cases e; exact hB)

theorem own_not {W : World} {base : Nat} {e : TypeId} {size : Nat} {v : Value} {n : Nat} {xs : List Value} (r : W.ownsRow base e size v n xs) {g : Nat} (hg : g < base) : some g ≠ v.ownBlock := by
  rcases r.2 with ⟨rfl, _⟩ | ⟨g', cap, cur, rfl, h2, _⟩
  · simp [Value.ownBlock]
  · simp [Value.ownBlock]; omega
theorem own_notBlk {W : World} {base : Nat} {e : TypeId} {size : Nat} {v : Value} {n : Nat} {xs : List Value} (r : W.ownsRow base e size v n xs) {g : Nat} {t : TypeId} {cs : Array Value} (b : Blk W g t cs) (hne : t ≠ e) : some g ≠ v.ownBlock := by
  rcases r.2 with ⟨rfl, _⟩ | ⟨g', cap, cur, rfl, h2, h3, _⟩
  · simp [Value.ownBlock]
  · intro he
    obtain rfl : g = g' := by simpa [Value.ownBlock] using he
    unfold Blk at b
    rw [h3] at b
    simp at b
    exact hne b.2.symm
theorem own_set {W : World} {base : Nat} {e : TypeId} {size : Nat} {v : Value} {n : Nat} {xs : List Value} (r : W.ownsRow base e size v n xs) {p : Addr} (hp : some p.block ≠ v.ownBlock) (u : Value) : (W.setCell p u).ownsRow base e size v n xs := by
  refine ⟨r.1, ?_⟩
  rcases r.2 with h1 | ⟨g, cap, cur, rfl, h2, h3, h4⟩
  · exact .inl h1
  · refine .inr ⟨g, cap, cur, rfl, h2, (Below.heap_setCell W p u g (fun e' => hp (by simp [Value.ownBlock, e']))).trans h3, h4⟩

theorem keepsOthers_ext {W W' : World} (h : Ext W W') : KeepsOthers W W' := ⟨h.size, fun k _o ho _ => (h.block k (Array.getElem?_eq_some_iff.1 ho).1).trans ho⟩
theorem keepsOthers_own {W W' : World} {base : Nat} {e : TypeId} {size : Nat} {v : Value} {n : Nat} {xs : List Value} (r : W.ownsRow base e size v n xs) (hg : W.grownBy W' v.ownBlock) : KeepsOthers W W' := by
  refine ⟨hg.size, fun k o ho hc => (hg.block k (Array.getElem?_eq_some_iff.1 ho).1 (fun e' => ?_)).trans ho⟩
  rcases r.2 with ⟨rfl, _⟩ | ⟨g', cap, cur, rfl, h2, h3, _⟩
  · simp [Value.ownBlock] at e'
  · obtain rfl : k = g' := by simpa [Value.ownBlock] using e'
    rw [h3] at ho
    obtain rfl : Obj.cells cur _ (0, 0) = o := by simpa using ho
    cases hc
theorem below_of {B : Nat} {w W W' : World} (h : Below B w W) (h' : Below B w W') (hs : W.heap.size ≤ W'.heap.size) : Below B W W' :=
  ⟨h'.os.trans h.os.symm, h'.tape.trans h.tape.symm, h'.output.trans h.output.symm, hs, fun k hk => (h'.block k hk).trans (h.block k hk).symm⟩
theorem news_of {W : World} {g : Nat} {t : TypeId} {a b : Value} (h : Blk W g t #[a, b]) : ∀ j u, [a, b][j]? = some u → W.cell? (Addr.add ⟨g, 0, none⟩ j) = some u := by
  intro j u hj
  match j, hj with
  | 0, hj => simpa [Addr.add] using (h.cell 0).trans (by simpa using hj)
  | 1, hj => simpa [Addr.add] using (h.cell 1).trans (by simpa using hj)
  | j + 2, hj => simp at hj
theorem news_of1 {W : World} {g : Nat} {t : TypeId} {a : Value} (h : Blk W g t #[a]) : ∀ j u, [a][j]? = some u → W.cell? (Addr.add ⟨g, 0, none⟩ j) = some u := by
  intro j u hj
  match j, hj with
  | 0, hj => simpa [Addr.add] using (h.cell 0).trans (by simpa using hj)
  | j + 1, hj => simp at hj

/-- The function value hands out the list, one item a round; between two rounds it makes new blocks at most; it wants `Kp` of a round. -/
def IterAt {α : Type} (P : Program) (n : Nat) (gf : FuncId) (first lb : Array Value) (encs : α → Array Value) (full : List α) (Kp : World → World → Prop) (W0 : World) : Prop :=
  ∀ (l : Nat) (J : Nat → World → Prop) (Jx : World → Prop) (W : World), CellsKept W0 W → Below W0.heap.size W0 W → (∀ k A B, J k A → Ext A B → J k B) → (∀ A B, Jx A → Ext A B → Jx B) →
    (∀ k x, full[k]? = some x → ∀ W1, J k W1 → YieldAt Fence.wide (n - 1) P l (encs x) W1 fun e W' => (e = .returned (.bool true) ∧ J (k + 1) W' ∧ Kp W1 W') ∨ (e = .returned (.bool false) ∧ Jx W')) →
    J 0 W → CallsIn Fence.wide n P gf (first ++ #[.func (.yield l) #[] #[]] ++ lb) W fun e W' => (∃ v, e = .returned v) ∧ (J full.length W' ∨ Jx W')

/-- How a round may be left. -/
def RoundEnd (Kp : World → World → Prop) (I : World → Prop) (Ix : Code → World → Prop) (W : World) : Exit → Act → World → Prop
  | .normal, _, W' => KeepsOthers W W' ∧ Kp W W' ∧ I W'
  | .ret, _, W' => KeepsOthers W W' ∧ Ix .ret W'
  | .exit id, _, W' => KeepsOthers W W' ∧ Ix (.exit id) W'
  | .goto t, _, W' => KeepsOthers W W' ∧ Ix (.goto t) W'
  | .panic _, _, _ => False
  | .outgrown, _, _ => False

/-- Abides what the loop does for itself. -/
def Calm (B : Nat) (I : World → Prop) : Prop := ∀ W W', I W → CellsKept W W' → Below B W W' → I W'

variable {P : Program} {n : Nat}

theorem rangeFunc_list {α : Type} {g : Operand} {ps : Array Tmp} {assign body : Code} {Q : Exit → Act → World → Prop} {a : Act} {w : World}
    (_h1 : 1 ≤ n) {gf : FuncId} {first lb : Array Value} (hg : a.eval g = .func (.func gf) first lb) (eg : ∀ args w, (callFunc gf args).run P w = .ok (.enter gf args) w)
    {encs : α → Array Value} {full : List α} {Kp : World → World → Prop} (hseq : IterAt P (n - 1) gf first lb encs full Kp w)
    (hKt : ∀ {A B C : World}, Kp A B → Kp B C → Kp A C) (hKb : ∀ W W', CellsKept W W' → Below w.heap.size W W' → Kp W W') (hps : ∀ x, (encs x).size = ps.size)
    (I : Nat → World → Prop) (Ix : Code → World → Prop) (hI : ∀ k, Calm w.heap.size (I k)) (hIx : ∀ c, Calm w.heap.size (Ix c)) (h0 : I 0 w)
    (Ax : α → Act → World → Prop) (hAx : ∀ x a', Calm w.heap.size (Ax x a'))
    (hassign : ∀ (l : Nat) (k : Nat) (x : α) (W : World) (K : Act → World → Prop), full[k]? = some x → w.heap.size ≤ W.heap.size → I k W → (∀ a' W', KeepsOthers W W' → Kp W W' → I k W' → Ax x a' W' → K a' W') →
      assign.wpIn (Fence.wide.inRound l) (n - 1 - 1) P (Exit.then K (fun _ _ _ => False)) { tmps := (ps.zip (encs x)).foldl (fun t (p, v) => t.setIfInBounds p v) a.tmps, defers := [] } W)
    (hbody : ∀ (l : Nat) (k : Nat) (x : α) (a' : Act) (W : World), full[k]? = some x → w.heap.size ≤ W.heap.size → I k W → Ax x a' W → body.wpIn (Fence.wide.inRound l) (n - 1 - 1) P (RoundEnd Kp (I (k + 1)) Ix W) a' W)
    (hdone : ∀ (D : Nat) (W : World), w.heap.size ≤ D → I full.length W → W.heap[D]? = some (.deferred (some [])) → Q .normal { a with defers := { target := .collected D, args := #[] } :: a.defers } W)
    (hstop : ∀ (D : Nat) (c : Code) (W : World), w.heap.size ≤ D → Ix c W → W.heap[D]? = some (.deferred (some [])) → c.wpIn Fence.wide n P Q { a with defers := { target := .collected D, args := #[] } :: a.defers } W) :
    (Code.rangeFunc g ps assign body).wpIn Fence.wide n P Q a w := by
  refine wpIn_rangeFunc fun fn _ => ?_
  obtain ⟨R, hR⟩ : ∃ R : LoopState → Option Code → Loop, R = fun st pe => { state := st, pending := pe, fn, tmps := a.tmps, params := ps, assign, body, defers := w.heap.size } := ⟨_, rfl⟩
  -- the two blocks of the loop
  let book : LoopState → Option Code → World → Prop := fun st pe W => W.heap[w.heap.size + 1]? = some (.loop (R st pe)) ∧ W.heap[w.heap.size]? = some (.deferred (some []))
  have bookExt : ∀ {st pe A B}, book st pe A → Ext A B → book st pe B := fun h e =>
    ⟨(e.block _ (Array.getElem?_eq_some_iff.1 h.1).1).trans h.1, (e.block _ (Array.getElem?_eq_some_iff.1 h.2).1).trans h.2⟩
  have bookKeep : ∀ {st pe A B}, book st pe A → KeepsOthers A B → book st pe B := fun h e => ⟨e.same _ _ h.1 rfl, e.same _ _ h.2 rfl⟩
  have bookPut : ∀ {st pe st' pe' A}, book st pe A → book st' pe' (A.putObj (w.heap.size + 1) (.loop (R st' pe'))) := fun h =>
    ⟨World.putObj_heap_same (Array.getElem?_eq_some_iff.1 h.1).1, (World.putObj_heap_other (by omega)).trans h.2⟩
  have calmPut : ∀ {st pe A} {C : World → Prop} (o' : Obj), book st pe A → Calm w.heap.size C → C A → C (A.putObj (w.heap.size + 1) o') := fun o' h hC hc =>
    hC _ _ hc (CellsKept.put o' h.1 rfl) (below_put o' h.1 (by omega))
  have kpPut : ∀ {st pe A} (o' : Obj), book st pe A → Kp A (A.putObj (w.heap.size + 1) o') := fun o' h => hKb _ _ (CellsKept.put o' h.1 rfl) (below_put o' h.1 (by omega))
  obtain ⟨W1, hW1⟩ : ∃ W1, (w.alloc (.deferred (some []))).alloc (.loop (R .ready none)) = W1 := ⟨_, rfl⟩
  have e1 : Ext w W1 := by rw [← hW1]; exact (Ext.alloc _ _).trans (Ext.alloc _ _)
  have hb1 : book .ready none W1 := by
    rw [← hW1]
    refine ⟨?_, (Below.heap_alloc _ _ _ (by simp)).trans (World.alloc_heap_new w _)⟩
    have := World.alloc_heap_new (w.alloc (.deferred (some []))) (.loop (R .ready none))
    rwa [World.size_alloc] at this
  refine ⟨w.heap.size + 1, [{ target := .collected w.heap.size, args := #[] }], W1, { target := .fn (.func gf) lb, args := first ++ #[.func (.yield (w.heap.size + 1)) #[] #[]] }, W1, gf,
    first ++ #[.func (.yield (w.heap.size + 1)) #[] #[]] ++ lb, W1, ?_, ?_, fun _ _ => trivial, ?_, fun h => absurd h (by simp [Fence.wide]), ?_⟩
  · rw [← hW1, hR]; exact run_enterLoop_outer _ _ _ _ _
  · simp only [resolve, hg]
    simp [go_sem]
  · simp [invoke, go_sem, eg]
  refine (hseq (w.heap.size + 1) (fun k W => I k W ∧ book .ready none W ∧ w.heap.size ≤ W.heap.size) (fun W => ∃ c, Ix c W ∧ book .done (some c) W) W1 (CellsKept.ext e1) e1
    (fun k A B h e => ⟨hI k _ _ h.1 (CellsKept.ext e) (Below.mono e h.2.2), bookExt h.2.1 e, Nat.le_trans h.2.2 e.size⟩)
    (fun A B ⟨c, h, hb⟩ e => ⟨c, hIx c _ _ h (CellsKept.ext e) (Below.mono e (by have := (Array.getElem?_eq_some_iff.1 hb.1).1; omega)), bookExt hb e⟩)
    ?_ ⟨hI 0 _ _ h0 (CellsKept.ext e1) e1, hb1, e1.size⟩).mono ?_
  · -- one round
    intro k x hx W ⟨hi, hbk, hsz⟩
    have hy := run_yield (P := P) (args := encs x) hbk.1 (by rw [hR]; exact hps x)
    rw [hR] at hy
    refine ⟨fn, _, assign, body, hy, roundIn_of_wpIn (F := Fence.wide) trivial (hassign _ k x W _ hx hsz hi ?_)⟩
    intro a' Wa hka hkpa hia hax
    have hbA := bookKeep hbk hka
    have hsA : w.heap.size ≤ Wa.heap.size := Nat.le_trans hsz hka.size
    refine ⟨_, run_beginRound hbA.1 (by rw [hR]), ?_⟩
    have eb : ({ R .ready none with state := .busy } : Loop) = R .busy none := by rw [hR]
    rw [eb]
    have hbB : book .busy none (Wa.putObj (w.heap.size + 1) (.loop (R .busy none))) := bookPut hbA
    refine wpIn_mono (hbody _ k x a' _ hx (by simpa [World.putObj] using hsA) (calmPut _ hbA (hI k) hia) (calmPut _ hbA (hAx x a') hax)) ?_
    intro e a3 W3 hp
    have fin : ∀ (jump : Option Code), KeepsOthers (Wa.putObj (w.heap.size + 1) (.loop (R .busy none))) W3 →
        (Instr.endRound (w.heap.size + 1) jump).run P W3 = .ok (.bool jump.isNone) (W3.putObj (w.heap.size + 1) (.loop (R (if jump.isNone then .ready else .done) jump))) ∧ book .busy none W3 := fun jump hk3 => by
      have hb3 := bookKeep hbB hk3
      have := run_endRound (P := P) jump hb3.1
      refine ⟨?_, hb3⟩
      rw [this, hR]
    have out : ∀ (c : Code), KeepsOthers (Wa.putObj (w.heap.size + 1) (.loop (R .busy none))) W3 → Ix c W3 → ∃ v W4, (Instr.endRound (w.heap.size + 1) (some c)).run P W3 = .ok v W4 ∧ v = .bool false ∧ ∃ c, Ix c W4 ∧ book .done (some c) W4 := fun c hk3 hc => by
      obtain ⟨hr, hb3⟩ := fin (some c) hk3
      exact ⟨_, _, hr, rfl, c, calmPut _ hb3 (hIx c) hc, bookPut hb3⟩
    cases e with
    | normal =>
      obtain ⟨hk3, hkp3, hi3⟩ := hp
      obtain ⟨hr, hb3⟩ := fin none hk3
      refine ⟨_, _, hr, .inl ⟨rfl, ⟨calmPut _ hb3 (hI (k + 1)) hi3, bookPut hb3, ?_⟩, hKt hkpa (hKt (kpPut _ hbA) (hKt hkp3 (kpPut _ hb3)))⟩⟩
      have := hk3.size
      simp only [World.putObj, Array.size_setIfInBounds] at this ⊢
      omega
    | ret =>
      obtain ⟨v, W4, hr, rfl, hx'⟩ := out .ret hp.1 hp.2
      exact ⟨_, _, hr, .inr ⟨rfl, hx'⟩⟩
    | exit id =>
      obtain ⟨v, W4, hr, rfl, hx'⟩ := out (.exit id) hp.1 hp.2
      exact ⟨_, _, hr, .inr ⟨rfl, hx'⟩⟩
    | goto t =>
      obtain ⟨v, W4, hr, rfl, hx'⟩ := out (.goto t) hp.1 hp.2
      exact ⟨_, _, hr, .inr ⟨rfl, hx'⟩⟩
    | panic ch => exact hp.elim
    | outgrown => exact hp.elim
  · -- behind the function
    rintro e W2 ⟨⟨v, rfl⟩, ⟨hi, hb, _⟩ | ⟨c, hc, hb⟩⟩
    · refine ⟨none, _, by have := run_endLoop (P := P) hb.1 (by rw [hR]; simp); rw [hR] at this; exact this, ?_⟩
      exact hdone _ _ (Nat.le_refl _) (calmPut _ hb (hI _) hi) ((World.putObj_heap_other (by omega)).trans hb.2)
    · refine ⟨some c, _, by have := run_endLoop (P := P) hb.1 (by rw [hR]; simp); rw [hR] at this; exact this, ?_⟩
      exact hstop _ c _ (Nat.le_refl _) (calmPut _ hb (hIx c) hc) ((World.putObj_heap_other (by omega)).trans hb.2)
end Go.Mem
