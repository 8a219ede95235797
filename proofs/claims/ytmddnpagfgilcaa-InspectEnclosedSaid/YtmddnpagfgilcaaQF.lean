/- Part 6 of what the row builds on. -/
import Derived.Test.YtmddnpagfgilcaaQE


namespace Go.Proofs.Ytmddnpagfgilcaa
open Go.RowKit Go.Shelf Go.Mem Go.RegInv
attribute [local go_sem] RelUpon_value RelUpon_skip RelUpon_enter BigFrame.eval_const BigFrame.eval_global BigFrame.eval_func

theorem end_facts {ps : List (Int × Int)} {l : Int} {n : Nat} {p : Int × Int} (hn2 : 2 ≤ n) (A : Asc ps n) (hb : ∀ i, i < n → 0 ≤ (ps.getD i default).1 ∧ (ps.getD i default).1 ≤ 10000 ∧ 0 ≤ (ps.getD i default).2 ∧ (ps.getD i default).2 ≤ 2000) (hp : fallK ps l n 0 = some p) :
    (ps.getD 0 default).1 ≤ p.1 / p.2 ∧ p.1 / p.2 ≤ (ps.getD (n - 1) default).1 ∧ ((ps.getD 0 default).1 < p.1 / p.2 → l * (atV ps (p.1 / p.2) n).2 ≤ (atV ps (p.1 / p.2) n).1) := by
  have _ := hb
  obtain ⟨f1, f2, f3⟩ := fall_in A hp
  have h1 : (ps.getD 0 default).1 ≤ p.1 / p.2 := Int.le_ediv_of_mul_le f1 f2
  have h2 : p.1 / p.2 ≤ (ps.getD (n - 1) default).1 := Int.ediv_le_of_le_mul f1 f3
  exact ⟨h1, h2, fun h => fall_val hn2 A hp h h2 (Int.ediv_mul_le _ (by omega))⟩
theorem at_low {ps : List (Int × Int)} {d : Int} {n : Nat} (hn2 : 2 ≤ n) (A : Asc ps n) (hb : ∀ i, i < n → 0 ≤ (ps.getD i default).1 ∧ (ps.getD i default).1 ≤ 10000 ∧ 0 ≤ (ps.getD i default).2 ∧ (ps.getD i default).2 ≤ 2000) (h0 : (ps.getD 0 default).1 ≤ d) (h1 : d ≤ (ps.getD (n - 1) default).1) : Low (atV ps d n) := by
  obtain ⟨j, hj, j1, j2, -, j4⟩ := seg_at hn2 ⟨h0, h1⟩
  rw [j4, lineV_alt]
  have b1 := hb j (by omega)
  have b2 := hb (j + 1) hj
  have hw := A.u j (j + 1) (by omega) hj
  generalize ps.getD j default = y at *
  generalize ps.getD (j + 1) default = z at *
  have e1 : 0 ≤ y.2 * (z.1 - d) := Int.mul_nonneg (by omega) (by omega)
  have e2 : 0 ≤ z.2 * (d - y.1) := Int.mul_nonneg (by omega) (by omega)
  have e3 : y.2 * (z.1 - d) ≤ 2000 * 10000 := Int.mul_le_mul (by omega) (by omega) (by omega) (by decide)
  have e4 : z.2 * (d - y.1) ≤ 2000 * 10000 := Int.mul_le_mul (by omega) (by omega) (by omega) (by decide)
  exact low_of ⟨by omega, by omega⟩ ⟨by omega, by omega⟩
/-- The hardness beside an end of a case depth. -/
theorem end_all {xs : List In} {n : Nat} {l : Int} {E : Int × Int} {up : Bool} (hn : xs.length = n) (hz : (checkT xs).2 = 0) (hl : 0 ≤ l ∧ l ≤ 2000) (hE : fallK (if up then upP xs else loP xs) l n 0 = some E) :
    ∃ d : Int, ∃ lo hi : Int × Int, (∀ W, Calls Try.prog 30 #[.int .i64 E.1, .int .i64 E.2] W fun e w' => e = .returned (.int .i64 d) ∧ W = w') ∧
      (∀ W A c, RowsAt 4 In.enc W A xs → Calls Try.prog 17 #[.agg #[.slice A n c], .int .i64 d] W fun e w' => e = .returned (.tuple #[.agg #[.int .i64 lo.1, .int .i64 lo.2, .int .i64 hi.1, .int .i64 hi.2], .int .i64 0]) ∧ Ext W w') ∧
      Low (if up then hi else lo) ∧ ((xs.getD 0 default).d < d → l * (if up then hi else lo).2 ≤ (if up then hi else lo).1) := by
  have h2 := (checkT_ok hz).1
  rw [hn] at h2
  have aux : ∀ ps : List (Int × Int), Asc ps n → (∀ i, i < n → 0 ≤ (ps.getD i default).1 ∧ (ps.getD i default).1 ≤ 10000 ∧ 0 ≤ (ps.getD i default).2 ∧ (ps.getD i default).2 ≤ 2000) → fallK ps l n 0 = some E → (∀ i, i < n → (ps.getD i default).1 = (xs.getD i default).d) →
      withinB (E.1 / E.2) (xs.getD 0 default).d (xs.getD (n - 1) default).d = true ∧ Low (atV ps (E.1 / E.2) n) ∧ ((xs.getD 0 default).d < E.1 / E.2 → l * (atV ps (E.1 / E.2) n).2 ≤ (atV ps (E.1 / E.2) n).1) ∧ Low E := fun ps A hb hp hd => by
    obtain ⟨e1, e2, e3⟩ := end_facts h2 A hb hp
    have l1 := at_low h2 A hb e1 e2
    rw [hd 0 (by omega)] at e1 e3
    rw [hd (n - 1) (by omega)] at e2
    exact ⟨by rw [withinB_eq]; exact decide_eq_true ⟨e1, e2⟩, l1, e3, fall_low hl hb A hp⟩
  cases up with
  | false =>
    obtain ⟨a1, a2, a3, a4⟩ := aux (loP xs) (asc_lo hn hz) (bds_lo hn hz) hE (fun i hi => by rw [loP_at hn hi])
    obtain ⟨⟨b1, b2⟩, ⟨b3, b4⟩, -⟩ := a4
    exact ⟨E.1 / E.2, atV (loP xs) (E.1 / E.2) n, atV (upP xs) (E.1 / E.2) n, fun W => floor_any E.1 E.2 ⟨by omega, by omega⟩ ⟨by omega, by omega⟩ W, fun W A c h => hardAt_ok (ca := c) _ hn h hz a1, a2, a3⟩
  | true =>
    obtain ⟨a1, a2, a3, a4⟩ := aux (upP xs) (asc_up hn hz) (bds_up hn hz) hE (fun i hi => by rw [upP_at hn hi])
    obtain ⟨⟨b1, b2⟩, ⟨b3, b4⟩, -⟩ := a4
    exact ⟨E.1 / E.2, atV (loP xs) (E.1 / E.2) n, atV (upP xs) (E.1 / E.2) n, fun W => floor_any E.1 E.2 ⟨by omega, by omega⟩ ⟨by omega, by omega⟩ W, fun W A c h => hardAt_ok (ca := c) _ hn h hz a1, a2, a3⟩

end Go.Proofs.Ytmddnpagfgilcaa
namespace Go.RegInv

variable {P : Program} {Le : World → World → Prop} {F : World → Prop} {Ψ : Tmp → Value → World → Prop}

/-- The block that a pointer points into, or the one slice of a struct. -/
def blkV : Value → Option Nat
  | .pointer (some p) => some p.block
  | .agg a => match a.toList with
    | [.slice (some p) _ _] => some p.block
    | _ => none
  | _ => none
def AsksO (P : Program) (Le : World → World → Prop) (F : World → Prop) (ds : List (Option Tmp)) (φs : List (Value → World → Prop)) (a0 : Act) : List Kd → List Oper → List (Value → World → Prop) → List (List Tmp) → Prop
  | .op :: ks, o :: l, φ :: rest, t :: ts => (∀ (ρ : Operand → Value) (W : World), Std ρ → F W → slotsAt ds φs a0 ρ W t → RelUpon P Le φ W ((execOp ρ o).run P W)) ∧ AsksO P Le F ds φs a0 ks l rest ts
  | .new :: ks, o :: l, φ :: rest, t :: ts => (∀ (ρ : Operand → Value) (W : World), Std ρ → F W → slotsAt ds φs a0 ρ W t → RelUpon P Le (fun v W' => φ v W' ∧ ∃ q, blkV v = some q ∧ W.heap.size ≤ q ∧ q < W'.heap.size) W ((execOp ρ o).run P W)) ∧ AsksO P Le F ds φs a0 ks l rest ts
  | .late v :: ks, o :: l, φ :: rest, t :: ts => (φ = (fun u _ => u = v) ∧ ∀ (ρ : Operand → Value) (W : World), Std ρ → F W → slotsAt ds φs a0 ρ W t → ∀ W', (execOp ρ o).run P W' = .ok (.value v) W') ∧ AsksO P Le F ds φs a0 ks l rest ts
  | .store :: ks, _ :: l, _ :: rest, _ :: ts => AsksO P Le F ds φs a0 ks l rest ts
  | [], [], _, _ => True
  | _, _, _, _ => False

def AskO (P : Program) (Le : World → World → Prop) (F : World → Prop) (ds : List (Option Tmp)) (φs : List (Value → World → Prop)) (a0 : Act) (o : Oper) (φ : Value → World → Prop) (t : List Tmp) : Kd → Prop
  | .op => ∀ (ρ : Operand → Value) (W : World), Std ρ → F W → slotsAt ds φs a0 ρ W t → RelUpon P Le φ W ((execOp ρ o).run P W)
  | .new => ∀ (ρ : Operand → Value) (W : World), Std ρ → F W → slotsAt ds φs a0 ρ W t → RelUpon P Le (fun v W' => φ v W' ∧ ∃ q, blkV v = some q ∧ W.heap.size ≤ q ∧ q < W'.heap.size) W ((execOp ρ o).run P W)
  | .late v => φ = (fun u _ => u = v) ∧ ∀ (ρ : Operand → Value) (W : World), Std ρ → F W → slotsAt ds φs a0 ρ W t → ∀ W', (execOp ρ o).run P W' = .ok (.value v) W'
  | .store => True

theorem asksO_at {ds : List (Option Tmp)} {φs : List (Value → World → Prop)} {a0 : Act} : ∀ {ks : List Kd} {l : List Oper} {rest : List (Value → World → Prop)} {ts : List (List Tmp)}, AsksO P Le F ds φs a0 ks l rest ts → ∀ {i : Nat} {o : Oper}, l[i]? = some o →
    ∃ k φ t, ks[i]? = some k ∧ rest[i]? = some φ ∧ ts[i]? = some t ∧ AskO P Le F ds φs a0 o φ t k
  | .op :: _, o' :: _, φ :: _, t :: _, h, 0, o, hi => by
    obtain rfl : o' = o := by simpa using hi
    exact ⟨_, φ, t, rfl, rfl, rfl, h.1⟩
  | .new :: _, o' :: _, φ :: _, t :: _, h, 0, o, hi => by
    obtain rfl : o' = o := by simpa using hi
    exact ⟨_, φ, t, rfl, rfl, rfl, h.1⟩
  | .late v :: _, o' :: _, φ :: _, t :: _, h, 0, o, hi => by
    obtain rfl : o' = o := by simpa using hi
    exact ⟨_, φ, t, rfl, rfl, rfl, h.1⟩
  | .store :: _, o' :: _, φ :: _, t :: _, h, 0, o, hi => ⟨_, φ, t, rfl, rfl, rfl, trivial⟩
  | .op :: _, _ :: _, _ :: _, _ :: _, h, i + 1, o, hi => by
    obtain ⟨k, φ, t, h1, h2, h3, h4⟩ := asksO_at h.2 (i := i) (o := o) (by simpa using hi)
    exact ⟨k, φ, t, by simpa using h1, by simpa using h2, by simpa using h3, h4⟩
  | .new :: _, _ :: _, _ :: _, _ :: _, h, i + 1, o, hi => by
    obtain ⟨k, φ, t, h1, h2, h3, h4⟩ := asksO_at h.2 (i := i) (o := o) (by simpa using hi)
    exact ⟨k, φ, t, by simpa using h1, by simpa using h2, by simpa using h3, h4⟩
  | .late _ :: _, _ :: _, _ :: _, _ :: _, h, i + 1, o, hi => by
    obtain ⟨k, φ, t, h1, h2, h3, h4⟩ := asksO_at h.2 (i := i) (o := o) (by simpa using hi)
    exact ⟨k, φ, t, by simpa using h1, by simpa using h2, by simpa using h3, h4⟩
  | .store :: ks, _ :: l, _ :: rest, _ :: ts, h, i + 1, o, hi => by
    obtain ⟨k, φ, t, h1, h2, h3, h4⟩ := asksO_at (ks := ks) (l := l) (rest := rest) (ts := ts) h (i := i) (o := o) (by simpa using hi)
    exact ⟨k, φ, t, by simpa using h1, by simpa using h2, by simpa using h3, h4⟩
  | [], [], _, _, _, _, _, hi => by simp at hi
  | [], _ :: _, _, _, h, _, _, _ => h.elim
  | .op :: _, [], _, _, h, _, _, hi => by simp at hi
  | .new :: _, [], _, _, h, _, _, hi => by simp at hi
  | .late _ :: _, [], _, _, h, _, _, hi => by simp at hi
  | .store :: _, [], _, _, h, _, _, hi => by simp at hi
  | .op :: _, _ :: _, [], _, h, _, _, _ => h.elim
  | .new :: _, _ :: _, [], _, h, _, _, _ => h.elim
  | .late _ :: _, _ :: _, [], _, h, _, _, _ => h.elim
  | .store :: _, _ :: _, [], _, h, _, _, _ => h.elim
  | .op :: _, _ :: _, _ :: _, [], h, _, _, _ => h.elim
  | .new :: _, _ :: _, _ :: _, [], h, _, _, _ => h.elim
  | .late _ :: _, _ :: _, _ :: _, [], h, _, _, _ => h.elim
  | .store :: _, _ :: _, _ :: _, [], h, _, _, _ => h.elim
def ApartO (f : Tmp → Value) : List Tmp → Prop
  | [] => True
  | t :: ts => (∀ u ∈ ts, blkV (f t) ≠ blkV (f u)) ∧ ApartO f ts
theorem apartO_of {f : Tmp → Value} : ∀ {ks : List Kd} {ds : List (Option Tmp)}, (∀ (i j : Nat) (t u : Tmp), i ≠ j → ks[i]? = some .new → ds[i]? = some (some t) → ks[j]? = some .new → ds[j]? = some (some u) → blkV (f t) ≠ blkV (f u)) → ApartO f (news ks ds)
  | [], _, _ => trivial
  | k :: ks, [], _ => by cases k <;> trivial
  | .new :: ks, some d :: ds, h => ⟨fun u hu => by
      obtain ⟨j, h1, h2⟩ := news_mem hu
      exact h 0 (j + 1) d u (by omega) rfl rfl (by simpa using h1) (by simpa using h2), apartO_of (fun i j t u h1 h2 h3 h4 h5 => h (i + 1) (j + 1) t u (by omega) (by simpa using h2) (by simpa using h3) (by simpa using h4) (by simpa using h5))⟩
  | .new :: ks, none :: ds, h => apartO_of (ks := ks) (ds := ds) (fun i j t u h1 h2 h3 h4 h5 => h (i + 1) (j + 1) t u (by omega) (by simpa using h2) (by simpa using h3) (by simpa using h4) (by simpa using h5))
  | .op :: ks, _ :: ds, h => apartO_of (ks := ks) (ds := ds) (fun i j t u h1 h2 h3 h4 h5 => h (i + 1) (j + 1) t u (by omega) (by simpa using h2) (by simpa using h3) (by simpa using h4) (by simpa using h5))
  | .late _ :: ks, _ :: ds, h => apartO_of (ks := ks) (ds := ds) (fun i j t u h1 h2 h3 h4 h5 => h (i + 1) (j + 1) t u (by omega) (by simpa using h2) (by simpa using h3) (by simpa using h4) (by simpa using h5))
  | .store :: ks, _ :: ds, h => apartO_of (ks := ks) (ds := ds) (fun i j t u h1 h2 h3 h4 h5 => h (i + 1) (j + 1) t u (by omega) (by simpa using h2) (by simpa using h3) (by simpa using h4) (by simpa using h5))
/-- **STORES THAT WAIT FOR ALL BUT SOME LATE OPERATIONS; BLOCKS THAT ARE APART.** `st`: the stores' places, `rd`: the slots that they read. -/
theorem wp_region_own {id : Nat} {Q : Exit → Act → World → Prop} {a : Act} {w : World} {l : List Oper} (ks : List Kd) (st : List Nat) (rd : List Tmp) (al : List Tmp) (ds : List (Option Tmp)) (ts : List (List Tmp)) (φs : List (Value → World → Prop))
    (hm : P.follows .mixedOrders = true) (hB : depsB a.tmps.size l.toArray = true) (hT : freeB ks l.toArray = true) (hg : l.all (fun o => o.guard.isNone) = true)
    (hstl : ((List.range l.length).filter fun i => (ks[i]?).elim false Kd.isStore) = st) (hrd : (opsAt l.toArray st).flatMap (·.looksAt l.toArray) = rd) (hal : news ks ds = al)
    (hds : l.map (·.dst) = ds) (hts : l.map (·.looksAt l.toArray) = ts)
    (Le : World → World → Prop) (F : World → Prop)
    (hrefl : ∀ W, F W → Le W W) (hF : ∀ W W', F W → Le W W' → F W') (hsize : ∀ W W', Le W W' → W.heap.size ≤ W'.heap.size) (hφ : Keeps Le F φs)
    (h0 : F w.drew) (hO : AsksO P Le F ds φs a ks l φs ts)
    (hend : ∀ (f : Tmp → Value) (W : World), F W → Ends f W ds φs → ApartO f al → ∀ σ : List Nat, σ.Perm st → ∀ (ρ : Operand → Value), Std ρ → ReadsAt ρ (atEnd (ds.filterMap (fun d => d)) a f) rd →
      StoresRun P ρ (fun W' => Q .normal (fin a (ds.filterMap (fun d => d)) f) W') (opsAt l.toArray σ) W) : (Code.region id l.toArray true).wp P Q a w := by
  have hdsts : dsts l.toArray = ds.filterMap (fun d => d) := by rw [← hds]; unfold dsts; rw [List.filterMap_map]; rfl
  have hat : ∀ {i : Nat} {o : Oper} {t : Tmp} {φ : Value → World → Prop}, l[i]? = some o → o.dst = some t → φs[i]? = some φ → look ds φs t = some φ := by
    intro i o t φ hi hd hp
    refine look_at (i := i) (by rw [← hds, List.getElem?_map, hi]; simp [hd]) hp fun j hj => ?_
    rw [← hds, List.getElem?_map] at hj
    cases hlj : l[j]? with
    | none => rw [hlj] at hj; cases hj
    | some oj =>
      rw [hlj] at hj
      exact ((depsB_at hB (i := i) (o := o) (by simpa using hi)).1 t hd).2 j oj (by simpa using hlj) (by simpa using hj)
  have hG : ∀ (i : Nat) (o : Oper), l.toArray[i]? = some o → o.guard = none := fun i o hi => by
    have := List.all_eq_true.1 hg o (List.mem_of_getElem? (by simpa using hi))
    simpa using this
  have hfree : ∀ (i : Nat) (o : Oper), l.toArray[i]? = some o → ∃ k, ks[i]? = some k ∧ (k = .store → isStoreOp o = true ∧ o.dst = none ∧ ∀ j, j < l.toArray.size → ∀ kj, ks[j]? = some kj → kj ≠ .store →
      (∀ v, kj = .late v → ∀ t oj, l.toArray[j]? = some oj → oj.dst = some t → t ∉ o.looksAt l.toArray) ∧ (kj.isLate = false → reachB l.toArray l.toArray.size i j = true)) := by
    intro i o hi
    have hlt := (Array.getElem?_eq_some_iff.1 hi).1
    unfold freeB at hT
    rw [List.all_eq_true] at hT
    have h1 := hT i (List.mem_range.2 hlt)
    simp only [hi] at h1
    cases hk : ks[i]? with
    | none => rw [hk] at h1; cases h1
    | some k =>
      refine ⟨k, rfl, fun e => ?_⟩
      subst e
      rw [hk] at h1
      simp only [Bool.and_eq_true, List.all_eq_true, List.mem_range] at h1
      refine ⟨h1.1.1, by simpa using h1.1.2, fun j hj kj hkj hne => ?_⟩
      have h2 := h1.2 j hj
      rw [hkj] at h2
      cases kj with
      | store => exact absurd rfl hne
      | late v =>
        refine ⟨fun v' _ t oj hoj hd => ?_, fun h => by cases h⟩
        simp only [hoj, Option.bind_some, hd] at h2
        simpa using h2
      | op => exact ⟨(fun v h => by cases h), fun _ => h2⟩
      | new => exact ⟨(fun v h => by cases h), fun _ => h2⟩
  have hlate : ∀ (i : Nat) (o : Oper) (v : Value), l.toArray[i]? = some o → ks[i]? = some (.late v) → ∃ t, o.dst = some t := by
    intro i o v hi hk
    have hlt := (Array.getElem?_eq_some_iff.1 hi).1
    unfold freeB at hT
    rw [List.all_eq_true] at hT
    have h1 := hT i (List.mem_range.2 hlt)
    simp only [hi, hk] at h1
    exact Option.isSome_iff_exists.1 h1
  have hpred : ∀ {i : Nat} {o : Oper}, l[i]? = some o → ∃ k φ, ks[i]? = some k ∧ φs[i]? = some φ ∧ AskO P Le F ds φs a o φ (o.looksAt l.toArray) k := by
    intro i o hi
    obtain ⟨k, φ, t, h1, h2, h3, h4⟩ := asksO_at hO hi
    refine ⟨k, φ, h1, h2, ?_⟩
    rw [← hts, List.getElem?_map, hi] at h3
    rw [show o.looksAt l.toArray = t by simpa using h3]
    exact h4
  have hΨ := lookK (F := F) (Le := Le) hφ (ds := ds)
  -- slots that are read, as the obligations want them
  have hslots : ∀ {listed : Array Bool} {a' : Act} {W : World} {o : Oper} {i : Nat}, Good F (fun t => (look ds φs t).getD (fun _ _ => True)) a l.toArray listed a' W → l.toArray[i]? = some o →
      (∀ e ∈ o.after, Region.binds .any e = true → listed.getD e.on false = true) → slotsAt ds φs a a'.eval W (o.looksAt l.toArray) := by
    intro listed a' W o i hgood ho hall
    refine slotsAt_of fun u hu => ?_
    unfold slotAt
    cases hl : look ds φs u with
    | none =>
      refine hgood.other u fun j oj hj hdj => ?_
      obtain ⟨k, φ, h1, h2, -⟩ := hpred (i := j) (o := oj) (by simpa using hj)
      rw [hat (by simpa using hj) hdj h2] at hl; cases hl
    | some φ =>
      have hm : some u ∈ ds := look_mem hl
      obtain ⟨j, hj⟩ := List.mem_iff_getElem?.1 hm
      rw [← hds, List.getElem?_map] at hj
      cases hlj : l[j]? with
      | none => rw [hlj] at hj; cases hj
      | some oj =>
        rw [hlj] at hj
        have hdj : oj.dst = some u := by simpa using hj
        obtain ⟨e, he, hb, hon⟩ := (depsB_at hB ho).2.1 u hu j oj (by simpa using hlj) hdj
        have h1 := hall e he hb
        rw [hon] at h1
        have h2 := hgood.done j oj u (by simpa using hlj) hdj h1
        simpa [hl] using h2
  refine wp_region_any hm ?_
  have switch : ∀ (fuel : Nat) (listed : Array Bool) (a' : Act) (W : World), listed.size = l.toArray.size → unl listed l.toArray.size = fuel →
      (∀ j, j < l.toArray.size → ks[j]? = some .store → listed.getD j false = false) →
      (∀ (i : Nat) (o : Oper) (t : Tmp), l.toArray[i]? = some o → ks[i]? = some .new → o.dst = some t → listed.getD i false = true → ∃ q, blkV (a'.eval (.tmp t)) = some q ∧ q < W.heap.size) →
      (∀ (i j : Nat) (o o' : Oper) (t u : Tmp), i ≠ j → l.toArray[i]? = some o → ks[i]? = some .new → o.dst = some t → listed.getD i false = true → l.toArray[j]? = some o' → ks[j]? = some .new → o'.dst = some u → listed.getD j false = true → blkV (a'.eval (.tmp t)) ≠ blkV (a'.eval (.tmp u))) →
      Good F (fun t => (look ds φs t).getD (fun _ _ => True)) a l.toArray listed a' W →
      (∀ (j : Nat) (k : Kd), j < l.toArray.size → ks[j]? = some k → k.isLate = false → k.isStore = false → listed.getD j false = true) → wpAny P .any l.toArray Q fuel listed a' W := by
    intro fuel listed a' W hls hu hst hn1 hn2 hgood hE
    obtain ⟨f, hf1, hf2⟩ : ∃ f : Tmp → Value, (∀ (i : Nat) (o : Oper) (v : Value) (t : Tmp), l.toArray[i]? = some o → ks[i]? = some (.late v) → o.dst = some t → f t = v) ∧
        (∀ (i : Nat) (o : Oper) (t : Tmp) (k : Kd), l.toArray[i]? = some o → ks[i]? = some k → k.isLate = false → o.dst = some t → f t = a'.eval (.tmp t)) := by
      classical
      refine ⟨fun t => if h : ∃ v, ∃ (i : Nat) (o : Oper), l.toArray[i]? = some o ∧ ks[i]? = some (Kd.late v) ∧ o.dst = some t then h.choose else a'.eval (.tmp t), ?_, ?_⟩
      · intro i o v t hi hk hd
        have h : ∃ v, ∃ (i : Nat) (o : Oper), l.toArray[i]? = some o ∧ ks[i]? = some (Kd.late v) ∧ o.dst = some t := ⟨v, i, o, hi, hk, hd⟩
        simp only [dif_pos h]
        obtain ⟨i2, o2, h1, h2, h3⟩ := h.choose_spec
        have e : i2 = i := ((depsB_at hB hi).1 t hd).2 i2 o2 h1 h3
        rw [e, hk] at h2
        have h4 := Option.some.inj h2
        injection h4 with h5
        exact h5.symm
      · intro i o t k hi hk hl hd
        have h : ¬ ∃ v, ∃ (i : Nat) (o : Oper), l.toArray[i]? = some o ∧ ks[i]? = some (Kd.late v) ∧ o.dst = some t := by
          rintro ⟨v, i2, o2, h1, h2, h3⟩
          have e : i2 = i := ((depsB_at hB hi).1 t hd).2 i2 o2 h1 h3
          rw [e, hk] at h2
          have h4 := Option.some.inj h2
          rw [h4] at hl; cases hl
        simp only [dif_neg h]
    have hall : ∀ (j : Nat) (oj : Oper) (u : Tmp) (φ : Value → World → Prop), l[j]? = some oj → oj.dst = some u → φs[j]? = some φ → φ (f u) W := by
      intro j oj u φ hj hd hφj
      have hj' : l.toArray[j]? = some oj := by simpa using hj
      obtain ⟨k, φ', h1, h2, h3⟩ := hpred hj
      obtain rfl : φ' = φ := by rw [hφj] at h2; exact (Option.some.inj h2).symm
      have early : k.isLate = false → k.isStore = false → φ' (f u) W := fun e1 e2 => by
        rw [hf2 j oj u k hj' h1 e1 hd]
        have h4 := hgood.done j oj u hj' hd (hE j k (Array.getElem?_eq_some_iff.1 hj').1 h1 e1 e2)
        rw [hat hj hd h2] at h4
        exact h4
      cases k with
      | late v => rw [h3.1]; exact hf1 j oj v u hj' h1 hd
      | store =>
        obtain ⟨k', hk', hf⟩ := hfree j oj hj'
        rw [h1] at hk'
        rw [(hf (Option.some.inj hk').symm).2.1] at hd; cases hd
      | op => exact early rfl rfl
      | new => exact early rfl rfl
    have hmem : ∀ (i : Nat) (o : Oper), l.toArray[i]? = some o → ks[i]? = some .store → o ∈ opsAt l.toArray st := fun i o hi hk => by
      rw [← hstl]
      have hlt : i < l.length := by simpa using (Array.getElem?_eq_some_iff.1 hi).1
      exact List.mem_filterMap.2 ⟨i, List.mem_filter.2 ⟨List.mem_range.2 hlt, by simp [hk, Kd.isStore]⟩, hi⟩
    have hback : ∀ o ∈ opsAt l.toArray st, ∃ i : Nat, l.toArray[i]? = some o ∧ ks[i]? = some .store := fun o ho => by
      rw [← hstl] at ho
      obtain ⟨i, h1, h2⟩ := List.mem_filterMap.1 ho
      obtain ⟨-, h3⟩ := List.mem_filter.1 h1
      refine ⟨i, h2, ?_⟩
      cases hk : ks[i]? with
      | none => rw [hk] at h3; cases h3
      | some k =>
        rw [hk] at h3
        cases k <;> first | rfl | cases h3
    refine free_after (f := f) (rd := rd) (ks := ks) hB hG ?_ ?_ ?_ ?_ fuel listed a' W ((List.range l.length).filter fun i => (ks[i]?).elim false Kd.isStore) hls hu hE ?_ ?_ hgood.defers hgood.size ?_ hgood.other ?_
    · intro i o hi hk
      obtain ⟨k', hk', hf⟩ := hfree i o hi
      rw [hk] at hk'
      obtain ⟨h1, h2, -⟩ := hf (Option.some.inj hk').symm
      exact ⟨h1, h2, fun t ht => by rw [← hrd]; exact List.mem_flatMap.2 ⟨o, hmem i o hi hk, ht⟩⟩
    · intro t ht j oj hj hd v hkj
      rw [← hrd] at ht
      obtain ⟨o, ho, ht'⟩ := List.mem_flatMap.1 ht
      obtain ⟨i, hi, hk⟩ := hback o ho
      obtain ⟨k', hk', hf⟩ := hfree i o hi
      rw [hk] at hk'
      obtain ⟨-, -, h3⟩ := hf (Option.some.inj hk').symm
      exact (h3 j (Array.getElem?_eq_some_iff.1 hj).1 _ hkj (by intro h; cases h)).1 v rfl t oj hj hd ht'
    · intro i o hi
      obtain ⟨k', hk', -⟩ := hfree i o hi
      rw [hk']; intro h; cases h
    · intro i o v hi hk
      obtain ⟨t, hd⟩ := hlate i o v hi hk
      refine ⟨t, hd, hf1 i o v t hi hk hd, fun ρ hρ hr W' => ?_⟩
      obtain ⟨k, φ, h1, h2, h3⟩ := hpred (i := i) (o := o) (by simpa using hi)
      rw [hk] at h1
      obtain rfl := Option.some.inj h1
      refine h3.2 ρ W hρ hgood.base (slotsAt_of' fun u hu => ?_) W'
      unfold slotAt
      rw [hr u hu]
      unfold atEnd
      cases hl : look ds φs u with
      | none =>
        have hc : (dsts l.toArray).contains u = false := by
          rw [Bool.eq_false_iff]
          intro hc
          obtain ⟨j, oj, hj, hdj⟩ := mem_dsts.1 (by simpa using hc)
          obtain ⟨k, φ, -, h5, -⟩ := hpred (i := j) (o := oj) (by simpa using hj)
          rw [hat (by simpa using hj) hdj h5] at hl; cases hl
        rw [hc]; rfl
      | some φ' =>
        have hm : some u ∈ ds := look_mem hl
        obtain ⟨j, hj⟩ := List.mem_iff_getElem?.1 hm
        rw [← hds, List.getElem?_map] at hj
        cases hlj : l[j]? with
        | none => rw [hlj] at hj; cases hj
        | some oj =>
          rw [hlj] at hj
          have hdj : oj.dst = some u := by simpa using hj
          have hc : (dsts l.toArray).contains u = true := by
            simpa using mem_dsts.2 ⟨j, oj, (by simpa using hlj), hdj⟩
          rw [hc]
          obtain ⟨k, φ, -, h5, -⟩ := hpred (i := j) (o := oj) hlj
          rw [hat hlj hdj h5] at hl
          obtain rfl := Option.some.inj hl
          exact hall j oj u φ hlj hdj h5
    · exact (List.nodup_range).filter _
    · intro j
      rw [List.mem_filter, List.mem_range]
      constructor
      · rintro ⟨h1, h2⟩
        have hk : ks[j]? = some .store := by
          cases hk : ks[j]? with
          | none => rw [hk] at h2; cases h2
          | some k =>
            rw [hk] at h2
            cases k <;> first | rfl | cases h2
        exact ⟨by simpa using h1, hk, hst j (by simpa using h1) hk⟩
      · rintro ⟨h1, h2, -⟩
        exact ⟨by simpa using h1, by simp [h2, Kd.isStore]⟩
    · intro i o t hi hd hl
      obtain ⟨k, φ, h1, h2, h3⟩ := hpred (i := i) (o := o) (by simpa using hi)
      cases k with
      | late v =>
        rw [hf1 i o v t hi h1 hd]
        have h4 := hgood.done i o t hi hd hl
        rw [hat (by simpa using hi) hd h2, h3.1] at h4
        exact h4
      | op => exact (hf2 i o t _ hi h1 rfl hd).symm
      | new => exact (hf2 i o t _ hi h1 rfl hd).symm
      | store => exact (hf2 i o t _ hi h1 rfl hd).symm
    · intro σ hσ ρ hρ hr
      rw [hdsts] at hr ⊢
      rw [hstl] at hσ
      refine hend f W hgood.base (ends_of fun i t φ h1 h2 => ?_) ?_ σ hσ ρ hρ (readsAt_of hr)
      · rw [← hds, List.getElem?_map] at h1
        cases hli : l[i]? with
        | none => rw [hli] at h1; cases h1
        | some o =>
          rw [hli] at h1
          exact hall i o t φ hli (by simpa using h1) h2
      · rw [← hal]
        refine apartO_of fun i j t u hne h1 h2 h3 h4 => ?_
        rw [← hds, List.getElem?_map] at h2 h4
        cases hli : l[i]? with
        | none => rw [hli] at h2; cases h2
        | some o =>
          cases hlj : l[j]? with
          | none => rw [hlj] at h4; cases h4
          | some o' =>
            rw [hli] at h2
            rw [hlj] at h4
            have hi' : l.toArray[i]? = some o := by simpa using hli
            have hj' : l.toArray[j]? = some o' := by simpa using hlj
            have hd : o.dst = some t := by simpa using h2
            have hd' : o'.dst = some u := by simpa using h4
            rw [hf2 i o t _ hi' h1 rfl hd, hf2 j o' u _ hj' h3 rfl hd']
            exact hn2 i j o o' t u hne hi' h1 hd (hE i _ (Array.getElem?_eq_some_iff.1 hi').1 h1 rfl rfl) hj' h3 hd' (hE j _ (Array.getElem?_eq_some_iff.1 hj').1 h3 rfl rfl)
  have main : ∀ (fuel : Nat) (listed : Array Bool) (a' : Act) (W : World), listed.size = l.toArray.size → unl listed l.toArray.size = fuel → Closed l.toArray listed →
      (∀ j, j < l.toArray.size → ks[j]? = some .store → listed.getD j false = false) →
      (∀ (i : Nat) (o : Oper) (t : Tmp), l.toArray[i]? = some o → ks[i]? = some .new → o.dst = some t → listed.getD i false = true → ∃ q, blkV (a'.eval (.tmp t)) = some q ∧ q < W.heap.size) →
      (∀ (i j : Nat) (o o' : Oper) (t u : Tmp), i ≠ j → l.toArray[i]? = some o → ks[i]? = some .new → o.dst = some t → listed.getD i false = true → l.toArray[j]? = some o' → ks[j]? = some .new → o'.dst = some u → listed.getD j false = true → blkV (a'.eval (.tmp t)) ≠ blkV (a'.eval (.tmp u))) →
      Good F (fun t => (look ds φs t).getD (fun _ _ => True)) a l.toArray listed a' W → wpAny P .any l.toArray Q fuel listed a' W := by
    intro fuel
    induction fuel with
    | zero =>
      intro listed a' W hls hu hcl hst hn1 hn2 hgood
      have hall := unl_zero hu
      exact switch 0 listed a' W hls hu hst hn1 hn2 hgood fun j k hj _ _ _ => by
        have h1 := hall j hj
        have h2 : j < listed.size := by omega
        simp [h2] at h1 ⊢
        exact h1
    | succ fuel ih =>
      intro listed a' W hls hu hcl hst hn1 hn2 hgood
      by_cases hE : ∀ (j : Nat) (k : Kd), j < l.toArray.size → ks[j]? = some k → k.isLate = false → k.isStore = false → listed.getD j false = true
      · exact switch _ listed a' W hls hu hst hn1 hn2 hgood hE
      · refine ⟨fun hr => absurd (fun j k hj _ _ _ => all_listed hB hls hr j hj) hE, fun i hi => ?_⟩
        obtain ⟨hun, o, ho, hall⟩ := mem_ready.1 hi
        have hlt : i < l.toArray.size := (Array.getElem?_eq_some_iff.1 ho).1
        have hlo : l[i]? = some o := by simpa using ho
        obtain ⟨k, φ, hk, hφi, hask⟩ := hpred hlo
        have hsl := hslots hgood ho hall
        have hu2 : unl (listed.setIfInBounds i true) l.toArray.size = fuel := by
          have := unl_set (l := listed) (i := i) hun (by omega) hlt
          omega
        have hset : ∀ j, j ≠ i → (listed.setIfInBounds i true).getD j false = listed.getD j false := fun j hj => getD_set_ne false (fun e => hj e.symm)
        have hns : k ≠ .store → ∀ j, j < l.toArray.size → ks[j]? = some .store → (listed.setIfInBounds i true).getD j false = false := fun hne j hj hkj => by
          have h5 : j ≠ i := by
            rintro rfl
            rw [hk] at hkj
            exact hne (Option.some.inj hkj)
          rw [hset j h5]; exact hst j hj hkj
        have hpost : ∀ v W', φ v W' → dstPost (fun t => (look ds φs t).getD (fun _ _ => True)) o v W' := fun v W' hv => by
          unfold dstPost
          cases hd : o.dst with
          | none => trivial
          | some d =>
            simp only [hat hlo hd hφi, Option.getD_some]
            exact hv
        have hput : ∀ v W', Le W W' → φ v W' → Good F (fun t => (look ds φs t).getD (fun _ _ => True)) a l.toArray (listed.setIfInBounds i true) (a'.put o.dst v) W' := fun v W' hle hv =>
          good_put hB (by omega) hF hΨ ho hgood v W' hle (hpost v W' hv)
        -- the slots of blocks that were made before
        have hkeep : ∀ (j : Nat) (oj : Oper) (u : Tmp) (v : Value), j ≠ i → l.toArray[j]? = some oj → oj.dst = some u → (a'.put o.dst v).eval (.tmp u) = a'.eval (.tmp u) := fun j oj u v hji hj hdj => by
          refine Act.eval_put fun d hd e => ?_
          have e2 : u = d := by simpa using e
          subst e2
          exact hji (((depsB_at hB ho).1 u hd).2 j oj hj hdj)
        cases k with
        | store =>
          obtain ⟨k', hk', hf⟩ := hfree i o ho
          rw [hk] at hk'
          obtain ⟨-, -, hreach⟩ := hf (Option.some.inj hk').symm
          refine absurd (fun j kj hj hkj h1 h2 => ?_) hE
          have hall' : ∀ o', l.toArray[i]? = some o' → ∀ e ∈ o'.after, Region.binds .any e = true → listed.getD e.on false = true := fun o' ho' => by
            rw [ho] at ho'
            obtain rfl : o = o' := by simpa using ho'
            exact hall
          exact reach_listed hcl _ _ _ ((hreach j hj kj hkj (by rintro rfl; cases h2)).2 h1) hall' o ho
        | op =>
          refine op_out (Le := Le) ho (hG i o ho) (hask a'.eval W (Std.eval a') hgood.base hsl) (fun v W' hle hv => ih _ _ _ (by simpa using hls) hu2 (hcl.set ho hall) (hns (by intro h; cases h)) ?_ ?_ (hput v W' hle hv))
          · intro j oj t hj hkj hdj hl
            have h5 : j ≠ i := by rintro rfl; rw [hk] at hkj; cases hkj
            rw [hset j h5] at hl
            obtain ⟨q, h1, h2⟩ := hn1 j oj t hj hkj hdj hl
            exact ⟨q, by rw [hkeep j oj t v h5 hj hdj]; exact h1, Nat.lt_of_lt_of_le h2 (hsize _ _ hle)⟩
          · intro j j' oj oj' t u hne hj hkj hdj hl hj' hkj' hdj' hl'
            have h5 : j ≠ i := by rintro rfl; rw [hk] at hkj; cases hkj
            have h6 : j' ≠ i := by rintro rfl; rw [hk] at hkj'; cases hkj'
            rw [hset j h5] at hl
            rw [hset j' h6] at hl'
            rw [hkeep j oj t v h5 hj hdj, hkeep j' oj' u v h6 hj' hdj']
            exact hn2 j j' oj oj' t u hne hj hkj hdj hl hj' hkj' hdj' hl'
        | late v0 =>
          refine op_out (Le := Le) (φ := φ) ho (hG i o ho) ?_ (fun v W' hle hv => ih _ _ _ (by simpa using hls) hu2 (hcl.set ho hall) (hns (by intro h; cases h)) ?_ ?_ (hput v W' hle hv))
          · rw [hask.2 a'.eval W (Std.eval a') hgood.base hsl W]
            exact ⟨hrefl W hgood.base, by rw [hask.1]⟩
          · intro j oj t hj hkj hdj hl
            have h5 : j ≠ i := by rintro rfl; rw [hk] at hkj; cases hkj
            rw [hset j h5] at hl
            obtain ⟨q, h1, h2⟩ := hn1 j oj t hj hkj hdj hl
            exact ⟨q, by rw [hkeep j oj t v h5 hj hdj]; exact h1, Nat.lt_of_lt_of_le h2 (hsize _ _ hle)⟩
          · intro j j' oj oj' t u hne hj hkj hdj hl hj' hkj' hdj' hl'
            have h5 : j ≠ i := by rintro rfl; rw [hk] at hkj; cases hkj
            have h6 : j' ≠ i := by rintro rfl; rw [hk] at hkj'; cases hkj'
            rw [hset j h5] at hl
            rw [hset j' h6] at hl'
            rw [hkeep j oj t v h5 hj hdj, hkeep j' oj' u v h6 hj' hdj']
            exact hn2 j j' oj oj' t u hne hj hkj hdj hl hj' hkj' hdj' hl'
        | new =>
          refine op_out (Le := Le) (φ := fun v W' => φ v W' ∧ ∃ q, blkV v = some q ∧ W.heap.size ≤ q ∧ q < W'.heap.size) ho (hG i o ho) (hask a'.eval W (Std.eval a') hgood.base hsl) (fun v W1 hle1 hv => ?_)
          obtain ⟨hφ1, q0, hq0, hq1, hlt1⟩ := hv
          have own : ∀ t, o.dst = some t → (a'.put o.dst v).eval (.tmp t) = v := fun t ht => by
            rw [ht]
            exact eval_put_same a' (by rw [hgood.size]; exact ((depsB_at hB ho).1 t ht).1) _
          have ownj : ∀ j oj t, j = i → l.toArray[j]? = some oj → oj.dst = some t → o.dst = some t := fun j oj t hji hj hdj => by
            subst hji
            rw [ho] at hj
            rw [Option.some.inj hj]; exact hdj
          refine ih _ _ _ (by simpa using hls) hu2 (hcl.set ho hall) (hns (by intro h; cases h)) ?_ ?_ (hput _ _ hle1 hφ1)
          · intro j oj t hj hkj hdj hl
            by_cases h5 : j = i
            · exact ⟨q0, by rw [own t (ownj j oj t h5 hj hdj)]; exact hq0, hlt1⟩
            · rw [hset j h5] at hl
              obtain ⟨q, h1, h2⟩ := hn1 j oj t hj hkj hdj hl
              exact ⟨q, by rw [hkeep j oj t _ h5 hj hdj]; exact h1, Nat.lt_of_lt_of_le h2 (hsize _ _ hle1)⟩
          · intro j j' oj oj' t u hne hj hkj hdj hl hj' hkj' hdj' hl'
            by_cases h5 : j = i
            · have h6 : j' ≠ i := fun e => hne (h5.trans e.symm)
              rw [hset j' h6] at hl'
              rw [own t (ownj j oj t h5 hj hdj), hkeep j' oj' u _ h6 hj' hdj']
              obtain ⟨q, h1, h2⟩ := hn1 j' oj' u hj' hkj' hdj' hl'
              rw [h1, hq0]
              intro e
              have := Option.some.inj e
              omega
            · rw [hset j h5] at hl
              rw [hkeep j oj t _ h5 hj hdj]
              by_cases h6 : j' = i
              · rw [own u (ownj j' oj' u h6 hj' hdj')]
                obtain ⟨q, h1, h2⟩ := hn1 j oj t hj hkj hdj hl
                rw [h1, hq0]
                intro e
                have := Option.some.inj e
                omega
              · rw [hset j' h6] at hl'
                rw [hkeep j' oj' u _ h6 hj' hdj']
                exact hn2 j j' oj oj' t u hne hj hkj hdj hl hj' hkj' hdj' hl'
  have hcount : ∀ n : Nat, n ≤ l.toArray.size → unl (Array.replicate l.toArray.size false) n = n := by
    intro n
    induction n with
    | zero => intro _; rfl
    | succ n ih =>
      intro hn
      unfold unl
      rw [ih (by omega)]
      have h3 : n < l.length := by simp only [List.size_toArray] at hn; omega
      have : (Array.replicate l.toArray.size false).getD n true = false := by simp [h3]
      rw [this]; simp
  have hfalse : ∀ j, (Array.replicate l.toArray.size false).getD j false = false := fun j => by
    by_cases h : j < l.length <;> simp [h]
  have nope : ∀ {p : Prop} (j : Nat), (Array.replicate l.toArray.size false).getD j false = true → p := fun j h => by rw [hfalse j] at h; cases h
  exact main _ _ a w.drew (by simp) (hcount _ (Nat.le_refl _)) (fun j oj hj hl => nope j hl) (fun j _ _ => hfalse j) (fun j _ _ _ _ _ hl => nope j hl) (fun j _ _ _ _ _ _ _ _ _ hl => nope j hl)
    ⟨rfl, rfl, h0, fun i o t _ _ hl => nope i hl, fun t _ => rfl⟩
end Go.RegInv

namespace Go.Proofs.Ytmddnpagfgilcaa
open Go.RowKit Go.Shelf Go.Mem Go.RegInv
attribute [local go_sem] RelUpon_value RelUpon_skip RelUpon_enter BigFrame.eval_const BigFrame.eval_global BigFrame.eval_func

end Go.Proofs.Ytmddnpagfgilcaa

namespace Go.Proofs.Ytmddnpagfgilcaa
open Go.RowKit Go.Shelf Go.Mem Go.RegInv
attribute [local go_sem] RelUpon_value RelUpon_skip RelUpon_enter BigFrame.eval_const BigFrame.eval_global BigFrame.eval_func

theorem flat_at : ∀ (zs : List In) (k : Nat) (x : In) (j : Nat) (u : Value), zs[k]? = some x → (In.enc x)[j]? = some u → (zs.flatMap In.enc)[k * 4 + j]? = some u
  | [], k, x, j, u, h, _ => by simp at h
  | y :: zs, 0, x, j, u, h, hu => by
    obtain rfl : y = x := by simpa using h
    have hj := (List.getElem?_eq_some_iff.1 hu).1
    rw [List.flatMap_cons, List.getElem?_append_left (by omega)]
    simpa using hu
  | y :: zs, k + 1, x, j, u, h, hu => by
    rw [List.flatMap_cons, List.getElem?_append_right (by simp [In.enc]; omega), show (In.enc y).length = 4 from rfl, show (k + 1) * 4 + j - 4 = k * 4 + j by omega]
    exact flat_at zs k x j u (by simpa using h) hu
theorem flat_set2 (lo hi : Int) : ∀ (zs : List In) (k : Nat) (x : In), zs[k]? = some x → ((zs.flatMap In.enc).set (k * 4 + 2) (.int .i64 lo)).set (k * 4 + 3) (.int .i64 hi) = (zs.set k ⟨x.d, x.g, lo, hi⟩).flatMap In.enc
  | [], k, x, h => by simp at h
  | y :: zs, 0, x, h => by
    obtain rfl : y = x := by simpa using h
    simp [In.enc]
  | y :: zs, k + 1, x, h => by
    have ih := flat_set2 lo hi zs k x (by simpa using h)
    rw [List.set_cons_succ, List.flatMap_cons, List.flatMap_cons, ← ih, show (k + 1) * 4 + 2 = k * 4 + 2 + 1 + 1 + 1 + 1 by omega, show (k + 1) * 4 + 3 = k * 4 + 3 + 1 + 1 + 1 + 1 by omega]
    simp [In.enc]
/-- The first k rows new, the others old. -/
def mix {α : Type} (ys xs : List α) (k : Nat) : List α := ys.take k ++ xs.drop k
theorem mix_at {α : Type} {ys xs : List α} {k : Nat} {x : α} (hl : ys.length = xs.length) (hx : xs[k]? = some x) : (mix ys xs k)[k]? = some x := by
  have hk := (List.getElem?_eq_some_iff.1 hx).1
  unfold mix
  rw [List.getElem?_append_right (by simp; omega), List.length_take, show k - min k ys.length = 0 by omega, List.getElem?_drop]
  simpa using hx
theorem mix_step {α : Type} {ys xs : List α} {k : Nat} {y : α} (hl : ys.length = xs.length) (hy : ys[k]? = some y) : (mix ys xs k).set k y = mix ys xs (k + 1) := by
  have hk := (List.getElem?_eq_some_iff.1 hy).1
  unfold mix
  rw [List.set_append_right _ _ (by simp; omega), List.length_take, show k - min k ys.length = 0 by omega, List.drop_eq_getElem_cons (by omega), List.set_cons_zero, List.take_add_one, hy]
  simp
theorem mix_len {α : Type} {ys xs : List α} {k : Nat} (hl : ys.length = xs.length) (hk : k ≤ xs.length) : (mix ys xs k).length = xs.length := by
  unfold mix; simp; omega
theorem mix_zero {α : Type} (ys xs : List α) : mix ys xs 0 = xs := by simp [mix]
theorem mix_all {α : Type} {ys xs : List α} {n : Nat} (hl : ys.length = n) (hn : xs.length = n) : mix ys xs n = ys := by
  unfold mix
  rw [List.drop_of_length_le (by omega), List.take_of_length_le (by omega)]; simp

end Go.Proofs.Ytmddnpagfgilcaa

namespace Go.Proofs.Ytmddnpagfgilcaa
open Go.RowKit Go.Shelf Go.Mem Go.RegInv
attribute [local go_sem] RelUpon_value RelUpon_skip RelUpon_enter BigFrame.eval_const BigFrame.eval_global BigFrame.eval_func

def TrvC (m : Nat) (xs : List In) : Value → World → Prop := fun u W => ∃ A' c', u = .agg #[.slice A' m c'] ∧ RowsAt 4 In.enc W A' xs
theorem TrvC.ext {m : Nat} {xs : List In} {u : Value} {W W' : World} (h : TrvC m xs u W) (k : Ext W W') : TrvC m xs u W' := by
  obtain ⟨A', c', e, hr⟩ := h
  exact ⟨A', c', e, hr.ext k⟩
def CvC (m : Nat) (xs : List In) : Value → World → Prop := fun u W => ∃ A' c', u = .tuple #[.agg #[.slice A' m c'], .int .i64 0, .int .i64 0] ∧ RowsAt 4 In.enc W A' xs
theorem CvC.ext {m : Nat} {xs : List In} {u : Value} {W W' : World} (h : CvC m xs u W) (k : Ext W W') : CvC m xs u W' := by
  obtain ⟨A', c', e, hr⟩ := h
  exact ⟨A', c', e, hr.ext k⟩
end Go.Proofs.Ytmddnpagfgilcaa

namespace Go.Proofs.Ytmddnpagfgilcaa
open Go.RowKit Go.Shelf Go.Mem Go.RegInv
attribute [local go_sem] RelUpon_value RelUpon_skip RelUpon_enter BigFrame.eval_const BigFrame.eval_global BigFrame.eval_func

def findR (n : Nat) : Code → Option Code
  | .region i ops d => bif Nat.beq i n then some (.region i ops d) else none
  | .seq a b => match findR n a with
    | some c => some c
    | none => findR n b
  | .cond _ a b => match findR n a with
    | some c => some c
    | none => findR n b
  | .block _ c => findR n c
  | .loop c => findR n c
  | .scope c => findR n c
  | .rangeFunc _ _ a c => match findR n a with
    | some c => some c
    | none => findR n c
  | _ => none
noncomputable def codeR (n : Nat) (f : Func) : Code := ((f.body.bind (findR n)).getD .skip)

set_option maxRecDepth 100000 in
set_option maxHeartbeats 8000000 in
theorem r18 {b o : Nat} {n ca : Nat} {w : World} {l0 l1 : Int} {p0 q0 p1 q1 p2 q2 p3 q3 : Int × Int} {e0 e1 e2 e3 : Int} {q13 q15 q17 q19 : Nat} {V : World} {K : Act → World → Prop} {Q : Exit → Act → World → Prop} {c0 c1 c2 c4 c6 c7 c8 c9 c10 c11 c12 c21 c22 c23 c24 c25 c26 c27 c28 c29 c30 c31 c32 c33 c34 c35 c36 c37 c38 c39 c40 c41 c42 c43 c44 c45 c46 c47 c48 c49 c50 c51 c52 c53 c54 c55 c56 c57 c58 c59 c60 c61 c62 c63 c64 c65 c66 c67 c68 c69 c70 c71 c72 c73 c74 c75 c76 c77 c78 c79 c80 c81 c82 c83 c84 c85 c86 c87 c88 c89 c90 c91 c92 c93 c94 c95 c96 c97 c98 c99 c100 c101 c102 c103 c104 c105 c106 c107 c108 c109 c110 c111 c112 c113 c114 c115 c116 c117 c118 c119 c120 c121 c122 c123 c124 c125 c126 c127 c128 c129 c130 c131 c132 c133 c134 c135 c136 c137 c138 c139 c140 c141 c142 c143 c144 c145 c146 c147 c148 c149 c150 c151 c152 c153 c154 c155 c156 c157 c158 c159 c160 c161 c162 c163 c164 c165 c166 c167 c168 c169 c170 c171 c172 c173 c174 c175 c176 c177 c178 c179 c180 c181 c182 c183 c184 c185 c186 c187 c188 c189 c190 c191 c192 c193 c194 c195 c196 c197 c198 c199 c200 c201 c202 c203 c204 c205 c206 c207 c208 c209 c210 c211 c212 c213 c214 c215 c216 c217 c218 c219 c220 c221 c222 c223 c224 c225 c226 c227 c228 c229 c230 c231 c232 c233 c234 c235 c236 c237 c238 c239 c240 c241 c242 c243 c244 c245 c246 c247 c248 c249 c250 c251 c252 c253 c254 c255 c256 c257 c258 c259 c260 c261 c262 c263 c264 c265 c266 c267 c268 c269 c270 c271 c272 c273 c274 c275 c276 c277 c278 c279 c280 c281 c282 c283 c284 c285 c286 c287 c288 c289 c290 c291 c292 c293 c294 c295 c296 c297 c298 c299 c300 c301 c302 c303 c304 : Value} (HSP0 : Hid (e0 = 0 → ∀ (W : World), Ext w W → Calls Try.prog 27 #[.agg #[.slice (some ⟨b, o, none⟩) n ca], .agg #[.int .i64 p0.1, .int .i64 p0.2, .int .i64 q0.1, .int .i64 q0.2]] W fun e w' => e = .returned (.bool true) ∧ Ext W w')) (HSP1 : Hid (e1 = 0 → ∀ (W : World), Ext w W → Calls Try.prog 27 #[.agg #[.slice (some ⟨b, o, none⟩) n ca], .agg #[.int .i64 p1.1, .int .i64 p1.2, .int .i64 q1.1, .int .i64 q1.2]] W fun e w' => e = .returned (.bool true) ∧ Ext W w')) (HSP2 : Hid (e2 = 0 → ∀ (W : World), Ext w W → Calls Try.prog 27 #[.agg #[.slice (some ⟨b, o, none⟩) n ca], .agg #[.int .i64 p2.1, .int .i64 p2.2, .int .i64 q2.1, .int .i64 q2.2]] W fun e w' => e = .returned (.bool true) ∧ Ext W w')) (HSP3 : Hid (e3 = 0 → ∀ (W : World), Ext w W → Calls Try.prog 27 #[.agg #[.slice (some ⟨b, o, none⟩) n ca], .agg #[.int .i64 p3.1, .int .i64 p3.2, .int .i64 q3.1, .int .i64 q3.2]] W fun e w' => e = .returned (.bool true) ∧ Ext W w')) (HEQ1 : Hid (e1 = 0 → p1 = q1)) (XW : Hid (Ext w V)) (K0r : Hid (Blk V w.heap.size 24 #[.slice (some ⟨b, o, none⟩) n ca])) (K1r : Hid (Blk V (w.heap.size + 1) 52 #[.int .i64 l0, .int .i64 l1])) (K13 : Hid (Blk V q13 34 #[.int .i64 p0.1, .int .i64 p0.2, .int .i64 q0.1, .int .i64 q0.2])) (K15 : Hid (Blk V q15 34 #[.int .i64 p1.1, .int .i64 p1.2, .int .i64 q1.1, .int .i64 q1.2])) (K17 : Hid (Blk V q17 34 #[.int .i64 p2.1, .int .i64 p2.2, .int .i64 q2.1, .int .i64 q2.2])) (K19 : Hid (Blk V q19 34 #[.int .i64 p3.1, .int .i64 p3.2, .int .i64 q3.1, .int .i64 q3.2]))
    (hK : ∀ (u106 u107 u108 u109 u110 u111 u112 u113 u114 u115 u116 u117 u118 u119 u120 u121 u122 u123 u124 u125 u126 u127 u128 u129 u130 u131 u132 u133 u134 u135 u136 u137 u138 u139 u140 u141 u142 u143 u144 u145 u146 u147 u148 u149 u150 u151 u152 u153 u154 u155 u156 u157 u158 u159 u160 u161 u162 u163 u164 u165 u166 u167 u168 u169 u170 u171 u172 u173 u174 u175 u176 u177 u178 u179 : Value) (W' : World), Ext w W' ∧ Blk W' w.heap.size 24 #[.slice (some ⟨b, o, none⟩) n ca] ∧ Blk W' (w.heap.size + 1) 52 #[.int .i64 l0, .int .i64 l1] ∧ Blk W' q13 34 #[.int .i64 p0.1, .int .i64 p0.2, .int .i64 q0.1, .int .i64 q0.2] ∧ Blk W' q15 34 #[.int .i64 p1.1, .int .i64 p1.2, .int .i64 q1.1, .int .i64 q1.2] ∧ Blk W' q17 34 #[.int .i64 p2.1, .int .i64 p2.2, .int .i64 q2.1, .int .i64 q2.2] ∧ Blk W' q19 34 #[.int .i64 p3.1, .int .i64 p3.2, .int .i64 q3.1, .int .i64 q3.2] → K ⟨(List.toArray (c0 :: c1 :: c2 :: (.pointer (some ⟨w.heap.size, 0, none⟩)) :: c4 :: (.pointer (some ⟨w.heap.size + 1, 0, none⟩)) :: c6 :: c7 :: c8 :: c9 :: c10 :: c11 :: c12 :: (.pointer (some ⟨q13, 0, none⟩)) :: (.int .i64 e0) :: (.pointer (some ⟨q15, 0, none⟩)) :: (.int .i64 e1) :: (.pointer (some ⟨q17, 0, none⟩)) :: (.int .i64 e2) :: (.pointer (some ⟨q19, 0, none⟩)) :: (.int .i64 e3) :: c21 :: c22 :: c23 :: c24 :: c25 :: c26 :: c27 :: c28 :: c29 :: c30 :: c31 :: c32 :: c33 :: c34 :: c35 :: c36 :: c37 :: c38 :: c39 :: c40 :: c41 :: c42 :: c43 :: c44 :: c45 :: c46 :: c47 :: c48 :: c49 :: c50 :: c51 :: c52 :: c53 :: c54 :: c55 :: c56 :: c57 :: c58 :: c59 :: c60 :: c61 :: c62 :: c63 :: c64 :: c65 :: c66 :: c67 :: c68 :: c69 :: c70 :: c71 :: c72 :: c73 :: c74 :: c75 :: c76 :: c77 :: c78 :: c79 :: c80 :: c81 :: c82 :: c83 :: c84 :: c85 :: c86 :: c87 :: c88 :: c89 :: c90 :: c91 :: c92 :: c93 :: c94 :: c95 :: c96 :: c97 :: c98 :: c99 :: c100 :: c101 :: c102 :: c103 :: c104 :: c105 :: u106 :: u107 :: u108 :: u109 :: u110 :: u111 :: u112 :: u113 :: u114 :: u115 :: u116 :: u117 :: u118 :: u119 :: u120 :: u121 :: u122 :: u123 :: u124 :: u125 :: u126 :: u127 :: u128 :: u129 :: u130 :: u131 :: u132 :: u133 :: u134 :: u135 :: u136 :: u137 :: u138 :: u139 :: u140 :: u141 :: u142 :: u143 :: u144 :: u145 :: u146 :: u147 :: u148 :: u149 :: u150 :: u151 :: u152 :: u153 :: u154 :: u155 :: u156 :: u157 :: u158 :: u159 :: u160 :: u161 :: u162 :: u163 :: u164 :: u165 :: u166 :: u167 :: u168 :: u169 :: u170 :: u171 :: u172 :: u173 :: u174 :: u175 :: u176 :: u177 :: u178 :: u179 :: (.bool false) :: c181 :: c182 :: c183 :: c184 :: c185 :: c186 :: c187 :: c188 :: c189 :: c190 :: c191 :: c192 :: c193 :: c194 :: c195 :: c196 :: c197 :: c198 :: c199 :: c200 :: c201 :: c202 :: c203 :: c204 :: c205 :: c206 :: c207 :: c208 :: c209 :: c210 :: c211 :: c212 :: c213 :: c214 :: c215 :: c216 :: c217 :: c218 :: c219 :: c220 :: c221 :: c222 :: c223 :: c224 :: c225 :: c226 :: c227 :: c228 :: c229 :: c230 :: c231 :: c232 :: c233 :: c234 :: c235 :: c236 :: c237 :: c238 :: c239 :: c240 :: c241 :: c242 :: c243 :: c244 :: c245 :: c246 :: c247 :: c248 :: c249 :: c250 :: c251 :: c252 :: c253 :: c254 :: c255 :: c256 :: c257 :: c258 :: c259 :: c260 :: c261 :: c262 :: c263 :: c264 :: c265 :: c266 :: c267 :: c268 :: c269 :: c270 :: c271 :: c272 :: c273 :: c274 :: c275 :: c276 :: c277 :: c278 :: c279 :: c280 :: c281 :: c282 :: c283 :: c284 :: c285 :: c286 :: c287 :: c288 :: c289 :: c290 :: c291 :: c292 :: c293 :: c294 :: c295 :: c296 :: c297 :: c298 :: c299 :: c300 :: c301 :: c302 :: c303 :: c304 :: [])), []⟩ W') :
    Code.wp Try.prog (codeR 18 Try.f4) (Exit.then K Q) ⟨(List.toArray (c0 :: c1 :: c2 :: (.pointer (some ⟨w.heap.size, 0, none⟩)) :: c4 :: (.pointer (some ⟨w.heap.size + 1, 0, none⟩)) :: c6 :: c7 :: c8 :: c9 :: c10 :: c11 :: c12 :: (.pointer (some ⟨q13, 0, none⟩)) :: (.int .i64 e0) :: (.pointer (some ⟨q15, 0, none⟩)) :: (.int .i64 e1) :: (.pointer (some ⟨q17, 0, none⟩)) :: (.int .i64 e2) :: (.pointer (some ⟨q19, 0, none⟩)) :: (.int .i64 e3) :: c21 :: c22 :: c23 :: c24 :: c25 :: c26 :: c27 :: c28 :: c29 :: c30 :: c31 :: c32 :: c33 :: c34 :: c35 :: c36 :: c37 :: c38 :: c39 :: c40 :: c41 :: c42 :: c43 :: c44 :: c45 :: c46 :: c47 :: c48 :: c49 :: c50 :: c51 :: c52 :: c53 :: c54 :: c55 :: c56 :: c57 :: c58 :: c59 :: c60 :: c61 :: c62 :: c63 :: c64 :: c65 :: c66 :: c67 :: c68 :: c69 :: c70 :: c71 :: c72 :: c73 :: c74 :: c75 :: c76 :: c77 :: c78 :: c79 :: c80 :: c81 :: c82 :: c83 :: c84 :: c85 :: c86 :: c87 :: c88 :: c89 :: c90 :: c91 :: c92 :: c93 :: c94 :: c95 :: c96 :: c97 :: c98 :: c99 :: c100 :: c101 :: c102 :: c103 :: c104 :: c105 :: c106 :: c107 :: c108 :: c109 :: c110 :: c111 :: c112 :: c113 :: c114 :: c115 :: c116 :: c117 :: c118 :: c119 :: c120 :: c121 :: c122 :: c123 :: c124 :: c125 :: c126 :: c127 :: c128 :: c129 :: c130 :: c131 :: c132 :: c133 :: c134 :: c135 :: c136 :: c137 :: c138 :: c139 :: c140 :: c141 :: c142 :: c143 :: c144 :: c145 :: c146 :: c147 :: c148 :: c149 :: c150 :: c151 :: c152 :: c153 :: c154 :: c155 :: c156 :: c157 :: c158 :: c159 :: c160 :: c161 :: c162 :: c163 :: c164 :: c165 :: c166 :: c167 :: c168 :: c169 :: c170 :: c171 :: c172 :: c173 :: c174 :: c175 :: c176 :: c177 :: c178 :: c179 :: c180 :: c181 :: c182 :: c183 :: c184 :: c185 :: c186 :: c187 :: c188 :: c189 :: c190 :: c191 :: c192 :: c193 :: c194 :: c195 :: c196 :: c197 :: c198 :: c199 :: c200 :: c201 :: c202 :: c203 :: c204 :: c205 :: c206 :: c207 :: c208 :: c209 :: c210 :: c211 :: c212 :: c213 :: c214 :: c215 :: c216 :: c217 :: c218 :: c219 :: c220 :: c221 :: c222 :: c223 :: c224 :: c225 :: c226 :: c227 :: c228 :: c229 :: c230 :: c231 :: c232 :: c233 :: c234 :: c235 :: c236 :: c237 :: c238 :: c239 :: c240 :: c241 :: c242 :: c243 :: c244 :: c245 :: c246 :: c247 :: c248 :: c249 :: c250 :: c251 :: c252 :: c253 :: c254 :: c255 :: c256 :: c257 :: c258 :: c259 :: c260 :: c261 :: c262 :: c263 :: c264 :: c265 :: c266 :: c267 :: c268 :: c269 :: c270 :: c271 :: c272 :: c273 :: c274 :: c275 :: c276 :: c277 :: c278 :: c279 :: c280 :: c281 :: c282 :: c283 :: c284 :: c285 :: c286 :: c287 :: c288 :: c289 :: c290 :: c291 :: c292 :: c293 :: c294 :: c295 :: c296 :: c297 :: c298 :: c299 :: c300 :: c301 :: c302 :: c303 :: c304 :: [])), []⟩ V := by
  conv => arg 2; whnf
  have HK := Lib.hid hK
  clear hK
  by_cases he0 : e0 = 0
  · subst he0
    replace HSP0 := Lib.hid (HSP0.out rfl)
    by_cases he1 : e1 = 0
    · subst he1
      replace HSP1 := Lib.hid (HSP1.out rfl)
      have hpq := HEQ1.out rfl
      subst hpq
      clear HEQ1
      by_cases he2 : e2 = 0
      · subst he2
        replace HSP2 := Lib.hid (HSP2.out rfl)
        by_cases he3 : e3 = 0
        · subst he3
          replace HSP3 := Lib.hid (HSP3.out rfl)
          have y0 : V.cell? ⟨w.heap.size, 0, none⟩ = some (.slice (some ⟨b, o, none⟩) n ca) := K0r.out.cell 0
          have v13_0 : V.cell? ⟨q13, 0, none⟩ = some (.int .i64 p0.1) := K13.out.cell 0
          have v13_1 : V.cell? ⟨q13, 1, none⟩ = some (.int .i64 p0.2) := K13.out.cell 1
          have v13_2 : V.cell? ⟨q13, 2, none⟩ = some (.int .i64 q0.1) := K13.out.cell 2
          have v13_3 : V.cell? ⟨q13, 3, none⟩ = some (.int .i64 q0.2) := K13.out.cell 3
          go_wp2_with (go_at_call 27; refine (HSP0.out _ XW.out).mono ?_; rintro e U1 ⟨rfl, hx⟩; have XW := Lib.hid (XW.out.trans hx); have K0r := Lib.hid (K0r.out.ext hx); have K1r := Lib.hid (K1r.out.ext hx); have K13 := Lib.hid (K13.out.ext hx); have K15 := Lib.hid (K15.out.ext hx); have K17 := Lib.hid (K17.out.ext hx); have K19 := Lib.hid (K19.out.ext hx); clear hx y0 v13_0 v13_1 v13_2 v13_3; refine Hid.out ?_)
          refine Lib.hid ?_
          have y0 : U1.cell? ⟨w.heap.size, 0, none⟩ = some (.slice (some ⟨b, o, none⟩) n ca) := K0r.out.cell 0
          have v15_0 : U1.cell? ⟨q15, 0, none⟩ = some (.int .i64 p1.1) := K15.out.cell 0
          have v15_1 : U1.cell? ⟨q15, 1, none⟩ = some (.int .i64 p1.2) := K15.out.cell 1
          have v15_2 : U1.cell? ⟨q15, 2, none⟩ = some (.int .i64 p1.1) := K15.out.cell 2
          have v15_3 : U1.cell? ⟨q15, 3, none⟩ = some (.int .i64 p1.2) := K15.out.cell 3
          go_wp2_with (go_at_call 27; refine (HSP1.out _ XW.out).mono ?_; rintro e U2 ⟨rfl, hx⟩; have XW := Lib.hid (XW.out.trans hx); have K0r := Lib.hid (K0r.out.ext hx); have K1r := Lib.hid (K1r.out.ext hx); have K13 := Lib.hid (K13.out.ext hx); have K15 := Lib.hid (K15.out.ext hx); have K17 := Lib.hid (K17.out.ext hx); have K19 := Lib.hid (K19.out.ext hx); clear hx y0 v15_0 v15_1 v15_2 v15_3; refine Hid.out ?_)
          refine Lib.hid ?_
          have v15_0 : U2.cell? ⟨q15, 0, none⟩ = some (.int .i64 p1.1) := K15.out.cell 0
          have v15_1 : U2.cell? ⟨q15, 1, none⟩ = some (.int .i64 p1.2) := K15.out.cell 1
          have v15_2 : U2.cell? ⟨q15, 2, none⟩ = some (.int .i64 p1.1) := K15.out.cell 2
          have v15_3 : U2.cell? ⟨q15, 3, none⟩ = some (.int .i64 p1.2) := K15.out.cell 3
          have y0 : U2.cell? ⟨w.heap.size, 0, none⟩ = some (.slice (some ⟨b, o, none⟩) n ca) := K0r.out.cell 0
          have v17_0 : U2.cell? ⟨q17, 0, none⟩ = some (.int .i64 p2.1) := K17.out.cell 0
          have v17_1 : U2.cell? ⟨q17, 1, none⟩ = some (.int .i64 p2.2) := K17.out.cell 1
          have v17_2 : U2.cell? ⟨q17, 2, none⟩ = some (.int .i64 q2.1) := K17.out.cell 2
          have v17_3 : U2.cell? ⟨q17, 3, none⟩ = some (.int .i64 q2.2) := K17.out.cell 3
          go_wp2_with (go_at_call 27; refine (HSP2.out _ XW.out).mono ?_; rintro e U3 ⟨rfl, hx⟩; have XW := Lib.hid (XW.out.trans hx); have K0r := Lib.hid (K0r.out.ext hx); have K1r := Lib.hid (K1r.out.ext hx); have K13 := Lib.hid (K13.out.ext hx); have K15 := Lib.hid (K15.out.ext hx); have K17 := Lib.hid (K17.out.ext hx); have K19 := Lib.hid (K19.out.ext hx); clear hx y0 v17_0 v17_1 v17_2 v17_3; refine Hid.out ?_)
          refine Lib.hid ?_
          have y0 : U3.cell? ⟨w.heap.size, 0, none⟩ = some (.slice (some ⟨b, o, none⟩) n ca) := K0r.out.cell 0
          have v19_0 : U3.cell? ⟨q19, 0, none⟩ = some (.int .i64 p3.1) := K19.out.cell 0
          have v19_1 : U3.cell? ⟨q19, 1, none⟩ = some (.int .i64 p3.2) := K19.out.cell 1
          have v19_2 : U3.cell? ⟨q19, 2, none⟩ = some (.int .i64 q3.1) := K19.out.cell 2
          have v19_3 : U3.cell? ⟨q19, 3, none⟩ = some (.int .i64 q3.2) := K19.out.cell 3
          go_wp2_with (go_at_call 27; refine (HSP3.out _ XW.out).mono ?_; rintro e U4 ⟨rfl, hx⟩; have XW := Lib.hid (XW.out.trans hx); have K0r := Lib.hid (K0r.out.ext hx); have K1r := Lib.hid (K1r.out.ext hx); have K13 := Lib.hid (K13.out.ext hx); have K15 := Lib.hid (K15.out.ext hx); have K17 := Lib.hid (K17.out.ext hx); have K19 := Lib.hid (K19.out.ext hx); clear hx y0 v19_0 v19_1 v19_2 v19_3; refine Hid.out ?_)
          refine Lib.hid ?_
          go_wp2
          exact HK.out _ _ _ _ _ _ _ _ _ _ _ _ _ _ _ _ _ _ _ _ _ _ _ _ _ _ _ _ _ _ _ _ _ _ _ _ _ _ _ _ _ _ _ _ _ _ _ _ _ _ _ _ _ _ _ _ _ _ _ _ _ _ _ _ _ _ _ _ _ _ _ _ _ _ _ ⟨XW.out, K0r.out, K1r.out, K13.out, K15.out, K17.out, K19.out⟩
        · have hb3 : (e3 == 0) = false := by simp [he3]
          have y0 : V.cell? ⟨w.heap.size, 0, none⟩ = some (.slice (some ⟨b, o, none⟩) n ca) := K0r.out.cell 0
          have v13_0 : V.cell? ⟨q13, 0, none⟩ = some (.int .i64 p0.1) := K13.out.cell 0
          have v13_1 : V.cell? ⟨q13, 1, none⟩ = some (.int .i64 p0.2) := K13.out.cell 1
          have v13_2 : V.cell? ⟨q13, 2, none⟩ = some (.int .i64 q0.1) := K13.out.cell 2
          have v13_3 : V.cell? ⟨q13, 3, none⟩ = some (.int .i64 q0.2) := K13.out.cell 3
          go_wp2_with (go_at_call 27; refine (HSP0.out _ XW.out).mono ?_; rintro e U1 ⟨rfl, hx⟩; have XW := Lib.hid (XW.out.trans hx); have K0r := Lib.hid (K0r.out.ext hx); have K1r := Lib.hid (K1r.out.ext hx); have K13 := Lib.hid (K13.out.ext hx); have K15 := Lib.hid (K15.out.ext hx); have K17 := Lib.hid (K17.out.ext hx); have K19 := Lib.hid (K19.out.ext hx); clear hx y0 v13_0 v13_1 v13_2 v13_3; refine Hid.out ?_)
          refine Lib.hid ?_
          have y0 : U1.cell? ⟨w.heap.size, 0, none⟩ = some (.slice (some ⟨b, o, none⟩) n ca) := K0r.out.cell 0
          have v15_0 : U1.cell? ⟨q15, 0, none⟩ = some (.int .i64 p1.1) := K15.out.cell 0
          have v15_1 : U1.cell? ⟨q15, 1, none⟩ = some (.int .i64 p1.2) := K15.out.cell 1
          have v15_2 : U1.cell? ⟨q15, 2, none⟩ = some (.int .i64 p1.1) := K15.out.cell 2
          have v15_3 : U1.cell? ⟨q15, 3, none⟩ = some (.int .i64 p1.2) := K15.out.cell 3
          go_wp2_with (go_at_call 27; refine (HSP1.out _ XW.out).mono ?_; rintro e U2 ⟨rfl, hx⟩; have XW := Lib.hid (XW.out.trans hx); have K0r := Lib.hid (K0r.out.ext hx); have K1r := Lib.hid (K1r.out.ext hx); have K13 := Lib.hid (K13.out.ext hx); have K15 := Lib.hid (K15.out.ext hx); have K17 := Lib.hid (K17.out.ext hx); have K19 := Lib.hid (K19.out.ext hx); clear hx y0 v15_0 v15_1 v15_2 v15_3; refine Hid.out ?_)
          refine Lib.hid ?_
          have v15_0 : U2.cell? ⟨q15, 0, none⟩ = some (.int .i64 p1.1) := K15.out.cell 0
          have v15_1 : U2.cell? ⟨q15, 1, none⟩ = some (.int .i64 p1.2) := K15.out.cell 1
          have v15_2 : U2.cell? ⟨q15, 2, none⟩ = some (.int .i64 p1.1) := K15.out.cell 2
          have v15_3 : U2.cell? ⟨q15, 3, none⟩ = some (.int .i64 p1.2) := K15.out.cell 3
          have y0 : U2.cell? ⟨w.heap.size, 0, none⟩ = some (.slice (some ⟨b, o, none⟩) n ca) := K0r.out.cell 0
          have v17_0 : U2.cell? ⟨q17, 0, none⟩ = some (.int .i64 p2.1) := K17.out.cell 0
          have v17_1 : U2.cell? ⟨q17, 1, none⟩ = some (.int .i64 p2.2) := K17.out.cell 1
          have v17_2 : U2.cell? ⟨q17, 2, none⟩ = some (.int .i64 q2.1) := K17.out.cell 2
          have v17_3 : U2.cell? ⟨q17, 3, none⟩ = some (.int .i64 q2.2) := K17.out.cell 3
          go_wp2_with (go_at_call 27; refine (HSP2.out _ XW.out).mono ?_; rintro e U3 ⟨rfl, hx⟩; have XW := Lib.hid (XW.out.trans hx); have K0r := Lib.hid (K0r.out.ext hx); have K1r := Lib.hid (K1r.out.ext hx); have K13 := Lib.hid (K13.out.ext hx); have K15 := Lib.hid (K15.out.ext hx); have K17 := Lib.hid (K17.out.ext hx); have K19 := Lib.hid (K19.out.ext hx); clear hx y0 v17_0 v17_1 v17_2 v17_3; refine Hid.out ?_)
          refine Lib.hid ?_
          go_wp2
          exact HK.out _ _ _ _ _ _ _ _ _ _ _ _ _ _ _ _ _ _ _ _ _ _ _ _ _ _ _ _ _ _ _ _ _ _ _ _ _ _ _ _ _ _ _ _ _ _ _ _ _ _ _ _ _ _ _ _ _ _ _ _ _ _ _ _ _ _ _ _ _ _ _ _ _ _ _ ⟨XW.out, K0r.out, K1r.out, K13.out, K15.out, K17.out, K19.out⟩
      · have hb2 : (e2 == 0) = false := by simp [he2]
        by_cases he3 : e3 = 0
        · subst he3
          replace HSP3 := Lib.hid (HSP3.out rfl)
          have y0 : V.cell? ⟨w.heap.size, 0, none⟩ = some (.slice (some ⟨b, o, none⟩) n ca) := K0r.out.cell 0
          have v13_0 : V.cell? ⟨q13, 0, none⟩ = some (.int .i64 p0.1) := K13.out.cell 0
          have v13_1 : V.cell? ⟨q13, 1, none⟩ = some (.int .i64 p0.2) := K13.out.cell 1
          have v13_2 : V.cell? ⟨q13, 2, none⟩ = some (.int .i64 q0.1) := K13.out.cell 2
          have v13_3 : V.cell? ⟨q13, 3, none⟩ = some (.int .i64 q0.2) := K13.out.cell 3
          go_wp2_with (go_at_call 27; refine (HSP0.out _ XW.out).mono ?_; rintro e U1 ⟨rfl, hx⟩; have XW := Lib.hid (XW.out.trans hx); have K0r := Lib.hid (K0r.out.ext hx); have K1r := Lib.hid (K1r.out.ext hx); have K13 := Lib.hid (K13.out.ext hx); have K15 := Lib.hid (K15.out.ext hx); have K17 := Lib.hid (K17.out.ext hx); have K19 := Lib.hid (K19.out.ext hx); clear hx y0 v13_0 v13_1 v13_2 v13_3; refine Hid.out ?_)
          refine Lib.hid ?_
          have y0 : U1.cell? ⟨w.heap.size, 0, none⟩ = some (.slice (some ⟨b, o, none⟩) n ca) := K0r.out.cell 0
          have v15_0 : U1.cell? ⟨q15, 0, none⟩ = some (.int .i64 p1.1) := K15.out.cell 0
          have v15_1 : U1.cell? ⟨q15, 1, none⟩ = some (.int .i64 p1.2) := K15.out.cell 1
          have v15_2 : U1.cell? ⟨q15, 2, none⟩ = some (.int .i64 p1.1) := K15.out.cell 2
          have v15_3 : U1.cell? ⟨q15, 3, none⟩ = some (.int .i64 p1.2) := K15.out.cell 3
          go_wp2_with (go_at_call 27; refine (HSP1.out _ XW.out).mono ?_; rintro e U2 ⟨rfl, hx⟩; have XW := Lib.hid (XW.out.trans hx); have K0r := Lib.hid (K0r.out.ext hx); have K1r := Lib.hid (K1r.out.ext hx); have K13 := Lib.hid (K13.out.ext hx); have K15 := Lib.hid (K15.out.ext hx); have K17 := Lib.hid (K17.out.ext hx); have K19 := Lib.hid (K19.out.ext hx); clear hx y0 v15_0 v15_1 v15_2 v15_3; refine Hid.out ?_)
          refine Lib.hid ?_
          have v15_0 : U2.cell? ⟨q15, 0, none⟩ = some (.int .i64 p1.1) := K15.out.cell 0
          have v15_1 : U2.cell? ⟨q15, 1, none⟩ = some (.int .i64 p1.2) := K15.out.cell 1
          have v15_2 : U2.cell? ⟨q15, 2, none⟩ = some (.int .i64 p1.1) := K15.out.cell 2
          have v15_3 : U2.cell? ⟨q15, 3, none⟩ = some (.int .i64 p1.2) := K15.out.cell 3
          have y0 : U2.cell? ⟨w.heap.size, 0, none⟩ = some (.slice (some ⟨b, o, none⟩) n ca) := K0r.out.cell 0
          have v19_0 : U2.cell? ⟨q19, 0, none⟩ = some (.int .i64 p3.1) := K19.out.cell 0
          have v19_1 : U2.cell? ⟨q19, 1, none⟩ = some (.int .i64 p3.2) := K19.out.cell 1
          have v19_2 : U2.cell? ⟨q19, 2, none⟩ = some (.int .i64 q3.1) := K19.out.cell 2
          have v19_3 : U2.cell? ⟨q19, 3, none⟩ = some (.int .i64 q3.2) := K19.out.cell 3
          go_wp2_with (go_at_call 27; refine (HSP3.out _ XW.out).mono ?_; rintro e U3 ⟨rfl, hx⟩; have XW := Lib.hid (XW.out.trans hx); have K0r := Lib.hid (K0r.out.ext hx); have K1r := Lib.hid (K1r.out.ext hx); have K13 := Lib.hid (K13.out.ext hx); have K15 := Lib.hid (K15.out.ext hx); have K17 := Lib.hid (K17.out.ext hx); have K19 := Lib.hid (K19.out.ext hx); clear hx y0 v19_0 v19_1 v19_2 v19_3; refine Hid.out ?_)
          refine Lib.hid ?_
          go_wp2
          exact HK.out _ _ _ _ _ _ _ _ _ _ _ _ _ _ _ _ _ _ _ _ _ _ _ _ _ _ _ _ _ _ _ _ _ _ _ _ _ _ _ _ _ _ _ _ _ _ _ _ _ _ _ _ _ _ _ _ _ _ _ _ _ _ _ _ _ _ _ _ _ _ _ _ _ _ _ ⟨XW.out, K0r.out, K1r.out, K13.out, K15.out, K17.out, K19.out⟩
        · have hb3 : (e3 == 0) = false := by simp [he3]
          have y0 : V.cell? ⟨w.heap.size, 0, none⟩ = some (.slice (some ⟨b, o, none⟩) n ca) := K0r.out.cell 0
          have v13_0 : V.cell? ⟨q13, 0, none⟩ = some (.int .i64 p0.1) := K13.out.cell 0
          have v13_1 : V.cell? ⟨q13, 1, none⟩ = some (.int .i64 p0.2) := K13.out.cell 1
          have v13_2 : V.cell? ⟨q13, 2, none⟩ = some (.int .i64 q0.1) := K13.out.cell 2
          have v13_3 : V.cell? ⟨q13, 3, none⟩ = some (.int .i64 q0.2) := K13.out.cell 3
          go_wp2_with (go_at_call 27; refine (HSP0.out _ XW.out).mono ?_; rintro e U1 ⟨rfl, hx⟩; have XW := Lib.hid (XW.out.trans hx); have K0r := Lib.hid (K0r.out.ext hx); have K1r := Lib.hid (K1r.out.ext hx); have K13 := Lib.hid (K13.out.ext hx); have K15 := Lib.hid (K15.out.ext hx); have K17 := Lib.hid (K17.out.ext hx); have K19 := Lib.hid (K19.out.ext hx); clear hx y0 v13_0 v13_1 v13_2 v13_3; refine Hid.out ?_)
          refine Lib.hid ?_
          have y0 : U1.cell? ⟨w.heap.size, 0, none⟩ = some (.slice (some ⟨b, o, none⟩) n ca) := K0r.out.cell 0
          have v15_0 : U1.cell? ⟨q15, 0, none⟩ = some (.int .i64 p1.1) := K15.out.cell 0
          have v15_1 : U1.cell? ⟨q15, 1, none⟩ = some (.int .i64 p1.2) := K15.out.cell 1
          have v15_2 : U1.cell? ⟨q15, 2, none⟩ = some (.int .i64 p1.1) := K15.out.cell 2
          have v15_3 : U1.cell? ⟨q15, 3, none⟩ = some (.int .i64 p1.2) := K15.out.cell 3
          go_wp2_with (go_at_call 27; refine (HSP1.out _ XW.out).mono ?_; rintro e U2 ⟨rfl, hx⟩; have XW := Lib.hid (XW.out.trans hx); have K0r := Lib.hid (K0r.out.ext hx); have K1r := Lib.hid (K1r.out.ext hx); have K13 := Lib.hid (K13.out.ext hx); have K15 := Lib.hid (K15.out.ext hx); have K17 := Lib.hid (K17.out.ext hx); have K19 := Lib.hid (K19.out.ext hx); clear hx y0 v15_0 v15_1 v15_2 v15_3; refine Hid.out ?_)
          refine Lib.hid ?_
          have v15_0 : U2.cell? ⟨q15, 0, none⟩ = some (.int .i64 p1.1) := K15.out.cell 0
          have v15_1 : U2.cell? ⟨q15, 1, none⟩ = some (.int .i64 p1.2) := K15.out.cell 1
          have v15_2 : U2.cell? ⟨q15, 2, none⟩ = some (.int .i64 p1.1) := K15.out.cell 2
          have v15_3 : U2.cell? ⟨q15, 3, none⟩ = some (.int .i64 p1.2) := K15.out.cell 3
          go_wp2
          exact HK.out _ _ _ _ _ _ _ _ _ _ _ _ _ _ _ _ _ _ _ _ _ _ _ _ _ _ _ _ _ _ _ _ _ _ _ _ _ _ _ _ _ _ _ _ _ _ _ _ _ _ _ _ _ _ _ _ _ _ _ _ _ _ _ _ _ _ _ _ _ _ _ _ _ _ _ ⟨XW.out, K0r.out, K1r.out, K13.out, K15.out, K17.out, K19.out⟩
    · have hb1 : (e1 == 0) = false := by simp [he1]
      by_cases he2 : e2 = 0
      · subst he2
        replace HSP2 := Lib.hid (HSP2.out rfl)
        by_cases he3 : e3 = 0
        · subst he3
          replace HSP3 := Lib.hid (HSP3.out rfl)
          have y0 : V.cell? ⟨w.heap.size, 0, none⟩ = some (.slice (some ⟨b, o, none⟩) n ca) := K0r.out.cell 0
          have v13_0 : V.cell? ⟨q13, 0, none⟩ = some (.int .i64 p0.1) := K13.out.cell 0
          have v13_1 : V.cell? ⟨q13, 1, none⟩ = some (.int .i64 p0.2) := K13.out.cell 1
          have v13_2 : V.cell? ⟨q13, 2, none⟩ = some (.int .i64 q0.1) := K13.out.cell 2
          have v13_3 : V.cell? ⟨q13, 3, none⟩ = some (.int .i64 q0.2) := K13.out.cell 3
          go_wp2_with (go_at_call 27; refine (HSP0.out _ XW.out).mono ?_; rintro e U1 ⟨rfl, hx⟩; have XW := Lib.hid (XW.out.trans hx); have K0r := Lib.hid (K0r.out.ext hx); have K1r := Lib.hid (K1r.out.ext hx); have K13 := Lib.hid (K13.out.ext hx); have K15 := Lib.hid (K15.out.ext hx); have K17 := Lib.hid (K17.out.ext hx); have K19 := Lib.hid (K19.out.ext hx); clear hx y0 v13_0 v13_1 v13_2 v13_3; refine Hid.out ?_)
          refine Lib.hid ?_
          have y0 : U1.cell? ⟨w.heap.size, 0, none⟩ = some (.slice (some ⟨b, o, none⟩) n ca) := K0r.out.cell 0
          have v17_0 : U1.cell? ⟨q17, 0, none⟩ = some (.int .i64 p2.1) := K17.out.cell 0
          have v17_1 : U1.cell? ⟨q17, 1, none⟩ = some (.int .i64 p2.2) := K17.out.cell 1
          have v17_2 : U1.cell? ⟨q17, 2, none⟩ = some (.int .i64 q2.1) := K17.out.cell 2
          have v17_3 : U1.cell? ⟨q17, 3, none⟩ = some (.int .i64 q2.2) := K17.out.cell 3
          go_wp2_with (go_at_call 27; refine (HSP2.out _ XW.out).mono ?_; rintro e U2 ⟨rfl, hx⟩; have XW := Lib.hid (XW.out.trans hx); have K0r := Lib.hid (K0r.out.ext hx); have K1r := Lib.hid (K1r.out.ext hx); have K13 := Lib.hid (K13.out.ext hx); have K15 := Lib.hid (K15.out.ext hx); have K17 := Lib.hid (K17.out.ext hx); have K19 := Lib.hid (K19.out.ext hx); clear hx y0 v17_0 v17_1 v17_2 v17_3; refine Hid.out ?_)
          refine Lib.hid ?_
          have y0 : U2.cell? ⟨w.heap.size, 0, none⟩ = some (.slice (some ⟨b, o, none⟩) n ca) := K0r.out.cell 0
          have v19_0 : U2.cell? ⟨q19, 0, none⟩ = some (.int .i64 p3.1) := K19.out.cell 0
          have v19_1 : U2.cell? ⟨q19, 1, none⟩ = some (.int .i64 p3.2) := K19.out.cell 1
          have v19_2 : U2.cell? ⟨q19, 2, none⟩ = some (.int .i64 q3.1) := K19.out.cell 2
          have v19_3 : U2.cell? ⟨q19, 3, none⟩ = some (.int .i64 q3.2) := K19.out.cell 3
          go_wp2_with (go_at_call 27; refine (HSP3.out _ XW.out).mono ?_; rintro e U3 ⟨rfl, hx⟩; have XW := Lib.hid (XW.out.trans hx); have K0r := Lib.hid (K0r.out.ext hx); have K1r := Lib.hid (K1r.out.ext hx); have K13 := Lib.hid (K13.out.ext hx); have K15 := Lib.hid (K15.out.ext hx); have K17 := Lib.hid (K17.out.ext hx); have K19 := Lib.hid (K19.out.ext hx); clear hx y0 v19_0 v19_1 v19_2 v19_3; refine Hid.out ?_)
          refine Lib.hid ?_
          go_wp2
          exact HK.out _ _ _ _ _ _ _ _ _ _ _ _ _ _ _ _ _ _ _ _ _ _ _ _ _ _ _ _ _ _ _ _ _ _ _ _ _ _ _ _ _ _ _ _ _ _ _ _ _ _ _ _ _ _ _ _ _ _ _ _ _ _ _ _ _ _ _ _ _ _ _ _ _ _ _ ⟨XW.out, K0r.out, K1r.out, K13.out, K15.out, K17.out, K19.out⟩
        · have hb3 : (e3 == 0) = false := by simp [he3]
          have y0 : V.cell? ⟨w.heap.size, 0, none⟩ = some (.slice (some ⟨b, o, none⟩) n ca) := K0r.out.cell 0
          have v13_0 : V.cell? ⟨q13, 0, none⟩ = some (.int .i64 p0.1) := K13.out.cell 0
          have v13_1 : V.cell? ⟨q13, 1, none⟩ = some (.int .i64 p0.2) := K13.out.cell 1
          have v13_2 : V.cell? ⟨q13, 2, none⟩ = some (.int .i64 q0.1) := K13.out.cell 2
          have v13_3 : V.cell? ⟨q13, 3, none⟩ = some (.int .i64 q0.2) := K13.out.cell 3
          go_wp2_with (go_at_call 27; refine (HSP0.out _ XW.out).mono ?_; rintro e U1 ⟨rfl, hx⟩; have XW := Lib.hid (XW.out.trans hx); have K0r := Lib.hid (K0r.out.ext hx); have K1r := Lib.hid (K1r.out.ext hx); have K13 := Lib.hid (K13.out.ext hx); have K15 := Lib.hid (K15.out.ext hx); have K17 := Lib.hid (K17.out.ext hx); have K19 := Lib.hid (K19.out.ext hx); clear hx y0 v13_0 v13_1 v13_2 v13_3; refine Hid.out ?_)
          refine Lib.hid ?_
          have y0 : U1.cell? ⟨w.heap.size, 0, none⟩ = some (.slice (some ⟨b, o, none⟩) n ca) := K0r.out.cell 0
          have v17_0 : U1.cell? ⟨q17, 0, none⟩ = some (.int .i64 p2.1) := K17.out.cell 0
          have v17_1 : U1.cell? ⟨q17, 1, none⟩ = some (.int .i64 p2.2) := K17.out.cell 1
          have v17_2 : U1.cell? ⟨q17, 2, none⟩ = some (.int .i64 q2.1) := K17.out.cell 2
          have v17_3 : U1.cell? ⟨q17, 3, none⟩ = some (.int .i64 q2.2) := K17.out.cell 3
          go_wp2_with (go_at_call 27; refine (HSP2.out _ XW.out).mono ?_; rintro e U2 ⟨rfl, hx⟩; have XW := Lib.hid (XW.out.trans hx); have K0r := Lib.hid (K0r.out.ext hx); have K1r := Lib.hid (K1r.out.ext hx); have K13 := Lib.hid (K13.out.ext hx); have K15 := Lib.hid (K15.out.ext hx); have K17 := Lib.hid (K17.out.ext hx); have K19 := Lib.hid (K19.out.ext hx); clear hx y0 v17_0 v17_1 v17_2 v17_3; refine Hid.out ?_)
          refine Lib.hid ?_
          go_wp2
          exact HK.out _ _ _ _ _ _ _ _ _ _ _ _ _ _ _ _ _ _ _ _ _ _ _ _ _ _ _ _ _ _ _ _ _ _ _ _ _ _ _ _ _ _ _ _ _ _ _ _ _ _ _ _ _ _ _ _ _ _ _ _ _ _ _ _ _ _ _ _ _ _ _ _ _ _ _ ⟨XW.out, K0r.out, K1r.out, K13.out, K15.out, K17.out, K19.out⟩
      · have hb2 : (e2 == 0) = false := by simp [he2]
        by_cases he3 : e3 = 0
        · subst he3
          replace HSP3 := Lib.hid (HSP3.out rfl)
          have y0 : V.cell? ⟨w.heap.size, 0, none⟩ = some (.slice (some ⟨b, o, none⟩) n ca) := K0r.out.cell 0
          have v13_0 : V.cell? ⟨q13, 0, none⟩ = some (.int .i64 p0.1) := K13.out.cell 0
          have v13_1 : V.cell? ⟨q13, 1, none⟩ = some (.int .i64 p0.2) := K13.out.cell 1
          have v13_2 : V.cell? ⟨q13, 2, none⟩ = some (.int .i64 q0.1) := K13.out.cell 2
          have v13_3 : V.cell? ⟨q13, 3, none⟩ = some (.int .i64 q0.2) := K13.out.cell 3
          go_wp2_with (go_at_call 27; refine (HSP0.out _ XW.out).mono ?_; rintro e U1 ⟨rfl, hx⟩; have XW := Lib.hid (XW.out.trans hx); have K0r := Lib.hid (K0r.out.ext hx); have K1r := Lib.hid (K1r.out.ext hx); have K13 := Lib.hid (K13.out.ext hx); have K15 := Lib.hid (K15.out.ext hx); have K17 := Lib.hid (K17.out.ext hx); have K19 := Lib.hid (K19.out.ext hx); clear hx y0 v13_0 v13_1 v13_2 v13_3; refine Hid.out ?_)
          refine Lib.hid ?_
          have y0 : U1.cell? ⟨w.heap.size, 0, none⟩ = some (.slice (some ⟨b, o, none⟩) n ca) := K0r.out.cell 0
          have v19_0 : U1.cell? ⟨q19, 0, none⟩ = some (.int .i64 p3.1) := K19.out.cell 0
          have v19_1 : U1.cell? ⟨q19, 1, none⟩ = some (.int .i64 p3.2) := K19.out.cell 1
          have v19_2 : U1.cell? ⟨q19, 2, none⟩ = some (.int .i64 q3.1) := K19.out.cell 2
          have v19_3 : U1.cell? ⟨q19, 3, none⟩ = some (.int .i64 q3.2) := K19.out.cell 3
          go_wp2_with (go_at_call 27; refine (HSP3.out _ XW.out).mono ?_; rintro e U2 ⟨rfl, hx⟩; have XW := Lib.hid (XW.out.trans hx); have K0r := Lib.hid (K0r.out.ext hx); have K1r := Lib.hid (K1r.out.ext hx); have K13 := Lib.hid (K13.out.ext hx); have K15 := Lib.hid (K15.out.ext hx); have K17 := Lib.hid (K17.out.ext hx); have K19 := Lib.hid (K19.out.ext hx); clear hx y0 v19_0 v19_1 v19_2 v19_3; refine Hid.out ?_)
          refine Lib.hid ?_
          go_wp2
          exact HK.out _ _ _ _ _ _ _ _ _ _ _ _ _ _ _ _ _ _ _ _ _ _ _ _ _ _ _ _ _ _ _ _ _ _ _ _ _ _ _ _ _ _ _ _ _ _ _ _ _ _ _ _ _ _ _ _ _ _ _ _ _ _ _ _ _ _ _ _ _ _ _ _ _ _ _ ⟨XW.out, K0r.out, K1r.out, K13.out, K15.out, K17.out, K19.out⟩
        · have hb3 : (e3 == 0) = false := by simp [he3]
          have y0 : V.cell? ⟨w.heap.size, 0, none⟩ = some (.slice (some ⟨b, o, none⟩) n ca) := K0r.out.cell 0
          have v13_0 : V.cell? ⟨q13, 0, none⟩ = some (.int .i64 p0.1) := K13.out.cell 0
          have v13_1 : V.cell? ⟨q13, 1, none⟩ = some (.int .i64 p0.2) := K13.out.cell 1
          have v13_2 : V.cell? ⟨q13, 2, none⟩ = some (.int .i64 q0.1) := K13.out.cell 2
          have v13_3 : V.cell? ⟨q13, 3, none⟩ = some (.int .i64 q0.2) := K13.out.cell 3
          go_wp2_with (go_at_call 27; refine (HSP0.out _ XW.out).mono ?_; rintro e U1 ⟨rfl, hx⟩; have XW := Lib.hid (XW.out.trans hx); have K0r := Lib.hid (K0r.out.ext hx); have K1r := Lib.hid (K1r.out.ext hx); have K13 := Lib.hid (K13.out.ext hx); have K15 := Lib.hid (K15.out.ext hx); have K17 := Lib.hid (K17.out.ext hx); have K19 := Lib.hid (K19.out.ext hx); clear hx y0 v13_0 v13_1 v13_2 v13_3; refine Hid.out ?_)
          refine Lib.hid ?_
          go_wp2
          exact HK.out _ _ _ _ _ _ _ _ _ _ _ _ _ _ _ _ _ _ _ _ _ _ _ _ _ _ _ _ _ _ _ _ _ _ _ _ _ _ _ _ _ _ _ _ _ _ _ _ _ _ _ _ _ _ _ _ _ _ _ _ _ _ _ _ _ _ _ _ _ _ _ _ _ _ _ ⟨XW.out, K0r.out, K1r.out, K13.out, K15.out, K17.out, K19.out⟩
  · have hb0 : (e0 == 0) = false := by simp [he0]
    by_cases he1 : e1 = 0
    · subst he1
      replace HSP1 := Lib.hid (HSP1.out rfl)
      have hpq := HEQ1.out rfl
      subst hpq
      clear HEQ1
      by_cases he2 : e2 = 0
      · subst he2
        replace HSP2 := Lib.hid (HSP2.out rfl)
        by_cases he3 : e3 = 0
        · subst he3
          replace HSP3 := Lib.hid (HSP3.out rfl)
          have y0 : V.cell? ⟨w.heap.size, 0, none⟩ = some (.slice (some ⟨b, o, none⟩) n ca) := K0r.out.cell 0
          have v15_0 : V.cell? ⟨q15, 0, none⟩ = some (.int .i64 p1.1) := K15.out.cell 0
          have v15_1 : V.cell? ⟨q15, 1, none⟩ = some (.int .i64 p1.2) := K15.out.cell 1
          have v15_2 : V.cell? ⟨q15, 2, none⟩ = some (.int .i64 p1.1) := K15.out.cell 2
          have v15_3 : V.cell? ⟨q15, 3, none⟩ = some (.int .i64 p1.2) := K15.out.cell 3
          go_wp2_with (go_at_call 27; refine (HSP1.out _ XW.out).mono ?_; rintro e U1 ⟨rfl, hx⟩; have XW := Lib.hid (XW.out.trans hx); have K0r := Lib.hid (K0r.out.ext hx); have K1r := Lib.hid (K1r.out.ext hx); have K13 := Lib.hid (K13.out.ext hx); have K15 := Lib.hid (K15.out.ext hx); have K17 := Lib.hid (K17.out.ext hx); have K19 := Lib.hid (K19.out.ext hx); clear hx y0 v15_0 v15_1 v15_2 v15_3; refine Hid.out ?_)
          refine Lib.hid ?_
          have v15_0 : U1.cell? ⟨q15, 0, none⟩ = some (.int .i64 p1.1) := K15.out.cell 0
          have v15_1 : U1.cell? ⟨q15, 1, none⟩ = some (.int .i64 p1.2) := K15.out.cell 1
          have v15_2 : U1.cell? ⟨q15, 2, none⟩ = some (.int .i64 p1.1) := K15.out.cell 2
          have v15_3 : U1.cell? ⟨q15, 3, none⟩ = some (.int .i64 p1.2) := K15.out.cell 3
          have y0 : U1.cell? ⟨w.heap.size, 0, none⟩ = some (.slice (some ⟨b, o, none⟩) n ca) := K0r.out.cell 0
          have v17_0 : U1.cell? ⟨q17, 0, none⟩ = some (.int .i64 p2.1) := K17.out.cell 0
          have v17_1 : U1.cell? ⟨q17, 1, none⟩ = some (.int .i64 p2.2) := K17.out.cell 1
          have v17_2 : U1.cell? ⟨q17, 2, none⟩ = some (.int .i64 q2.1) := K17.out.cell 2
          have v17_3 : U1.cell? ⟨q17, 3, none⟩ = some (.int .i64 q2.2) := K17.out.cell 3
          go_wp2_with (go_at_call 27; refine (HSP2.out _ XW.out).mono ?_; rintro e U2 ⟨rfl, hx⟩; have XW := Lib.hid (XW.out.trans hx); have K0r := Lib.hid (K0r.out.ext hx); have K1r := Lib.hid (K1r.out.ext hx); have K13 := Lib.hid (K13.out.ext hx); have K15 := Lib.hid (K15.out.ext hx); have K17 := Lib.hid (K17.out.ext hx); have K19 := Lib.hid (K19.out.ext hx); clear hx y0 v17_0 v17_1 v17_2 v17_3; refine Hid.out ?_)
          refine Lib.hid ?_
          have y0 : U2.cell? ⟨w.heap.size, 0, none⟩ = some (.slice (some ⟨b, o, none⟩) n ca) := K0r.out.cell 0
          have v19_0 : U2.cell? ⟨q19, 0, none⟩ = some (.int .i64 p3.1) := K19.out.cell 0
          have v19_1 : U2.cell? ⟨q19, 1, none⟩ = some (.int .i64 p3.2) := K19.out.cell 1
          have v19_2 : U2.cell? ⟨q19, 2, none⟩ = some (.int .i64 q3.1) := K19.out.cell 2
          have v19_3 : U2.cell? ⟨q19, 3, none⟩ = some (.int .i64 q3.2) := K19.out.cell 3
          go_wp2_with (go_at_call 27; refine (HSP3.out _ XW.out).mono ?_; rintro e U3 ⟨rfl, hx⟩; have XW := Lib.hid (XW.out.trans hx); have K0r := Lib.hid (K0r.out.ext hx); have K1r := Lib.hid (K1r.out.ext hx); have K13 := Lib.hid (K13.out.ext hx); have K15 := Lib.hid (K15.out.ext hx); have K17 := Lib.hid (K17.out.ext hx); have K19 := Lib.hid (K19.out.ext hx); clear hx y0 v19_0 v19_1 v19_2 v19_3; refine Hid.out ?_)
          refine Lib.hid ?_
          go_wp2
          exact HK.out _ _ _ _ _ _ _ _ _ _ _ _ _ _ _ _ _ _ _ _ _ _ _ _ _ _ _ _ _ _ _ _ _ _ _ _ _ _ _ _ _ _ _ _ _ _ _ _ _ _ _ _ _ _ _ _ _ _ _ _ _ _ _ _ _ _ _ _ _ _ _ _ _ _ _ ⟨XW.out, K0r.out, K1r.out, K13.out, K15.out, K17.out, K19.out⟩
        · have hb3 : (e3 == 0) = false := by simp [he3]
          have y0 : V.cell? ⟨w.heap.size, 0, none⟩ = some (.slice (some ⟨b, o, none⟩) n ca) := K0r.out.cell 0
          have v15_0 : V.cell? ⟨q15, 0, none⟩ = some (.int .i64 p1.1) := K15.out.cell 0
          have v15_1 : V.cell? ⟨q15, 1, none⟩ = some (.int .i64 p1.2) := K15.out.cell 1
          have v15_2 : V.cell? ⟨q15, 2, none⟩ = some (.int .i64 p1.1) := K15.out.cell 2
          have v15_3 : V.cell? ⟨q15, 3, none⟩ = some (.int .i64 p1.2) := K15.out.cell 3
          go_wp2_with (go_at_call 27; refine (HSP1.out _ XW.out).mono ?_; rintro e U1 ⟨rfl, hx⟩; have XW := Lib.hid (XW.out.trans hx); have K0r := Lib.hid (K0r.out.ext hx); have K1r := Lib.hid (K1r.out.ext hx); have K13 := Lib.hid (K13.out.ext hx); have K15 := Lib.hid (K15.out.ext hx); have K17 := Lib.hid (K17.out.ext hx); have K19 := Lib.hid (K19.out.ext hx); clear hx y0 v15_0 v15_1 v15_2 v15_3; refine Hid.out ?_)
          refine Lib.hid ?_
          have v15_0 : U1.cell? ⟨q15, 0, none⟩ = some (.int .i64 p1.1) := K15.out.cell 0
          have v15_1 : U1.cell? ⟨q15, 1, none⟩ = some (.int .i64 p1.2) := K15.out.cell 1
          have v15_2 : U1.cell? ⟨q15, 2, none⟩ = some (.int .i64 p1.1) := K15.out.cell 2
          have v15_3 : U1.cell? ⟨q15, 3, none⟩ = some (.int .i64 p1.2) := K15.out.cell 3
          have y0 : U1.cell? ⟨w.heap.size, 0, none⟩ = some (.slice (some ⟨b, o, none⟩) n ca) := K0r.out.cell 0
          have v17_0 : U1.cell? ⟨q17, 0, none⟩ = some (.int .i64 p2.1) := K17.out.cell 0
          have v17_1 : U1.cell? ⟨q17, 1, none⟩ = some (.int .i64 p2.2) := K17.out.cell 1
          have v17_2 : U1.cell? ⟨q17, 2, none⟩ = some (.int .i64 q2.1) := K17.out.cell 2
          have v17_3 : U1.cell? ⟨q17, 3, none⟩ = some (.int .i64 q2.2) := K17.out.cell 3
          go_wp2_with (go_at_call 27; refine (HSP2.out _ XW.out).mono ?_; rintro e U2 ⟨rfl, hx⟩; have XW := Lib.hid (XW.out.trans hx); have K0r := Lib.hid (K0r.out.ext hx); have K1r := Lib.hid (K1r.out.ext hx); have K13 := Lib.hid (K13.out.ext hx); have K15 := Lib.hid (K15.out.ext hx); have K17 := Lib.hid (K17.out.ext hx); have K19 := Lib.hid (K19.out.ext hx); clear hx y0 v17_0 v17_1 v17_2 v17_3; refine Hid.out ?_)
          refine Lib.hid ?_
          go_wp2
          exact HK.out _ _ _ _ _ _ _ _ _ _ _ _ _ _ _ _ _ _ _ _ _ _ _ _ _ _ _ _ _ _ _ _ _ _ _ _ _ _ _ _ _ _ _ _ _ _ _ _ _ _ _ _ _ _ _ _ _ _ _ _ _ _ _ _ _ _ _ _ _ _ _ _ _ _ _ ⟨XW.out, K0r.out, K1r.out, K13.out, K15.out, K17.out, K19.out⟩
      · have hb2 : (e2 == 0) = false := by simp [he2]
        by_cases he3 : e3 = 0
        · subst he3
          replace HSP3 := Lib.hid (HSP3.out rfl)
          have y0 : V.cell? ⟨w.heap.size, 0, none⟩ = some (.slice (some ⟨b, o, none⟩) n ca) := K0r.out.cell 0
          have v15_0 : V.cell? ⟨q15, 0, none⟩ = some (.int .i64 p1.1) := K15.out.cell 0
          have v15_1 : V.cell? ⟨q15, 1, none⟩ = some (.int .i64 p1.2) := K15.out.cell 1
          have v15_2 : V.cell? ⟨q15, 2, none⟩ = some (.int .i64 p1.1) := K15.out.cell 2
          have v15_3 : V.cell? ⟨q15, 3, none⟩ = some (.int .i64 p1.2) := K15.out.cell 3
          go_wp2_with (go_at_call 27; refine (HSP1.out _ XW.out).mono ?_; rintro e U1 ⟨rfl, hx⟩; have XW := Lib.hid (XW.out.trans hx); have K0r := Lib.hid (K0r.out.ext hx); have K1r := Lib.hid (K1r.out.ext hx); have K13 := Lib.hid (K13.out.ext hx); have K15 := Lib.hid (K15.out.ext hx); have K17 := Lib.hid (K17.out.ext hx); have K19 := Lib.hid (K19.out.ext hx); clear hx y0 v15_0 v15_1 v15_2 v15_3; refine Hid.out ?_)
          refine Lib.hid ?_
          have v15_0 : U1.cell? ⟨q15, 0, none⟩ = some (.int .i64 p1.1) := K15.out.cell 0
          have v15_1 : U1.cell? ⟨q15, 1, none⟩ = some (.int .i64 p1.2) := K15.out.cell 1
          have v15_2 : U1.cell? ⟨q15, 2, none⟩ = some (.int .i64 p1.1) := K15.out.cell 2
          have v15_3 : U1.cell? ⟨q15, 3, none⟩ = some (.int .i64 p1.2) := K15.out.cell 3
          have y0 : U1.cell? ⟨w.heap.size, 0, none⟩ = some (.slice (some ⟨b, o, none⟩) n ca) := K0r.out.cell 0
          have v19_0 : U1.cell? ⟨q19, 0, none⟩ = some (.int .i64 p3.1) := K19.out.cell 0
          have v19_1 : U1.cell? ⟨q19, 1, none⟩ = some (.int .i64 p3.2) := K19.out.cell 1
          have v19_2 : U1.cell? ⟨q19, 2, none⟩ = some (.int .i64 q3.1) := K19.out.cell 2
          have v19_3 : U1.cell? ⟨q19, 3, none⟩ = some (.int .i64 q3.2) := K19.out.cell 3
          go_wp2_with (go_at_call 27; refine (HSP3.out _ XW.out).mono ?_; rintro e U2 ⟨rfl, hx⟩; have XW := Lib.hid (XW.out.trans hx); have K0r := Lib.hid (K0r.out.ext hx); have K1r := Lib.hid (K1r.out.ext hx); have K13 := Lib.hid (K13.out.ext hx); have K15 := Lib.hid (K15.out.ext hx); have K17 := Lib.hid (K17.out.ext hx); have K19 := Lib.hid (K19.out.ext hx); clear hx y0 v19_0 v19_1 v19_2 v19_3; refine Hid.out ?_)
          refine Lib.hid ?_
          go_wp2
          exact HK.out _ _ _ _ _ _ _ _ _ _ _ _ _ _ _ _ _ _ _ _ _ _ _ _ _ _ _ _ _ _ _ _ _ _ _ _ _ _ _ _ _ _ _ _ _ _ _ _ _ _ _ _ _ _ _ _ _ _ _ _ _ _ _ _ _ _ _ _ _ _ _ _ _ _ _ ⟨XW.out, K0r.out, K1r.out, K13.out, K15.out, K17.out, K19.out⟩
        · have hb3 : (e3 == 0) = false := by simp [he3]
          have y0 : V.cell? ⟨w.heap.size, 0, none⟩ = some (.slice (some ⟨b, o, none⟩) n ca) := K0r.out.cell 0
          have v15_0 : V.cell? ⟨q15, 0, none⟩ = some (.int .i64 p1.1) := K15.out.cell 0
          have v15_1 : V.cell? ⟨q15, 1, none⟩ = some (.int .i64 p1.2) := K15.out.cell 1
          have v15_2 : V.cell? ⟨q15, 2, none⟩ = some (.int .i64 p1.1) := K15.out.cell 2
          have v15_3 : V.cell? ⟨q15, 3, none⟩ = some (.int .i64 p1.2) := K15.out.cell 3
          go_wp2_with (go_at_call 27; refine (HSP1.out _ XW.out).mono ?_; rintro e U1 ⟨rfl, hx⟩; have XW := Lib.hid (XW.out.trans hx); have K0r := Lib.hid (K0r.out.ext hx); have K1r := Lib.hid (K1r.out.ext hx); have K13 := Lib.hid (K13.out.ext hx); have K15 := Lib.hid (K15.out.ext hx); have K17 := Lib.hid (K17.out.ext hx); have K19 := Lib.hid (K19.out.ext hx); clear hx y0 v15_0 v15_1 v15_2 v15_3; refine Hid.out ?_)
          refine Lib.hid ?_
          have v15_0 : U1.cell? ⟨q15, 0, none⟩ = some (.int .i64 p1.1) := K15.out.cell 0
          have v15_1 : U1.cell? ⟨q15, 1, none⟩ = some (.int .i64 p1.2) := K15.out.cell 1
          have v15_2 : U1.cell? ⟨q15, 2, none⟩ = some (.int .i64 p1.1) := K15.out.cell 2
          have v15_3 : U1.cell? ⟨q15, 3, none⟩ = some (.int .i64 p1.2) := K15.out.cell 3
          go_wp2
          exact HK.out _ _ _ _ _ _ _ _ _ _ _ _ _ _ _ _ _ _ _ _ _ _ _ _ _ _ _ _ _ _ _ _ _ _ _ _ _ _ _ _ _ _ _ _ _ _ _ _ _ _ _ _ _ _ _ _ _ _ _ _ _ _ _ _ _ _ _ _ _ _ _ _ _ _ _ ⟨XW.out, K0r.out, K1r.out, K13.out, K15.out, K17.out, K19.out⟩
    · have hb1 : (e1 == 0) = false := by simp [he1]
      by_cases he2 : e2 = 0
      · subst he2
        replace HSP2 := Lib.hid (HSP2.out rfl)
        by_cases he3 : e3 = 0
        · subst he3
          replace HSP3 := Lib.hid (HSP3.out rfl)
          have y0 : V.cell? ⟨w.heap.size, 0, none⟩ = some (.slice (some ⟨b, o, none⟩) n ca) := K0r.out.cell 0
          have v17_0 : V.cell? ⟨q17, 0, none⟩ = some (.int .i64 p2.1) := K17.out.cell 0
          have v17_1 : V.cell? ⟨q17, 1, none⟩ = some (.int .i64 p2.2) := K17.out.cell 1
          have v17_2 : V.cell? ⟨q17, 2, none⟩ = some (.int .i64 q2.1) := K17.out.cell 2
          have v17_3 : V.cell? ⟨q17, 3, none⟩ = some (.int .i64 q2.2) := K17.out.cell 3
          go_wp2_with (go_at_call 27; refine (HSP2.out _ XW.out).mono ?_; rintro e U1 ⟨rfl, hx⟩; have XW := Lib.hid (XW.out.trans hx); have K0r := Lib.hid (K0r.out.ext hx); have K1r := Lib.hid (K1r.out.ext hx); have K13 := Lib.hid (K13.out.ext hx); have K15 := Lib.hid (K15.out.ext hx); have K17 := Lib.hid (K17.out.ext hx); have K19 := Lib.hid (K19.out.ext hx); clear hx y0 v17_0 v17_1 v17_2 v17_3; refine Hid.out ?_)
          refine Lib.hid ?_
          have y0 : U1.cell? ⟨w.heap.size, 0, none⟩ = some (.slice (some ⟨b, o, none⟩) n ca) := K0r.out.cell 0
          have v19_0 : U1.cell? ⟨q19, 0, none⟩ = some (.int .i64 p3.1) := K19.out.cell 0
          have v19_1 : U1.cell? ⟨q19, 1, none⟩ = some (.int .i64 p3.2) := K19.out.cell 1
          have v19_2 : U1.cell? ⟨q19, 2, none⟩ = some (.int .i64 q3.1) := K19.out.cell 2
          have v19_3 : U1.cell? ⟨q19, 3, none⟩ = some (.int .i64 q3.2) := K19.out.cell 3
          go_wp2_with (go_at_call 27; refine (HSP3.out _ XW.out).mono ?_; rintro e U2 ⟨rfl, hx⟩; have XW := Lib.hid (XW.out.trans hx); have K0r := Lib.hid (K0r.out.ext hx); have K1r := Lib.hid (K1r.out.ext hx); have K13 := Lib.hid (K13.out.ext hx); have K15 := Lib.hid (K15.out.ext hx); have K17 := Lib.hid (K17.out.ext hx); have K19 := Lib.hid (K19.out.ext hx); clear hx y0 v19_0 v19_1 v19_2 v19_3; refine Hid.out ?_)
          refine Lib.hid ?_
          go_wp2
          exact HK.out _ _ _ _ _ _ _ _ _ _ _ _ _ _ _ _ _ _ _ _ _ _ _ _ _ _ _ _ _ _ _ _ _ _ _ _ _ _ _ _ _ _ _ _ _ _ _ _ _ _ _ _ _ _ _ _ _ _ _ _ _ _ _ _ _ _ _ _ _ _ _ _ _ _ _ ⟨XW.out, K0r.out, K1r.out, K13.out, K15.out, K17.out, K19.out⟩
        · have hb3 : (e3 == 0) = false := by simp [he3]
          have y0 : V.cell? ⟨w.heap.size, 0, none⟩ = some (.slice (some ⟨b, o, none⟩) n ca) := K0r.out.cell 0
          have v17_0 : V.cell? ⟨q17, 0, none⟩ = some (.int .i64 p2.1) := K17.out.cell 0
          have v17_1 : V.cell? ⟨q17, 1, none⟩ = some (.int .i64 p2.2) := K17.out.cell 1
          have v17_2 : V.cell? ⟨q17, 2, none⟩ = some (.int .i64 q2.1) := K17.out.cell 2
          have v17_3 : V.cell? ⟨q17, 3, none⟩ = some (.int .i64 q2.2) := K17.out.cell 3
          go_wp2_with (go_at_call 27; refine (HSP2.out _ XW.out).mono ?_; rintro e U1 ⟨rfl, hx⟩; have XW := Lib.hid (XW.out.trans hx); have K0r := Lib.hid (K0r.out.ext hx); have K1r := Lib.hid (K1r.out.ext hx); have K13 := Lib.hid (K13.out.ext hx); have K15 := Lib.hid (K15.out.ext hx); have K17 := Lib.hid (K17.out.ext hx); have K19 := Lib.hid (K19.out.ext hx); clear hx y0 v17_0 v17_1 v17_2 v17_3; refine Hid.out ?_)
          refine Lib.hid ?_
          go_wp2
          exact HK.out _ _ _ _ _ _ _ _ _ _ _ _ _ _ _ _ _ _ _ _ _ _ _ _ _ _ _ _ _ _ _ _ _ _ _ _ _ _ _ _ _ _ _ _ _ _ _ _ _ _ _ _ _ _ _ _ _ _ _ _ _ _ _ _ _ _ _ _ _ _ _ _ _ _ _ ⟨XW.out, K0r.out, K1r.out, K13.out, K15.out, K17.out, K19.out⟩
      · have hb2 : (e2 == 0) = false := by simp [he2]
        by_cases he3 : e3 = 0
        · subst he3
          replace HSP3 := Lib.hid (HSP3.out rfl)
          have y0 : V.cell? ⟨w.heap.size, 0, none⟩ = some (.slice (some ⟨b, o, none⟩) n ca) := K0r.out.cell 0
          have v19_0 : V.cell? ⟨q19, 0, none⟩ = some (.int .i64 p3.1) := K19.out.cell 0
          have v19_1 : V.cell? ⟨q19, 1, none⟩ = some (.int .i64 p3.2) := K19.out.cell 1
          have v19_2 : V.cell? ⟨q19, 2, none⟩ = some (.int .i64 q3.1) := K19.out.cell 2
          have v19_3 : V.cell? ⟨q19, 3, none⟩ = some (.int .i64 q3.2) := K19.out.cell 3
          go_wp2_with (go_at_call 27; refine (HSP3.out _ XW.out).mono ?_; rintro e U1 ⟨rfl, hx⟩; have XW := Lib.hid (XW.out.trans hx); have K0r := Lib.hid (K0r.out.ext hx); have K1r := Lib.hid (K1r.out.ext hx); have K13 := Lib.hid (K13.out.ext hx); have K15 := Lib.hid (K15.out.ext hx); have K17 := Lib.hid (K17.out.ext hx); have K19 := Lib.hid (K19.out.ext hx); clear hx y0 v19_0 v19_1 v19_2 v19_3; refine Hid.out ?_)
          refine Lib.hid ?_
          go_wp2
          exact HK.out _ _ _ _ _ _ _ _ _ _ _ _ _ _ _ _ _ _ _ _ _ _ _ _ _ _ _ _ _ _ _ _ _ _ _ _ _ _ _ _ _ _ _ _ _ _ _ _ _ _ _ _ _ _ _ _ _ _ _ _ _ _ _ _ _ _ _ _ _ _ _ _ _ _ _ ⟨XW.out, K0r.out, K1r.out, K13.out, K15.out, K17.out, K19.out⟩
        · have hb3 : (e3 == 0) = false := by simp [he3]
          go_wp2
          exact HK.out _ _ _ _ _ _ _ _ _ _ _ _ _ _ _ _ _ _ _ _ _ _ _ _ _ _ _ _ _ _ _ _ _ _ _ _ _ _ _ _ _ _ _ _ _ _ _ _ _ _ _ _ _ _ _ _ _ _ _ _ _ _ _ _ _ _ _ _ _ _ _ _ _ _ _ ⟨XW.out, K0r.out, K1r.out, K13.out, K15.out, K17.out, K19.out⟩

end Go.Proofs.Ytmddnpagfgilcaa

namespace Go.Proofs.Ytmddnpagfgilcaa
open Go.RowKit Go.Shelf Go.Mem Go.RegInv
attribute [local go_sem] RelUpon_value RelUpon_skip RelUpon_enter BigFrame.eval_const BigFrame.eval_global BigFrame.eval_func

set_option maxRecDepth 100000 in
set_option maxHeartbeats 8000000 in
theorem r20 {b o : Nat} {n ca : Nat} {w : World} {l0 l1 : Int} {p0 q0 p1 q1 p2 q2 p3 q3 : Int × Int} {e0 e1 e2 : Int} {q13 q15 q17 q19 : Nat} {V : World} {K : Act → World → Prop} {Q : Exit → Act → World → Prop} {c0 c1 c2 c4 c6 c7 c8 c9 c10 c11 c12 c20 c21 c22 c23 c24 c25 c26 c27 c28 c29 c30 c31 c32 c33 c34 c35 c36 c37 c38 c39 c40 c41 c42 c43 c44 c45 c46 c47 c48 c49 c50 c51 c52 c53 c54 c55 c56 c57 c58 c59 c60 c61 c62 c63 c64 c65 c66 c67 c68 c69 c70 c71 c72 c73 c74 c75 c76 c77 c78 c79 c80 c81 c82 c83 c84 c85 c86 c87 c88 c89 c90 c91 c92 c93 c94 c95 c96 c97 c98 c99 c100 c101 c102 c103 c104 c105 c106 c107 c108 c109 c110 c111 c112 c113 c114 c115 c116 c117 c118 c119 c120 c121 c122 c123 c124 c125 c126 c127 c128 c129 c130 c131 c132 c133 c134 c135 c136 c137 c138 c139 c140 c141 c142 c143 c144 c145 c146 c147 c148 c149 c150 c151 c152 c153 c154 c155 c156 c157 c158 c159 c160 c161 c162 c163 c164 c165 c166 c167 c168 c169 c170 c171 c172 c173 c174 c175 c176 c177 c178 c179 c180 c181 c182 c183 c184 c185 c186 c187 c188 c189 c190 c191 c192 c193 c194 c195 c196 c197 c198 c199 c200 c201 c202 c203 c204 c205 c206 c207 c208 c209 c210 c211 c212 c213 c214 c215 c216 c217 c218 c219 c220 c221 c222 c223 c224 c225 c226 c227 c228 c229 c230 c231 c232 c233 c234 c235 c236 c237 c238 c239 c240 c241 c242 c243 c244 c245 c246 c247 c248 c249 c250 c251 c252 c253 c254 c255 c256 c257 c258 c259 c260 c261 c262 c263 c264 c265 c266 c267 c268 c269 c270 c271 c272 c273 c274 c275 c276 c277 c278 c279 c280 c281 c282 c283 c284 c285 c286 c287 c288 c289 c290 c291 c292 c293 c294 c295 c296 c297 c298 c299 c300 c301 c302 c303 c304 : Value} (HIN01 : Hid (e0 = 0 → e1 = 0 → ∀ (W : World), Calls Try.prog 28 #[.agg #[.int .i64 p1.1, .int .i64 p1.2, .int .i64 q1.1, .int .i64 q1.2], .agg #[.int .i64 p0.1, .int .i64 p0.2, .int .i64 q0.1, .int .i64 q0.2]] W fun e w' => e = .returned (.bool true) ∧ Ext W w')) (HIN02 : Hid (e0 = 0 → e2 = 0 → ∀ (W : World), Calls Try.prog 28 #[.agg #[.int .i64 p2.1, .int .i64 p2.2, .int .i64 q2.1, .int .i64 q2.2], .agg #[.int .i64 p0.1, .int .i64 p0.2, .int .i64 q0.1, .int .i64 q0.2]] W fun e w' => e = .returned (.bool true) ∧ Ext W w')) (HIN12 : Hid (e1 = 0 → e2 = 0 → ∀ (W : World), Calls Try.prog 28 #[.agg #[.int .i64 p1.1, .int .i64 p1.2, .int .i64 q1.1, .int .i64 q1.2], .agg #[.int .i64 p2.1, .int .i64 p2.2, .int .i64 q2.1, .int .i64 q2.2]] W fun e w' => e = .returned (.bool true) ∧ Ext W w')) (XW : Hid (Ext w V)) (K0r : Hid (Blk V w.heap.size 24 #[.slice (some ⟨b, o, none⟩) n ca])) (K1r : Hid (Blk V (w.heap.size + 1) 52 #[.int .i64 l0, .int .i64 l1])) (K13 : Hid (Blk V q13 34 #[.int .i64 p0.1, .int .i64 p0.2, .int .i64 q0.1, .int .i64 q0.2])) (K15 : Hid (Blk V q15 34 #[.int .i64 p1.1, .int .i64 p1.2, .int .i64 q1.1, .int .i64 q1.2])) (K17 : Hid (Blk V q17 34 #[.int .i64 p2.1, .int .i64 p2.2, .int .i64 q2.1, .int .i64 q2.2])) (K19 : Hid (Blk V q19 34 #[.int .i64 p3.1, .int .i64 p3.2, .int .i64 q3.1, .int .i64 q3.2]))
    (hK : ∀ (u181 u182 u183 u184 u185 u186 u187 u188 u189 u190 u191 u192 u193 u194 u195 u196 u197 u198 u199 u200 u201 u202 u203 u204 u205 u206 u207 u208 u209 u210 u211 u212 u213 u214 u215 u216 u217 u218 u219 : Value) (W' : World), Ext w W' ∧ Blk W' w.heap.size 24 #[.slice (some ⟨b, o, none⟩) n ca] ∧ Blk W' (w.heap.size + 1) 52 #[.int .i64 l0, .int .i64 l1] ∧ Blk W' q13 34 #[.int .i64 p0.1, .int .i64 p0.2, .int .i64 q0.1, .int .i64 q0.2] ∧ Blk W' q15 34 #[.int .i64 p1.1, .int .i64 p1.2, .int .i64 q1.1, .int .i64 q1.2] ∧ Blk W' q17 34 #[.int .i64 p2.1, .int .i64 p2.2, .int .i64 q2.1, .int .i64 q2.2] ∧ Blk W' q19 34 #[.int .i64 p3.1, .int .i64 p3.2, .int .i64 q3.1, .int .i64 q3.2] → K ⟨(List.toArray (c0 :: c1 :: c2 :: (.pointer (some ⟨w.heap.size, 0, none⟩)) :: c4 :: (.pointer (some ⟨w.heap.size + 1, 0, none⟩)) :: c6 :: c7 :: c8 :: c9 :: c10 :: c11 :: c12 :: (.pointer (some ⟨q13, 0, none⟩)) :: (.int .i64 e0) :: (.pointer (some ⟨q15, 0, none⟩)) :: (.int .i64 e1) :: (.pointer (some ⟨q17, 0, none⟩)) :: (.int .i64 e2) :: (.pointer (some ⟨q19, 0, none⟩)) :: c20 :: c21 :: c22 :: c23 :: c24 :: c25 :: c26 :: c27 :: c28 :: c29 :: c30 :: c31 :: c32 :: c33 :: c34 :: c35 :: c36 :: c37 :: c38 :: c39 :: c40 :: c41 :: c42 :: c43 :: c44 :: c45 :: c46 :: c47 :: c48 :: c49 :: c50 :: c51 :: c52 :: c53 :: c54 :: c55 :: c56 :: c57 :: c58 :: c59 :: c60 :: c61 :: c62 :: c63 :: c64 :: c65 :: c66 :: c67 :: c68 :: c69 :: c70 :: c71 :: c72 :: c73 :: c74 :: c75 :: c76 :: c77 :: c78 :: c79 :: c80 :: c81 :: c82 :: c83 :: c84 :: c85 :: c86 :: c87 :: c88 :: c89 :: c90 :: c91 :: c92 :: c93 :: c94 :: c95 :: c96 :: c97 :: c98 :: c99 :: c100 :: c101 :: c102 :: c103 :: c104 :: c105 :: c106 :: c107 :: c108 :: c109 :: c110 :: c111 :: c112 :: c113 :: c114 :: c115 :: c116 :: c117 :: c118 :: c119 :: c120 :: c121 :: c122 :: c123 :: c124 :: c125 :: c126 :: c127 :: c128 :: c129 :: c130 :: c131 :: c132 :: c133 :: c134 :: c135 :: c136 :: c137 :: c138 :: c139 :: c140 :: c141 :: c142 :: c143 :: c144 :: c145 :: c146 :: c147 :: c148 :: c149 :: c150 :: c151 :: c152 :: c153 :: c154 :: c155 :: c156 :: c157 :: c158 :: c159 :: c160 :: c161 :: c162 :: c163 :: c164 :: c165 :: c166 :: c167 :: c168 :: c169 :: c170 :: c171 :: c172 :: c173 :: c174 :: c175 :: c176 :: c177 :: c178 :: c179 :: c180 :: u181 :: u182 :: u183 :: u184 :: u185 :: u186 :: u187 :: u188 :: u189 :: u190 :: u191 :: u192 :: u193 :: u194 :: u195 :: u196 :: u197 :: u198 :: u199 :: u200 :: u201 :: u202 :: u203 :: u204 :: u205 :: u206 :: u207 :: u208 :: u209 :: u210 :: u211 :: u212 :: u213 :: u214 :: u215 :: u216 :: u217 :: u218 :: u219 :: (.bool false) :: c221 :: c222 :: c223 :: c224 :: c225 :: c226 :: c227 :: c228 :: c229 :: c230 :: c231 :: c232 :: c233 :: c234 :: c235 :: c236 :: c237 :: c238 :: c239 :: c240 :: c241 :: c242 :: c243 :: c244 :: c245 :: c246 :: c247 :: c248 :: c249 :: c250 :: c251 :: c252 :: c253 :: c254 :: c255 :: c256 :: c257 :: c258 :: c259 :: c260 :: c261 :: c262 :: c263 :: c264 :: c265 :: c266 :: c267 :: c268 :: c269 :: c270 :: c271 :: c272 :: c273 :: c274 :: c275 :: c276 :: c277 :: c278 :: c279 :: c280 :: c281 :: c282 :: c283 :: c284 :: c285 :: c286 :: c287 :: c288 :: c289 :: c290 :: c291 :: c292 :: c293 :: c294 :: c295 :: c296 :: c297 :: c298 :: c299 :: c300 :: c301 :: c302 :: c303 :: c304 :: [])), []⟩ W') :
    Code.wp Try.prog (codeR 20 Try.f4) (Exit.then K Q) ⟨(List.toArray (c0 :: c1 :: c2 :: (.pointer (some ⟨w.heap.size, 0, none⟩)) :: c4 :: (.pointer (some ⟨w.heap.size + 1, 0, none⟩)) :: c6 :: c7 :: c8 :: c9 :: c10 :: c11 :: c12 :: (.pointer (some ⟨q13, 0, none⟩)) :: (.int .i64 e0) :: (.pointer (some ⟨q15, 0, none⟩)) :: (.int .i64 e1) :: (.pointer (some ⟨q17, 0, none⟩)) :: (.int .i64 e2) :: (.pointer (some ⟨q19, 0, none⟩)) :: c20 :: c21 :: c22 :: c23 :: c24 :: c25 :: c26 :: c27 :: c28 :: c29 :: c30 :: c31 :: c32 :: c33 :: c34 :: c35 :: c36 :: c37 :: c38 :: c39 :: c40 :: c41 :: c42 :: c43 :: c44 :: c45 :: c46 :: c47 :: c48 :: c49 :: c50 :: c51 :: c52 :: c53 :: c54 :: c55 :: c56 :: c57 :: c58 :: c59 :: c60 :: c61 :: c62 :: c63 :: c64 :: c65 :: c66 :: c67 :: c68 :: c69 :: c70 :: c71 :: c72 :: c73 :: c74 :: c75 :: c76 :: c77 :: c78 :: c79 :: c80 :: c81 :: c82 :: c83 :: c84 :: c85 :: c86 :: c87 :: c88 :: c89 :: c90 :: c91 :: c92 :: c93 :: c94 :: c95 :: c96 :: c97 :: c98 :: c99 :: c100 :: c101 :: c102 :: c103 :: c104 :: c105 :: c106 :: c107 :: c108 :: c109 :: c110 :: c111 :: c112 :: c113 :: c114 :: c115 :: c116 :: c117 :: c118 :: c119 :: c120 :: c121 :: c122 :: c123 :: c124 :: c125 :: c126 :: c127 :: c128 :: c129 :: c130 :: c131 :: c132 :: c133 :: c134 :: c135 :: c136 :: c137 :: c138 :: c139 :: c140 :: c141 :: c142 :: c143 :: c144 :: c145 :: c146 :: c147 :: c148 :: c149 :: c150 :: c151 :: c152 :: c153 :: c154 :: c155 :: c156 :: c157 :: c158 :: c159 :: c160 :: c161 :: c162 :: c163 :: c164 :: c165 :: c166 :: c167 :: c168 :: c169 :: c170 :: c171 :: c172 :: c173 :: c174 :: c175 :: c176 :: c177 :: c178 :: c179 :: c180 :: c181 :: c182 :: c183 :: c184 :: c185 :: c186 :: c187 :: c188 :: c189 :: c190 :: c191 :: c192 :: c193 :: c194 :: c195 :: c196 :: c197 :: c198 :: c199 :: c200 :: c201 :: c202 :: c203 :: c204 :: c205 :: c206 :: c207 :: c208 :: c209 :: c210 :: c211 :: c212 :: c213 :: c214 :: c215 :: c216 :: c217 :: c218 :: c219 :: c220 :: c221 :: c222 :: c223 :: c224 :: c225 :: c226 :: c227 :: c228 :: c229 :: c230 :: c231 :: c232 :: c233 :: c234 :: c235 :: c236 :: c237 :: c238 :: c239 :: c240 :: c241 :: c242 :: c243 :: c244 :: c245 :: c246 :: c247 :: c248 :: c249 :: c250 :: c251 :: c252 :: c253 :: c254 :: c255 :: c256 :: c257 :: c258 :: c259 :: c260 :: c261 :: c262 :: c263 :: c264 :: c265 :: c266 :: c267 :: c268 :: c269 :: c270 :: c271 :: c272 :: c273 :: c274 :: c275 :: c276 :: c277 :: c278 :: c279 :: c280 :: c281 :: c282 :: c283 :: c284 :: c285 :: c286 :: c287 :: c288 :: c289 :: c290 :: c291 :: c292 :: c293 :: c294 :: c295 :: c296 :: c297 :: c298 :: c299 :: c300 :: c301 :: c302 :: c303 :: c304 :: [])), []⟩ V := by
  conv => arg 2; whnf
  have HK := Lib.hid hK
  clear hK
  by_cases he0 : e0 = 0
  · subst he0
    by_cases he1 : e1 = 0
    · subst he1
      by_cases he2 : e2 = 0
      · subst he2
        have HI1 := Lib.hid (HIN01.out rfl rfl)
        have HI2 := Lib.hid (HIN02.out rfl rfl)
        have HI3 := Lib.hid (HIN12.out rfl rfl)
        have v13_0 : V.cell? ⟨q13, 0, none⟩ = some (.int .i64 p0.1) := K13.out.cell 0
        have v13_1 : V.cell? ⟨q13, 1, none⟩ = some (.int .i64 p0.2) := K13.out.cell 1
        have v13_2 : V.cell? ⟨q13, 2, none⟩ = some (.int .i64 q0.1) := K13.out.cell 2
        have v13_3 : V.cell? ⟨q13, 3, none⟩ = some (.int .i64 q0.2) := K13.out.cell 3
        have v15_0 : V.cell? ⟨q15, 0, none⟩ = some (.int .i64 p1.1) := K15.out.cell 0
        have v15_1 : V.cell? ⟨q15, 1, none⟩ = some (.int .i64 p1.2) := K15.out.cell 1
        have v15_2 : V.cell? ⟨q15, 2, none⟩ = some (.int .i64 q1.1) := K15.out.cell 2
        have v15_3 : V.cell? ⟨q15, 3, none⟩ = some (.int .i64 q1.2) := K15.out.cell 3
        go_wp2_with (go_at_call 28; refine (HI1.out _).mono ?_; rintro e U1 ⟨rfl, hx⟩; have XW := Lib.hid (XW.out.trans hx); have K0r := Lib.hid (K0r.out.ext hx); have K1r := Lib.hid (K1r.out.ext hx); have K13 := Lib.hid (K13.out.ext hx); have K15 := Lib.hid (K15.out.ext hx); have K17 := Lib.hid (K17.out.ext hx); have K19 := Lib.hid (K19.out.ext hx); clear hx v13_0 v13_1 v13_2 v13_3 v15_0 v15_1 v15_2 v15_3; refine Hid.out ?_)
        refine Lib.hid ?_
        have v13_0 : U1.cell? ⟨q13, 0, none⟩ = some (.int .i64 p0.1) := K13.out.cell 0
        have v13_1 : U1.cell? ⟨q13, 1, none⟩ = some (.int .i64 p0.2) := K13.out.cell 1
        have v13_2 : U1.cell? ⟨q13, 2, none⟩ = some (.int .i64 q0.1) := K13.out.cell 2
        have v13_3 : U1.cell? ⟨q13, 3, none⟩ = some (.int .i64 q0.2) := K13.out.cell 3
        have v17_0 : U1.cell? ⟨q17, 0, none⟩ = some (.int .i64 p2.1) := K17.out.cell 0
        have v17_1 : U1.cell? ⟨q17, 1, none⟩ = some (.int .i64 p2.2) := K17.out.cell 1
        have v17_2 : U1.cell? ⟨q17, 2, none⟩ = some (.int .i64 q2.1) := K17.out.cell 2
        have v17_3 : U1.cell? ⟨q17, 3, none⟩ = some (.int .i64 q2.2) := K17.out.cell 3
        go_wp2_with (go_at_call 28; refine (HI2.out _).mono ?_; rintro e U2 ⟨rfl, hx⟩; have XW := Lib.hid (XW.out.trans hx); have K0r := Lib.hid (K0r.out.ext hx); have K1r := Lib.hid (K1r.out.ext hx); have K13 := Lib.hid (K13.out.ext hx); have K15 := Lib.hid (K15.out.ext hx); have K17 := Lib.hid (K17.out.ext hx); have K19 := Lib.hid (K19.out.ext hx); clear hx v13_0 v13_1 v13_2 v13_3 v17_0 v17_1 v17_2 v17_3; refine Hid.out ?_)
        refine Lib.hid ?_
        have v15_0 : U2.cell? ⟨q15, 0, none⟩ = some (.int .i64 p1.1) := K15.out.cell 0
        have v15_1 : U2.cell? ⟨q15, 1, none⟩ = some (.int .i64 p1.2) := K15.out.cell 1
        have v15_2 : U2.cell? ⟨q15, 2, none⟩ = some (.int .i64 q1.1) := K15.out.cell 2
        have v15_3 : U2.cell? ⟨q15, 3, none⟩ = some (.int .i64 q1.2) := K15.out.cell 3
        have v17_0 : U2.cell? ⟨q17, 0, none⟩ = some (.int .i64 p2.1) := K17.out.cell 0
        have v17_1 : U2.cell? ⟨q17, 1, none⟩ = some (.int .i64 p2.2) := K17.out.cell 1
        have v17_2 : U2.cell? ⟨q17, 2, none⟩ = some (.int .i64 q2.1) := K17.out.cell 2
        have v17_3 : U2.cell? ⟨q17, 3, none⟩ = some (.int .i64 q2.2) := K17.out.cell 3
        go_wp2_with (go_at_call 28; refine (HI3.out _).mono ?_; rintro e U3 ⟨rfl, hx⟩; have XW := Lib.hid (XW.out.trans hx); have K0r := Lib.hid (K0r.out.ext hx); have K1r := Lib.hid (K1r.out.ext hx); have K13 := Lib.hid (K13.out.ext hx); have K15 := Lib.hid (K15.out.ext hx); have K17 := Lib.hid (K17.out.ext hx); have K19 := Lib.hid (K19.out.ext hx); clear hx v15_0 v15_1 v15_2 v15_3 v17_0 v17_1 v17_2 v17_3; refine Hid.out ?_)
        refine Lib.hid ?_
        go_wp2
        exact HK.out _ _ _ _ _ _ _ _ _ _ _ _ _ _ _ _ _ _ _ _ _ _ _ _ _ _ _ _ _ _ _ _ _ _ _ _ _ _ _ _ ⟨XW.out, K0r.out, K1r.out, K13.out, K15.out, K17.out, K19.out⟩
      · have hb2 : (e2 == 0) = false := by simp [he2]
        have HI1 := Lib.hid (HIN01.out rfl rfl)
        have v13_0 : V.cell? ⟨q13, 0, none⟩ = some (.int .i64 p0.1) := K13.out.cell 0
        have v13_1 : V.cell? ⟨q13, 1, none⟩ = some (.int .i64 p0.2) := K13.out.cell 1
        have v13_2 : V.cell? ⟨q13, 2, none⟩ = some (.int .i64 q0.1) := K13.out.cell 2
        have v13_3 : V.cell? ⟨q13, 3, none⟩ = some (.int .i64 q0.2) := K13.out.cell 3
        have v15_0 : V.cell? ⟨q15, 0, none⟩ = some (.int .i64 p1.1) := K15.out.cell 0
        have v15_1 : V.cell? ⟨q15, 1, none⟩ = some (.int .i64 p1.2) := K15.out.cell 1
        have v15_2 : V.cell? ⟨q15, 2, none⟩ = some (.int .i64 q1.1) := K15.out.cell 2
        have v15_3 : V.cell? ⟨q15, 3, none⟩ = some (.int .i64 q1.2) := K15.out.cell 3
        go_wp2_with (go_at_call 28; refine (HI1.out _).mono ?_; rintro e U1 ⟨rfl, hx⟩; have XW := Lib.hid (XW.out.trans hx); have K0r := Lib.hid (K0r.out.ext hx); have K1r := Lib.hid (K1r.out.ext hx); have K13 := Lib.hid (K13.out.ext hx); have K15 := Lib.hid (K15.out.ext hx); have K17 := Lib.hid (K17.out.ext hx); have K19 := Lib.hid (K19.out.ext hx); clear hx v13_0 v13_1 v13_2 v13_3 v15_0 v15_1 v15_2 v15_3; refine Hid.out ?_)
        refine Lib.hid ?_
        go_wp2
        exact HK.out _ _ _ _ _ _ _ _ _ _ _ _ _ _ _ _ _ _ _ _ _ _ _ _ _ _ _ _ _ _ _ _ _ _ _ _ _ _ _ _ ⟨XW.out, K0r.out, K1r.out, K13.out, K15.out, K17.out, K19.out⟩
    · have hb1 : (e1 == 0) = false := by simp [he1]
      by_cases he2 : e2 = 0
      · subst he2
        have HI1 := Lib.hid (HIN02.out rfl rfl)
        have v13_0 : V.cell? ⟨q13, 0, none⟩ = some (.int .i64 p0.1) := K13.out.cell 0
        have v13_1 : V.cell? ⟨q13, 1, none⟩ = some (.int .i64 p0.2) := K13.out.cell 1
        have v13_2 : V.cell? ⟨q13, 2, none⟩ = some (.int .i64 q0.1) := K13.out.cell 2
        have v13_3 : V.cell? ⟨q13, 3, none⟩ = some (.int .i64 q0.2) := K13.out.cell 3
        have v17_0 : V.cell? ⟨q17, 0, none⟩ = some (.int .i64 p2.1) := K17.out.cell 0
        have v17_1 : V.cell? ⟨q17, 1, none⟩ = some (.int .i64 p2.2) := K17.out.cell 1
        have v17_2 : V.cell? ⟨q17, 2, none⟩ = some (.int .i64 q2.1) := K17.out.cell 2
        have v17_3 : V.cell? ⟨q17, 3, none⟩ = some (.int .i64 q2.2) := K17.out.cell 3
        go_wp2_with (go_at_call 28; refine (HI1.out _).mono ?_; rintro e U1 ⟨rfl, hx⟩; have XW := Lib.hid (XW.out.trans hx); have K0r := Lib.hid (K0r.out.ext hx); have K1r := Lib.hid (K1r.out.ext hx); have K13 := Lib.hid (K13.out.ext hx); have K15 := Lib.hid (K15.out.ext hx); have K17 := Lib.hid (K17.out.ext hx); have K19 := Lib.hid (K19.out.ext hx); clear hx v13_0 v13_1 v13_2 v13_3 v17_0 v17_1 v17_2 v17_3; refine Hid.out ?_)
        refine Lib.hid ?_
        go_wp2
        exact HK.out _ _ _ _ _ _ _ _ _ _ _ _ _ _ _ _ _ _ _ _ _ _ _ _ _ _ _ _ _ _ _ _ _ _ _ _ _ _ _ _ ⟨XW.out, K0r.out, K1r.out, K13.out, K15.out, K17.out, K19.out⟩
      · have hb2 : (e2 == 0) = false := by simp [he2]
        go_wp2
        exact HK.out _ _ _ _ _ _ _ _ _ _ _ _ _ _ _ _ _ _ _ _ _ _ _ _ _ _ _ _ _ _ _ _ _ _ _ _ _ _ _ _ ⟨XW.out, K0r.out, K1r.out, K13.out, K15.out, K17.out, K19.out⟩
  · have hb0 : (e0 == 0) = false := by simp [he0]
    by_cases he1 : e1 = 0
    · subst he1
      by_cases he2 : e2 = 0
      · subst he2
        have HI1 := Lib.hid (HIN12.out rfl rfl)
        have v15_0 : V.cell? ⟨q15, 0, none⟩ = some (.int .i64 p1.1) := K15.out.cell 0
        have v15_1 : V.cell? ⟨q15, 1, none⟩ = some (.int .i64 p1.2) := K15.out.cell 1
        have v15_2 : V.cell? ⟨q15, 2, none⟩ = some (.int .i64 q1.1) := K15.out.cell 2
        have v15_3 : V.cell? ⟨q15, 3, none⟩ = some (.int .i64 q1.2) := K15.out.cell 3
        have v17_0 : V.cell? ⟨q17, 0, none⟩ = some (.int .i64 p2.1) := K17.out.cell 0
        have v17_1 : V.cell? ⟨q17, 1, none⟩ = some (.int .i64 p2.2) := K17.out.cell 1
        have v17_2 : V.cell? ⟨q17, 2, none⟩ = some (.int .i64 q2.1) := K17.out.cell 2
        have v17_3 : V.cell? ⟨q17, 3, none⟩ = some (.int .i64 q2.2) := K17.out.cell 3
        go_wp2_with (go_at_call 28; refine (HI1.out _).mono ?_; rintro e U1 ⟨rfl, hx⟩; have XW := Lib.hid (XW.out.trans hx); have K0r := Lib.hid (K0r.out.ext hx); have K1r := Lib.hid (K1r.out.ext hx); have K13 := Lib.hid (K13.out.ext hx); have K15 := Lib.hid (K15.out.ext hx); have K17 := Lib.hid (K17.out.ext hx); have K19 := Lib.hid (K19.out.ext hx); clear hx v15_0 v15_1 v15_2 v15_3 v17_0 v17_1 v17_2 v17_3; refine Hid.out ?_)
        refine Lib.hid ?_
        go_wp2
        exact HK.out _ _ _ _ _ _ _ _ _ _ _ _ _ _ _ _ _ _ _ _ _ _ _ _ _ _ _ _ _ _ _ _ _ _ _ _ _ _ _ _ ⟨XW.out, K0r.out, K1r.out, K13.out, K15.out, K17.out, K19.out⟩
      · have hb2 : (e2 == 0) = false := by simp [he2]
        go_wp2
        exact HK.out _ _ _ _ _ _ _ _ _ _ _ _ _ _ _ _ _ _ _ _ _ _ _ _ _ _ _ _ _ _ _ _ _ _ _ _ _ _ _ _ ⟨XW.out, K0r.out, K1r.out, K13.out, K15.out, K17.out, K19.out⟩
    · have hb1 : (e1 == 0) = false := by simp [he1]
      by_cases he2 : e2 = 0
      · subst he2
        go_wp2
        exact HK.out _ _ _ _ _ _ _ _ _ _ _ _ _ _ _ _ _ _ _ _ _ _ _ _ _ _ _ _ _ _ _ _ _ _ _ _ _ _ _ _ ⟨XW.out, K0r.out, K1r.out, K13.out, K15.out, K17.out, K19.out⟩
      · have hb2 : (e2 == 0) = false := by simp [he2]
        go_wp2
        exact HK.out _ _ _ _ _ _ _ _ _ _ _ _ _ _ _ _ _ _ _ _ _ _ _ _ _ _ _ _ _ _ _ _ _ _ _ _ _ _ _ _ ⟨XW.out, K0r.out, K1r.out, K13.out, K15.out, K17.out, K19.out⟩

end Go.Proofs.Ytmddnpagfgilcaa

namespace Go.Proofs.Ytmddnpagfgilcaa
open Go.RowKit Go.Shelf Go.Mem Go.RegInv
attribute [local go_sem] RelUpon_value RelUpon_skip RelUpon_enter BigFrame.eval_const BigFrame.eval_global BigFrame.eval_func

set_option maxRecDepth 100000 in
set_option maxHeartbeats 8000000 in
theorem r22 {b o : Nat} {n ca : Nat} {w : World} {l0 l1 : Int} {p0 q0 p1 q1 p2 q2 p3 q3 : Int × Int} {e0 e3 : Int} {q13 q15 q17 q19 : Nat} {V : World} {K : Act → World → Prop} {Q : Exit → Act → World → Prop} {c0 c1 c2 c4 c6 c7 c8 c9 c10 c11 c12 c15 c16 c17 c18 c21 c22 c23 c24 c25 c26 c27 c28 c29 c30 c31 c32 c33 c34 c35 c36 c37 c38 c39 c40 c41 c42 c43 c44 c45 c46 c47 c48 c49 c50 c51 c52 c53 c54 c55 c56 c57 c58 c59 c60 c61 c62 c63 c64 c65 c66 c67 c68 c69 c70 c71 c72 c73 c74 c75 c76 c77 c78 c79 c80 c81 c82 c83 c84 c85 c86 c87 c88 c89 c90 c91 c92 c93 c94 c95 c96 c97 c98 c99 c100 c101 c102 c103 c104 c105 c106 c107 c108 c109 c110 c111 c112 c113 c114 c115 c116 c117 c118 c119 c120 c121 c122 c123 c124 c125 c126 c127 c128 c129 c130 c131 c132 c133 c134 c135 c136 c137 c138 c139 c140 c141 c142 c143 c144 c145 c146 c147 c148 c149 c150 c151 c152 c153 c154 c155 c156 c157 c158 c159 c160 c161 c162 c163 c164 c165 c166 c167 c168 c169 c170 c171 c172 c173 c174 c175 c176 c177 c178 c179 c180 c181 c182 c183 c184 c185 c186 c187 c188 c189 c190 c191 c192 c193 c194 c195 c196 c197 c198 c199 c200 c201 c202 c203 c204 c205 c206 c207 c208 c209 c210 c211 c212 c213 c214 c215 c216 c217 c218 c219 c220 c221 c222 c223 c224 c225 c226 c227 c228 c229 c230 c231 c232 c233 c234 c235 c236 c237 c238 c239 c240 c241 c242 c243 c244 c245 c246 c247 c248 c249 c250 c251 c252 c253 c254 c255 c256 c257 c258 c259 c260 c261 c262 c263 c264 c265 c266 c267 c268 c269 c270 c271 c272 c273 c274 c275 c276 c277 c278 c279 c280 c281 c282 c283 c284 c285 c286 c287 c288 c289 c290 c291 c292 c293 c294 c295 c296 c297 c298 c299 c300 c301 c302 c303 c304 : Value} (HCM : Hid (e0 = 0 → e3 = 0 → ∃ c d : Int, c ≤ 0 ∧ d ≤ 0 ∧ (∀ (W : World), Calls Try.prog 29 #[.agg #[.int .i64 p3.1, .int .i64 p3.2], .agg #[.int .i64 p0.1, .int .i64 p0.2]] W fun e w' => e = .returned (.int .i64 c) ∧ Ext W w') ∧ ∀ (W : World), Calls Try.prog 29 #[.agg #[.int .i64 q3.1, .int .i64 q3.2], .agg #[.int .i64 q0.1, .int .i64 q0.2]] W fun e w' => e = .returned (.int .i64 d) ∧ Ext W w')) (XW : Hid (Ext w V)) (K0r : Hid (Blk V w.heap.size 24 #[.slice (some ⟨b, o, none⟩) n ca])) (K1r : Hid (Blk V (w.heap.size + 1) 52 #[.int .i64 l0, .int .i64 l1])) (K13 : Hid (Blk V q13 34 #[.int .i64 p0.1, .int .i64 p0.2, .int .i64 q0.1, .int .i64 q0.2])) (K15 : Hid (Blk V q15 34 #[.int .i64 p1.1, .int .i64 p1.2, .int .i64 q1.1, .int .i64 q1.2])) (K17 : Hid (Blk V q17 34 #[.int .i64 p2.1, .int .i64 p2.2, .int .i64 q2.1, .int .i64 q2.2])) (K19 : Hid (Blk V q19 34 #[.int .i64 p3.1, .int .i64 p3.2, .int .i64 q3.1, .int .i64 q3.2]))
    (hK : ∀ (u221 u222 u223 u224 u225 u226 u227 u228 u229 u230 u231 u232 u233 u234 u235 u236 u237 u238 u239 u240 u241 u242 : Value) (W' : World), u242 = .bool false ∧ Ext w W' ∧ Blk W' w.heap.size 24 #[.slice (some ⟨b, o, none⟩) n ca] ∧ Blk W' (w.heap.size + 1) 52 #[.int .i64 l0, .int .i64 l1] ∧ Blk W' q13 34 #[.int .i64 p0.1, .int .i64 p0.2, .int .i64 q0.1, .int .i64 q0.2] → K ⟨(List.toArray (c0 :: c1 :: c2 :: (.pointer (some ⟨w.heap.size, 0, none⟩)) :: c4 :: (.pointer (some ⟨w.heap.size + 1, 0, none⟩)) :: c6 :: c7 :: c8 :: c9 :: c10 :: c11 :: c12 :: (.pointer (some ⟨q13, 0, none⟩)) :: (.int .i64 e0) :: c15 :: c16 :: c17 :: c18 :: (.pointer (some ⟨q19, 0, none⟩)) :: (.int .i64 e3) :: c21 :: c22 :: c23 :: c24 :: c25 :: c26 :: c27 :: c28 :: c29 :: c30 :: c31 :: c32 :: c33 :: c34 :: c35 :: c36 :: c37 :: c38 :: c39 :: c40 :: c41 :: c42 :: c43 :: c44 :: c45 :: c46 :: c47 :: c48 :: c49 :: c50 :: c51 :: c52 :: c53 :: c54 :: c55 :: c56 :: c57 :: c58 :: c59 :: c60 :: c61 :: c62 :: c63 :: c64 :: c65 :: c66 :: c67 :: c68 :: c69 :: c70 :: c71 :: c72 :: c73 :: c74 :: c75 :: c76 :: c77 :: c78 :: c79 :: c80 :: c81 :: c82 :: c83 :: c84 :: c85 :: c86 :: c87 :: c88 :: c89 :: c90 :: c91 :: c92 :: c93 :: c94 :: c95 :: c96 :: c97 :: c98 :: c99 :: c100 :: c101 :: c102 :: c103 :: c104 :: c105 :: c106 :: c107 :: c108 :: c109 :: c110 :: c111 :: c112 :: c113 :: c114 :: c115 :: c116 :: c117 :: c118 :: c119 :: c120 :: c121 :: c122 :: c123 :: c124 :: c125 :: c126 :: c127 :: c128 :: c129 :: c130 :: c131 :: c132 :: c133 :: c134 :: c135 :: c136 :: c137 :: c138 :: c139 :: c140 :: c141 :: c142 :: c143 :: c144 :: c145 :: c146 :: c147 :: c148 :: c149 :: c150 :: c151 :: c152 :: c153 :: c154 :: c155 :: c156 :: c157 :: c158 :: c159 :: c160 :: c161 :: c162 :: c163 :: c164 :: c165 :: c166 :: c167 :: c168 :: c169 :: c170 :: c171 :: c172 :: c173 :: c174 :: c175 :: c176 :: c177 :: c178 :: c179 :: c180 :: c181 :: c182 :: c183 :: c184 :: c185 :: c186 :: c187 :: c188 :: c189 :: c190 :: c191 :: c192 :: c193 :: c194 :: c195 :: c196 :: c197 :: c198 :: c199 :: c200 :: c201 :: c202 :: c203 :: c204 :: c205 :: c206 :: c207 :: c208 :: c209 :: c210 :: c211 :: c212 :: c213 :: c214 :: c215 :: c216 :: c217 :: c218 :: c219 :: c220 :: u221 :: u222 :: u223 :: u224 :: u225 :: u226 :: u227 :: u228 :: u229 :: u230 :: u231 :: u232 :: u233 :: u234 :: u235 :: u236 :: u237 :: u238 :: u239 :: u240 :: u241 :: u242 :: c243 :: c244 :: c245 :: c246 :: c247 :: c248 :: c249 :: c250 :: c251 :: c252 :: c253 :: c254 :: c255 :: c256 :: c257 :: c258 :: c259 :: c260 :: c261 :: c262 :: c263 :: c264 :: c265 :: c266 :: c267 :: c268 :: c269 :: c270 :: c271 :: c272 :: c273 :: c274 :: c275 :: c276 :: c277 :: c278 :: c279 :: c280 :: c281 :: c282 :: c283 :: c284 :: c285 :: c286 :: c287 :: c288 :: c289 :: c290 :: c291 :: c292 :: c293 :: c294 :: c295 :: c296 :: c297 :: c298 :: c299 :: c300 :: c301 :: c302 :: c303 :: c304 :: [])), []⟩ W') :
    Code.wp Try.prog (codeR 22 Try.f4) (Exit.then K Q) ⟨(List.toArray (c0 :: c1 :: c2 :: (.pointer (some ⟨w.heap.size, 0, none⟩)) :: c4 :: (.pointer (some ⟨w.heap.size + 1, 0, none⟩)) :: c6 :: c7 :: c8 :: c9 :: c10 :: c11 :: c12 :: (.pointer (some ⟨q13, 0, none⟩)) :: (.int .i64 e0) :: c15 :: c16 :: c17 :: c18 :: (.pointer (some ⟨q19, 0, none⟩)) :: (.int .i64 e3) :: c21 :: c22 :: c23 :: c24 :: c25 :: c26 :: c27 :: c28 :: c29 :: c30 :: c31 :: c32 :: c33 :: c34 :: c35 :: c36 :: c37 :: c38 :: c39 :: c40 :: c41 :: c42 :: c43 :: c44 :: c45 :: c46 :: c47 :: c48 :: c49 :: c50 :: c51 :: c52 :: c53 :: c54 :: c55 :: c56 :: c57 :: c58 :: c59 :: c60 :: c61 :: c62 :: c63 :: c64 :: c65 :: c66 :: c67 :: c68 :: c69 :: c70 :: c71 :: c72 :: c73 :: c74 :: c75 :: c76 :: c77 :: c78 :: c79 :: c80 :: c81 :: c82 :: c83 :: c84 :: c85 :: c86 :: c87 :: c88 :: c89 :: c90 :: c91 :: c92 :: c93 :: c94 :: c95 :: c96 :: c97 :: c98 :: c99 :: c100 :: c101 :: c102 :: c103 :: c104 :: c105 :: c106 :: c107 :: c108 :: c109 :: c110 :: c111 :: c112 :: c113 :: c114 :: c115 :: c116 :: c117 :: c118 :: c119 :: c120 :: c121 :: c122 :: c123 :: c124 :: c125 :: c126 :: c127 :: c128 :: c129 :: c130 :: c131 :: c132 :: c133 :: c134 :: c135 :: c136 :: c137 :: c138 :: c139 :: c140 :: c141 :: c142 :: c143 :: c144 :: c145 :: c146 :: c147 :: c148 :: c149 :: c150 :: c151 :: c152 :: c153 :: c154 :: c155 :: c156 :: c157 :: c158 :: c159 :: c160 :: c161 :: c162 :: c163 :: c164 :: c165 :: c166 :: c167 :: c168 :: c169 :: c170 :: c171 :: c172 :: c173 :: c174 :: c175 :: c176 :: c177 :: c178 :: c179 :: c180 :: c181 :: c182 :: c183 :: c184 :: c185 :: c186 :: c187 :: c188 :: c189 :: c190 :: c191 :: c192 :: c193 :: c194 :: c195 :: c196 :: c197 :: c198 :: c199 :: c200 :: c201 :: c202 :: c203 :: c204 :: c205 :: c206 :: c207 :: c208 :: c209 :: c210 :: c211 :: c212 :: c213 :: c214 :: c215 :: c216 :: c217 :: c218 :: c219 :: c220 :: c221 :: c222 :: c223 :: c224 :: c225 :: c226 :: c227 :: c228 :: c229 :: c230 :: c231 :: c232 :: c233 :: c234 :: c235 :: c236 :: c237 :: c238 :: c239 :: c240 :: c241 :: c242 :: c243 :: c244 :: c245 :: c246 :: c247 :: c248 :: c249 :: c250 :: c251 :: c252 :: c253 :: c254 :: c255 :: c256 :: c257 :: c258 :: c259 :: c260 :: c261 :: c262 :: c263 :: c264 :: c265 :: c266 :: c267 :: c268 :: c269 :: c270 :: c271 :: c272 :: c273 :: c274 :: c275 :: c276 :: c277 :: c278 :: c279 :: c280 :: c281 :: c282 :: c283 :: c284 :: c285 :: c286 :: c287 :: c288 :: c289 :: c290 :: c291 :: c292 :: c293 :: c294 :: c295 :: c296 :: c297 :: c298 :: c299 :: c300 :: c301 :: c302 :: c303 :: c304 :: [])), []⟩ V := by
  conv => arg 2; whnf
  have HK := Lib.hid hK
  clear hK
  by_cases he0 : e0 = 0
  · subst he0
    by_cases he3 : e3 = 0
    · subst he3
      obtain ⟨c, d, hc, hd, hcc, hcd⟩ := HCM.out rfl rfl
      have HC := Lib.hid hcc
      have HD := Lib.hid hcd
      clear hcc hcd
      have hc2 : ¬ 0 < c := by omega
      have hd2 : ¬ 0 < d := by omega
      have v13_0 : V.cell? ⟨q13, 0, none⟩ = some (.int .i64 p0.1) := K13.out.cell 0
      have v13_1 : V.cell? ⟨q13, 1, none⟩ = some (.int .i64 p0.2) := K13.out.cell 1
      have v13_2 : V.cell? ⟨q13, 2, none⟩ = some (.int .i64 q0.1) := K13.out.cell 2
      have v13_3 : V.cell? ⟨q13, 3, none⟩ = some (.int .i64 q0.2) := K13.out.cell 3
      have v19_0 : V.cell? ⟨q19, 0, none⟩ = some (.int .i64 p3.1) := K19.out.cell 0
      have v19_1 : V.cell? ⟨q19, 1, none⟩ = some (.int .i64 p3.2) := K19.out.cell 1
      have v19_2 : V.cell? ⟨q19, 2, none⟩ = some (.int .i64 q3.1) := K19.out.cell 2
      have v19_3 : V.cell? ⟨q19, 3, none⟩ = some (.int .i64 q3.2) := K19.out.cell 3
      go_wp2_with (go_at_call 29; refine (HC.out _).mono ?_; rintro e U1 ⟨rfl, hx⟩; have XW := Lib.hid (XW.out.trans hx); have K0r := Lib.hid (K0r.out.ext hx); have K1r := Lib.hid (K1r.out.ext hx); have K13 := Lib.hid (K13.out.ext hx); have K15 := Lib.hid (K15.out.ext hx); have K17 := Lib.hid (K17.out.ext hx); have K19 := Lib.hid (K19.out.ext hx); clear hx v13_0 v13_1 v13_2 v13_3 v19_0 v19_1 v19_2 v19_3; refine Hid.out ?_)
      refine Lib.hid ?_
      have v13_0 : U1.cell? ⟨q13, 0, none⟩ = some (.int .i64 p0.1) := K13.out.cell 0
      have v13_1 : U1.cell? ⟨q13, 1, none⟩ = some (.int .i64 p0.2) := K13.out.cell 1
      have v13_2 : U1.cell? ⟨q13, 2, none⟩ = some (.int .i64 q0.1) := K13.out.cell 2
      have v13_3 : U1.cell? ⟨q13, 3, none⟩ = some (.int .i64 q0.2) := K13.out.cell 3
      have v19_0 : U1.cell? ⟨q19, 0, none⟩ = some (.int .i64 p3.1) := K19.out.cell 0
      have v19_1 : U1.cell? ⟨q19, 1, none⟩ = some (.int .i64 p3.2) := K19.out.cell 1
      have v19_2 : U1.cell? ⟨q19, 2, none⟩ = some (.int .i64 q3.1) := K19.out.cell 2
      have v19_3 : U1.cell? ⟨q19, 3, none⟩ = some (.int .i64 q3.2) := K19.out.cell 3
      go_wp2_with (go_at_call 29; refine (HD.out _).mono ?_; rintro e U2 ⟨rfl, hx⟩; have XW := Lib.hid (XW.out.trans hx); have K0r := Lib.hid (K0r.out.ext hx); have K1r := Lib.hid (K1r.out.ext hx); have K13 := Lib.hid (K13.out.ext hx); have K15 := Lib.hid (K15.out.ext hx); have K17 := Lib.hid (K17.out.ext hx); have K19 := Lib.hid (K19.out.ext hx); clear hx v13_0 v13_1 v13_2 v13_3 v19_0 v19_1 v19_2 v19_3; refine Hid.out ?_)
      refine Lib.hid ?_
      go_wp2
      exact HK.out _ _ _ _ _ _ _ _ _ _ _ _ _ _ _ _ _ _ _ _ _ _ _ ⟨by rw [decide_eq_false (show ¬ 0 < c by omega), decide_eq_false (show ¬ 0 < d by omega)]; rfl, XW.out, K0r.out, K1r.out, K13.out⟩
    · have hb3 : (e3 == 0) = false := by simp [he3]
      go_wp2
      exact HK.out _ _ _ _ _ _ _ _ _ _ _ _ _ _ _ _ _ _ _ _ _ _ _ ⟨rfl, XW.out, K0r.out, K1r.out, K13.out⟩
  · have hb0 : (e0 == 0) = false := by simp [he0]
    by_cases he3 : e3 = 0
    · subst he3
      go_wp2
      exact HK.out _ _ _ _ _ _ _ _ _ _ _ _ _ _ _ _ _ _ _ _ _ _ _ ⟨rfl, XW.out, K0r.out, K1r.out, K13.out⟩
    · have hb3 : (e3 == 0) = false := by simp [he3]
      go_wp2
      exact HK.out _ _ _ _ _ _ _ _ _ _ _ _ _ _ _ _ _ _ _ _ _ _ _ ⟨rfl, XW.out, K0r.out, K1r.out, K13.out⟩

end Go.Proofs.Ytmddnpagfgilcaa
