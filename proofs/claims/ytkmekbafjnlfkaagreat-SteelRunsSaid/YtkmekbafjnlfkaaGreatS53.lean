/- Runs of two steels; a copy of numbers. -/
import Derived.Test.YtkmekbafjnlfkaaGreatS45

namespace Go.Proofs.YtkmekbafjnlfkaaGreat
open Go.RowKit Go.Shelf Go.Mem Go.RegInv
attribute [local go_sem] RelUpon_value RelUpon_skip RelUpon_enter BigFrame.eval_const BigFrame.eval_global BigFrame.eval_func

def encI (x : Int) : List Value := [.int .i64 x]
theorem encI_one : ∀ x, ∀ u ∈ encI x, u.oneCell' = true := by intro x u hu; simp [encI] at hu; rw [hu]; rfl
theorem infoR3 : (Tryz.prog.info? 3).map (fun i => (i.zero, i.size, i.bytes)) = some (some (.int .i64 0), 1, 8) := by kernel_rfl
theorem rowsI_ints {W : World} {A : Option Addr} {n c : Nat} {xs : List Int} (hn : xs.length = n) (h : RowsAt 1 encI W A xs) : IntsAt W (.slice A n c) xs := by
  subst hn
  cases xs with
  | nil => exact .inl ⟨A, c, rfl, rfl⟩
  | cons y l =>
    obtain ⟨b, o, hA, hb, -⟩ := h.2 0 y rfl
    refine .inr ⟨b, o, c, by rw [hA], hb, h.1, fun i hi => ?_⟩
    obtain ⟨b', o', hA', -, hc⟩ := h.2 i _ (List.getElem?_eq_getElem hi)
    obtain ⟨rfl, rfl⟩ : b = b' ∧ o = o' := by simpa using hA.symm.trans hA'
    have := hc 0 _ rfl
    rw [List.getD_eq_getElem?_getD, List.getElem?_eq_getElem hi]
    simpa using this
set_option maxRecDepth 100000 in
set_option maxHeartbeats 1000000 in
theorem copyInts_any {A : Option Addr} {n ca : Nat} {xs : List Int} {w : World} (hn : xs.length = n) (ha : RowsAt 1 encI w A xs) (h6 : n ≤ 1000) (hnil : A = none → ca = 0) :
    Calls Tryz.prog 25 #[.slice A n ca] w fun e w' => ∃ A' c', e = .returned (.slice A' n c') ∧ IntsAt w' (.slice A' n c') xs ∧ Ext w w' := by
  obtain ⟨i0, hi0, hz0, ha0, hb0⟩ := info_parts infoR3
  have I0 := Lib.hid hz0
  have HN := Lib.hid hn
  have HA := Lib.hid ha
  have HL := Lib.hid hnil
  clear hn ha hnil hz0
  go_enter Tryz.func25, Tryz.ntmps25
  go_wp2_with (at_builtin; refine wpList_copy rfl _ _ 46 rfl 3 i0 (.int .i64 0) 1 8 Tryz.underlying46 hi0 I0.out ha0 hb0 rfl (by decide) (by decide) encI (fun _ => rfl) encI_one rfl A n ca xs rfl HN.out HA.out (by omega) HL.out ?_; intro A' c' w' hro hx hlo hnl; have XR := Lib.hid hro; have XX := Lib.hid hx; clear hro hx hlo hnl)
  go_ret
  exact ⟨_, _, rfl, rowsI_ints HN.out XR.out, XX.out⟩

/-- A greater part picks no less of a range. -/
theorem pick_mono {lo hi p q : Int} (h : lo ≤ hi) (hpq : p ≤ q) : pickK lo hi p ≤ pickK lo hi q := by
  unfold pickK
  have := Int.mul_le_mul_of_nonneg_left hpq (show 0 ≤ hi - lo by omega)
  generalize (hi - lo) * p = x at *
  generalize (hi - lo) * q = y at *
  omega
/-- On a hot curve a greater part Heat leaves no less austenite. -/
theorem hot_runs {r : Ru} (hr : RuOK r) {k l : Pk} (hk : PkOK k) (hl : PkOK l) (hkl : k.h ≤ l.h) : ∀ (xs : List Int) {s t : St}, StK s → StK t → s.a ≤ t.a → xs.all (hotB r) = true → (runK r k s xs).a ≤ (runK r l t xs).a
  | [], _, _, _, _, h, _ => h
  | x :: xs, s, t, hs, ht, h, hx => by
    simp only [List.all_cons, Bool.and_eq_true] at hx
    obtain ⟨y, hy, e⟩ := tick_hot hx.1
    obtain ⟨⟨a1, a2, a3⟩, b1, b2⟩ := hr.h y hy
    have hp := pick_mono a2 hkl
    refine hot_runs hr hk hl hkl xs (tick_ok hr hk hs x) (tick_ok hr hl ht x) ?_ hx.2
    unfold tickK
    rw [e]
    show 1000000 - max 0 (1000000 - s.a - pickK y.lo y.hi k.h) ≤ 1000000 - max 0 (1000000 - t.a - pickK y.lo y.hi l.h)
    omega
theorem frozen_max {a m s : Int} : m + frozenK a m s = max m ((a + m) * s / 1000000) := by
  unfold frozenK
  generalize (a + m) * s / 1000000 = x
  omega
/-- A deed of Colds or Tempers keeps both sums equal and the order of martensite. -/
theorem cold_step {d : Deed} (hd : deedOK d) (hh : isH d = false) (hc : ∀ x, d ≠ .c x) {k l : Pk} (hkl : k.d ≤ l.d) {s t : St} (hs : StK s) (h1 : s.a + s.m = t.a + t.m) (h2 : s.m ≤ t.m) :
    (stepD d k s).a + (stepD d k s).m = (stepD d l t).a + (stepD d l t).m ∧ (stepD d k s).m ≤ (stepD d l t).m := by
  cases d with
  | h x => cases hh
  | c x => exact absurd rfl (hc x)
  | d x =>
    obtain ⟨a1, a2, a3⟩ := hd
    have hp := pick_mono a2 hkl
    refine ⟨?_, ?_⟩
    · show s.a - frozenK s.a s.m (pickK x.lo x.hi k.d) + (s.m + frozenK s.a s.m (pickK x.lo x.hi k.d)) = t.a - frozenK t.a t.m (pickK x.lo x.hi l.d) + (t.m + frozenK t.a t.m (pickK x.lo x.hi l.d))
      omega
    · show s.m + frozenK s.a s.m (pickK x.lo x.hi k.d) ≤ t.m + frozenK t.a t.m (pickK x.lo x.hi l.d)
      rw [frozen_max, frozen_max, ← h1]
      have h3 := Int.mul_le_mul_of_nonneg_left hp (show 0 ≤ s.a + s.m by have := hs.ha; have := hs.hm; omega)
      generalize (s.a + s.m) * pickK x.lo x.hi k.d = u at *
      generalize (s.a + s.m) * pickK x.lo x.hi l.d = v at *
      omega
  | t x => exact ⟨h1, h2⟩
theorem cold_fold {k l : Pk} (hk : PkOK k) (hl : PkOK l) (hkl : k.d ≤ l.d) : ∀ {ds : List Deed} {s t : St}, (∀ d ∈ ds, deedOK d) → (∀ d ∈ ds, isH d = false) → (∀ d ∈ ds, ∀ x, d ≠ .c x) → StK s → StK t → s.a + s.m = t.a + t.m → s.m ≤ t.m →
    (ds.foldl (fun s d => stepD d k s) s).a + (ds.foldl (fun s d => stepD d k s) s).m = (ds.foldl (fun s d => stepD d l s) t).a + (ds.foldl (fun s d => stepD d l s) t).m ∧ (ds.foldl (fun s d => stepD d k s) s).m ≤ (ds.foldl (fun s d => stepD d l s) t).m
  | [], _, _, _, _, _, _, _, h1, h2 => ⟨h1, h2⟩
  | d :: ds, s, t, h, hh, hc, hs, ht, h1, h2 => by
    have h3 := cold_step (h d (List.mem_cons_self)) (hh d (List.mem_cons_self)) (hc d (List.mem_cons_self)) hkl hs h1 h2
    exact cold_fold hk hl hkl (ds := ds) (s := stepD d k s) (t := stepD d l t) (fun d' hd => h d' (List.mem_cons_of_mem _ hd)) (fun d' hd => hh d' (List.mem_cons_of_mem _ hd)) (fun d' hd => hc d' (List.mem_cons_of_mem _ hd)) (step_ok (h d (List.mem_cons_self)) hk hs) (step_ok (h d (List.mem_cons_self)) hl ht) h3.1 h3.2
theorem optD_noC {α : Type} {i : Int} {l : List α} {f : α → Deed} (h : ∀ x y, f x ≠ .c y) : ∀ d ∈ optD i l f, ∀ y, d ≠ .c y := by
  intro d hd
  unfold optD at hd
  split at hd
  · cases hx : l[i.toNat]? with
    | none => rw [hx] at hd; simp at hd
    | some x =>
      rw [hx] at hd
      obtain rfl : d = f x := by simpa using hd
      exact h x
  · simp at hd
theorem tick_noC {r : Ru} (hn : r.cs.length = 0) (x : Int) : ∀ d ∈ tickD r x, ∀ y, d ≠ .c y := by
  intro d hd
  unfold tickD deedsK at hd
  split at hd
  · exact optD_noC (fun _ _ h => by cases h) d hd
  · rcases List.mem_append.1 hd with hd | hd
    · exfalso
      rw [List.length_eq_zero_iff.1 hn, optD_neg (show ¬ 0 ≤ firstK CK.k x [] from by show ¬ (0 : Int) ≤ -1; decide)] at hd
      simp at hd
    · rcases List.mem_append.1 hd with hd | hd
      · exact optD_noC (fun _ _ h => by cases h) d hd
      · exact optD_noC (fun _ _ h => by cases h) d hd
/-- On a curve that is never hot, without Cools, a greater part Cold leaves no less martensite. -/
theorem cold_runs {r : Ru} (hr : RuOK r) (hn : r.cs.length = 0) {k l : Pk} (hk : PkOK k) (hl : PkOK l) (hkl : k.d ≤ l.d) : ∀ (xs : List Int) {s t : St}, StK s → StK t → s.a + s.m = t.a + t.m → s.m ≤ t.m → xs.all (fun x => !hotB r x) = true → (runK r k s xs).m ≤ (runK r l t xs).m
  | [], _, _, _, _, _, h, _ => h
  | x :: xs, s, t, hs, ht, h1, h2, hx => by
    simp only [List.all_cons, Bool.and_eq_true, Bool.not_eq_true'] at hx
    have h3 := cold_fold hk hl hkl (ds := tickD r x) (tickD_ok hr x) (tick_cool hx.1) (tick_noC hn x) hs ht h1 h2
    exact cold_runs hr hn hk hl hkl xs (tick_ok hr hk hs x) (tick_ok hr hl ht x) h3.1 h3.2 (by simpa using hx.2)
theorem take_allI {f : Int → Bool} {xs : List Int} {k : Nat} {x : Int} (h : xs[k]? = some x) : (xs.take (k + 1)).all f = ((xs.take k).all f && f x) := by
  rw [List.take_add_one, h]; simp

end Go.Proofs.YtkmekbafjnlfkaaGreat
