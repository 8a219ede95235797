/- Deeds at any place; what a tick does. -/
import Derived.Test.YtkmekbafjnlfkaaGreatS21b

namespace Go.Proofs.YtkmekbafjnlfkaaGreat
open Go.RowKit Go.Shelf Go.Mem Go.RegInv
attribute [local go_sem] RelUpon_value RelUpon_skip RelUpon_enter BigFrame.eval_const BigFrame.eval_global BigFrame.eval_func

/-- No row, or the row at that place. -/
def At {α : Type} (l : List α) (v : Int) : Prop := v < 0 ∨ ∃ (j : Nat) (x : α), v = j ∧ l[j]? = some x
theorem at_of {α : Type} {l : List α} {v : Int} (h0 : -1 ≤ v) (h1 : v < l.length) : At l v := by
  by_cases h : v < 0
  · exact .inl h
  · obtain ⟨j, rfl⟩ : ∃ j : Nat, v = j := ⟨v.toNat, by omega⟩
    have hj : j < l.length := by omega
    exact .inr ⟨j, l[j], rfl, List.getElem?_eq_getElem hj⟩
theorem idxF_lt {α : Type} (p : α → Bool) : ∀ (xs : List α) (k : Nat), idxF p xs k = -1 ∨ idxF p xs k < (k : Int) + xs.length
  | [], k => .inl rfl
  | x :: l, k => by
    have := idxF_lt p l (k + 1)
    rw [idxF]
    simp only [List.length_cons]
    split
    · right; omega
    · rcases this with h | h
      · exact .inl h
      · right; omega
theorem firstK_at {α : Type} (k : α → Int) (kelvin : Int) (xs : List α) : At xs (firstK k kelvin xs) := by
  have h1 := idxF_bd (fromP k kelvin) xs 0
  have h2 := idxF_lt (fromP k kelvin) xs 0
  unfold firstK
  rcases h2 with h2 | h2
  · exact .inl (by omega)
  · exact at_of h1.1 (by omega)
theorem lastK_at {α : Type} (k : α → Int) (kelvin : Int) (xs : List α) : At xs (lastK k kelvin xs) := by
  have h1 := idxF_bd (aboveP k kelvin) xs 0
  have h2 := idxF_lt (aboveP k kelvin) xs 0
  unfold lastK
  split
  · rcases h2 with h2 | h2
    · omega
    · exact at_of (by omega) (by omega)
  · exact at_of (by omega) (by omega)

theorem deedsAt_any {r : Ru} {u : Value} {w : World} (hR : RuV r u w) {vh vc vd vt : Int} (h1 : At r.hs vh) (h2 : At r.cs vc) (h3 : At r.ds vd) (h4 : At r.ts vt) :
    Calls Tryz.prog 133 #[u, .agg #[.int .i64 vh, .int .i64 vc, .int .i64 vd, .int .i64 vt]] w (VPost w (DeedsV (deedsK r vh vc vd vt))) := by
  rcases h1 with n1 | ⟨j1, x1, rfl, g1⟩
  · rcases h2 with n2 | ⟨j2, x2, rfl, g2⟩
    · rcases h3 with n3 | ⟨j3, x3, rfl, g3⟩
      · rcases h4 with n4 | ⟨j4, x4, rfl, g4⟩
        · exact deedsAt_none hR _ _ _ _ n1 n2 n3 n4
        · exact deedsAt_t hR _ _ _ n1 n2 n3 g4
      · rcases h4 with n4 | ⟨j4, x4, rfl, g4⟩
        · exact deedsAt_d hR _ _ _ n1 n2 g3 n4
        · exact deedsAt_dt hR _ _ n1 n2 g3 g4
    · rcases h3 with n3 | ⟨j3, x3, rfl, g3⟩
      · rcases h4 with n4 | ⟨j4, x4, rfl, g4⟩
        · exact deedsAt_c hR _ _ _ n1 g2 n3 n4
        · exact deedsAt_ct hR _ _ n1 g2 n3 g4
      · rcases h4 with n4 | ⟨j4, x4, rfl, g4⟩
        · exact deedsAt_cd hR _ _ n1 g2 g3 n4
        · exact deedsAt_cdt hR _ n1 g2 g3 g4
  · exact deedsAt_h hR _ _ _ g1
theorem DeedsV.ext {ds : List Deed} {u : Value} {W W' : World} (h : DeedsV ds u W) (e : Ext W W') : DeedsV ds u W' := by
  obtain ⟨A, n, c, rows, h1, h2, h3, h4, h5, h6⟩ := h
  exact ⟨A, n, c, rows, h1, h2, h3, h4, h5.ext e, fun i d p hd hp => (h6 i d p hd hp).ext e⟩

/-- What a tick does. -/
def tickD (r : Ru) (kelvin : Int) : List Deed := deedsK r (lastK HK.k kelvin r.hs) (firstK CK.k kelvin r.cs) (firstK DK.k kelvin r.ds) (lastK TK.k kelvin r.ts)
def tickK (r : Ru) (k : Pk) (s : St) (kelvin : Int) : St := (tickD r kelvin).foldl (fun s d => stepD d k s) s
def runK (r : Ru) (k : Pk) (s : St) (xs : List Int) : St := xs.foldl (tickK r k) s

def deedOK : Deed → Prop
  | .h x => rgOK x.lo x.hi ∧ 0 ≤ x.g ∧ x.g ≤ 1000000
  | .c x => rgOK x.wlo x.whi ∧ rgOK x.rlo x.rhi
  | .d x => rgOK x.lo x.hi
  | .t x => 0 ≤ x.r ∧ x.r ≤ 1000000
structure RuOK (r : Ru) : Prop where
  h : ∀ x ∈ r.hs, deedOK (.h x)
  c : ∀ x ∈ r.cs, deedOK (.c x)
  d : ∀ x ∈ r.ds, deedOK (.d x)
  t : ∀ x ∈ r.ts, deedOK (.t x)
theorem optD_ok {α : Type} {i : Int} {l : List α} {f : α → Deed} (h : ∀ x ∈ l, deedOK (f x)) : ∀ d ∈ optD i l f, deedOK d := by
  intro d hd
  unfold optD at hd
  split at hd
  · cases hx : l[i.toNat]? with
    | none => rw [hx] at hd; simp at hd
    | some x =>
      rw [hx] at hd
      obtain rfl : d = f x := by simpa using hd
      exact h x (List.mem_of_getElem? hx)
  · simp at hd
theorem tickD_ok {r : Ru} (h : RuOK r) (kelvin : Int) : ∀ d ∈ tickD r kelvin, deedOK d := by
  intro d hd
  unfold tickD deedsK at hd
  split at hd
  · exact optD_ok h.h d hd
  · rcases List.mem_append.1 hd with hd | hd
    · exact optD_ok h.c d hd
    · rcases List.mem_append.1 hd with hd | hd
      · exact optD_ok h.d d hd
      · exact optD_ok h.t d hd
def StK (s : St) : Prop := StOK s.p s.a s.b s.m s.wt s.g s.t
def PkOK (k : Pk) : Prop := 0 ≤ k.h ∧ k.h ≤ 1000 ∧ 0 ≤ k.c ∧ k.c ≤ 1000 ∧ 0 ≤ k.d ∧ k.d ≤ 1000

end Go.Proofs.YtkmekbafjnlfkaaGreat
