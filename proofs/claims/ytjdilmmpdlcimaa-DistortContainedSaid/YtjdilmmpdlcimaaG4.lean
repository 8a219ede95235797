/- Regions with a shaft after strokes. -/
import Derived.Test.YtjdilmmpdlcimaaG3
import Derived.Test.YtjdilmmpdlcimaaJ1
import Derived.Lib.MinMax

namespace Go.Proofs.Ytjdilmmpdlcimaa
open Go.RowKit Go.Shelf Go.Mem Go.RegInv
attribute [local go_sem] RelUpon_value RelUpon_skip RelUpon_enter BigFrame.eval_const BigFrame.eval_global BigFrame.eval_func


theorem keepJ {js : List Int} {U : World} {A : Option Addr} {q : Nat} (h : RowsAt 1 I1 U A js) (hb : Blk U q 25 #[.int .i64 0, .slice none 0 0, .slice none 0 0]) (h1 : ∀ i, i < js.length → 1 ≤ js.getD i 0) (v0 v1 v2 : Value) :
    RowsAt 1 I1 (((U.setCell ⟨q, 0, none⟩ v0).setCell ⟨q, 1, none⟩ v1).setCell ⟨q, 2, none⟩ v2) A js := by
  cases js with
  | nil => exact ⟨by simp, fun i x hx => by simp at hx⟩
  | cons x l =>
    have hne : ∀ b o, A = some ⟨b, o, none⟩ → b ≠ q := by
      rintro b o rfl rfl
      obtain ⟨b', o', e, -, hc⟩ := h.2 0 x rfl
      obtain ⟨rfl, rfl⟩ : b = b' ∧ o = o' := by simpa using e
      have h2 := hc 0 (.int .i64 x) rfl
      have h3 := h1 0 (by simp)
      rw [hb.cell] at h2
      rcases (show o = 0 ∨ o = 1 ∨ o = 2 ∨ 3 ≤ o by omega) with rfl | rfl | rfl | h7
      · simp at h2 h3; omega
      · simp at h2
      · simp at h2
      · rw [Array.getElem?_eq_none (by simp; omega)] at h2; cases h2
    exact rows_setOther (rows_setOther (rows_setOther h hne _) hne _) hne _
theorem keepK {ks : List Rg} {U : World} {A : Option Addr} {q : Nat} (h : RowsAt 2 Rg.enc U A ks) (hb : Blk U q 25 #[.int .i64 0, .slice none 0 0, .slice none 0 0]) (v0 v1 v2 : Value) :
    RowsAt 2 Rg.enc (((U.setCell ⟨q, 0, none⟩ v0).setCell ⟨q, 1, none⟩ v1).setCell ⟨q, 2, none⟩ v2) A ks := by
  cases ks with
  | nil => exact ⟨by simp, fun i x hx => by simp at hx⟩
  | cons x l =>
    have hne : ∀ b o, A = some ⟨b, o, none⟩ → b ≠ q := by
      rintro b o rfl rfl
      obtain ⟨b', o', e, -, hc⟩ := h.2 0 x rfl
      obtain ⟨rfl, rfl⟩ : b = b' ∧ o = o' := by simpa using e
      have h2 := hc 1 (.int .i64 x.2) rfl
      rw [hb.cell] at h2
      rcases (show o = 0 ∨ o = 1 ∨ 2 ≤ o by omega) with rfl | rfl | h7
      · simp at h2
      · simp at h2
      · rw [Array.getElem?_eq_none (by simp; omega)] at h2; cases h2
    exact rows_setOther (rows_setOther (rows_setOther h hne _) hne _) hne _
def AftT (L : Int) (js : List Int) (ks : List Rg) (n : Nat) (u : Value) (W : World) : Prop := ∃ v, u = .tuple #[v, .int .i64 0] ∧ CopS L js ks n n v W
theorem AftT.ext {L : Int} {js : List Int} {ks : List Rg} {n : Nat} {v : Value} {W W' : World} (h : AftT L js ks n v W) (e : Ext W W') : AftT L js ks n v W' := by
  obtain ⟨v, h1, h2⟩ := h
  exact ⟨v, h1, h2.ext e⟩
theorem rev_next {l : List Sk} {j : Nat} (h : j < l.length) : ((l.drop j).reverse).flatMap Sk.enc = ((l.drop (j + 1)).reverse).flatMap Sk.enc ++ Sk.enc (l.getD j default) := by
  have hd : l.getD j default = l[j] := by simp [h]
  rw [List.drop_eq_getElem_cons h, List.reverse_cons, List.flatMap_append, hd]
  simp
def Two (x : Sk) (u : Value) (W : World) : Prop := ∃ q, u = .slice (some ⟨q, 0, none⟩) 2 2 ∧ Blk W q 68 #[.int .i64 x.j, .int .i64 x.a, .bool x.u, .int .i64 x.j, .int .i64 x.a, .bool (!x.u)]
theorem Two.ext {x : Sk} {v : Value} {W W' : World} (h : Two x v W) (e : Ext W W') : Two x v W' := by
  obtain ⟨q, h1, h2⟩ := h
  exact ⟨q, h1, h2.ext e⟩
theorem two_rows {x : Sk} {W : World} {q : Nat} (h : Blk W q 68 #[.int .i64 x.j, .int .i64 x.a, .bool x.u, .int .i64 x.j, .int .i64 x.a, .bool (!x.u)]) : RowsAt 3 Sk.enc W (some ⟨q, 0, none⟩) [x, opp x] := by
  refine ⟨by simp, fun i y hy => ?_⟩
  rcases (show i = 0 ∨ i = 1 ∨ 2 ≤ i by omega) with rfl | rfl | hi
  · obtain rfl := Option.some.inj hy
    refine ⟨_, 0, rfl, h.lt, fun j u hu => ?_⟩
    rw [h.cell]
    match j, hu with
    | 0, hu => simpa [Sk.enc] using hu
    | 1, hu => simpa [Sk.enc] using hu
    | 2, hu => simpa [Sk.enc] using hu
    | j + 3, hu => simp [Sk.enc] at hu
  · obtain rfl := Option.some.inj hy
    refine ⟨_, 0, rfl, h.lt, fun j u hu => ?_⟩
    rw [h.cell]
    match j, hu with
    | 0, hu => simpa [Sk.enc, opp] using hu
    | 1, hu => simpa [Sk.enc, opp] using hu
    | 2, hu => simpa [Sk.enc, opp] using hu
    | j + 3, hu => simp [Sk.enc] at hu
  · rw [List.getElem?_eq_none (by simp; omega)] at hy; cases hy

end Go.Proofs.Ytjdilmmpdlcimaa
