/- Voltages of a ladder, as numbers. -/
import Derived.Test.YtpaoeghdfeekoaaA4
namespace Go.Proofs.Ytpaoeghdfeekoaa
open Go.RowKit Go.Mem

structure G where
  re : Int
  im : Int
def G.enc (z : G) : List Value := [.int .i64 z.re, .int .i64 z.im]
def plusG (z : G) (n : Int) (o : G) : G := ⟨z.re + n * o.re, z.im + n * o.im⟩
def befG (z : G) (n : Int) (o : G) : G := ⟨z.re + n * -o.im, z.im + n * o.re⟩

def shOK (s : Sh) : Prop := (1 ≤ s.g ∧ s.g ≤ 4) ∧ (1 ≤ s.c ∧ s.c ≤ 4) ∧ (1 ≤ s.h ∧ s.h ≤ 4) ∧ s.h ≤ s.c

/-- The voltage in front, the current there, and the voltages so far. -/
structure VS where
  last : G
  cur : G
  out : List G
def vs0 : VS := ⟨⟨1, 0⟩, ⟨0, 0⟩, [⟨1, 0⟩]⟩
def vstep (f : Int) (hot : List Bool) (v : VS) (x : Nat × Sh) : VS :=
  let cur := plusG v.cur x.2.g v.last
  let last := befG v.last (react f (hot.getD x.1 false) x.2) cur
  ⟨last, cur, v.out ++ [last]⟩
def vfold (f : Int) (hot : List Bool) (l : List (Nat × Sh)) : VS := l.foldl (vstep f hot) vs0
theorem vfold_snoc (f : Int) (hot : List Bool) (l : List (Nat × Sh)) (x : Nat × Sh) : vfold f hot (l ++ [x]) = vstep f hot (vfold f hot l) x := by simp [vfold]

def Bd (b : Int) (z : G) : Prop := (-b ≤ z.re ∧ z.re ≤ b) ∧ (-b ≤ z.im ∧ z.im ≤ b)
theorem mul_bd {n x N B : Int} (hn : 0 ≤ n) (hN : n ≤ N) (h1 : -B ≤ x) (h2 : x ≤ B) : -(N * B) ≤ n * x ∧ n * x ≤ N * B := by
  have hB : 0 ≤ B := by omega
  have h3 : n * x ≤ n * B := Int.mul_le_mul_of_nonneg_left h2 hn
  have h4 : n * B ≤ N * B := Int.mul_le_mul_of_nonneg_right hN hB
  have h5 : n * -B ≤ n * x := Int.mul_le_mul_of_nonneg_left h1 hn
  have h6 : n * -B = -(n * B) := Int.mul_neg _ _
  omega

theorem react_bd {f : Int} {h : Bool} {s : Sh} (hf : 1 ≤ f ∧ f ≤ 8) (hs : shOK s) : 1 ≤ react f h s ∧ react f h s ≤ 32 := by
  obtain ⟨_, hc, hh, _⟩ := hs
  unfold react
  have aux : ∀ x : Int, 1 ≤ x → x ≤ 4 → 1 ≤ f * x ∧ f * x ≤ 32 := fun x h1 h2 => by
    have h3 : f * x ≤ f * 4 := Int.mul_le_mul_of_nonneg_left h2 (by omega)
    have h4 : f * 1 ≤ f * x := Int.mul_le_mul_of_nonneg_left h1 (by omega)
    omega
  cases h
  · exact aux _ hc.1 hc.2
  · exact aux _ hh.1 hh.2

def bv : Nat → Int × Int
  | 0 => (1, 0)
  | n + 1 => ((bv n).1 + 32 * ((bv n).2 + 4 * (bv n).1), (bv n).2 + 4 * (bv n).1)
theorem bv_mono (n : Nat) : (bv n).1 ≤ (bv (n + 1)).1 ∧ (bv n).2 ≤ (bv (n + 1)).2 ∧ 0 ≤ (bv n).1 ∧ 0 ≤ (bv n).2 := by
  induction n with
  | zero => decide
  | succ n ih => simp only [bv] at ih ⊢; omega

theorem plus_bd {z o : G} {n A B N : Int} (hz : Bd A z) (ho : Bd B o) (h0 : 0 ≤ n) (hN : n ≤ N) : Bd (A + N * B) (plusG z n o) := by
  obtain ⟨⟨a, b⟩, ⟨c, d⟩⟩ := hz
  obtain ⟨⟨e, g⟩, ⟨h, i⟩⟩ := ho
  have h1 := mul_bd h0 hN e g
  have h2 := mul_bd h0 hN h i
  simp only [Bd, plusG]
  omega
theorem bef_bd {z o : G} {n A B N : Int} (hz : Bd A z) (ho : Bd B o) (h0 : 0 ≤ n) (hN : n ≤ N) : Bd (A + N * B) (befG z n o) := by
  obtain ⟨⟨a, b⟩, ⟨c, d⟩⟩ := hz
  obtain ⟨⟨e, g⟩, ⟨h, i⟩⟩ := ho
  have h1 := mul_bd h0 hN e g
  have h2 := mul_bd (x := -o.im) (B := B) h0 hN (by omega) (by omega)
  simp only [Bd, befG]
  omega

theorem snoc_ind {α : Type} {p : List α → Prop} (h0 : p []) (h1 : ∀ l x, p l → p (l ++ [x])) (l : List α) : p l := by
  have h : ∀ m : List α, p m.reverse := by
    intro m
    induction m with
    | nil => exact h0
    | cons x m ih => rw [List.reverse_cons]; exact h1 _ _ ih
  have := h l.reverse
  rwa [List.reverse_reverse] at this

theorem vfold_len (f : Int) (hot : List Bool) : ∀ l : List (Nat × Sh), (vfold f hot l).out.length = l.length + 1 := by
  refine snoc_ind rfl ?_
  intro l x ih
  rw [vfold_snoc]
  simp [vstep, ih]

theorem vfold_bd {f : Int} {hot : List Bool} (hf : 1 ≤ f ∧ f ≤ 8) : ∀ (l : List (Nat × Sh)), (∀ x ∈ l, shOK x.2) → Bd (bv l.length).1 (vfold f hot l).last ∧ Bd (bv l.length).2 (vfold f hot l).cur := by
  refine snoc_ind ?_ ?_
  · intro _; simp [vfold, vs0, Bd, bv]
  · intro l x ih h
    obtain ⟨h1, h2⟩ := ih (fun y hy => h y (by simp [hy]))
    have hx := h x (by simp)
    have hg := hx.1
    have hr := react_bd (h := hot.getD x.1 false) hf hx
    rw [vfold_snoc, List.length_append, List.length_singleton]
    have hc := plus_bd (n := x.2.g) h2 h1 (by omega) hg.2
    exact ⟨bef_bd (n := react f (hot.getD x.1 false) x.2) h1 hc (by omega) hr.2, hc⟩

end Go.Proofs.Ytpaoeghdfeekoaa
