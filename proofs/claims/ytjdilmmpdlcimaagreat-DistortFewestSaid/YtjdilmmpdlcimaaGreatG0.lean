/- Copies that a law makes. -/
import Derived.Test.YtjdilmmpdlcimaaGreatEA
import Derived.Test.YtjdilmmpdlcimaaGreatC15
import Derived.Test.YtjdilmmpdlcimaaGreatFB
import Derived.Lib.MinMax

namespace Go.Proofs.YtjdilmmpdlcimaaGreat
open Go.RowKit Go.Shelf Go.Mem Go.RegInv
attribute [local go_sem] RelUpon_value RelUpon_skip RelUpon_enter BigFrame.eval_const BigFrame.eval_global BigFrame.eval_func


theorem few2_false {n m : Nat} (h : ¬ (n ≤ 6 ∧ m ≤ 6)) : few2 n m = false := by
  unfold few2
  rcases (show 6 < n ∨ 6 < m by omega) with h1 | h1
  · simp [show ¬ n ≤ 6 by omega]
  · simp [show ¬ m ≤ 6 by omega]
def CopS (L : Int) (js : List Int) (ks : List Rg) (n m : Nat) (v : Value) (W : World) : Prop := ∃ J cj K ck, v = .agg #[.int .i64 L, .slice J n cj, .slice K m ck] ∧ RowsAt 1 I1 W J js ∧ RowsAt 2 Rg.enc W K ks ∧ (J = none → cj = 0) ∧ (K = none → ck = 0)
theorem CopS.ext {L : Int} {js : List Int} {ks : List Rg} {n m : Nat} {v : Value} {W W' : World} (h : CopS L js ks n m v W) (e : Ext W W') : CopS L js ks n m v W' := by
  obtain ⟨J, cj, K, ck, h1, h2, h3, h4⟩ := h
  exact ⟨J, cj, K, ck, h1, h2.ext e, h3.ext e, h4⟩
theorem CopS.of {base : Nat} {L : Int} {js : List Int} {ks : List Rg} {n m : Nat} {v : Value} {W : World} (h : ShC base L js ks n m v W) : CopS L js ks n m v W := by
  obtain ⟨J, cj, K, ck, h1, h2, h3, h4, h5, -⟩ := h
  exact ⟨J, cj, K, ck, h1, h2, h3, h4, h5⟩
def CopP (am : List Int) (sp ga li : Int) (np : Nat) (v : Value) (W : World) : Prop := ∃ P cp, v = .agg #[.slice P np cp, .int .i64 sp, .int .i64 ga, .int .i64 li] ∧ RowsAt 1 I1 W P am ∧ (P = none → cp = 0)
theorem CopP.ext {am : List Int} {sp ga li : Int} {np : Nat} {v : Value} {W W' : World} (h : CopP am sp ga li np v W) (e : Ext W W') : CopP am sp ga li np v W' := by
  obtain ⟨P, cp, h1, h2, h3⟩ := h
  exact ⟨P, cp, h1, h2.ext e, h3⟩
theorem CopP.of {base : Nat} {am : List Int} {sp ga li : Int} {np : Nat} {v : Value} {W : World} (h : PrC base am sp ga li np v W) : CopP am sp ga li np v W := by
  obtain ⟨P, cp, h1, h2, h3, -⟩ := h
  exact ⟨P, cp, h1, h2, h3⟩
def CopL (l : List Sk) (N : Nat) (v : Value) (W : World) : Prop := ∃ A ca, v = .slice A N ca ∧ RowsAt 3 Sk.enc W A l ∧ (A = none → ca = 0)
theorem CopL.ext {l : List Sk} {N : Nat} {v : Value} {W W' : World} (h : CopL l N v W) (e : Ext W W') : CopL l N v W' := by
  obtain ⟨A, ca, h1, h2, h3⟩ := h
  exact ⟨A, ca, h1, h2.ext e, h3⟩
def CopX (l : List Sk) (t : Int) (N : Nat) (v : Value) (W : World) : Prop := ∃ A ca, v = .agg #[.slice A N ca, .int .i64 t] ∧ RowsAt 3 Sk.enc W A l ∧ (A = none → ca = 0)
theorem CopX.ext {l : List Sk} {t : Int} {N : Nat} {v : Value} {W W' : World} (h : CopX l t N v W) (e : Ext W W') : CopX l t N v W' := by
  obtain ⟨A, ca, h1, h2, h3⟩ := h
  exact ⟨A, ca, h1, h2.ext e, h3⟩

end Go.Proofs.YtjdilmmpdlcimaaGreat
