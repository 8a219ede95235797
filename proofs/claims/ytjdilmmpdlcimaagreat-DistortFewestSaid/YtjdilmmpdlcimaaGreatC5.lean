/- The error of strokes. -/
import Derived.Test.YtjdilmmpdlcimaaGreatC4
import Derived.Test.YtjdilmmpdlcimaaGreatP0
import Derived.Lib.MinMax
import Derived.Deep.DeepCutAuto

namespace Go.Proofs.YtjdilmmpdlcimaaGreat
open Go.RowKit Go.Shelf Go.Mem Go.RegInv
attribute [local go_sem] RelUpon_value RelUpon_skip RelUpon_enter BigFrame.eval_const BigFrame.eval_global BigFrame.eval_func
def strokeE (n : Nat) (am : List Int) (x : Sk) : Int := firstE [errIf (decide (x.j < 0) || decide ((n : Int) ≤ x.j)) 6, errIf (!hasB am x.a) 6]
def strokeAt (n : Nat) (am : List Int) (xs : List Sk) (i : Nat) : Int := strokeE n am (xs.getD i default)
def strokesE (n : Nat) (am : List Int) (li : Int) (xs : List Sk) : Int := if 4 < xs.length then 8 else if (firstAt (strokeAt n am xs) xs.length 0).2 ≠ 0 then (firstAt (strokeAt n am xs) xs.length 0).2 else errIf (fullB li xs n) 16
theorem strokeE_ok {n : Nat} {am : List Int} {x : Sk} (h : strokeE n am x = 0) : 0 ≤ x.j ∧ x.j < n ∧ hasB am x.a = true := by
  have h1 := firstE_zero h
  have a := errIf_zero (by decide) (h1 (errIf (decide (x.j < 0) || decide ((n : Int) ≤ x.j)) 6) (by simp))
  have b := errIf_zero (by decide) (h1 (errIf (!hasB am x.a) 6) (by simp))
  simp at a b
  exact ⟨by omega, by omega, b⟩

end Go.Proofs.YtjdilmmpdlcimaaGreat
