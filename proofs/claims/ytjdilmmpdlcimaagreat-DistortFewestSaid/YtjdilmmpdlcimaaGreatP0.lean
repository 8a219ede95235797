/- Values that are new blocks. -/
import Derived.Test.YtjdilmmpdlcimaaGreatR8
import Derived.Test.YtjdilmmpdlcimaaGreatR5
import Derived.Test.YtjdilmmpdlcimaaGreatR6
import Derived.Test.YtjdilmmpdlcimaaGreatA5

namespace Go.Proofs.YtjdilmmpdlcimaaGreat
open Go.RowKit Go.Shelf Go.Mem Go.RegInv
attribute [local go_sem] RelUpon_value RelUpon_skip RelUpon_enter BigFrame.eval_const BigFrame.eval_global BigFrame.eval_func


def NewP (base : Nat) (T : TypeId) (cs : Array Value) : Value → World → Prop := fun v W => ∃ q, v = .pointer (some ⟨q, 0, none⟩) ∧ base ≤ q ∧ Blk W q T cs
theorem NewP.ext {base : Nat} {T : TypeId} {cs : Array Value} {v : Value} {W W' : World} (h : NewP base T cs v W) (k : Ext W W') : NewP base T cs v W' := by
  obtain ⟨q, h1, h2, h3⟩ := h; exact ⟨q, h1, h2, h3.ext k⟩

end Go.Proofs.YtjdilmmpdlcimaaGreat
