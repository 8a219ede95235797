/- FieldReciprocal, for every argument. -/
import Derived.Test.YtpaoeghdfeekoaaG13
import Derived.Test.YtpaoeghdfeekoaaG16
import Derived.Test.YtpaoeghdfeekoaaG14
namespace Go.Proofs.Ytpaoeghdfeekoaa
open Go.RowKit Go.Shelf Go.Mem Go.RegInv

theorem fieldReciprocal_any (t : Int) (A : Option Addr) (n ca : Nat) (xs : List Sh) (hn : xs.length = n) (f : Int) (B : Option Addr) (m cb : Nat) (hot : List Bool) (hm : hot.length = m) (i : Int) (w : World)
    (hA : n ≤ 6 → RowsAt 3 Sh.enc w A xs) (hB : m ≤ 6 → RowsAt 1 boolEnc w B hot) (hAn : A = none → ca = 0) (hBn : B = none → cb = 0) :
    Calls Try.prog 10 #[.agg #[.int .i64 t, .slice A n ca], .agg #[.int .i64 f, .slice B m cb], .int .i64 i] w fun e w' => e = .returned (.bool true) ∧ Ext w w' := by
  by_cases hq : driveE t xs f m = 0
  · obtain ⟨⟨ht, ⟨h1, h4⟩, hok⟩, hf, hml⟩ := (driveE_zero t xs f m).1 hq
    obtain rfl : m = n := by rw [hml, hn]
    by_cases hs : shE m i = 0
    · obtain ⟨hs0, hs1⟩ := shE_zero hs
      obtain ⟨k, rfl⟩ := Int.eq_ofNat_of_zero_le hs0
      have hd0 := ne_of_norm (volt0_ne hok hf (hot := hot) (by omega))
      by_cases hz : (volt f hot xs 0).re = 0
      · exact fieldReciprocal_main2 t A m ca xs hn f B cb hot hm k w (hA (by omega)) (hB (by omega)) hAn hBn hq (by omega) ⟨hz, by rcases hd0 with h | h; exact absurd hz h; exact h⟩
      · exact fieldReciprocal_main1 t A m ca xs hn f B cb hot hm k w (hA (by omega)) (hB (by omega)) hAn hBn hq (by omega) hz
    · exact fieldReciprocal_skip t A m ca xs hn f B m cb i w hA (fun _ => ⟨by omega, hs⟩)
  · exact fieldReciprocal_skip t A n ca xs hn f B m cb i w hA (fun h => absurd h hq)

end Go.Proofs.Ytpaoeghdfeekoaa
