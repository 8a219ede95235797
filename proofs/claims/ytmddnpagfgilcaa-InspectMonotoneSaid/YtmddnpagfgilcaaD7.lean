/- InspectMonotone for all tables. -/
import Derived.Test.YtmddnpagfgilcaaD6

namespace Go.Proofs.Ytmddnpagfgilcaa
open Go.RowKit Go.Shelf Go.Mem Go.RegInv
attribute [local go_sem] RelUpon_value RelUpon_skip RelUpon_enter BigFrame.eval_const BigFrame.eval_global BigFrame.eval_func


theorem monotone_any {A : Option Addr} {n ca : Nat} {xs : List Kn} {w : World} (a0 b0 a1 b1 kk : Int) (hlen : n ≤ maxLen) (hn : xs.length = n) (hr : n ≤ 1000 → RowsAt 3 Kn.enc w A xs) : Calls Try.prog 6 #[.agg #[.slice A n ca], .agg #[.int .i64 a0, .int .i64 b0, .int .i64 a1, .int .i64 b1], .int .i64 kk] w fun e w' => e = .returned (.bool true) ∧ Ext w w' := by
  rcases Nat.lt_or_ge 12 n with h | h
  · exact monotone_bad a0 b0 a1 b1 kk 8 (by decide) (fun W _ => refTableErr_long W h hlen)
  · have hr := hr (by omega)
    by_cases hz : (checkX xs).2 = 0
    · obtain ⟨m2, m12, -, -⟩ := checkX_ok hz
      obtain ⟨b, o, rfl, -, -⟩ := row_at hr (getK (xs := xs) (i := 0) (by omega))
      exact monotone_ok a0 b0 a1 b1 kk hn hr hz
    · exact monotone_bad a0 b0 a1 b1 kk _ hz (fun W e => refTableErr_any hn (by omega) (hr.ext e))

end Go.Proofs.Ytmddnpagfgilcaa
