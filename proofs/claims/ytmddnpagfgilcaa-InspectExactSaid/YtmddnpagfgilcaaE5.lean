/- Equal rows of fractions. -/
import Derived.Test.YtmddnpagfgilcaaE4
import Derived.Lib.MinMax

namespace Go.Proofs.Ytmddnpagfgilcaa
open Go.RowKit Go.Shelf Go.Mem Go.RegInv
attribute [local go_sem] RelUpon_value RelUpon_skip RelUpon_enter BigFrame.eval_const BigFrame.eval_global BigFrame.eval_func


set_option maxRecDepth 100000 in
set_option maxHeartbeats 1000000 in
theorem fracs_any {A B : Option Addr} {n ca cb : Nat} {xs : List (Int × Int)} {w : World} (hn : xs.length = n) (hA : RowsAt 2 frEnc w A xs) (hB : RowsAt 2 frEnc w B xs) :
    Calls Try.prog 65 #[.slice A n ca, .slice B n cb] w fun e w' => e = .returned (.bool true) ∧ Ext w w' := by
  have hl := hA.1
  rw [hn] at hl
  have HA := Lib.hid hA
  have HB := Lib.hid hB
  have HN := Lib.hid hn
  clear hA hB hn
  go_enter Try.func65, Try.ntmps65
  go_wp2
  go_loopw [5] (fun i wr => ∃ k : Nat, k ≤ n ∧ i = .int .i64 k ∧ Ext w wr) (fun i _ => n - (intOf i).toNat)
  case atStart => exact ⟨0, Nat.zero_le _, rfl, Ext.refl _⟩
  case round =>
    obtain ⟨k, hk, rfl, hx⟩ := hrel
    have X := Lib.hid hx
    clear hx
    by_cases hlt : k < n
    · obtain ⟨z, hz⟩ : ∃ z, xs[k]? = some z := ⟨_, List.getElem?_eq_getElem (by rw [HN.out]; exact hlt)⟩
      obtain ⟨b, o, rfl, hb, hc⟩ := row_at (HA.out.ext X.out) hz
      obtain ⟨b2, o2, rfl, hb2, hc2⟩ := row_at (HB.out.ext X.out) hz
      have p0 := hc 0 _ rfl
      have p1 := hc 1 _ rfl
      have q0 := hc2 0 _ rfl
      have q1 := hc2 1 _ rfl
      simp only [Nat.add_zero] at p0 q0
      clear hc hc2 hz
      have hki : (k : Int) < (n : Int) := by omega
      go_wp2
      refine wp_region_each [some 17, some 18, some 19, some 20, some 21, some 22, some 23, some 24, some 25] [[0], [5], [17, 18], [19], [1], [5], [21, 22], [23], [20, 24]]
        [Is (.slice (some ⟨b, o, none⟩) n ca), Is (.int .i64 ((k : Int))), Is (.pointer (some ⟨b, o + k * 2, none⟩)), Is (.agg #[.int .i64 (z.1), .int .i64 (z.2)]), Is (.slice (some ⟨b2, o2, none⟩) n cb), Is (.int .i64 ((k : Int))), Is (.pointer (some ⟨b2, o2 + k * 2, none⟩)), Is (.agg #[.int .i64 (z.1), .int .i64 (z.2)]), Is (.bool (false))]
        (by kernel_rfl) (by kernel_rfl) (by kernel_rfl) (by kernel_rfl) (by kernel_rfl) Ext (fun W => Ext wr W)
        (fun W _ => Ext.refl W) (fun W W' h k => h.trans k) ?_ (Ext.drew _) ?_ ?_
      · repeat (refine ⟨fun _ _ _ _ k h => (by first | exact h | exact (IntsAt.ext h k)), ?_⟩)
        exact trivial
      · refine ⟨?_, ?_, ?_, ?_, ?_, ?_, ?_, ?_, ?_, trivial⟩
        all_goals intro ρ W ⟨kc, kg, kf⟩ hF hs
        · obtain ⟨h0, -⟩ := hs
          replace h0 : ρ (.tmp 0) = .slice (some ⟨b, o, none⟩) n ca := h0
          go_simp
          exact ⟨Ext.refl _, rfl⟩
        · obtain ⟨h0, -⟩ := hs
          replace h0 : ρ (.tmp 5) = .int .i64 ((k : Int)) := h0
          go_simp
          exact ⟨Ext.refl _, rfl⟩
        · obtain ⟨h0, h1, -⟩ := hs
          replace h0 : ρ (.tmp 17) = .slice (some ⟨b, o, none⟩) n ca := h0
          replace h1 : ρ (.tmp 18) = .int .i64 ((k : Int)) := h1
          have hb1 : (k : Int) < (n : Int) := by omega
          have hb2 : k < n := by omega
          go_simp
          exact ⟨Ext.refl _, rfl⟩
        · obtain ⟨h0, -⟩ := hs
          replace h0 : ρ (.tmp 19) = .pointer (some ⟨b, o + k * 2, none⟩) := h0
          have hc0 : W.cell? ⟨b, o + k * 2, none⟩ = some (.int .i64 (z.1)) := hF.cell (by assumption)
          have hc1 : W.cell? ⟨b, o + k * 2 + 1, none⟩ = some (.int .i64 (z.2)) := hF.cell (by assumption)
          go_simp
          exact ⟨Ext.refl _, rfl⟩
        · obtain ⟨h0, -⟩ := hs
          replace h0 : ρ (.tmp 1) = .slice (some ⟨b2, o2, none⟩) n cb := h0
          go_simp
          exact ⟨Ext.refl _, rfl⟩
        · obtain ⟨h0, -⟩ := hs
          replace h0 : ρ (.tmp 5) = .int .i64 ((k : Int)) := h0
          go_simp
          exact ⟨Ext.refl _, rfl⟩
        · obtain ⟨h0, h1, -⟩ := hs
          replace h0 : ρ (.tmp 21) = .slice (some ⟨b2, o2, none⟩) n cb := h0
          replace h1 : ρ (.tmp 22) = .int .i64 ((k : Int)) := h1
          have hb1 : (k : Int) < (n : Int) := by omega
          have hb2 : k < n := by omega
          go_simp
          exact ⟨Ext.refl _, rfl⟩
        · obtain ⟨h0, -⟩ := hs
          replace h0 : ρ (.tmp 23) = .pointer (some ⟨b2, o2 + k * 2, none⟩) := h0
          have hc0 : W.cell? ⟨b2, o2 + k * 2, none⟩ = some (.int .i64 (z.1)) := hF.cell (by assumption)
          have hc1 : W.cell? ⟨b2, o2 + k * 2 + 1, none⟩ = some (.int .i64 (z.2)) := hF.cell (by assumption)
          go_simp
          exact ⟨Ext.refl _, rfl⟩
        · obtain ⟨h0, h1, -⟩ := hs
          replace h0 : ρ (.tmp 20) = .agg #[.int .i64 (z.1), .int .i64 (z.2)] := h0
          replace h1 : ρ (.tmp 24) = .agg #[.int .i64 (z.1), .int .i64 (z.2)] := h1
          go_simp
          exact ⟨Ext.refl _, rfl⟩
      · intro fv W hF hs
        obtain ⟨-, -, -, -, -, -, -, -, h25, -⟩ := hs
        replace h25 : fv 25 = .bool (false) := h25
        simp only [fin, List.filterMap]
        go_simp
        have X2 := Lib.hid (X.out.trans hF)
        clear hF p0 p1 q0 q1
        go_wp2
        go_roundw
        case rel => exact ⟨k + 1, by omega, by go_num, X2.out⟩
        case measure => simp [intOf]; omega
    · have hki : ¬ (k : Int) < (n : Int) := by omega
      go_wp2
      go_ret
      exact ⟨rfl, X.out⟩

end Go.Proofs.Ytmddnpagfgilcaa
