/- The reference of subsets. -/
import Derived.Test.YtmddnpagfgilcaaA8
import Derived.StillTailTactics
import Derived.Lib.MinMax

namespace Go.Proofs.Ytmddnpagfgilcaa
open Go.RowKit Go.Shelf Go.Mem Go.RegInv
attribute [local go_sem] RelUpon_value RelUpon_skip RelUpon_enter BigFrame.eval_const BigFrame.eval_global BigFrame.eval_func


/-- A row of Pascal's triangle, half of it done. -/
def half (i j m : Nat) : Nat := if j < m then pas i m else pas (i - 1) m
set_option maxRecDepth 100000 in
set_option maxHeartbeats 1000000 in
theorem choose_any (n k : Nat) (hn : n ≤ 30) (w : World) :
    Calls Try.prog 110 #[.int .i64 (n : Int), .int .i64 (k : Int)] w fun e w' => e = .returned (.int .i64 (pas n k : Nat)) ∧ Ext w w' := by
  by_cases hkn : n < k
  · have hki : (n : Int) < (k : Int) := by omega
    have HP := Lib.hid (pas_big n k hkn)
    go_enter Try.func110, Try.ntmps110
    go_wp2
    go_ret
    exact ⟨ret_int (by rw [HP.out]; rfl), Ext.refl _⟩
  · have hki : ¬ (n : Int) < (k : Int) := by omega
    have hk0 : ¬ (k : Int) < 0 := by omega
    have hmk := mk_ints w ((n : Int) + 1) (n + 1) (by omega) (by omega)
    obtain ⟨W1, hW1⟩ : ∃ W1, W1 = w.alloc (.cells (Array.replicate (n + 1) (.int .i64 0)) 3) := ⟨_, rfl⟩
    rw [← hW1] at hmk
    have b1 : Blk W1 w.heap.size 3 (Array.replicate (n + 1) (.int .i64 0)) := by rw [hW1]; exact Blk.new _ _ _
    have B1 := Lib.hid b1
    have E1 := Lib.hid (show Ext w W1 by rw [hW1]; exact Ext.alloc _ _)
    have c1 : W1.cell? ⟨w.heap.size, 0, none⟩ = some (.int .i64 0) := by rw [b1.cell]; simp
    have f1 : W1.frozen? ⟨w.heap.size, 0, none⟩ = false := b1.free 0
    clear hW1 b1
    have hz : 0 < n + 1 := by omega
    go_enter Try.func110, Try.ntmps110
    go_wp2
    obtain ⟨W2, hW2⟩ : ∃ W2, W2 = W1.setCell ⟨w.heap.size, 0, none⟩ (.int .i64 1) := ⟨_, rfl⟩
    rw [← hW2]
    have B2 := Lib.hid (show Blk W2 w.heap.size 3 ((Array.replicate (n + 1) (.int .i64 0)).setIfInBounds 0 (.int .i64 1)) by rw [hW2]; exact B1.out.setSame _ _)
    have R2 := Lib.hid (show RowF ((Array.replicate (n + 1) (.int .i64 0)).setIfInBounds 0 (.int .i64 1)) (n + 1) (pas 0) by
      intro k hk
      rw [Array.getElem?_setIfInBounds]
      cases k with
      | zero => simp [pas]
      | succ k => rw [if_neg (by omega), Array.getElem?_eq_getElem (by simp; omega)]; simp [pas])
    have E2 := Lib.hid (show Ext w W2 by rw [hW2]; exact E1.out.set (Nat.le_refl _) _)
    have Z2 := Lib.hid (show ((Array.replicate (n + 1) (Value.int .i64 0)).setIfInBounds 0 (.int .i64 1)).size = n + 1 by simp)
    clear hW2 hmk c1 f1 B1 E1
    generalize hcs0 : (Array.replicate (n + 1) (Value.int .i64 0)).setIfInBounds 0 (.int .i64 1) = cs0 at *
    clear hcs0
    go_loopw [6] (fun v wr => ∃ (i : Nat) (cs : Array Value), i ≤ n ∧ v = .int .i64 ((i : Int) + 1) ∧ cs.size = n + 1 ∧ Blk wr w.heap.size 3 cs ∧ RowF cs (n + 1) (pas i) ∧ Ext w wr) (fun v _ => n + 1 - (intOf v).toNat)
    case atStart => exact ⟨0, _, Nat.zero_le _, rfl, Z2.out, B2.out, R2.out, E2.out⟩
    case round =>
      obtain ⟨i, cs, hi, rfl, hs, hb, hr, hx⟩ := hrel
      obtain ⟨wo, hwo⟩ : ∃ x, x = wr := ⟨_, rfl⟩
      subst hwo
      have B := Lib.hid hb
      have R := Lib.hid hr
      have X := Lib.hid hx
      have SZ := Lib.hid hs
      clear hb hr hx hs B2 R2 E2 Z2
      by_cases hlt : i < n
      · have hin : (i : Int) + 1 ≤ (n : Int) := by omega
        go_wp2
        go_loopw [7] (fun v wr => ∃ (j : Nat) (cu : Array Value), j ≤ i + 1 ∧ v = .int .i64 (j : Int) ∧ cu.size = n + 1 ∧ Blk wr w.heap.size 3 cu ∧ RowF cu (n + 1) (half (i + 1) j) ∧ Ext w wr) (fun v _ => (intOf v).toNat)
        case atStart => exact ⟨i + 1, cs, Nat.le_refl _, by go_num, SZ.out, B.out, fun m hm => by
            rw [R.out m hm]
            unfold half
            split
            · rename_i h; rw [pas_big i m (by omega), pas_big (i + 1) m (by omega)]
            · rfl, X.out⟩
        case round =>
          obtain ⟨j, cu, hj, rfl, hcs, hb, hr, hx⟩ := hrel
          have BU := Lib.hid hb
          have RU := Lib.hid hr
          have XU := Lib.hid hx
          clear hb hr hx B R X
          rcases Nat.eq_zero_or_pos j with h0 | h0
          · subst h0
            go_wp2
            go_roundw
            case rel => exact ⟨i + 1, cu, by omega, by go_num, hcs, BU.out, fun m hm => by
                rw [RU.out m hm]
                unfold half
                split
                · rfl
                · rename_i h
                  obtain rfl : m = 0 := by omega
                  rw [pas_zero, pas_zero], XU.out⟩
            case measure => simp [intOf]; omega
          · obtain ⟨j, rfl⟩ : ∃ d, j = d + 1 := ⟨j - 1, by omega⟩
            have v1 := RU.out (j + 1) (by omega)
            have v2 := RU.out j (by omega)
            rw [show half (i + 1) (j + 1) (j + 1) = pas i (j + 1) from if_neg (by omega), ← BU.out.cell] at v1
            rw [show half (i + 1) (j + 1) j = pas i j from if_neg (by omega), ← BU.out.cell] at v2
            have V3 := Lib.hid (show ((pas i (j + 1) : Nat) : Int) + ((pas i j : Nat) : Int) = ((pas (i + 1) (j + 1) : Nat) : Int) by rw [pas_succ]; omega)
            have m1 := pas_le30 (j + 1) (show i ≤ 30 by omega)
            have m2 := pas_le30 j (show i ≤ 30 by omega)
            obtain ⟨u0, hu0⟩ : ∃ u, wr.cell? ⟨w.heap.size, j + 1, none⟩ = some u := ⟨_, v1⟩
            have hf0 : wr.frozen? ⟨w.heap.size, j + 1, none⟩ = false := BU.out.free (j + 1)
            generalize pas i (j + 1) = p at *
            generalize pas i j = q at *
            have hjn : j < n := by omega
            go_wp2
            refine wp_region_part 13 [some 30, some 31, some 32, some 33, some 34, some 35, some 36, some 37, some 38, some 39, some 40, some 41, some 42] [[5], [7], [5], [7], [32, 33], [34], [5], [7], [37], [36, 38], [39], [35, 40], [30, 31]]
              [Is (.slice (some ⟨w.heap.size, 0, none⟩) (n + 1) (n + 1)), Is (.int .i64 ((j : Int) + 1)), Is (.slice (some ⟨w.heap.size, 0, none⟩) (n + 1) (n + 1)), Is (.int .i64 ((j : Int) + 1)), Is (.pointer (some ⟨w.heap.size, j + 1, none⟩)), Is (.int .i64 ((p : Int))), Is (.slice (some ⟨w.heap.size, 0, none⟩) (n + 1) (n + 1)), Is (.int .i64 ((j : Int) + 1)), Is (.int .i64 ((j : Int))), Is (.pointer (some ⟨w.heap.size, j, none⟩)), Is (.int .i64 ((q : Int))), Is (.int .i64 ((p : Int) + (q : Int))), Is (.pointer (some ⟨w.heap.size, j + 1, none⟩))]
              (by kernel_rfl) (by kernel_rfl) (by kernel_rfl) (by kernel_rfl) (by kernel_rfl) (by kernel_rfl) (by kernel_rfl) Ext (fun W => Ext wr W)
              (fun W _ => Ext.refl W) (fun W W' h k => h.trans k) ?_ (Ext.drew _) ?_ ?_
            · repeat (refine ⟨fun _ _ _ _ k h => (by first | exact h | exact (IntsAt.ext h k)), ?_⟩)
              exact trivial
            · refine ⟨?_, ?_, ?_, ?_, ?_, ?_, ?_, ?_, ?_, ?_, ?_, ?_, ?_, trivial⟩
              all_goals intro ρ W ⟨kc, kg, kf⟩ hF hs
              · obtain ⟨h0, -⟩ := hs
                replace h0 : ρ (.tmp 5) = .slice (some ⟨w.heap.size, 0, none⟩) (n + 1) (n + 1) := h0
                go_simp
                exact ⟨Ext.refl _, rfl⟩
              · obtain ⟨h0, -⟩ := hs
                replace h0 : ρ (.tmp 7) = .int .i64 ((j : Int) + 1) := h0
                go_simp
                exact ⟨Ext.refl _, rfl⟩
              · obtain ⟨h0, -⟩ := hs
                replace h0 : ρ (.tmp 5) = .slice (some ⟨w.heap.size, 0, none⟩) (n + 1) (n + 1) := h0
                go_simp
                exact ⟨Ext.refl _, rfl⟩
              · obtain ⟨h0, -⟩ := hs
                replace h0 : ρ (.tmp 7) = .int .i64 ((j : Int) + 1) := h0
                go_simp
                exact ⟨Ext.refl _, rfl⟩
              · obtain ⟨h0, h1, -⟩ := hs
                replace h0 : ρ (.tmp 32) = .slice (some ⟨w.heap.size, 0, none⟩) (n + 1) (n + 1) := h0
                replace h1 : ρ (.tmp 33) = .int .i64 ((j : Int) + 1) := h1
                have hb1 : (j : Int) + 1 < (n : Int) + 1 := by omega
                have hb2 : (0 : Int) ≤ (j : Int) + 1 := by omega
                have hb3 : j < n := by omega
                have hb4 : ((j : Int) + 1).toNat = j + 1 := by omega
                go_simp
                exact ⟨Ext.refl _, rfl⟩
              · obtain ⟨h0, -⟩ := hs
                replace h0 : ρ (.tmp 34) = .pointer (some ⟨w.heap.size, j + 1, none⟩) := h0
                have hc0 : W.cell? ⟨w.heap.size, j + 1, none⟩ = some (.int .i64 ((p : Int))) := hF.cell (by assumption)
                go_simp
                exact ⟨Ext.refl _, rfl⟩
              · obtain ⟨h0, -⟩ := hs
                replace h0 : ρ (.tmp 5) = .slice (some ⟨w.heap.size, 0, none⟩) (n + 1) (n + 1) := h0
                go_simp
                exact ⟨Ext.refl _, rfl⟩
              · obtain ⟨h0, -⟩ := hs
                replace h0 : ρ (.tmp 7) = .int .i64 ((j : Int) + 1) := h0
                go_simp
                exact ⟨Ext.refl _, rfl⟩
              · obtain ⟨h0, -⟩ := hs
                replace h0 : ρ (.tmp 37) = .int .i64 ((j : Int) + 1) := h0
                have hw : IntKind.i64.wrap ((j : Int)) = (j : Int) := wrap_id _ (by omega) (by omega)
                go_simp
                exact ⟨Ext.refl _, rfl⟩
              · obtain ⟨h0, h1, -⟩ := hs
                replace h0 : ρ (.tmp 36) = .slice (some ⟨w.heap.size, 0, none⟩) (n + 1) (n + 1) := h0
                replace h1 : ρ (.tmp 38) = .int .i64 ((j : Int)) := h1
                have hb1 : (j : Int) < (n : Int) + 1 := by omega
                go_simp
                exact ⟨Ext.refl _, rfl⟩
              · obtain ⟨h0, -⟩ := hs
                replace h0 : ρ (.tmp 39) = .pointer (some ⟨w.heap.size, j, none⟩) := h0
                have hc0 : W.cell? ⟨w.heap.size, j, none⟩ = some (.int .i64 ((q : Int))) := hF.cell (by assumption)
                go_simp
                exact ⟨Ext.refl _, rfl⟩
              · obtain ⟨h0, h1, -⟩ := hs
                replace h0 : ρ (.tmp 35) = .int .i64 ((p : Int)) := h0
                replace h1 : ρ (.tmp 40) = .int .i64 ((q : Int)) := h1
                have hw : IntKind.i64.wrap ((p : Int) + (q : Int)) = (p : Int) + (q : Int) := wrap_id _ (by omega) (by omega)
                go_simp
                exact ⟨Ext.refl _, rfl⟩
              · obtain ⟨h0, h1, -⟩ := hs
                replace h0 : ρ (.tmp 30) = .slice (some ⟨w.heap.size, 0, none⟩) (n + 1) (n + 1) := h0
                replace h1 : ρ (.tmp 31) = .int .i64 ((j : Int) + 1) := h1
                have hb1 : (j : Int) + 1 < (n : Int) + 1 := by omega
                have hb2 : (0 : Int) ≤ (j : Int) + 1 := by omega
                have hb3 : j < n := by omega
                have hb4 : ((j : Int) + 1).toNat = j + 1 := by omega
                go_simp
                exact ⟨Ext.refl _, rfl⟩
            · intro fv W hF hs
              obtain ⟨-, -, -, -, -, -, -, -, -, -, -, h41, h42, -⟩ := hs
              replace h41 : fv 41 = .int .i64 ((p : Int) + (q : Int)) := h41
              replace h42 : fv 42 = .pointer (some ⟨w.heap.size, j + 1, none⟩) := h42
              simp only [fin, List.filterMap]
              go_simp
              have hu1 := hF.cell hu0
              have hf1 := hF.free (p := ⟨w.heap.size, j + 1, none⟩) BU.out.lt hf0
              have BW := Lib.hid (BU.out.ext hF)
              have XW := Lib.hid (XU.out.trans hF)
              clear hF hu0 hf0 v1 v2 BU XU
              go_wp2
              go_roundw
              case rel => exact ⟨j, _, by omega, by go_num, by simpa using hcs, BW.out.setSame _ _, fun m hm => by
                  rw [Array.getElem?_setIfInBounds]
                  split
                  · rename_i h
                    rw [if_pos (by omega), ← h, show half (i + 1) j (j + 1) = pas (i + 1) (j + 1) from if_pos (by omega), ← V3.out]
                  · rename_i h
                    rw [RU.out m hm]
                    unfold half
                    by_cases h1 : j + 1 < m
                    · rw [if_pos h1, if_pos (by omega)]
                    · rw [if_neg h1, if_neg (by omega)], XW.out.set (by dsimp only; omega) _⟩
              case measure => simp [intOf]
      · obtain rfl : i = n := by omega
        have cN := R.out k (by omega)
        rw [← B.out.cell] at cN
        have hN := Lib.hid (show k < i + 1 by omega)
        have hki2 : (k : Int) < (i : Int) + 1 := by omega
        go_wp2
        go_ret
        exact ⟨rfl, X.out⟩

end Go.Proofs.Ytmddnpagfgilcaa
