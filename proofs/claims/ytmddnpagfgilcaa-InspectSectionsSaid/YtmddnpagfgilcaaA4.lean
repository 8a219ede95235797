/- Studies: the reference of ways. -/
import Derived.Test.YtmddnpagfgilcaaA3
import Derived.StillTailTactics
import Derived.Lib.MinMax

namespace Go.Proofs.Ytmddnpagfgilcaa
open Go.RowKit Go.Shelf Go.Mem Go.RegInv
attribute [local go_sem] RelUpon_value RelUpon_skip RelUpon_enter BigFrame.eval_const BigFrame.eval_global BigFrame.eval_func


def RowF (cs : Array Value) (n : Nat) (F : Nat → Nat) : Prop := ∀ k, k < n → cs[k]? = some (.int .i64 (F k : Nat))

theorem rowF_set {cu : Array Value} {j : Nat} {F : Nat → Nat} (h : RowF cu j F) (hs : j < cu.size) : RowF (cu.setIfInBounds j (.int .i64 (F j : Nat))) (j + 1) F := by
  intro k hk
  rw [Array.getElem?_setIfInBounds]
  split
  · rename_i e; rw [e]
  · exact h k (by omega)
set_option maxRecDepth 100000 in
set_option maxHeartbeats 1000000 in
theorem refWays_any (T h t : Nat) (hT : T ≤ 15) (hh : h ≤ T) (ht : t ≤ 10) (w : World) :
    Calls Try.prog 56 #[.int .i64 T, .int .i64 h, .int .i64 t] w fun e w' => e = .returned (.int .i64 (fw t T h : Nat)) ∧ Ext w w' := by
  have hmk := mk_ints w ((h : Int) + 1) (h + 1) (by omega) (by omega)
  obtain ⟨W1, hW1⟩ : ∃ W1, W1 = w.alloc (.cells (Array.replicate (h + 1) (.int .i64 0)) 3) := ⟨_, rfl⟩
  rw [← hW1] at hmk
  have b1 : Blk W1 w.heap.size 3 (Array.replicate (h + 1) (.int .i64 0)) := by rw [hW1]; exact Blk.new _ _ _
  have B1 := Lib.hid b1
  have E1 := Lib.hid (show Ext w W1 by rw [hW1]; exact Ext.alloc _ _)
  have c1 : W1.cell? ⟨w.heap.size, 0, none⟩ = some (.int .i64 0) := by rw [b1.cell]; simp
  have f1 : W1.frozen? ⟨w.heap.size, 0, none⟩ = false := b1.free 0
  clear hW1 b1
  have hz : 0 < h + 1 := by omega
  go_enter Try.func56, Try.ntmps56
  go_wp2
  obtain ⟨W2, hW2⟩ : ∃ W2, W2 = W1.setCell ⟨w.heap.size, 0, none⟩ (.int .i64 1) := ⟨_, rfl⟩
  rw [← hW2]
  have B2 := Lib.hid (show Blk W2 w.heap.size 3 ((Array.replicate (h + 1) (.int .i64 0)).setIfInBounds 0 (.int .i64 1)) by rw [hW2]; exact B1.out.setSame _ _)
  have R2 := Lib.hid (show RowF ((Array.replicate (h + 1) (.int .i64 0)).setIfInBounds 0 (.int .i64 1)) (h + 1) (fw t 0) by
    intro k hk
    rw [Array.getElem?_setIfInBounds]
    cases k with
    | zero => simp [fw]
    | succ k => rw [if_neg (by omega), Array.getElem?_eq_getElem (by simp; omega)]; simp [fw])
  have E2 := Lib.hid (show Ext w W2 by rw [hW2]; exact E1.out.set (Nat.le_refl _) _)
  clear hW2 hmk c1 f1 B1 E1
  generalize hcs0 : (Array.replicate (h + 1) (Value.int .i64 0)).setIfInBounds 0 (.int .i64 1) = cs0 at *
  clear hcs0
  go_loopw [7, 8] (fun v i wr => ∃ (s g : Nat) (cs : Array Value), s ≤ T ∧ i = .int .i64 s ∧ v = .slice (some ⟨g, 0, none⟩) (h + 1) (h + 1) ∧ w.heap.size ≤ g ∧ Blk wr g 3 cs ∧ RowF cs (h + 1) (fw t s) ∧ Ext w wr) (fun _ i _ => T - (intOf i).toNat)
  case atStart => exact ⟨0, _, _, Nat.zero_le _, rfl, rfl, Nat.le_refl _, B2.out, R2.out, E2.out⟩
  case round =>
    obtain ⟨s, g, cs, hs, rfl, rfl, hg, hb, hr, hx⟩ := hrel
    obtain ⟨wo, hwo⟩ : ∃ x, x = wr := ⟨_, rfl⟩
    subst hwo
    have B := Lib.hid hb
    have R := Lib.hid hr
    have X := Lib.hid hx
    clear hb hr hx B2 R2 E2
    by_cases hlt : s < T
    · have hmk := mk_ints wo ((h : Int) + 1) (h + 1) (by omega) (by omega)
      obtain ⟨W3, hW3⟩ : ∃ W3, W3 = wo.alloc (.cells (Array.replicate (h + 1) (.int .i64 0)) 3) := ⟨_, rfl⟩
      rw [← hW3] at hmk
      have hgg : g < wo.heap.size := B.out.lt
      have B3 := Lib.hid (show Blk W3 wo.heap.size 3 (Array.replicate (h + 1) (.int .i64 0)) by rw [hW3]; exact Blk.new _ _ _)
      have G3 := Lib.hid (show Blk W3 g 3 cs by rw [hW3]; exact B.out.alloc _)
      have X3 := Lib.hid (show Ext w W3 by rw [hW3]; exact X.out.trans (Ext.alloc _ _))
      clear hW3 B
      have hsz : w.heap.size ≤ wo.heap.size := X.out.size
      go_wp2
      clear hmk
      go_loopw [10] (fun i w2 => ∃ (j : Nat) (cu : Array Value), j ≤ h + 1 ∧ i = .int .i64 j ∧ cu.size = h + 1 ∧ Blk w2 wo.heap.size 3 cu ∧ RowF cu j (fw t (s + 1)) ∧ Blk w2 g 3 cs ∧ Ext w w2) (fun i _ => h + 1 - (intOf i).toNat)
      case atStart => exact ⟨0, _, Nat.zero_le _, rfl, by simp, B3.out, fun k hk => by omega, G3.out, X3.out⟩
      case round =>
        obtain ⟨j, cu, hj, rfl, hcs, hb, hr, hg2, hx⟩ := hrel
        have BU := Lib.hid hb
        have RU := Lib.hid hr
        have GU := Lib.hid hg2
        have XU := Lib.hid hx
        clear hb hr hg2 hx B3 G3 X3 X
        by_cases hl2 : j < h + 1
        · have v1 := R.out (j - 1) (by omega)
          have v2 := R.out j hl2
          have m1 := Nat.le_trans (fw_le t ht s (j - 1)) (pow15 (by omega))
          have m2 := Nat.le_trans (fw_le t ht s j) (pow15 (by omega))
          have V3 := Lib.hid (fw_succ t s j)
          rw [← GU.out.cell] at v1 v2
          obtain ⟨u0, hu0⟩ : ∃ u, wr.cell? ⟨wo.heap.size, j, none⟩ = some u := ⟨_, by rw [BU.out.cell, Array.getElem?_eq_getElem (by omega)]⟩
          have hf0 : wr.frozen? ⟨wo.heap.size, j, none⟩ = false := BU.out.free j
          generalize fw t s (j - 1) = p at *
          generalize fw t s j = q at *
          obtain ⟨i, hi⟩ : ∃ i, i = j - 1 := ⟨_, rfl⟩
          rw [← hi] at v1
          have HM := Lib.hid (show max 0 ((j : Int) - 1) = (i : Int) by omega)
          have hij : i < h + 1 := by omega
          have k0 : 0 ≤ (t : Int) * (p : Int) := Int.mul_nonneg (by omega) (by omega)
          have k1 : (t : Int) * (p : Int) ≤ 10 * 1000000000000000 := Int.mul_le_mul (by omega) (by omega) (by omega) (by omega)
          have k2 : 0 ≤ (10 - (t : Int)) * (q : Int) := Int.mul_nonneg (by omega) (by omega)
          have k3 : (10 - (t : Int)) * (q : Int) ≤ 10 * 1000000000000000 := Int.mul_le_mul (by omega) (by omega) (by omega) (by omega)
          have V4 := Lib.hid (show (t : Int) * (p : Int) + (10 - (t : Int)) * (q : Int) = ((fw t (s + 1) j : Nat) : Int) by rw [V3.out, Int.natCast_add, Int.natCast_mul, Int.natCast_mul, Int.natCast_sub ht]; rfl)
          clear hi
          go_wp2
          refine wp_region_part 19 [some 29, some 30, some 31, some 32, some 33, some 34, some 35, some 36, some 37, some 38, some 39, some 40, some 41, some 42, some 43, some 44, some 45, some 46, some 47] [[9], [10], [2], [7], [10], [33], [34], [32, 35], [36], [31, 37], [2], [39], [7], [10], [41, 42], [43], [40, 44], [38, 45], [29, 30]]
            [Is (.slice (some ⟨wo.heap.size, 0, none⟩) (h + 1) (h + 1)), Is (.int .i64 ((j : Int))), Is (.int .i64 ((t : Int))), Is (.slice (some ⟨g, 0, none⟩) (h + 1) (h + 1)), Is (.int .i64 ((j : Int))), Is (.int .i64 ((j : Int) - 1)), Is (.int .i64 ((i : Int))), Is (.pointer (some ⟨g, i, none⟩)), Is (.int .i64 ((p : Int))), Is (.int .i64 ((t : Int) * (p : Int))), Is (.int .i64 ((t : Int))), Is (.int .i64 (10 - (t : Int))), Is (.slice (some ⟨g, 0, none⟩) (h + 1) (h + 1)), Is (.int .i64 ((j : Int))), Is (.pointer (some ⟨g, j, none⟩)), Is (.int .i64 ((q : Int))), Is (.int .i64 ((10 - (t : Int)) * (q : Int))), Is (.int .i64 ((t : Int) * (p : Int) + (10 - (t : Int)) * (q : Int))), Is (.pointer (some ⟨wo.heap.size, j, none⟩))]
            (by kernel_rfl) (by kernel_rfl) (by kernel_rfl) (by kernel_rfl) (by kernel_rfl) (by kernel_rfl) (by kernel_rfl) Ext (fun W => Ext wr W)
            (fun W _ => Ext.refl W) (fun W W' h k => h.trans k) ?_ (Ext.drew _) ?_ ?_
          · repeat (refine ⟨fun _ _ _ _ k h => (by first | exact h | exact IntsAt.ext h k), ?_⟩)
            exact trivial
          · refine ⟨?_, ?_, ?_, ?_, ?_, ?_, ?_, ?_, ?_, ?_, ?_, ?_, ?_, ?_, ?_, ?_, ?_, ?_, ?_, trivial⟩
            all_goals intro ρ W ⟨kc, kg, kf⟩ hF hs
            · obtain ⟨h0, -⟩ := hs
              replace h0 : ρ (.tmp 9) = .slice (some ⟨wo.heap.size, 0, none⟩) (h + 1) (h + 1) := h0
              go_simp
              exact ⟨Ext.refl _, rfl⟩
            · obtain ⟨h0, -⟩ := hs
              replace h0 : ρ (.tmp 10) = .int .i64 ((j : Int)) := h0
              go_simp
              exact ⟨Ext.refl _, rfl⟩
            · obtain ⟨h0, -⟩ := hs
              replace h0 : ρ (.tmp 2) = .int .i64 ((t : Int)) := h0
              go_simp
              exact ⟨Ext.refl _, rfl⟩
            · obtain ⟨h0, -⟩ := hs
              replace h0 : ρ (.tmp 7) = .slice (some ⟨g, 0, none⟩) (h + 1) (h + 1) := h0
              go_simp
              exact ⟨Ext.refl _, rfl⟩
            · obtain ⟨h0, -⟩ := hs
              replace h0 : ρ (.tmp 10) = .int .i64 ((j : Int)) := h0
              go_simp
              exact ⟨Ext.refl _, rfl⟩
            · obtain ⟨h0, -⟩ := hs
              replace h0 : ρ (.tmp 33) = .int .i64 ((j : Int)) := h0
              have hw : IntKind.i64.wrap ((j : Int) - 1) = (j : Int) - 1 := wrap_id _ (by omega) (by omega)
              go_simp
              exact ⟨Ext.refl _, rfl⟩
            · obtain ⟨h0, -⟩ := hs
              replace h0 : ρ (.tmp 34) = .int .i64 ((j : Int) - 1) := h0
              have hm : max 0 ((j : Int) - 1) = (i : Int) := HM.out
              go_simp
              exact ⟨Ext.refl _, rfl⟩
            · obtain ⟨h0, h1, -⟩ := hs
              replace h0 : ρ (.tmp 32) = .slice (some ⟨g, 0, none⟩) (h + 1) (h + 1) := h0
              replace h1 : ρ (.tmp 35) = .int .i64 ((i : Int)) := h1
              have hb : (i : Int) < (h : Int) + 1 := by omega
              go_simp
              exact ⟨Ext.refl _, rfl⟩
            · obtain ⟨h0, -⟩ := hs
              replace h0 : ρ (.tmp 36) = .pointer (some ⟨g, i, none⟩) := h0
              have hc0 : W.cell? ⟨g, i, none⟩ = some (.int .i64 ((p : Int))) := hF.cell (by assumption)
              go_simp
              exact ⟨Ext.refl _, rfl⟩
            · obtain ⟨h0, h1, -⟩ := hs
              replace h0 : ρ (.tmp 31) = .int .i64 ((t : Int)) := h0
              replace h1 : ρ (.tmp 37) = .int .i64 ((p : Int)) := h1
              have hw : IntKind.i64.wrap ((t : Int) * (p : Int)) = (t : Int) * (p : Int) := wrap_id _ (by omega) (by omega)
              go_simp
              exact ⟨Ext.refl _, rfl⟩
            · obtain ⟨h0, -⟩ := hs
              replace h0 : ρ (.tmp 2) = .int .i64 ((t : Int)) := h0
              go_simp
              exact ⟨Ext.refl _, rfl⟩
            · obtain ⟨h0, -⟩ := hs
              replace h0 : ρ (.tmp 39) = .int .i64 ((t : Int)) := h0
              have hw : IntKind.i64.wrap (10 - (t : Int)) = 10 - (t : Int) := wrap_id _ (by omega) (by omega)
              go_simp
              exact ⟨Ext.refl _, rfl⟩
            · obtain ⟨h0, -⟩ := hs
              replace h0 : ρ (.tmp 7) = .slice (some ⟨g, 0, none⟩) (h + 1) (h + 1) := h0
              go_simp
              exact ⟨Ext.refl _, rfl⟩
            · obtain ⟨h0, -⟩ := hs
              replace h0 : ρ (.tmp 10) = .int .i64 ((j : Int)) := h0
              go_simp
              exact ⟨Ext.refl _, rfl⟩
            · obtain ⟨h0, h1, -⟩ := hs
              replace h0 : ρ (.tmp 41) = .slice (some ⟨g, 0, none⟩) (h + 1) (h + 1) := h0
              replace h1 : ρ (.tmp 42) = .int .i64 ((j : Int)) := h1
              have hb : (j : Int) < (h : Int) + 1 := by omega
              go_simp
              exact ⟨Ext.refl _, rfl⟩
            · obtain ⟨h0, -⟩ := hs
              replace h0 : ρ (.tmp 43) = .pointer (some ⟨g, j, none⟩) := h0
              have hc0 : W.cell? ⟨g, j, none⟩ = some (.int .i64 ((q : Int))) := hF.cell (by assumption)
              go_simp
              exact ⟨Ext.refl _, rfl⟩
            · obtain ⟨h0, h1, -⟩ := hs
              replace h0 : ρ (.tmp 40) = .int .i64 (10 - (t : Int)) := h0
              replace h1 : ρ (.tmp 44) = .int .i64 ((q : Int)) := h1
              have hw : IntKind.i64.wrap ((10 - (t : Int)) * (q : Int)) = (10 - (t : Int)) * (q : Int) := wrap_id _ (by omega) (by omega)
              go_simp
              exact ⟨Ext.refl _, rfl⟩
            · obtain ⟨h0, h1, -⟩ := hs
              replace h0 : ρ (.tmp 38) = .int .i64 ((t : Int) * (p : Int)) := h0
              replace h1 : ρ (.tmp 45) = .int .i64 ((10 - (t : Int)) * (q : Int)) := h1
              have hw : IntKind.i64.wrap ((t : Int) * (p : Int) + (10 - (t : Int)) * (q : Int)) = (t : Int) * (p : Int) + (10 - (t : Int)) * (q : Int) := wrap_id _ (by omega) (by omega)
              go_simp
              exact ⟨Ext.refl _, rfl⟩
            · obtain ⟨h0, h1, -⟩ := hs
              replace h0 : ρ (.tmp 29) = .slice (some ⟨wo.heap.size, 0, none⟩) (h + 1) (h + 1) := h0
              replace h1 : ρ (.tmp 30) = .int .i64 ((j : Int)) := h1
              have hb : (j : Int) < (h : Int) + 1 := by omega
              go_simp
              exact ⟨Ext.refl _, rfl⟩
          · intro fv W hF hs
            obtain ⟨-, -, -, -, -, -, -, -, -, -, -, -, -, -, -, -, -, h46, h47, -⟩ := hs
            replace h46 : fv 46 = .int .i64 ((t : Int) * (p : Int) + (10 - (t : Int)) * (q : Int)) := h46
            replace h47 : fv 47 = .pointer (some ⟨wo.heap.size, j, none⟩) := h47
            simp only [fin, List.filterMap]
            go_simp
            have hu1 := hF.cell hu0
            have hf1 := hF.free (p := ⟨wo.heap.size, j, none⟩) BU.out.lt hf0
            have BW := Lib.hid (BU.out.ext hF)
            have GW := Lib.hid (GU.out.ext hF)
            have XW := Lib.hid (XU.out.trans hF)
            clear hF hu0 hf0 v1 v2 BU GU XU
            go_wp2
            go_roundw
            case rel => exact ⟨j + 1, _, by omega, by go_num, by simpa using hcs, BW.out.setSame _ _, by rw [V4.out]; exact rowF_set RU.out (by omega), GW.out.setOther (by dsimp only; omega) _, XW.out.set (by dsimp only; omega) _⟩
            case measure => simp [intOf]; omega
        · have hj2 : j = h + 1 := by omega
          have RJ := Lib.hid (show RowF cu (h + 1) (fw t (s + 1)) by rw [← hj2]; exact RU.out)
          clear hj2
          have hgt : h < j := by omega
          have hle : ¬ (j : Int) ≤ (h : Int) := by omega
          go_wp2
          go_roundw
          case rel => exact ⟨s + 1, _, _, by omega, by go_num, rfl, by omega, BU.out, RJ.out, XU.out⟩
          case measure => simp [intOf]; omega
    · obtain rfl : s = T := by omega
      have cN := R.out h (by omega)
      rw [← B.out.cell] at cN
      have hN := Lib.hid (show h < h + 1 by omega)
      go_wp2
      go_ret
      exact ⟨rfl, X.out⟩

end Go.Proofs.Ytmddnpagfgilcaa
