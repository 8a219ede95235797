/- The first fault. -/
import Derived.Test.YtkmekbafjnlfkaaGreatS8

namespace Go.Proofs.YtkmekbafjnlfkaaGreat
open Go.RowKit Go.Shelf Go.Mem Go.RegInv
attribute [local go_sem] RelUpon_value RelUpon_skip RelUpon_enter BigFrame.eval_const BigFrame.eval_global BigFrame.eval_func

/-- The first fault that is one. -/
def firstFlt : List (Int × Int) → Int × Int
  | [] => (0, 0)
  | p :: l => if p.2 ≠ 0 then p else firstFlt l
theorem firstFlt_drop (l : List (Int × Int)) (k : Nat) (p : Int × Int) (h : l[k]? = some p) : firstFlt (l.drop k) = if p.2 ≠ 0 then p else firstFlt (l.drop (k + 1)) := by
  obtain ⟨hk, e⟩ := List.getElem?_eq_some_iff.1 h
  rw [List.drop_eq_getElem_cons hk, e]
  rfl
def prEnc (p : Int × Int) : List Value := [.int .i64 p.1, .int .i64 p.2]
def FltV (l : List (Int × Int)) : Value → World → Prop := fun u W => ∃ b n, u = .slice (some ⟨b, 0, none⟩) n n ∧ Hid (l.length = n) ∧ RowsAt 2 prEnc W (some ⟨b, 0, none⟩) l
theorem FltV.ext {l : List (Int × Int)} {u : Value} {W W' : World} (h : FltV l u W) (e : Ext W W') : FltV l u W' := by
  obtain ⟨b, n, h1, h2, h3⟩ := h; exact ⟨b, n, h1, h2, h3.ext e⟩

set_option maxRecDepth 100000 in
set_option maxHeartbeats 1000000 in
theorem firstFault_any {l : List (Int × Int)} {u : Value} {w : World} (hV : FltV l u w) : Calls Tryz.prog 71 #[u] w fun e w' => e = .returned (.tuple #[.int .i64 (firstFlt l).1, .int .i64 (firstFlt l).2]) ∧ Ext w w' := by
  obtain ⟨b, n, rfl, HN, hA⟩ := hV
  have hnb : n ≤ 1152921504606846976 := by have := hA.1; have := HN.out; omega
  have HA := Lib.hid hA
  clear hA
  go_enter Tryz.func71, Tryz.ntmps71
  go_wp2
  go_loopw [8] (fun i wr => ∃ k : Nat, k ≤ n ∧ i = .int .i64 k ∧ firstFlt l = firstFlt (l.drop k) ∧ Ext w wr) (fun i _ => n - (intOf i).toNat)
  case atStart => exact ⟨0, Nat.zero_le _, rfl, rfl, Ext.refl _⟩
  case round =>
    obtain ⟨k, hk, rfl, hr, hx⟩ := hrel
    have HR := Lib.hid hr
    have HX := Lib.hid hx
    clear hr hx
    by_cases hlt : k < n
    · obtain ⟨p, hg⟩ : ∃ p, l[k]? = some p := ⟨_, List.getElem?_eq_getElem (by rw [HN.out]; exact hlt)⟩
      have HD := Lib.hid (firstFlt_drop l k p hg)
      obtain ⟨b', o, hAe, hb, hc⟩ := HA.out.2 k p hg
      obtain ⟨rfl, rfl⟩ : b = b' ∧ 0 = o := by simpa using hAe
      have c0 : wr.cell? ⟨b, k * 2, none⟩ = some (.int .i64 p.1) := HX.out.cell (by have := hc 0 _ rfl; simpa using this)
      have c1 : wr.cell? ⟨b, k * 2 + 1, none⟩ = some (.int .i64 p.2) := HX.out.cell (by have := hc 1 _ rfl; simpa using this)
      have hki : (k : Int) < (n : Int) := by omega
      clear hg hAe hb hc
      by_cases hz : p.2 = 0
      · have hz' : (p.2 != 0) = false := by simp [hz]
        have HZ := Lib.hid hz
        clear hz
        go_wp2
        go_roundw
        case rel => exact ⟨k + 1, by omega, by go_num, by rw [HR.out, HD.out, if_neg (by rw [HZ.out]; simp)], HX.out.trans (Ext.alloc _ _)⟩
        case measure => simp [intOf]; omega
      · have hz' : (p.2 != 0) = true := by simp [hz]
        have HZ := Lib.hid hz
        clear hz
        go_wp2
        obtain ⟨W2, hW2⟩ : ∃ W2, W2 = wr.alloc (.cells #[.int .i64 p.1, .int .i64 p.2] 131) := ⟨_, rfl⟩
        have k2 : Blk W2 wr.heap.size 131 #[.int .i64 p.1, .int .i64 p.2] := by rw [hW2]; exact Blk.new _ _ _
        have z0 : W2.cell? ⟨wr.heap.size, 0, none⟩ = some (.int .i64 (p.1)) := k2.cell 0
        have z1 : W2.cell? ⟨wr.heap.size, 1, none⟩ = some (.int .i64 (p.2)) := k2.cell 1
        have E2 := Lib.hid (show Ext wr W2 by rw [hW2]; exact Ext.alloc _ _)
        rw [← hW2]
        clear hW2 k2
        have HA' := Lib.hid (show firstFlt l = p by rw [HR.out, HD.out, if_pos HZ.out])
        refine wp_region_each [some 15, some 16, some 17, some 18, some 2, some 3] [[5], [15], [5], [17], [16], [18]]
          [Is (.pointer (some ⟨wr.heap.size, 0, none⟩)), Is (.int .i64 (p.1)), Is (.pointer (some ⟨wr.heap.size, 1, none⟩)), Is (.int .i64 (p.2)), Is (.int .i64 (p.1)), Is (.int .i64 (p.2))]
          (by kernel_rfl) (by kernel_rfl) (by kernel_rfl) (by kernel_rfl) (by kernel_rfl) Ext (fun W => Ext W2 W)
          (fun W _ => Ext.refl W) (fun W W' h k => h.trans k) ?_ (Ext.drew _) ?_ ?_
        · repeat (refine ⟨fun _ _ _ _ k h => (by first | exact h | exact (by first | exact IntsAt.ext h k | exact KnV.ext h k | exact NumsV.ext h k)), ?_⟩)
          exact trivial
        · refine ⟨?_, ?_, ?_, ?_, ?_, ?_, trivial⟩
          all_goals intro ρ W ⟨kc, kg, kf⟩ hF hs
          · obtain ⟨h0, -⟩ := hs
            replace h0 : ρ (.tmp 5) = .pointer (some ⟨wr.heap.size, 0, none⟩) := h0
            go_simp
            exact ⟨Ext.refl _, rfl⟩
          · obtain ⟨h0, -⟩ := hs
            replace h0 : ρ (.tmp 15) = .pointer (some ⟨wr.heap.size, 0, none⟩) := h0
            have hc0 : W.cell? ⟨wr.heap.size, 0, none⟩ = some (.int .i64 (p.1)) := hF.cell (by assumption)
            go_simp
            exact ⟨Ext.refl _, rfl⟩
          · obtain ⟨h0, -⟩ := hs
            replace h0 : ρ (.tmp 5) = .pointer (some ⟨wr.heap.size, 0, none⟩) := h0
            go_simp
            exact ⟨Ext.refl _, rfl⟩
          · obtain ⟨h0, -⟩ := hs
            replace h0 : ρ (.tmp 17) = .pointer (some ⟨wr.heap.size, 1, none⟩) := h0
            have hc0 : W.cell? ⟨wr.heap.size, 1, none⟩ = some (.int .i64 (p.2)) := hF.cell (by assumption)
            go_simp
            exact ⟨Ext.refl _, rfl⟩
          · obtain ⟨h0, -⟩ := hs
            replace h0 : ρ (.tmp 16) = .int .i64 (p.1) := h0
            go_simp
            exact ⟨Ext.refl _, rfl⟩
          · obtain ⟨h0, -⟩ := hs
            replace h0 : ρ (.tmp 18) = .int .i64 (p.2) := h0
            go_simp
            exact ⟨Ext.refl _, rfl⟩
        · intro fv W hF hs
          obtain ⟨-, -, -, -, h2, h3, -⟩ := hs
          replace h2 : fv 2 = .int .i64 (p.1) := h2
          replace h3 : fv 3 = .int .i64 (p.2) := h3
          simp only [fin, List.filterMap]
          go_simp
          go_wp2
          rw [HA'.out]
          go_ret2
          exact ⟨rfl, HX.out.trans (E2.out.trans hF)⟩
    · have HA' := Lib.hid (show firstFlt l = (0, 0) by rw [HR.out, List.drop_of_length_le (by rw [HN.out]; omega)]; rfl)
      go_wp2
      rw [HA'.out]
      go_ret2
      exact ⟨rfl, HX.out⟩

end Go.Proofs.YtkmekbafjnlfkaaGreat
