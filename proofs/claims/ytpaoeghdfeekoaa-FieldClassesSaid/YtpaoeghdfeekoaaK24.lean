/- For FieldFrequencies: the errors of ranges, shapes and pairs. -/
import Derived.Test.YtpaoeghdfeekoaaK22
namespace Go.Proofs.Ytpaoeghdfeekoaa
open Go.RowKit Go.Shelf Go.Mem Go.RegInv
attribute [local go_sem] RelUpon_value RelUpon_skip RelUpon_enter BigFrame.eval_const BigFrame.eval_global BigFrame.eval_func

/-- The error of a range (Lo, Hi), written as a G. -/
def endsE (lo hi : Int) (r : G) : Int := firstE [rangeE lo hi [r.re, r.im], errIf (decide (r.im < r.re)) 9]
set_option maxRecDepth 100000 in
theorem endsError_any (lo hi a b : Int) (w : World) :
    Calls Try.prog 121 #[.int .i64 lo, .int .i64 hi, .agg #[.int .i64 a, .int .i64 b]] w fun e w' => e = .returned (.int .i64 (endsE lo hi ⟨a, b⟩)) ∧ Ext w w' := by
  obtain ⟨W0, hW0⟩ : ∃ W0, W0 = (w.alloc (.cells #[.int .i64 a, .int .i64 b] 132)).alloc (.cells #[.int .i64 a, .int .i64 b] 82) := ⟨_, rfl⟩
  have k1 : Blk W0 (w.heap.size + 1) 82 #[.int .i64 a, .int .i64 b] := by rw [hW0]; exact Blk.newAt _ _ _ (by simp)
  have e0 : Ext w W0 := by rw [hW0]; exact (Ext.alloc _ _).trans (Ext.alloc _ _)
  have z0 : W0.cell? ⟨w.heap.size + 1, 0, none⟩ = some (.int .i64 a) := k1.cell 0
  have z1 : W0.cell? ⟨w.heap.size + 1, 1, none⟩ = some (.int .i64 b) := k1.cell 1
  have K1 := Lib.hid k1
  have E0 := Lib.hid e0
  clear k1 e0
  go_enter Try.func121, Try.ntmps121
  go_wp2
  rw [← hW0]
  clear hW0
  refine wp_region_each [some 13, some 14, some 15, some 16, some 17, some 18, some 19, some 20, some 21, some 22, some 23, some 24, some 6] [[0], [1], [7], [13, 14, 15], [7], [17], [7], [19], [18, 20], [21], [16, 22], [23], [24]]
    [Is (.int .i64 (lo)), Is (.int .i64 (hi)), Is (.slice (some ⟨w.heap.size + 1, 0, none⟩) 2 2), Is (.int .i64 (rangeE lo hi [a, b])), Is (.pointer (some ⟨w.heap.size + 1, 0, none⟩)), Is (.int .i64 (a)), Is (.pointer (some ⟨w.heap.size + 1, 1, none⟩)), Is (.int .i64 (b)), Is (.bool (decide (b < a))), Is (.int .i64 (errIf (decide (b < a)) 9)), Ints [rangeE lo hi [a, b], errIf (decide (b < a)) 9], Is (.int .i64 (firstE [rangeE lo hi [a, b], errIf (decide (b < a)) 9])), Is (.int .i64 (firstE [rangeE lo hi [a, b], errIf (decide (b < a)) 9]))]
    (by kernel_rfl) (by kernel_rfl) (by kernel_rfl) (by kernel_rfl) (by kernel_rfl) Ext (fun W => Ext W0 W)
    (fun W _ => Ext.refl W) (fun W W' h k => h.trans k) ?_ (Ext.drew _) ?_ ?_
  · repeat (refine ⟨fun _ _ _ _ k h => (by first | exact h | exact IntsAt.ext h k), ?_⟩)
    exact trivial
  · refine ⟨?_, ?_, ?_, ?_, ?_, ?_, ?_, ?_, ?_, ?_, ?_, ?_, ?_, trivial⟩
    all_goals intro ρ W ⟨kc, kg, kf⟩ hF hs
    · obtain ⟨h0, -⟩ := hs
      replace h0 : ρ (.tmp 0) = .int .i64 (lo) := h0
      go_simp
      exact ⟨Ext.refl _, rfl⟩
    · obtain ⟨h0, -⟩ := hs
      replace h0 : ρ (.tmp 1) = .int .i64 (hi) := h0
      go_simp
      exact ⟨Ext.refl _, rfl⟩
    · obtain ⟨h0, -⟩ := hs
      replace h0 : ρ (.tmp 7) = .pointer (some ⟨w.heap.size + 1, 0, none⟩) := h0
      go_simp
      exact ⟨Ext.refl _, rfl⟩
    · obtain ⟨h0, h1, h2, -⟩ := hs
      replace h0 : ρ (.tmp 13) = .int .i64 (lo) := h0
      replace h1 : ρ (.tmp 14) = .int .i64 (hi) := h1
      replace h2 : ρ (.tmp 15) = .slice (some ⟨w.heap.size + 1, 0, none⟩) 2 2 := h2
      go_simp
      exact (rangeError_any lo hi _ [a, b] W (ints_two (K1.out.ext hF))).mono fun _ _ ⟨h1, h2⟩ => ⟨_, h1, h2, rfl⟩
    · obtain ⟨h0, -⟩ := hs
      replace h0 : ρ (.tmp 7) = .pointer (some ⟨w.heap.size + 1, 0, none⟩) := h0
      go_simp
      exact ⟨Ext.refl _, rfl⟩
    · obtain ⟨h0, -⟩ := hs
      replace h0 : ρ (.tmp 17) = .pointer (some ⟨w.heap.size + 1, 0, none⟩) := h0
      have hc0 : W.cell? ⟨w.heap.size + 1, 0, none⟩ = some (.int .i64 (a)) := hF.cell (by assumption)
      go_simp
      exact ⟨Ext.refl _, rfl⟩
    · obtain ⟨h0, -⟩ := hs
      replace h0 : ρ (.tmp 7) = .pointer (some ⟨w.heap.size + 1, 0, none⟩) := h0
      go_simp
      exact ⟨Ext.refl _, rfl⟩
    · obtain ⟨h0, -⟩ := hs
      replace h0 : ρ (.tmp 19) = .pointer (some ⟨w.heap.size + 1, 1, none⟩) := h0
      have hc0 : W.cell? ⟨w.heap.size + 1, 1, none⟩ = some (.int .i64 (b)) := hF.cell (by assumption)
      go_simp
      exact ⟨Ext.refl _, rfl⟩
    · obtain ⟨h0, h1, -⟩ := hs
      replace h0 : ρ (.tmp 18) = .int .i64 (a) := h0
      replace h1 : ρ (.tmp 20) = .int .i64 (b) := h1
      go_simp
      exact ⟨Ext.refl _, rfl⟩
    · obtain ⟨h0, -⟩ := hs
      replace h0 : ρ (.tmp 21) = .bool (decide (b < a)) := h0
      go_simp
      exact (errorIf_any _ _ _).mono fun _ _ ⟨h1, h2⟩ => ⟨_, h1, h2 ▸ Ext.refl _, rfl⟩
    · obtain ⟨h0, h1, -⟩ := hs
      replace h0 : ρ (.tmp 16) = .int .i64 (rangeE lo hi [a, b]) := h0
      replace h1 : ρ (.tmp 22) = .int .i64 (errIf (decide (b < a)) 9) := h1
      go_simp
      exact ⟨Ext.alloc _ _, ints_new _ [rangeE lo hi [a, b], errIf (decide (b < a)) 9] _ (by simp)⟩
    · obtain ⟨h0, -⟩ := hs
      replace h0 : (Ints [rangeE lo hi [a, b], errIf (decide (b < a)) 9]) (ρ (.tmp 23)) W := h0
      go_simp
      exact (firstOf_any _ _ _ h0).mono fun _ _ ⟨h1, h2⟩ => ⟨_, h1, h2 ▸ Ext.refl _, rfl⟩
    · obtain ⟨h0, -⟩ := hs
      replace h0 : ρ (.tmp 24) = .int .i64 (firstE [rangeE lo hi [a, b], errIf (decide (b < a)) 9]) := h0
      go_simp
      exact ⟨Ext.refl _, rfl⟩
  · intro fv W1 hF hs
    obtain ⟨-, -, -, -, -, -, -, -, -, -, -, -, h6, -⟩ := hs
    replace h6 : fv 6 = .int .i64 (firstE [rangeE lo hi [a, b], errIf (decide (b < a)) 9]) := h6
    simp only [fin, List.filterMap]
    go_simp
    go_wp2
    go_ret
    exact ⟨rfl, E0.out.trans hF⟩

theorem ends_cases (r : G) : endsE 0 100000 r = if inB 0 100000 r.re = true ∧ inB 0 100000 r.im = true then (if r.im < r.re then 9 else 0) else 2 := by
  unfold endsE
  rw [rangeE_two]
  by_cases h : inB 0 100000 r.re = true ∧ inB 0 100000 r.im = true
  · rw [if_pos h, if_pos h]; by_cases hlt : r.im < r.re <;> simp [firstE, errIf, hlt]
  · rw [if_neg h, if_neg h]; simp [firstE]
theorem firstE_two' (q e : Int) : firstE [q, e] = if q ≠ 0 then q else e := by
  unfold firstE firstE firstE
  by_cases h : e = 0
  · subst h; simp
  · simp [h]
def rowsE (rs : List G) : Int := firstE (rs.map (endsE 0 100000))
theorem rowsE_drop (rs : List G) (k : Nat) (r : G) (h : rs[k]? = some r) : rowsE (rs.drop k) = if endsE 0 100000 r ≠ 0 then endsE 0 100000 r else rowsE (rs.drop (k + 1)) := by
  obtain ⟨hk, e⟩ := List.getElem?_eq_some_iff.1 h
  rw [List.drop_eq_getElem_cons hk, e]
  simp only [rowsE, List.map_cons, firstE]
def shapeE (n : Nat) (tot : Int) (rs : List G) : Int := if rangeE 0 100000 [tot] ≠ 0 then rangeE 0 100000 [tot] else if rs.length ≠ n then 10 else rowsE rs
theorem shape_split (n : Nat) (tot : Int) (rs : List G) (M : Nat) (hM : rs.length = M) : shapeE n tot rs = if firstE [rangeE 0 100000 [tot], errIf ((M : Int) != (n : Int)) 10] ≠ 0 then firstE [rangeE 0 100000 [tot], errIf ((M : Int) != (n : Int)) 10] else rowsE rs := by
  unfold shapeE
  rw [firstE_two', hM]
  by_cases h : rangeE 0 100000 [tot] = 0
  · rw [h]
    by_cases hn : M = n
    · subst hn; simp [errIf]
    · have : ((M : Int) != (n : Int)) = true := by simp; omega
      simp [errIf, this, hn]
  · simp [h]

set_option maxRecDepth 100000 in
set_option maxHeartbeats 2000000 in
theorem shapeError_any (t : Int) (A : Option Addr) (n ca : Nat) (tot : Int) (C : Option Addr) (M cz : Nat) (rs : List G) (hM : rs.length = M) (w : World) (hC : RowsAt 2 G.enc w C rs) :
    Calls Try.prog 118 #[.agg #[.int .i64 t, .slice A n ca], .agg #[.int .i64 tot, .slice C M cz]] w fun e w' => e = .returned (.int .i64 (shapeE n tot rs)) ∧ Ext w w' := by
  obtain ⟨W0, hW0⟩ : ∃ W0, W0 = (w.alloc (.cells #[.int .i64 t, .slice A n ca] 24)).alloc (.cells #[.int .i64 tot, .slice C M cz] 101) := ⟨_, rfl⟩
  have k0 : Blk W0 w.heap.size 24 #[.int .i64 t, .slice A n ca] := by rw [hW0]; exact (Blk.new _ _ _).alloc _
  have k1 : Blk W0 (w.heap.size + 1) 101 #[.int .i64 tot, .slice C M cz] := by rw [hW0]; exact Blk.newAt _ _ _ (by simp)
  have e0 : Ext w W0 := by rw [hW0]; exact (Ext.alloc _ _).trans (Ext.alloc _ _)
  have z0 : W0.cell? ⟨w.heap.size, 0, none⟩ = some (.int .i64 t) := k0.cell 0
  have z1 : W0.cell? ⟨w.heap.size, 1, none⟩ = some (.slice A n ca) := k0.cell 1
  have z2 : W0.cell? ⟨w.heap.size + 1, 0, none⟩ = some (.int .i64 tot) := k1.cell 0
  have z3 : W0.cell? ⟨w.heap.size + 1, 1, none⟩ = some (.slice C M cz) := k1.cell 1
  have HQ := Lib.hid (fun W v (h : IntsAt W v [tot]) => totalError_any v [tot] W h)
  have HR := Lib.hid (shape_split n tot rs M hM)
  have E0 := Lib.hid e0
  have HM := Lib.hid hM
  have HC := Lib.hid hC
  have K1 := Lib.hid k1
  have hmb : M ≤ 1152921504606846976 := by have := hC.1; omega
  clear k0 k1 e0 hM hC
  generalize rangeE 0 100000 [tot] = q1 at *
  go_enter Try.func118, Try.ntmps118
  go_wp2
  rw [← hW0]
  clear hW0
  refine wp_region_each [some 9, some 10, some 11, some 12, some 13, some 14, some 15, some 16, some 17, some 18, some 19, some 20, some 21, some 22, some 5] [[3], [9], [10], [11], [3], [13], [14], [2], [16], [17], [15, 18], [19], [12, 20], [21], [22]]
    [Is (.pointer (some ⟨w.heap.size + 1, 0, none⟩)), Is (.int .i64 (tot)), Ints [tot], Is (.int .i64 (q1)), Is (.pointer (some ⟨w.heap.size + 1, 1, none⟩)), Is (.slice C M cz), Is (.int .i64 ((M : Int))), Is (.pointer (some ⟨w.heap.size, 1, none⟩)), Is (.slice A n ca), Is (.int .i64 ((n : Int))), Is (.bool ((M : Int) != (n : Int))), Is (.int .i64 (errIf ((M : Int) != (n : Int)) 10)), Ints [q1, errIf ((M : Int) != (n : Int)) 10], Is (.int .i64 (firstE [q1, errIf ((M : Int) != (n : Int)) 10])), Is (.int .i64 (firstE [q1, errIf ((M : Int) != (n : Int)) 10]))]
    (by kernel_rfl) (by kernel_rfl) (by kernel_rfl) (by kernel_rfl) (by kernel_rfl) Ext (fun W => Ext W0 W)
    (fun W _ => Ext.refl W) (fun W W' h k => h.trans k) ?_ (Ext.drew _) ?_ ?_
  · repeat (refine ⟨fun _ _ _ _ k h => (by first | exact h | exact IntsAt.ext h k), ?_⟩)
    exact trivial
  · refine ⟨?_, ?_, ?_, ?_, ?_, ?_, ?_, ?_, ?_, ?_, ?_, ?_, ?_, ?_, ?_, trivial⟩
    all_goals intro ρ W ⟨kc, kg, kf⟩ hF hs
    · obtain ⟨h0, -⟩ := hs
      replace h0 : ρ (.tmp 3) = .pointer (some ⟨w.heap.size + 1, 0, none⟩) := h0
      go_simp
      exact ⟨Ext.refl _, rfl⟩
    · obtain ⟨h0, -⟩ := hs
      replace h0 : ρ (.tmp 9) = .pointer (some ⟨w.heap.size + 1, 0, none⟩) := h0
      have hc0 : W.cell? ⟨w.heap.size + 1, 0, none⟩ = some (.int .i64 (tot)) := hF.cell (by assumption)
      go_simp
      exact ⟨Ext.refl _, rfl⟩
    · obtain ⟨h0, -⟩ := hs
      replace h0 : ρ (.tmp 10) = .int .i64 (tot) := h0
      go_simp
      exact ⟨Ext.alloc _ _, ints_new _ [tot] _ (by simp)⟩
    · obtain ⟨h0, -⟩ := hs
      replace h0 : (Ints [tot]) (ρ (.tmp 11)) W := h0
      go_simp
      exact (HQ.out W _ h0).mono fun _ _ ⟨h1, h2⟩ => ⟨_, h1, h2, rfl⟩
    · obtain ⟨h0, -⟩ := hs
      replace h0 : ρ (.tmp 3) = .pointer (some ⟨w.heap.size + 1, 0, none⟩) := h0
      go_simp
      exact ⟨Ext.refl _, rfl⟩
    · obtain ⟨h0, -⟩ := hs
      replace h0 : ρ (.tmp 13) = .pointer (some ⟨w.heap.size + 1, 1, none⟩) := h0
      have hc0 : W.cell? ⟨w.heap.size + 1, 1, none⟩ = some (.slice C M cz) := hF.cell (by assumption)
      go_simp
      exact ⟨Ext.refl _, rfl⟩
    · obtain ⟨h0, -⟩ := hs
      replace h0 : ρ (.tmp 14) = .slice C M cz := h0
      go_simp
      exact ⟨Ext.refl _, rfl⟩
    · obtain ⟨h0, -⟩ := hs
      replace h0 : ρ (.tmp 2) = .pointer (some ⟨w.heap.size, 0, none⟩) := h0
      go_simp
      exact ⟨Ext.refl _, rfl⟩
    · obtain ⟨h0, -⟩ := hs
      replace h0 : ρ (.tmp 16) = .pointer (some ⟨w.heap.size, 1, none⟩) := h0
      have hc0 : W.cell? ⟨w.heap.size, 1, none⟩ = some (.slice A n ca) := hF.cell (by assumption)
      go_simp
      exact ⟨Ext.refl _, rfl⟩
    · obtain ⟨h0, -⟩ := hs
      replace h0 : ρ (.tmp 17) = .slice A n ca := h0
      go_simp
      exact ⟨Ext.refl _, rfl⟩
    · obtain ⟨h0, h1, -⟩ := hs
      replace h0 : ρ (.tmp 15) = .int .i64 ((M : Int)) := h0
      replace h1 : ρ (.tmp 18) = .int .i64 ((n : Int)) := h1
      go_simp
      exact ⟨Ext.refl _, rfl⟩
    · obtain ⟨h0, -⟩ := hs
      replace h0 : ρ (.tmp 19) = .bool ((M : Int) != (n : Int)) := h0
      go_simp
      exact (errorIf_any _ _ _).mono fun _ _ ⟨h1, h2⟩ => ⟨_, h1, h2 ▸ Ext.refl _, rfl⟩
    · obtain ⟨h0, h1, -⟩ := hs
      replace h0 : ρ (.tmp 12) = .int .i64 (q1) := h0
      replace h1 : ρ (.tmp 20) = .int .i64 (errIf ((M : Int) != (n : Int)) 10) := h1
      go_simp
      exact ⟨Ext.alloc _ _, ints_new _ [q1, errIf ((M : Int) != (n : Int)) 10] _ (by simp)⟩
    · obtain ⟨h0, -⟩ := hs
      replace h0 : (Ints [q1, errIf ((M : Int) != (n : Int)) 10]) (ρ (.tmp 21)) W := h0
      go_simp
      exact (firstOf_any _ _ _ h0).mono fun _ _ ⟨h1, h2⟩ => ⟨_, h1, h2 ▸ Ext.refl _, rfl⟩
    · obtain ⟨h0, -⟩ := hs
      replace h0 : ρ (.tmp 22) = .int .i64 (firstE [q1, errIf ((M : Int) != (n : Int)) 10]) := h0
      go_simp
      exact ⟨Ext.refl _, rfl⟩
  · intro fv W1 hF hs
    obtain ⟨-, -, -, -, -, -, -, -, -, -, -, -, -, -, h5, -⟩ := hs
    replace h5 : fv 5 = .int .i64 (firstE [q1, errIf ((M : Int) != (n : Int)) 10]) := h5
    simp only [fin, List.filterMap]
    go_simp
    obtain ⟨r, hr⟩ : ∃ r, r = firstE [q1, errIf ((M : Int) != (n : Int)) 10] := ⟨_, rfl⟩
    rw [← hr] at HR ⊢
    clear hr h5 z0 z1 z2 z3
    have X1 := Lib.hid (E0.out.trans hF)
    have z3 : W1.cell? ⟨w.heap.size + 1, 1, none⟩ = some (.slice C M cz) := (K1.out.ext hF).cell 1
    clear hF
    by_cases hz : r = 0
    · have hzb : (r != 0) = false := by simp [hz]
      have HR' := Lib.hid (show shapeE n tot rs = rowsE rs by rw [HR.out, if_neg (by simp [hz])])
      clear hz HR
      go_wp2
      go_loopw [29] (fun i wr => ∃ k : Nat, k ≤ M ∧ i = .int .i64 k ∧ rowsE rs = rowsE (rs.drop k) ∧ Ext W1 wr) (fun i _ => M - (intOf i).toNat)
      case atStart => exact ⟨0, Nat.zero_le _, rfl, rfl, Ext.refl _⟩
      case round =>
        obtain ⟨k, hk, rfl, hr, hx⟩ := hrel
        have HF := Lib.hid hr
        have HX := Lib.hid hx
        clear hr hx
        by_cases hlt : k < M
        · obtain ⟨g, hg⟩ : ∃ g, rs[k]? = some g := ⟨_, List.getElem?_eq_getElem (by rw [HM.out]; exact hlt)⟩
          have HD := Lib.hid (rowsE_drop rs k g hg)
          obtain ⟨b, o, hA, hb, hc⟩ := HC.out.2 k g hg
          subst hA
          have c0 : wr.cell? ⟨b, o + k * 2, none⟩ = some (.int .i64 g.re) := (X1.out.trans HX.out).cell (hc 0 _ rfl)
          have c1 : wr.cell? ⟨b, o + k * 2 + 1, none⟩ = some (.int .i64 g.im) := (X1.out.trans HX.out).cell (hc 1 _ rfl)
          have HE := Lib.hid (fun W => endsError_any 0 100000 g.re g.im W)
          have HG := Lib.hid (show endsE 0 100000 ⟨g.re, g.im⟩ = endsE 0 100000 g from rfl)
          rw [HG.out] at HE
          clear hg hc hb HG
          generalize endsE 0 100000 g = z at HD HE
          generalize g.re = ga at *
          generalize g.im = gb at *
          have hki : (k : Int) < (M : Int) := by omega
          by_cases hz : z = 0
          · have hz' : (z != 0) = false := by simp [hz]
            have HZ := Lib.hid hz
            clear hz
            go_wp2_with (go_at_call 121; refine (HE.out _).mono ?_; rintro e W2 ⟨rfl, hx2⟩; have X2 := Lib.hid hx2; clear hx2)
            go_roundw
            case rel => exact ⟨k + 1, by omega, by go_num, by rw [HF.out, HD.out, if_neg (by simp [HZ.out])], HX.out.trans ((Ext.alloc _ _).trans X2.out)⟩
            case measure => simp [intOf]; omega
          · have hz' : (z != 0) = true := by simp [hz]
            have HZ := Lib.hid hz
            clear hz
            go_wp2_with (go_at_call 121; refine (HE.out _).mono ?_; rintro e W2 ⟨rfl, hx2⟩; have X2 := Lib.hid hx2; clear hx2)
            go_ret
            exact ⟨ret_int (by rw [HR'.out, HF.out, HD.out, if_pos HZ.out]), X1.out.trans (HX.out.trans ((Ext.alloc _ _).trans X2.out))⟩
        · have HE := Lib.hid (show rowsE (rs.drop k) = 0 by rw [List.drop_of_length_le (by rw [HM.out]; omega)]; rfl)
          go_wp2
          go_ret
          exact ⟨ret_int (by rw [HR'.out, HF.out, HE.out]), X1.out.trans HX.out⟩
    · have hzb : (r != 0) = true := by simp [hz]
      have HR' := Lib.hid (show shapeE n tot rs = r by rw [HR.out, if_pos hz])
      clear hz HR
      go_wp2
      go_ret
      exact ⟨ret_int HR'.out.symm, X1.out⟩

set_option maxRecDepth 100000 in
set_option maxHeartbeats 2000000 in
theorem refShapeErr_any (t : Int) (A : Option Addr) (n ca : Nat) (tot : Int) (C : Option Addr) (M cz : Nat) (rs : List G) (hM : rs.length = M) (w : World) (hC : RowsAt 2 G.enc w C rs) :
    Calls Try.prog 70 #[.agg #[.int .i64 t, .slice A n ca], .agg #[.int .i64 tot, .slice C M cz]] w fun e w' => e = .returned (.int .i64 (shapeE n tot rs)) ∧ Ext w w' := by
  have e0 : Ext w ((w.alloc (.cells #[.int .i64 t, .slice A n ca] 24)).alloc (.cells #[.int .i64 tot, .slice C M cz] 101)) := (Ext.alloc _ _).trans (Ext.alloc _ _)
  have HR := Lib.hid (show shapeE n tot rs = if rangeE 0 100000 [tot] ≠ 0 then rangeE 0 100000 [tot] else if M ≠ n then 10 else rowsE rs by unfold shapeE; rw [hM])
  have HT := Lib.hid (fun W => totalErr_any tot W)
  have E0 := Lib.hid e0
  have HM := Lib.hid hM
  have HC := Lib.hid hC
  have hmb : M ≤ 1152921504606846976 := by have := hC.1; omega
  clear e0 hM hC
  generalize rangeE 0 100000 [tot] = q1 at *
  by_cases hq : q1 = 0
  · have hqb : (q1 != 0) = false := by simp [hq]
    by_cases hn : M = n
    · have hnb : ((M : Int) != (n : Int)) = false := by simp [hn]
      have HR' := Lib.hid (show shapeE n tot rs = rowsE rs by rw [HR.out, if_neg (by simp [hq]), if_neg (by simp [hn])])
      clear hq hn HR
      go_enter Try.func70, Try.ntmps70
      go_wp2_with (go_at_call 49; refine (HT.out _).mono ?_; rintro e w' ⟨rfl, rfl⟩)
      have z3 : ((w.alloc (.cells #[.int .i64 t, .slice A n ca] 24)).alloc (.cells #[.int .i64 tot, .slice C M cz] 101)).cell? ⟨w.heap.size + 1, 1, none⟩ = some (.slice C M cz) := by go_simp
      generalize (w.alloc (.cells #[.int .i64 t, .slice A n ca] 24)).alloc (.cells #[.int .i64 tot, .slice C M cz] 101) = W1 at *
      have HZ3 := Lib.hid z3
      clear z3
      go_loopw [6] (fun i wr => ∃ k : Nat, k ≤ M ∧ i = .int .i64 k ∧ rowsE rs = rowsE (rs.drop k) ∧ Ext W1 wr) (fun i _ => M - (intOf i).toNat)
      case atStart => exact ⟨0, Nat.zero_le _, rfl, rfl, Ext.refl _⟩
      case round =>
        obtain ⟨k, hk, rfl, hr, hx⟩ := hrel
        have HF := Lib.hid hr
        have z3 : wr.cell? ⟨w.heap.size + 1, 1, none⟩ = some (.slice C M cz) := hx.cell HZ3.out
        have HX := Lib.hid hx
        clear hr hx
        by_cases hlt : k < M
        · obtain ⟨g, hg⟩ : ∃ g, rs[k]? = some g := ⟨_, List.getElem?_eq_getElem (by rw [HM.out]; exact hlt)⟩
          have HD := Lib.hid (rowsE_drop rs k g hg)
          obtain ⟨b, o, hA, hb, hc⟩ := HC.out.2 k g hg
          subst hA
          have c0 : wr.cell? ⟨b, o + k * 2, none⟩ = some (.int .i64 g.re) := (E0.out.trans HX.out).cell (hc 0 _ rfl)
          have c1 : wr.cell? ⟨b, o + k * 2 + 1, none⟩ = some (.int .i64 g.im) := (E0.out.trans HX.out).cell (hc 1 _ rfl)
          have HE := Lib.hid (ends_cases g)
          have HT0 := Lib.hid (fun W => totalErr_any g.re W)
          have HT1 := Lib.hid (fun W => totalErr_any g.im W)
          rw [rangeE_one] at HT0 HT1
          clear hg hc hb
          generalize endsE 0 100000 g = z at HD HE
          generalize g.re = ga at *
          generalize g.im = gb at *
          have hki : (k : Int) < (M : Int) := by omega
          by_cases h1 : inB 0 100000 ga = true
          · rw [if_pos h1] at HT0
            by_cases h2 : inB 0 100000 gb = true
            · rw [if_pos h2] at HT1
              by_cases hlt2 : gb < ga
              · have HZ := Lib.hid (show z = 9 by rw [HE.out, if_pos ⟨h1, h2⟩, if_pos hlt2])
                clear h1 h2 HE
                go_wp2_with (first
                  | (go_at_call 49; (with_reducible refine (HT0.out _).mono ?_); rintro e w' ⟨rfl, rfl⟩)
                  | (go_at_call 49; (with_reducible refine (HT1.out _).mono ?_); rintro e w' ⟨rfl, rfl⟩))
                go_quiet (fail)
                go_wp2
                go_ret
                exact ⟨ret_int (by rw [HR'.out, HF.out, HD.out, HZ.out]; simp), E0.out.trans (HX.out.trans (Ext.drewN _ _))⟩
              · have HZ := Lib.hid (show z = 0 by rw [HE.out, if_pos ⟨h1, h2⟩, if_neg hlt2])
                clear h1 h2 HE
                go_wp2_with (first
                  | (go_at_call 49; (with_reducible refine (HT0.out _).mono ?_); rintro e w' ⟨rfl, rfl⟩)
                  | (go_at_call 49; (with_reducible refine (HT1.out _).mono ?_); rintro e w' ⟨rfl, rfl⟩))
                go_quiet (fail)
                go_wp2
                go_roundw
                case rel => exact ⟨k + 1, by omega, by go_num, by rw [HF.out, HD.out, HZ.out]; simp, HX.out.trans (Ext.drewN _ _)⟩
                case measure => simp [intOf]; omega
            · rw [if_neg h2] at HT1
              have HZ := Lib.hid (show z = 2 by rw [HE.out, if_neg (by simp [h2])])
              clear h1 h2 HE
              go_wp2_with (first
                | (go_at_call 49; (with_reducible refine (HT0.out _).mono ?_); rintro e w' ⟨rfl, rfl⟩)
                | (go_at_call 49; (with_reducible refine (HT1.out _).mono ?_); rintro e w' ⟨rfl, rfl⟩))
              go_ret
              exact ⟨ret_int (by rw [HR'.out, HF.out, HD.out, HZ.out]; simp), E0.out.trans HX.out⟩
          · rw [if_neg h1] at HT0
            have HZ := Lib.hid (show z = 2 by rw [HE.out, if_neg (by simp [h1])])
            clear h1 HE
            go_wp2_with (go_at_call 49; (with_reducible refine (HT0.out _).mono ?_); rintro e w' ⟨rfl, rfl⟩)
            go_ret
            exact ⟨ret_int (by rw [HR'.out, HF.out, HD.out, HZ.out]; simp), E0.out.trans HX.out⟩
        · have HE := Lib.hid (show rowsE (rs.drop k) = 0 by rw [List.drop_of_length_le (by rw [HM.out]; omega)]; rfl)
          go_wp2
          go_ret
          exact ⟨ret_int (by rw [HR'.out, HF.out, HE.out]), E0.out.trans HX.out⟩
    · have hnb : ((M : Int) != (n : Int)) = true := by simp; omega
      have HR' := Lib.hid (show shapeE n tot rs = 10 by rw [HR.out, if_neg (by simp [hq]), if_pos hn])
      clear hq hn HR
      go_enter Try.func70, Try.ntmps70
      go_wp2_with (go_at_call 49; refine (HT.out _).mono ?_; rintro e w' ⟨rfl, rfl⟩)
      go_ret
      exact ⟨ret_int HR'.out.symm, E0.out⟩
  · have hqb : (q1 != 0) = true := by simp [hq]
    have HR' := Lib.hid (show shapeE n tot rs = q1 by rw [HR.out, if_pos hq])
    clear hq HR
    go_enter Try.func70, Try.ntmps70
    go_wp2_with (go_at_call 49; refine (HT.out _).mono ?_; rintro e w' ⟨rfl, rfl⟩)
    go_ret
    exact ⟨ret_int HR'.out.symm, E0.out⟩

theorem pair_split (t : Int) (l : List Sh) (f : Int) (m : Nat) (g : Int) (q : Nat) : firstE [driveE t l f m, driveE t l g q] = pairE t l f m g q := by
  rw [firstE_two']
  unfold pairE
  by_cases h : driveE t l f m = 0
  · rw [if_neg (by simp [h]), if_neg (by simp [h]), drive_split t l g q]
    rw [drive_split] at h
    by_cases hc : (checkL t l).2 = 0
    · rw [if_neg (by simp [hc])]
    · rw [if_pos hc] at h; exact absurd h hc
  · rw [if_pos h, if_pos h]
set_option maxRecDepth 100000 in
set_option maxHeartbeats 2000000 in
theorem pairError_any (t : Int) (A : Option Addr) (n ca : Nat) (l : List Sh) (hn : l.length = n) (f : Int) (B : Option Addr) (m cb : Nat) (g : Int) (D : Option Addr) (q cd : Nat) (w : World) (hS : RowsAt 3 Sh.enc w A l) :
    Calls Try.prog 115 #[.agg #[.int .i64 t, .slice A n ca], .agg #[.int .i64 f, .slice B m cb, .int .i64 g, .slice D q cd]] w fun e w' => e = .returned (.int .i64 (pairE t l f m g q)) ∧ Ext w w' := by
  obtain ⟨W0, hW0⟩ : ∃ W0, W0 = (w.alloc (.cells #[.int .i64 t, .slice A n ca] 24)).alloc (.cells #[.int .i64 f, .slice B m cb, .int .i64 g, .slice D q cd] 96) := ⟨_, rfl⟩
  have k0 : Blk W0 w.heap.size 24 #[.int .i64 t, .slice A n ca] := by rw [hW0]; exact (Blk.new _ _ _).alloc _
  have k1 : Blk W0 (w.heap.size + 1) 96 #[.int .i64 f, .slice B m cb, .int .i64 g, .slice D q cd] := by rw [hW0]; exact Blk.newAt _ _ _ (by simp)
  have e0 : Ext w W0 := by rw [hW0]; exact (Ext.alloc _ _).trans (Ext.alloc _ _)
  have z0 : W0.cell? ⟨w.heap.size, 0, none⟩ = some (.int .i64 t) := k0.cell 0
  have z1 : W0.cell? ⟨w.heap.size, 1, none⟩ = some (.slice A n ca) := k0.cell 1
  have z2 : W0.cell? ⟨w.heap.size + 1, 0, none⟩ = some (.int .i64 f) := k1.cell 0
  have z3 : W0.cell? ⟨w.heap.size + 1, 1, none⟩ = some (.slice B m cb) := k1.cell 1
  have z4 : W0.cell? ⟨w.heap.size + 1, 2, none⟩ = some (.int .i64 g) := k1.cell 2
  have z5 : W0.cell? ⟨w.heap.size + 1, 3, none⟩ = some (.slice D q cd) := k1.cell 3
  have HC1 := Lib.hid (fun W (e : Ext w W) => checkDrive_any t A n ca l hn f B m cb W (hS.ext e))
  have HC2 := Lib.hid (fun W (e : Ext w W) => checkDrive_any t A n ca l hn g D q cd W (hS.ext e))
  have HP := Lib.hid (pair_split t l f m g q)
  have E0 := Lib.hid e0
  clear k0 k1 e0 hn hS
  generalize driveE t l f m = e1 at *
  generalize driveE t l g q = e2 at *
  go_enter Try.func115, Try.ntmps115
  go_wp2
  rw [← hW0]
  clear hW0
  refine wp_region_each [some 5, some 6, some 7, some 8, some 9, some 10, some 11, some 12, some 13, some 14, some 4] [[2], [3], [6], [5, 7], [2], [3], [10], [9, 11], [8, 12], [13], [14]]
    [Is (.agg #[.int .i64 (t), .slice A n ca]), Is (.pointer (some ⟨w.heap.size + 1, 0, none⟩)), Is (.agg #[.int .i64 (f), .slice B m cb]), Is (.int .i64 (e1)), Is (.agg #[.int .i64 (t), .slice A n ca]), Is (.pointer (some ⟨w.heap.size + 1, 2, none⟩)), Is (.agg #[.int .i64 (g), .slice D q cd]), Is (.int .i64 (e2)), Ints [e1, e2], Is (.int .i64 (firstE [e1, e2])), Is (.int .i64 (firstE [e1, e2]))]
    (by kernel_rfl) (by kernel_rfl) (by kernel_rfl) (by kernel_rfl) (by kernel_rfl) Ext (fun W => Ext W0 W)
    (fun W _ => Ext.refl W) (fun W W' h k => h.trans k) ?_ (Ext.drew _) ?_ ?_
  · repeat (refine ⟨fun _ _ _ _ k h => (by first | exact h | exact IntsAt.ext h k), ?_⟩)
    exact trivial
  · refine ⟨?_, ?_, ?_, ?_, ?_, ?_, ?_, ?_, ?_, ?_, ?_, trivial⟩
    all_goals intro ρ W ⟨kc, kg, kf⟩ hF hs
    · obtain ⟨h0, -⟩ := hs
      replace h0 : ρ (.tmp 2) = .pointer (some ⟨w.heap.size, 0, none⟩) := h0
      have hc0 : W.cell? ⟨w.heap.size, 0, none⟩ = some (.int .i64 (t)) := hF.cell (by assumption)
      have hc1 : W.cell? ⟨w.heap.size, 1, none⟩ = some (.slice A n ca) := hF.cell (by assumption)
      go_simp
      exact ⟨Ext.refl _, rfl⟩
    · obtain ⟨h0, -⟩ := hs
      replace h0 : ρ (.tmp 3) = .pointer (some ⟨w.heap.size + 1, 0, none⟩) := h0
      go_simp
      exact ⟨Ext.refl _, rfl⟩
    · obtain ⟨h0, -⟩ := hs
      replace h0 : ρ (.tmp 6) = .pointer (some ⟨w.heap.size + 1, 0, none⟩) := h0
      have hc0 : W.cell? ⟨w.heap.size + 1, 0, none⟩ = some (.int .i64 (f)) := hF.cell (by assumption)
      have hc1 : W.cell? ⟨w.heap.size + 1, 1, none⟩ = some (.slice B m cb) := hF.cell (by assumption)
      go_simp
      exact ⟨Ext.refl _, rfl⟩
    · obtain ⟨h0, h1, -⟩ := hs
      replace h0 : ρ (.tmp 5) = .agg #[.int .i64 (t), .slice A n ca] := h0
      replace h1 : ρ (.tmp 7) = .agg #[.int .i64 (f), .slice B m cb] := h1
      go_simp
      exact (HC1.out W (E0.out.trans hF)).mono fun _ _ ⟨h1, h2⟩ => ⟨_, h1, h2, rfl⟩
    · obtain ⟨h0, -⟩ := hs
      replace h0 : ρ (.tmp 2) = .pointer (some ⟨w.heap.size, 0, none⟩) := h0
      have hc0 : W.cell? ⟨w.heap.size, 0, none⟩ = some (.int .i64 (t)) := hF.cell (by assumption)
      have hc1 : W.cell? ⟨w.heap.size, 1, none⟩ = some (.slice A n ca) := hF.cell (by assumption)
      go_simp
      exact ⟨Ext.refl _, rfl⟩
    · obtain ⟨h0, -⟩ := hs
      replace h0 : ρ (.tmp 3) = .pointer (some ⟨w.heap.size + 1, 0, none⟩) := h0
      go_simp
      exact ⟨Ext.refl _, rfl⟩
    · obtain ⟨h0, -⟩ := hs
      replace h0 : ρ (.tmp 10) = .pointer (some ⟨w.heap.size + 1, 2, none⟩) := h0
      have hc0 : W.cell? ⟨w.heap.size + 1, 2, none⟩ = some (.int .i64 (g)) := hF.cell (by assumption)
      have hc1 : W.cell? ⟨w.heap.size + 1, 3, none⟩ = some (.slice D q cd) := hF.cell (by assumption)
      go_simp
      exact ⟨Ext.refl _, rfl⟩
    · obtain ⟨h0, h1, -⟩ := hs
      replace h0 : ρ (.tmp 9) = .agg #[.int .i64 (t), .slice A n ca] := h0
      replace h1 : ρ (.tmp 11) = .agg #[.int .i64 (g), .slice D q cd] := h1
      go_simp
      exact (HC2.out W (E0.out.trans hF)).mono fun _ _ ⟨h1, h2⟩ => ⟨_, h1, h2, rfl⟩
    · obtain ⟨h0, h1, -⟩ := hs
      replace h0 : ρ (.tmp 8) = .int .i64 (e1) := h0
      replace h1 : ρ (.tmp 12) = .int .i64 (e2) := h1
      go_simp
      exact ⟨Ext.alloc _ _, ints_new _ [e1, e2] _ (by simp)⟩
    · obtain ⟨h0, -⟩ := hs
      replace h0 : (Ints [e1, e2]) (ρ (.tmp 13)) W := h0
      go_simp
      exact (firstOf_any _ _ _ h0).mono fun _ _ ⟨h1, h2⟩ => ⟨_, h1, h2 ▸ Ext.refl _, rfl⟩
    · obtain ⟨h0, -⟩ := hs
      replace h0 : ρ (.tmp 14) = .int .i64 (firstE [e1, e2]) := h0
      go_simp
      exact ⟨Ext.refl _, rfl⟩
  · intro fv W1 hF hs
    obtain ⟨-, -, -, -, -, -, -, -, -, -, h4, -⟩ := hs
    replace h4 : fv 4 = .int .i64 (firstE [e1, e2]) := h4
    simp only [fin, List.filterMap]
    go_simp
    rw [HP.out]
    go_wp2
    go_ret
    exact ⟨rfl, E0.out.trans hF⟩

end Go.Proofs.Ytpaoeghdfeekoaa
