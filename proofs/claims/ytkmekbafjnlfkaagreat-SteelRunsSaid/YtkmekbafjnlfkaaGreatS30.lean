/- The error of a state: the reference. -/
import Derived.Test.YtkmekbafjnlfkaaGreatS29

namespace Go.Proofs.YtkmekbafjnlfkaaGreat
open Go.RowKit Go.Shelf Go.Mem Go.RegInv
attribute [local go_sem] RelUpon_value RelUpon_skip RelUpon_enter BigFrame.eval_const BigFrame.eval_global BigFrame.eval_func

theorem all_getD {f : Int → Bool} {l : List Int} (h : ∀ j, j < l.length → f (l.getD j 0) = true) : l.all f = true := by
  rw [List.all_eq_true]
  intro x hx
  obtain ⟨i, hi, rfl⟩ := List.mem_iff_getElem.1 hx
  have := h i hi
  rwa [List.getD_eq_getElem?_getD, List.getElem?_eq_getElem hi] at this
theorem all_notD {f : Int → Bool} {l : List Int} {j : Nat} (hj : j < l.length) (h : f (l.getD j 0) = false) : l.all f = false := by
  rw [List.all_eq_false]
  rw [List.getD_eq_getElem?_getD, List.getElem?_eq_getElem hj] at h
  exact ⟨l[j], List.getElem_mem hj, by simp at h; simp [h]⟩
set_option maxRecDepth 100000 in
set_option maxHeartbeats 2000000 in
theorem stateErr_any (p a b m wt g t : Int) (w : World) : Calls Tryz.prog 19 #[.agg #[.int .i64 p, .int .i64 a, .int .i64 b, .int .i64 m, .int .i64 wt, .int .i64 g, .int .i64 t]] w fun e w' => e = .returned (.int .i64 (stateE [p, a, b, m, wt, g, t])) ∧ Ext w w' := by
  have HE := Lib.hid (stateE_eq p a b m wt g t)
  generalize stateE [p, a, b, m, wt, g, t] = z at HE ⊢
  obtain ⟨W0, hW0⟩ : ∃ W0, W0 = (w.alloc (.cells #[.int .i64 p, .int .i64 a, .int .i64 b, .int .i64 m, .int .i64 wt, .int .i64 g, .int .i64 t] 30)).alloc (.cells #[.int .i64 p, .int .i64 a, .int .i64 b, .int .i64 m, .int .i64 wt] 3) := ⟨_, rfl⟩
  have K0 := Lib.hid (show Blk W0 w.heap.size 30 #[.int .i64 p, .int .i64 a, .int .i64 b, .int .i64 m, .int .i64 wt, .int .i64 g, .int .i64 t] by rw [hW0]; exact (Blk.new _ _ _).alloc _)
  have k1 : Blk W0 (w.heap.size + 1) 3 #[.int .i64 p, .int .i64 a, .int .i64 b, .int .i64 m, .int .i64 wt] := by rw [hW0]; exact Blk.newAt _ _ _ (by simp)
  have E0 := Lib.hid (show Ext w W0 by rw [hW0]; exact (Ext.alloc _ _).trans (Ext.alloc _ _))
  have HG := Lib.hid (fun W => within_any g 0 100000 W)
  have HT := Lib.hid (fun W => within_any t 0 1000000 W)
  obtain ⟨bg, hbg⟩ : ∃ b, b = withinB g 0 100000 := ⟨_, rfl⟩
  obtain ⟨bt, hbt⟩ : ∃ b, b = withinB t 0 1000000 := ⟨_, rfl⟩
  rw [← hbg, ← hbt] at HE
  rw [← hbg] at HG
  rw [← hbt] at HT
  clear hbg hbt
  have HC := Lib.hid (show ∀ k, k < 5 → W0.cell? ⟨w.heap.size + 1, k, none⟩ = some (.int .i64 ([p, a, b, m, wt].getD k 0)) by
    intro k hk
    rw [k1.cell]
    rcases k with _ | _ | _ | _ | _ | k
    · rfl
    · rfl
    · rfl
    · rfl
    · rfl
    · omega)
  have HB := Lib.hid (show [p, a, b, m, wt].all (fun x => withinB x 0 1000000) = true → (0 ≤ p ∧ p ≤ 1000000) ∧ (0 ≤ a ∧ a ≤ 1000000) ∧ (0 ≤ b ∧ b ≤ 1000000) ∧ (0 ≤ m ∧ m ≤ 1000000) by
    intro h
    simp [withinB] at h
    omega)
  have HL := Lib.hid (show [p, a, b, m, wt].length = 5 from rfl)
  generalize [p, a, b, m, wt] = l5 at HE HC HB HL
  clear k1
  go_enter Tryz.func19, Tryz.ntmps19
  go_wp2
  rw [← hW0]
  clear hW0
  go_loopw [4] (fun i wr => ∃ k : Nat, k ≤ 5 ∧ i = .int .i64 k ∧ Hid (∀ j, j < k → withinB (l5.getD j 0) 0 1000000 = true) ∧ Ext W0 wr) (fun i _ => 5 - (intOf i).toNat)
  case atStart => exact ⟨0, Nat.zero_le _, rfl, Lib.hid (fun j h => absurd h (Nat.not_lt_zero j)), Ext.refl _⟩
  case round =>
    obtain ⟨k, hk, rfl, HR, hx⟩ := hrel
    have HX := Lib.hid hx
    clear hx
    by_cases hlt : k < 5
    · have c0 : wr.cell? ⟨w.heap.size + 1, k, none⟩ = some (.int .i64 (l5.getD k 0)) := HX.out.cell (HC.out k hlt)
      have hki : (k : Int) < 5 := by omega
      have HK := Lib.hid (fun W => within_any (l5.getD k 0) 0 1000000 W)
      have HBX := Lib.hid (show withinB (l5.getD k 0) 0 1000000 = withinB (l5.getD k 0) 0 1000000 from rfl)
      generalize hx5 : l5.getD k 0 = x at c0 HK
      have HX5 := Lib.hid hx5
      clear hx5 HBX
      obtain ⟨bx, hbx⟩ : ∃ b, b = withinB x 0 1000000 := ⟨_, rfl⟩
      rw [← hbx] at HK
      have HBX := Lib.hid hbx
      clear hbx
      cases bx with
      | false =>
        go_wp2_with (go_at_call 34; refine (HK.out _).mono ?_; rintro e W1 ⟨rfl, hx⟩; have X1 := Lib.hid hx; clear hx)
        go_ret
        exact ⟨ret_int (by rw [HE.out, all_notD (j := k) (by rw [HL.out]; exact hlt) (by rw [HX5.out]; exact HBX.out.symm)]; rfl), (E0.out.trans HX.out).trans X1.out⟩
      | true =>
        go_wp2_with (go_at_call 34; refine (HK.out _).mono ?_; rintro e W1 ⟨rfl, hx⟩; have X1 := Lib.hid hx; clear hx)
        go_roundw
        case rel => exact ⟨k + 1, by omega, by go_num, Lib.hid (fun j hj => by
          rcases Nat.lt_or_ge j k with h | h
          · exact HR.out j h
          · obtain rfl : j = k := by omega
            rw [HX5.out]; exact HBX.out.symm), HX.out.trans X1.out⟩
        case measure => simp [intOf]; omega
    · have hall := all_getD (l := l5) (f := fun x => withinB x 0 1000000) (fun j hj => HR.out j (by rw [HL.out] at hj; omega))
      obtain ⟨⟨p0, p1⟩, ⟨a0, a1⟩, ⟨b0, b1⟩, m0, m1⟩ := HB.out hall
      have HE2 := Lib.hid (HE.out.trans (if_pos hall))
      clear hall HE HC HB HL HR
      have y5 : wr.cell? ⟨w.heap.size, 5, none⟩ = some (.int .i64 g) := (K0.out.ext HX.out).cell 5
      cases bg with
      | false =>
        go_wp2_with (go_at_call 34; refine (HG.out _).mono ?_; rintro e W1 ⟨rfl, hx⟩; have X1 := Lib.hid hx; clear hx)
        go_ret
        exact ⟨ret_int (by rw [HE2.out]; rfl), (E0.out.trans HX.out).trans X1.out⟩
      | true =>
        cases bt with
        | false =>
          go_wp2_with (go_at_call 34; refine (HG.out _).mono ?_; rintro e W1 ⟨rfl, hx⟩; have X1 := Lib.hid hx; have y6 : W1.cell? ⟨w.heap.size, 6, none⟩ = some (.int .i64 t) := (K0.out.ext (HX.out.trans hx)).cell 6; clear hx HG; refine Hid.out ?_)
          refine Lib.hid ?_
          go_wp2_with (go_at_call 34; refine (HT.out _).mono ?_; rintro e W2 ⟨rfl, hx⟩; have X2 := Lib.hid hx; clear hx)
          go_ret
          exact ⟨ret_int (by rw [HE2.out]; rfl), ((E0.out.trans HX.out).trans X1.out).trans X2.out⟩
        | true =>
          have hw1 : IntKind.i64.wrap (p + a) = p + a := wrap_id _ (by omega) (by omega)
          have hw2 : IntKind.i64.wrap (p + a + b) = p + a + b := wrap_id _ (by omega) (by omega)
          have hw3 : IntKind.i64.wrap (p + a + b + m) = p + a + b + m := wrap_id _ (by omega) (by omega)
          by_cases hs : p + a + b + m = 1000000
          · have hs' : (p + a + b + m != 1000000) = false := by simp [hs]
            have HS := Lib.hid hs
            clear hs
            go_wp2_with (go_at_call 34; refine (HG.out _).mono ?_; rintro e W1 ⟨rfl, hx⟩; have X1 := Lib.hid hx; have y6 : W1.cell? ⟨w.heap.size, 6, none⟩ = some (.int .i64 t) := (K0.out.ext (HX.out.trans hx)).cell 6; clear hx HG; refine Hid.out ?_)
            refine Lib.hid ?_
            go_wp2_with (go_at_call 34; refine (HT.out _).mono ?_; rintro e W2 ⟨rfl, hx⟩; have X2 := Lib.hid hx; have y0 : W2.cell? ⟨w.heap.size, 0, none⟩ = some (.int .i64 p) := (K0.out.ext (HX.out.trans (X1.out.trans hx))).cell 0; have y1 : W2.cell? ⟨w.heap.size, 1, none⟩ = some (.int .i64 a) := (K0.out.ext (HX.out.trans (X1.out.trans hx))).cell 1; have y2 : W2.cell? ⟨w.heap.size, 2, none⟩ = some (.int .i64 b) := (K0.out.ext (HX.out.trans (X1.out.trans hx))).cell 2; have y3 : W2.cell? ⟨w.heap.size, 3, none⟩ = some (.int .i64 m) := (K0.out.ext (HX.out.trans (X1.out.trans hx))).cell 3; clear hx)
            go_ret
            exact ⟨ret_int (by rw [HE2.out]; simp [HS.out]), ((E0.out.trans HX.out).trans X1.out).trans X2.out⟩
          · have hs' : (p + a + b + m != 1000000) = true := by simp [hs]
            have HS := Lib.hid hs
            clear hs
            go_wp2_with (go_at_call 34; refine (HG.out _).mono ?_; rintro e W1 ⟨rfl, hx⟩; have X1 := Lib.hid hx; have y6 : W1.cell? ⟨w.heap.size, 6, none⟩ = some (.int .i64 t) := (K0.out.ext (HX.out.trans hx)).cell 6; clear hx HG; refine Hid.out ?_)
            refine Lib.hid ?_
            go_wp2_with (go_at_call 34; refine (HT.out _).mono ?_; rintro e W2 ⟨rfl, hx⟩; have X2 := Lib.hid hx; have y0 : W2.cell? ⟨w.heap.size, 0, none⟩ = some (.int .i64 p) := (K0.out.ext (HX.out.trans (X1.out.trans hx))).cell 0; have y1 : W2.cell? ⟨w.heap.size, 1, none⟩ = some (.int .i64 a) := (K0.out.ext (HX.out.trans (X1.out.trans hx))).cell 1; have y2 : W2.cell? ⟨w.heap.size, 2, none⟩ = some (.int .i64 b) := (K0.out.ext (HX.out.trans (X1.out.trans hx))).cell 2; have y3 : W2.cell? ⟨w.heap.size, 3, none⟩ = some (.int .i64 m) := (K0.out.ext (HX.out.trans (X1.out.trans hx))).cell 3; clear hx)
            go_ret
            exact ⟨ret_int (by rw [HE2.out]; simp [HS.out]), ((E0.out.trans HX.out).trans X1.out).trans X2.out⟩

end Go.Proofs.YtkmekbafjnlfkaaGreat
