/- The examples' errors of rules, temperatures and curves. -/
import Derived.Test.YtkmekbafjnlfkaaGreatS42

namespace Go.Proofs.YtkmekbafjnlfkaaGreat
open Go.RowKit Go.Shelf Go.Mem Go.RegInv
attribute [local go_sem] RelUpon_value RelUpon_skip RelUpon_enter BigFrame.eval_const BigFrame.eval_global BigFrame.eval_func

theorem rulesErr_any {r : Ru} {A0 A1 A2 A3 : Option Addr} {n0 n1 n2 n3 c0 c1 c2 c3 : Nat} {w : World} (h : RuAt w r A0 A1 A2 A3 n0 n1 n2 n3) (h10 : n0 ≤ 10 ∧ n1 ≤ 10 ∧ n2 ≤ 10 ∧ n3 ≤ 10) :
    Calls Tryz.prog 28 #[.agg #[.slice A0 n0 c0, .slice A1 n1 c1, .slice A2 n2 c2, .slice A3 n3 c3, .int .i64 r.h0, .int .i64 r.h1, .int .i64 r.h2, .int .i64 r.h3]] w fun e w' => e = .returned (.int .i64 (rulesE r)) ∧ Ext w w' := by
  obtain ⟨W0, hW0⟩ : ∃ W0, W0 = w.alloc (.cells #[.slice A0 n0 c0, .slice A1 n1 c1, .slice A2 n2 c2, .slice A3 n3 c3, .int .i64 r.h0, .int .i64 r.h1, .int .i64 r.h2, .int .i64 r.h3] 28) := ⟨_, rfl⟩
  have E0 := Lib.hid (show Ext w W0 by rw [hW0]; exact Ext.alloc _ _)
  have HC := Lib.hid (refRules_any (c0 := c0) (c1 := c1) (c2 := c2) (c3 := c3) (h.ext E0.out) h10)
  have HE := Lib.hid (show rulesE r = (checkR r (mostR r)).2 from rfl)
  generalize rulesE r = z at HE ⊢
  rw [← HE.out] at HC
  generalize (checkR r (mostR r)).1 = ci at HC
  clear h HE
  go_enter Tryz.func28, Tryz.ntmps28
  go_wp2_with (go_at_call 17; rw [← hW0]; refine HC.out.mono ?_; rintro e W1 ⟨rfl, hx⟩; have X1 := Lib.hid hx; clear hx)
  go_ret
  exact ⟨rfl, E0.out.trans X1.out⟩
theorem kelE_eq (k : Int) : kelE k = if withinB k 1 3000 = true then 0 else 2 := rangeE_one 1 3000 k
theorem kelvinErr_any (k : Int) (w : World) : Calls Tryz.prog 30 #[.int .i64 k] w fun e w' => e = .returned (.int .i64 (kelE k)) ∧ Ext w w' := by
  have H1 := Lib.hid (fun W => isKelvin_any k W)
  have HE := Lib.hid (kelE_eq k)
  generalize kelE k = z at HE ⊢
  generalize withinB k 1 3000 = b at H1 HE
  cases b
  all_goals
    go_enter Tryz.func30, Tryz.ntmps30
    go_wp2_with (go_at_call 98; refine (H1.out _).mono ?_; rintro e W1 ⟨rfl, hx⟩; have X1 := Lib.hid hx; clear hx)
    go_ret
    exact ⟨ret_int (by rw [HE.out]; rfl), X1.out⟩
theorem curveE_eq (xs : List Int) : curveE xs = if (200 : Int) < (xs.length : Int) then 8 else (firstAt (kelAt xs) xs.length 0).2 := by
  unfold curveE
  by_cases h : (200 : Int) < (xs.length : Int)
  · rw [if_pos h, decide_eq_true h]; rfl
  · rw [if_neg h, decide_eq_false h]
    by_cases h2 : (firstAt (kelAt xs) xs.length 0).2 = 0
    · rw [h2]; rfl
    · simp only [firstE, errIf, if_pos h2]
      rfl
set_option maxRecDepth 100000 in
set_option maxHeartbeats 1000000 in
theorem curveErr_any {A : Option Addr} {n ca : Nat} {xs : List Int} {w : World} (hx : IntsAt w (.slice A n ca) xs) : Calls Tryz.prog 32 #[.slice A n ca] w fun e w' => e = .returned (.int .i64 (curveE xs)) ∧ Ext w w' := by
  have hn : xs.length = n := by
    rcases hx with ⟨_, _, h1, h2⟩ | ⟨_, _, _, h1, _, _, _⟩
    · simp only [Value.slice.injEq] at h1; rw [h2, h1.2.1]; rfl
    · simp only [Value.slice.injEq] at h1; exact h1.2.1.symm
  have HE := Lib.hid (curveE_eq xs)
  rw [hn] at HE
  generalize curveE xs = z at HE ⊢
  by_cases h200 : (200 : Int) < (n : Int)
  · have HZ := Lib.hid (HE.out.trans (if_pos h200))
    clear HE hx hn
    go_enter Tryz.func32, Tryz.ntmps32
    go_wp2
    go_ret
    exact ⟨ret_int HZ.out.symm, Ext.refl _⟩
  · have HZ := Lib.hid (HE.out.trans (if_neg h200))
    have HX := Lib.hid hx
    have HN := Lib.hid hn
    have HK := Lib.hid (fun (k : Int) (W : World) => kelvinErr_any k W)
    clear HE hx hn
    go_enter Tryz.func32, Tryz.ntmps32
    go_wp2
    go_loopw [3] (fun i wr => ∃ j : Nat, j ≤ n ∧ i = .int .i64 j ∧ firstAt (kelAt xs) n 0 = firstAt (kelAt xs) (n - j) j ∧ Ext w wr) (fun i _ => n - (intOf i).toNat)
    case atStart => exact ⟨0, Nat.zero_le _, rfl, rfl, Ext.refl _⟩
    case round =>
      obtain ⟨j, hj, rfl, hr, hx⟩ := hrel
      have HR := Lib.hid hr
      have HW := Lib.hid hx
      clear hr hx
      by_cases hlt : j < n
      · have HD := Lib.hid (firstAt_step (kelAt xs) hlt)
        obtain ⟨b, o, hA, hc⟩ : ∃ b o, A = some ⟨b, o, none⟩ ∧ w.cell? ⟨b, o + j, none⟩ = some (.int .i64 (xs.getD j 0)) := by
          rcases HX.out with ⟨_, _, h1, h2⟩ | ⟨b, o, c', h1, hb, hm, hc⟩
          · have := HN.out; rw [h2] at this; simp at this; omega
          · simp only [Value.slice.injEq] at h1
            exact ⟨b, o, h1.1, hc j (by rw [HN.out]; exact hlt)⟩
        subst hA
        have cj : wr.cell? ⟨b, o + j, none⟩ = some (.int .i64 (xs.getD j 0)) := HW.out.cell hc
        have hji : (j : Int) < (n : Int) := by omega
        have HKJ := Lib.hid (show kelAt xs j = kelE (xs.getD j 0) from rfl)
        have HC := Lib.hid (HK.out (xs.getD j 0))
        rw [← HKJ.out] at HC
        generalize kelAt xs j = ev at HD HC HKJ
        clear hc
        by_cases he : ev = 0
        · have he' : (ev != 0) = false := by simp [he]
          have HE1 := Lib.hid he
          clear he
          go_wp2_with (go_at_call 30; refine (HC.out _).mono ?_; rintro e W1 ⟨rfl, hx⟩; have X1 := Lib.hid hx; clear hx)
          go_roundw
          case rel => exact ⟨j + 1, by omega, by go_num, by rw [HR.out, HD.out, if_neg (by rw [HE1.out]; simp)], HW.out.trans X1.out⟩
          case measure => simp [intOf]; omega
        · have he' : (ev != 0) = true := by simp [he]
          have HZ2 := Lib.hid (show z = ev by rw [HZ.out, HR.out, HD.out, if_pos he])
          clear he
          go_wp2_with (go_at_call 30; refine (HC.out _).mono ?_; rintro e W1 ⟨rfl, hx⟩; have X1 := Lib.hid hx; clear hx)
          go_ret
          exact ⟨ret_int HZ2.out.symm, HW.out.trans X1.out⟩
      · obtain rfl : n = j := by omega
        have HZ2 := Lib.hid (show z = 0 by rw [HZ.out, HR.out, Nat.sub_self]; rfl)
        go_wp2
        go_ret
        exact ⟨ret_int HZ2.out.symm, HW.out⟩

end Go.Proofs.YtkmekbafjnlfkaaGreat
