/- Errors of rules, steels and curves. -/
import Derived.Test.YtkmekbafjnlfkaaGreatS9
import Derived.Test.YtkmekbafjnlfkaaGreatS11

namespace Go.Proofs.YtkmekbafjnlfkaaGreat
open Go.RowKit Go.Shelf Go.Mem Go.RegInv
attribute [local go_sem] RelUpon_value RelUpon_skip RelUpon_enter BigFrame.eval_const BigFrame.eval_global BigFrame.eval_func

/-- The error of rules. -/
def rulesE (r : Ru) : Int := (checkR r (mostR r)).2
theorem rulesError_any {r : Ru} {u : Value} {w : World} (hR : RuV r u w) : Calls Tryz.prog 91 #[u] w fun e w' => e = .returned (.int .i64 (rulesE r)) ∧ Ext w w' := by
  have hR0 := hR
  obtain ⟨A0, A1, A2, A3, n0, n1, n2, n3, c0, c1, c2, c3, rfl, h⟩ := hR
  obtain ⟨W0, hW0⟩ : ∃ W0, W0 = w.alloc (.cells #[.slice A0 n0 c0, .slice A1 n1 c1, .slice A2 n2 c2, .slice A3 n3 c3, .int .i64 r.h0, .int .i64 r.h1, .int .i64 r.h2, .int .i64 r.h3] 28) := ⟨_, rfl⟩
  have e0 : Ext w W0 := by rw [hW0]; exact Ext.alloc _ _
  have HC := Lib.hid (checkRules_any (hR0.ext e0))
  have E0 := Lib.hid e0
  have HR := Lib.hid (show rulesE r = (checkR r (mostR r)).2 from rfl)
  have HW := Lib.hid hW0
  clear hR0 h e0 hW0
  go_enter Tryz.func91, Tryz.ntmps91
  go_wp2_with (go_at_call 15; rw [← HW.out]; refine HC.out.mono ?_; rintro e W1 ⟨rfl, hx⟩; have X1 := Lib.hid hx; clear hx)
  go_ret
  exact ⟨ret_int HR.out.symm, E0.out.trans X1.out⟩

def pickE (h c d : Int) : Int := rangeE 0 1000 [h, c, d]
set_option maxRecDepth 100000 in
theorem checkPick_any (h c d : Int) (w : World) : Calls Tryz.prog 20 #[.agg #[.int .i64 h, .int .i64 c, .int .i64 d]] w fun e w' => e = .returned (.int .i64 (pickE h c d)) ∧ Ext w w' := by
  have e0 : Ext w ((w.alloc (.cells #[.int .i64 h, .int .i64 c, .int .i64 d] 32)).alloc (.cells #[.int .i64 h, .int .i64 c, .int .i64 d] 3)) := (Ext.alloc _ _).trans (Ext.alloc _ _)
  have hi : IntsAt ((w.alloc (.cells #[.int .i64 h, .int .i64 c, .int .i64 d] 32)).alloc (.cells #[.int .i64 h, .int .i64 c, .int .i64 d] 3)) (.slice (some ⟨w.heap.size + 1, 0, none⟩) 3 3) [h, c, d] := ints_own (own_new (Blk.newAt _ _ _ (by simp)) (Nat.zero_le _) 1 3 rfl (by decide)) (by decide)
  have H := Lib.hid (rangeError_any 0 1000 _ [h, c, d] _ hi)
  clear hi
  have HP := Lib.hid (show pickE h c d = rangeE 0 1000 [h, c, d] by rw [pickE])
  go_enter Tryz.func20, Tryz.ntmps20
  go_wp2_with (go_at_call 89; refine H.out.mono ?_; rintro e W1 ⟨rfl, hx⟩; have X1 := Lib.hid hx; clear hx)
  go_ret
  exact ⟨ret_int HP.out.symm, e0.trans X1.out⟩

def kelAt (xs : List Int) (k : Nat) : Int := kelE (xs.getD k 0)
set_option maxRecDepth 100000 in
set_option maxHeartbeats 1000000 in
theorem firstError132_any {v : Value} {xs : List Int} {w : World} (hx : IntsAt w v xs) : Calls Tryz.prog 132 #[v, .func (.func 93) #[] #[]] w fun e w' => e = .returned (.tuple #[.int .i64 (firstAt (kelAt xs) xs.length 0).1, .int .i64 (firstAt (kelAt xs) xs.length 0).2]) ∧ Ext w w' := by
  rcases hx with ⟨ao, ca, rfl, rfl⟩ | ⟨b, o, ca, rfl, hb, hm, hc⟩
  · have HA := Lib.hid (show firstAt (kelAt []) ([] : List Int).length 0 = (0, 0) from rfl)
    rw [HA.out]
    go_enter Tryz.func132, Tryz.ntmps132
    go_wp2
    refine wp_loop_rounds 1 ?_
    rw [rounds_succ]
    go_wp2
    go_ret2
    exact ⟨rfl, Ext.refl _⟩
  · have HC := Lib.hid hc
    clear hc
    generalize xs.length = n at *
    go_enter Tryz.func132, Tryz.ntmps132
    go_wp2
    go_loopw [11] (fun i wr => ∃ k : Nat, k ≤ n ∧ i = .int .i64 k ∧ firstAt (kelAt xs) n 0 = firstAt (kelAt xs) (n - k) k ∧ Ext w wr) (fun i _ => n - (intOf i).toNat)
    case atStart => exact ⟨0, Nat.zero_le _, rfl, rfl, Ext.refl _⟩
    case round =>
      obtain ⟨k, hk, rfl, hr, hx⟩ := hrel
      have HR := Lib.hid hr
      have HX := Lib.hid hx
      clear hr hx
      by_cases hlt : k < n
      · have HD := Lib.hid (firstAt_step (kelAt xs) hlt)
        have c0 : wr.cell? ⟨b, o + k, none⟩ = some (.int .i64 (xs.getD k 0)) := HX.out.cell (HC.out k hlt)
        have HE := Lib.hid (show kelAt xs k = kelE (xs.getD k 0) from rfl)
        generalize xs.getD k 0 = x at c0 HE
        have HK := Lib.hid (fun W => kelvinError_any x W)
        have hki : (k : Int) < (n : Int) := by omega
        generalize kelE x = z at HE HK
        by_cases hz : z = 0
        · have hz' : (z != 0) = false := by simp [hz]
          have HZ := Lib.hid hz
          clear hz
          go_wp2_with (go_at_call 93; refine (HK.out _).mono ?_; rintro e W1 ⟨rfl, hx⟩; have X1 := Lib.hid hx; clear hx)
          go_roundw
          case rel => exact ⟨k + 1, by omega, by go_num, by rw [HR.out, HD.out, if_neg (by rw [HE.out, HZ.out]; simp)], HX.out.trans X1.out⟩
          case measure => simp [intOf]; omega
        · have hz' : (z != 0) = true := by simp [hz]
          have HZ := Lib.hid hz
          have HA := Lib.hid (show firstAt (kelAt xs) n 0 = ((k : Int), z) by rw [HR.out, HD.out, if_pos (by rw [HE.out]; exact HZ.out), HE.out])
          clear hz
          go_wp2_with (go_at_call 93; refine (HK.out _).mono ?_; rintro e W1 ⟨rfl, hx⟩; have X1 := Lib.hid hx; clear hx)
          rw [HA.out]
          go_ret2
          exact ⟨rfl, HX.out.trans X1.out⟩
      · have HA := Lib.hid (show firstAt (kelAt xs) n 0 = (0, 0) by rw [HR.out, show n - k = 0 by omega]; rfl)
        go_wp2
        rw [HA.out]
        go_ret2
        exact ⟨rfl, HX.out⟩

/-- The error of a curve. -/
def curveE (xs : List Int) : Int := firstE [errIf (decide ((200 : Int) < (xs.length : Int))) 8, (firstAt (kelAt xs) xs.length 0).2]
theorem ints_slice {W : World} {v : Value} {xs : List Int} (h : IntsAt W v xs) : ∃ A c, v = .slice A xs.length c := by
  rcases h with ⟨ao, ca, rfl, rfl⟩ | ⟨b, o, ca, rfl, _⟩
  · exact ⟨_, _, rfl⟩
  · exact ⟨_, _, rfl⟩
set_option maxRecDepth 100000 in
theorem curveError_any {v : Value} {xs : List Int} {w : World} (hx : IntsAt w v xs) : Calls Tryz.prog 92 #[v, .func (.func 93) #[] #[]] w fun e w' => e = .returned (.int .i64 (curveE xs)) ∧ Ext w w' := by
  have H := Lib.hid (firstError132_any hx)
  obtain ⟨A, c, rfl⟩ := ints_slice hx
  have HC := Lib.hid (show curveE xs = firstE [errIf (decide ((200 : Int) < (xs.length : Int))) 8, (firstAt (kelAt xs) xs.length 0).2] from rfl)
  clear hx
  generalize (firstAt (kelAt xs) xs.length 0).2 = z at *
  generalize (firstAt (kelAt xs) xs.length 0).1 = z1 at *
  generalize xs.length = n at *
  go_enter Tryz.func92, Tryz.ntmps92
  go_wp2_with (first
    | (go_at_call 132; refine H.out.mono ?_; rintro e W1 ⟨rfl, hx⟩; have X1 := Lib.hid hx; clear hx)
    | (go_at_call 72; refine (errorIf_any _ _ _).mono ?_; rintro e w' ⟨rfl, rfl⟩)
    | (go_at_call 90; refine (firstOf_any _ [errIf (decide ((200 : Int) < (n : Int))) 8, z] _ (ints_new W1 [errIf (decide ((200 : Int) < (n : Int))) 8, z] _ (by simp))).mono ?_; rintro e w' ⟨rfl, rfl⟩))
  go_ret
  exact ⟨ret_int HC.out.symm, X1.out.trans (Ext.alloc _ _)⟩

end Go.Proofs.YtkmekbafjnlfkaaGreat
