/- The errors of ladders and drives, by the reference. -/
import Derived.Test.YtpaoeghdfeekoaaG1
import Derived.Test.YtpaoeghdfeekoaaE1
namespace Go.Proofs.Ytpaoeghdfeekoaa
open Go.RowKit Go.Shelf Go.Mem Go.RegInv

theorem rangeE_one (lo hi x : Int) : rangeE lo hi [x] = if inB lo hi x = true then 0 else 2 := by
  unfold rangeE errIf inB outB
  by_cases h1 : lo ≤ x <;> by_cases h2 : x ≤ hi
  · have e1 : ¬ x < lo := by omega
    have e2 : ¬ hi < x := by omega
    simp [h1, h2, e1, e2]
  · have e2 : hi < x := by omega
    simp [h2, e2]
  · have e1 : x < lo := by omega
    simp [h1, e1]
  · have e1 : x < lo := by omega
    simp [h1, e1]
theorem outB_not (lo hi x : Int) : outB lo hi x = !inB lo hi x := by
  simp only [inB, outB, Bool.not_and, ← decide_not, Int.not_le]
theorem rangeE_two (lo hi x y : Int) : rangeE lo hi [x, y] = if inB lo hi x = true ∧ inB lo hi y = true then 0 else 2 := by
  unfold rangeE errIf
  simp only [List.any_cons, List.any_nil, Bool.or_false, outB_not]
  cases inB lo hi x <;> cases inB lo hi y <;> simp

theorem shell_good {g c h : Int} (h1 : inB 1 4 g = true) (h2 : inB 1 4 c = true) (h3 : inB 1 4 h = true) : shellE g c h = if c < h then 9 else 0 := by
  unfold shellE
  rw [rangeE_one, rangeE_two, if_pos h1, if_pos ⟨h2, h3⟩]
  by_cases hlt : c < h <;> simp [firstE, errIf, hlt]
theorem shell_bad1 {g c h : Int} (h1 : inB 1 4 g = false) : shellE g c h = 2 := by
  unfold shellE
  rw [rangeE_one, if_neg (by simp [h1])]; simp [firstE]
theorem shell_bad2 {g c h : Int} (h1 : inB 1 4 g = true) (h2 : inB 1 4 c = false ∨ inB 1 4 h = false) : shellE g c h = 2 := by
  unfold shellE
  rw [rangeE_one, rangeE_two, if_pos h1, if_neg (by rcases h2 with h | h <;> simp [h])]; simp [firstE]
theorem head_cases (t : Int) (n : Nat) : headE t n = if inB 1 20 t = true then (if n = 0 then 10 else if 4 < n then 8 else 0) else 2 := by
  unfold headE
  rw [rangeE_one]
  by_cases h1 : inB 1 20 t = true
  · rw [if_pos h1, if_pos h1]
    by_cases h0 : n = 0
    · simp [firstE, errIf, h0]
    · by_cases h4 : 4 < n
      · have : (4 : Int) < (n : Int) := by omega
        simp [firstE, errIf, h0, h4, this]
      · have : ¬ (4 : Int) < (n : Int) := by omega
        simp [firstE, errIf, h0, h4, this]
  · rw [if_neg h1, if_neg h1]; simp [firstE]

set_option maxRecDepth 100000 in
set_option maxHeartbeats 1000000 in
theorem refCheckLadder_any (t : Int) (A : Option Addr) (n cap : Nat) (l : List Sh) (hn : l.length = n) (w : World) (hS : RowsAt 3 Sh.enc w A l) :
    Calls Try.prog 23 #[.agg #[.int .i64 t, .slice A n cap]] w fun e w' => e = .returned (.tuple #[.int .i64 (checkL t l).1, .int .i64 (checkL t l).2]) ∧ Ext w w' := by
  have HN := Lib.hid hn
  have hm : n ≤ 1152921504606846976 := by have := hS.1; omega
  have HS := Lib.hid hS
  have HL := Lib.hid (show checkL t l = if headE t n ≠ 0 then (0, headE t n) else firstBad l 0 by unfold checkL; rw [hn])
  have HH := Lib.hid (head_cases t n)
  have e0 := Ext.alloc w (.cells #[.int .i64 t, .slice A n cap] 24)
  have E0 := Lib.hid e0
  clear hn hS e0
  by_cases h1 : inB 1 20 t = true
  · have H1 := Lib.hid h1
    by_cases h0 : n = 0
    · have HR := Lib.hid (show checkL t l = (0, 10) by rw [HL.out, HH.out, if_pos h1, if_pos h0]; rfl)
      have hb0 : ((n : Int) == 0) = true := by simp [h0]
      clear h0 h1
      generalize checkL t l = r at *
      go_enter Try.func23, Try.ntmps23
      go_wp2_with (go_at_call 40; refine (within_any _ _ _ _).mono ?_; rintro e w' ⟨rfl, rfl⟩; rw [H1.out])
      go_ret2
      exact ⟨ret_pair (by rw [HR.out]) (by rw [HR.out]), E0.out⟩
    · have hb0 : ((n : Int) == 0) = false := by simp [h0]
      by_cases h4 : 4 < n
      · have HR := Lib.hid (show checkL t l = (0, 8) by rw [HL.out, HH.out, if_pos h1, if_neg h0, if_pos h4]; rfl)
        have hb4 : decide ((4 : Int) < (n : Int)) = true := by simp; omega
        clear h0 h1 h4
        generalize checkL t l = r at *
        go_enter Try.func23, Try.ntmps23
        go_wp2_with (go_at_call 40; refine (within_any _ _ _ _).mono ?_; rintro e w' ⟨rfl, rfl⟩; rw [H1.out])
        go_ret2
        exact ⟨ret_pair (by rw [HR.out]) (by rw [HR.out]), E0.out⟩
      · have HR := Lib.hid (show checkL t l = firstBad l 0 by rw [HL.out, HH.out, if_pos h1, if_neg h0, if_neg h4]; rfl)
        have hb4 : decide ((4 : Int) < (n : Int)) = false := by simp; omega
        have hn4 : n ≤ 4 := by omega
        clear h0 h1 h4 HL HH
        generalize checkL t l = r at *
        go_enter Try.func23, Try.ntmps23
        go_wp2_with (go_at_call 40; refine (within_any _ _ _ _).mono ?_; rintro e w' ⟨rfl, rfl⟩; rw [H1.out])
        have z0 : (w.alloc (.cells #[.int .i64 t, .slice A n cap] 24)).cell? ⟨w.heap.size, 1, none⟩ = some (.slice A n cap) := by go_simp
        generalize w.alloc (.cells #[.int .i64 t, .slice A n cap] 24) = W at *
        have HZ0 := Lib.hid z0
        clear z0
        go_loopw [4] (fun i wr => ∃ k : Nat, k ≤ n ∧ i = .int .i64 k ∧ firstBad l 0 = firstBad (l.drop k) k ∧ Ext W wr) (fun i _ => n - (intOf i).toNat)
        case atStart => exact ⟨0, Nat.zero_le _, rfl, rfl, Ext.refl _⟩
        case round =>
          obtain ⟨k, hk, rfl, hr, hx⟩ := hrel
          have HF := Lib.hid hr
          have z0 : wr.cell? ⟨w.heap.size, 1, none⟩ = some (.slice A n cap) := hx.cell HZ0.out
          have HX := Lib.hid hx
          clear hr hx
          by_cases hlt : k < n
          · obtain ⟨s, hs⟩ : ∃ s, l[k]? = some s := ⟨_, List.getElem?_eq_getElem (by rw [HN.out]; exact hlt)⟩
            have HD := Lib.hid (firstBad_drop l k s hs)
            obtain ⟨b, o, hA, hb, hc⟩ := HS.out.2 k s hs
            subst hA
            have hcg : wr.cell? ⟨b, o + k * 3, none⟩ = some (.int .i64 s.g) := (E0.out.trans HX.out).cell (hc 0 _ rfl)
            have hcc : wr.cell? ⟨b, o + k * 3 + 1, none⟩ = some (.int .i64 s.c) := (E0.out.trans HX.out).cell (hc 1 _ rfl)
            have hch : wr.cell? ⟨b, o + k * 3 + 2, none⟩ = some (.int .i64 s.h) := (E0.out.trans HX.out).cell (hc 2 _ rfl)
            have HE := Lib.hid (show s.e = shellE s.g s.c s.h from rfl)
            clear hs hc hb
            generalize s.e = z at HD HE
            generalize s.g = sg at hcg HE
            generalize s.c = sc at hcc HE
            generalize s.h = sh at hch HE
            have hki : (k : Int) < (n : Int) := by omega
            cases hb1 : inB 1 4 sg
            · have HB1 := Lib.hid hb1
              have HZ := Lib.hid (show z = 2 by rw [HE.out]; exact shell_bad1 hb1)
              clear hb1
              go_wp2_with (go_at_call 40; refine (within_any _ _ _ _).mono ?_; rintro e w' ⟨rfl, rfl⟩; rw [HB1.out])
              go_ret2
              exact ⟨ret_pair (by rw [HR.out, HF.out, HD.out, if_pos (by rw [HZ.out]; decide)]) (by rw [HR.out, HF.out, HD.out, if_pos (by rw [HZ.out]; decide), HZ.out]), E0.out.trans (HX.out.trans (Ext.alloc _ _))⟩
            · have HB1 := Lib.hid hb1
              cases hb2 : inB 1 4 sc
              · have HB2 := Lib.hid hb2
                have HZ := Lib.hid (show z = 2 by rw [HE.out]; exact shell_bad2 hb1 (.inl hb2))
                clear hb1 hb2
                go_wp2_with (go_at_call 40; refine (within_any _ _ _ _).mono ?_; rintro e w' ⟨rfl, rfl⟩; first | rw [HB1.out] | rw [HB2.out])
                go_ret2
                exact ⟨ret_pair (by rw [HR.out, HF.out, HD.out, if_pos (by rw [HZ.out]; decide)]) (by rw [HR.out, HF.out, HD.out, if_pos (by rw [HZ.out]; decide), HZ.out]), E0.out.trans (HX.out.trans (Ext.alloc _ _))⟩
              · have HB2 := Lib.hid hb2
                cases hb3 : inB 1 4 sh
                · have HB3 := Lib.hid hb3
                  have HZ := Lib.hid (show z = 2 by rw [HE.out]; exact shell_bad2 hb1 (.inr hb3))
                  clear hb1 hb2 hb3
                  go_wp2_with (go_at_call 40; refine (within_any _ _ _ _).mono ?_; rintro e w' ⟨rfl, rfl⟩; first | rw [HB1.out] | rw [HB2.out] | rw [HB3.out])
                  go_ret2
                  exact ⟨ret_pair (by rw [HR.out, HF.out, HD.out, if_pos (by rw [HZ.out]; decide)]) (by rw [HR.out, HF.out, HD.out, if_pos (by rw [HZ.out]; decide), HZ.out]), E0.out.trans (HX.out.trans (Ext.alloc _ _))⟩
                · have HB3 := Lib.hid hb3
                  by_cases hlt2 : sc < sh
                  · have HZ := Lib.hid (show z = 9 by rw [HE.out, shell_good hb1 hb2 hb3, if_pos hlt2])
                    clear hb1 hb2 hb3
                    go_wp2_with (go_at_call 40; refine (within_any _ _ _ _).mono ?_; rintro e w' ⟨rfl, rfl⟩; first | rw [HB1.out] | rw [HB2.out] | rw [HB3.out])
                    go_ret2
                    exact ⟨ret_pair (by rw [HR.out, HF.out, HD.out, if_pos (by rw [HZ.out]; decide)]) (by rw [HR.out, HF.out, HD.out, if_pos (by rw [HZ.out]; decide), HZ.out]), E0.out.trans (HX.out.trans (Ext.alloc _ _))⟩
                  · have HZ := Lib.hid (show z = 0 by rw [HE.out, shell_good hb1 hb2 hb3, if_neg hlt2])
                    clear hb1 hb2 hb3
                    go_wp2_with (go_at_call 40; refine (within_any _ _ _ _).mono ?_; rintro e w' ⟨rfl, rfl⟩; first | rw [HB1.out] | rw [HB2.out] | rw [HB3.out])
                    go_roundw
                    case rel => exact ⟨k + 1, by omega, by go_num, by rw [HF.out, HD.out, if_neg (by simp [HZ.out])], HX.out.trans (Ext.alloc _ _)⟩
                    case measure => simp [intOf]; omega
          · have HE := Lib.hid (show firstBad (l.drop k) k = (0, 0) by rw [List.drop_of_length_le (by rw [HN.out]; omega)]; rfl)
            go_wp2
            go_ret2
            exact ⟨ret_pair (by rw [HR.out, HF.out, HE.out]) (by rw [HR.out, HF.out, HE.out]), E0.out.trans HX.out⟩
  · have h1' : inB 1 20 t = false := by simpa using h1
    have H1 := Lib.hid h1'
    have HR := Lib.hid (show checkL t l = (0, 2) by rw [HL.out, HH.out, if_neg h1]; rfl)
    clear h1 h1'
    generalize checkL t l = r at *
    go_enter Try.func23, Try.ntmps23
    go_wp2_with (go_at_call 40; refine (within_any _ _ _ _).mono ?_; rintro e w' ⟨rfl, rfl⟩; rw [H1.out])
    go_ret2
    exact ⟨ret_pair (by rw [HR.out]) (by rw [HR.out]), E0.out⟩

theorem refLadderErr_any (t : Int) (A : Option Addr) (n cap : Nat) (l : List Sh) (hn : l.length = n) (w : World) (hS : RowsAt 3 Sh.enc w A l) :
    Calls Try.prog 65 #[.agg #[.int .i64 t, .slice A n cap]] w fun e w' => e = .returned (.int .i64 (checkL t l).2) ∧ Ext w w' := by
  have HC := Lib.hid (fun W h => refCheckLadder_any t A n cap l hn W h)
  have e0 := Ext.alloc w (.cells #[.int .i64 t, .slice A n cap] 24)
  have HS := Lib.hid (hS.ext e0)
  clear hn hS
  generalize checkL t l = q at HC
  go_enter Try.func65, Try.ntmps65
  go_wp2_with (go_at_call 23; refine (HC.out _ HS.out).mono ?_; rintro e w' ⟨rfl, hx⟩)
  go_ret
  exact ⟨rfl, e0.trans hx⟩

/-- The error of a drive alone. -/
def drvE (f : Int) (m n : Nat) : Int := firstE [rangeE 1 8 [f], errIf ((m : Int) != (n : Int)) 10]

theorem refDriveErr_any (t : Int) (A : Option Addr) (n cap : Nat) (f : Int) (B : Option Addr) (m cap' : Nat) (w : World) :
    Calls Try.prog 76 #[.agg #[.int .i64 t, .slice A n cap], .agg #[.int .i64 f, .slice B m cap']] w fun e w' => e = .returned (.int .i64 (drvE f m n)) ∧ Ext w w' := by
  have e0 : Ext w ((w.alloc (.cells #[.int .i64 t, .slice A n cap] 24)).alloc (.cells #[.int .i64 f, .slice B m cap'] 27)) := (Ext.alloc _ _).trans (Ext.alloc _ _)
  by_cases h1 : inB 1 8 f = true
  · have H1 := Lib.hid h1
    by_cases h2 : m = n
    · have HR := Lib.hid (show drvE f m n = 0 by unfold drvE; rw [rangeE_one, if_pos h1, h2]; simp [firstE, errIf])
      have hb : ((m : Int) != (n : Int)) = false := by simp [h2]
      clear h1 h2
      generalize drvE f m n = r at *
      go_enter Try.func76, Try.ntmps76
      go_wp2_with (go_at_call 40; refine (within_any _ _ _ _).mono ?_; rintro e w' ⟨rfl, rfl⟩; rw [H1.out])
      go_ret
      exact ⟨ret_int HR.out.symm, e0⟩
    · have HR := Lib.hid (show drvE f m n = 10 by unfold drvE; rw [rangeE_one, if_pos h1]; simp [firstE, errIf]; omega)
      have hb : ((m : Int) != (n : Int)) = true := by simp; omega
      clear h1 h2
      generalize drvE f m n = r at *
      go_enter Try.func76, Try.ntmps76
      go_wp2_with (go_at_call 40; refine (within_any _ _ _ _).mono ?_; rintro e w' ⟨rfl, rfl⟩; rw [H1.out])
      go_ret
      exact ⟨ret_int HR.out.symm, e0⟩
  · have H1 := Lib.hid (show inB 1 8 f = false by simpa using h1)
    have HR := Lib.hid (show drvE f m n = 2 by unfold drvE; rw [rangeE_one, if_neg h1]; simp [firstE])
    clear h1
    generalize drvE f m n = r at *
    go_enter Try.func76, Try.ntmps76
    go_wp2_with (go_at_call 40; refine (within_any _ _ _ _).mono ?_; rintro e w' ⟨rfl, rfl⟩; rw [H1.out])
    go_ret
    exact ⟨ret_int HR.out.symm, e0⟩

theorem drive_split (t : Int) (l : List Sh) (f : Int) (m : Nat) : driveE t l f m = if (checkL t l).2 ≠ 0 then (checkL t l).2 else drvE f m l.length := by
  unfold driveE drvE
  by_cases h : (checkL t l).2 = 0
  · rw [if_neg (by simp [h]), h]; simp [firstE]
  · rw [if_pos h]; simp [firstE, h]

theorem refBothErr_any (t : Int) (A : Option Addr) (n cap : Nat) (l : List Sh) (hn : l.length = n) (f : Int) (B : Option Addr) (m cap' : Nat) (w : World) (hS : RowsAt 3 Sh.enc w A l) :
    Calls Try.prog 24 #[.agg #[.int .i64 t, .slice A n cap], .agg #[.int .i64 f, .slice B m cap']] w fun e w' => e = .returned (.int .i64 (driveE t l f m)) ∧ Ext w w' := by
  have HC := Lib.hid (fun W h => refLadderErr_any t A n cap l hn W h)
  have HD := Lib.hid (fun W => refDriveErr_any t A n cap f B m cap' W)
  have e0 : Ext w ((w.alloc (.cells #[.int .i64 t, .slice A n cap] 24)).alloc (.cells #[.int .i64 f, .slice B m cap'] 27)) := (Ext.alloc _ _).trans (Ext.alloc _ _)
  have HS := Lib.hid (hS.ext e0)
  have HR := Lib.hid (show driveE t l f m = if (checkL t l).2 ≠ 0 then (checkL t l).2 else drvE f m n by rw [drive_split, hn])
  clear hn hS
  generalize (checkL t l).2 = q at *
  generalize driveE t l f m = r at *
  have FA := Lib.hid (show ∀ W : World, Ext ((w.alloc (.cells #[.int .i64 t, .slice A n cap] 24)).alloc (.cells #[.int .i64 f, .slice B m cap'] 27)) W →
      W.cell? ⟨w.heap.size, 0, none⟩ = some (.int .i64 t) ∧ W.cell? ⟨w.heap.size, 1, none⟩ = some (.slice A n cap) ∧ W.cell? ⟨w.heap.size + 1, 0, none⟩ = some (.int .i64 f) ∧ W.cell? ⟨w.heap.size + 1, 1, none⟩ = some (.slice B m cap') from
    fun W hx => ⟨hx.cell (by go_simp), hx.cell (by go_simp), hx.cell (by go_simp), hx.cell (by go_simp)⟩)
  by_cases hq : q = 0
  · have hq' : (q != 0) = false := by simp [hq]
    have HQ := Lib.hid hq
    clear hq
    go_enter Try.func24, Try.ntmps24
    go_wp2_with (first
      | (go_at_call 65; refine (HC.out _ HS.out).mono ?_; rintro e W1 ⟨rfl, hx1⟩; obtain ⟨z0, z1, z2, z3⟩ := FA.out _ hx1)
      | (go_at_call 76; refine (HD.out _).mono ?_; rintro e W2 ⟨rfl, hx2⟩))
    go_ret
    exact ⟨ret_int (by rw [HR.out, if_neg (by simp [HQ.out])]), e0.trans (hx1.trans hx2)⟩
  · have hq' : (q != 0) = true := by simp [hq]
    have HQ := Lib.hid hq
    clear hq
    go_enter Try.func24, Try.ntmps24
    go_wp2_with (go_at_call 65; refine (HC.out _ HS.out).mono ?_; rintro e W1 ⟨rfl, hx1⟩)
    go_ret
    exact ⟨ret_int (by rw [HR.out, if_pos HQ.out]), e0.trans hx1⟩

end Go.Proofs.Ytpaoeghdfeekoaa
