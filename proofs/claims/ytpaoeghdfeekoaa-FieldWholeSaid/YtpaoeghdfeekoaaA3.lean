/- The errors of a ladder and of a drive. By regen.py. -/
import Derived.Test.YtpaoeghdfeekoaaA2
namespace Go.Proofs.Ytpaoeghdfeekoaa
open Go.RowKit Go.Mem Go.RegInv
attribute [local go_sem] RelUpon_value RelUpon_skip RelUpon_enter BigFrame.eval_const BigFrame.eval_global BigFrame.eval_func

structure Sh where
  g : Int
  c : Int
  h : Int
def Sh.enc (s : Sh) : List Value := [.int .i64 s.g, .int .i64 s.c, .int .i64 s.h]
def Sh.e (s : Sh) : Int := shellE s.g s.c s.h

def headE (t : Int) (n : Nat) : Int := firstE [rangeE 1 20 [t], errIf ((n : Int) == 0) 10, errIf (decide ((4 : Int) < n)) 8]
def firstBad : List Sh → Nat → Int × Int
  | [], _ => (0, 0)
  | s :: r, i => if s.e ≠ 0 then (i, s.e) else firstBad r (i + 1)
def checkL (t : Int) (l : List Sh) : Int × Int := if headE t l.length ≠ 0 then (0, headE t l.length) else firstBad l 0

theorem firstBad_drop (l : List Sh) (k : Nat) (s : Sh) (h : l[k]? = some s) : firstBad (l.drop k) k = if s.e ≠ 0 then ((k : Int), s.e) else firstBad (l.drop (k + 1)) (k + 1) := by
  obtain ⟨hk, rfl⟩ := List.getElem?_eq_some_iff.1 h
  rw [List.drop_eq_getElem_cons hk, firstBad]

theorem ret_pair {a b c d : Int} (h1 : a = c) (h2 : b = d) : Ending.returned (.tuple #[.int .i64 a, .int .i64 b]) = Ending.returned (.tuple #[.int .i64 c, .int .i64 d]) := by rw [h1, h2]

set_option maxRecDepth 100000 in
set_option maxHeartbeats 400000 in
theorem checkLadder_any (t : Int) (A : Option Addr) (n cap : Nat) (l : List Sh) (hn : l.length = n) (w : World) (hS : RowsAt 3 Sh.enc w A l) :
    Calls Try.prog 18 #[.agg #[.int .i64 t, .slice A n cap]] w fun e w' => e = .returned (.tuple #[.int .i64 (checkL t l).1, .int .i64 (checkL t l).2]) ∧ Ext w w' := by
  have HN := Lib.hid hn
  have hm : n ≤ 1152921504606846976 := by have := hS.1; omega
  have HS := Lib.hid hS
  have HL := Lib.hid (show checkL t l = if headE t n ≠ 0 then (0, headE t n) else firstBad l 0 by unfold checkL; rw [hn])
  clear hn hS
  go_enter Try.func18, Try.ntmps18
  go_wp2
  refine wp_region_each [some 8, some 9, some 10, some 11, some 12, some 13, some 14, some 15, some 16, some 17, some 18, some 19, some 20, some 21, some 22, some 23, some 4] [[1], [8], [9], [10], [1], [12], [13], [14], [15], [1], [17], [18], [19], [20], [11, 16, 21], [22], [23]]
    [Is (.pointer (some ⟨w.heap.size, 0, none⟩)), Is (.int .i64 (t)), Ints [t], Is (.int .i64 (rangeE 1 20 [t])), Is (.pointer (some ⟨w.heap.size, 1, none⟩)), Is (.slice A n cap), Is (.int .i64 ((n : Int))), Is (.bool ((n : Int) == 0)), Is (.int .i64 (errIf ((n : Int) == 0) 10)), Is (.pointer (some ⟨w.heap.size, 1, none⟩)), Is (.slice A n cap), Is (.int .i64 ((n : Int))), Is (.bool (decide (4 < (n : Int)))), Is (.int .i64 (errIf (decide (4 < (n : Int))) 8)), Ints [rangeE 1 20 [t], errIf ((n : Int) == 0) 10, errIf (decide (4 < (n : Int))) 8], Is (.int .i64 (headE t n)), Is (.int .i64 (headE t n))]
    (by kernel_rfl) (by kernel_rfl) (by kernel_rfl) (by kernel_rfl) (by kernel_rfl) Ext (fun W => Ext (w.alloc (.cells #[.int .i64 t, .slice A n cap] 24)) W)
    (fun W _ => Ext.refl W) (fun W W' h k => h.trans k) ?_ (Ext.drew _) ?_ ?_
  · repeat (refine ⟨fun _ _ _ _ k h => (by first | exact h | exact IntsAt.ext h k), ?_⟩)
    exact trivial
  · refine ⟨?_, ?_, ?_, ?_, ?_, ?_, ?_, ?_, ?_, ?_, ?_, ?_, ?_, ?_, ?_, ?_, ?_, trivial⟩
    all_goals intro ρ W ⟨kc, kg, kf⟩ hF hs
    · obtain ⟨h0, -⟩ := hs
      replace h0 : ρ (.tmp 1) = .pointer (some ⟨w.heap.size, 0, none⟩) := h0
      go_simp
      exact ⟨Ext.refl _, rfl⟩
    · obtain ⟨h0, -⟩ := hs
      replace h0 : ρ (.tmp 8) = .pointer (some ⟨w.heap.size, 0, none⟩) := h0
      have hc0 : W.cell? ⟨w.heap.size, 0, none⟩ = some (.int .i64 (t)) := hF.cell (by go_simp)
      go_simp
      exact ⟨Ext.refl _, rfl⟩
    · obtain ⟨h0, -⟩ := hs
      replace h0 : ρ (.tmp 9) = .int .i64 (t) := h0
      go_simp
      exact ⟨Ext.alloc _ _, ints_new _ [t] _ (by simp)⟩
    · obtain ⟨h0, -⟩ := hs
      replace h0 : (Ints [t]) (ρ (.tmp 10)) W := h0
      go_simp
      refine (rangeError_any 1 (20) _ _ _ h0).mono ?_; rintro e w' ⟨rfl, hx⟩; exact ⟨_, rfl, hx, rfl⟩
    · obtain ⟨h0, -⟩ := hs
      replace h0 : ρ (.tmp 1) = .pointer (some ⟨w.heap.size, 0, none⟩) := h0
      go_simp
      exact ⟨Ext.refl _, rfl⟩
    · obtain ⟨h0, -⟩ := hs
      replace h0 : ρ (.tmp 12) = .pointer (some ⟨w.heap.size, 1, none⟩) := h0
      have hc0 : W.cell? ⟨w.heap.size, 1, none⟩ = some (.slice A n cap) := hF.cell (by go_simp)
      go_simp
      exact ⟨Ext.refl _, rfl⟩
    · obtain ⟨h0, -⟩ := hs
      replace h0 : ρ (.tmp 13) = .slice A n cap := h0
      go_simp
      exact ⟨Ext.refl _, rfl⟩
    · obtain ⟨h0, -⟩ := hs
      replace h0 : ρ (.tmp 14) = .int .i64 ((n : Int)) := h0
      go_simp
      exact ⟨Ext.refl _, rfl⟩
    · obtain ⟨h0, -⟩ := hs
      replace h0 : ρ (.tmp 15) = .bool ((n : Int) == 0) := h0
      go_simp
      refine (errorIf_any _ _ _).mono ?_; rintro e w' ⟨rfl, rfl⟩; exact ⟨_, rfl, Ext.refl _, rfl⟩
    · obtain ⟨h0, -⟩ := hs
      replace h0 : ρ (.tmp 1) = .pointer (some ⟨w.heap.size, 0, none⟩) := h0
      go_simp
      exact ⟨Ext.refl _, rfl⟩
    · obtain ⟨h0, -⟩ := hs
      replace h0 : ρ (.tmp 17) = .pointer (some ⟨w.heap.size, 1, none⟩) := h0
      have hc0 : W.cell? ⟨w.heap.size, 1, none⟩ = some (.slice A n cap) := hF.cell (by go_simp)
      go_simp
      exact ⟨Ext.refl _, rfl⟩
    · obtain ⟨h0, -⟩ := hs
      replace h0 : ρ (.tmp 18) = .slice A n cap := h0
      go_simp
      exact ⟨Ext.refl _, rfl⟩
    · obtain ⟨h0, -⟩ := hs
      replace h0 : ρ (.tmp 19) = .int .i64 ((n : Int)) := h0
      go_simp
      exact ⟨Ext.refl _, rfl⟩
    · obtain ⟨h0, -⟩ := hs
      replace h0 : ρ (.tmp 20) = .bool (decide (4 < (n : Int))) := h0
      go_simp
      refine (errorIf_any _ _ _).mono ?_; rintro e w' ⟨rfl, rfl⟩; exact ⟨_, rfl, Ext.refl _, rfl⟩
    · obtain ⟨h0, h1, h2, -⟩ := hs
      replace h0 : ρ (.tmp 11) = .int .i64 (rangeE 1 20 [t]) := h0
      replace h1 : ρ (.tmp 16) = .int .i64 (errIf ((n : Int) == 0) 10) := h1
      replace h2 : ρ (.tmp 21) = .int .i64 (errIf (decide (4 < (n : Int))) 8) := h2
      go_simp
      exact ⟨Ext.alloc _ _, ints_new _ [rangeE 1 20 [t], errIf ((n : Int) == 0) 10, errIf (decide (4 < (n : Int))) 8] _ (by simp)⟩
    · obtain ⟨h0, -⟩ := hs
      replace h0 : (Ints [rangeE 1 20 [t], errIf ((n : Int) == 0) 10, errIf (decide (4 < (n : Int))) 8]) (ρ (.tmp 22)) W := h0
      go_simp
      refine (firstOf_any _ _ _ h0).mono ?_; rintro e w' ⟨rfl, rfl⟩; exact ⟨_, rfl, Ext.refl _, rfl⟩
    · obtain ⟨h0, -⟩ := hs
      replace h0 : ρ (.tmp 23) = .int .i64 (headE t n) := h0
      go_simp
      exact ⟨Ext.refl _, rfl⟩
  · intro fv W hF hs
    obtain ⟨-, -, -, -, -, -, -, -, -, -, -, -, -, -, -, -, h4, -⟩ := hs
    replace h4 : fv 4 = .int .i64 (headE t n) := h4
    simp only [fin, List.filterMap]
    go_simp
    have hc0 : W.cell? ⟨w.heap.size, 0, none⟩ = some (.int .i64 t) := hF.cell (by go_simp)
    have hc1 : W.cell? ⟨w.heap.size, 1, none⟩ = some (.slice A n cap) := hF.cell (by go_simp)
    have e0 : Ext w W := (Ext.alloc _ _).trans hF
    clear h4 hF
    generalize headE t n = q at HL
    by_cases hq : q = 0
    · have hq' : (q != 0) = false := by simp [hq]
      have HQ := Lib.hid hq
      clear hq
      go_wp2
      go_loopw [30] (fun i wr => ∃ k : Nat, k ≤ n ∧ i = .int .i64 k ∧ firstBad l 0 = firstBad (l.drop k) k ∧ Ext W wr) (fun i _ => n - (intOf i).toNat)
      case atStart => exact ⟨0, Nat.zero_le _, rfl, rfl, Ext.refl _⟩
      case round =>
        obtain ⟨k, hk, rfl, hr, hx⟩ := hrel
        have HR := Lib.hid hr
        clear hr
        by_cases hlt : k < n
        · obtain ⟨s, hs⟩ : ∃ s, l[k]? = some s := ⟨_, List.getElem?_eq_getElem (by rw [HN.out]; exact hlt)⟩
          have HD := Lib.hid (firstBad_drop l k s hs)
          obtain ⟨b, o, hA, hb, hc⟩ := HS.out.2 k s hs
          subst hA
          have hcg : wr.cell? ⟨b, o + k * 3, none⟩ = some (.int .i64 s.g) := (e0.trans hx).cell (hc 0 _ rfl)
          have hcc : wr.cell? ⟨b, o + k * 3 + 1, none⟩ = some (.int .i64 s.c) := (e0.trans hx).cell (hc 1 _ rfl)
          have hch : wr.cell? ⟨b, o + k * 3 + 2, none⟩ = some (.int .i64 s.h) := (e0.trans hx).cell (hc 2 _ rfl)
          have HE := Lib.hid (show s.e = shellE s.g s.c s.h from rfl)
          clear hs hc HS
          generalize s.e = z at HD HE
          generalize s.g = sg at hcg HE
          generalize s.c = sc at hcc HE
          generalize s.h = sh at hch HE
          by_cases hz : z = 0
          · have hz' : (z != 0) = false := by simp [hz]
            have HZ := Lib.hid hz
            clear hz
            go_wp2_with (go_at_call 86; refine (shellFault_any _ _ _ _).mono ?_; rintro e w' ⟨rfl, hxx⟩; rw [← HE.out])
            go_roundw
            case rel => exact ⟨k + 1, by omega, by go_num, by rw [HR.out, HD.out, if_neg (by simp [HZ.out])], hx.trans ((Ext.alloc _ _).trans hxx)⟩
            case measure => simp [intOf]; omega
          · have hz' : (z != 0) = true := by simp [hz]
            have HZ := Lib.hid hz
            clear hz
            go_wp2_with (go_at_call 86; refine (shellFault_any _ _ _ _).mono ?_; rintro e w' ⟨rfl, hxx⟩; rw [← HE.out])
            go_ret2
            exact ⟨ret_pair (by rw [HL.out, if_neg (by simp [HQ.out]), HR.out, HD.out, if_pos HZ.out]) (by rw [HL.out, if_neg (by simp [HQ.out]), HR.out, HD.out, if_pos HZ.out]), e0.trans (hx.trans ((Ext.alloc _ _).trans hxx))⟩
        · have HE := Lib.hid (show firstBad (l.drop k) k = (0, 0) by rw [List.drop_of_length_le (by rw [HN.out]; omega)]; rfl)
          clear HS
          go_wp2
          go_ret2
          exact ⟨ret_pair (by rw [HL.out, if_neg (by simp [HQ.out]), HR.out, HE.out]) (by rw [HL.out, if_neg (by simp [HQ.out]), HR.out, HE.out]), e0.trans hx⟩
    · have hq' : (q != 0) = true := by simp [hq]
      have HQ := Lib.hid hq
      clear hq
      go_wp2
      go_ret2
      exact ⟨ret_pair (by rw [HL.out, if_pos HQ.out]) (by rw [HL.out, if_pos HQ.out]), e0⟩

theorem ladderError_any (t : Int) (A : Option Addr) (n cap : Nat) (l : List Sh) (hn : l.length = n) (w : World) (hS : RowsAt 3 Sh.enc w A l) :
    Calls Try.prog 87 #[.agg #[.int .i64 t, .slice A n cap]] w fun e w' => e = .returned (.int .i64 (checkL t l).2) ∧ Ext w w' := by
  have HC := Lib.hid (fun W h => checkLadder_any t A n cap l hn W h)
  have e0 := Ext.alloc w (.cells #[.int .i64 t, .slice A n cap] 24)
  have HS := Lib.hid (hS.ext e0)
  clear hn hS
  generalize checkL t l = q at HC
  go_enter Try.func87, Try.ntmps87
  go_wp2_with (go_at_call 18; refine (HC.out _ HS.out).mono ?_; rintro e w' ⟨rfl, hx⟩)
  go_ret
  exact ⟨rfl, e0.trans hx⟩

def driveE (t : Int) (l : List Sh) (f : Int) (m : Nat) : Int := firstE [(checkL t l).2, rangeE 1 8 [f], errIf ((m : Int) != (l.length : Int)) 10]

set_option maxRecDepth 100000 in
theorem checkDrive_any (t : Int) (A : Option Addr) (n cap : Nat) (l : List Sh) (hn : l.length = n) (f : Int) (B : Option Addr) (m cap' : Nat) (w : World) (hS : RowsAt 3 Sh.enc w A l) :
    Calls Try.prog 20 #[.agg #[.int .i64 t, .slice A n cap], .agg #[.int .i64 f, .slice B m cap']] w fun e w' => e = .returned (.int .i64 (driveE t l f m)) ∧ Ext w w' := by
  have HD := Lib.hid (show driveE t l f m = firstE [(checkL t l).2, rangeE 1 8 [f], errIf ((m : Int) != (n : Int)) 10] by unfold driveE; rw [hn])
  have HC := Lib.hid (fun W h => ladderError_any t A n cap l hn W h)
  have e0 : Ext w ((w.alloc (.cells #[.int .i64 t, .slice A n cap] 24)).alloc (.cells #[.int .i64 f, .slice B m cap'] 27)) := (Ext.alloc _ _).trans (Ext.alloc _ _)
  have HS := Lib.hid hS
  clear hn hS
  generalize (checkL t l).2 = q at HC HD
  generalize driveE t l f m = r at HD
  go_enter Try.func20, Try.ntmps20
  go_wp2
  refine wp_region_each [some 5, some 6, some 7, some 8, some 9, some 10, some 11, some 12, some 13, some 14, some 15, some 16, some 17, some 18, some 19, some 20, some 4] [[2], [5], [3], [7], [8], [9], [3], [11], [12], [2], [14], [15], [13, 16], [17], [6, 10, 18], [19], [20]]
    [Is (.agg #[.int .i64 (t), .slice A n cap]), Is (.int .i64 (q)), Is (.pointer (some ⟨w.heap.size + 1, 0, none⟩)), Is (.int .i64 (f)), Ints [f], Is (.int .i64 (rangeE 1 8 [f])), Is (.pointer (some ⟨w.heap.size + 1, 1, none⟩)), Is (.slice B m cap'), Is (.int .i64 ((m : Int))), Is (.pointer (some ⟨w.heap.size, 1, none⟩)), Is (.slice A n cap), Is (.int .i64 ((n : Int))), Is (.bool ((m : Int) != (n : Int))), Is (.int .i64 (errIf ((m : Int) != (n : Int)) 10)), Ints [q, rangeE 1 8 [f], errIf ((m : Int) != (n : Int)) 10], Is (.int .i64 (firstE [q, rangeE 1 8 [f], errIf ((m : Int) != (n : Int)) 10])), Is (.int .i64 (firstE [q, rangeE 1 8 [f], errIf ((m : Int) != (n : Int)) 10]))]
    (by kernel_rfl) (by kernel_rfl) (by kernel_rfl) (by kernel_rfl) (by kernel_rfl) Ext (fun W => Ext ((w.alloc (.cells #[.int .i64 t, .slice A n cap] 24)).alloc (.cells #[.int .i64 f, .slice B m cap'] 27)) W)
    (fun W _ => Ext.refl W) (fun W W' h k => h.trans k) ?_ (Ext.drew _) ?_ ?_
  · repeat (refine ⟨fun _ _ _ _ k h => (by first | exact h | exact IntsAt.ext h k), ?_⟩)
    exact trivial
  · refine ⟨?_, ?_, ?_, ?_, ?_, ?_, ?_, ?_, ?_, ?_, ?_, ?_, ?_, ?_, ?_, ?_, ?_, trivial⟩
    all_goals intro ρ W ⟨kc, kg, kf⟩ hF hs
    · obtain ⟨h0, -⟩ := hs
      replace h0 : ρ (.tmp 2) = .pointer (some ⟨w.heap.size, 0, none⟩) := h0
      have hc0 : W.cell? ⟨w.heap.size, 0, none⟩ = some (.int .i64 (t)) := hF.cell (by go_simp)
      have hc1 : W.cell? ⟨w.heap.size, 1, none⟩ = some (.slice A n cap) := hF.cell (by go_simp)
      go_simp
      exact ⟨Ext.refl _, rfl⟩
    · obtain ⟨h0, -⟩ := hs
      replace h0 : ρ (.tmp 5) = .agg #[.int .i64 (t), .slice A n cap] := h0
      go_simp
      refine (HC.out _ (HS.out.ext (e0.trans hF))).mono ?_; rintro e w' ⟨rfl, hx⟩; exact ⟨_, rfl, hx, rfl⟩
    · obtain ⟨h0, -⟩ := hs
      replace h0 : ρ (.tmp 3) = .pointer (some ⟨w.heap.size + 1, 0, none⟩) := h0
      go_simp
      exact ⟨Ext.refl _, rfl⟩
    · obtain ⟨h0, -⟩ := hs
      replace h0 : ρ (.tmp 7) = .pointer (some ⟨w.heap.size + 1, 0, none⟩) := h0
      have hc0 : W.cell? ⟨w.heap.size + 1, 0, none⟩ = some (.int .i64 (f)) := hF.cell (by go_simp)
      go_simp
      exact ⟨Ext.refl _, rfl⟩
    · obtain ⟨h0, -⟩ := hs
      replace h0 : ρ (.tmp 8) = .int .i64 (f) := h0
      go_simp
      exact ⟨Ext.alloc _ _, ints_new _ [f] _ (by simp)⟩
    · obtain ⟨h0, -⟩ := hs
      replace h0 : (Ints [f]) (ρ (.tmp 9)) W := h0
      go_simp
      refine (rangeError_any 1 (8) _ _ _ h0).mono ?_; rintro e w' ⟨rfl, hx⟩; exact ⟨_, rfl, hx, rfl⟩
    · obtain ⟨h0, -⟩ := hs
      replace h0 : ρ (.tmp 3) = .pointer (some ⟨w.heap.size + 1, 0, none⟩) := h0
      go_simp
      exact ⟨Ext.refl _, rfl⟩
    · obtain ⟨h0, -⟩ := hs
      replace h0 : ρ (.tmp 11) = .pointer (some ⟨w.heap.size + 1, 1, none⟩) := h0
      have hc0 : W.cell? ⟨w.heap.size + 1, 1, none⟩ = some (.slice B m cap') := hF.cell (by go_simp)
      go_simp
      exact ⟨Ext.refl _, rfl⟩
    · obtain ⟨h0, -⟩ := hs
      replace h0 : ρ (.tmp 12) = .slice B m cap' := h0
      go_simp
      exact ⟨Ext.refl _, rfl⟩
    · obtain ⟨h0, -⟩ := hs
      replace h0 : ρ (.tmp 2) = .pointer (some ⟨w.heap.size, 0, none⟩) := h0
      go_simp
      exact ⟨Ext.refl _, rfl⟩
    · obtain ⟨h0, -⟩ := hs
      replace h0 : ρ (.tmp 14) = .pointer (some ⟨w.heap.size, 1, none⟩) := h0
      have hc0 : W.cell? ⟨w.heap.size, 1, none⟩ = some (.slice A n cap) := hF.cell (by go_simp)
      go_simp
      exact ⟨Ext.refl _, rfl⟩
    · obtain ⟨h0, -⟩ := hs
      replace h0 : ρ (.tmp 15) = .slice A n cap := h0
      go_simp
      exact ⟨Ext.refl _, rfl⟩
    · obtain ⟨h0, h1, -⟩ := hs
      replace h0 : ρ (.tmp 13) = .int .i64 ((m : Int)) := h0
      replace h1 : ρ (.tmp 16) = .int .i64 ((n : Int)) := h1
      go_simp
      exact ⟨Ext.refl _, rfl⟩
    · obtain ⟨h0, -⟩ := hs
      replace h0 : ρ (.tmp 17) = .bool ((m : Int) != (n : Int)) := h0
      go_simp
      refine (errorIf_any _ _ _).mono ?_; rintro e w' ⟨rfl, rfl⟩; exact ⟨_, rfl, Ext.refl _, rfl⟩
    · obtain ⟨h0, h1, h2, -⟩ := hs
      replace h0 : ρ (.tmp 6) = .int .i64 (q) := h0
      replace h1 : ρ (.tmp 10) = .int .i64 (rangeE 1 8 [f]) := h1
      replace h2 : ρ (.tmp 18) = .int .i64 (errIf ((m : Int) != (n : Int)) 10) := h2
      go_simp
      exact ⟨Ext.alloc _ _, ints_new _ [q, rangeE 1 8 [f], errIf ((m : Int) != (n : Int)) 10] _ (by simp)⟩
    · obtain ⟨h0, -⟩ := hs
      replace h0 : (Ints [q, rangeE 1 8 [f], errIf ((m : Int) != (n : Int)) 10]) (ρ (.tmp 19)) W := h0
      go_simp
      refine (firstOf_any _ _ _ h0).mono ?_; rintro e w' ⟨rfl, rfl⟩; exact ⟨_, rfl, Ext.refl _, rfl⟩
    · obtain ⟨h0, -⟩ := hs
      replace h0 : ρ (.tmp 20) = .int .i64 (firstE [q, rangeE 1 8 [f], errIf ((m : Int) != (n : Int)) 10]) := h0
      go_simp
      exact ⟨Ext.refl _, rfl⟩
  · intro fv W hF hs
    obtain ⟨-, -, -, -, -, -, -, -, -, -, -, -, -, -, -, -, h4, -⟩ := hs
    replace h4 : fv 4 = .int .i64 (firstE [q, rangeE 1 8 [f], errIf ((m : Int) != (n : Int)) 10]) := h4
    simp only [fin, List.filterMap]
    go_simp
    go_wp2
    go_ret
    exact ⟨ret_int HD.out.symm, e0.trans hF⟩

end Go.Proofs.Ytpaoeghdfeekoaa
