/- Errors, voltages and powers, and what is made of the powers. -/
import Derived.Test.YtpaoeghdfeekoaaProg
import Derived.Test.YtpaoeghdfeekoaaMA
import Derived.Outline
import Derived.RangeFuncNested
import Derived.RangeFuncBound
import Derived.RangeFuncCalls
import Derived.RangeFuncLeaves
import Derived.RangeFuncBox
import Derived.Shelf.Abstract
import Derived.Shelf.RegionOpen
import Derived.OwnWalkIn
import Derived.TacticsInMore
import Derived.LoopNIn
import Derived.LoopIn
import Derived.RegionTactic

/- Error helpers of the program: what each call returns. -/
namespace Go.Proofs.Ytpaoeghdfeekoaa
open Go.RowKit Go.Mem Go.RegInv

def errIf (b : Bool) (n : Int) : Int := if b then n else 0

theorem errorIf_any (b : Bool) (n : Int) (w : World) :
    Calls Try.prog 85 #[.bool b, .int .i64 n] w fun e w' => e = .returned (.int .i64 (errIf b n)) ∧ w = w' := by
  cases b
  all_goals
    go_enter Try.func85, Try.ntmps85
    go_wp2
    go_ret
    exact ⟨rfl, rfl⟩

def outB (lo hi n : Int) : Bool := decide (n < lo) || decide (hi < n)

theorem outside1 (n lo hi : Int) (a b : Addr) (w : World) (ha : w.cell? a = some (.int .i64 lo)) (hb : w.cell? b = some (.int .i64 hi)) :
    Calls Try.prog 136 #[.int .i64 n, .pointer (some a), .pointer (some b)] w fun e w' => e = .returned (.bool (outB lo hi n)) ∧ w = w' := by
  by_cases h1 : n < lo
  · go_enter Try.func136, Try.ntmps136
    go_wp2
    go_ret
    exact ⟨by simp [outB, h1], rfl⟩
  · by_cases h2 : hi < n
    all_goals
      go_enter Try.func136, Try.ntmps136
      go_wp2
      go_ret
      exact ⟨by simp [outB, h1, h2], rfl⟩

/-- The first index from k on at which p holds, or -1. -/
def idxFrom (p : Int → Bool) : List Int → Nat → Int
  | [], _ => -1
  | x :: l, k => if p x then k else idxFrom p l (k + 1)

theorem idxFrom_drop (p : Int → Bool) (xs : List Int) (k : Nat) (h : k < xs.length) :
    idxFrom p (xs.drop k) k = if p (xs.getD k 0) then (k : Int) else idxFrom p (xs.drop (k + 1)) (k + 1) := by
  rw [List.drop_eq_getElem_cons h, idxFrom]
  simp [h]

theorem idxFrom_any (p : Int → Bool) : ∀ (xs : List Int) (k : Nat), decide (0 ≤ idxFrom p xs k) = xs.any p
  | [], _ => rfl
  | x :: l, k => by
    rw [idxFrom, List.any_cons]
    by_cases h : p x = true
    · simp [h]
    · have h' : p x = false := by simpa using h
      simp [h', idxFrom_any p l (k + 1)]

theorem ret_int {a b : Int} (h : a = b) : Ending.returned (.int .i64 a) = .returned (.int .i64 b) := by rw [h]
theorem ret_bool {a b : Bool} (h : a = b) : Ending.returned (.bool a) = .returned (.bool b) := by rw [h]

set_option maxHeartbeats 400000 in
theorem indexFunc_out (v : Value) (lo hi : Int) (a b : Addr) (xs : List Int) (w : World) (hx : IntsAt w v xs) (ha : w.cell? a = some (.int .i64 lo)) (hb : w.cell? b = some (.int .i64 hi)) :
    Calls Try.prog 135 #[v, .func (.func 136) #[] #[.pointer (some a), .pointer (some b)]] w fun e w' => e = .returned (.int .i64 (idxFrom (outB lo hi) xs 0)) ∧ w = w' := by
  have HF := Lib.hid (fun n => outside1 n lo hi a b w ha hb)
  clear ha hb
  generalize outB lo hi = p at HF
  rcases hx with ⟨ao, cap, rfl, rfl⟩ | ⟨bl, o, cap, rfl, hbl, hm, hc⟩
  · go_enter Try.func135, Try.ntmps135
    go_wp2
    refine wp_loop_rounds 1 ?_
    rw [rounds_succ]
    go_wp2
    go_ret
    exact ⟨rfl, rfl⟩
  · have HC := Lib.hid hc
    clear hc
    go_enter Try.func135, Try.ntmps135
    go_wp2
    go_loop [8] (fun i => ∃ k : Nat, k ≤ xs.length ∧ i = .int .i64 k ∧ idxFrom p xs 0 = idxFrom p (xs.drop k) k) (fun i => xs.length - (intOf i).toNat)
    case atStart => exact ⟨0, Nat.zero_le _, rfl, rfl⟩
    case round =>
      obtain ⟨k, hk, rfl, hr⟩ := hrel
      have HR := Lib.hid hr
      clear hr
      by_cases hlt : k < xs.length
      · have hc := HC.out k hlt
        have HD := Lib.hid (idxFrom_drop p xs k hlt)
        generalize hxk : xs.getD k 0 = x at hc HD
        clear hxk
        cases hz : p x
        · have HZ := Lib.hid hz
          clear hz
          go_wp2_with (go_at_call 136; refine (HF.out _).mono ?_; rintro e w' ⟨rfl, rfl⟩; rw [HZ.out])
          go_round
          case rel => exact ⟨k + 1, by omega, by go_num, by rw [HR.out, HD.out, if_neg (by simp [HZ.out])]⟩
          case measure => simp [intOf]; omega
        · have HZ := Lib.hid hz
          clear hz
          go_wp2_with (go_at_call 136; refine (HF.out _).mono ?_; rintro e w' ⟨rfl, rfl⟩; rw [HZ.out])
          go_ret
          exact ⟨ret_int (by rw [HR.out, HD.out, if_pos HZ.out]), rfl⟩
      · have he : idxFrom p (xs.drop k) k = -1 := by rw [List.drop_of_length_le (by omega)]; rfl
        have HE := Lib.hid he
        clear he
        go_wp2
        go_ret
        exact ⟨ret_int (by rw [HR.out, HE.out]), rfl⟩

theorem containsFunc_out (v : Value) (lo hi : Int) (a b : Addr) (xs : List Int) (w : World) (hx : IntsAt w v xs) (ha : w.cell? a = some (.int .i64 lo)) (hb : w.cell? b = some (.int .i64 hi)) :
    Calls Try.prog 125 #[v, .func (.func 136) #[] #[.pointer (some a), .pointer (some b)]] w fun e w' => e = .returned (.bool (xs.any (outB lo hi))) ∧ w = w' := by
  have HC := Lib.hid (indexFunc_out v lo hi a b xs w hx ha hb)
  have HI := Lib.hid (idxFrom_any (outB lo hi) xs 0)
  clear ha hb hx
  generalize idxFrom (outB lo hi) xs 0 = n at HC HI
  go_enter Try.func125, Try.ntmps125
  go_wp2_with (go_at_call 135; refine HC.out.mono ?_; rintro e w' ⟨rfl, rfl⟩)
  go_ret
  exact ⟨ret_bool (by rw [← HI.out]), rfl⟩

theorem outside_any (lo hi : Int) (w : World) :
    Calls Try.prog 126 #[.int .i64 lo, .int .i64 hi] w fun e w' =>
      e = .returned (.func (.func 136) #[] #[.pointer (some ⟨w.heap.size, 0, none⟩), .pointer (some ⟨w.heap.size + 1, 0, none⟩)]) ∧ w' = (w.alloc (.cells #[.int .i64 lo] 3)).alloc (.cells #[.int .i64 hi] 3) := by
  go_enter Try.func126, Try.ntmps126
  go_wp2
  go_ret
  exact ⟨rfl, rfl⟩

def rangeE (lo hi : Int) (xs : List Int) : Int := errIf (xs.any (outB lo hi)) 2

theorem rangeError_any (lo hi : Int) (v : Value) (xs : List Int) (w : World) (hx : IntsAt w v xs) :
    Calls Try.prog 84 #[.int .i64 lo, .int .i64 hi, v] w fun e w' => e = .returned (.int .i64 (rangeE lo hi xs)) ∧ Ext w w' := by
  have e1 : Ext w ((w.alloc (.cells #[.int .i64 lo] 3)).alloc (.cells #[.int .i64 hi] 3)) := (Ext.alloc _ _).trans (Ext.alloc _ _)
  have HC := Lib.hid (containsFunc_out v lo hi ⟨w.heap.size, 0, none⟩ ⟨w.heap.size + 1, 0, none⟩ xs _ (hx.ext e1) (by go_simp) (by go_simp))
  have HR := Lib.hid (show rangeE lo hi xs = errIf (xs.any (outB lo hi)) 2 from rfl)
  clear hx
  generalize xs.any (outB lo hi) = c at HC HR
  go_enter Try.func84, Try.ntmps84
  go_wp2_with (first
    | (go_at_call 126; refine (outside_any _ _ _).mono ?_; rintro e w' ⟨rfl, rfl⟩)
    | (go_at_call 125; refine HC.out.mono ?_; rintro e w' ⟨rfl, rfl⟩)
    | (go_at_call 85; refine (errorIf_any _ _ _).mono ?_; rintro e w' ⟨rfl, rfl⟩))
  go_ret
  exact ⟨ret_int HR.out.symm, e1⟩

/-- The first number that is not 0. -/
def firstE : List Int → Int
  | [] => 0
  | x :: l => if x ≠ 0 then x else firstE l

theorem firstE_drop (xs : List Int) (k : Nat) (h : k < xs.length) : firstE (xs.drop k) = if xs.getD k 0 ≠ 0 then xs.getD k 0 else firstE (xs.drop (k + 1)) := by
  rw [List.drop_eq_getElem_cons h, firstE]
  simp [h]

set_option maxHeartbeats 400000 in
theorem firstOf_any (v : Value) (xs : List Int) (w : World) (hx : IntsAt w v xs) :
    Calls Try.prog 83 #[v] w fun e w' => e = .returned (.int .i64 (firstE xs)) ∧ w = w' := by
  rcases hx with ⟨ao, cap, rfl, rfl⟩ | ⟨bl, o, cap, rfl, hbl, hm, hc⟩
  · go_enter Try.func83, Try.ntmps83
    go_wp2
    refine wp_loop_rounds 1 ?_
    rw [rounds_succ]
    go_wp2
    go_ret
    exact ⟨rfl, rfl⟩
  · have HC := Lib.hid hc
    clear hc
    go_enter Try.func83, Try.ntmps83
    go_wp2
    go_loop [7] (fun i => ∃ k : Nat, k ≤ xs.length ∧ i = .int .i64 k ∧ firstE xs = firstE (xs.drop k)) (fun i => xs.length - (intOf i).toNat)
    case atStart => exact ⟨0, Nat.zero_le _, rfl, rfl⟩
    case round =>
      obtain ⟨k, hk, rfl, hr⟩ := hrel
      have HR := Lib.hid hr
      clear hr
      by_cases hlt : k < xs.length
      · have hc := HC.out k hlt
        have HD := Lib.hid (firstE_drop xs k hlt)
        generalize hxk : xs.getD k 0 = x at hc HD
        clear hxk
        by_cases hz : x = 0
        · have hz' : (x != 0) = false := by simp [hz]
          have HZ := Lib.hid hz
          clear hz
          go_wp2
          go_round
          case rel => exact ⟨k + 1, by omega, by go_num, by rw [HR.out, HD.out, if_neg (by simp [HZ.out])]⟩
          case measure => simp [intOf]; omega
        · have hz' : (x != 0) = true := by simp [hz]
          have HZ := Lib.hid hz
          clear hz
          go_wp2
          go_ret
          exact ⟨ret_int (by rw [HR.out, HD.out, if_pos HZ.out]), rfl⟩
      · have he : firstE (xs.drop k) = 0 := by rw [List.drop_of_length_le (by omega)]; rfl
        have HE := Lib.hid he
        clear he
        go_wp2
        go_ret
        exact ⟨ret_int (by rw [HR.out, HE.out]), rfl⟩

end Go.Proofs.Ytpaoeghdfeekoaa

/- The error of a shell. By regen.py. -/
namespace Go.Proofs.Ytpaoeghdfeekoaa
open Go.RowKit Go.Mem Go.RegInv
attribute [local go_sem] RelUpon_value RelUpon_skip RelUpon_enter BigFrame.eval_const BigFrame.eval_global BigFrame.eval_func

def Ints (xs : List Int) : Value → World → Prop := fun u W => IntsAt W u xs

def shellE (g c h : Int) : Int := firstE [rangeE 1 4 [g], rangeE 1 4 [c, h], errIf (decide (c < h)) 9]

set_option maxRecDepth 100000 in
theorem shellFault_any (g c h : Int) (w : World) :
    Calls Try.prog 86 #[.agg #[.int .i64 g, .int .i64 c, .int .i64 h]] w fun e w' => e = .returned (.int .i64 (shellE g c h)) ∧ Ext w w' := by
  go_enter Try.func86, Try.ntmps86
  go_wp2
  refine wp_region_each [some 3, some 4, some 5, some 6, some 7, some 8, some 9, some 10, some 11, some 12, some 13, some 14, some 15, some 16, some 17, some 18, some 19, some 20, some 2] [[1], [3], [4], [5], [1], [7], [1], [9], [8, 10], [11], [1], [13], [1], [15], [14, 16], [17], [6, 12, 18], [19], [20]]
    [Is (.pointer (some ⟨w.heap.size, 0, none⟩)), Is (.int .i64 (g)), Ints [g], Is (.int .i64 (rangeE 1 4 [g])), Is (.pointer (some ⟨w.heap.size, 1, none⟩)), Is (.int .i64 (c)), Is (.pointer (some ⟨w.heap.size, 2, none⟩)), Is (.int .i64 (h)), Ints [c, h], Is (.int .i64 (rangeE 1 4 [c, h])), Is (.pointer (some ⟨w.heap.size, 2, none⟩)), Is (.int .i64 (h)), Is (.pointer (some ⟨w.heap.size, 1, none⟩)), Is (.int .i64 (c)), Is (.bool (decide (c < h))), Is (.int .i64 (errIf (decide (c < h)) 9)), Ints [rangeE 1 4 [g], rangeE 1 4 [c, h], errIf (decide (c < h)) 9], Is (.int .i64 (firstE [rangeE 1 4 [g], rangeE 1 4 [c, h], errIf (decide (c < h)) 9])), Is (.int .i64 (firstE [rangeE 1 4 [g], rangeE 1 4 [c, h], errIf (decide (c < h)) 9]))]
    (by kernel_rfl) (by kernel_rfl) (by kernel_rfl) (by kernel_rfl) (by kernel_rfl) Ext (fun W => Ext (w.alloc (.cells #[.int .i64 g, .int .i64 c, .int .i64 h] 92)) W)
    (fun W _ => Ext.refl W) (fun W W' h k => h.trans k) ?_ (Ext.drew _) ?_ ?_
  · repeat (refine ⟨fun _ _ _ _ k h => (by first | exact h | exact IntsAt.ext h k), ?_⟩)
    exact trivial
  · refine ⟨?_, ?_, ?_, ?_, ?_, ?_, ?_, ?_, ?_, ?_, ?_, ?_, ?_, ?_, ?_, ?_, ?_, ?_, ?_, trivial⟩
    all_goals intro ρ W ⟨kc, kg, kf⟩ hF hs
    · obtain ⟨h0, -⟩ := hs
      replace h0 : ρ (.tmp 1) = .pointer (some ⟨w.heap.size, 0, none⟩) := h0
      go_simp
      exact ⟨Ext.refl _, rfl⟩
    · obtain ⟨h0, -⟩ := hs
      replace h0 : ρ (.tmp 3) = .pointer (some ⟨w.heap.size, 0, none⟩) := h0
      have hc0 : W.cell? ⟨w.heap.size, 0, none⟩ = some (.int .i64 (g)) := hF.cell (by go_simp)
      go_simp
      exact ⟨Ext.refl _, rfl⟩
    · obtain ⟨h0, -⟩ := hs
      replace h0 : ρ (.tmp 4) = .int .i64 (g) := h0
      go_simp
      exact ⟨Ext.alloc _ _, ints_new _ [g] _ (by simp)⟩
    · obtain ⟨h0, -⟩ := hs
      replace h0 : (Ints [g]) (ρ (.tmp 5)) W := h0
      go_simp
      refine (rangeError_any 1 (4) _ _ _ h0).mono ?_; rintro e w' ⟨rfl, hx⟩; exact ⟨_, rfl, hx, rfl⟩
    · obtain ⟨h0, -⟩ := hs
      replace h0 : ρ (.tmp 1) = .pointer (some ⟨w.heap.size, 0, none⟩) := h0
      go_simp
      exact ⟨Ext.refl _, rfl⟩
    · obtain ⟨h0, -⟩ := hs
      replace h0 : ρ (.tmp 7) = .pointer (some ⟨w.heap.size, 1, none⟩) := h0
      have hc0 : W.cell? ⟨w.heap.size, 1, none⟩ = some (.int .i64 (c)) := hF.cell (by go_simp)
      go_simp
      exact ⟨Ext.refl _, rfl⟩
    · obtain ⟨h0, -⟩ := hs
      replace h0 : ρ (.tmp 1) = .pointer (some ⟨w.heap.size, 0, none⟩) := h0
      go_simp
      exact ⟨Ext.refl _, rfl⟩
    · obtain ⟨h0, -⟩ := hs
      replace h0 : ρ (.tmp 9) = .pointer (some ⟨w.heap.size, 2, none⟩) := h0
      have hc0 : W.cell? ⟨w.heap.size, 2, none⟩ = some (.int .i64 (h)) := hF.cell (by go_simp)
      go_simp
      exact ⟨Ext.refl _, rfl⟩
    · obtain ⟨h0, h1, -⟩ := hs
      replace h0 : ρ (.tmp 8) = .int .i64 (c) := h0
      replace h1 : ρ (.tmp 10) = .int .i64 (h) := h1
      go_simp
      exact ⟨Ext.alloc _ _, ints_new _ [c, h] _ (by simp)⟩
    · obtain ⟨h0, -⟩ := hs
      replace h0 : (Ints [c, h]) (ρ (.tmp 11)) W := h0
      go_simp
      refine (rangeError_any 1 (4) _ _ _ h0).mono ?_; rintro e w' ⟨rfl, hx⟩; exact ⟨_, rfl, hx, rfl⟩
    · obtain ⟨h0, -⟩ := hs
      replace h0 : ρ (.tmp 1) = .pointer (some ⟨w.heap.size, 0, none⟩) := h0
      go_simp
      exact ⟨Ext.refl _, rfl⟩
    · obtain ⟨h0, -⟩ := hs
      replace h0 : ρ (.tmp 13) = .pointer (some ⟨w.heap.size, 2, none⟩) := h0
      have hc0 : W.cell? ⟨w.heap.size, 2, none⟩ = some (.int .i64 (h)) := hF.cell (by go_simp)
      go_simp
      exact ⟨Ext.refl _, rfl⟩
    · obtain ⟨h0, -⟩ := hs
      replace h0 : ρ (.tmp 1) = .pointer (some ⟨w.heap.size, 0, none⟩) := h0
      go_simp
      exact ⟨Ext.refl _, rfl⟩
    · obtain ⟨h0, -⟩ := hs
      replace h0 : ρ (.tmp 15) = .pointer (some ⟨w.heap.size, 1, none⟩) := h0
      have hc0 : W.cell? ⟨w.heap.size, 1, none⟩ = some (.int .i64 (c)) := hF.cell (by go_simp)
      go_simp
      exact ⟨Ext.refl _, rfl⟩
    · obtain ⟨h0, h1, -⟩ := hs
      replace h0 : ρ (.tmp 14) = .int .i64 (h) := h0
      replace h1 : ρ (.tmp 16) = .int .i64 (c) := h1
      go_simp
      exact ⟨Ext.refl _, rfl⟩
    · obtain ⟨h0, -⟩ := hs
      replace h0 : ρ (.tmp 17) = .bool (decide (c < h)) := h0
      go_simp
      refine (errorIf_any _ _ _).mono ?_; rintro e w' ⟨rfl, rfl⟩; exact ⟨_, rfl, Ext.refl _, rfl⟩
    · obtain ⟨h0, h1, h2, -⟩ := hs
      replace h0 : ρ (.tmp 6) = .int .i64 (rangeE 1 4 [g]) := h0
      replace h1 : ρ (.tmp 12) = .int .i64 (rangeE 1 4 [c, h]) := h1
      replace h2 : ρ (.tmp 18) = .int .i64 (errIf (decide (c < h)) 9) := h2
      go_simp
      exact ⟨Ext.alloc _ _, ints_new _ [rangeE 1 4 [g], rangeE 1 4 [c, h], errIf (decide (c < h)) 9] _ (by simp)⟩
    · obtain ⟨h0, -⟩ := hs
      replace h0 : (Ints [rangeE 1 4 [g], rangeE 1 4 [c, h], errIf (decide (c < h)) 9]) (ρ (.tmp 19)) W := h0
      go_simp
      refine (firstOf_any _ _ _ h0).mono ?_; rintro e w' ⟨rfl, rfl⟩; exact ⟨_, rfl, Ext.refl _, rfl⟩
    · obtain ⟨h0, -⟩ := hs
      replace h0 : ρ (.tmp 20) = .int .i64 (firstE [rangeE 1 4 [g], rangeE 1 4 [c, h], errIf (decide (c < h)) 9]) := h0
      go_simp
      exact ⟨Ext.refl _, rfl⟩
  · intro f W hF hs
    obtain ⟨-, -, -, -, -, -, -, -, -, -, -, -, -, -, -, -, -, -, h2, -⟩ := hs
    replace h2 : f 2 = .int .i64 (firstE [rangeE 1 4 [g], rangeE 1 4 [c, h], errIf (decide (c < h)) 9]) := h2
    simp only [fin, List.filterMap]
    go_simp
    go_wp2
    go_ret
    exact ⟨rfl, (Ext.alloc _ _).trans hF⟩

end Go.Proofs.Ytpaoeghdfeekoaa

/- The errors of a ladder and of a drive. By regen.py. -/
namespace Go.Proofs.Ytpaoeghdfeekoaa
open Go.RowKit Go.Mem Go.RegInv
attribute [local go_sem] RelUpon_value RelUpon_skip RelUpon_enter BigFrame.eval_const BigFrame.eval_global BigFrame.eval_func

structure Sh where
  g : Int
  c : Int
  h : Int
def Sh.enc (s : Sh) : List Value := [.int .i64 s.g, .int .i64 s.c, .int .i64 s.h]
def Sh.e (s : Sh) : Int := shellE s.g s.c s.h

def headE (t : Int) (n : Nat) : Int := firstE [rangeE 1 20 [t], errIf ((n : Int) == 0) 10, errIf (decide ((4 : Int) < n)) 8]
def firstBad : List Sh → Nat → Int × Int
  | [], _ => (0, 0)
  | s :: r, i => if s.e ≠ 0 then (i, s.e) else firstBad r (i + 1)
def checkL (t : Int) (l : List Sh) : Int × Int := if headE t l.length ≠ 0 then (0, headE t l.length) else firstBad l 0

theorem firstBad_drop (l : List Sh) (k : Nat) (s : Sh) (h : l[k]? = some s) : firstBad (l.drop k) k = if s.e ≠ 0 then ((k : Int), s.e) else firstBad (l.drop (k + 1)) (k + 1) := by
  obtain ⟨hk, rfl⟩ := List.getElem?_eq_some_iff.1 h
  rw [List.drop_eq_getElem_cons hk, firstBad]

theorem ret_pair {a b c d : Int} (h1 : a = c) (h2 : b = d) : Ending.returned (.tuple #[.int .i64 a, .int .i64 b]) = Ending.returned (.tuple #[.int .i64 c, .int .i64 d]) := by rw [h1, h2]

set_option maxRecDepth 100000 in
set_option maxHeartbeats 400000 in
theorem checkLadder_any (t : Int) (A : Option Addr) (n cap : Nat) (l : List Sh) (hn : l.length = n) (w : World) (hS : RowsAt 3 Sh.enc w A l) :
    Calls Try.prog 18 #[.agg #[.int .i64 t, .slice A n cap]] w fun e w' => e = .returned (.tuple #[.int .i64 (checkL t l).1, .int .i64 (checkL t l).2]) ∧ Ext w w' := by
  have HN := Lib.hid hn
  have hm : n ≤ 1152921504606846976 := by have := hS.1; omega
  have HS := Lib.hid hS
  have HL := Lib.hid (show checkL t l = if headE t n ≠ 0 then (0, headE t n) else firstBad l 0 by unfold checkL; rw [hn])
  clear hn hS
  go_enter Try.func18, Try.ntmps18
  go_wp2
  refine wp_region_each [some 8, some 9, some 10, some 11, some 12, some 13, some 14, some 15, some 16, some 17, some 18, some 19, some 20, some 21, some 22, some 23, some 4] [[1], [8], [9], [10], [1], [12], [13], [14], [15], [1], [17], [18], [19], [20], [11, 16, 21], [22], [23]]
    [Is (.pointer (some ⟨w.heap.size, 0, none⟩)), Is (.int .i64 (t)), Ints [t], Is (.int .i64 (rangeE 1 20 [t])), Is (.pointer (some ⟨w.heap.size, 1, none⟩)), Is (.slice A n cap), Is (.int .i64 ((n : Int))), Is (.bool ((n : Int) == 0)), Is (.int .i64 (errIf ((n : Int) == 0) 10)), Is (.pointer (some ⟨w.heap.size, 1, none⟩)), Is (.slice A n cap), Is (.int .i64 ((n : Int))), Is (.bool (decide (4 < (n : Int)))), Is (.int .i64 (errIf (decide (4 < (n : Int))) 8)), Ints [rangeE 1 20 [t], errIf ((n : Int) == 0) 10, errIf (decide (4 < (n : Int))) 8], Is (.int .i64 (headE t n)), Is (.int .i64 (headE t n))]
    (by kernel_rfl) (by kernel_rfl) (by kernel_rfl) (by kernel_rfl) (by kernel_rfl) Ext (fun W => Ext (w.alloc (.cells #[.int .i64 t, .slice A n cap] 24)) W)
    (fun W _ => Ext.refl W) (fun W W' h k => h.trans k) ?_ (Ext.drew _) ?_ ?_
  · repeat (refine ⟨fun _ _ _ _ k h => (by first | exact h | exact IntsAt.ext h k), ?_⟩)
    exact trivial
  · refine ⟨?_, ?_, ?_, ?_, ?_, ?_, ?_, ?_, ?_, ?_, ?_, ?_, ?_, ?_, ?_, ?_, ?_, trivial⟩
    all_goals intro ρ W ⟨kc, kg, kf⟩ hF hs
    · obtain ⟨h0, -⟩ := hs
      replace h0 : ρ (.tmp 1) = .pointer (some ⟨w.heap.size, 0, none⟩) := h0
      go_simp
      exact ⟨Ext.refl _, rfl⟩
    · obtain ⟨h0, -⟩ := hs
      replace h0 : ρ (.tmp 8) = .pointer (some ⟨w.heap.size, 0, none⟩) := h0
      have hc0 : W.cell? ⟨w.heap.size, 0, none⟩ = some (.int .i64 (t)) := hF.cell (by go_simp)
      go_simp
      exact ⟨Ext.refl _, rfl⟩
    · obtain ⟨h0, -⟩ := hs
      replace h0 : ρ (.tmp 9) = .int .i64 (t) := h0
      go_simp
      exact ⟨Ext.alloc _ _, ints_new _ [t] _ (by simp)⟩
    · obtain ⟨h0, -⟩ := hs
      replace h0 : (Ints [t]) (ρ (.tmp 10)) W := h0
      go_simp
      refine (rangeError_any 1 (20) _ _ _ h0).mono ?_; rintro e w' ⟨rfl, hx⟩; exact ⟨_, rfl, hx, rfl⟩
    · obtain ⟨h0, -⟩ := hs
      replace h0 : ρ (.tmp 1) = .pointer (some ⟨w.heap.size, 0, none⟩) := h0
      go_simp
      exact ⟨Ext.refl _, rfl⟩
    · obtain ⟨h0, -⟩ := hs
      replace h0 : ρ (.tmp 12) = .pointer (some ⟨w.heap.size, 1, none⟩) := h0
      have hc0 : W.cell? ⟨w.heap.size, 1, none⟩ = some (.slice A n cap) := hF.cell (by go_simp)
      go_simp
      exact ⟨Ext.refl _, rfl⟩
    · obtain ⟨h0, -⟩ := hs
      replace h0 : ρ (.tmp 13) = .slice A n cap := h0
      go_simp
      exact ⟨Ext.refl _, rfl⟩
    · obtain ⟨h0, -⟩ := hs
      replace h0 : ρ (.tmp 14) = .int .i64 ((n : Int)) := h0
      go_simp
      exact ⟨Ext.refl _, rfl⟩
    · obtain ⟨h0, -⟩ := hs
      replace h0 : ρ (.tmp 15) = .bool ((n : Int) == 0) := h0
      go_simp
      refine (errorIf_any _ _ _).mono ?_; rintro e w' ⟨rfl, rfl⟩; exact ⟨_, rfl, Ext.refl _, rfl⟩
    · obtain ⟨h0, -⟩ := hs
      replace h0 : ρ (.tmp 1) = .pointer (some ⟨w.heap.size, 0, none⟩) := h0
      go_simp
      exact ⟨Ext.refl _, rfl⟩
    · obtain ⟨h0, -⟩ := hs
      replace h0 : ρ (.tmp 17) = .pointer (some ⟨w.heap.size, 1, none⟩) := h0
      have hc0 : W.cell? ⟨w.heap.size, 1, none⟩ = some (.slice A n cap) := hF.cell (by go_simp)
      go_simp
      exact ⟨Ext.refl _, rfl⟩
    · obtain ⟨h0, -⟩ := hs
      replace h0 : ρ (.tmp 18) = .slice A n cap := h0
      go_simp
      exact ⟨Ext.refl _, rfl⟩
    · obtain ⟨h0, -⟩ := hs
      replace h0 : ρ (.tmp 19) = .int .i64 ((n : Int)) := h0
      go_simp
      exact ⟨Ext.refl _, rfl⟩
    · obtain ⟨h0, -⟩ := hs
      replace h0 : ρ (.tmp 20) = .bool (decide (4 < (n : Int))) := h0
      go_simp
      refine (errorIf_any _ _ _).mono ?_; rintro e w' ⟨rfl, rfl⟩; exact ⟨_, rfl, Ext.refl _, rfl⟩
    · obtain ⟨h0, h1, h2, -⟩ := hs
      replace h0 : ρ (.tmp 11) = .int .i64 (rangeE 1 20 [t]) := h0
      replace h1 : ρ (.tmp 16) = .int .i64 (errIf ((n : Int) == 0) 10) := h1
      replace h2 : ρ (.tmp 21) = .int .i64 (errIf (decide (4 < (n : Int))) 8) := h2
      go_simp
      exact ⟨Ext.alloc _ _, ints_new _ [rangeE 1 20 [t], errIf ((n : Int) == 0) 10, errIf (decide (4 < (n : Int))) 8] _ (by simp)⟩
    · obtain ⟨h0, -⟩ := hs
      replace h0 : (Ints [rangeE 1 20 [t], errIf ((n : Int) == 0) 10, errIf (decide (4 < (n : Int))) 8]) (ρ (.tmp 22)) W := h0
      go_simp
      refine (firstOf_any _ _ _ h0).mono ?_; rintro e w' ⟨rfl, rfl⟩; exact ⟨_, rfl, Ext.refl _, rfl⟩
    · obtain ⟨h0, -⟩ := hs
      replace h0 : ρ (.tmp 23) = .int .i64 (headE t n) := h0
      go_simp
      exact ⟨Ext.refl _, rfl⟩
  · intro fv W hF hs
    obtain ⟨-, -, -, -, -, -, -, -, -, -, -, -, -, -, -, -, h4, -⟩ := hs
    replace h4 : fv 4 = .int .i64 (headE t n) := h4
    simp only [fin, List.filterMap]
    go_simp
    have hc0 : W.cell? ⟨w.heap.size, 0, none⟩ = some (.int .i64 t) := hF.cell (by go_simp)
    have hc1 : W.cell? ⟨w.heap.size, 1, none⟩ = some (.slice A n cap) := hF.cell (by go_simp)
    have e0 : Ext w W := (Ext.alloc _ _).trans hF
    clear h4 hF
    generalize headE t n = q at HL
    by_cases hq : q = 0
    · have hq' : (q != 0) = false := by simp [hq]
      have HQ := Lib.hid hq
      clear hq
      go_wp2
      go_loopw [30] (fun i wr => ∃ k : Nat, k ≤ n ∧ i = .int .i64 k ∧ firstBad l 0 = firstBad (l.drop k) k ∧ Ext W wr) (fun i _ => n - (intOf i).toNat)
      case atStart => exact ⟨0, Nat.zero_le _, rfl, rfl, Ext.refl _⟩
      case round =>
        obtain ⟨k, hk, rfl, hr, hx⟩ := hrel
        have HR := Lib.hid hr
        clear hr
        by_cases hlt : k < n
        · obtain ⟨s, hs⟩ : ∃ s, l[k]? = some s := ⟨_, List.getElem?_eq_getElem (by rw [HN.out]; exact hlt)⟩
          have HD := Lib.hid (firstBad_drop l k s hs)
          obtain ⟨b, o, hA, hb, hc⟩ := HS.out.2 k s hs
          subst hA
          have hcg : wr.cell? ⟨b, o + k * 3, none⟩ = some (.int .i64 s.g) := (e0.trans hx).cell (hc 0 _ rfl)
          have hcc : wr.cell? ⟨b, o + k * 3 + 1, none⟩ = some (.int .i64 s.c) := (e0.trans hx).cell (hc 1 _ rfl)
          have hch : wr.cell? ⟨b, o + k * 3 + 2, none⟩ = some (.int .i64 s.h) := (e0.trans hx).cell (hc 2 _ rfl)
          have HE := Lib.hid (show s.e = shellE s.g s.c s.h from rfl)
          clear hs hc HS
          generalize s.e = z at HD HE
          generalize s.g = sg at hcg HE
          generalize s.c = sc at hcc HE
          generalize s.h = sh at hch HE
          by_cases hz : z = 0
          · have hz' : (z != 0) = false := by simp [hz]
            have HZ := Lib.hid hz
            clear hz
            go_wp2_with (go_at_call 86; refine (shellFault_any _ _ _ _).mono ?_; rintro e w' ⟨rfl, hxx⟩; rw [← HE.out])
            go_roundw
            case rel => exact ⟨k + 1, by omega, by go_num, by rw [HR.out, HD.out, if_neg (by simp [HZ.out])], hx.trans ((Ext.alloc _ _).trans hxx)⟩
            case measure => simp [intOf]; omega
          · have hz' : (z != 0) = true := by simp [hz]
            have HZ := Lib.hid hz
            clear hz
            go_wp2_with (go_at_call 86; refine (shellFault_any _ _ _ _).mono ?_; rintro e w' ⟨rfl, hxx⟩; rw [← HE.out])
            go_ret2
            exact ⟨ret_pair (by rw [HL.out, if_neg (by simp [HQ.out]), HR.out, HD.out, if_pos HZ.out]) (by rw [HL.out, if_neg (by simp [HQ.out]), HR.out, HD.out, if_pos HZ.out]), e0.trans (hx.trans ((Ext.alloc _ _).trans hxx))⟩
        · have HE := Lib.hid (show firstBad (l.drop k) k = (0, 0) by rw [List.drop_of_length_le (by rw [HN.out]; omega)]; rfl)
          clear HS
          go_wp2
          go_ret2
          exact ⟨ret_pair (by rw [HL.out, if_neg (by simp [HQ.out]), HR.out, HE.out]) (by rw [HL.out, if_neg (by simp [HQ.out]), HR.out, HE.out]), e0.trans hx⟩
    · have hq' : (q != 0) = true := by simp [hq]
      have HQ := Lib.hid hq
      clear hq
      go_wp2
      go_ret2
      exact ⟨ret_pair (by rw [HL.out, if_pos HQ.out]) (by rw [HL.out, if_pos HQ.out]), e0⟩

theorem ladderError_any (t : Int) (A : Option Addr) (n cap : Nat) (l : List Sh) (hn : l.length = n) (w : World) (hS : RowsAt 3 Sh.enc w A l) :
    Calls Try.prog 87 #[.agg #[.int .i64 t, .slice A n cap]] w fun e w' => e = .returned (.int .i64 (checkL t l).2) ∧ Ext w w' := by
  have HC := Lib.hid (fun W h => checkLadder_any t A n cap l hn W h)
  have e0 := Ext.alloc w (.cells #[.int .i64 t, .slice A n cap] 24)
  have HS := Lib.hid (hS.ext e0)
  clear hn hS
  generalize checkL t l = q at HC
  go_enter Try.func87, Try.ntmps87
  go_wp2_with (go_at_call 18; refine (HC.out _ HS.out).mono ?_; rintro e w' ⟨rfl, hx⟩)
  go_ret
  exact ⟨rfl, e0.trans hx⟩

def driveE (t : Int) (l : List Sh) (f : Int) (m : Nat) : Int := firstE [(checkL t l).2, rangeE 1 8 [f], errIf ((m : Int) != (l.length : Int)) 10]

set_option maxRecDepth 100000 in
theorem checkDrive_any (t : Int) (A : Option Addr) (n cap : Nat) (l : List Sh) (hn : l.length = n) (f : Int) (B : Option Addr) (m cap' : Nat) (w : World) (hS : RowsAt 3 Sh.enc w A l) :
    Calls Try.prog 20 #[.agg #[.int .i64 t, .slice A n cap], .agg #[.int .i64 f, .slice B m cap']] w fun e w' => e = .returned (.int .i64 (driveE t l f m)) ∧ Ext w w' := by
  have HD := Lib.hid (show driveE t l f m = firstE [(checkL t l).2, rangeE 1 8 [f], errIf ((m : Int) != (n : Int)) 10] by unfold driveE; rw [hn])
  have HC := Lib.hid (fun W h => ladderError_any t A n cap l hn W h)
  have e0 : Ext w ((w.alloc (.cells #[.int .i64 t, .slice A n cap] 24)).alloc (.cells #[.int .i64 f, .slice B m cap'] 27)) := (Ext.alloc _ _).trans (Ext.alloc _ _)
  have HS := Lib.hid hS
  clear hn hS
  generalize (checkL t l).2 = q at HC HD
  generalize driveE t l f m = r at HD
  go_enter Try.func20, Try.ntmps20
  go_wp2
  refine wp_region_each [some 5, some 6, some 7, some 8, some 9, some 10, some 11, some 12, some 13, some 14, some 15, some 16, some 17, some 18, some 19, some 20, some 4] [[2], [5], [3], [7], [8], [9], [3], [11], [12], [2], [14], [15], [13, 16], [17], [6, 10, 18], [19], [20]]
    [Is (.agg #[.int .i64 (t), .slice A n cap]), Is (.int .i64 (q)), Is (.pointer (some ⟨w.heap.size + 1, 0, none⟩)), Is (.int .i64 (f)), Ints [f], Is (.int .i64 (rangeE 1 8 [f])), Is (.pointer (some ⟨w.heap.size + 1, 1, none⟩)), Is (.slice B m cap'), Is (.int .i64 ((m : Int))), Is (.pointer (some ⟨w.heap.size, 1, none⟩)), Is (.slice A n cap), Is (.int .i64 ((n : Int))), Is (.bool ((m : Int) != (n : Int))), Is (.int .i64 (errIf ((m : Int) != (n : Int)) 10)), Ints [q, rangeE 1 8 [f], errIf ((m : Int) != (n : Int)) 10], Is (.int .i64 (firstE [q, rangeE 1 8 [f], errIf ((m : Int) != (n : Int)) 10])), Is (.int .i64 (firstE [q, rangeE 1 8 [f], errIf ((m : Int) != (n : Int)) 10]))]
    (by kernel_rfl) (by kernel_rfl) (by kernel_rfl) (by kernel_rfl) (by kernel_rfl) Ext (fun W => Ext ((w.alloc (.cells #[.int .i64 t, .slice A n cap] 24)).alloc (.cells #[.int .i64 f, .slice B m cap'] 27)) W)
    (fun W _ => Ext.refl W) (fun W W' h k => h.trans k) ?_ (Ext.drew _) ?_ ?_
  · repeat (refine ⟨fun _ _ _ _ k h => (by first | exact h | exact IntsAt.ext h k), ?_⟩)
    exact trivial
  · refine ⟨?_, ?_, ?_, ?_, ?_, ?_, ?_, ?_, ?_, ?_, ?_, ?_, ?_, ?_, ?_, ?_, ?_, trivial⟩
    all_goals intro ρ W ⟨kc, kg, kf⟩ hF hs
    · obtain ⟨h0, -⟩ := hs
      replace h0 : ρ (.tmp 2) = .pointer (some ⟨w.heap.size, 0, none⟩) := h0
      have hc0 : W.cell? ⟨w.heap.size, 0, none⟩ = some (.int .i64 (t)) := hF.cell (by go_simp)
      have hc1 : W.cell? ⟨w.heap.size, 1, none⟩ = some (.slice A n cap) := hF.cell (by go_simp)
      go_simp
      exact ⟨Ext.refl _, rfl⟩
    · obtain ⟨h0, -⟩ := hs
      replace h0 : ρ (.tmp 5) = .agg #[.int .i64 (t), .slice A n cap] := h0
      go_simp
      refine (HC.out _ (HS.out.ext (e0.trans hF))).mono ?_; rintro e w' ⟨rfl, hx⟩; exact ⟨_, rfl, hx, rfl⟩
    · obtain ⟨h0, -⟩ := hs
      replace h0 : ρ (.tmp 3) = .pointer (some ⟨w.heap.size + 1, 0, none⟩) := h0
      go_simp
      exact ⟨Ext.refl _, rfl⟩
    · obtain ⟨h0, -⟩ := hs
      replace h0 : ρ (.tmp 7) = .pointer (some ⟨w.heap.size + 1, 0, none⟩) := h0
      have hc0 : W.cell? ⟨w.heap.size + 1, 0, none⟩ = some (.int .i64 (f)) := hF.cell (by go_simp)
      go_simp
      exact ⟨Ext.refl _, rfl⟩
    · obtain ⟨h0, -⟩ := hs
      replace h0 : ρ (.tmp 8) = .int .i64 (f) := h0
      go_simp
      exact ⟨Ext.alloc _ _, ints_new _ [f] _ (by simp)⟩
    · obtain ⟨h0, -⟩ := hs
      replace h0 : (Ints [f]) (ρ (.tmp 9)) W := h0
      go_simp
      refine (rangeError_any 1 (8) _ _ _ h0).mono ?_; rintro e w' ⟨rfl, hx⟩; exact ⟨_, rfl, hx, rfl⟩
    · obtain ⟨h0, -⟩ := hs
      replace h0 : ρ (.tmp 3) = .pointer (some ⟨w.heap.size + 1, 0, none⟩) := h0
      go_simp
      exact ⟨Ext.refl _, rfl⟩
    · obtain ⟨h0, -⟩ := hs
      replace h0 : ρ (.tmp 11) = .pointer (some ⟨w.heap.size + 1, 1, none⟩) := h0
      have hc0 : W.cell? ⟨w.heap.size + 1, 1, none⟩ = some (.slice B m cap') := hF.cell (by go_simp)
      go_simp
      exact ⟨Ext.refl _, rfl⟩
    · obtain ⟨h0, -⟩ := hs
      replace h0 : ρ (.tmp 12) = .slice B m cap' := h0
      go_simp
      exact ⟨Ext.refl _, rfl⟩
    · obtain ⟨h0, -⟩ := hs
      replace h0 : ρ (.tmp 2) = .pointer (some ⟨w.heap.size, 0, none⟩) := h0
      go_simp
      exact ⟨Ext.refl _, rfl⟩
    · obtain ⟨h0, -⟩ := hs
      replace h0 : ρ (.tmp 14) = .pointer (some ⟨w.heap.size, 1, none⟩) := h0
      have hc0 : W.cell? ⟨w.heap.size, 1, none⟩ = some (.slice A n cap) := hF.cell (by go_simp)
      go_simp
      exact ⟨Ext.refl _, rfl⟩
    · obtain ⟨h0, -⟩ := hs
      replace h0 : ρ (.tmp 15) = .slice A n cap := h0
      go_simp
      exact ⟨Ext.refl _, rfl⟩
    · obtain ⟨h0, h1, -⟩ := hs
      replace h0 : ρ (.tmp 13) = .int .i64 ((m : Int)) := h0
      replace h1 : ρ (.tmp 16) = .int .i64 ((n : Int)) := h1
      go_simp
      exact ⟨Ext.refl _, rfl⟩
    · obtain ⟨h0, -⟩ := hs
      replace h0 : ρ (.tmp 17) = .bool ((m : Int) != (n : Int)) := h0
      go_simp
      refine (errorIf_any _ _ _).mono ?_; rintro e w' ⟨rfl, rfl⟩; exact ⟨_, rfl, Ext.refl _, rfl⟩
    · obtain ⟨h0, h1, h2, -⟩ := hs
      replace h0 : ρ (.tmp 6) = .int .i64 (q) := h0
      replace h1 : ρ (.tmp 10) = .int .i64 (rangeE 1 8 [f]) := h1
      replace h2 : ρ (.tmp 18) = .int .i64 (errIf ((m : Int) != (n : Int)) 10) := h2
      go_simp
      exact ⟨Ext.alloc _ _, ints_new _ [q, rangeE 1 8 [f], errIf ((m : Int) != (n : Int)) 10] _ (by simp)⟩
    · obtain ⟨h0, -⟩ := hs
      replace h0 : (Ints [q, rangeE 1 8 [f], errIf ((m : Int) != (n : Int)) 10]) (ρ (.tmp 19)) W := h0
      go_simp
      refine (firstOf_any _ _ _ h0).mono ?_; rintro e w' ⟨rfl, rfl⟩; exact ⟨_, rfl, Ext.refl _, rfl⟩
    · obtain ⟨h0, -⟩ := hs
      replace h0 : ρ (.tmp 20) = .int .i64 (firstE [q, rangeE 1 8 [f], errIf ((m : Int) != (n : Int)) 10]) := h0
      go_simp
      exact ⟨Ext.refl _, rfl⟩
  · intro fv W hF hs
    obtain ⟨-, -, -, -, -, -, -, -, -, -, -, -, -, -, -, -, h4, -⟩ := hs
    replace h4 : fv 4 = .int .i64 (firstE [q, rangeE 1 8 [f], errIf ((m : Int) != (n : Int)) 10]) := h4
    simp only [fin, List.filterMap]
    go_simp
    go_wp2
    go_ret
    exact ⟨ret_int HD.out.symm, e0.trans hF⟩

end Go.Proofs.Ytpaoeghdfeekoaa

/- Sums of complex numbers, and reactances. By regen.py. -/
namespace Go.Proofs.Ytpaoeghdfeekoaa
open Go.RowKit Go.Mem Go.RegInv
attribute [local go_sem] RelUpon_value RelUpon_skip RelUpon_enter BigFrame.eval_const BigFrame.eval_global BigFrame.eval_func

def Mid (x : Int) : Prop := -1000000000000000 ≤ x ∧ x ≤ 1000000000000000

theorem wrap_mid {x : Int} (h : Mid x) : IntKind.i64.wrap x = x := IntWalk.i64_in _ (by unfold Mid at h; omega)

def gv (re im : Int) : Value := .agg #[.int .i64 re, .int .i64 im]

theorem plus_any (a b n c d : Int) (ha : Mid a) (hb : Mid b) (hc : Mid (n * c)) (hd : Mid (n * d)) (w : World) :
    Calls Try.prog 108 #[.agg #[.int .i64 a, .int .i64 b], .int .i64 n, .agg #[.int .i64 c, .int .i64 d]] w fun e w' => e = .returned (.agg #[.int .i64 (a + n * c), .int .i64 (b + n * d)]) ∧ Ext w w' := by
  obtain ⟨ha1, ha2⟩ := ha
  obtain ⟨hb1, hb2⟩ := hb
  obtain ⟨hc1, hc2⟩ := hc
  obtain ⟨hd1, hd2⟩ := hd
  go_enter Try.func108, Try.ntmps108
  go_wp2
  exact bodyPost_ret (v := .agg #[.int .i64 (a + n * c), .int .i64 (b + n * d)]) (by simp [results, Try.f108, go_sem]) rfl ⟨rfl, (Ext.alloc _ _).trans ((Ext.alloc _ _).trans (Ext.alloc _ _))⟩

theorem before_any (a b n c d : Int) (ha : Mid a) (hb : Mid b) (hc : Mid (n * c)) (hd : Mid (n * -d)) (hd' : Mid d) (w : World) :
    Calls Try.prog 92 #[.agg #[.int .i64 a, .int .i64 b], .int .i64 n, .agg #[.int .i64 c, .int .i64 d]] w fun e w' => e = .returned (.agg #[.int .i64 (a + n * -d), .int .i64 (b + n * c)]) ∧ Ext w w' := by
  have HP := Lib.hid (fun W => plus_any a b n (-d) c ha hb hd hc W)
  obtain ⟨hd1, hd2⟩ := hd'
  clear ha hb hc hd
  go_enter Try.func92, Try.ntmps92
  go_wp2_with (go_at_call 108; refine (HP.out _).mono ?_; rintro e w' ⟨rfl, hx⟩; have B := (Blk.newAt _ 65 #[.int .i64 0, .int .i64 0] (g := w.heap.size + 1 + 1) (by simp)).ext hx; have c0 := B.cell 0; have c1 := B.cell 1; have f0 := B.free 0; have f1 := B.free 1; simp only [List.getElem?_toArray, List.getElem?_cons_zero, List.getElem?_cons_succ] at c0 c1)
  exact bodyPost_ret (v := .agg #[.int .i64 (a + n * -d), .int .i64 (b + n * c)]) (by simp [results, Try.f92, go_sem, c0, c1]) rfl ⟨rfl, Ext.set (Ext.set ((Ext.alloc _ _).trans ((Ext.alloc _ _).trans ((Ext.alloc _ _).trans hx))) (by simp; omega) _) (by simp; omega) _⟩

def boolEnc (b : Bool) : List Value := [.bool b]

/-- The reactance before a shell. -/
def react (f : Int) (hot : Bool) (s : Sh) : Int := f * (if hot then s.h else s.c)

set_option maxRecDepth 100000 in
theorem reactanceOf_any (t : Int) (A : Option Addr) (n cap : Nat) (l : List Sh) (hn : l.length = n) (f : Int) (B : Option Addr) (m cap' : Nat) (hot : List Bool) (k : Nat) (s : Sh) (hk : Bool) (w : World)
    (hS : RowsAt 3 Sh.enc w A l) (hH : RowsAt 1 boolEnc w B hot) (hls : l[k]? = some s) (hhk : hot[k]? = some hk) (hm : hot.length = m) (h1 : Mid (f * s.c)) (h2 : Mid (f * s.h)) :
    Calls Try.prog 88 #[.agg #[.int .i64 t, .slice A n cap], .agg #[.int .i64 f, .slice B m cap'], .int .i64 k] w fun e w' => e = .returned (.int .i64 (react f hk s)) ∧ Ext w w' := by
  have e0 : Ext w ((w.alloc (.cells #[.int .i64 t, .slice A n cap] 24)).alloc (.cells #[.int .i64 f, .slice B m cap'] 27)) := (Ext.alloc _ _).trans (Ext.alloc _ _)
  have hkn : (k : Int) < n := by have := (List.getElem?_eq_some_iff.1 hls).1; omega
  have hkm : (k : Int) < m := by have := (List.getElem?_eq_some_iff.1 hhk).1; omega
  have hnb : n ≤ 1152921504606846976 := by have := hS.1; omega
  have hmb : m ≤ 1152921504606846976 := by have := hH.1; omega
  obtain ⟨b, o, rfl, hb, hc⟩ := hS.2 k s hls
  obtain ⟨b', o', rfl, hb', hc'⟩ := hH.2 k hk hhk
  have hcc : w.cell? ⟨b, o + k * 3 + 1, none⟩ = some (.int .i64 s.c) := hc 1 _ rfl
  have hch : w.cell? ⟨b, o + k * 3 + 2, none⟩ = some (.int .i64 s.h) := hc 2 _ rfl
  have hcb : w.cell? ⟨b', o' + k, none⟩ = some (.bool hk) := by simpa using hc' 0 _ rfl
  have HR : react f hk s = f * (if hk then s.h else s.c) := rfl
  have HR := Lib.hid HR
  clear hS hH hls hhk hc hc' hn hm
  obtain ⟨h11, h12⟩ := h1
  obtain ⟨h21, h22⟩ := h2
  generalize react f hk s = r at HR
  generalize s.c = sc at hcc h11 h12 HR
  generalize s.h = sh at hch h21 h22 HR
  have hcb1 := (Ext.trans (Ext.alloc w (.cells #[.int .i64 t, .slice (some ⟨b, o, none⟩) n cap] 24)) (Ext.alloc _ (.cells #[.int .i64 f, .slice (some ⟨b', o', none⟩) m cap'] 27))).cell hcb
  cases hk
  · go_enter Try.func88, Try.ntmps88
    go_wp2
    refine wp_region_each [some 21, some 22, some 23, some 24, some 25, some 26, some 27, some 28, some 29, some 6] [[4], [21], [3], [23], [2], [24, 25], [26], [27], [22, 28], [29]]
      [Is (.pointer (some ⟨w.heap.size + 1, 0, none⟩)), Is (.int .i64 (f)), Is (.pointer (some ⟨w.heap.size, 1, none⟩)), Is (.slice (some ⟨b, o, none⟩) n cap), Is (.int .i64 ((k : Int))), Is (.pointer (some ⟨b, o + k * 3, none⟩)), Is (.pointer (some ⟨b, o + k * 3 + 1, none⟩)), Is (.int .i64 (sc)), Is (.int .i64 (f * sc)), Is (.int .i64 (f * sc))]
      (by kernel_rfl) (by kernel_rfl) (by kernel_rfl) (by kernel_rfl) (by kernel_rfl) Ext (fun W => Ext ((w.alloc (.cells #[.int .i64 t, .slice (some ⟨b, o, none⟩) n cap] 24)).alloc (.cells #[.int .i64 f, .slice (some ⟨b', o', none⟩) m cap'] 27)) W)
      (fun W _ => Ext.refl W) (fun W W' h k => h.trans k) ?_ (Ext.drew _) ?_ ?_
    · repeat (refine ⟨fun _ _ _ _ k h => (by first | exact h | exact IntsAt.ext h k), ?_⟩)
      exact trivial
    · refine ⟨?_, ?_, ?_, ?_, ?_, ?_, ?_, ?_, ?_, ?_, trivial⟩
      all_goals intro ρ W ⟨kc, kg, kf⟩ hF hs
      · obtain ⟨h0, -⟩ := hs
        replace h0 : ρ (.tmp 4) = .pointer (some ⟨w.heap.size + 1, 0, none⟩) := h0
        go_simp
        exact ⟨Ext.refl _, rfl⟩
      · obtain ⟨h0, -⟩ := hs
        replace h0 : ρ (.tmp 21) = .pointer (some ⟨w.heap.size + 1, 0, none⟩) := h0
        have hc0 : W.cell? ⟨w.heap.size + 1, 0, none⟩ = some (.int .i64 (f)) := hF.cell (by go_simp)
        go_simp
        exact ⟨Ext.refl _, rfl⟩
      · obtain ⟨h0, -⟩ := hs
        replace h0 : ρ (.tmp 3) = .pointer (some ⟨w.heap.size, 0, none⟩) := h0
        go_simp
        exact ⟨Ext.refl _, rfl⟩
      · obtain ⟨h0, -⟩ := hs
        replace h0 : ρ (.tmp 23) = .pointer (some ⟨w.heap.size, 1, none⟩) := h0
        have hc0 : W.cell? ⟨w.heap.size, 1, none⟩ = some (.slice (some ⟨b, o, none⟩) n cap) := hF.cell (by go_simp)
        go_simp
        exact ⟨Ext.refl _, rfl⟩
      · obtain ⟨h0, -⟩ := hs
        replace h0 : ρ (.tmp 2) = .int .i64 ((k : Int)) := h0
        go_simp
        exact ⟨Ext.refl _, rfl⟩
      · obtain ⟨h0, h1, -⟩ := hs
        replace h0 : ρ (.tmp 24) = .slice (some ⟨b, o, none⟩) n cap := h0
        replace h1 : ρ (.tmp 25) = .int .i64 ((k : Int)) := h1
        go_simp
        exact ⟨Ext.refl _, rfl⟩
      · obtain ⟨h0, -⟩ := hs
        replace h0 : ρ (.tmp 26) = .pointer (some ⟨b, o + k * 3, none⟩) := h0
        go_simp
        exact ⟨Ext.refl _, rfl⟩
      · obtain ⟨h0, -⟩ := hs
        replace h0 : ρ (.tmp 27) = .pointer (some ⟨b, o + k * 3 + 1, none⟩) := h0
        have hc0 : W.cell? ⟨b, o + k * 3 + 1, none⟩ = some (.int .i64 (sc)) := (e0.trans hF).cell hcc
        go_simp
        exact ⟨Ext.refl _, rfl⟩
      · obtain ⟨h0, h1, -⟩ := hs
        replace h0 : ρ (.tmp 22) = .int .i64 (f) := h0
        replace h1 : ρ (.tmp 28) = .int .i64 (sc) := h1
        have hw : IntKind.i64.wrap (f * sc) = f * sc := wrap_mid ⟨h11, h12⟩
        go_simp
        exact ⟨Ext.refl _, rfl⟩
      · obtain ⟨h0, -⟩ := hs
        replace h0 : ρ (.tmp 29) = .int .i64 (f * sc) := h0
        go_simp
        exact ⟨Ext.refl _, rfl⟩
    · intro fv W hF hs
      obtain ⟨-, -, -, -, -, -, -, -, -, h6, -⟩ := hs
      replace h6 : fv 6 = .int .i64 (f * sc) := h6
      simp only [fin, List.filterMap]
      go_simp
      go_wp2
      go_ret
      exact ⟨ret_int (by rw [HR.out]; rfl), e0.trans hF⟩
  · go_enter Try.func88, Try.ntmps88
    go_wp2
    refine wp_region_each [some 12, some 13, some 14, some 15, some 16, some 17, some 18, some 19, some 20, some 6] [[4], [12], [3], [14], [2], [15, 16], [17], [18], [13, 19], [20]]
      [Is (.pointer (some ⟨w.heap.size + 1, 0, none⟩)), Is (.int .i64 (f)), Is (.pointer (some ⟨w.heap.size, 1, none⟩)), Is (.slice (some ⟨b, o, none⟩) n cap), Is (.int .i64 ((k : Int))), Is (.pointer (some ⟨b, o + k * 3, none⟩)), Is (.pointer (some ⟨b, o + k * 3 + 2, none⟩)), Is (.int .i64 (sh)), Is (.int .i64 (f * sh)), Is (.int .i64 (f * sh))]
      (by kernel_rfl) (by kernel_rfl) (by kernel_rfl) (by kernel_rfl) (by kernel_rfl) Ext (fun W => Ext ((w.alloc (.cells #[.int .i64 t, .slice (some ⟨b, o, none⟩) n cap] 24)).alloc (.cells #[.int .i64 f, .slice (some ⟨b', o', none⟩) m cap'] 27)) W)
      (fun W _ => Ext.refl W) (fun W W' h k => h.trans k) ?_ (Ext.drew _) ?_ ?_
    · repeat (refine ⟨fun _ _ _ _ k h => (by first | exact h | exact IntsAt.ext h k), ?_⟩)
      exact trivial
    · refine ⟨?_, ?_, ?_, ?_, ?_, ?_, ?_, ?_, ?_, ?_, trivial⟩
      all_goals intro ρ W ⟨kc, kg, kf⟩ hF hs
      · obtain ⟨h0, -⟩ := hs
        replace h0 : ρ (.tmp 4) = .pointer (some ⟨w.heap.size + 1, 0, none⟩) := h0
        go_simp
        exact ⟨Ext.refl _, rfl⟩
      · obtain ⟨h0, -⟩ := hs
        replace h0 : ρ (.tmp 12) = .pointer (some ⟨w.heap.size + 1, 0, none⟩) := h0
        have hc0 : W.cell? ⟨w.heap.size + 1, 0, none⟩ = some (.int .i64 (f)) := hF.cell (by go_simp)
        go_simp
        exact ⟨Ext.refl _, rfl⟩
      · obtain ⟨h0, -⟩ := hs
        replace h0 : ρ (.tmp 3) = .pointer (some ⟨w.heap.size, 0, none⟩) := h0
        go_simp
        exact ⟨Ext.refl _, rfl⟩
      · obtain ⟨h0, -⟩ := hs
        replace h0 : ρ (.tmp 14) = .pointer (some ⟨w.heap.size, 1, none⟩) := h0
        have hc0 : W.cell? ⟨w.heap.size, 1, none⟩ = some (.slice (some ⟨b, o, none⟩) n cap) := hF.cell (by go_simp)
        go_simp
        exact ⟨Ext.refl _, rfl⟩
      · obtain ⟨h0, -⟩ := hs
        replace h0 : ρ (.tmp 2) = .int .i64 ((k : Int)) := h0
        go_simp
        exact ⟨Ext.refl _, rfl⟩
      · obtain ⟨h0, h1, -⟩ := hs
        replace h0 : ρ (.tmp 15) = .slice (some ⟨b, o, none⟩) n cap := h0
        replace h1 : ρ (.tmp 16) = .int .i64 ((k : Int)) := h1
        go_simp
        exact ⟨Ext.refl _, rfl⟩
      · obtain ⟨h0, -⟩ := hs
        replace h0 : ρ (.tmp 17) = .pointer (some ⟨b, o + k * 3, none⟩) := h0
        go_simp
        exact ⟨Ext.refl _, rfl⟩
      · obtain ⟨h0, -⟩ := hs
        replace h0 : ρ (.tmp 18) = .pointer (some ⟨b, o + k * 3 + 2, none⟩) := h0
        have hc0 : W.cell? ⟨b, o + k * 3 + 2, none⟩ = some (.int .i64 (sh)) := (e0.trans hF).cell hch
        go_simp
        exact ⟨Ext.refl _, rfl⟩
      · obtain ⟨h0, h1, -⟩ := hs
        replace h0 : ρ (.tmp 13) = .int .i64 (f) := h0
        replace h1 : ρ (.tmp 19) = .int .i64 (sh) := h1
        have hw : IntKind.i64.wrap (f * sh) = f * sh := wrap_mid ⟨h21, h22⟩
        go_simp
        exact ⟨Ext.refl _, rfl⟩
      · obtain ⟨h0, -⟩ := hs
        replace h0 : ρ (.tmp 20) = .int .i64 (f * sh) := h0
        go_simp
        exact ⟨Ext.refl _, rfl⟩
    · intro fv W hF hs
      obtain ⟨-, -, -, -, -, -, -, -, -, h6, -⟩ := hs
      replace h6 : fv 6 = .int .i64 (f * sh) := h6
      simp only [fin, List.filterMap]
      go_simp
      go_wp2
      go_ret
      exact ⟨ret_int (by rw [HR.out]; rfl), e0.trans hF⟩

end Go.Proofs.Ytpaoeghdfeekoaa

/- Voltages of a ladder, as numbers. -/
namespace Go.Proofs.Ytpaoeghdfeekoaa
open Go.RowKit Go.Mem

structure G where
  re : Int
  im : Int
def G.enc (z : G) : List Value := [.int .i64 z.re, .int .i64 z.im]
def plusG (z : G) (n : Int) (o : G) : G := ⟨z.re + n * o.re, z.im + n * o.im⟩
def befG (z : G) (n : Int) (o : G) : G := ⟨z.re + n * -o.im, z.im + n * o.re⟩

def shOK (s : Sh) : Prop := (1 ≤ s.g ∧ s.g ≤ 4) ∧ (1 ≤ s.c ∧ s.c ≤ 4) ∧ (1 ≤ s.h ∧ s.h ≤ 4) ∧ s.h ≤ s.c

/-- The voltage in front, the current there, and the voltages so far. -/
structure VS where
  last : G
  cur : G
  out : List G
def vs0 : VS := ⟨⟨1, 0⟩, ⟨0, 0⟩, [⟨1, 0⟩]⟩
def vstep (f : Int) (hot : List Bool) (v : VS) (x : Nat × Sh) : VS :=
  let cur := plusG v.cur x.2.g v.last
  let last := befG v.last (react f (hot.getD x.1 false) x.2) cur
  ⟨last, cur, v.out ++ [last]⟩
def vfold (f : Int) (hot : List Bool) (l : List (Nat × Sh)) : VS := l.foldl (vstep f hot) vs0
theorem vfold_snoc (f : Int) (hot : List Bool) (l : List (Nat × Sh)) (x : Nat × Sh) : vfold f hot (l ++ [x]) = vstep f hot (vfold f hot l) x := by simp [vfold]

def Bd (b : Int) (z : G) : Prop := (-b ≤ z.re ∧ z.re ≤ b) ∧ (-b ≤ z.im ∧ z.im ≤ b)
theorem mul_bd {n x N B : Int} (hn : 0 ≤ n) (hN : n ≤ N) (h1 : -B ≤ x) (h2 : x ≤ B) : -(N * B) ≤ n * x ∧ n * x ≤ N * B := by
  have hB : 0 ≤ B := by omega
  have h3 : n * x ≤ n * B := Int.mul_le_mul_of_nonneg_left h2 hn
  have h4 : n * B ≤ N * B := Int.mul_le_mul_of_nonneg_right hN hB
  have h5 : n * -B ≤ n * x := Int.mul_le_mul_of_nonneg_left h1 hn
  have h6 : n * -B = -(n * B) := Int.mul_neg _ _
  omega

theorem react_bd {f : Int} {h : Bool} {s : Sh} (hf : 1 ≤ f ∧ f ≤ 8) (hs : shOK s) : 1 ≤ react f h s ∧ react f h s ≤ 32 := by
  obtain ⟨_, hc, hh, _⟩ := hs
  unfold react
  have aux : ∀ x : Int, 1 ≤ x → x ≤ 4 → 1 ≤ f * x ∧ f * x ≤ 32 := fun x h1 h2 => by
    have h3 : f * x ≤ f * 4 := Int.mul_le_mul_of_nonneg_left h2 (by omega)
    have h4 : f * 1 ≤ f * x := Int.mul_le_mul_of_nonneg_left h1 (by omega)
    omega
  cases h
  · exact aux _ hc.1 hc.2
  · exact aux _ hh.1 hh.2

def bv : Nat → Int × Int
  | 0 => (1, 0)
  | n + 1 => ((bv n).1 + 32 * ((bv n).2 + 4 * (bv n).1), (bv n).2 + 4 * (bv n).1)
theorem bv_mono (n : Nat) : (bv n).1 ≤ (bv (n + 1)).1 ∧ (bv n).2 ≤ (bv (n + 1)).2 ∧ 0 ≤ (bv n).1 ∧ 0 ≤ (bv n).2 := by
  induction n with
  | zero => decide
  | succ n ih => simp only [bv] at ih ⊢; omega

theorem plus_bd {z o : G} {n A B N : Int} (hz : Bd A z) (ho : Bd B o) (h0 : 0 ≤ n) (hN : n ≤ N) : Bd (A + N * B) (plusG z n o) := by
  obtain ⟨⟨a, b⟩, ⟨c, d⟩⟩ := hz
  obtain ⟨⟨e, g⟩, ⟨h, i⟩⟩ := ho
  have h1 := mul_bd h0 hN e g
  have h2 := mul_bd h0 hN h i
  simp only [Bd, plusG]
  omega
theorem bef_bd {z o : G} {n A B N : Int} (hz : Bd A z) (ho : Bd B o) (h0 : 0 ≤ n) (hN : n ≤ N) : Bd (A + N * B) (befG z n o) := by
  obtain ⟨⟨a, b⟩, ⟨c, d⟩⟩ := hz
  obtain ⟨⟨e, g⟩, ⟨h, i⟩⟩ := ho
  have h1 := mul_bd h0 hN e g
  have h2 := mul_bd (x := -o.im) (B := B) h0 hN (by omega) (by omega)
  simp only [Bd, befG]
  omega

theorem snoc_ind {α : Type} {p : List α → Prop} (h0 : p []) (h1 : ∀ l x, p l → p (l ++ [x])) (l : List α) : p l := by
  have h : ∀ m : List α, p m.reverse := by
    intro m
    induction m with
    | nil => exact h0
    | cons x m ih => rw [List.reverse_cons]; exact h1 _ _ ih
  have := h l.reverse
  rwa [List.reverse_reverse] at this

theorem vfold_len (f : Int) (hot : List Bool) : ∀ l : List (Nat × Sh), (vfold f hot l).out.length = l.length + 1 := by
  refine snoc_ind rfl ?_
  intro l x ih
  rw [vfold_snoc]
  simp [vstep, ih]

theorem vfold_bd {f : Int} {hot : List Bool} (hf : 1 ≤ f ∧ f ≤ 8) : ∀ (l : List (Nat × Sh)), (∀ x ∈ l, shOK x.2) → Bd (bv l.length).1 (vfold f hot l).last ∧ Bd (bv l.length).2 (vfold f hot l).cur := by
  refine snoc_ind ?_ ?_
  · intro _; simp [vfold, vs0, Bd, bv]
  · intro l x ih h
    obtain ⟨h1, h2⟩ := ih (fun y hy => h y (by simp [hy]))
    have hx := h x (by simp)
    have hg := hx.1
    have hr := react_bd (h := hot.getD x.1 false) hf hx
    rw [vfold_snoc, List.length_append, List.length_singleton]
    have hc := plus_bd (n := x.2.g) h2 h1 (by omega) hg.2
    exact ⟨bef_bd (n := react f (hot.getD x.1 false) x.2) h1 hc (by omega) hr.2, hc⟩

end Go.Proofs.Ytpaoeghdfeekoaa

/- The shells from the last one to the first one: the contract of slices.Backward. -/
namespace Go.Proofs.Ytpaoeghdfeekoaa
open Go.RowKit Go.Shelf Go.Mem Go.RegInv
attribute [local go_sem] Oper.semAt_some

/-- A shell with its index. -/
abbrev Ix (ls : List Sh) := { x : Nat × Sh // ls[x.1]? = some x.2 }
def backE (ls : List Sh) : List (Ix ls) := List.ofFn (n := ls.length) fun j => ⟨(ls.length - 1 - j, ls[ls.length - 1 - j]'(by omega)), List.getElem?_eq_getElem (by omega)⟩
theorem backE_length (ls : List Sh) : (backE ls).length = ls.length := by simp [backE]
theorem backE_at (ls : List Sh) (k : Nat) (s : Sh) (h : ls[k]? = some s) : (backE ls)[ls.length - 1 - k]? = some ⟨(k, s), h⟩ := by
  obtain ⟨hk, hs⟩ := List.getElem?_eq_some_iff.1 h
  have e : ls.length - 1 - (ls.length - 1 - k) = k := by omega
  rw [List.getElem?_eq_getElem (by simp [backE]; omega)]
  simp only [backE, List.getElem_ofFn]
  congr 1
  apply Subtype.ext
  simp only [e, hs]
theorem backE_take (ls : List Sh) (k : Nat) (s : Sh) (h : ls[k]? = some s) : (backE ls).take (ls.length - 1 - k) ++ [⟨(k, s), h⟩] = (backE ls).take (ls.length - 1 - k + 1) := by
  have h1 := backE_at ls k s h
  obtain ⟨hk, hs⟩ := List.getElem?_eq_some_iff.1 h1
  rw [List.take_succ_eq_append_getElem hk, hs]

def encIx {ls : List Sh} (x : Ix ls) : Array Value := #[.int .i64 (x.1.1 : Int), .agg #[.int .i64 x.1.2.g, .int .i64 x.1.2.c, .int .i64 x.1.2.h]]

/-- What a round keeps: what lay below n₀, and the box of the slice. -/
def KpB (n₀ Bs : Nat) (W W' : World) : Prop := Below n₀ W W' ∧ W'.heap[Bs]? = W.heap[Bs]?
theorem KpB.t {n₀ Bs : Nat} {A B C : World} (h : KpB n₀ Bs A B) (k : KpB n₀ Bs B C) : KpB n₀ Bs A C := ⟨h.1.trans k.1, k.2.trans h.2⟩
theorem KpB.refl (n₀ Bs : Nat) (A : World) : KpB n₀ Bs A A := ⟨Below.refl _ _, rfl⟩

set_option maxRecDepth 100000 in
set_option maxHeartbeats 2000000 in
theorem backward1 (n : Nat) (hn : 1 ≤ n) (l Bs n₀ : Nat) (A : Option Addr) (m cap : Nat) (ls : List Sh) (hm : ls.length = m) (J Jx : List (Ix ls) → World → Prop)
    (hY : ∀ pre x W, J pre W → pre.length < m → YieldAt Fence.wide (n - 1) Try.prog l (encIx x) W fun e W' =>
      (e = .returned (.bool true) ∧ J (pre ++ [x]) W' ∧ KpB n₀ Bs W W') ∨ (e = .returned (.bool false) ∧ Jx (pre ++ [x]) W'))
    (W : World) (hBs : W.cell? ⟨Bs, 0, none⟩ = some (.slice A m cap)) (hS : RowsAt 3 Sh.enc W A ls) (hA : ∀ b o, A = some ⟨b, o, none⟩ → b < n₀) (h0 : J [] W) :
    CallsIn Fence.wide n Try.prog 137 #[.func (.yield l) #[] #[], .pointer (some ⟨Bs, 0, none⟩)] W fun e W' => (∃ v, e = .returned v) ∧
      ((∃ ys, ys = backE ls ∧ J ys W') ∨ (∃ pre, True ∧ Jx pre W')) := by
  have hmb : m ≤ 1152921504606846976 := by have := hS.1; omega
  have HM := Lib.hid hm
  have HS := Lib.hid hS
  have HA := Lib.hid hA
  have HL := Lib.hid (backE_length ls)
  clear hS hm hA
  refine callsIn_of_wp Try.func137 rfl trivial ?_ rfl
  simp only [Try.ntmps137, List.size_toArray, List.length_cons, List.length_nil, Nat.reduceAdd, Nat.reduceSub, Array.replicate_succ, Array.replicate_zero, List.push_toArray, List.append_toArray, List.nil_append, List.cons_append]
  gi_wp2
  gi_loopw [3] (fun i wr => (i = .int .i64 (-1) ∧ J (backE ls) wr) ∨ (∃ k : Nat, k < m ∧ i = .int .i64 (k : Int) ∧ J ((backE ls).take (m - 1 - k)) wr ∧ KpB n₀ Bs W wr))
    (fun i _ => (intOf i + 1).toNat)
  case atStart =>
    rcases Nat.eq_zero_or_pos m with h | h
    · left
      subst h
      refine ⟨rfl, ?_⟩
      have : backE ls = [] := List.eq_nil_of_length_eq_zero (by rw [HL.out]; exact HM.out)
      rw [this]; exact h0
    · right
      exact ⟨m - 1, by omega, by go_num, by rw [Nat.sub_self]; exact h0, KpB.refl _ _ _⟩
  case round =>
    rcases hrel with ⟨rfl, hJ⟩ | ⟨k, hk, rfl, hJ, hkp⟩
    · gi_wp2
      go_end0
      exact ⟨⟨_, rfl⟩, .inl ⟨_, rfl, hJ⟩⟩
    · obtain ⟨s, hs⟩ : ∃ s, ls[k]? = some s := ⟨_, List.getElem?_eq_getElem (by rw [HM.out]; exact hk)⟩
      obtain ⟨b, o, hA', hb, hc⟩ := HS.out.2 k s hs
      have hbn := HA.out b o hA'
      subst hA'
      have hBs' : wr.cell? ⟨Bs, 0, none⟩ = some (.slice (some ⟨b, o, none⟩) m cap) := (World.cell?_of_block (w := W) hkp.2).trans hBs
      have hcg : wr.cell? ⟨b, o + k * 3, none⟩ = some (.int .i64 s.g) := (hkp.1.cell (p := ⟨b, o + k * 3, none⟩) hbn).trans (hc 0 _ rfl)
      have hcc : wr.cell? ⟨b, o + k * 3 + 1, none⟩ = some (.int .i64 s.c) := (hkp.1.cell (p := ⟨b, o + k * 3 + 1, none⟩) hbn).trans (hc 1 _ rfl)
      have hch : wr.cell? ⟨b, o + k * 3 + 2, none⟩ = some (.int .i64 s.h) := (hkp.1.cell (p := ⟨b, o + k * 3 + 2, none⟩) hbn).trans (hc 2 _ rfl)
      have hlen : ((backE ls).take (m - 1 - k)).length < m := by rw [List.length_take, HL.out, HM.out]; omega
      obtain ⟨fn, tmps, assign, body, hy, hR⟩ := hY _ ⟨(k, s), hs⟩ wr hJ hlen
      have HT := Lib.hid (backE_take ls k s hs)
      dsimp only [encIx] at hy
      clear hc
      gi_wp2
      refine hR.mono ?_
      rintro e W3 (⟨rfl, hJ3, hk3⟩ | ⟨rfl, hJx3⟩)
      · have hJ4 : J ((backE ls).take (m - 1 - k + 1)) W3 := by rw [← HM.out, ← HT.out, HM.out]; exact hJ3
        gi_wp2
        go_roundw
        case rel =>
          rcases Nat.eq_zero_or_pos k with h | h
          · left
            refine ⟨by subst h; go_num, ?_⟩
            rw [List.take_of_length_le (by rw [HL.out, HM.out]; omega)] at hJ4
            exact hJ4
          · right
            exact ⟨k - 1, by omega, by go_num, by rw [show m - 1 - (k - 1) = m - 1 - k + 1 by omega]; exact hJ4, hkp.t hk3⟩
        case measure => simp [intOf]
      · gi_wp2
        refine bodyPost_ret (results_none rfl _ _ _) rfl ?_
        exact ⟨⟨_, rfl⟩, .inr ⟨_, trivial, hJx3⟩⟩

theorem backward_any (A : Option Addr) (m cap : Nat) (w : World) :
    Calls Try.prog 127 #[.slice A m cap] w fun e w' => e = .returned (.func (.func 137) #[] #[.pointer (some ⟨w.heap.size, 0, none⟩)]) ∧ w' = w.alloc (.cells #[.slice A m cap] 22) := by
  go_enter Try.func127, Try.ntmps127
  go_wp2
  go_ret
  exact ⟨rfl, rfl⟩

/-- The value of slices.Backward: all of the shells, from the last one to the first one. -/
theorem backward_stops (n : Nat) (hn : 1 ≤ n) (Bs n₀ : Nat) (A : Option Addr) (m cap : Nat) (ls : List Sh) (hm : ls.length = m) (w : World)
    (hBs : w.cell? ⟨Bs, 0, none⟩ = some (.slice A m cap)) (hS : RowsAt 3 Sh.enc w A ls) (hA : ∀ b o, A = some ⟨b, o, none⟩ → b < n₀) :
    SeqStopsK Fence.wide n Try.prog 137 #[.pointer (some ⟨Bs, 0, none⟩)] (encIx (ls := ls)) (KpB n₀ Bs) (fun ys => ys = backE ls) (fun _ => True) m w := fun l J Jx W hW _ _ hY h0 =>
  backward1 n hn l Bs n₀ A m cap ls hm J Jx hY W (Ext.cell hW hBs) (hS.ext hW) hA h0

end Go.Proofs.Ytpaoeghdfeekoaa

/- The memory of voltagesOf between two rounds. -/
namespace Go.Proofs.Ytpaoeghdfeekoaa
open Go.RowKit Go.Mem

structure St (w : World) (t : Int) (A : Option Addr) (m cap : Nat) (f : Int) (B : Option Addr) (cap' : Nat) (W : World) (v : VS) : Prop where
  b2 : Blk W w.heap.size 24 #[.int .i64 t, .slice A m cap]
  b3 : Blk W (w.heap.size + 1) 27 #[.int .i64 f, .slice B m cap']
  b5 : Blk W (w.heap.size + 1 + 1) 65 #[.int .i64 v.last.re, .int .i64 v.last.im]
  b6 : Blk W (w.heap.size + 1 + 1 + 1) 65 #[.int .i64 v.cur.re, .int .i64 v.cur.im]
  bs : Blk W (w.heap.size + 1 + 1 + 1 + 1 + 1 + 1) 22 #[.slice A m cap]
  row : ∃ u, Blk W (w.heap.size + 1 + 1 + 1 + 1 + 1) 53 #[u] ∧ W.ownsRow (w.heap.size + 1 + 1 + 1 + 1) 65 2 u v.out.length (v.out.flatMap G.enc)
  below : Below w.heap.size w W

section
variable {w : World} {t : Int} {A : Option Addr} {m cap : Nat} {f : Int} {B : Option Addr} {cap' : Nat} {W W' : World} {v : VS}

theorem St.keep (h : St w t A m cap f B cap' W v) (hc : CellsKept W W') (hb : Below w.heap.size W W') : St w t A m cap f B cap' W' v :=
  ⟨hc.blk h.b2, hc.blk h.b3, hc.blk h.b5, hc.blk h.b6, hc.blk h.bs, by obtain ⟨u, h1, h2⟩ := h.row; exact ⟨u, hc.blk h1, hc.own h2⟩, h.below.trans hb⟩
theorem St.ext (h : St w t A m cap f B cap' W v) (e : Ext W W') : St w t A m cap f B cap' W' v := h.keep (CellsKept.ext e) (e.mono h.below.size)

theorem St.setCur (h : St w t A m cap f B cap' W v) (re im : Int) :
    St w t A m cap f B cap' ((W.setCell ⟨w.heap.size + 1 + 1 + 1, 0, none⟩ (.int .i64 re)).setCell ⟨w.heap.size + 1 + 1 + 1, 1, none⟩ (.int .i64 im)) { v with cur := ⟨re, im⟩ } := by
  refine ⟨(h.b2.setOther (by (try dsimp only); omega) _).setOther (by (try dsimp only); omega) _, (h.b3.setOther (by (try dsimp only); omega) _).setOther (by (try dsimp only); omega) _, (h.b5.setOther (by (try dsimp only); omega) _).setOther (by (try dsimp only); omega) _, ?_, (h.bs.setOther (by (try dsimp only); omega) _).setOther (by (try dsimp only); omega) _, ?_,
    (h.below.setCell (by (try dsimp only); omega) _).setCell (by (try dsimp only); omega) _⟩
  · exact (h.b6.setSame 0 _).setSame 1 _
  · obtain ⟨u, h1, h2⟩ := h.row
    exact ⟨u, (h1.setOther (by (try dsimp only); omega) _).setOther (by (try dsimp only); omega) _, own_set (own_set h2 (own_not h2 (by (try dsimp only); omega)) _) (own_not h2 (by (try dsimp only); omega)) _⟩
theorem St.setLast (h : St w t A m cap f B cap' W v) (re im : Int) :
    St w t A m cap f B cap' ((W.setCell ⟨w.heap.size + 1 + 1, 0, none⟩ (.int .i64 re)).setCell ⟨w.heap.size + 1 + 1, 1, none⟩ (.int .i64 im)) { v with last := ⟨re, im⟩ } := by
  refine ⟨(h.b2.setOther (by (try dsimp only); omega) _).setOther (by (try dsimp only); omega) _, (h.b3.setOther (by (try dsimp only); omega) _).setOther (by (try dsimp only); omega) _, ?_, (h.b6.setOther (by (try dsimp only); omega) _).setOther (by (try dsimp only); omega) _, (h.bs.setOther (by (try dsimp only); omega) _).setOther (by (try dsimp only); omega) _, ?_,
    (h.below.setCell (by (try dsimp only); omega) _).setCell (by (try dsimp only); omega) _⟩
  · exact (h.b5.setSame 0 _).setSame 1 _
  · obtain ⟨u, h1, h2⟩ := h.row
    exact ⟨u, (h1.setOther (by (try dsimp only); omega) _).setOther (by (try dsimp only); omega) _, own_set (own_set h2 (own_not h2 (by (try dsimp only); omega)) _) (own_not h2 (by (try dsimp only); omega)) _⟩
/-- Behind an append to the row and the store of the new value. -/
theorem St.append (h : St w t A m cap f B cap' W v) {u u' : Value} (b : Blk W (w.heap.size + 1 + 1 + 1 + 1 + 1) 53 #[u]) (r : W.ownsRow (w.heap.size + 1 + 1 + 1 + 1) 65 2 u v.out.length (v.out.flatMap G.enc)) {z : G}
    (hg : W.grownBy W' u.ownBlock) (hown : W'.ownsRow (w.heap.size + 1 + 1 + 1 + 1) 65 2 u' (v.out.length + 1) (v.out.flatMap G.enc ++ z.enc)) :
    Blk W' (w.heap.size + 1 + 1 + 1 + 1 + 1) 53 #[u] ∧ St w t A m cap f B cap' (W'.setCell ⟨w.heap.size + 1 + 1 + 1 + 1 + 1, 0, none⟩ u') { v with out := v.out ++ [z] } := by
  have k : ∀ {g : Nat} {t : TypeId} {cs : Array Value}, Blk W g t cs → some g ≠ u.ownBlock → Blk W' g t cs := fun b hne => (hg.block _ b.lt hne).trans b
  have b' := k b (own_notBlk r b (by decide))
  have hb : Below w.heap.size W W' := (Below.refl _ _).grown hg h.below.size (fun g hg' => by
    rcases r.2 with ⟨rfl, _⟩ | ⟨g', cap, cur, rfl, h2, _⟩
    · simp [Value.ownBlock] at hg'
    · simp [Value.ownBlock] at hg'; omega)
  refine ⟨b', (k h.b2 (own_not r (by omega))).setOther (by (try dsimp only); omega) _, (k h.b3 (own_not r (by omega))).setOther (by (try dsimp only); omega) _, (k h.b5 (own_not r (by omega))).setOther (by (try dsimp only); omega) _, (k h.b6 (own_not r (by omega))).setOther (by (try dsimp only); omega) _,
    (k h.bs (own_notBlk r h.bs (by decide))).setOther (by (try dsimp only); omega) _, ⟨u', b'.setSame 0 _, ?_⟩, (h.below.trans hb).setCell (by (try dsimp only); omega) _⟩
  have e1 : (v.out ++ [z]).length = v.out.length + 1 := by simp
  have e2 : (v.out ++ [z]).flatMap G.enc = v.out.flatMap G.enc ++ z.enc := by simp
  show (W'.setCell _ u').ownsRow _ 65 2 u' (v.out ++ [z]).length ((v.out ++ [z]).flatMap G.enc)
  rw [e1, e2]
  exact own_set hown (own_notBlk hown b' (by decide)) _
end
end Go.Proofs.Ytpaoeghdfeekoaa

/- slices.Reverse at complex numbers, on a row of the call's own. -/
namespace Go.Proofs.Ytpaoeghdfeekoaa
open Go.RowKit Go.Mem

/-- The first k and the last k exchanged. -/
def revk (n k : Nat) (z : Nat → G) (p : Nat) : G := if p < k ∨ n ≤ p + k then z (n - 1 - p) else z p
theorem revk_zero (n : Nat) (z : Nat → G) (p : Nat) (h : p < n) : revk n 0 z p = z p := by
  unfold revk; rw [if_neg (by omega)]
theorem revk_end (n k j : Nat) (z : Nat → G) (p : Nat) (h : k + j + 1 = n) (hkj : j ≤ k) (hp : p < n) : revk n k z p = z (n - 1 - p) := by
  unfold revk
  by_cases h1 : p < k ∨ n ≤ p + k
  · rw [if_pos h1]
  · rw [if_neg h1]; congr 1; omega

def Cells (n : Nat) (cu : Array Value) (z : Nat → G) : Prop := n * 2 ≤ cu.size ∧ ∀ p, p < n → cu[p * 2]? = some (.int .i64 (z p).re) ∧ cu[p * 2 + 1]? = some (.int .i64 (z p).im)

theorem grown_set {w W : World} {g : Nat} (h : w.grownBy W (some g)) (i : Nat) (u : Value) : w.grownBy (W.setCell ⟨g, i, none⟩ u) (some g) :=
  ⟨h.os, h.tape, h.output, by simpa [World.setCell] using h.size, fun k hk hne => (Below.heap_setCell W ⟨g, i, none⟩ u k (fun e => hne (by rw [e]))).trans (h.block k hk hne)⟩
theorem grown_drew {w W : World} {r : Option Nat} (h : w.grownBy W r) : w.grownBy W.drew r := ⟨h.os, h.tape, h.output, h.size, h.block⟩

theorem set_at {cu : Array Value} {i j : Nat} {v : Value} : (cu.setIfInBounds i v)[j]? = if i = j then (if i < cu.size then some v else none) else cu[j]? := by
  rw [Array.getElem?_setIfInBounds]

theorem cells_swap {n k jn : Nat} {z : Nat → G} {cw : Array Value} (h : k + jn + 1 = n) (hlt : k < jn) (hc : Cells n cw (revk n k z)) :
    Cells n ((((cw.setIfInBounds (k * 2) (.int .i64 (revk n k z jn).re)).setIfInBounds (k * 2 + 1) (.int .i64 (revk n k z jn).im)).setIfInBounds (jn * 2) (.int .i64 (revk n k z k).re)).setIfInBounds (jn * 2 + 1) (.int .i64 (revk n k z k).im)) (revk n (k + 1) z) := by
  obtain ⟨hs, hp⟩ := hc
  refine ⟨by simp only [Array.size_setIfInBounds]; exact hs, fun p hpn => ?_⟩
  have e1 : revk n (k + 1) z p = if p = k then revk n k z jn else if p = jn then revk n k z k else revk n k z p := by
    unfold revk
    by_cases h1 : p = k
    · subst h1
      rw [if_pos (by omega), if_pos rfl, if_neg (by omega)]
      congr 1; omega
    · rw [if_neg h1]
      by_cases h2 : p = jn
      · subst h2
        rw [if_pos (by omega), if_pos rfl, if_neg (by omega)]
        congr 1; omega
      · rw [if_neg h2]
        by_cases h3 : p < k ∨ n ≤ p + k
        · rw [if_pos h3, if_pos (by omega)]
        · rw [if_neg h3, if_neg (by omega)]
  rw [e1]
  simp only [set_at, Array.size_setIfInBounds]
  by_cases h1 : p = k
  · subst h1
    simp only [if_pos]
    refine ⟨?_, ?_⟩
    · rw [if_neg (by omega), if_neg (by omega), if_neg (by omega), if_pos (by omega)]
    · rw [if_neg (by omega), if_neg (by omega), if_pos (by omega)]
  · rw [if_neg h1]
    by_cases h2 : p = jn
    · subst h2
      simp only [if_pos]
      refine ⟨?_, ?_⟩
      · rw [if_neg (by omega), if_pos (by omega)]
      · rw [if_pos (by omega)]
    · rw [if_neg h2]
      refine ⟨?_, ?_⟩
      · rw [if_neg (by omega), if_neg (by omega), if_neg (by omega), if_neg (by omega)]; exact (hp p hpn).1
      · rw [if_neg (by omega), if_neg (by omega), if_neg (by omega), if_neg (by omega)]; exact (hp p hpn).2

set_option maxRecDepth 100000 in
set_option maxHeartbeats 1000000 in
theorem reverse_cells (g n cap : Nat) (z : Nat → G) (cu : Array Value) (w : World) (h1 : 1 ≤ n) (hn : n ≤ 1152921504606846976) (_hcap : n ≤ cap) (hb : Blk w g 65 cu) (hz : Cells n cu z) :
    Calls Try.prog 128 #[.slice (some ⟨g, 0, none⟩) n cap] w fun e w' => e = .returned (.tuple #[]) ∧ w.grownBy w' (some g) ∧ ∃ cu', Blk w' g 65 cu' ∧ cu'.size = cu.size ∧ Cells n cu' (fun p => z (n - 1 - p)) := by
  have HB := Lib.hid hb
  have HZ := Lib.hid hz
  clear hb hz
  go_enter Try.func128, Try.ntmps128
  go_wp2
  go_loopw [2, 3] (fun i j wr => ∃ (k jn : Nat) (cw : Array Value), i = .int .i64 k ∧ j = .int .i64 jn ∧ k + jn + 1 = n ∧ Blk wr g 65 cw ∧ cw.size = cu.size ∧ Cells n cw (revk n k z) ∧ w.grownBy wr (some g)) (fun i _ _ => n - (intOf i).toNat)
  case atStart => exact ⟨0, n - 1, cu, rfl, by go_num, by omega, HB.out, rfl, ⟨HZ.out.1, fun p hp => by rw [revk_zero n z p hp]; exact HZ.out.2 p hp⟩, World.grownBy.refl w _⟩
  case round =>
    obtain ⟨k, jn, cw, rfl, rfl, hkj, hbw, hsz, hcw, hgw⟩ := hrel
    have HKJ := Lib.hid hkj
    have h2 : k + jn + 1 ≤ n := by omega
    have h3 : n ≤ k + jn + 1 := by omega
    clear hkj
    have HBW := Lib.hid hbw
    have HSZ := Lib.hid hsz
    have HCW := Lib.hid hcw
    clear hsz
    by_cases hlt : k < jn
    · have hk := hcw.2 k (by omega)
      have hj := hcw.2 jn (by omega)
      have a0 : wr.cell? ⟨g, k * 2, none⟩ = some (.int .i64 (revk n k z k).re) := (hbw.cell _).trans hk.1
      have a1 : wr.cell? ⟨g, k * 2 + 1, none⟩ = some (.int .i64 (revk n k z k).im) := (hbw.cell _).trans hk.2
      have b0 : wr.cell? ⟨g, jn * 2, none⟩ = some (.int .i64 (revk n k z jn).re) := (hbw.cell _).trans hj.1
      have b1 : wr.cell? ⟨g, jn * 2 + 1, none⟩ = some (.int .i64 (revk n k z jn).im) := (hbw.cell _).trans hj.2
      have f0 := hbw.free (k * 2)
      have f1 := hbw.free (k * 2 + 1)
      have f2 := hbw.free (jn * 2)
      have f3 := hbw.free (jn * 2 + 1)
      have hi1 : (0 : Int) ≤ (k : Int) := by omega
      have hi2 : (k : Int) < (n : Int) := by omega
      have hi3 : (0 : Int) ≤ (jn : Int) := by omega
      have hi4 : (jn : Int) < (n : Int) := by omega
      clear hk hj hcw hbw
      go_wp2
      go_region
      go_wp2
      go_roundw
      case rel =>
        refine ⟨k + 1, jn - 1, _, by go_num, by go_num, by omega, (((((HBW.out.drew).setSame (k * 2) (.int .i64 (revk n k z jn).re)).setSame (k * 2 + 1) (.int .i64 (revk n k z jn).im)).setSame (jn * 2) (.int .i64 (revk n k z k).re)).setSame (jn * 2 + 1) (.int .i64 (revk n k z k).im)),
          by simp only [Array.size_setIfInBounds]; exact HSZ.out, cells_swap HKJ.out hlt HCW.out, ?_⟩
        exact grown_set (grown_set (grown_set (grown_set (grown_drew hgw) _ _) _ _) _ _) _ _
      case measure => simp [intOf]; omega
    · clear hcw hbw
      go_wp2
      go_end0
      exact ⟨rfl, hgw, cw, HBW.out, HSZ.out, HCW.out.1, fun p hp => by
        have := HCW.out.2 p hp
        rw [revk_end n k jn z p HKJ.out (by omega) hp] at this
        exact this⟩

theorem flat_at (xs : List G) : ∀ (p : Nat) (z : G), xs[p]? = some z → (xs.flatMap G.enc)[p * 2]? = some (.int .i64 z.re) ∧ (xs.flatMap G.enc)[p * 2 + 1]? = some (.int .i64 z.im) := by
  induction xs with
  | nil => intro p z h; simp at h
  | cons x xs ih =>
    intro p z h
    rw [List.flatMap_cons]
    cases p with
    | zero =>
      obtain rfl : x = z := by simpa using h
      exact ⟨rfl, rfl⟩
    | succ p =>
      obtain ⟨h1, h2⟩ := ih p z (by simpa using h)
      refine ⟨?_, ?_⟩
      · rw [show (p + 1) * 2 = p * 2 + 2 by omega]; exact h1
      · rw [show (p + 1) * 2 + 1 = p * 2 + 1 + 2 by omega]; exact h2
theorem flat_len (xs : List G) : (xs.flatMap G.enc).length = xs.length * 2 := by
  induction xs with
  | nil => rfl
  | cons x xs ih => rw [List.flatMap_cons, List.length_append, ih, List.length_cons]; simp [G.enc]; omega

theorem take_flat {n : Nat} {cu : Array Value} {xs : List G} (hl : xs.length = n) (hc : Cells n cu (fun p => xs.getD p ⟨0, 0⟩)) : cu.toList.take (n * 2) = xs.flatMap G.enc := by
  apply List.ext_getElem?
  intro i
  by_cases hi : i < n * 2
  · rw [List.getElem?_take, if_pos hi]
    obtain ⟨p, hp⟩ : ∃ p, i = p * 2 ∨ i = p * 2 + 1 := ⟨i / 2, by omega⟩
    have hpn : p < n := by omega
    have hx : xs[p]? = some (xs.getD p ⟨0, 0⟩) := by simp [hl, hpn]
    obtain ⟨h1, h2⟩ := flat_at xs p _ hx
    obtain ⟨h3, h4⟩ := hc.2 p hpn
    rcases hp with rfl | rfl
    · rw [h1, Array.getElem?_toList]; exact h3
    · rw [h2, Array.getElem?_toList]; exact h4
  · rw [List.getElem?_take, if_neg hi, List.getElem?_eq_none (by rw [flat_len]; omega)]

theorem reverse_any (base g n cap : Nat) (xs : List G) (w : World) (hl : xs.length = n) (h1 : 1 ≤ n) (hn : n ≤ 1152921504606846976) (hown : w.ownsRow base 65 2 (.slice (some ⟨g, 0, none⟩) n cap) n (xs.flatMap G.enc)) :
    Calls Try.prog 128 #[.slice (some ⟨g, 0, none⟩) n cap] w fun e w' => e = .returned (.tuple #[]) ∧ w.grownBy w' (some g) ∧ w'.ownsRow base 65 2 (.slice (some ⟨g, 0, none⟩) n cap) n (xs.reverse.flatMap G.enc) := by
  obtain ⟨hlen, h | ⟨g', cap', cu, hv, hbase, hh, hcap, hmax, hsz, htake⟩⟩ := hown
  · omega
  · obtain ⟨rfl, rfl⟩ : g = g' ∧ cap = cap' := by simpa using hv
    have hz : Cells n cu (fun p => xs.getD p ⟨0, 0⟩) := by
      refine ⟨by rw [hsz]; omega, fun p hp => ?_⟩
      have hx : xs[p]? = some (xs.getD p ⟨0, 0⟩) := by simp [hl, hp]
      obtain ⟨h2, h3⟩ := flat_at xs p _ hx
      rw [← htake, List.getElem?_take, if_pos (by omega), Array.getElem?_toList] at h2 h3
      exact ⟨h2, h3⟩
    refine (reverse_cells g n cap _ cu w h1 hn hcap hh hz).mono ?_
    rintro e w' ⟨he, hg, cu', hb', hs', hc'⟩
    refine ⟨he, hg, by rw [flat_len, List.length_reverse, hl], .inr ⟨g, cap, cu', rfl, hbase, hb', hcap, hmax, by rw [hs', hsz], ?_⟩⟩
    refine take_flat (by rw [List.length_reverse, hl]) ⟨hc'.1, fun p hp => ?_⟩
    have := hc'.2 p hp
    have e1 : xs.reverse.getD p ⟨0, 0⟩ = xs.getD (n - 1 - p) ⟨0, 0⟩ := by
      rw [List.getD_eq_getElem?_getD, List.getElem?_reverse (by omega), hl, List.getD_eq_getElem?_getD]
    dsimp only at this ⊢
    rw [e1]
    exact this

end Go.Proofs.Ytpaoeghdfeekoaa

/- The voltages of a ladder. By regen.py. -/
namespace Go.Proofs.Ytpaoeghdfeekoaa
open Go.RowKit Go.Shelf Go.Mem Go.RegInv
attribute [local go_sem] Oper.semAt_some RelUpon_value RelUpon_skip RelUpon_enter

theorem info65 : (Try.prog.info? 65).map (fun i => (i.zero, i.size, i.bytes)) = some (some (.agg #[.int .i64 0, .int .i64 0]), 2, 16) := by kernel_rfl

theorem vfold_small {f : Int} {hot : List Bool} (hf : 1 ≤ f ∧ f ≤ 8) (l : List (Nat × Sh)) (h : ∀ x ∈ l, shOK x.2) (hl : l.length ≤ 4) : Bd 300000000 (vfold f hot l).last ∧ Bd 300000000 (vfold f hot l).cur := by
  obtain ⟨h1, h2⟩ := vfold_bd (hot := hot) hf l h
  have e : (bv l.length).1 ≤ 300000000 ∧ (bv l.length).2 ≤ 300000000 := by
    generalize l.length = n at hl
    match n, hl with
    | 0, _ => decide
    | 1, _ => decide
    | 2, _ => decide
    | 3, _ => decide
    | 4, _ => decide
  simp only [Bd] at h1 h2 ⊢
  omega

theorem mid_of {n x N B : Int} (hn : 0 ≤ n) (hN : n ≤ N) (h1 : -B ≤ x) (h2 : x ≤ B) (hb : N * B ≤ 1000000000000000) : Mid (n * x) := by
  have := mul_bd hn hN h1 h2
  unfold Mid; omega

/-- The voltages of the input and of all nodes. -/
def volts (f : Int) (hot : List Bool) (ls : List Sh) : List G := (vfold f hot ((backE ls).map (·.1))).out.reverse
theorem volts_len (f : Int) (hot : List Bool) (ls : List Sh) : (volts f hot ls).length = ls.length + 1 := by
  unfold volts; rw [List.length_reverse, vfold_len, List.length_map, backE_length]

def VoltsAt (w w' : World) (e : Ending) (m : Nat) (zs : List G) : Prop := ∃ g cap, e = .returned (.slice (some ⟨g, 0, none⟩) (m + 1) cap) ∧ RowsAt 2 G.enc w' (some ⟨g, 0, none⟩) zs ∧ Ext w w' ∧ w.heap.size ≤ g ∧ m + 1 ≤ cap ∧ ∃ cu, Blk w' g 65 cu

theorem rowsAt_own {W : World} {base g n cap : Nat} {zs : List G} (hl : zs.length = n) (hn : n ≤ 1152921504606846976) (h1 : 1 ≤ n) (h : W.ownsRow base 65 2 (.slice (some ⟨g, 0, none⟩) n cap) n (zs.flatMap G.enc)) : RowsAt 2 G.enc W (some ⟨g, 0, none⟩) zs := by
  obtain ⟨hlen, h | ⟨g', cap', cu, hv, hbase, hh, hcap, hmax, hsz, htake⟩⟩ := h
  · omega
  · obtain ⟨rfl, rfl⟩ : g = g' ∧ cap = cap' := by simpa using hv
    refine ⟨by omega, fun i x hx => ⟨g, 0, rfl, (show Blk W g 65 cu from hh).lt, fun j u hu => ?_⟩⟩
    have hi : i < n := by have := (List.getElem?_eq_some_iff.1 hx).1; omega
    obtain ⟨h2, h3⟩ := flat_at zs i x hx
    rw [← htake, List.getElem?_take, if_pos (by omega), Array.getElem?_toList] at h2 h3
    rw [(show Blk W g 65 cu from hh).cell]
    match j, hu with
    | 0, hu => rw [Nat.zero_add, Nat.add_zero, h2]; simpa [G.enc] using hu
    | 1, hu => rw [Nat.zero_add, h3]; simpa [G.enc] using hu
    | j + 2, hu => simp [G.enc] at hu

set_option maxRecDepth 100000 in
set_option maxHeartbeats 2000000 in
theorem voltagesOf_in (t : Int) (A : Option Addr) (m cap : Nat) (ls : List Sh) (hm : ls.length = m) (f : Int) (B : Option Addr) (cap' : Nat) (hot : List Bool) (hm' : hot.length = m) (w : World)
    (hS : RowsAt 3 Sh.enc w A ls) (hH : RowsAt 1 boolEnc w B hot) (hok : ∀ s ∈ ls, shOK s) (hf : 1 ≤ f ∧ f ≤ 8) (h1 : 1 ≤ m) (h4 : m ≤ 4) :
    CallsIn Fence.wide 5 Try.prog 89 #[.agg #[.int .i64 t, .slice A m cap], .agg #[.int .i64 f, .slice B m cap']] w fun e w' => VoltsAt w w' e m (volts f hot ls) := by
  have HS := Lib.hid hS
  have HH := Lib.hid hH
  have HM := Lib.hid hm
  have HM' := Lib.hid hm'
  have HOK := Lib.hid hok
  have HF := Lib.hid hf
  obtain ⟨hf1, hf2⟩ := hf
  have HA := Lib.hid (show ∀ b o, A = some ⟨b, o, none⟩ → b < w.heap.size from fun b o hA => by
    obtain ⟨b', o', h1', h2', _⟩ := hS.2 0 _ (List.getElem?_eq_getElem (by omega))
    rw [hA] at h1'
    simp at h1'
    omega)
  obtain ⟨i0, hi, hz0, hz1, hz2⟩ := info_parts info65
  have HI0 := Lib.hid hz0
  clear hS hH hm hm' hok
  refine callsIn_of_wp_marks Try.func89 rfl trivial ?_ rfl
  simp only [Try.ntmps89, List.size_toArray, List.length_cons, List.length_nil, Nat.reduceAdd, Nat.reduceSub, Array.replicate_succ, Array.replicate_zero, List.push_toArray, List.append_toArray, List.nil_append, List.cons_append]
  gi_wp2_with (refine ⟨trivial, ?_⟩; gi_at_call 127; refine (callsIn_wide.2 (backward_any _ _ _ _)).mono ?_; rintro e w' ⟨rfl, rfl⟩)
  have hst : St w t A m cap f B cap' (((((((w.alloc (.cells #[.int .i64 t, .slice A m cap] 24)).alloc (.cells #[.int .i64 f, .slice B m cap'] 27)).alloc (.cells #[.int .i64 1, .int .i64 0] 65)).alloc (.cells #[.int .i64 0, .int .i64 0] 65)).alloc
      (.cells #[.int .i64 1, .int .i64 0] 65)).alloc (.cells #[.slice (some ⟨w.heap.size + 1 + 1 + 1 + 1, 0, none⟩) 1 1] 53)).alloc (.cells #[.slice A m cap] 22)) vs0 := by
    refine ⟨(((((((Blk.newAt _ _ _ (by simp)).alloc _).alloc _).alloc _).alloc _).alloc _).alloc _), ((((((Blk.newAt _ _ _ (by simp)).alloc _).alloc _).alloc _).alloc _).alloc _), (((((Blk.newAt _ _ _ (by simp)).alloc _).alloc _).alloc _).alloc _),
      ((((Blk.newAt _ _ _ (by simp)).alloc _).alloc _).alloc _), Blk.newAt _ _ _ (by simp), ⟨_, (Blk.newAt _ _ _ (by simp)).alloc _, ?_⟩, ?_⟩
    · refine ⟨rfl, .inr ⟨w.heap.size + 1 + 1 + 1 + 1, 1, _, rfl, Nat.le_refl _, (((Blk.newAt _ _ _ (by simp)).alloc _).alloc _ : Blk _ _ 65 #[.int .i64 1, .int .i64 0]), Nat.le_refl _, by decide, rfl, rfl⟩⟩
    · exact (Ext.alloc _ _).trans ((Ext.alloc _ _).trans ((Ext.alloc _ _).trans ((Ext.alloc _ _).trans ((Ext.alloc _ _).trans ((Ext.alloc _ _).trans (Ext.alloc _ _))))))
  generalize hW0 : (((((((w.alloc (.cells #[.int .i64 t, .slice A m cap] 24)).alloc (.cells #[.int .i64 f, .slice B m cap'] 27)).alloc (.cells #[.int .i64 1, .int .i64 0] 65)).alloc (.cells #[.int .i64 0, .int .i64 0] 65)).alloc
      (.cells #[.int .i64 1, .int .i64 0] 65)).alloc (.cells #[.slice (some ⟨w.heap.size + 1 + 1 + 1 + 1, 0, none⟩) 1 1] 53)).alloc (.cells #[.slice A m cap] 22)) = W0 at hst ⊢
  clear hW0
  have hlt0 := hst.bs.lt
  refine wpIn_rangeFunc_ownH (α := Ix ls) (Kp := KpB w.heap.size (w.heap.size + 1 + 1 + 1 + 1 + 1 + 1)) (encs := encIx) (S := fun ys => ys = backE ls) (Sp := fun _ => True) (N := m) rfl (by omega) (gf := 137) (lb := #[.pointer (some ⟨w.heap.size + 1 + 1 + 1 + 1 + 1 + 1, 0, none⟩)]) rfl trivial (enters_of Try.func137 (by kernel_rfl) rfl)
    (backward_stops 4 (by omega) (w.heap.size + 1 + 1 + 1 + 1 + 1 + 1) w.heap.size A m cap ls HM.out W0 (hst.bs.cell 0) (HS.out.ext hst.below) HA.out) (fun h k => h.t k) ?hKb (Below.refl _ _) (fun _ => rfl)
    (fun pre W => St w t A m cap f B cap' W (vfold f hot (pre.map (·.1)))) (fun _ _ _ => False) ?hI (fun _ _ _ _ _ hs _ _ => hs) hst
    (fun x a' W => ∃ Bx, w.heap.size + 1 + 1 + 1 + 1 + 1 + 1 < Bx ∧ Blk W Bx 92 #[.int .i64 x.1.2.g, .int .i64 x.1.2.c, .int .i64 x.1.2.h] ∧ a' =
      { tmps := #[.agg #[.int .i64 t, .slice A m cap], .agg #[.int .i64 f, .slice B m cap'],
        .pointer (some ⟨w.heap.size, 0, none⟩), .pointer (some ⟨w.heap.size + 1, 0, none⟩), .slice none 0 0, .pointer (some ⟨w.heap.size + 1 + 1, 0, none⟩), .pointer (some ⟨w.heap.size + 1 + 1 + 1, 0, none⟩), .pointer (some ⟨w.heap.size + 1 + 1 + 1 + 1 + 1, 0, none⟩),
        .int .i64 (x.1.1 : Int), .pointer (some ⟨Bx, 0, none⟩), .agg #[.int .i64 1, .int .i64 0], .agg #[.int .i64 0, .int .i64 0], .agg #[.int .i64 1, .int .i64 0], .slice (some ⟨w.heap.size + 1 + 1 + 1 + 1, 0, none⟩) 1 1,
        .pointer (some ⟨w.heap.size, 1, none⟩), .slice A m cap, .func (.func 137) #[] #[.pointer (some ⟨w.heap.size + 1 + 1 + 1 + 1 + 1 + 1, 0, none⟩)], .int .i64 (x.1.1 : Int), .agg #[.int .i64 x.1.2.g, .int .i64 x.1.2.c, .int .i64 x.1.2.h],
        undef, undef, undef, undef, undef, undef, undef, undef, undef, undef, undef, undef, undef, undef, undef, undef, undef, undef, undef], defers := [] }) ?hAx ?assign ?body ?done ?stop
  case hKb =>
    intro W l o o' hl h hc hw
    exact ⟨belowK_b (w := W0) (by omega) W l o o' hl h hc hw, World.putObj_heap_other (by omega)⟩
  case hI =>
    intro pre X Y row hs hg hr
    exact hs.keep (CellsKept.grown hg (fun r e => (hr r e).2)) ((Below.refl _ _).grown hg hs.below.size (fun k e => by have := (hr k e).1; omega))
  case hAx =>
    rintro x a' _ X Y row ⟨Bx, h1', h2', h3'⟩ hg hr
    exact ⟨Bx, h1', (CellsKept.grown hg (fun r e => (hr r e).2)).blk h2', h3'⟩
  case assign =>
    rintro l pre x W K hI hK
    have hz := hI.bs.lt
    unfold encIx
    gi_wp2
    exact hK _ _ ((KeepsOthers.alloc _ _).from _) ⟨(Below.refl _ _).alloc hI.below.size _, Below.heap_alloc _ _ _ hz⟩ (hI.ext (Ext.alloc _ _)) ⟨W.heap.size, hz, Blk.new _ _ _, rfl⟩
  case body =>
    rintro lp pre ⟨⟨k, s⟩, hx⟩ a' Wb hl ⟨r, hr⟩ hI ⟨Bx, hBx, bX, rfl⟩ hlt
    dsimp only at bX ⊢
    have hvs := vfold_snoc f hot (pre.map (·.1)) (k, s)
    have hpok : ∀ y ∈ pre.map (·.1), shOK y.2 := fun y hy => by
      obtain ⟨z, hz, rfl⟩ := List.mem_map.1 hy
      exact HOK.out _ (List.mem_of_getElem? z.2)
    have hsk := HOK.out s (List.mem_of_getElem? hx)
    obtain ⟨hb1, hb2⟩ := vfold_small (hot := hot) HF.out (pre.map (·.1)) hpok (by rw [List.length_map]; omega)
    obtain ⟨hc1, hc2⟩ := vfold_small (hot := hot) HF.out (pre.map (·.1) ++ [(k, s)]) (fun y hy => by
      rcases List.mem_append.1 hy with h | h
      · exact hpok y h
      · simp at h; subst h; exact hsk) (by simp; omega)
    have hol : (vfold f hot (pre.map (·.1))).out.length = pre.length + 1 := by rw [vfold_len, List.length_map]
    rw [hvs] at hc1 hc2
    have HV := Lib.hid hvs
    clear hvs
    obtain ⟨hk, hhk⟩ : ∃ hk, hot[k]? = some hk := ⟨_, List.getElem?_eq_getElem (by have := (List.getElem?_eq_some_iff.1 hx).1; rw [HM.out] at this; rw [HM'.out]; exact this)⟩
    have hgd : hot.getD k false = hk := by simp [hhk]
    have hrb := react_bd (h := hk) HF.out hsk
    have e1 : (vstep f hot (vfold f hot (pre.map (·.1))) (k, s)).cur = plusG (vfold f hot (pre.map (·.1))).cur s.g (vfold f hot (pre.map (·.1))).last := rfl
    have HVS := Lib.hid (show vstep f hot (vfold f hot (pre.map (·.1))) (k, s) = ⟨befG (vfold f hot (pre.map (·.1))).last (react f hk s) (plusG (vfold f hot (pre.map (·.1))).cur s.g (vfold f hot (pre.map (·.1))).last), plusG (vfold f hot (pre.map (·.1))).cur s.g (vfold f hot (pre.map (·.1))).last,
      (vfold f hot (pre.map (·.1))).out ++ [befG (vfold f hot (pre.map (·.1))).last (react f hk s) (plusG (vfold f hot (pre.map (·.1))).cur s.g (vfold f hot (pre.map (·.1))).last)]⟩ by simp only [vstep, hgd])
    rw [e1] at hc2
    clear e1 hpok hgd hc1
    have HRC := Lib.hid (fun W' (h : Ext w W') => reactanceOf_any t A m cap ls HM.out f B m cap' hot k s hk W' (HS.out.ext h) (HH.out.ext h) hx hhk HM'.out
      (mid_of (N := 8) (B := 4) (by omega) hf2 (by have := hsk.2.1; omega) (by have := hsk.2.1; omega) (by omega)) (mid_of (N := 8) (B := 4) (by omega) hf2 (by have := hsk.2.2.1; omega) (by have := hsk.2.2.1; omega) (by omega)))
    generalize react f hk s = x at HRC HVS hrb
    generalize vfold f hot (pre.map (·.1)) = v at *
    obtain ⟨⟨la, lb⟩, ⟨ca, cb⟩, out⟩ := v
    simp only [Bd, plusG] at hb1 hb2 hc2
    have hg := hsk.1
    have HP := Lib.hid (plus_any ca cb s.g la lb (by unfold Mid; omega) (by unfold Mid; omega) (mid_of (N := 4) (B := 300000000) (by omega) hg.2 (by omega) (by omega) (by omega)) (mid_of (N := 4) (B := 300000000) (by omega) hg.2 (by omega) (by omega) (by omega)))
    have HB := Lib.hid (before_any la lb x (ca + s.g * la) (cb + s.g * lb) (by unfold Mid; omega) (by unfold Mid; omega) (mid_of (N := 32) (B := 300000000) (by omega) hrb.2 (by omega) (by omega) (by omega)) (mid_of (N := 32) (B := 300000000) (by omega) hrb.2 (by omega) (by omega) (by omega)) (by unfold Mid; omega))
    clear hb1 hb2 hc2 hsk hg hhk hf1 hf2 hrb
    have HX := Lib.hid bX
    have hXlt := bX.lt
    have x0 : Wb.cell? ⟨Bx, 0, none⟩ = some (.int .i64 s.g) := bX.cell 0
    have l0 : Wb.cell? ⟨w.heap.size + 1 + 1, 0, none⟩ = some (.int .i64 la) := hI.b5.cell 0
    have l1 : Wb.cell? ⟨w.heap.size + 1 + 1, 1, none⟩ = some (.int .i64 lb) := hI.b5.cell 1
    have c0 : Wb.cell? ⟨w.heap.size + 1 + 1 + 1, 0, none⟩ = some (.int .i64 ca) := hI.b6.cell 0
    have c1 : Wb.cell? ⟨w.heap.size + 1 + 1 + 1, 1, none⟩ = some (.int .i64 cb) := hI.b6.cell 1
    gi_wp2_with (refine ⟨trivial, ?_⟩; gi_at_call 108; refine (CallsIn.inRound lp (callsIn_wide.2 (HP.out Wb))).mono ?_; rintro e W1 ⟨rfl, hx1⟩; have hI1 := hI.ext hx1; have d0 := hI1.b6.cell 0; have d1 := hI1.b6.cell 1; have g0 := hI1.b6.free 0; have g1 := hI1.b6.free 1; simp only [List.getElem?_toArray, List.getElem?_cons_zero, List.getElem?_cons_succ] at d0 d1)
    have hI2 := hI1.setCur (ca + s.g * la) (cb + s.g * lb)
    have hk2 : KeepsOthers Wb ((W1.setCell ⟨w.heap.size + 1 + 1 + 1, 0, none⟩ (.int .i64 (ca + s.g * la))).setCell ⟨w.heap.size + 1 + 1 + 1, 1, none⟩ (.int .i64 (cb + s.g * lb))) :=
      (keepsOthers_ext hx1).trans ((KeepsOthers.setCell _ _ _).trans (KeepsOthers.setCell _ _ _))
    have hb2 : Below w.heap.size Wb ((W1.setCell ⟨w.heap.size + 1 + 1 + 1, 0, none⟩ (.int .i64 (ca + s.g * la))).setCell ⟨w.heap.size + 1 + 1 + 1, 1, none⟩ (.int .i64 (cb + s.g * lb))) :=
      ((Below.mono hx1 hI.below.size).setCell (by dsimp only; omega) _).setCell (by dsimp only; omega) _
    generalize ((W1.setCell ⟨w.heap.size + 1 + 1 + 1, 0, none⟩ (.int .i64 (ca + s.g * la))).setCell ⟨w.heap.size + 1 + 1 + 1, 1, none⟩ (.int .i64 (cb + s.g * lb))) = W2 at hI2 hk2 hb2 ⊢
    clear d0 d1 g0 g1 hI1 hx1 x0 l0 l1 c0 c1
    refine wpIn_region_part (WideIn.inRound lp) (by kernel_rfl) 7 [some 24, some 25, some 26, some 27, some 28, some 29, some 30] [[5], [2], [3], [8], [25, 26, 27], [6], [24, 28, 29]]
      [Is (.agg #[.int .i64 (la), .int .i64 (lb)]), Is (.agg #[.int .i64 (t), .slice A m cap]), Is (.agg #[.int .i64 (f), .slice B m cap']), Is (.int .i64 ((k : Int))), Is (.int .i64 (x)), Is (.agg #[.int .i64 (ca + s.g * la), .int .i64 (cb + s.g * lb)]), Is (.agg #[.int .i64 (la + x * -(cb + s.g * lb)), .int .i64 (lb + x * (ca + s.g * la))])]
      (by kernel_rfl) (by kernel_rfl) (by kernel_rfl) (by kernel_rfl) (by kernel_rfl) (by kernel_rfl) (by kernel_rfl) Ext (fun W => Ext W2 W)
      (fun W _ => Ext.refl W) (fun W W' h k => h.trans k) ?_ (Ext.drew _) ?_ ?_
    · repeat (refine ⟨fun _ _ _ _ k h => (by first | exact h | exact IntsAt.ext h k), ?_⟩)
      exact trivial
    · refine ⟨?_, ?_, ?_, ?_, ?_, ?_, ?_, trivial⟩
      all_goals intro ρ W ⟨kc, kg, kf⟩ hF hs
      · obtain ⟨h0, -⟩ := hs
        replace h0 : ρ (.tmp 5) = .pointer (some ⟨w.heap.size + 1 + 1, 0, none⟩) := h0
        have hc0 : W.cell? ⟨w.heap.size + 1 + 1, 0, none⟩ = some (.int .i64 (la)) := (hI2.ext hF).b5.cell 0
        have hc1 : W.cell? ⟨w.heap.size + 1 + 1, 1, none⟩ = some (.int .i64 (lb)) := (hI2.ext hF).b5.cell 1
        go_simp
        exact ⟨Ext.refl _, rfl⟩
      · obtain ⟨h0, -⟩ := hs
        replace h0 : ρ (.tmp 2) = .pointer (some ⟨w.heap.size, 0, none⟩) := h0
        have hc0 : W.cell? ⟨w.heap.size, 0, none⟩ = some (.int .i64 (t)) := (hI2.ext hF).b2.cell 0
        have hc1 : W.cell? ⟨w.heap.size, 1, none⟩ = some (.slice A m cap) := (hI2.ext hF).b2.cell 1
        go_simp
        exact ⟨Ext.refl _, rfl⟩
      · obtain ⟨h0, -⟩ := hs
        replace h0 : ρ (.tmp 3) = .pointer (some ⟨w.heap.size + 1, 0, none⟩) := h0
        have hc0 : W.cell? ⟨w.heap.size + 1, 0, none⟩ = some (.int .i64 (f)) := (hI2.ext hF).b3.cell 0
        have hc1 : W.cell? ⟨w.heap.size + 1, 1, none⟩ = some (.slice B m cap') := (hI2.ext hF).b3.cell 1
        go_simp
        exact ⟨Ext.refl _, rfl⟩
      · obtain ⟨h0, -⟩ := hs
        replace h0 : ρ (.tmp 8) = .int .i64 ((k : Int)) := h0
        go_simp
        exact ⟨Ext.refl _, rfl⟩
      · obtain ⟨h0, h1, h2, -⟩ := hs
        replace h0 : ρ (.tmp 25) = .agg #[.int .i64 (t), .slice A m cap] := h0
        replace h1 : ρ (.tmp 26) = .agg #[.int .i64 (f), .slice B m cap'] := h1
        replace h2 : ρ (.tmp 27) = .int .i64 ((k : Int)) := h2
        go_simp
        refine (HRC.out W (hI2.ext hF).below).mono ?_; rintro e w' ⟨rfl, hx⟩; exact ⟨_, rfl, hx, rfl⟩
      · obtain ⟨h0, -⟩ := hs
        replace h0 : ρ (.tmp 6) = .pointer (some ⟨w.heap.size + 1 + 1 + 1, 0, none⟩) := h0
        have hc0 : W.cell? ⟨w.heap.size + 1 + 1 + 1, 0, none⟩ = some (.int .i64 (ca + s.g * la)) := (hI2.ext hF).b6.cell 0
        have hc1 : W.cell? ⟨w.heap.size + 1 + 1 + 1, 1, none⟩ = some (.int .i64 (cb + s.g * lb)) := (hI2.ext hF).b6.cell 1
        go_simp
        exact ⟨Ext.refl _, rfl⟩
      · obtain ⟨h0, h1, h2, -⟩ := hs
        replace h0 : ρ (.tmp 24) = .agg #[.int .i64 (la), .int .i64 (lb)] := h0
        replace h1 : ρ (.tmp 28) = .int .i64 (x) := h1
        replace h2 : ρ (.tmp 29) = .agg #[.int .i64 (ca + s.g * la), .int .i64 (cb + s.g * lb)] := h2
        go_simp
        refine (HB.out W).mono ?_; rintro e w' ⟨rfl, hx⟩; exact ⟨_, rfl, hx, rfl⟩
    · intro fv W hF hs
      obtain ⟨-, -, -, -, -, -, h30, -⟩ := hs
      replace h30 : fv 30 = .agg #[.int .i64 (la + x * -(cb + s.g * lb)), .int .i64 (lb + x * (ca + s.g * la))] := h30
      simp only [fin, List.filterMap]
      go_simp
      have hI3 := hI2.ext hF
      have hk3 := hk2.trans (keepsOthers_ext hF)
      have hb3 := Ext.below hb2 hF hI2.below.size
      clear hF
      have d0 := hI3.b5.cell 0
      have d1 := hI3.b5.cell 1
      have g0 := hI3.b5.free 0
      have g1 := hI3.b5.free 1
      simp only [List.getElem?_toArray, List.getElem?_cons_zero, List.getElem?_cons_succ] at d0 d1
      have hI4 := hI3.setLast (la + x * -(cb + s.g * lb)) (lb + x * (ca + s.g * la))
      obtain ⟨u, hu, hrow⟩ := hI3.row
      have u0 : W.cell? ⟨w.heap.size + 1 + 1 + 1 + 1 + 1, 0, none⟩ = some u := hu.cell 0
      have hu4 : Blk ((W.setCell ⟨w.heap.size + 1 + 1, 0, none⟩ (.int .i64 (la + x * -(cb + s.g * lb)))).setCell ⟨w.heap.size + 1 + 1, 1, none⟩ (.int .i64 (lb + x * (ca + s.g * la)))) (w.heap.size + 1 + 1 + 1 + 1 + 1) 53 #[u] :=
        (hu.setOther (by dsimp only; omega) _).setOther (by dsimp only; omega) _
      have hrow4 : ((W.setCell ⟨w.heap.size + 1 + 1, 0, none⟩ (.int .i64 (la + x * -(cb + s.g * lb)))).setCell ⟨w.heap.size + 1 + 1, 1, none⟩ (.int .i64 (lb + x * (ca + s.g * la)))).ownsRow (w.heap.size + 1 + 1 + 1 + 1) 65 2 u out.length (out.flatMap G.enc) :=
        own_set (own_set hrow (own_not hrow (by dsimp only; omega)) _) (own_not hrow (by dsimp only; omega)) _
      have hI5 := hI4.ext (Ext.alloc _ (.cells #[.int .i64 (la + x * -(cb + s.g * lb)), .int .i64 (lb + x * (ca + s.g * la))] 65))
      have hu5 := hu4.alloc (.cells #[.int .i64 (la + x * -(cb + s.g * lb)), .int .i64 (lb + x * (ca + s.g * la))] 65)
      have hrow5 := hrow4.alloc (.cells #[.int .i64 (la + x * -(cb + s.g * lb)), .int .i64 (lb + x * (ca + s.g * la))] 65)
      have N5 := Blk.newAt ((W.setCell ⟨w.heap.size + 1 + 1, 0, none⟩ (.int .i64 (la + x * -(cb + s.g * lb)))).setCell ⟨w.heap.size + 1 + 1, 1, none⟩ (.int .i64 (lb + x * (ca + s.g * la)))) 65 #[.int .i64 (la + x * -(cb + s.g * lb)), .int .i64 (lb + x * (ca + s.g * la))] (g := W.heap.size) (by simp [World.setCell])
      have hk5 := (hk3.trans ((KeepsOthers.setCell W ⟨w.heap.size + 1 + 1, 0, none⟩ (.int .i64 (la + x * -(cb + s.g * lb)))).trans (KeepsOthers.setCell _ ⟨w.heap.size + 1 + 1, 1, none⟩ (.int .i64 (lb + x * (ca + s.g * la)))))).trans (KeepsOthers.alloc _ (.cells #[.int .i64 (la + x * -(cb + s.g * lb)), .int .i64 (lb + x * (ca + s.g * la))] 65))
      have hsz5 := hI5.b2.lt
      have hb5 : w.heap.size + 1 + 1 + 1 + 1 ≤ (World.alloc ((W.setCell ⟨w.heap.size + 1 + 1, 0, none⟩ (.int .i64 (la + x * -(cb + s.g * lb)))).setCell ⟨w.heap.size + 1 + 1, 1, none⟩ (.int .i64 (lb + x * (ca + s.g * la)))) (.cells #[.int .i64 (la + x * -(cb + s.g * lb)), .int .i64 (lb + x * (ca + s.g * la))] 65)).heap.size := by have := hI5.bs.lt; omega
      have HN5 := Lib.hid (news_of N5)
      have HOL := Lib.hid hol
      have hpl : out.length ≤ 4 := by omega
      have H5 := Lib.hid hI5
      have HR5 := Lib.hid hrow5
      have HU5 := Lib.hid hu5
      clear hol hrow5 hu5 hI5 hrow4 hu4 hI4 N5 hu hrow
      gi_wp2_with (gi_at_builtin; refine wpListIn_append_own _ rfl _ _ 53 rfl (w.heap.size + 1 + 1 + 1 + 1) 65 i0 (.agg #[.int .i64 0, .int .i64 0]) 2 16 Try.underlying53 hi HI0.out hz1 hz2 rfl (by decide) _ _ _ rfl HR5.out ⟨W.heap.size, 0, none⟩ 1 1 [.int .i64 (la + x * -(cb + s.g * lb)), .int .i64 (lb + x * (ca + s.g * la))] rfl rfl HN5.out (by simp [Value.oneCell']) (by unfold maxLen; omega) (by omega) hb5 ?_; intro v' w1 hown' hgrow _; obtain ⟨g', cap'', rfl⟩ := ownsRow_succ hown'; have hA := H5.out.append (z := ⟨la + x * -(cb + s.g * lb), lb + x * (ca + s.g * la)⟩) HU5.out HR5.out hgrow hown'; have y0 := hA.1.cell 0; have y1 := hA.1.free 0; simp only [List.getElem?_toArray, List.getElem?_cons_zero] at y0; have HA5 := Lib.hid hA; have HG := Lib.hid hgrow; clear hA hgrow hown')
      have hA := HA5.out
      have hk6 := (hk5.trans (keepsOthers_own HR5.out HG.out)).trans (KeepsOthers.setCell w1 ⟨w.heap.size + 1 + 1 + 1 + 1 + 1, 0, none⟩ (.slice (some ⟨g', 0, none⟩) (out.length + 1) cap''))
      have hfin : St w t A m cap f B cap' (w1.setCell ⟨w.heap.size + 1 + 1 + 1 + 1 + 1, 0, none⟩ (.slice (some ⟨g', 0, none⟩) (out.length + 1) cap'')) (vfold f hot (List.map (fun x : Ix ls => x.1) (pre ++ [⟨(k, s), hx⟩]))) := by
        rw [List.map_append, List.map_singleton, HV.out, HVS.out]
        exact hA.2
      exact ⟨hk6.from _, ⟨below_of hI.below hfin.below hk6.size, (show Blk _ _ _ _ from hfin.bs).trans (show Blk _ _ _ _ from hI.bs).symm⟩, hfin⟩
  case done =>
    rintro D ys W hD rfl hI hK
    have hol : (vfold f hot ((backE ls).map (·.1))).out.length = m + 1 := by rw [vfold_len, List.length_map, backE_length, HM.out]
    obtain ⟨u, hu, hrow⟩ := hI.row
    rw [hol] at hrow
    obtain ⟨g, cp, rfl⟩ := ownsRow_succ hrow
    have u0 : W.cell? ⟨w.heap.size + 1 + 1 + 1 + 1 + 1, 0, none⟩ = some (.slice (some ⟨g, 0, none⟩) (m + 1) cp) := hu.cell 0
    have hne := own_notBlk hrow hu (by decide)
    have HRV := Lib.hid (reverse_any _ g (m + 1) cp _ W hol (by omega) (by omega) hrow)
    have HVL := Lib.hid (show volts f hot ls = (vfold f hot ((backE ls).map (·.1))).out.reverse from rfl)
    have HLEN := Lib.hid (volts_len f hot ls)
    rw [← HVL.out] at HRV
    have hgs : w.heap.size ≤ g := by
      rcases hrow.2 with ⟨h, _⟩ | ⟨g', _, _, h, h2, _⟩
      · cases h
      · obtain ⟨rfl, _⟩ : g = g' ∧ cp = _ := by simpa using h
        omega
    have hDg : W.heap[D]? = some (.deferred (some [])) → D ≠ g := by
      rintro h rfl
      rcases hrow.2 with ⟨h', _⟩ | ⟨g', _, _, h', _, h2, _⟩
      · cases h'
      · obtain ⟨rfl, _⟩ : D = g' ∧ cp = _ := by simpa using h'
        rw [h] at h2; cases h2
    have hDg := hDg hK
    have HU := Lib.hid hu
    have HI := Lib.hid hI
    have HH' := Lib.hid hK
    have HOL := Lib.hid hol
    clear hrow hu hI hol
    gi_wp2_with (refine ⟨trivial, ?_⟩; gi_at_call 128; refine (callsIn_wide.2 HRV.out).mono ?_; rintro e W1 ⟨rfl, hg, hrow1⟩; have hu1 : Blk W1 (w.heap.size + 1 + 1 + 1 + 1 + 1) 53 _ := (hg.block _ HU.out.lt (fun e => hne (by rw [e]; rfl))).trans HU.out; have z0 := hu1.cell 0; simp only [List.getElem?_toArray, List.getElem?_cons_zero] at z0)
    have hK1 : W1.heap[D]? = some (.deferred (some [])) := (hg.block D (Array.getElem?_eq_some_iff.1 HH'.out).1 (fun e => hDg (by simpa using e))).trans HH'.out
    have hb1 : Below w.heap.size w W1 := HI.out.below.grown hg HI.out.below.size (fun k e => by cases e; exact hgs)
    refine ⟨by simp, .inl ⟨_, _, rfl, run_takeDeferred hK1, ?_⟩⟩
    have hkc := CellsKept.put (.deferred none) hK1 rfl
    have hcap : m + 1 ≤ cp ∧ ∃ cu, Blk W1 g 65 cu := by
      rcases hrow1.2 with ⟨h, _⟩ | ⟨g', _, cu, h, _, h2, h3, _⟩
      · cases h
      · obtain ⟨rfl, rfl⟩ : g = g' ∧ cp = _ := by simpa using h
        exact ⟨h3, cu, h2⟩
    obtain ⟨hcap1, cu, hcu⟩ := hcap
    refine ⟨_, results_tmp rfl _ _ _, g, cp, rfl, ?_, hb1.trans (belowK_b (w := w) (Nat.le_refl _) W1 D _ _ (by omega) hK1 rfl rfl), hgs, hcap1, cu, hkc.blk hcu⟩
    refine rowsAt_own (base := w.heap.size + 1 + 1 + 1 + 1) (cap := cp) (n := m + 1) (by rw [HLEN.out, HM.out]) (by omega) (by omega) ?_
    exact hkc.own hrow1
  case stop =>
    rintro D c pre W _ _ h _
    exact h.elim

end Go.Proofs.Ytpaoeghdfeekoaa

/- What no error means; VoltagesOf. -/
namespace Go.Proofs.Ytpaoeghdfeekoaa
open Go.RowKit Go.Mem Go.RegInv

theorem firstE_zero : ∀ l : List Int, firstE l = 0 ↔ ∀ x ∈ l, x = 0
  | [] => by simp [firstE]
  | x :: l => by
    rw [firstE]
    by_cases h : x = 0
    · simp [h, firstE_zero l]
    · simp [h]
theorem errIf_zero {b : Bool} {n : Int} (hn : n ≠ 0) : errIf b n = 0 ↔ b = false := by
  unfold errIf; cases b <;> simp [hn]
theorem rangeE_zero (lo hi : Int) (l : List Int) : rangeE lo hi l = 0 ↔ ∀ x ∈ l, lo ≤ x ∧ x ≤ hi := by
  unfold rangeE
  rw [errIf_zero (by decide)]
  simp [outB, List.any_eq_false]
theorem shellE_zero (s : Sh) : s.e = 0 ↔ shOK s := by
  unfold Sh.e shellE shOK
  rw [firstE_zero]
  simp only [List.mem_cons, List.not_mem_nil, or_false, forall_eq_or_imp, forall_eq, rangeE_zero, errIf_zero (show (9 : Int) ≠ 0 by decide), decide_eq_false_iff_not]
  omega
theorem firstBad_zero : ∀ (l : List Sh) (i : Nat), (firstBad l i).2 = 0 ↔ ∀ s ∈ l, shOK s
  | [], _ => by simp [firstBad]
  | s :: l, i => by
    rw [firstBad]
    by_cases h : s.e = 0
    · rw [if_neg (by simp [h]), firstBad_zero l (i + 1)]
      simp [(shellE_zero s).1 h]
    · rw [if_pos h]
      simp only [h, List.mem_cons, forall_eq_or_imp, false_iff, not_and]
      intro h2
      exact absurd ((shellE_zero s).2 h2) h
theorem headE_zero (t : Int) (n : Nat) : headE t n = 0 ↔ (1 ≤ t ∧ t ≤ 20) ∧ 1 ≤ n ∧ n ≤ 4 := by
  unfold headE
  rw [firstE_zero]
  simp only [List.mem_cons, List.not_mem_nil, or_false, forall_eq_or_imp, forall_eq, rangeE_zero, errIf_zero (show (10 : Int) ≠ 0 by decide), errIf_zero (show (8 : Int) ≠ 0 by decide), decide_eq_false_iff_not, beq_eq_false_iff_ne]
  omega
theorem checkL_zero (t : Int) (l : List Sh) : (checkL t l).2 = 0 ↔ (1 ≤ t ∧ t ≤ 20) ∧ (1 ≤ l.length ∧ l.length ≤ 4) ∧ ∀ s ∈ l, shOK s := by
  unfold checkL
  by_cases h : headE t l.length = 0
  · rw [if_neg (by simp [h]), firstBad_zero]
    have := (headE_zero t l.length).1 h
    simp [this]
  · rw [if_pos h]
    simp only [h, false_iff]
    intro ⟨h1, h2, _⟩
    exact h ((headE_zero t l.length).2 ⟨h1, h2⟩)
theorem driveE_zero (t : Int) (l : List Sh) (f : Int) (m : Nat) : driveE t l f m = 0 ↔ ((1 ≤ t ∧ t ≤ 20) ∧ (1 ≤ l.length ∧ l.length ≤ 4) ∧ ∀ s ∈ l, shOK s) ∧ (1 ≤ f ∧ f ≤ 8) ∧ m = l.length := by
  unfold driveE
  rw [firstE_zero]
  simp only [List.mem_cons, List.not_mem_nil, or_false, forall_eq_or_imp, forall_eq, rangeE_zero, errIf_zero (show (10 : Int) ≠ 0 by decide), checkL_zero, bne_eq_false_iff_eq]
  constructor
  · rintro ⟨h1, h2, h3⟩; exact ⟨h1, h2, by omega⟩
  · rintro ⟨h1, h2, h3⟩; exact ⟨h1, h2, by omega⟩

/-- The voltages, or the error. -/
def VoltsOr (w : World) (er : Int) (m : Nat) (zs : List G) (e : Ending) (w' : World) : Prop :=
  Ext w w' ∧ ((er ≠ 0 ∧ e = .returned (.tuple #[.slice none 0 0, .int .i64 er])) ∨
    (er = 0 ∧ ∃ g cap, e = .returned (.tuple #[.slice (some ⟨g, 0, none⟩) (m + 1) cap, .int .i64 0]) ∧ RowsAt 2 G.enc w' (some ⟨g, 0, none⟩) zs))

set_option maxRecDepth 100000 in
theorem voltagesOf_any (t : Int) (A : Option Addr) (n cap : Nat) (l : List Sh) (hn : l.length = n) (f : Int) (B : Option Addr) (m cap' : Nat) (hot : List Bool) (hm : hot.length = m) (w : World)
    (hS : RowsAt 3 Sh.enc w A l) (hH : RowsAt 1 boolEnc w B hot) :
    Calls Try.prog 32 #[.agg #[.int .i64 t, .slice A n cap], .agg #[.int .i64 f, .slice B m cap']] w (VoltsOr w (driveE t l f m) n (volts f hot l)) := by
  have HC := Lib.hid (fun W h => checkDrive_any t A n cap l hn f B m cap' W h)
  have e0 : Ext w ((w.alloc (.cells #[.int .i64 t, .slice A n cap] 24)).alloc (.cells #[.int .i64 f, .slice B m cap'] 27)) := (Ext.alloc _ _).trans (Ext.alloc _ _)
  have HS := Lib.hid hS
  have HH := Lib.hid hH
  have HN := Lib.hid hn
  have HM := Lib.hid hm
  clear hn hS hm hH
  by_cases hq : driveE t l f m = 0
  · obtain ⟨⟨_, ⟨h1, h4⟩, hok⟩, hf, hml⟩ := (driveE_zero t l f m).1 hq
    obtain rfl : n = m := by rw [hml, ← HN.out]
    have HV := Lib.hid (fun W (h : RowsAt 3 Sh.enc W A l) (h' : RowsAt 1 boolEnc W B hot) => callsIn_wide.1 (voltagesOf_in t A n cap l HN.out f B cap' hot HM.out W h h' hok hf (by rw [HN.out] at h1; exact h1) (by rw [HN.out] at h4; exact h4)))
    have HQ := Lib.hid hq
    clear h1 h4 hok hf hml hq
    generalize driveE t l f n = q at HC HQ ⊢
    have hq' : q = 0 := HQ.out
    subst hq'
    go_enter Try.func32, Try.ntmps32
    go_wp2_with (first
      | (go_at_call 20; refine (HC.out _ (HS.out.ext e0)).mono ?_; rintro e w' ⟨rfl, hx⟩; have z0 : w'.cell? ⟨w.heap.size, 0, none⟩ = some (.int .i64 t) := hx.cell (by go_simp); have z1 : w'.cell? ⟨w.heap.size, 1, none⟩ = some (.slice A n cap) := hx.cell (by go_simp); have z2 : w'.cell? ⟨w.heap.size + 1, 0, none⟩ = some (.int .i64 f) := hx.cell (by go_simp); have z3 : w'.cell? ⟨w.heap.size + 1, 1, none⟩ = some (.slice B n cap') := hx.cell (by go_simp))
      | (go_at_call 89; refine (HV.out _ (HS.out.ext (e0.trans (by assumption))) (HH.out.ext (e0.trans (by assumption)))).mono ?_; rintro e w1 ⟨g, cp, rfl, hr, hx1, _⟩))
    go_ret2
    exact ⟨e0.trans (hx.trans hx1), .inr ⟨rfl, g, cp, rfl, hr⟩⟩
  · have HQ := Lib.hid hq
    have hq' : (driveE t l f m != 0) = true := by simp [hq]
    clear hq
    generalize driveE t l f m = q at HC HQ hq' ⊢
    go_enter Try.func32, Try.ntmps32
    go_wp2_with (go_at_call 20; refine (HC.out _ (HS.out.ext e0)).mono ?_; rintro e w' ⟨rfl, hx⟩)
    go_ret2
    exact ⟨e0.trans hx, .inl ⟨HQ.out, rfl⟩⟩

end Go.Proofs.Ytpaoeghdfeekoaa

/- The powers of shells, one after the other. -/
namespace Go.Proofs.Ytpaoeghdfeekoaa
open Go.RowKit Go.Shelf Go.Mem Go.RegInv
attribute [local go_sem] Oper.semAt_some

def pw (s : Sh) (z : G) : Int := s.g * (z.re * z.re + z.im * z.im)
def pwr (ls : List Sh) (ns : List G) : List Int := List.zipWith pw ls ns

/-- Blocks that hold no numbers and no slices of numbers lie as they lay. -/
def Kp37 (W W' : World) : Prop := ∀ g t cs, Blk W g t cs → t ≠ 3 → t ≠ 37 → Blk W' g t cs
theorem Kp37.t {A B C : World} (h : Kp37 A B) (k : Kp37 B C) : Kp37 A C := fun g t cs b h1 h2 => k g t cs (h g t cs b h1 h2) h1 h2
theorem Kp37.kept {A B : World} (h : CellsKept A B) : Kp37 A B := fun _ _ _ b _ _ => h.blk b

def Big (x : Int) : Prop := -1000000000000000000 ≤ x ∧ x ≤ 1000000000000000000

theorem at_of_blk {W W' : World} {b : Nat} {t : TypeId} {cs : Array Value} (h : Blk W b t cs) (h' : Blk W' b t cs) {i : Nat} {v : Value} (hc : W.cell? ⟨b, i, none⟩ = some v) : W'.cell? ⟨b, i, none⟩ = some v := by
  rw [h.cell] at hc; rw [h'.cell]; exact hc

set_option maxRecDepth 100000 in
set_option maxHeartbeats 2000000 in
theorem powers_iter (n : Nat) (hn : 1 ≤ n) (b o m cap g cap' : Nat) (ls : List Sh) (ns : List G) (cs cu : Array Value) (hl : ls.length = m) (hz : ns.length = m) (W0 : World)
    (hS : RowsAt 3 Sh.enc W0 (some ⟨b, o, none⟩) ls) (hN : RowsAt 2 G.enc W0 (some ⟨g, 2, none⟩) ns) (hbs : Blk W0 b 92 cs) (hbn : Blk W0 g 65 cu)
    (hb : ∀ (k : Nat) (s : Sh) (z : G), ls[k]? = some s → ns[k]? = some z → Big (z.re * z.re) ∧ Big (z.im * z.im) ∧ Big (s.g * (z.re * z.re + z.im * z.im))) :
    IterAt Try.prog n 130 #[.agg #[.slice (some ⟨b, o, none⟩) m cap, .slice (some ⟨g, 2, none⟩) m cap']] #[] (fun p : Int => #[.int .i64 p]) (pwr ls ns) Kp37 W0 := by
  intro l J Jx W hck hbw hJ hJx hY h0
  have hmb : m ≤ 1152921504606846976 := by have := hS.1; omega
  have HS := Lib.hid hS
  have HN := Lib.hid hN
  have HB := Lib.hid hb
  have HBS := Lib.hid hbs
  have HBN := Lib.hid hbn
  have hbs1 := hck.blk hbs
  have hbn1 := hck.blk hbn
  have HL := Lib.hid hl
  have HZ := Lib.hid hz
  clear hS hN hb hbs hbn hl hz hck hbw
  show CallsIn Fence.wide n Try.prog 130 #[.agg #[.slice (some ⟨b, o, none⟩) m cap, .slice (some ⟨g, 2, none⟩) m cap'], .func (.yield l) #[] #[]] W _
  refine callsIn_of_wp Try.func130 rfl trivial ?_ rfl
  simp only [Try.ntmps130, List.size_toArray, List.length_cons, List.length_nil, Nat.reduceAdd, Nat.reduceSub, Array.replicate_succ, Array.replicate_zero, List.push_toArray, List.append_toArray, List.nil_append, List.cons_append]
  gi_wp2
  gi_loopw [10] (fun i wr => ∃ k : Nat, k ≤ m ∧ i = .int .i64 k ∧ J k wr ∧ Blk wr W.heap.size 184 #[.slice (some ⟨b, o, none⟩) m cap, .slice (some ⟨g, 2, none⟩) m cap'] ∧ Blk wr b 92 cs ∧ Blk wr g 65 cu) (fun i _ => m - (intOf i).toNat)
  case atStart => exact ⟨0, Nat.zero_le _, rfl, hJ _ _ _ h0 (Ext.alloc _ _), Blk.new _ _ _, hbs1.alloc _, hbn1.alloc _⟩
  case round =>
    obtain ⟨k, hk, rfl, hj, hh, hs1, hn1⟩ := hrel
    by_cases hlt : k < m
    · obtain ⟨s, hs⟩ : ∃ s, ls[k]? = some s := ⟨_, List.getElem?_eq_getElem (by rw [HL.out]; exact hlt)⟩
      obtain ⟨z, hzz⟩ : ∃ z, ns[k]? = some z := ⟨_, List.getElem?_eq_getElem (by rw [HZ.out]; exact hlt)⟩
      obtain ⟨⟨q1, q2⟩, ⟨q3, q4⟩, ⟨q5, q6⟩⟩ := HB.out k s z hs hzz
      obtain ⟨b', o', e1, _, hc⟩ := HS.out.2 k s hs
      obtain ⟨g', o2, e2, _, hc2⟩ := HN.out.2 k z hzz
      obtain ⟨rfl, rfl⟩ : b = b' ∧ o = o' := by simpa using e1
      obtain ⟨rfl, rfl⟩ : g = g' ∧ 2 = o2 := by simpa using e2
      have hp : (pwr ls ns)[k]? = some (pw s z) := by simp [pwr, List.getElem?_zipWith, hs, hzz]
      have c0 : wr.cell? ⟨b, o + k * 3, none⟩ = some (.int .i64 s.g) := at_of_blk HBS.out hs1 (hc 0 _ rfl)
      have c1 : wr.cell? ⟨b, o + k * 3 + 1, none⟩ = some (.int .i64 s.c) := at_of_blk HBS.out hs1 (hc 1 _ rfl)
      have c2 : wr.cell? ⟨b, o + k * 3 + 2, none⟩ = some (.int .i64 s.h) := at_of_blk HBS.out hs1 (hc 2 _ rfl)
      have d0 : wr.cell? ⟨g, 2 + k * 2, none⟩ = some (.int .i64 z.re) := at_of_blk HBN.out hn1 (hc2 0 _ rfl)
      have d1 : wr.cell? ⟨g, 2 + k * 2 + 1, none⟩ = some (.int .i64 z.im) := at_of_blk HBN.out hn1 (hc2 1 _ rfl)
      have h0' : wr.cell? ⟨W.heap.size, 0, none⟩ = some (.slice (some ⟨b, o, none⟩) m cap) := hh.cell 0
      have h1' : wr.cell? ⟨W.heap.size, 1, none⟩ = some (.slice (some ⟨g, 2, none⟩) m cap') := hh.cell 1
      have hbl := hs1.lt
      have hgl := hn1.lt
      have hhl := hh.lt
      have hx2 : Ext wr ((wr.alloc (.cells #[.int .i64 s.g, .int .i64 s.c, .int .i64 s.h] 92)).alloc (.cells #[.int .i64 z.re, .int .i64 z.im] 65)) := (Ext.alloc _ _).trans (Ext.alloc _ _)
      obtain ⟨fn, tmps, assign, body, hy, hR⟩ := hY k (pw s z) hp _ (hJ _ _ _ hj hx2)
      have HH := Lib.hid (hh.ext hx2)
      have HS1 := Lib.hid (hs1.ext hx2)
      have HN1 := Lib.hid (hn1.ext hx2)
      unfold pw at hy
      clear hc hc2 hh hs1 hn1 hs hzz hp
      gi_wp2
      refine hR.mono ?_
      rintro e W3 (⟨rfl, hJ3, hk3⟩ | ⟨rfl, hJx3⟩)
      · gi_wp2
        go_roundw
        case rel => exact ⟨k + 1, by omega, by go_num, hJ3, hk3 _ _ _ HH.out (by decide) (by decide), hk3 _ _ _ HS1.out (by decide) (by decide), hk3 _ _ _ HN1.out (by decide) (by decide)⟩
        case measure => simp [intOf]; omega
      · gi_wp2
        refine bodyPost_ret (results_none rfl _ _ _) rfl ?_
        exact ⟨⟨_, rfl⟩, .inr hJx3⟩
    · obtain rfl : k = m := by omega
      gi_wp2
      go_end0
      refine ⟨⟨_, rfl⟩, .inl ?_⟩
      have : (pwr ls ns).length = k := by simp [pwr, HL.out, HZ.out]
      rw [this]; exact hj

end Go.Proofs.Ytpaoeghdfeekoaa

/- Powers of valid ladders, as numbers. -/
namespace Go.Proofs.Ytpaoeghdfeekoaa
open Go.RowKit Go.Mem

theorem out_bd {f : Int} {hot : List Bool} (hf : 1 ≤ f ∧ f ≤ 8) : ∀ (l : List (Nat × Sh)), (∀ x ∈ l, shOK x.2) → ∀ j z, (vfold f hot l).out[j]? = some z → Bd (bv j).1 z := by
  refine snoc_ind ?_ ?_
  · intro _ j z h
    match j, h with
    | 0, h =>
      obtain rfl : (⟨1, 0⟩ : G) = z := by simpa [vfold, vs0] using h
      simp [Bd, bv]
    | j + 1, h => simp [vfold, vs0] at h
  · intro l x ih h j z hz
    have h1 := ih (fun y hy => h y (by simp [hy]))
    have h2 := (vfold_bd (hot := hot) hf (l ++ [x]) h).1
    rw [vfold_snoc] at hz h2
    have hlen := vfold_len f hot l
    by_cases hj : j < (vfold f hot l).out.length
    · refine h1 j z ?_
      simp only [vstep] at hz
      rwa [List.getElem?_append_left hj] at hz
    · simp only [vstep] at hz h2
      rw [List.getElem?_append_right (by omega)] at hz
      have hj0 : j - (vfold f hot l).out.length = 0 := by
        have := (List.getElem?_eq_some_iff.1 hz).1
        simp at this; omega
      rw [hj0] at hz
      obtain rfl := (by simpa using hz : _ = z)
      have hjl : j = (l ++ [x]).length := by simp; omega
      rw [hjl]; exact h2

theorem pw_bd {s : Sh} {z : G} {B : Int} (hs : shOK s) (hB : 0 ≤ B) (hz : Bd B z) : (0 ≤ z.re * z.re ∧ z.re * z.re ≤ B * B) ∧ (0 ≤ z.im * z.im ∧ z.im * z.im ≤ B * B) ∧ 0 ≤ pw s z ∧ pw s z ≤ 8 * (B * B) := by
  obtain ⟨⟨a, b⟩, ⟨c, d⟩⟩ := hz
  have sq : ∀ x : Int, -B ≤ x → x ≤ B → 0 ≤ x * x ∧ x * x ≤ B * B := fun x h1 h2 => by
    refine ⟨?_, ?_⟩
    · rcases Int.le_total 0 x with h | h
      · exact Int.mul_nonneg h h
      · have := Int.mul_nonneg (show 0 ≤ -x by omega) (show 0 ≤ -x by omega)
        rwa [Int.neg_mul_neg] at this
    · rcases Int.le_total 0 x with h | h
      · exact Int.mul_le_mul h2 h2 h hB
      · have := Int.mul_le_mul (show -x ≤ B by omega) (show -x ≤ B by omega) (by omega) hB
        rwa [Int.neg_mul_neg] at this
  have h1 := sq z.re a b
  have h2 := sq z.im c d
  obtain ⟨hg1, hg2⟩ := hs.1
  have h3 : 0 ≤ z.re * z.re + z.im * z.im := by omega
  have h4 : pw s z ≤ 4 * (z.re * z.re + z.im * z.im) := Int.mul_le_mul_of_nonneg_right hg2 h3
  exact ⟨h1, h2, Int.mul_nonneg (by omega) h3, by omega⟩

theorem bv_le {j : Nat} (h : j ≤ 3) : 0 ≤ (bv j).1 ∧ (bv j).1 ≤ 2179841 := by
  match j, h with
  | 0, _ => decide
  | 1, _ => decide
  | 2, _ => decide
  | 3, _ => decide

/-- The nodes of a ladder. -/
def nodes (f : Int) (hot : List Bool) (ls : List Sh) : List G := (volts f hot ls).tail
theorem nodes_len (f : Int) (hot : List Bool) (ls : List Sh) : (nodes f hot ls).length = ls.length := by simp [nodes, volts_len]
theorem node_out (f : Int) (hot : List Bool) (ls : List Sh) (k : Nat) (hk : k < ls.length) : (nodes f hot ls)[k]? = (vfold f hot ((backE ls).map (·.1))).out[ls.length - 1 - k]? := by
  have hl : (vfold f hot ((backE ls).map (·.1))).out.length = ls.length + 1 := by rw [vfold_len, List.length_map, backE_length]
  unfold nodes volts
  rw [List.getElem?_tail, List.getElem?_reverse (by omega), hl]
  congr 1; omega
theorem vfold_first (f : Int) (hot : List Bool) : ∀ l : List (Nat × Sh), (vfold f hot l).out[0]? = some ⟨1, 0⟩ := by
  refine snoc_ind rfl ?_
  intro l x ih
  rw [vfold_snoc]
  simp only [vstep]
  rw [List.getElem?_append_left (by rw [vfold_len]; omega)]
  exact ih

def powers (f : Int) (hot : List Bool) (ls : List Sh) : List Int := pwr ls (nodes f hot ls)

theorem sum_facts : ∀ (l : List Int), (∀ x ∈ l, 0 ≤ x) → ∀ k, 0 ≤ (l.take k).sum ∧ (l.take k).sum ≤ l.sum
  | [], _, k => by simp
  | x :: l, h, 0 => by
    have := sum_facts l (fun y hy => h y (by simp [hy])) l.length
    rw [List.take_length] at this
    have hx := h x (by simp)
    simp only [List.take_zero, List.sum_nil, List.sum_cons]
    omega
  | x :: l, h, k + 1 => by
    have := sum_facts l (fun y hy => h y (by simp [hy])) k
    have hx := h x (by simp)
    simp only [List.take_succ_cons, List.sum_cons]
    omega

theorem powers_at {f : Int} {hot : List Bool} {ls : List Sh} (hok : ∀ s ∈ ls, shOK s) (hf : 1 ≤ f ∧ f ≤ 8) (k : Nat) (s : Sh) (z : G) (hs : ls[k]? = some s) (hz : (nodes f hot ls)[k]? = some z) : Bd (bv (ls.length - 1 - k)).1 z := by
  have hk := (List.getElem?_eq_some_iff.1 hs).1
  rw [node_out f hot ls k hk] at hz
  refine out_bd hf _ ?_ _ _ hz
  intro y hy
  obtain ⟨q, _, rfl⟩ := List.mem_map.1 hy
  exact hok _ (List.mem_of_getElem? q.2)

/-- What the loops ask of the powers. -/
structure PowersOK (l : List Int) : Prop where
  sum : 0 < l.sum ∧ l.sum ≤ 40000000000000
  part : ∀ k, 0 ≤ (l.take k).sum ∧ (l.take k).sum ≤ l.sum

theorem powers_len (f : Int) (hot : List Bool) (ls : List Sh) : (powers f hot ls).length = ls.length := by simp [powers, pwr, nodes_len]

theorem powers_ok {f : Int} {hot : List Bool} {ls : List Sh} (hok : ∀ s ∈ ls, shOK s) (hf : 1 ≤ f ∧ f ≤ 8) (h1 : 1 ≤ ls.length) (h4 : ls.length ≤ 4) : PowersOK (powers f hot ls) := by
  have at_ : ∀ k p, (powers f hot ls)[k]? = some p → 0 ≤ p ∧ p ≤ 8 * ((bv (ls.length - 1 - k)).1 * (bv (ls.length - 1 - k)).1) ∧ (k = ls.length - 1 → 1 ≤ p) := by
    intro k p hp
    have hk : k < ls.length := by have := (List.getElem?_eq_some_iff.1 hp).1; rwa [powers_len] at this
    obtain ⟨s, hs⟩ : ∃ s, ls[k]? = some s := ⟨_, List.getElem?_eq_getElem hk⟩
    obtain ⟨z, hz⟩ : ∃ z, (nodes f hot ls)[k]? = some z := ⟨_, List.getElem?_eq_getElem (by rw [nodes_len]; exact hk)⟩
    obtain rfl : pw s z = p := by simpa [powers, pwr, List.getElem?_zipWith, hs, hz] using hp
    have hsk := hok s (List.mem_of_getElem? hs)
    have hb := powers_at hok hf k s z hs hz
    have h := pw_bd hsk (bv_le (show ls.length - 1 - k ≤ 3 by omega)).1 hb
    refine ⟨h.2.2.1, h.2.2.2, fun hkl => ?_⟩
    rw [node_out f hot ls k hk, hkl, show ls.length - 1 - (ls.length - 1) = 0 by omega, vfold_first] at hz
    obtain rfl : (⟨1, 0⟩ : G) = z := by simpa using hz
    have := hsk.1
    simp only [pw]; omega
  have hpos : ∀ x ∈ powers f hot ls, 0 ≤ x := fun x hx => by
    obtain ⟨k, hk⟩ := List.mem_iff_getElem?.1 hx
    exact (at_ k x hk).1
  refine ⟨?_, sum_facts _ hpos⟩
  have hlen := powers_len f hot ls
  generalize powers f hot ls = l at *
  generalize ls.length = m at *
  have e0 : (bv 0).1 = 1 := rfl
  have e1 : (bv 1).1 = 129 := rfl
  have e2 : (bv 2).1 = 16769 := rfl
  have e3 : (bv 3).1 = 2179841 := rfl
  match l, hlen with
  | [a], h =>
    subst h
    have ha := at_ 0 a rfl
    simp only [List.length_cons, List.length_nil, Nat.zero_add, Nat.sub_self, e0] at ha
    simp only [List.sum_cons, List.sum_nil]
    have := ha.2.2 trivial
    omega
  | [a, b], h =>
    subst h
    have ha := at_ 0 a rfl
    have hb := at_ 1 b rfl
    simp only [List.length_cons, List.length_nil, Nat.zero_add, Nat.reduceAdd, Nat.reduceSub, e0, e1] at ha hb
    simp only [List.sum_cons, List.sum_nil]
    have := hb.2.2 trivial
    omega
  | [a, b, c], h =>
    subst h
    have ha := at_ 0 a rfl
    have hb := at_ 1 b rfl
    have hc := at_ 2 c rfl
    simp only [List.length_cons, List.length_nil, Nat.zero_add, Nat.reduceAdd, Nat.reduceSub, e0, e1, e2] at ha hb hc
    simp only [List.sum_cons, List.sum_nil]
    have := hc.2.2 trivial
    omega
  | [a, b, c, d], h =>
    subst h
    have ha := at_ 0 a rfl
    have hb := at_ 1 b rfl
    have hc := at_ 2 c rfl
    have hd := at_ 3 d rfl
    simp only [List.length_cons, List.length_nil, Nat.zero_add, Nat.reduceAdd, Nat.reduceSub, e0, e1, e2, e3] at ha hb hc hd
    simp only [List.sum_cons, List.sum_nil]
    have := hd.2.2 trivial
    omega
  | [], h => simp at h; omega
  | a :: b :: c :: d :: e :: r, h => simp at h; omega

theorem iter_bd {f : Int} {hot : List Bool} {ls : List Sh} (hok : ∀ s ∈ ls, shOK s) (hf : 1 ≤ f ∧ f ≤ 8) (h4 : ls.length ≤ 4) (k : Nat) (s : Sh) (z : G) (hs : ls[k]? = some s) (hz : (nodes f hot ls)[k]? = some z) :
    Big (z.re * z.re) ∧ Big (z.im * z.im) ∧ Big (s.g * (z.re * z.re + z.im * z.im)) := by
  have hb := bv_le (show ls.length - 1 - k ≤ 3 by omega)
  have h := pw_bd (hok s (List.mem_of_getElem? hs)) hb.1 (powers_at hok hf k s z hs hz)
  have h5 : (bv (ls.length - 1 - k)).1 * (bv (ls.length - 1 - k)).1 ≤ 2179841 * 2179841 := Int.mul_le_mul hb.2 hb.2 hb.1 (by decide)
  unfold pw at h
  unfold Big
  omega

end Go.Proofs.Ytpaoeghdfeekoaa

/- The powers of a ladder, as a function value. By regen.py. -/
namespace Go.Proofs.Ytpaoeghdfeekoaa
open Go.RowKit Go.Mem Go.RegInv
attribute [local go_sem] RelUpon_value RelUpon_skip RelUpon_enter BigFrame.eval_const BigFrame.eval_global BigFrame.eval_func

/-- A value made of a block of complex numbers. -/
def Nd (mk : Nat → Nat → Value) (q o : Nat) (zs : List G) : Value → World → Prop := fun u W => ∃ g c cu, u = mk g c ∧ q ≤ c ∧ RowsAt 2 G.enc W (some ⟨g, o, none⟩) zs ∧ Blk W g 65 cu
theorem Nd.ext {mk : Nat → Nat → Value} {q o : Nat} {zs : List G} {u : Value} {W W' : World} (h : Nd mk q o zs u W) (e : Ext W W') : Nd mk q o zs u W' := by
  obtain ⟨g, c, cu, h1, h2, h3, h4⟩ := h
  exact ⟨g, c, cu, h1, h2, h3.ext e, h4.ext e⟩
theorem rows_tail {W : World} {g : Nat} {zs : List G} (h : RowsAt 2 G.enc W (some ⟨g, 0, none⟩) zs) : RowsAt 2 G.enc W (some ⟨g, 2, none⟩) zs.tail := by
  refine ⟨by have := h.1; simp; omega, fun i x hx => ?_⟩
  obtain ⟨b, o, e, hb, hc⟩ := h.2 (i + 1) x (by simpa using hx)
  obtain ⟨rfl, rfl⟩ : g = b ∧ 0 = o := by simpa using e
  refine ⟨g, 2, rfl, hb, fun j u hu => ?_⟩
  have := hc j u hu
  rw [show 0 + (i + 1) * 2 + j = 2 + i * 2 + j by omega] at this
  exact this

set_option maxRecDepth 100000 in
theorem powersOf_any (t : Int) (A : Option Addr) (m cap : Nat) (ls : List Sh) (hm : ls.length = m) (f : Int) (B : Option Addr) (cap' : Nat) (hot : List Bool) (hm' : hot.length = m) (w : World)
    (hS : RowsAt 3 Sh.enc w A ls) (hH : RowsAt 1 boolEnc w B hot) (hok : ∀ s ∈ ls, shOK s) (hf : 1 ≤ f ∧ f ≤ 8) (h1 : 1 ≤ m) (h4 : m ≤ 4) :
    Calls Try.prog 96 #[.agg #[.int .i64 t, .slice A m cap], .agg #[.int .i64 f, .slice B m cap']] w fun e w' =>
      ∃ v, e = .returned v ∧ Nd (fun g c => .func (.func 130) #[.agg #[.slice A m cap, .slice (some ⟨g, 2, none⟩) m c]] #[]) 0 2 (volts f hot ls).tail v w' ∧ Ext w w' := by
  have e0 : Ext w ((w.alloc (.cells #[.int .i64 t, .slice A m cap] 24)).alloc (.cells #[.int .i64 f, .slice B m cap'] 27)) := (Ext.alloc _ _).trans (Ext.alloc _ _)
  have HV := Lib.hid (fun W (e : Ext w W) => callsIn_wide.1 (voltagesOf_in t A m cap ls hm f B cap' hot hm' W (hS.ext e) (hH.ext e) hok hf h1 h4))
  clear hm hm' hS hH hok hf
  generalize volts f hot ls = vs at HV ⊢
  go_enter Try.func96, Try.ntmps96
  go_wp2
  refine wp_region_each [some 5, some 6, some 7, some 8, some 9, some 10, some 11, some 12, some 4] [[2], [5], [2], [3], [7, 8], [9], [6, 10], [11], [12]]
    [Is (.pointer (some ⟨w.heap.size, 1, none⟩)), Is (.slice A m cap), Is (.agg #[.int .i64 (t), .slice A m cap]), Is (.agg #[.int .i64 (f), .slice B m cap']), Nd (fun g c => .slice (some ⟨g, 0, none⟩) (m + 1) c) (m + 1) 0 vs, Nd (fun g c => .slice (some ⟨g, 2, none⟩) m c) 0 2 vs.tail, Nd (fun g c => .agg #[.slice A m cap, .slice (some ⟨g, 2, none⟩) m c]) 0 2 vs.tail, Nd (fun g c => .func (.func 130) #[.agg #[.slice A m cap, .slice (some ⟨g, 2, none⟩) m c]] #[]) 0 2 vs.tail, Nd (fun g c => .func (.func 130) #[.agg #[.slice A m cap, .slice (some ⟨g, 2, none⟩) m c]] #[]) 0 2 vs.tail]
    (by kernel_rfl) (by kernel_rfl) (by kernel_rfl) (by kernel_rfl) (by kernel_rfl) Ext (fun W => Ext ((w.alloc (.cells #[.int .i64 t, .slice A m cap] 24)).alloc (.cells #[.int .i64 f, .slice B m cap'] 27)) W)
    (fun W _ => Ext.refl W) (fun W W' h k => h.trans k) ?_ (Ext.drew _) ?_ ?_
  · repeat (refine ⟨fun _ _ _ _ k h => (by first | exact h | exact Nd.ext h k), ?_⟩)
    exact trivial
  · refine ⟨?_, ?_, ?_, ?_, ?_, ?_, ?_, ?_, ?_, trivial⟩
    all_goals intro ρ W ⟨kc, kg, kf⟩ hF hs
    · obtain ⟨h0, -⟩ := hs
      replace h0 : ρ (.tmp 2) = .pointer (some ⟨w.heap.size, 0, none⟩) := h0
      go_simp
      exact ⟨Ext.refl _, rfl⟩
    · obtain ⟨h0, -⟩ := hs
      replace h0 : ρ (.tmp 5) = .pointer (some ⟨w.heap.size, 1, none⟩) := h0
      have hc0 : W.cell? ⟨w.heap.size, 1, none⟩ = some (.slice A m cap) := hF.cell (by go_simp)
      go_simp
      exact ⟨Ext.refl _, rfl⟩
    · obtain ⟨h0, -⟩ := hs
      replace h0 : ρ (.tmp 2) = .pointer (some ⟨w.heap.size, 0, none⟩) := h0
      have hc0 : W.cell? ⟨w.heap.size, 0, none⟩ = some (.int .i64 (t)) := hF.cell (by go_simp)
      have hc1 : W.cell? ⟨w.heap.size, 1, none⟩ = some (.slice A m cap) := hF.cell (by go_simp)
      go_simp
      exact ⟨Ext.refl _, rfl⟩
    · obtain ⟨h0, -⟩ := hs
      replace h0 : ρ (.tmp 3) = .pointer (some ⟨w.heap.size + 1, 0, none⟩) := h0
      have hc0 : W.cell? ⟨w.heap.size + 1, 0, none⟩ = some (.int .i64 (f)) := hF.cell (by go_simp)
      have hc1 : W.cell? ⟨w.heap.size + 1, 1, none⟩ = some (.slice B m cap') := hF.cell (by go_simp)
      go_simp
      exact ⟨Ext.refl _, rfl⟩
    · obtain ⟨h0, h1, -⟩ := hs
      replace h0 : ρ (.tmp 7) = .agg #[.int .i64 (t), .slice A m cap] := h0
      replace h1 : ρ (.tmp 8) = .agg #[.int .i64 (f), .slice B m cap'] := h1
      go_simp
      refine (HV.out W (e0.trans hF)).mono ?_
      rintro e w' ⟨g, c, rfl, hr, hx, _, hc, cu, hb⟩
      exact ⟨_, rfl, hx, g, c, cu, rfl, hc, hr, hb⟩
    · obtain ⟨h0, -⟩ := hs
      replace h0 : (Nd (fun g c => .slice (some ⟨g, 0, none⟩) (m + 1) c) (m + 1) 0 vs) (ρ (.tmp 9)) W := h0
      obtain ⟨g, c, cu, e, hc, hr, hb⟩ := h0
      have hc1 : (c == 1) = false := by rw [beq_eq_false_iff_ne]; omega
      have hc2 : ¬ c = 1 := by omega
      have hc3 : (1 : Int) ≤ ((m : Int) + 1) := by omega
      have hc4 : ((m : Int) + 1) ≤ (c : Int) := by omega
      go_simp
      exact ⟨Ext.refl _, g, c - 1, cu, rfl, Nat.zero_le _, rows_tail hr, hb⟩
    · obtain ⟨h0, h1, -⟩ := hs
      replace h0 : ρ (.tmp 6) = .slice A m cap := h0
      replace h1 : (Nd (fun g c => .slice (some ⟨g, 2, none⟩) m c) 0 2 vs.tail) (ρ (.tmp 10)) W := h1
      obtain ⟨g, c, cu, e, hc, hr, hb⟩ := h1
      go_simp
      exact ⟨Ext.refl _, g, c, cu, rfl, hc, hr, hb⟩
    · obtain ⟨h0, -⟩ := hs
      replace h0 : (Nd (fun g c => .agg #[.slice A m cap, .slice (some ⟨g, 2, none⟩) m c]) 0 2 vs.tail) (ρ (.tmp 11)) W := h0
      obtain ⟨g, c, cu, e, hc, hr, hb⟩ := h0
      go_simp
      exact ⟨Ext.refl _, g, c, cu, rfl, hc, hr, hb⟩
    · obtain ⟨h0, -⟩ := hs
      replace h0 : (Nd (fun g c => .func (.func 130) #[.agg #[.slice A m cap, .slice (some ⟨g, 2, none⟩) m c]] #[]) 0 2 vs.tail) (ρ (.tmp 12)) W := h0
      go_simp
      exact Ext.refl _
  · intro fv W hF hs
    obtain ⟨-, -, -, -, -, -, -, -, h4, -⟩ := hs
    replace h4 : (Nd (fun g c => .func (.func 130) #[.agg #[.slice A m cap, .slice (some ⟨g, 2, none⟩) m c]] #[]) 0 2 vs.tail) (fv 4) W := h4
    simp only [fin, List.filterMap]
    go_simp
    go_wp2
    go_ret
    exact ⟨_, rfl, h4, e0.trans hF⟩

end Go.Proofs.Ytpaoeghdfeekoaa

/- The sum of what a function hands out. -/
namespace Go.Proofs.Ytpaoeghdfeekoaa
open Go.RowKit Go.Shelf Go.Mem Go.RegInv
attribute [local go_sem] Oper.semAt_some

def encInt (p : Int) : Array Value := #[.int .i64 p]

/-- What a loop over numbers may do: turn the variable at B. -/
structure Fits (Kp : World → World → Prop) (s : Nat) : Prop where
  t : ∀ {A B C : World}, Kp A B → Kp B C → Kp A C
  kept : ∀ A B, CellsKept A B → Below s A B → Kp A B

theorem take_sum (l : List Int) (k : Nat) (x : Int) (h : l[k]? = some x) : (l.take (k + 1)).sum = (l.take k).sum + x := by
  obtain ⟨hk, hx⟩ := List.getElem?_eq_some_iff.1 h
  rw [List.take_succ_eq_append_getElem hk, hx, List.sum_append]; simp

set_option maxRecDepth 100000 in
set_option maxHeartbeats 2000000 in
theorem sumOf_in (gf : FuncId) (first lb : Array Value) (eg : ∀ args w, (callFunc gf args).run Try.prog w = .ok (.enter gf args) w) (full : List Int) (Kp : World → World → Prop) (w : World)
    (hK : Fits Kp w.heap.size) (hKs : ∀ W u v, Blk W w.heap.size 3 #[u] → Kp W (W.setCell ⟨w.heap.size, 0, none⟩ v)) (hit : IterAt Try.prog 4 gf first lb encInt full Kp (w.alloc (.cells #[.int .i64 0] 3)))
    (hb : ∀ k, Big (full.take k).sum) :
    CallsIn Fence.wide 5 Try.prog 98 #[.func (.func gf) first lb] w fun e w' => e = .returned (.int .i64 full.sum) ∧ Ext w w' := by
  have HB := Lib.hid hb
  have HIT := Lib.hid hit
  have HK := Lib.hid hKs
  have HEG := Lib.hid eg
  clear hb hit hKs eg
  refine callsIn_of_wp_marks Try.func98 rfl trivial ?_ rfl
  simp only [Try.ntmps98, List.size_toArray, List.length_cons, List.length_nil, Nat.reduceAdd, Nat.reduceSub, Array.replicate_succ, Array.replicate_zero, List.push_toArray, List.append_toArray, List.nil_append, List.cons_append]
  gi_wp2
  refine rangeFunc_list (by omega) (gf := gf) (first := first) (lb := lb) rfl HEG.out (encs := encInt) (full := full) (Kp := Kp) HIT.out hK.t (fun A B hc hb => hK.kept A B hc (hb.mono (by simp))) (fun _ => rfl)
    (fun k W => Blk W w.heap.size 3 #[.int .i64 (full.take k).sum] ∧ Ext w W) (fun _ _ => False)
    (fun k A B ⟨h1, h2⟩ hc hb => ⟨hc.blk h1, Below.trans h2 (hb.mono (by simp))⟩) (fun _ _ _ h _ _ => h) ⟨Blk.new _ _ _, Ext.alloc _ _⟩
    (fun x a' _ => a' =
      { tmps := #[.func (.func gf) first lb, undef, .int .i64 0, .pointer (some ⟨w.heap.size, 0, none⟩), .int .i64 x, .func (.func gf) first lb, .int .i64 x, undef, undef, undef, undef], defers := [] }) (fun _ _ _ _ h _ _ => h) ?assign ?body ?done ?stop
  case assign =>
    intro l k x W K hx hsz hI hK'
    unfold encInt
    gi_wp2
    exact hK' _ _ (KeepsOthers.refl _) (hK.kept _ _ (CellsKept.refl _) (Below.refl _ _)) hI rfl
  case body =>
    rintro l k x a' W hx hsz ⟨hb0, he⟩ rfl
    have HS := Lib.hid (take_sum full k x hx)
    obtain ⟨q1, q2⟩ := HB.out k
    have q3 := HB.out (k + 1)
    rw [HS.out] at q3
    obtain ⟨q3, q4⟩ := q3
    have HB0 := Lib.hid hb0
    have c0 : W.cell? ⟨w.heap.size, 0, none⟩ = some (.int .i64 (full.take k).sum) := hb0.cell 0
    have f0 := hb0.free 0
    clear hb0 hx
    generalize (full.take k).sum = z at *
    gi_wp2
    refine ⟨KeepsOthers.setCell _ _ _, HK.out _ _ _ HB0.out, ?_, Ext.set he (Nat.le_refl _) _⟩
    rw [HS.out]
    exact HB0.out.setSame 0 _
  case done =>
    rintro D W hD ⟨hb0, he⟩ hK'
    have c0 : W.cell? ⟨w.heap.size, 0, none⟩ = some (.int .i64 (full.take full.length).sum) := hb0.cell 0
    rw [List.take_length] at c0
    gi_wp2
    refine ⟨by simp, .inl ⟨_, _, rfl, run_takeDeferred hK', ?_⟩⟩
    exact ⟨_, results_tmp rfl _ _ _, rfl, Below.trans he (below_put _ hK' (by simp at hD; omega))⟩
  case stop =>
    rintro D c W _ h _
    exact h.elim

end Go.Proofs.Ytpaoeghdfeekoaa

/- The watts of a total. -/
namespace Go.Proofs.Ytpaoeghdfeekoaa
open Go.RowKit Go.Shelf Go.Mem Go.RegInv
attribute [local go_sem] Oper.semAt_some

theorem Kp37.set {W : World} {g : Nat} {t : TypeId} {cs : Array Value} (h : Blk W g t cs) (ht : t = 3 ∨ t = 37) (i : Nat) (u : Value) : Kp37 W (W.setCell ⟨g, i, none⟩ u) := fun g' t' cs' b h1 h2 =>
  b.setOther (fun e => by
    dsimp only at e
    subst e
    unfold Blk at b h
    rw [h] at b
    simp at b
    rcases ht with rfl | rfl
    · exact h1 b.2.symm
    · exact h2 b.2.symm) _
theorem Kp37.own {W W' : World} {base : Nat} {v : Value} {n size : Nat} {xs : List Value} (r : W.ownsRow base 3 size v n xs) (hg : W.grownBy W' v.ownBlock) : Kp37 W W' := fun _g _t _cs b h1 _ =>
  (hg.block _ b.lt (own_notBlk r b h1)).trans b
theorem Kp37.ext {W W' : World} (e : Ext W W') : Kp37 W W' := Kp37.kept (CellsKept.ext e)
theorem Kp37.fits (s : Nat) : Fits Kp37 s := ⟨fun h k => h.t k, fun _ _ h _ => Kp37.kept h⟩

/-- The watts up to the shell k. -/
def upTo (total : Int) (l : List Int) (k : Nat) : Int := total * (l.take k).sum / l.sum
def wattsL (total : Int) (l : List Int) (n : Nat) : List Int := (List.range n).map fun k => upTo total l (k + 1) - upTo total l k
theorem wattsL_succ (total : Int) (l : List Int) (n : Nat) : wattsL total l (n + 1) = wattsL total l n ++ [upTo total l (n + 1) - upTo total l n] := by simp [wattsL, List.range_succ]
theorem wattsL_len (total : Int) (l : List Int) (n : Nat) : (wattsL total l n).length = n := by simp [wattsL]

structure StW (w : World) (q : Nat) (total : Int) (l : List Int) (n : Nat) (k : Nat) (W : World) : Prop where
  b3 : Blk W w.heap.size 3 #[.int .i64 total]
  b5 : Blk W q 3 #[.int .i64 l.sum]
  b7 : Blk W (q + 1 + 1) 3 #[.int .i64 (l.take k).sum]
  b8 : Blk W (q + 1 + 1 + 1) 3 #[.int .i64 (upTo total l k)]
  row : ∃ u, Blk W (q + 1) 37 #[u] ∧ W.ownsRow (q + 1 + 1 + 1 + 1) 3 1 u k ((wattsL total l k).map (Value.int .i64))
  below : Ext w W
  lt : w.heap.size < q

theorem own_base {W : World} {base : Nat} {e : TypeId} {size : Nat} {v : Value} {n : Nat} {xs : List Value} (r : W.ownsRow base e size v n xs) {g : Nat} (h : v.ownBlock = some g) : base ≤ g := by
  rcases r.2 with ⟨rfl, _⟩ | ⟨g', cap, cur, rfl, h2, _⟩
  · simp [Value.ownBlock] at h
  · simp [Value.ownBlock] at h; omega
theorem own_mono {W : World} {base base' : Nat} {e : TypeId} {size : Nat} {v : Value} {n : Nat} {xs : List Value} (r : W.ownsRow base e size v n xs) (h : base' ≤ base) : W.ownsRow base' e size v n xs := by
  refine ⟨r.1, ?_⟩
  rcases r.2 with h1 | ⟨g, cap, cur, h1, h2, h3⟩
  · exact .inl h1
  · exact .inr ⟨g, cap, cur, h1, by omega, h3⟩

theorem info3 : (Try.prog.info? 3).map (fun i => (i.zero, i.size, i.bytes)) = some (some (.int .i64 0), 1, 8) := by kernel_rfl

theorem upTo_bd {total : Int} {l : List Int} (ht : 0 ≤ total ∧ total ≤ 100000) (hs : 0 < l.sum ∧ l.sum ≤ 40000000000000) (hb : ∀ k, 0 ≤ (l.take k).sum ∧ (l.take k).sum ≤ l.sum) (k : Nat) :
    (0 ≤ total * (l.take k).sum ∧ total * (l.take k).sum ≤ 4000000000000000000) ∧ 0 ≤ upTo total l k ∧ upTo total l k ≤ 100000 := by
  obtain ⟨h1, h2⟩ := hb k
  have h3 : total * (l.take k).sum ≤ total * l.sum := Int.mul_le_mul_of_nonneg_left h2 ht.1
  have h4 : total * l.sum ≤ 100000 * l.sum := Int.mul_le_mul_of_nonneg_right ht.2 (by omega)
  have h5 : 0 ≤ total * (l.take k).sum := Int.mul_nonneg ht.1 h1
  refine ⟨⟨h5, by omega⟩, Int.ediv_nonneg h5 (by omega), ?_⟩
  unfold upTo
  exact Int.ediv_le_of_le_mul hs.1 (by omega)

set_option maxRecDepth 100000 in
set_option maxHeartbeats 2000000 in
theorem wattsOf_in (gf : FuncId) (first lb : Array Value) (eg : ∀ args w, (callFunc gf args).run Try.prog w = .ok (.enter gf args) w) (full : List Int) (n : Nat) (hn : full.length = n) (hn5 : n ≤ 1000) (total : Int) (w : World)
    (hit : ∀ W, Ext w W → IterAt Try.prog 4 gf first lb encInt full Kp37 W)
    (ht : 0 ≤ total ∧ total ≤ 100000) (hs : 0 < full.sum ∧ full.sum ≤ 40000000000000) (hb : ∀ k, 0 ≤ (full.take k).sum ∧ (full.take k).sum ≤ full.sum) :
    CallsIn Fence.wide 5 Try.prog 102 #[.func (.func gf) first lb, .int .i64 total] w fun e w' => ∃ v, e = .returned v ∧ w'.ownsRow w.heap.size 3 1 v n ((wattsL total full n).map (Value.int .i64)) ∧ Ext w w' := by
  have HT := Lib.hid ht
  have HS := Lib.hid hs
  have HB := Lib.hid hb
  have HIT := Lib.hid hit
  have HEG := Lib.hid eg
  have HN := Lib.hid hn
  have HSUM := Lib.hid (sumOf_in gf first lb eg full Kp37 (w.alloc (.cells #[.int .i64 total] 3)) (Kp37.fits _) (fun W u v b => Kp37.set b (.inl rfl) 0 v) (hit _ ((Ext.alloc _ _).trans (Ext.alloc _ _))) (fun k => by have := hb k; unfold Big; omega))
  obtain ⟨i0, hi, hz0, hz1, hz2'⟩ := info_parts info3
  have HI0 := Lib.hid hz0
  clear ht hs hb hit eg hn
  refine callsIn_of_wp_marks Try.func102 rfl trivial ?_ rfl
  simp only [Try.ntmps102, List.size_toArray, List.length_cons, List.length_nil, Nat.reduceAdd, Nat.reduceSub, Array.replicate_succ, Array.replicate_zero, List.push_toArray, List.append_toArray, List.nil_append, List.cons_append]
  gi_wp2_with (refine ⟨trivial, ?_⟩; gi_at_call 98; refine (callsIn_wide.2 (callsIn_wide.1 HSUM.out)).mono ?_; rintro e Wq ⟨rfl, hx⟩)
  have hwq := hx.size
  simp only [World.size_alloc] at hwq
  have b3 := (Blk.new w 3 #[.int .i64 total]).ext hx
  have hst : StW w Wq.heap.size total full n 0 ((((Wq.alloc (.cells #[.int .i64 full.sum] 3)).alloc (.cells #[.slice none 0 0] 37)).alloc (.cells #[.int .i64 0] 3)).alloc (.cells #[.int .i64 0] 3)) := by
    refine ⟨(((b3.alloc _).alloc _).alloc _).alloc _, (((Blk.new _ _ _).alloc _).alloc _).alloc _, ?_, ?_, ⟨_, ((Blk.newAt _ _ _ (by simp)).alloc _).alloc _, World.ownsRow_nil _ _ _ _⟩, ?_, by omega⟩
    · exact (Blk.newAt _ _ _ (by simp)).alloc _
    · have : upTo total full 0 = 0 := by simp [upTo]
      rw [this]
      exact Blk.newAt _ _ _ (by simp)
    · exact (Ext.alloc _ _).trans (hx.trans ((Ext.alloc _ _).trans ((Ext.alloc _ _).trans ((Ext.alloc _ _).trans (Ext.alloc _ _)))))
  have HITW := Lib.hid (HIT.out _ hst.below)
  generalize hW0 : ((((Wq.alloc (.cells #[.int .i64 full.sum] 3)).alloc (.cells #[.slice none 0 0] 37)).alloc (.cells #[.int .i64 0] 3)).alloc (.cells #[.int .i64 0] 3)) = W0 at hst HITW ⊢
  have hq0 : Wq.heap.size + 1 + 1 + 1 < W0.heap.size := hst.b8.lt
  clear hW0 b3 hx
  generalize Wq.heap.size = q at *
  have hw0 : w.heap.size ≤ W0.heap.size := hst.below.size
  refine rangeFunc_list (by omega) (gf := gf) (first := first) (lb := lb) rfl HEG.out (encs := encInt) (full := full) (Kp := Kp37) HITW.out (fun h k => h.t k) (fun A B hc _ => Kp37.kept hc) (fun _ => rfl)
    (fun k W => StW w q total full n k W) (fun _ _ => False)
    (fun k A B h hc hb => ⟨hc.blk h.b3, hc.blk h.b5, hc.blk h.b7, hc.blk h.b8, by obtain ⟨u, h1, h2⟩ := h.row; exact ⟨u, hc.blk h1, hc.own h2⟩, Below.trans h.below (hb.mono hw0), h.lt⟩) (fun _ _ _ h _ _ => h) hst
    (fun x a' _ => a' =
      { tmps := #[.func (.func gf) first lb, .int .i64 total, undef, .pointer (some ⟨w.heap.size, 0, none⟩), .slice none 0 0, .pointer (some ⟨q, 0, none⟩), .pointer (some ⟨q + 1, 0, none⟩), .pointer (some ⟨q + 1 + 1, 0, none⟩), .pointer (some ⟨q + 1 + 1 + 1, 0, none⟩),
        .int .i64 x, undef, .func (.func gf) first lb, .int .i64 full.sum, .func (.func gf) first lb, .int .i64 x, undef, undef, undef, undef, undef, undef, undef, undef, undef, undef, undef, undef, undef, undef, undef, undef], defers := [] }) (fun _ _ _ _ h _ _ => h) ?assign ?body ?done ?stop
  case assign =>
    intro l k x W K hx hsz hI hK'
    unfold encInt
    gi_wp2
    exact hK' _ _ (KeepsOthers.refl _) (Kp37.kept (CellsKept.refl _)) hI rfl
  case body =>
    rintro l k x a' W hxk hsz hI rfl
    have hkn : k < n := by have := (List.getElem?_eq_some_iff.1 hxk).1; rw [HN.out] at this; exact this
    have HS1 := Lib.hid (take_sum full k x hxk)
    obtain ⟨⟨q1, q2⟩, q3, q4⟩ := upTo_bd HT.out HS.out HB.out k
    obtain ⟨⟨q5, q6⟩, q7, q8⟩ := upTo_bd HT.out HS.out HB.out (k + 1)
    obtain ⟨r1, r2⟩ := HB.out k
    obtain ⟨r3, r4⟩ := HB.out (k + 1)
    obtain ⟨r5, r6⟩ := HS.out
    have HU1 := Lib.hid (show upTo total full (k + 1) = total * (full.take (k + 1)).sum / full.sum from rfl)
    rw [HS1.out] at HU1 q5 q6 r3 r4
    rw [HU1.out] at q7 q8
    obtain ⟨u, hu, hrow⟩ := hI.row
    have a0 : W.cell? ⟨w.heap.size, 0, none⟩ = some (.int .i64 total) := hI.b3.cell 0
    have a1 : W.cell? ⟨q, 0, none⟩ = some (.int .i64 full.sum) := hI.b5.cell 0
    have a2 : W.cell? ⟨q + 1 + 1, 0, none⟩ = some (.int .i64 (full.take k).sum) := hI.b7.cell 0
    have a3 : W.cell? ⟨q + 1 + 1 + 1, 0, none⟩ = some (.int .i64 (upTo total full k)) := hI.b8.cell 0
    have a4 : W.cell? ⟨q + 1, 0, none⟩ = some u := hu.cell 0
    have f2 := hI.b7.free 0
    have hlt := hI.lt
    have hw1 := hI.b8.lt
    have HI := Lib.hid hI
    have HI7 := Lib.hid hI.b7
    have HI8 := Lib.hid hI.b8
    have HU := Lib.hid hu
    have HR := Lib.hid hrow
    clear hI hu hrow hxk
    generalize hz : (full.take k).sum = z at *
    generalize hsm : full.sum = sm at *
    have HZ := Lib.hid hz
    have HSM := Lib.hid hsm
    clear hz hsm
    generalize hu0 : upTo total full k = u0 at *
    have HU0 := Lib.hid hu0
    clear hu0
    have hu1 : Blk (W.setCell ⟨q + 1 + 1, 0, none⟩ (.int .i64 (z + x))) (q + 1) 37 #[u] := HU.out.setOther (by dsimp only; omega) _
    have hr1 : (W.setCell ⟨q + 1 + 1, 0, none⟩ (.int .i64 (z + x))).ownsRow (q + 1 + 1 + 1 + 1) 3 1 u k ((wattsL total full k).map (Value.int .i64)) := own_set HR.out (own_not HR.out (by dsimp only; omega)) _
    have HR2 := Lib.hid (hr1.alloc (.cells #[.int .i64 (total * (z + x) / sm - u0)] 3))
    have HU2 := Lib.hid (hu1.alloc (.cells #[.int .i64 (total * (z + x) / sm - u0)] 3))
    have hz2 : (W.setCell ⟨q + 1 + 1, 0, none⟩ (.int .i64 (z + x))).heap.size = W.heap.size := by simp [World.setCell]
    have HN2 := Lib.hid (news_of1 (Blk.newAt (W.setCell ⟨q + 1 + 1, 0, none⟩ (.int .i64 (z + x))) 3 #[.int .i64 (total * (z + x) / sm - u0)] (g := W.heap.size) hz2.symm))
    have hb2 : q + 1 + 1 + 1 + 1 ≤ (World.alloc (W.setCell ⟨q + 1 + 1, 0, none⟩ (.int .i64 (z + x))) (.cells #[.int .i64 (total * (z + x) / sm - u0)] 3)).heap.size := by rw [World.size_alloc, hz2]; omega
    clear hu1 hr1 hz2
    gi_wp2_with (gi_at_builtin; refine wpListIn_append_own _ rfl _ _ 37 rfl (q + 1 + 1 + 1 + 1) 3 i0 (.int .i64 0) 1 8 Try.underlying37 hi HI0.out hz1 hz2' rfl (by decide) _ _ _ rfl HR2.out ⟨W.heap.size, 0, none⟩ 1 1 [.int .i64 (total * (z + x) / sm - u0)] rfl rfl HN2.out (by simp [Value.oneCell']) (by unfold maxLen; omega) (by omega) hb2 ?_; intro v' w1 hown' hgrow _; obtain ⟨g', cap'', rfl⟩ := ownsRow_succ hown'; have hu3 : Blk w1 (q + 1) 37 #[u] := (hgrow.block _ HU2.out.lt (own_notBlk HR2.out HU2.out (by decide))).trans HU2.out; have y0 : w1.cell? ⟨q + 1, 0, none⟩ = some u := hu3.cell 0; have y1 := hu3.free 0; have hk3 : ∀ {gg : Nat} {cs : Array Value}, Blk (World.alloc (W.setCell ⟨q + 1 + 1, 0, none⟩ (.int .i64 (z + x))) (.cells #[.int .i64 (total * (z + x) / sm - u0)] 3)) gg 3 cs → gg < q + 1 + 1 + 1 + 1 → Blk w1 gg 3 cs := (fun b hlt => (hgrow.block _ b.lt (own_not HR2.out hlt)).trans b); have hb8 : Blk w1 (q + 1 + 1 + 1) 3 #[.int .i64 u0] := hk3 ((HI8.out.setOther (by dsimp only; omega) _).alloc _) (by omega); have y2 : w1.cell? ⟨q + 1 + 1 + 1, 0, none⟩ = some (.int .i64 u0) := hb8.cell 0; have y3 := hb8.free 0; have HH3 := Lib.hid hown'; have HG3 := Lib.hid hgrow; have HU3 := Lib.hid hu3; have HK3 := Lib.hid (fun (gg : Nat) (cs : Array Value) b h => hk3 (gg := gg) (cs := cs) b h); have HB8 := Lib.hid hb8; clear hown' hgrow hu3 hk3 hb8)
    refine ⟨(((KeepsOthers.setCell W ⟨q + 1 + 1, 0, none⟩ (.int .i64 (z + x))).trans (KeepsOthers.alloc _ (.cells #[.int .i64 (total * (z + x) / sm - u0)] 3))).trans (keepsOthers_own HR2.out HG3.out)).trans ((KeepsOthers.setCell w1 ⟨q + 1, 0, none⟩ (.slice (some ⟨g', 0, none⟩) (k + 1) cap'')).trans (KeepsOthers.setCell _ _ _)),
      (((Kp37.set HI7.out (.inl rfl) 0 (.int .i64 (z + x))).t (Kp37.ext (Ext.alloc _ (.cells #[.int .i64 (total * (z + x) / sm - u0)] 3)))).t (Kp37.own HR2.out HG3.out)).t ((Kp37.set HU3.out (.inr rfl) 0 (.slice (some ⟨g', 0, none⟩) (k + 1) cap'')).t (Kp37.set (HB8.out.setOther (by dsimp only; omega) _) (.inl rfl) 0 _)), ?_⟩
    have hrow : ((w1.setCell ⟨q + 1, 0, none⟩ (.slice (some ⟨g', 0, none⟩) (k + 1) cap'')).setCell ⟨q + 1 + 1 + 1, 0, none⟩ (.int .i64 (total * (z + x) / sm))).ownsRow (q + 1 + 1 + 1 + 1) 3 1 (.slice (some ⟨g', 0, none⟩) (k + 1) cap'') (k + 1) ((wattsL total full (k + 1)).map (Value.int .i64)) := by
      rw [wattsL_succ, HU1.out, HU0.out, List.map_append]
      have h1 := own_set HH3.out (own_notBlk HH3.out HU3.out (by decide) : some (Addr.block ⟨q + 1, 0, none⟩) ≠ _) (.slice (some ⟨g', 0, none⟩) (k + 1) cap'')
      exact own_set h1 (own_not h1 (by dsimp only; omega)) _
    refine ⟨?_, ?_, ?_, ?_, ⟨_, (HU3.out.setSame 0 _).setOther (by dsimp only; omega) _, hrow⟩, ?_, hlt⟩
    · exact ((HK3.out _ _ ((HI.out.b3.setOther (by dsimp only; omega) _).alloc _) (by omega)).setOther (by dsimp only; omega) _).setOther (by dsimp only; omega) _
    · exact ((HK3.out _ _ ((HI.out.b5.setOther (by dsimp only; omega) _).alloc _) (by omega)).setOther (by dsimp only; omega) _).setOther (by dsimp only; omega) _
    · rw [HS1.out]
      exact ((HK3.out _ _ ((HI7.out.setSame 0 _).alloc _) (by omega)).setOther (by dsimp only; omega) _).setOther (by dsimp only; omega) _
    · rw [HU1.out]
      exact (HB8.out.setOther (by dsimp only; omega) _).setSame 0 _
    · refine Below.setCell (Below.setCell (Below.grown (Below.alloc (Below.setCell HI.out.below (by dsimp only; omega) _) (by simp [World.setCell]; omega) _) HG3.out (by simp [World.setCell]; omega) (fun g hg => ?_)) (by dsimp only; omega) _) (by dsimp only; omega) _
      have := own_base HR2.out hg
      omega
  case done =>
    rintro D W hD hI hK'
    rw [HN.out] at hI
    obtain ⟨u, hu, hrow⟩ := hI.row
    have a4 : W.cell? ⟨q + 1, 0, none⟩ = some u := hu.cell 0
    have hlt := hI.lt
    gi_wp2
    refine ⟨by simp, .inl ⟨_, _, rfl, run_takeDeferred hK', ?_⟩⟩
    exact ⟨_, results_tmp rfl _ _ _, u, rfl, (CellsKept.put _ hK' rfl).own (own_mono hrow (by omega)), Below.trans hI.below (below_put _ hK' (by omega))⟩
  case stop =>
    rintro D c W _ h _
    exact h.elim

end Go.Proofs.Ytpaoeghdfeekoaa

/- The depth for a percentage. -/
namespace Go.Proofs.Ytpaoeghdfeekoaa
open Go.RowKit Go.Shelf Go.Mem Go.RegInv
attribute [local go_sem] Oper.semAt_some

/-- The first number of shells whose powers together are enough. -/
def IsDepth (l : List Int) (pc : Int) (d : Nat) : Prop := d ≤ l.length ∧ (∀ j, j < d → 100 * (l.take j).sum < pc * l.sum) ∧ (d < l.length → pc * l.sum ≤ 100 * (l.take d).sum)

structure StD (w : World) (q : Nat) (pc : Int) (l : List Int) (k : Nat) (W : World) : Prop where
  b3 : Blk W w.heap.size 3 #[.int .i64 pc]
  b5 : Blk W q 3 #[.int .i64 l.sum]
  b6 : Blk W (q + 1) 3 #[.int .i64 (k : Int)]
  b7 : Blk W (q + 1 + 1) 3 #[.int .i64 (l.take k).sum]
  below : Ext w W
  lt : w.heap.size < q
  less : ∀ j, j < k → 100 * (l.take j).sum < pc * l.sum

theorem StD.keep {w A B : World} {q : Nat} {pc : Int} {l : List Int} {k : Nat} (h : StD w q pc l k A) (hc : CellsKept A B) (hb : Below w.heap.size A B) : StD w q pc l k B :=
  ⟨hc.blk h.b3, hc.blk h.b5, hc.blk h.b6, hc.blk h.b7, Below.trans h.below hb, h.lt, h.less⟩

set_option maxRecDepth 100000 in
set_option maxHeartbeats 2000000 in
theorem depthOf_in (gf : FuncId) (first lb : Array Value) (eg : ∀ args w, (callFunc gf args).run Try.prog w = .ok (.enter gf args) w) (full : List Int) (n : Nat) (hn : full.length = n) (hn5 : n ≤ 1000) (pc : Int) (w : World)
    (hit : ∀ W, Ext w W → IterAt Try.prog 4 gf first lb encInt full Kp37 W)
    (ht : 1 ≤ pc ∧ pc ≤ 100) (hs : 0 < full.sum ∧ full.sum ≤ 40000000000000) (hb : ∀ k, 0 ≤ (full.take k).sum ∧ (full.take k).sum ≤ full.sum) :
    CallsIn Fence.wide 5 Try.prog 104 #[.func (.func gf) first lb, .int .i64 pc] w fun e w' => ∃ d : Nat, e = .returned (.int .i64 (d : Int)) ∧ IsDepth full pc d ∧ Ext w w' := by
  have hps : 0 ≤ pc * full.sum ∧ pc * full.sum ≤ 4000000000000000 := by
    have h3 : pc * full.sum ≤ 100 * full.sum := Int.mul_le_mul_of_nonneg_right ht.2 (by omega)
    exact ⟨Int.mul_nonneg (by omega) (by omega), by omega⟩
  have HPS := Lib.hid hps
  have HS := Lib.hid hs
  have HB := Lib.hid hb
  have HIT := Lib.hid hit
  have HEG := Lib.hid eg
  have HN := Lib.hid hn
  have HSUM := Lib.hid (sumOf_in gf first lb eg full Kp37 (w.alloc (.cells #[.int .i64 pc] 3)) (Kp37.fits _) (fun W u v b => Kp37.set b (.inl rfl) 0 v) (hit _ ((Ext.alloc _ _).trans (Ext.alloc _ _))) (fun k => by have := hb k; unfold Big; omega))
  clear ht hs hb hit eg hn hps
  refine callsIn_of_wp_marks Try.func104 rfl trivial ?_ rfl
  simp only [Try.ntmps104, List.size_toArray, List.length_cons, List.length_nil, Nat.reduceAdd, Nat.reduceSub, Array.replicate_succ, Array.replicate_zero, List.push_toArray, List.append_toArray, List.nil_append, List.cons_append]
  gi_wp2_with (refine ⟨trivial, ?_⟩; gi_at_call 98; refine (callsIn_wide.2 (callsIn_wide.1 HSUM.out)).mono ?_; rintro e Wq ⟨rfl, hx⟩)
  have hwq := hx.size
  simp only [World.size_alloc] at hwq
  have b3 := (Blk.new w 3 #[.int .i64 pc]).ext hx
  have hst : StD w Wq.heap.size pc full 0 (((Wq.alloc (.cells #[.int .i64 full.sum] 3)).alloc (.cells #[.int .i64 0] 3)).alloc (.cells #[.int .i64 0] 3)) := by
    refine ⟨((b3.alloc _).alloc _).alloc _, ((Blk.new _ _ _).alloc _).alloc _, (Blk.newAt _ _ _ (by simp)).alloc _, Blk.newAt _ _ _ (by simp), ?_, by omega, fun j hj => absurd hj (by omega)⟩
    exact (Ext.alloc _ _).trans (hx.trans ((Ext.alloc _ _).trans ((Ext.alloc _ _).trans (Ext.alloc _ _))))
  have HITW := Lib.hid (HIT.out _ hst.below)
  generalize hW0 : (((Wq.alloc (.cells #[.int .i64 full.sum] 3)).alloc (.cells #[.int .i64 0] 3)).alloc (.cells #[.int .i64 0] 3)) = W0 at hst HITW ⊢
  have hq0 : Wq.heap.size + 1 + 1 < W0.heap.size := hst.b7.lt
  clear hW0 b3 hx
  generalize Wq.heap.size = q at *
  have hw0 : w.heap.size ≤ W0.heap.size := hst.below.size
  refine rangeFunc_list (by omega) (gf := gf) (first := first) (lb := lb) rfl HEG.out (encs := encInt) (full := full) (Kp := Kp37) HITW.out (fun h k => h.t k) (fun A B hc _ => Kp37.kept hc) (fun _ => rfl)
    (fun k W => StD w q pc full k W) (fun c W => c = .exit 0 ∧ ∃ k, k < n ∧ StD w q pc full k W ∧ pc * full.sum ≤ 100 * (full.take k).sum)
    (fun k A B h hc hb => h.keep hc (hb.mono hw0)) (fun c A B ⟨h1, k, h2, h3, h4⟩ hc hb => ⟨h1, k, h2, h3.keep hc (hb.mono hw0), h4⟩) hst
    (fun x a' _ => a' =
      { tmps := #[.func (.func gf) first lb, .int .i64 pc, undef, .pointer (some ⟨w.heap.size, 0, none⟩), .int .i64 0, .pointer (some ⟨q, 0, none⟩), .pointer (some ⟨q + 1, 0, none⟩), .pointer (some ⟨q + 1 + 1, 0, none⟩),
        .int .i64 x, .func (.func gf) first lb, .int .i64 full.sum, .func (.func gf) first lb, .int .i64 x, undef, undef, undef, undef, undef, undef, undef, undef, undef, undef, undef, undef], defers := [] }) (fun _ _ _ _ h _ _ => h) ?assign ?body ?done ?stop
  case assign =>
    intro l k x W K hx hsz hI hK'
    unfold encInt
    gi_wp2
    exact hK' _ _ (KeepsOthers.refl _) (Kp37.kept (CellsKept.refl _)) hI rfl
  case body =>
    rintro l k x a' W hxk hsz hI rfl
    have hkn : k < n := by have := (List.getElem?_eq_some_iff.1 hxk).1; rw [HN.out] at this; exact this
    have HS1 := Lib.hid (take_sum full k x hxk)
    obtain ⟨r1, r2⟩ := HB.out k
    obtain ⟨r3, r4⟩ := HB.out (k + 1)
    obtain ⟨r5, r6⟩ := HS.out
    obtain ⟨r7, r8⟩ := HPS.out
    rw [HS1.out] at r3 r4
    have a0 : W.cell? ⟨w.heap.size, 0, none⟩ = some (.int .i64 pc) := hI.b3.cell 0
    have a1 : W.cell? ⟨q, 0, none⟩ = some (.int .i64 full.sum) := hI.b5.cell 0
    have a2 : W.cell? ⟨q + 1 + 1, 0, none⟩ = some (.int .i64 (full.take k).sum) := hI.b7.cell 0
    have a3 : W.cell? ⟨q + 1, 0, none⟩ = some (.int .i64 (k : Int)) := hI.b6.cell 0
    have f2 := hI.b7.free 0
    have f3 := hI.b6.free 0
    have hlt := hI.lt
    have hw1 := hI.b7.lt
    have HI := Lib.hid hI
    have HI7 := Lib.hid hI.b7
    have HL := Lib.hid hI.less
    clear hI hxk
    by_cases hc : pc * full.sum ≤ 100 * (full.take k).sum
    · generalize hz : (full.take k).sum = z at *
      generalize hsm : full.sum = sm at *
      have HZ := Lib.hid hz
      have HSM := Lib.hid hsm
      clear hz hsm
      gi_wp2
      exact ⟨KeepsOthers.refl _, rfl, k, hkn, HI.out, by rw [HZ.out]; exact hc⟩
    · generalize hz : (full.take k).sum = z at *
      generalize hsm : full.sum = sm at *
      have HZ := Lib.hid hz
      have HSM := Lib.hid hsm
      clear hz hsm
      gi_wp2
      refine ⟨(KeepsOthers.setCell W _ _).trans (KeepsOthers.setCell _ _ _), (Kp37.set HI7.out (.inl rfl) 0 _).t (Kp37.set (HI.out.b6.setOther (by dsimp only; omega) _) (.inl rfl) 0 _), ?_⟩
      refine ⟨(HI.out.b3.setOther (by dsimp only; omega) _).setOther (by dsimp only; omega) _, (HI.out.b5.setOther (by dsimp only; omega) _).setOther (by dsimp only; omega) _, ?_, ?_,
        Ext.set (Ext.set HI.out.below (by dsimp only; omega) _) (by dsimp only; omega) _, hlt, ?_⟩
      · exact (HI.out.b6.setOther (by dsimp only; omega) _).setSame 0 _
      · rw [HS1.out]
        exact (HI7.out.setSame 0 _).setOther (by dsimp only; omega) _
      · intro j hj
        rcases Nat.lt_or_ge j k with h | h
        · exact HI.out.less j h
        · obtain rfl : j = k := by omega
          rw [HZ.out, HSM.out]; omega
  case done =>
    rintro D W hD hI hK'
    rw [HN.out] at hI
    have a4 : W.cell? ⟨q + 1, 0, none⟩ = some (.int .i64 (n : Int)) := hI.b6.cell 0
    have hlt := hI.lt
    have HI := Lib.hid hI
    clear hI
    gi_wp2
    refine ⟨by simp, .inl ⟨_, _, rfl, run_takeDeferred hK', ?_⟩⟩
    exact ⟨_, results_tmp rfl _ _ _, n, rfl, ⟨by rw [HN.out]; exact Nat.le_refl _, HI.out.less, fun h => absurd h (by rw [HN.out]; omega)⟩, Below.trans HI.out.below (below_put _ hK' (by omega))⟩
  case stop =>
    rintro D c W hD ⟨rfl, k, hk, hI, hge⟩ hK'
    have a4 : W.cell? ⟨q + 1, 0, none⟩ = some (.int .i64 (k : Int)) := hI.b6.cell 0
    have hlt := hI.lt
    have HI := Lib.hid hI
    have HG := Lib.hid hge
    clear hI hge
    gi_wp2
    refine ⟨by simp, .inl ⟨_, _, rfl, run_takeDeferred hK', ?_⟩⟩
    exact ⟨_, results_tmp rfl _ _ _, k, rfl, ⟨by rw [HN.out]; omega, HI.out.less, fun _ => HG.out⟩, Below.trans HI.out.below (below_put _ hK' (by omega))⟩

end Go.Proofs.Ytpaoeghdfeekoaa

