/- Errors of numbers. -/
import Derived.Test.YtjdilmmpdlcimaaGreatProg
import Derived.Test.YtjdilmmpdlcimaaGreatMA
import Derived.Test.YtjdilmmpdlcimaaGreatR4
import Derived.Outline
import Derived.RangeFuncLeaves
import Derived.Shelf.Abstract
import Derived.Shelf.RegionOpen
import Derived.TacticsInMore
import Derived.LoopNIn
import Derived.LoopIn
import Derived.RegionTactic

namespace Go.Proofs.YtjdilmmpdlcimaaGreat
open Go.RowKit Go.Shelf Go.Mem Go.RegInv
attribute [local go_sem] RelUpon_value RelUpon_skip RelUpon_enter BigFrame.eval_const BigFrame.eval_global BigFrame.eval_func
def errIf (b : Bool) (n : Int) : Int := if b then n else 0

theorem errorIf_any (b : Bool) (n : Int) (w : World) :
    Calls Tryz.prog 63 #[.bool b, .int .i64 n] w fun e w' => e = .returned (.int .i64 (errIf b n)) ∧ w = w' := by
  cases b
  all_goals
    go_enter Tryz.func63, Tryz.ntmps63
    go_wp2
    go_ret
    exact ⟨rfl, rfl⟩

def outB (lo hi n : Int) : Bool := decide (n < lo) || decide (hi < n)

theorem outside1 (n lo hi : Int) (a b : Addr) (w : World) (ha : w.cell? a = some (.int .i64 lo)) (hb : w.cell? b = some (.int .i64 hi)) :
    Calls Tryz.prog 62 #[.int .i64 n, .pointer (some a), .pointer (some b)] w fun e w' => e = .returned (.bool (outB lo hi n)) ∧ w = w' := by
  by_cases h1 : n < lo
  · go_enter Tryz.func62, Tryz.ntmps62
    go_wp2
    go_ret
    exact ⟨by simp [outB, h1], rfl⟩
  · by_cases h2 : hi < n
    all_goals
      go_enter Tryz.func62, Tryz.ntmps62
      go_wp2
      go_ret
      exact ⟨by simp [outB, h1, h2], rfl⟩

/-- The first index from k on at which p holds, or -1. -/
def idxFrom (p : Int → Bool) : List Int → Nat → Int
  | [], _ => -1
  | x :: l, k => if p x then k else idxFrom p l (k + 1)

theorem idxFrom_drop (p : Int → Bool) (xs : List Int) (k : Nat) (h : k < xs.length) :
    idxFrom p (xs.drop k) k = if p (xs.getD k 0) then (k : Int) else idxFrom p (xs.drop (k + 1)) (k + 1) := by
  rw [List.drop_eq_getElem_cons h, idxFrom]
  simp [h]

theorem idxFrom_any (p : Int → Bool) : ∀ (xs : List Int) (k : Nat), decide (0 ≤ idxFrom p xs k) = xs.any p
  | [], _ => rfl
  | x :: l, k => by
    rw [idxFrom, List.any_cons]
    by_cases h : p x = true
    · simp [h]
    · have h' : p x = false := by simpa using h
      simp [h', idxFrom_any p l (k + 1)]

theorem ret_int {a b : Int} (h : a = b) : Ending.returned (.int .i64 a) = .returned (.int .i64 b) := by rw [h]
theorem ret_bool {a b : Bool} (h : a = b) : Ending.returned (.bool a) = .returned (.bool b) := by rw [h]

set_option maxHeartbeats 400000 in
theorem indexFunc_out (v : Value) (lo hi : Int) (a b : Addr) (xs : List Int) (w : World) (hx : IntsAt w v xs) (ha : w.cell? a = some (.int .i64 lo)) (hb : w.cell? b = some (.int .i64 hi)) :
    Calls Tryz.prog 90 #[v, .func (.func 62) #[] #[.pointer (some a), .pointer (some b)]] w fun e w' => e = .returned (.int .i64 (idxFrom (outB lo hi) xs 0)) ∧ w = w' := by
  have HF := Lib.hid (fun n => outside1 n lo hi a b w ha hb)
  clear ha hb
  generalize outB lo hi = p at HF
  rcases hx with ⟨ao, cap, rfl, rfl⟩ | ⟨bl, o, cap, rfl, hbl, hm, hc⟩
  · go_enter Tryz.func90, Tryz.ntmps90
    go_wp2
    refine wp_loop_rounds 1 ?_
    rw [rounds_succ]
    go_wp2
    go_ret
    exact ⟨rfl, rfl⟩
  · have HC := Lib.hid hc
    clear hc
    go_enter Tryz.func90, Tryz.ntmps90
    go_wp2
    go_loop [8] (fun i => ∃ k : Nat, k ≤ xs.length ∧ i = .int .i64 k ∧ idxFrom p xs 0 = idxFrom p (xs.drop k) k) (fun i => xs.length - (intOf i).toNat)
    case atStart => exact ⟨0, Nat.zero_le _, rfl, rfl⟩
    case round =>
      obtain ⟨k, hk, rfl, hr⟩ := hrel
      have HR := Lib.hid hr
      clear hr
      by_cases hlt : k < xs.length
      · have hc := HC.out k hlt
        have HD := Lib.hid (idxFrom_drop p xs k hlt)
        generalize hxk : xs.getD k 0 = x at hc HD
        clear hxk
        cases hz : p x
        · have HZ := Lib.hid hz
          clear hz
          go_wp2_with (go_at_call 62; refine (HF.out _).mono ?_; rintro e w' ⟨rfl, rfl⟩; rw [HZ.out])
          go_round
          case rel => exact ⟨k + 1, by omega, by go_num, by rw [HR.out, HD.out, if_neg (by simp [HZ.out])]⟩
          case measure => simp [intOf]; omega
        · have HZ := Lib.hid hz
          clear hz
          go_wp2_with (go_at_call 62; refine (HF.out _).mono ?_; rintro e w' ⟨rfl, rfl⟩; rw [HZ.out])
          go_ret
          exact ⟨ret_int (by rw [HR.out, HD.out, if_pos HZ.out]), rfl⟩
      · have he : idxFrom p (xs.drop k) k = -1 := by rw [List.drop_of_length_le (by omega)]; rfl
        have HE := Lib.hid he
        clear he
        go_wp2
        go_ret
        exact ⟨ret_int (by rw [HR.out, HE.out]), rfl⟩

theorem containsFunc_out (v : Value) (lo hi : Int) (a b : Addr) (xs : List Int) (w : World) (hx : IntsAt w v xs) (ha : w.cell? a = some (.int .i64 lo)) (hb : w.cell? b = some (.int .i64 hi)) :
    Calls Tryz.prog 64 #[v, .func (.func 62) #[] #[.pointer (some a), .pointer (some b)]] w fun e w' => e = .returned (.bool (xs.any (outB lo hi))) ∧ w = w' := by
  have HC := Lib.hid (indexFunc_out v lo hi a b xs w hx ha hb)
  have HI := Lib.hid (idxFrom_any (outB lo hi) xs 0)
  clear ha hb hx
  generalize idxFrom (outB lo hi) xs 0 = n at HC HI
  go_enter Tryz.func64, Tryz.ntmps64
  go_wp2_with (go_at_call 90; refine HC.out.mono ?_; rintro e w' ⟨rfl, rfl⟩)
  go_ret
  exact ⟨ret_bool (by rw [← HI.out]), rfl⟩

def rangeE (lo hi : Int) (xs : List Int) : Int := errIf (xs.any (outB lo hi)) 2

theorem rangeError_any (lo hi : Int) (v : Value) (xs : List Int) (w : World) (hx : IntsAt w v xs) :
    Calls Tryz.prog 40 #[.int .i64 lo, .int .i64 hi, v] w fun e w' => e = .returned (.int .i64 (rangeE lo hi xs)) ∧ Ext w w' := by
  have e1 : Ext w ((w.alloc (.cells #[.int .i64 lo] 3)).alloc (.cells #[.int .i64 hi] 3)) := (Ext.alloc _ _).trans (Ext.alloc _ _)
  have HC := Lib.hid (containsFunc_out v lo hi ⟨w.heap.size, 0, none⟩ ⟨w.heap.size + 1, 0, none⟩ xs _ (hx.ext e1) (by go_simp) (by go_simp))
  have HR := Lib.hid (show rangeE lo hi xs = errIf (xs.any (outB lo hi)) 2 from rfl)
  clear hx
  generalize xs.any (outB lo hi) = c at HC HR
  go_enter Tryz.func40, Tryz.ntmps40
  go_wp2_with (first
    | (go_at_call 64; refine HC.out.mono ?_; rintro e w' ⟨rfl, rfl⟩)
    | (go_at_call 63; refine (errorIf_any _ _ _).mono ?_; rintro e w' ⟨rfl, rfl⟩))
  go_ret
  exact ⟨ret_int HR.out.symm, e1⟩

/-- The first number that is not 0. -/
def firstE : List Int → Int
  | [] => 0
  | x :: l => if x ≠ 0 then x else firstE l

theorem firstE_drop (xs : List Int) (k : Nat) (h : k < xs.length) : firstE (xs.drop k) = if xs.getD k 0 ≠ 0 then xs.getD k 0 else firstE (xs.drop (k + 1)) := by
  rw [List.drop_eq_getElem_cons h, firstE]
  simp [h]

set_option maxHeartbeats 400000 in
theorem firstOf_any (v : Value) (xs : List Int) (w : World) (hx : IntsAt w v xs) :
    Calls Tryz.prog 24 #[v] w fun e w' => e = .returned (.int .i64 (firstE xs)) ∧ w = w' := by
  rcases hx with ⟨ao, cap, rfl, rfl⟩ | ⟨bl, o, cap, rfl, hbl, hm, hc⟩
  · go_enter Tryz.func24, Tryz.ntmps24
    go_wp2
    refine wp_loop_rounds 1 ?_
    rw [rounds_succ]
    go_wp2
    go_ret
    exact ⟨rfl, rfl⟩
  · have HC := Lib.hid hc
    clear hc
    go_enter Tryz.func24, Tryz.ntmps24
    go_wp2
    go_loop [7] (fun i => ∃ k : Nat, k ≤ xs.length ∧ i = .int .i64 k ∧ firstE xs = firstE (xs.drop k)) (fun i => xs.length - (intOf i).toNat)
    case atStart => exact ⟨0, Nat.zero_le _, rfl, rfl⟩
    case round =>
      obtain ⟨k, hk, rfl, hr⟩ := hrel
      have HR := Lib.hid hr
      clear hr
      by_cases hlt : k < xs.length
      · have hc := HC.out k hlt
        have HD := Lib.hid (firstE_drop xs k hlt)
        generalize hxk : xs.getD k 0 = x at hc HD
        clear hxk
        by_cases hz : x = 0
        · have hz' : (x != 0) = false := by simp [hz]
          have HZ := Lib.hid hz
          clear hz
          go_wp2
          go_round
          case rel => exact ⟨k + 1, by omega, by go_num, by rw [HR.out, HD.out, if_neg (by simp [HZ.out])]⟩
          case measure => simp [intOf]; omega
        · have hz' : (x != 0) = true := by simp [hz]
          have HZ := Lib.hid hz
          clear hz
          go_wp2
          go_ret
          exact ⟨ret_int (by rw [HR.out, HD.out, if_pos HZ.out]), rfl⟩
      · have he : firstE (xs.drop k) = 0 := by rw [List.drop_of_length_le (by omega)]; rfl
        have HE := Lib.hid he
        clear he
        go_wp2
        go_ret
        exact ⟨ret_int (by rw [HR.out, HE.out]), rfl⟩


def Ints (xs : List Int) : Value → World → Prop := fun u W => IntsAt W u xs


/-- The first of two, three or four errors, in a slice of its own. -/
theorem firstE_one (a : Int) : firstE [a] = a := by by_cases h : a = 0 <;> simp [firstE, h]
theorem rangeE_zeros {lo hi : Int} {xs : List Int} (h : rangeE lo hi xs = 0) : ∀ x ∈ xs, lo ≤ x ∧ x ≤ hi := by
  intro x hx
  unfold rangeE errIf at h
  split at h
  · cases h
  · rename_i h1
    have h2 : ∀ y ∈ xs, outB lo hi y = false := by simpa using h1
    have := h2 x hx
    simp [outB] at this
    omega
theorem rangeE_ok {lo hi : Int} {xs : List Int} (h : ∀ x ∈ xs, lo ≤ x ∧ x ≤ hi) : rangeE lo hi xs = 0 := by
  unfold rangeE errIf
  rw [if_neg]
  simp only [List.any_eq_true, not_exists, not_and]
  intro x hx
  have := h x hx
  simp [outB]; omega
theorem firstE_zero {xs : List Int} (h : firstE xs = 0) : ∀ x ∈ xs, x = 0 := by
  induction xs with
  | nil => intro x hx; cases hx
  | cons a l ih =>
    intro x hx
    rw [firstE] at h
    split at h
    · rename_i h1; exact absurd h h1
    · rename_i h1
      rcases List.mem_cons.1 hx with rfl | h2
      · simpa using h1
      · exact ih h x h2
theorem firstE_ok {xs : List Int} (h : ∀ x ∈ xs, x = 0) : firstE xs = 0 := by
  induction xs with
  | nil => rfl
  | cons a l ih => rw [firstE, if_neg (by simpa using h a (List.mem_cons_self)), ih (fun x hx => h x (List.mem_cons_of_mem _ hx))]

end Go.Proofs.YtjdilmmpdlcimaaGreat
