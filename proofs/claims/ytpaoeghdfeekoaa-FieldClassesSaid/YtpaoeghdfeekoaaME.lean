/- Voltages node by node; FieldDeeper, FieldKept. -/
import Derived.Test.YtpaoeghdfeekoaaMC
import Derived.Test.YtpaoeghdfeekoaaMD
import Derived.StillTailTactics

/- Voltages and currents of a ladder, node by node. -/
namespace Go.Proofs.Ytpaoeghdfeekoaa
open Go.RowKit Go.Mem

theorem out_at (f : Int) (hot : List Bool) : ∀ (l : List (Nat × Sh)) (j : Nat), j ≤ l.length → (vfold f hot l).out[j]? = some (vfold f hot (l.take j)).last := by
  refine snoc_ind ?_ ?_
  · intro j hj
    obtain rfl : j = 0 := by simpa using hj
    rfl
  · intro l x ih j hj
    have hlen := vfold_len f hot l
    rw [vfold_snoc]
    simp only [vstep]
    by_cases hjl : j ≤ l.length
    · rw [List.getElem?_append_left (by omega), ih j hjl, List.take_append_of_le_length hjl]
    · obtain rfl : j = l.length + 1 := by simp at hj; omega
      rw [List.getElem?_append_right (by omega), List.take_of_length_le (by simp), vfold_snoc]
      simp [hlen, vstep]

def bx (ls : List Sh) : List (Nat × Sh) := (backE ls).map (·.1)
theorem bx_len (ls : List Sh) : (bx ls).length = ls.length := by simp [bx, backE_length]
theorem bx_at (ls : List Sh) (k : Nat) (s : Sh) (h : ls[k]? = some s) : (bx ls)[ls.length - 1 - k]? = some (k, s) := by
  simp [bx, List.getElem?_map, backE_at ls k s h]

/-- The state with the shells from k on. -/
def st (f : Int) (hot : List Bool) (ls : List Sh) (k : Nat) : VS := vfold f hot ((bx ls).take (ls.length - k))
theorem st_end (f : Int) (hot : List Bool) (ls : List Sh) : st f hot ls ls.length = vs0 := by simp [st, vfold]
theorem st_step {f : Int} {hot : List Bool} {ls : List Sh} {k : Nat} {s : Sh} (h : ls[k]? = some s) : st f hot ls k = vstep f hot (st f hot ls (k + 1)) (k, s) := by
  have hk := (List.getElem?_eq_some_iff.1 h).1
  unfold st
  rw [show ls.length - k = ls.length - 1 - k + 1 by omega, show ls.length - (k + 1) = ls.length - 1 - k by omega, List.take_add_one, bx_at ls k s h]
  exact vfold_snoc _ _ _ _
theorem volts_at (f : Int) (hot : List Bool) (ls : List Sh) (k : Nat) (hk : k ≤ ls.length) : (volts f hot ls)[k]? = some (st f hot ls k).last := by
  have hl : (vfold f hot (bx ls)).out.length = ls.length + 1 := by rw [vfold_len, bx_len]
  show (vfold f hot (bx ls)).out.reverse[k]? = _
  rw [List.getElem?_reverse (by omega), hl, show ls.length + 1 - 1 - k = ls.length - k by omega, out_at f hot (bx ls) _ (by rw [bx_len]; omega)]
  rfl
theorem volt_at (f : Int) (hot : List Bool) (ls : List Sh) (k : Nat) (hk : k ≤ ls.length) : volt f hot ls k = (st f hot ls k).last := by
  unfold volt
  rw [List.getD, volts_at f hot ls k hk]; rfl
theorem tail_at (f : Int) (hot : List Bool) (ls : List Sh) (k : Nat) (hk : k < ls.length) : (volts f hot ls).tail[k]? = some (st f hot ls (k + 1)).last := by
  rw [List.getElem?_tail, volts_at f hot ls _ (by omega)]
theorem cur_at (f : Int) (hot : List Bool) (ls : List Sh) : ∀ j k, j + k = ls.length → curAt ls (volts f hot ls).tail k = (st f hot ls k).cur
  | 0, k, h => by
    obtain rfl : k = ls.length := by omega
    rw [st_end, curAt_end ls _ (by simp [volts_len]) _ (Nat.le_refl _)]; rfl
  | j + 1, k, h => by
    have hk : k < ls.length := by omega
    have hs : ls[k]? = some ls[k] := List.getElem?_eq_getElem hk
    rw [curAt_step ls _ k _ _ hs (tail_at f hot ls k hk), cur_at f hot ls j (k + 1) (by omega), st_step hs]
    rfl

/-- The part of the power that turns. -/
def turnQ (v c : G) : Int := v.im * c.re - v.re * c.im
/-- The part of the power that goes in. -/
def realP (v c : G) : Int := v.re * c.re + v.im * c.im
def normG (v : G) : Int := v.re * v.re + v.im * v.im
theorem sq_nonneg (x : Int) : 0 ≤ x * x := by
  rcases Int.le_total 0 x with h | h
  · exact Int.mul_nonneg h h
  · have := Int.mul_nonneg (show 0 ≤ -x by omega) (show 0 ≤ -x by omega)
    rwa [Int.neg_mul_neg] at this
theorem norm_nonneg (v : G) : 0 ≤ normG v := by
  have := sq_nonneg v.re
  have := sq_nonneg v.im
  unfold normG; omega
theorem norm_zero {v : G} (h : v.re = 0 ∧ v.im = 0) : normG v = 0 := by simp [normG, h.1, h.2]

theorem turn_plus (v c : G) (g : Int) : turnQ v (plusG c g v) = turnQ v c := by
  have e1 : v.im * (g * v.re) = v.re * (g * v.im) := by rw [Int.mul_left_comm, Int.mul_left_comm v.re g, Int.mul_comm v.im]
  simp only [turnQ, plusG, Int.mul_add]
  omega
theorem real_plus (v c : G) (g : Int) : realP v (plusG c g v) = realP v c + g * normG v := by
  have e1 : v.re * (g * v.re) = g * (v.re * v.re) := Int.mul_left_comm _ _ _
  have e2 : v.im * (g * v.im) = g * (v.im * v.im) := Int.mul_left_comm _ _ _
  simp only [realP, plusG, normG, Int.mul_add]
  omega
theorem turn_bef (v c : G) (x : Int) : turnQ (befG v x c) c = turnQ v c + x * normG c := by
  have e1 : x * -c.im * c.im = -(x * (c.im * c.im)) := by rw [Int.mul_neg, Int.neg_mul, Int.mul_assoc]
  have e2 : x * c.re * c.re = x * (c.re * c.re) := Int.mul_assoc _ _ _
  simp only [turnQ, befG, normG, Int.mul_add, Int.add_mul]
  omega
theorem real_bef (v c : G) (x : Int) : realP (befG v x c) c = realP v c := by
  have e1 : x * -c.im * c.re = -(x * (c.re * c.im)) := by rw [Int.mul_neg, Int.neg_mul, Int.mul_assoc, Int.mul_comm c.im]
  have e2 : x * c.re * c.im = x * (c.re * c.im) := Int.mul_assoc _ _ _
  simp only [realP, befG, Int.add_mul]
  omega
theorem mul_four (a b c d : Int) : a * b * (c * d) = a * c * (b * d) := by rw [Int.mul_assoc, Int.mul_left_comm b, ← Int.mul_assoc]
theorem norm_bef (v c : G) (x : Int) : normG (befG v x c) = normG v + 2 * (x * turnQ v c) + x * x * normG c := by
  have a1 : x * -c.im * (x * -c.im) = x * x * (c.im * c.im) := by
    rw [Int.mul_neg, Int.neg_mul_neg, mul_four]
  have a2 : x * c.re * (x * c.re) = x * x * (c.re * c.re) := mul_four _ _ _ _
  have a3 : v.re * (x * -c.im) = -(x * (v.re * c.im)) := by rw [Int.mul_neg, Int.mul_neg, Int.mul_left_comm]
  have a4 : x * -c.im * v.re = -(x * (v.re * c.im)) := by rw [Int.mul_comm, a3]
  have a5 : v.im * (x * c.re) = x * (v.im * c.re) := Int.mul_left_comm _ _ _
  have a6 : x * c.re * v.im = x * (v.im * c.re) := by rw [Int.mul_comm, a5]
  simp only [normG, befG, turnQ, Int.mul_add, Int.add_mul, Int.mul_sub]
  omega

section
variable {f : Int} {hot : List Bool} {ls : List Sh} (hok : ∀ s ∈ ls, shOK s) (hf : 1 ≤ f ∧ f ≤ 8)
include hok hf
theorem turn_nonneg : ∀ j k, j + k = ls.length → 0 ≤ turnQ (st f hot ls k).last (st f hot ls k).cur
  | 0, k, h => by
    obtain rfl : k = ls.length := by omega
    rw [st_end]; decide
  | j + 1, k, h => by
    have hk : k < ls.length := by omega
    have hs : ls[k]? = some ls[k] := List.getElem?_eq_getElem hk
    have ih := turn_nonneg j (k + 1) (by omega)
    rw [st_step hs]
    simp only [vstep]
    rw [turn_bef, turn_plus]
    have hr := react_bd (h := hot.getD k false) hf (hok _ (List.mem_of_getElem? hs))
    have := Int.mul_nonneg (show 0 ≤ react f (hot.getD k false) ls[k] by omega) (norm_nonneg (plusG (st f hot ls (k + 1)).cur ls[k].g (st f hot ls (k + 1)).last))
    omega
theorem norm_step (k : Nat) (hk : k < ls.length) : normG (st f hot ls (k + 1)).last ≤ normG (st f hot ls k).last := by
  have hs : ls[k]? = some ls[k] := List.getElem?_eq_getElem hk
  have hq := turn_nonneg hok hf (hot := hot) (ls.length - (k + 1)) (k + 1) (by omega)
  rw [st_step hs]
  simp only [vstep]
  rw [norm_bef, turn_plus]
  have hr := react_bd (h := hot.getD k false) hf (hok _ (List.mem_of_getElem? hs))
  have h1 := Int.mul_nonneg (show 0 ≤ react f (hot.getD k false) ls[k] by omega) hq
  have h2 := Int.mul_nonneg (sq_nonneg (react f (hot.getD k false) ls[k])) (norm_nonneg (plusG (st f hot ls (k + 1)).cur ls[k].g (st f hot ls (k + 1)).last))
  omega
theorem norm_ge : ∀ j k, j + k = ls.length → 1 ≤ normG (st f hot ls k).last
  | 0, k, h => by
    obtain rfl : k = ls.length := by omega
    rw [st_end]; decide
  | j + 1, k, h => by
    have := norm_ge j (k + 1) (by omega)
    have := norm_step hok hf (hot := hot) k (by omega)
    omega
end

theorem powers_get {f : Int} {hot : List Bool} {ls : List Sh} {k : Nat} {s : Sh} (hs : ls[k]? = some s) : (powers f hot ls)[k]? = some (s.g * normG (st f hot ls (k + 1)).last) := by
  have hk := (List.getElem?_eq_some_iff.1 hs).1
  have hz : (nodes f hot ls)[k]? = some (st f hot ls (k + 1)).last := tail_at f hot ls k hk
  simp [powers, pwr, List.getElem?_zipWith, hs, hz, pw, normG]

theorem powers_down {f : Int} {hot : List Bool} {ls : List Sh} (hok : ∀ s ∈ ls, shOK s) (hf : 1 ≤ f ∧ f ≤ 8) (k : Nat) (s s' : Sh) (h : ls[k]? = some s) (h' : ls[k + 1]? = some s') (hg : s.g = s'.g) :
    (powers f hot ls).getD (k + 1) 0 ≤ (powers f hot ls).getD k 0 := by
  rw [List.getD, List.getD, powers_get h, powers_get h']
  have hk := (List.getElem?_eq_some_iff.1 h').1
  have := norm_step hok hf (hot := hot) (k + 1) hk
  have hgp := (hok s (List.mem_of_getElem? h)).1
  simp only [Option.getD_some]
  rw [← hg]
  exact Int.mul_le_mul_of_nonneg_left this (by omega)

/-- What goes in is what all shells take, from k on. -/
theorem real_sum (f : Int) (hot : List Bool) (ls : List Sh) : ∀ j k, j + k = ls.length → realP (st f hot ls k).last (st f hot ls k).cur = ((powers f hot ls).drop k).sum
  | 0, k, h => by
    obtain rfl : k = ls.length := by omega
    rw [st_end, List.drop_of_length_le (by rw [powers_len]; omega)]; decide
  | j + 1, k, h => by
    have hk : k < ls.length := by omega
    have hs : ls[k]? = some ls[k] := List.getElem?_eq_getElem hk
    have hp := powers_get (f := f) (hot := hot) hs
    obtain ⟨hkp, hpe⟩ := List.getElem?_eq_some_iff.1 hp
    rw [List.drop_eq_getElem_cons hkp, List.sum_cons, hpe, ← real_sum f hot ls j (k + 1) (by omega), st_step hs]
    simp only [vstep]
    rw [real_bef, real_plus]
    omega

end Go.Proofs.Ytpaoeghdfeekoaa

/- FieldDeeper: the law's function. By lawgen.py. -/
namespace Go.Proofs.Ytpaoeghdfeekoaa
open Go.RowKit Go.Shelf Go.Mem Go.RegInv
attribute [local go_sem] RelUpon_value RelUpon_skip RelUpon_enter BigFrame.eval_const BigFrame.eval_global BigFrame.eval_func

/-- Too many shells: nothing of them is read. -/
theorem refCheckLadder_big (t : Int) (A : Option Addr) (n cap : Nat) (l : List Sh) (hn : l.length = n) (w : World) (h4 : 4 < n) :
    Calls Try.prog 23 #[.agg #[.int .i64 t, .slice A n cap]] w fun e w' => e = .returned (.tuple #[.int .i64 (checkL t l).1, .int .i64 (checkL t l).2]) ∧ Ext w w' := by
  have HL := Lib.hid (show checkL t l = if headE t n ≠ 0 then (0, headE t n) else firstBad l 0 by unfold checkL; rw [hn])
  have HH := Lib.hid (head_cases t n)
  have E0 := Lib.hid (Ext.alloc w (.cells #[.int .i64 t, .slice A n cap] 24))
  clear hn
  by_cases h1 : inB 1 20 t = true
  · have H1 := Lib.hid h1
    have h0 : ¬ n = 0 := by omega
    have hb0 : ((n : Int) == 0) = false := by simp [h0]
    have HR := Lib.hid (show checkL t l = (0, 8) by rw [HL.out, HH.out, if_pos h1, if_neg h0, if_pos h4]; rfl)
    have hb4 : decide ((4 : Int) < (n : Int)) = true := by simp; omega
    clear h0 h1 h4
    generalize checkL t l = r at *
    go_enter Try.func23, Try.ntmps23
    go_wp2_with (go_at_call 40; refine (within_any _ _ _ _).mono ?_; rintro e w' ⟨rfl, rfl⟩; rw [H1.out])
    go_ret2
    exact ⟨ret_pair (by rw [HR.out]) (by rw [HR.out]), E0.out⟩
  · have h1' : inB 1 20 t = false := by simpa using h1
    have H1 := Lib.hid h1'
    have HR := Lib.hid (show checkL t l = (0, 2) by rw [HL.out, HH.out, if_neg h1]; rfl)
    clear h1 h1'
    generalize checkL t l = r at *
    go_enter Try.func23, Try.ntmps23
    go_wp2_with (go_at_call 40; refine (within_any _ _ _ _).mono ?_; rintro e w' ⟨rfl, rfl⟩; rw [H1.out])
    go_ret2
    exact ⟨ret_pair (by rw [HR.out]) (by rw [HR.out]), E0.out⟩
theorem refCheckLadder_gen (t : Int) (A : Option Addr) (n cap : Nat) (l : List Sh) (hn : l.length = n) (w : World) (hS : n ≤ 6 → RowsAt 3 Sh.enc w A l) :
    Calls Try.prog 23 #[.agg #[.int .i64 t, .slice A n cap]] w fun e w' => e = .returned (.tuple #[.int .i64 (checkL t l).1, .int .i64 (checkL t l).2]) ∧ Ext w w' :=
  if h : n ≤ 6 then refCheckLadder_any t A n cap l hn w (hS h) else refCheckLadder_big t A n cap l hn w (by omega)
theorem refLadderErr_gen (t : Int) (A : Option Addr) (n cap : Nat) (l : List Sh) (hn : l.length = n) (w : World) (hS : n ≤ 6 → RowsAt 3 Sh.enc w A l) :
    Calls Try.prog 65 #[.agg #[.int .i64 t, .slice A n cap]] w fun e w' => e = .returned (.int .i64 (checkL t l).2) ∧ Ext w w' := by
  have HC := Lib.hid (fun W h => refCheckLadder_gen t A n cap l hn W h)
  have e0 := Ext.alloc w (.cells #[.int .i64 t, .slice A n cap] 24)
  have HS := Lib.hid (fun h => (hS h).ext e0)
  clear hn hS
  generalize checkL t l = q at HC
  go_enter Try.func65, Try.ntmps65
  go_wp2_with (go_at_call 23; refine (HC.out _ HS.out).mono ?_; rintro e w' ⟨rfl, hx⟩)
  go_ret
  exact ⟨rfl, e0.trans hx⟩
theorem refBothErr_gen (t : Int) (A : Option Addr) (n cap : Nat) (l : List Sh) (hn : l.length = n) (f : Int) (B : Option Addr) (m cap' : Nat) (w : World) (hS : n ≤ 6 → RowsAt 3 Sh.enc w A l) :
    Calls Try.prog 24 #[.agg #[.int .i64 t, .slice A n cap], .agg #[.int .i64 f, .slice B m cap']] w fun e w' => e = .returned (.int .i64 (driveE t l f m)) ∧ Ext w w' := by
  have HC := Lib.hid (fun W h => refLadderErr_gen t A n cap l hn W h)
  have HD := Lib.hid (fun W => refDriveErr_any t A n cap f B m cap' W)
  have e0 : Ext w ((w.alloc (.cells #[.int .i64 t, .slice A n cap] 24)).alloc (.cells #[.int .i64 f, .slice B m cap'] 27)) := (Ext.alloc _ _).trans (Ext.alloc _ _)
  have HS := Lib.hid (fun h => (hS h).ext e0)
  have HR := Lib.hid (show driveE t l f m = if (checkL t l).2 ≠ 0 then (checkL t l).2 else drvE f m n by rw [drive_split, hn])
  clear hn hS
  generalize (checkL t l).2 = q at *
  generalize driveE t l f m = r at *
  have FA := Lib.hid (show ∀ W : World, Ext ((w.alloc (.cells #[.int .i64 t, .slice A n cap] 24)).alloc (.cells #[.int .i64 f, .slice B m cap'] 27)) W →
      W.cell? ⟨w.heap.size, 0, none⟩ = some (.int .i64 t) ∧ W.cell? ⟨w.heap.size, 1, none⟩ = some (.slice A n cap) ∧ W.cell? ⟨w.heap.size + 1, 0, none⟩ = some (.int .i64 f) ∧ W.cell? ⟨w.heap.size + 1, 1, none⟩ = some (.slice B m cap') from
    fun W hx => ⟨hx.cell (by go_simp), hx.cell (by go_simp), hx.cell (by go_simp), hx.cell (by go_simp)⟩)
  by_cases hq : q = 0
  · have hq' : (q != 0) = false := by simp [hq]
    have HQ := Lib.hid hq
    clear hq
    go_enter Try.func24, Try.ntmps24
    go_wp2_with (first
      | (go_at_call 65; refine (HC.out _ HS.out).mono ?_; rintro e W1 ⟨rfl, hx1⟩; obtain ⟨z0, z1, z2, z3⟩ := FA.out _ hx1)
      | (go_at_call 76; refine (HD.out _).mono ?_; rintro e W2 ⟨rfl, hx2⟩))
    go_ret
    exact ⟨ret_int (by rw [HR.out, if_neg (by simp [HQ.out])]), e0.trans (hx1.trans hx2)⟩
  · have hq' : (q != 0) = true := by simp [hq]
    have HQ := Lib.hid hq
    clear hq
    go_enter Try.func24, Try.ntmps24
    go_wp2_with (go_at_call 65; refine (HC.out _ HS.out).mono ?_; rintro e W1 ⟨rfl, hx1⟩)
    go_ret
    exact ⟨ret_int (by rw [HR.out, if_pos HQ.out]), e0.trans hx1⟩

theorem powersPub_V {t : Int} {xs : List Sh} {f : Int} {hot : List Bool} {m : Nat} (hm : hot.length = m) (W : World) (u v : Value) (h : LadV t xs u W) (k : DrvV f hot v W) :
    Calls Try.prog 39 #[u, v] W (VPost W (TupV (Opt (driveE t xs f m) (.slice none 0 0) (Ints (powers f hot xs))) (driveE t xs f m))) := by
  obtain ⟨A, n, c, hn, rfl, hl⟩ := h
  obtain ⟨B, m', d, hm', rfl, hd⟩ := k
  obtain rfl : m = m' := hm.symm.trans hm'.out
  refine (powersPub_any t A n c xs hn.out f B m d hot hm W hl hd).mono ?_
  rintro e w' ⟨hx, ⟨h1, h2⟩ | ⟨h1, v, h2, h3⟩⟩
  · exact ⟨_, h2, hx, _, rfl, fun _ => rfl, fun h => absurd h h1⟩
  · exact ⟨_, h2, hx, _, by rw [h1], fun h => absurd h1 h, fun _ => h3⟩

/-- The first k shells have the conductance of the first one. -/
def eqG (g0 : Int) (k : Nat) (xs : List Sh) : List Sh := (xs.take k).map (fun s => { s with g := g0 }) ++ xs.drop k
theorem eqG_len (g0 : Int) (k : Nat) (xs : List Sh) (h : k ≤ xs.length) : (eqG g0 k xs).length = xs.length := by simp [eqG]; omega
theorem eqG_lo {g0 : Int} {k : Nat} {xs : List Sh} {i : Nat} {s : Sh} (hi : i < k) (h : xs[i]? = some s) : (eqG g0 k xs)[i]? = some { s with g := g0 } := by
  have := (List.getElem?_eq_some_iff.1 h).1
  unfold eqG
  rw [List.getElem?_append_left (by simp; omega), List.getElem?_map, List.getElem?_take, if_pos hi, h]; rfl
theorem eqG_hi {g0 : Int} {k : Nat} {xs : List Sh} {i : Nat} (hk : k ≤ xs.length) (hi : k ≤ i) : (eqG g0 k xs)[i]? = xs[i]? := by
  unfold eqG
  rw [List.getElem?_append_right (by simp; omega)]
  simp
  congr 1; omega
theorem eqG_ok {g0 : Int} {k : Nat} {xs : List Sh} (hok : ∀ s ∈ xs, shOK s) (hg : 1 ≤ g0 ∧ g0 ≤ 4) : ∀ s ∈ eqG g0 k xs, shOK s := by
  intro s hs
  rcases List.mem_append.1 hs with h | h
  · obtain ⟨s', h', rfl⟩ := List.mem_map.1 h
    have := hok s' (List.mem_of_mem_take h')
    exact ⟨hg, this.2⟩
  · exact hok s (List.mem_of_mem_drop h)
/-- The cells of a block that begins with these shells. -/
def ShCells (cu : Array Value) (ys : List Sh) : Prop := ∀ i s, ys[i]? = some s → ∀ j u, (Sh.enc s)[j]? = some u → cu[i * 3 + j]? = some u
theorem shCells_step {cu : Array Value} {g0 : Int} {k : Nat} {xs : List Sh} (hk : k < xs.length) (h : ShCells cu (eqG g0 k xs)) : ShCells (cu.setIfInBounds (k * 3) (.int .i64 g0)) (eqG g0 (k + 1) xs) := by
  intro i s hs j u hu
  have hj : j < 3 := (List.getElem?_eq_some_iff.1 hu).1
  have hi : i < xs.length := by have := (List.getElem?_eq_some_iff.1 hs).1; rwa [eqG_len _ _ _ (by omega)] at this
  have hx : xs[i]? = some xs[i] := List.getElem?_eq_getElem hi
  have hxk : (eqG g0 k xs)[k]? = some xs[k] := by rw [eqG_hi (by omega) (Nat.le_refl _)]; exact List.getElem?_eq_getElem hk
  have hsz : k * 3 < cu.size := by
    have := h k _ hxk 0 _ rfl
    exact (Array.getElem?_eq_some_iff.1 this).1
  rw [set_at]
  rcases Nat.lt_trichotomy i k with hik | hik | hik
  · rw [if_neg (by omega)]
    have e := eqG_lo (g0 := g0) (k := k + 1) (by omega : i < k + 1) hx
    obtain rfl : { xs[i] with g := g0 } = s := by rw [hs] at e; exact (Option.some.inj e).symm
    exact h i _ (eqG_lo hik hx) j u hu
  · subst hik
    have e := eqG_lo (g0 := g0) (k := i + 1) (by omega : i < i + 1) hx
    obtain rfl : { xs[i] with g := g0 } = s := by rw [hs] at e; exact (Option.some.inj e).symm
    by_cases hj0 : j = 0
    · subst hj0
      rw [if_pos (by omega), if_pos hsz]
      simpa [Sh.enc] using hu
    · rw [if_neg (by omega)]
      refine h i _ hxk j u ?_
      match j, hj0, hu with
      | 1, _, hu => exact hu
      | 2, _, hu => exact hu
      | 0, h, _ => exact absurd rfl h
  · rw [if_neg (by omega)]
    rw [eqG_hi (by omega) (by omega)] at hs
    exact h i s (by rw [eqG_hi (by omega) (by omega)]; exact hs) j u hu
theorem rows_cells {W : World} {g : Nat} {cu : Array Value} {ys : List Sh} (hb : Blk W g 92 cu) (hl : ys.length ≤ 1152921504606846976) (h : ShCells cu ys) : LadAt W (some ⟨g, 0, none⟩) ys :=
  ⟨⟨hl, fun i s hs => ⟨g, 0, rfl, hb.lt, fun j u hu => by rw [hb.cell, show 0 + i * 3 + j = i * 3 + j by omega]; exact h i s hs j u hu⟩⟩,
    fun b o e => by obtain ⟨rfl, _⟩ : g = b ∧ 0 = o := by simpa using e
                    exact ⟨cu, hb⟩⟩

theorem own_cells {W : World} {base n c : Nat} {A : Option Addr} {xs : List Sh} (hl : xs.length = n) (h1 : 1 ≤ n) (h : W.ownsRow base 92 3 (.slice A n c) n (xs.flatMap Sh.enc)) :
    ∃ g cu, A = some ⟨g, 0, none⟩ ∧ base ≤ g ∧ n ≤ c ∧ c ≤ maxLen ∧ Blk W g 92 cu ∧ ShCells cu xs := by
  rcases h.2 with ⟨he, _⟩ | ⟨g, cap, cu, he, hg, hh, hc, hmx, hs, ht⟩
  · exfalso
    have : n = 0 := by simp at he; omega
    omega
  · obtain ⟨rfl, rfl⟩ : A = some ⟨g, 0, none⟩ ∧ c = cap := by simpa using he
    refine ⟨g, cu, rfl, hg, hc, hmx, hh, fun i s hx j u hu => ?_⟩
    have hi := (List.getElem?_eq_some_iff.1 hx).1
    have hj : j < 3 := (List.getElem?_eq_some_iff.1 hu).1
    have h2 := sh_at xs i j s u hx hu
    rw [← ht, List.getElem?_take, if_pos (by omega), Array.getElem?_toList] at h2
    exact h2

set_option maxRecDepth 100000 in
set_option maxHeartbeats 4000000 in
theorem fieldDeeper_any (t : Int) (A : Option Addr) (n ca : Nat) (xs : List Sh) (hn : xs.length = n) (f : Int) (B : Option Addr) (m cb : Nat) (hot : List Bool) (hm : hot.length = m) (w : World)
    (hA : n ≤ 6 → RowsAt 3 Sh.enc w A xs) (hB : m ≤ 6 → RowsAt 1 boolEnc w B hot) (hAn : A = none → ca = 0) (hBn : B = none → cb = 0) :
    Calls Try.prog 12 #[.agg #[.int .i64 t, .slice A n ca], .agg #[.int .i64 f, .slice B m cb]] w fun e w' => e = .returned (.bool true) ∧ Ext w w' := by
  have e0 : Ext w ((w.alloc (.cells #[.int .i64 t, .slice A n ca] 24)).alloc (.cells #[.int .i64 f, .slice B m cb] 27)) := (Ext.alloc _ _).trans (Ext.alloc _ _)
  have FA := Lib.hid (show ∀ W : World, Ext ((w.alloc (.cells #[.int .i64 t, .slice A n ca] 24)).alloc (.cells #[.int .i64 f, .slice B m cb] 27)) W →
      W.cell? ⟨w.heap.size, 0, none⟩ = some (.int .i64 t) ∧ W.cell? ⟨w.heap.size, 1, none⟩ = some (.slice A n ca) ∧ W.cell? ⟨w.heap.size + 1, 0, none⟩ = some (.int .i64 f) ∧ W.cell? ⟨w.heap.size + 1, 1, none⟩ = some (.slice B m cb) from
    fun W hx => ⟨hx.cell (by go_simp), hx.cell (by go_simp), hx.cell (by go_simp), hx.cell (by go_simp)⟩)
  have H24 := Lib.hid (fun W (e : Ext w W) => refBothErr_gen t A n ca xs hn f B m cb W (fun h => (hA h).ext e))
  have E0 := Lib.hid e0
  clear e0
  by_cases hq : driveE t xs f m = 0
  · obtain ⟨⟨ht, ⟨h1, h4⟩, hok⟩, hf, hml⟩ := (driveE_zero t xs f m).1 hq
    obtain rfl : n = m := by rw [hml, hn]
    rw [hn] at h1 h4
    have hA' := hA (by omega)
    have hB' := hB (by omega)
    have H19 := Lib.hid (fun W (e : Ext w W) => copyLadder_own t A n ca xs hn W (hA'.ext e) (by omega) hAn)
    have HCD := Lib.hid (copyDrive_V (f := f) hm hB' (by omega) hBn)
    obtain ⟨s0, hs0⟩ : ∃ s, xs[0]? = some s := ⟨_, List.getElem?_eq_getElem (by omega)⟩
    obtain ⟨g0, hg0⟩ : ∃ g0, g0 = s0.g := ⟨_, rfl⟩
    have hg04 := (hok s0 (List.mem_of_getElem? hs0)).1
    rw [← hg0] at hg04
    obtain ⟨ys, hys⟩ : ∃ ys, ys = eqG g0 n xs := ⟨_, rfl⟩
    have hyl : ys.length = n := by rw [hys, eqG_len _ _ _ (by omega), hn]
    have hyok : ∀ s ∈ ys, shOK s := by rw [hys]; exact eqG_ok hok hg04
    have hq2 : driveE t ys f n = 0 := (driveE_zero t ys f n).2 ⟨⟨ht, ⟨by omega, by omega⟩, hyok⟩, hf, hyl.symm⟩
    obtain ⟨ps, hps⟩ : ∃ ps, ps = powers f hot ys := ⟨_, rfl⟩
    have hpl : ps.length = n := by rw [hps, powers_len, hyl]
    have H39 := Lib.hid (fun W u v (h : LadV t ys u W) (k : DrvV f hot v W) => show Calls Try.prog 39 #[u, v] W (VPost W (TupV (Ints ps) 0)) from by
      have := powersPub_V (f := f) hm W u v h k
      rw [hq2, ← hps] at this
      exact this.mono fun e w' ⟨r, h1, h2, v, h3, h4⟩ => ⟨r, h1, h2, v, h3, h4.2 rfl⟩)
    have HDN := Lib.hid (show ∀ k, k + 1 < n → ps.getD (k + 1) 0 ≤ ps.getD k 0 from fun k hk => by
      rw [hps]
      have a := eqG_lo (g0 := g0) (k := n) (by omega : k < n) (List.getElem?_eq_getElem (by omega : k < xs.length))
      have b := eqG_lo (g0 := g0) (k := n) hk (List.getElem?_eq_getElem (by omega : k + 1 < xs.length))
      rw [← hys] at a b
      exact powers_down hyok hf k _ _ a b rfl)
    have HN := Lib.hid hn
    have HPL := Lib.hid hpl
    have HYS := Lib.hid hys
    have HS0 := Lib.hid hs0
    have HG0 := Lib.hid hg0
    have HYL := Lib.hid hyl
    rw [hq] at H24
    clear ht hok hf hml hA hB hA' hB' hAn hBn hs0 hg0 hg04 hys hyl hyok hq2 hps hpl hq hn hm
    go_enter Try.func12, Try.ntmps12
    go_wp2_with (first
      | (go_at_call 15; refine (awake_any _).mono ?_; rintro e W1 ⟨rfl, hx1⟩; obtain ⟨z0, z1, z2, z3⟩ := FA.out _ hx1; have X1 := Lib.hid hx1; clear hx1)
      | (go_at_call 24; refine (H24.out _ (E0.out.trans X1.out)).mono ?_; rintro e W2 ⟨rfl, hx2⟩; clear z0 z1 z2 z3; have X2 := Lib.hid (X1.out.trans hx2); clear hx2; obtain ⟨z0, z1, z2, z3⟩ := FA.out _ X2.out)
      | (go_at_call 19; refine (H19.out _ (E0.out.trans X2.out)).mono ?_; rintro e W3 ⟨A5, c5, rfl, hown, hx3⟩; obtain ⟨g, cu, rfl, hgb, hc5, hc5m, hbk, hsc⟩ := own_cells HN.out h1 hown; have HBK := Lib.hid hbk; have HSC := Lib.hid hsc; have EX3 := Lib.hid hx3; have hs3 := hx3.size; have hs2 := X2.out.size; clear z0 z1 z2 z3 hown hx3 hbk hsc))
    have hby : Blk (W3.alloc (.cells #[.int .i64 t, .slice (some ⟨g, 0, none⟩) n c5] 24)) W3.heap.size 24 #[.int .i64 t, .slice (some ⟨g, 0, none⟩) n c5] := Blk.new _ _ _
    have hbg := HBK.out.alloc (.cells #[.int .i64 t, .slice (some ⟨g, 0, none⟩) n c5] 24)
    have hgy : g < W3.heap.size := HBK.out.lt
    have hew : Ext W2 (W3.alloc (.cells #[.int .i64 t, .slice (some ⟨g, 0, none⟩) n c5] 24)) := (EX3.out).trans (Ext.alloc _ _)
    generalize hW4 : W3.alloc (.cells #[.int .i64 t, .slice (some ⟨g, 0, none⟩) n c5] 24) = W4 at *
    clear hW4 HBK
    generalize W3.heap.size = y5 at *
    have HY := Lib.hid hby
    have HG := Lib.hid hbg
    have HW := Lib.hid hew
    clear hby hbg hew
    go_loopw [6] (fun i wr => ∃ k : Nat, k ≤ n ∧ i = .int .i64 k ∧ (∃ cu, Blk wr g 92 cu ∧ ShCells cu (eqG g0 k xs)) ∧ Blk wr y5 24 #[.int .i64 t, .slice (some ⟨g, 0, none⟩) n c5] ∧ Ext W2 wr) (fun i _ => n - (intOf i).toNat)
    case atStart => exact ⟨0, Nat.zero_le _, rfl, ⟨cu, HG.out, by simpa [eqG] using HSC.out⟩, HY.out, HW.out⟩
    case round =>
      obtain ⟨k, hk, rfl, ⟨cw, hbw, hcw⟩, hby, hew⟩ := hrel
      have y0 : wr.cell? ⟨y5, 0, none⟩ = some (.int .i64 t) := hby.cell 0
      have y1 : wr.cell? ⟨y5, 1, none⟩ = some (.slice (some ⟨g, 0, none⟩) n c5) := hby.cell 1
      have BW := Lib.hid hbw
      have CW := Lib.hid hcw
      have BY := Lib.hid hby
      have EW := Lib.hid hew
      clear hbw hcw hby hew
      by_cases hlt : k < n
      · have hxk : (eqG g0 k xs)[k]? = some (xs[k]'(by rw [HN.out]; exact hlt)) := by rw [eqG_hi (by rw [HN.out]; omega) (Nat.le_refl _)]; exact List.getElem?_eq_getElem (by rw [HN.out]; exact hlt)
        have zg : wr.cell? ⟨g, 0, none⟩ = some (.int .i64 g0) := by
          rw [BW.out.cell]
          rcases Nat.eq_zero_or_pos k with h0 | h0
          · subst h0
            have := CW.out 0 s0 (by simpa [eqG] using HS0.out) 0 _ rfl
            rw [HG0.out]; simpa using this
          · have := CW.out 0 _ (eqG_lo (g0 := g0) h0 HS0.out) 0 _ rfl
            simpa using this
        obtain ⟨ck, hck⟩ : ∃ ck, wr.cell? ⟨g, k * 3, none⟩ = some ck := ⟨_, by rw [BW.out.cell]; exact CW.out k _ hxk 0 _ rfl⟩
        have hfk : wr.frozen? ⟨g, k * 3, none⟩ = false := BW.out.free _
        have HXK := Lib.hid hxk
        clear hxk
        have hn0 : 0 < n := by omega
        have hki : (k : Int) < (n : Int) := by omega
        go_wp2
        go_still_tail 10, (by kernel_rfl)
        change wpList _ _ _ _ _ wr.drew
        go_wp2
        go_roundw
        case rel => exact ⟨k + 1, by omega, by go_num, ⟨_, (show Blk wr.drew g 92 cw from BW.out).setSame _ _, shCells_step (by rw [HN.out]; exact hlt) CW.out⟩, (show Blk wr.drew y5 24 _ from BY.out).setOther (by dsimp only; omega) _, Ext.set (EW.out.trans (Ext.drew _)) (by dsimp only; omega) _⟩
        case measure => simp [intOf]; omega
      · obtain rfl : n = k := by omega
        have hly : LadAt wr (some ⟨g, 0, none⟩) ys := by rw [HYS.out]; exact rows_cells BW.out (by rw [eqG_len _ _ _ (by rw [HN.out]; omega), HN.out]; omega) CW.out
        have HCL := Lib.hid (copyLadder_V (t := t) (ca := c5) HYL.out hly.1 (by omega) (fun h => by cases h))
        obtain ⟨z0, z1, z2, z3⟩ := FA.out _ (X2.out.trans EW.out)
        clear hly
        go_wp2
        refine wp_region_each [some 36, some 37, some 38, some 39, some 40, some 35, some 41, some 42, some 7, some 8] [[5], [36], [3], [38], [37, 39], [40], [35], [35], [41], [42]]
          [Is (.agg #[.int .i64 (t), .slice (some ⟨g, 0, none⟩) n c5]), LadV t ys, Is (.agg #[.int .i64 (f), .slice B n cb]), DrvV f hot, TupV (Ints ps) (0), TupV (Ints ps) (0), Ints ps, Is (.int .i64 (0)), Ints ps, Is (.int .i64 (0))]
          (by kernel_rfl) (by kernel_rfl) (by kernel_rfl) (by kernel_rfl) (by kernel_rfl) Ext (fun W => Ext wr W)
          (fun W _ => Ext.refl W) (fun W W' h k => h.trans k) ?_ (Ext.drew _) ?_ ?_
        · repeat (refine ⟨fun _ _ _ _ k h => (by first | exact h | exact (by first | exact LadV.ext h k | exact DrvV.ext h k | exact TupV.ext (fun _ _ _ h k => by first | exact Opt.ext (fun _ _ _ h k => by first | exact IntsAt.ext h k | exact GsV.ext h k) h k | exact IntsAt.ext h k) h k | exact Opt.ext (fun _ _ _ h k => by first | exact IntsAt.ext h k | exact GsV.ext h k) h k | exact IntsAt.ext h k)), ?_⟩)
          exact trivial
        · refine ⟨?_, ?_, ?_, ?_, ?_, ?_, ?_, ?_, ?_, ?_, trivial⟩
          all_goals intro ρ W ⟨kc, kg, kf⟩ hF hs
          · obtain ⟨h0, -⟩ := hs
            replace h0 : ρ (.tmp 5) = .pointer (some ⟨y5, 0, none⟩) := h0
            have hc0 : W.cell? ⟨y5, 0, none⟩ = some (.int .i64 (t)) := hF.cell (by assumption)
            have hc1 : W.cell? ⟨y5, 1, none⟩ = some (.slice (some ⟨g, 0, none⟩) n c5) := hF.cell (by assumption)
            go_simp
            exact ⟨Ext.refl _, rfl⟩
          · obtain ⟨h0, -⟩ := hs
            replace h0 : ρ (.tmp 36) = .agg #[.int .i64 (t), .slice (some ⟨g, 0, none⟩) n c5] := h0
            go_simp
            exact HCL.out W hF
          · obtain ⟨h0, -⟩ := hs
            replace h0 : ρ (.tmp 3) = .pointer (some ⟨w.heap.size + 1, 0, none⟩) := h0
            have hc0 : W.cell? ⟨w.heap.size + 1, 0, none⟩ = some (.int .i64 (f)) := hF.cell (by assumption)
            have hc1 : W.cell? ⟨w.heap.size + 1, 1, none⟩ = some (.slice B n cb) := hF.cell (by assumption)
            go_simp
            exact ⟨Ext.refl _, rfl⟩
          · obtain ⟨h0, -⟩ := hs
            replace h0 : ρ (.tmp 38) = .agg #[.int .i64 (f), .slice B n cb] := h0
            go_simp
            exact HCD.out W (E0.out.trans (X2.out.trans (EW.out.trans hF)))
          · obtain ⟨h0, h1, -⟩ := hs
            replace h0 : (LadV t ys) (ρ (.tmp 37)) W := h0
            replace h1 : (DrvV f hot) (ρ (.tmp 39)) W := h1
            go_simp
            exact H39.out W _ _ h0 h1
          · obtain ⟨h0, -⟩ := hs
            replace h0 : (TupV (Ints ps) (0)) (ρ (.tmp 40)) W := h0
            go_simp
            first | exact ⟨Ext.refl _, h0⟩ | exact Ext.refl _
          · obtain ⟨h0, -⟩ := hs
            replace h0 : (TupV (Ints ps) (0)) (ρ (.tmp 35)) W := h0
            obtain ⟨v, hv, hp⟩ := h0
            go_simp
            first | exact ⟨Ext.refl _, hp⟩ | exact Ext.refl _
          · obtain ⟨h0, -⟩ := hs
            replace h0 : (TupV (Ints ps) (0)) (ρ (.tmp 35)) W := h0
            obtain ⟨v, hv, hp⟩ := h0
            go_simp
            first | exact ⟨Ext.refl _, rfl⟩ | exact Ext.refl _
          · obtain ⟨h0, -⟩ := hs
            replace h0 : (Ints ps) (ρ (.tmp 41)) W := h0
            go_simp
            first | exact ⟨Ext.refl _, h0⟩ | exact Ext.refl _
          · obtain ⟨h0, -⟩ := hs
            replace h0 : ρ (.tmp 42) = .int .i64 (0) := h0
            go_simp
            exact ⟨Ext.refl _, rfl⟩
        · intro fv W5 hF hs
          obtain ⟨-, -, -, -, -, -, -, -, h7, h8, -⟩ := hs
          replace h7 : (Ints ps) (fv 7) W5 := h7
          replace h8 : fv 8 = .int .i64 (0) := h8
          simp only [fin, List.filterMap]
          go_simp
          have X5 := Lib.hid (EW.out.trans hF)
          have y0' : W5.cell? ⟨y5, 0, none⟩ = some (.int .i64 t) := hF.cell y0
          have y1' : W5.cell? ⟨y5, 1, none⟩ = some (.slice (some ⟨g, 0, none⟩) n c5) := hF.cell y1
          clear hF z0 z1 z2 z3 y0 y1
          obtain ⟨A7, c7, hv7, hr7⟩ := ints_rows h7
          rw [HPL.out] at hv7
          have HR7 := Lib.hid hr7
          clear h7 hr7
          go_wp2
          go_loopw [9] (fun i wr => ∃ j : Nat, j + 1 ≤ n ∧ i = .int .i64 ((j : Int) + 1) ∧ Ext W5 wr) (fun i _ => n - (intOf i).toNat)
          case atStart => exact ⟨0, h1, rfl, Ext.refl _⟩
          case round =>
            obtain ⟨j, hj, rfl, hx⟩ := hrel
            by_cases hlt2 : j + 1 < n
            · obtain ⟨x, hax⟩ : ∃ x, ps[j + 1]? = some x := ⟨_, List.getElem?_eq_getElem (by rw [HPL.out]; exact hlt2)⟩
              obtain ⟨y, hay⟩ : ∃ y, ps[j]? = some y := ⟨_, List.getElem?_eq_getElem (by rw [HPL.out]; omega)⟩
              have hxy : x ≤ y := by
                have := HDN.out j hlt2
                simpa [List.getD, hax, hay] using this
              obtain ⟨b1, o1, hA1, _, hc⟩ := HR7.out.2 (j + 1) x hax
              obtain ⟨b2, o2, hA2, _, hd⟩ := HR7.out.2 j y hay
              subst hA1
              obtain ⟨rfl, rfl⟩ : b1 = b2 ∧ o1 = o2 := by simpa using hA2
              have hc1 : wr.cell? ⟨b1, o1 + (j + 1), none⟩ = some (.int .i64 x) := hx.cell (by have := hc 0 _ rfl; simpa using this)
              have hd1 : wr.cell? ⟨b1, o1 + j, none⟩ = some (.int .i64 y) := hx.cell (by have := hd 0 _ rfl; simpa using this)
              have hji : (j : Int) + 1 < (n : Int) := by omega
              have hji2 : (j : Int) < (n : Int) := by omega
              have hdx : decide (y < x) = false := by simp; omega
              have HXX := Lib.hid hx
              clear hc hd hA2 hax hay hx hxy
              go_wp2
              go_quiet (fail)
              go_wp2
              go_roundw
              case rel => exact ⟨j + 1, by omega, by go_num, HXX.out.trans (Ext.drewN _ _)⟩
              case measure => simp [intOf]; omega
            · go_wp2
              go_ret
              exact ⟨rfl, E0.out.trans (X2.out.trans (X5.out.trans hx))⟩
  · have hq' : (driveE t xs f m != 0) = true := by simp [hq]
    clear hq hA hB hAn hBn hn hm
    generalize driveE t xs f m = q at *
    go_enter Try.func12, Try.ntmps12
    go_wp2_with (first
      | (go_at_call 15; refine (awake_any _).mono ?_; rintro e W1 ⟨rfl, hx1⟩; obtain ⟨z0, z1, z2, z3⟩ := FA.out _ hx1; have X1 := Lib.hid hx1; clear hx1)
      | (go_at_call 24; refine (H24.out _ (E0.out.trans X1.out)).mono ?_; rintro e W2 ⟨rfl, hx2⟩; have X2 := Lib.hid (X1.out.trans hx2); clear hx2 z0 z1 z2 z3))
    go_ret
    exact ⟨rfl, E0.out.trans X2.out⟩

end Go.Proofs.Ytpaoeghdfeekoaa

/- Currents, for voltages up to the greatest part. -/
namespace Go.Proofs.Ytpaoeghdfeekoaa
open Go.RowKit Go.Shelf Go.Mem Go.RegInv
attribute [local go_sem] Oper.semAt_some RelUpon_value RelUpon_skip RelUpon_enter

theorem curAt_bd9 {ls : List Sh} {zs : List G} (h : ls.length = zs.length) (hok : ∀ s ∈ ls, shOK s) (hb : ∀ z ∈ zs, Bd 1000000000 z) : ∀ j k, j + k = ls.length → Bd ((j : Int) * 4000000000) (curAt ls zs k)
  | 0, k, hk => by rw [curAt_end ls zs h k (by omega)]; simp [Bd]
  | j + 1, k, hk => by
    have hs : ls[k]? = some ls[k] := List.getElem?_eq_getElem (by omega)
    have hz : zs[k]? = some zs[k] := List.getElem?_eq_getElem (by omega)
    have h1 := curAt_bd9 h hok hb j (k + 1) (by omega)
    have h2 := hb _ (List.mem_of_getElem? hz)
    have h3 := (hok _ (List.mem_of_getElem? hs)).1
    rw [curAt_step ls zs k _ _ hs hz]
    have := plus_bd (n := ls[k].g) h1 h2 (by omega) h3.2
    simp only [Bd] at this ⊢
    omega


set_option maxRecDepth 100000 in
set_option maxHeartbeats 2000000 in
theorem currentsOf_in9 (t : Int) (A : Option Addr) (m cap : Nat) (ls : List Sh) (hm : ls.length = m) (g cp : Nat) (vs : List G) (hv : vs.length = m + 1) (w : World)
    (hS : RowsAt 3 Sh.enc w A ls) (hV : RowsAt 2 G.enc w (some ⟨g, 0, none⟩) vs) (hcp : m + 1 ≤ cp) (hok : ∀ s ∈ ls, shOK s) (hb : ∀ z ∈ vs.tail, Bd 1000000000 z) (h1 : 1 ≤ m) (h4 : m ≤ 4) :
    CallsIn Fence.wide 5 Try.prog 90 #[.agg #[.int .i64 t, .slice A m cap], .slice (some ⟨g, 0, none⟩) (m + 1) cp] w fun e w' =>
      ∃ g' c' cu, e = .returned (.slice (some ⟨g', 0, none⟩) m c') ∧ RowsAt 2 G.enc w' (some ⟨g', 0, none⟩) (curr ls vs.tail) ∧ Blk w' g' 65 cu ∧ Ext w w' := by
  have HS := Lib.hid hS
  have HVT := Lib.hid (rows_tail hV)
  have HM := Lib.hid hm
  have HZ := Lib.hid (show vs.tail.length = m by simp [hv])
  have HOK := Lib.hid hok
  have HLZ := Lib.hid (show ls.length = vs.tail.length by simp [hv, hm])
  have HBD := Lib.hid (fun j k => curAt_bd9 (ls := ls) (zs := vs.tail) (by simp [hv, hm]) hok hb j k)
  have HBZ := Lib.hid hb
  have HA := Lib.hid (show ∀ b o, A = some ⟨b, o, none⟩ → b < w.heap.size from fun b o hA => by
    obtain ⟨b', o', h1', h2', _⟩ := hS.2 0 _ (List.getElem?_eq_getElem (by omega))
    rw [hA] at h1'
    simp at h1'
    omega)
  obtain ⟨i0, hi, hz0, hz1, hz2⟩ := info_parts info65
  have HI0 := Lib.hid hz0
  have hc1 : (cp == 1) = false := by rw [beq_eq_false_iff_ne]; omega
  have hc2 : ¬ cp = 1 := by omega
  have hc3 : (1 : Int) ≤ ((m : Int) + 1) := by omega
  have hc4 : ((m : Int) + 1) ≤ (cp : Int) := by omega
  clear hS hV hm hv hok hb
  refine callsIn_of_wp_marks Try.func90 rfl trivial ?_ rfl
  simp only [Try.ntmps90, List.size_toArray, List.length_cons, List.length_nil, Nat.reduceAdd, Nat.reduceSub, Array.replicate_succ, Array.replicate_zero, List.push_toArray, List.append_toArray, List.nil_append, List.cons_append]
  gi_wp2_with (first
    | (gi_at_make; refine wpListIn_make_blk _ rfl _ _ 53 rfl 65 i0 (.agg #[.int .i64 0, .int .i64 0]) 2 Try.underlying53 hi HI0.out hz1 .i64 .i64 _ _ m rfl rfl rfl rfl (by rw [hz2]; omega) (by omega) ?_)
    | (refine ⟨trivial, ?_⟩; gi_at_call 127; refine (callsIn_wide.2 (backward_any _ _ _ _)).mono ?_; rintro e w' ⟨rfl, rfl⟩))
  have hst : StC w t A m cap g (cp - 1) (curAt ls vs.tail) m (((((((w.alloc (.cells #[.int .i64 t, .slice A m cap] 24)).alloc (.cells #[.slice (some ⟨g, 2, none⟩) m (cp - 1)] 53)).alloc (.cells (madeCells #[.int .i64 0, .int .i64 0] (m * 2)) 65)).alloc (.cells #[.slice (some ⟨w.heap.size + 1 + 1, 0, none⟩) m m] 53)).alloc (.cells #[.int .i64 0, .int .i64 0] 65)).alloc (.cells #[.slice A m cap] 22))) := by
    refine ⟨(((((Blk.newAt _ _ _ (by simp)).alloc _).alloc _).alloc _).alloc _).alloc _, ((((Blk.newAt _ _ _ (by simp)).alloc _).alloc _).alloc _).alloc _, ⟨_, (((Blk.newAt _ _ _ (by simp)).alloc _).alloc _).alloc _, ?_⟩, ((Blk.newAt _ _ _ (by simp)).alloc _).alloc _, ?_, Blk.newAt _ _ _ (by simp), ?_⟩
    · exact ⟨by rw [size_madeCells]; omega, fun p h1 h2 => by omega⟩
    · rw [curAt_end ls vs.tail HLZ.out m (by rw [HM.out]; omega)]
      exact (Blk.newAt _ _ _ (by simp)).alloc _
    · exact (Ext.alloc _ _).trans ((Ext.alloc _ _).trans ((Ext.alloc _ _).trans ((Ext.alloc _ _).trans ((Ext.alloc _ _).trans (Ext.alloc _ _)))))
  generalize hW0 : (((((((w.alloc (.cells #[.int .i64 t, .slice A m cap] 24)).alloc (.cells #[.slice (some ⟨g, 2, none⟩) m (cp - 1)] 53)).alloc (.cells (madeCells #[.int .i64 0, .int .i64 0] (m * 2)) 65)).alloc (.cells #[.slice (some ⟨w.heap.size + 1 + 1, 0, none⟩) m m] 53)).alloc (.cells #[.int .i64 0, .int .i64 0] 65)).alloc (.cells #[.slice A m cap] 22))) = W0 at hst ⊢
  clear hW0
  have hlt0 := hst.bs.lt
  have hlt4 := hst.b4.lt
  have hw0 := hst.below.size
  refine rangeFunc_list (by omega) (gf := 137) (first := #[]) (lb := #[.pointer (some ⟨w.heap.size + 1 + 1 + 1 + 1 + 1, 0, none⟩)]) rfl (enters_of Try.func137 (by kernel_rfl) rfl) (encs := encIx) (full := backE ls) (Kp := KpB w.heap.size (w.heap.size + 1 + 1 + 1 + 1 + 1))
    (backward_iter 4 (by omega) (w.heap.size + 1 + 1 + 1 + 1 + 1) w.heap.size A m cap ls HM.out W0 hst.bs (HS.out.ext hst.below) HA.out hw0) (fun h k => h.t k) (fun X Y _ hb => ⟨hb.mono hw0, hb.block _ hlt0⟩) (fun _ => rfl)
    (fun j W => StC w t A m cap g (cp - 1) (curAt ls vs.tail) (m - j) W) (fun _ _ => False)
    (fun j X Y h hc hb => h.keep hc (hb.mono hw0)) (fun _ _ _ h _ _ => h) hst
    (fun x a' W => ∃ Bx, w.heap.size + 1 + 1 + 1 + 1 + 1 < Bx ∧ Blk W Bx 92 #[.int .i64 x.1.2.g, .int .i64 x.1.2.c, .int .i64 x.1.2.h] ∧ a' =
      { tmps := #[.agg #[.int .i64 t, .slice A m cap], .slice (some ⟨g, 0, none⟩) (m + 1) cp,
        .pointer (some ⟨w.heap.size, 0, none⟩), undef, .slice none 0 0, .pointer (some ⟨w.heap.size + 1, 0, none⟩), .pointer (some ⟨w.heap.size + 1 + 1 + 1, 0, none⟩), .pointer (some ⟨w.heap.size + 1 + 1 + 1 + 1, 0, none⟩),
        .int .i64 (x.1.1 : Int), .pointer (some ⟨Bx, 0, none⟩), .slice (some ⟨g, 0, none⟩) (m + 1) cp, .slice (some ⟨g, 2, none⟩) m (cp - 1), .slice (some ⟨g, 2, none⟩) m (cp - 1), .int .i64 (m : Int), .slice (some ⟨w.heap.size + 1 + 1, 0, none⟩) m m,
        .agg #[.int .i64 0, .int .i64 0], .pointer (some ⟨w.heap.size, 1, none⟩), .slice A m cap, .func (.func 137) #[] #[.pointer (some ⟨w.heap.size + 1 + 1 + 1 + 1 + 1, 0, none⟩)], .int .i64 (x.1.1 : Int), .agg #[.int .i64 x.1.2.g, .int .i64 x.1.2.c, .int .i64 x.1.2.h],
        undef, undef, undef, undef, undef, undef, undef, undef, undef, undef, undef, undef, undef], defers := [] }) (by rintro x a' X Y ⟨Bx, h1', h2', h3'⟩ hc hb; exact ⟨Bx, h1', hc.blk h2', h3'⟩) ?assign ?body ?done ?stop
  case assign =>
    intro l j x W K hxj hsz hI hK'
    have hz := hI.bs.lt
    unfold encIx
    gi_wp2
    exact hK' _ _ (KeepsOthers.alloc _ _) ⟨(Below.refl _ _).alloc hI.below.size _, Below.heap_alloc _ _ _ hz⟩ (hI.ext (Ext.alloc _ _)) ⟨W.heap.size, hz, Blk.new _ _ _, rfl⟩
  case body =>
    rintro lp j ⟨⟨k, s⟩, hx⟩ a' Wb hxj hsz hI ⟨Bx, hBx, bX, rfl⟩
    dsimp only at bX hx ⊢
    have hjk := backE_idx ls j _ hxj
    dsimp only at hjk
    rw [HM.out] at hjk
    rw [show m - j = k + 1 by omega] at hI
    rw [show m - (j + 1) = k by omega]
    clear hxj
    have hkm : (k : Int) < (m : Int) := by omega
    have hkm' : k < m := by omega
    obtain ⟨z, hz⟩ : ∃ z, vs.tail[k]? = some z := ⟨_, List.getElem?_eq_getElem (by rw [HZ.out]; exact hkm')⟩
    have HSTEP := Lib.hid (curAt_step ls vs.tail k s z hx hz)
    have hbc := HBD.out (m - (k + 1)) (k + 1) (by rw [HM.out]; omega)
    have hbz := HBZ.out z (List.mem_of_getElem? hz)
    have hg := (HOK.out s (List.mem_of_getElem? hx)).1
    obtain ⟨b1, o1, e1, _, hcz⟩ := HVT.out.2 k z hz
    obtain ⟨rfl, rfl⟩ : g = b1 ∧ 2 = o1 := by simpa using e1
    have hbel := hI.below
    obtain ⟨za, zb⟩ := z
    have y0 : Wb.cell? ⟨g, 2 + k * 2, none⟩ = some (.int .i64 za) := Ext.cell hbel (hcz 0 _ rfl)
    have y1 : Wb.cell? ⟨g, 2 + k * 2 + 1, none⟩ = some (.int .i64 zb) := Ext.cell hbel (hcz 1 _ rfl)
    obtain ⟨⟨ca, cb⟩, hcab⟩ : ∃ c : G, c = curAt ls vs.tail (k + 1) := ⟨_, rfl⟩
    rw [← hcab] at hbc HSTEP
    have HI := Lib.hid hI
    have hI4 := hI.b4
    rw [← hcab] at hI4
    have hmk : ((m - (k + 1) : Nat) : Int) ≤ 3 := by omega
    simp only [Bd] at hbc hbz
    have hm0 : (0 : Int) ≤ ((m - (k + 1) : Nat) : Int) := by omega
    generalize ((m - (k + 1) : Nat) : Int) = mk at hbc hmk hm0
    have HP := Lib.hid (plus_any ca cb s.g za zb (by unfold Mid; omega) (by unfold Mid; omega) (mid_of (N := 4) (B := 1000000000) (by omega) hg.2 (by omega) (by omega) (by omega)) (mid_of (N := 4) (B := 1000000000) (by omega) hg.2 (by omega) (by omega) (by omega)))
    have HX := Lib.hid bX
    clear hbc hbz hg hcz e1 hz hx hcab hmk hm0 hbel
    gi_wp2
    refine wpIn_region_part (WideIn.inRound lp) (by kernel_rfl) 8 [some 21, some 22, some 23, some 24, some 25, some 26, some 27, some 28] [[7], [9], [22], [5], [8], [24, 25], [26], [21, 23, 27]]
      [Is (.agg #[.int .i64 (ca), .int .i64 (cb)]), Is (.pointer (some ⟨Bx, 0, none⟩)), Is (.int .i64 (s.g)), Is (.slice (some ⟨g, 2, none⟩) m (cp - 1)), Is (.int .i64 ((k : Int))), Is (.pointer (some ⟨g, 2 + k * 2, none⟩)), Is (.agg #[.int .i64 (za), .int .i64 (zb)]), Is (.agg #[.int .i64 (ca + s.g * za), .int .i64 (cb + s.g * zb)])]
      (by kernel_rfl) (by kernel_rfl) (by kernel_rfl) (by kernel_rfl) (by kernel_rfl) (by kernel_rfl) (by kernel_rfl) Ext (fun W => Ext Wb W)
      (fun W _ => Ext.refl W) (fun W W' h k => h.trans k) ?_ (Ext.drew _) ?_ ?_
    · repeat (refine ⟨fun _ _ _ _ k h => (by first | exact h | exact IntsAt.ext h k), ?_⟩)
      exact trivial
    · refine ⟨?_, ?_, ?_, ?_, ?_, ?_, ?_, ?_, trivial⟩
      all_goals intro ρ W ⟨kc, kg, kf⟩ hF hs
      · obtain ⟨h0, -⟩ := hs
        replace h0 : ρ (.tmp 7) = .pointer (some ⟨w.heap.size + 1 + 1 + 1 + 1, 0, none⟩) := h0
        have hc0 : W.cell? ⟨w.heap.size + 1 + 1 + 1 + 1, 0, none⟩ = some (.int .i64 (ca)) := (hI4.ext hF).cell 0
        have hc1 : W.cell? ⟨w.heap.size + 1 + 1 + 1 + 1, 1, none⟩ = some (.int .i64 (cb)) := (hI4.ext hF).cell 1
        go_simp
        exact ⟨Ext.refl _, rfl⟩
      · obtain ⟨h0, -⟩ := hs
        replace h0 : ρ (.tmp 9) = .pointer (some ⟨Bx, 0, none⟩) := h0
        go_simp
        exact ⟨Ext.refl _, rfl⟩
      · obtain ⟨h0, -⟩ := hs
        replace h0 : ρ (.tmp 22) = .pointer (some ⟨Bx, 0, none⟩) := h0
        have hc0 : W.cell? ⟨Bx, 0, none⟩ = some (.int .i64 (s.g)) := (HX.out.ext hF).cell 0
        go_simp
        exact ⟨Ext.refl _, rfl⟩
      · obtain ⟨h0, -⟩ := hs
        replace h0 : ρ (.tmp 5) = .pointer (some ⟨w.heap.size + 1, 0, none⟩) := h0
        have hc0 : W.cell? ⟨w.heap.size + 1, 0, none⟩ = some (.slice (some ⟨g, 2, none⟩) m (cp - 1)) := (HI.out.ext hF).b1.cell 0
        go_simp
        exact ⟨Ext.refl _, rfl⟩
      · obtain ⟨h0, -⟩ := hs
        replace h0 : ρ (.tmp 8) = .int .i64 ((k : Int)) := h0
        go_simp
        exact ⟨Ext.refl _, rfl⟩
      · obtain ⟨h0, h1, -⟩ := hs
        replace h0 : ρ (.tmp 24) = .slice (some ⟨g, 2, none⟩) m (cp - 1) := h0
        replace h1 : ρ (.tmp 25) = .int .i64 ((k : Int)) := h1
        have hkm2 : (k : Int) < (m : Int) := hkm
        go_simp
        exact ⟨Ext.refl _, rfl⟩
      · obtain ⟨h0, -⟩ := hs
        replace h0 : ρ (.tmp 26) = .pointer (some ⟨g, 2 + k * 2, none⟩) := h0
        have hc0 : W.cell? ⟨g, 2 + k * 2, none⟩ = some (.int .i64 (za)) := hF.cell (by assumption)
        have hc1 : W.cell? ⟨g, 2 + k * 2 + 1, none⟩ = some (.int .i64 (zb)) := hF.cell (by assumption)
        go_simp
        exact ⟨Ext.refl _, rfl⟩
      · obtain ⟨h0, h1, h2, -⟩ := hs
        replace h0 : ρ (.tmp 21) = .agg #[.int .i64 (ca), .int .i64 (cb)] := h0
        replace h1 : ρ (.tmp 23) = .int .i64 (s.g) := h1
        replace h2 : ρ (.tmp 27) = .agg #[.int .i64 (za), .int .i64 (zb)] := h2
        go_simp
        refine (HP.out W).mono ?_; rintro e w' ⟨rfl, hx⟩; exact ⟨_, rfl, hx, rfl⟩
    · intro fv W hF hs
      obtain ⟨-, -, -, -, -, -, -, h28, -⟩ := hs
      replace h28 : fv 28 = .agg #[.int .i64 (ca + s.g * za), .int .i64 (cb + s.g * zb)] := h28
      simp only [fin, List.filterMap]
      go_simp
      have hI2 := HI.out.ext hF
      have hb4 := hI4.ext hF
      have d0 := hb4.cell 0
      have d1 := hb4.cell 1
      have g0 := hb4.free 0
      have g1 := hb4.free 1
      simp only [List.getElem?_toArray, List.getElem?_cons_zero, List.getElem?_cons_succ] at d0 d1
      obtain ⟨cu, hc1', hc2'⟩ := hI2.b2
      have q0 : W.cell? ⟨w.heap.size + 1 + 1, k * 2, none⟩ = some (cu[k * 2]'(by have := hc2'.1; omega)) := by rw [hc1'.cell]; exact Array.getElem?_eq_getElem _
      have q1 : W.cell? ⟨w.heap.size + 1 + 1, k * 2 + 1, none⟩ = some (cu[k * 2 + 1]'(by have := hc2'.1; omega)) := by rw [hc1'.cell]; exact Array.getElem?_eq_getElem _
      have g2 := hc1'.free (k * 2)
      have g3 := hc1'.free (k * 2 + 1)
      have r0 : W.cell? ⟨w.heap.size + 1 + 1 + 1, 0, none⟩ = some (.slice (some ⟨w.heap.size + 1 + 1, 0, none⟩) m m) := hI2.b3.cell 0
      generalize (cu[k * 2]'(by have := hc2'.1; omega)) = u0 at q0
      generalize (cu[k * 2 + 1]'(by have := hc2'.1; omega)) = u1 at q1
      have HI2 := Lib.hid (hI2.step hkm' (x := ca + s.g * za) (y := cb + s.g * zb) (by rw [HSTEP.out]; rfl) (by rw [HSTEP.out]; rfl))
      have HK := Lib.hid (keepsOthers_ext hF)
      clear hI2 hb4 hc1' hc2' hF
      gi_wp2
      have hko := HK.out.trans ((KeepsOthers.setCell W ⟨w.heap.size + 1 + 1 + 1 + 1, 0, none⟩ (.int .i64 (ca + s.g * za))).trans ((KeepsOthers.setCell _ ⟨w.heap.size + 1 + 1 + 1 + 1, 1, none⟩ (.int .i64 (cb + s.g * zb))).trans ((KeepsOthers.setCell _ ⟨w.heap.size + 1 + 1, k * 2, none⟩ (.int .i64 (ca + s.g * za))).trans (KeepsOthers.setCell _ ⟨w.heap.size + 1 + 1, k * 2 + 1, none⟩ (.int .i64 (cb + s.g * zb))))))
      exact ⟨hko, ⟨below_of HI.out.below HI2.out.below hko.size, (show Blk _ _ _ _ from HI2.out.bs).trans (show Blk _ _ _ _ from HI.out.bs).symm⟩, HI2.out⟩
  case done =>
    rintro D W hD hI hK
    have hbl : (backE ls).length = m := by rw [backE_length, HM.out]
    rw [hbl, Nat.sub_self] at hI
    have z0 : W.cell? ⟨w.heap.size + 1 + 1 + 1, 0, none⟩ = some (.slice (some ⟨w.heap.size + 1 + 1, 0, none⟩) m m) := hI.b3.cell 0
    have HI := Lib.hid hI
    clear hI
    gi_wp2
    refine ⟨by simp, .inl ⟨_, _, rfl, run_takeDeferred hK, ?_⟩⟩
    have hkc := CellsKept.put (.deferred none) hK rfl
    obtain ⟨cu, h2, h3⟩ := HI.out.b2
    refine ⟨_, results_tmp rfl _ _ _, _, _, cu, rfl, ?_, hkc.blk h2, HI.out.below.trans (belowK_b (w := w) (Nat.le_refl _) W D _ _ (by omega) hK rfl rfl)⟩
    have hlen := curr_len ls vs.tail HLZ.out
    refine ⟨by rw [hlen, HM.out]; omega, fun i x hx => ⟨_, 0, rfl, (hkc.blk h2).lt, fun j u hu => ?_⟩⟩
    have hi : i < m := by have := (List.getElem?_eq_some_iff.1 hx).1; rw [hlen, HM.out] at this; exact this
    obtain ⟨h4', h5⟩ := h3.2 i (Nat.zero_le _) hi
    have hxi : curAt ls vs.tail i = x := by simp [curAt, hx]
    rw [hxi] at h4' h5
    rw [(hkc.blk h2).cell]
    match j, hu with
    | 0, hu => rw [Nat.zero_add, Nat.add_zero, h4']; simpa [G.enc] using hu
    | 1, hu => rw [Nat.zero_add, h5]; simpa [G.enc] using hu
    | j + 2, hu => simp [G.enc] at hu
  case stop =>
    rintro D c W _ h _
    exact h.elim


end Go.Proofs.Ytpaoeghdfeekoaa

/- Copies of voltages; CurrentsOf; the error of voltages. -/
namespace Go.Proofs.Ytpaoeghdfeekoaa
open Go.RowKit Go.Shelf Go.Mem Go.RegInv
attribute [local go_sem] RelUpon_value RelUpon_skip RelUpon_enter BigFrame.eval_const BigFrame.eval_global BigFrame.eval_func

theorem g_len (xs : List G) : (xs.flatMap G.enc).length = xs.length * 2 := flat_len xs
theorem g_at (xs : List G) (i j : Nat) (s : G) (u : Value) (h : xs[i]? = some s) (h' : (G.enc s)[j]? = some u) : (xs.flatMap G.enc)[i * 2 + j]? = some u :=
  flat_get (k := 2) (fun x => by simp [G.enc]) xs i j s u h h'
theorem g_idx (xs : List G) (p : Nat) (u : Value) (h : (xs.flatMap G.enc)[p]? = some u) : ∃ s, xs[p / 2]? = some s ∧ (G.enc s)[p % 2]? = some u := by
  have hp : p < xs.length * 2 := by rw [← g_len]; exact (List.getElem?_eq_some_iff.1 h).1
  have hi : p / 2 < xs.length := by omega
  have hs : xs[p / 2]? = some xs[p / 2] := List.getElem?_eq_getElem hi
  have hj : p % 2 < (G.enc xs[p / 2]).length := by simp [G.enc]; omega
  have := g_at xs (p / 2) (p % 2) _ _ hs (List.getElem?_eq_getElem hj)
  rw [show p / 2 * 2 + p % 2 = p by omega, h] at this
  exact ⟨_, hs, by rw [List.getElem?_eq_getElem hj, this]⟩
theorem g_one (xs : List G) : ∀ u ∈ xs.flatMap G.enc, u.oneCell' = true := by
  intro u hu
  obtain ⟨s, _, h⟩ := List.mem_flatMap.1 hu
  simp only [G.enc, List.mem_cons, List.not_mem_nil, or_false] at h
  rcases h with rfl | rfl <;> rfl
theorem g_own {W : World} {base n c : Nat} {A : Option Addr} {xs : List G} (hl : xs.length = n) (hn : n ≤ 1152921504606846976) (h : W.ownsRow base 65 2 (.slice A n c) n (xs.flatMap G.enc)) :
    RowsAt 2 G.enc W A xs ∧ (1 ≤ n → ∃ g, A = some ⟨g, 0, none⟩ ∧ n ≤ c) := by
  rcases h.2 with ⟨he, _⟩ | ⟨g, cap, cu, he, _, hh, hc, _, hs, ht⟩
  · obtain rfl : n = 0 := by simp at he; omega
    obtain rfl := List.eq_nil_of_length_eq_zero hl
    exact ⟨⟨by simp, by simp⟩, fun h => by omega⟩
  · obtain ⟨rfl, rfl⟩ : A = some ⟨g, 0, none⟩ ∧ c = cap := by simpa using he
    refine ⟨⟨by omega, fun i s hx => ⟨g, 0, rfl, (show Blk W g 65 cu from hh).lt, fun j u hu => ?_⟩⟩, fun _ => ⟨g, rfl, hc⟩⟩
    have hi := (List.getElem?_eq_some_iff.1 hx).1
    have hj : j < 2 := (List.getElem?_eq_some_iff.1 hu).1
    rw [(show Blk W g 65 cu from hh).cell]
    have h2 := g_at xs i j s u hx hu
    rw [← ht, List.getElem?_take, if_pos (by omega), Array.getElem?_toList] at h2
    rw [show 0 + i * 2 + j = i * 2 + j by omega]; exact h2

/-- A copy of voltages. -/
def GcV (zs : List G) : Value → World → Prop := fun u W => ∃ A n c, Hid (zs.length = n) ∧ u = .slice A n c ∧ RowsAt 2 G.enc W A zs ∧ (1 ≤ n → ∃ g, A = some ⟨g, 0, none⟩ ∧ n ≤ c)
theorem GcV.ext {zs : List G} {u : Value} {W W' : World} (h : GcV zs u W) (e : Ext W W') : GcV zs u W' := by
  obtain ⟨A, n, c, h1, h2, h3, h4⟩ := h; exact ⟨A, n, c, h1, h2, h3.ext e, h4⟩

set_option maxHeartbeats 1000000 in
theorem copyGausses_V (A : Option Addr) (n ca : Nat) (xs : List G) (hn : xs.length = n) (w : World) (ha : RowsAt 2 G.enc w A xs) (h6 : n ≤ 8) (hnil : A = none → ca = 0) :
    Calls Try.prog 35 #[.slice A n ca] w (VPost w (GcV xs)) := by
  obtain ⟨i0, hi, hz0, hz1, hz2⟩ := info_parts info65
  have HI0 := Lib.hid hz0
  have hown : Hid ((w.alloc (.cells #[] 65)).ownsRow w.heap.size 65 2 (.slice (some ⟨w.heap.size, 0, none⟩) 0 0) 0 []) :=
    Lib.hid ⟨rfl, .inr ⟨w.heap.size, 0, #[], rfl, Nat.le_refl _, Blk.new w 65 #[], Nat.le_refl _, by decide, rfl, rfl⟩⟩
  cases A with
  | none =>
    obtain rfl : xs = [] := by
      cases xs with
      | nil => rfl
      | cons x l => obtain ⟨b, o, h, _⟩ := ha.2 0 x rfl; cases h
    obtain rfl := hnil rfl
    obtain rfl : n = 0 := by simpa using hn.symm
    clear ha hn hnil
    go_enter Try.func35, Try.ntmps35
    go_wp2_with (at_builtin; refine wpList_append_own_none rfl _ _ 53 rfl w.heap.size 65 i0 2 Try.underlying53 hi _ _ _ rfl hown.out rfl ?_)
    go_ret
    exact ⟨_, rfl, Ext.alloc _ _, _, 0, _, Lib.hid rfl, rfl, ⟨by simp, by simp⟩, fun h => by omega⟩
  | some ad =>
    have hnews : Hid (∀ j u, (xs.flatMap G.enc)[j]? = some u → (w.alloc (.cells #[] 65)).cell? (ad.add j) = some u) := Lib.hid fun j u hu => by
      obtain ⟨s, hs, hj⟩ := g_idx xs j u hu
      obtain ⟨b, o, e, _, hc⟩ := ha.2 _ s hs
      obtain rfl : ad = ⟨b, o, none⟩ := by simpa using e
      have := (Ext.alloc w (.cells #[] 65)).cell (hc _ _ hj)
      rw [WideShapes.add_plain, show o + j = o + j / 2 * 2 + j % 2 by omega]; exact this
    have HL := Lib.hid (show (xs.flatMap G.enc).length = n * 2 by rw [g_len, hn])
    have HN := Lib.hid hn
    have HO := Lib.hid (g_one xs)
    clear ha hn hnil
    go_enter Try.func35, Try.ntmps35
    go_wp2_with (at_builtin; refine wpList_append_own _ rfl _ _ 53 rfl w.heap.size 65 i0 (.agg #[.int .i64 0, .int .i64 0]) 2 16 Try.underlying53 hi HI0.out hz1 hz2 rfl (by decide) _ _ _ rfl hown.out ad n ca (xs.flatMap G.enc) rfl HL.out hnews.out HO.out (by unfold maxLen; omega) (by omega) (by simp) ?_; intro v' w1 hown' hgrow _; have HE1 := Lib.hid (Ext.grownBy (Ext.alloc w _) hgrow (fun g hg => own_base hown.out hg)); obtain ⟨A', c', hv'⟩ := own_slice hown'; rw [Nat.zero_add] at hv'; subst hv'; have HO1 := Lib.hid hown'; clear hown' hgrow)
    go_ret
    have h1 := HO1.out
    rw [Nat.zero_add, List.nil_append] at h1
    obtain ⟨h2, h3⟩ := g_own HN.out (by omega) h1
    exact ⟨_, rfl, HE1.out, A', n, c', HN, rfl, h2, h3⟩

/-- The voltages as voltagesOf has left them. -/
def VsV (m : Nat) (zs : List G) : Value → World → Prop := fun u W => ∃ g c, u = .slice (some ⟨g, 0, none⟩) (m + 1) c ∧ m + 1 ≤ c ∧ RowsAt 2 G.enc W (some ⟨g, 0, none⟩) zs
theorem VsV.ext {m : Nat} {zs : List G} {u : Value} {W W' : World} (h : VsV m zs u W) (e : Ext W W') : VsV m zs u W' := by
  obtain ⟨g, c, h1, h2, h3⟩ := h; exact ⟨g, c, h1, h2, h3.ext e⟩

theorem bd_mono {a b : Int} {z : G} (h : Bd a z) (hab : a ≤ b) : Bd b z := by
  obtain ⟨⟨h1, h2⟩, h3, h4⟩ := h
  exact ⟨⟨by omega, by omega⟩, by omega, by omega⟩

set_option maxRecDepth 100000 in
set_option maxHeartbeats 2000000 in
theorem currentsPub_any (t : Int) (A : Option Addr) (n cap : Nat) (l : List Sh) (hn : l.length = n) (f : Int) (B : Option Addr) (m cap' : Nat) (hot : List Bool) (hm : hot.length = m) (w : World)
    (hS : RowsAt 3 Sh.enc w A l) (hH : RowsAt 1 boolEnc w B hot) :
    Calls Try.prog 33 #[.agg #[.int .i64 t, .slice A n cap], .agg #[.int .i64 f, .slice B m cap']] w (VPost w (TupV (Opt (driveE t l f m) (.slice none 0 0) (GsV (curr l (volts f hot l).tail))) (driveE t l f m))) := by
  have HC := Lib.hid (fun W h => checkDrive_any t A n cap l hn f B m cap' W h)
  have e0 : Ext w ((w.alloc (.cells #[.int .i64 t, .slice A n cap] 24)).alloc (.cells #[.int .i64 f, .slice B m cap'] 27)) := (Ext.alloc _ _).trans (Ext.alloc _ _)
  have FA := Lib.hid (show ∀ W : World, Ext ((w.alloc (.cells #[.int .i64 t, .slice A n cap] 24)).alloc (.cells #[.int .i64 f, .slice B m cap'] 27)) W →
      W.cell? ⟨w.heap.size, 0, none⟩ = some (.int .i64 t) ∧ W.cell? ⟨w.heap.size, 1, none⟩ = some (.slice A n cap) ∧ W.cell? ⟨w.heap.size + 1, 0, none⟩ = some (.int .i64 f) ∧ W.cell? ⟨w.heap.size + 1, 1, none⟩ = some (.slice B m cap') from
    fun W hx => ⟨hx.cell (by go_simp), hx.cell (by go_simp), hx.cell (by go_simp), hx.cell (by go_simp)⟩)
  have HS := Lib.hid hS
  have E0 := Lib.hid e0
  by_cases hq : driveE t l f m = 0
  · obtain ⟨⟨_, ⟨h1, h4⟩, hok⟩, hf, hml⟩ := (driveE_zero t l f m).1 hq
    obtain rfl : n = m := by rw [hml, hn]
    rw [hn] at h1 h4
    have HV := Lib.hid (fun W (e : Ext w W) => show Calls Try.prog 89 #[.agg #[.int .i64 t, .slice A n cap], .agg #[.int .i64 f, .slice B n cap']] W (VPost W (VsV n (volts f hot l))) from
      (callsIn_wide.1 (voltagesOf_in t A n cap l hn f B cap' hot hm W (hS.ext e) (hH.ext e) hok hf h1 h4)).mono fun e w' ⟨g, c, h1, h2, h3, h4, h5, _⟩ => ⟨_, h1, h3, g, c, rfl, h5, h2⟩)
    have hvl := volts_len f hot l
    have hvb := volts_small (hot := hot) hok hf (by omega)
    have HCU := Lib.hid (fun W u (e : Ext w W) (h : VsV n (volts f hot l) u W) => show Calls Try.prog 90 #[.agg #[.int .i64 t, .slice A n cap], u] W (VPost W (GsV (curr l (volts f hot l).tail))) from by
      obtain ⟨g, c, rfl, hc, hr⟩ := h
      refine (callsIn_wide.1 (currentsOf_in9 t A n cap l hn g c (volts f hot l) (by rw [hvl, hn]) W (hS.ext e) hr hc hok (fun z hz => by
        obtain ⟨i, hi⟩ := List.mem_iff_getElem?.1 hz
        exact bd_mono (hvb (i + 1) z (by simpa using hi)) (by decide)) h1 h4)).mono ?_
      rintro e' w' ⟨g', c', cu, h1, h2, _, h4⟩
      have hcl : (curr l (volts f hot l).tail).length = n := by rw [curr_len l _ (by simp [hvl]), hn]
      exact ⟨_, h1, h4, _, c', by rw [hcl], h2⟩)
    have HQ := Lib.hid hq
    rw [hq] at HC
    clear hok hf hml hvl hvb hn hm hS hH e0
    generalize volts f hot l = vs at *
    have HQ0 := Lib.hid (show driveE t l f n = 0 from hq)
    rw [hq]
    clear hq
    go_enter Try.func33, Try.ntmps33
    go_wp2_with (go_at_call 20; refine (HC.out _ (HS.out.ext E0.out)).mono ?_; rintro e W1 ⟨rfl, hx1⟩; obtain ⟨z0, z1, z2, z3⟩ := FA.out _ hx1; have X1 := Lib.hid (E0.out.trans hx1); clear hx1)
    refine wp_region_each [some 13, some 14, some 15, some 16, some 17, some 4, some 5] [[2], [2], [3], [14, 15], [13, 16], [17], []]
      [Is (.agg #[.int .i64 (t), .slice A n cap]), Is (.agg #[.int .i64 (t), .slice A n cap]), Is (.agg #[.int .i64 (f), .slice B n cap']), VsV n vs, GsV (curr l vs.tail), GsV (curr l vs.tail), Is (.int .i64 (0))]
      (by kernel_rfl) (by kernel_rfl) (by kernel_rfl) (by kernel_rfl) (by kernel_rfl) Ext (fun W => Ext W1 W)
      (fun W _ => Ext.refl W) (fun W W' h k => h.trans k) ?_ (Ext.drew _) ?_ ?_
    · repeat (refine ⟨fun _ _ _ _ k h => (by first | exact h | exact (by first | exact VsV.ext h k | exact GsV.ext h k)), ?_⟩)
      exact trivial
    · refine ⟨?_, ?_, ?_, ?_, ?_, ?_, ?_, trivial⟩
      all_goals intro ρ W ⟨kc, kg, kf⟩ hF hs
      · obtain ⟨h0, -⟩ := hs
        replace h0 : ρ (.tmp 2) = .pointer (some ⟨w.heap.size, 0, none⟩) := h0
        have hc0 : W.cell? ⟨w.heap.size, 0, none⟩ = some (.int .i64 (t)) := hF.cell (by assumption)
        have hc1 : W.cell? ⟨w.heap.size, 1, none⟩ = some (.slice A n cap) := hF.cell (by assumption)
        go_simp
        exact ⟨Ext.refl _, rfl⟩
      · obtain ⟨h0, -⟩ := hs
        replace h0 : ρ (.tmp 2) = .pointer (some ⟨w.heap.size, 0, none⟩) := h0
        have hc0 : W.cell? ⟨w.heap.size, 0, none⟩ = some (.int .i64 (t)) := hF.cell (by assumption)
        have hc1 : W.cell? ⟨w.heap.size, 1, none⟩ = some (.slice A n cap) := hF.cell (by assumption)
        go_simp
        exact ⟨Ext.refl _, rfl⟩
      · obtain ⟨h0, -⟩ := hs
        replace h0 : ρ (.tmp 3) = .pointer (some ⟨w.heap.size + 1, 0, none⟩) := h0
        have hc0 : W.cell? ⟨w.heap.size + 1, 0, none⟩ = some (.int .i64 (f)) := hF.cell (by assumption)
        have hc1 : W.cell? ⟨w.heap.size + 1, 1, none⟩ = some (.slice B n cap') := hF.cell (by assumption)
        go_simp
        exact ⟨Ext.refl _, rfl⟩
      · obtain ⟨h0, h1, -⟩ := hs
        replace h0 : ρ (.tmp 14) = .agg #[.int .i64 (t), .slice A n cap] := h0
        replace h1 : ρ (.tmp 15) = .agg #[.int .i64 (f), .slice B n cap'] := h1
        go_simp
        exact HV.out W (X1.out.trans hF)
      · obtain ⟨h0, h1, -⟩ := hs
        replace h0 : ρ (.tmp 13) = .agg #[.int .i64 (t), .slice A n cap] := h0
        replace h1 : (VsV n vs) (ρ (.tmp 16)) W := h1
        go_simp
        exact HCU.out W _ (X1.out.trans hF) h1
      · obtain ⟨h0, -⟩ := hs
        replace h0 : (GsV (curr l vs.tail)) (ρ (.tmp 17)) W := h0
        go_simp
        first | exact ⟨Ext.refl _, h0⟩ | exact Ext.refl _
      · go_simp
        exact ⟨Ext.refl _, rfl⟩
    · intro fv W2 hF hs
      obtain ⟨-, -, -, -, -, h4', h5, -⟩ := hs
      replace h4' : (GsV (curr l vs.tail)) (fv 4) W2 := h4'
      replace h5 : fv 5 = .int .i64 (0) := h5
      simp only [fin, List.filterMap]
      go_simp
      have HG := Lib.hid h4'
      have X2 := Lib.hid (X1.out.trans hF)
      clear h4' hF z0 z1 z2 z3
      go_wp2
      go_ret2
      exact ⟨_, rfl, X2.out, _, rfl, fun h => absurd rfl h, fun _ => HG.out⟩
  · have HQ := Lib.hid hq
    have hq' : (driveE t l f m != 0) = true := by simp [hq]
    clear hq hn hm hS hH e0
    generalize driveE t l f m = q at *
    go_enter Try.func33, Try.ntmps33
    go_wp2_with (go_at_call 20; refine (HC.out _ (HS.out.ext E0.out)).mono ?_; rintro e w' ⟨rfl, hx⟩)
    go_ret2
    exact ⟨_, rfl, E0.out.trans hx, _, rfl, fun _ => rfl, fun h => absurd h HQ.out⟩

/-- A voltage with a part that is too large. -/
def outG (z : G) : Bool := outB (-1000000000) 1000000000 z.re || outB (-1000000000) 1000000000 z.im
/-- The error of voltages. -/
def volE (n : Nat) (zs : List G) : Int := if zs.length ≠ n + 1 then 10 else if zs.any outG = true then 2 else if zs.getD n ⟨0, 0⟩ ≠ ⟨1, 0⟩ then 3 else 0

theorem outG_range (z : G) : rangeE (-1000000000) 1000000000 [z.re, z.im] = if outG z = true then 2 else 0 := by
  simp [rangeE, errIf, outG]

set_option maxRecDepth 100000 in
set_option maxHeartbeats 2000000 in
theorem voltagesError_any (t : Int) (A : Option Addr) (n cap : Nat) (C : Option Addr) (M cz : Nat) (zs : List G) (hM : zs.length = M) (hn8 : n ≤ 8) (w : World) (hZ : RowsAt 2 G.enc w C zs) :
    Calls Try.prog 91 #[.agg #[.int .i64 t, .slice A n cap], .slice C M cz] w fun e w' => e = .returned (.int .i64 (volE n zs)) ∧ Ext w w' := by
  have e0 := Ext.alloc w (.cells #[.int .i64 t, .slice A n cap] 24)
  have E0 := Lib.hid e0
  have hMb : M ≤ 1152921504606846976 := by have := hZ.1; omega
  have HZ := Lib.hid hZ
  have HM := Lib.hid hM
  have HV := Lib.hid (show volE n zs = if zs.length ≠ n + 1 then 10 else if zs.any outG = true then 2 else if zs.getD n ⟨0, 0⟩ ≠ ⟨1, 0⟩ then 3 else 0 from rfl)
  clear hZ e0
  by_cases h1 : M = n + 1
  · subst h1
    have HV1 := Lib.hid (show volE n zs = if zs.any outG = true then 2 else if zs.getD n ⟨0, 0⟩ ≠ ⟨1, 0⟩ then 3 else 0 by rw [HV.out, if_neg (by simp [hM])])
    clear hM HV
    generalize volE n zs = r at *
    go_enter Try.func91, Try.ntmps91
    go_wp2
    generalize hW0 : w.alloc (.cells #[.int .i64 t, .slice A n cap] 24) = W0 at *
    clear hW0
    go_loopw [17] (fun i wr => ∃ k : Nat, k ≤ n + 1 ∧ i = .int .i64 k ∧ (∀ z ∈ zs.take k, outG z = false) ∧ Ext W0 wr) (fun i _ => n + 1 - (intOf i).toNat)
    case atStart => exact ⟨0, Nat.zero_le _, rfl, by simp, Ext.refl _⟩
    case round =>
      obtain ⟨k, hk, rfl, hr, hx⟩ := hrel
      have HR := Lib.hid hr
      have HX := Lib.hid hx
      clear hr hx
      by_cases hlt : k < n + 1
      · obtain ⟨z, hz⟩ : ∃ z, zs[k]? = some z := ⟨_, List.getElem?_eq_getElem (by rw [HM.out]; exact hlt)⟩
        obtain ⟨b, o, hC, _, hc⟩ := HZ.out.2 k z hz
        subst hC
        have hc1 : wr.cell? ⟨b, o + k * 2, none⟩ = some (.int .i64 z.re) := (E0.out.trans HX.out).cell (by have := hc 0 _ rfl; simpa using this)
        have hc2 : wr.cell? ⟨b, o + k * 2 + 1, none⟩ = some (.int .i64 z.im) := (E0.out.trans HX.out).cell (hc 1 _ rfl)
        have HO := Lib.hid (outG_range z)
        have HZK := Lib.hid hz
        have hki : (k : Int) < (n : Int) + 1 := by omega
        clear hz hc
        cases hb : outG z
        · have HB := Lib.hid hb
          rw [hb] at HO
          clear hb
          have HO0 := Lib.hid (show rangeE (-1000000000) 1000000000 [z.re, z.im] = 0 by rw [HO.out]; rfl)
          generalize hzr : z.re = zr at *
          generalize hzi : z.im = zi at *
          clear hzr hzi
          go_wp2_with (go_at_call 84; refine (rangeError_any (-1000000000) 1000000000 _ [zr, zi] _ (ints_two (Blk.newAt _ 3 #[.int .i64 zr, .int .i64 zi] (by simp)))).mono ?_; rintro e W2 ⟨rfl, hx2⟩; rw [HO0.out]; have HX2 := Lib.hid hx2; clear hx2)
          go_roundw
          case rel => exact ⟨k + 1, by omega, by go_num, by
            intro y hy
            rw [List.take_add_one, HZK.out] at hy
            rcases List.mem_append.1 hy with h | h
            · exact HR.out y h
            · simp at h; rw [h]; exact HB.out, HX.out.trans (((Ext.alloc _ _).trans (Ext.alloc _ _)).trans HX2.out)⟩
          case measure => simp [intOf]; omega
        · have HA := Lib.hid (show zs.any outG = true from List.any_eq_true.2 ⟨z, List.mem_of_getElem? HZK.out, hb⟩)
          rw [hb] at HO
          clear hb
          have HO0 := Lib.hid (show rangeE (-1000000000) 1000000000 [z.re, z.im] = 2 by rw [HO.out]; rfl)
          generalize hzr : z.re = zr at *
          generalize hzi : z.im = zi at *
          clear hzr hzi
          go_wp2_with (go_at_call 84; refine (rangeError_any (-1000000000) 1000000000 _ [zr, zi] _ (ints_two (Blk.newAt _ 3 #[.int .i64 zr, .int .i64 zi] (by simp)))).mono ?_; rintro e W2 ⟨rfl, hx2⟩; rw [HO0.out]; have HX2 := Lib.hid hx2; clear hx2)
          go_ret
          exact ⟨ret_int (by rw [HV1.out, if_pos HA.out]), E0.out.trans (HX.out.trans (((Ext.alloc _ _).trans (Ext.alloc _ _)).trans HX2.out))⟩
      · have HNA := Lib.hid (show zs.any outG = false by
          rw [List.any_eq_false]; intro y hy
          rw [HR.out y (by rw [List.take_of_length_le (by rw [HM.out]; omega)]; exact hy)]; decide)
        obtain ⟨z, hz⟩ : ∃ z, zs[n]? = some z := ⟨_, List.getElem?_eq_getElem (by rw [HM.out]; omega)⟩
        obtain ⟨b, o, hC, _, hc⟩ := HZ.out.2 n z hz
        subst hC
        have hc1 : wr.cell? ⟨b, o + n * 2, none⟩ = some (.int .i64 z.re) := (E0.out.trans HX.out).cell (by have := hc 0 _ rfl; simpa using this)
        have hc2 : wr.cell? ⟨b, o + n * 2 + 1, none⟩ = some (.int .i64 z.im) := (E0.out.trans HX.out).cell (hc 1 _ rfl)
        have HZN := Lib.hid (show zs.getD n ⟨0, 0⟩ = z by rw [List.getD, hz]; rfl)
        have hni : (n : Int) < (n : Int) + 1 := by omega
        clear hz hc
        obtain ⟨zr, zi⟩ := z
        by_cases hzz : zr = 1 ∧ zi = 0
        · have HR2 := Lib.hid (show r = 0 by rw [HV1.out, HNA.out, if_neg (by simp), HZN.out, if_neg (by simp [hzz.1, hzz.2])])
          obtain ⟨rfl, rfl⟩ := hzz
          go_wp2_with (go_at_call 85; refine (errorIf_any _ _ _).mono ?_; rintro e w' ⟨rfl, rfl⟩)
          go_ret
          exact ⟨ret_int (by rw [HR2.out]; rfl), E0.out.trans HX.out⟩
        · have HR2 := Lib.hid (show r = 3 by rw [HV1.out, HNA.out, if_neg (by simp), HZN.out, if_pos (by simp; exact fun h => fun h' => hzz ⟨h, h'⟩)])
          by_cases h1 : zr = 1
          · subst h1
            have hxy' : (zi == 0) = false := by rw [beq_eq_false_iff_ne]; exact fun h => hzz ⟨rfl, h⟩
            clear hzz
            go_wp2_with (go_at_call 85; refine (errorIf_any _ _ _).mono ?_; rintro e w' ⟨rfl, rfl⟩)
            go_ret
            exact ⟨ret_int (by rw [HR2.out]; rfl), E0.out.trans HX.out⟩
          · have hxy' : (zr == 1) = false := by rw [beq_eq_false_iff_ne]; exact h1
            clear hzz
            go_wp2_with (go_at_call 85; refine (errorIf_any _ _ _).mono ?_; rintro e w' ⟨rfl, rfl⟩)
            go_ret
            exact ⟨ret_int (by rw [HR2.out]; rfl), E0.out.trans HX.out⟩
  · have HR := Lib.hid (show volE n zs = 10 by rw [HV.out, if_pos (by rw [hM]; exact h1)])
    have hb : ((M : Int) != ((n : Int) + 1)) = true := by simp; omega
    clear hM h1 HV
    generalize volE n zs = r at *
    go_enter Try.func91, Try.ntmps91
    go_wp2
    go_ret
    exact ⟨ret_int HR.out.symm, E0.out⟩

end Go.Proofs.Ytpaoeghdfeekoaa

/- CheckVoltages. By lawgen.py. -/
namespace Go.Proofs.Ytpaoeghdfeekoaa
open Go.RowKit Go.Shelf Go.Mem Go.RegInv
attribute [local go_sem] RelUpon_value RelUpon_skip RelUpon_enter BigFrame.eval_const BigFrame.eval_global BigFrame.eval_func

def zat (zs : List G) (k : Nat) : G := zs.getD k ⟨0, 0⟩
/-- The voltage that the equation asks at k. -/
def wantG (f : Int) (hot : List Bool) (ls : List Sh) (zs : List G) (k : Nat) : G := befG (zat zs (k + 1)) (react f (hot.getD k false) (ls.getD k ⟨0, 0, 0⟩)) (curAt ls zs.tail k)
def chkFrom (f : Int) (hot : List Bool) (ls : List Sh) (zs : List G) : Nat → Nat → Int × Int
  | 0, _ => (0, 0)
  | j + 1, k => if zat zs k ≠ wantG f hot ls zs k then ((k : Int), 19) else chkFrom f hot ls zs j (k + 1)
theorem chk_snd (f : Int) (hot : List Bool) (ls : List Sh) (zs : List G) : ∀ j k, (chkFrom f hot ls zs j k).2 = 0 ↔ ∀ i, k ≤ i → i < k + j → zat zs i = wantG f hot ls zs i
  | 0, k => by simp [chkFrom]; intro i h1 h2; omega
  | j + 1, k => by
    rw [chkFrom]
    by_cases h : zat zs k = wantG f hot ls zs k
    · rw [if_neg (by simp [h]), chk_snd f hot ls zs j (k + 1)]
      constructor
      · intro h' i h1 h2
        rcases Nat.eq_or_lt_of_le h1 with rfl | h3
        · exact h
        · exact h' i h3 (by omega)
      · intro h' i h1 h2
        exact h' i (by omega) (by omega)
    · rw [if_pos h]
      constructor
      · intro h'; simp at h'
      · intro h'; exact absurd (h' k (Nat.le_refl _) (by omega)) h
theorem chk_zero (f : Int) (hot : List Bool) (ls : List Sh) (zs : List G) : ∀ j k, (chkFrom f hot ls zs j k).2 = 0 → chkFrom f hot ls zs j k = (0, 0)
  | 0, k, _ => rfl
  | j + 1, k, h => by
    rw [chkFrom] at h ⊢
    by_cases h' : zat zs k = wantG f hot ls zs k
    · rw [if_neg (by simp [h'])] at h ⊢
      exact chk_zero f hot ls zs j (k + 1) h
    · rw [if_pos h'] at h; simp at h

theorem sol_unique (f : Int) (hot : List Bool) (ls : List Sh) (zs : List G) (hl : zs.length = ls.length + 1) (hend : zat zs ls.length = ⟨1, 0⟩) (h : ∀ i, i < ls.length → zat zs i = wantG f hot ls zs i) :
    ∀ j k, j + k = ls.length → zat zs k = (st f hot ls k).last ∧ curAt ls zs.tail k = (st f hot ls k).cur
  | 0, k, hk => by
    obtain rfl : k = ls.length := by omega
    rw [st_end]
    exact ⟨hend, curAt_end ls _ (by simp [hl]) _ (Nat.le_refl _)⟩
  | j + 1, k, hk => by
    obtain ⟨h1, h2⟩ := sol_unique f hot ls zs hl hend h j (k + 1) (by omega)
    have hs : ls[k]? = some (ls[k]'(by omega)) := List.getElem?_eq_getElem (by omega)
    have hz : zs.tail[k]? = some (st f hot ls (k + 1)).last := by
      rw [List.getElem?_tail, ← h1]
      simp [zat, List.getElem?_eq_getElem (show k + 1 < zs.length by omega)]
    have hc : curAt ls zs.tail k = (st f hot ls k).cur := by
      rw [curAt_step ls _ k _ _ hs hz, h2, st_step hs]; rfl
    refine ⟨?_, hc⟩
    rw [h k (by omega), wantG, hc, h1, st_step hs]
    simp [vstep, List.getD, hs]

theorem chk_volts (f : Int) (hot : List Bool) (ls : List Sh) (zs : List G) (hl : zs.length = ls.length + 1) (hend : zat zs ls.length = ⟨1, 0⟩) : (chkFrom f hot ls zs ls.length 0).2 = 0 ↔ zs = volts f hot ls := by
  rw [chk_snd]
  constructor
  · intro h
    have hu := sol_unique f hot ls zs hl hend (fun i hi => h i (Nat.zero_le _) (by omega))
    refine List.ext_getElem? fun i => ?_
    by_cases hi : i ≤ ls.length
    · rw [volts_at f hot ls i hi, ← (hu (ls.length - i) i (by omega)).1]
      simp [zat, List.getElem?_eq_getElem (show i < zs.length by omega)]
    · rw [List.getElem?_eq_none (by omega), List.getElem?_eq_none (by rw [volts_len]; omega)]
  · rintro rfl i _ hi
    have hi' : i < ls.length := by omega
    have hs : ls[i]? = some (ls[i]'hi') := List.getElem?_eq_getElem hi'
    have e1 : zat (volts f hot ls) i = (st f hot ls i).last := volt_at f hot ls i (by omega)
    have e2 : zat (volts f hot ls) (i + 1) = (st f hot ls (i + 1)).last := volt_at f hot ls (i + 1) (by omega)
    rw [wantG, e1, e2, cur_at f hot ls (ls.length - i) i (by omega), st_step hs]
    simp [vstep, List.getD, hs]

theorem volE_zero (n : Nat) (zs : List G) : volE n zs = 0 ↔ zs.length = n + 1 ∧ (∀ z ∈ zs, outG z = false) ∧ zat zs n = ⟨1, 0⟩ := by
  unfold volE
  by_cases h1 : zs.length = n + 1
  · rw [if_neg (by simp [h1])]
    by_cases h2 : zs.any outG = true
    · rw [if_pos h2]
      obtain ⟨z, hz, hz'⟩ := List.any_eq_true.1 h2
      constructor
      · intro h; simp at h
      · rintro ⟨_, h, _⟩; rw [h z hz] at hz'; cases hz'
    · rw [if_neg h2]
      have h2' : ∀ z ∈ zs, outG z = false := fun z hz => by
        have := h2
        rw [Bool.not_eq_true, List.any_eq_false] at this
        simpa using this z hz
      by_cases h3 : zs.getD n ⟨0, 0⟩ = ⟨1, 0⟩
      · rw [if_neg (fun hh => hh h3)]
        exact ⟨fun _ => ⟨h1, h2', h3⟩, fun _ => rfl⟩
      · rw [if_pos h3]
        constructor
        · intro h; simp at h
        · rintro ⟨_, _, h⟩; exact absurd h h3
  · rw [if_pos h1]
    constructor
    · intro h; simp at h
    · rintro ⟨h, _⟩; exact absurd h h1

/-- The answer of CheckVoltages for a valid ladder and drive. -/
def chkV (f : Int) (hot : List Bool) (ls : List Sh) (zs : List G) : Int × Int := if volE ls.length zs ≠ 0 then (0, volE ls.length zs) else chkFrom f hot ls zs ls.length 0
def chkA (t f : Int) (hot : List Bool) (ls : List Sh) (zs : List G) : Int × Int := if driveE t ls f hot.length ≠ 0 then (0, driveE t ls f hot.length) else chkV f hot ls zs

theorem outG_bd {z : G} (h : outG z = false) : Bd 1000000000 z := by
  simp only [outG, outB, Bool.or_eq_false_iff, decide_eq_false_iff_not] at h
  exact ⟨⟨by omega, by omega⟩, by omega, by omega⟩

set_option maxRecDepth 100000 in
set_option maxHeartbeats 4000000 in
theorem checkVoltages_any (t : Int) (A : Option Addr) (n cap : Nat) (l : List Sh) (hn : l.length = n) (f : Int) (B : Option Addr) (m cap' : Nat) (hot : List Bool) (hm : hot.length = m)
    (C : Option Addr) (M cz : Nat) (zs : List G) (hM : zs.length = M) (hC : 1 ≤ M → ∃ g, C = some ⟨g, 0, none⟩ ∧ M ≤ cz) (w : World)
    (hS : RowsAt 3 Sh.enc w A l) (hH : RowsAt 1 boolEnc w B hot) (hZ : RowsAt 2 G.enc w C zs) :
    Calls Try.prog 34 #[.agg #[.int .i64 t, .slice A n cap], .agg #[.int .i64 f, .slice B m cap'], .slice C M cz] w fun e w' =>
      e = .returned (.tuple #[.int .i64 (chkA t f hot l zs).1, .int .i64 (chkA t f hot l zs).2]) ∧ Ext w w' := by
  have HC := Lib.hid (fun W h => checkDrive_any t A n cap l hn f B m cap' W h)
  have e0 : Ext w ((w.alloc (.cells #[.int .i64 t, .slice A n cap] 24)).alloc (.cells #[.int .i64 f, .slice B m cap'] 27)) := (Ext.alloc _ _).trans (Ext.alloc _ _)
  have FA := Lib.hid (show ∀ W : World, Ext ((w.alloc (.cells #[.int .i64 t, .slice A n cap] 24)).alloc (.cells #[.int .i64 f, .slice B m cap'] 27)) W →
      W.cell? ⟨w.heap.size, 0, none⟩ = some (.int .i64 t) ∧ W.cell? ⟨w.heap.size, 1, none⟩ = some (.slice A n cap) ∧ W.cell? ⟨w.heap.size + 1, 0, none⟩ = some (.int .i64 f) ∧ W.cell? ⟨w.heap.size + 1, 1, none⟩ = some (.slice B m cap') from
    fun W hx => ⟨hx.cell (by go_simp), hx.cell (by go_simp), hx.cell (by go_simp), hx.cell (by go_simp)⟩)
  have HS := Lib.hid hS
  have HH := Lib.hid hH
  have HZ := Lib.hid hZ
  have HN := Lib.hid hn
  have HM := Lib.hid hM
  have HMM := Lib.hid hm
  have E0 := Lib.hid e0
  have HA := Lib.hid (show chkA t f hot l zs = if driveE t l f m ≠ 0 then (0, driveE t l f m) else chkV f hot l zs by unfold chkA; rw [hm])
  generalize chkA t f hot l zs = r at *
  by_cases hq : driveE t l f m = 0
  · obtain ⟨⟨_, ⟨h1, h4⟩, hok⟩, hf, hml⟩ := (driveE_zero t l f m).1 hq
    obtain rfl : n = m := by rw [hml, hn]
    rw [hn] at h1 h4
    have HA1 := Lib.hid (show r = if volE n zs ≠ 0 then (0, volE n zs) else chkFrom f hot l zs n 0 by rw [HA.out, if_neg (by simp [hq]), chkV, hn])
    have HVE := Lib.hid (fun W (e : Ext w W) => voltagesError_any t A n cap C M cz zs hM (by omega) W (hZ.ext e))
    rw [hq] at HC
    by_cases hv : volE n zs = 0
    · obtain ⟨hl, hob, hend⟩ := (volE_zero n zs).1 hv
      obtain rfl : M = n + 1 := by omega
      obtain ⟨gz, rfl, hcz⟩ := hC (by omega)
      have hbz : ∀ z ∈ zs.tail, Bd 1000000000 z := fun z hz => outG_bd (hob z (List.mem_of_mem_tail hz))
      have HCU := Lib.hid (fun W (e : Ext w W) => callsIn_wide.1 (currentsOf_in9 t A n cap l hn gz cz zs hl W (hS.ext e) (hZ.ext e) hcz hok hbz h1 h4))
      have HR1 := Lib.hid (show r = chkFrom f hot l zs n 0 by rw [HA1.out, if_neg (by simp [hv])])
      have HCL := Lib.hid (show (curr l zs.tail).length = n by rw [curr_len l _ (by simp [hl, hn]), hn])
      have HCB := Lib.hid (fun k (hk : k < n) => (curAt_bd9 (ls := l) (zs := zs.tail) (by simp [hl, hn]) hok hbz (n - k) k (by omega)))
      have HRE := Lib.hid (fun (k : Nat) (s : Sh) (b : Bool) (W : World) (hs : l[k]? = some s) (hb : hot[k]? = some b) (e : Ext w W) => show Calls Try.prog 88 #[.agg #[.int .i64 t, .slice A n cap], .agg #[.int .i64 f, .slice B n cap'], .int .i64 k] W (VPost W (Is (.int .i64 (react f b s)))) from
        (reactanceOf_any t A n cap l hn f B n cap' hot k s b W (hS.ext e) (hH.ext e) hs hb hm (mid_react hf (hok s (List.mem_of_getElem? hs))).1 (mid_react hf (hok s (List.mem_of_getElem? hs))).2).mono fun _ _ ⟨h1, h2⟩ => ⟨_, h1, h2, rfl⟩)
      have HRB := Lib.hid (fun (b : Bool) (s : Sh) (hs : s ∈ l) => react_bd (h := b) hf (hok s hs))
      have HOB := Lib.hid hob
      rw [hv] at HVE
      clear hok hf hml hv hl hob hend hbz hC hq hn hm hM hS hH hZ e0 HA HA1
      go_enter Try.func34, Try.ntmps34
      go_wp2_with (first
        | (go_at_call 20; refine (HC.out _ (HS.out.ext E0.out)).mono ?_; rintro e W1 ⟨rfl, hx1⟩; obtain ⟨z0, z1, z2, z3⟩ := FA.out _ hx1; have X1 := Lib.hid hx1; clear hx1)
        | (go_at_call 91; refine (HVE.out _ (E0.out.trans X1.out)).mono ?_; rintro e W2 ⟨rfl, hx1⟩; have X2 := Lib.hid (X1.out.trans hx1); clear hx1 z0 z1 z2 z3; obtain ⟨z0, z1, z2, z3⟩ := FA.out _ X2.out)
        | (go_at_call 90; refine (HCU.out _ (E0.out.trans X2.out)).mono ?_; rintro e W3 ⟨g', c', cu, rfl, hcr, _, hx1⟩; have X3 := Lib.hid (X2.out.trans hx1); have HCR := Lib.hid hcr; clear hx1 z0 z1 z2 z3 hcr))
      go_loopw [28] (fun i wr => ∃ k : Nat, k ≤ n ∧ i = .int .i64 k ∧ chkFrom f hot l zs n 0 = chkFrom f hot l zs (n - k) k ∧ Ext W3 wr) (fun i _ => n - (intOf i).toNat)
      case atStart => exact ⟨0, Nat.zero_le _, rfl, rfl, Ext.refl _⟩
      case round =>
        obtain ⟨k, hk, rfl, hr, hx⟩ := hrel
        have HR0 := Lib.hid hr
        have HX := Lib.hid (X3.out.trans hx)
        have HX3 := Lib.hid hx
        clear hr hx
        by_cases hlt : k < n
        · obtain ⟨s, hs⟩ : ∃ s, l[k]? = some s := ⟨_, List.getElem?_eq_getElem (by rw [HN.out]; exact hlt)⟩
          obtain ⟨b, hb⟩ : ∃ b, hot[k]? = some b := ⟨_, List.getElem?_eq_getElem (by rw [HMM.out]; exact hlt)⟩
          obtain ⟨⟨ar, ai⟩, hza⟩ : ∃ z, zs[k]? = some z := ⟨_, List.getElem?_eq_getElem (by rw [HM.out]; omega)⟩
          obtain ⟨⟨br, bi⟩, hzb⟩ : ∃ z, zs[k + 1]? = some z := ⟨_, List.getElem?_eq_getElem (by rw [HM.out]; omega)⟩
          obtain ⟨⟨cr, ci⟩, hcc⟩ : ∃ z, (curr l zs.tail)[k]? = some z := ⟨_, List.getElem?_eq_getElem (by rw [HCL.out]; exact hlt)⟩
          obtain ⟨g1, o1, hg1, _, hc1⟩ := HZ.out.2 k _ hza
          obtain ⟨g2, o2, hg2, _, hc2⟩ := HZ.out.2 (k + 1) _ hzb
          obtain ⟨g3, o3, hg3, _, hc3⟩ := HCR.out.2 k _ hcc
          obtain ⟨rfl, rfl⟩ : gz = g1 ∧ 0 = o1 := by simpa using hg1
          obtain ⟨rfl, rfl⟩ : gz = g2 ∧ 0 = o2 := by simpa using hg2
          obtain ⟨rfl, rfl⟩ : g' = g3 ∧ 0 = o3 := by simpa using hg3
          have v1 : wr.cell? ⟨gz, k * 2, none⟩ = some (.int .i64 ar) := (E0.out.trans HX.out).cell (by have := hc1 0 _ rfl; simpa using this)
          have v2 : wr.cell? ⟨gz, k * 2 + 1, none⟩ = some (.int .i64 ai) := (E0.out.trans HX.out).cell (by have := hc1 1 _ rfl; simpa using this)
          have v3 : wr.cell? ⟨gz, (k + 1) * 2, none⟩ = some (.int .i64 br) := (E0.out.trans HX.out).cell (by have := hc2 0 _ rfl; simpa using this)
          have v4 : wr.cell? ⟨gz, (k + 1) * 2 + 1, none⟩ = some (.int .i64 bi) := (E0.out.trans HX.out).cell (by have := hc2 1 _ rfl; simpa using this)
          have v5 : wr.cell? ⟨g', k * 2, none⟩ = some (.int .i64 cr) := HX3.out.cell (by have := hc3 0 _ rfl; simpa using this)
          have v6 : wr.cell? ⟨g', k * 2 + 1, none⟩ = some (.int .i64 ci) := HX3.out.cell (by have := hc3 1 _ rfl; simpa using this)
          have hbb := outG_bd (HOB.out _ (List.mem_of_getElem? hzb))
          have hcb := HCB.out k hlt
          have hca : curAt l zs.tail k = ⟨cr, ci⟩ := by simp [curAt, hcc]
          rw [hca] at hcb
          obtain ⟨x, hx⟩ : ∃ x, x = react f b s := ⟨_, rfl⟩
          have hxb := HRB.out b s (List.mem_of_getElem? hs)
          have HR := Lib.hid (fun W e => HRE.out k s b W hs hb e)
          rw [← hx] at hxb HR
          obtain ⟨⟨e1, e2⟩, he⟩ : ∃ z, z = befG ⟨br, bi⟩ x ⟨cr, ci⟩ := ⟨_, rfl⟩
          have HB := Lib.hid (fun W => show Calls Try.prog 92 #[.agg #[.int .i64 br, .int .i64 bi], .int .i64 x, .agg #[.int .i64 cr, .int .i64 ci]] W (VPost W (Is (.agg #[.int .i64 e1, .int .i64 e2]))) from by
            have hb1 : ((n - k : Nat) : Int) * 4000000000 ≤ 16000000000 := by omega
            simp only [Bd] at hbb hcb
            have m1 := mul_bd (n := x) (x := cr) (N := 32) (B := 16000000000) (by omega) hxb.2 (by omega) (by omega)
            have m2 := mul_bd (n := x) (x := -ci) (N := 32) (B := 16000000000) (by omega) hxb.2 (by omega) (by omega)
            refine (before_any br bi x cr ci (by unfold Mid; omega) (by unfold Mid; omega) (by unfold Mid; omega) (by unfold Mid; omega) (by unfold Mid; omega) W).mono fun _ _ ⟨h1, h2⟩ => ⟨_, h1, h2, ?_⟩
            show _ = _
            simp only [befG, G.mk.injEq] at he
            rw [he.1, he.2])
          have HWA := Lib.hid (show zat zs k = ⟨ar, ai⟩ by simp [zat, hza])
          have HWB := Lib.hid (show wantG f hot l zs k = ⟨e1, e2⟩ by rw [he, hx, wantG, hca]; simp [zat, hzb, List.getD, hb, hs])
          have HST := Lib.hid (show chkFrom f hot l zs (n - k) k = if zat zs k ≠ wantG f hot l zs k then ((k : Int), 19) else chkFrom f hot l zs (n - (k + 1)) (k + 1) by
            rw [show n - k = n - (k + 1) + 1 by omega]; rfl)
          have hkn : (k : Int) < (n : Int) := by omega
          have hkb : (k : Int) ≤ 4 := by omega
          clear hs hb hza hzb hcc hg1 hg2 hg3 hc1 hc2 hc3 hbb hcb hca hx hxb he
          obtain ⟨z0, z1, z2, z3⟩ := FA.out _ HX.out
          go_wp2
          have w1 := (Ext.alloc wr (.cells #[.int .i64 cr, .int .i64 ci] 65)).cell v1
          have w2 := (Ext.alloc wr (.cells #[.int .i64 cr, .int .i64 ci] 65)).cell v2
          have w3 := (Ext.alloc wr (.cells #[.int .i64 cr, .int .i64 ci] 65)).cell v3
          have w4 := (Ext.alloc wr (.cells #[.int .i64 cr, .int .i64 ci] 65)).cell v4
          have y0 := (Ext.alloc wr (.cells #[.int .i64 cr, .int .i64 ci] 65)).cell z0
          have y1 := (Ext.alloc wr (.cells #[.int .i64 cr, .int .i64 ci] 65)).cell z1
          have y2 := (Ext.alloc wr (.cells #[.int .i64 cr, .int .i64 ci] 65)).cell z2
          have y3 := (Ext.alloc wr (.cells #[.int .i64 cr, .int .i64 ci] 65)).cell z3
          have w5 : (wr.alloc (.cells #[.int .i64 cr, .int .i64 ci] 65)).cell? ⟨wr.heap.size, 0, none⟩ = some (.int .i64 cr) := (Blk.new _ _ _).cell 0
          have w6 : (wr.alloc (.cells #[.int .i64 cr, .int .i64 ci] 65)).cell? ⟨wr.heap.size, 1, none⟩ = some (.int .i64 ci) := (Blk.new _ _ _).cell 1
          have EX := Lib.hid (HX3.out.trans (Ext.alloc wr (.cells #[.int .i64 cr, .int .i64 ci] 65)))
          have E9 := Lib.hid (E0.out.trans (HX.out.trans (Ext.alloc wr (.cells #[.int .i64 cr, .int .i64 ci] 65))))
          generalize wr.alloc (.cells #[.int .i64 cr, .int .i64 ci] 65) = W9 at *
          generalize wr.heap.size = q11 at *
          clear v1 v2 v3 v4 v5 v6 z0 z1 z2 z3
          by_cases hre : ar = e1
          · by_cases him : ai = e2
            · subst hre him
              refine wp_region_each [some 33, some 34, some 35, some 36, some 37, some 38, some 39, some 40, some 41, some 42, some 43, some 44, some 45, some 46, some 47, some 48] [[2], [10], [33, 34], [35], [2], [10], [38], [37, 39], [40], [3], [4], [10], [42, 43, 44], [11], [41, 45, 46], [36, 47]]
                [Is (.slice (some ⟨gz, 0, none⟩) (n + 1) cz), Is (.int .i64 (k)), Is (.pointer (some ⟨gz, k * 2, none⟩)), Is (.agg #[.int .i64 (ar), .int .i64 (ai)]), Is (.slice (some ⟨gz, 0, none⟩) (n + 1) cz), Is (.int .i64 (k)), Is (.int .i64 ((k : Int) + 1)), Is (.pointer (some ⟨gz, (k + 1) * 2, none⟩)), Is (.agg #[.int .i64 (br), .int .i64 (bi)]), Is (.agg #[.int .i64 (t), .slice A n cap]), Is (.agg #[.int .i64 (f), .slice B n cap']), Is (.int .i64 (k)), Is (.int .i64 (x)), Is (.agg #[.int .i64 (cr), .int .i64 (ci)]), Is (.agg #[.int .i64 (ar), .int .i64 (ai)]), Is (.bool (false))]
                (by kernel_rfl) (by kernel_rfl) (by kernel_rfl) (by kernel_rfl) (by kernel_rfl) Ext (fun W => Ext W9 W)
                (fun W _ => Ext.refl W) (fun W W' h k => h.trans k) ?_ (Ext.drew _) ?_ ?_
              · repeat (refine ⟨fun _ _ _ _ k h => (by first | exact h | exact (by first | exact LadV.ext h k | exact DrvV.ext h k | exact TupV.ext (fun _ _ _ h k => by first | exact Opt.ext (fun _ _ _ h k => by first | exact IntsAt.ext h k | exact GsV.ext h k) h k | exact IntsAt.ext h k) h k | exact Opt.ext (fun _ _ _ h k => by first | exact IntsAt.ext h k | exact GsV.ext h k) h k | exact IntsAt.ext h k)), ?_⟩)
                exact trivial
              · refine ⟨?_, ?_, ?_, ?_, ?_, ?_, ?_, ?_, ?_, ?_, ?_, ?_, ?_, ?_, ?_, ?_, trivial⟩
                all_goals intro ρ W ⟨kc, kg, kf⟩ hF hs
                · obtain ⟨h0, -⟩ := hs
                  replace h0 : ρ (.tmp 2) = .slice (some ⟨gz, 0, none⟩) (n + 1) cz := h0
                  go_simp
                  exact ⟨Ext.refl _, rfl⟩
                · obtain ⟨h0, -⟩ := hs
                  replace h0 : ρ (.tmp 10) = .int .i64 (k) := h0
                  go_simp
                  exact ⟨Ext.refl _, rfl⟩
                · obtain ⟨h0, h1, -⟩ := hs
                  replace h0 : ρ (.tmp 33) = .slice (some ⟨gz, 0, none⟩) (n + 1) cz := h0
                  replace h1 : ρ (.tmp 34) = .int .i64 (k) := h1
                  have hki : (k : Int) < (n : Int) + 1 := by omega
                  go_simp
                  exact ⟨Ext.refl _, rfl⟩
                · obtain ⟨h0, -⟩ := hs
                  replace h0 : ρ (.tmp 35) = .pointer (some ⟨gz, k * 2, none⟩) := h0
                  have hc0 : W.cell? ⟨gz, k * 2, none⟩ = some (.int .i64 (ar)) := hF.cell (by assumption)
                  have hc1 : W.cell? ⟨gz, k * 2 + 1, none⟩ = some (.int .i64 (ai)) := hF.cell (by assumption)
                  go_simp
                  exact ⟨Ext.refl _, rfl⟩
                · obtain ⟨h0, -⟩ := hs
                  replace h0 : ρ (.tmp 2) = .slice (some ⟨gz, 0, none⟩) (n + 1) cz := h0
                  go_simp
                  exact ⟨Ext.refl _, rfl⟩
                · obtain ⟨h0, -⟩ := hs
                  replace h0 : ρ (.tmp 10) = .int .i64 (k) := h0
                  go_simp
                  exact ⟨Ext.refl _, rfl⟩
                · obtain ⟨h0, -⟩ := hs
                  replace h0 : ρ (.tmp 38) = .int .i64 (k) := h0
                  have hw : IntKind.i64.wrap ((k : Int) + 1) = (k : Int) + 1 := IntWalk.i64_in _ (by omega)
                  go_simp
                  exact ⟨Ext.refl _, rfl⟩
                · obtain ⟨h0, h1, -⟩ := hs
                  replace h0 : ρ (.tmp 37) = .slice (some ⟨gz, 0, none⟩) (n + 1) cz := h0
                  replace h1 : ρ (.tmp 39) = .int .i64 ((k : Int) + 1) := h1
                  have hki : (k : Int) + 1 < (n : Int) + 1 := by omega
                  have hkt : ((k : Int) + 1).toNat = k + 1 := by omega
                  have hk0 : (0 : Int) ≤ (k : Int) + 1 := by omega
                  go_simp
                  exact ⟨Ext.refl _, rfl⟩
                · obtain ⟨h0, -⟩ := hs
                  replace h0 : ρ (.tmp 40) = .pointer (some ⟨gz, (k + 1) * 2, none⟩) := h0
                  have hc0 : W.cell? ⟨gz, (k + 1) * 2, none⟩ = some (.int .i64 (br)) := hF.cell (by assumption)
                  have hc1 : W.cell? ⟨gz, (k + 1) * 2 + 1, none⟩ = some (.int .i64 (bi)) := hF.cell (by assumption)
                  go_simp
                  exact ⟨Ext.refl _, rfl⟩
                · obtain ⟨h0, -⟩ := hs
                  replace h0 : ρ (.tmp 3) = .pointer (some ⟨w.heap.size, 0, none⟩) := h0
                  have hc0 : W.cell? ⟨w.heap.size, 0, none⟩ = some (.int .i64 (t)) := hF.cell (by assumption)
                  have hc1 : W.cell? ⟨w.heap.size, 1, none⟩ = some (.slice A n cap) := hF.cell (by assumption)
                  go_simp
                  exact ⟨Ext.refl _, rfl⟩
                · obtain ⟨h0, -⟩ := hs
                  replace h0 : ρ (.tmp 4) = .pointer (some ⟨w.heap.size + 1, 0, none⟩) := h0
                  have hc0 : W.cell? ⟨w.heap.size + 1, 0, none⟩ = some (.int .i64 (f)) := hF.cell (by assumption)
                  have hc1 : W.cell? ⟨w.heap.size + 1, 1, none⟩ = some (.slice B n cap') := hF.cell (by assumption)
                  go_simp
                  exact ⟨Ext.refl _, rfl⟩
                · obtain ⟨h0, -⟩ := hs
                  replace h0 : ρ (.tmp 10) = .int .i64 (k) := h0
                  go_simp
                  exact ⟨Ext.refl _, rfl⟩
                · obtain ⟨h0, h1, h2, -⟩ := hs
                  replace h0 : ρ (.tmp 42) = .agg #[.int .i64 (t), .slice A n cap] := h0
                  replace h1 : ρ (.tmp 43) = .agg #[.int .i64 (f), .slice B n cap'] := h1
                  replace h2 : ρ (.tmp 44) = .int .i64 (k) := h2
                  go_simp
                  exact HR.out W (E9.out.trans hF)
                · obtain ⟨h0, -⟩ := hs
                  replace h0 : ρ (.tmp 11) = .pointer (some ⟨q11, 0, none⟩) := h0
                  have hc0 : W.cell? ⟨q11, 0, none⟩ = some (.int .i64 (cr)) := hF.cell (by assumption)
                  have hc1 : W.cell? ⟨q11, 1, none⟩ = some (.int .i64 (ci)) := hF.cell (by assumption)
                  go_simp
                  exact ⟨Ext.refl _, rfl⟩
                · obtain ⟨h0, h1, h2, -⟩ := hs
                  replace h0 : ρ (.tmp 41) = .agg #[.int .i64 (br), .int .i64 (bi)] := h0
                  replace h1 : ρ (.tmp 45) = .int .i64 (x) := h1
                  replace h2 : ρ (.tmp 46) = .agg #[.int .i64 (cr), .int .i64 (ci)] := h2
                  go_simp
                  exact HB.out W
                · obtain ⟨h0, h1, -⟩ := hs
                  replace h0 : ρ (.tmp 36) = .agg #[.int .i64 (ar), .int .i64 (ai)] := h0
                  replace h1 : ρ (.tmp 47) = .agg #[.int .i64 (ar), .int .i64 (ai)] := h1
                  go_simp
                  first | exact ⟨Ext.refl _, rfl⟩ | exact Ext.refl _
              · intro fv W10 hF hs
                obtain ⟨-, -, -, -, -, -, -, -, -, -, -, -, -, -, -, h48, -⟩ := hs
                replace h48 : fv 48 = .bool (false) := h48
                simp only [fin, List.filterMap]
                go_simp
                have HF := Lib.hid hF
                clear hF w1 w2 w3 w4 w5 w6 y0 y1 y2 y3
                go_wp2
                go_roundw
                case rel => exact ⟨k + 1, by omega, by go_num, by rw [HR0.out, HST.out, if_neg (by rw [HWA.out, HWB.out]; simp)], EX.out.trans HF.out⟩
                case measure => simp [intOf]; omega
            · subst hre
              have hxy' : (ai == e2) = false := by rw [beq_eq_false_iff_ne]; exact him
              have HNE := Lib.hid him
              clear him
              refine wp_region_each [some 33, some 34, some 35, some 36, some 37, some 38, some 39, some 40, some 41, some 42, some 43, some 44, some 45, some 46, some 47, some 48] [[2], [10], [33, 34], [35], [2], [10], [38], [37, 39], [40], [3], [4], [10], [42, 43, 44], [11], [41, 45, 46], [36, 47]]
                [Is (.slice (some ⟨gz, 0, none⟩) (n + 1) cz), Is (.int .i64 (k)), Is (.pointer (some ⟨gz, k * 2, none⟩)), Is (.agg #[.int .i64 (ar), .int .i64 (ai)]), Is (.slice (some ⟨gz, 0, none⟩) (n + 1) cz), Is (.int .i64 (k)), Is (.int .i64 ((k : Int) + 1)), Is (.pointer (some ⟨gz, (k + 1) * 2, none⟩)), Is (.agg #[.int .i64 (br), .int .i64 (bi)]), Is (.agg #[.int .i64 (t), .slice A n cap]), Is (.agg #[.int .i64 (f), .slice B n cap']), Is (.int .i64 (k)), Is (.int .i64 (x)), Is (.agg #[.int .i64 (cr), .int .i64 (ci)]), Is (.agg #[.int .i64 (ar), .int .i64 (e2)]), Is (.bool (true))]
                (by kernel_rfl) (by kernel_rfl) (by kernel_rfl) (by kernel_rfl) (by kernel_rfl) Ext (fun W => Ext W9 W)
                (fun W _ => Ext.refl W) (fun W W' h k => h.trans k) ?_ (Ext.drew _) ?_ ?_
              · repeat (refine ⟨fun _ _ _ _ k h => (by first | exact h | exact (by first | exact LadV.ext h k | exact DrvV.ext h k | exact TupV.ext (fun _ _ _ h k => by first | exact Opt.ext (fun _ _ _ h k => by first | exact IntsAt.ext h k | exact GsV.ext h k) h k | exact IntsAt.ext h k) h k | exact Opt.ext (fun _ _ _ h k => by first | exact IntsAt.ext h k | exact GsV.ext h k) h k | exact IntsAt.ext h k)), ?_⟩)
                exact trivial
              · refine ⟨?_, ?_, ?_, ?_, ?_, ?_, ?_, ?_, ?_, ?_, ?_, ?_, ?_, ?_, ?_, ?_, trivial⟩
                all_goals intro ρ W ⟨kc, kg, kf⟩ hF hs
                · obtain ⟨h0, -⟩ := hs
                  replace h0 : ρ (.tmp 2) = .slice (some ⟨gz, 0, none⟩) (n + 1) cz := h0
                  go_simp
                  exact ⟨Ext.refl _, rfl⟩
                · obtain ⟨h0, -⟩ := hs
                  replace h0 : ρ (.tmp 10) = .int .i64 (k) := h0
                  go_simp
                  exact ⟨Ext.refl _, rfl⟩
                · obtain ⟨h0, h1, -⟩ := hs
                  replace h0 : ρ (.tmp 33) = .slice (some ⟨gz, 0, none⟩) (n + 1) cz := h0
                  replace h1 : ρ (.tmp 34) = .int .i64 (k) := h1
                  have hki : (k : Int) < (n : Int) + 1 := by omega
                  go_simp
                  exact ⟨Ext.refl _, rfl⟩
                · obtain ⟨h0, -⟩ := hs
                  replace h0 : ρ (.tmp 35) = .pointer (some ⟨gz, k * 2, none⟩) := h0
                  have hc0 : W.cell? ⟨gz, k * 2, none⟩ = some (.int .i64 (ar)) := hF.cell (by assumption)
                  have hc1 : W.cell? ⟨gz, k * 2 + 1, none⟩ = some (.int .i64 (ai)) := hF.cell (by assumption)
                  go_simp
                  exact ⟨Ext.refl _, rfl⟩
                · obtain ⟨h0, -⟩ := hs
                  replace h0 : ρ (.tmp 2) = .slice (some ⟨gz, 0, none⟩) (n + 1) cz := h0
                  go_simp
                  exact ⟨Ext.refl _, rfl⟩
                · obtain ⟨h0, -⟩ := hs
                  replace h0 : ρ (.tmp 10) = .int .i64 (k) := h0
                  go_simp
                  exact ⟨Ext.refl _, rfl⟩
                · obtain ⟨h0, -⟩ := hs
                  replace h0 : ρ (.tmp 38) = .int .i64 (k) := h0
                  have hw : IntKind.i64.wrap ((k : Int) + 1) = (k : Int) + 1 := IntWalk.i64_in _ (by omega)
                  go_simp
                  exact ⟨Ext.refl _, rfl⟩
                · obtain ⟨h0, h1, -⟩ := hs
                  replace h0 : ρ (.tmp 37) = .slice (some ⟨gz, 0, none⟩) (n + 1) cz := h0
                  replace h1 : ρ (.tmp 39) = .int .i64 ((k : Int) + 1) := h1
                  have hki : (k : Int) + 1 < (n : Int) + 1 := by omega
                  have hkt : ((k : Int) + 1).toNat = k + 1 := by omega
                  have hk0 : (0 : Int) ≤ (k : Int) + 1 := by omega
                  go_simp
                  exact ⟨Ext.refl _, rfl⟩
                · obtain ⟨h0, -⟩ := hs
                  replace h0 : ρ (.tmp 40) = .pointer (some ⟨gz, (k + 1) * 2, none⟩) := h0
                  have hc0 : W.cell? ⟨gz, (k + 1) * 2, none⟩ = some (.int .i64 (br)) := hF.cell (by assumption)
                  have hc1 : W.cell? ⟨gz, (k + 1) * 2 + 1, none⟩ = some (.int .i64 (bi)) := hF.cell (by assumption)
                  go_simp
                  exact ⟨Ext.refl _, rfl⟩
                · obtain ⟨h0, -⟩ := hs
                  replace h0 : ρ (.tmp 3) = .pointer (some ⟨w.heap.size, 0, none⟩) := h0
                  have hc0 : W.cell? ⟨w.heap.size, 0, none⟩ = some (.int .i64 (t)) := hF.cell (by assumption)
                  have hc1 : W.cell? ⟨w.heap.size, 1, none⟩ = some (.slice A n cap) := hF.cell (by assumption)
                  go_simp
                  exact ⟨Ext.refl _, rfl⟩
                · obtain ⟨h0, -⟩ := hs
                  replace h0 : ρ (.tmp 4) = .pointer (some ⟨w.heap.size + 1, 0, none⟩) := h0
                  have hc0 : W.cell? ⟨w.heap.size + 1, 0, none⟩ = some (.int .i64 (f)) := hF.cell (by assumption)
                  have hc1 : W.cell? ⟨w.heap.size + 1, 1, none⟩ = some (.slice B n cap') := hF.cell (by assumption)
                  go_simp
                  exact ⟨Ext.refl _, rfl⟩
                · obtain ⟨h0, -⟩ := hs
                  replace h0 : ρ (.tmp 10) = .int .i64 (k) := h0
                  go_simp
                  exact ⟨Ext.refl _, rfl⟩
                · obtain ⟨h0, h1, h2, -⟩ := hs
                  replace h0 : ρ (.tmp 42) = .agg #[.int .i64 (t), .slice A n cap] := h0
                  replace h1 : ρ (.tmp 43) = .agg #[.int .i64 (f), .slice B n cap'] := h1
                  replace h2 : ρ (.tmp 44) = .int .i64 (k) := h2
                  go_simp
                  exact HR.out W (E9.out.trans hF)
                · obtain ⟨h0, -⟩ := hs
                  replace h0 : ρ (.tmp 11) = .pointer (some ⟨q11, 0, none⟩) := h0
                  have hc0 : W.cell? ⟨q11, 0, none⟩ = some (.int .i64 (cr)) := hF.cell (by assumption)
                  have hc1 : W.cell? ⟨q11, 1, none⟩ = some (.int .i64 (ci)) := hF.cell (by assumption)
                  go_simp
                  exact ⟨Ext.refl _, rfl⟩
                · obtain ⟨h0, h1, h2, -⟩ := hs
                  replace h0 : ρ (.tmp 41) = .agg #[.int .i64 (br), .int .i64 (bi)] := h0
                  replace h1 : ρ (.tmp 45) = .int .i64 (x) := h1
                  replace h2 : ρ (.tmp 46) = .agg #[.int .i64 (cr), .int .i64 (ci)] := h2
                  go_simp
                  exact HB.out W
                · obtain ⟨h0, h1, -⟩ := hs
                  replace h0 : ρ (.tmp 36) = .agg #[.int .i64 (ar), .int .i64 (ai)] := h0
                  replace h1 : ρ (.tmp 47) = .agg #[.int .i64 (ar), .int .i64 (e2)] := h1
                  go_simp
                  first | exact ⟨Ext.refl _, rfl⟩ | exact Ext.refl _
              · intro fv W10 hF hs
                obtain ⟨-, -, -, -, -, -, -, -, -, -, -, -, -, -, -, h48, -⟩ := hs
                replace h48 : fv 48 = .bool (true) := h48
                simp only [fin, List.filterMap]
                go_simp
                have HF := Lib.hid hF
                clear hF w1 w2 w3 w4 w5 w6 y0 y1 y2 y3
                go_wp2
                go_ret2
                exact ⟨ret_pair (by rw [HR1.out, HR0.out, HST.out, if_pos (by rw [HWA.out, HWB.out]; simp [HNE.out])]) (by rw [HR1.out, HR0.out, HST.out, if_pos (by rw [HWA.out, HWB.out]; simp [HNE.out])]), E0.out.trans (X3.out.trans (EX.out.trans HF.out))⟩
          · have hxy' : (ar == e1) = false := by rw [beq_eq_false_iff_ne]; exact hre
            have HNE := Lib.hid hre
            clear hre
            refine wp_region_each [some 33, some 34, some 35, some 36, some 37, some 38, some 39, some 40, some 41, some 42, some 43, some 44, some 45, some 46, some 47, some 48] [[2], [10], [33, 34], [35], [2], [10], [38], [37, 39], [40], [3], [4], [10], [42, 43, 44], [11], [41, 45, 46], [36, 47]]
              [Is (.slice (some ⟨gz, 0, none⟩) (n + 1) cz), Is (.int .i64 (k)), Is (.pointer (some ⟨gz, k * 2, none⟩)), Is (.agg #[.int .i64 (ar), .int .i64 (ai)]), Is (.slice (some ⟨gz, 0, none⟩) (n + 1) cz), Is (.int .i64 (k)), Is (.int .i64 ((k : Int) + 1)), Is (.pointer (some ⟨gz, (k + 1) * 2, none⟩)), Is (.agg #[.int .i64 (br), .int .i64 (bi)]), Is (.agg #[.int .i64 (t), .slice A n cap]), Is (.agg #[.int .i64 (f), .slice B n cap']), Is (.int .i64 (k)), Is (.int .i64 (x)), Is (.agg #[.int .i64 (cr), .int .i64 (ci)]), Is (.agg #[.int .i64 (e1), .int .i64 (e2)]), Is (.bool (true))]
              (by kernel_rfl) (by kernel_rfl) (by kernel_rfl) (by kernel_rfl) (by kernel_rfl) Ext (fun W => Ext W9 W)
              (fun W _ => Ext.refl W) (fun W W' h k => h.trans k) ?_ (Ext.drew _) ?_ ?_
            · repeat (refine ⟨fun _ _ _ _ k h => (by first | exact h | exact (by first | exact LadV.ext h k | exact DrvV.ext h k | exact TupV.ext (fun _ _ _ h k => by first | exact Opt.ext (fun _ _ _ h k => by first | exact IntsAt.ext h k | exact GsV.ext h k) h k | exact IntsAt.ext h k) h k | exact Opt.ext (fun _ _ _ h k => by first | exact IntsAt.ext h k | exact GsV.ext h k) h k | exact IntsAt.ext h k)), ?_⟩)
              exact trivial
            · refine ⟨?_, ?_, ?_, ?_, ?_, ?_, ?_, ?_, ?_, ?_, ?_, ?_, ?_, ?_, ?_, ?_, trivial⟩
              all_goals intro ρ W ⟨kc, kg, kf⟩ hF hs
              · obtain ⟨h0, -⟩ := hs
                replace h0 : ρ (.tmp 2) = .slice (some ⟨gz, 0, none⟩) (n + 1) cz := h0
                go_simp
                exact ⟨Ext.refl _, rfl⟩
              · obtain ⟨h0, -⟩ := hs
                replace h0 : ρ (.tmp 10) = .int .i64 (k) := h0
                go_simp
                exact ⟨Ext.refl _, rfl⟩
              · obtain ⟨h0, h1, -⟩ := hs
                replace h0 : ρ (.tmp 33) = .slice (some ⟨gz, 0, none⟩) (n + 1) cz := h0
                replace h1 : ρ (.tmp 34) = .int .i64 (k) := h1
                have hki : (k : Int) < (n : Int) + 1 := by omega
                go_simp
                exact ⟨Ext.refl _, rfl⟩
              · obtain ⟨h0, -⟩ := hs
                replace h0 : ρ (.tmp 35) = .pointer (some ⟨gz, k * 2, none⟩) := h0
                have hc0 : W.cell? ⟨gz, k * 2, none⟩ = some (.int .i64 (ar)) := hF.cell (by assumption)
                have hc1 : W.cell? ⟨gz, k * 2 + 1, none⟩ = some (.int .i64 (ai)) := hF.cell (by assumption)
                go_simp
                exact ⟨Ext.refl _, rfl⟩
              · obtain ⟨h0, -⟩ := hs
                replace h0 : ρ (.tmp 2) = .slice (some ⟨gz, 0, none⟩) (n + 1) cz := h0
                go_simp
                exact ⟨Ext.refl _, rfl⟩
              · obtain ⟨h0, -⟩ := hs
                replace h0 : ρ (.tmp 10) = .int .i64 (k) := h0
                go_simp
                exact ⟨Ext.refl _, rfl⟩
              · obtain ⟨h0, -⟩ := hs
                replace h0 : ρ (.tmp 38) = .int .i64 (k) := h0
                have hw : IntKind.i64.wrap ((k : Int) + 1) = (k : Int) + 1 := IntWalk.i64_in _ (by omega)
                go_simp
                exact ⟨Ext.refl _, rfl⟩
              · obtain ⟨h0, h1, -⟩ := hs
                replace h0 : ρ (.tmp 37) = .slice (some ⟨gz, 0, none⟩) (n + 1) cz := h0
                replace h1 : ρ (.tmp 39) = .int .i64 ((k : Int) + 1) := h1
                have hki : (k : Int) + 1 < (n : Int) + 1 := by omega
                have hkt : ((k : Int) + 1).toNat = k + 1 := by omega
                have hk0 : (0 : Int) ≤ (k : Int) + 1 := by omega
                go_simp
                exact ⟨Ext.refl _, rfl⟩
              · obtain ⟨h0, -⟩ := hs
                replace h0 : ρ (.tmp 40) = .pointer (some ⟨gz, (k + 1) * 2, none⟩) := h0
                have hc0 : W.cell? ⟨gz, (k + 1) * 2, none⟩ = some (.int .i64 (br)) := hF.cell (by assumption)
                have hc1 : W.cell? ⟨gz, (k + 1) * 2 + 1, none⟩ = some (.int .i64 (bi)) := hF.cell (by assumption)
                go_simp
                exact ⟨Ext.refl _, rfl⟩
              · obtain ⟨h0, -⟩ := hs
                replace h0 : ρ (.tmp 3) = .pointer (some ⟨w.heap.size, 0, none⟩) := h0
                have hc0 : W.cell? ⟨w.heap.size, 0, none⟩ = some (.int .i64 (t)) := hF.cell (by assumption)
                have hc1 : W.cell? ⟨w.heap.size, 1, none⟩ = some (.slice A n cap) := hF.cell (by assumption)
                go_simp
                exact ⟨Ext.refl _, rfl⟩
              · obtain ⟨h0, -⟩ := hs
                replace h0 : ρ (.tmp 4) = .pointer (some ⟨w.heap.size + 1, 0, none⟩) := h0
                have hc0 : W.cell? ⟨w.heap.size + 1, 0, none⟩ = some (.int .i64 (f)) := hF.cell (by assumption)
                have hc1 : W.cell? ⟨w.heap.size + 1, 1, none⟩ = some (.slice B n cap') := hF.cell (by assumption)
                go_simp
                exact ⟨Ext.refl _, rfl⟩
              · obtain ⟨h0, -⟩ := hs
                replace h0 : ρ (.tmp 10) = .int .i64 (k) := h0
                go_simp
                exact ⟨Ext.refl _, rfl⟩
              · obtain ⟨h0, h1, h2, -⟩ := hs
                replace h0 : ρ (.tmp 42) = .agg #[.int .i64 (t), .slice A n cap] := h0
                replace h1 : ρ (.tmp 43) = .agg #[.int .i64 (f), .slice B n cap'] := h1
                replace h2 : ρ (.tmp 44) = .int .i64 (k) := h2
                go_simp
                exact HR.out W (E9.out.trans hF)
              · obtain ⟨h0, -⟩ := hs
                replace h0 : ρ (.tmp 11) = .pointer (some ⟨q11, 0, none⟩) := h0
                have hc0 : W.cell? ⟨q11, 0, none⟩ = some (.int .i64 (cr)) := hF.cell (by assumption)
                have hc1 : W.cell? ⟨q11, 1, none⟩ = some (.int .i64 (ci)) := hF.cell (by assumption)
                go_simp
                exact ⟨Ext.refl _, rfl⟩
              · obtain ⟨h0, h1, h2, -⟩ := hs
                replace h0 : ρ (.tmp 41) = .agg #[.int .i64 (br), .int .i64 (bi)] := h0
                replace h1 : ρ (.tmp 45) = .int .i64 (x) := h1
                replace h2 : ρ (.tmp 46) = .agg #[.int .i64 (cr), .int .i64 (ci)] := h2
                go_simp
                exact HB.out W
              · obtain ⟨h0, h1, -⟩ := hs
                replace h0 : ρ (.tmp 36) = .agg #[.int .i64 (ar), .int .i64 (ai)] := h0
                replace h1 : ρ (.tmp 47) = .agg #[.int .i64 (e1), .int .i64 (e2)] := h1
                go_simp
                first | exact ⟨Ext.refl _, rfl⟩ | exact Ext.refl _
            · intro fv W10 hF hs
              obtain ⟨-, -, -, -, -, -, -, -, -, -, -, -, -, -, -, h48, -⟩ := hs
              replace h48 : fv 48 = .bool (true) := h48
              simp only [fin, List.filterMap]
              go_simp
              have HF := Lib.hid hF
              clear hF w1 w2 w3 w4 w5 w6 y0 y1 y2 y3
              go_wp2
              go_ret2
              exact ⟨ret_pair (by rw [HR1.out, HR0.out, HST.out, if_pos (by rw [HWA.out, HWB.out]; simp [HNE.out])]) (by rw [HR1.out, HR0.out, HST.out, if_pos (by rw [HWA.out, HWB.out]; simp [HNE.out])]), E0.out.trans (X3.out.trans (EX.out.trans HF.out))⟩
        · have HEND := Lib.hid (show chkFrom f hot l zs (n - k) k = (0, 0) by rw [show n - k = 0 by omega]; rfl)
          go_wp2
          go_ret2
          exact ⟨ret_pair (by rw [HR1.out, HR0.out, HEND.out]) (by rw [HR1.out, HR0.out, HEND.out]), E0.out.trans HX.out⟩
    · have HR1 := Lib.hid (show r = (0, volE n zs) by rw [HA1.out, if_pos hv])
      have hv' : (volE n zs != 0) = true := by simp [hv]
      clear hok hf hml hv hC hq hn hm hM hS hH hZ e0 HA HA1
      generalize volE n zs = v at *
      go_enter Try.func34, Try.ntmps34
      go_wp2_with (first
        | (go_at_call 20; refine (HC.out _ (HS.out.ext E0.out)).mono ?_; rintro e W1 ⟨rfl, hx1⟩; obtain ⟨z0, z1, z2, z3⟩ := FA.out _ hx1; have X1 := Lib.hid hx1; clear hx1)
        | (go_at_call 91; refine (HVE.out _ (E0.out.trans X1.out)).mono ?_; rintro e W2 ⟨rfl, hx1⟩; have X2 := Lib.hid (X1.out.trans hx1); clear hx1 z0 z1 z2 z3))
      go_ret2
      exact ⟨ret_pair (by rw [HR1.out]) (by rw [HR1.out]), E0.out.trans X2.out⟩
  · have HR1 := Lib.hid (show r = (0, driveE t l f m) by rw [HA.out, if_pos hq])
    have hq' : (driveE t l f m != 0) = true := by simp [hq]
    clear hq hn hm hM hS hH hZ e0 HA hC
    generalize driveE t l f m = q at *
    go_enter Try.func34, Try.ntmps34
    go_wp2_with (go_at_call 20; refine (HC.out _ (HS.out.ext E0.out)).mono ?_; rintro e W1 ⟨rfl, hx1⟩; have X1 := Lib.hid hx1; clear hx1)
    go_ret2
    exact ⟨ret_pair (by rw [HR1.out]) (by rw [HR1.out]), E0.out.trans X1.out⟩

end Go.Proofs.Ytpaoeghdfeekoaa

/- FieldKept: the law's function. By lawgen.py. -/
namespace Go.Proofs.Ytpaoeghdfeekoaa
open Go.RowKit Go.Shelf Go.Mem Go.RegInv
attribute [local go_sem] RelUpon_value RelUpon_skip RelUpon_enter BigFrame.eval_const BigFrame.eval_global BigFrame.eval_func

def AsV (n : Nat) (zs : List G) : Value → World → Prop := fun u W => ∃ g c, u = .slice (some ⟨g, 0, none⟩) (n + 1) c ∧ RowsAt 2 G.enc W (some ⟨g, 0, none⟩) zs
theorem AsV.ext {n : Nat} {zs : List G} {u : Value} {W W' : World} (h : AsV n zs u W) (e : Ext W W') : AsV n zs u W' := by
  obtain ⟨g, c, h1, h2⟩ := h; exact ⟨g, c, h1, h2.ext e⟩
def BsV (n : Nat) (zs : List G) : Value → World → Prop := fun u W => ∃ A c, u = .slice A n c ∧ RowsAt 2 G.enc W A zs
theorem BsV.ext {n : Nat} {zs : List G} {u : Value} {W W' : World} (h : BsV n zs u W) (e : Ext W W') : BsV n zs u W' := by
  obtain ⟨g, c, h1, h2⟩ := h; exact ⟨g, c, h1, h2.ext e⟩

theorem voltagesPub_V {t : Int} {xs : List Sh} {f : Int} {hot : List Bool} {n m : Nat} (hn : xs.length = n) (hm : hot.length = m) (hq : driveE t xs f m = 0) (W : World) (u v : Value) (h : LadV t xs u W) (k : DrvV f hot v W) :
    Calls Try.prog 32 #[u, v] W (VPost W (TupV (AsV n (volts f hot xs)) 0)) := by
  obtain ⟨A, n', c, hn', rfl, hl⟩ := h
  obtain ⟨B, m', d, hm', rfl, hd⟩ := k
  obtain rfl : m = m' := hm.symm.trans hm'.out
  obtain rfl : n = n' := hn.symm.trans hn'.out
  refine (voltagesOf_any t A n c xs hn f B m d hot hm W hl.1 hd).mono ?_
  rintro e w' ⟨hx, ⟨h1, _⟩ | ⟨_, g, cap, h2, h3⟩⟩
  · exact absurd hq h1
  · exact ⟨_, h2, hx, _, rfl, g, cap, rfl, h3⟩
theorem currentsPub_V {t : Int} {xs : List Sh} {f : Int} {hot : List Bool} {n m : Nat} (hn : xs.length = n) (hm : hot.length = m) (hq : driveE t xs f m = 0) (W : World) (u v : Value) (h : LadV t xs u W) (k : DrvV f hot v W) :
    Calls Try.prog 33 #[u, v] W (VPost W (TupV (BsV n (curr xs (volts f hot xs).tail)) 0)) := by
  obtain ⟨A, n', c, hn', rfl, hl⟩ := h
  obtain ⟨B, m', d, hm', rfl, hd⟩ := k
  obtain rfl : m = m' := hm.symm.trans hm'.out
  obtain rfl : n = n' := hn.symm.trans hn'.out
  refine (currentsPub_any t A n c xs hn f B m d hot hm W hl.1 hd).mono ?_
  rintro e w' ⟨r, h1, h2, v, h3, h4⟩
  obtain ⟨A', c', h5, h6⟩ := h4.2 hq
  refine ⟨_, h1, h2, v, by rw [h3, hq], A', c', ?_, h6⟩
  rw [h5, curr_len xs _ (by simp [volts_len]), hn]
theorem checkVoltages_V {t : Int} {xs : List Sh} {f : Int} {hot : List Bool} {m : Nat} {zs : List G} (hm : hot.length = m) (hq : driveE t xs f m = 0) (W : World) (u v x : Value) (h : LadV t xs u W) (k : DrvV f hot v W) (l : GcV zs x W) :
    Calls Try.prog 34 #[u, v, x] W (VPost W (Is (.tuple #[.int .i64 (chkV f hot xs zs).1, .int .i64 (chkV f hot xs zs).2]))) := by
  obtain ⟨A, n', c, hn', rfl, hl⟩ := h
  obtain ⟨B, m', d, hm', rfl, hd⟩ := k
  obtain ⟨C, M, cz, hM, rfl, hz, hc⟩ := l
  obtain rfl : m = m' := hm.symm.trans hm'.out
  refine (checkVoltages_any t A n' c xs hn'.out f B m d hot hm C M cz zs hM.out hc W hl.1 hd hz).mono ?_
  rintro e w' ⟨h1, h2⟩
  have hA : chkA t f hot xs zs = chkV f hot xs zs := by unfold chkA; rw [if_neg (by rw [hm]; simp [hq])]
  rw [hA] at h1
  exact ⟨_, h1, h2, rfl⟩

theorem volts_inB {f : Int} {hot : List Bool} {ls : List Sh} (hok : ∀ s ∈ ls, shOK s) (hf : 1 ≤ f ∧ f ≤ 8) (h4 : ls.length ≤ 4) : ∀ z ∈ volts f hot ls, outG z = false := by
  intro z hz
  obtain ⟨k, hk⟩ := List.mem_iff_getElem?.1 hz
  have := volts_small hok hf h4 k z hk
  obtain ⟨⟨h1, h2⟩, h3, h5⟩ := this
  simp only [outG, outB, Bool.or_eq_false_iff, decide_eq_false_iff_not]
  omega
theorem chkV_volts {t f : Int} {hot : List Bool} {ls : List Sh} (h : driveE t ls f hot.length = 0) : chkV f hot ls (volts f hot ls) = (0, 0) := by
  obtain ⟨⟨_, ⟨h1, h4⟩, hok⟩, hf, hml⟩ := (driveE_zero t ls f hot.length).1 h
  have hend : zat (volts f hot ls) ls.length = ⟨1, 0⟩ := by
    show volt f hot ls ls.length = _
    rw [volt_at f hot ls _ (Nat.le_refl _), st_end]; rfl
  have hv : volE ls.length (volts f hot ls) = 0 := (volE_zero _ _).2 ⟨volts_len f hot ls, volts_inB hok hf h4, hend⟩
  unfold chkV
  rw [if_neg (by simp [hv])]
  exact chk_zero _ _ _ _ _ _ ((chk_volts f hot ls _ (volts_len f hot ls) hend).2 rfl)
theorem chkV_iff {t f : Int} {hot : List Bool} {ls : List Sh} (h : driveE t ls f hot.length = 0) (zs : List G) : (chkV f hot ls zs).2 = 0 ↔ volts f hot ls = zs := by
  constructor
  · intro hc
    unfold chkV at hc
    by_cases hv : volE ls.length zs = 0
    · rw [if_neg (by simp [hv])] at hc
      obtain ⟨h1, _, h3⟩ := (volE_zero _ _).1 hv
      exact ((chk_volts f hot ls zs h1 h3).1 hc).symm
    · rw [if_pos hv] at hc; exact absurd hc hv
  · rintro rfl
    rw [chkV_volts h]

theorem st_small {f : Int} {hot : List Bool} {ls : List Sh} (hok : ∀ s ∈ ls, shOK s) (hf : 1 ≤ f ∧ f ≤ 8) (h4 : ls.length ≤ 4) (k : Nat) : Bd 300000000 (st f hot ls k).last ∧ Bd 300000000 (st f hot ls k).cur := by
  refine vfold_small hf _ ?_ (by simp [bx_len]; omega)
  intro x hx
  obtain ⟨y, _, rfl⟩ := List.mem_map.1 (List.mem_of_mem_take hx)
  exact hok _ (List.mem_of_getElem? y.2)

theorem inB_of {lo hi x : Int} (h1 : lo ≤ x) (h2 : x ≤ hi) : inB lo hi x = true := by simp [inB, h1, h2]

set_option maxRecDepth 100000 in
set_option maxHeartbeats 8000000 in
theorem fieldKept_any (t : Int) (A : Option Addr) (n ca : Nat) (xs : List Sh) (hn : xs.length = n) (f : Int) (B : Option Addr) (m cb : Nat) (hot : List Bool) (hm : hot.length = m) (C : Option Addr) (M cz : Nat) (zs : List G) (hM : zs.length = M) (w : World)
    (hA : n ≤ 6 → RowsAt 3 Sh.enc w A xs) (hB : m ≤ 6 → RowsAt 1 boolEnc w B hot) (hZ : M ≤ 8 → RowsAt 2 G.enc w C zs) (hAn : A = none → ca = 0) (hBn : B = none → cb = 0) (hCn : C = none → cz = 0) :
    Calls Try.prog 6 #[.agg #[.int .i64 t, .slice A n ca], .agg #[.int .i64 f, .slice B m cb], .slice C M cz] w fun e w' => e = .returned (.bool true) ∧ Ext w w' := by
  have e0 : Ext w ((w.alloc (.cells #[.int .i64 t, .slice A n ca] 24)).alloc (.cells #[.int .i64 f, .slice B m cb] 27)) := (Ext.alloc _ _).trans (Ext.alloc _ _)
  have FA := Lib.hid (show ∀ W : World, Ext ((w.alloc (.cells #[.int .i64 t, .slice A n ca] 24)).alloc (.cells #[.int .i64 f, .slice B m cb] 27)) W →
      W.cell? ⟨w.heap.size, 0, none⟩ = some (.int .i64 t) ∧ W.cell? ⟨w.heap.size, 1, none⟩ = some (.slice A n ca) ∧ W.cell? ⟨w.heap.size + 1, 0, none⟩ = some (.int .i64 f) ∧ W.cell? ⟨w.heap.size + 1, 1, none⟩ = some (.slice B m cb) from
    fun W hx => ⟨hx.cell (by go_simp), hx.cell (by go_simp), hx.cell (by go_simp), hx.cell (by go_simp)⟩)
  have H24 := Lib.hid (fun W (e : Ext w W) => refBothErr_gen t A n ca xs hn f B m cb W (fun h => (hA h).ext e))
  have E0 := Lib.hid e0
  clear e0
  by_cases hq : driveE t xs f m = 0
  · by_cases hM8 : M ≤ 8
    · obtain ⟨⟨ht, ⟨h1, h4⟩, hok⟩, hf, hml⟩ := (driveE_zero t xs f m).1 hq
      obtain rfl : n = m := by rw [hml, hn]
      rw [hn] at h1 h4
      have hA' := hA (by omega)
      have hB' := hB (by omega)
      have hZ' := hZ hM8
      have HCL := Lib.hid (copyLadder_V (t := t) hn hA' (by omega) hAn)
      have HCD := Lib.hid (copyDrive_V (f := f) hm hB' (by omega) hBn)
      have HCZ := Lib.hid (fun W (e : Ext w W) => copyGausses_V C M cz zs hM W (hZ'.ext e) hM8 hCn)
      have H32 := Lib.hid (voltagesPub_V (t := t) hn hm hq)
      have H33 := Lib.hid (currentsPub_V (t := t) hn hm hq)
      have H39 := Lib.hid (fun W u v (h : LadV t xs u W) (k : DrvV f hot v W) => show Calls Try.prog 39 #[u, v] W (VPost W (TupV (Ints (powers f hot xs)) 0)) from by
        have := powersPub_V (f := f) hm W u v h k
        rw [hq] at this
        exact this.mono fun e w' ⟨r, h1, h2, v, h3, h4⟩ => ⟨r, h1, h2, v, h3, h4.2 rfl⟩)
      have hq' : driveE t xs f hot.length = 0 := by rw [hm]; exact hq
      have H34a := Lib.hid (show ∀ W u v x, LadV t xs u W → DrvV f hot v W → GcV (volts f hot xs) x W → Calls Try.prog 34 #[u, v, x] W (VPost W (Is (.tuple #[.int .i64 0, .int .i64 0]))) from fun W u v x h k l => by
        have := checkVoltages_V (t := t) hm hq W u v x h k l
        rw [chkV_volts hq'] at this
        exact this)
      have H34z := Lib.hid (fun W u v x h k l => checkVoltages_V (t := t) (zs := zs) hm hq W u v x h k l)
      have HIFF := Lib.hid (chkV_iff hq' zs)
      obtain ⟨d1, hd1⟩ : ∃ d, d = (chkV f hot xs zs).1 := ⟨_, rfl⟩
      obtain ⟨d2, hd2⟩ : ∃ d, d = (chkV f hot xs zs).2 := ⟨_, rfl⟩
      rw [← hd1, ← hd2] at H34z
      rw [← hd2] at HIFF
      obtain ⟨vs, hvs⟩ : ∃ vs, vs = volts f hot xs := ⟨_, rfl⟩
      have hvl : vs.length = n + 1 := by rw [hvs, volts_len, hn]
      obtain ⟨cs, hcs⟩ : ∃ cs, cs = curr xs vs.tail := ⟨_, rfl⟩
      have hcl : cs.length = n := by rw [hcs, curr_len xs _ (by simp [hvl, hn]), hn]
      obtain ⟨⟨ar, ai⟩, ha⟩ : ∃ z, z = (st f hot xs 0).last := ⟨_, rfl⟩
      obtain ⟨⟨br, bi⟩, hb⟩ : ∃ z, z = (st f hot xs 0).cur := ⟨_, rfl⟩
      have hva : vs[0]? = some ⟨ar, ai⟩ := by rw [hvs, volts_at f hot xs 0 (Nat.zero_le _), ha]
      have hcb : cs[0]? = some ⟨br, bi⟩ := by
        rw [hb, ← cur_at f hot xs n 0 (by omega), ← hvs, hcs]
        simp [curAt, List.getElem?_eq_getElem (show 0 < (curr xs vs.tail).length by rw [← hcs]; omega)]
      have hsm := st_small (hot := hot) hok hf (by omega) 0
      rw [← ha, ← hb] at hsm
      obtain ⟨⟨⟨s1, s2⟩, s3, s4⟩, ⟨s5, s6⟩, s7, s8⟩ := hsm
      dsimp only at s1 s2 s3 s4 s5 s6 s7 s8
      obtain ⟨ps, hps⟩ : ∃ ps, ps = powers f hot xs := ⟨_, rfl⟩
      have hpl : ps.length = n := by rw [hps, powers_len, hn]
      have hsum : ps.sum = ar * br + ai * bi := by
        have := real_sum f hot xs n 0 (by omega)
        rw [← ha, ← hb, ← hps] at this
        simpa [realP] using this.symm
      have hpok := powers_ok (hot := hot) hok hf (by omega) (by omega)
      rw [← hps] at hpok
      have HNN := Lib.hid (show ∀ (k : Nat) (x : Int), ps[k]? = some x → 0 ≤ x from fun k x hx => by
        have hk : k < n := by rw [← hpl]; exact (List.getElem?_eq_some_iff.1 hx).1
        have hs : xs[k]? = some (xs[k]'(by omega)) := List.getElem?_eq_getElem (by omega)
        rw [hps, powers_get hs] at hx
        obtain rfl := Option.some.inj hx
        exact Int.mul_nonneg (by have := (hok _ (List.mem_of_getElem? hs)).1; omega) (norm_nonneg _))
      have p1 := prod_bd (B := 300000000) (x := ar) (y := br) ⟨s1, s2⟩ ⟨s5, s6⟩
      have p2 := prod_bd (B := 300000000) (x := ai) (y := bi) ⟨s3, s4⟩ ⟨s7, s8⟩
      rw [← hvs] at H32 H33 H34a HIFF
      rw [← hcs] at H33
      rw [← hps] at H39
      have HVA := Lib.hid hva
      have HCB := Lib.hid hcb
      have HVL := Lib.hid hvl
      have HCLN := Lib.hid hcl
      have HPL := Lib.hid hpl
      have HSUM := Lib.hid hsum
      have HPOK := Lib.hid hpok
      have HM := Lib.hid hM
      have HZ := Lib.hid hZ'
      have hM8' : (8 : Int) < (M : Int) → False := fun h => by omega
      have hMd : decide ((8 : Int) < (M : Int)) = false := by simp; omega
      rw [hq] at H24
      clear ht hok hf hml hA hB hZ hA' hB' hZ' hAn hBn hCn hd1 hd2 hvs hcs ha hb hva hcb hps hpok hsum hq hq' hn hm hM hvl hcl hpl hM8'
      go_enter Try.func6, Try.ntmps6
      go_wp2_with (first
        | (go_at_call 15; refine (awake_any _).mono ?_; rintro e W1 ⟨rfl, hx1⟩; obtain ⟨z0, z1, z2, z3⟩ := FA.out _ hx1; have X1 := Lib.hid hx1; clear hx1)
        | (go_at_call 24; refine (H24.out _ (E0.out.trans X1.out)).mono ?_; rintro e W2 ⟨rfl, hx2⟩; clear z0 z1 z2 z3; have X2 := Lib.hid (X1.out.trans hx2); clear hx2; obtain ⟨z0, z1, z2, z3⟩ := FA.out _ X2.out))
      have EB := Lib.hid (E0.out.trans X2.out)
      refine wp_region_each [some 31, some 32, some 33, some 34, some 35, some 30, some 36, some 37, some 7, some 8] [[3], [31], [4], [33], [32, 34], [35], [30], [30], [36], [37]]
        [Is (.agg #[.int .i64 (t), .slice A n ca]), LadV t xs, Is (.agg #[.int .i64 (f), .slice B n cb]), DrvV f hot, TupV (AsV n vs) (0), TupV (AsV n vs) (0), AsV n vs, Is (.int .i64 (0)), AsV n vs, Is (.int .i64 (0))]
        (by kernel_rfl) (by kernel_rfl) (by kernel_rfl) (by kernel_rfl) (by kernel_rfl) Ext (fun W => Ext W2 W)
        (fun W _ => Ext.refl W) (fun W W' h k => h.trans k) ?_ (Ext.drew _) ?_ ?_
      · repeat (refine ⟨fun _ _ _ _ k h => (by first | exact h | exact (by first | exact LadV.ext h k | exact DrvV.ext h k | exact GcV.ext h k | exact AsV.ext h k | exact BsV.ext h k | exact IntsAt.ext h k | exact TupV.ext (fun _ _ _ h k => by first | exact AsV.ext h k | exact BsV.ext h k | exact IntsAt.ext h k) h k)), ?_⟩)
        exact trivial
      · refine ⟨?_, ?_, ?_, ?_, ?_, ?_, ?_, ?_, ?_, ?_, trivial⟩
        all_goals intro ρ W ⟨kc, kg, kf⟩ hF hs
        · obtain ⟨h0, -⟩ := hs
          replace h0 : ρ (.tmp 3) = .pointer (some ⟨w.heap.size, 0, none⟩) := h0
          have hc0 : W.cell? ⟨w.heap.size, 0, none⟩ = some (.int .i64 (t)) := hF.cell (by assumption)
          have hc1 : W.cell? ⟨w.heap.size, 1, none⟩ = some (.slice A n ca) := hF.cell (by assumption)
          go_simp
          exact ⟨Ext.refl _, rfl⟩
        · obtain ⟨h0, -⟩ := hs
          replace h0 : ρ (.tmp 31) = .agg #[.int .i64 (t), .slice A n ca] := h0
          go_simp
          exact HCL.out W (EB.out.trans hF)
        · obtain ⟨h0, -⟩ := hs
          replace h0 : ρ (.tmp 4) = .pointer (some ⟨w.heap.size + 1, 0, none⟩) := h0
          have hc0 : W.cell? ⟨w.heap.size + 1, 0, none⟩ = some (.int .i64 (f)) := hF.cell (by assumption)
          have hc1 : W.cell? ⟨w.heap.size + 1, 1, none⟩ = some (.slice B n cb) := hF.cell (by assumption)
          go_simp
          exact ⟨Ext.refl _, rfl⟩
        · obtain ⟨h0, -⟩ := hs
          replace h0 : ρ (.tmp 33) = .agg #[.int .i64 (f), .slice B n cb] := h0
          go_simp
          exact HCD.out W (EB.out.trans hF)
        · obtain ⟨h0, h1, -⟩ := hs
          replace h0 : (LadV t xs) (ρ (.tmp 32)) W := h0
          replace h1 : (DrvV f hot) (ρ (.tmp 34)) W := h1
          go_simp
          exact H32.out W _ _ h0 h1
        · obtain ⟨h0, -⟩ := hs
          replace h0 : (TupV (AsV n vs) (0)) (ρ (.tmp 35)) W := h0
          go_simp
          first | exact ⟨Ext.refl _, h0⟩ | exact Ext.refl _
        · obtain ⟨h0, -⟩ := hs
          replace h0 : (TupV (AsV n vs) (0)) (ρ (.tmp 30)) W := h0
          obtain ⟨v, hv, hp⟩ := h0
          go_simp
          first | exact ⟨Ext.refl _, hp⟩ | exact Ext.refl _
        · obtain ⟨h0, -⟩ := hs
          replace h0 : (TupV (AsV n vs) (0)) (ρ (.tmp 30)) W := h0
          obtain ⟨v, hv, hp⟩ := h0
          go_simp
          first | exact ⟨Ext.refl _, rfl⟩ | exact Ext.refl _
        · obtain ⟨h0, -⟩ := hs
          replace h0 : (AsV n vs) (ρ (.tmp 36)) W := h0
          go_simp
          first | exact ⟨Ext.refl _, h0⟩ | exact Ext.refl _
        · obtain ⟨h0, -⟩ := hs
          replace h0 : ρ (.tmp 37) = .int .i64 (0) := h0
          go_simp
          exact ⟨Ext.refl _, rfl⟩
      · intro fv W3 hF hs
        obtain ⟨-, -, -, -, -, -, -, -, h7, h8, -⟩ := hs
        replace h7 : (AsV n vs) (fv 7) W3 := h7
        replace h8 : fv 8 = .int .i64 (0) := h8
        simp only [fin, List.filterMap]
        go_simp
        have X3 := Lib.hid (X2.out.trans hF)
        clear hF z0 z1 z2 z3
        obtain ⟨z0, z1, z2, z3⟩ := FA.out _ X3.out
        have EB := Lib.hid (E0.out.trans X3.out)
        obtain ⟨ga, ca7, hva7, hra⟩ := h7
        have HRA := Lib.hid hra
        rw [hva7]
        clear hra hva7 h8
        go_wp2
        refine wp_region_each [some 39, some 40, some 41, some 42, some 43, some 38, some 44, some 45, some 9, some 10] [[3], [39], [4], [41], [40, 42], [43], [38], [38], [44], [45]]
          [Is (.agg #[.int .i64 (t), .slice A n ca]), LadV t xs, Is (.agg #[.int .i64 (f), .slice B n cb]), DrvV f hot, TupV (BsV n cs) (0), TupV (BsV n cs) (0), BsV n cs, Is (.int .i64 (0)), BsV n cs, Is (.int .i64 (0))]
          (by kernel_rfl) (by kernel_rfl) (by kernel_rfl) (by kernel_rfl) (by kernel_rfl) Ext (fun W => Ext W3 W)
          (fun W _ => Ext.refl W) (fun W W' h k => h.trans k) ?_ (Ext.drew _) ?_ ?_
        · repeat (refine ⟨fun _ _ _ _ k h => (by first | exact h | exact (by first | exact LadV.ext h k | exact DrvV.ext h k | exact GcV.ext h k | exact AsV.ext h k | exact BsV.ext h k | exact IntsAt.ext h k | exact TupV.ext (fun _ _ _ h k => by first | exact AsV.ext h k | exact BsV.ext h k | exact IntsAt.ext h k) h k)), ?_⟩)
          exact trivial
        · refine ⟨?_, ?_, ?_, ?_, ?_, ?_, ?_, ?_, ?_, ?_, trivial⟩
          all_goals intro ρ W ⟨kc, kg, kf⟩ hF hs
          · obtain ⟨h0, -⟩ := hs
            replace h0 : ρ (.tmp 3) = .pointer (some ⟨w.heap.size, 0, none⟩) := h0
            have hc0 : W.cell? ⟨w.heap.size, 0, none⟩ = some (.int .i64 (t)) := hF.cell (by assumption)
            have hc1 : W.cell? ⟨w.heap.size, 1, none⟩ = some (.slice A n ca) := hF.cell (by assumption)
            go_simp
            exact ⟨Ext.refl _, rfl⟩
          · obtain ⟨h0, -⟩ := hs
            replace h0 : ρ (.tmp 39) = .agg #[.int .i64 (t), .slice A n ca] := h0
            go_simp
            exact HCL.out W (EB.out.trans hF)
          · obtain ⟨h0, -⟩ := hs
            replace h0 : ρ (.tmp 4) = .pointer (some ⟨w.heap.size + 1, 0, none⟩) := h0
            have hc0 : W.cell? ⟨w.heap.size + 1, 0, none⟩ = some (.int .i64 (f)) := hF.cell (by assumption)
            have hc1 : W.cell? ⟨w.heap.size + 1, 1, none⟩ = some (.slice B n cb) := hF.cell (by assumption)
            go_simp
            exact ⟨Ext.refl _, rfl⟩
          · obtain ⟨h0, -⟩ := hs
            replace h0 : ρ (.tmp 41) = .agg #[.int .i64 (f), .slice B n cb] := h0
            go_simp
            exact HCD.out W (EB.out.trans hF)
          · obtain ⟨h0, h1, -⟩ := hs
            replace h0 : (LadV t xs) (ρ (.tmp 40)) W := h0
            replace h1 : (DrvV f hot) (ρ (.tmp 42)) W := h1
            go_simp
            exact H33.out W _ _ h0 h1
          · obtain ⟨h0, -⟩ := hs
            replace h0 : (TupV (BsV n cs) (0)) (ρ (.tmp 43)) W := h0
            go_simp
            first | exact ⟨Ext.refl _, h0⟩ | exact Ext.refl _
          · obtain ⟨h0, -⟩ := hs
            replace h0 : (TupV (BsV n cs) (0)) (ρ (.tmp 38)) W := h0
            obtain ⟨v, hv, hp⟩ := h0
            go_simp
            first | exact ⟨Ext.refl _, hp⟩ | exact Ext.refl _
          · obtain ⟨h0, -⟩ := hs
            replace h0 : (TupV (BsV n cs) (0)) (ρ (.tmp 38)) W := h0
            obtain ⟨v, hv, hp⟩ := h0
            go_simp
            first | exact ⟨Ext.refl _, rfl⟩ | exact Ext.refl _
          · obtain ⟨h0, -⟩ := hs
            replace h0 : (BsV n cs) (ρ (.tmp 44)) W := h0
            go_simp
            first | exact ⟨Ext.refl _, h0⟩ | exact Ext.refl _
          · obtain ⟨h0, -⟩ := hs
            replace h0 : ρ (.tmp 45) = .int .i64 (0) := h0
            go_simp
            exact ⟨Ext.refl _, rfl⟩
        · intro fv W4 hF hs
          obtain ⟨-, -, -, -, -, -, -, -, h9, h10, -⟩ := hs
          replace h9 : (BsV n cs) (fv 9) W4 := h9
          replace h10 : fv 10 = .int .i64 (0) := h10
          simp only [fin, List.filterMap]
          go_simp
          have X34 := Lib.hid hF
          have X4 := Lib.hid (X3.out.trans hF)
          clear hF z0 z1 z2 z3
          obtain ⟨z0, z1, z2, z3⟩ := FA.out _ X4.out
          have EB := Lib.hid (E0.out.trans X4.out)
          obtain ⟨Ab, cb9, hvb, hrb⟩ := h9
          have HRB := Lib.hid hrb
          rw [hvb]
          clear hrb hvb h10
          go_wp2
          refine wp_region_each [some 47, some 48, some 49, some 50, some 51, some 46, some 52, some 53, some 11, some 12] [[3], [47], [4], [49], [48, 50], [51], [46], [46], [52], [53]]
            [Is (.agg #[.int .i64 (t), .slice A n ca]), LadV t xs, Is (.agg #[.int .i64 (f), .slice B n cb]), DrvV f hot, TupV (Ints ps) (0), TupV (Ints ps) (0), Ints ps, Is (.int .i64 (0)), Ints ps, Is (.int .i64 (0))]
            (by kernel_rfl) (by kernel_rfl) (by kernel_rfl) (by kernel_rfl) (by kernel_rfl) Ext (fun W => Ext W4 W)
            (fun W _ => Ext.refl W) (fun W W' h k => h.trans k) ?_ (Ext.drew _) ?_ ?_
          · repeat (refine ⟨fun _ _ _ _ k h => (by first | exact h | exact (by first | exact LadV.ext h k | exact DrvV.ext h k | exact GcV.ext h k | exact AsV.ext h k | exact BsV.ext h k | exact IntsAt.ext h k | exact TupV.ext (fun _ _ _ h k => by first | exact AsV.ext h k | exact BsV.ext h k | exact IntsAt.ext h k) h k)), ?_⟩)
            exact trivial
          · refine ⟨?_, ?_, ?_, ?_, ?_, ?_, ?_, ?_, ?_, ?_, trivial⟩
            all_goals intro ρ W ⟨kc, kg, kf⟩ hF hs
            · obtain ⟨h0, -⟩ := hs
              replace h0 : ρ (.tmp 3) = .pointer (some ⟨w.heap.size, 0, none⟩) := h0
              have hc0 : W.cell? ⟨w.heap.size, 0, none⟩ = some (.int .i64 (t)) := hF.cell (by assumption)
              have hc1 : W.cell? ⟨w.heap.size, 1, none⟩ = some (.slice A n ca) := hF.cell (by assumption)
              go_simp
              exact ⟨Ext.refl _, rfl⟩
            · obtain ⟨h0, -⟩ := hs
              replace h0 : ρ (.tmp 47) = .agg #[.int .i64 (t), .slice A n ca] := h0
              go_simp
              exact HCL.out W (EB.out.trans hF)
            · obtain ⟨h0, -⟩ := hs
              replace h0 : ρ (.tmp 4) = .pointer (some ⟨w.heap.size + 1, 0, none⟩) := h0
              have hc0 : W.cell? ⟨w.heap.size + 1, 0, none⟩ = some (.int .i64 (f)) := hF.cell (by assumption)
              have hc1 : W.cell? ⟨w.heap.size + 1, 1, none⟩ = some (.slice B n cb) := hF.cell (by assumption)
              go_simp
              exact ⟨Ext.refl _, rfl⟩
            · obtain ⟨h0, -⟩ := hs
              replace h0 : ρ (.tmp 49) = .agg #[.int .i64 (f), .slice B n cb] := h0
              go_simp
              exact HCD.out W (EB.out.trans hF)
            · obtain ⟨h0, h1, -⟩ := hs
              replace h0 : (LadV t xs) (ρ (.tmp 48)) W := h0
              replace h1 : (DrvV f hot) (ρ (.tmp 50)) W := h1
              go_simp
              exact H39.out W _ _ h0 h1
            · obtain ⟨h0, -⟩ := hs
              replace h0 : (TupV (Ints ps) (0)) (ρ (.tmp 51)) W := h0
              go_simp
              first | exact ⟨Ext.refl _, h0⟩ | exact Ext.refl _
            · obtain ⟨h0, -⟩ := hs
              replace h0 : (TupV (Ints ps) (0)) (ρ (.tmp 46)) W := h0
              obtain ⟨v, hv, hp⟩ := h0
              go_simp
              first | exact ⟨Ext.refl _, hp⟩ | exact Ext.refl _
            · obtain ⟨h0, -⟩ := hs
              replace h0 : (TupV (Ints ps) (0)) (ρ (.tmp 46)) W := h0
              obtain ⟨v, hv, hp⟩ := h0
              go_simp
              first | exact ⟨Ext.refl _, rfl⟩ | exact Ext.refl _
            · obtain ⟨h0, -⟩ := hs
              replace h0 : (Ints ps) (ρ (.tmp 52)) W := h0
              go_simp
              first | exact ⟨Ext.refl _, h0⟩ | exact Ext.refl _
            · obtain ⟨h0, -⟩ := hs
              replace h0 : ρ (.tmp 53) = .int .i64 (0) := h0
              go_simp
              exact ⟨Ext.refl _, rfl⟩
          · intro fv W5 hF hs
            obtain ⟨-, -, -, -, -, -, -, -, h11, h12, -⟩ := hs
            replace h11 : (Ints ps) (fv 11) W5 := h11
            replace h12 : fv 12 = .int .i64 (0) := h12
            simp only [fin, List.filterMap]
            go_simp
            have X45 := Lib.hid hF
            have X5 := Lib.hid (X4.out.trans hF)
            clear hF z0 z1 z2 z3
            obtain ⟨z0, z1, z2, z3⟩ := FA.out _ X5.out
            have EB := Lib.hid (E0.out.trans X5.out)
            obtain ⟨Ap, cpp, hvp, hrp⟩ := ints_rows h11
            rw [HPL.out] at hvp
            have HRP := Lib.hid hrp
            rw [hvp]
            clear hrp hvp h11 h12
            have HCA := Lib.hid (fun W (e : Ext W5 W) => copyGausses_V (some ⟨ga, 0, none⟩) (n + 1) ca7 vs HVL.out W (HRA.out.ext (X34.out.trans (X45.out.trans e))) (by omega) (fun h => by cases h))
            go_wp2
            refine wp_region_each [some 90, some 91, some 92, some 93, some 94, some 95, some 96, some 89, some 97, some 98, some 13, some 14] [[3], [90], [4], [92], [7], [94], [91, 93, 95], [96], [89], [89], [97], [98]]
              [Is (.agg #[.int .i64 (t), .slice A n ca]), LadV t xs, Is (.agg #[.int .i64 (f), .slice B n cb]), DrvV f hot, Is (.slice (some ⟨ga, 0, none⟩) (n + 1) ca7), GcV vs, Is (.tuple #[.int .i64 (0), .int .i64 (0)]), Is (.tuple #[.int .i64 (0), .int .i64 (0)]), Is (.int .i64 (0)), Is (.int .i64 (0)), Is (.int .i64 (0)), Is (.int .i64 (0))]
              (by kernel_rfl) (by kernel_rfl) (by kernel_rfl) (by kernel_rfl) (by kernel_rfl) Ext (fun W => Ext W5 W)
              (fun W _ => Ext.refl W) (fun W W' h k => h.trans k) ?_ (Ext.drew _) ?_ ?_
            · repeat (refine ⟨fun _ _ _ _ k h => (by first | exact h | exact (by first | exact LadV.ext h k | exact DrvV.ext h k | exact GcV.ext h k | exact AsV.ext h k | exact BsV.ext h k | exact IntsAt.ext h k | exact TupV.ext (fun _ _ _ h k => by first | exact AsV.ext h k | exact BsV.ext h k | exact IntsAt.ext h k) h k)), ?_⟩)
              exact trivial
            · refine ⟨?_, ?_, ?_, ?_, ?_, ?_, ?_, ?_, ?_, ?_, ?_, ?_, trivial⟩
              all_goals intro ρ W ⟨kc, kg, kf⟩ hF hs
              · obtain ⟨h0, -⟩ := hs
                replace h0 : ρ (.tmp 3) = .pointer (some ⟨w.heap.size, 0, none⟩) := h0
                have hc0 : W.cell? ⟨w.heap.size, 0, none⟩ = some (.int .i64 (t)) := hF.cell (by assumption)
                have hc1 : W.cell? ⟨w.heap.size, 1, none⟩ = some (.slice A n ca) := hF.cell (by assumption)
                go_simp
                exact ⟨Ext.refl _, rfl⟩
              · obtain ⟨h0, -⟩ := hs
                replace h0 : ρ (.tmp 90) = .agg #[.int .i64 (t), .slice A n ca] := h0
                go_simp
                exact HCL.out W (EB.out.trans hF)
              · obtain ⟨h0, -⟩ := hs
                replace h0 : ρ (.tmp 4) = .pointer (some ⟨w.heap.size + 1, 0, none⟩) := h0
                have hc0 : W.cell? ⟨w.heap.size + 1, 0, none⟩ = some (.int .i64 (f)) := hF.cell (by assumption)
                have hc1 : W.cell? ⟨w.heap.size + 1, 1, none⟩ = some (.slice B n cb) := hF.cell (by assumption)
                go_simp
                exact ⟨Ext.refl _, rfl⟩
              · obtain ⟨h0, -⟩ := hs
                replace h0 : ρ (.tmp 92) = .agg #[.int .i64 (f), .slice B n cb] := h0
                go_simp
                exact HCD.out W (EB.out.trans hF)
              · obtain ⟨h0, -⟩ := hs
                replace h0 : ρ (.tmp 7) = .slice (some ⟨ga, 0, none⟩) (n + 1) ca7 := h0
                go_simp
                exact ⟨Ext.refl _, rfl⟩
              · obtain ⟨h0, -⟩ := hs
                replace h0 : ρ (.tmp 94) = .slice (some ⟨ga, 0, none⟩) (n + 1) ca7 := h0
                go_simp
                exact HCA.out W hF
              · obtain ⟨h0, h1, h2, -⟩ := hs
                replace h0 : (LadV t xs) (ρ (.tmp 91)) W := h0
                replace h1 : (DrvV f hot) (ρ (.tmp 93)) W := h1
                replace h2 : (GcV vs) (ρ (.tmp 95)) W := h2
                go_simp
                exact H34a.out W _ _ _ h0 h1 h2
              · obtain ⟨h0, -⟩ := hs
                replace h0 : ρ (.tmp 96) = .tuple #[.int .i64 (0), .int .i64 (0)] := h0
                go_simp
                first | exact ⟨Ext.refl _, rfl⟩ | exact Ext.refl _
              · obtain ⟨h0, -⟩ := hs
                replace h0 : ρ (.tmp 89) = .tuple #[.int .i64 (0), .int .i64 (0)] := h0
                go_simp
                first | exact ⟨Ext.refl _, rfl⟩ | exact Ext.refl _
              · obtain ⟨h0, -⟩ := hs
                replace h0 : ρ (.tmp 89) = .tuple #[.int .i64 (0), .int .i64 (0)] := h0
                go_simp
                first | exact ⟨Ext.refl _, rfl⟩ | exact Ext.refl _
              · obtain ⟨h0, -⟩ := hs
                replace h0 : ρ (.tmp 97) = .int .i64 (0) := h0
                go_simp
                first | exact ⟨Ext.refl _, rfl⟩ | exact Ext.refl _
              · obtain ⟨h0, -⟩ := hs
                replace h0 : ρ (.tmp 98) = .int .i64 (0) := h0
                go_simp
                first | exact ⟨Ext.refl _, rfl⟩ | exact Ext.refl _
            · intro fv W6 hF hs
              obtain ⟨-, -, -, -, -, -, -, -, -, -, h13, h14, -⟩ := hs
              replace h13 : fv 13 = .int .i64 (0) := h13
              replace h14 : fv 14 = .int .i64 (0) := h14
              simp only [fin, List.filterMap]
              go_simp
              have X56 := Lib.hid hF
              have X6 := Lib.hid (X5.out.trans hF)
              clear hF z0 z1 z2 z3 h13 h14
              obtain ⟨z0, z1, z2, z3⟩ := FA.out _ X6.out
              have EB := Lib.hid (E0.out.trans X6.out)
              go_wp2
              refine wp_region_each [some 100, some 101, some 102, some 103, some 104, some 105, some 106, some 99, some 107, some 108, some 15, some 16] [[3], [100], [4], [102], [2], [104], [101, 103, 105], [106], [99], [99], [107], [108]]
                [Is (.agg #[.int .i64 (t), .slice A n ca]), LadV t xs, Is (.agg #[.int .i64 (f), .slice B n cb]), DrvV f hot, Is (.slice C M cz), GcV zs, Is (.tuple #[.int .i64 (d1), .int .i64 (d2)]), Is (.tuple #[.int .i64 (d1), .int .i64 (d2)]), Is (.int .i64 (d1)), Is (.int .i64 (d2)), Is (.int .i64 (d1)), Is (.int .i64 (d2))]
                (by kernel_rfl) (by kernel_rfl) (by kernel_rfl) (by kernel_rfl) (by kernel_rfl) Ext (fun W => Ext W6 W)
                (fun W _ => Ext.refl W) (fun W W' h k => h.trans k) ?_ (Ext.drew _) ?_ ?_
              · repeat (refine ⟨fun _ _ _ _ k h => (by first | exact h | exact (by first | exact LadV.ext h k | exact DrvV.ext h k | exact GcV.ext h k | exact AsV.ext h k | exact BsV.ext h k | exact IntsAt.ext h k | exact TupV.ext (fun _ _ _ h k => by first | exact AsV.ext h k | exact BsV.ext h k | exact IntsAt.ext h k) h k)), ?_⟩)
                exact trivial
              · refine ⟨?_, ?_, ?_, ?_, ?_, ?_, ?_, ?_, ?_, ?_, ?_, ?_, trivial⟩
                all_goals intro ρ W ⟨kc, kg, kf⟩ hF hs
                · obtain ⟨h0, -⟩ := hs
                  replace h0 : ρ (.tmp 3) = .pointer (some ⟨w.heap.size, 0, none⟩) := h0
                  have hc0 : W.cell? ⟨w.heap.size, 0, none⟩ = some (.int .i64 (t)) := hF.cell (by assumption)
                  have hc1 : W.cell? ⟨w.heap.size, 1, none⟩ = some (.slice A n ca) := hF.cell (by assumption)
                  go_simp
                  exact ⟨Ext.refl _, rfl⟩
                · obtain ⟨h0, -⟩ := hs
                  replace h0 : ρ (.tmp 100) = .agg #[.int .i64 (t), .slice A n ca] := h0
                  go_simp
                  exact HCL.out W (EB.out.trans hF)
                · obtain ⟨h0, -⟩ := hs
                  replace h0 : ρ (.tmp 4) = .pointer (some ⟨w.heap.size + 1, 0, none⟩) := h0
                  have hc0 : W.cell? ⟨w.heap.size + 1, 0, none⟩ = some (.int .i64 (f)) := hF.cell (by assumption)
                  have hc1 : W.cell? ⟨w.heap.size + 1, 1, none⟩ = some (.slice B n cb) := hF.cell (by assumption)
                  go_simp
                  exact ⟨Ext.refl _, rfl⟩
                · obtain ⟨h0, -⟩ := hs
                  replace h0 : ρ (.tmp 102) = .agg #[.int .i64 (f), .slice B n cb] := h0
                  go_simp
                  exact HCD.out W (EB.out.trans hF)
                · obtain ⟨h0, -⟩ := hs
                  replace h0 : ρ (.tmp 2) = .slice C M cz := h0
                  go_simp
                  exact ⟨Ext.refl _, rfl⟩
                · obtain ⟨h0, -⟩ := hs
                  replace h0 : ρ (.tmp 104) = .slice C M cz := h0
                  go_simp
                  exact HCZ.out W (EB.out.trans hF)
                · obtain ⟨h0, h1, h2, -⟩ := hs
                  replace h0 : (LadV t xs) (ρ (.tmp 101)) W := h0
                  replace h1 : (DrvV f hot) (ρ (.tmp 103)) W := h1
                  replace h2 : (GcV zs) (ρ (.tmp 105)) W := h2
                  go_simp
                  exact H34z.out W _ _ _ h0 h1 h2
                · obtain ⟨h0, -⟩ := hs
                  replace h0 : ρ (.tmp 106) = .tuple #[.int .i64 (d1), .int .i64 (d2)] := h0
                  go_simp
                  first | exact ⟨Ext.refl _, rfl⟩ | exact Ext.refl _
                · obtain ⟨h0, -⟩ := hs
                  replace h0 : ρ (.tmp 99) = .tuple #[.int .i64 (d1), .int .i64 (d2)] := h0
                  go_simp
                  first | exact ⟨Ext.refl _, rfl⟩ | exact Ext.refl _
                · obtain ⟨h0, -⟩ := hs
                  replace h0 : ρ (.tmp 99) = .tuple #[.int .i64 (d1), .int .i64 (d2)] := h0
                  go_simp
                  first | exact ⟨Ext.refl _, rfl⟩ | exact Ext.refl _
                · obtain ⟨h0, -⟩ := hs
                  replace h0 : ρ (.tmp 107) = .int .i64 (d1) := h0
                  go_simp
                  first | exact ⟨Ext.refl _, rfl⟩ | exact Ext.refl _
                · obtain ⟨h0, -⟩ := hs
                  replace h0 : ρ (.tmp 108) = .int .i64 (d2) := h0
                  go_simp
                  first | exact ⟨Ext.refl _, rfl⟩ | exact Ext.refl _
              · intro fv W7 hF hs
                obtain ⟨-, -, -, -, -, -, -, -, -, -, h15, h16, -⟩ := hs
                replace h15 : fv 15 = .int .i64 (d1) := h15
                replace h16 : fv 16 = .int .i64 (d2) := h16
                simp only [fin, List.filterMap]
                go_simp
                have X37 := Lib.hid (X34.out.trans (X45.out.trans (X56.out.trans hF)))
                have X47 := Lib.hid (X45.out.trans (X56.out.trans hF))
                have X57 := Lib.hid (X56.out.trans hF)
                have X7 := Lib.hid (X6.out.trans hF)
                clear hF z0 z1 z2 z3 h15 h16
                obtain ⟨bb, hb1, hb2⟩ : ∃ bb, (d2 == 0) = bb ∧ (vs == zs) = bb := by
                  by_cases h : d2 = 0
                  · exact ⟨true, by simp [h], by rw [HIFF.out.1 h]; simp⟩
                  · exact ⟨false, by simp [h], by rw [beq_eq_false_iff_ne]; exact fun h' => h (HIFF.out.2 h')⟩
                have HB2 := Lib.hid hb2
                clear hb2
                have HG := Lib.hid (show Calls Try.prog 38 #[.slice (some ⟨ga, 0, none⟩) (n + 1) ca7, .slice C M cz] W7 (fun e w' => e = .returned (.bool bb) ∧ Ext W7 w') from by
                  have := gausses_any (some ⟨ga, 0, none⟩) C ca7 cz vs zs W7 (HRA.out.ext X37.out) (HZ.out.ext (E0.out.trans X7.out))
                  rw [HVL.out, HM.out, HB2.out] at this
                  exact this)
                obtain ⟨gb, ob, hAb, _, hcb⟩ := HRB.out.2 0 _ HCB.out
                subst hAb
                obtain ⟨ga', oa', hAa, _, hca⟩ := HRA.out.2 0 _ HVA.out
                obtain ⟨rfl, rfl⟩ : ga = ga' ∧ 0 = oa' := by simpa using hAa
                have HCA0 := Lib.hid (hca 0 _ rfl)
                have HCA1 := Lib.hid (hca 1 _ rfl)
                have HCB0 := Lib.hid (hcb 0 _ rfl)
                have HCB1 := Lib.hid (hcb 1 _ rfl)
                clear hca hcb hAa
                have HW1 := Lib.hid (inB_of (lo := -1073741824) (hi := 1073741824) (x := ar) (by omega) (by omega))
                have HW2 := Lib.hid (inB_of (lo := -1073741824) (hi := 1073741824) (x := ai) (by omega) (by omega))
                have HW3 := Lib.hid (inB_of (lo := -1073741824) (hi := 1073741824) (x := br) (by omega) (by omega))
                have HW4 := Lib.hid (inB_of (lo := -1073741824) (hi := 1073741824) (x := bi) (by omega) (by omega))
                have hn0 : 0 < n := by omega
                go_wp2_with (first
                  | (go_at_call 38; refine HG.out.mono ?_; rintro e W8 ⟨rfl, hx8⟩; have X78 := Lib.hid hx8; have u1 : W8.cell? ⟨ga, 0, none⟩ = some (.int .i64 ar) := (X37.out.trans hx8).cell (by have := HCA0.out; simpa using this); have u2 : W8.cell? ⟨ga, 1, none⟩ = some (.int .i64 ai) := (X37.out.trans hx8).cell (by have := HCA1.out; simpa using this); have u3 : W8.cell? ⟨gb, ob, none⟩ = some (.int .i64 br) := (X47.out.trans hx8).cell (by have := HCB0.out; simpa using this); have u4 : W8.cell? ⟨gb, ob + 1, none⟩ = some (.int .i64 bi) := (X47.out.trans hx8).cell (by have := HCB1.out; simpa using this); clear hx8)
                  | (go_at_call 40; refine (within_any _ _ _ _).mono ?_; rintro e w' ⟨rfl, rfl⟩; first | rw [HW1.out] | rw [HW2.out] | rw [HW3.out] | rw [HW4.out]))
                have X58 := Lib.hid (X57.out.trans X78.out)
                go_loopw [17, 18] (fun s i wr => ∃ k : Nat, k ≤ n ∧ i = .int .i64 k ∧ s = .int .i64 (ps.take k).sum ∧ Ext W8 wr) (fun _ i _ => n - (intOf i).toNat)
                case atStart => exact ⟨0, Nat.zero_le _, rfl, by simp, Ext.refl _⟩
                case round =>
                  obtain ⟨k, hk, rfl, rfl, hx⟩ := hrel
                  by_cases hlt : k < n
                  · obtain ⟨x, hxk⟩ : ∃ x, ps[k]? = some x := ⟨_, List.getElem?_eq_getElem (by rw [HPL.out]; exact hlt)⟩
                    obtain ⟨gp, op, hAp, _, hcp⟩ := HRP.out.2 k x hxk
                    subst hAp
                    have hc1 : wr.cell? ⟨gp, op + k, none⟩ = some (.int .i64 x) := (X58.out.trans hx).cell (by have := hcp 0 _ rfl; simpa using this)
                    have HTS := Lib.hid (take_sum ps k x hxk)
                    obtain ⟨q1, q2⟩ := HPOK.out.part k
                    obtain ⟨q3, q4⟩ := HPOK.out.part (k + 1)
                    obtain ⟨q5, q6⟩ := HPOK.out.sum
                    rw [HTS.out] at q3 q4
                    have q7 : 0 ≤ x := HNN.out k x hxk
                    have q8 : x ≤ 40000000000000 := by omega
                    have q9 : (ps.take k).sum ≤ 40000000000000 := by omega
                    have HWX := Lib.hid (inB_of (lo := 0) (hi := 576460752303423488) (x := x) q7 (by omega))
                    have HX := Lib.hid hx
                    clear hxk hcp q2 q3 q4 q5 q6 hx
                    generalize hsk : (ps.take k).sum = sk at *
                    have HSK := Lib.hid hsk
                    clear hsk
                    have hki : (k : Int) < (n : Int) := by omega
                    go_wp2_with (go_at_call 40; refine (within_any _ _ _ _).mono ?_; rintro e w' ⟨rfl, rfl⟩; rw [HWX.out])
                    go_roundw
                    case rel => exact ⟨k + 1, by omega, by go_num, by rw [HTS.out], HX.out⟩
                    case measure => simp [intOf]; omega
                  · obtain rfl : n = k := by omega
                    have hS : (ps.take n).sum = ar * br + ai * bi := by rw [List.take_of_length_le (by rw [HPL.out]; omega)]; exact HSUM.out
                    rw [hS]
                    clear hS
                    have g1 : wr.cell? ⟨ga, 0, none⟩ = some (.int .i64 ar) := hx.cell u1
                    have g2 : wr.cell? ⟨ga, 1, none⟩ = some (.int .i64 ai) := hx.cell u2
                    have g3 : wr.cell? ⟨gb, ob, none⟩ = some (.int .i64 br) := hx.cell u3
                    have g4 : wr.cell? ⟨gb, ob + 1, none⟩ = some (.int .i64 bi) := hx.cell u4
                    have k1 : IntKind.i64.wrap (ar * br) = ar * br := IntWalk.i64_in _ (by omega)
                    have k2 : IntKind.i64.wrap (ai * bi) = ai * bi := IntWalk.i64_in _ (by omega)
                    have k3 : IntKind.i64.wrap (ar * br + ai * bi) = ar * br + ai * bi := IntWalk.i64_in _ (by omega)
                    clear u1 u2 u3 u4
                    have HX := Lib.hid hx
                    clear hx
                    go_wp2
                    go_quiet (fail)
                    go_wp2
                    go_ret
                    exact ⟨ret_bool (by simp), E0.out.trans (X7.out.trans (X78.out.trans (HX.out.trans (Ext.drewN _ _))))⟩
    · have hMd : decide ((8 : Int) < (M : Int)) = true := by simp; omega
      rw [hq] at H24
      clear hA hB hZ hAn hBn hCn hq hn hm hM hM8
      go_enter Try.func6, Try.ntmps6
      go_wp2_with (first
        | (go_at_call 15; refine (awake_any _).mono ?_; rintro e W1 ⟨rfl, hx1⟩; obtain ⟨z0, z1, z2, z3⟩ := FA.out _ hx1; have X1 := Lib.hid hx1; clear hx1)
        | (go_at_call 24; refine (H24.out _ (E0.out.trans X1.out)).mono ?_; rintro e W2 ⟨rfl, hx2⟩; clear z0 z1 z2 z3; have X2 := Lib.hid (X1.out.trans hx2); clear hx2))
      go_ret
      exact ⟨rfl, E0.out.trans X2.out⟩
  · have hq' : (driveE t xs f m != 0) = true := by simp [hq]
    clear hq hA hB hZ hAn hBn hCn hn hm hM
    generalize driveE t xs f m = q at *
    go_enter Try.func6, Try.ntmps6
    go_wp2_with (first
      | (go_at_call 15; refine (awake_any _).mono ?_; rintro e W1 ⟨rfl, hx1⟩; obtain ⟨z0, z1, z2, z3⟩ := FA.out _ hx1; have X1 := Lib.hid hx1; clear hx1)
      | (go_at_call 24; refine (H24.out _ (E0.out.trans X1.out)).mono ?_; rintro e W2 ⟨rfl, hx2⟩; have X2 := Lib.hid (X1.out.trans hx2); clear hx2 z0 z1 z2 z3))
    go_ret
    exact ⟨rfl, E0.out.trans X2.out⟩

end Go.Proofs.Ytpaoeghdfeekoaa

