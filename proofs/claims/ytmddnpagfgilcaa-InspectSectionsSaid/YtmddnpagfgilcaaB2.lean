/- Traverses: their errors. -/
import Derived.Test.YtmddnpagfgilcaaB1
import Derived.Lib.MinMax

namespace Go.Proofs.Ytmddnpagfgilcaa
open Go.RowKit Go.Shelf Go.Mem Go.RegInv
attribute [local go_sem] RelUpon_value RelUpon_skip RelUpon_enter BigFrame.eval_const BigFrame.eval_global BigFrame.eval_func


theorem ret_two {a b c d : Int} (h : a = c) (k : b = d) : Ending.returned (.tuple #[.int .i64 a, .int .i64 b]) = .returned (.tuple #[.int .i64 c, .int .i64 d]) := by rw [h, k]
/-- The first place of a list at which there is an error. -/
def firstAt (E : Nat → Int) : Nat → Nat → Int × Int
  | 0, _ => (0, 0)
  | f + 1, k => if E k ≠ 0 then ((k : Int), E k) else firstAt E f (k + 1)
theorem firstAt_step (E : Nat → Int) {n k : Nat} (h : k < n) : firstAt E (n - k) k = if E k ≠ 0 then ((k : Int), E k) else firstAt E (n - (k + 1)) (k + 1) := by
  obtain ⟨d, hd⟩ : ∃ d, n - k = d + 1 := ⟨n - k - 1, by omega⟩
  rw [hd, firstAt, show n - (k + 1) = d by omega]
theorem firstAt_zero {E : Nat → Int} : ∀ {n k : Nat}, (firstAt E n k).2 = 0 → ∀ i, k ≤ i → i < k + n → E i = 0
  | 0, k, _, i, h1, h2 => by omega
  | n + 1, k, h, i, h1, h2 => by
    rw [firstAt] at h
    by_cases hz : E k = 0
    · rw [if_neg (by simpa using hz)] at h
      rcases Nat.lt_or_ge k i with h3 | h3
      · exact firstAt_zero h i (by omega) (by omega)
      · obtain rfl : i = k := by omega
        exact hz
    · rw [if_pos hz] at h
      exact absurd h hz
theorem firstAt_fst {E : Nat → Int} : ∀ {n k : Nat}, (firstAt E n k).2 = 0 → (firstAt E n k).1 = 0
  | 0, k, _ => rfl
  | n + 1, k, h => by
    rw [firstAt] at h ⊢
    by_cases hz : E k = 0
    · rw [if_neg (by simpa using hz)] at h ⊢
      exact firstAt_fst h
    · rw [if_pos hz] at h
      exact absurd h hz

set_option maxRecDepth 100000 in
set_option maxHeartbeats 1000000 in
theorem firstError76_any {A : Option Addr} {n ca : Nat} {xs : List In} {w : World} {E : Nat → Int} {cp : Array Value} (hn : xs.length = n) (hA : RowsAt 4 In.enc w A xs)
    (hF : ∀ (i : Nat) (x : In) (W : World), xs[i]? = some x → Ext w W → Calls Try.prog 77 (#[.int .i64 (i : Int), .agg #[.int .i64 x.d, .int .i64 x.g, .int .i64 x.lo, .int .i64 x.hi]] ++ cp) W fun e w' => e = .returned (.int .i64 (E i)) ∧ Ext W w') :
    Calls Try.prog 76 #[.slice A n ca, .func (.func 77) #[] cp] w fun e w' => e = .returned (.tuple #[.int .i64 (firstAt E n 0).1, .int .i64 (firstAt E n 0).2]) ∧ Ext w w' := by
  have HN := Lib.hid hn
  have HA := Lib.hid hA
  have HF := Lib.hid hF
  have hnb : n ≤ 1152921504606846976 := by have := hA.1; omega
  clear hn hA hF
  go_enter Try.func76, Try.ntmps76
  go_wp2
  go_loopw [11] (fun i wr => ∃ k : Nat, k ≤ n ∧ i = .int .i64 k ∧ firstAt E n 0 = firstAt E (n - k) k ∧ Ext w wr) (fun i _ => n - (intOf i).toNat)
  case atStart => exact ⟨0, Nat.zero_le _, rfl, by rw [Nat.sub_zero], Ext.refl _⟩
  case round =>
    obtain ⟨k, hk, rfl, hr, hx⟩ := hrel
    have X := Lib.hid hx
    have R := Lib.hid hr
    clear hx hr
    by_cases hlt : k < n
    · have R2 := Lib.hid (R.out.trans (firstAt_step E hlt))
      clear R
      obtain ⟨x, hx⟩ : ∃ x, xs[k]? = some x := ⟨_, List.getElem?_eq_getElem (by rw [HN.out]; exact hlt)⟩
      obtain ⟨b, o, rfl, hb, hc⟩ := row_at (HA.out.ext X.out) hx
      have HX := Lib.hid hx
      have p0 := hc 0 _ rfl
      have p1 := hc 1 _ rfl
      have p2 := hc 2 _ rfl
      have p3 := hc 3 _ rfl
      simp only [Nat.add_zero] at p0
      have HC := Lib.hid (fun W (e : Ext w W) => HF.out k x W HX.out e)
      clear hc hx
      have hki : (k : Int) < (n : Int) := by omega
      by_cases hz : E k = 0
      · have hz2 : (E k != 0) = false := by simp [hz]
        have HZ := Lib.hid hz
        clear hz
        generalize hE : E k = z at *
        have HE := Lib.hid hE
        clear hE
        go_wp2_with (go_at_call 77; refine (HC.out _ (X.out.trans (Ext.alloc _ _))).mono ?_; rintro e W1 ⟨rfl, hx⟩; have X1 := Lib.hid ((X.out.trans (Ext.alloc _ _)).trans hx); clear hx)
        go_roundw
        case rel => exact ⟨k + 1, by omega, by go_num, by rw [R2.out, if_neg (by simpa using HZ.out)], X1.out⟩
        case measure => simp [intOf]; omega
      · have hz2 : (E k != 0) = true := by simp [hz]
        have HZ := Lib.hid hz
        clear hz
        generalize hE : E k = z at *
        have HE := Lib.hid hE
        clear hE
        go_wp2_with (go_at_call 77; refine (HC.out _ (X.out.trans (Ext.alloc _ _))).mono ?_; rintro e W1 ⟨rfl, hx⟩; have X1 := Lib.hid ((X.out.trans (Ext.alloc _ _)).trans hx); clear hx)
        go_ret2
        exact ⟨ret_two (by rw [R2.out, if_pos HZ.out]) (by rw [R2.out, if_pos HZ.out]), X1.out⟩
    · have R2 := Lib.hid (show firstAt E n 0 = (0, 0) by rw [R.out, show n - k = 0 by omega]; rfl)
      have hkn : ¬ (k : Int) < (n : Int) := by omega
      go_wp2
      go_ret2
      exact ⟨ret_two (by rw [R2.out]) (by rw [R2.out]), X.out⟩

def indE (b : Bool) (x : In) : Int := firstE [rangeE 1 10000 [x.d, x.g], rangeE 0 2000 [x.lo, x.hi], errIf (decide (x.hi < x.lo)) 9, errIf b 17]
set_option maxRecDepth 100000 in
set_option maxHeartbeats 1000000 in
theorem indErr_any {A : Option Addr} {n ca i tb to : Nat} {xs : List In} {x : In} {w : World} (hn : xs.length = n) (hA : RowsAt 4 In.enc w A xs) (ht : w.cell? ⟨tb, to, none⟩ = some (.slice A n ca)) (hx : xs[i]? = some x) :
    Calls Try.prog 77 #[.int .i64 (i : Int), .agg #[.int .i64 x.d, .int .i64 x.g, .int .i64 x.lo, .int .i64 x.hi], .pointer (some ⟨tb, to, none⟩)] w fun e w' => e = .returned (.int .i64 (indE (distK xs i) x)) ∧ Ext w w' := by
  have HD := Lib.hid (fun W (e : Ext w W) => show Calls Try.prog 82 #[.slice A n ca, .int .i64 (i : Int)] W fun e w' => e = .returned (.bool (distK xs i)) ∧ Ext W w' from by
    have hi : i < n := by have := (List.getElem?_eq_some_iff.1 hx).1; omega
    cases i with
    | zero => exact dist_first hn (hA.ext e) hi
    | succ i => exact dist_next hn (hA.ext e) hi)
  have HE := Lib.hid (show indE (distK xs i) x = firstE [rangeE 1 10000 [x.d, x.g], rangeE 0 2000 [x.lo, x.hi], errIf (decide (x.hi < x.lo)) 9, errIf (distK xs i) 17] from rfl)
  generalize distK xs i = bd at *
  clear hn hA hx
  obtain ⟨W0, hW0⟩ : ∃ W0, W0 = w.alloc (.cells #[.int .i64 x.d, .int .i64 x.g, .int .i64 x.lo, .int .i64 x.hi] 43) := ⟨_, rfl⟩
  have k0 : Blk W0 w.heap.size 43 #[.int .i64 x.d, .int .i64 x.g, .int .i64 x.lo, .int .i64 x.hi] := by rw [hW0]; exact Blk.new _ _ _
  have E0 := Lib.hid (show Ext w W0 by rw [hW0]; exact Ext.alloc _ _)
  have yt : W0.cell? ⟨tb, to, none⟩ = some (.slice A n ca) := E0.out.cell ht
  have y0 : W0.cell? ⟨w.heap.size, 0, none⟩ = some (.int .i64 (x.d)) := k0.cell 0
  have y1 : W0.cell? ⟨w.heap.size, 1, none⟩ = some (.int .i64 (x.g)) := k0.cell 1
  have y2 : W0.cell? ⟨w.heap.size, 2, none⟩ = some (.int .i64 (x.lo)) := k0.cell 2
  have y3 : W0.cell? ⟨w.heap.size, 3, none⟩ = some (.int .i64 (x.hi)) := k0.cell 3
  clear k0 ht
  go_enter Try.func77, Try.ntmps77
  go_wp2
  rw [← hW0]
  clear hW0
  go_wp2
  refine wp_region_each [some 6, some 7, some 8, some 9, some 10, some 11, some 12, some 13, some 14, some 15, some 16, some 17, some 18, some 19, some 20, some 21, some 22, some 23, some 24, some 25, some 26, some 27, some 28, some 29, some 5] [[4], [6], [4], [8], [7, 9], [10], [4], [12], [13], [4], [15], [16], [14, 17], [18], [4], [20], [21], [2], [23], [0], [24, 25], [26], [11, 19, 22, 27], [28], [29]]
    [Is (.pointer (some ⟨w.heap.size, 0, none⟩)), Is (.int .i64 (x.d)), Is (.pointer (some ⟨w.heap.size, 1, none⟩)), Is (.int .i64 (x.g)), Ints [x.d, x.g], Is (.int .i64 (rangeE (1) (10000) [x.d, x.g])), Is (.pointer (some ⟨w.heap.size, 2, none⟩)), Is (.pointer (some ⟨w.heap.size, 2, none⟩)), Is (.int .i64 (x.lo)), Is (.pointer (some ⟨w.heap.size, 2, none⟩)), Is (.pointer (some ⟨w.heap.size, 3, none⟩)), Is (.int .i64 (x.hi)), Ints [x.lo, x.hi], Is (.int .i64 (rangeE (0) (2000) [x.lo, x.hi])), Is (.pointer (some ⟨w.heap.size, 2, none⟩)), Is (.agg #[.int .i64 (x.lo), .int .i64 (x.hi)]), Is (.int .i64 (errIf (decide (x.hi < x.lo)) 9)), Is (.pointer (some ⟨tb, to, none⟩)), Is (.slice A n ca), Is (.int .i64 ((i : Int))), Is (.bool (bd)), Is (.int .i64 (errIf (bd) 17)), Ints [rangeE (1) (10000) [x.d, x.g], rangeE (0) (2000) [x.lo, x.hi], errIf (decide (x.hi < x.lo)) 9, errIf (bd) 17], Is (.int .i64 (firstE [rangeE (1) (10000) [x.d, x.g], rangeE (0) (2000) [x.lo, x.hi], errIf (decide (x.hi < x.lo)) 9, errIf (bd) 17])), Is (.int .i64 (firstE [rangeE (1) (10000) [x.d, x.g], rangeE (0) (2000) [x.lo, x.hi], errIf (decide (x.hi < x.lo)) 9, errIf (bd) 17]))]
    (by kernel_rfl) (by kernel_rfl) (by kernel_rfl) (by kernel_rfl) (by kernel_rfl) Ext (fun W => Ext W0 W)
    (fun W _ => Ext.refl W) (fun W W' h k => h.trans k) ?_ (Ext.drew _) ?_ ?_
  · repeat (refine ⟨fun _ _ _ _ k h => (by first | exact h | exact (IntsAt.ext h k)), ?_⟩)
    exact trivial
  · refine ⟨?_, ?_, ?_, ?_, ?_, ?_, ?_, ?_, ?_, ?_, ?_, ?_, ?_, ?_, ?_, ?_, ?_, ?_, ?_, ?_, ?_, ?_, ?_, ?_, ?_, trivial⟩
    all_goals intro ρ W ⟨kc, kg, kf⟩ hF hs
    · obtain ⟨h0, -⟩ := hs
      replace h0 : ρ (.tmp 4) = .pointer (some ⟨w.heap.size, 0, none⟩) := h0
      go_simp
      exact ⟨Ext.refl _, rfl⟩
    · obtain ⟨h0, -⟩ := hs
      replace h0 : ρ (.tmp 6) = .pointer (some ⟨w.heap.size, 0, none⟩) := h0
      have hc0 : W.cell? ⟨w.heap.size, 0, none⟩ = some (.int .i64 (x.d)) := hF.cell (by assumption)
      go_simp
      exact ⟨Ext.refl _, rfl⟩
    · obtain ⟨h0, -⟩ := hs
      replace h0 : ρ (.tmp 4) = .pointer (some ⟨w.heap.size, 0, none⟩) := h0
      go_simp
      exact ⟨Ext.refl _, rfl⟩
    · obtain ⟨h0, -⟩ := hs
      replace h0 : ρ (.tmp 8) = .pointer (some ⟨w.heap.size, 1, none⟩) := h0
      have hc0 : W.cell? ⟨w.heap.size, 1, none⟩ = some (.int .i64 (x.g)) := hF.cell (by assumption)
      go_simp
      exact ⟨Ext.refl _, rfl⟩
    · obtain ⟨h0, h1, -⟩ := hs
      replace h0 : ρ (.tmp 7) = .int .i64 (x.d) := h0
      replace h1 : ρ (.tmp 9) = .int .i64 (x.g) := h1
      go_simp
      exact ⟨Ext.alloc _ _, ints_new _ [x.d, x.g] _ (by simp)⟩
    · obtain ⟨h0, -⟩ := hs
      replace h0 : (Ints [x.d, x.g]) (ρ (.tmp 10)) W := h0
      go_simp
      refine (rangeError_any _ _ _ _ _ h0).mono ?_; rintro e w' ⟨rfl, hx⟩; exact ⟨_, rfl, hx, rfl⟩
    · obtain ⟨h0, -⟩ := hs
      replace h0 : ρ (.tmp 4) = .pointer (some ⟨w.heap.size, 0, none⟩) := h0
      go_simp
      exact ⟨Ext.refl _, rfl⟩
    · obtain ⟨h0, -⟩ := hs
      replace h0 : ρ (.tmp 12) = .pointer (some ⟨w.heap.size, 2, none⟩) := h0
      go_simp
      exact ⟨Ext.refl _, rfl⟩
    · obtain ⟨h0, -⟩ := hs
      replace h0 : ρ (.tmp 13) = .pointer (some ⟨w.heap.size, 2, none⟩) := h0
      have hc0 : W.cell? ⟨w.heap.size, 2, none⟩ = some (.int .i64 (x.lo)) := hF.cell (by assumption)
      go_simp
      exact ⟨Ext.refl _, rfl⟩
    · obtain ⟨h0, -⟩ := hs
      replace h0 : ρ (.tmp 4) = .pointer (some ⟨w.heap.size, 0, none⟩) := h0
      go_simp
      exact ⟨Ext.refl _, rfl⟩
    · obtain ⟨h0, -⟩ := hs
      replace h0 : ρ (.tmp 15) = .pointer (some ⟨w.heap.size, 2, none⟩) := h0
      go_simp
      exact ⟨Ext.refl _, rfl⟩
    · obtain ⟨h0, -⟩ := hs
      replace h0 : ρ (.tmp 16) = .pointer (some ⟨w.heap.size, 3, none⟩) := h0
      have hc0 : W.cell? ⟨w.heap.size, 3, none⟩ = some (.int .i64 (x.hi)) := hF.cell (by assumption)
      go_simp
      exact ⟨Ext.refl _, rfl⟩
    · obtain ⟨h0, h1, -⟩ := hs
      replace h0 : ρ (.tmp 14) = .int .i64 (x.lo) := h0
      replace h1 : ρ (.tmp 17) = .int .i64 (x.hi) := h1
      go_simp
      exact ⟨Ext.alloc _ _, ints_new _ [x.lo, x.hi] _ (by simp)⟩
    · obtain ⟨h0, -⟩ := hs
      replace h0 : (Ints [x.lo, x.hi]) (ρ (.tmp 18)) W := h0
      go_simp
      refine (rangeError_any _ _ _ _ _ h0).mono ?_; rintro e w' ⟨rfl, hx⟩; exact ⟨_, rfl, hx, rfl⟩
    · obtain ⟨h0, -⟩ := hs
      replace h0 : ρ (.tmp 4) = .pointer (some ⟨w.heap.size, 0, none⟩) := h0
      go_simp
      exact ⟨Ext.refl _, rfl⟩
    · obtain ⟨h0, -⟩ := hs
      replace h0 : ρ (.tmp 20) = .pointer (some ⟨w.heap.size, 2, none⟩) := h0
      have hc0 : W.cell? ⟨w.heap.size, 2, none⟩ = some (.int .i64 (x.lo)) := hF.cell (by assumption)
      have hc1 : W.cell? ⟨w.heap.size, 3, none⟩ = some (.int .i64 (x.hi)) := hF.cell (by assumption)
      go_simp
      exact ⟨Ext.refl _, rfl⟩
    · obtain ⟨h0, -⟩ := hs
      replace h0 : ρ (.tmp 21) = .agg #[.int .i64 (x.lo), .int .i64 (x.hi)] := h0
      go_simp
      refine (orderError_any _ _ _).mono ?_; rintro e w' ⟨rfl, hx⟩; exact ⟨_, rfl, hx, rfl⟩
    · obtain ⟨h0, -⟩ := hs
      replace h0 : ρ (.tmp 2) = .pointer (some ⟨tb, to, none⟩) := h0
      go_simp
      exact ⟨Ext.refl _, rfl⟩
    · obtain ⟨h0, -⟩ := hs
      replace h0 : ρ (.tmp 23) = .pointer (some ⟨tb, to, none⟩) := h0
      have hc0 : W.cell? ⟨tb, to, none⟩ = some (.slice A n ca) := hF.cell (by assumption)
      go_simp
      exact ⟨Ext.refl _, rfl⟩
    · obtain ⟨h0, -⟩ := hs
      replace h0 : ρ (.tmp 0) = .int .i64 ((i : Int)) := h0
      go_simp
      exact ⟨Ext.refl _, rfl⟩
    · obtain ⟨h0, h1, -⟩ := hs
      replace h0 : ρ (.tmp 24) = .slice A n ca := h0
      replace h1 : ρ (.tmp 25) = .int .i64 ((i : Int)) := h1
      go_simp
      refine (HD.out _ (E0.out.trans hF)).mono ?_; rintro e w' ⟨rfl, hx⟩; exact ⟨_, rfl, hx, rfl⟩
    · obtain ⟨h0, -⟩ := hs
      replace h0 : ρ (.tmp 26) = .bool (bd) := h0
      go_simp
      refine (errorIf_any _ _ _).mono ?_; rintro e w' ⟨rfl, rfl⟩; exact ⟨_, rfl, Ext.refl _, rfl⟩
    · obtain ⟨h0, h1, h2, h3, -⟩ := hs
      replace h0 : ρ (.tmp 11) = .int .i64 (rangeE (1) (10000) [x.d, x.g]) := h0
      replace h1 : ρ (.tmp 19) = .int .i64 (rangeE (0) (2000) [x.lo, x.hi]) := h1
      replace h2 : ρ (.tmp 22) = .int .i64 (errIf (decide (x.hi < x.lo)) 9) := h2
      replace h3 : ρ (.tmp 27) = .int .i64 (errIf (bd) 17) := h3
      go_simp
      exact ⟨Ext.alloc _ _, ints_new _ [rangeE (1) (10000) [x.d, x.g], rangeE (0) (2000) [x.lo, x.hi], errIf (decide (x.hi < x.lo)) 9, errIf (bd) 17] _ (by simp)⟩
    · obtain ⟨h0, -⟩ := hs
      replace h0 : (Ints [rangeE (1) (10000) [x.d, x.g], rangeE (0) (2000) [x.lo, x.hi], errIf (decide (x.hi < x.lo)) 9, errIf (bd) 17]) (ρ (.tmp 28)) W := h0
      go_simp
      refine (firstOf_any _ _ _ h0).mono ?_; rintro e w' ⟨rfl, rfl⟩; exact ⟨_, rfl, Ext.refl _, rfl⟩
    · obtain ⟨h0, -⟩ := hs
      replace h0 : ρ (.tmp 29) = .int .i64 (firstE [rangeE (1) (10000) [x.d, x.g], rangeE (0) (2000) [x.lo, x.hi], errIf (decide (x.hi < x.lo)) 9, errIf (bd) 17]) := h0
      go_simp
      exact ⟨Ext.refl _, rfl⟩
  · intro fv W hF hs
    obtain ⟨-, -, -, -, -, -, -, -, -, -, -, -, -, -, -, -, -, -, -, -, -, -, -, -, h5, -⟩ := hs
    replace h5 : fv 5 = .int .i64 (firstE [rangeE (1) (10000) [x.d, x.g], rangeE (0) (2000) [x.lo, x.hi], errIf (decide (x.hi < x.lo)) 9, errIf (bd) 17]) := h5
    simp only [fin, List.filterMap]
    go_simp
    go_wp2
    go_ret
    exact ⟨ret_int HE.out.symm, E0.out.trans hF⟩
/-- The error of each indent, and of a traverse. -/
def indAt (xs : List In) (i : Nat) : Int := indE (distK xs i) (xs.getD i default)
def checkT (xs : List In) : Int × Int := if countE xs.length 2 20 ≠ 0 then (0, countE xs.length 2 20) else firstAt (indAt xs) xs.length 0
set_option maxRecDepth 100000 in
set_option maxHeartbeats 1000000 in
theorem checkTraverse_any {A : Option Addr} {n ca : Nat} {xs : List In} {w : World} (hn : xs.length = n) (hA : RowsAt 4 In.enc w A xs) :
    Calls Try.prog 15 #[.agg #[.slice A n ca]] w fun e w' => e = .returned (.tuple #[.int .i64 (checkT xs).1, .int .i64 (checkT xs).2]) ∧ Ext w w' := by
  have hnb : n ≤ 1152921504606846976 := by have := hA.1; omega
  have HT := Lib.hid (show checkT xs = if countE n 2 20 ≠ 0 then (0, countE n 2 20) else firstAt (indAt xs) n 0 by rw [← hn]; rfl)
  obtain ⟨W0, hW0⟩ : ∃ W0, W0 = w.alloc (.cells #[.slice A n ca] 24) := ⟨_, rfl⟩
  have k0 : Blk W0 w.heap.size 24 #[.slice A n ca] := by rw [hW0]; exact Blk.new _ _ _
  have E0 := Lib.hid (show Ext w W0 by rw [hW0]; exact Ext.alloc _ _)
  have y0 : W0.cell? ⟨w.heap.size, 0, none⟩ = some (.slice A n ca) := k0.cell 0
  have K0 := Lib.hid k0
  have HFE := Lib.hid (fun W (e : Ext W0 W) => firstError76_any (ca := ca) (E := indAt xs) (cp := #[.pointer (some ⟨w.heap.size, 0, none⟩)]) hn (hA.ext (E0.out.trans e)) (fun i x W2 hx e2 => by
    have := indErr_any (ca := ca) (i := i) (tb := w.heap.size) (to := 0) hn (hA.ext (E0.out.trans (e.trans e2))) ((e.trans e2).cell (K0.out.cell 0)) hx
    have hd : xs.getD i default = x := by simp [hx]
    unfold indAt
    rw [hd]
    exact this))
  generalize firstAt (indAt xs) n 0 = fa at *
  clear k0 hA hn
  by_cases hz : countE n 2 20 = 0
  · have hz2 : (countE n 2 20 != 0) = false := by simp [hz]
    have HZ := Lib.hid hz
    clear hz
    have HC := Lib.hid (fun W => countError_any n 2 20 W)
    generalize countE n 2 20 = z at *
    go_enter Try.func15, Try.ntmps15
    go_wp2_with (fail)
    rw [← hW0]
    clear hW0
    go_wp2_with (go_at_call 75; refine (HC.out _).mono ?_; rintro e W1 ⟨rfl, hx⟩; have X1 := Lib.hid hx; have z0 := X1.out.cell y0; clear hx; refine Hid.out ?_)
    refine Lib.hid ?_
    go_wp2_with (go_at_call 76; refine (HFE.out _ X1.out).mono ?_; rintro e W2 ⟨rfl, hx⟩; have X2 := Lib.hid hx; clear hx)
    go_ret2
    exact ⟨ret_two (by rw [HT.out, if_neg (by simpa using HZ.out)]) (by rw [HT.out, if_neg (by simpa using HZ.out)]), E0.out.trans (X1.out.trans X2.out)⟩
  · have hz2 : (countE n 2 20 != 0) = true := by simp [hz]
    have HZ := Lib.hid hz
    clear hz
    have HC := Lib.hid (fun W => countError_any n 2 20 W)
    generalize countE n 2 20 = z at *
    go_enter Try.func15, Try.ntmps15
    go_wp2_with (fail)
    rw [← hW0]
    clear hW0
    go_wp2_with (go_at_call 75; refine (HC.out _).mono ?_; rintro e W1 ⟨rfl, hx⟩; have X1 := Lib.hid hx; have z0 := X1.out.cell y0; clear hx; refine Hid.out ?_)
    refine Lib.hid ?_
    go_wp2
    go_ret2
    exact ⟨ret_two (by rw [HT.out, if_pos HZ.out]) (by rw [HT.out, if_pos HZ.out]), E0.out.trans X1.out⟩
set_option maxRecDepth 100000 in
theorem traverseError_any {A : Option Addr} {n ca : Nat} {xs : List In} {w : World} (hn : xs.length = n) (hA : RowsAt 4 In.enc w A xs) :
    Calls Try.prog 83 #[.agg #[.slice A n ca]] w fun e w' => e = .returned (.int .i64 (checkT xs).2) ∧ Ext w w' := by
  have HC := Lib.hid (fun W (e : Ext w W) => checkTraverse_any (ca := ca) hn (hA.ext e))
  clear hn hA
  go_enter Try.func83, Try.ntmps83
  go_wp2_with (go_at_call 15; refine (HC.out _ (Ext.alloc _ _)).mono ?_; rintro e W1 ⟨rfl, hx⟩; have X1 := Lib.hid hx; clear hx)
  go_ret
  exact ⟨rfl, (Ext.alloc _ _).trans X1.out⟩

end Go.Proofs.Ytmddnpagfgilcaa
