/- Depths, quotients rounded down, shares, the reference solved. -/
import Derived.Test.YtpaoeghdfeekoaaME
import Derived.Test.YtpaoeghdfeekoaaMA

/- DepthFor; the error of a total; quotients rounded down, and compared. -/
namespace Go.Proofs.Ytpaoeghdfeekoaa
open Go.RowKit Go.Shelf Go.Mem Go.RegInv

theorem totalErr_any (x : Int) (w : World) : Calls Try.prog 49 #[.int .i64 x] w fun e w' => e = .returned (.int .i64 (rangeE 0 100000 [x])) ∧ w = w' := by
  cases hb : inB 0 100000 x
  · have HB := Lib.hid hb
    have HR := Lib.hid (show rangeE 0 100000 [x] = 2 by rw [rangeE_one, hb]; rfl)
    clear hb
    generalize rangeE 0 100000 [x] = r at *
    go_enter Try.func49, Try.ntmps49
    go_wp2_with (go_at_call 40; refine (within_any _ _ _ _).mono ?_; rintro e w' ⟨rfl, rfl⟩; rw [HB.out])
    go_ret
    exact ⟨ret_int HR.out.symm, rfl⟩
  · have HB := Lib.hid hb
    have HR := Lib.hid (show rangeE 0 100000 [x] = 0 by rw [rangeE_one, hb]; rfl)
    clear hb
    generalize rangeE 0 100000 [x] = r at *
    go_enter Try.func49, Try.ntmps49
    go_wp2_with (go_at_call 40; refine (within_any _ _ _ _).mono ?_; rintro e w' ⟨rfl, rfl⟩; rw [HB.out])
    go_ret
    exact ⟨ret_int HR.out.symm, rfl⟩

def depE (t : Int) (ls : List Sh) (f : Int) (m : Nat) (pc : Int) : Int := firstE [driveE t ls f m, rangeE 1 100 [pc]]

set_option maxRecDepth 100000 in
theorem depthFor_any (t : Int) (A : Option Addr) (n cap : Nat) (l : List Sh) (hn : l.length = n) (f : Int) (B : Option Addr) (m cap' : Nat) (hot : List Bool) (hm : hot.length = m) (pc : Int) (w : World)
    (hS : LadAt w A l) (hH : RowsAt 1 boolEnc w B hot) :
    Calls Try.prog 43 #[.agg #[.int .i64 t, .slice A n cap], .agg #[.int .i64 f, .slice B m cap'], .int .i64 pc] w fun e w' => Ext w w' ∧
      ((depE t l f m pc ≠ 0 ∧ e = .returned (.tuple #[.int .i64 0, .int .i64 (depE t l f m pc)])) ∨
       (depE t l f m pc = 0 ∧ ∃ d : Nat, e = .returned (.tuple #[.int .i64 (d : Int), .int .i64 0]) ∧ IsDepth (powers f hot l) pc d)) := by
  have HC := Lib.hid (fun W h => checkDrive_any t A n cap l hn f B m cap' W h)
  have e0 : Ext w ((w.alloc (.cells #[.int .i64 t, .slice A n cap] 24)).alloc (.cells #[.int .i64 f, .slice B m cap'] 27)) := (Ext.alloc _ _).trans (Ext.alloc _ _)
  have HS := Lib.hid hS
  have HH := Lib.hid hH
  have HN := Lib.hid hn
  have HM := Lib.hid hm
  have HE := Lib.hid (show depE t l f m pc = firstE [driveE t l f m, rangeE 1 100 [pc]] from rfl)
  clear hn hS hm hH
  have FA := Lib.hid (show ∀ W : World, Ext ((w.alloc (.cells #[.int .i64 t, .slice A n cap] 24)).alloc (.cells #[.int .i64 f, .slice B m cap'] 27)) W →
      W.cell? ⟨w.heap.size, 0, none⟩ = some (.int .i64 t) ∧ W.cell? ⟨w.heap.size, 1, none⟩ = some (.slice A n cap) ∧ W.cell? ⟨w.heap.size + 1, 0, none⟩ = some (.int .i64 f) ∧ W.cell? ⟨w.heap.size + 1, 1, none⟩ = some (.slice B m cap') from
    fun W hx => ⟨hx.cell (by go_simp), hx.cell (by go_simp), hx.cell (by go_simp), hx.cell (by go_simp)⟩)
  by_cases hq : depE t l f m pc = 0
  · obtain ⟨hq1, hq2⟩ : driveE t l f m = 0 ∧ rangeE 1 100 [pc] = 0 := by
      have := (firstE_zero _).1 hq
      exact ⟨this _ (by simp), this _ (by simp)⟩
    obtain ⟨⟨_, ⟨h1, h4⟩, hok⟩, hf, hml⟩ := (driveE_zero t l f m).1 hq1
    have ht := (rangeE_zero 1 100 [pc]).1 hq2 pc (by simp)
    obtain rfl : n = m := by rw [hml, ← HN.out]
    rw [HN.out] at h1 h4
    have HP := Lib.hid (fun W (e : Ext w W) => powersOf_any t A n cap l HN.out f B cap' hot HM.out W (HS.out.1.ext e) (HH.out.ext e) hok hf h1 h4)
    have HIT := Lib.hid (fun W (e : Ext w W) v => powers_at_w (cap := cap) HN.out (hot := hot) hok hf h1 h4 (HS.out.ext e) (v := v))
    have HOK := Lib.hid (powers_ok (hot := hot) hok hf (by rw [HN.out]; exact h1) (by rw [HN.out]; exact h4))
    have HT := Lib.hid ht
    have HQ := Lib.hid hq
    have HPL := Lib.hid (powers_len f hot l)
    have hn4 : n ≤ 1000 := by omega
    have HQ1 := Lib.hid hq1
    have HQ2 := Lib.hid hq2
    clear h1 h4 hok hf hml hq hq1 hq2 ht
    rw [HQ1.out] at HC
    have HFF := Lib.hid (show firstE [0, 0] = 0 from rfl)
    go_enter Try.func43, Try.ntmps43
    go_wp2_with (first
      | (go_at_call 20; refine (HC.out _ (HS.out.1.ext e0)).mono ?_; rintro e W1 ⟨rfl, hx1⟩)
      | (go_at_call 103; refine (percentError_any pc _).mono ?_; rintro e W2 ⟨rfl, hx2⟩; rw [HQ2.out]; have hx3 := Lib.hid ((hx1.trans hx2).trans (Ext.alloc W2 (.cells #[.int .i64 0, .int .i64 0] 31))))
      | (go_at_call 83; refine (firstOf_any _ [0, 0] _ (ints_new _ [0, 0] _ (by simp))).mono ?_; rintro e W3 ⟨rfl, rfl⟩; rw [HFF.out]; obtain ⟨z0, z1, z2, z3⟩ := FA.out _ hx3.out)
      | (go_at_call 96; refine (HP.out _ (e0.trans hx3.out)).mono ?_; rintro e W4 ⟨v4, rfl, hv4, hx4⟩; obtain ⟨first, rfl, hit⟩ := HIT.out _ (e0.trans (hx3.out.trans hx4)) _ hv4)
      | (go_at_call 104; refine (callsIn_wide.1 (depthOf_in 130 first #[] eg130 (powers f hot l) n (by rw [HPL.out, HN.out]) hn4 pc _ hit HT.out HOK.out.sum HOK.out.part)).mono ?_; rintro e W5 ⟨d, rfl, hd, hx5⟩; have HD := Lib.hid hd; have X5 := Lib.hid hx5; clear hd hx5))
    go_ret2
    exact ⟨e0.trans (hx3.out.trans (hx4.trans X5.out)), .inr ⟨HQ.out, d, rfl, HD.out⟩⟩
  · have HQ := Lib.hid hq
    have hq' : (depE t l f m pc != 0) = true := by simp [hq]
    clear hq
    generalize depE t l f m pc = r at HE HQ hq' ⊢
    generalize driveE t l f m = q1 at HC HE
    go_enter Try.func43, Try.ntmps43
    go_wp2_with (first
      | (go_at_call 20; refine (HC.out _ (HS.out.1.ext e0)).mono ?_; rintro e W1 ⟨rfl, hx1⟩)
      | (go_at_call 103; refine (percentError_any pc _).mono ?_; rintro e W2 ⟨rfl, hx2⟩; generalize rangeE 1 100 [pc] = q2 at HE ⊢)
      | (go_at_call 83; refine (firstOf_any _ [q1, q2] _ (ints_new _ [q1, q2] _ (by simp))).mono ?_; rintro e W3 ⟨rfl, rfl⟩; rw [← HE.out]))
    go_ret2
    exact ⟨e0.trans ((hx1.trans hx2).trans (Ext.alloc _ _)), .inl ⟨HQ.out, rfl⟩⟩

theorem depthFor_V {t : Int} {xs : List Sh} {f : Int} {hot : List Bool} {m : Nat} (hm : hot.length = m) (pc : Int) (hq : driveE t xs f m = 0) (hp : rangeE 1 100 [pc] = 0) (W : World) (u v : Value) (h : LadV t xs u W) (k : DrvV f hot v W) :
    Calls Try.prog 43 #[u, v, .int .i64 pc] W (VPost W (TupV (fun u _ => ∃ d : Nat, u = .int .i64 (d : Int) ∧ IsDepth (powers f hot xs) pc d) 0)) := by
  obtain ⟨A, n, c, hn, rfl, hl⟩ := h
  obtain ⟨B, m', d, hm', rfl, hd⟩ := k
  obtain rfl : m = m' := hm.symm.trans hm'.out
  have h0 : depE t xs f m pc = 0 := by unfold depE; rw [hq, hp]; rfl
  refine (depthFor_any t A n c xs hn.out f B m d hot hm pc W hl hd).mono ?_
  rintro e w' ⟨hx, ⟨h1, _⟩ | ⟨_, d, h2, h3⟩⟩
  · exact absurd h0 h1
  · exact ⟨_, h2, hx, _, rfl, d, rfl, h3⟩

theorem wattsIn_V {t : Int} {xs : List Sh} {f : Int} {hot : List Bool} {n m : Nat} (hn : xs.length = n) (hm : hot.length = m) (total : Int) (hq : driveE t xs f m = 0) (hp : rangeE 0 100000 [total] = 0) (W : World) (u v : Value) (h : LadV t xs u W) (k : DrvV f hot v W) :
    Calls Try.prog 42 #[u, v, .int .i64 total] W (VPost W (TupV (Ints (wattsL total (powers f hot xs) n)) 0)) := by
  obtain ⟨A, n', c, hn', rfl, hl⟩ := h
  obtain ⟨B, m', d, hm', rfl, hd⟩ := k
  obtain rfl : m = m' := hm.symm.trans hm'.out
  obtain rfl : n = n' := hn.symm.trans hn'.out
  have h0 : wattsE t xs f m total = 0 := by unfold wattsE; rw [hq, hp]; rfl
  refine (wattsIn_any t A n c xs hn f B m d hot hm total W hl hd).mono ?_
  rintro e w' ⟨hx, ⟨h1, _⟩ | ⟨_, v, h2, h3⟩⟩
  · exact absurd h0 h1
  · exact ⟨_, h2, hx, _, rfl, h3⟩

/-! The mathematics of whole watts. -/

theorem depth_pos {l : List Int} {pc : Int} {d : Nat} (hp : 1 ≤ pc) (hs : 0 < l.sum) (h : IsDepth l pc d) : 1 ≤ d := by
  obtain ⟨h1, _, h3⟩ := h
  rcases Nat.eq_zero_or_pos d with h0 | h0
  · subst h0
    by_cases hl : 0 < l.length
    · have := h3 hl
      simp at this
      have h5 := Int.mul_pos (show 0 < pc by omega) hs
      omega
    · have : l = [] := List.eq_nil_of_length_eq_zero (by omega)
      rw [this] at hs; simp at hs
  · exact h0
theorem depth_mono {l : List Int} {p q : Int} {d e : Nat} (hpq : p ≤ q) (hs : 0 < l.sum) (h : IsDepth l p d) (k : IsDepth l q e) : d ≤ e := by
  obtain ⟨h1, h2, _⟩ := h
  obtain ⟨k1, _, k3⟩ := k
  refine Nat.le_of_not_lt fun hlt => ?_
  have a := h2 e hlt
  have b := k3 (by omega)
  have c := Int.mul_le_mul_of_nonneg_right hpq (show 0 ≤ l.sum by omega)
  omega
theorem depth_all {l : List Int} {d : Nat} (hlast : ∀ k, k < l.length → (l.take k).sum < l.sum) (h : IsDepth l 100 d) : d = l.length := by
  obtain ⟨h1, _, h3⟩ := h
  rcases Nat.lt_or_ge d l.length with hlt | hge
  · have := h3 hlt
    have := hlast d hlt
    omega
  · omega

theorem sum_watts (total : Int) (l : List Int) : ∀ n, (wattsL total l n).sum = upTo total l n - upTo total l 0
  | 0 => by simp [wattsL]
  | n + 1 => by rw [wattsL_succ, List.sum_append, sum_watts total l n]; simp; omega
theorem upTo_zero (total : Int) (l : List Int) : upTo total l 0 = 0 := by simp [upTo]
theorem upTo_all (total : Int) (l : List Int) (hs : 0 < l.sum) : upTo total l l.length = total := by
  unfold upTo
  rw [List.take_length, Int.mul_ediv_cancel _ (by omega)]

end Go.Proofs.Ytpaoeghdfeekoaa

/- Quotients rounded down, and compared. -/
namespace Go.Proofs.Ytpaoeghdfeekoaa
open Go.RowKit Go.Shelf Go.Mem Go.RegInv

theorem floor_unique {n b q : Int} (hb : 0 < b) (h1 : q * b ≤ n) (h2 : n < (q + 1) * b) : n / b = q := by
  have a := Int.le_ediv_of_mul_le hb h1
  have c := Int.ediv_lt_of_lt_mul hb h2
  omega

/-- Go's quotient of a negative number, and what is left of it. -/
theorem neg_parts {n b : Int} (hb : 0 < b) (hn : n < 0) : ∃ q r, n.tdiv b = q ∧ n.tmod b = r ∧ r ≤ 0 ∧ -b < r ∧ n = q * b + r ∧ n ≤ q ∧ q ≤ 0 := by
  obtain ⟨a, ha⟩ : ∃ a, n = -a := ⟨-n, by omega⟩
  have ha0 : 0 ≤ a := by omega
  subst ha
  refine ⟨-(a / b), -(a % b), ?_, ?_, ?_, ?_, ?_, ?_, ?_⟩
  · rw [Int.neg_tdiv, Int.tdiv_eq_ediv_of_nonneg ha0]
  · rw [Int.neg_tmod, Int.tmod_eq_emod_of_nonneg ha0]
  · have := Int.emod_nonneg a (show b ≠ 0 by omega); omega
  · have := Int.emod_lt_of_pos a hb; omega
  · have := Int.emod_add_mul_ediv a b
    rw [Int.neg_mul, Int.mul_comm (a / b) b]; omega
  · have := Int.ediv_le_self b ha0; omega
  · have := Int.ediv_nonneg ha0 (show 0 ≤ b by omega); omega

set_option maxHeartbeats 1000000 in
theorem floor_any (n b : Int) (hb : 0 < b ∧ b ≤ 5000000000000000000) (hn : -5000000000000000000 ≤ n ∧ n ≤ 5000000000000000000) (w : World) :
    Calls Try.prog 107 #[.int .i64 n, .int .i64 b] w fun e w' => e = .returned (.int .i64 (n / b)) ∧ w = w' := by
  obtain ⟨hb1, hb2⟩ := hb
  obtain ⟨hn1, hn2⟩ := hn
  by_cases h0 : 0 ≤ n
  · have h1 := Int.emod_nonneg n (show b ≠ 0 by omega)
    have h2 := Int.ediv_nonneg h0 (show 0 ≤ b by omega)
    have h3 := Int.ediv_le_self b h0
    have h4 : decide (n % b < 0) = false := by simp; omega
    go_enter Try.func107, Try.ntmps107
    go_wp2
    go_ret
    exact ⟨rfl, rfl⟩
  · obtain ⟨q, r, hq, hr, r0, rb, he, hnq, hq0⟩ := neg_parts hb1 (show n < 0 by omega)
    by_cases hrz : r = 0
    · have HF := Lib.hid (show n / b = q from floor_unique hb1 (by omega) (by rw [Int.add_mul, Int.one_mul]; omega))
      have hd : decide (r < 0) = false := by simp; omega
      generalize n / b = s at *
      clear he hrz
      go_enter Try.func107, Try.ntmps107
      go_wp2
      go_ret
      exact ⟨ret_int HF.out.symm, rfl⟩
    · have HF := Lib.hid (show n / b = q - 1 from floor_unique hb1 (by rw [Int.sub_mul, Int.one_mul]; omega) (by rw [show q - 1 + 1 = q by omega]; omega))
      have hd : decide (r < 0) = true := by simp; omega
      generalize n / b = s at *
      clear he hrz
      go_enter Try.func107, Try.ntmps107
      go_wp2
      go_ret
      exact ⟨ret_int HF.out.symm, rfl⟩

end Go.Proofs.Ytpaoeghdfeekoaa

/- Quotients compared by whole parts. -/
namespace Go.Proofs.Ytpaoeghdfeekoaa
open Go.RowKit Go.Shelf Go.Mem Go.RegInv

/-- n / d against m / k. -/
def cmpS (n d m k : Int) : Int := (n * k - m * d).sign

theorem cmp_lt {n d m k : Int} (hd : 0 < d) (hk : 0 < k) (h : n / d < m / k) : cmpS n d m k = -1 := by
  have a := Int.lt_ediv_add_one_mul_self n hd
  have b := Int.ediv_mul_le m (show k ≠ 0 by omega)
  have c : n < m / k * d := by
    have : (n / d + 1) * d ≤ m / k * d := Int.mul_le_mul_of_nonneg_right (by omega) (by omega)
    omega
  have e : n * k < m / k * d * k := Int.mul_lt_mul_of_pos_right c hk
  have f : m / k * k * d ≤ m * d := Int.mul_le_mul_of_nonneg_right b (by omega)
  have g : m / k * d * k = m / k * k * d := by rw [Int.mul_assoc, Int.mul_comm d k, ← Int.mul_assoc]
  exact Int.sign_eq_neg_one_of_neg (by omega)
theorem cmp_neg (n d m k : Int) : cmpS m k n d = -cmpS n d m k := by
  unfold cmpS
  rw [← Int.sign_neg]
  congr 1
  omega
theorem cmp_gt {n d m k : Int} (hd : 0 < d) (hk : 0 < k) (h : m / k < n / d) : cmpS n d m k = 1 := by
  have := cmp_lt hk hd h
  rw [cmp_neg] at this
  omega
theorem cmp_eq {n d m k p r1 r2 : Int} (h1 : n = p * d + r1) (h2 : m = p * k + r2) : n * k - m * d = k * r1 - d * r2 := by
  subst h1 h2
  have e : p * d * k = p * k * d := by rw [Int.mul_assoc, Int.mul_comm d k, ← Int.mul_assoc]
  rw [Int.add_mul, Int.add_mul, Int.mul_comm r1 k, Int.mul_comm r2 d]
  omega

set_option maxRecDepth 100000 in
set_option maxHeartbeats 2000000 in
theorem compare_any (n d m k : Int) (hd : 0 < d ∧ d ≤ 4500000000000000000) (hk : 0 < k ∧ k ≤ 4500000000000000000) (hn : -4500000000000000000 ≤ n ∧ n ≤ 4500000000000000000) (hm : -4500000000000000000 ≤ m ∧ m ≤ 4500000000000000000) (w : World) :
    Calls Try.prog 52 #[.int .i64 n, .int .i64 d, .int .i64 m, .int .i64 k] w fun e w' => e = .returned (.int .i64 (cmpS n d m k)) ∧ w = w' := by
  obtain ⟨S, hS⟩ : ∃ S, S = cmpS n d m k := ⟨_, rfl⟩
  rw [← hS]
  have HS := Lib.hid hS
  have HD := Lib.hid hd
  have HK := Lib.hid hk
  have HNB := Lib.hid hn
  have HMB := Lib.hid hm
  clear hS hd hk hn hm
  go_enter Try.func52, Try.ntmps52
  go_wp2
  go_loop [0, 1, 2, 3] (fun a b c e => ∃ N D M K : Int, a = .int .i64 N ∧ b = .int .i64 D ∧ c = .int .i64 M ∧ e = .int .i64 K ∧ (0 < D ∧ D ≤ 4500000000000000000) ∧ (0 < K ∧ K ≤ 4500000000000000000) ∧ (-4500000000000000000 ≤ N ∧ N ≤ 4500000000000000000) ∧ (-4500000000000000000 ≤ M ∧ M ≤ 4500000000000000000) ∧ S = cmpS N D M K)
    (fun _ b _ e => (intOf b + intOf e).toNat)
  case atStart => exact ⟨n, d, m, k, rfl, rfl, rfl, rfl, HD.out, HK.out, HNB.out, HMB.out, HS.out⟩
  case round =>
    obtain ⟨N, D, M, K, rfl, rfl, rfl, rfl, hD, hK, hN, hM, hSe⟩ := hrel
    have HF1 := Lib.hid (floor_any N D ⟨hD.1, by omega⟩ ⟨by omega, by omega⟩ w)
    have HF2 := Lib.hid (floor_any M K ⟨hK.1, by omega⟩ ⟨by omega, by omega⟩ w)
    have HSE := Lib.hid hSe
    have r10 := Int.emod_nonneg N (show D ≠ 0 by omega)
    have r11 := Int.emod_lt_of_pos N hD.1
    have r20 := Int.emod_nonneg M (show K ≠ 0 by omega)
    have r21 := Int.emod_lt_of_pos M hK.1
    have e1 : N = N / D * D + N % D := by have := Int.emod_add_mul_ediv N D; rw [Int.mul_comm (N / D) D]; omega
    have e2 : M = M / K * K + M % K := by have := Int.emod_add_mul_ediv M K; rw [Int.mul_comm (M / K) K]; omega
    clear hSe
    rcases Int.lt_trichotomy (N / D) (M / K) with hpq | hpq | hpq
    · have HR := Lib.hid (show S = -1 by rw [HSE.out]; exact cmp_lt hD.1 hK.1 hpq)
      have b1 : decide (N / D < M / K) = true := by simp; omega
      generalize N / D = P at *
      generalize M / K = Q at *
      clear e1 e2 hpq
      go_wp2_with (first
        | (go_at_call 107; (with_reducible refine HF1.out.mono ?_); rintro e w' ⟨rfl, rfl⟩)
        | (go_at_call 107; (with_reducible refine HF2.out.mono ?_); rintro e w' ⟨rfl, rfl⟩))
      go_ret
      exact ⟨ret_int HR.out.symm, rfl⟩
    · have hx := cmp_eq (n := N) (d := D) (m := M) (k := K) (p := N / D) (r1 := N % D) (r2 := M % K) e1 (by rw [hpq]; exact e2)
      rw [← hpq] at HF2 e2
      obtain ⟨P, hP⟩ : ∃ P, P = N / D := ⟨_, rfl⟩
      obtain ⟨r1, hr1⟩ : ∃ r, r = N % D := ⟨_, rfl⟩
      obtain ⟨r2, hr2⟩ : ∃ r, r = M % K := ⟨_, rfl⟩
      rw [← hP] at HF1 HF2 e1 e2
      rw [← hr1] at r10 r11 e1 hx
      rw [← hr2] at r20 r21 e2 hx
      have q1 : N - P * D = r1 := by omega
      have q2 : M - P * K = r2 := by omega
      have b1 : -9100000000000000000 ≤ P * D ∧ P * D ≤ 9100000000000000000 := by omega
      have b2 : -9100000000000000000 ≤ P * K ∧ P * K ≤ 9100000000000000000 := by omega
      have hlt : decide (P < P) = false := by simp
      have rb1 : r1 ≤ 4500000000000000000 := by omega
      have rb2 : r2 ≤ 4500000000000000000 := by omega
      have HX := Lib.hid hx
      have HSS := Lib.hid (show S = (K * r1 - D * r2).sign by rw [HSE.out, cmpS, hx])
      clear hpq hP hr1 hr2 e1 e2 hx HSE
      by_cases h1 : r1 = 0
      · by_cases h2 : r2 = 0
        · have HR := Lib.hid (show S = 0 by rw [HSS.out, h1, h2]; simp)
          subst h1 h2
          clear r11 r21
          go_wp2_with (first
            | (go_at_call 107; (with_reducible refine HF1.out.mono ?_); rintro e w' ⟨rfl, rfl⟩)
            | (go_at_call 107; (with_reducible refine HF2.out.mono ?_); rintro e w' ⟨rfl, rfl⟩))
          go_ret
          exact ⟨ret_int HR.out.symm, rfl⟩
        · have HR := Lib.hid (show S = -1 by
            rw [HSS.out, h1]
            have := Int.mul_pos hD.1 (show 0 < r2 by omega)
            exact Int.sign_eq_neg_one_of_neg (by rw [Int.mul_zero]; omega))
          have c2 : (r2 == 0) = false := by simp [h2]
          subst h1
          clear h2 r11 r21
          go_wp2_with (first
            | (go_at_call 107; (with_reducible refine HF1.out.mono ?_); rintro e w' ⟨rfl, rfl⟩)
            | (go_at_call 107; (with_reducible refine HF2.out.mono ?_); rintro e w' ⟨rfl, rfl⟩))
          go_ret
          exact ⟨ret_int HR.out.symm, rfl⟩
      · have c1 : (r1 == 0) = false := by simp [h1]
        by_cases h2 : r2 = 0
        · have HR := Lib.hid (show S = 1 by
            rw [HSS.out, h2]
            have := Int.mul_pos hK.1 (show 0 < r1 by omega)
            exact Int.sign_eq_one_of_pos (by rw [Int.mul_zero]; omega))
          subst h2
          clear h1 r11 r21
          go_wp2_with (first
            | (go_at_call 107; (with_reducible refine HF1.out.mono ?_); rintro e w' ⟨rfl, rfl⟩)
            | (go_at_call 107; (with_reducible refine HF2.out.mono ?_); rintro e w' ⟨rfl, rfl⟩))
          go_ret
          exact ⟨ret_int HR.out.symm, rfl⟩
        · have c2 : (r2 == 0) = false := by simp [h2]
          have HB := Lib.hid (show (0 < r2 ∧ r2 ≤ 4500000000000000000) ∧ (0 < r1 ∧ r1 ≤ 4500000000000000000) ∧ (-4500000000000000000 ≤ K ∧ K ≤ 4500000000000000000) ∧ (-4500000000000000000 ≤ D ∧ D ≤ 4500000000000000000) from by omega)
          have HME := Lib.hid (show (r2 + r1).toNat < (D + K).toNat by omega)
          clear h1 h2 r11 r21
          go_wp2_with (first
            | (go_at_call 107; (with_reducible refine HF1.out.mono ?_); rintro e w' ⟨rfl, rfl⟩)
            | (go_at_call 107; (with_reducible refine HF2.out.mono ?_); rintro e w' ⟨rfl, rfl⟩))
          go_round
          case rel => exact ⟨K, r2, D, r1, rfl, rfl, rfl, rfl, HB.out.1, HB.out.2.1, HB.out.2.2.1, HB.out.2.2.2, HSS.out⟩
          case measure => exact HME.out
    · have HR := Lib.hid (show S = 1 by rw [HSE.out]; exact cmp_gt hD.1 hK.1 hpq)
      have b1 : decide (N / D < M / K) = false := by simp; omega
      have b2 : decide (M / K < N / D) = true := by simp; omega
      generalize N / D = P at *
      generalize M / K = Q at *
      clear e1 e2 hpq
      go_wp2_with (first
        | (go_at_call 107; (with_reducible refine HF1.out.mono ?_); rintro e w' ⟨rfl, rfl⟩)
        | (go_at_call 107; (with_reducible refine HF2.out.mono ?_); rintro e w' ⟨rfl, rfl⟩))
      go_ret
      exact ⟨ret_int HR.out.symm, rfl⟩

end Go.Proofs.Ytpaoeghdfeekoaa

/- Whole watts: the mathematics. -/
namespace Go.Proofs.Ytpaoeghdfeekoaa
open Go.RowKit Go.Mem

theorem sq_le_abs {x y : Int} (hy : 0 ≤ y) (h : x * x ≤ y * y) : x ≤ y := by
  refine Int.le_of_not_gt fun hlt => ?_
  have a : y * y ≤ y * x := Int.mul_le_mul_of_nonneg_left (by omega) hy
  have b : y * x < x * x := Int.mul_lt_mul_of_pos_right (by omega) (by omega)
  omega
/-- The squares of both parts of the power add up to the product of both norms. -/
theorem norm_prod (v c : G) : realP v c * realP v c + turnQ v c * turnQ v c = normG v * normG c := by
  have e1 : v.re * c.re * (v.im * c.im) = v.re * v.im * (c.re * c.im) := mul_four _ _ _ _
  have e2 : v.im * c.im * (v.re * c.re) = v.re * v.im * (c.re * c.im) := by rw [mul_four, Int.mul_comm v.im, Int.mul_comm c.im]
  have e3 : v.im * c.re * (v.re * c.im) = v.re * v.im * (c.re * c.im) := by rw [mul_four, Int.mul_comm v.im]
  have e4 : v.re * c.im * (v.im * c.re) = v.re * v.im * (c.re * c.im) := by rw [mul_four, Int.mul_comm c.im]
  have f1 : v.re * c.re * (v.re * c.re) = v.re * v.re * (c.re * c.re) := mul_four _ _ _ _
  have f2 : v.im * c.im * (v.im * c.im) = v.im * v.im * (c.im * c.im) := mul_four _ _ _ _
  have f3 : v.im * c.re * (v.im * c.re) = v.im * v.im * (c.re * c.re) := mul_four _ _ _ _
  have f4 : v.re * c.im * (v.re * c.im) = v.re * v.re * (c.im * c.im) := mul_four _ _ _ _
  simp only [realP, turnQ, normG, Int.mul_add, Int.add_mul, Int.mul_sub, Int.sub_mul]
  omega
theorem parts_le {v c : G} {a b : Int} (ha : 0 ≤ a) (hb : 0 ≤ b) (hv : normG v ≤ a * a) (hc : normG c ≤ b * b) : realP v c ≤ a * b ∧ turnQ v c ≤ a * b := by
  have h := norm_prod v c
  have h1 := sq_nonneg (realP v c)
  have h2 := sq_nonneg (turnQ v c)
  have h3 : normG v * normG c ≤ a * a * (b * b) := Int.mul_le_mul hv hc (norm_nonneg c) (Int.mul_nonneg ha ha)
  have h4 : a * a * (b * b) = a * b * (a * b) := mul_four _ _ _ _
  have hab := Int.mul_nonneg ha hb
  exact ⟨sq_le_abs hab (by omega), sq_le_abs hab (by omega)⟩
theorem norm_plus_le {v c : G} {g a b : Int} (hg : 0 ≤ g ∧ g ≤ 4) (ha : 0 ≤ a) (hb : 0 ≤ b) (hv : normG v ≤ a * a) (hc : normG c ≤ b * b) : normG (plusG c g v) ≤ (b + 4 * a) * (b + 4 * a) := by
  have e : normG (plusG c g v) = normG c + 2 * (g * realP v c) + g * g * normG v := by
    have a1 : g * v.re * (g * v.re) = g * g * (v.re * v.re) := mul_four _ _ _ _
    have a2 : g * v.im * (g * v.im) = g * g * (v.im * v.im) := mul_four _ _ _ _
    have a3 : c.re * (g * v.re) = g * (v.re * c.re) := by rw [Int.mul_left_comm, Int.mul_comm c.re]
    have a4 : g * v.re * c.re = g * (v.re * c.re) := Int.mul_assoc _ _ _
    have a5 : c.im * (g * v.im) = g * (v.im * c.im) := by rw [Int.mul_left_comm, Int.mul_comm c.im]
    have a6 : g * v.im * c.im = g * (v.im * c.im) := Int.mul_assoc _ _ _
    simp only [normG, plusG, realP, Int.mul_add, Int.add_mul]
    omega
  obtain ⟨h1, _⟩ := parts_le ha hb hv hc
  have hab := Int.mul_nonneg ha hb
  have h2 : g * realP v c ≤ g * (a * b) := Int.mul_le_mul_of_nonneg_left h1 hg.1
  have h3 : g * (a * b) ≤ 4 * (a * b) := Int.mul_le_mul_of_nonneg_right hg.2 hab
  have h4 : g * g * normG v ≤ g * g * (a * a) := Int.mul_le_mul_of_nonneg_left hv (sq_nonneg g)
  have h5 : g * g ≤ 4 * 4 := Int.mul_le_mul hg.2 hg.2 hg.1 (by decide)
  have h6 : g * g * (a * a) ≤ 16 * (a * a) := Int.mul_le_mul_of_nonneg_right (by omega) (Int.mul_nonneg ha ha)
  have h7 : (b + 4 * a) * (b + 4 * a) = b * b + 8 * (a * b) + 16 * (a * a) := by
    have i1 : b * (4 * a) = 4 * (a * b) := by rw [Int.mul_left_comm, Int.mul_comm b]
    have i2 : 4 * a * b = 4 * (a * b) := Int.mul_assoc _ _ _
    have i3 : 4 * a * (4 * a) = 16 * (a * a) := by rw [mul_four]; rfl
    simp only [Int.mul_add, Int.add_mul]
    omega
  omega
theorem norm_bef_le {v c : G} {x a b : Int} (hx : 0 ≤ x ∧ x ≤ 32) (ha : 0 ≤ a) (hb : 0 ≤ b) (hv : normG v ≤ a * a) (hc : normG c ≤ b * b) : normG (befG v x c) ≤ (a + 32 * b) * (a + 32 * b) := by
  rw [norm_bef]
  obtain ⟨_, h1⟩ := parts_le ha hb hv hc
  have hab := Int.mul_nonneg ha hb
  have h2 : x * turnQ v c ≤ x * (a * b) := Int.mul_le_mul_of_nonneg_left h1 hx.1
  have h3 : x * (a * b) ≤ 32 * (a * b) := Int.mul_le_mul_of_nonneg_right hx.2 hab
  have h4 : x * x * normG c ≤ x * x * (b * b) := Int.mul_le_mul_of_nonneg_left hc (sq_nonneg x)
  have h5 : x * x ≤ 32 * 32 := Int.mul_le_mul hx.2 hx.2 hx.1 (by decide)
  have h6 : x * x * (b * b) ≤ 1024 * (b * b) := Int.mul_le_mul_of_nonneg_right (by omega) (Int.mul_nonneg hb hb)
  have h7 : (a + 32 * b) * (a + 32 * b) = a * a + 64 * (a * b) + 1024 * (b * b) := by
    have i1 : a * (32 * b) = 32 * (a * b) := Int.mul_left_comm _ _ _
    have i2 : 32 * b * a = 32 * (a * b) := by rw [Int.mul_assoc, Int.mul_comm b]
    have i3 : 32 * b * (32 * b) = 1024 * (b * b) := by rw [mul_four]; rfl
    simp only [Int.mul_add, Int.add_mul]
    omega
  omega
theorem st_norm {f : Int} {hot : List Bool} {ls : List Sh} (hok : ∀ s ∈ ls, shOK s) (hf : 1 ≤ f ∧ f ≤ 8) : ∀ j k, j + k = ls.length → normG (st f hot ls k).last ≤ (bv j).1 * (bv j).1 ∧ normG (st f hot ls k).cur ≤ (bv j).2 * (bv j).2
  | 0, k, h => by
    obtain rfl : k = ls.length := by omega
    rw [st_end]; decide
  | j + 1, k, h => by
    have hk : k < ls.length := by omega
    have hs : ls[k]? = some ls[k] := List.getElem?_eq_getElem hk
    obtain ⟨h1, h2⟩ := st_norm hok hf (hot := hot) j (k + 1) (by omega)
    have hb := bv_mono j
    have hg := (hok _ (List.mem_of_getElem? hs)).1
    have hr := react_bd (h := hot.getD k false) hf (hok _ (List.mem_of_getElem? hs))
    rw [st_step hs]
    simp only [vstep, bv]
    have h3 := norm_plus_le (g := ls[k].g) ⟨by omega, hg.2⟩ hb.2.2.1 hb.2.2.2 h1 h2
    exact ⟨norm_bef_le ⟨by omega, hr.2⟩ hb.2.2.1 (by omega) h1 h3, h3⟩
theorem power_bd {f : Int} {hot : List Bool} {ls : List Sh} (hok : ∀ s ∈ ls, shOK s) (hf : 1 ≤ f ∧ f ≤ 8) (h4 : ls.length ≤ 4) (k : Nat) (x : Int) (h : (powers f hot ls)[k]? = some x) : 0 ≤ x ∧ x ≤ 20000000000000 := by
  have hk : k < ls.length := by have := (List.getElem?_eq_some_iff.1 h).1; rwa [powers_len] at this
  have hs : ls[k]? = some ls[k] := List.getElem?_eq_getElem hk
  rw [powers_get hs] at h
  obtain rfl := Option.some.inj h
  have hg := (hok _ (List.mem_of_getElem? hs)).1
  have h1 := (st_norm hok hf (hot := hot) (ls.length - (k + 1)) (k + 1) (by omega)).1
  have h0 := norm_nonneg (st f hot ls (k + 1)).last
  have h2 := bv_le (show ls.length - (k + 1) ≤ 3 by omega)
  have h3 : (bv (ls.length - (k + 1))).1 * (bv (ls.length - (k + 1))).1 ≤ 2179841 * 2179841 := Int.mul_le_mul h2.2 h2.2 h2.1 (by decide)
  have h5 : ls[k].g * normG (st f hot ls (k + 1)).last ≤ 4 * normG (st f hot ls (k + 1)).last := Int.mul_le_mul_of_nonneg_right hg.2 h0
  exact ⟨Int.mul_nonneg (by omega) h0, by omega⟩

/-- The last shell takes some power. -/
theorem power_last {f : Int} {hot : List Bool} {ls : List Sh} (hok : ∀ s ∈ ls, shOK s) (hf : 1 ≤ f ∧ f ≤ 8) (k : Nat) (hk : k < ls.length) : 1 ≤ (powers f hot ls).getD k 0 := by
  have hs : ls[k]? = some ls[k] := List.getElem?_eq_getElem hk
  rw [List.getD, powers_get hs]
  have hg := (hok _ (List.mem_of_getElem? hs)).1
  have h1 := norm_ge hok hf (hot := hot) (ls.length - (k + 1)) (k + 1) (by omega)
  have h2 : 1 * normG (st f hot ls (k + 1)).last ≤ ls[k].g * normG (st f hot ls (k + 1)).last := Int.mul_le_mul_of_nonneg_right hg.1 (by omega)
  simp only [Option.getD_some]
  omega
theorem take_lt {l : List Int} (h1 : ∀ k, k < l.length → 1 ≤ l.getD k 0) : ∀ k, k < l.length → (l.take k).sum < l.sum := by
  intro k hk
  have h : ∀ j, k + j ≤ l.length → (l.take k).sum + j ≤ (l.take (k + j)).sum := by
    intro j
    induction j with
    | zero => intro _; simp
    | succ j ih =>
      intro hj
      have hx : l[k + j]? = some l[k + j] := List.getElem?_eq_getElem (by omega)
      have := h1 (k + j) (by omega)
      rw [List.getD, hx] at this
      simp only [Option.getD_some] at this
      have a := ih (by omega)
      rw [show k + (j + 1) = k + j + 1 by omega, take_sum l (k + j) _ hx]
      omega
  have := h (l.length - k) (by omega)
  rw [show k + (l.length - k) = l.length by omega, List.take_length] at this
  omega

theorem watts_at {total : Int} {l : List Int} {n k : Nat} (hk : k < n) : (wattsL total l n)[k]? = some (upTo total l (k + 1) - upTo total l k) := by
  simp [wattsL, hk]
/-- Each share is met but for less than one watt. -/
theorem watts_near {total : Int} {l : List Int} {k : Nat} {p : Int} (hs : 0 < l.sum) (hp : l[k]? = some p) :
    cmpS (upTo total l (k + 1) - upTo total l k - 1) 1 (total * p) l.sum = -1 ∧ cmpS (upTo total l (k + 1) - upTo total l k + 1) 1 (total * p) l.sum = 1 := by
  have ht := take_sum l k p hp
  have e : total * (l.take (k + 1)).sum = total * (l.take k).sum + total * p := by rw [ht, Int.mul_add]
  have a1 := Int.ediv_mul_le (total * (l.take (k + 1)).sum) (show l.sum ≠ 0 by omega)
  have a2 := Int.lt_ediv_add_one_mul_self (total * (l.take (k + 1)).sum) hs
  have b1 := Int.ediv_mul_le (total * (l.take k).sum) (show l.sum ≠ 0 by omega)
  have b2 := Int.lt_ediv_add_one_mul_self (total * (l.take k).sum) hs
  unfold cmpS upTo
  rw [Int.add_mul, Int.one_mul] at a2 b2
  generalize total * (l.take (k + 1)).sum / l.sum = U at *
  generalize total * (l.take k).sum / l.sum = V at *
  constructor
  · exact Int.sign_eq_neg_one_of_neg (by rw [Int.sub_mul, Int.sub_mul, Int.one_mul, Int.mul_one]; omega)
  · exact Int.sign_eq_one_of_pos (by rw [Int.add_mul, Int.sub_mul, Int.one_mul, Int.mul_one]; omega)
theorem watts_bd {total : Int} {l : List Int} (ht : 0 ≤ total ∧ total ≤ 100000) (hok : PowersOK l) {k : Nat} {p : Int} (hp : l[k]? = some p) (hp0 : 0 ≤ p) :
    0 ≤ upTo total l (k + 1) - upTo total l k ∧ upTo total l (k + 1) - upTo total l k ≤ total := by
  have hs := take_sum l k p hp
  have a : upTo total l k ≤ upTo total l (k + 1) := Int.ediv_le_ediv hok.sum.1 (Int.mul_le_mul_of_nonneg_left (by omega) ht.1)
  have b : 0 ≤ upTo total l k := (upTo_bd ht hok.sum hok.part k).2.1
  have c : upTo total l (k + 1) ≤ total := by
    unfold upTo
    have := Int.mul_le_mul_of_nonneg_left (hok.part (k + 1)).2 ht.1
    exact Int.ediv_le_of_le_mul hok.sum.1 this
  omega

end Go.Proofs.Ytpaoeghdfeekoaa

/- The reference's norm and sum. -/
namespace Go.Proofs.Ytpaoeghdfeekoaa
open Go.RowKit Go.Shelf Go.Mem Go.RegInv

theorem gnorm_any (a b : Int) (ha : -1000000000 ≤ a ∧ a ≤ 1000000000) (hb : -1000000000 ≤ b ∧ b ≤ 1000000000) (w : World) :
    Calls Try.prog 105 #[.agg #[.int .i64 a, .int .i64 b]] w fun e w' => e = .returned (.int .i64 (normG ⟨a, b⟩)) ∧ Ext w w' := by
  have h1 := prod_bd (B := 1000000000) ha ha
  have h2 := prod_bd (B := 1000000000) hb hb
  have HN := Lib.hid (show normG ⟨a, b⟩ = a * a + b * b from rfl)
  clear ha hb
  generalize normG ⟨a, b⟩ = r at *
  go_enter Try.func105, Try.ntmps105
  go_wp2
  go_ret
  exact ⟨ret_int HN.out.symm, Ext.alloc _ _⟩

set_option maxHeartbeats 1000000 in
theorem refSum_any (A : Option Addr) (n cap : Nat) (l : List Int) (hn : l.length = n) (w : World) (hA : RowsAt 1 intEnc w A l) (hb : ∀ k, -1000000000000000000 ≤ (l.take k).sum ∧ (l.take k).sum ≤ 1000000000000000000) :
    Calls Try.prog 47 #[.slice A n cap] w fun e w' => e = .returned (.int .i64 l.sum) ∧ w = w' := by
  have HN := Lib.hid hn
  have HA := Lib.hid hA
  have HB := Lib.hid hb
  have hm : n ≤ 1152921504606846976 := by have := hA.1; omega
  have HS := Lib.hid (show (l.take n).sum = l.sum by rw [← hn, List.take_length])
  clear hn hA hb
  generalize l.sum = s at *
  go_enter Try.func47, Try.ntmps47
  go_wp2
  go_loop [3, 4] (fun a i => ∃ k : Nat, k ≤ n ∧ i = .int .i64 k ∧ a = .int .i64 (l.take k).sum) (fun _ i => n - (intOf i).toNat)
  case atStart => exact ⟨0, Nat.zero_le _, rfl, by simp⟩
  case round =>
    obtain ⟨k, hk, rfl, rfl⟩ := hrel
    by_cases hlt : k < n
    · obtain ⟨x, hx⟩ : ∃ x, l[k]? = some x := ⟨_, List.getElem?_eq_getElem (by rw [HN.out]; exact hlt)⟩
      obtain ⟨b, o, hA1, _, hc⟩ := HA.out.2 k x hx
      subst hA1
      have hc1 : w.cell? ⟨b, o + k, none⟩ = some (.int .i64 x) := by have := hc 0 _ rfl; simpa using this
      have HT := Lib.hid (take_sum l k x hx)
      obtain ⟨q1, q2⟩ := HB.out k
      obtain ⟨q3, q4⟩ := HB.out (k + 1)
      rw [HT.out] at q3 q4
      clear hx hc
      generalize hsk : (l.take k).sum = sk at *
      have HSK := Lib.hid hsk
      clear hsk
      have hki : (k : Int) < (n : Int) := by omega
      go_wp2
      go_round
      case rel => exact ⟨k + 1, by omega, by go_num, by rw [HT.out]⟩
      case measure => simp [intOf]; omega
    · obtain rfl : n = k := by omega
      rw [HS.out]
      go_wp2
      go_ret
      exact ⟨rfl, rfl⟩

end Go.Proofs.Ytpaoeghdfeekoaa

/- Divisors, lowest terms, small fractions, the error of a shell: the reference's. -/
namespace Go.Proofs.Ytpaoeghdfeekoaa
open Go.RowKit Go.Shelf Go.Mem Go.RegInv
attribute [local go_sem] RelUpon_value RelUpon_skip RelUpon_enter BigFrame.eval_const BigFrame.eval_global BigFrame.eval_func

theorem size_any (a : Int) (ha : Big a) (w : World) : Calls Try.prog 132 #[.int .i64 a] w fun e w' => e = .returned (.int .i64 (a.natAbs : Int)) ∧ w = w' := by
  have h : -1000000000000000000 ≤ a ∧ a ≤ 1000000000000000000 := ha
  clear ha
  obtain ⟨h1, h2⟩ := h
  go_enter Try.func132, Try.ntmps132
  go_wp2
  all_goals go_ret
  all_goals exact ⟨ret_int (by omega), rfl⟩

theorem gcd_any (a b : Int) (ha : Big a) (hb : Big b) (w : World) : Calls Try.prog 106 #[.int .i64 a, .int .i64 b] w fun e w' => e = .returned (.int .i64 (Nat.gcd a.natAbs b.natAbs : Int)) ∧ Ext w w' := by
  have HA := Lib.hid ha
  have HB := Lib.hid hb
  obtain ⟨g, hg⟩ : ∃ g, g = Nat.gcd a.natAbs b.natAbs := ⟨_, rfl⟩
  rw [← hg]
  have HG := Lib.hid hg
  clear ha hb hg
  go_enter Try.func106, Try.ntmps106
  go_wp2
  go_loopw [0, 1] (fun d m w2 => ∃ (d2 n2 : Int), d = .int .i64 d2 ∧ m = .int .i64 n2 ∧ Nat.gcd d2.natAbs n2.natAbs = g ∧ Big d2 ∧ Big n2 ∧ Ext w w2) (fun _ m _ => (intOf m).natAbs)
  case atStart => exact ⟨a, b, rfl, rfl, HG.out.symm, HA.out, HB.out, Ext.refl _⟩
  case round =>
    obtain ⟨d2, n2, rfl, rfl, hg2, hd2, hn2, he2⟩ := hrel
    by_cases hz : n2 = 0
    · subst hz
      have HG2 := Lib.hid (show d2.natAbs = g by rw [← hg2]; simp)
      have HS := Lib.hid (size_any d2 hd2)
      clear hg2 hd2 hn2
      go_wp2_with (go_at_call 132; refine (HS.out _).mono ?_; rintro e w' ⟨rfl, rfl⟩)
      go_ret
      exact ⟨ret_int (by rw [HG2.out]), he2⟩
    · have HG2 := Lib.hid ((gcd_step d2 n2 hz).trans hg2)
      have hm : -1000000000000000000 ≤ d2.tmod n2 ∧ d2.tmod n2 ≤ 1000000000000000000 ∧ (d2.tmod n2).natAbs < n2.natAbs := tmod_bd hd2 hz
      have hwr : IntKind.i64.wrap (d2.tmod n2) = d2.tmod n2 := IntWalk.i64_in _ (by omega)
      have hz' : (n2 == 0) = false := by simp [hz]
      have hz2 : (n2 != 0) = true := by simp [hz]
      have HN2 := Lib.hid hn2
      have HM := Lib.hid hm
      have HZ := Lib.hid hz
      clear hg2 hd2 hn2 hm
      go_wp2
      go_quiet (fail)
      go_wp2
      go_roundw
      case rel => exact ⟨n2, d2.tmod n2, rfl, rfl, HG2.out, HN2.out, ⟨HM.out.1, HM.out.2.1⟩, he2.trans (Ext.drewN _ _)⟩
      case measure => exact HM.out.2.2

theorem gcd_pos {a b : Int} (hb : 0 < b) (hB : b ≤ 1000000000000000000) : 1 ≤ Nat.gcd a.natAbs b.natAbs ∧ (Nat.gcd a.natAbs b.natAbs : Int) ≤ 1000000000000000000 := by
  have h1 : Nat.gcd a.natAbs b.natAbs ≠ 0 := by rw [Ne, Nat.gcd_eq_zero_iff]; omega
  have := Nat.le_of_dvd (by omega) (Nat.gcd_dvd_right a.natAbs b.natAbs)
  omega
def lowF (a b : Int) : Int × Int := (a.tdiv (Nat.gcd a.natAbs b.natAbs), b.tdiv (Nat.gcd a.natAbs b.natAbs))

set_option maxRecDepth 100000 in
theorem lowest_any (a b : Int) (ha : Big a) (hb : 0 < b) (hB : Big b) (w : World) : Calls Try.prog 46 #[.int .i64 a, .int .i64 b] w fun e w' => e = .returned (.agg #[.int .i64 (lowF a b).1, .int .i64 (lowF a b).2]) ∧ Ext w w' := by
  have HG := Lib.hid (fun W => gcd_any a b ha hB W)
  have hg1 := gcd_pos (a := a) hb hB.2
  have HWA := Lib.hid (wrap_tdiv (m := (Nat.gcd a.natAbs b.natAbs : Int)) ha)
  have HWB := Lib.hid (wrap_tdiv (m := (Nat.gcd a.natAbs b.natAbs : Int)) hB)
  show Calls Try.prog 46 #[.int .i64 a, .int .i64 b] w fun e w' => e = .returned (.agg #[.int .i64 (a.tdiv (Nat.gcd a.natAbs b.natAbs)), .int .i64 (b.tdiv (Nat.gcd a.natAbs b.natAbs))]) ∧ Ext w w'
  generalize Nat.gcd a.natAbs b.natAbs = g at *
  have hd : decide (b < 0) = false := by simp; omega
  clear ha hB
  go_enter Try.func46, Try.ntmps46
  go_wp2_with (go_at_call 106; refine (HG.out _).mono ?_; rintro e W1 ⟨rfl, hx⟩; have B1 := (Blk.newAt w 68 #[.int .i64 0, .int .i64 0] (g := w.heap.size) rfl).ext hx)
  have X1 := Lib.hid ((Ext.alloc _ _).trans hx)
  clear hx
  refine wp_region_part 7 [some 13, some 14, some 15, some 16, some 17, some 18, some 19] [[0], [5], [13, 14], [1], [5], [16, 17], [15, 18]]
    [Is (.int .i64 (a)), Is (.int .i64 ((g : Int))), Is (.int .i64 (a.tdiv g)), Is (.int .i64 (b)), Is (.int .i64 ((g : Int))), Is (.int .i64 (b.tdiv g)), Is (.agg #[.int .i64 (a.tdiv g), .int .i64 (b.tdiv g)])]
    (by kernel_rfl) (by kernel_rfl) (by kernel_rfl) (by kernel_rfl) (by kernel_rfl) (by kernel_rfl) (by kernel_rfl) Ext (fun W => Ext W1 W)
    (fun W _ => Ext.refl W) (fun W W' h k => h.trans k) ?_ (Ext.drew _) ?_ ?_
  · repeat (refine ⟨fun _ _ _ _ k h => (by first | exact h | exact (by first | exact LadV.ext h k | exact DrvV.ext h k | exact TupV.ext (fun _ _ _ h k => by first | exact Opt.ext (fun _ _ _ h k => by first | exact IntsAt.ext h k | exact GsV.ext h k) h k | exact IntsAt.ext h k) h k | exact Opt.ext (fun _ _ _ h k => by first | exact IntsAt.ext h k | exact GsV.ext h k) h k | exact IntsAt.ext h k)), ?_⟩)
    exact trivial
  · refine ⟨?_, ?_, ?_, ?_, ?_, ?_, ?_, trivial⟩
    all_goals intro ρ W ⟨kc, kg, kf⟩ hF hs
    · obtain ⟨h0, -⟩ := hs
      replace h0 : ρ (.tmp 0) = .int .i64 (a) := h0
      go_simp
      exact ⟨Ext.refl _, rfl⟩
    · obtain ⟨h0, -⟩ := hs
      replace h0 : ρ (.tmp 5) = .int .i64 ((g : Int)) := h0
      go_simp
      exact ⟨Ext.refl _, rfl⟩
    · obtain ⟨h0, h1, -⟩ := hs
      replace h0 : ρ (.tmp 13) = .int .i64 (a) := h0
      replace h1 : ρ (.tmp 14) = .int .i64 ((g : Int)) := h1
      have hq : IntKind.i64.wrap (a.tdiv g) = a.tdiv g := HWA.out
      have hm2 : ¬ g = 0 := by omega
      go_simp
      exact ⟨Ext.refl _, rfl⟩
    · obtain ⟨h0, -⟩ := hs
      replace h0 : ρ (.tmp 1) = .int .i64 (b) := h0
      go_simp
      exact ⟨Ext.refl _, rfl⟩
    · obtain ⟨h0, -⟩ := hs
      replace h0 : ρ (.tmp 5) = .int .i64 ((g : Int)) := h0
      go_simp
      exact ⟨Ext.refl _, rfl⟩
    · obtain ⟨h0, h1, -⟩ := hs
      replace h0 : ρ (.tmp 16) = .int .i64 (b) := h0
      replace h1 : ρ (.tmp 17) = .int .i64 ((g : Int)) := h1
      have hq : IntKind.i64.wrap (b.tdiv g) = b.tdiv g := HWB.out
      have hm2 : ¬ g = 0 := by omega
      go_simp
      exact ⟨Ext.refl _, rfl⟩
    · obtain ⟨h0, h1, -⟩ := hs
      replace h0 : ρ (.tmp 15) = .int .i64 (a.tdiv g) := h0
      replace h1 : ρ (.tmp 18) = .int .i64 (b.tdiv g) := h1
      go_simp
      exact ⟨Ext.refl _, rfl⟩
  · intro fv W2 hF hs
    obtain ⟨-, -, -, -, -, -, h19, -⟩ := hs
    replace h19 : fv 19 = .agg #[.int .i64 (a.tdiv g), .int .i64 (b.tdiv g)] := h19
    simp only [fin, List.filterMap]
    go_simp
    have B2 := B1.ext hF
    have X2 := Lib.hid (X1.out.trans hF)
    have f0 := B2.free 0
    have f1 := B2.free 1
    clear hF
    have c0 := B2.cell 0
    have c1 := B2.cell 1
    simp only [List.getElem?_toArray, List.getElem?_cons_zero, List.getElem?_cons_succ] at c0 c1
    go_wp2
    exact bodyPost_ret (v := .agg #[.int .i64 (a.tdiv g), .int .i64 (b.tdiv g)]) (by simp [results, Try.f46, go_sem, c0, c1]) rfl ⟨rfl, Ext.set (Ext.set X2.out (by dsimp only; omega) _) (by dsimp only; omega) _⟩

def smallF (a b : Int) : Bool := inB (-1000000000) 1000000000 a && inB 1 1000000000 b
theorem isSmall_any (a b : Int) (w : World) : Calls Try.prog 48 #[.agg #[.int .i64 a, .int .i64 b]] w fun e w' => e = .returned (.bool (smallF a b)) ∧ Ext w w' := by
  cases h1 : inB (-1000000000) 1000000000 a
  · have HS := Lib.hid (show smallF a b = false by simp [smallF, h1])
    have H1 := Lib.hid h1
    clear h1
    go_enter Try.func48, Try.ntmps48
    go_wp2_with (go_at_call 40; refine (within_any _ _ _ _).mono ?_; rintro e w' ⟨rfl, rfl⟩; rw [H1.out])
    go_ret
    exact ⟨ret_bool HS.out.symm, Ext.alloc _ _⟩
  · cases h2 : inB 1 1000000000 b
    · have HS := Lib.hid (show smallF a b = false by simp [smallF, h1, h2])
      have H1 := Lib.hid h1
      have H2 := Lib.hid h2
      clear h1 h2
      go_enter Try.func48, Try.ntmps48
      go_wp2_with (go_at_call 40; refine (within_any _ _ _ _).mono ?_; rintro e w' ⟨rfl, rfl⟩; first | rw [H1.out] | rw [H2.out])
      go_ret
      exact ⟨ret_bool HS.out.symm, Ext.alloc _ _⟩
    · have HS := Lib.hid (show smallF a b = true by simp [smallF, h1, h2])
      have H1 := Lib.hid h1
      have H2 := Lib.hid h2
      clear h1 h2
      go_enter Try.func48, Try.ntmps48
      go_wp2_with (go_at_call 40; refine (within_any _ _ _ _).mono ?_; rintro e w' ⟨rfl, rfl⟩; first | rw [H1.out] | rw [H2.out])
      go_ret
      exact ⟨ret_bool HS.out.symm, Ext.alloc _ _⟩

def shE (n : Nat) (x : Int) : Int := if inB 0 ((n : Int) - 1) x = true then 0 else 6
theorem shE_eq (n : Nat) (x : Int) : errIf ([x].any (outB 0 ((n : Int) - 1))) 6 = shE n x := by
  unfold shE errIf
  cases h : inB 0 ((n : Int) - 1) x <;> simp [outB_not, h]
theorem shellErr_any (t : Int) (A : Option Addr) (n cap : Nat) (x : Int) (w : World) (hn : n ≤ 1152921504606846976) : Calls Try.prog 45 #[.agg #[.int .i64 t, .slice A n cap], .int .i64 x] w fun e w' => e = .returned (.int .i64 (shE n x)) ∧ Ext w w' := by
  cases h1 : inB 0 ((n : Int) - 1) x
  · have HS := Lib.hid (show shE n x = 6 by simp [shE, h1])
    have H1 := Lib.hid h1
    clear h1
    go_enter Try.func45, Try.ntmps45
    go_wp2_with (go_at_call 40; refine (within_any _ _ _ _).mono ?_; rintro e w' ⟨rfl, rfl⟩; rw [H1.out])
    go_ret
    exact ⟨ret_int HS.out.symm, Ext.alloc _ _⟩
  · have HS := Lib.hid (show shE n x = 0 by simp [shE, h1])
    have H1 := Lib.hid h1
    clear h1
    go_enter Try.func45, Try.ntmps45
    go_wp2_with (go_at_call 40; refine (within_any _ _ _ _).mono ?_; rintro e w' ⟨rfl, rfl⟩; rw [H1.out])
    go_ret
    exact ⟨ret_int HS.out.symm, Ext.alloc _ _⟩

end Go.Proofs.Ytpaoeghdfeekoaa

/- slices.Values; the share of a shell. -/
namespace Go.Proofs.Ytpaoeghdfeekoaa
open Go.RowKit Go.Shelf Go.Mem Go.RegInv
attribute [local go_sem] RelUpon_value RelUpon_skip RelUpon_enter BigFrame.eval_const BigFrame.eval_global BigFrame.eval_func

theorem values_any (A : Option Addr) (m cap : Nat) (w : World) :
    Calls Try.prog 99 #[.slice A m cap] w fun e w' => e = .returned (.func (.func 131) #[] #[.pointer (some ⟨w.heap.size, 0, none⟩)]) ∧ w' = w.alloc (.cells #[.slice A m cap] 37) := by
  go_enter Try.func99, Try.ntmps99
  go_wp2
  go_ret
  exact ⟨rfl, rfl⟩
theorem eg131 : ∀ args w, (callFunc 131 args).run Try.prog w = .ok (.enter 131 args) w := enters_of Try.func131 (by kernel_rfl) rfl

set_option maxRecDepth 100000 in
set_option maxHeartbeats 2000000 in
theorem values_iter (n : Nat) (_hn : 1 ≤ n) (Bs n₀ : Nat) (A : Option Addr) (m cap : Nat) (xs : List Int) (hm : xs.length = m) (W0 : World) (hBs : W0.cell? ⟨Bs, 0, none⟩ = some (.slice A m cap)) (hS : RowsAt 1 intEnc W0 A xs)
    (hA : ∀ b o, A = some ⟨b, o, none⟩ → b < n₀) : IterAt Try.prog n 131 #[] #[.pointer (some ⟨Bs, 0, none⟩)] encInt xs (Below n₀) W0 := by
  intro l J Jx W hck hbw hJ hJx hY h0
  have hmb : m ≤ 1152921504606846976 := by have := hS.1; omega
  have HS := Lib.hid (hS.ext hbw)
  have hB2 : W.cell? ⟨Bs, 0, none⟩ = some (.slice A m cap) := Ext.cell hbw hBs
  have HM := Lib.hid hm
  have HA := Lib.hid hA
  clear hS hm hA hBs hck hbw
  show CallsIn Fence.wide n Try.prog 131 #[.func (.yield l) #[] #[], .pointer (some ⟨Bs, 0, none⟩)] W _
  refine callsIn_of_wp Try.func131 rfl trivial ?_ rfl
  simp only [Try.ntmps131, List.size_toArray, List.length_cons, List.length_nil, Nat.reduceAdd, Nat.reduceSub, Array.replicate_succ, Array.replicate_zero, List.push_toArray, List.append_toArray, List.nil_append, List.cons_append]
  gi_wp2
  gi_loopw [7] (fun i wr => ∃ k : Nat, k ≤ m ∧ i = .int .i64 k ∧ J k wr ∧ Below n₀ W wr) (fun i _ => m - (intOf i).toNat)
  case atStart => exact ⟨0, Nat.zero_le _, rfl, h0, Below.refl _ _⟩
  case round =>
    obtain ⟨k, hk, rfl, hj, hb⟩ := hrel
    by_cases hlt : k < m
    · obtain ⟨x, hx⟩ : ∃ x, xs[k]? = some x := ⟨_, List.getElem?_eq_getElem (by rw [HM.out]; exact hlt)⟩
      obtain ⟨b, o, e1, _, hc⟩ := HS.out.2 k x hx
      have hbn := HA.out b o e1
      subst e1
      have c0 : wr.cell? ⟨b, o + k, none⟩ = some (.int .i64 x) := (hb.cell (p := ⟨b, o + k, none⟩) hbn).trans (by have := hc 0 _ rfl; simpa using this)
      obtain ⟨fn, tmps, assign, body, hy, hR⟩ := hY k x hx wr hj
      dsimp only [encInt] at hy
      have hki : (k : Int) < (m : Int) := by omega
      clear hc hx
      gi_wp2
      refine hR.mono ?_
      rintro e W3 (⟨rfl, hJ3, hk3⟩ | ⟨rfl, hJx3⟩)
      · gi_wp2
        go_roundw
        case rel => exact ⟨k + 1, by omega, by go_num, hJ3, hb.trans hk3⟩
        case measure => simp [intOf]; omega
      · gi_wp2
        refine bodyPost_ret (results_none rfl _ _ _) rfl ?_
        exact ⟨⟨_, rfl⟩, .inr hJx3⟩
    · obtain rfl : k = m := by omega
      gi_wp2
      go_end0
      refine ⟨⟨_, rfl⟩, .inl ?_⟩
      rw [HM.out]; exact hj

theorem sumValues_any (Bs : Nat) (A : Option Addr) (m cap : Nat) (xs : List Int) (hm : xs.length = m) (w : World) (hBs : w.cell? ⟨Bs, 0, none⟩ = some (.slice A m cap)) (hS : RowsAt 1 intEnc w A xs)
    (hA : ∀ b o, A = some ⟨b, o, none⟩ → b < w.heap.size) (hb : ∀ k, Big (xs.take k).sum) :
    Calls Try.prog 98 #[.func (.func 131) #[] #[.pointer (some ⟨Bs, 0, none⟩)]] w fun e w' => e = .returned (.int .i64 xs.sum) ∧ Ext w w' :=
  callsIn_wide.1 (sumOf_in 131 #[] #[.pointer (some ⟨Bs, 0, none⟩)] eg131 xs (Below w.heap.size) w ⟨fun h k => h.trans k, fun _ _ _ h => h⟩ (fun W _ v _ => Below.setCell (Below.refl w.heap.size W) (show w.heap.size ≤ (⟨w.heap.size, 0, none⟩ : Addr).block from Nat.le_refl _) v)
    (values_iter 4 (by decide) Bs w.heap.size A m cap xs hm _ ((Ext.alloc w _).cell hBs) (hS.ext (Ext.alloc w _)) hA) hb)

/-- The share of a shell among these powers, or that it is too large. -/
def shareV (ps : List Int) (i : Nat) : (Int × Int) × Int :=
  if 1000000000 < (lowF (ps.getD i 0) ps.sum).2 then ((0, 0), 8) else (lowF (ps.getD i 0) ps.sum, 0)
def shareE (t : Int) (l : List Sh) (f : Int) (m : Nat) (x : Int) : Int := firstE [driveE t l f m, shE l.length x]
def FreshF (q : Nat) : Value → World → Prop := fun u W => ∃ b, q ≤ b ∧ u = .pointer (some ⟨b, 0, none⟩) ∧ Blk W b 68 #[.int .i64 0, .int .i64 0]
theorem FreshF.ext {q : Nat} {u : Value} {W W' : World} (h : FreshF q u W) (e : Ext W W') : FreshF q u W' := by
  obtain ⟨b, h1, h2, h3⟩ := h
  exact ⟨b, h1, h2, h3.ext e⟩

set_option maxRecDepth 100000 in
set_option maxHeartbeats 4000000 in
theorem shareOf_any (t : Int) (A : Option Addr) (n cap : Nat) (l : List Sh) (hn : l.length = n) (f : Int) (B : Option Addr) (m cap' : Nat) (hot : List Bool) (hm : hot.length = m) (x : Int) (w : World)
    (hS : LadAt w A l) (hH : RowsAt 1 boolEnc w B hot) :
    Calls Try.prog 41 #[.agg #[.int .i64 t, .slice A n cap], .agg #[.int .i64 f, .slice B m cap'], .int .i64 x] w fun e w' => Ext w w' ∧
      ((shareE t l f m x ≠ 0 ∧ e = .returned (.tuple #[.agg #[.int .i64 0, .int .i64 0], .int .i64 (shareE t l f m x)])) ∨
       (shareE t l f m x = 0 ∧ e = .returned (.tuple #[.agg #[.int .i64 (shareV (powers f hot l) x.toNat).1.1, .int .i64 (shareV (powers f hot l) x.toNat).1.2], .int .i64 (shareV (powers f hot l) x.toNat).2]))) := by
  have hnb : n ≤ 1152921504606846976 := by have := hS.1.1; omega
  have HC := Lib.hid (fun W (e : Ext w W) => checkDrive_any t A n cap l hn f B m cap' W (hS.1.ext e))
  have HSE := Lib.hid (fun W v (h : IntsAt W v [x]) => shellError_any t A n cap v [x] W hnb h)
  rw [shE_eq n x] at HSE
  have e0 : Ext w (((w.alloc (.cells #[.int .i64 t, .slice A n cap] 24)).alloc (.cells #[.int .i64 f, .slice B m cap'] 27)).alloc (.cells #[.int .i64 0, .int .i64 0] 68)) := (Ext.alloc _ _).trans ((Ext.alloc _ _).trans (Ext.alloc _ _))
  have k0 : Blk (((w.alloc (.cells #[.int .i64 t, .slice A n cap] 24)).alloc (.cells #[.int .i64 f, .slice B m cap'] 27)).alloc (.cells #[.int .i64 0, .int .i64 0] 68)) w.heap.size 24 #[.int .i64 t, .slice A n cap] := ((Blk.newAt _ _ _ rfl).alloc _).alloc _
  have k1 : Blk (((w.alloc (.cells #[.int .i64 t, .slice A n cap] 24)).alloc (.cells #[.int .i64 f, .slice B m cap'] 27)).alloc (.cells #[.int .i64 0, .int .i64 0] 68)) (w.heap.size + 1) 27 #[.int .i64 f, .slice B m cap'] := (Blk.newAt _ _ _ (by simp)).alloc _
  have k2 : Blk (((w.alloc (.cells #[.int .i64 t, .slice A n cap] 24)).alloc (.cells #[.int .i64 f, .slice B m cap'] 27)).alloc (.cells #[.int .i64 0, .int .i64 0] 68)) (w.heap.size + 1 + 1) 68 #[.int .i64 0, .int .i64 0] := Blk.newAt _ _ _ (by simp)
  have HE := Lib.hid (show shareE t l f m x = firstE [driveE t l f m, shE n x] by unfold shareE; rw [hn])
  have HS := Lib.hid hS
  have HH := Lib.hid hH
  have HN := Lib.hid hn
  have HM := Lib.hid hm
  clear hn hS hm hH
  obtain ⟨q1, hq1⟩ : ∃ q, q = driveE t l f m := ⟨_, rfl⟩
  obtain ⟨q2, hq2⟩ : ∃ q, q = shE n x := ⟨_, rfl⟩
  rw [← hq1] at HC HE
  rw [← hq2] at HSE HE
  have HQ1 := Lib.hid hq1
  have HQ2 := Lib.hid hq2
  clear hq1 hq2
  go_enter Try.func41, Try.ntmps41
  go_wp2
  generalize (((w.alloc (.cells #[.int .i64 t, .slice A n cap] 24)).alloc (.cells #[.int .i64 f, .slice B m cap'] 27)).alloc (.cells #[.int .i64 0, .int .i64 0] 68)) = W0 at *
  have z0 : W0.cell? ⟨w.heap.size, 0, none⟩ = some (.int .i64 t) := k0.cell 0
  have z1 : W0.cell? ⟨w.heap.size, 1, none⟩ = some (.slice A n cap) := k0.cell 1
  have z2 : W0.cell? ⟨w.heap.size + 1, 0, none⟩ = some (.int .i64 f) := k1.cell 0
  have z3 : W0.cell? ⟨w.heap.size + 1, 1, none⟩ = some (.slice B m cap') := k1.cell 1
  refine wp_region_each [some 13, some 14, some 15, some 16, some 17, some 18, some 19, some 20, some 21, some 8] [[3], [4], [13, 14], [3], [2], [17], [16, 18], [15, 19], [20], [21]]
    [Is (.agg #[.int .i64 (t), .slice A n cap]), Is (.agg #[.int .i64 (f), .slice B m cap']), Is (.int .i64 (q1)), Is (.agg #[.int .i64 (t), .slice A n cap]), Is (.int .i64 (x)), Ints [x], Is (.int .i64 (q2)), Ints [q1, q2], Is (.int .i64 (firstE [q1, q2])), Is (.int .i64 (firstE [q1, q2]))]
    (by kernel_rfl) (by kernel_rfl) (by kernel_rfl) (by kernel_rfl) (by kernel_rfl) Ext (fun W => Ext W0 W)
    (fun W _ => Ext.refl W) (fun W W' h k => h.trans k) ?_ (Ext.drew _) ?_ ?_
  · repeat (refine ⟨fun _ _ _ _ k h => (by first | exact h | exact IntsAt.ext h k), ?_⟩)
    exact trivial
  · refine ⟨?_, ?_, ?_, ?_, ?_, ?_, ?_, ?_, ?_, ?_, trivial⟩
    all_goals intro ρ W ⟨kc, kg, kf⟩ hF hs
    · obtain ⟨h0, -⟩ := hs
      replace h0 : ρ (.tmp 3) = .pointer (some ⟨w.heap.size, 0, none⟩) := h0
      have hc0 : W.cell? ⟨w.heap.size, 0, none⟩ = some (.int .i64 (t)) := hF.cell (by assumption)
      have hc1 : W.cell? ⟨w.heap.size, 1, none⟩ = some (.slice A n cap) := hF.cell (by assumption)
      go_simp
      exact ⟨Ext.refl _, rfl⟩
    · obtain ⟨h0, -⟩ := hs
      replace h0 : ρ (.tmp 4) = .pointer (some ⟨w.heap.size + 1, 0, none⟩) := h0
      have hc0 : W.cell? ⟨w.heap.size + 1, 0, none⟩ = some (.int .i64 (f)) := hF.cell (by assumption)
      have hc1 : W.cell? ⟨w.heap.size + 1, 1, none⟩ = some (.slice B m cap') := hF.cell (by assumption)
      go_simp
      exact ⟨Ext.refl _, rfl⟩
    · obtain ⟨h0, h1, -⟩ := hs
      replace h0 : ρ (.tmp 13) = .agg #[.int .i64 (t), .slice A n cap] := h0
      replace h1 : ρ (.tmp 14) = .agg #[.int .i64 (f), .slice B m cap'] := h1
      go_simp
      exact (HC.out W (e0.trans hF)).mono fun _ _ ⟨h1, h2⟩ => ⟨_, h1, h2, rfl⟩
    · obtain ⟨h0, -⟩ := hs
      replace h0 : ρ (.tmp 3) = .pointer (some ⟨w.heap.size, 0, none⟩) := h0
      have hc0 : W.cell? ⟨w.heap.size, 0, none⟩ = some (.int .i64 (t)) := hF.cell (by assumption)
      have hc1 : W.cell? ⟨w.heap.size, 1, none⟩ = some (.slice A n cap) := hF.cell (by assumption)
      go_simp
      exact ⟨Ext.refl _, rfl⟩
    · obtain ⟨h0, -⟩ := hs
      replace h0 : ρ (.tmp 2) = .int .i64 (x) := h0
      go_simp
      exact ⟨Ext.refl _, rfl⟩
    · obtain ⟨h0, -⟩ := hs
      replace h0 : ρ (.tmp 17) = .int .i64 (x) := h0
      go_simp
      exact ⟨Ext.alloc _ _, ints_new _ [x] _ (by simp)⟩
    · obtain ⟨h0, h1, -⟩ := hs
      replace h0 : ρ (.tmp 16) = .agg #[.int .i64 (t), .slice A n cap] := h0
      replace h1 : (Ints [x]) (ρ (.tmp 18)) W := h1
      go_simp
      exact (HSE.out W _ h1).mono fun _ _ ⟨h1, h2⟩ => ⟨_, h1, h2, rfl⟩
    · obtain ⟨h0, h1, -⟩ := hs
      replace h0 : ρ (.tmp 15) = .int .i64 (q1) := h0
      replace h1 : ρ (.tmp 19) = .int .i64 (q2) := h1
      go_simp
      exact ⟨Ext.alloc _ _, ints_new _ [q1, q2] _ (by simp)⟩
    · obtain ⟨h0, -⟩ := hs
      replace h0 : (Ints [q1, q2]) (ρ (.tmp 20)) W := h0
      go_simp
      exact (firstOf_any _ _ _ h0).mono fun _ _ ⟨h1, h2⟩ => ⟨_, h1, h2 ▸ Ext.refl _, rfl⟩
    · obtain ⟨h0, -⟩ := hs
      replace h0 : ρ (.tmp 21) = .int .i64 (firstE [q1, q2]) := h0
      go_simp
      exact ⟨Ext.refl _, rfl⟩
  · intro fv W1 hF hs
    obtain ⟨-, -, -, -, -, -, -, -, -, h8, -⟩ := hs
    replace h8 : fv 8 = .int .i64 (firstE [q1, q2]) := h8
    simp only [fin, List.filterMap]
    go_simp
    rw [← HE.out]
    have e1 := e0.trans hF
    clear h8 z0 z1 z2 z3
    replace k0 := k0.ext hF
    replace k1 := k1.ext hF
    replace k2 := k2.ext hF
    clear hF
    by_cases hr : shareE t l f m x = 0
    · have hz := (firstE_zero _).1 (HE.out.symm.trans hr)
      have hz1 : q1 = 0 := hz _ (by simp)
      have hz2 : q2 = 0 := hz _ (by simp)
      obtain ⟨⟨_, ⟨h1, h4⟩, hok⟩, hf, hml⟩ := (driveE_zero t l f m).1 (HQ1.out.symm.trans hz1)
      obtain rfl : n = m := by rw [hml, ← HN.out]
      rw [HN.out] at h1 h4
      have hx : 0 ≤ x ∧ x ≤ (n : Int) - 1 := by
        have h := HQ2.out.symm.trans hz2
        unfold shE at h
        split at h
        · rename_i hc; simpa [inB] using hc
        · cases h
      obtain ⟨i, rfl⟩ : ∃ i : Nat, x = (i : Int) := ⟨x.toNat, by omega⟩
      have hin : i < n := by omega
      have HP := Lib.hid (fun W (e : Ext w W) => powersOf_any t A n cap l HN.out f B cap' hot HM.out W (HS.out.1.ext e) (HH.out.ext e) hok hf h1 h4)
      have HIT := Lib.hid (fun W (e : Ext w W) v => powers_at_w (cap := cap) HN.out (hot := hot) hok hf h1 h4 (HS.out.ext e) (v := v))
      have hpok := powers_ok (hot := hot) hok hf (by rw [HN.out]; exact h1) (by rw [HN.out]; exact h4)
      have HPL := Lib.hid (show (powers f hot l).length = n by rw [powers_len, HN.out])
      have HPB := Lib.hid (fun k y h => power_bd hok hf (by rw [HN.out]; exact h4) k y h (hot := hot))
      have hn4 : n ≤ 1000 := by omega
      have HR := Lib.hid hr
      have hr' : (shareE t l f n (i : Int) != 0) = false := by simp [hr]
      have HSV := Lib.hid (show (i : Int).toNat = i from by omega)
      clear hz hz1 hz2 hr HE hml HC HSE HQ1 HQ2 hok hf h1 h4 hx
      obtain ⟨r, hrr⟩ : ∃ r, r = shareE t l f n (i : Int) := ⟨_, rfl⟩
      rw [← hrr] at hr' ⊢
      have HRR := Lib.hid hrr
      clear hrr
      obtain ⟨ps, hps⟩ : ∃ ps, ps = powers f hot l := ⟨_, rfl⟩
      rw [← hps] at HIT HPL HPB hpok
      have HPS := Lib.hid hps
      clear hps
      obtain ⟨p, hp⟩ : ∃ p, ps[i]? = some p := ⟨_, List.getElem?_eq_getElem (by rw [HPL.out]; exact hin)⟩
      obtain ⟨p0, p1⟩ := HPB.out i p hp
      obtain ⟨s0, s1⟩ := hpok.sum
      have HPOK := Lib.hid hpok
      have HV := Lib.hid (show shareV ps i = if 1000000000 < (lowF p ps.sum).2 then ((0, 0), 8) else (lowF p ps.sum, 0) by unfold shareV; rw [List.getD, hp]; rfl)
      have HLF := Lib.hid (show lowF p ps.sum = (p.tdiv (Nat.gcd p.natAbs ps.sum.natAbs), ps.sum.tdiv (Nat.gcd p.natAbs ps.sum.natAbs)) from rfl)
      have hg1 := gcd_pos (a := p) (b := ps.sum) s0 (by omega)
      have HWP := Lib.hid (wrap_tdiv (x := p) (m := (Nat.gcd p.natAbs ps.sum.natAbs : Int)) (by unfold Big; omega))
      have HWS := Lib.hid (wrap_tdiv (x := ps.sum) (m := (Nat.gcd p.natAbs ps.sum.natAbs : Int)) (by unfold Big; omega))
      have HDV := Lib.hid (fun W v (h : IntsAt W v [p, ps.sum]) => divisor_any v [p, ps.sum] W h (by intro y hy; simp at hy; rcases hy with rfl | rfl <;> (unfold Big; omega)))
      have hgl : gcdL [p, ps.sum] = Nat.gcd p.natAbs ps.sum.natAbs := by simp [gcdL]
      rw [hgl] at HDV
      have HSB := Lib.hid (show ∀ k, Big (ps.take k).sum from fun k => by have := hpok.part k; unfold Big; omega)
      have HEL := Lib.hid hp
      clear hgl hp p0 p1 hpok HPB
      have z0 : W1.cell? ⟨w.heap.size, 0, none⟩ = some (.int .i64 t) := k0.cell 0
      have z1 : W1.cell? ⟨w.heap.size, 1, none⟩ = some (.slice A n cap) := k0.cell 1
      have z2 : W1.cell? ⟨w.heap.size + 1, 0, none⟩ = some (.int .i64 f) := k1.cell 0
      have z3 : W1.cell? ⟨w.heap.size + 1, 1, none⟩ = some (.slice B n cap') := k1.cell 1
      have E1 := Lib.hid e1
      have K2 := Lib.hid k2
      clear e1 k0 k1 k2 e0
      go_wp2_with (first
        | (go_at_call 96; refine (HP.out _ E1.out).mono ?_; rintro e W4 ⟨v4, rfl, hv4, hx4⟩; obtain ⟨first, rfl, hit⟩ := HIT.out _ (E1.out.trans hx4) _ hv4)
        | (go_at_call 95; refine (collect_any 130 first #[] eg130 ps n HPL.out hn4 _ hit).mono ?_; rintro e W5 ⟨v5, rfl, hv5, hx5⟩; obtain ⟨A5, c5, rfl, hr5⟩ := ints_rows hv5; rw [HPL.out]; obtain ⟨b5, o5, rfl, hb5, hc5⟩ := hr5.2 i p HEL.out; have HR5 := Lib.hid hr5; have HC5 := Lib.hid (show W5.cell? ⟨b5, o5 + i, none⟩ = some (.int .i64 p) from by have := hc5 0 _ rfl; simpa using this); have X5 := Lib.hid (hx4.trans hx5); clear z0 z1 z2 z3 hv4 hit hv5 hr5 hc5 hx4 hx5)
        | (go_at_call 99; refine (values_any _ _ _ _).mono ?_; rintro e W6 ⟨rfl, hw6⟩; have hx6 : Ext W5 W6 := by rw [hw6]; exact Ext.alloc _ _
           have hbx : W6.cell? ⟨W5.heap.size, 0, none⟩ = some (.slice (some ⟨b5, o5, none⟩) n c5) := by rw [hw6]; exact (Blk.new _ _ _).cell 0
           clear hw6)
        | (go_at_call 98; refine (sumValues_any _ _ _ _ ps HPL.out _ hbx (HR5.out.ext hx6) (fun b o h => by simp at h; have := hx6.size; omega) HSB.out).mono ?_; rintro e W7 ⟨rfl, hx7⟩; have hc7 : W7.cell? ⟨b5, o5 + i, none⟩ = some (.int .i64 p) := (hx6.trans hx7).cell HC5.out; have X7 := Lib.hid (X5.out.trans (hx6.trans hx7)); clear hx6 hx7 hbx; have hki : (i : Int) < (n : Int) := by omega)
        | (go_at_call 100; refine (HDV.out _ _ (ints_newAt _ [p, ps.sum] _ rfl (by simp) rfl)).mono ?_; rintro e W9 ⟨rfl, hx9⟩; have c9 : W9.cell? ⟨b5, o5 + i, none⟩ = some (.int .i64 p) := ((Ext.alloc _ _).trans hx9).cell hc7; have X9 := Lib.hid (X7.out.trans ((Ext.alloc _ _).trans hx9)); clear hx9 hc7))
      generalize Nat.gcd p.natAbs ps.sum.natAbs = g at *
      generalize ps.sum = sm at *
      refine wp_region_partR 11 [some 40, some 41, some 42, some 43, some 44, some 45, some 46, some 47, some 48, some 49, some 12] [[9], [2], [40, 41], [42], [11], [43, 44], [10], [11], [46, 47], [45, 48], []]
        [Is (.slice (some ⟨b5, o5, none⟩) n c5), Is (.int .i64 ((i : Int))), Is (.pointer (some ⟨b5, o5 + i, none⟩)), Is (.int .i64 (p)), Is (.int .i64 ((g : Int))), Is (.int .i64 (p.tdiv g)), Is (.int .i64 (sm)), Is (.int .i64 ((g : Int))), Is (.int .i64 (sm.tdiv g)), Is (.agg #[.int .i64 (p.tdiv g), .int .i64 (sm.tdiv g)]), FreshF W9.heap.size]
        (by kernel_rfl) (by kernel_rfl) (by kernel_rfl) (by kernel_rfl) (by kernel_rfl) (by kernel_rfl) (by kernel_rfl) Ext (fun W => Ext W9 W)
        (fun W _ => Ext.refl W) (fun W W' h k => h.trans k) ?_ (Ext.drew _) ?_ ?_
      · repeat (refine ⟨fun _ _ _ _ k h => (by first | exact h | exact FreshF.ext h k), ?_⟩)
        exact trivial
      · refine ⟨?_, ?_, ?_, ?_, ?_, ?_, ?_, ?_, ?_, ?_, ?_, trivial⟩
        all_goals intro ρ W ⟨kc, kg, kf⟩ hF hs
        · obtain ⟨h0, -⟩ := hs
          replace h0 : ρ (.tmp 9) = .slice (some ⟨b5, o5, none⟩) n c5 := h0
          go_simp
          exact ⟨Ext.refl _, rfl⟩
        · obtain ⟨h0, -⟩ := hs
          replace h0 : ρ (.tmp 2) = .int .i64 ((i : Int)) := h0
          go_simp
          exact ⟨Ext.refl _, rfl⟩
        · obtain ⟨h0, h1, -⟩ := hs
          replace h0 : ρ (.tmp 40) = .slice (some ⟨b5, o5, none⟩) n c5 := h0
          replace h1 : ρ (.tmp 41) = .int .i64 ((i : Int)) := h1
          have hki : (i : Int) < (n : Int) := by omega
          go_simp
          exact ⟨Ext.refl _, rfl⟩
        · obtain ⟨h0, -⟩ := hs
          replace h0 : ρ (.tmp 42) = .pointer (some ⟨b5, o5 + i, none⟩) := h0
          have hc0 : W.cell? ⟨b5, o5 + i, none⟩ = some (.int .i64 (p)) := hF.cell (by assumption)
          go_simp
          exact ⟨Ext.refl _, rfl⟩
        · obtain ⟨h0, -⟩ := hs
          replace h0 : ρ (.tmp 11) = .int .i64 ((g : Int)) := h0
          go_simp
          exact ⟨Ext.refl _, rfl⟩
        · obtain ⟨h0, h1, -⟩ := hs
          replace h0 : ρ (.tmp 43) = .int .i64 (p) := h0
          replace h1 : ρ (.tmp 44) = .int .i64 ((g : Int)) := h1
          have hq : IntKind.i64.wrap (p.tdiv g) = p.tdiv g := HWP.out
          have hm2 : ¬ g = 0 := by omega
          go_simp
          exact ⟨Ext.refl _, rfl⟩
        · obtain ⟨h0, -⟩ := hs
          replace h0 : ρ (.tmp 10) = .int .i64 (sm) := h0
          go_simp
          exact ⟨Ext.refl _, rfl⟩
        · obtain ⟨h0, -⟩ := hs
          replace h0 : ρ (.tmp 11) = .int .i64 ((g : Int)) := h0
          go_simp
          exact ⟨Ext.refl _, rfl⟩
        · obtain ⟨h0, h1, -⟩ := hs
          replace h0 : ρ (.tmp 46) = .int .i64 (sm) := h0
          replace h1 : ρ (.tmp 47) = .int .i64 ((g : Int)) := h1
          have hq : IntKind.i64.wrap (sm.tdiv g) = sm.tdiv g := HWS.out
          have hm2 : ¬ g = 0 := by omega
          go_simp
          exact ⟨Ext.refl _, rfl⟩
        · obtain ⟨h0, h1, -⟩ := hs
          replace h0 : ρ (.tmp 45) = .int .i64 (p.tdiv g) := h0
          replace h1 : ρ (.tmp 48) = .int .i64 (sm.tdiv g) := h1
          go_simp
          exact ⟨Ext.refl _, rfl⟩
        · go_simp
          exact ⟨Ext.alloc _ _, W.heap.size, hF.size, rfl, Blk.new _ _ _⟩
      · intro fv W10 hF hs
        obtain ⟨-, -, -, -, -, -, -, -, -, h49, h12, -⟩ := hs
        replace h49 : fv 49 = .agg #[.int .i64 (p.tdiv g), .int .i64 (sm.tdiv g)] := h49
        replace h12 : (FreshF W9.heap.size) (fv 12) W10 := h12
        simp only [fin, List.filterMap]
        go_simp
        have X10 := Lib.hid (E1.out.trans (X9.out.trans hF))
        obtain ⟨b10, hb10, hv10, hk10⟩ := h12
        rw [hv10]
        have K10 := Lib.hid hk10
        have K22 := Lib.hid ((K2.out.ext X9.out).ext hF)
        have hne : w.heap.size + 1 + 1 < b10 := by have := (K2.out.ext X9.out).lt; omega
        have f0 := hk10.free 0
        have f1 := hk10.free 1
        have c0 := hk10.cell 0
        have c1 := hk10.cell 1
        have f2 := K22.out.free 0
        have f3 := K22.out.free 1
        have y0 := K22.out.cell 0
        have y1 := K22.out.cell 1
        simp only [List.getElem?_toArray, List.getElem?_cons_zero, List.getElem?_cons_succ] at c0 c1 y0 y1
        clear hF hv10 hk10 c9
        have hne1 : ¬ b10 = w.heap.size + 1 + 1 := by omega
        have hne2 : ¬ w.heap.size + 1 + 1 = b10 := by omega
        have hb0 : w.heap.size ≤ b10 := by omega
        by_cases hbig : 1000000000 < sm.tdiv g
        · have hd : decide (1000000000 < sm.tdiv g) = true := by simpa using hbig
          have HV2 := Lib.hid (show shareV ps i = ((0, 0), 8) by rw [HV.out, HLF.out, if_pos hbig])
          clear hbig HV
          go_wp2
          refine bodyPost_ret (v := .tuple #[.agg #[.int .i64 0, .int .i64 0], .int .i64 8]) (by simp [results, Try.f41, go_sem, y0, y1]) rfl ⟨Ext.set (Ext.set (Ext.set (Ext.set X10.out hb0 _) hb0 _) (by dsimp only; omega) _) (by dsimp only; omega) _, .inr ⟨HR.out, by rw [HSV.out, ← HPS.out, HV2.out]⟩⟩
        · have hd : decide (1000000000 < sm.tdiv g) = false := by simpa using hbig
          have HV2 := Lib.hid (show shareV ps i = ((p.tdiv g, sm.tdiv g), 0) by rw [HV.out, HLF.out, if_neg hbig])
          clear hbig HV
          go_wp2
          refine bodyPost_ret (v := .tuple #[.agg #[.int .i64 (p.tdiv g), .int .i64 (sm.tdiv g)], .int .i64 0]) (by simp [results, Try.f41, go_sem, y0, y1]) rfl ⟨Ext.set (Ext.set (Ext.set (Ext.set X10.out hb0 _) hb0 _) (by dsimp only; omega) _) (by dsimp only; omega) _, .inr ⟨HR.out, by rw [HSV.out, ← HPS.out, HV2.out]⟩⟩
    · have HR := Lib.hid hr
      have hr' : (shareE t l f m x != 0) = true := by simp [hr]
      have f0 := k2.free 0
      have f1 := k2.free 1
      have y0 := k2.cell 0
      have y1 := k2.cell 1
      simp only [List.getElem?_toArray, List.getElem?_cons_zero, List.getElem?_cons_succ] at y0 y1
      clear hr HE HC HSE k0 k1
      obtain ⟨r, hrr⟩ : ∃ r, r = shareE t l f m x := ⟨_, rfl⟩
      rw [← hrr] at hr' ⊢
      have HRR := Lib.hid hrr
      clear hrr
      go_wp2
      refine bodyPost_ret (v := .tuple #[.agg #[.int .i64 0, .int .i64 0], .int .i64 r]) (by simp [results, Try.f41, go_sem, y0, y1]) rfl ⟨Ext.set (Ext.set e1 (by dsimp only; omega) _) (by dsimp only; omega) _, .inl ⟨HR.out, by rw [HRR.out]⟩⟩

end Go.Proofs.Ytpaoeghdfeekoaa

/- The reference's solution of a ladder. By lawgen.py. -/
namespace Go.Proofs.Ytpaoeghdfeekoaa
open Go.RowKit Go.Shelf Go.Mem Go.RegInv
attribute [local go_sem] RelUpon_value RelUpon_skip RelUpon_enter BigFrame.eval_const BigFrame.eval_global BigFrame.eval_func

theorem gadd_any (a b c d : Int) (ha : Mid a) (hb : Mid b) (hc : Mid c) (hd : Mid d) (w : World) :
    Calls Try.prog 57 #[.agg #[.int .i64 a, .int .i64 b], .agg #[.int .i64 c, .int .i64 d]] w fun e w' => e = .returned (.agg #[.int .i64 (a + c), .int .i64 (b + d)]) ∧ Ext w w' := by
  obtain ⟨ha1, ha2⟩ := ha
  obtain ⟨hb1, hb2⟩ := hb
  obtain ⟨hc1, hc2⟩ := hc
  obtain ⟨hd1, hd2⟩ := hd
  go_enter Try.func57, Try.ntmps57
  go_wp2
  exact bodyPost_ret (v := .agg #[.int .i64 (a + c), .int .i64 (b + d)]) (by simp [results, Try.f57, go_sem]) rfl ⟨rfl, (Ext.alloc _ _).trans ((Ext.alloc _ _).trans (Ext.alloc _ _))⟩
theorem scaled_any (a b n : Int) (ha : Mid (n * a)) (hb : Mid (n * b)) (w : World) :
    Calls Try.prog 93 #[.agg #[.int .i64 a, .int .i64 b], .int .i64 n] w fun e w' => e = .returned (.agg #[.int .i64 (n * a), .int .i64 (n * b)]) ∧ Ext w w' := by
  obtain ⟨ha1, ha2⟩ := ha
  obtain ⟨hb1, hb2⟩ := hb
  go_enter Try.func93, Try.ntmps93
  go_wp2
  exact bodyPost_ret (v := .agg #[.int .i64 (n * a), .int .i64 (n * b)]) (by simp [results, Try.f93, go_sem]) rfl ⟨rfl, (Ext.alloc _ _).trans (Ext.alloc _ _)⟩
theorem turned_any (a b : Int) (hb : Mid b) (w : World) :
    Calls Try.prog 94 #[.agg #[.int .i64 a, .int .i64 b]] w fun e w' => e = .returned (.agg #[.int .i64 (-b), .int .i64 a]) ∧ Ext w w' := by
  obtain ⟨hb1, hb2⟩ := hb
  go_enter Try.func94, Try.ntmps94
  go_wp2
  exact bodyPost_ret (v := .agg #[.int .i64 (-b), .int .i64 a]) (by simp [results, Try.f94, go_sem]) rfl ⟨rfl, (Ext.alloc _ _).trans (Ext.alloc _ _)⟩

theorem mk_run (W : World) (L : Int) (k : Nat) (hL : L = (k : Int)) (hk : k ≤ 100) :
    (Instr.makeSlice 53 (.int .i64 L) (.int .i64 L)).run Try.prog W = .ok (.slice (some ⟨W.heap.size, 0, none⟩) k k) (W.alloc (.cells (madeCells #[.int .i64 0, .int .i64 0] (k * 2)) 65)) := by
  obtain ⟨i0, hi, hz0, hz1, hz2⟩ := info_parts info65
  subst hL
  have := run_make (P := Try.prog) W 53 65 i0 _ Try.underlying53 hi hz0 .i64 .i64 (k : Int) (k : Int) (by omega) (Int.le_refl _) (by rw [hz2]; omega) (by omega)
  rw [hz1] at this
  simpa [Value.cells] using this

/-- A new slice of k voltages. -/
def FrV (q k : Nat) : Value → World → Prop := fun u W => ∃ g cu, q ≤ g ∧ u = .slice (some ⟨g, 0, none⟩) k k ∧ Blk W g 65 cu ∧ cu.size = k * 2
theorem FrV.ext {q k : Nat} {u : Value} {W W' : World} (h : FrV q k u W) (e : Ext W W') : FrV q k u W' := by
  obtain ⟨g, cu, h1, h2, h3, h4⟩ := h; exact ⟨g, cu, h1, h2, h3.ext e, h4⟩
theorem mk_fr (W : World) (k : Nat) (q : Nat) (hq : q ≤ W.heap.size) : FrV q k (.slice (some ⟨W.heap.size, 0, none⟩) k k) (W.alloc (.cells (madeCells #[.int .i64 0, .int .i64 0] (k * 2)) 65)) :=
  ⟨_, _, hq, rfl, Blk.new _ _ _, by rw [size_madeCells]⟩

/-- The cells from j on. -/
def FromC (cu : Array Value) (j n : Nat) (z : Nat → G) : Prop := ∀ p, j ≤ p → p < n → cu[p * 2]? = some (.int .i64 (z p).re) ∧ cu[p * 2 + 1]? = some (.int .i64 (z p).im)
theorem fromC_set {cu : Array Value} {j n : Nat} {z : Nat → G} (h : FromC cu (j + 1) n z) (hs : cu.size = n * 2) (hj : j < n) {x y : Int} (hx : x = (z j).re) (hy : y = (z j).im) :
    FromC ((cu.setIfInBounds (j * 2) (.int .i64 x)).setIfInBounds (j * 2 + 1) (.int .i64 y)) j n z := by
  intro p hp hpn
  rw [set_at, set_at, set_at, set_at]
  by_cases hpj : p = j
  · subst hpj
    rw [if_neg (by omega), if_pos rfl, if_pos (by omega), if_pos rfl, if_pos (by simp; omega), hx, hy]
    exact ⟨rfl, rfl⟩
  · rw [if_neg (by omega), if_neg (by omega), if_neg (by omega), if_neg (by omega)]
    exact h p (by omega) hpn

/-- Solve behind some of its rounds. -/
structure StS (W0 : World) (f : Int) (hot : List Bool) (ls : List Sh) (n g8 g9 q10 j : Nat) (W : World) : Prop where
  b8 : ∃ cu, Blk W g8 65 cu ∧ cu.size = (n + 1) * 2 ∧ FromC cu j (n + 1) (fun p => (st f hot ls p).last)
  b9 : ∃ cu, Blk W g9 65 cu ∧ cu.size = n * 2 ∧ FromC cu j n (fun p => (st f hot ls p).cur)
  b10 : Blk W q10 65 #[.int .i64 (st f hot ls j).cur.re, .int .i64 (st f hot ls j).cur.im]
  below : Ext W0 W

theorem rows_from {W : World} {g n : Nat} {cu : Array Value} {z : Nat → G} {xs : List G} (hb : Blk W g 65 cu) (hn : n ≤ 1152921504606846976) (hl : xs.length = n) (hx : ∀ p, p < n → xs[p]? = some (z p)) (h : FromC cu 0 n z) : RowsAt 2 G.enc W (some ⟨g, 0, none⟩) xs := by
  refine ⟨by omega, fun i s hs => ⟨g, 0, rfl, hb.lt, fun j u hu => ?_⟩⟩
  have hi : i < n := by rw [← hl]; exact (List.getElem?_eq_some_iff.1 hs).1
  have hj : j < 2 := (List.getElem?_eq_some_iff.1 hu).1
  obtain rfl : z i = s := by rw [hx i hi] at hs; exact Option.some.inj hs
  obtain ⟨h1, h2⟩ := h i (Nat.zero_le _) hi
  rw [hb.cell]
  match j, hj, hu with
  | 0, _, hu =>
    obtain rfl : Value.int .i64 (z i).re = u := by simpa [G.enc] using hu
    rw [show 0 + i * 2 + 0 = i * 2 by omega]; exact h1
  | 1, _, hu =>
    obtain rfl : Value.int .i64 (z i).im = u := by simpa [G.enc] using hu
    rw [show 0 + i * 2 + 1 = i * 2 + 1 by omega]; exact h2

set_option maxRecDepth 100000 in
set_option maxHeartbeats 4000000 in
theorem solve_any (t : Int) (A : Option Addr) (n cap : Nat) (ls : List Sh) (hn : ls.length = n) (f : Int) (B : Option Addr) (cap' : Nat) (hot : List Bool) (hm : hot.length = n) (w : World)
    (hS : RowsAt 3 Sh.enc w A ls) (hH : RowsAt 1 boolEnc w B hot) (hok : ∀ s ∈ ls, shOK s) (hf : 1 ≤ f ∧ f ≤ 8) (h1 : 1 ≤ n) (hn4 : n ≤ 4) :
    Calls Try.prog 36 #[.agg #[.int .i64 t, .slice A n cap], .agg #[.int .i64 f, .slice B n cap']] w fun e w' => ∃ g8 g9, e = .returned (.tuple #[.slice (some ⟨g8, 0, none⟩) (n + 1) (n + 1), .slice (some ⟨g9, 0, none⟩) n n]) ∧
      RowsAt 2 G.enc w' (some ⟨g8, 0, none⟩) (volts f hot ls) ∧ RowsAt 2 G.enc w' (some ⟨g9, 0, none⟩) (curr ls (volts f hot ls).tail) ∧ Ext w w' := by
  have e0 : Ext w ((w.alloc (.cells #[.int .i64 t, .slice A n cap] 24)).alloc (.cells #[.int .i64 f, .slice B n cap'] 27)) := (Ext.alloc _ _).trans (Ext.alloc _ _)
  have FA := Lib.hid (show ∀ W : World, Ext ((w.alloc (.cells #[.int .i64 t, .slice A n cap] 24)).alloc (.cells #[.int .i64 f, .slice B n cap'] 27)) W →
      W.cell? ⟨w.heap.size, 0, none⟩ = some (.int .i64 t) ∧ W.cell? ⟨w.heap.size, 1, none⟩ = some (.slice A n cap) ∧ W.cell? ⟨w.heap.size + 1, 0, none⟩ = some (.int .i64 f) ∧ W.cell? ⟨w.heap.size + 1, 1, none⟩ = some (.slice B n cap') from
    fun W hx => ⟨hx.cell (by go_simp), hx.cell (by go_simp), hx.cell (by go_simp), hx.cell (by go_simp)⟩)
  obtain ⟨rl, hrl⟩ : ∃ rl, rl = reactL f hot ls := ⟨_, rfl⟩
  have H26 := Lib.hid (fun W (e : Ext w W) => show Calls Try.prog 26 #[.agg #[.int .i64 t, .slice A n cap], .agg #[.int .i64 f, .slice B n cap']] W (VPost W (Ints rl)) from
    (refReactances_any t A n cap ls hn f B cap' hot hm W (hS.ext e) (hH.ext e) hok hf hn4).mono fun _ _ ⟨v, h1, h2, h3⟩ => ⟨v, h1, h3, by rw [hrl]; exact h2⟩)
  have HRL := Lib.hid hrl
  have HS := Lib.hid hS
  have HN := Lib.hid hn
  have HM := Lib.hid hm
  have E0 := Lib.hid e0
  have HRLN := Lib.hid (show rl.length = n by rw [hrl, reactL_len (by rw [hm, hn]), hn])
  have HSM := Lib.hid (fun k => st_small (hot := hot) hok hf (by omega) k)
  have HRB := Lib.hid (fun (b : Bool) (s : Sh) (hs : s ∈ ls) => (⟨react_bd (h := b) hf (hok s hs), (hok s hs).1⟩ : (1 ≤ react f b s ∧ react f b s ≤ 32) ∧ (1 ≤ s.g ∧ s.g ≤ 4)))
  have HVL := Lib.hid (volts_len f hot ls)
  clear hrl hS hH hn hm e0 hok hf
  go_enter Try.func36, Try.ntmps36
  go_wp2
  obtain ⟨z0, z1, z2, z3⟩ := FA.out _ (Ext.refl _)
  generalize hW0 : (w.alloc (.cells #[.int .i64 t, .slice A n cap] 24)).alloc (.cells #[.int .i64 f, .slice B n cap'] 27) = W0 at *
  clear hW0
  refine wp_region_each [some 12, some 13, some 14, some 15, some 16, some 17, some 6, some 7] [[2], [12], [13], [2], [3], [15, 16], [14], [17]]
    [Is (.pointer (some ⟨w.heap.size, 1, none⟩)), Is (.slice A n cap), Is (.int .i64 ((n : Int))), Is (.agg #[.int .i64 (t), .slice A n cap]), Is (.agg #[.int .i64 (f), .slice B n cap']), Ints rl, Is (.int .i64 ((n : Int))), Ints rl]
    (by kernel_rfl) (by kernel_rfl) (by kernel_rfl) (by kernel_rfl) (by kernel_rfl) Ext (fun W => Ext W0 W)
    (fun W _ => Ext.refl W) (fun W W' h k => h.trans k) ?_ (Ext.drew _) ?_ ?_
  · repeat (refine ⟨fun _ _ _ _ k h => (by first | exact h | exact IntsAt.ext h k), ?_⟩)
    exact trivial
  · refine ⟨?_, ?_, ?_, ?_, ?_, ?_, ?_, ?_, trivial⟩
    all_goals intro ρ W ⟨kc, kg, kf⟩ hF hs
    · obtain ⟨h0, -⟩ := hs
      replace h0 : ρ (.tmp 2) = .pointer (some ⟨w.heap.size, 0, none⟩) := h0
      go_simp
      exact ⟨Ext.refl _, rfl⟩
    · obtain ⟨h0, -⟩ := hs
      replace h0 : ρ (.tmp 12) = .pointer (some ⟨w.heap.size, 1, none⟩) := h0
      have hc0 : W.cell? ⟨w.heap.size, 1, none⟩ = some (.slice A n cap) := hF.cell (by assumption)
      go_simp
      exact ⟨Ext.refl _, rfl⟩
    · obtain ⟨h0, -⟩ := hs
      replace h0 : ρ (.tmp 13) = .slice A n cap := h0
      go_simp
      exact ⟨Ext.refl _, rfl⟩
    · obtain ⟨h0, -⟩ := hs
      replace h0 : ρ (.tmp 2) = .pointer (some ⟨w.heap.size, 0, none⟩) := h0
      have hc0 : W.cell? ⟨w.heap.size, 0, none⟩ = some (.int .i64 (t)) := hF.cell (by assumption)
      have hc1 : W.cell? ⟨w.heap.size, 1, none⟩ = some (.slice A n cap) := hF.cell (by assumption)
      go_simp
      exact ⟨Ext.refl _, rfl⟩
    · obtain ⟨h0, -⟩ := hs
      replace h0 : ρ (.tmp 3) = .pointer (some ⟨w.heap.size + 1, 0, none⟩) := h0
      have hc0 : W.cell? ⟨w.heap.size + 1, 0, none⟩ = some (.int .i64 (f)) := hF.cell (by assumption)
      have hc1 : W.cell? ⟨w.heap.size + 1, 1, none⟩ = some (.slice B n cap') := hF.cell (by assumption)
      go_simp
      exact ⟨Ext.refl _, rfl⟩
    · obtain ⟨h0, h1, -⟩ := hs
      replace h0 : ρ (.tmp 15) = .agg #[.int .i64 (t), .slice A n cap] := h0
      replace h1 : ρ (.tmp 16) = .agg #[.int .i64 (f), .slice B n cap'] := h1
      go_simp
      exact H26.out W (E0.out.trans hF)
    · obtain ⟨h0, -⟩ := hs
      replace h0 : ρ (.tmp 14) = .int .i64 ((n : Int)) := h0
      go_simp
      exact ⟨Ext.refl _, rfl⟩
    · obtain ⟨h0, -⟩ := hs
      replace h0 : (Ints rl) (ρ (.tmp 17)) W := h0
      go_simp
      first | exact ⟨Ext.refl _, h0⟩ | exact Ext.refl _
  · intro fv W1 hF hs
    obtain ⟨-, -, -, -, -, -, h6, h7, -⟩ := hs
    replace h6 : fv 6 = .int .i64 ((n : Int)) := h6
    replace h7 : (Ints rl) (fv 7) W1 := h7
    simp only [fin, List.filterMap]
    go_simp
    obtain ⟨Al, cl, hvl, hrl⟩ := ints_rows h7
    rw [HRLN.out] at hvl
    have HRR := Lib.hid hrl
    rw [hvl]
    have X1 := Lib.hid hF
    clear h6 h7 hvl hrl hF z0 z1 z2 z3
    obtain ⟨x0, hx0⟩ : ∃ x, rl[0]? = some x := ⟨_, List.getElem?_eq_getElem (by rw [HRLN.out]; omega)⟩
    obtain ⟨gl, ol, hAl, _, _⟩ := HRR.out.2 0 x0 hx0
    subst hAl
    clear hx0
    go_wp2
    obtain ⟨W2, hW2⟩ : ∃ W2, W2 = W1 := ⟨_, rfl⟩
    rw [← hW2]
    rw [← hW2] at HRR X1
    clear hW2
    refine wp_region_each [some 18, some 19, some 20, some 21, some 22, some 8, some 9] [[6], [18], [19, 19], [6], [21, 21], [20], [22]]
      [Is (.int .i64 (n)), Is (.int .i64 ((n : Int) + 1)), FrV W2.heap.size (n + 1), Is (.int .i64 (n)), FrV W2.heap.size (n), FrV W2.heap.size (n + 1), FrV W2.heap.size (n)]
      (by kernel_rfl) (by kernel_rfl) (by kernel_rfl) (by kernel_rfl) (by kernel_rfl) Ext (fun W => Ext W2 W)
      (fun W _ => Ext.refl W) (fun W W' h k => h.trans k) ?_ (Ext.drew _) ?_ ?_
    · repeat (refine ⟨fun _ _ _ _ k h => (by first | exact h | exact FrV.ext h k), ?_⟩)
      exact trivial
    · refine ⟨?_, ?_, ?_, ?_, ?_, ?_, ?_, trivial⟩
      all_goals intro ρ W ⟨kc, kg, kf⟩ hF hs
      · obtain ⟨h0, -⟩ := hs
        replace h0 : ρ (.tmp 6) = .int .i64 (n) := h0
        go_simp
        exact ⟨Ext.refl _, rfl⟩
      · obtain ⟨h0, -⟩ := hs
        replace h0 : ρ (.tmp 18) = .int .i64 (n) := h0
        have hw : IntKind.i64.wrap ((n : Int) + 1) = (n : Int) + 1 := IntWalk.i64_in _ (by omega)
        go_simp
        exact ⟨Ext.refl _, rfl⟩
      · obtain ⟨h0, h1, -⟩ := hs
        replace h0 : ρ (.tmp 19) = .int .i64 ((n : Int) + 1) := h0
        replace h1 : ρ (.tmp 19) = .int .i64 ((n : Int) + 1) := h1
        have hmk := mk_run W ((n : Int) + 1) (n + 1) (by omega) (by omega)
        go_simp
        exact ⟨Ext.alloc _ _, mk_fr W (n + 1) _ hF.size⟩
      · obtain ⟨h0, -⟩ := hs
        replace h0 : ρ (.tmp 6) = .int .i64 (n) := h0
        go_simp
        exact ⟨Ext.refl _, rfl⟩
      · obtain ⟨h0, h1, -⟩ := hs
        replace h0 : ρ (.tmp 21) = .int .i64 (n) := h0
        replace h1 : ρ (.tmp 21) = .int .i64 (n) := h1
        have hmk := mk_run W ((n : Int)) (n) (by omega) (by omega)
        go_simp
        exact ⟨Ext.alloc _ _, mk_fr W (n) _ hF.size⟩
      · obtain ⟨h0, -⟩ := hs
        replace h0 : (FrV W2.heap.size (n + 1)) (ρ (.tmp 20)) W := h0
        go_simp
        first | exact ⟨Ext.refl _, h0⟩ | exact Ext.refl _
      · obtain ⟨h0, -⟩ := hs
        replace h0 : (FrV W2.heap.size (n)) (ρ (.tmp 22)) W := h0
        go_simp
        first | exact ⟨Ext.refl _, h0⟩ | exact Ext.refl _
    · intro fv W3 hF hs
      obtain ⟨-, -, -, -, -, h8, h9, -⟩ := hs
      replace h8 : (FrV W2.heap.size (n + 1)) (fv 8) W3 := h8
      replace h9 : (FrV W2.heap.size (n)) (fv 9) W3 := h9
      simp only [fin, List.filterMap]
      go_simp
      obtain ⟨g8, cu8, hg8, hv8, hb8, hs8⟩ := h8
      obtain ⟨g9, cu9, hg9, hv9, hb9, hs9⟩ := h9
      have hne : g8 ≠ g9 := by
        rintro rfl
        unfold Blk at hb8 hb9
        rw [hb8] at hb9
        simp at hb9
        rw [hb9] at hs8
        omega
      rw [hv8, hv9]
      have X23 := Lib.hid hF
      have hw23 := hF.size
      obtain ⟨u1, hu1⟩ : ∃ u, W3.cell? ⟨g8, n * 2, none⟩ = some u := ⟨_, by rw [hb8.cell]; exact Array.getElem?_eq_getElem (by omega)⟩
      obtain ⟨u2, hu2⟩ : ∃ u, W3.cell? ⟨g8, n * 2 + 1, none⟩ = some u := ⟨_, by rw [hb8.cell]; exact Array.getElem?_eq_getElem (by omega)⟩
      have hf1 := hb8.free (n * 2)
      have hf2 := hb8.free (n * 2 + 1)
      have HB8 := Lib.hid hb8
      have HB9 := Lib.hid hb9
      have hl8 := hb8.lt
      have hl9 := hb9.lt
      have HE := Lib.hid (show st f hot ls n = vs0 by rw [← HN.out]; exact st_end f hot ls)
      have hni : (n : Int) < (n : Int) + 1 := by omega
      clear hb8 hb9 hv8 hv9 hF
      go_wp2
      have hst : StS W2 f hot ls n g8 g9 W3.heap.size n (((W3.setCell ⟨g8, n * 2, none⟩ (.int .i64 1)).setCell ⟨g8, n * 2 + 1, none⟩ (.int .i64 0)).alloc (.cells #[.int .i64 0, .int .i64 0] 65)) := by
        refine ⟨⟨_, ((HB8.out.setSame _ _).setSame _ _).alloc _, by simp [hs8], fromC_set (fun p h1 h2 => by omega) hs8 (by omega) (by rw [HE.out]; rfl) (by rw [HE.out]; rfl)⟩, ⟨cu9, ((HB9.out.setOther (by dsimp only; omega) _).setOther (by dsimp only; omega) _).alloc _, hs9, fun p h1 h2 => by omega⟩, ?_, ?_⟩
        · rw [HE.out]
          exact Blk.newAt _ _ _ (by simp [World.setCell])
        · exact (Ext.set (Ext.set X23.out hg8 _) hg8 _).trans (Ext.alloc _ _)
      generalize hW4 : ((W3.setCell ⟨g8, n * 2, none⟩ (.int .i64 1)).setCell ⟨g8, n * 2 + 1, none⟩ (.int .i64 0)).alloc (.cells #[.int .i64 0, .int .i64 0] 65) = W4 at *
      generalize W3.heap.size = q10 at *
      clear hW4 hu1 hu2 hf1 hf2 HB8 HB9 X23 HE
      go_loopw [11] (fun i wr => ∃ j : Nat, j ≤ n ∧ i = .int .i64 ((j : Int) - 1) ∧ StS W2 f hot ls n g8 g9 q10 j wr) (fun i _ => (intOf i + 1).toNat)
      case atStart => exact ⟨n, Nat.le_refl _, rfl, hst⟩
      case round =>
        obtain ⟨j, hj, rfl, hstj⟩ := hrel
        by_cases h0 : j = 0
        · subst h0
          have ek : ((0 : Nat) : Int) - 1 = -1 := by omega
          rw [ek]
          have HST := Lib.hid hstj
          clear hst hstj ek
          go_wp2
          go_ret2
          obtain ⟨cu8', b8, s8, c8⟩ := HST.out.b8
          obtain ⟨cu9', b9, s9, c9⟩ := HST.out.b9
          exact ⟨g8, g9, rfl, rows_from b8 (by omega) (by rw [HVL.out, HN.out]) (fun p hp => volts_at f hot ls p (by rw [HN.out]; omega)) c8,
            rows_from b9 (by omega) (by rw [curr_len ls _ (by simp [HVL.out]), HN.out]) (fun p hp => by
              rw [← cur_at f hot ls (n - p) p (by rw [HN.out]; omega)]
              simp [curAt, List.getElem?_eq_getElem (show p < (curr ls (volts f hot ls).tail).length by rw [curr_len ls _ (by simp [HVL.out]), HN.out]; exact hp)]) c9, E0.out.trans (X1.out.trans HST.out.below)⟩
        · obtain ⟨k, rfl⟩ : ∃ k, j = k + 1 := ⟨j - 1, by omega⟩
          have ek : ((k + 1 : Nat) : Int) - 1 = (k : Int) := by omega
          rw [ek]
          have hlt : k < n := by omega
          obtain ⟨s, hs⟩ : ∃ s, ls[k]? = some s := ⟨_, List.getElem?_eq_getElem (by rw [HN.out]; exact hlt)⟩
          obtain ⟨bb, hb⟩ : ∃ bb, hot[k]? = some bb := ⟨_, List.getElem?_eq_getElem (by rw [HM.out]; exact hlt)⟩
          obtain ⟨cu8', b8, s8, c8⟩ := hstj.b8
          obtain ⟨cu9', b9, s9, c9⟩ := hstj.b9
          have b10 := hstj.b10
          have hbe := hstj.below
          obtain ⟨hcv1, hcv2⟩ : cu8'[(k + 1) * 2]? = some (.int .i64 (st f hot ls (k + 1)).last.re) ∧ cu8'[(k + 1) * 2 + 1]? = some (.int .i64 (st f hot ls (k + 1)).last.im) := c8 (k + 1) (Nat.le_refl _) (by omega)
          obtain ⟨hsm1, hsm2⟩ := HSM.out (k + 1)
          have hsmk := (HSM.out k).2
          have HSTEP := Lib.hid (st_step (f := f) (hot := hot) hs)
          obtain ⟨⟨hx1, hx32⟩, hg1, hg4⟩ := HRB.out bb s (List.mem_of_getElem? hs)
          obtain ⟨x, hx⟩ : ∃ x, x = react f bb s := ⟨_, rfl⟩
          have hrk : rl[k]? = some x := by rw [HRL.out, hx]; exact reactL_at hb hs
          rw [← hx] at hx1 hx32
          obtain ⟨⟨vr, vi⟩, hv⟩ : ∃ z, z = (st f hot ls (k + 1)).last := ⟨_, rfl⟩
          obtain ⟨⟨cr, ci⟩, hc⟩ : ∃ z, z = (st f hot ls (k + 1)).cur := ⟨_, rfl⟩
          rw [← hv] at hcv1 hcv2 hsm1
          rw [← hc] at hsm2 b10
          have hck : (st f hot ls k).cur = plusG ⟨cr, ci⟩ s.g ⟨vr, vi⟩ := by rw [HSTEP.out]; simp only [vstep]; rw [← hc, ← hv]
          have hvk : (st f hot ls k).last = befG ⟨vr, vi⟩ x (plusG ⟨cr, ci⟩ s.g ⟨vr, vi⟩) := by
            rw [HSTEP.out]; simp only [vstep]; rw [← hc, ← hv, hx]; simp [List.getD, hb]
          obtain ⟨c2r, hc2r⟩ : ∃ y, y = cr + s.g * vr := ⟨_, rfl⟩
          obtain ⟨c2i, hc2i⟩ : ∃ y, y = ci + s.g * vi := ⟨_, rfl⟩
          have hck2 : (st f hot ls k).cur = ⟨c2r, c2i⟩ := by rw [hck, hc2r, hc2i]; rfl
          obtain ⟨v2r, hv2r⟩ : ∃ y, y = vr + x * -c2i := ⟨_, rfl⟩
          obtain ⟨v2i, hv2i⟩ : ∃ y, y = vi + x * c2r := ⟨_, rfl⟩
          have hvk2 : (st f hot ls k).last = ⟨v2r, v2i⟩ := by rw [hvk, ← hck, hck2, hv2r, hv2i]; rfl
          rw [hck2] at hsmk
          simp only [Bd] at hsm1 hsm2 hsmk
          have m1 := mul_bd (n := s.g) (x := vr) (N := 4) (B := 300000000) (by omega) hg4 (by omega) (by omega)
          have m2 := mul_bd (n := s.g) (x := vi) (N := 4) (B := 300000000) (by omega) hg4 (by omega) (by omega)
          have m3 := mul_bd (n := x) (x := -c2i) (N := 32) (B := 300000000) (by omega) hx32 (by omega) (by omega)
          have m4 := mul_bd (n := x) (x := c2r) (N := 32) (B := 300000000) (by omega) hx32 (by omega) (by omega)
          have HS1 := Lib.hid (fun W => show Calls Try.prog 93 #[.agg #[.int .i64 vr, .int .i64 vi], .int .i64 s.g] W (VPost W (Is (.agg #[.int .i64 (s.g * vr), .int .i64 (s.g * vi)]))) from
            (scaled_any vr vi s.g (by unfold Mid; omega) (by unfold Mid; omega) W).mono fun _ _ ⟨h1, h2⟩ => ⟨_, h1, h2, rfl⟩)
          have HP1 := Lib.hid (fun W => show Calls Try.prog 57 #[.agg #[.int .i64 cr, .int .i64 ci], .agg #[.int .i64 (s.g * vr), .int .i64 (s.g * vi)]] W (VPost W (Is (.agg #[.int .i64 c2r, .int .i64 c2i]))) from
            (gadd_any cr ci (s.g * vr) (s.g * vi) (by unfold Mid; omega) (by unfold Mid; omega) (by unfold Mid; omega) (by unfold Mid; omega) W).mono fun _ _ ⟨h1, h2⟩ => ⟨_, h1, h2, by rw [hc2r, hc2i]; rfl⟩)
          have HT1 := Lib.hid (fun W => show Calls Try.prog 94 #[.agg #[.int .i64 c2r, .int .i64 c2i]] W (VPost W (Is (.agg #[.int .i64 (-c2i), .int .i64 c2r]))) from
            (turned_any c2r c2i (by unfold Mid; omega) W).mono fun _ _ ⟨h1, h2⟩ => ⟨_, h1, h2, rfl⟩)
          have HS2 := Lib.hid (fun W => show Calls Try.prog 93 #[.agg #[.int .i64 (-c2i), .int .i64 c2r], .int .i64 x] W (VPost W (Is (.agg #[.int .i64 (x * -c2i), .int .i64 (x * c2r)]))) from
            (scaled_any (-c2i) c2r x (by unfold Mid; omega) (by unfold Mid; omega) W).mono fun _ _ ⟨h1, h2⟩ => ⟨_, h1, h2, rfl⟩)
          have HP2 := Lib.hid (fun W => show Calls Try.prog 57 #[.agg #[.int .i64 vr, .int .i64 vi], .agg #[.int .i64 (x * -c2i), .int .i64 (x * c2r)]] W (VPost W (Is (.agg #[.int .i64 v2r, .int .i64 v2i]))) from
            (gadd_any vr vi (x * -c2i) (x * c2r) (by unfold Mid; omega) (by unfold Mid; omega) (by unfold Mid; omega) (by unfold Mid; omega) W).mono fun _ _ ⟨h1, h2⟩ => ⟨_, h1, h2, by rw [hv2r, hv2i]; rfl⟩)
          obtain ⟨b, o, hA, _, hsc⟩ := HS.out.2 k s hs
          subst hA
          have y1 : wr.cell? ⟨b, o + k * 3, none⟩ = some (.int .i64 s.g) := (E0.out.trans (X1.out.trans hbe)).cell (by have := hsc 0 _ rfl; simpa using this)
          obtain ⟨gl', ol', hgl, _, hrc⟩ := HRR.out.2 k x hrk
          obtain ⟨rfl, rfl⟩ : gl = gl' ∧ ol = ol' := by simpa using hgl
          have y2 : wr.cell? ⟨gl, ol + k, none⟩ = some (.int .i64 x) := hbe.cell (by have := hrc 0 _ rfl; simpa using this)
          have y3 : wr.cell? ⟨g8, (k + 1) * 2, none⟩ = some (.int .i64 vr) := by rw [b8.cell]; exact hcv1
          have y4 : wr.cell? ⟨g8, (k + 1) * 2 + 1, none⟩ = some (.int .i64 vi) := by rw [b8.cell]; exact hcv2
          have y5 : wr.cell? ⟨q10, 0, none⟩ = some (.int .i64 cr) := b10.cell 0
          have y6 : wr.cell? ⟨q10, 1, none⟩ = some (.int .i64 ci) := b10.cell 1
          obtain ⟨z0, z1, z2, z3⟩ := FA.out _ (X1.out.trans hbe)
          have B8 := Lib.hid b8
          have B9 := Lib.hid b9
          have B10 := Lib.hid b10
          have C8 := Lib.hid c8
          have C9 := Lib.hid c9
          have BE := Lib.hid hbe
          have HCK := Lib.hid hck2
          have HVK := Lib.hid hvk2
          have HQ1 : ¬ q10 = g9 := by omega
          have HQ2 : ¬ g9 = q10 := by omega
          have HRK := Lib.hid hrk
          have HCV := Lib.hid (And.intro hcv1 hcv2)
          clear hst hstj ek hs hb b8 b9 b10 c8 c9 hbe hcv1 hcv2 hsm1 hsm2 hsmk hx hrk hv hc hck hvk hc2r hc2i hck2 hv2r hv2i hvk2 m1 m2 m3 m4 hsc hgl hrc
          generalize hsg : s.g = sg at *
          clear hsg
          go_wp2
          refine wp_region_part 14 [some 33, some 34, some 35, some 36, some 37, some 38, some 39, some 40, some 41, some 42, some 43, some 44, some 45, some 46] [[10], [8], [11], [35], [34, 36], [37], [2], [39], [11], [40, 41], [42], [43], [38, 44], [33, 45]]
            [Is (.agg #[.int .i64 (cr), .int .i64 (ci)]), Is (.slice (some ⟨g8, 0, none⟩) (n + 1) (n + 1)), Is (.int .i64 (k)), Is (.int .i64 ((k : Int) + 1)), Is (.pointer (some ⟨g8, (k + 1) * 2, none⟩)), Is (.agg #[.int .i64 (vr), .int .i64 (vi)]), Is (.pointer (some ⟨w.heap.size, 1, none⟩)), Is (.slice (some ⟨b, o, none⟩) n cap), Is (.int .i64 (k)), Is (.pointer (some ⟨b, o + k * 3, none⟩)), Is (.pointer (some ⟨b, o + k * 3, none⟩)), Is (.int .i64 (sg)), Is (.agg #[.int .i64 (sg * vr), .int .i64 (sg * vi)]), Is (.agg #[.int .i64 (c2r), .int .i64 (c2i)])]
            (by kernel_rfl) (by kernel_rfl) (by kernel_rfl) (by kernel_rfl) (by kernel_rfl) (by kernel_rfl) (by kernel_rfl) Ext (fun W => Ext wr W)
            (fun W _ => Ext.refl W) (fun W W' h k => h.trans k) ?_ (Ext.drew _) ?_ ?_
          · repeat (refine ⟨fun _ _ _ _ k h => (by first | exact h | exact (by first | exact LadV.ext h k | exact DrvV.ext h k | exact TupV.ext (fun _ _ _ h k => by first | exact Opt.ext (fun _ _ _ h k => by first | exact IntsAt.ext h k | exact GsV.ext h k) h k | exact IntsAt.ext h k) h k | exact Opt.ext (fun _ _ _ h k => by first | exact IntsAt.ext h k | exact GsV.ext h k) h k | exact IntsAt.ext h k)), ?_⟩)
            exact trivial
          · refine ⟨?_, ?_, ?_, ?_, ?_, ?_, ?_, ?_, ?_, ?_, ?_, ?_, ?_, ?_, trivial⟩
            all_goals intro ρ W ⟨kc, kg, kf⟩ hF hs
            · obtain ⟨h0, -⟩ := hs
              replace h0 : ρ (.tmp 10) = .pointer (some ⟨q10, 0, none⟩) := h0
              have hc0 : W.cell? ⟨q10, 0, none⟩ = some (.int .i64 (cr)) := hF.cell (by assumption)
              have hc1 : W.cell? ⟨q10, 1, none⟩ = some (.int .i64 (ci)) := hF.cell (by assumption)
              go_simp
              exact ⟨Ext.refl _, rfl⟩
            · obtain ⟨h0, -⟩ := hs
              replace h0 : ρ (.tmp 8) = .slice (some ⟨g8, 0, none⟩) (n + 1) (n + 1) := h0
              go_simp
              exact ⟨Ext.refl _, rfl⟩
            · obtain ⟨h0, -⟩ := hs
              replace h0 : ρ (.tmp 11) = .int .i64 (k) := h0
              go_simp
              exact ⟨Ext.refl _, rfl⟩
            · obtain ⟨h0, -⟩ := hs
              replace h0 : ρ (.tmp 35) = .int .i64 (k) := h0
              have hw : IntKind.i64.wrap ((k : Int) + 1) = (k : Int) + 1 := IntWalk.i64_in _ (by omega)
              go_simp
              exact ⟨Ext.refl _, rfl⟩
            · obtain ⟨h0, h1, -⟩ := hs
              replace h0 : ρ (.tmp 34) = .slice (some ⟨g8, 0, none⟩) (n + 1) (n + 1) := h0
              replace h1 : ρ (.tmp 36) = .int .i64 ((k : Int) + 1) := h1
              have hki : (k : Int) + 1 < (n : Int) + 1 := by omega
              have hkt : ((k : Int) + 1).toNat = k + 1 := by omega
              have hk0 : (0 : Int) ≤ (k : Int) + 1 := by omega
              go_simp
              exact ⟨Ext.refl _, rfl⟩
            · obtain ⟨h0, -⟩ := hs
              replace h0 : ρ (.tmp 37) = .pointer (some ⟨g8, (k + 1) * 2, none⟩) := h0
              have hc0 : W.cell? ⟨g8, (k + 1) * 2, none⟩ = some (.int .i64 (vr)) := hF.cell (by assumption)
              have hc1 : W.cell? ⟨g8, (k + 1) * 2 + 1, none⟩ = some (.int .i64 (vi)) := hF.cell (by assumption)
              go_simp
              exact ⟨Ext.refl _, rfl⟩
            · obtain ⟨h0, -⟩ := hs
              replace h0 : ρ (.tmp 2) = .pointer (some ⟨w.heap.size, 0, none⟩) := h0
              go_simp
              exact ⟨Ext.refl _, rfl⟩
            · obtain ⟨h0, -⟩ := hs
              replace h0 : ρ (.tmp 39) = .pointer (some ⟨w.heap.size, 1, none⟩) := h0
              have hc0 : W.cell? ⟨w.heap.size, 1, none⟩ = some (.slice (some ⟨b, o, none⟩) n cap) := hF.cell (by assumption)
              go_simp
              exact ⟨Ext.refl _, rfl⟩
            · obtain ⟨h0, -⟩ := hs
              replace h0 : ρ (.tmp 11) = .int .i64 (k) := h0
              go_simp
              exact ⟨Ext.refl _, rfl⟩
            · obtain ⟨h0, h1, -⟩ := hs
              replace h0 : ρ (.tmp 40) = .slice (some ⟨b, o, none⟩) n cap := h0
              replace h1 : ρ (.tmp 41) = .int .i64 (k) := h1
              have hki : (k : Int) < (n : Int) := by omega
              go_simp
              exact ⟨Ext.refl _, rfl⟩
            · obtain ⟨h0, -⟩ := hs
              replace h0 : ρ (.tmp 42) = .pointer (some ⟨b, o + k * 3, none⟩) := h0
              go_simp
              exact ⟨Ext.refl _, rfl⟩
            · obtain ⟨h0, -⟩ := hs
              replace h0 : ρ (.tmp 43) = .pointer (some ⟨b, o + k * 3, none⟩) := h0
              have hc0 : W.cell? ⟨b, o + k * 3, none⟩ = some (.int .i64 (sg)) := hF.cell (by assumption)
              go_simp
              exact ⟨Ext.refl _, rfl⟩
            · obtain ⟨h0, h1, -⟩ := hs
              replace h0 : ρ (.tmp 38) = .agg #[.int .i64 (vr), .int .i64 (vi)] := h0
              replace h1 : ρ (.tmp 44) = .int .i64 (sg) := h1
              go_simp
              exact HS1.out W
            · obtain ⟨h0, h1, -⟩ := hs
              replace h0 : ρ (.tmp 33) = .agg #[.int .i64 (cr), .int .i64 (ci)] := h0
              replace h1 : ρ (.tmp 45) = .agg #[.int .i64 (sg * vr), .int .i64 (sg * vi)] := h1
              go_simp
              exact HP1.out W
          · intro fv W5 hF hs
            obtain ⟨-, -, -, -, -, -, -, -, -, -, -, -, -, h46, -⟩ := hs
            replace h46 : fv 46 = .agg #[.int .i64 (c2r), .int .i64 (c2i)] := h46
            simp only [fin, List.filterMap]
            go_simp
            have B10' := Lib.hid (B10.out.ext hF)
            have B9' := Lib.hid (B9.out.ext hF)
            have B8' := Lib.hid (B8.out.ext hF)
            have F5 := Lib.hid hF
            have p1 : W5.cell? ⟨q10, 0, none⟩ = some (.int .i64 cr) := hF.cell y5
            have p2 : W5.cell? ⟨q10, 1, none⟩ = some (.int .i64 ci) := hF.cell y6
            have p3 : W5.frozen? ⟨q10, 0, none⟩ = false := B10'.out.free 0
            have p4 : W5.frozen? ⟨q10, 1, none⟩ = false := B10'.out.free 1
            obtain ⟨u3, hu3⟩ : ∃ u, W5.cell? ⟨g9, k * 2, none⟩ = some u := ⟨_, by rw [B9'.out.cell]; exact Array.getElem?_eq_getElem (by omega)⟩
            obtain ⟨u4, hu4⟩ : ∃ u, W5.cell? ⟨g9, k * 2 + 1, none⟩ = some u := ⟨_, by rw [B9'.out.cell]; exact Array.getElem?_eq_getElem (by omega)⟩
            have p5 : W5.frozen? ⟨g9, k * 2, none⟩ = false := B9'.out.free _
            have p6 : W5.frozen? ⟨g9, k * 2 + 1, none⟩ = false := B9'.out.free _
            have hki : (k : Int) < (n : Int) := by omega
            clear hF y1 y3 y4 y5 y6 z0 z1 z2 z3 y2
            go_wp2
            have D10 := ((((B10'.out.setSame 0 (.int .i64 c2r)).setSame 1 (.int .i64 c2i)).setOther (p := ⟨g9, k * 2, none⟩) (by dsimp only; omega) (.int .i64 c2r)).setOther (p := ⟨g9, k * 2 + 1, none⟩) (by dsimp only; omega) (.int .i64 c2i))
            have D9 := ((((B9'.out.setOther (p := ⟨q10, 0, none⟩) (by dsimp only; omega) (.int .i64 c2r)).setOther (p := ⟨q10, 1, none⟩) (by dsimp only; omega) (.int .i64 c2i)).setSame (k * 2) (.int .i64 c2r)).setSame (k * 2 + 1) (.int .i64 c2i))
            have D8 := ((((B8'.out.setOther (p := ⟨q10, 0, none⟩) (by dsimp only; omega) (.int .i64 c2r)).setOther (p := ⟨q10, 1, none⟩) (by dsimp only; omega) (.int .i64 c2i)).setOther (p := ⟨g9, k * 2, none⟩) (by dsimp only; omega) (.int .i64 c2r)).setOther (p := ⟨g9, k * 2 + 1, none⟩) (by dsimp only; omega) (.int .i64 c2i))
            have E6 : Ext W2 ((((W5.setCell ⟨q10, 0, none⟩ (.int .i64 c2r)).setCell ⟨q10, 1, none⟩ (.int .i64 c2i)).setCell ⟨g9, k * 2, none⟩ (.int .i64 c2r)).setCell ⟨g9, k * 2 + 1, none⟩ (.int .i64 c2i)) :=
              Ext.set (Ext.set (Ext.set (Ext.set (BE.out.trans F5.out) (by dsimp only; omega) _) (by dsimp only; omega) _) hg9 _) hg9 _
            generalize hW6 : (((W5.setCell ⟨q10, 0, none⟩ (.int .i64 c2r)).setCell ⟨q10, 1, none⟩ (.int .i64 c2i)).setCell ⟨g9, k * 2, none⟩ (.int .i64 c2r)).setCell ⟨g9, k * 2 + 1, none⟩ (.int .i64 c2i) = W6 at *
            clear hW6 p1 p2 p3 p4 p5 p6 hu3 hu4
            obtain ⟨z0, z1, z2, z3⟩ := FA.out _ (X1.out.trans E6)
            obtain ⟨gl', ol', hgl, _, hrc⟩ := HRR.out.2 k x HRK.out
            obtain ⟨rfl, rfl⟩ : gl = gl' ∧ ol = ol' := by simpa using hgl
            have y2 : W6.cell? ⟨gl, ol + k, none⟩ = some (.int .i64 x) := E6.cell (by have := hrc 0 _ rfl; simpa using this)
            have y3 : W6.cell? ⟨g8, (k + 1) * 2, none⟩ = some (.int .i64 vr) := by rw [D8.cell]; exact HCV.out.1
            have y4 : W6.cell? ⟨g8, (k + 1) * 2 + 1, none⟩ = some (.int .i64 vi) := by rw [D8.cell]; exact HCV.out.2
            have y5 : W6.cell? ⟨q10, 0, none⟩ = some (.int .i64 c2r) := by rw [D10.cell]; simp
            have y6 : W6.cell? ⟨q10, 1, none⟩ = some (.int .i64 c2i) := by rw [D10.cell]; simp
            have H10 := Lib.hid D10
            have H9 := Lib.hid D9
            have H8 := Lib.hid D8
            have H6 := Lib.hid E6
            clear D10 D9 D8 E6 hgl hrc
            refine wp_region_part 16 [some 51, some 52, some 53, some 54, some 55, some 56, some 57, some 58, some 59, some 60, some 61, some 62, some 63, some 64, some 65, some 66] [[8], [11], [8], [11], [54], [53, 55], [56], [10], [58], [7], [11], [60, 61], [62], [59, 63], [57, 64], [51, 52]]
              [Is (.slice (some ⟨g8, 0, none⟩) (n + 1) (n + 1)), Is (.int .i64 (k)), Is (.slice (some ⟨g8, 0, none⟩) (n + 1) (n + 1)), Is (.int .i64 (k)), Is (.int .i64 ((k : Int) + 1)), Is (.pointer (some ⟨g8, (k + 1) * 2, none⟩)), Is (.agg #[.int .i64 (vr), .int .i64 (vi)]), Is (.agg #[.int .i64 (c2r), .int .i64 (c2i)]), Is (.agg #[.int .i64 (-c2i), .int .i64 (c2r)]), Is (.slice (some ⟨gl, ol, none⟩) n cl), Is (.int .i64 (k)), Is (.pointer (some ⟨gl, ol + k, none⟩)), Is (.int .i64 (x)), Is (.agg #[.int .i64 (x * -c2i), .int .i64 (x * c2r)]), Is (.agg #[.int .i64 (v2r), .int .i64 (v2i)]), Is (.pointer (some ⟨g8, k * 2, none⟩))]
              (by kernel_rfl) (by kernel_rfl) (by kernel_rfl) (by kernel_rfl) (by kernel_rfl) (by kernel_rfl) (by kernel_rfl) Ext (fun W => Ext W6 W)
              (fun W _ => Ext.refl W) (fun W W' h k => h.trans k) ?_ (Ext.drew _) ?_ ?_
            · repeat (refine ⟨fun _ _ _ _ k h => (by first | exact h | exact (by first | exact LadV.ext h k | exact DrvV.ext h k | exact TupV.ext (fun _ _ _ h k => by first | exact Opt.ext (fun _ _ _ h k => by first | exact IntsAt.ext h k | exact GsV.ext h k) h k | exact IntsAt.ext h k) h k | exact Opt.ext (fun _ _ _ h k => by first | exact IntsAt.ext h k | exact GsV.ext h k) h k | exact IntsAt.ext h k)), ?_⟩)
              exact trivial
            · refine ⟨?_, ?_, ?_, ?_, ?_, ?_, ?_, ?_, ?_, ?_, ?_, ?_, ?_, ?_, ?_, ?_, trivial⟩
              all_goals intro ρ W ⟨kc, kg, kf⟩ hF hs
              · obtain ⟨h0, -⟩ := hs
                replace h0 : ρ (.tmp 8) = .slice (some ⟨g8, 0, none⟩) (n + 1) (n + 1) := h0
                go_simp
                exact ⟨Ext.refl _, rfl⟩
              · obtain ⟨h0, -⟩ := hs
                replace h0 : ρ (.tmp 11) = .int .i64 (k) := h0
                go_simp
                exact ⟨Ext.refl _, rfl⟩
              · obtain ⟨h0, -⟩ := hs
                replace h0 : ρ (.tmp 8) = .slice (some ⟨g8, 0, none⟩) (n + 1) (n + 1) := h0
                go_simp
                exact ⟨Ext.refl _, rfl⟩
              · obtain ⟨h0, -⟩ := hs
                replace h0 : ρ (.tmp 11) = .int .i64 (k) := h0
                go_simp
                exact ⟨Ext.refl _, rfl⟩
              · obtain ⟨h0, -⟩ := hs
                replace h0 : ρ (.tmp 54) = .int .i64 (k) := h0
                have hw : IntKind.i64.wrap ((k : Int) + 1) = (k : Int) + 1 := IntWalk.i64_in _ (by omega)
                go_simp
                exact ⟨Ext.refl _, rfl⟩
              · obtain ⟨h0, h1, -⟩ := hs
                replace h0 : ρ (.tmp 53) = .slice (some ⟨g8, 0, none⟩) (n + 1) (n + 1) := h0
                replace h1 : ρ (.tmp 55) = .int .i64 ((k : Int) + 1) := h1
                have hki : (k : Int) + 1 < (n : Int) + 1 := by omega
                have hkt : ((k : Int) + 1).toNat = k + 1 := by omega
                have hk0 : (0 : Int) ≤ (k : Int) + 1 := by omega
                go_simp
                exact ⟨Ext.refl _, rfl⟩
              · obtain ⟨h0, -⟩ := hs
                replace h0 : ρ (.tmp 56) = .pointer (some ⟨g8, (k + 1) * 2, none⟩) := h0
                have hc0 : W.cell? ⟨g8, (k + 1) * 2, none⟩ = some (.int .i64 (vr)) := hF.cell (by assumption)
                have hc1 : W.cell? ⟨g8, (k + 1) * 2 + 1, none⟩ = some (.int .i64 (vi)) := hF.cell (by assumption)
                go_simp
                exact ⟨Ext.refl _, rfl⟩
              · obtain ⟨h0, -⟩ := hs
                replace h0 : ρ (.tmp 10) = .pointer (some ⟨q10, 0, none⟩) := h0
                have hc0 : W.cell? ⟨q10, 0, none⟩ = some (.int .i64 (c2r)) := hF.cell (by assumption)
                have hc1 : W.cell? ⟨q10, 1, none⟩ = some (.int .i64 (c2i)) := hF.cell (by assumption)
                go_simp
                exact ⟨Ext.refl _, rfl⟩
              · obtain ⟨h0, -⟩ := hs
                replace h0 : ρ (.tmp 58) = .agg #[.int .i64 (c2r), .int .i64 (c2i)] := h0
                go_simp
                exact HT1.out W
              · obtain ⟨h0, -⟩ := hs
                replace h0 : ρ (.tmp 7) = .slice (some ⟨gl, ol, none⟩) n cl := h0
                go_simp
                exact ⟨Ext.refl _, rfl⟩
              · obtain ⟨h0, -⟩ := hs
                replace h0 : ρ (.tmp 11) = .int .i64 (k) := h0
                go_simp
                exact ⟨Ext.refl _, rfl⟩
              · obtain ⟨h0, h1, -⟩ := hs
                replace h0 : ρ (.tmp 60) = .slice (some ⟨gl, ol, none⟩) n cl := h0
                replace h1 : ρ (.tmp 61) = .int .i64 (k) := h1
                have hki : (k : Int) < (n : Int) := by omega
                go_simp
                exact ⟨Ext.refl _, rfl⟩
              · obtain ⟨h0, -⟩ := hs
                replace h0 : ρ (.tmp 62) = .pointer (some ⟨gl, ol + k, none⟩) := h0
                have hc0 : W.cell? ⟨gl, ol + k, none⟩ = some (.int .i64 (x)) := hF.cell (by assumption)
                go_simp
                exact ⟨Ext.refl _, rfl⟩
              · obtain ⟨h0, h1, -⟩ := hs
                replace h0 : ρ (.tmp 59) = .agg #[.int .i64 (-c2i), .int .i64 (c2r)] := h0
                replace h1 : ρ (.tmp 63) = .int .i64 (x) := h1
                go_simp
                exact HS2.out W
              · obtain ⟨h0, h1, -⟩ := hs
                replace h0 : ρ (.tmp 57) = .agg #[.int .i64 (vr), .int .i64 (vi)] := h0
                replace h1 : ρ (.tmp 64) = .agg #[.int .i64 (x * -c2i), .int .i64 (x * c2r)] := h1
                go_simp
                exact HP2.out W
              · obtain ⟨h0, h1, -⟩ := hs
                replace h0 : ρ (.tmp 51) = .slice (some ⟨g8, 0, none⟩) (n + 1) (n + 1) := h0
                replace h1 : ρ (.tmp 52) = .int .i64 (k) := h1
                have hki : (k : Int) < (n : Int) + 1 := by omega
                go_simp
                exact ⟨Ext.refl _, rfl⟩
            · intro fv W7 hF hs
              obtain ⟨-, -, -, -, -, -, -, -, -, -, -, -, -, -, h65, h66, -⟩ := hs
              replace h65 : fv 65 = .agg #[.int .i64 (v2r), .int .i64 (v2i)] := h65
              replace h66 : fv 66 = .pointer (some ⟨g8, k * 2, none⟩) := h66
              simp only [fin, List.filterMap]
              go_simp
              have G8 := Lib.hid (H8.out.ext hF)
              have G9 := Lib.hid (H9.out.ext hF)
              have G10 := Lib.hid (H10.out.ext hF)
              have F7 := Lib.hid hF
              obtain ⟨u5, hu5⟩ : ∃ u, W7.cell? ⟨g8, k * 2, none⟩ = some u := ⟨_, by rw [G8.out.cell]; exact Array.getElem?_eq_getElem (by omega)⟩
              obtain ⟨u6, hu6⟩ : ∃ u, W7.cell? ⟨g8, k * 2 + 1, none⟩ = some u := ⟨_, by rw [G8.out.cell]; exact Array.getElem?_eq_getElem (by omega)⟩
              have p5 : W7.frozen? ⟨g8, k * 2, none⟩ = false := G8.out.free _
              have p6 : W7.frozen? ⟨g8, k * 2 + 1, none⟩ = false := G8.out.free _
              clear hF y2 y3 y4 y5 y6 z0 z1 z2 z3
              go_wp2
              go_roundw
              case rel =>
                refine ⟨k, by omega, rfl, ⟨_, (G8.out.setSame _ _).setSame _ _, by simp [s8], fromC_set C8.out s8 (by omega) (by rw [HVK.out]) (by rw [HVK.out])⟩, ⟨_, (G9.out.setOther (by dsimp only; omega) _).setOther (by dsimp only; omega) _, by simp [s9], fromC_set C9.out s9 hlt (by rw [HCK.out]) (by rw [HCK.out])⟩, ?_, Ext.set (Ext.set (H6.out.trans F7.out) hg8 _) hg8 _⟩
                rw [HCK.out]
                exact (G10.out.setOther (by dsimp only; omega) _).setOther (by dsimp only; omega) _
              case measure => simp [intOf]

end Go.Proofs.Ytpaoeghdfeekoaa

