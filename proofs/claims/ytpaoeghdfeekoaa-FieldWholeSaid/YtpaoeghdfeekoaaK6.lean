/- DepthFor; the error of a total; quotients rounded down, and compared. -/
import Derived.Test.YtpaoeghdfeekoaaG7
namespace Go.Proofs.Ytpaoeghdfeekoaa
open Go.RowKit Go.Shelf Go.Mem Go.RegInv

theorem totalErr_any (x : Int) (w : World) : Calls Try.prog 49 #[.int .i64 x] w fun e w' => e = .returned (.int .i64 (rangeE 0 100000 [x])) ∧ w = w' := by
  cases hb : inB 0 100000 x
  · have HB := Lib.hid hb
    have HR := Lib.hid (show rangeE 0 100000 [x] = 2 by rw [rangeE_one, hb]; rfl)
    clear hb
    generalize rangeE 0 100000 [x] = r at *
    go_enter Try.func49, Try.ntmps49
    go_wp2_with (go_at_call 40; refine (within_any _ _ _ _).mono ?_; rintro e w' ⟨rfl, rfl⟩; rw [HB.out])
    go_ret
    exact ⟨ret_int HR.out.symm, rfl⟩
  · have HB := Lib.hid hb
    have HR := Lib.hid (show rangeE 0 100000 [x] = 0 by rw [rangeE_one, hb]; rfl)
    clear hb
    generalize rangeE 0 100000 [x] = r at *
    go_enter Try.func49, Try.ntmps49
    go_wp2_with (go_at_call 40; refine (within_any _ _ _ _).mono ?_; rintro e w' ⟨rfl, rfl⟩; rw [HB.out])
    go_ret
    exact ⟨ret_int HR.out.symm, rfl⟩

def depE (t : Int) (ls : List Sh) (f : Int) (m : Nat) (pc : Int) : Int := firstE [driveE t ls f m, rangeE 1 100 [pc]]

set_option maxRecDepth 100000 in
theorem depthFor_any (t : Int) (A : Option Addr) (n cap : Nat) (l : List Sh) (hn : l.length = n) (f : Int) (B : Option Addr) (m cap' : Nat) (hot : List Bool) (hm : hot.length = m) (pc : Int) (w : World)
    (hS : LadAt w A l) (hH : RowsAt 1 boolEnc w B hot) :
    Calls Try.prog 43 #[.agg #[.int .i64 t, .slice A n cap], .agg #[.int .i64 f, .slice B m cap'], .int .i64 pc] w fun e w' => Ext w w' ∧
      ((depE t l f m pc ≠ 0 ∧ e = .returned (.tuple #[.int .i64 0, .int .i64 (depE t l f m pc)])) ∨
       (depE t l f m pc = 0 ∧ ∃ d : Nat, e = .returned (.tuple #[.int .i64 (d : Int), .int .i64 0]) ∧ IsDepth (powers f hot l) pc d)) := by
  have HC := Lib.hid (fun W h => checkDrive_any t A n cap l hn f B m cap' W h)
  have e0 : Ext w ((w.alloc (.cells #[.int .i64 t, .slice A n cap] 24)).alloc (.cells #[.int .i64 f, .slice B m cap'] 27)) := (Ext.alloc _ _).trans (Ext.alloc _ _)
  have HS := Lib.hid hS
  have HH := Lib.hid hH
  have HN := Lib.hid hn
  have HM := Lib.hid hm
  have HE := Lib.hid (show depE t l f m pc = firstE [driveE t l f m, rangeE 1 100 [pc]] from rfl)
  clear hn hS hm hH
  have FA := Lib.hid (show ∀ W : World, Ext ((w.alloc (.cells #[.int .i64 t, .slice A n cap] 24)).alloc (.cells #[.int .i64 f, .slice B m cap'] 27)) W →
      W.cell? ⟨w.heap.size, 0, none⟩ = some (.int .i64 t) ∧ W.cell? ⟨w.heap.size, 1, none⟩ = some (.slice A n cap) ∧ W.cell? ⟨w.heap.size + 1, 0, none⟩ = some (.int .i64 f) ∧ W.cell? ⟨w.heap.size + 1, 1, none⟩ = some (.slice B m cap') from
    fun W hx => ⟨hx.cell (by go_simp), hx.cell (by go_simp), hx.cell (by go_simp), hx.cell (by go_simp)⟩)
  by_cases hq : depE t l f m pc = 0
  · obtain ⟨hq1, hq2⟩ : driveE t l f m = 0 ∧ rangeE 1 100 [pc] = 0 := by
      have := (firstE_zero _).1 hq
      exact ⟨this _ (by simp), this _ (by simp)⟩
    obtain ⟨⟨_, ⟨h1, h4⟩, hok⟩, hf, hml⟩ := (driveE_zero t l f m).1 hq1
    have ht := (rangeE_zero 1 100 [pc]).1 hq2 pc (by simp)
    obtain rfl : n = m := by rw [hml, ← HN.out]
    rw [HN.out] at h1 h4
    have HP := Lib.hid (fun W (e : Ext w W) => powersOf_any t A n cap l HN.out f B cap' hot HM.out W (HS.out.1.ext e) (HH.out.ext e) hok hf h1 h4)
    have HIT := Lib.hid (fun W (e : Ext w W) v => powers_at_w (cap := cap) HN.out (hot := hot) hok hf h1 h4 (HS.out.ext e) (v := v))
    have HOK := Lib.hid (powers_ok (hot := hot) hok hf (by rw [HN.out]; exact h1) (by rw [HN.out]; exact h4))
    have HT := Lib.hid ht
    have HQ := Lib.hid hq
    have HPL := Lib.hid (powers_len f hot l)
    have hn4 : n ≤ 1000 := by omega
    have HQ1 := Lib.hid hq1
    have HQ2 := Lib.hid hq2
    clear h1 h4 hok hf hml hq hq1 hq2 ht
    rw [HQ1.out] at HC
    have HFF := Lib.hid (show firstE [0, 0] = 0 from rfl)
    go_enter Try.func43, Try.ntmps43
    go_wp2_with (first
      | (go_at_call 20; refine (HC.out _ (HS.out.1.ext e0)).mono ?_; rintro e W1 ⟨rfl, hx1⟩)
      | (go_at_call 103; refine (percentError_any pc _).mono ?_; rintro e W2 ⟨rfl, hx2⟩; rw [HQ2.out]; have hx3 := Lib.hid ((hx1.trans hx2).trans (Ext.alloc W2 (.cells #[.int .i64 0, .int .i64 0] 31))))
      | (go_at_call 83; refine (firstOf_any _ [0, 0] _ (ints_new _ [0, 0] _ (by simp))).mono ?_; rintro e W3 ⟨rfl, rfl⟩; rw [HFF.out]; obtain ⟨z0, z1, z2, z3⟩ := FA.out _ hx3.out)
      | (go_at_call 96; refine (HP.out _ (e0.trans hx3.out)).mono ?_; rintro e W4 ⟨v4, rfl, hv4, hx4⟩; obtain ⟨first, rfl, hit⟩ := HIT.out _ (e0.trans (hx3.out.trans hx4)) _ hv4)
      | (go_at_call 104; refine (callsIn_wide.1 (depthOf_in 130 first #[] eg130 (powers f hot l) n (by rw [HPL.out, HN.out]) hn4 pc _ hit HT.out HOK.out.sum HOK.out.part)).mono ?_; rintro e W5 ⟨d, rfl, hd, hx5⟩; have HD := Lib.hid hd; have X5 := Lib.hid hx5; clear hd hx5))
    go_ret2
    exact ⟨e0.trans (hx3.out.trans (hx4.trans X5.out)), .inr ⟨HQ.out, d, rfl, HD.out⟩⟩
  · have HQ := Lib.hid hq
    have hq' : (depE t l f m pc != 0) = true := by simp [hq]
    clear hq
    generalize depE t l f m pc = r at HE HQ hq' ⊢
    generalize driveE t l f m = q1 at HC HE
    go_enter Try.func43, Try.ntmps43
    go_wp2_with (first
      | (go_at_call 20; refine (HC.out _ (HS.out.1.ext e0)).mono ?_; rintro e W1 ⟨rfl, hx1⟩)
      | (go_at_call 103; refine (percentError_any pc _).mono ?_; rintro e W2 ⟨rfl, hx2⟩; generalize rangeE 1 100 [pc] = q2 at HE ⊢)
      | (go_at_call 83; refine (firstOf_any _ [q1, q2] _ (ints_new _ [q1, q2] _ (by simp))).mono ?_; rintro e W3 ⟨rfl, rfl⟩; rw [← HE.out]))
    go_ret2
    exact ⟨e0.trans ((hx1.trans hx2).trans (Ext.alloc _ _)), .inl ⟨HQ.out, rfl⟩⟩

theorem depthFor_V {t : Int} {xs : List Sh} {f : Int} {hot : List Bool} {m : Nat} (hm : hot.length = m) (pc : Int) (hq : driveE t xs f m = 0) (hp : rangeE 1 100 [pc] = 0) (W : World) (u v : Value) (h : LadV t xs u W) (k : DrvV f hot v W) :
    Calls Try.prog 43 #[u, v, .int .i64 pc] W (VPost W (TupV (fun u _ => ∃ d : Nat, u = .int .i64 (d : Int) ∧ IsDepth (powers f hot xs) pc d) 0)) := by
  obtain ⟨A, n, c, hn, rfl, hl⟩ := h
  obtain ⟨B, m', d, hm', rfl, hd⟩ := k
  obtain rfl : m = m' := hm.symm.trans hm'.out
  have h0 : depE t xs f m pc = 0 := by unfold depE; rw [hq, hp]; rfl
  refine (depthFor_any t A n c xs hn.out f B m d hot hm pc W hl hd).mono ?_
  rintro e w' ⟨hx, ⟨h1, _⟩ | ⟨_, d, h2, h3⟩⟩
  · exact absurd h0 h1
  · exact ⟨_, h2, hx, _, rfl, d, rfl, h3⟩

theorem wattsIn_V {t : Int} {xs : List Sh} {f : Int} {hot : List Bool} {n m : Nat} (hn : xs.length = n) (hm : hot.length = m) (total : Int) (hq : driveE t xs f m = 0) (hp : rangeE 0 100000 [total] = 0) (W : World) (u v : Value) (h : LadV t xs u W) (k : DrvV f hot v W) :
    Calls Try.prog 42 #[u, v, .int .i64 total] W (VPost W (TupV (Ints (wattsL total (powers f hot xs) n)) 0)) := by
  obtain ⟨A, n', c, hn', rfl, hl⟩ := h
  obtain ⟨B, m', d, hm', rfl, hd⟩ := k
  obtain rfl : m = m' := hm.symm.trans hm'.out
  obtain rfl : n = n' := hn.symm.trans hn'.out
  have h0 : wattsE t xs f m total = 0 := by unfold wattsE; rw [hq, hp]; rfl
  refine (wattsIn_any t A n c xs hn f B m d hot hm total W hl hd).mono ?_
  rintro e w' ⟨hx, ⟨h1, _⟩ | ⟨_, v, h2, h3⟩⟩
  · exact absurd h0 h1
  · exact ⟨_, h2, hx, _, rfl, h3⟩

/-! The mathematics of whole watts. -/

theorem depth_pos {l : List Int} {pc : Int} {d : Nat} (hp : 1 ≤ pc) (hs : 0 < l.sum) (h : IsDepth l pc d) : 1 ≤ d := by
  obtain ⟨h1, _, h3⟩ := h
  rcases Nat.eq_zero_or_pos d with h0 | h0
  · subst h0
    by_cases hl : 0 < l.length
    · have := h3 hl
      simp at this
      have h5 := Int.mul_pos (show 0 < pc by omega) hs
      omega
    · have : l = [] := List.eq_nil_of_length_eq_zero (by omega)
      rw [this] at hs; simp at hs
  · exact h0
theorem depth_mono {l : List Int} {p q : Int} {d e : Nat} (hpq : p ≤ q) (hs : 0 < l.sum) (h : IsDepth l p d) (k : IsDepth l q e) : d ≤ e := by
  obtain ⟨h1, h2, _⟩ := h
  obtain ⟨k1, _, k3⟩ := k
  refine Nat.le_of_not_lt fun hlt => ?_
  have a := h2 e hlt
  have b := k3 (by omega)
  have c := Int.mul_le_mul_of_nonneg_right hpq (show 0 ≤ l.sum by omega)
  omega
theorem depth_all {l : List Int} {d : Nat} (hlast : ∀ k, k < l.length → (l.take k).sum < l.sum) (h : IsDepth l 100 d) : d = l.length := by
  obtain ⟨h1, _, h3⟩ := h
  rcases Nat.lt_or_ge d l.length with hlt | hge
  · have := h3 hlt
    have := hlast d hlt
    omega
  · omega

theorem sum_watts (total : Int) (l : List Int) : ∀ n, (wattsL total l n).sum = upTo total l n - upTo total l 0
  | 0 => by simp [wattsL]
  | n + 1 => by rw [wattsL_succ, List.sum_append, sum_watts total l n]; simp; omega
theorem upTo_zero (total : Int) (l : List Int) : upTo total l 0 = 0 := by simp [upTo]
theorem upTo_all (total : Int) (l : List Int) (hs : 0 < l.sum) : upTo total l l.length = total := by
  unfold upTo
  rw [List.take_length, Int.mul_ediv_cancel _ (by omega)]

end Go.Proofs.Ytpaoeghdfeekoaa
