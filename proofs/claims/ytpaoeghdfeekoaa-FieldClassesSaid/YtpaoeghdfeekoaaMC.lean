/- Watts, quotients, frequencies, transfers, impedances, currents; the examples. -/
import Derived.Test.YtpaoeghdfeekoaaMB

/- WattsIn. -/
namespace Go.Proofs.Ytpaoeghdfeekoaa
open Go.RowKit Go.Mem Go.RegInv

/-- The shells in memory, in a block of their own type. -/
def LadAt (W : World) (A : Option Addr) (ls : List Sh) : Prop := RowsAt 3 Sh.enc W A ls ∧ ∀ b o, A = some ⟨b, o, none⟩ → ∃ cs, Blk W b 92 cs
theorem LadAt.ext {W W' : World} {A : Option Addr} {ls : List Sh} (h : LadAt W A ls) (e : Ext W W') : LadAt W' A ls :=
  ⟨h.1.ext e, fun b o hA => by obtain ⟨cs, hb⟩ := h.2 b o hA; exact ⟨cs, hb.ext e⟩⟩

theorem ints_of_own {W : World} {base n : Nat} {v : Value} {xs : List Int} (hl : xs.length = n) (hn : n ≤ 1152921504606846976) (h : W.ownsRow base 3 1 v n (xs.map (Value.int .i64))) : IntsAt W v xs := by
  rcases h.2 with ⟨rfl, rfl⟩ | ⟨g, cap, cu, rfl, _, hh, hc, _, hs, ht⟩
  · exact .inl ⟨none, 0, rfl, List.eq_nil_of_length_eq_zero hl⟩
  · refine .inr ⟨g, 0, cap, by rw [hl], (show Blk W g 3 cu from hh).lt, by omega, fun i hi => ?_⟩
    rw [(show Blk W g 3 cu from hh).cell]
    have h2 : (xs.map (Value.int .i64))[i]? = some (.int .i64 (xs.getD i 0)) := by simp [hi]
    rw [← ht, List.getElem?_take, if_pos (by omega), Array.getElem?_toList] at h2
    rw [Nat.zero_add]; exact h2

theorem totalError_any (v : Value) (xs : List Int) (w : World) (hx : IntsAt w v xs) :
    Calls Try.prog 101 #[v] w fun e w' => e = .returned (.int .i64 (rangeE 0 100000 xs)) ∧ Ext w w' := by
  have HC := Lib.hid (rangeError_any 0 100000 v xs w hx)
  clear hx
  go_enter Try.func101, Try.ntmps101
  go_wp2_with (go_at_call 84; refine HC.out.mono ?_; rintro e w' ⟨rfl, hx⟩)
  go_ret
  exact ⟨rfl, hx⟩

theorem percentError_any (n : Int) (w : World) :
    Calls Try.prog 103 #[.int .i64 n] w fun e w' => e = .returned (.int .i64 (rangeE 1 100 [n])) ∧ Ext w w' := by
  have HC := Lib.hid (rangeError_any 1 100 _ [n] _ (ints_new w [n] 3 (by simp)))
  go_enter Try.func103, Try.ntmps103
  go_wp2_with (go_at_call 84; refine HC.out.mono ?_; rintro e w' ⟨rfl, hx⟩)
  go_ret
  exact ⟨rfl, (Ext.alloc _ _).trans hx⟩

/-- The powers may be walked from wherever powersOf has left them. -/
theorem powers_at_w {A : Option Addr} {m cap : Nat} {ls : List Sh} (hm : ls.length = m) {f : Int} {hot : List Bool} (hok : ∀ s ∈ ls, shOK s) (hf : 1 ≤ f ∧ f ≤ 8) (h1 : 1 ≤ m) (h4 : m ≤ 4) {w : World} (hS : LadAt w A ls) {v : Value}
    (hv : Nd (fun g c => .func (.func 130) #[.agg #[.slice A m cap, .slice (some ⟨g, 2, none⟩) m c]] #[]) 0 2 (nodes f hot ls) v w) :
    ∃ first, v = .func (.func 130) first #[] ∧ ∀ W, Ext w W → IterAt Try.prog 4 130 first #[] encInt (powers f hot ls) Kp37 W := by
  obtain ⟨g, c, cu, rfl, _, hr, hb⟩ := hv
  refine ⟨_, rfl, fun W e => ?_⟩
  obtain ⟨b, o, rfl, _, _⟩ := hS.1.2 0 _ (List.getElem?_eq_getElem (by omega))
  obtain ⟨cs, hbs⟩ := hS.2 b o rfl
  exact powers_iter 4 (by omega) b o m cap g c ls (nodes f hot ls) cs cu hm (by rw [nodes_len, hm]) W (hS.1.ext e) (hr.ext e) (hbs.ext e) (hb.ext e) (fun k s z => iter_bd hok hf (by omega) k s z)

theorem eg130 : ∀ args w, (callFunc 130 args).run Try.prog w = .ok (.enter 130 args) w := enters_of Try.func130 (by kernel_rfl) rfl

def wattsE (t : Int) (ls : List Sh) (f : Int) (m : Nat) (total : Int) : Int := firstE [driveE t ls f m, rangeE 0 100000 [total]]

set_option maxRecDepth 100000 in
theorem wattsIn_any (t : Int) (A : Option Addr) (n cap : Nat) (l : List Sh) (hn : l.length = n) (f : Int) (B : Option Addr) (m cap' : Nat) (hot : List Bool) (hm : hot.length = m) (total : Int) (w : World)
    (hS : LadAt w A l) (hH : RowsAt 1 boolEnc w B hot) :
    Calls Try.prog 42 #[.agg #[.int .i64 t, .slice A n cap], .agg #[.int .i64 f, .slice B m cap'], .int .i64 total] w fun e w' => Ext w w' ∧
      ((wattsE t l f m total ≠ 0 ∧ e = .returned (.tuple #[.slice none 0 0, .int .i64 (wattsE t l f m total)])) ∨
       (wattsE t l f m total = 0 ∧ ∃ v, e = .returned (.tuple #[v, .int .i64 0]) ∧ IntsAt w' v (wattsL total (powers f hot l) n))) := by
  have HC := Lib.hid (fun W h => checkDrive_any t A n cap l hn f B m cap' W h)
  have e0 : Ext w ((w.alloc (.cells #[.int .i64 t, .slice A n cap] 24)).alloc (.cells #[.int .i64 f, .slice B m cap'] 27)) := (Ext.alloc _ _).trans (Ext.alloc _ _)
  have HS := Lib.hid hS
  have HH := Lib.hid hH
  have HN := Lib.hid hn
  have HM := Lib.hid hm
  have HE := Lib.hid (show wattsE t l f m total = firstE [driveE t l f m, rangeE 0 100000 [total]] from rfl)
  clear hn hS hm hH
  have facts : ∀ W : World, Ext ((w.alloc (.cells #[.int .i64 t, .slice A n cap] 24)).alloc (.cells #[.int .i64 f, .slice B m cap'] 27)) W →
      W.cell? ⟨w.heap.size, 0, none⟩ = some (.int .i64 t) ∧ W.cell? ⟨w.heap.size, 1, none⟩ = some (.slice A n cap) ∧ W.cell? ⟨w.heap.size + 1, 0, none⟩ = some (.int .i64 f) ∧ W.cell? ⟨w.heap.size + 1, 1, none⟩ = some (.slice B m cap') :=
    fun W hx => ⟨hx.cell (by go_simp), hx.cell (by go_simp), hx.cell (by go_simp), hx.cell (by go_simp)⟩
  have FA := Lib.hid facts
  clear facts
  by_cases hq : wattsE t l f m total = 0
  · obtain ⟨hq1, hq2⟩ : driveE t l f m = 0 ∧ rangeE 0 100000 [total] = 0 := by
      have := (firstE_zero _).1 hq
      exact ⟨this _ (by simp), this _ (by simp)⟩
    obtain ⟨⟨_, ⟨h1, h4⟩, hok⟩, hf, hml⟩ := (driveE_zero t l f m).1 hq1
    have ht := (rangeE_zero 0 100000 [total]).1 hq2 total (by simp)
    obtain rfl : n = m := by rw [hml, ← HN.out]
    rw [HN.out] at h1 h4
    have HP := Lib.hid (fun W (e : Ext w W) => powersOf_any t A n cap l HN.out f B cap' hot HM.out W (HS.out.1.ext e) (HH.out.ext e) hok hf h1 h4)
    have HIT := Lib.hid (fun W (e : Ext w W) v => powers_at_w (cap := cap) HN.out (hot := hot) hok hf h1 h4 (HS.out.ext e) (v := v))
    have HOK := Lib.hid (powers_ok (hot := hot) hok hf (by rw [HN.out]; exact h1) (by rw [HN.out]; exact h4))
    have HT := Lib.hid ht
    have HQ := Lib.hid hq
    have HPL := Lib.hid (powers_len f hot l)
    have hn4 : n ≤ 1000 := by omega
    have hq1' : (driveE t l f n != 0) = false := by simp [hq1]
    have HQ1 := Lib.hid hq1
    have HQ2 := Lib.hid hq2
    clear h1 h4 hok hf hml hq hq1 hq2 ht
    rw [HQ1.out] at HC
    go_enter Try.func42, Try.ntmps42
    have hff : firstE [0, 0] = 0 := rfl
    have HFF := Lib.hid hff
    clear hff
    go_wp2_with (first
      | (go_at_call 20; refine (HC.out _ (HS.out.1.ext e0)).mono ?_; rintro e W1 ⟨rfl, hx1⟩)
      | (go_at_call 101; refine (totalError_any _ [total] _ (ints_new _ [total] _ (by simp))).mono ?_; rintro e W2 ⟨rfl, hx2⟩; rw [HQ2.out]; have hx3 := Lib.hid (((hx1.trans (Ext.alloc _ _)).trans hx2).trans (Ext.alloc W2 (.cells #[.int .i64 0, .int .i64 0] 31))))
      | (go_at_call 83; refine (firstOf_any _ [0, 0] _ (ints_new _ [0, 0] _ (by simp))).mono ?_; rintro e W3 ⟨rfl, rfl⟩; rw [HFF.out]; obtain ⟨z0, z1, z2, z3⟩ := FA.out _ hx3.out)
      | (go_at_call 96; refine (HP.out _ (e0.trans hx3.out)).mono ?_; rintro e W4 ⟨v4, rfl, hv4, hx4⟩; obtain ⟨first, rfl, hit⟩ := HIT.out _ (e0.trans (hx3.out.trans hx4)) _ hv4)
      | (go_at_call 102; refine (callsIn_wide.1 (wattsOf_in 130 first #[] eg130 (powers f hot l) n (by rw [HPL.out, HN.out]) hn4 total _ hit HT.out HOK.out.sum HOK.out.part)).mono ?_; rintro e W5 ⟨v5, rfl, hv5, hx5⟩))
    go_ret2
    exact ⟨e0.trans (hx3.out.trans (hx4.trans hx5)), .inr ⟨HQ.out, _, rfl, ints_of_own (wattsL_len _ _ _) (by omega) hv5⟩⟩
  · have HQ := Lib.hid hq
    have hq' : (wattsE t l f m total != 0) = true := by simp [hq]
    clear hq
    generalize wattsE t l f m total = r at HE HQ hq' ⊢
    generalize driveE t l f m = q1 at HC HE
    go_enter Try.func42, Try.ntmps42
    go_wp2_with (first
      | (go_at_call 20; refine (HC.out _ (HS.out.1.ext e0)).mono ?_; rintro e W1 ⟨rfl, hx1⟩)
      | (go_at_call 101; refine (totalError_any _ [total] _ (ints_new _ [total] _ (by simp))).mono ?_; rintro e W2 ⟨rfl, hx2⟩; generalize rangeE 0 100000 [total] = q2 at HE ⊢)
      | (go_at_call 83; refine (firstOf_any _ [q1, q2] _ (ints_new _ [q1, q2] _ (by simp))).mono ?_; rintro e W3 ⟨rfl, rfl⟩; rw [← HE.out]))
    go_ret2
    exact ⟨e0.trans ((hx1.trans (Ext.alloc _ _)).trans (hx2.trans (Ext.alloc _ _))), .inl ⟨HQ.out, rfl⟩⟩

end Go.Proofs.Ytpaoeghdfeekoaa

/- The examples of the law, and equality of lists. -/
namespace Go.Proofs.Ytpaoeghdfeekoaa
open Go.RowKit Go.Mem Go.RegInv

def intEnc (x : Int) : List Value := [.int .i64 x]

theorem ints_rows {W : World} {v : Value} {xs : List Int} (h : IntsAt W v xs) : ∃ A cap, v = .slice A xs.length cap ∧ RowsAt 1 intEnc W A xs := by
  rcases h with ⟨ao, cap, rfl, rfl⟩ | ⟨b, o, cap, rfl, hb, hl, hc⟩
  · exact ⟨ao, cap, rfl, by simp [RowsAt]⟩
  · refine ⟨_, cap, rfl, hl, fun i x hx => ⟨b, o, rfl, hb, fun j u hu => ?_⟩⟩
    obtain ⟨hi, rfl⟩ := List.getElem?_eq_some_iff.1 hx
    match j, hu with
    | 0, hu =>
      obtain rfl : Value.int .i64 xs[i] = u := by simpa [intEnc] using hu
      have := hc i hi
      rw [Nat.mul_one, Nat.add_zero, this]; simp [hi]
    | j + 1, hu => simp [intEnc] at hu

theorem flat_get {α : Type} {enc : α → List Value} {k : Nat} (hk : ∀ x, (enc x).length = k) : ∀ (xs : List α) (i j : Nat) (x : α) (u : Value), xs[i]? = some x → (enc x)[j]? = some u → (xs.flatMap enc)[i * k + j]? = some u
  | [], i, j, x, u, h, _ => by simp at h
  | y :: ys, 0, j, x, u, h, hu => by
    obtain rfl : y = x := by simpa using h
    rw [List.flatMap_cons, List.getElem?_append_left (by have := (List.getElem?_eq_some_iff.1 hu).1; omega), Nat.zero_mul, Nat.zero_add]; exact hu
  | y :: ys, i + 1, j, x, u, h, hu => by
    have := flat_get hk ys i j x u (by simpa using h) hu
    rw [List.flatMap_cons, List.getElem?_append_right (by rw [hk, Nat.succ_mul]; omega), hk, show (i + 1) * k + j - k = i * k + j by rw [Nat.succ_mul]; omega]; exact this

theorem rows_blk {α : Type} {k : Nat} {enc : α → List Value} {W : World} {g t n : Nat} {cs : Array Value} {xs : List α} (hb : Blk W g t cs) (hn : n = xs.length) (hx : cs.toList = xs.flatMap enc) (hm : n ≤ 1152921504606846976) (hk : ∀ x, (enc x).length = k) : RowsAt k enc W (some ⟨g, 0, none⟩) xs := by
  refine ⟨hn ▸ hm, fun i x h => ⟨g, 0, rfl, hb.lt, fun j u hu => ?_⟩⟩
  have := flat_get hk xs i j x u h hu
  rw [← hx, Array.getElem?_toList] at this
  rw [hb.cell, Nat.zero_add]; exact this

def exL : List Sh := [⟨1, 2, 1⟩, ⟨1, 1, 1⟩]

theorem ladder_any (w : World) : Calls Try.prog 81 #[] w fun e w' => ∃ g, e = .returned (.agg #[.int .i64 2, .slice (some ⟨g, 0, none⟩) 2 2]) ∧ LadAt w' (some ⟨g, 0, none⟩) exL ∧ Ext w w' := by
  go_enter Try.func81, Try.ntmps81
  go_wp2
  refine bodyPost_ret (v := .agg #[.int .i64 2, .slice (some ⟨w.heap.size + 1, 0, none⟩) 2 2]) (by simp [results, Try.f81, go_sem]) rfl ⟨_, rfl, ?_, ?_⟩
  · have hb := Blk.newAt (w.alloc (.cells #[.int .i64 2, .slice (some ⟨w.heap.size + 1, 0, none⟩) 2 2] 24)) 92 #[.int .i64 1, .int .i64 2, .int .i64 1, .int .i64 1, .int .i64 1, .int .i64 1] (g := w.heap.size + 1) (by simp)
    refine ⟨rows_blk hb rfl rfl (by decide) (fun x => by simp [Sh.enc]), fun b o h => ?_⟩
    obtain ⟨rfl, rfl⟩ : w.heap.size + 1 = b ∧ 0 = o := by simpa using h
    exact ⟨_, hb⟩
  · exact (Ext.alloc _ _).trans (Ext.alloc _ _)

theorem drive_any (w : World) : Calls Try.prog 82 #[] w fun e w' => ∃ g, e = .returned (.agg #[.int .i64 1, .slice (some ⟨g, 0, none⟩) 2 2]) ∧ RowsAt 1 boolEnc w' (some ⟨g, 0, none⟩) [false, false] ∧ Ext w w' := by
  go_enter Try.func82, Try.ntmps82
  go_wp2
  refine bodyPost_ret (v := .agg #[.int .i64 1, .slice (some ⟨w.heap.size + 1, 0, none⟩) 2 2]) (by simp [results, Try.f82, go_sem]) rfl ⟨_, rfl, ?_, ?_⟩
  · have hb := Blk.newAt (w.alloc (.cells #[.int .i64 1, .slice (some ⟨w.heap.size + 1, 0, none⟩) 2 2] 27)) 4 #[.bool false, .bool false] (g := w.heap.size + 1) (by simp)
    exact rows_blk hb rfl rfl (by decide) (fun x => by simp [boolEnc])
  · exact (Ext.alloc _ _).trans (Ext.alloc _ _)

theorem ints_any (u v : Value) (a b : List Int) (w : World) (ha : IntsAt w u a) (hb : IntsAt w v b) :
    Calls Try.prog 25 #[u, v] w fun e w' => e = .returned (.bool (a == b)) ∧ Ext w w' := by
  obtain ⟨A, ca, rfl, ha1⟩ := ints_rows ha
  obtain ⟨B, cb, rfl, hb1⟩ := ints_rows hb
  have HA := Lib.hid ha1
  have HB := Lib.hid hb1
  have hla := ha1.1
  have hlb := hb1.1
  clear ha hb ha1 hb1
  by_cases hl : a.length = b.length
  · obtain ⟨n, hn⟩ : ∃ n, n = a.length := ⟨_, rfl⟩
    rw [← hl, ← hn]
    rw [← hn] at hla
    have HN := Lib.hid hn
    have HL := Lib.hid hl
    clear hlb hn hl
    have HE := Lib.hid (show ∀ k, k ≤ n → (∀ j, j < k → a[j]? = b[j]?) → k = n → (a == b) = true from fun k _ h hk => by
      rw [beq_iff_eq]
      refine List.ext_getElem? fun j => ?_
      by_cases hj : j < k
      · exact h j hj
      · rw [List.getElem?_eq_none (by have := HN.out; omega), List.getElem?_eq_none (by have := HN.out; have := HL.out; omega)])
    go_enter Try.func25, Try.ntmps25
    go_wp2
    go_loopw [5] (fun i wr => ∃ k : Nat, k ≤ n ∧ i = .int .i64 k ∧ (∀ j, j < k → a[j]? = b[j]?) ∧ Ext w wr) (fun i _ => n - (intOf i).toNat)
    case atStart => exact ⟨0, Nat.zero_le _, rfl, fun j h => by omega, Ext.refl _⟩
    case round =>
      obtain ⟨k, hk, rfl, hr, hx⟩ := hrel
      have HR := Lib.hid hr
      clear hr
      by_cases hlt : k < n
      · obtain ⟨x, hax⟩ : ∃ x, a[k]? = some x := ⟨_, List.getElem?_eq_getElem (by rw [← HN.out]; exact hlt)⟩
        obtain ⟨y, hby⟩ : ∃ y, b[k]? = some y := ⟨_, List.getElem?_eq_getElem (by rw [← HL.out, ← HN.out]; exact hlt)⟩
        obtain ⟨b1, o1, hA1, _, hc⟩ := HA.out.2 k x hax
        obtain ⟨b2, o2, hB1, _, hd⟩ := HB.out.2 k y hby
        subst hA1 hB1
        have hc1 : wr.cell? ⟨b1, o1 + k, none⟩ = some (.int .i64 x) := hx.cell (by have := hc 0 _ rfl; simpa using this)
        have hd1 : wr.cell? ⟨b2, o2 + k, none⟩ = some (.int .i64 y) := hx.cell (by have := hd 0 _ rfl; simpa using this)
        have HX := Lib.hid hax
        have HY := Lib.hid hby
        have hkn : (k : Int) < (n : Int) := by omega
        clear hc hd hax hby
        by_cases hxy : x = y
        · have hxy' : (x != y) = false := by simp [hxy]
          have HXY := Lib.hid hxy
          clear hxy
          go_wp2
          go_quiet (fail)
          go_wp2
          go_roundw
          case rel => exact ⟨k + 1, by omega, by go_num, fun j hj => by
            by_cases hjk : j = k
            · rw [hjk, HX.out, HY.out, HXY.out]
            · exact HR.out j (by omega), hx.trans (Ext.drewN _ _)⟩
          case measure => simp [intOf]; omega
        · have hxy' : (x != y) = true := by simp [hxy]
          have HF := Lib.hid (show (a == b) = false by
            rw [beq_eq_false_iff_ne]; intro h
            rw [h] at HX
            have := HX.out.symm.trans HY.out
            exact hxy (by simpa using this))
          clear hxy
          go_wp2
          go_quiet (fail)
          go_wp2
          go_ret
          exact ⟨ret_bool HF.out.symm, hx.trans (Ext.drewN _ _)⟩
      · go_wp2
        go_ret
        exact ⟨ret_bool (HE.out k hk HR.out (by omega)).symm, hx⟩
  · have HF := Lib.hid (show (a == b) = false by rw [beq_eq_false_iff_ne]; intro h; exact hl (by rw [h]))
    have hl' : ((a.length : Int) != (b.length : Int)) = true := by simp; omega
    generalize a.length = n at *
    generalize b.length = m at *
    clear hl
    go_enter Try.func25, Try.ntmps25
    go_wp2
    go_ret
    exact ⟨ret_bool HF.out.symm, Ext.refl _⟩

instance : DecidableEq G := fun a b => by
  cases a; cases b; simp only [G.mk.injEq]; exact inferInstance

theorem gausses_any (A B : Option Addr) (ca cb : Nat) (a b : List G) (w : World) (ha : RowsAt 2 G.enc w A a) (hb : RowsAt 2 G.enc w B b) :
    Calls Try.prog 38 #[.slice A a.length ca, .slice B b.length cb] w fun e w' => e = .returned (.bool (a == b)) ∧ Ext w w' := by
  have ha1 := ha
  have hb1 := hb
  have HA := Lib.hid ha1
  have HB := Lib.hid hb1
  have hla := ha1.1
  have hlb := hb1.1
  clear ha hb ha1 hb1
  by_cases hl : a.length = b.length
  · obtain ⟨n, hn⟩ : ∃ n, n = a.length := ⟨_, rfl⟩
    rw [← hl, ← hn]
    rw [← hn] at hla
    have HN := Lib.hid hn
    have HL := Lib.hid hl
    clear hlb hn hl
    have HE := Lib.hid (show ∀ k, k ≤ n → (∀ j, j < k → a[j]? = b[j]?) → k = n → (a == b) = true from fun k _ h hk => by
      rw [beq_iff_eq]
      refine List.ext_getElem? fun j => ?_
      by_cases hj : j < k
      · exact h j hj
      · rw [List.getElem?_eq_none (by have := HN.out; omega), List.getElem?_eq_none (by have := HN.out; have := HL.out; omega)])
    go_enter Try.func38, Try.ntmps38
    go_wp2
    go_loopw [5] (fun i wr => ∃ k : Nat, k ≤ n ∧ i = .int .i64 k ∧ (∀ j, j < k → a[j]? = b[j]?) ∧ Ext w wr) (fun i _ => n - (intOf i).toNat)
    case atStart => exact ⟨0, Nat.zero_le _, rfl, fun j h => by omega, Ext.refl _⟩
    case round =>
      obtain ⟨k, hk, rfl, hr, hx⟩ := hrel
      have HR := Lib.hid hr
      clear hr
      by_cases hlt : k < n
      · obtain ⟨x, hax⟩ : ∃ x, a[k]? = some x := ⟨_, List.getElem?_eq_getElem (by rw [← HN.out]; exact hlt)⟩
        obtain ⟨y, hby⟩ : ∃ y, b[k]? = some y := ⟨_, List.getElem?_eq_getElem (by rw [← HL.out, ← HN.out]; exact hlt)⟩
        obtain ⟨b1, o1, hA1, _, hc⟩ := HA.out.2 k x hax
        obtain ⟨b2, o2, hB1, _, hd⟩ := HB.out.2 k y hby
        subst hA1 hB1
        obtain ⟨x1, x2⟩ := x
        obtain ⟨y1, y2⟩ := y
        have hc1 : wr.cell? ⟨b1, o1 + k * 2, none⟩ = some (.int .i64 x1) := hx.cell (by have := hc 0 _ rfl; simpa using this)
        have hc2 : wr.cell? ⟨b1, o1 + k * 2 + 1, none⟩ = some (.int .i64 x2) := hx.cell (by have := hc 1 _ rfl; simpa using this)
        have hd1 : wr.cell? ⟨b2, o2 + k * 2, none⟩ = some (.int .i64 y1) := hx.cell (by have := hd 0 _ rfl; simpa using this)
        have hd2 : wr.cell? ⟨b2, o2 + k * 2 + 1, none⟩ = some (.int .i64 y2) := hx.cell (by have := hd 1 _ rfl; simpa using this)
        have HX := Lib.hid hax
        have HY := Lib.hid hby
        have hkn : (k : Int) < (n : Int) := by omega
        clear hc hd hax hby
        by_cases hxy : x1 = y1 ∧ x2 = y2
        · obtain ⟨rfl, rfl⟩ := hxy
          go_wp2
          go_quiet (fail)
          go_wp2
          go_roundw
          case rel => exact ⟨k + 1, by omega, by go_num, fun j hj => by
            by_cases hjk : j = k
            · rw [hjk, HX.out, HY.out]
            · exact HR.out j (by omega), hx.trans (Ext.drewN _ _)⟩
          case measure => simp [intOf]; omega
        · have HF := Lib.hid (show (a == b) = false by
            rw [beq_eq_false_iff_ne]; intro h
            rw [h] at HX
            have := HX.out.symm.trans HY.out
            exact hxy (by simpa using this))
          by_cases h1 : x1 = y1
          · subst h1
            have hxy' : (x2 == y2) = false := by rw [beq_eq_false_iff_ne]; exact fun h => hxy ⟨rfl, h⟩
            clear hxy
            go_wp2
            go_quiet (fail)
            go_wp2
            go_ret
            exact ⟨ret_bool HF.out.symm, hx.trans (Ext.drewN _ _)⟩
          · have hxy' : (x1 == y1) = false := by rw [beq_eq_false_iff_ne]; exact h1
            clear hxy
            go_wp2
            go_quiet (fail)
            go_wp2
            go_ret
            exact ⟨ret_bool HF.out.symm, hx.trans (Ext.drewN _ _)⟩
      · go_wp2
        go_ret
        exact ⟨ret_bool (HE.out k hk HR.out (by omega)).symm, hx⟩
  · have HF := Lib.hid (show (a == b) = false by rw [beq_eq_false_iff_ne]; intro h; exact hl (by rw [h]))
    have hl' : ((a.length : Int) != (b.length : Int)) = true := by simp; omega
    generalize a.length = n at *
    generalize b.length = m at *
    clear hl
    go_enter Try.func38, Try.ntmps38
    go_wp2
    go_ret
    exact ⟨ret_bool HF.out.symm, Ext.refl _⟩

end Go.Proofs.Ytpaoeghdfeekoaa

/- Divisors and quotients. -/
namespace Go.Proofs.Ytpaoeghdfeekoaa
open Go.RowKit Go.Mem Go.RegInv

def gcdL (xs : List Int) : Nat := xs.foldl (fun g x => Nat.gcd g x.natAbs) 0
theorem gcdL_take (xs : List Int) (k : Nat) (x : Int) (h : xs[k]? = some x) : gcdL (xs.take (k + 1)) = Nat.gcd (gcdL (xs.take k)) x.natAbs := by
  rw [List.take_add_one, h]; simp [gcdL]

theorem gcd_step (d n : Int) (_hn : n ≠ 0) : Nat.gcd n.natAbs (d.tmod n).natAbs = Nat.gcd d.natAbs n.natAbs := by
  rw [Int.natAbs_tmod, Nat.gcd_comm, ← Nat.gcd_rec, Nat.gcd_comm]

theorem tmod_bd {d n : Int} (h : Big d) (hn : n ≠ 0) : -1000000000000000000 ≤ d.tmod n ∧ d.tmod n ≤ 1000000000000000000 ∧ (d.tmod n).natAbs < n.natAbs := by
  have h1 : (d.tmod n).natAbs < n.natAbs := by rw [Int.natAbs_tmod]; exact Nat.mod_lt _ (by omega)
  have h2 : (d.tmod n).natAbs ≤ d.natAbs := by rw [Int.natAbs_tmod]; exact Nat.mod_le _ _
  unfold Big at h
  omega

theorem divisor_any (v : Value) (xs : List Int) (w : World) (hx : IntsAt w v xs) (hb : ∀ x ∈ xs, Big x) :
    Calls Try.prog 100 #[v] w fun e w' => e = .returned (.int .i64 (gcdL xs : Int)) ∧ Ext w w' := by
  obtain ⟨A, ca, rfl, ha1⟩ := ints_rows hx
  have HA := Lib.hid ha1
  have hla := ha1.1
  have HB := Lib.hid hb
  clear hx hb ha1
  obtain ⟨n, hn⟩ : ∃ n, n = xs.length := ⟨_, rfl⟩
  rw [← hn] at hla ⊢
  have HN := Lib.hid hn
  clear hn
  go_enter Try.func100, Try.ntmps100
  go_wp2
  go_loopw [8, 3, 5] (fun i d m wr => ∃ (k : Nat) (dd : Int), k ≤ n ∧ i = .int .i64 k ∧ d = .int .i64 dd ∧ dd.natAbs = gcdL (xs.take k) ∧ Big dd ∧ Ext w wr) (fun i d m _ => n - (intOf i).toNat)
  case atStart => exact ⟨0, 0, Nat.zero_le _, rfl, rfl, rfl, by unfold Big; omega, Ext.refl _⟩
  case round =>
    obtain ⟨k, dd, hk, rfl, rfl, hr, hbd, he⟩ := hrel
    have HR := Lib.hid hr
    have HBD := Lib.hid hbd
    clear hr hbd
    by_cases hlt : k < n
    · obtain ⟨x, hax⟩ : ∃ x, xs[k]? = some x := ⟨_, List.getElem?_eq_getElem (by rw [← HN.out]; exact hlt)⟩
      obtain ⟨b1, o1, hA1, _, hc⟩ := HA.out.2 k x hax
      subst hA1
      have hc1 : wr.cell? ⟨b1, o1 + k, none⟩ = some (.int .i64 x) := he.cell (by have := hc 0 _ rfl; simpa using this)
      have HX := Lib.hid hax
      have HBX := Lib.hid (HB.out x (List.mem_of_getElem? hax))
      clear hax hc
      go_wp2
      go_loopw [3, 5] (fun d m w2 => ∃ (d2 n2 : Int), d = .int .i64 d2 ∧ m = .int .i64 n2 ∧ Nat.gcd d2.natAbs n2.natAbs = Nat.gcd dd.natAbs x.natAbs ∧ Big d2 ∧ Big n2 ∧ Ext w w2) (fun d m _ => (intOf m).natAbs)
      case atStart => exact ⟨dd, x, rfl, rfl, rfl, HBD.out, HBX.out, he⟩
      case round =>
        obtain ⟨d2, n2, rfl, rfl, hg, hd2, hn2, he2⟩ := hrel
        by_cases hz : n2 = 0
        · subst hz
          have HG := Lib.hid hg
          have HD2 := Lib.hid hd2
          have hlt' : (k : Int) + 1 ≤ 1152921504606846976 := by omega
          clear hg hd2 hn2
          go_wp2
          go_roundw
          case rel => exact ⟨k + 1, d2, by omega, by go_num, rfl, by rw [gcdL_take xs k x HX.out, ← HR.out, ← HG.out]; simp, HD2.out, he2⟩
          case measure => simp [intOf]; omega
        · have HG := Lib.hid ((gcd_step d2 n2 hz).trans hg)
          have hm : -1000000000000000000 ≤ d2.tmod n2 ∧ d2.tmod n2 ≤ 1000000000000000000 ∧ (d2.tmod n2).natAbs < n2.natAbs := tmod_bd hd2 hz
          have hwr : IntKind.i64.wrap (d2.tmod n2) = d2.tmod n2 := IntWalk.i64_in _ (by omega)
          have hz' : (n2 == 0) = false := by simp [hz]
          have hz2 : (n2 != 0) = true := by simp [hz]
          have HN2 := Lib.hid hn2
          have HM := Lib.hid hm
          have HZ := Lib.hid hz
          clear hg hd2 hn2 hm
          go_wp2
          go_quiet (fail)
          go_wp2
          go_roundw
          case rel => exact ⟨n2, d2.tmod n2, rfl, rfl, HG.out, HN2.out, ⟨HM.out.1, HM.out.2.1⟩, he2.trans (Ext.drewN _ _)⟩
          case measure => exact HM.out.2.2
    · have HE := Lib.hid (show dd.natAbs = gcdL xs by rw [HR.out, List.take_of_length_le (by rw [← HN.out]; omega)])
      have hbd : -1000000000000000000 ≤ dd ∧ dd ≤ 1000000000000000000 := HBD.out
      go_wp2
      all_goals go_ret
      all_goals exact ⟨ret_int (by rw [← HE.out]; omega), he⟩

end Go.Proofs.Ytpaoeghdfeekoaa

/- Products and reduced quotients. By regen.py. -/
namespace Go.Proofs.Ytpaoeghdfeekoaa
open Go.RowKit Go.Mem Go.RegInv
attribute [local go_sem] RelUpon_value RelUpon_skip RelUpon_enter BigFrame.eval_const BigFrame.eval_global BigFrame.eval_func

theorem ints_newAt (W : World) (xs : List Int) (T : TypeId) {g n : Nat} (hn : n = xs.length) (h : xs.length ≤ 1152921504606846976) (hg : g = W.heap.size) : IntsAt (W.alloc (.cells (xs.map (Value.int .i64)).toArray T)) (.slice (some ⟨g, 0, none⟩) n n) xs := hg ▸ hn ▸ ints_new W xs T h

theorem times_any (a b c d : Int) (h1 : Big (a * c)) (h2 : Big (b * d)) (h3 : Big (a * d)) (h4 : Big (b * c)) (w : World) :
    Calls Try.prog 110 #[.agg #[.int .i64 a, .int .i64 b], .agg #[.int .i64 c, .int .i64 d]] w fun e w' => e = .returned (.agg #[.int .i64 (a * c - b * d), .int .i64 (a * d + b * c)]) ∧ Ext w w' := by
  obtain ⟨p1, p2⟩ := h1
  obtain ⟨p3, p4⟩ := h2
  obtain ⟨p5, p6⟩ := h3
  obtain ⟨p7, p8⟩ := h4
  go_enter Try.func110, Try.ntmps110
  go_wp2
  exact bodyPost_ret (v := .agg #[.int .i64 (a * c - b * d), .int .i64 (a * d + b * c)]) (by simp [results, Try.f110, go_sem]) rfl ⟨rfl, (Ext.alloc _ _).trans ((Ext.alloc _ _).trans (Ext.alloc _ _))⟩

def redN (a b c d : Int) : Int := if c < 0 ∨ (c = 0 ∧ d < 0) then -(gcdL [a, b, c, d] : Int) else (gcdL [a, b, c, d] : Int)

theorem gcdL4 (a b c d : Int) (h : c ≠ 0 ∨ d ≠ 0) : gcdL [a, b, c, d] ≠ 0 := by
  simp only [gcdL, List.foldl_cons, List.foldl_nil]
  rw [Ne, Nat.gcd_eq_zero_iff, Nat.gcd_eq_zero_iff]
  omega

theorem gcdL4_le (a b c d : Int) (hc : Big c) (hd : Big d) (h : c ≠ 0 ∨ d ≠ 0) : (gcdL [a, b, c, d] : Int) ≤ 1000000000000000000 := by
  simp only [gcdL, List.foldl_cons, List.foldl_nil]
  unfold Big at hc hd
  by_cases h0 : d = 0
  · subst h0
    have : c ≠ 0 := by omega
    simp only [Int.natAbs_zero, Nat.gcd_zero_right]
    have := Nat.le_of_dvd (by omega) (Nat.gcd_dvd_right (Nat.gcd (Nat.gcd 0 a.natAbs) b.natAbs) c.natAbs)
    omega
  · have := Nat.le_of_dvd (by omega) (Nat.gcd_dvd_right (Nat.gcd (Nat.gcd (Nat.gcd 0 a.natAbs) b.natAbs) c.natAbs) d.natAbs)
    omega

theorem wrap_tdiv {x m : Int} (h : Big x) : IntKind.i64.wrap (x.tdiv m) = x.tdiv m := by
  have := Int.natAbs_tdiv_le_natAbs x m
  unfold Big at h
  exact IntWalk.i64_in _ (by omega)

theorem big4 {a b c d : Int} (ha : Big a) (hb : Big b) (hc : Big c) (hd : Big d) : ∀ x ∈ [a, b, c, d], Big x := by
  intro x hx
  rcases List.mem_cons.1 hx with h | hx
  · exact h ▸ ha
  rcases List.mem_cons.1 hx with h | hx
  · exact h ▸ hb
  rcases List.mem_cons.1 hx with h | hx
  · exact h ▸ hc
  rcases List.mem_cons.1 hx with h | hx
  · exact h ▸ hd
  cases hx

set_option maxRecDepth 100000 in
set_option maxHeartbeats 2000000 in
theorem reduced_any (a b c d : Int) (ha : Big a) (hb : Big b) (hc : Big c) (hd : Big d) (hne : c ≠ 0 ∨ d ≠ 0) (w : World) :
    Calls Try.prog 109 #[.agg #[.int .i64 a, .int .i64 b], .agg #[.int .i64 c, .int .i64 d]] w fun e w' =>
      e = .returned (.agg #[.int .i64 (a.tdiv (redN a b c d)), .int .i64 (b.tdiv (redN a b c d)), .int .i64 (c.tdiv (redN a b c d)), .int .i64 (d.tdiv (redN a b c d))]) ∧ Ext w w' := by
  have HD := Lib.hid (fun W v h => divisor_any v [a, b, c, d] W h (big4 ha hb hc hd))
  have hwa := Lib.hid (fun m => wrap_tdiv (m := m) ha)
  have hwb := Lib.hid (fun m => wrap_tdiv (m := m) hb)
  have hwc := Lib.hid (fun m => wrap_tdiv (m := m) hc)
  have hwd := Lib.hid (fun m => wrap_tdiv (m := m) hd)
  have hg1 : 1 ≤ (gcdL [a, b, c, d] : Int) := by have := gcdL4 a b c d hne; omega
  have hg2 := gcdL4_le a b c d hc hd hne
  have HR := Lib.hid (show redN a b c d = if c < 0 ∨ (c = 0 ∧ d < 0) then -(gcdL [a, b, c, d] : Int) else (gcdL [a, b, c, d] : Int) from rfl)
  clear ha hb hc hd
  generalize redN a b c d = m at HR ⊢
  generalize (gcdL [a, b, c, d] : Int) = g at HD HR hg1 hg2
  have hcs : (c < 0 ∧ m = -g) ∨ (decide (c < 0) = false ∧ (c == 0) = true ∧ d < 0 ∧ m = -g) ∨ (decide (c < 0) = false ∧ (c == 0) = true ∧ decide (d < 0) = false ∧ m = g) ∨ (decide (c < 0) = false ∧ (c == 0) = false ∧ m = g) := by
    simp only [decide_eq_false_iff_not, beq_iff_eq, beq_eq_false_iff_ne]
    by_cases h1 : c < 0
    · exact .inl ⟨h1, by rw [HR.out, if_pos (.inl h1)]⟩
    · by_cases h2 : c = 0
      · by_cases h3 : d < 0
        · exact .inr (.inl ⟨h1, h2, h3, by rw [HR.out, if_pos (.inr ⟨h2, h3⟩)]⟩)
        · exact .inr (.inr (.inl ⟨h1, h2, h3, by rw [HR.out, if_neg (by omega)]⟩))
      · exact .inr (.inr (.inr ⟨h1, h2, by rw [HR.out, if_neg (by omega)]⟩))
  clear HR hne
  rcases hcs with ⟨d1, hm⟩ | hcs
  · have HM := Lib.hid hm
    have HMG := Lib.hid (show -g = m from hm.symm)
    clear hm
    go_enter Try.func109, Try.ntmps109
    go_wp2_with (go_at_call 100; refine (HD.out _ _ (ints_newAt _ [a, b, c, d] _ rfl (by simp) (by simp))).mono ?_; rintro e W1 ⟨rfl, hx⟩; have z0 : W1.cell? ⟨w.heap.size, 0, none⟩ = some (.int .i64 a) := hx.cell (by go_simp); have z1 : W1.cell? ⟨w.heap.size, 1, none⟩ = some (.int .i64 b) := hx.cell (by go_simp); have z2 : W1.cell? ⟨w.heap.size + 1, 0, none⟩ = some (.int .i64 c) := hx.cell (by go_simp); have z3 : W1.cell? ⟨w.heap.size + 1, 1, none⟩ = some (.int .i64 d) := hx.cell (by go_simp); have B1 := ((Blk.newAt _ 84 #[.int .i64 0, .int .i64 0, .int .i64 0, .int .i64 0] (g := w.heap.size + 1 + 1) (by simp)).alloc _).ext hx)
    rw [HMG.out]
    have hm0 : ¬ m = 0 := by have := HM.out; omega
    have hwa1 := hwa.out m
    have hwb1 := hwb.out m
    have hwc1 := hwc.out m
    have hwd1 := hwd.out m
    clear hg1 hg2 d1
    refine wp_region_part 19 [some 31, some 32, some 33, some 34, some 35, some 36, some 37, some 38, some 39, some 40, some 41, some 42, some 43, some 44, some 45, some 46, some 47, some 48, some 49] [[2], [31], [5], [32, 33], [2], [35], [5], [36, 37], [34, 38], [3], [40], [5], [41, 42], [3], [44], [5], [45, 46], [43, 47], [39, 48]]
      [Is (.pointer (some ⟨w.heap.size, 0, none⟩)), Is (.int .i64 (a)), Is (.int .i64 (m)), Is (.int .i64 (a.tdiv m)), Is (.pointer (some ⟨w.heap.size, 1, none⟩)), Is (.int .i64 (b)), Is (.int .i64 (m)), Is (.int .i64 (b.tdiv m)), Is (.agg #[.int .i64 (a.tdiv m), .int .i64 (b.tdiv m)]), Is (.pointer (some ⟨w.heap.size + 1, 0, none⟩)), Is (.int .i64 (c)), Is (.int .i64 (m)), Is (.int .i64 (c.tdiv m)), Is (.pointer (some ⟨w.heap.size + 1, 1, none⟩)), Is (.int .i64 (d)), Is (.int .i64 (m)), Is (.int .i64 (d.tdiv m)), Is (.agg #[.int .i64 (c.tdiv m), .int .i64 (d.tdiv m)]), Is (.agg #[.int .i64 (a.tdiv m), .int .i64 (b.tdiv m), .int .i64 (c.tdiv m), .int .i64 (d.tdiv m)])]
      (by kernel_rfl) (by kernel_rfl) (by kernel_rfl) (by kernel_rfl) (by kernel_rfl) (by kernel_rfl) (by kernel_rfl) Ext (fun W => Ext W1 W)
      (fun W _ => Ext.refl W) (fun W W' h k => h.trans k) ?_ (Ext.drew _) ?_ ?_
    · repeat (refine ⟨fun _ _ _ _ k h => (by first | exact h | exact IntsAt.ext h k), ?_⟩)
      exact trivial
    · refine ⟨?_, ?_, ?_, ?_, ?_, ?_, ?_, ?_, ?_, ?_, ?_, ?_, ?_, ?_, ?_, ?_, ?_, ?_, ?_, trivial⟩
      all_goals intro ρ W ⟨kc, kg, kf⟩ hF hs
      · obtain ⟨h0, -⟩ := hs
        replace h0 : ρ (.tmp 2) = .pointer (some ⟨w.heap.size, 0, none⟩) := h0
        go_simp
        exact ⟨Ext.refl _, rfl⟩
      · obtain ⟨h0, -⟩ := hs
        replace h0 : ρ (.tmp 31) = .pointer (some ⟨w.heap.size, 0, none⟩) := h0
        have hc0 : W.cell? ⟨w.heap.size, 0, none⟩ = some (.int .i64 (a)) := hF.cell (by assumption)
        go_simp
        exact ⟨Ext.refl _, rfl⟩
      · obtain ⟨h0, -⟩ := hs
        replace h0 : ρ (.tmp 5) = .int .i64 (m) := h0
        go_simp
        exact ⟨Ext.refl _, rfl⟩
      · obtain ⟨h0, h1, -⟩ := hs
        replace h0 : ρ (.tmp 32) = .int .i64 (a) := h0
        replace h1 : ρ (.tmp 33) = .int .i64 (m) := h1
        have hq : IntKind.i64.wrap (a.tdiv m) = a.tdiv m := hwa1
        have hm2 : ¬ m = 0 := hm0
        go_simp
        exact ⟨Ext.refl _, rfl⟩
      · obtain ⟨h0, -⟩ := hs
        replace h0 : ρ (.tmp 2) = .pointer (some ⟨w.heap.size, 0, none⟩) := h0
        go_simp
        exact ⟨Ext.refl _, rfl⟩
      · obtain ⟨h0, -⟩ := hs
        replace h0 : ρ (.tmp 35) = .pointer (some ⟨w.heap.size, 1, none⟩) := h0
        have hc0 : W.cell? ⟨w.heap.size, 1, none⟩ = some (.int .i64 (b)) := hF.cell (by assumption)
        go_simp
        exact ⟨Ext.refl _, rfl⟩
      · obtain ⟨h0, -⟩ := hs
        replace h0 : ρ (.tmp 5) = .int .i64 (m) := h0
        go_simp
        exact ⟨Ext.refl _, rfl⟩
      · obtain ⟨h0, h1, -⟩ := hs
        replace h0 : ρ (.tmp 36) = .int .i64 (b) := h0
        replace h1 : ρ (.tmp 37) = .int .i64 (m) := h1
        have hq : IntKind.i64.wrap (b.tdiv m) = b.tdiv m := hwb1
        have hm2 : ¬ m = 0 := hm0
        go_simp
        exact ⟨Ext.refl _, rfl⟩
      · obtain ⟨h0, h1, -⟩ := hs
        replace h0 : ρ (.tmp 34) = .int .i64 (a.tdiv m) := h0
        replace h1 : ρ (.tmp 38) = .int .i64 (b.tdiv m) := h1
        go_simp
        exact ⟨Ext.refl _, rfl⟩
      · obtain ⟨h0, -⟩ := hs
        replace h0 : ρ (.tmp 3) = .pointer (some ⟨w.heap.size + 1, 0, none⟩) := h0
        go_simp
        exact ⟨Ext.refl _, rfl⟩
      · obtain ⟨h0, -⟩ := hs
        replace h0 : ρ (.tmp 40) = .pointer (some ⟨w.heap.size + 1, 0, none⟩) := h0
        have hc0 : W.cell? ⟨w.heap.size + 1, 0, none⟩ = some (.int .i64 (c)) := hF.cell (by assumption)
        go_simp
        exact ⟨Ext.refl _, rfl⟩
      · obtain ⟨h0, -⟩ := hs
        replace h0 : ρ (.tmp 5) = .int .i64 (m) := h0
        go_simp
        exact ⟨Ext.refl _, rfl⟩
      · obtain ⟨h0, h1, -⟩ := hs
        replace h0 : ρ (.tmp 41) = .int .i64 (c) := h0
        replace h1 : ρ (.tmp 42) = .int .i64 (m) := h1
        have hq : IntKind.i64.wrap (c.tdiv m) = c.tdiv m := hwc1
        have hm2 : ¬ m = 0 := hm0
        go_simp
        exact ⟨Ext.refl _, rfl⟩
      · obtain ⟨h0, -⟩ := hs
        replace h0 : ρ (.tmp 3) = .pointer (some ⟨w.heap.size + 1, 0, none⟩) := h0
        go_simp
        exact ⟨Ext.refl _, rfl⟩
      · obtain ⟨h0, -⟩ := hs
        replace h0 : ρ (.tmp 44) = .pointer (some ⟨w.heap.size + 1, 1, none⟩) := h0
        have hc0 : W.cell? ⟨w.heap.size + 1, 1, none⟩ = some (.int .i64 (d)) := hF.cell (by assumption)
        go_simp
        exact ⟨Ext.refl _, rfl⟩
      · obtain ⟨h0, -⟩ := hs
        replace h0 : ρ (.tmp 5) = .int .i64 (m) := h0
        go_simp
        exact ⟨Ext.refl _, rfl⟩
      · obtain ⟨h0, h1, -⟩ := hs
        replace h0 : ρ (.tmp 45) = .int .i64 (d) := h0
        replace h1 : ρ (.tmp 46) = .int .i64 (m) := h1
        have hq : IntKind.i64.wrap (d.tdiv m) = d.tdiv m := hwd1
        have hm2 : ¬ m = 0 := hm0
        go_simp
        exact ⟨Ext.refl _, rfl⟩
      · obtain ⟨h0, h1, -⟩ := hs
        replace h0 : ρ (.tmp 43) = .int .i64 (c.tdiv m) := h0
        replace h1 : ρ (.tmp 47) = .int .i64 (d.tdiv m) := h1
        go_simp
        exact ⟨Ext.refl _, rfl⟩
      · obtain ⟨h0, h1, -⟩ := hs
        replace h0 : ρ (.tmp 39) = .agg #[.int .i64 (a.tdiv m), .int .i64 (b.tdiv m)] := h0
        replace h1 : ρ (.tmp 48) = .agg #[.int .i64 (c.tdiv m), .int .i64 (d.tdiv m)] := h1
        go_simp
        exact ⟨Ext.refl _, rfl⟩
    · intro fv W hF hs
      obtain ⟨-, -, -, -, -, -, -, -, -, -, -, -, -, -, -, -, -, -, h49, -⟩ := hs
      replace h49 : fv 49 = .agg #[.int .i64 (a.tdiv m), .int .i64 (b.tdiv m), .int .i64 (c.tdiv m), .int .i64 (d.tdiv m)] := h49
      simp only [fin, List.filterMap]
      go_simp
      have B2 := B1.ext hF
      have f0 := B2.free 0
      have f1 := B2.free 1
      have f2 := B2.free 2
      have f3 := B2.free 3
      have c0 := B2.cell 0
      have c1 := B2.cell 1
      have c2 := B2.cell 2
      have c3 := B2.cell 3
      simp only [List.getElem?_toArray, List.getElem?_cons_zero, List.getElem?_cons_succ] at c0 c1 c2 c3
      go_wp2
      exact bodyPost_ret (v := .agg #[.int .i64 (a.tdiv m), .int .i64 (b.tdiv m), .int .i64 (c.tdiv m), .int .i64 (d.tdiv m)]) (by simp [results, Try.f109, go_sem, c0, c1, c2, c3]) rfl ⟨rfl, Ext.set (Ext.set (Ext.set (Ext.set ((Ext.alloc _ _).trans ((Ext.alloc _ _).trans ((Ext.alloc _ _).trans ((Ext.alloc _ _).trans (hx.trans hF))))) (by dsimp only; omega) _) (by dsimp only; omega) _) (by dsimp only; omega) _) (by dsimp only; omega) _⟩
  rcases hcs with ⟨d1, d2, d3, hm⟩ | hcs
  · have HM := Lib.hid hm
    have HMG := Lib.hid (show -g = m from hm.symm)
    clear hm
    go_enter Try.func109, Try.ntmps109
    go_wp2_with (go_at_call 100; refine (HD.out _ _ (ints_newAt _ [a, b, c, d] _ rfl (by simp) (by simp))).mono ?_; rintro e W1 ⟨rfl, hx⟩; have z0 : W1.cell? ⟨w.heap.size, 0, none⟩ = some (.int .i64 a) := hx.cell (by go_simp); have z1 : W1.cell? ⟨w.heap.size, 1, none⟩ = some (.int .i64 b) := hx.cell (by go_simp); have z2 : W1.cell? ⟨w.heap.size + 1, 0, none⟩ = some (.int .i64 c) := hx.cell (by go_simp); have z3 : W1.cell? ⟨w.heap.size + 1, 1, none⟩ = some (.int .i64 d) := hx.cell (by go_simp); have B1 := ((Blk.newAt _ 84 #[.int .i64 0, .int .i64 0, .int .i64 0, .int .i64 0] (g := w.heap.size + 1 + 1) (by simp)).alloc _).ext hx)
    rw [HMG.out]
    have hm0 : ¬ m = 0 := by have := HM.out; omega
    have hwa1 := hwa.out m
    have hwb1 := hwb.out m
    have hwc1 := hwc.out m
    have hwd1 := hwd.out m
    clear hg1 hg2 d1 d2 d3
    refine wp_region_part 19 [some 31, some 32, some 33, some 34, some 35, some 36, some 37, some 38, some 39, some 40, some 41, some 42, some 43, some 44, some 45, some 46, some 47, some 48, some 49] [[2], [31], [5], [32, 33], [2], [35], [5], [36, 37], [34, 38], [3], [40], [5], [41, 42], [3], [44], [5], [45, 46], [43, 47], [39, 48]]
      [Is (.pointer (some ⟨w.heap.size, 0, none⟩)), Is (.int .i64 (a)), Is (.int .i64 (m)), Is (.int .i64 (a.tdiv m)), Is (.pointer (some ⟨w.heap.size, 1, none⟩)), Is (.int .i64 (b)), Is (.int .i64 (m)), Is (.int .i64 (b.tdiv m)), Is (.agg #[.int .i64 (a.tdiv m), .int .i64 (b.tdiv m)]), Is (.pointer (some ⟨w.heap.size + 1, 0, none⟩)), Is (.int .i64 (c)), Is (.int .i64 (m)), Is (.int .i64 (c.tdiv m)), Is (.pointer (some ⟨w.heap.size + 1, 1, none⟩)), Is (.int .i64 (d)), Is (.int .i64 (m)), Is (.int .i64 (d.tdiv m)), Is (.agg #[.int .i64 (c.tdiv m), .int .i64 (d.tdiv m)]), Is (.agg #[.int .i64 (a.tdiv m), .int .i64 (b.tdiv m), .int .i64 (c.tdiv m), .int .i64 (d.tdiv m)])]
      (by kernel_rfl) (by kernel_rfl) (by kernel_rfl) (by kernel_rfl) (by kernel_rfl) (by kernel_rfl) (by kernel_rfl) Ext (fun W => Ext W1 W)
      (fun W _ => Ext.refl W) (fun W W' h k => h.trans k) ?_ (Ext.drew _) ?_ ?_
    · repeat (refine ⟨fun _ _ _ _ k h => (by first | exact h | exact IntsAt.ext h k), ?_⟩)
      exact trivial
    · refine ⟨?_, ?_, ?_, ?_, ?_, ?_, ?_, ?_, ?_, ?_, ?_, ?_, ?_, ?_, ?_, ?_, ?_, ?_, ?_, trivial⟩
      all_goals intro ρ W ⟨kc, kg, kf⟩ hF hs
      · obtain ⟨h0, -⟩ := hs
        replace h0 : ρ (.tmp 2) = .pointer (some ⟨w.heap.size, 0, none⟩) := h0
        go_simp
        exact ⟨Ext.refl _, rfl⟩
      · obtain ⟨h0, -⟩ := hs
        replace h0 : ρ (.tmp 31) = .pointer (some ⟨w.heap.size, 0, none⟩) := h0
        have hc0 : W.cell? ⟨w.heap.size, 0, none⟩ = some (.int .i64 (a)) := hF.cell (by assumption)
        go_simp
        exact ⟨Ext.refl _, rfl⟩
      · obtain ⟨h0, -⟩ := hs
        replace h0 : ρ (.tmp 5) = .int .i64 (m) := h0
        go_simp
        exact ⟨Ext.refl _, rfl⟩
      · obtain ⟨h0, h1, -⟩ := hs
        replace h0 : ρ (.tmp 32) = .int .i64 (a) := h0
        replace h1 : ρ (.tmp 33) = .int .i64 (m) := h1
        have hq : IntKind.i64.wrap (a.tdiv m) = a.tdiv m := hwa1
        have hm2 : ¬ m = 0 := hm0
        go_simp
        exact ⟨Ext.refl _, rfl⟩
      · obtain ⟨h0, -⟩ := hs
        replace h0 : ρ (.tmp 2) = .pointer (some ⟨w.heap.size, 0, none⟩) := h0
        go_simp
        exact ⟨Ext.refl _, rfl⟩
      · obtain ⟨h0, -⟩ := hs
        replace h0 : ρ (.tmp 35) = .pointer (some ⟨w.heap.size, 1, none⟩) := h0
        have hc0 : W.cell? ⟨w.heap.size, 1, none⟩ = some (.int .i64 (b)) := hF.cell (by assumption)
        go_simp
        exact ⟨Ext.refl _, rfl⟩
      · obtain ⟨h0, -⟩ := hs
        replace h0 : ρ (.tmp 5) = .int .i64 (m) := h0
        go_simp
        exact ⟨Ext.refl _, rfl⟩
      · obtain ⟨h0, h1, -⟩ := hs
        replace h0 : ρ (.tmp 36) = .int .i64 (b) := h0
        replace h1 : ρ (.tmp 37) = .int .i64 (m) := h1
        have hq : IntKind.i64.wrap (b.tdiv m) = b.tdiv m := hwb1
        have hm2 : ¬ m = 0 := hm0
        go_simp
        exact ⟨Ext.refl _, rfl⟩
      · obtain ⟨h0, h1, -⟩ := hs
        replace h0 : ρ (.tmp 34) = .int .i64 (a.tdiv m) := h0
        replace h1 : ρ (.tmp 38) = .int .i64 (b.tdiv m) := h1
        go_simp
        exact ⟨Ext.refl _, rfl⟩
      · obtain ⟨h0, -⟩ := hs
        replace h0 : ρ (.tmp 3) = .pointer (some ⟨w.heap.size + 1, 0, none⟩) := h0
        go_simp
        exact ⟨Ext.refl _, rfl⟩
      · obtain ⟨h0, -⟩ := hs
        replace h0 : ρ (.tmp 40) = .pointer (some ⟨w.heap.size + 1, 0, none⟩) := h0
        have hc0 : W.cell? ⟨w.heap.size + 1, 0, none⟩ = some (.int .i64 (c)) := hF.cell (by assumption)
        go_simp
        exact ⟨Ext.refl _, rfl⟩
      · obtain ⟨h0, -⟩ := hs
        replace h0 : ρ (.tmp 5) = .int .i64 (m) := h0
        go_simp
        exact ⟨Ext.refl _, rfl⟩
      · obtain ⟨h0, h1, -⟩ := hs
        replace h0 : ρ (.tmp 41) = .int .i64 (c) := h0
        replace h1 : ρ (.tmp 42) = .int .i64 (m) := h1
        have hq : IntKind.i64.wrap (c.tdiv m) = c.tdiv m := hwc1
        have hm2 : ¬ m = 0 := hm0
        go_simp
        exact ⟨Ext.refl _, rfl⟩
      · obtain ⟨h0, -⟩ := hs
        replace h0 : ρ (.tmp 3) = .pointer (some ⟨w.heap.size + 1, 0, none⟩) := h0
        go_simp
        exact ⟨Ext.refl _, rfl⟩
      · obtain ⟨h0, -⟩ := hs
        replace h0 : ρ (.tmp 44) = .pointer (some ⟨w.heap.size + 1, 1, none⟩) := h0
        have hc0 : W.cell? ⟨w.heap.size + 1, 1, none⟩ = some (.int .i64 (d)) := hF.cell (by assumption)
        go_simp
        exact ⟨Ext.refl _, rfl⟩
      · obtain ⟨h0, -⟩ := hs
        replace h0 : ρ (.tmp 5) = .int .i64 (m) := h0
        go_simp
        exact ⟨Ext.refl _, rfl⟩
      · obtain ⟨h0, h1, -⟩ := hs
        replace h0 : ρ (.tmp 45) = .int .i64 (d) := h0
        replace h1 : ρ (.tmp 46) = .int .i64 (m) := h1
        have hq : IntKind.i64.wrap (d.tdiv m) = d.tdiv m := hwd1
        have hm2 : ¬ m = 0 := hm0
        go_simp
        exact ⟨Ext.refl _, rfl⟩
      · obtain ⟨h0, h1, -⟩ := hs
        replace h0 : ρ (.tmp 43) = .int .i64 (c.tdiv m) := h0
        replace h1 : ρ (.tmp 47) = .int .i64 (d.tdiv m) := h1
        go_simp
        exact ⟨Ext.refl _, rfl⟩
      · obtain ⟨h0, h1, -⟩ := hs
        replace h0 : ρ (.tmp 39) = .agg #[.int .i64 (a.tdiv m), .int .i64 (b.tdiv m)] := h0
        replace h1 : ρ (.tmp 48) = .agg #[.int .i64 (c.tdiv m), .int .i64 (d.tdiv m)] := h1
        go_simp
        exact ⟨Ext.refl _, rfl⟩
    · intro fv W hF hs
      obtain ⟨-, -, -, -, -, -, -, -, -, -, -, -, -, -, -, -, -, -, h49, -⟩ := hs
      replace h49 : fv 49 = .agg #[.int .i64 (a.tdiv m), .int .i64 (b.tdiv m), .int .i64 (c.tdiv m), .int .i64 (d.tdiv m)] := h49
      simp only [fin, List.filterMap]
      go_simp
      have B2 := B1.ext hF
      have f0 := B2.free 0
      have f1 := B2.free 1
      have f2 := B2.free 2
      have f3 := B2.free 3
      have c0 := B2.cell 0
      have c1 := B2.cell 1
      have c2 := B2.cell 2
      have c3 := B2.cell 3
      simp only [List.getElem?_toArray, List.getElem?_cons_zero, List.getElem?_cons_succ] at c0 c1 c2 c3
      go_wp2
      exact bodyPost_ret (v := .agg #[.int .i64 (a.tdiv m), .int .i64 (b.tdiv m), .int .i64 (c.tdiv m), .int .i64 (d.tdiv m)]) (by simp [results, Try.f109, go_sem, c0, c1, c2, c3]) rfl ⟨rfl, Ext.set (Ext.set (Ext.set (Ext.set ((Ext.alloc _ _).trans ((Ext.alloc _ _).trans ((Ext.alloc _ _).trans ((Ext.alloc _ _).trans (hx.trans hF))))) (by dsimp only; omega) _) (by dsimp only; omega) _) (by dsimp only; omega) _) (by dsimp only; omega) _⟩
  rcases hcs with ⟨d1, d2, d3, hm⟩ | hcs
  · have HM := Lib.hid hm
    have HMG := Lib.hid (show g = m from hm.symm)
    clear hm
    go_enter Try.func109, Try.ntmps109
    go_wp2_with (go_at_call 100; refine (HD.out _ _ (ints_newAt _ [a, b, c, d] _ rfl (by simp) (by simp))).mono ?_; rintro e W1 ⟨rfl, hx⟩; have z0 : W1.cell? ⟨w.heap.size, 0, none⟩ = some (.int .i64 a) := hx.cell (by go_simp); have z1 : W1.cell? ⟨w.heap.size, 1, none⟩ = some (.int .i64 b) := hx.cell (by go_simp); have z2 : W1.cell? ⟨w.heap.size + 1, 0, none⟩ = some (.int .i64 c) := hx.cell (by go_simp); have z3 : W1.cell? ⟨w.heap.size + 1, 1, none⟩ = some (.int .i64 d) := hx.cell (by go_simp); have B1 := ((Blk.newAt _ 84 #[.int .i64 0, .int .i64 0, .int .i64 0, .int .i64 0] (g := w.heap.size + 1 + 1) (by simp)).alloc _).ext hx)
    rw [HMG.out]
    have hm0 : ¬ m = 0 := by have := HM.out; omega
    have hwa1 := hwa.out m
    have hwb1 := hwb.out m
    have hwc1 := hwc.out m
    have hwd1 := hwd.out m
    clear hg1 hg2 d1 d2 d3
    refine wp_region_part 19 [some 31, some 32, some 33, some 34, some 35, some 36, some 37, some 38, some 39, some 40, some 41, some 42, some 43, some 44, some 45, some 46, some 47, some 48, some 49] [[2], [31], [5], [32, 33], [2], [35], [5], [36, 37], [34, 38], [3], [40], [5], [41, 42], [3], [44], [5], [45, 46], [43, 47], [39, 48]]
      [Is (.pointer (some ⟨w.heap.size, 0, none⟩)), Is (.int .i64 (a)), Is (.int .i64 (m)), Is (.int .i64 (a.tdiv m)), Is (.pointer (some ⟨w.heap.size, 1, none⟩)), Is (.int .i64 (b)), Is (.int .i64 (m)), Is (.int .i64 (b.tdiv m)), Is (.agg #[.int .i64 (a.tdiv m), .int .i64 (b.tdiv m)]), Is (.pointer (some ⟨w.heap.size + 1, 0, none⟩)), Is (.int .i64 (c)), Is (.int .i64 (m)), Is (.int .i64 (c.tdiv m)), Is (.pointer (some ⟨w.heap.size + 1, 1, none⟩)), Is (.int .i64 (d)), Is (.int .i64 (m)), Is (.int .i64 (d.tdiv m)), Is (.agg #[.int .i64 (c.tdiv m), .int .i64 (d.tdiv m)]), Is (.agg #[.int .i64 (a.tdiv m), .int .i64 (b.tdiv m), .int .i64 (c.tdiv m), .int .i64 (d.tdiv m)])]
      (by kernel_rfl) (by kernel_rfl) (by kernel_rfl) (by kernel_rfl) (by kernel_rfl) (by kernel_rfl) (by kernel_rfl) Ext (fun W => Ext W1 W)
      (fun W _ => Ext.refl W) (fun W W' h k => h.trans k) ?_ (Ext.drew _) ?_ ?_
    · repeat (refine ⟨fun _ _ _ _ k h => (by first | exact h | exact IntsAt.ext h k), ?_⟩)
      exact trivial
    · refine ⟨?_, ?_, ?_, ?_, ?_, ?_, ?_, ?_, ?_, ?_, ?_, ?_, ?_, ?_, ?_, ?_, ?_, ?_, ?_, trivial⟩
      all_goals intro ρ W ⟨kc, kg, kf⟩ hF hs
      · obtain ⟨h0, -⟩ := hs
        replace h0 : ρ (.tmp 2) = .pointer (some ⟨w.heap.size, 0, none⟩) := h0
        go_simp
        exact ⟨Ext.refl _, rfl⟩
      · obtain ⟨h0, -⟩ := hs
        replace h0 : ρ (.tmp 31) = .pointer (some ⟨w.heap.size, 0, none⟩) := h0
        have hc0 : W.cell? ⟨w.heap.size, 0, none⟩ = some (.int .i64 (a)) := hF.cell (by assumption)
        go_simp
        exact ⟨Ext.refl _, rfl⟩
      · obtain ⟨h0, -⟩ := hs
        replace h0 : ρ (.tmp 5) = .int .i64 (m) := h0
        go_simp
        exact ⟨Ext.refl _, rfl⟩
      · obtain ⟨h0, h1, -⟩ := hs
        replace h0 : ρ (.tmp 32) = .int .i64 (a) := h0
        replace h1 : ρ (.tmp 33) = .int .i64 (m) := h1
        have hq : IntKind.i64.wrap (a.tdiv m) = a.tdiv m := hwa1
        have hm2 : ¬ m = 0 := hm0
        go_simp
        exact ⟨Ext.refl _, rfl⟩
      · obtain ⟨h0, -⟩ := hs
        replace h0 : ρ (.tmp 2) = .pointer (some ⟨w.heap.size, 0, none⟩) := h0
        go_simp
        exact ⟨Ext.refl _, rfl⟩
      · obtain ⟨h0, -⟩ := hs
        replace h0 : ρ (.tmp 35) = .pointer (some ⟨w.heap.size, 1, none⟩) := h0
        have hc0 : W.cell? ⟨w.heap.size, 1, none⟩ = some (.int .i64 (b)) := hF.cell (by assumption)
        go_simp
        exact ⟨Ext.refl _, rfl⟩
      · obtain ⟨h0, -⟩ := hs
        replace h0 : ρ (.tmp 5) = .int .i64 (m) := h0
        go_simp
        exact ⟨Ext.refl _, rfl⟩
      · obtain ⟨h0, h1, -⟩ := hs
        replace h0 : ρ (.tmp 36) = .int .i64 (b) := h0
        replace h1 : ρ (.tmp 37) = .int .i64 (m) := h1
        have hq : IntKind.i64.wrap (b.tdiv m) = b.tdiv m := hwb1
        have hm2 : ¬ m = 0 := hm0
        go_simp
        exact ⟨Ext.refl _, rfl⟩
      · obtain ⟨h0, h1, -⟩ := hs
        replace h0 : ρ (.tmp 34) = .int .i64 (a.tdiv m) := h0
        replace h1 : ρ (.tmp 38) = .int .i64 (b.tdiv m) := h1
        go_simp
        exact ⟨Ext.refl _, rfl⟩
      · obtain ⟨h0, -⟩ := hs
        replace h0 : ρ (.tmp 3) = .pointer (some ⟨w.heap.size + 1, 0, none⟩) := h0
        go_simp
        exact ⟨Ext.refl _, rfl⟩
      · obtain ⟨h0, -⟩ := hs
        replace h0 : ρ (.tmp 40) = .pointer (some ⟨w.heap.size + 1, 0, none⟩) := h0
        have hc0 : W.cell? ⟨w.heap.size + 1, 0, none⟩ = some (.int .i64 (c)) := hF.cell (by assumption)
        go_simp
        exact ⟨Ext.refl _, rfl⟩
      · obtain ⟨h0, -⟩ := hs
        replace h0 : ρ (.tmp 5) = .int .i64 (m) := h0
        go_simp
        exact ⟨Ext.refl _, rfl⟩
      · obtain ⟨h0, h1, -⟩ := hs
        replace h0 : ρ (.tmp 41) = .int .i64 (c) := h0
        replace h1 : ρ (.tmp 42) = .int .i64 (m) := h1
        have hq : IntKind.i64.wrap (c.tdiv m) = c.tdiv m := hwc1
        have hm2 : ¬ m = 0 := hm0
        go_simp
        exact ⟨Ext.refl _, rfl⟩
      · obtain ⟨h0, -⟩ := hs
        replace h0 : ρ (.tmp 3) = .pointer (some ⟨w.heap.size + 1, 0, none⟩) := h0
        go_simp
        exact ⟨Ext.refl _, rfl⟩
      · obtain ⟨h0, -⟩ := hs
        replace h0 : ρ (.tmp 44) = .pointer (some ⟨w.heap.size + 1, 1, none⟩) := h0
        have hc0 : W.cell? ⟨w.heap.size + 1, 1, none⟩ = some (.int .i64 (d)) := hF.cell (by assumption)
        go_simp
        exact ⟨Ext.refl _, rfl⟩
      · obtain ⟨h0, -⟩ := hs
        replace h0 : ρ (.tmp 5) = .int .i64 (m) := h0
        go_simp
        exact ⟨Ext.refl _, rfl⟩
      · obtain ⟨h0, h1, -⟩ := hs
        replace h0 : ρ (.tmp 45) = .int .i64 (d) := h0
        replace h1 : ρ (.tmp 46) = .int .i64 (m) := h1
        have hq : IntKind.i64.wrap (d.tdiv m) = d.tdiv m := hwd1
        have hm2 : ¬ m = 0 := hm0
        go_simp
        exact ⟨Ext.refl _, rfl⟩
      · obtain ⟨h0, h1, -⟩ := hs
        replace h0 : ρ (.tmp 43) = .int .i64 (c.tdiv m) := h0
        replace h1 : ρ (.tmp 47) = .int .i64 (d.tdiv m) := h1
        go_simp
        exact ⟨Ext.refl _, rfl⟩
      · obtain ⟨h0, h1, -⟩ := hs
        replace h0 : ρ (.tmp 39) = .agg #[.int .i64 (a.tdiv m), .int .i64 (b.tdiv m)] := h0
        replace h1 : ρ (.tmp 48) = .agg #[.int .i64 (c.tdiv m), .int .i64 (d.tdiv m)] := h1
        go_simp
        exact ⟨Ext.refl _, rfl⟩
    · intro fv W hF hs
      obtain ⟨-, -, -, -, -, -, -, -, -, -, -, -, -, -, -, -, -, -, h49, -⟩ := hs
      replace h49 : fv 49 = .agg #[.int .i64 (a.tdiv m), .int .i64 (b.tdiv m), .int .i64 (c.tdiv m), .int .i64 (d.tdiv m)] := h49
      simp only [fin, List.filterMap]
      go_simp
      have B2 := B1.ext hF
      have f0 := B2.free 0
      have f1 := B2.free 1
      have f2 := B2.free 2
      have f3 := B2.free 3
      have c0 := B2.cell 0
      have c1 := B2.cell 1
      have c2 := B2.cell 2
      have c3 := B2.cell 3
      simp only [List.getElem?_toArray, List.getElem?_cons_zero, List.getElem?_cons_succ] at c0 c1 c2 c3
      go_wp2
      exact bodyPost_ret (v := .agg #[.int .i64 (a.tdiv m), .int .i64 (b.tdiv m), .int .i64 (c.tdiv m), .int .i64 (d.tdiv m)]) (by simp [results, Try.f109, go_sem, c0, c1, c2, c3]) rfl ⟨rfl, Ext.set (Ext.set (Ext.set (Ext.set ((Ext.alloc _ _).trans ((Ext.alloc _ _).trans ((Ext.alloc _ _).trans ((Ext.alloc _ _).trans (hx.trans hF))))) (by dsimp only; omega) _) (by dsimp only; omega) _) (by dsimp only; omega) _) (by dsimp only; omega) _⟩
  obtain ⟨d1, d2, hm⟩ := hcs
  · have HM := Lib.hid hm
    have HMG := Lib.hid (show g = m from hm.symm)
    clear hm
    go_enter Try.func109, Try.ntmps109
    go_wp2_with (go_at_call 100; refine (HD.out _ _ (ints_newAt _ [a, b, c, d] _ rfl (by simp) (by simp))).mono ?_; rintro e W1 ⟨rfl, hx⟩; have z0 : W1.cell? ⟨w.heap.size, 0, none⟩ = some (.int .i64 a) := hx.cell (by go_simp); have z1 : W1.cell? ⟨w.heap.size, 1, none⟩ = some (.int .i64 b) := hx.cell (by go_simp); have z2 : W1.cell? ⟨w.heap.size + 1, 0, none⟩ = some (.int .i64 c) := hx.cell (by go_simp); have z3 : W1.cell? ⟨w.heap.size + 1, 1, none⟩ = some (.int .i64 d) := hx.cell (by go_simp); have B1 := ((Blk.newAt _ 84 #[.int .i64 0, .int .i64 0, .int .i64 0, .int .i64 0] (g := w.heap.size + 1 + 1) (by simp)).alloc _).ext hx)
    rw [HMG.out]
    have hm0 : ¬ m = 0 := by have := HM.out; omega
    have hwa1 := hwa.out m
    have hwb1 := hwb.out m
    have hwc1 := hwc.out m
    have hwd1 := hwd.out m
    clear hg1 hg2 d1 d2
    refine wp_region_part 19 [some 31, some 32, some 33, some 34, some 35, some 36, some 37, some 38, some 39, some 40, some 41, some 42, some 43, some 44, some 45, some 46, some 47, some 48, some 49] [[2], [31], [5], [32, 33], [2], [35], [5], [36, 37], [34, 38], [3], [40], [5], [41, 42], [3], [44], [5], [45, 46], [43, 47], [39, 48]]
      [Is (.pointer (some ⟨w.heap.size, 0, none⟩)), Is (.int .i64 (a)), Is (.int .i64 (m)), Is (.int .i64 (a.tdiv m)), Is (.pointer (some ⟨w.heap.size, 1, none⟩)), Is (.int .i64 (b)), Is (.int .i64 (m)), Is (.int .i64 (b.tdiv m)), Is (.agg #[.int .i64 (a.tdiv m), .int .i64 (b.tdiv m)]), Is (.pointer (some ⟨w.heap.size + 1, 0, none⟩)), Is (.int .i64 (c)), Is (.int .i64 (m)), Is (.int .i64 (c.tdiv m)), Is (.pointer (some ⟨w.heap.size + 1, 1, none⟩)), Is (.int .i64 (d)), Is (.int .i64 (m)), Is (.int .i64 (d.tdiv m)), Is (.agg #[.int .i64 (c.tdiv m), .int .i64 (d.tdiv m)]), Is (.agg #[.int .i64 (a.tdiv m), .int .i64 (b.tdiv m), .int .i64 (c.tdiv m), .int .i64 (d.tdiv m)])]
      (by kernel_rfl) (by kernel_rfl) (by kernel_rfl) (by kernel_rfl) (by kernel_rfl) (by kernel_rfl) (by kernel_rfl) Ext (fun W => Ext W1 W)
      (fun W _ => Ext.refl W) (fun W W' h k => h.trans k) ?_ (Ext.drew _) ?_ ?_
    · repeat (refine ⟨fun _ _ _ _ k h => (by first | exact h | exact IntsAt.ext h k), ?_⟩)
      exact trivial
    · refine ⟨?_, ?_, ?_, ?_, ?_, ?_, ?_, ?_, ?_, ?_, ?_, ?_, ?_, ?_, ?_, ?_, ?_, ?_, ?_, trivial⟩
      all_goals intro ρ W ⟨kc, kg, kf⟩ hF hs
      · obtain ⟨h0, -⟩ := hs
        replace h0 : ρ (.tmp 2) = .pointer (some ⟨w.heap.size, 0, none⟩) := h0
        go_simp
        exact ⟨Ext.refl _, rfl⟩
      · obtain ⟨h0, -⟩ := hs
        replace h0 : ρ (.tmp 31) = .pointer (some ⟨w.heap.size, 0, none⟩) := h0
        have hc0 : W.cell? ⟨w.heap.size, 0, none⟩ = some (.int .i64 (a)) := hF.cell (by assumption)
        go_simp
        exact ⟨Ext.refl _, rfl⟩
      · obtain ⟨h0, -⟩ := hs
        replace h0 : ρ (.tmp 5) = .int .i64 (m) := h0
        go_simp
        exact ⟨Ext.refl _, rfl⟩
      · obtain ⟨h0, h1, -⟩ := hs
        replace h0 : ρ (.tmp 32) = .int .i64 (a) := h0
        replace h1 : ρ (.tmp 33) = .int .i64 (m) := h1
        have hq : IntKind.i64.wrap (a.tdiv m) = a.tdiv m := hwa1
        have hm2 : ¬ m = 0 := hm0
        go_simp
        exact ⟨Ext.refl _, rfl⟩
      · obtain ⟨h0, -⟩ := hs
        replace h0 : ρ (.tmp 2) = .pointer (some ⟨w.heap.size, 0, none⟩) := h0
        go_simp
        exact ⟨Ext.refl _, rfl⟩
      · obtain ⟨h0, -⟩ := hs
        replace h0 : ρ (.tmp 35) = .pointer (some ⟨w.heap.size, 1, none⟩) := h0
        have hc0 : W.cell? ⟨w.heap.size, 1, none⟩ = some (.int .i64 (b)) := hF.cell (by assumption)
        go_simp
        exact ⟨Ext.refl _, rfl⟩
      · obtain ⟨h0, -⟩ := hs
        replace h0 : ρ (.tmp 5) = .int .i64 (m) := h0
        go_simp
        exact ⟨Ext.refl _, rfl⟩
      · obtain ⟨h0, h1, -⟩ := hs
        replace h0 : ρ (.tmp 36) = .int .i64 (b) := h0
        replace h1 : ρ (.tmp 37) = .int .i64 (m) := h1
        have hq : IntKind.i64.wrap (b.tdiv m) = b.tdiv m := hwb1
        have hm2 : ¬ m = 0 := hm0
        go_simp
        exact ⟨Ext.refl _, rfl⟩
      · obtain ⟨h0, h1, -⟩ := hs
        replace h0 : ρ (.tmp 34) = .int .i64 (a.tdiv m) := h0
        replace h1 : ρ (.tmp 38) = .int .i64 (b.tdiv m) := h1
        go_simp
        exact ⟨Ext.refl _, rfl⟩
      · obtain ⟨h0, -⟩ := hs
        replace h0 : ρ (.tmp 3) = .pointer (some ⟨w.heap.size + 1, 0, none⟩) := h0
        go_simp
        exact ⟨Ext.refl _, rfl⟩
      · obtain ⟨h0, -⟩ := hs
        replace h0 : ρ (.tmp 40) = .pointer (some ⟨w.heap.size + 1, 0, none⟩) := h0
        have hc0 : W.cell? ⟨w.heap.size + 1, 0, none⟩ = some (.int .i64 (c)) := hF.cell (by assumption)
        go_simp
        exact ⟨Ext.refl _, rfl⟩
      · obtain ⟨h0, -⟩ := hs
        replace h0 : ρ (.tmp 5) = .int .i64 (m) := h0
        go_simp
        exact ⟨Ext.refl _, rfl⟩
      · obtain ⟨h0, h1, -⟩ := hs
        replace h0 : ρ (.tmp 41) = .int .i64 (c) := h0
        replace h1 : ρ (.tmp 42) = .int .i64 (m) := h1
        have hq : IntKind.i64.wrap (c.tdiv m) = c.tdiv m := hwc1
        have hm2 : ¬ m = 0 := hm0
        go_simp
        exact ⟨Ext.refl _, rfl⟩
      · obtain ⟨h0, -⟩ := hs
        replace h0 : ρ (.tmp 3) = .pointer (some ⟨w.heap.size + 1, 0, none⟩) := h0
        go_simp
        exact ⟨Ext.refl _, rfl⟩
      · obtain ⟨h0, -⟩ := hs
        replace h0 : ρ (.tmp 44) = .pointer (some ⟨w.heap.size + 1, 1, none⟩) := h0
        have hc0 : W.cell? ⟨w.heap.size + 1, 1, none⟩ = some (.int .i64 (d)) := hF.cell (by assumption)
        go_simp
        exact ⟨Ext.refl _, rfl⟩
      · obtain ⟨h0, -⟩ := hs
        replace h0 : ρ (.tmp 5) = .int .i64 (m) := h0
        go_simp
        exact ⟨Ext.refl _, rfl⟩
      · obtain ⟨h0, h1, -⟩ := hs
        replace h0 : ρ (.tmp 45) = .int .i64 (d) := h0
        replace h1 : ρ (.tmp 46) = .int .i64 (m) := h1
        have hq : IntKind.i64.wrap (d.tdiv m) = d.tdiv m := hwd1
        have hm2 : ¬ m = 0 := hm0
        go_simp
        exact ⟨Ext.refl _, rfl⟩
      · obtain ⟨h0, h1, -⟩ := hs
        replace h0 : ρ (.tmp 43) = .int .i64 (c.tdiv m) := h0
        replace h1 : ρ (.tmp 47) = .int .i64 (d.tdiv m) := h1
        go_simp
        exact ⟨Ext.refl _, rfl⟩
      · obtain ⟨h0, h1, -⟩ := hs
        replace h0 : ρ (.tmp 39) = .agg #[.int .i64 (a.tdiv m), .int .i64 (b.tdiv m)] := h0
        replace h1 : ρ (.tmp 48) = .agg #[.int .i64 (c.tdiv m), .int .i64 (d.tdiv m)] := h1
        go_simp
        exact ⟨Ext.refl _, rfl⟩
    · intro fv W hF hs
      obtain ⟨-, -, -, -, -, -, -, -, -, -, -, -, -, -, -, -, -, -, h49, -⟩ := hs
      replace h49 : fv 49 = .agg #[.int .i64 (a.tdiv m), .int .i64 (b.tdiv m), .int .i64 (c.tdiv m), .int .i64 (d.tdiv m)] := h49
      simp only [fin, List.filterMap]
      go_simp
      have B2 := B1.ext hF
      have f0 := B2.free 0
      have f1 := B2.free 1
      have f2 := B2.free 2
      have f3 := B2.free 3
      have c0 := B2.cell 0
      have c1 := B2.cell 1
      have c2 := B2.cell 2
      have c3 := B2.cell 3
      simp only [List.getElem?_toArray, List.getElem?_cons_zero, List.getElem?_cons_succ] at c0 c1 c2 c3
      go_wp2
      exact bodyPost_ret (v := .agg #[.int .i64 (a.tdiv m), .int .i64 (b.tdiv m), .int .i64 (c.tdiv m), .int .i64 (d.tdiv m)]) (by simp [results, Try.f109, go_sem, c0, c1, c2, c3]) rfl ⟨rfl, Ext.set (Ext.set (Ext.set (Ext.set ((Ext.alloc _ _).trans ((Ext.alloc _ _).trans ((Ext.alloc _ _).trans ((Ext.alloc _ _).trans (hx.trans hF))))) (by dsimp only; omega) _) (by dsimp only; omega) _) (by dsimp only; omega) _) (by dsimp only; omega) _⟩

end Go.Proofs.Ytpaoeghdfeekoaa

/- The frequency for a wish. By regen.py. -/
namespace Go.Proofs.Ytpaoeghdfeekoaa
open Go.RowKit Go.Mem Go.RegInv
attribute [local go_sem] RelUpon_value RelUpon_skip RelUpon_enter BigFrame.eval_const BigFrame.eval_global BigFrame.eval_func

theorem shellError_any (t : Int) (A : Option Addr) (n cap : Nat) (v : Value) (xs : List Int) (w : World) (hn : n ≤ 1152921504606846976) (hx : IntsAt w v xs) :
    Calls Try.prog 97 #[.agg #[.int .i64 t, .slice A n cap], v] w fun e w' => e = .returned (.int .i64 (errIf (xs.any (outB 0 ((n : Int) - 1))) 6)) ∧ Ext w w' := by
  have e0 := Ext.alloc w (.cells #[.int .i64 t, .slice A n cap] 24)
  have e1 := e0.trans ((Ext.alloc _ (.cells #[.int .i64 0] 3)).trans (Ext.alloc _ (.cells #[.int .i64 ((n : Int) - 1)] 3)))
  have HC := Lib.hid (containsFunc_out v 0 ((n : Int) - 1) ⟨w.heap.size + 1, 0, none⟩ ⟨w.heap.size + 1 + 1, 0, none⟩ xs _ (hx.ext e1) (by go_simp) (by go_simp))
  clear hx
  generalize xs.any (outB 0 ((n : Int) - 1)) = c at HC ⊢
  go_enter Try.func97, Try.ntmps97
  go_wp2_with (first
    | (go_at_call 126; refine (outside_any _ _ _).mono ?_; rintro e w' ⟨rfl, rfl⟩)
    | (go_at_call 125; refine HC.out.mono ?_; rintro e w' ⟨rfl, rfl⟩)
    | (go_at_call 85; refine (errorIf_any _ _ _).mono ?_; rintro e w' ⟨rfl, rfl⟩))
  go_ret
  exact ⟨rfl, e1⟩

def freqE (t : Int) (l : List Sh) (m : Nat) (pc dep : Int) : Int := firstE [(checkL t l).2, errIf ((m : Int) != (l.length : Int)) 10, rangeE 1 100 [pc], rangeE 1 (l.length : Int) [dep]]

/-- Too deep at every frequency below f. -/
def Deep (hot : List Bool) (l : List Sh) (pc dep : Int) (f : Nat) : Prop := ∀ g : Nat, 1 ≤ g → g < f → ∃ d : Nat, IsDepth (powers g hot l) pc d ∧ dep < d

def FreqIs (t : Int) (l : List Sh) (hot : List Bool) (m : Nat) (pc dep f er : Int) : Prop :=
  (freqE t l m pc dep ≠ 0 ∧ f = 0 ∧ er = freqE t l m pc dep) ∨
  (freqE t l m pc dep = 0 ∧ er = 0 ∧ ∃ k : Nat, f = k ∧ 1 ≤ k ∧ k ≤ 8 ∧ Deep hot l pc dep k ∧ ∃ d : Nat, IsDepth (powers f hot l) pc d ∧ (d : Int) ≤ dep) ∨
  (freqE t l m pc dep = 0 ∧ er = 12 ∧ f = 0 ∧ Deep hot l pc dep 9)

set_option maxRecDepth 100000 in
set_option maxHeartbeats 2000000 in
theorem frequencyFor_any (t : Int) (A : Option Addr) (n cap : Nat) (l : List Sh) (hn : l.length = n) (B : Option Addr) (m cap' : Nat) (hot : List Bool) (hm : hot.length = m) (pc dep : Int) (w : World)
    (hS : LadAt w A l) (hH : RowsAt 1 boolEnc w B hot) :
    Calls Try.prog 59 #[.agg #[.int .i64 t, .slice A n cap], .slice B m cap', .agg #[.int .i64 pc, .int .i64 dep]] w fun e w' => Ext w w' ∧ ∃ f er, e = .returned (.tuple #[.int .i64 f, .int .i64 er]) ∧ FreqIs t l hot m pc dep f er := by
  have HC := Lib.hid (fun W h => ladderError_any t A n cap l hn W h)
  have e0 : Ext w ((w.alloc (.cells #[.int .i64 t, .slice A n cap] 24)).alloc (.cells #[.int .i64 pc, .int .i64 dep] 98)) := (Ext.alloc _ _).trans (Ext.alloc _ _)
  have HE := Lib.hid (show freqE t l m pc dep = firstE [(checkL t l).2, errIf ((m : Int) != (n : Int)) 10, rangeE 1 100 [pc], rangeE 1 (n : Int) [dep]] by unfold freqE; rw [hn])
  have HLA := Lib.hid hS
  have HS := Lib.hid hS.1
  have HH := Lib.hid hH
  have HN := Lib.hid hn
  have HM := Lib.hid hm
  clear hn hS hm hH
  obtain ⟨q, hq⟩ : ∃ q, q = (checkL t l).2 := ⟨_, rfl⟩
  rw [← hq] at HC HE
  have HQ := Lib.hid hq
  clear hq
  go_enter Try.func59, Try.ntmps59
  go_wp2
  refine wp_region_each [some 11, some 12, some 13, some 14, some 15, some 16, some 17, some 18, some 19, some 20, some 21, some 22, some 23, some 24, some 25, some 26, some 27, some 28, some 29, some 30, some 31, some 8] [[3], [11], [1], [13], [3], [15], [16], [14, 17], [18], [5], [20], [21], [3], [23], [24], [5], [26], [27], [25, 28], [12, 19, 22, 29], [30], [31]]
    [Is (.agg #[.int .i64 (t), .slice A n cap]), Is (.int .i64 (q)), Is (.slice B m cap'), Is (.int .i64 ((m : Int))), Is (.pointer (some ⟨w.heap.size, 1, none⟩)), Is (.slice A n cap), Is (.int .i64 ((n : Int))), Is (.bool ((m : Int) != (n : Int))), Is (.int .i64 (errIf ((m : Int) != (n : Int)) 10)), Is (.pointer (some ⟨w.heap.size + 1, 0, none⟩)), Is (.int .i64 (pc)), Is (.int .i64 (rangeE 1 100 [pc])), Is (.pointer (some ⟨w.heap.size, 1, none⟩)), Is (.slice A n cap), Is (.int .i64 ((n : Int))), Is (.pointer (some ⟨w.heap.size + 1, 1, none⟩)), Is (.int .i64 (dep)), Ints [dep], Is (.int .i64 (rangeE 1 (n : Int) [dep])), Ints [q, errIf ((m : Int) != (n : Int)) 10, rangeE 1 100 [pc], rangeE 1 (n : Int) [dep]], Is (.int .i64 (firstE [q, errIf ((m : Int) != (n : Int)) 10, rangeE 1 100 [pc], rangeE 1 (n : Int) [dep]])), Is (.int .i64 (firstE [q, errIf ((m : Int) != (n : Int)) 10, rangeE 1 100 [pc], rangeE 1 (n : Int) [dep]]))]
    (by kernel_rfl) (by kernel_rfl) (by kernel_rfl) (by kernel_rfl) (by kernel_rfl) Ext (fun W => Ext ((w.alloc (.cells #[.int .i64 t, .slice A n cap] 24)).alloc (.cells #[.int .i64 pc, .int .i64 dep] 98)) W)
    (fun W _ => Ext.refl W) (fun W W' h k => h.trans k) ?_ (Ext.drew _) ?_ ?_
  · repeat (refine ⟨fun _ _ _ _ k h => (by first | exact h | exact IntsAt.ext h k), ?_⟩)
    exact trivial
  · refine ⟨?_, ?_, ?_, ?_, ?_, ?_, ?_, ?_, ?_, ?_, ?_, ?_, ?_, ?_, ?_, ?_, ?_, ?_, ?_, ?_, ?_, ?_, trivial⟩
    all_goals intro ρ W ⟨kc, kg, kf⟩ hF hs
    · obtain ⟨h0, -⟩ := hs
      replace h0 : ρ (.tmp 3) = .pointer (some ⟨w.heap.size, 0, none⟩) := h0
      have hc0 : W.cell? ⟨w.heap.size, 0, none⟩ = some (.int .i64 (t)) := hF.cell (by go_simp)
      have hc1 : W.cell? ⟨w.heap.size, 1, none⟩ = some (.slice A n cap) := hF.cell (by go_simp)
      go_simp
      exact ⟨Ext.refl _, rfl⟩
    · obtain ⟨h0, -⟩ := hs
      replace h0 : ρ (.tmp 11) = .agg #[.int .i64 (t), .slice A n cap] := h0
      go_simp
      refine (HC.out W (HS.out.ext (e0.trans hF))).mono ?_; rintro e w' ⟨rfl, hx⟩; exact ⟨_, rfl, hx, rfl⟩
    · obtain ⟨h0, -⟩ := hs
      replace h0 : ρ (.tmp 1) = .slice B m cap' := h0
      go_simp
      exact ⟨Ext.refl _, rfl⟩
    · obtain ⟨h0, -⟩ := hs
      replace h0 : ρ (.tmp 13) = .slice B m cap' := h0
      go_simp
      exact ⟨Ext.refl _, rfl⟩
    · obtain ⟨h0, -⟩ := hs
      replace h0 : ρ (.tmp 3) = .pointer (some ⟨w.heap.size, 0, none⟩) := h0
      go_simp
      exact ⟨Ext.refl _, rfl⟩
    · obtain ⟨h0, -⟩ := hs
      replace h0 : ρ (.tmp 15) = .pointer (some ⟨w.heap.size, 1, none⟩) := h0
      have hc0 : W.cell? ⟨w.heap.size, 1, none⟩ = some (.slice A n cap) := hF.cell (by go_simp)
      go_simp
      exact ⟨Ext.refl _, rfl⟩
    · obtain ⟨h0, -⟩ := hs
      replace h0 : ρ (.tmp 16) = .slice A n cap := h0
      go_simp
      exact ⟨Ext.refl _, rfl⟩
    · obtain ⟨h0, h1, -⟩ := hs
      replace h0 : ρ (.tmp 14) = .int .i64 ((m : Int)) := h0
      replace h1 : ρ (.tmp 17) = .int .i64 ((n : Int)) := h1
      go_simp
      exact ⟨Ext.refl _, rfl⟩
    · obtain ⟨h0, -⟩ := hs
      replace h0 : ρ (.tmp 18) = .bool ((m : Int) != (n : Int)) := h0
      go_simp
      refine (errorIf_any _ _ _).mono ?_; rintro e w' ⟨rfl, rfl⟩; exact ⟨_, rfl, Ext.refl _, rfl⟩
    · obtain ⟨h0, -⟩ := hs
      replace h0 : ρ (.tmp 5) = .pointer (some ⟨w.heap.size + 1, 0, none⟩) := h0
      go_simp
      exact ⟨Ext.refl _, rfl⟩
    · obtain ⟨h0, -⟩ := hs
      replace h0 : ρ (.tmp 20) = .pointer (some ⟨w.heap.size + 1, 0, none⟩) := h0
      have hc0 : W.cell? ⟨w.heap.size + 1, 0, none⟩ = some (.int .i64 (pc)) := hF.cell (by go_simp)
      go_simp
      exact ⟨Ext.refl _, rfl⟩
    · obtain ⟨h0, -⟩ := hs
      replace h0 : ρ (.tmp 21) = .int .i64 (pc) := h0
      go_simp
      refine (percentError_any pc _).mono ?_; rintro e w' ⟨rfl, hx⟩; exact ⟨_, rfl, hx, rfl⟩
    · obtain ⟨h0, -⟩ := hs
      replace h0 : ρ (.tmp 3) = .pointer (some ⟨w.heap.size, 0, none⟩) := h0
      go_simp
      exact ⟨Ext.refl _, rfl⟩
    · obtain ⟨h0, -⟩ := hs
      replace h0 : ρ (.tmp 23) = .pointer (some ⟨w.heap.size, 1, none⟩) := h0
      have hc0 : W.cell? ⟨w.heap.size, 1, none⟩ = some (.slice A n cap) := hF.cell (by go_simp)
      go_simp
      exact ⟨Ext.refl _, rfl⟩
    · obtain ⟨h0, -⟩ := hs
      replace h0 : ρ (.tmp 24) = .slice A n cap := h0
      go_simp
      exact ⟨Ext.refl _, rfl⟩
    · obtain ⟨h0, -⟩ := hs
      replace h0 : ρ (.tmp 5) = .pointer (some ⟨w.heap.size + 1, 0, none⟩) := h0
      go_simp
      exact ⟨Ext.refl _, rfl⟩
    · obtain ⟨h0, -⟩ := hs
      replace h0 : ρ (.tmp 26) = .pointer (some ⟨w.heap.size + 1, 1, none⟩) := h0
      have hc0 : W.cell? ⟨w.heap.size + 1, 1, none⟩ = some (.int .i64 (dep)) := hF.cell (by go_simp)
      go_simp
      exact ⟨Ext.refl _, rfl⟩
    · obtain ⟨h0, -⟩ := hs
      replace h0 : ρ (.tmp 27) = .int .i64 (dep) := h0
      go_simp
      exact ⟨Ext.alloc _ _, ints_new _ [dep] _ (by simp)⟩
    · obtain ⟨h0, h1, -⟩ := hs
      replace h0 : ρ (.tmp 25) = .int .i64 ((n : Int)) := h0
      replace h1 : (Ints [dep]) (ρ (.tmp 28)) W := h1
      go_simp
      refine (rangeError_any 1 ((n : Int)) _ _ _ h1).mono ?_; rintro e w' ⟨rfl, hx⟩; exact ⟨_, rfl, hx, rfl⟩
    · obtain ⟨h0, h1, h2, h3, -⟩ := hs
      replace h0 : ρ (.tmp 12) = .int .i64 (q) := h0
      replace h1 : ρ (.tmp 19) = .int .i64 (errIf ((m : Int) != (n : Int)) 10) := h1
      replace h2 : ρ (.tmp 22) = .int .i64 (rangeE 1 100 [pc]) := h2
      replace h3 : ρ (.tmp 29) = .int .i64 (rangeE 1 (n : Int) [dep]) := h3
      go_simp
      exact ⟨Ext.alloc _ _, ints_new _ [q, errIf ((m : Int) != (n : Int)) 10, rangeE 1 100 [pc], rangeE 1 (n : Int) [dep]] _ (by simp)⟩
    · obtain ⟨h0, -⟩ := hs
      replace h0 : (Ints [q, errIf ((m : Int) != (n : Int)) 10, rangeE 1 100 [pc], rangeE 1 (n : Int) [dep]]) (ρ (.tmp 30)) W := h0
      go_simp
      refine (firstOf_any _ _ _ h0).mono ?_; rintro e w' ⟨rfl, rfl⟩; exact ⟨_, rfl, Ext.refl _, rfl⟩
    · obtain ⟨h0, -⟩ := hs
      replace h0 : ρ (.tmp 31) = .int .i64 (firstE [q, errIf ((m : Int) != (n : Int)) 10, rangeE 1 100 [pc], rangeE 1 (n : Int) [dep]]) := h0
      go_simp
      exact ⟨Ext.refl _, rfl⟩
  · intro fv W hF hs
    obtain ⟨-, -, -, -, -, -, -, -, -, -, -, -, -, -, -, -, -, -, -, -, -, h8, -⟩ := hs
    replace h8 : fv 8 = .int .i64 (firstE [q, errIf ((m : Int) != (n : Int)) 10, rangeE 1 100 [pc], rangeE 1 (n : Int) [dep]]) := h8
    simp only [fin, List.filterMap]
    go_simp
    rw [← HE.out]
    have e1 := e0.trans hF
    have z0 : W.cell? ⟨w.heap.size, 0, none⟩ = some (.int .i64 t) := hF.cell (by go_simp)
    have z1 : W.cell? ⟨w.heap.size, 1, none⟩ = some (.slice A n cap) := hF.cell (by go_simp)
    have z2 : W.cell? ⟨w.heap.size + 1, 0, none⟩ = some (.int .i64 pc) := hF.cell (by go_simp)
    have z3 : W.cell? ⟨w.heap.size + 1, 1, none⟩ = some (.int .i64 dep) := hF.cell (by go_simp)
    clear h8 hF
    by_cases hr : freqE t l m pc dep = 0
    · have hz := (firstE_zero _).1 (HE.out.symm.trans hr)
      have hz1 : q = 0 := hz _ (by simp)
      have hz2 : errIf ((m : Int) != (n : Int)) 10 = 0 := hz _ (by simp)
      have hz3 : rangeE 1 100 [pc] = 0 := hz _ (by simp)
      obtain rfl : n = m := by
        have := (errIf_zero (by decide)).1 hz2
        simp at this; omega
      obtain ⟨_, ⟨h1, h4⟩, hok⟩ := (checkL_zero t l).1 (HQ.out.symm.trans hz1)
      have hpc := (rangeE_zero 1 100 [pc]).1 hz3 pc (by simp)
      rw [HN.out] at h1 h4
      have HP := Lib.hid (fun W (e : Ext w W) f hf => powersOf_any t A n cap l HN.out f B cap' hot HM.out W (HS.out.ext e) (HH.out.ext e) hok hf h1 h4)
      have HIT := Lib.hid (fun W (e : Ext w W) f hf v => powers_at_w (cap := cap) HN.out (hot := hot) (f := f) hok hf h1 h4 (HLA.out.ext e) (v := v))
      have HOK := Lib.hid (fun f hf => powers_ok (hot := hot) (f := f) hok hf (by rw [HN.out]; exact h1) (by rw [HN.out]; exact h4))
      have HPC := Lib.hid hpc
      have HPL := Lib.hid (fun f => powers_len f hot l)
      have hn4 : n ≤ 1000 := by omega
      have HR := Lib.hid hr
      have hr' : (freqE t l n pc dep != 0) = false := by simp [hr]
      clear hz hz1 hz2 hz3 hpc h1 h4 hok hr HE
      obtain ⟨r, hrr⟩ : ∃ r, r = freqE t l n pc dep := ⟨_, rfl⟩
      rw [← hrr] at hr' ⊢
      have HRR := Lib.hid hrr
      clear hrr
      go_wp2
      go_loopw [9] (fun i wr => ∃ k : Nat, 1 ≤ k ∧ k ≤ 9 ∧ i = .int .i64 k ∧ Deep hot l pc dep k ∧ Ext W wr) (fun i _ => 9 - (intOf i).toNat)
      case atStart => exact ⟨1, Nat.le_refl _, by decide, rfl, fun g h1 h2 => by omega, Ext.refl _⟩
      case round =>
        obtain ⟨k, hk1, hk9, rfl, hdp, hx⟩ := hrel
        have HDP := Lib.hid hdp
        clear hdp
        by_cases hk8 : k ≤ 8
        · have hk18 : 1 ≤ (k : Int) ∧ (k : Int) ≤ 8 := by omega
          have hk8' : (k : Int) ≤ 8 := by omega
          have x0 := (Ext.alloc wr (.cells #[.int .i64 (k : Int), .slice B n cap'] 27)).cell (hx.cell z0)
          have x1 := (Ext.alloc wr (.cells #[.int .i64 (k : Int), .slice B n cap'] 27)).cell (hx.cell z1)
          have x2 := (Ext.alloc wr (.cells #[.int .i64 (k : Int), .slice B n cap'] 27)).cell (hx.cell z2)
          have x3 := (Ext.alloc wr (.cells #[.int .i64 (k : Int), .slice B n cap'] 27)).cell (hx.cell z3)
          have b10 := Blk.newAt wr 27 #[.int .i64 (k : Int), .slice B n cap'] (g := wr.heap.size) rfl
          have x4 : (wr.alloc (.cells #[.int .i64 (k : Int), .slice B n cap'] 27)).cell? ⟨wr.heap.size, 0, none⟩ = some (.int .i64 (k : Int)) := b10.cell 0
          have x5 : (wr.alloc (.cells #[.int .i64 (k : Int), .slice B n cap'] 27)).cell? ⟨wr.heap.size, 1, none⟩ = some (.slice B n cap') := b10.cell 1
          have ew := e1.trans (hx.trans (Ext.alloc wr (.cells #[.int .i64 (k : Int), .slice B n cap'] 27)))
          have HXW := Lib.hid (hx.trans (Ext.alloc wr (.cells #[.int .i64 (k : Int), .slice B n cap'] 27)))
          clear b10
          go_wp2
          generalize wr.alloc (.cells #[.int .i64 (k : Int), .slice B n cap'] 27) = W2 at *
          refine wp_region_each [some 42, some 43, some 44, some 45, some 46, some 47, some 48, some 49, some 50] [[3], [10], [42, 43], [5], [45], [44, 46], [5], [48], [47, 49]]
            [Is (.agg #[.int .i64 (t), .slice A n cap]), Is (.agg #[.int .i64 ((k : Int)), .slice B n cap']), Nd (fun g c => .func (.func 130) #[.agg #[.slice A n cap, .slice (some ⟨g, 2, none⟩) n c]] #[]) 0 2 (nodes (k : Int) hot l), Is (.pointer (some ⟨w.heap.size + 1, 0, none⟩)), Is (.int .i64 (pc)), fun u _ => ∃ d : Nat, u = .int .i64 (d : Int) ∧ IsDepth (powers (k : Int) hot l) pc d, Is (.pointer (some ⟨w.heap.size + 1, 1, none⟩)), Is (.int .i64 (dep)), fun u _ => ∃ d : Nat, u = .bool (decide ((d : Int) ≤ dep)) ∧ IsDepth (powers (k : Int) hot l) pc d]
            (by kernel_rfl) (by kernel_rfl) (by kernel_rfl) (by kernel_rfl) (by kernel_rfl) Ext (fun W => Ext W2 W)
            (fun W _ => Ext.refl W) (fun W W' h k => h.trans k) ?_ (Ext.drew _) ?_ ?_
          · repeat (refine ⟨fun _ _ _ _ k h => (by first | exact h | exact Nd.ext h k), ?_⟩)
            exact trivial
          · refine ⟨?_, ?_, ?_, ?_, ?_, ?_, ?_, ?_, ?_, trivial⟩
            all_goals intro ρ W ⟨kc, kg, kf⟩ hF hs
            · obtain ⟨h0, -⟩ := hs
              replace h0 : ρ (.tmp 3) = .pointer (some ⟨w.heap.size, 0, none⟩) := h0
              have hc0 : W.cell? ⟨w.heap.size, 0, none⟩ = some (.int .i64 (t)) := hF.cell (by assumption)
              have hc1 : W.cell? ⟨w.heap.size, 1, none⟩ = some (.slice A n cap) := hF.cell (by assumption)
              go_simp
              exact ⟨Ext.refl _, rfl⟩
            · obtain ⟨h0, -⟩ := hs
              replace h0 : ρ (.tmp 10) = .pointer (some ⟨wr.heap.size, 0, none⟩) := h0
              have hc0 : W.cell? ⟨wr.heap.size, 0, none⟩ = some (.int .i64 ((k : Int))) := hF.cell (by assumption)
              have hc1 : W.cell? ⟨wr.heap.size, 1, none⟩ = some (.slice B n cap') := hF.cell (by assumption)
              go_simp
              exact ⟨Ext.refl _, rfl⟩
            · obtain ⟨h0, h1, -⟩ := hs
              replace h0 : ρ (.tmp 42) = .agg #[.int .i64 (t), .slice A n cap] := h0
              replace h1 : ρ (.tmp 43) = .agg #[.int .i64 ((k : Int)), .slice B n cap'] := h1
              go_simp
              refine (HP.out W (ew.trans hF) (k : Int) hk18).mono ?_
              rintro e w' ⟨v, rfl, hv, hx⟩
              exact ⟨_, rfl, hx, hv⟩
            · obtain ⟨h0, -⟩ := hs
              replace h0 : ρ (.tmp 5) = .pointer (some ⟨w.heap.size + 1, 0, none⟩) := h0
              go_simp
              exact ⟨Ext.refl _, rfl⟩
            · obtain ⟨h0, -⟩ := hs
              replace h0 : ρ (.tmp 45) = .pointer (some ⟨w.heap.size + 1, 0, none⟩) := h0
              have hc0 : W.cell? ⟨w.heap.size + 1, 0, none⟩ = some (.int .i64 (pc)) := hF.cell (by assumption)
              go_simp
              exact ⟨Ext.refl _, rfl⟩
            · obtain ⟨h0, h1, -⟩ := hs
              replace h0 : (Nd (fun g c => .func (.func 130) #[.agg #[.slice A n cap, .slice (some ⟨g, 2, none⟩) n c]] #[]) 0 2 (nodes (k : Int) hot l)) (ρ (.tmp 44)) W := h0
              replace h1 : ρ (.tmp 46) = .int .i64 (pc) := h1
              obtain ⟨first, e, hit⟩ := HIT.out W (ew.trans hF) (k : Int) hk18 _ h0
              have hok := HOK.out (k : Int) hk18
              clear h0
              go_simp
              refine (callsIn_wide.1 (depthOf_in 130 first #[] eg130 (powers (k : Int) hot l) n (by rw [HPL.out, HN.out]) hn4 pc _ hit HPC.out hok.sum hok.part)).mono ?_
              rintro e w' ⟨d, rfl, hd, hx⟩
              exact ⟨_, rfl, hx, d, rfl, hd⟩
            · obtain ⟨h0, -⟩ := hs
              replace h0 : ρ (.tmp 5) = .pointer (some ⟨w.heap.size + 1, 0, none⟩) := h0
              go_simp
              exact ⟨Ext.refl _, rfl⟩
            · obtain ⟨h0, -⟩ := hs
              replace h0 : ρ (.tmp 48) = .pointer (some ⟨w.heap.size + 1, 1, none⟩) := h0
              have hc0 : W.cell? ⟨w.heap.size + 1, 1, none⟩ = some (.int .i64 (dep)) := hF.cell (by assumption)
              go_simp
              exact ⟨Ext.refl _, rfl⟩
            · obtain ⟨h0, h1, -⟩ := hs
              replace h0 : (fun u _ => ∃ d : Nat, u = .int .i64 (d : Int) ∧ IsDepth (powers (k : Int) hot l) pc d) (ρ (.tmp 47)) W := h0
              replace h1 : ρ (.tmp 49) = .int .i64 (dep) := h1
              obtain ⟨d, e, hd⟩ := h0
              go_simp
              exact ⟨Ext.refl _, d, Iff.rfl, hd⟩
          · intro fv W hF hs
            obtain ⟨-, -, -, -, -, -, -, -, h50, -⟩ := hs
            replace h50 : (fun u _ => ∃ d : Nat, u = .bool (decide ((d : Int) ≤ dep)) ∧ IsDepth (powers (k : Int) hot l) pc d) (fv 50) W := h50
            simp only [fin, List.filterMap]
            go_simp
            obtain ⟨d, e50, hd⟩ := h50
            have e50' : fv 50 = .bool (decide ((d : Int) ≤ dep)) := e50
            have HD := Lib.hid hd
            clear hd e50
            by_cases hdd : (d : Int) ≤ dep
            · have e51 : fv 50 = .bool true := by rw [e50', decide_eq_true hdd]
              clear e50'
              rw [e51]
              go_wp2
              go_ret2
              exact ⟨e1.trans (HXW.out.trans hF), _, _, rfl, .inr (.inl ⟨HR.out, rfl, k, rfl, hk1, hk8, HDP.out, d, HD.out, hdd⟩)⟩
            · have e51 : fv 50 = .bool false := by rw [e50', decide_eq_false hdd]
              clear e50'
              rw [e51]
              go_wp2
              go_roundw
              case rel => exact ⟨k + 1, by omega, by omega, by go_num, fun g h1 h2 => by
                by_cases hg : g = k
                · subst hg; exact ⟨d, HD.out, by omega⟩
                · exact HDP.out g h1 (by omega), HXW.out.trans hF⟩
              case measure => simp [intOf]; omega
        · obtain rfl : k = 9 := by omega
          go_wp2
          go_ret2
          exact ⟨e1.trans hx, _, _, rfl, .inr (.inr ⟨HR.out, rfl, rfl, HDP.out⟩)⟩
    · have HR := Lib.hid hr
      have hr' : (freqE t l m pc dep != 0) = true := by simp [hr]
      clear hr HE
      obtain ⟨r, hrr⟩ : ∃ r, r = freqE t l m pc dep := ⟨_, rfl⟩
      rw [← hrr] at hr' ⊢
      have HRR := Lib.hid hrr
      clear hrr
      go_wp2
      go_ret2
      exact ⟨e1, _, _, rfl, .inl ⟨HR.out, rfl, HRR.out⟩⟩

end Go.Proofs.Ytpaoeghdfeekoaa

/- The voltage of a node, from the ground outwards. By regen.py. -/
namespace Go.Proofs.Ytpaoeghdfeekoaa
open Go.RowKit Go.Mem Go.RegInv
attribute [local go_sem] RelUpon_value RelUpon_skip RelUpon_enter BigFrame.eval_const BigFrame.eval_global BigFrame.eval_func

def gstep (f : Int) (hot : List Bool) (z : G × G) (k : Nat) (s : Sh) : G × G :=
  (befG z.1 (react f (hot.getD k false) s) z.2, plusG z.2 s.g (befG z.1 (react f (hot.getD k false) s) z.2))
def gfold (f : Int) (hot : List Bool) (ls : List Sh) : Nat → G × G
  | 0 => (⟨0, 0⟩, ⟨1, 0⟩)
  | k + 1 => match ls[k]? with
    | some s => gstep f hot (gfold f hot ls k) k s
    | none => gfold f hot ls k
def grounded (f : Int) (hot : List Bool) (ls : List Sh) (node : Nat) : G := (gfold f hot ls (node + 1)).1
def gbv : Nat → Int × Int
  | 0 => (0, 1)
  | n + 1 => ((gbv n).1 + 32 * (gbv n).2, (gbv n).2 + 4 * ((gbv n).1 + 32 * (gbv n).2))
theorem gfold_bd {f : Int} {hot : List Bool} {ls : List Sh} (hok : ∀ s ∈ ls, shOK s) (hf : 1 ≤ f ∧ f ≤ 8) : ∀ k, k ≤ ls.length → Bd (gbv k).1 (gfold f hot ls k).1 ∧ Bd (gbv k).2 (gfold f hot ls k).2
  | 0, _ => by simp [gfold, gbv, Bd]
  | k + 1, h => by
    obtain ⟨h1, h2⟩ := gfold_bd hok hf k (by omega)
    have hs : ls[k]? = some ls[k] := List.getElem?_eq_getElem (by omega)
    have hx := hok _ (List.mem_of_getElem? hs)
    have hr := react_bd (h := hot.getD k false) hf hx
    have hb := bef_bd (n := react f (hot.getD k false) ls[k]) h1 h2 (by omega) hr.2
    simp only [gfold, hs, gstep, gbv]
    exact ⟨hb, plus_bd h2 hb (by have := hx.1; omega) hx.1.2⟩
theorem gbv_le : ∀ k, k ≤ 4 → (gbv k).1 ≤ 300000000 ∧ (gbv k).2 ≤ 300000000
  | 0, _ => by decide
  | 1, _ => by decide
  | 2, _ => by decide
  | 3, _ => by decide
  | 4, _ => by decide
  | k + 5, h => by omega
theorem gfold_small {f : Int} {hot : List Bool} {ls : List Sh} (hok : ∀ s ∈ ls, shOK s) (hf : 1 ≤ f ∧ f ≤ 8) (h4 : ls.length ≤ 4) (k : Nat) (hk : k ≤ ls.length) : Bd 300000000 (gfold f hot ls k).1 ∧ Bd 300000000 (gfold f hot ls k).2 := by
  have h1 := gfold_bd (hot := hot) hok hf k hk
  have h2 := gbv_le k (by omega)
  simp only [Bd] at h1 ⊢
  omega

structure StG (w : World) (t : Int) (A : Value) (f : Int) (B : Value) (v c : G) (W : World) : Prop where
  b0 : Blk W w.heap.size 24 #[.int .i64 t, A]
  b1 : Blk W (w.heap.size + 1) 27 #[.int .i64 f, B]
  b2 : Blk W (w.heap.size + 1 + 1) 65 #[.int .i64 0, .int .i64 0]
  b3 : Blk W (w.heap.size + 1 + 1 + 1) 65 #[.int .i64 v.re, .int .i64 v.im]
  b4 : Blk W (w.heap.size + 1 + 1 + 1 + 1) 65 #[.int .i64 c.re, .int .i64 c.im]
  below : Ext w W
theorem StG.ext {w : World} {t : Int} {A : Value} {f : Int} {B : Value} {v c : G} {W W' : World} (h : StG w t A f B v c W) (e : Ext W W') : StG w t A f B v c W' :=
  ⟨h.b0.ext e, h.b1.ext e, h.b2.ext e, h.b3.ext e, h.b4.ext e, h.below.trans e⟩
theorem StG.setV {w : World} {t : Int} {A : Value} {f : Int} {B : Value} {v c : G} {W : World} (h : StG w t A f B v c W) (re im : Int) :
    StG w t A f B ⟨re, im⟩ c ((W.setCell ⟨w.heap.size + 1 + 1 + 1, 0, none⟩ (.int .i64 re)).setCell ⟨w.heap.size + 1 + 1 + 1, 1, none⟩ (.int .i64 im)) := by
  refine ⟨(h.b0.setOther (by dsimp only; omega) _).setOther (by dsimp only; omega) _, (h.b1.setOther (by dsimp only; omega) _).setOther (by dsimp only; omega) _, (h.b2.setOther (by dsimp only; omega) _).setOther (by dsimp only; omega) _, ?_, (h.b4.setOther (by dsimp only; omega) _).setOther (by dsimp only; omega) _, Ext.set (Ext.set h.below (by dsimp only; omega) _) (by dsimp only; omega) _⟩
  have := (h.b3.setSame 0 (.int .i64 re)).setSame 1 (.int .i64 im)
  simpa using this
theorem StG.setC {w : World} {t : Int} {A : Value} {f : Int} {B : Value} {v c : G} {W : World} (h : StG w t A f B v c W) (re im : Int) :
    StG w t A f B v ⟨re, im⟩ ((W.setCell ⟨w.heap.size + 1 + 1 + 1 + 1, 0, none⟩ (.int .i64 re)).setCell ⟨w.heap.size + 1 + 1 + 1 + 1, 1, none⟩ (.int .i64 im)) := by
  refine ⟨(h.b0.setOther (by dsimp only; omega) _).setOther (by dsimp only; omega) _, (h.b1.setOther (by dsimp only; omega) _).setOther (by dsimp only; omega) _, (h.b2.setOther (by dsimp only; omega) _).setOther (by dsimp only; omega) _, (h.b3.setOther (by dsimp only; omega) _).setOther (by dsimp only; omega) _, ?_, Ext.set (Ext.set h.below (by dsimp only; omega) _) (by dsimp only; omega) _⟩
  have := (h.b4.setSame 0 (.int .i64 re)).setSame 1 (.int .i64 im)
  simpa using this

set_option maxRecDepth 100000 in
set_option maxHeartbeats 2000000 in
theorem groundedAt_any (t : Int) (b o n cap : Nat) (ls : List Sh) (hn : ls.length = n) (f : Int) (B : Option Addr) (cap' : Nat) (hot : List Bool) (hm : hot.length = n) (node : Nat) (w : World)
    (hS : RowsAt 3 Sh.enc w (some ⟨b, o, none⟩) ls) (hH : RowsAt 1 boolEnc w B hot) (hok : ∀ s ∈ ls, shOK s) (hf : 1 ≤ f ∧ f ≤ 8) (h4 : n ≤ 4) (hnode : node < n) :
    Calls Try.prog 111 #[.agg #[.int .i64 t, .slice (some ⟨b, o, none⟩) n cap], .agg #[.int .i64 f, .slice B n cap'], .int .i64 node] w fun e w' =>
      e = .returned (.agg #[.int .i64 (grounded f hot ls node).re, .int .i64 (grounded f hot ls node).im]) ∧ Ext w w' := by
  have HS := Lib.hid hS
  have HH := Lib.hid hH
  have HM := Lib.hid hn
  have HM' := Lib.hid hm
  have HOK := Lib.hid hok
  have HF := Lib.hid hf
  have HBD := Lib.hid (fun k hk => gfold_small (hot := hot) hok hf (by omega) k hk)
  have HG := Lib.hid (show grounded f hot ls node = (gfold f hot ls (node + 1)).1 from rfl)
  clear hS hH hn hm hok hf
  generalize grounded f hot ls node = gr at HG ⊢
  go_enter Try.func111, Try.ntmps111
  go_wp2
  go_loopw [14] (fun i wr => ∃ k : Nat, k ≤ node + 1 ∧ i = .int .i64 k ∧ StG w t (.slice (some ⟨b, o, none⟩) n cap) f (.slice B n cap') (gfold f hot ls k).1 (gfold f hot ls k).2 wr) (fun i _ => node + 1 - (intOf i).toNat)
  case atStart =>
    refine ⟨0, Nat.zero_le _, rfl, ?_, ?_, ?_, ?_, ?_, ?_⟩
    · exact ((((Blk.newAt _ _ _ rfl).alloc _).alloc _).alloc _).alloc _
    · exact (((Blk.newAt _ _ _ (by simp)).alloc _).alloc _).alloc _
    · exact ((Blk.newAt _ _ _ (by simp)).alloc _).alloc _
    · exact (Blk.newAt _ _ _ (by simp)).alloc _
    · exact Blk.newAt _ _ _ (by simp)
    · exact (Ext.alloc _ _).trans ((Ext.alloc _ _).trans ((Ext.alloc _ _).trans ((Ext.alloc _ _).trans (Ext.alloc _ _))))
  case round =>
    obtain ⟨k, hk, rfl, hI⟩ := hrel
    by_cases hlt : k < node + 1
    · obtain ⟨s, hx⟩ : ∃ s, ls[k]? = some s := ⟨_, List.getElem?_eq_getElem (by rw [HM.out]; omega)⟩
      obtain ⟨hk0, hhk⟩ : ∃ hk0, hot[k]? = some hk0 := ⟨_, List.getElem?_eq_getElem (by rw [HM'.out]; omega)⟩
      have hgd : hot.getD k false = hk0 := by simp [hhk]
      have hsk := HOK.out s (List.mem_of_getElem? hx)
      have hrb := react_bd (h := hk0) HF.out hsk
      obtain ⟨hf1, hf2⟩ := HF.out
      have HRC := Lib.hid (fun W' (h : Ext w W') => reactanceOf_any t (some ⟨b, o, none⟩) n cap ls HM.out f B n cap' hot k s hk0 W' (HS.out.ext h) (HH.out.ext h) hx hhk HM'.out
        (mid_of (N := 8) (B := 4) (by omega) hf2 (by have := hsk.2.1; omega) (by have := hsk.2.1; omega) (by omega)) (mid_of (N := 8) (B := 4) (by omega) hf2 (by have := hsk.2.2.1; omega) (by have := hsk.2.2.1; omega) (by omega)))
      obtain ⟨hb1, hb2⟩ := HBD.out k (by rw [HM.out]; omega)
      have hb3 := (HBD.out (k + 1) (by rw [HM.out]; omega)).1
      have hgs : gfold f hot ls (k + 1) = (befG (gfold f hot ls k).1 (react f hk0 s) (gfold f hot ls k).2, plusG (gfold f hot ls k).2 s.g (befG (gfold f hot ls k).1 (react f hk0 s) (gfold f hot ls k).2)) := by
        rw [gfold, hx]; simp only [gstep, hgd]
      rw [hgs] at hb3
      have HGS := Lib.hid hgs
      clear hgs hgd hhk
      generalize react f hk0 s = x at HRC HGS hrb hb3
      generalize gfold f hot ls k = z at HGS hb1 hb2 hb3 hI
      obtain ⟨⟨va, vb⟩, ⟨ca, cb⟩⟩ := z
      simp only [Bd, befG] at hb1 hb2 hb3
      have hg := hsk.1
      have HB := Lib.hid (before_any va vb x ca cb (by unfold Mid; omega) (by unfold Mid; omega) (mid_of (N := 32) (B := 300000000) (by omega) hrb.2 (by omega) (by omega) (by omega)) (mid_of (N := 32) (B := 300000000) (by omega) hrb.2 (by omega) (by omega) (by omega)) (by unfold Mid; omega))
      have HP := Lib.hid (plus_any ca cb s.g (va + x * -cb) (vb + x * ca) (by unfold Mid; omega) (by unfold Mid; omega) (mid_of (N := 4) (B := 300000000) (by omega) hg.2 (by omega) (by omega) (by omega)) (mid_of (N := 4) (B := 300000000) (by omega) hg.2 (by omega) (by omega) (by omega)))
      have hkn : (k : Int) < (n : Int) := by omega
      have hkn1 : (k : Int) < (node : Int) + 1 := by omega
      have hnb := HS.out.1
      rw [HM.out] at hnb
      obtain ⟨b', o', e, _, hc⟩ := HS.out.2 k s hx
      obtain ⟨rfl, rfl⟩ : b = b' ∧ o = o' := by simpa using e
      have hcg : w.cell? ⟨b, o + k * 3, none⟩ = some (.int .i64 s.g) := hc 0 _ rfl
      clear hb1 hb2 hb3 hsk hg hf1 hf2 hrb hc e hx
      go_wp2
      refine wp_region_part 7 [some 17, some 18, some 19, some 20, some 21, some 22, some 23] [[7], [3], [4], [9], [18, 19, 20], [8], [17, 21, 22]]
        [Is (.agg #[.int .i64 (va), .int .i64 (vb)]), Is (.agg #[.int .i64 (t), .slice (some ⟨b, o, none⟩) n cap]), Is (.agg #[.int .i64 (f), .slice B n cap']), Is (.int .i64 ((k : Int))), Is (.int .i64 (x)), Is (.agg #[.int .i64 (ca), .int .i64 (cb)]), Is (.agg #[.int .i64 (va + x * -cb), .int .i64 (vb + x * ca)])]
        (by kernel_rfl) (by kernel_rfl) (by kernel_rfl) (by kernel_rfl) (by kernel_rfl) (by kernel_rfl) (by kernel_rfl) Ext (fun W => Ext wr W)
        (fun W _ => Ext.refl W) (fun W W' h k => h.trans k) ?_ (Ext.drew _) ?_ ?_
      · repeat (refine ⟨fun _ _ _ _ k h => (by first | exact h | exact IntsAt.ext h k), ?_⟩)
        exact trivial
      · refine ⟨?_, ?_, ?_, ?_, ?_, ?_, ?_, trivial⟩
        all_goals intro ρ W ⟨kc, kg, kf⟩ hF hs
        · obtain ⟨h0, -⟩ := hs
          replace h0 : ρ (.tmp 7) = .pointer (some ⟨w.heap.size + 1 + 1 + 1, 0, none⟩) := h0
          have hc0 : W.cell? ⟨w.heap.size + 1 + 1 + 1, 0, none⟩ = some (.int .i64 (va)) := (hI.ext hF).b3.cell 0
          have hc1 : W.cell? ⟨w.heap.size + 1 + 1 + 1, 1, none⟩ = some (.int .i64 (vb)) := (hI.ext hF).b3.cell 1
          go_simp
          exact ⟨Ext.refl _, rfl⟩
        · obtain ⟨h0, -⟩ := hs
          replace h0 : ρ (.tmp 3) = .pointer (some ⟨w.heap.size, 0, none⟩) := h0
          have hc0 : W.cell? ⟨w.heap.size, 0, none⟩ = some (.int .i64 (t)) := (hI.ext hF).b0.cell 0
          have hc1 : W.cell? ⟨w.heap.size, 1, none⟩ = some (.slice (some ⟨b, o, none⟩) n cap) := (hI.ext hF).b0.cell 1
          go_simp
          exact ⟨Ext.refl _, rfl⟩
        · obtain ⟨h0, -⟩ := hs
          replace h0 : ρ (.tmp 4) = .pointer (some ⟨w.heap.size + 1, 0, none⟩) := h0
          have hc0 : W.cell? ⟨w.heap.size + 1, 0, none⟩ = some (.int .i64 (f)) := (hI.ext hF).b1.cell 0
          have hc1 : W.cell? ⟨w.heap.size + 1, 1, none⟩ = some (.slice B n cap') := (hI.ext hF).b1.cell 1
          go_simp
          exact ⟨Ext.refl _, rfl⟩
        · obtain ⟨h0, -⟩ := hs
          replace h0 : ρ (.tmp 9) = .int .i64 ((k : Int)) := h0
          go_simp
          exact ⟨Ext.refl _, rfl⟩
        · obtain ⟨h0, h1, h2, -⟩ := hs
          replace h0 : ρ (.tmp 18) = .agg #[.int .i64 (t), .slice (some ⟨b, o, none⟩) n cap] := h0
          replace h1 : ρ (.tmp 19) = .agg #[.int .i64 (f), .slice B n cap'] := h1
          replace h2 : ρ (.tmp 20) = .int .i64 ((k : Int)) := h2
          go_simp
          refine (HRC.out W (hI.ext hF).below).mono ?_; rintro e w' ⟨rfl, hx⟩; exact ⟨_, rfl, hx, rfl⟩
        · obtain ⟨h0, -⟩ := hs
          replace h0 : ρ (.tmp 8) = .pointer (some ⟨w.heap.size + 1 + 1 + 1 + 1, 0, none⟩) := h0
          have hc0 : W.cell? ⟨w.heap.size + 1 + 1 + 1 + 1, 0, none⟩ = some (.int .i64 (ca)) := (hI.ext hF).b4.cell 0
          have hc1 : W.cell? ⟨w.heap.size + 1 + 1 + 1 + 1, 1, none⟩ = some (.int .i64 (cb)) := (hI.ext hF).b4.cell 1
          go_simp
          exact ⟨Ext.refl _, rfl⟩
        · obtain ⟨h0, h1, h2, -⟩ := hs
          replace h0 : ρ (.tmp 17) = .agg #[.int .i64 (va), .int .i64 (vb)] := h0
          replace h1 : ρ (.tmp 21) = .int .i64 (x) := h1
          replace h2 : ρ (.tmp 22) = .agg #[.int .i64 (ca), .int .i64 (cb)] := h2
          go_simp
          refine (HB.out W).mono ?_; rintro e w' ⟨rfl, hx⟩; exact ⟨_, rfl, hx, rfl⟩
      · intro fv W hF hs
        obtain ⟨-, -, -, -, -, -, h23, -⟩ := hs
        replace h23 : fv 23 = .agg #[.int .i64 (va + x * -cb), .int .i64 (vb + x * ca)] := h23
        simp only [fin, List.filterMap]
        go_simp
        have hI1 := hI.ext hF
        have d0 := hI1.b3.cell 0
        have d1 := hI1.b3.cell 1
        have g0 := hI1.b3.free 0
        have g1 := hI1.b3.free 1
        simp only [List.getElem?_toArray, List.getElem?_cons_zero, List.getElem?_cons_succ] at d0 d1
        have hI2 := hI1.setV (va + x * -cb) (vb + x * ca)
        have HI2 := Lib.hid hI2
        clear hI hI1 hF hI2
        go_wp2
        have hI2 := HI2.out
        generalize ((W.setCell ⟨w.heap.size + 1 + 1 + 1, 0, none⟩ (.int .i64 (va + x * -cb))).setCell ⟨w.heap.size + 1 + 1 + 1, 1, none⟩ (.int .i64 (vb + x * ca))) = W2 at hI2 ⊢
        clear HI2 d0 d1 g0 g1
        refine wp_region_part 9 [some 24, some 25, some 26, some 27, some 28, some 29, some 30, some 31, some 32] [[8], [3], [25], [9], [26, 27], [28], [29], [7], [24, 30, 31]]
          [Is (.agg #[.int .i64 (ca), .int .i64 (cb)]), Is (.pointer (some ⟨w.heap.size, 1, none⟩)), Is (.slice (some ⟨b, o, none⟩) n cap), Is (.int .i64 ((k : Int))), Is (.pointer (some ⟨b, o + k * 3, none⟩)), Is (.pointer (some ⟨b, o + k * 3, none⟩)), Is (.int .i64 (s.g)), Is (.agg #[.int .i64 (va + x * -cb), .int .i64 (vb + x * ca)]), Is (.agg #[.int .i64 (ca + s.g * (va + x * -cb)), .int .i64 (cb + s.g * (vb + x * ca))])]
          (by kernel_rfl) (by kernel_rfl) (by kernel_rfl) (by kernel_rfl) (by kernel_rfl) (by kernel_rfl) (by kernel_rfl) Ext (fun W => Ext W2 W)
          (fun W _ => Ext.refl W) (fun W W' h k => h.trans k) ?_ (Ext.drew _) ?_ ?_
        · repeat (refine ⟨fun _ _ _ _ k h => (by first | exact h | exact IntsAt.ext h k), ?_⟩)
          exact trivial
        · refine ⟨?_, ?_, ?_, ?_, ?_, ?_, ?_, ?_, ?_, trivial⟩
          all_goals intro ρ W ⟨kc, kg, kf⟩ hF hs
          · obtain ⟨h0, -⟩ := hs
            replace h0 : ρ (.tmp 8) = .pointer (some ⟨w.heap.size + 1 + 1 + 1 + 1, 0, none⟩) := h0
            have hc0 : W.cell? ⟨w.heap.size + 1 + 1 + 1 + 1, 0, none⟩ = some (.int .i64 (ca)) := (hI2.ext hF).b4.cell 0
            have hc1 : W.cell? ⟨w.heap.size + 1 + 1 + 1 + 1, 1, none⟩ = some (.int .i64 (cb)) := (hI2.ext hF).b4.cell 1
            go_simp
            exact ⟨Ext.refl _, rfl⟩
          · obtain ⟨h0, -⟩ := hs
            replace h0 : ρ (.tmp 3) = .pointer (some ⟨w.heap.size, 0, none⟩) := h0
            go_simp
            exact ⟨Ext.refl _, rfl⟩
          · obtain ⟨h0, -⟩ := hs
            replace h0 : ρ (.tmp 25) = .pointer (some ⟨w.heap.size, 1, none⟩) := h0
            have hc0 : W.cell? ⟨w.heap.size, 1, none⟩ = some (.slice (some ⟨b, o, none⟩) n cap) := (hI2.ext hF).b0.cell 1
            go_simp
            exact ⟨Ext.refl _, rfl⟩
          · obtain ⟨h0, -⟩ := hs
            replace h0 : ρ (.tmp 9) = .int .i64 ((k : Int)) := h0
            go_simp
            exact ⟨Ext.refl _, rfl⟩
          · obtain ⟨h0, h1, -⟩ := hs
            replace h0 : ρ (.tmp 26) = .slice (some ⟨b, o, none⟩) n cap := h0
            replace h1 : ρ (.tmp 27) = .int .i64 ((k : Int)) := h1
            go_simp
            exact ⟨Ext.refl _, rfl⟩
          · obtain ⟨h0, -⟩ := hs
            replace h0 : ρ (.tmp 28) = .pointer (some ⟨b, o + k * 3, none⟩) := h0
            go_simp
            exact ⟨Ext.refl _, rfl⟩
          · obtain ⟨h0, -⟩ := hs
            replace h0 : ρ (.tmp 29) = .pointer (some ⟨b, o + k * 3, none⟩) := h0
            have hc0 : W.cell? ⟨b, o + k * 3, none⟩ = some (.int .i64 (s.g)) := (hI2.ext hF).below.cell hcg
            go_simp
            exact ⟨Ext.refl _, rfl⟩
          · obtain ⟨h0, -⟩ := hs
            replace h0 : ρ (.tmp 7) = .pointer (some ⟨w.heap.size + 1 + 1 + 1, 0, none⟩) := h0
            have hc0 : W.cell? ⟨w.heap.size + 1 + 1 + 1, 0, none⟩ = some (.int .i64 (va + x * -cb)) := (hI2.ext hF).b3.cell 0
            have hc1 : W.cell? ⟨w.heap.size + 1 + 1 + 1, 1, none⟩ = some (.int .i64 (vb + x * ca)) := (hI2.ext hF).b3.cell 1
            go_simp
            exact ⟨Ext.refl _, rfl⟩
          · obtain ⟨h0, h1, h2, -⟩ := hs
            replace h0 : ρ (.tmp 24) = .agg #[.int .i64 (ca), .int .i64 (cb)] := h0
            replace h1 : ρ (.tmp 30) = .int .i64 (s.g) := h1
            replace h2 : ρ (.tmp 31) = .agg #[.int .i64 (va + x * -cb), .int .i64 (vb + x * ca)] := h2
            go_simp
            refine (HP.out W).mono ?_; rintro e w' ⟨rfl, hx⟩; exact ⟨_, rfl, hx, rfl⟩
        · intro fv W hF hs
          obtain ⟨-, -, -, -, -, -, -, -, h32, -⟩ := hs
          replace h32 : fv 32 = .agg #[.int .i64 (ca + s.g * (va + x * -cb)), .int .i64 (cb + s.g * (vb + x * ca))] := h32
          simp only [fin, List.filterMap]
          go_simp
          have hI3 := hI2.ext hF
          have d0 := hI3.b4.cell 0
          have d1 := hI3.b4.cell 1
          have g0 := hI3.b4.free 0
          have g1 := hI3.b4.free 1
          simp only [List.getElem?_toArray, List.getElem?_cons_zero, List.getElem?_cons_succ] at d0 d1
          have HI4 := Lib.hid (hI3.setC (ca + s.g * (va + x * -cb)) (cb + s.g * (vb + x * ca)))
          clear hI2 hI3 hF
          go_wp2
          go_roundw
          case rel => exact ⟨k + 1, by omega, by go_num, by rw [HGS.out]; exact HI4.out⟩
          case measure => simp [intOf]; omega
    · obtain rfl : k = node + 1 := by omega
      have d0 := hI.b3.cell 0
      have d1 := hI.b3.cell 1
      have g0 := hI.b2.free 0
      have g1 := hI.b2.free 1
      have q0 := hI.b2.cell 0
      have q1 := hI.b2.cell 1
      simp only [List.getElem?_toArray, List.getElem?_cons_zero, List.getElem?_cons_succ] at d0 d1 q0 q1
      have HI := Lib.hid hI.below
      clear hI
      rw [← HG.out] at d0 d1
      go_wp2
      exact bodyPost_ret (v := .agg #[.int .i64 gr.re, .int .i64 gr.im]) (by simp [results, Try.f111, go_sem, q0, q1]) rfl ⟨rfl, Ext.set (Ext.set HI.out (by dsimp only; omega) _) (by dsimp only; omega) _⟩

end Go.Proofs.Ytpaoeghdfeekoaa

/- The transfer between two nodes. By regen.py. -/
namespace Go.Proofs.Ytpaoeghdfeekoaa
open Go.RowKit Go.Mem Go.RegInv
attribute [local go_sem] RelUpon_value RelUpon_skip RelUpon_enter BigFrame.eval_const BigFrame.eval_global BigFrame.eval_func

theorem ints_two {W : World} {g t : Nat} {p q : Int} (h : Blk W g t #[.int .i64 p, .int .i64 q]) : IntsAt W (.slice (some ⟨g, 0, none⟩) 2 2) [p, q] := by
  refine .inr ⟨g, 0, 2, rfl, h.lt, by simp, fun i hi => ?_⟩
  rw [h.cell]
  match i, hi with
  | 0, _ => rfl
  | 1, _ => rfl
  | i + 2, h => simp at h; omega

theorem prod_bd {x y B : Int} (hx : -B ≤ x ∧ x ≤ B) (hy : -B ≤ y ∧ y ≤ B) : -(B * B) ≤ x * y ∧ x * y ≤ B * B := by
  rcases Int.le_total 0 x with h | h
  · exact mul_bd h hx.2 hy.1 hy.2
  · have := mul_bd (n := -x) (x := y) (N := B) (B := B) (by omega) (by omega) hy.1 hy.2
    rw [Int.neg_mul] at this
    omega

theorem bv_small : ∀ k, k ≤ 4 → (bv k).1 ≤ 300000000
  | 0, _ => by decide
  | 1, _ => by decide
  | 2, _ => by decide
  | 3, _ => by decide
  | 4, _ => by decide
  | k + 5, h => by omega

theorem volts_small {f : Int} {hot : List Bool} {ls : List Sh} (hok : ∀ s ∈ ls, shOK s) (hf : 1 ≤ f ∧ f ≤ 8) (h4 : ls.length ≤ 4) (k : Nat) (z : G) (hz : (volts f hot ls)[k]? = some z) : Bd 300000000 z := by
  have hl : (vfold f hot ((backE ls).map (·.1))).out.length = ls.length + 1 := by rw [vfold_len, List.length_map, backE_length]
  have hk : k < (volts f hot ls).length := (List.getElem?_eq_some_iff.1 hz).1
  rw [volts_len] at hk
  unfold volts at hz
  rw [List.getElem?_reverse (by omega), hl] at hz
  have h1 := out_bd hf _ (fun y hy => by
    obtain ⟨q, _, rfl⟩ := List.mem_map.1 hy
    exact hok _ (List.mem_of_getElem? q.2)) _ _ hz
  have h2 := bv_small (ls.length + 1 - 1 - k) (by omega)
  simp only [Bd] at h1 ⊢
  omega

def timesG (a b : G) : G := ⟨a.re * b.re - a.im * b.im, a.re * b.im + a.im * b.re⟩
/-- The reduced quotient of two complex numbers. -/
def redV (n d : G) : Array Value := #[.int .i64 (n.re.tdiv (redN n.re n.im d.re d.im)), .int .i64 (n.im.tdiv (redN n.re n.im d.re d.im)), .int .i64 (d.re.tdiv (redN n.re n.im d.re d.im)), .int .i64 (d.im.tdiv (redN n.re n.im d.re d.im))]
def volt (f : Int) (hot : List Bool) (ls : List Sh) (k : Nat) : G := (volts f hot ls).getD k ⟨0, 0⟩

def transE (t : Int) (l : List Sh) (f : Int) (m : Nat) (p q : Int) : Int := firstE [driveE t l f m, errIf ([p, q].any (outB 0 ((l.length : Int) - 1))) 6]

set_option maxRecDepth 100000 in
set_option maxHeartbeats 2000000 in
theorem transferOf_any (t : Int) (b o n cap : Nat) (l : List Sh) (hn : l.length = n) (f : Int) (B : Option Addr) (m cap' : Nat) (hot : List Bool) (hm : hot.length = m) (p q : Int) (w : World)
    (hS : RowsAt 3 Sh.enc w (some ⟨b, o, none⟩) l) (hH : RowsAt 1 boolEnc w B hot) (hD : transE t l f m p q = 0 → (volt f hot l 0).re ≠ 0 ∨ (volt f hot l 0).im ≠ 0) :
    Calls Try.prog 54 #[.agg #[.int .i64 t, .slice (some ⟨b, o, none⟩) n cap], .agg #[.int .i64 f, .slice B m cap'], .agg #[.int .i64 p, .int .i64 q]] w fun e w' => Ext w w' ∧
      ((transE t l f m p q ≠ 0 ∧ e = .returned (.tuple #[.agg #[.int .i64 0, .int .i64 0, .int .i64 0, .int .i64 0], .int .i64 (transE t l f m p q)])) ∨
       (transE t l f m p q = 0 ∧ e = .returned (.tuple #[.agg (redV (timesG (grounded f hot l (min p q).toNat) (volt f hot l ((max p q).toNat + 1))) (volt f hot l 0)), .int .i64 0]))) := by
  have hnb : n ≤ 1152921504606846976 := by have := hS.1; omega
  have HC := Lib.hid (fun W (e : Ext w W) => checkDrive_any t (some ⟨b, o, none⟩) n cap l hn f B m cap' W (hS.ext e))
  have HSE := Lib.hid (fun W (h : IntsAt W (.slice (some ⟨w.heap.size + 1 + 1, 0, none⟩) 2 2) [p, q]) => shellError_any t (some ⟨b, o, none⟩) n cap _ [p, q] W hnb h)
  have e0 : Ext w ((((w.alloc (.cells #[.int .i64 t, .slice (some ⟨b, o, none⟩) n cap] 24)).alloc (.cells #[.int .i64 f, .slice B m cap'] 27)).alloc (.cells #[.int .i64 p, .int .i64 q] 82)).alloc (.cells #[.int .i64 0, .int .i64 0, .int .i64 0, .int .i64 0] 84)) := (Ext.alloc _ _).trans ((Ext.alloc _ _).trans ((Ext.alloc _ _).trans (Ext.alloc _ _)))
  have k0 : Blk ((((w.alloc (.cells #[.int .i64 t, .slice (some ⟨b, o, none⟩) n cap] 24)).alloc (.cells #[.int .i64 f, .slice B m cap'] 27)).alloc (.cells #[.int .i64 p, .int .i64 q] 82)).alloc (.cells #[.int .i64 0, .int .i64 0, .int .i64 0, .int .i64 0] 84)) w.heap.size 24 #[.int .i64 t, .slice (some ⟨b, o, none⟩) n cap] := (((Blk.newAt _ _ _ rfl).alloc _).alloc _).alloc _
  have k1 : Blk ((((w.alloc (.cells #[.int .i64 t, .slice (some ⟨b, o, none⟩) n cap] 24)).alloc (.cells #[.int .i64 f, .slice B m cap'] 27)).alloc (.cells #[.int .i64 p, .int .i64 q] 82)).alloc (.cells #[.int .i64 0, .int .i64 0, .int .i64 0, .int .i64 0] 84)) (w.heap.size + 1) 27 #[.int .i64 f, .slice B m cap'] := ((Blk.newAt _ _ _ (by simp)).alloc _).alloc _
  have k2 : Blk ((((w.alloc (.cells #[.int .i64 t, .slice (some ⟨b, o, none⟩) n cap] 24)).alloc (.cells #[.int .i64 f, .slice B m cap'] 27)).alloc (.cells #[.int .i64 p, .int .i64 q] 82)).alloc (.cells #[.int .i64 0, .int .i64 0, .int .i64 0, .int .i64 0] 84)) (w.heap.size + 1 + 1) 82 #[.int .i64 p, .int .i64 q] := (Blk.newAt _ _ _ (by simp)).alloc _
  have k3 : Blk ((((w.alloc (.cells #[.int .i64 t, .slice (some ⟨b, o, none⟩) n cap] 24)).alloc (.cells #[.int .i64 f, .slice B m cap'] 27)).alloc (.cells #[.int .i64 p, .int .i64 q] 82)).alloc (.cells #[.int .i64 0, .int .i64 0, .int .i64 0, .int .i64 0] 84)) (w.heap.size + 1 + 1 + 1) 84 #[.int .i64 0, .int .i64 0, .int .i64 0, .int .i64 0] := Blk.newAt _ _ _ (by simp)
  have HE := Lib.hid (show transE t l f m p q = firstE [driveE t l f m, errIf ([p, q].any (outB 0 ((n : Int) - 1))) 6] by unfold transE; rw [hn])
  have HS := Lib.hid hS
  have HH := Lib.hid hH
  have HN := Lib.hid hn
  have HM := Lib.hid hm
  have HD := Lib.hid hD
  clear hn hS hm hH hD
  obtain ⟨q1, hq1⟩ : ∃ q, q = driveE t l f m := ⟨_, rfl⟩
  obtain ⟨q2, hq2⟩ : ∃ x, x = errIf ([p, q].any (outB 0 ((n : Int) - 1))) 6 := ⟨_, rfl⟩
  rw [← hq1] at HC HE
  rw [← hq2] at HSE HE
  have HQ1 := Lib.hid hq1
  have HQ2 := Lib.hid hq2
  clear hq1 hq2
  go_enter Try.func54, Try.ntmps54
  go_wp2
  generalize ((((w.alloc (.cells #[.int .i64 t, .slice (some ⟨b, o, none⟩) n cap] 24)).alloc (.cells #[.int .i64 f, .slice B m cap'] 27)).alloc (.cells #[.int .i64 p, .int .i64 q] 82)).alloc (.cells #[.int .i64 0, .int .i64 0, .int .i64 0, .int .i64 0] 84)) = W0 at *
  have HIN := Lib.hid (ints_two k2)
  have z0 : W0.cell? ⟨w.heap.size, 0, none⟩ = some (.int .i64 t) := k0.cell 0
  have z1 : W0.cell? ⟨w.heap.size, 1, none⟩ = some (.slice (some ⟨b, o, none⟩) n cap) := k0.cell 1
  have z2 : W0.cell? ⟨w.heap.size + 1, 0, none⟩ = some (.int .i64 f) := k1.cell 0
  have z3 : W0.cell? ⟨w.heap.size + 1, 1, none⟩ = some (.slice B m cap') := k1.cell 1
  have z4 : W0.cell? ⟨w.heap.size + 1 + 1, 0, none⟩ = some (.int .i64 p) := k2.cell 0
  have z5 : W0.cell? ⟨w.heap.size + 1 + 1, 1, none⟩ = some (.int .i64 q) := k2.cell 1
  refine wp_region_each [some 12, some 13, some 14, some 15, some 16, some 17, some 18, some 19, some 8] [[3], [4], [12, 13], [3], [5], [15, 16], [14, 17], [18], [19]]
    [Is (.agg #[.int .i64 (t), .slice (some ⟨b, o, none⟩) n cap]), Is (.agg #[.int .i64 (f), .slice B m cap']), Is (.int .i64 (q1)), Is (.agg #[.int .i64 (t), .slice (some ⟨b, o, none⟩) n cap]), Is (.slice (some ⟨w.heap.size + 1 + 1, 0, none⟩) 2 2), Is (.int .i64 (q2)), Ints [q1, q2], Is (.int .i64 (firstE [q1, q2])), Is (.int .i64 (firstE [q1, q2]))]
    (by kernel_rfl) (by kernel_rfl) (by kernel_rfl) (by kernel_rfl) (by kernel_rfl) Ext (fun W => Ext W0 W)
    (fun W _ => Ext.refl W) (fun W W' h k => h.trans k) ?_ (Ext.drew _) ?_ ?_
  · repeat (refine ⟨fun _ _ _ _ k h => (by first | exact h | exact IntsAt.ext h k), ?_⟩)
    exact trivial
  · refine ⟨?_, ?_, ?_, ?_, ?_, ?_, ?_, ?_, ?_, trivial⟩
    all_goals intro ρ W ⟨kc, kg, kf⟩ hF hs
    · obtain ⟨h0, -⟩ := hs
      replace h0 : ρ (.tmp 3) = .pointer (some ⟨w.heap.size, 0, none⟩) := h0
      have hc0 : W.cell? ⟨w.heap.size, 0, none⟩ = some (.int .i64 (t)) := hF.cell (by assumption)
      have hc1 : W.cell? ⟨w.heap.size, 1, none⟩ = some (.slice (some ⟨b, o, none⟩) n cap) := hF.cell (by assumption)
      go_simp
      exact ⟨Ext.refl _, rfl⟩
    · obtain ⟨h0, -⟩ := hs
      replace h0 : ρ (.tmp 4) = .pointer (some ⟨w.heap.size + 1, 0, none⟩) := h0
      have hc0 : W.cell? ⟨w.heap.size + 1, 0, none⟩ = some (.int .i64 (f)) := hF.cell (by assumption)
      have hc1 : W.cell? ⟨w.heap.size + 1, 1, none⟩ = some (.slice B m cap') := hF.cell (by assumption)
      go_simp
      exact ⟨Ext.refl _, rfl⟩
    · obtain ⟨h0, h1, -⟩ := hs
      replace h0 : ρ (.tmp 12) = .agg #[.int .i64 (t), .slice (some ⟨b, o, none⟩) n cap] := h0
      replace h1 : ρ (.tmp 13) = .agg #[.int .i64 (f), .slice B m cap'] := h1
      go_simp
      refine (HC.out W (e0.trans hF)).mono ?_; rintro e w' ⟨rfl, hx⟩; exact ⟨_, rfl, hx, rfl⟩
    · obtain ⟨h0, -⟩ := hs
      replace h0 : ρ (.tmp 3) = .pointer (some ⟨w.heap.size, 0, none⟩) := h0
      have hc0 : W.cell? ⟨w.heap.size, 0, none⟩ = some (.int .i64 (t)) := hF.cell (by assumption)
      have hc1 : W.cell? ⟨w.heap.size, 1, none⟩ = some (.slice (some ⟨b, o, none⟩) n cap) := hF.cell (by assumption)
      go_simp
      exact ⟨Ext.refl _, rfl⟩
    · obtain ⟨h0, -⟩ := hs
      replace h0 : ρ (.tmp 5) = .pointer (some ⟨w.heap.size + 1 + 1, 0, none⟩) := h0
      go_simp
      exact ⟨Ext.refl _, rfl⟩
    · obtain ⟨h0, h1, -⟩ := hs
      replace h0 : ρ (.tmp 15) = .agg #[.int .i64 (t), .slice (some ⟨b, o, none⟩) n cap] := h0
      replace h1 : ρ (.tmp 16) = .slice (some ⟨w.heap.size + 1 + 1, 0, none⟩) 2 2 := h1
      go_simp
      refine (HSE.out W (HIN.out.ext hF)).mono ?_; rintro e w' ⟨rfl, hx⟩; exact ⟨_, rfl, hx, rfl⟩
    · obtain ⟨h0, h1, -⟩ := hs
      replace h0 : ρ (.tmp 14) = .int .i64 (q1) := h0
      replace h1 : ρ (.tmp 17) = .int .i64 (q2) := h1
      go_simp
      exact ⟨Ext.alloc _ _, ints_new _ [q1, q2] _ (by simp)⟩
    · obtain ⟨h0, -⟩ := hs
      replace h0 : (Ints [q1, q2]) (ρ (.tmp 18)) W := h0
      go_simp
      refine (firstOf_any _ _ _ h0).mono ?_; rintro e w' ⟨rfl, rfl⟩; exact ⟨_, rfl, Ext.refl _, rfl⟩
    · obtain ⟨h0, -⟩ := hs
      replace h0 : ρ (.tmp 19) = .int .i64 (firstE [q1, q2]) := h0
      go_simp
      exact ⟨Ext.refl _, rfl⟩
  · intro fv W1 hF hs
    obtain ⟨-, -, -, -, -, -, -, -, h8, -⟩ := hs
    replace h8 : fv 8 = .int .i64 (firstE [q1, q2]) := h8
    simp only [fin, List.filterMap]
    go_simp
    rw [← HE.out]
    have e1 := e0.trans hF
    clear h8 z0 z1 z2 z3 z4 z5
    replace k0 := k0.ext hF
    replace k1 := k1.ext hF
    replace k2 := k2.ext hF
    replace k3 := k3.ext hF
    clear hF
    have z0 : W1.cell? ⟨w.heap.size, 0, none⟩ = some (.int .i64 t) := k0.cell 0
    have z1 : W1.cell? ⟨w.heap.size, 1, none⟩ = some (.slice (some ⟨b, o, none⟩) n cap) := k0.cell 1
    have z2 : W1.cell? ⟨w.heap.size + 1, 0, none⟩ = some (.int .i64 f) := k1.cell 0
    have z3 : W1.cell? ⟨w.heap.size + 1, 1, none⟩ = some (.slice B m cap') := k1.cell 1
    have z4 : W1.cell? ⟨w.heap.size + 1 + 1, 0, none⟩ = some (.int .i64 p) := k2.cell 0
    have z5 : W1.cell? ⟨w.heap.size + 1 + 1, 1, none⟩ = some (.int .i64 q) := k2.cell 1
    by_cases hr : transE t l f m p q = 0
    · have hz := (firstE_zero _).1 (HE.out.symm.trans hr)
      have hz1 : q1 = 0 := hz _ (by simp)
      have hz2 : q2 = 0 := hz _ (by simp)
      obtain ⟨⟨_, ⟨h1, h4⟩, hok⟩, hf, hml⟩ := (driveE_zero t l f m).1 (HQ1.out.symm.trans hz1)
      obtain rfl : n = m := by rw [hml, ← HN.out]
      rw [HN.out] at h1 h4
      have hany := (errIf_zero (by decide)).1 (HQ2.out.symm.trans hz2)
      have hp : 0 ≤ p ∧ p ≤ (n : Int) - 1 := by
        have : outB 0 ((n : Int) - 1) p = false := by simp only [List.any_cons, Bool.or_eq_false_iff] at hany; exact hany.1
        simp [outB] at this; omega
      have hq : 0 ≤ q ∧ q ≤ (n : Int) - 1 := by
        have : outB 0 ((n : Int) - 1) q = false := by simp only [List.any_cons, Bool.or_eq_false_iff] at hany; exact hany.2.1
        simp [outB] at this; omega
      have HR := Lib.hid hr
      have hr' : (transE t l f n p q != 0) = false := by simp [hr]
      clear hz hz1 hz2 hany hr HE hml HC HSE HQ1 HQ2 HIN
      obtain ⟨r, hrr⟩ : ∃ r, r = transE t l f n p q := ⟨_, rfl⟩
      rw [← hrr] at hr' ⊢
      have HRR := Lib.hid hrr
      clear hrr
      go_wp2
      refine wp_region_each [some 24, some 25, some 26, some 27, some 28, some 29, some 30, some 31, some 32, some 33, some 9, some 10] [[5], [24], [5], [26], [25, 27], [5], [29], [5], [31], [30, 32], [28], [33]]
        [Is (.pointer (some ⟨w.heap.size + 1 + 1, 0, none⟩)), Is (.int .i64 (p)), Is (.pointer (some ⟨w.heap.size + 1 + 1, 1, none⟩)), Is (.int .i64 (q)), Is (.int .i64 (if q < p then q else p)), Is (.pointer (some ⟨w.heap.size + 1 + 1, 0, none⟩)), Is (.int .i64 (p)), Is (.pointer (some ⟨w.heap.size + 1 + 1, 1, none⟩)), Is (.int .i64 (q)), Is (.int .i64 (if p < q then q else p)), Is (.int .i64 (if q < p then q else p)), Is (.int .i64 (if p < q then q else p))]
        (by kernel_rfl) (by kernel_rfl) (by kernel_rfl) (by kernel_rfl) (by kernel_rfl) Ext (fun W => Ext W1 W)
        (fun W _ => Ext.refl W) (fun W W' h k => h.trans k) ?_ (Ext.drew _) ?_ ?_
      · repeat (refine ⟨fun _ _ _ _ k h => (by first | exact h | exact IntsAt.ext h k), ?_⟩)
        exact trivial
      · refine ⟨?_, ?_, ?_, ?_, ?_, ?_, ?_, ?_, ?_, ?_, ?_, ?_, trivial⟩
        all_goals intro ρ W ⟨kc, kg, kf⟩ hF hs
        · obtain ⟨h0, -⟩ := hs
          replace h0 : ρ (.tmp 5) = .pointer (some ⟨w.heap.size + 1 + 1, 0, none⟩) := h0
          go_simp
          exact ⟨Ext.refl _, rfl⟩
        · obtain ⟨h0, -⟩ := hs
          replace h0 : ρ (.tmp 24) = .pointer (some ⟨w.heap.size + 1 + 1, 0, none⟩) := h0
          have hc0 : W.cell? ⟨w.heap.size + 1 + 1, 0, none⟩ = some (.int .i64 (p)) := hF.cell (by assumption)
          go_simp
          exact ⟨Ext.refl _, rfl⟩
        · obtain ⟨h0, -⟩ := hs
          replace h0 : ρ (.tmp 5) = .pointer (some ⟨w.heap.size + 1 + 1, 0, none⟩) := h0
          go_simp
          exact ⟨Ext.refl _, rfl⟩
        · obtain ⟨h0, -⟩ := hs
          replace h0 : ρ (.tmp 26) = .pointer (some ⟨w.heap.size + 1 + 1, 1, none⟩) := h0
          have hc0 : W.cell? ⟨w.heap.size + 1 + 1, 1, none⟩ = some (.int .i64 (q)) := hF.cell (by assumption)
          go_simp
          exact ⟨Ext.refl _, rfl⟩
        · obtain ⟨h0, h1, -⟩ := hs
          replace h0 : ρ (.tmp 25) = .int .i64 (p) := h0
          replace h1 : ρ (.tmp 27) = .int .i64 (q) := h1
          go_simp
          exact ⟨Ext.refl _, rfl⟩
        · obtain ⟨h0, -⟩ := hs
          replace h0 : ρ (.tmp 5) = .pointer (some ⟨w.heap.size + 1 + 1, 0, none⟩) := h0
          go_simp
          exact ⟨Ext.refl _, rfl⟩
        · obtain ⟨h0, -⟩ := hs
          replace h0 : ρ (.tmp 29) = .pointer (some ⟨w.heap.size + 1 + 1, 0, none⟩) := h0
          have hc0 : W.cell? ⟨w.heap.size + 1 + 1, 0, none⟩ = some (.int .i64 (p)) := hF.cell (by assumption)
          go_simp
          exact ⟨Ext.refl _, rfl⟩
        · obtain ⟨h0, -⟩ := hs
          replace h0 : ρ (.tmp 5) = .pointer (some ⟨w.heap.size + 1 + 1, 0, none⟩) := h0
          go_simp
          exact ⟨Ext.refl _, rfl⟩
        · obtain ⟨h0, -⟩ := hs
          replace h0 : ρ (.tmp 31) = .pointer (some ⟨w.heap.size + 1 + 1, 1, none⟩) := h0
          have hc0 : W.cell? ⟨w.heap.size + 1 + 1, 1, none⟩ = some (.int .i64 (q)) := hF.cell (by assumption)
          go_simp
          exact ⟨Ext.refl _, rfl⟩
        · obtain ⟨h0, h1, -⟩ := hs
          replace h0 : ρ (.tmp 30) = .int .i64 (p) := h0
          replace h1 : ρ (.tmp 32) = .int .i64 (q) := h1
          go_simp
          exact ⟨Ext.refl _, rfl⟩
        · obtain ⟨h0, -⟩ := hs
          replace h0 : ρ (.tmp 28) = .int .i64 (if q < p then q else p) := h0
          go_simp
          exact ⟨Ext.refl _, rfl⟩
        · obtain ⟨h0, -⟩ := hs
          replace h0 : ρ (.tmp 33) = .int .i64 (if p < q then q else p) := h0
          go_simp
          exact ⟨Ext.refl _, rfl⟩
      · intro fv W4 hF hs
        obtain ⟨-, -, -, -, -, -, -, -, -, -, h9, h10, -⟩ := hs
        replace h9 : fv 9 = .int .i64 (if q < p then q else p) := h9
        replace h10 : fv 10 = .int .i64 (if p < q then q else p) := h10
        simp only [fin, List.filterMap]
        go_simp
        obtain ⟨i, hi1, hi2, hi3⟩ : ∃ i : Nat, (if q < p then q else p) = (i : Int) ∧ (min p q).toNat = i ∧ i < n := ⟨(min p q).toNat, by split <;> omega, rfl, by omega⟩
        obtain ⟨j, hj1, hj2, hj3⟩ : ∃ j : Nat, (if p < q then q else p) = (j : Int) ∧ (max p q).toNat = j ∧ j < n := ⟨(max p q).toNat, by split <;> omega, rfl, by omega⟩
        rw [hi1, hj1]
        have HI := Lib.hid hi2
        have HJ := Lib.hid hj2
        have hln := HN.out
        have hV := Lib.hid (callsIn_wide.1 (voltagesOf_in t (some ⟨b, o, none⟩) n cap l HN.out f B cap' hot HM.out W4 (HS.out.ext (e1.trans hF)) (HH.out.ext (e1.trans hF)) hok hf h1 h4))
        have hgb := (gfold_small (hot := hot) hok hf (by omega) (i + 1) (by omega)).1
        have hvb := volts_small (hot := hot) hok hf (by omega)
        have HGA := Lib.hid (fun W (e : Ext w W) => groundedAt_any t b o n cap l HN.out f B cap' hot HM.out i W (HS.out.ext e) (HH.out.ext e) hok hf h4 hi3)
        have hvl := volts_len f hot l
        obtain ⟨⟨g1, g2⟩, hgz⟩ : ∃ z : G, z = grounded f hot l i := ⟨_, rfl⟩
        obtain ⟨⟨v1, v2⟩, hvz⟩ : ∃ z : G, z = volt f hot l (j + 1) := ⟨_, rfl⟩
        obtain ⟨⟨d1, d2⟩, hdz⟩ : ∃ z : G, z = volt f hot l 0 := ⟨_, rfl⟩
        have hv1 : (volts f hot l)[j + 1]? = some ⟨v1, v2⟩ := by rw [hvz]; simp [volt, List.getElem?_eq_getElem (show j + 1 < (volts f hot l).length by omega)]
        have hv0 : (volts f hot l)[0]? = some ⟨d1, d2⟩ := by rw [hdz]; simp [volt, List.getElem?_eq_getElem (show 0 < (volts f hot l).length by omega)]
        have hgb2 : Bd 300000000 ⟨g1, g2⟩ := by rw [hgz]; exact hgb
        have hvb1 := hvb _ _ hv1
        have hvb0 := hvb _ _ hv0
        simp only [Bd] at hgb2 hvb1 hvb0
        have p1 := prod_bd hgb2.1 hvb1.1
        have p2 := prod_bd hgb2.2 hvb1.2
        have p3 := prod_bd hgb2.1 hvb1.2
        have p4 := prod_bd hgb2.2 hvb1.1
        have HTM := Lib.hid (times_any g1 g2 v1 v2 (by unfold Big; omega) (by unfold Big; omega) (by unfold Big; omega) (by unfold Big; omega))
        have hdn := HD.out HR.out
        rw [← hdz] at hdn
        have HRD := Lib.hid (reduced_any (g1 * v1 - g2 * v2) (g1 * v2 + g2 * v1) d1 d2 (by unfold Big; omega) (by unfold Big; omega) (by unfold Big; omega) (by unfold Big; omega) hdn)
        rw [← hgz] at HGA
        have HGZ := Lib.hid hgz
        have HVZ := Lib.hid hvz
        have HDZ := Lib.hid hdz
        have HV1 := Lib.hid hv1
        have HV0 := Lib.hid hv0
        obtain ⟨j1, hj1e⟩ : ∃ j1, j1 = j + 1 := ⟨_, rfl⟩
        have hj1w : IntKind.i64.wrap ((j : Int) + 1) = (j1 : Int) := by rw [IntWalk.i64_in _ (by omega)]; omega
        have hj1n : (j1 : Int) < (n : Int) + 1 := by omega
        have HJ1 := Lib.hid hj1e
        have e4 := e1.trans hF
        replace k0 := k0.ext hF
        replace k1 := k1.ext hF
        replace k3 := k3.ext hF
        clear z0 z1 z2 z3 z4 z5 h9 h10 hi1 hj1 hi2 hj2 hgb hvb hgz hvz hdz hv1 hv0 hgb2 hvb1 hvb0 p1 p2 p3 p4 hdn hok hf hp hq hvl hj1e k2
        have z0 : W4.cell? ⟨w.heap.size, 0, none⟩ = some (.int .i64 t) := k0.cell 0
        have z1 : W4.cell? ⟨w.heap.size, 1, none⟩ = some (.slice (some ⟨b, o, none⟩) n cap) := k0.cell 1
        have z2 : W4.cell? ⟨w.heap.size + 1, 0, none⟩ = some (.int .i64 f) := k1.cell 0
        have z3 : W4.cell? ⟨w.heap.size + 1, 1, none⟩ = some (.slice B n cap') := k1.cell 1
        go_wp2_with (go_at_call 89; refine hV.out.mono ?_; rintro e W5 ⟨g, cp, rfl, hrw, hx5, _⟩)
        have e5 := e4.trans hx5
        replace k0 := k0.ext hx5
        replace k1 := k1.ext hx5
        replace k3 := k3.ext hx5
        clear z0 z1 z2 z3
        have z0 : W5.cell? ⟨w.heap.size, 0, none⟩ = some (.int .i64 t) := k0.cell 0
        have z1 : W5.cell? ⟨w.heap.size, 1, none⟩ = some (.slice (some ⟨b, o, none⟩) n cap) := k0.cell 1
        have z2 : W5.cell? ⟨w.heap.size + 1, 0, none⟩ = some (.int .i64 f) := k1.cell 0
        have z3 : W5.cell? ⟨w.heap.size + 1, 1, none⟩ = some (.slice B n cap') := k1.cell 1
        obtain ⟨b1, o1, ee1, _, hc1⟩ := hrw.2 _ _ HV1.out
        obtain ⟨b0, o0, ee0, _, hc0⟩ := hrw.2 _ _ HV0.out
        obtain ⟨rfl, rfl⟩ : g = b1 ∧ 0 = o1 := by simpa using ee1
        obtain ⟨rfl, rfl⟩ : g = b0 ∧ 0 = o0 := by simpa using ee0
        rw [← HJ1.out] at hc1
        have x1 : W5.cell? ⟨g, j1 * 2, none⟩ = some (.int .i64 v1) := by have := hc1 0 _ rfl; simpa using this
        have x2 : W5.cell? ⟨g, j1 * 2 + 1, none⟩ = some (.int .i64 v2) := by have := hc1 1 _ rfl; simpa using this
        have x3 : W5.cell? ⟨g, 0, none⟩ = some (.int .i64 d1) := by have := hc0 0 _ rfl; simpa using this
        have x4 : W5.cell? ⟨g, 1, none⟩ = some (.int .i64 d2) := by have := hc0 1 _ rfl; simpa using this
        clear hc1 hc0 ee1 ee0 hrw k0 k1
        refine wp_region_part 14 [some 37, some 38, some 39, some 40, some 41, some 42, some 43, some 44, some 45, some 46, some 47, some 48, some 49, some 50] [[3], [4], [9], [37, 38, 39], [11], [10], [42], [41, 43], [44], [40, 45], [11], [47], [48], [46, 49]]
          [Is (.agg #[.int .i64 (t), .slice (some ⟨b, o, none⟩) n cap]), Is (.agg #[.int .i64 (f), .slice B n cap']), Is (.int .i64 ((i : Int))), Is (.agg #[.int .i64 g1, .int .i64 g2]), Is (.slice (some ⟨g, 0, none⟩) (n + 1) cp), Is (.int .i64 ((j : Int))), Is (.int .i64 ((j1 : Int))), Is (.pointer (some ⟨g, j1 * 2, none⟩)), Is (.agg #[.int .i64 (v1), .int .i64 (v2)]), Is (.agg #[.int .i64 (g1 * v1 - g2 * v2), .int .i64 (g1 * v2 + g2 * v1)]), Is (.slice (some ⟨g, 0, none⟩) (n + 1) cp), Is (.pointer (some ⟨g, 0, none⟩)), Is (.agg #[.int .i64 (d1), .int .i64 (d2)]), Is (.agg (redV ⟨g1 * v1 - g2 * v2, g1 * v2 + g2 * v1⟩ ⟨d1, d2⟩))]
          (by kernel_rfl) (by kernel_rfl) (by kernel_rfl) (by kernel_rfl) (by kernel_rfl) (by kernel_rfl) (by kernel_rfl) Ext (fun W => Ext W5 W)
          (fun W _ => Ext.refl W) (fun W W' h k => h.trans k) ?_ (Ext.drew _) ?_ ?_
        · repeat (refine ⟨fun _ _ _ _ k h => (by first | exact h | exact IntsAt.ext h k), ?_⟩)
          exact trivial
        · refine ⟨?_, ?_, ?_, ?_, ?_, ?_, ?_, ?_, ?_, ?_, ?_, ?_, ?_, ?_, trivial⟩
          all_goals intro ρ W ⟨kc, kg, kf⟩ hF hs
          · obtain ⟨h0, -⟩ := hs
            replace h0 : ρ (.tmp 3) = .pointer (some ⟨w.heap.size, 0, none⟩) := h0
            have hc0 : W.cell? ⟨w.heap.size, 0, none⟩ = some (.int .i64 (t)) := hF.cell (by assumption)
            have hc1 : W.cell? ⟨w.heap.size, 1, none⟩ = some (.slice (some ⟨b, o, none⟩) n cap) := hF.cell (by assumption)
            go_simp
            exact ⟨Ext.refl _, rfl⟩
          · obtain ⟨h0, -⟩ := hs
            replace h0 : ρ (.tmp 4) = .pointer (some ⟨w.heap.size + 1, 0, none⟩) := h0
            have hc0 : W.cell? ⟨w.heap.size + 1, 0, none⟩ = some (.int .i64 (f)) := hF.cell (by assumption)
            have hc1 : W.cell? ⟨w.heap.size + 1, 1, none⟩ = some (.slice B n cap') := hF.cell (by assumption)
            go_simp
            exact ⟨Ext.refl _, rfl⟩
          · obtain ⟨h0, -⟩ := hs
            replace h0 : ρ (.tmp 9) = .int .i64 ((i : Int)) := h0
            go_simp
            exact ⟨Ext.refl _, rfl⟩
          · obtain ⟨h0, h1, h2, -⟩ := hs
            replace h0 : ρ (.tmp 37) = .agg #[.int .i64 (t), .slice (some ⟨b, o, none⟩) n cap] := h0
            replace h1 : ρ (.tmp 38) = .agg #[.int .i64 (f), .slice B n cap'] := h1
            replace h2 : ρ (.tmp 39) = .int .i64 ((i : Int)) := h2
            go_simp
            refine (HGA.out W (e5.trans hF)).mono ?_; rintro e w' ⟨rfl, hx⟩; exact ⟨_, rfl, hx, rfl⟩
          · obtain ⟨h0, -⟩ := hs
            replace h0 : ρ (.tmp 11) = .slice (some ⟨g, 0, none⟩) (n + 1) cp := h0
            go_simp
            exact ⟨Ext.refl _, rfl⟩
          · obtain ⟨h0, -⟩ := hs
            replace h0 : ρ (.tmp 10) = .int .i64 ((j : Int)) := h0
            go_simp
            exact ⟨Ext.refl _, rfl⟩
          · obtain ⟨h0, -⟩ := hs
            replace h0 : ρ (.tmp 42) = .int .i64 ((j : Int)) := h0
            have hw : IntKind.i64.wrap ((j : Int) + 1) = (j1 : Int) := hj1w
            go_simp
            exact ⟨Ext.refl _, rfl⟩
          · obtain ⟨h0, h1, -⟩ := hs
            replace h0 : ρ (.tmp 41) = .slice (some ⟨g, 0, none⟩) (n + 1) cp := h0
            replace h1 : ρ (.tmp 43) = .int .i64 ((j1 : Int)) := h1
            have hj2 : (j1 : Int) < (n : Int) + 1 := hj1n
            go_simp
            exact ⟨Ext.refl _, rfl⟩
          · obtain ⟨h0, -⟩ := hs
            replace h0 : ρ (.tmp 44) = .pointer (some ⟨g, j1 * 2, none⟩) := h0
            have hc0 : W.cell? ⟨g, j1 * 2, none⟩ = some (.int .i64 (v1)) := hF.cell (by assumption)
            have hc1 : W.cell? ⟨g, j1 * 2 + 1, none⟩ = some (.int .i64 (v2)) := hF.cell (by assumption)
            go_simp
            exact ⟨Ext.refl _, rfl⟩
          · obtain ⟨h0, h1, -⟩ := hs
            replace h0 : ρ (.tmp 40) = .agg #[.int .i64 g1, .int .i64 g2] := h0
            replace h1 : ρ (.tmp 45) = .agg #[.int .i64 (v1), .int .i64 (v2)] := h1
            go_simp
            refine (HTM.out W).mono ?_; rintro e w' ⟨rfl, hx⟩; exact ⟨_, rfl, hx, rfl⟩
          · obtain ⟨h0, -⟩ := hs
            replace h0 : ρ (.tmp 11) = .slice (some ⟨g, 0, none⟩) (n + 1) cp := h0
            go_simp
            exact ⟨Ext.refl _, rfl⟩
          · obtain ⟨h0, -⟩ := hs
            replace h0 : ρ (.tmp 47) = .slice (some ⟨g, 0, none⟩) (n + 1) cp := h0
            have hn0 : (0 : Int) < (n : Int) + 1 := by omega
            go_simp
            exact ⟨Ext.refl _, rfl⟩
          · obtain ⟨h0, -⟩ := hs
            replace h0 : ρ (.tmp 48) = .pointer (some ⟨g, 0, none⟩) := h0
            have hc0 : W.cell? ⟨g, 0, none⟩ = some (.int .i64 (d1)) := hF.cell (by assumption)
            have hc1 : W.cell? ⟨g, 1, none⟩ = some (.int .i64 (d2)) := hF.cell (by assumption)
            go_simp
            exact ⟨Ext.refl _, rfl⟩
          · obtain ⟨h0, h1, -⟩ := hs
            replace h0 : ρ (.tmp 46) = .agg #[.int .i64 (g1 * v1 - g2 * v2), .int .i64 (g1 * v2 + g2 * v1)] := h0
            replace h1 : ρ (.tmp 49) = .agg #[.int .i64 (d1), .int .i64 (d2)] := h1
            go_simp
            refine (HRD.out W).mono ?_; rintro e w' ⟨rfl, hx⟩; exact ⟨_, rfl, hx, rfl⟩
        · intro fv W hF hs
          obtain ⟨-, -, -, -, -, -, -, -, -, -, -, -, -, h50, -⟩ := hs
          replace h50 : fv 50 = .agg (redV ⟨g1 * v1 - g2 * v2, g1 * v2 + g2 * v1⟩ ⟨d1, d2⟩) := h50
          simp only [fin, List.filterMap]
          go_simp
          have k4 := k3.ext hF
          have f0 := k4.free 0
          have f1 := k4.free 1
          have f2 := k4.free 2
          have f3 := k4.free 3
          have y0 := k4.cell 0
          have y1 := k4.cell 1
          have y2 := k4.cell 2
          have y3 := k4.cell 3
          simp only [List.getElem?_toArray, List.getElem?_cons_zero, List.getElem?_cons_succ] at y0 y1 y2 y3
          obtain ⟨a1, a2, a3, a4, hrv⟩ : ∃ a1 a2 a3 a4, redV ⟨g1 * v1 - g2 * v2, g1 * v2 + g2 * v1⟩ ⟨d1, d2⟩ = #[.int .i64 a1, .int .i64 a2, .int .i64 a3, .int .i64 a4] := ⟨_, _, _, _, rfl⟩
          rw [hrv]
          have HRV := Lib.hid hrv
          have HE6 := Lib.hid (e5.trans hF)
          clear hrv h50 hF
          go_wp2
          refine bodyPost_ret (v := .tuple #[.agg #[.int .i64 a1, .int .i64 a2, .int .i64 a3, .int .i64 a4], .int .i64 0]) (by simp [results, Try.f54, go_sem, y0, y1, y2, y3]) rfl ⟨Ext.set (Ext.set (Ext.set (Ext.set HE6.out (by dsimp only; omega) _) (by dsimp only; omega) _) (by dsimp only; omega) _) (by dsimp only; omega) _, .inr ⟨HR.out, ?_⟩⟩
          rw [HI.out, HJ.out, ← HGZ.out, ← HVZ.out, ← HDZ.out]
          show _ = Ending.returned (.tuple #[.agg (redV ⟨g1 * v1 - g2 * v2, g1 * v2 + g2 * v1⟩ ⟨d1, d2⟩), .int .i64 0])
          rw [HRV.out]
    · have HR := Lib.hid hr
      have hr' : (transE t l f m p q != 0) = true := by simp [hr]
      have f0 := k3.free 0
      have f1 := k3.free 1
      have f2 := k3.free 2
      have f3 := k3.free 3
      have y0 := k3.cell 0
      have y1 := k3.cell 1
      have y2 := k3.cell 2
      have y3 := k3.cell 3
      simp only [List.getElem?_toArray, List.getElem?_cons_zero, List.getElem?_cons_succ] at y0 y1 y2 y3
      clear hr HE HC HSE k0 k1 k2
      obtain ⟨r, hrr⟩ : ∃ r, r = transE t l f m p q := ⟨_, rfl⟩
      rw [← hrr] at hr' ⊢
      have HRR := Lib.hid hrr
      clear hrr
      go_wp2
      refine bodyPost_ret (v := .tuple #[.agg #[.int .i64 0, .int .i64 0, .int .i64 0, .int .i64 0], .int .i64 r]) (by simp [results, Try.f54, go_sem, y0, y1, y2, y3]) rfl ⟨Ext.set (Ext.set (Ext.set (Ext.set e1 (by dsimp only; omega) _) (by dsimp only; omega) _) (by dsimp only; omega) _) (by dsimp only; omega) _, .inl ⟨HR.out, by rw [HRR.out]⟩⟩

end Go.Proofs.Ytpaoeghdfeekoaa

/- The currents of a ladder. By regen.py. -/
namespace Go.Proofs.Ytpaoeghdfeekoaa
open Go.RowKit Go.Shelf Go.Mem Go.RegInv
attribute [local go_sem] Oper.semAt_some RelUpon_value RelUpon_skip RelUpon_enter

def curr : List Sh → List G → List G
  | s :: ls, z :: zs => plusG ((curr ls zs).getD 0 ⟨0, 0⟩) s.g z :: curr ls zs
  | _, _ => []
theorem curr_len : ∀ (ls : List Sh) (zs : List G), ls.length = zs.length → (curr ls zs).length = ls.length
  | [], [], _ => rfl
  | s :: ls, z :: zs, h => by simp only [curr, List.length_cons, curr_len ls zs (by simpa using h)]
  | [], z :: zs, h => by simp at h
  | s :: ls, [], h => by simp at h
/-- The current to node k. -/
def curAt (ls : List Sh) (zs : List G) (k : Nat) : G := (curr ls zs).getD k ⟨0, 0⟩
theorem curAt_step : ∀ (ls : List Sh) (zs : List G) (k : Nat) (s : Sh) (z : G), ls[k]? = some s → zs[k]? = some z → curAt ls zs k = plusG (curAt ls zs (k + 1)) s.g z
  | s' :: ls, z' :: zs, 0, s, z, h, h' => by
    obtain rfl : s' = s := by simpa using h
    obtain rfl : z' = z := by simpa using h'
    simp [curAt, curr]
  | s' :: ls, z' :: zs, k + 1, s, z, h, h' => by
    have := curAt_step ls zs k s z (by simpa using h) (by simpa using h')
    simpa [curAt, curr] using this
  | [], _, k, s, z, h, _ => by simp at h
  | _ :: _, [], k, s, z, _, h => by simp at h
theorem curAt_end (ls : List Sh) (zs : List G) (h : ls.length = zs.length) (k : Nat) (hk : ls.length ≤ k) : curAt ls zs k = ⟨0, 0⟩ := by
  simp [curAt, List.getElem?_eq_none (show (curr ls zs).length ≤ k by rw [curr_len ls zs h]; exact hk)]
theorem curAt_bd {ls : List Sh} {zs : List G} (h : ls.length = zs.length) (hok : ∀ s ∈ ls, shOK s) (hb : ∀ z ∈ zs, Bd 300000000 z) : ∀ j k, j + k = ls.length → Bd ((j : Int) * 1200000000) (curAt ls zs k)
  | 0, k, hk => by rw [curAt_end ls zs h k (by omega)]; simp [Bd]
  | j + 1, k, hk => by
    have hs : ls[k]? = some ls[k] := List.getElem?_eq_getElem (by omega)
    have hz : zs[k]? = some zs[k] := List.getElem?_eq_getElem (by omega)
    have h1 := curAt_bd h hok hb j (k + 1) (by omega)
    have h2 := hb _ (List.mem_of_getElem? hz)
    have h3 := (hok _ (List.mem_of_getElem? hs)).1
    rw [curAt_step ls zs k _ _ hs hz]
    have := plus_bd (n := ls[k].g) h1 h2 (by omega) h3.2
    simp only [Bd] at this ⊢
    omega

def CellsFrom (m k : Nat) (cu : Array Value) (z : Nat → G) : Prop := m * 2 ≤ cu.size ∧ ∀ p, k ≤ p → p < m → cu[p * 2]? = some (.int .i64 (z p).re) ∧ cu[p * 2 + 1]? = some (.int .i64 (z p).im)
theorem cellsFrom_set {m k : Nat} {cu : Array Value} {z : Nat → G} (h : CellsFrom m (k + 1) cu z) (hk : k < m) :
    CellsFrom m k ((cu.setIfInBounds (k * 2) (.int .i64 (z k).re)).setIfInBounds (k * 2 + 1) (.int .i64 (z k).im)) z := by
  obtain ⟨hs, hp⟩ := h
  refine ⟨by simp only [Array.size_setIfInBounds]; exact hs, fun p h1 h2 => ?_⟩
  simp only [set_at, Array.size_setIfInBounds]
  by_cases hpk : p = k
  · subst hpk
    refine ⟨?_, ?_⟩
    · rw [if_neg (by omega), if_pos rfl, if_pos (by omega)]
    · rw [if_pos rfl, if_pos (by omega)]
  · obtain ⟨h3, h4⟩ := hp p (by omega) h2
    refine ⟨?_, ?_⟩
    · rw [if_neg (by omega), if_neg (by omega)]; exact h3
    · rw [if_neg (by omega), if_neg (by omega)]; exact h4

theorem wpListIn_make_blk {F : Fence} {n : Nat} {P : Program} (w : World) {ops : Array Oper} {rest : List Oper} {o : Oper} {a : Act} {Q : Exit → Act → World → Prop}
    (hg : o.guard = none) (l c : Operand) (t : TypeId) (hop : o.op = Op.makeSlice t l c)
    (e : TypeId) (i : TypeInfo) (z : Value) (size : Nat) (h1 : P.underlying t = some (.slice e)) (h2 : P.info? e = some i) (h3 : i.zero = some z) (h4 : i.size = size)
    (kl kc : IntKind) (L C : Int) (m : Nat) (hl : a.eval l = .int kl L) (hc : a.eval c = .int kc C) (hL : L = (m : Int)) (hC : C = (m : Int)) (b2 : i.bytes * m ≤ 281474976710656) (b3 : m ≤ 1000)
    (hK : wpListIn F n P ops Q rest (a.put o.dst (.slice (some ⟨w.heap.size, 0, none⟩) m m)) (w.alloc (.cells (madeCells z.cells (m * size)) e))) :
    wpListIn F n P ops Q (o :: rest) a w := by
  refine wpListIn_plain hg fun K hK' => ?_
  subst h4
  have hb' : (i.bytes : Int) * (m : Int) ≤ 281474976710656 := by
    have h : ((i.bytes * m : Nat) : Int) ≤ 281474976710656 := by omega
    rwa [Int.natCast_mul] at h
  have hrun := run_make (P := P) w t e i z h1 h2 h3 kl kc m m (by omega) (Int.le_refl _) hb' (by omega)
  simp only [Int.toNat_natCast] at hrun
  subst hL
  subst hC
  unfold Oper.wpIn
  refine ⟨?_, ?_⟩
  · simp [Oper.about, hop]
  · rw [Oper.semAt_plain F _ _ (by rw [hop]; intro c hc'; cases hc')]
    simp [execOp, hop, hl, hc, hrun, Result.andThen]
    exact hK' _ _ hK

theorem backE_idx (ls : List Sh) (j : Nat) (x : Ix ls) (h : (backE ls)[j]? = some x) : j + 1 + x.1.1 = ls.length := by
  obtain ⟨hj, rfl⟩ := List.getElem?_eq_some_iff.1 h
  rw [backE_length] at hj
  simp only [backE, List.getElem_ofFn]
  omega

set_option maxRecDepth 100000 in
set_option maxHeartbeats 2000000 in
theorem backward_iter (n : Nat) (hn : 1 ≤ n) (Bs n₀ : Nat) (A : Option Addr) (m cap : Nat) (ls : List Sh) (hm : ls.length = m) (W0 : World)
    (hBs : Blk W0 Bs 22 #[.slice A m cap]) (hS : RowsAt 3 Sh.enc W0 A ls) (hA : ∀ b o, A = some ⟨b, o, none⟩ → b < n₀) (hn0 : n₀ ≤ W0.heap.size) :
    IterAt Try.prog n 137 #[] #[.pointer (some ⟨Bs, 0, none⟩)] (encIx (ls := ls)) (backE ls) (KpB n₀ Bs) W0 := by
  intro l J Jx W hck hbw hJ hJx hY h0
  have hmb : m ≤ 1152921504606846976 := by have := hS.1; omega
  have hbs : W.cell? ⟨Bs, 0, none⟩ = some (.slice A m cap) := (hck.blk hBs).cell 0
  have HM := Lib.hid hm
  have HS := Lib.hid hS
  have HA := Lib.hid hA
  have HBW := Lib.hid (hbw.mono hn0)
  have HL := Lib.hid (backE_length ls)
  clear hS hm hA hck hbw hBs
  show CallsIn Fence.wide n Try.prog 137 #[.func (.yield l) #[] #[], .pointer (some ⟨Bs, 0, none⟩)] W _
  refine callsIn_of_wp Try.func137 rfl trivial ?_ rfl
  simp only [Try.ntmps137, List.size_toArray, List.length_cons, List.length_nil, Nat.reduceAdd, Nat.reduceSub, Array.replicate_succ, Array.replicate_zero, List.push_toArray, List.append_toArray, List.nil_append, List.cons_append]
  gi_wp2
  gi_loopw [3] (fun i wr => (i = .int .i64 (-1) ∧ J m wr) ∨ (∃ k : Nat, k < m ∧ i = .int .i64 (k : Int) ∧ J (m - 1 - k) wr ∧ KpB n₀ Bs W wr))
    (fun i _ => (intOf i + 1).toNat)
  case atStart =>
    rcases Nat.eq_zero_or_pos m with h | h
    · left
      subst h
      exact ⟨rfl, h0⟩
    · right
      exact ⟨m - 1, by omega, by go_num, by rw [Nat.sub_self]; exact h0, KpB.refl _ _ _⟩
  case round =>
    rcases hrel with ⟨rfl, hJ'⟩ | ⟨k, hk, rfl, hJ', hkp⟩
    · gi_wp2
      go_end0
      exact ⟨⟨_, rfl⟩, .inl (by rw [HL.out, HM.out]; exact hJ')⟩
    · obtain ⟨s, hs⟩ : ∃ s, ls[k]? = some s := ⟨_, List.getElem?_eq_getElem (by rw [HM.out]; exact hk)⟩
      obtain ⟨b, o, hA', hb, hc⟩ := HS.out.2 k s hs
      have hbn := HA.out b o hA'
      subst hA'
      have hBs' : wr.cell? ⟨Bs, 0, none⟩ = some (.slice (some ⟨b, o, none⟩) m cap) := (World.cell?_of_block (w := W) hkp.2).trans hbs
      have hw : ∀ i, wr.cell? ⟨b, i, none⟩ = W0.cell? ⟨b, i, none⟩ := fun i => (hkp.1.cell (p := ⟨b, i, none⟩) hbn).trans (HBW.out.cell (p := ⟨b, i, none⟩) hbn)
      have hcg : wr.cell? ⟨b, o + k * 3, none⟩ = some (.int .i64 s.g) := (hw _).trans (hc 0 _ rfl)
      have hcc : wr.cell? ⟨b, o + k * 3 + 1, none⟩ = some (.int .i64 s.c) := (hw _).trans (hc 1 _ rfl)
      have hch : wr.cell? ⟨b, o + k * 3 + 2, none⟩ = some (.int .i64 s.h) := (hw _).trans (hc 2 _ rfl)
      have hat := backE_at ls k s hs
      rw [HM.out] at hat
      obtain ⟨fn, tmps, assign, body, hy, hR⟩ := hY _ ⟨(k, s), hs⟩ hat wr hJ'
      dsimp only [encIx] at hy
      clear hc hw hat
      gi_wp2
      refine hR.mono ?_
      rintro e W3 (⟨rfl, hJ3, hk3⟩ | ⟨rfl, hJx3⟩)
      · gi_wp2
        go_roundw
        case rel =>
          rcases Nat.eq_zero_or_pos k with h | h
          · left
            exact ⟨by subst h; go_num, by rw [show m - 1 - k + 1 = m by omega] at hJ3; exact hJ3⟩
          · right
            exact ⟨k - 1, by omega, by go_num, by rw [show m - 1 - (k - 1) = m - 1 - k + 1 by omega]; exact hJ3, hkp.t hk3⟩
        case measure => simp [intOf]
      · gi_wp2
        refine bodyPost_ret (results_none rfl _ _ _) rfl ?_
        exact ⟨⟨_, rfl⟩, .inr hJx3⟩

structure StC (w : World) (t : Int) (A : Option Addr) (m cap g c1 : Nat) (c : Nat → G) (k : Nat) (W : World) : Prop where
  b0 : Blk W w.heap.size 24 #[.int .i64 t, .slice A m cap]
  b1 : Blk W (w.heap.size + 1) 53 #[.slice (some ⟨g, 2, none⟩) m c1]
  b2 : ∃ cu, Blk W (w.heap.size + 1 + 1) 65 cu ∧ CellsFrom m k cu c
  b3 : Blk W (w.heap.size + 1 + 1 + 1) 53 #[.slice (some ⟨w.heap.size + 1 + 1, 0, none⟩) m m]
  b4 : Blk W (w.heap.size + 1 + 1 + 1 + 1) 65 #[.int .i64 (c k).re, .int .i64 (c k).im]
  bs : Blk W (w.heap.size + 1 + 1 + 1 + 1 + 1) 22 #[.slice A m cap]
  below : Below w.heap.size w W
theorem StC.keep {w : World} {t : Int} {A : Option Addr} {m cap g c1 : Nat} {c : Nat → G} {k : Nat} {W W' : World} (h : StC w t A m cap g c1 c k W) (hc : CellsKept W W') (hb : Below w.heap.size W W') : StC w t A m cap g c1 c k W' :=
  ⟨hc.blk h.b0, hc.blk h.b1, by obtain ⟨cu, h1, h2⟩ := h.b2; exact ⟨cu, hc.blk h1, h2⟩, hc.blk h.b3, hc.blk h.b4, hc.blk h.bs, h.below.trans hb⟩
theorem StC.ext {w : World} {t : Int} {A : Option Addr} {m cap g c1 : Nat} {c : Nat → G} {k : Nat} {W W' : World} (h : StC w t A m cap g c1 c k W) (e : Ext W W') : StC w t A m cap g c1 c k W' := h.keep (CellsKept.ext e) (e.mono h.below.size)
theorem StC.step {w : World} {t : Int} {A : Option Addr} {m cap g c1 : Nat} {c : Nat → G} {k : Nat} {W : World} (h : StC w t A m cap g c1 c (k + 1) W) (hk : k < m) {x y : Int} (hx : x = (c k).re) (hy : y = (c k).im) :
    StC w t A m cap g c1 c k ((((W.setCell ⟨w.heap.size + 1 + 1 + 1 + 1, 0, none⟩ (.int .i64 x)).setCell ⟨w.heap.size + 1 + 1 + 1 + 1, 1, none⟩ (.int .i64 y)).setCell ⟨w.heap.size + 1 + 1, k * 2, none⟩ (.int .i64 x)).setCell ⟨w.heap.size + 1 + 1, k * 2 + 1, none⟩ (.int .i64 y)) := by
  have o4 : ∀ {g : Nat} {t : TypeId} {cs : Array Value}, Blk W g t cs → g ≠ w.heap.size + 1 + 1 + 1 + 1 → g ≠ w.heap.size + 1 + 1 → Blk ((((W.setCell ⟨w.heap.size + 1 + 1 + 1 + 1, 0, none⟩ (.int .i64 x)).setCell ⟨w.heap.size + 1 + 1 + 1 + 1, 1, none⟩ (.int .i64 y)).setCell ⟨w.heap.size + 1 + 1, k * 2, none⟩ (.int .i64 x)).setCell ⟨w.heap.size + 1 + 1, k * 2 + 1, none⟩ (.int .i64 y)) g t cs :=
    fun b h1 h2 => (((b.setOther h1 _).setOther h1 _).setOther h2 _).setOther h2 _
  refine ⟨o4 h.b0 (by omega) (by omega), o4 h.b1 (by omega) (by omega), ?_, o4 h.b3 (by omega) (by omega), ?_, o4 h.bs (by omega) (by omega), (((h.below.setCell (by dsimp only; omega) _).setCell (by dsimp only; omega) _).setCell (by dsimp only; omega) _).setCell (by dsimp only; omega) _⟩
  · obtain ⟨cu, h1, h2⟩ := h.b2
    refine ⟨_, (((h1.setOther (by dsimp only; omega) _).setOther (by dsimp only; omega) _).setSame _ _).setSame _ _, ?_⟩
    rw [hx, hy]
    exact cellsFrom_set h2 hk
  · have := (((h.b4.setSame 0 (.int .i64 x)).setSame 1 (.int .i64 y)).setOther (p := ⟨w.heap.size + 1 + 1, k * 2, none⟩) (by dsimp only; omega) (.int .i64 x)).setOther (p := ⟨w.heap.size + 1 + 1, k * 2 + 1, none⟩) (by dsimp only; omega) (.int .i64 y)
    rw [← hx, ← hy]
    simpa using this

set_option maxRecDepth 100000 in
set_option maxHeartbeats 2000000 in
theorem currentsOf_in (t : Int) (A : Option Addr) (m cap : Nat) (ls : List Sh) (hm : ls.length = m) (g cp : Nat) (vs : List G) (hv : vs.length = m + 1) (w : World)
    (hS : RowsAt 3 Sh.enc w A ls) (hV : RowsAt 2 G.enc w (some ⟨g, 0, none⟩) vs) (hcp : m + 1 ≤ cp) (hok : ∀ s ∈ ls, shOK s) (hb : ∀ z ∈ vs.tail, Bd 300000000 z) (h1 : 1 ≤ m) (h4 : m ≤ 4) :
    CallsIn Fence.wide 5 Try.prog 90 #[.agg #[.int .i64 t, .slice A m cap], .slice (some ⟨g, 0, none⟩) (m + 1) cp] w fun e w' =>
      ∃ g' c' cu, e = .returned (.slice (some ⟨g', 0, none⟩) m c') ∧ RowsAt 2 G.enc w' (some ⟨g', 0, none⟩) (curr ls vs.tail) ∧ Blk w' g' 65 cu ∧ Ext w w' := by
  have HS := Lib.hid hS
  have HVT := Lib.hid (rows_tail hV)
  have HM := Lib.hid hm
  have HZ := Lib.hid (show vs.tail.length = m by simp [hv])
  have HOK := Lib.hid hok
  have HLZ := Lib.hid (show ls.length = vs.tail.length by simp [hv, hm])
  have HBD := Lib.hid (fun j k => curAt_bd (ls := ls) (zs := vs.tail) (by simp [hv, hm]) hok hb j k)
  have HBZ := Lib.hid hb
  have HA := Lib.hid (show ∀ b o, A = some ⟨b, o, none⟩ → b < w.heap.size from fun b o hA => by
    obtain ⟨b', o', h1', h2', _⟩ := hS.2 0 _ (List.getElem?_eq_getElem (by omega))
    rw [hA] at h1'
    simp at h1'
    omega)
  obtain ⟨i0, hi, hz0, hz1, hz2⟩ := info_parts info65
  have HI0 := Lib.hid hz0
  have hc1 : (cp == 1) = false := by rw [beq_eq_false_iff_ne]; omega
  have hc2 : ¬ cp = 1 := by omega
  have hc3 : (1 : Int) ≤ ((m : Int) + 1) := by omega
  have hc4 : ((m : Int) + 1) ≤ (cp : Int) := by omega
  clear hS hV hm hv hok hb
  refine callsIn_of_wp_marks Try.func90 rfl trivial ?_ rfl
  simp only [Try.ntmps90, List.size_toArray, List.length_cons, List.length_nil, Nat.reduceAdd, Nat.reduceSub, Array.replicate_succ, Array.replicate_zero, List.push_toArray, List.append_toArray, List.nil_append, List.cons_append]
  gi_wp2_with (first
    | (gi_at_make; refine wpListIn_make_blk _ rfl _ _ 53 rfl 65 i0 (.agg #[.int .i64 0, .int .i64 0]) 2 Try.underlying53 hi HI0.out hz1 .i64 .i64 _ _ m rfl rfl rfl rfl (by rw [hz2]; omega) (by omega) ?_)
    | (refine ⟨trivial, ?_⟩; gi_at_call 127; refine (callsIn_wide.2 (backward_any _ _ _ _)).mono ?_; rintro e w' ⟨rfl, rfl⟩))
  have hst : StC w t A m cap g (cp - 1) (curAt ls vs.tail) m (((((((w.alloc (.cells #[.int .i64 t, .slice A m cap] 24)).alloc (.cells #[.slice (some ⟨g, 2, none⟩) m (cp - 1)] 53)).alloc (.cells (madeCells #[.int .i64 0, .int .i64 0] (m * 2)) 65)).alloc (.cells #[.slice (some ⟨w.heap.size + 1 + 1, 0, none⟩) m m] 53)).alloc (.cells #[.int .i64 0, .int .i64 0] 65)).alloc (.cells #[.slice A m cap] 22))) := by
    refine ⟨(((((Blk.newAt _ _ _ (by simp)).alloc _).alloc _).alloc _).alloc _).alloc _, ((((Blk.newAt _ _ _ (by simp)).alloc _).alloc _).alloc _).alloc _, ⟨_, (((Blk.newAt _ _ _ (by simp)).alloc _).alloc _).alloc _, ?_⟩, ((Blk.newAt _ _ _ (by simp)).alloc _).alloc _, ?_, Blk.newAt _ _ _ (by simp), ?_⟩
    · exact ⟨by rw [size_madeCells]; omega, fun p h1 h2 => by omega⟩
    · rw [curAt_end ls vs.tail HLZ.out m (by rw [HM.out]; omega)]
      exact (Blk.newAt _ _ _ (by simp)).alloc _
    · exact (Ext.alloc _ _).trans ((Ext.alloc _ _).trans ((Ext.alloc _ _).trans ((Ext.alloc _ _).trans ((Ext.alloc _ _).trans (Ext.alloc _ _)))))
  generalize hW0 : (((((((w.alloc (.cells #[.int .i64 t, .slice A m cap] 24)).alloc (.cells #[.slice (some ⟨g, 2, none⟩) m (cp - 1)] 53)).alloc (.cells (madeCells #[.int .i64 0, .int .i64 0] (m * 2)) 65)).alloc (.cells #[.slice (some ⟨w.heap.size + 1 + 1, 0, none⟩) m m] 53)).alloc (.cells #[.int .i64 0, .int .i64 0] 65)).alloc (.cells #[.slice A m cap] 22))) = W0 at hst ⊢
  clear hW0
  have hlt0 := hst.bs.lt
  have hlt4 := hst.b4.lt
  have hw0 := hst.below.size
  refine rangeFunc_list (by omega) (gf := 137) (first := #[]) (lb := #[.pointer (some ⟨w.heap.size + 1 + 1 + 1 + 1 + 1, 0, none⟩)]) rfl (enters_of Try.func137 (by kernel_rfl) rfl) (encs := encIx) (full := backE ls) (Kp := KpB w.heap.size (w.heap.size + 1 + 1 + 1 + 1 + 1))
    (backward_iter 4 (by omega) (w.heap.size + 1 + 1 + 1 + 1 + 1) w.heap.size A m cap ls HM.out W0 hst.bs (HS.out.ext hst.below) HA.out hw0) (fun h k => h.t k) (fun X Y _ hb => ⟨hb.mono hw0, hb.block _ hlt0⟩) (fun _ => rfl)
    (fun j W => StC w t A m cap g (cp - 1) (curAt ls vs.tail) (m - j) W) (fun _ _ => False)
    (fun j X Y h hc hb => h.keep hc (hb.mono hw0)) (fun _ _ _ h _ _ => h) hst
    (fun x a' W => ∃ Bx, w.heap.size + 1 + 1 + 1 + 1 + 1 < Bx ∧ Blk W Bx 92 #[.int .i64 x.1.2.g, .int .i64 x.1.2.c, .int .i64 x.1.2.h] ∧ a' =
      { tmps := #[.agg #[.int .i64 t, .slice A m cap], .slice (some ⟨g, 0, none⟩) (m + 1) cp,
        .pointer (some ⟨w.heap.size, 0, none⟩), undef, .slice none 0 0, .pointer (some ⟨w.heap.size + 1, 0, none⟩), .pointer (some ⟨w.heap.size + 1 + 1 + 1, 0, none⟩), .pointer (some ⟨w.heap.size + 1 + 1 + 1 + 1, 0, none⟩),
        .int .i64 (x.1.1 : Int), .pointer (some ⟨Bx, 0, none⟩), .slice (some ⟨g, 0, none⟩) (m + 1) cp, .slice (some ⟨g, 2, none⟩) m (cp - 1), .slice (some ⟨g, 2, none⟩) m (cp - 1), .int .i64 (m : Int), .slice (some ⟨w.heap.size + 1 + 1, 0, none⟩) m m,
        .agg #[.int .i64 0, .int .i64 0], .pointer (some ⟨w.heap.size, 1, none⟩), .slice A m cap, .func (.func 137) #[] #[.pointer (some ⟨w.heap.size + 1 + 1 + 1 + 1 + 1, 0, none⟩)], .int .i64 (x.1.1 : Int), .agg #[.int .i64 x.1.2.g, .int .i64 x.1.2.c, .int .i64 x.1.2.h],
        undef, undef, undef, undef, undef, undef, undef, undef, undef, undef, undef, undef, undef], defers := [] }) (by rintro x a' X Y ⟨Bx, h1', h2', h3'⟩ hc hb; exact ⟨Bx, h1', hc.blk h2', h3'⟩) ?assign ?body ?done ?stop
  case assign =>
    intro l j x W K hxj hsz hI hK'
    have hz := hI.bs.lt
    unfold encIx
    gi_wp2
    exact hK' _ _ (KeepsOthers.alloc _ _) ⟨(Below.refl _ _).alloc hI.below.size _, Below.heap_alloc _ _ _ hz⟩ (hI.ext (Ext.alloc _ _)) ⟨W.heap.size, hz, Blk.new _ _ _, rfl⟩
  case body =>
    rintro lp j ⟨⟨k, s⟩, hx⟩ a' Wb hxj hsz hI ⟨Bx, hBx, bX, rfl⟩
    dsimp only at bX hx ⊢
    have hjk := backE_idx ls j _ hxj
    dsimp only at hjk
    rw [HM.out] at hjk
    rw [show m - j = k + 1 by omega] at hI
    rw [show m - (j + 1) = k by omega]
    clear hxj
    have hkm : (k : Int) < (m : Int) := by omega
    have hkm' : k < m := by omega
    obtain ⟨z, hz⟩ : ∃ z, vs.tail[k]? = some z := ⟨_, List.getElem?_eq_getElem (by rw [HZ.out]; exact hkm')⟩
    have HSTEP := Lib.hid (curAt_step ls vs.tail k s z hx hz)
    have hbc := HBD.out (m - (k + 1)) (k + 1) (by rw [HM.out]; omega)
    have hbz := HBZ.out z (List.mem_of_getElem? hz)
    have hg := (HOK.out s (List.mem_of_getElem? hx)).1
    obtain ⟨b1, o1, e1, _, hcz⟩ := HVT.out.2 k z hz
    obtain ⟨rfl, rfl⟩ : g = b1 ∧ 2 = o1 := by simpa using e1
    have hbel := hI.below
    obtain ⟨za, zb⟩ := z
    have y0 : Wb.cell? ⟨g, 2 + k * 2, none⟩ = some (.int .i64 za) := Ext.cell hbel (hcz 0 _ rfl)
    have y1 : Wb.cell? ⟨g, 2 + k * 2 + 1, none⟩ = some (.int .i64 zb) := Ext.cell hbel (hcz 1 _ rfl)
    obtain ⟨⟨ca, cb⟩, hcab⟩ : ∃ c : G, c = curAt ls vs.tail (k + 1) := ⟨_, rfl⟩
    rw [← hcab] at hbc HSTEP
    have HI := Lib.hid hI
    have hI4 := hI.b4
    rw [← hcab] at hI4
    have hmk : ((m - (k + 1) : Nat) : Int) ≤ 3 := by omega
    simp only [Bd] at hbc hbz
    have hm0 : (0 : Int) ≤ ((m - (k + 1) : Nat) : Int) := by omega
    generalize ((m - (k + 1) : Nat) : Int) = mk at hbc hmk hm0
    have HP := Lib.hid (plus_any ca cb s.g za zb (by unfold Mid; omega) (by unfold Mid; omega) (mid_of (N := 4) (B := 300000000) (by omega) hg.2 (by omega) (by omega) (by omega)) (mid_of (N := 4) (B := 300000000) (by omega) hg.2 (by omega) (by omega) (by omega)))
    have HX := Lib.hid bX
    clear hbc hbz hg hcz e1 hz hx hcab hmk hm0 hbel
    gi_wp2
    refine wpIn_region_part (WideIn.inRound lp) (by kernel_rfl) 8 [some 21, some 22, some 23, some 24, some 25, some 26, some 27, some 28] [[7], [9], [22], [5], [8], [24, 25], [26], [21, 23, 27]]
      [Is (.agg #[.int .i64 (ca), .int .i64 (cb)]), Is (.pointer (some ⟨Bx, 0, none⟩)), Is (.int .i64 (s.g)), Is (.slice (some ⟨g, 2, none⟩) m (cp - 1)), Is (.int .i64 ((k : Int))), Is (.pointer (some ⟨g, 2 + k * 2, none⟩)), Is (.agg #[.int .i64 (za), .int .i64 (zb)]), Is (.agg #[.int .i64 (ca + s.g * za), .int .i64 (cb + s.g * zb)])]
      (by kernel_rfl) (by kernel_rfl) (by kernel_rfl) (by kernel_rfl) (by kernel_rfl) (by kernel_rfl) (by kernel_rfl) Ext (fun W => Ext Wb W)
      (fun W _ => Ext.refl W) (fun W W' h k => h.trans k) ?_ (Ext.drew _) ?_ ?_
    · repeat (refine ⟨fun _ _ _ _ k h => (by first | exact h | exact IntsAt.ext h k), ?_⟩)
      exact trivial
    · refine ⟨?_, ?_, ?_, ?_, ?_, ?_, ?_, ?_, trivial⟩
      all_goals intro ρ W ⟨kc, kg, kf⟩ hF hs
      · obtain ⟨h0, -⟩ := hs
        replace h0 : ρ (.tmp 7) = .pointer (some ⟨w.heap.size + 1 + 1 + 1 + 1, 0, none⟩) := h0
        have hc0 : W.cell? ⟨w.heap.size + 1 + 1 + 1 + 1, 0, none⟩ = some (.int .i64 (ca)) := (hI4.ext hF).cell 0
        have hc1 : W.cell? ⟨w.heap.size + 1 + 1 + 1 + 1, 1, none⟩ = some (.int .i64 (cb)) := (hI4.ext hF).cell 1
        go_simp
        exact ⟨Ext.refl _, rfl⟩
      · obtain ⟨h0, -⟩ := hs
        replace h0 : ρ (.tmp 9) = .pointer (some ⟨Bx, 0, none⟩) := h0
        go_simp
        exact ⟨Ext.refl _, rfl⟩
      · obtain ⟨h0, -⟩ := hs
        replace h0 : ρ (.tmp 22) = .pointer (some ⟨Bx, 0, none⟩) := h0
        have hc0 : W.cell? ⟨Bx, 0, none⟩ = some (.int .i64 (s.g)) := (HX.out.ext hF).cell 0
        go_simp
        exact ⟨Ext.refl _, rfl⟩
      · obtain ⟨h0, -⟩ := hs
        replace h0 : ρ (.tmp 5) = .pointer (some ⟨w.heap.size + 1, 0, none⟩) := h0
        have hc0 : W.cell? ⟨w.heap.size + 1, 0, none⟩ = some (.slice (some ⟨g, 2, none⟩) m (cp - 1)) := (HI.out.ext hF).b1.cell 0
        go_simp
        exact ⟨Ext.refl _, rfl⟩
      · obtain ⟨h0, -⟩ := hs
        replace h0 : ρ (.tmp 8) = .int .i64 ((k : Int)) := h0
        go_simp
        exact ⟨Ext.refl _, rfl⟩
      · obtain ⟨h0, h1, -⟩ := hs
        replace h0 : ρ (.tmp 24) = .slice (some ⟨g, 2, none⟩) m (cp - 1) := h0
        replace h1 : ρ (.tmp 25) = .int .i64 ((k : Int)) := h1
        have hkm2 : (k : Int) < (m : Int) := hkm
        go_simp
        exact ⟨Ext.refl _, rfl⟩
      · obtain ⟨h0, -⟩ := hs
        replace h0 : ρ (.tmp 26) = .pointer (some ⟨g, 2 + k * 2, none⟩) := h0
        have hc0 : W.cell? ⟨g, 2 + k * 2, none⟩ = some (.int .i64 (za)) := hF.cell (by assumption)
        have hc1 : W.cell? ⟨g, 2 + k * 2 + 1, none⟩ = some (.int .i64 (zb)) := hF.cell (by assumption)
        go_simp
        exact ⟨Ext.refl _, rfl⟩
      · obtain ⟨h0, h1, h2, -⟩ := hs
        replace h0 : ρ (.tmp 21) = .agg #[.int .i64 (ca), .int .i64 (cb)] := h0
        replace h1 : ρ (.tmp 23) = .int .i64 (s.g) := h1
        replace h2 : ρ (.tmp 27) = .agg #[.int .i64 (za), .int .i64 (zb)] := h2
        go_simp
        refine (HP.out W).mono ?_; rintro e w' ⟨rfl, hx⟩; exact ⟨_, rfl, hx, rfl⟩
    · intro fv W hF hs
      obtain ⟨-, -, -, -, -, -, -, h28, -⟩ := hs
      replace h28 : fv 28 = .agg #[.int .i64 (ca + s.g * za), .int .i64 (cb + s.g * zb)] := h28
      simp only [fin, List.filterMap]
      go_simp
      have hI2 := HI.out.ext hF
      have hb4 := hI4.ext hF
      have d0 := hb4.cell 0
      have d1 := hb4.cell 1
      have g0 := hb4.free 0
      have g1 := hb4.free 1
      simp only [List.getElem?_toArray, List.getElem?_cons_zero, List.getElem?_cons_succ] at d0 d1
      obtain ⟨cu, hc1', hc2'⟩ := hI2.b2
      have q0 : W.cell? ⟨w.heap.size + 1 + 1, k * 2, none⟩ = some (cu[k * 2]'(by have := hc2'.1; omega)) := by rw [hc1'.cell]; exact Array.getElem?_eq_getElem _
      have q1 : W.cell? ⟨w.heap.size + 1 + 1, k * 2 + 1, none⟩ = some (cu[k * 2 + 1]'(by have := hc2'.1; omega)) := by rw [hc1'.cell]; exact Array.getElem?_eq_getElem _
      have g2 := hc1'.free (k * 2)
      have g3 := hc1'.free (k * 2 + 1)
      have r0 : W.cell? ⟨w.heap.size + 1 + 1 + 1, 0, none⟩ = some (.slice (some ⟨w.heap.size + 1 + 1, 0, none⟩) m m) := hI2.b3.cell 0
      generalize (cu[k * 2]'(by have := hc2'.1; omega)) = u0 at q0
      generalize (cu[k * 2 + 1]'(by have := hc2'.1; omega)) = u1 at q1
      have HI2 := Lib.hid (hI2.step hkm' (x := ca + s.g * za) (y := cb + s.g * zb) (by rw [HSTEP.out]; rfl) (by rw [HSTEP.out]; rfl))
      have HK := Lib.hid (keepsOthers_ext hF)
      clear hI2 hb4 hc1' hc2' hF
      gi_wp2
      have hko := HK.out.trans ((KeepsOthers.setCell W ⟨w.heap.size + 1 + 1 + 1 + 1, 0, none⟩ (.int .i64 (ca + s.g * za))).trans ((KeepsOthers.setCell _ ⟨w.heap.size + 1 + 1 + 1 + 1, 1, none⟩ (.int .i64 (cb + s.g * zb))).trans ((KeepsOthers.setCell _ ⟨w.heap.size + 1 + 1, k * 2, none⟩ (.int .i64 (ca + s.g * za))).trans (KeepsOthers.setCell _ ⟨w.heap.size + 1 + 1, k * 2 + 1, none⟩ (.int .i64 (cb + s.g * zb))))))
      exact ⟨hko, ⟨below_of HI.out.below HI2.out.below hko.size, (show Blk _ _ _ _ from HI2.out.bs).trans (show Blk _ _ _ _ from HI.out.bs).symm⟩, HI2.out⟩
  case done =>
    rintro D W hD hI hK
    have hbl : (backE ls).length = m := by rw [backE_length, HM.out]
    rw [hbl, Nat.sub_self] at hI
    have z0 : W.cell? ⟨w.heap.size + 1 + 1 + 1, 0, none⟩ = some (.slice (some ⟨w.heap.size + 1 + 1, 0, none⟩) m m) := hI.b3.cell 0
    have HI := Lib.hid hI
    clear hI
    gi_wp2
    refine ⟨by simp, .inl ⟨_, _, rfl, run_takeDeferred hK, ?_⟩⟩
    have hkc := CellsKept.put (.deferred none) hK rfl
    obtain ⟨cu, h2, h3⟩ := HI.out.b2
    refine ⟨_, results_tmp rfl _ _ _, _, _, cu, rfl, ?_, hkc.blk h2, HI.out.below.trans (belowK_b (w := w) (Nat.le_refl _) W D _ _ (by omega) hK rfl rfl)⟩
    have hlen := curr_len ls vs.tail HLZ.out
    refine ⟨by rw [hlen, HM.out]; omega, fun i x hx => ⟨_, 0, rfl, (hkc.blk h2).lt, fun j u hu => ?_⟩⟩
    have hi : i < m := by have := (List.getElem?_eq_some_iff.1 hx).1; rw [hlen, HM.out] at this; exact this
    obtain ⟨h4', h5⟩ := h3.2 i (Nat.zero_le _) hi
    have hxi : curAt ls vs.tail i = x := by simp [curAt, hx]
    rw [hxi] at h4' h5
    rw [(hkc.blk h2).cell]
    match j, hu with
    | 0, hu => rw [Nat.zero_add, Nat.add_zero, h4']; simpa [G.enc] using hu
    | 1, hu => rw [Nat.zero_add, h5]; simpa [G.enc] using hu
    | j + 2, hu => simp [G.enc] at hu
  case stop =>
    rintro D c W _ h _
    exact h.elim

end Go.Proofs.Ytpaoeghdfeekoaa

/- The impedance at the input. By regen.py. -/
namespace Go.Proofs.Ytpaoeghdfeekoaa
open Go.RowKit Go.Mem Go.RegInv
attribute [local go_sem] RelUpon_value RelUpon_skip RelUpon_enter BigFrame.eval_const BigFrame.eval_global BigFrame.eval_func

def Fresh (q : Nat) : Value → World → Prop := fun u W => ∃ b, q ≤ b ∧ u = .pointer (some ⟨b, 0, none⟩) ∧ Blk W b 65 #[.int .i64 0, .int .i64 0]
theorem Fresh.ext {q : Nat} {u : Value} {W W' : World} (h : Fresh q u W) (e : Ext W W') : Fresh q u W' := by
  obtain ⟨b, h1, h2, h3⟩ := h; exact ⟨b, h1, h2, h3.ext e⟩
def CuS (m : Nat) (zs : List G) : Value → World → Prop := fun u W => ∃ g c, u = .slice (some ⟨g, 0, none⟩) m c ∧ RowsAt 2 G.enc W (some ⟨g, 0, none⟩) zs
theorem CuS.ext {m : Nat} {zs : List G} {u : Value} {W W' : World} (h : CuS m zs u W) (e : Ext W W') : CuS m zs u W' := by
  obtain ⟨g, c, h1, h2⟩ := h; exact ⟨g, c, h1, h2.ext e⟩
def CuP (zs : List G) : Value → World → Prop := fun u W => ∃ g, u = .pointer (some ⟨g, 0, none⟩) ∧ RowsAt 2 G.enc W (some ⟨g, 0, none⟩) zs
theorem CuP.ext {zs : List G} {u : Value} {W W' : World} (h : CuP zs u W) (e : Ext W W') : CuP zs u W' := by
  obtain ⟨g, h1, h2⟩ := h; exact ⟨g, h1, h2.ext e⟩

/-- The current at the input. -/
def curIn (f : Int) (hot : List Bool) (l : List Sh) : G := curAt l (volts f hot l).tail 0
def impN (t f : Int) (hot : List Bool) (l : List Sh) : G := ⟨t * t * (volt f hot l 0).re, t * t * (volt f hot l 0).im⟩

theorem big_T {t : Int} (h : 1 ≤ t ∧ t ≤ 20) : 1 ≤ t * t ∧ t * t ≤ 400 := by
  have h1 := Int.mul_le_mul h.2 h.2 (by omega) (by decide)
  have h2 := Int.mul_le_mul h.1 h.1 (by decide) (by omega)
  omega

set_option maxRecDepth 100000 in
set_option maxHeartbeats 2000000 in
theorem impedanceOf_any (t : Int) (A : Option Addr) (n cap : Nat) (l : List Sh) (hn : l.length = n) (f : Int) (B : Option Addr) (m cap' : Nat) (hot : List Bool) (hm : hot.length = m) (w : World)
    (hS : RowsAt 3 Sh.enc w A l) (hH : RowsAt 1 boolEnc w B hot) (hD : driveE t l f m = 0 → (curIn f hot l).re ≠ 0 ∨ (curIn f hot l).im ≠ 0) :
    Calls Try.prog 53 #[.agg #[.int .i64 t, .slice A n cap], .agg #[.int .i64 f, .slice B m cap']] w fun e w' => Ext w w' ∧
      ((driveE t l f m ≠ 0 ∧ e = .returned (.tuple #[.agg #[.int .i64 0, .int .i64 0, .int .i64 0, .int .i64 0], .int .i64 (driveE t l f m)])) ∨
       (driveE t l f m = 0 ∧ e = .returned (.tuple #[.agg (redV (impN t f hot l) (curIn f hot l)), .int .i64 0]))) := by
  have HC := Lib.hid (fun W (e : Ext w W) => checkDrive_any t A n cap l hn f B m cap' W (hS.ext e))
  have e0 : Ext w (((w.alloc (.cells #[.int .i64 t, .slice A n cap] 24)).alloc (.cells #[.int .i64 f, .slice B m cap'] 27)).alloc (.cells #[.int .i64 0, .int .i64 0, .int .i64 0, .int .i64 0] 84)) := (Ext.alloc _ _).trans ((Ext.alloc _ _).trans (Ext.alloc _ _))
  have k0 : Blk (((w.alloc (.cells #[.int .i64 t, .slice A n cap] 24)).alloc (.cells #[.int .i64 f, .slice B m cap'] 27)).alloc (.cells #[.int .i64 0, .int .i64 0, .int .i64 0, .int .i64 0] 84)) w.heap.size 24 #[.int .i64 t, .slice A n cap] := ((Blk.newAt _ _ _ rfl).alloc _).alloc _
  have k1 : Blk (((w.alloc (.cells #[.int .i64 t, .slice A n cap] 24)).alloc (.cells #[.int .i64 f, .slice B m cap'] 27)).alloc (.cells #[.int .i64 0, .int .i64 0, .int .i64 0, .int .i64 0] 84)) (w.heap.size + 1) 27 #[.int .i64 f, .slice B m cap'] := (Blk.newAt _ _ _ (by simp)).alloc _
  have k3 : Blk (((w.alloc (.cells #[.int .i64 t, .slice A n cap] 24)).alloc (.cells #[.int .i64 f, .slice B m cap'] 27)).alloc (.cells #[.int .i64 0, .int .i64 0, .int .i64 0, .int .i64 0] 84)) (w.heap.size + 1 + 1) 84 #[.int .i64 0, .int .i64 0, .int .i64 0, .int .i64 0] := Blk.newAt _ _ _ (by simp)
  have HS := Lib.hid hS
  have HH := Lib.hid hH
  have HN := Lib.hid hn
  have HM := Lib.hid hm
  have HD := Lib.hid hD
  clear hn hS hm hH hD
  generalize hW0 : (((w.alloc (.cells #[.int .i64 t, .slice A n cap] 24)).alloc (.cells #[.int .i64 f, .slice B m cap'] 27)).alloc (.cells #[.int .i64 0, .int .i64 0, .int .i64 0, .int .i64 0] 84)) = W0 at e0 k0 k1 k3
  by_cases hr : driveE t l f m = 0
  · obtain ⟨⟨ht, ⟨h1, h4⟩, hok⟩, hf, hml⟩ := (driveE_zero t l f m).1 hr
    obtain rfl : n = m := by rw [hml, ← HN.out]
    rw [HN.out] at h1 h4
    have hl1 := HN.out
    have HV := Lib.hid (fun W (e : Ext w W) => callsIn_wide.1 (voltagesOf_in t A n cap l HN.out f B cap' hot HM.out W (HS.out.ext e) (HH.out.ext e) hok hf h1 h4))
    have hvb := volts_small (hot := hot) hok hf (by omega)
    have hvl := volts_len f hot l
    have HCU0 := Lib.hid (fun g cp (W : World) (e : Ext w W) hV hcp => currentsOf_in t A n cap l HN.out g cp (volts f hot l) (by rw [hvl, HN.out]) W (HS.out.ext e) hV hcp hok (fun z hz => by
      obtain ⟨i, hi⟩ := List.mem_iff_getElem?.1 hz
      exact hvb (i + 1) z (by simpa using hi)) h1 h4)
    have hlz : l.length = (volts f hot l).tail.length := by simp [hvl]
    have hcb := curAt_bd (ls := l) (zs := (volts f hot l).tail) hlz hok (fun z hz => by
      obtain ⟨i, hi⟩ := List.mem_iff_getElem?.1 hz
      exact hvb (i + 1) z (by simpa using hi)) n 0 (by omega)
    have hclen := curr_len l (volts f hot l).tail hlz
    obtain ⟨⟨d1, d2⟩, hdz⟩ : ∃ z : G, z = volt f hot l 0 := ⟨_, rfl⟩
    obtain ⟨⟨c1, c2⟩, hcz⟩ : ∃ z : G, z = curIn f hot l := ⟨_, rfl⟩
    have hv0 : (volts f hot l)[0]? = some ⟨d1, d2⟩ := by rw [hdz]; simp [volt, List.getElem?_eq_getElem (show 0 < (volts f hot l).length by omega)]
    have hc0 : (curr l (volts f hot l).tail)[0]? = some ⟨c1, c2⟩ := by rw [hcz]; simp [curIn, curAt, List.getElem?_eq_getElem (show 0 < (curr l (volts f hot l).tail).length by omega)]
    have hvb0 := hvb _ _ hv0
    rw [show curAt l (volts f hot l).tail 0 = ⟨c1, c2⟩ from hcz.symm] at hcb
    simp only [Bd] at hvb0 hcb
    obtain ⟨T, hT⟩ : ∃ T, T = t * t := ⟨_, rfl⟩
    have hTb := big_T ht
    rw [← hT] at hTb
    have hTw : IntKind.i64.wrap (t * t) = T := by rw [← hT]; exact IntWalk.i64_in _ (by omega)
    have m1 := mul_bd (n := T) (x := d1) (N := 400) (B := 300000000) (by omega) hTb.2 (by omega) (by omega)
    have m2 := mul_bd (n := T) (x := d2) (N := 400) (B := 300000000) (by omega) hTb.2 (by omega) (by omega)
    have HP := Lib.hid (fun W => show Calls Try.prog 108 #[.agg #[.int .i64 0, .int .i64 0], .int .i64 T, .agg #[.int .i64 d1, .int .i64 d2]] W fun e w' => e = .returned (.agg #[.int .i64 (T * d1), .int .i64 (T * d2)]) ∧ Ext W w' by
      have := plus_any 0 0 T d1 d2 (by unfold Mid; omega) (by unfold Mid; omega) (by unfold Mid; omega) (by unfold Mid; omega) W
      rw [Int.zero_add, Int.zero_add] at this
      exact this)
    have hdn := HD.out hr
    rw [← hcz] at hdn
    obtain ⟨a1, a2, a3, a4, hrv⟩ : ∃ a1 a2 a3 a4, redV ⟨T * d1, T * d2⟩ ⟨c1, c2⟩ = #[.int .i64 a1, .int .i64 a2, .int .i64 a3, .int .i64 a4] := ⟨_, _, _, _, rfl⟩
    have HRD := Lib.hid (fun W => show Calls Try.prog 109 #[.agg #[.int .i64 (T * d1), .int .i64 (T * d2)], .agg #[.int .i64 c1, .int .i64 c2]] W fun e w' => e = .returned (.agg #[.int .i64 a1, .int .i64 a2, .int .i64 a3, .int .i64 a4]) ∧ Ext W w' by
      rw [← hrv]
      exact reduced_any (T * d1) (T * d2) c1 c2 (by unfold Big; omega) (by unfold Big; omega) (by unfold Big; omega) (by unfold Big; omega) hdn W)
    have HRV := Lib.hid (show redV (impN t f hot l) (curIn f hot l) = #[.int .i64 a1, .int .i64 a2, .int .i64 a3, .int .i64 a4] by rw [← hrv, ← hcz, hT]; unfold impN; rw [← hdz])
    have HV0 := Lib.hid hv0
    have HC0 := Lib.hid hc0
    have HR := Lib.hid hr
    clear ht hok hf hml hvb hvl hlz hcb hclen hdz hcz hv0 hc0 hvb0 hT m1 m2 hdn hrv HD
    have hr' : (driveE t l f n != 0) = false := by simp [hr]
    rw [hr] at HC
    have z0 : W0.cell? ⟨w.heap.size, 0, none⟩ = some (.int .i64 t) := k0.cell 0
    have z1 : W0.cell? ⟨w.heap.size, 1, none⟩ = some (.slice A n cap) := k0.cell 1
    have z2 : W0.cell? ⟨w.heap.size + 1, 0, none⟩ = some (.int .i64 f) := k1.cell 0
    have z3 : W0.cell? ⟨w.heap.size + 1, 1, none⟩ = some (.slice B n cap') := k1.cell 1
    have K0 := Lib.hid k0
    have K1 := Lib.hid k1
    have K3 := Lib.hid k3
    clear hr k0 k1 k3 hl1 hTb
    go_enter Try.func53, Try.ntmps53
    go_wp2_with (first
      | (go_at_call 20; refine (HC.out _ e0).mono ?_; rintro e W1 ⟨rfl, hx1⟩; clear z0 z1 z2 z3; have z0 : W1.cell? ⟨w.heap.size, 0, none⟩ = some (.int .i64 t) := (K0.out.ext hx1).cell 0; have z1 : W1.cell? ⟨w.heap.size, 1, none⟩ = some (.slice A n cap) := (K0.out.ext hx1).cell 1; have z2 : W1.cell? ⟨w.heap.size + 1, 0, none⟩ = some (.int .i64 f) := (K1.out.ext hx1).cell 0; have z3 : W1.cell? ⟨w.heap.size + 1, 1, none⟩ = some (.slice B n cap') := (K1.out.ext hx1).cell 1)
      | (go_at_call 89; refine (HV.out _ (e0.trans hx1)).mono ?_; rintro e W4 ⟨g, cp, rfl, hrw, hx4, _, hcp, _⟩))
    have e4 := e0.trans (hx1.trans hx4)
    have E4 := Lib.hid (hx1.trans hx4)
    clear z0 z1 z2 z3
    have z0 : W4.cell? ⟨w.heap.size, 0, none⟩ = some (.int .i64 t) := (K0.out.ext E4.out).cell 0
    have z1 : W4.cell? ⟨w.heap.size, 1, none⟩ = some (.slice A n cap) := (K0.out.ext E4.out).cell 1
    have z2 : W4.cell? ⟨w.heap.size + 1, 0, none⟩ = some (.int .i64 f) := (K1.out.ext E4.out).cell 0
    have z3 : W4.cell? ⟨w.heap.size + 1, 1, none⟩ = some (.slice B n cap') := (K1.out.ext E4.out).cell 1
    obtain ⟨b0, o0, ee0, _, hc0⟩ := hrw.2 _ _ HV0.out
    obtain ⟨rfl, rfl⟩ : g = b0 ∧ 0 = o0 := by simpa using ee0
    have x3 : W4.cell? ⟨g, 0, none⟩ = some (.int .i64 d1) := by have := hc0 0 _ rfl; simpa using this
    have x4 : W4.cell? ⟨g, 1, none⟩ = some (.int .i64 d2) := by have := hc0 1 _ rfl; simpa using this
    have HCU := Lib.hid (fun W (e : Ext W4 W) => HCU0.out g cp W (e4.trans e) (hrw.ext e) hcp)
    have hk3l := K3.out.lt
    have hs4 := E4.out.size
    clear hc0 ee0
    refine wp_region_part 11 [some 19, some 20, some 21, some 22, some 23, some 24, some 25, some 26, some 27, some 28, some 8] [[], [2], [20], [2], [22], [21, 23], [7], [25], [26], [19, 24, 27], []]
      [Is (.agg #[.int .i64 0, .int .i64 0]), Is (.pointer (some ⟨w.heap.size, 0, none⟩)), Is (.int .i64 (t)), Is (.pointer (some ⟨w.heap.size, 0, none⟩)), Is (.int .i64 (t)), Is (.int .i64 (T)), Is (.slice (some ⟨g, 0, none⟩) (n + 1) cp), Is (.pointer (some ⟨g, 0, none⟩)), Is (.agg #[.int .i64 (d1), .int .i64 (d2)]), Is (.agg #[.int .i64 (T * d1), .int .i64 (T * d2)]), Fresh W4.heap.size]
      (by kernel_rfl) (by kernel_rfl) (by kernel_rfl) (by kernel_rfl) (by kernel_rfl) (by kernel_rfl) (by kernel_rfl) Ext (fun W => Ext W4 W)
      (fun W _ => Ext.refl W) (fun W W' h k => h.trans k) ?_ (Ext.drew _) ?_ ?_
    · repeat (refine ⟨fun _ _ _ _ k h => (by first | exact h | exact Fresh.ext h k), ?_⟩)
      exact trivial
    · refine ⟨?_, ?_, ?_, ?_, ?_, ?_, ?_, ?_, ?_, ?_, ?_, trivial⟩
      all_goals intro ρ W ⟨kc, kg, kf⟩ hF hs
      · go_simp
        exact ⟨Ext.refl _, rfl⟩
      · obtain ⟨h0, -⟩ := hs
        replace h0 : ρ (.tmp 2) = .pointer (some ⟨w.heap.size, 0, none⟩) := h0
        go_simp
        exact ⟨Ext.refl _, rfl⟩
      · obtain ⟨h0, -⟩ := hs
        replace h0 : ρ (.tmp 20) = .pointer (some ⟨w.heap.size, 0, none⟩) := h0
        have hc0 : W.cell? ⟨w.heap.size, 0, none⟩ = some (.int .i64 (t)) := hF.cell (by assumption)
        go_simp
        exact ⟨Ext.refl _, rfl⟩
      · obtain ⟨h0, -⟩ := hs
        replace h0 : ρ (.tmp 2) = .pointer (some ⟨w.heap.size, 0, none⟩) := h0
        go_simp
        exact ⟨Ext.refl _, rfl⟩
      · obtain ⟨h0, -⟩ := hs
        replace h0 : ρ (.tmp 22) = .pointer (some ⟨w.heap.size, 0, none⟩) := h0
        have hc0 : W.cell? ⟨w.heap.size, 0, none⟩ = some (.int .i64 (t)) := hF.cell (by assumption)
        go_simp
        exact ⟨Ext.refl _, rfl⟩
      · obtain ⟨h0, h1, -⟩ := hs
        replace h0 : ρ (.tmp 21) = .int .i64 (t) := h0
        replace h1 : ρ (.tmp 23) = .int .i64 (t) := h1
        have hw : IntKind.i64.wrap (t * t) = T := hTw
        go_simp
        exact ⟨Ext.refl _, rfl⟩
      · obtain ⟨h0, -⟩ := hs
        replace h0 : ρ (.tmp 7) = .slice (some ⟨g, 0, none⟩) (n + 1) cp := h0
        go_simp
        exact ⟨Ext.refl _, rfl⟩
      · obtain ⟨h0, -⟩ := hs
        replace h0 : ρ (.tmp 25) = .slice (some ⟨g, 0, none⟩) (n + 1) cp := h0
        have hn0 : (0 : Int) < (n : Int) + 1 := by omega
        go_simp
        exact ⟨Ext.refl _, rfl⟩
      · obtain ⟨h0, -⟩ := hs
        replace h0 : ρ (.tmp 26) = .pointer (some ⟨g, 0, none⟩) := h0
        have hc0 : W.cell? ⟨g, 0, none⟩ = some (.int .i64 (d1)) := hF.cell (by assumption)
        have hc1 : W.cell? ⟨g, 1, none⟩ = some (.int .i64 (d2)) := hF.cell (by assumption)
        go_simp
        exact ⟨Ext.refl _, rfl⟩
      · obtain ⟨h0, h1, h2, -⟩ := hs
        replace h0 : ρ (.tmp 19) = .agg #[.int .i64 0, .int .i64 0] := h0
        replace h1 : ρ (.tmp 24) = .int .i64 (T) := h1
        replace h2 : ρ (.tmp 27) = .agg #[.int .i64 (d1), .int .i64 (d2)] := h2
        go_simp
        refine (HP.out W).mono ?_; rintro e w' ⟨rfl, hx⟩; exact ⟨_, rfl, hx, rfl⟩
      · go_simp
        exact ⟨Ext.alloc _ _, W.heap.size, hF.size, rfl, Blk.new _ _ _⟩
    · intro fv W hF hs
      obtain ⟨-, -, -, -, -, -, -, -, -, h28, h8, -⟩ := hs
      replace h28 : fv 28 = .agg #[.int .i64 (T * d1), .int .i64 (T * d2)] := h28
      replace h8 : (Fresh W4.heap.size) (fv 8) W := h8
      simp only [fin, List.filterMap]
      go_simp
      obtain ⟨B0, hB0, e8, bB⟩ := h8
      have e8' : fv 8 = .pointer (some ⟨B0, 0, none⟩) := e8
      rw [e8']
      have d0 := bB.cell 0
      have dd1 := bB.cell 1
      have f0 := bB.free 0
      have f1 := bB.free 1
      simp only [List.getElem?_toArray, List.getElem?_cons_zero, List.getElem?_cons_succ] at d0 dd1
      have hE6 : Ext W4 ((W.setCell ⟨B0, 0, none⟩ (.int .i64 (T * d1))).setCell ⟨B0, 1, none⟩ (.int .i64 (T * d2))) := Ext.set (Ext.set hF hB0 _) hB0 _
      have hB6 := (bB.setSame 0 (.int .i64 (T * d1))).setSame 1 (.int .i64 (T * d2))
      have hB6' : Blk ((W.setCell ⟨B0, 0, none⟩ (.int .i64 (T * d1))).setCell ⟨B0, 1, none⟩ (.int .i64 (T * d2))) B0 65 #[.int .i64 (T * d1), .int .i64 (T * d2)] := by simpa using hB6
      have HE6 := Lib.hid hE6
      have HB6 := Lib.hid hB6'
      clear e8 e8' bB hE6 hB6 hB6' hF h28
      go_wp2
      generalize ((W.setCell ⟨B0, 0, none⟩ (.int .i64 (T * d1))).setCell ⟨B0, 1, none⟩ (.int .i64 (T * d2))) = W6 at HE6 HB6 ⊢
      clear d0 dd1 f0 f1
      have k3 := (K3.out.ext E4.out).ext HE6.out
      have x5 : W6.cell? ⟨B0, 0, none⟩ = some (.int .i64 (T * d1)) := HB6.out.cell 0
      have x6 : W6.cell? ⟨B0, 1, none⟩ = some (.int .i64 (T * d2)) := HB6.out.cell 1
      replace z0 := HE6.out.cell z0
      replace z1 := HE6.out.cell z1
      have HCU1 := Lib.hid (fun W (e : Ext W6 W) => HCU.out W (HE6.out.trans e))
      clear HCU z2 z3 x3 x4
      have HCU := HCU1
      clear HCU1
      refine wp_region_part 7 [some 29, some 30, some 31, some 32, some 33, some 34, some 35] [[8], [2], [7], [30, 31], [32], [33], [29, 34]]
        [Is (.agg #[.int .i64 (T * d1), .int .i64 (T * d2)]), Is (.agg #[.int .i64 (t), .slice A n cap]), Is (.slice (some ⟨g, 0, none⟩) (n + 1) cp), CuS n (curr l (volts f hot l).tail), CuP (curr l (volts f hot l).tail), Is (.agg #[.int .i64 c1, .int .i64 c2]), Is (.agg #[.int .i64 a1, .int .i64 a2, .int .i64 a3, .int .i64 a4])]
        (by kernel_rfl) (by kernel_rfl) (by kernel_rfl) (by kernel_rfl) (by kernel_rfl) (by kernel_rfl) (by kernel_rfl) Ext (fun W => Ext W6 W)
        (fun W _ => Ext.refl W) (fun W W' h k => h.trans k) ?_ (Ext.drew _) ?_ ?_
      · repeat (refine ⟨fun _ _ _ _ k h => (by first | exact h | exact (by first | exact CuS.ext h k | exact CuP.ext h k)), ?_⟩)
        exact trivial
      · refine ⟨?_, ?_, ?_, ?_, ?_, ?_, ?_, trivial⟩
        all_goals intro ρ W ⟨kc, kg, kf⟩ hF hs
        · obtain ⟨h0, -⟩ := hs
          replace h0 : ρ (.tmp 8) = .pointer (some ⟨B0, 0, none⟩) := h0
          have hc0 : W.cell? ⟨B0, 0, none⟩ = some (.int .i64 (T * d1)) := hF.cell (by assumption)
          have hc1 : W.cell? ⟨B0, 1, none⟩ = some (.int .i64 (T * d2)) := hF.cell (by assumption)
          go_simp
          exact ⟨Ext.refl _, rfl⟩
        · obtain ⟨h0, -⟩ := hs
          replace h0 : ρ (.tmp 2) = .pointer (some ⟨w.heap.size, 0, none⟩) := h0
          have hc0 : W.cell? ⟨w.heap.size, 0, none⟩ = some (.int .i64 (t)) := hF.cell (by assumption)
          have hc1 : W.cell? ⟨w.heap.size, 1, none⟩ = some (.slice A n cap) := hF.cell (by assumption)
          go_simp
          exact ⟨Ext.refl _, rfl⟩
        · obtain ⟨h0, -⟩ := hs
          replace h0 : ρ (.tmp 7) = .slice (some ⟨g, 0, none⟩) (n + 1) cp := h0
          go_simp
          exact ⟨Ext.refl _, rfl⟩
        · obtain ⟨h0, h1, -⟩ := hs
          replace h0 : ρ (.tmp 30) = .agg #[.int .i64 (t), .slice A n cap] := h0
          replace h1 : ρ (.tmp 31) = .slice (some ⟨g, 0, none⟩) (n + 1) cp := h1
          go_simp
          refine (callsIn_wide.1 (HCU.out W hF)).mono ?_
          rintro e w' ⟨g', c', cu, rfl, hr, _, hx⟩
          exact ⟨_, rfl, hx, g', c', rfl, hr⟩
        · obtain ⟨h0, -⟩ := hs
          replace h0 : (CuS n (curr l (volts f hot l).tail)) (ρ (.tmp 32)) W := h0
          obtain ⟨g', c', e, hr⟩ := h0
          have hn0 : 0 < n := by omega
          go_simp
          exact ⟨Ext.refl _, g', rfl, hr⟩
        · obtain ⟨h0, -⟩ := hs
          replace h0 : (CuP (curr l (volts f hot l).tail)) (ρ (.tmp 33)) W := h0
          obtain ⟨g', e, hr⟩ := h0
          obtain ⟨b1, o1, e1, _, hc⟩ := hr.2 0 _ HC0.out
          obtain ⟨rfl, rfl⟩ : g' = b1 ∧ 0 = o1 := by simpa using e1
          have x1 : W.cell? ⟨g', 0, none⟩ = some (.int .i64 c1) := by have := hc 0 _ rfl; simpa using this
          have x2 : W.cell? ⟨g', 1, none⟩ = some (.int .i64 c2) := by have := hc 1 _ rfl; simpa using this
          go_simp
          exact ⟨Ext.refl _, rfl⟩
        · obtain ⟨h0, h1, -⟩ := hs
          replace h0 : ρ (.tmp 29) = .agg #[.int .i64 (T * d1), .int .i64 (T * d2)] := h0
          replace h1 : ρ (.tmp 34) = .agg #[.int .i64 c1, .int .i64 c2] := h1
          go_simp
          refine (HRD.out W).mono ?_; rintro e w' ⟨rfl, hx⟩; exact ⟨_, rfl, hx, rfl⟩
      · intro fv W hF hs
        obtain ⟨-, -, -, -, -, -, h35, -⟩ := hs
        replace h35 : fv 35 = .agg #[.int .i64 a1, .int .i64 a2, .int .i64 a3, .int .i64 a4] := h35
        simp only [fin, List.filterMap]
        go_simp
        have k4 := k3.ext hF
        have f0 := k4.free 0
        have f1 := k4.free 1
        have f2 := k4.free 2
        have f3 := k4.free 3
        have y0 := k4.cell 0
        have y1 := k4.cell 1
        have y2 := k4.cell 2
        have y3 := k4.cell 3
        simp only [List.getElem?_toArray, List.getElem?_cons_zero, List.getElem?_cons_succ] at y0 y1 y2 y3
        have HE7 := Lib.hid (e4.trans (HE6.out.trans hF))
        clear hF h35 z0 z1 x5 x6 k3 k4
        go_wp2
        refine bodyPost_ret (v := .tuple #[.agg #[.int .i64 a1, .int .i64 a2, .int .i64 a3, .int .i64 a4], .int .i64 0]) (by simp [results, Try.f53, go_sem, y0, y1, y2, y3]) rfl ⟨Ext.set (Ext.set (Ext.set (Ext.set HE7.out (by dsimp only; omega) _) (by dsimp only; omega) _) (by dsimp only; omega) _) (by dsimp only; omega) _, .inr ⟨HR.out, ?_⟩⟩
        rw [HRV.out]
  · have HR := Lib.hid hr
    have hr' : (driveE t l f m != 0) = true := by simp [hr]
    have K3 := Lib.hid k3
    clear hr HD
    obtain ⟨r, hrr⟩ : ∃ r, r = driveE t l f m := ⟨_, rfl⟩
    rw [← hrr] at hr' HC
    have HRR := Lib.hid hrr
    have z0 : W0.cell? ⟨w.heap.size, 0, none⟩ = some (.int .i64 t) := k0.cell 0
    have z1 : W0.cell? ⟨w.heap.size, 1, none⟩ = some (.slice A n cap) := k0.cell 1
    have z2 : W0.cell? ⟨w.heap.size + 1, 0, none⟩ = some (.int .i64 f) := k1.cell 0
    have z3 : W0.cell? ⟨w.heap.size + 1, 1, none⟩ = some (.slice B m cap') := k1.cell 1
    clear hrr k0 k1 k3
    go_enter Try.func53, Try.ntmps53
    go_wp2_with (go_at_call 20; refine (HC.out _ e0).mono ?_; rintro e W1 ⟨rfl, hx1⟩; have f0 := (K3.out.ext hx1).free 0; have f1 := (K3.out.ext hx1).free 1; have f2 := (K3.out.ext hx1).free 2; have f3 := (K3.out.ext hx1).free 3; have y0 := (K3.out.ext hx1).cell 0; have y1 := (K3.out.ext hx1).cell 1; have y2 := (K3.out.ext hx1).cell 2; have y3 := (K3.out.ext hx1).cell 3; simp only [List.getElem?_toArray, List.getElem?_cons_zero, List.getElem?_cons_succ] at y0 y1 y2 y3)
    refine bodyPost_ret (v := .tuple #[.agg #[.int .i64 0, .int .i64 0, .int .i64 0, .int .i64 0], .int .i64 r]) (by simp [results, Try.f53, go_sem, y0, y1, y2, y3]) rfl ⟨Ext.set (Ext.set (Ext.set (Ext.set (e0.trans hx1) (by dsimp only; omega) _) (by dsimp only; omega) _) (by dsimp only; omega) _) (by dsimp only; omega) _, .inl ⟨HR.out, by rw [HRR.out]⟩⟩

end Go.Proofs.Ytpaoeghdfeekoaa

/- The examples of the document, at the program. -/
namespace Go.Proofs.Ytpaoeghdfeekoaa
open Go.RowKit Go.Mem Go.RegInv

def exH : List Bool := [false, false]
theorem exD : driveE 2 exL 1 2 = 0 := by decide
theorem exV : volts 1 exH exL = [⟨-1, 5⟩, ⟨1, 1⟩, ⟨1, 0⟩] := by kernel_rfl
theorem exP1 : powers 1 exH exL = [2, 1] := by kernel_rfl
theorem exP2 : powers 2 exH exL = [5, 1] := by kernel_rfl
theorem exW : wattsL 100 (powers 1 exH exL) 2 = [66, 34] := by rw [exP1]; decide
theorem exI : redV (impN 2 1 exH exL) (curIn 1 exH exL) = #[.int .i64 (-4), .int .i64 20, .int .i64 2, .int .i64 1] := by kernel_rfl
theorem exT : redV (timesG (grounded 1 exH exL (min 0 1 : Int).toNat) (volt 1 exH exL ((max 0 1 : Int).toNat + 1))) (volt 1 exH exL 0) = #[.int .i64 0, .int .i64 (-2), .int .i64 1, .int .i64 (-5)] := by kernel_rfl


theorem depth_eq {l : List Int} {pc : Int} {d e : Nat} (h : IsDepth l pc d) (k : IsDepth l pc e) : d = e := by
  obtain ⟨h1, h2, h3⟩ := h
  obtain ⟨k1, k2, k3⟩ := k
  rcases Nat.lt_trichotomy d e with h' | h' | h'
  · have := k2 d h'
    have := h3 (by omega)
    omega
  · exact h'
  · have := h2 e h'
    have := k3 (by omega)
    omega

theorem exD1 : IsDepth (powers (1 : Int) exH exL) 70 2 := by
  rw [exP1]
  exact ⟨by decide, fun j hj => by match j, hj with | 0, _ => decide | 1, _ => decide, fun h => by simp at h⟩
theorem exD2 : IsDepth (powers (2 : Int) exH exL) 70 1 := by
  rw [exP2]
  exact ⟨by decide, fun j hj => by match j, hj with | 0, _ => decide, fun _ => by decide⟩

theorem exF {f er : Int} (h : FreqIs 2 exL exH 2 70 1 f er) : f = 2 ∧ er = 0 := by
  have h0 : freqE 2 exL 2 70 1 = 0 := by decide
  have key : ∀ k : Nat, Deep exH exL 70 1 k → k ≤ 2 := fun k hk => by
    refine Nat.le_of_not_lt fun h => ?_
    obtain ⟨d, h1, h2⟩ := hk 2 (by omega) h
    have := depth_eq h1 exD2
    omega
  rcases h with ⟨h, _⟩ | ⟨_, rfl, k, rfl, h1, h2, h3, d, h4, h5⟩ | ⟨_, _, _, h⟩
  · exact absurd h0 h
  · have := key k h3
    have : k ≠ 1 := by
      rintro rfl
      have := depth_eq h4 exD1
      omega
    exact ⟨by omega, rfl⟩
  · have := key 9 h
    omega

section
variable {gl gd : Nat} {w : World} (hL : LadAt w (some ⟨gl, 0, none⟩) exL) (hH : RowsAt 1 boolEnc w (some ⟨gd, 0, none⟩) exH)
include hL hH

theorem awV : Calls Try.prog 32 #[.agg #[.int .i64 2, .slice (some ⟨gl, 0, none⟩) 2 2], .agg #[.int .i64 1, .slice (some ⟨gd, 0, none⟩) 2 2]] w fun e w' =>
    ∃ g cap, e = .returned (.tuple #[.slice (some ⟨g, 0, none⟩) 3 cap, .int .i64 0]) ∧ RowsAt 2 G.enc w' (some ⟨g, 0, none⟩) [⟨-1, 5⟩, ⟨1, 1⟩, ⟨1, 0⟩] ∧ Ext w w' := by
  refine (voltagesOf_any 2 (some ⟨gl, 0, none⟩) 2 2 exL rfl 1 (some ⟨gd, 0, none⟩) 2 2 exH rfl w hL.1 hH).mono ?_
  rintro e w' ⟨hx, ⟨h, _⟩ | ⟨_, g, cap, h1, h2⟩⟩
  · exact absurd exD h
  · exact ⟨g, cap, h1, exV ▸ h2, hx⟩

theorem awW : Calls Try.prog 42 #[.agg #[.int .i64 2, .slice (some ⟨gl, 0, none⟩) 2 2], .agg #[.int .i64 1, .slice (some ⟨gd, 0, none⟩) 2 2], .int .i64 100] w fun e w' =>
    ∃ v, e = .returned (.tuple #[v, .int .i64 0]) ∧ IntsAt w' v [66, 34] ∧ Ext w w' := by
  refine (wattsIn_any 2 (some ⟨gl, 0, none⟩) 2 2 exL rfl 1 (some ⟨gd, 0, none⟩) 2 2 exH rfl 100 w hL hH).mono ?_
  rintro e w' ⟨hx, ⟨h, _⟩ | ⟨_, v, h1, h2⟩⟩
  · exact absurd (by decide) h
  · exact ⟨v, h1, exW ▸ h2, hx⟩

theorem awI : Calls Try.prog 53 #[.agg #[.int .i64 2, .slice (some ⟨gl, 0, none⟩) 2 2], .agg #[.int .i64 1, .slice (some ⟨gd, 0, none⟩) 2 2]] w fun e w' =>
    e = .returned (.tuple #[.agg #[.int .i64 (-4), .int .i64 20, .int .i64 2, .int .i64 1], .int .i64 0]) ∧ Ext w w' := by
  refine (impedanceOf_any 2 (some ⟨gl, 0, none⟩) 2 2 exL rfl 1 (some ⟨gd, 0, none⟩) 2 2 exH rfl w hL.1 hH (fun _ => .inl (by decide))).mono ?_
  rintro e w' ⟨hx, ⟨h, _⟩ | ⟨_, h1⟩⟩
  · exact absurd exD h
  · exact ⟨by rw [h1, exI], hx⟩

theorem awT : Calls Try.prog 54 #[.agg #[.int .i64 2, .slice (some ⟨gl, 0, none⟩) 2 2], .agg #[.int .i64 1, .slice (some ⟨gd, 0, none⟩) 2 2], .agg #[.int .i64 0, .int .i64 1]] w fun e w' =>
    e = .returned (.tuple #[.agg #[.int .i64 0, .int .i64 (-2), .int .i64 1, .int .i64 (-5)], .int .i64 0]) ∧ Ext w w' := by
  refine (transferOf_any 2 gl 0 2 2 exL rfl 1 (some ⟨gd, 0, none⟩) 2 2 exH rfl 0 1 w hL.1 hH (fun _ => .inl (by decide))).mono ?_
  rintro e w' ⟨hx, ⟨h, _⟩ | ⟨_, h1⟩⟩
  · exact absurd (by decide) h
  · exact ⟨by rw [h1, exT], hx⟩

theorem awF : Calls Try.prog 59 #[.agg #[.int .i64 2, .slice (some ⟨gl, 0, none⟩) 2 2], .slice (some ⟨gd, 0, none⟩) 2 2, .agg #[.int .i64 70, .int .i64 1]] w fun e w' =>
    e = .returned (.tuple #[.int .i64 2, .int .i64 0]) ∧ Ext w w' := by
  refine (frequencyFor_any 2 (some ⟨gl, 0, none⟩) 2 2 exL rfl (some ⟨gd, 0, none⟩) 2 2 exH rfl 70 1 w hL hH).mono ?_
  rintro e w' ⟨hx, f, er, rfl, h⟩
  obtain ⟨rfl, rfl⟩ := exF h
  exact ⟨rfl, hx⟩
end

end Go.Proofs.Ytpaoeghdfeekoaa

/- awake: the five examples hold. -/
namespace Go.Proofs.Ytpaoeghdfeekoaa
open Go.RowKit Go.Mem Go.RegInv

theorem ladder_hid (w : World) : Calls Try.prog 81 #[] w fun e w' => ∃ g, e = .returned (.agg #[.int .i64 2, .slice (some ⟨g, 0, none⟩) 2 2]) ∧ Hid (LadAt w' (some ⟨g, 0, none⟩) exL) ∧ Hid (Ext w w') :=
  (ladder_any w).mono fun _ _ ⟨g, h1, h2, h3⟩ => ⟨g, h1, Lib.hid h2, Lib.hid h3⟩
theorem drive_hid (w : World) : Calls Try.prog 82 #[] w fun e w' => ∃ g, e = .returned (.agg #[.int .i64 1, .slice (some ⟨g, 0, none⟩) 2 2]) ∧ Hid (RowsAt 1 boolEnc w' (some ⟨g, 0, none⟩) exH) ∧ Hid (Ext w w') :=
  (drive_any w).mono fun _ _ ⟨g, h1, h2, h3⟩ => ⟨g, h1, Lib.hid h2, Lib.hid h3⟩

theorem awG {gv cv g2 : Nat} {w : World} (h : RowsAt 2 G.enc w (some ⟨gv, 0, none⟩) [⟨-1, 5⟩, ⟨1, 1⟩, ⟨1, 0⟩]) (k : Blk w g2 65 #[.int .i64 (-1), .int .i64 5, .int .i64 1, .int .i64 1, .int .i64 1, .int .i64 0]) :
    Calls Try.prog 38 #[.slice (some ⟨gv, 0, none⟩) 3 cv, .slice (some ⟨g2, 0, none⟩) 3 3] w fun e w' => e = .returned (.bool true) ∧ Ext w w' := by
  refine (gausses_any (some ⟨gv, 0, none⟩) (some ⟨g2, 0, none⟩) cv 3 [⟨-1, 5⟩, ⟨1, 1⟩, ⟨1, 0⟩] [⟨-1, 5⟩, ⟨1, 1⟩, ⟨1, 0⟩] w h (rows_blk k rfl rfl (by decide) (fun x => by simp [G.enc]))).mono ?_
  rintro e w' ⟨rfl, hx⟩
  exact ⟨by simp, hx⟩

theorem awN {v : Value} {g2 t : Nat} {w : World} (h : IntsAt w v [66, 34]) (k : Blk w g2 t #[.int .i64 66, .int .i64 34]) :
    Calls Try.prog 25 #[v, .slice (some ⟨g2, 0, none⟩) 2 2] w fun e w' => e = .returned (.bool true) ∧ Ext w w' := by
  refine (ints_any v _ [66, 34] [66, 34] w h (ints_two k)).mono ?_
  rintro e w' ⟨rfl, hx⟩
  exact ⟨by simp, hx⟩

set_option maxRecDepth 100000 in
set_option maxHeartbeats 4000000 in
theorem awake_any (w : World) : Calls Try.prog 15 #[] w fun e w' => e = .returned (.bool true) ∧ Ext w w' := by
  have E := Lib.hid (Ext.refl w)
  go_enter Try.func15, Try.ntmps15
  go_wp2_with (first
    | (go_at_call 81; refine (ladder_hid _).mono ?_; rintro e Wl ⟨gl, rfl, hL, hxl⟩; have E := Lib.hid (by first | exact E.out.trans hxl.out | exact (E.out.trans (Ext.alloc _ _)).trans hxl.out))
    | (go_at_call 82; refine (drive_hid _).mono ?_; rintro e Wd ⟨gd, rfl, hH, hxd⟩; have E := Lib.hid (E.out.trans hxd.out))
    | (go_at_call 32; refine (awV (hL.out.ext hxd.out) hH.out).mono ?_; rintro e Wv ⟨gv, cv, rfl, hv, hx⟩; have HV := Lib.hid hv; have E := Lib.hid (E.out.trans hx); clear hv hx)
    | (go_at_call 42; refine (awW (hL.out.ext hxd.out) hH.out).mono ?_; rintro e Ww ⟨vw, rfl, hw, hx⟩; have HV := Lib.hid (HV.out.ext (hxl.out.trans (hxd.out.trans hx))); have HW := Lib.hid hw; have E := Lib.hid (E.out.trans hx); clear hw hx)
    | (go_at_call 53; refine (awI (hL.out.ext hxd.out) hH.out).mono ?_; rintro e Wi ⟨rfl, hx⟩; have HV := Lib.hid (HV.out.ext (hxl.out.trans (hxd.out.trans hx))); have HW := Lib.hid (HW.out.ext (hxl.out.trans (hxd.out.trans hx))); have E := Lib.hid (E.out.trans hx); clear hx)
    | (go_at_call 54; refine (awT (hL.out.ext hxd.out) hH.out).mono ?_; rintro e Wt ⟨rfl, hx⟩; have X := Lib.hid (hxl.out.trans (hxd.out.trans hx)); have HB5 := Lib.hid ((Blk.new Wi 84 #[.int .i64 (-4), .int .i64 20, .int .i64 2, .int .i64 1]).ext X.out); have HV := Lib.hid ((HV.out.ext (Ext.alloc _ _)).ext X.out); have HW := Lib.hid ((HW.out.ext (Ext.alloc _ _)).ext X.out); have E := Lib.hid (E.out.trans hx); clear hx)
    | (go_at_call 59; refine (awF (hL.out.ext (Ext.alloc _ _)) (rows_blk (Blk.newAt Wl 4 #[.bool false, .bool false] rfl) rfl rfl (by decide) (fun x => by simp [boolEnc]))).mono ?_; rintro e Wf ⟨rfl, hx⟩; have X := Lib.hid (hxl.out.trans ((Ext.alloc _ _).trans hx)); have HB7 := Lib.hid ((Blk.new Wt 84 #[.int .i64 0, .int .i64 (-2), .int .i64 1, .int .i64 (-5)]).ext X.out); have HB5 := Lib.hid ((HB5.out.ext (Ext.alloc _ _)).ext X.out); have HV := Lib.hid ((HV.out.ext (Ext.alloc _ _)).ext X.out); have HW := Lib.hid ((HW.out.ext (Ext.alloc _ _)).ext X.out); have E := Lib.hid (E.out.trans ((Ext.alloc _ _).trans hx)); clear hx)
    | (go_at_call 38; refine (awG (HV.out.ext (Ext.alloc _ _)) (Blk.newAt Wf 65 #[.int .i64 (-1), .int .i64 5, .int .i64 1, .int .i64 1, .int .i64 1, .int .i64 0] rfl)).mono ?_; rintro e Wg ⟨rfl, hx⟩; have hx' := (Ext.alloc Wf _).trans hx; have HW := Lib.hid (HW.out.ext hx'); have HB5 := Lib.hid (HB5.out.ext hx'); have HB7 := Lib.hid (HB7.out.ext hx'); have E := Lib.hid (E.out.trans hx'); clear hx hx')
    | (go_at_call 25; refine (awN (HW.out.ext (Ext.alloc _ _)) (Blk.newAt Wg 3 #[.int .i64 66, .int .i64 34] rfl)).mono ?_; rintro e Wn ⟨rfl, hx⟩; have hx' := (Ext.alloc Wg _).trans hx; have HB5 := Lib.hid (HB5.out.ext hx'); have HB7 := Lib.hid (HB7.out.ext hx'); have E := Lib.hid (E.out.trans hx'); have y0 := HB5.out.cell 0; have y1 := HB5.out.cell 1; have y2 := HB5.out.cell 2; have y3 := HB5.out.cell 3; have x0 := HB7.out.cell 0; have x1 := HB7.out.cell 1; have x2 := HB7.out.cell 2; have x3 := HB7.out.cell 3; simp only [List.getElem?_toArray, List.getElem?_cons_zero, List.getElem?_cons_succ] at y0 y1 y2 y3 x0 x1 x2 x3; clear hx hx'))
  go_ret
  exact ⟨rfl, E.out⟩

end Go.Proofs.Ytpaoeghdfeekoaa

