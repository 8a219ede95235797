/- WattsIn. -/
import Derived.Test.YtpaoeghdfeekoaaP0
import Derived.Test.YtpaoeghdfeekoaaB4
namespace Go.Proofs.Ytpaoeghdfeekoaa
open Go.RowKit Go.Mem Go.RegInv

/-- The shells in memory, in a block of their own type. -/
def LadAt (W : World) (A : Option Addr) (ls : List Sh) : Prop := RowsAt 3 Sh.enc W A ls ∧ ∀ b o, A = some ⟨b, o, none⟩ → ∃ cs, Blk W b 92 cs
theorem LadAt.ext {W W' : World} {A : Option Addr} {ls : List Sh} (h : LadAt W A ls) (e : Ext W W') : LadAt W' A ls :=
  ⟨h.1.ext e, fun b o hA => by obtain ⟨cs, hb⟩ := h.2 b o hA; exact ⟨cs, hb.ext e⟩⟩

theorem ints_of_own {W : World} {base n : Nat} {v : Value} {xs : List Int} (hl : xs.length = n) (hn : n ≤ 1152921504606846976) (h : W.ownsRow base 3 1 v n (xs.map (Value.int .i64))) : IntsAt W v xs := by
  rcases h.2 with ⟨rfl, rfl⟩ | ⟨g, cap, cu, rfl, _, hh, hc, _, hs, ht⟩
  · exact .inl ⟨none, 0, rfl, List.eq_nil_of_length_eq_zero hl⟩
  · refine .inr ⟨g, 0, cap, by rw [hl], (show Blk W g 3 cu from hh).lt, by omega, fun i hi => ?_⟩
    rw [(show Blk W g 3 cu from hh).cell]
    have h2 : (xs.map (Value.int .i64))[i]? = some (.int .i64 (xs.getD i 0)) := by simp [hi]
    rw [← ht, List.getElem?_take, if_pos (by omega), Array.getElem?_toList] at h2
    rw [Nat.zero_add]; exact h2

theorem totalError_any (v : Value) (xs : List Int) (w : World) (hx : IntsAt w v xs) :
    Calls Try.prog 101 #[v] w fun e w' => e = .returned (.int .i64 (rangeE 0 100000 xs)) ∧ Ext w w' := by
  have HC := Lib.hid (rangeError_any 0 100000 v xs w hx)
  clear hx
  go_enter Try.func101, Try.ntmps101
  go_wp2_with (go_at_call 84; refine HC.out.mono ?_; rintro e w' ⟨rfl, hx⟩)
  go_ret
  exact ⟨rfl, hx⟩

theorem percentError_any (n : Int) (w : World) :
    Calls Try.prog 103 #[.int .i64 n] w fun e w' => e = .returned (.int .i64 (rangeE 1 100 [n])) ∧ Ext w w' := by
  have HC := Lib.hid (rangeError_any 1 100 _ [n] _ (ints_new w [n] 3 (by simp)))
  go_enter Try.func103, Try.ntmps103
  go_wp2_with (go_at_call 84; refine HC.out.mono ?_; rintro e w' ⟨rfl, hx⟩)
  go_ret
  exact ⟨rfl, (Ext.alloc _ _).trans hx⟩

/-- The powers may be walked from wherever powersOf has left them. -/
theorem powers_at_w {A : Option Addr} {m cap : Nat} {ls : List Sh} (hm : ls.length = m) {f : Int} {hot : List Bool} (hok : ∀ s ∈ ls, shOK s) (hf : 1 ≤ f ∧ f ≤ 8) (h1 : 1 ≤ m) (h4 : m ≤ 4) {w : World} (hS : LadAt w A ls) {v : Value}
    (hv : Nd (fun g c => .func (.func 130) #[.agg #[.slice A m cap, .slice (some ⟨g, 2, none⟩) m c]] #[]) 0 2 (nodes f hot ls) v w) :
    ∃ first, v = .func (.func 130) first #[] ∧ ∀ W, Ext w W → IterAt Try.prog 4 130 first #[] encInt (powers f hot ls) Kp37 W := by
  obtain ⟨g, c, cu, rfl, _, hr, hb⟩ := hv
  refine ⟨_, rfl, fun W e => ?_⟩
  obtain ⟨b, o, rfl, _, _⟩ := hS.1.2 0 _ (List.getElem?_eq_getElem (by omega))
  obtain ⟨cs, hbs⟩ := hS.2 b o rfl
  exact powers_iter 4 (by omega) b o m cap g c ls (nodes f hot ls) cs cu hm (by rw [nodes_len, hm]) W (hS.1.ext e) (hr.ext e) (hbs.ext e) (hb.ext e) (fun k s z => iter_bd hok hf (by omega) k s z)

theorem eg130 : ∀ args w, (callFunc 130 args).run Try.prog w = .ok (.enter 130 args) w := enters_of Try.func130 (by kernel_rfl) rfl

def wattsE (t : Int) (ls : List Sh) (f : Int) (m : Nat) (total : Int) : Int := firstE [driveE t ls f m, rangeE 0 100000 [total]]

set_option maxRecDepth 100000 in
theorem wattsIn_any (t : Int) (A : Option Addr) (n cap : Nat) (l : List Sh) (hn : l.length = n) (f : Int) (B : Option Addr) (m cap' : Nat) (hot : List Bool) (hm : hot.length = m) (total : Int) (w : World)
    (hS : LadAt w A l) (hH : RowsAt 1 boolEnc w B hot) :
    Calls Try.prog 42 #[.agg #[.int .i64 t, .slice A n cap], .agg #[.int .i64 f, .slice B m cap'], .int .i64 total] w fun e w' => Ext w w' ∧
      ((wattsE t l f m total ≠ 0 ∧ e = .returned (.tuple #[.slice none 0 0, .int .i64 (wattsE t l f m total)])) ∨
       (wattsE t l f m total = 0 ∧ ∃ v, e = .returned (.tuple #[v, .int .i64 0]) ∧ IntsAt w' v (wattsL total (powers f hot l) n))) := by
  have HC := Lib.hid (fun W h => checkDrive_any t A n cap l hn f B m cap' W h)
  have e0 : Ext w ((w.alloc (.cells #[.int .i64 t, .slice A n cap] 24)).alloc (.cells #[.int .i64 f, .slice B m cap'] 27)) := (Ext.alloc _ _).trans (Ext.alloc _ _)
  have HS := Lib.hid hS
  have HH := Lib.hid hH
  have HN := Lib.hid hn
  have HM := Lib.hid hm
  have HE := Lib.hid (show wattsE t l f m total = firstE [driveE t l f m, rangeE 0 100000 [total]] from rfl)
  clear hn hS hm hH
  have facts : ∀ W : World, Ext ((w.alloc (.cells #[.int .i64 t, .slice A n cap] 24)).alloc (.cells #[.int .i64 f, .slice B m cap'] 27)) W →
      W.cell? ⟨w.heap.size, 0, none⟩ = some (.int .i64 t) ∧ W.cell? ⟨w.heap.size, 1, none⟩ = some (.slice A n cap) ∧ W.cell? ⟨w.heap.size + 1, 0, none⟩ = some (.int .i64 f) ∧ W.cell? ⟨w.heap.size + 1, 1, none⟩ = some (.slice B m cap') :=
    fun W hx => ⟨hx.cell (by go_simp), hx.cell (by go_simp), hx.cell (by go_simp), hx.cell (by go_simp)⟩
  have FA := Lib.hid facts
  clear facts
  by_cases hq : wattsE t l f m total = 0
  · obtain ⟨hq1, hq2⟩ : driveE t l f m = 0 ∧ rangeE 0 100000 [total] = 0 := by
      have := (firstE_zero _).1 hq
      exact ⟨this _ (by simp), this _ (by simp)⟩
    obtain ⟨⟨_, ⟨h1, h4⟩, hok⟩, hf, hml⟩ := (driveE_zero t l f m).1 hq1
    have ht := (rangeE_zero 0 100000 [total]).1 hq2 total (by simp)
    obtain rfl : n = m := by rw [hml, ← HN.out]
    rw [HN.out] at h1 h4
    have HP := Lib.hid (fun W (e : Ext w W) => powersOf_any t A n cap l HN.out f B cap' hot HM.out W (HS.out.1.ext e) (HH.out.ext e) hok hf h1 h4)
    have HIT := Lib.hid (fun W (e : Ext w W) v => powers_at_w (cap := cap) HN.out (hot := hot) hok hf h1 h4 (HS.out.ext e) (v := v))
    have HOK := Lib.hid (powers_ok (hot := hot) hok hf (by rw [HN.out]; exact h1) (by rw [HN.out]; exact h4))
    have HT := Lib.hid ht
    have HQ := Lib.hid hq
    have HPL := Lib.hid (powers_len f hot l)
    have hn4 : n ≤ 1000 := by omega
    have hq1' : (driveE t l f n != 0) = false := by simp [hq1]
    have HQ1 := Lib.hid hq1
    have HQ2 := Lib.hid hq2
    clear h1 h4 hok hf hml hq hq1 hq2 ht
    rw [HQ1.out] at HC
    go_enter Try.func42, Try.ntmps42
    have hff : firstE [0, 0] = 0 := rfl
    have HFF := Lib.hid hff
    clear hff
    go_wp2_with (first
      | (go_at_call 20; refine (HC.out _ (HS.out.1.ext e0)).mono ?_; rintro e W1 ⟨rfl, hx1⟩)
      | (go_at_call 101; refine (totalError_any _ [total] _ (ints_new _ [total] _ (by simp))).mono ?_; rintro e W2 ⟨rfl, hx2⟩; rw [HQ2.out]; have hx3 := Lib.hid (((hx1.trans (Ext.alloc _ _)).trans hx2).trans (Ext.alloc W2 (.cells #[.int .i64 0, .int .i64 0] 31))))
      | (go_at_call 83; refine (firstOf_any _ [0, 0] _ (ints_new _ [0, 0] _ (by simp))).mono ?_; rintro e W3 ⟨rfl, rfl⟩; rw [HFF.out]; obtain ⟨z0, z1, z2, z3⟩ := FA.out _ hx3.out)
      | (go_at_call 96; refine (HP.out _ (e0.trans hx3.out)).mono ?_; rintro e W4 ⟨v4, rfl, hv4, hx4⟩; obtain ⟨first, rfl, hit⟩ := HIT.out _ (e0.trans (hx3.out.trans hx4)) _ hv4)
      | (go_at_call 102; refine (callsIn_wide.1 (wattsOf_in 130 first #[] eg130 (powers f hot l) n (by rw [HPL.out, HN.out]) hn4 total _ hit HT.out HOK.out.sum HOK.out.part)).mono ?_; rintro e W5 ⟨v5, rfl, hv5, hx5⟩))
    go_ret2
    exact ⟨e0.trans (hx3.out.trans (hx4.trans hx5)), .inr ⟨HQ.out, _, rfl, ints_of_own (wattsL_len _ _ _) (by omega) hv5⟩⟩
  · have HQ := Lib.hid hq
    have hq' : (wattsE t l f m total != 0) = true := by simp [hq]
    clear hq
    generalize wattsE t l f m total = r at HE HQ hq' ⊢
    generalize driveE t l f m = q1 at HC HE
    go_enter Try.func42, Try.ntmps42
    go_wp2_with (first
      | (go_at_call 20; refine (HC.out _ (HS.out.1.ext e0)).mono ?_; rintro e W1 ⟨rfl, hx1⟩)
      | (go_at_call 101; refine (totalError_any _ [total] _ (ints_new _ [total] _ (by simp))).mono ?_; rintro e W2 ⟨rfl, hx2⟩; generalize rangeE 0 100000 [total] = q2 at HE ⊢)
      | (go_at_call 83; refine (firstOf_any _ [q1, q2] _ (ints_new _ [q1, q2] _ (by simp))).mono ?_; rintro e W3 ⟨rfl, rfl⟩; rw [← HE.out]))
    go_ret2
    exact ⟨e0.trans ((hx1.trans (Ext.alloc _ _)).trans (hx2.trans (Ext.alloc _ _))), .inl ⟨HQ.out, rfl⟩⟩

end Go.Proofs.Ytpaoeghdfeekoaa
