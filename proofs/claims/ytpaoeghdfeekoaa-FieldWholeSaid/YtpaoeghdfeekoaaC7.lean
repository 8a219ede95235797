/- The transfer between two nodes. By regen.py. -/
import Derived.Test.YtpaoeghdfeekoaaC6
namespace Go.Proofs.Ytpaoeghdfeekoaa
open Go.RowKit Go.Mem Go.RegInv
attribute [local go_sem] RelUpon_value RelUpon_skip RelUpon_enter BigFrame.eval_const BigFrame.eval_global BigFrame.eval_func

theorem ints_two {W : World} {g t : Nat} {p q : Int} (h : Blk W g t #[.int .i64 p, .int .i64 q]) : IntsAt W (.slice (some ⟨g, 0, none⟩) 2 2) [p, q] := by
  refine .inr ⟨g, 0, 2, rfl, h.lt, by simp, fun i hi => ?_⟩
  rw [h.cell]
  match i, hi with
  | 0, _ => rfl
  | 1, _ => rfl
  | i + 2, h => simp at h; omega

theorem prod_bd {x y B : Int} (hx : -B ≤ x ∧ x ≤ B) (hy : -B ≤ y ∧ y ≤ B) : -(B * B) ≤ x * y ∧ x * y ≤ B * B := by
  rcases Int.le_total 0 x with h | h
  · exact mul_bd h hx.2 hy.1 hy.2
  · have := mul_bd (n := -x) (x := y) (N := B) (B := B) (by omega) (by omega) hy.1 hy.2
    rw [Int.neg_mul] at this
    omega

theorem bv_small : ∀ k, k ≤ 4 → (bv k).1 ≤ 300000000
  | 0, _ => by decide
  | 1, _ => by decide
  | 2, _ => by decide
  | 3, _ => by decide
  | 4, _ => by decide
  | k + 5, h => by omega

theorem volts_small {f : Int} {hot : List Bool} {ls : List Sh} (hok : ∀ s ∈ ls, shOK s) (hf : 1 ≤ f ∧ f ≤ 8) (h4 : ls.length ≤ 4) (k : Nat) (z : G) (hz : (volts f hot ls)[k]? = some z) : Bd 300000000 z := by
  have hl : (vfold f hot ((backE ls).map (·.1))).out.length = ls.length + 1 := by rw [vfold_len, List.length_map, backE_length]
  have hk : k < (volts f hot ls).length := (List.getElem?_eq_some_iff.1 hz).1
  rw [volts_len] at hk
  unfold volts at hz
  rw [List.getElem?_reverse (by omega), hl] at hz
  have h1 := out_bd hf _ (fun y hy => by
    obtain ⟨q, _, rfl⟩ := List.mem_map.1 hy
    exact hok _ (List.mem_of_getElem? q.2)) _ _ hz
  have h2 := bv_small (ls.length + 1 - 1 - k) (by omega)
  simp only [Bd] at h1 ⊢
  omega

def timesG (a b : G) : G := ⟨a.re * b.re - a.im * b.im, a.re * b.im + a.im * b.re⟩
/-- The reduced quotient of two complex numbers. -/
def redV (n d : G) : Array Value := #[.int .i64 (n.re.tdiv (redN n.re n.im d.re d.im)), .int .i64 (n.im.tdiv (redN n.re n.im d.re d.im)), .int .i64 (d.re.tdiv (redN n.re n.im d.re d.im)), .int .i64 (d.im.tdiv (redN n.re n.im d.re d.im))]
def volt (f : Int) (hot : List Bool) (ls : List Sh) (k : Nat) : G := (volts f hot ls).getD k ⟨0, 0⟩

def transE (t : Int) (l : List Sh) (f : Int) (m : Nat) (p q : Int) : Int := firstE [driveE t l f m, errIf ([p, q].any (outB 0 ((l.length : Int) - 1))) 6]

set_option maxRecDepth 100000 in
set_option maxHeartbeats 2000000 in
theorem transferOf_any (t : Int) (b o n cap : Nat) (l : List Sh) (hn : l.length = n) (f : Int) (B : Option Addr) (m cap' : Nat) (hot : List Bool) (hm : hot.length = m) (p q : Int) (w : World)
    (hS : RowsAt 3 Sh.enc w (some ⟨b, o, none⟩) l) (hH : RowsAt 1 boolEnc w B hot) (hD : transE t l f m p q = 0 → (volt f hot l 0).re ≠ 0 ∨ (volt f hot l 0).im ≠ 0) :
    Calls Try.prog 54 #[.agg #[.int .i64 t, .slice (some ⟨b, o, none⟩) n cap], .agg #[.int .i64 f, .slice B m cap'], .agg #[.int .i64 p, .int .i64 q]] w fun e w' => Ext w w' ∧
      ((transE t l f m p q ≠ 0 ∧ e = .returned (.tuple #[.agg #[.int .i64 0, .int .i64 0, .int .i64 0, .int .i64 0], .int .i64 (transE t l f m p q)])) ∨
       (transE t l f m p q = 0 ∧ e = .returned (.tuple #[.agg (redV (timesG (grounded f hot l (min p q).toNat) (volt f hot l ((max p q).toNat + 1))) (volt f hot l 0)), .int .i64 0]))) := by
  have hnb : n ≤ 1152921504606846976 := by have := hS.1; omega
  have HC := Lib.hid (fun W (e : Ext w W) => checkDrive_any t (some ⟨b, o, none⟩) n cap l hn f B m cap' W (hS.ext e))
  have HSE := Lib.hid (fun W (h : IntsAt W (.slice (some ⟨w.heap.size + 1 + 1, 0, none⟩) 2 2) [p, q]) => shellError_any t (some ⟨b, o, none⟩) n cap _ [p, q] W hnb h)
  have e0 : Ext w ((((w.alloc (.cells #[.int .i64 t, .slice (some ⟨b, o, none⟩) n cap] 24)).alloc (.cells #[.int .i64 f, .slice B m cap'] 27)).alloc (.cells #[.int .i64 p, .int .i64 q] 82)).alloc (.cells #[.int .i64 0, .int .i64 0, .int .i64 0, .int .i64 0] 84)) := (Ext.alloc _ _).trans ((Ext.alloc _ _).trans ((Ext.alloc _ _).trans (Ext.alloc _ _)))
  have k0 : Blk ((((w.alloc (.cells #[.int .i64 t, .slice (some ⟨b, o, none⟩) n cap] 24)).alloc (.cells #[.int .i64 f, .slice B m cap'] 27)).alloc (.cells #[.int .i64 p, .int .i64 q] 82)).alloc (.cells #[.int .i64 0, .int .i64 0, .int .i64 0, .int .i64 0] 84)) w.heap.size 24 #[.int .i64 t, .slice (some ⟨b, o, none⟩) n cap] := (((Blk.newAt _ _ _ rfl).alloc _).alloc _).alloc _
  have k1 : Blk ((((w.alloc (.cells #[.int .i64 t, .slice (some ⟨b, o, none⟩) n cap] 24)).alloc (.cells #[.int .i64 f, .slice B m cap'] 27)).alloc (.cells #[.int .i64 p, .int .i64 q] 82)).alloc (.cells #[.int .i64 0, .int .i64 0, .int .i64 0, .int .i64 0] 84)) (w.heap.size + 1) 27 #[.int .i64 f, .slice B m cap'] := ((Blk.newAt _ _ _ (by simp)).alloc _).alloc _
  have k2 : Blk ((((w.alloc (.cells #[.int .i64 t, .slice (some ⟨b, o, none⟩) n cap] 24)).alloc (.cells #[.int .i64 f, .slice B m cap'] 27)).alloc (.cells #[.int .i64 p, .int .i64 q] 82)).alloc (.cells #[.int .i64 0, .int .i64 0, .int .i64 0, .int .i64 0] 84)) (w.heap.size + 1 + 1) 82 #[.int .i64 p, .int .i64 q] := (Blk.newAt _ _ _ (by simp)).alloc _
  have k3 : Blk ((((w.alloc (.cells #[.int .i64 t, .slice (some ⟨b, o, none⟩) n cap] 24)).alloc (.cells #[.int .i64 f, .slice B m cap'] 27)).alloc (.cells #[.int .i64 p, .int .i64 q] 82)).alloc (.cells #[.int .i64 0, .int .i64 0, .int .i64 0, .int .i64 0] 84)) (w.heap.size + 1 + 1 + 1) 84 #[.int .i64 0, .int .i64 0, .int .i64 0, .int .i64 0] := Blk.newAt _ _ _ (by simp)
  have HE := Lib.hid (show transE t l f m p q = firstE [driveE t l f m, errIf ([p, q].any (outB 0 ((n : Int) - 1))) 6] by unfold transE; rw [hn])
  have HS := Lib.hid hS
  have HH := Lib.hid hH
  have HN := Lib.hid hn
  have HM := Lib.hid hm
  have HD := Lib.hid hD
  clear hn hS hm hH hD
  obtain ⟨q1, hq1⟩ : ∃ q, q = driveE t l f m := ⟨_, rfl⟩
  obtain ⟨q2, hq2⟩ : ∃ x, x = errIf ([p, q].any (outB 0 ((n : Int) - 1))) 6 := ⟨_, rfl⟩
  rw [← hq1] at HC HE
  rw [← hq2] at HSE HE
  have HQ1 := Lib.hid hq1
  have HQ2 := Lib.hid hq2
  clear hq1 hq2
  go_enter Try.func54, Try.ntmps54
  go_wp2
  generalize ((((w.alloc (.cells #[.int .i64 t, .slice (some ⟨b, o, none⟩) n cap] 24)).alloc (.cells #[.int .i64 f, .slice B m cap'] 27)).alloc (.cells #[.int .i64 p, .int .i64 q] 82)).alloc (.cells #[.int .i64 0, .int .i64 0, .int .i64 0, .int .i64 0] 84)) = W0 at *
  have HIN := Lib.hid (ints_two k2)
  have z0 : W0.cell? ⟨w.heap.size, 0, none⟩ = some (.int .i64 t) := k0.cell 0
  have z1 : W0.cell? ⟨w.heap.size, 1, none⟩ = some (.slice (some ⟨b, o, none⟩) n cap) := k0.cell 1
  have z2 : W0.cell? ⟨w.heap.size + 1, 0, none⟩ = some (.int .i64 f) := k1.cell 0
  have z3 : W0.cell? ⟨w.heap.size + 1, 1, none⟩ = some (.slice B m cap') := k1.cell 1
  have z4 : W0.cell? ⟨w.heap.size + 1 + 1, 0, none⟩ = some (.int .i64 p) := k2.cell 0
  have z5 : W0.cell? ⟨w.heap.size + 1 + 1, 1, none⟩ = some (.int .i64 q) := k2.cell 1
  refine wp_region_each [some 12, some 13, some 14, some 15, some 16, some 17, some 18, some 19, some 8] [[3], [4], [12, 13], [3], [5], [15, 16], [14, 17], [18], [19]]
    [Is (.agg #[.int .i64 (t), .slice (some ⟨b, o, none⟩) n cap]), Is (.agg #[.int .i64 (f), .slice B m cap']), Is (.int .i64 (q1)), Is (.agg #[.int .i64 (t), .slice (some ⟨b, o, none⟩) n cap]), Is (.slice (some ⟨w.heap.size + 1 + 1, 0, none⟩) 2 2), Is (.int .i64 (q2)), Ints [q1, q2], Is (.int .i64 (firstE [q1, q2])), Is (.int .i64 (firstE [q1, q2]))]
    (by kernel_rfl) (by kernel_rfl) (by kernel_rfl) (by kernel_rfl) (by kernel_rfl) Ext (fun W => Ext W0 W)
    (fun W _ => Ext.refl W) (fun W W' h k => h.trans k) ?_ (Ext.drew _) ?_ ?_
  · repeat (refine ⟨fun _ _ _ _ k h => (by first | exact h | exact IntsAt.ext h k), ?_⟩)
    exact trivial
  · refine ⟨?_, ?_, ?_, ?_, ?_, ?_, ?_, ?_, ?_, trivial⟩
    all_goals intro ρ W ⟨kc, kg, kf⟩ hF hs
    · obtain ⟨h0, -⟩ := hs
      replace h0 : ρ (.tmp 3) = .pointer (some ⟨w.heap.size, 0, none⟩) := h0
      have hc0 : W.cell? ⟨w.heap.size, 0, none⟩ = some (.int .i64 (t)) := hF.cell (by assumption)
      have hc1 : W.cell? ⟨w.heap.size, 1, none⟩ = some (.slice (some ⟨b, o, none⟩) n cap) := hF.cell (by assumption)
      go_simp
      exact ⟨Ext.refl _, rfl⟩
    · obtain ⟨h0, -⟩ := hs
      replace h0 : ρ (.tmp 4) = .pointer (some ⟨w.heap.size + 1, 0, none⟩) := h0
      have hc0 : W.cell? ⟨w.heap.size + 1, 0, none⟩ = some (.int .i64 (f)) := hF.cell (by assumption)
      have hc1 : W.cell? ⟨w.heap.size + 1, 1, none⟩ = some (.slice B m cap') := hF.cell (by assumption)
      go_simp
      exact ⟨Ext.refl _, rfl⟩
    · obtain ⟨h0, h1, -⟩ := hs
      replace h0 : ρ (.tmp 12) = .agg #[.int .i64 (t), .slice (some ⟨b, o, none⟩) n cap] := h0
      replace h1 : ρ (.tmp 13) = .agg #[.int .i64 (f), .slice B m cap'] := h1
      go_simp
      refine (HC.out W (e0.trans hF)).mono ?_; rintro e w' ⟨rfl, hx⟩; exact ⟨_, rfl, hx, rfl⟩
    · obtain ⟨h0, -⟩ := hs
      replace h0 : ρ (.tmp 3) = .pointer (some ⟨w.heap.size, 0, none⟩) := h0
      have hc0 : W.cell? ⟨w.heap.size, 0, none⟩ = some (.int .i64 (t)) := hF.cell (by assumption)
      have hc1 : W.cell? ⟨w.heap.size, 1, none⟩ = some (.slice (some ⟨b, o, none⟩) n cap) := hF.cell (by assumption)
      go_simp
      exact ⟨Ext.refl _, rfl⟩
    · obtain ⟨h0, -⟩ := hs
      replace h0 : ρ (.tmp 5) = .pointer (some ⟨w.heap.size + 1 + 1, 0, none⟩) := h0
      go_simp
      exact ⟨Ext.refl _, rfl⟩
    · obtain ⟨h0, h1, -⟩ := hs
      replace h0 : ρ (.tmp 15) = .agg #[.int .i64 (t), .slice (some ⟨b, o, none⟩) n cap] := h0
      replace h1 : ρ (.tmp 16) = .slice (some ⟨w.heap.size + 1 + 1, 0, none⟩) 2 2 := h1
      go_simp
      refine (HSE.out W (HIN.out.ext hF)).mono ?_; rintro e w' ⟨rfl, hx⟩; exact ⟨_, rfl, hx, rfl⟩
    · obtain ⟨h0, h1, -⟩ := hs
      replace h0 : ρ (.tmp 14) = .int .i64 (q1) := h0
      replace h1 : ρ (.tmp 17) = .int .i64 (q2) := h1
      go_simp
      exact ⟨Ext.alloc _ _, ints_new _ [q1, q2] _ (by simp)⟩
    · obtain ⟨h0, -⟩ := hs
      replace h0 : (Ints [q1, q2]) (ρ (.tmp 18)) W := h0
      go_simp
      refine (firstOf_any _ _ _ h0).mono ?_; rintro e w' ⟨rfl, rfl⟩; exact ⟨_, rfl, Ext.refl _, rfl⟩
    · obtain ⟨h0, -⟩ := hs
      replace h0 : ρ (.tmp 19) = .int .i64 (firstE [q1, q2]) := h0
      go_simp
      exact ⟨Ext.refl _, rfl⟩
  · intro fv W1 hF hs
    obtain ⟨-, -, -, -, -, -, -, -, h8, -⟩ := hs
    replace h8 : fv 8 = .int .i64 (firstE [q1, q2]) := h8
    simp only [fin, List.filterMap]
    go_simp
    rw [← HE.out]
    have e1 := e0.trans hF
    clear h8 z0 z1 z2 z3 z4 z5
    replace k0 := k0.ext hF
    replace k1 := k1.ext hF
    replace k2 := k2.ext hF
    replace k3 := k3.ext hF
    clear hF
    have z0 : W1.cell? ⟨w.heap.size, 0, none⟩ = some (.int .i64 t) := k0.cell 0
    have z1 : W1.cell? ⟨w.heap.size, 1, none⟩ = some (.slice (some ⟨b, o, none⟩) n cap) := k0.cell 1
    have z2 : W1.cell? ⟨w.heap.size + 1, 0, none⟩ = some (.int .i64 f) := k1.cell 0
    have z3 : W1.cell? ⟨w.heap.size + 1, 1, none⟩ = some (.slice B m cap') := k1.cell 1
    have z4 : W1.cell? ⟨w.heap.size + 1 + 1, 0, none⟩ = some (.int .i64 p) := k2.cell 0
    have z5 : W1.cell? ⟨w.heap.size + 1 + 1, 1, none⟩ = some (.int .i64 q) := k2.cell 1
    by_cases hr : transE t l f m p q = 0
    · have hz := (firstE_zero _).1 (HE.out.symm.trans hr)
      have hz1 : q1 = 0 := hz _ (by simp)
      have hz2 : q2 = 0 := hz _ (by simp)
      obtain ⟨⟨_, ⟨h1, h4⟩, hok⟩, hf, hml⟩ := (driveE_zero t l f m).1 (HQ1.out.symm.trans hz1)
      obtain rfl : n = m := by rw [hml, ← HN.out]
      rw [HN.out] at h1 h4
      have hany := (errIf_zero (by decide)).1 (HQ2.out.symm.trans hz2)
      have hp : 0 ≤ p ∧ p ≤ (n : Int) - 1 := by
        have : outB 0 ((n : Int) - 1) p = false := by simp only [List.any_cons, Bool.or_eq_false_iff] at hany; exact hany.1
        simp [outB] at this; omega
      have hq : 0 ≤ q ∧ q ≤ (n : Int) - 1 := by
        have : outB 0 ((n : Int) - 1) q = false := by simp only [List.any_cons, Bool.or_eq_false_iff] at hany; exact hany.2.1
        simp [outB] at this; omega
      have HR := Lib.hid hr
      have hr' : (transE t l f n p q != 0) = false := by simp [hr]
      clear hz hz1 hz2 hany hr HE hml HC HSE HQ1 HQ2 HIN
      obtain ⟨r, hrr⟩ : ∃ r, r = transE t l f n p q := ⟨_, rfl⟩
      rw [← hrr] at hr' ⊢
      have HRR := Lib.hid hrr
      clear hrr
      go_wp2
      refine wp_region_each [some 24, some 25, some 26, some 27, some 28, some 29, some 30, some 31, some 32, some 33, some 9, some 10] [[5], [24], [5], [26], [25, 27], [5], [29], [5], [31], [30, 32], [28], [33]]
        [Is (.pointer (some ⟨w.heap.size + 1 + 1, 0, none⟩)), Is (.int .i64 (p)), Is (.pointer (some ⟨w.heap.size + 1 + 1, 1, none⟩)), Is (.int .i64 (q)), Is (.int .i64 (if q < p then q else p)), Is (.pointer (some ⟨w.heap.size + 1 + 1, 0, none⟩)), Is (.int .i64 (p)), Is (.pointer (some ⟨w.heap.size + 1 + 1, 1, none⟩)), Is (.int .i64 (q)), Is (.int .i64 (if p < q then q else p)), Is (.int .i64 (if q < p then q else p)), Is (.int .i64 (if p < q then q else p))]
        (by kernel_rfl) (by kernel_rfl) (by kernel_rfl) (by kernel_rfl) (by kernel_rfl) Ext (fun W => Ext W1 W)
        (fun W _ => Ext.refl W) (fun W W' h k => h.trans k) ?_ (Ext.drew _) ?_ ?_
      · repeat (refine ⟨fun _ _ _ _ k h => (by first | exact h | exact IntsAt.ext h k), ?_⟩)
        exact trivial
      · refine ⟨?_, ?_, ?_, ?_, ?_, ?_, ?_, ?_, ?_, ?_, ?_, ?_, trivial⟩
        all_goals intro ρ W ⟨kc, kg, kf⟩ hF hs
        · obtain ⟨h0, -⟩ := hs
          replace h0 : ρ (.tmp 5) = .pointer (some ⟨w.heap.size + 1 + 1, 0, none⟩) := h0
          go_simp
          exact ⟨Ext.refl _, rfl⟩
        · obtain ⟨h0, -⟩ := hs
          replace h0 : ρ (.tmp 24) = .pointer (some ⟨w.heap.size + 1 + 1, 0, none⟩) := h0
          have hc0 : W.cell? ⟨w.heap.size + 1 + 1, 0, none⟩ = some (.int .i64 (p)) := hF.cell (by assumption)
          go_simp
          exact ⟨Ext.refl _, rfl⟩
        · obtain ⟨h0, -⟩ := hs
          replace h0 : ρ (.tmp 5) = .pointer (some ⟨w.heap.size + 1 + 1, 0, none⟩) := h0
          go_simp
          exact ⟨Ext.refl _, rfl⟩
        · obtain ⟨h0, -⟩ := hs
          replace h0 : ρ (.tmp 26) = .pointer (some ⟨w.heap.size + 1 + 1, 1, none⟩) := h0
          have hc0 : W.cell? ⟨w.heap.size + 1 + 1, 1, none⟩ = some (.int .i64 (q)) := hF.cell (by assumption)
          go_simp
          exact ⟨Ext.refl _, rfl⟩
        · obtain ⟨h0, h1, -⟩ := hs
          replace h0 : ρ (.tmp 25) = .int .i64 (p) := h0
          replace h1 : ρ (.tmp 27) = .int .i64 (q) := h1
          go_simp
          exact ⟨Ext.refl _, rfl⟩
        · obtain ⟨h0, -⟩ := hs
          replace h0 : ρ (.tmp 5) = .pointer (some ⟨w.heap.size + 1 + 1, 0, none⟩) := h0
          go_simp
          exact ⟨Ext.refl _, rfl⟩
        · obtain ⟨h0, -⟩ := hs
          replace h0 : ρ (.tmp 29) = .pointer (some ⟨w.heap.size + 1 + 1, 0, none⟩) := h0
          have hc0 : W.cell? ⟨w.heap.size + 1 + 1, 0, none⟩ = some (.int .i64 (p)) := hF.cell (by assumption)
          go_simp
          exact ⟨Ext.refl _, rfl⟩
        · obtain ⟨h0, -⟩ := hs
          replace h0 : ρ (.tmp 5) = .pointer (some ⟨w.heap.size + 1 + 1, 0, none⟩) := h0
          go_simp
          exact ⟨Ext.refl _, rfl⟩
        · obtain ⟨h0, -⟩ := hs
          replace h0 : ρ (.tmp 31) = .pointer (some ⟨w.heap.size + 1 + 1, 1, none⟩) := h0
          have hc0 : W.cell? ⟨w.heap.size + 1 + 1, 1, none⟩ = some (.int .i64 (q)) := hF.cell (by assumption)
          go_simp
          exact ⟨Ext.refl _, rfl⟩
        · obtain ⟨h0, h1, -⟩ := hs
          replace h0 : ρ (.tmp 30) = .int .i64 (p) := h0
          replace h1 : ρ (.tmp 32) = .int .i64 (q) := h1
          go_simp
          exact ⟨Ext.refl _, rfl⟩
        · obtain ⟨h0, -⟩ := hs
          replace h0 : ρ (.tmp 28) = .int .i64 (if q < p then q else p) := h0
          go_simp
          exact ⟨Ext.refl _, rfl⟩
        · obtain ⟨h0, -⟩ := hs
          replace h0 : ρ (.tmp 33) = .int .i64 (if p < q then q else p) := h0
          go_simp
          exact ⟨Ext.refl _, rfl⟩
      · intro fv W4 hF hs
        obtain ⟨-, -, -, -, -, -, -, -, -, -, h9, h10, -⟩ := hs
        replace h9 : fv 9 = .int .i64 (if q < p then q else p) := h9
        replace h10 : fv 10 = .int .i64 (if p < q then q else p) := h10
        simp only [fin, List.filterMap]
        go_simp
        obtain ⟨i, hi1, hi2, hi3⟩ : ∃ i : Nat, (if q < p then q else p) = (i : Int) ∧ (min p q).toNat = i ∧ i < n := ⟨(min p q).toNat, by split <;> omega, rfl, by omega⟩
        obtain ⟨j, hj1, hj2, hj3⟩ : ∃ j : Nat, (if p < q then q else p) = (j : Int) ∧ (max p q).toNat = j ∧ j < n := ⟨(max p q).toNat, by split <;> omega, rfl, by omega⟩
        rw [hi1, hj1]
        have HI := Lib.hid hi2
        have HJ := Lib.hid hj2
        have hln := HN.out
        have hV := Lib.hid (callsIn_wide.1 (voltagesOf_in t (some ⟨b, o, none⟩) n cap l HN.out f B cap' hot HM.out W4 (HS.out.ext (e1.trans hF)) (HH.out.ext (e1.trans hF)) hok hf h1 h4))
        have hgb := (gfold_small (hot := hot) hok hf (by omega) (i + 1) (by omega)).1
        have hvb := volts_small (hot := hot) hok hf (by omega)
        have HGA := Lib.hid (fun W (e : Ext w W) => groundedAt_any t b o n cap l HN.out f B cap' hot HM.out i W (HS.out.ext e) (HH.out.ext e) hok hf h4 hi3)
        have hvl := volts_len f hot l
        obtain ⟨⟨g1, g2⟩, hgz⟩ : ∃ z : G, z = grounded f hot l i := ⟨_, rfl⟩
        obtain ⟨⟨v1, v2⟩, hvz⟩ : ∃ z : G, z = volt f hot l (j + 1) := ⟨_, rfl⟩
        obtain ⟨⟨d1, d2⟩, hdz⟩ : ∃ z : G, z = volt f hot l 0 := ⟨_, rfl⟩
        have hv1 : (volts f hot l)[j + 1]? = some ⟨v1, v2⟩ := by rw [hvz]; simp [volt, List.getElem?_eq_getElem (show j + 1 < (volts f hot l).length by omega)]
        have hv0 : (volts f hot l)[0]? = some ⟨d1, d2⟩ := by rw [hdz]; simp [volt, List.getElem?_eq_getElem (show 0 < (volts f hot l).length by omega)]
        have hgb2 : Bd 300000000 ⟨g1, g2⟩ := by rw [hgz]; exact hgb
        have hvb1 := hvb _ _ hv1
        have hvb0 := hvb _ _ hv0
        simp only [Bd] at hgb2 hvb1 hvb0
        have p1 := prod_bd hgb2.1 hvb1.1
        have p2 := prod_bd hgb2.2 hvb1.2
        have p3 := prod_bd hgb2.1 hvb1.2
        have p4 := prod_bd hgb2.2 hvb1.1
        have HTM := Lib.hid (times_any g1 g2 v1 v2 (by unfold Big; omega) (by unfold Big; omega) (by unfold Big; omega) (by unfold Big; omega))
        have hdn := HD.out HR.out
        rw [← hdz] at hdn
        have HRD := Lib.hid (reduced_any (g1 * v1 - g2 * v2) (g1 * v2 + g2 * v1) d1 d2 (by unfold Big; omega) (by unfold Big; omega) (by unfold Big; omega) (by unfold Big; omega) hdn)
        rw [← hgz] at HGA
        have HGZ := Lib.hid hgz
        have HVZ := Lib.hid hvz
        have HDZ := Lib.hid hdz
        have HV1 := Lib.hid hv1
        have HV0 := Lib.hid hv0
        obtain ⟨j1, hj1e⟩ : ∃ j1, j1 = j + 1 := ⟨_, rfl⟩
        have hj1w : IntKind.i64.wrap ((j : Int) + 1) = (j1 : Int) := by rw [IntWalk.i64_in _ (by omega)]; omega
        have hj1n : (j1 : Int) < (n : Int) + 1 := by omega
        have HJ1 := Lib.hid hj1e
        have e4 := e1.trans hF
        replace k0 := k0.ext hF
        replace k1 := k1.ext hF
        replace k3 := k3.ext hF
        clear z0 z1 z2 z3 z4 z5 h9 h10 hi1 hj1 hi2 hj2 hgb hvb hgz hvz hdz hv1 hv0 hgb2 hvb1 hvb0 p1 p2 p3 p4 hdn hok hf hp hq hvl hj1e k2
        have z0 : W4.cell? ⟨w.heap.size, 0, none⟩ = some (.int .i64 t) := k0.cell 0
        have z1 : W4.cell? ⟨w.heap.size, 1, none⟩ = some (.slice (some ⟨b, o, none⟩) n cap) := k0.cell 1
        have z2 : W4.cell? ⟨w.heap.size + 1, 0, none⟩ = some (.int .i64 f) := k1.cell 0
        have z3 : W4.cell? ⟨w.heap.size + 1, 1, none⟩ = some (.slice B n cap') := k1.cell 1
        go_wp2_with (go_at_call 89; refine hV.out.mono ?_; rintro e W5 ⟨g, cp, rfl, hrw, hx5, _⟩)
        have e5 := e4.trans hx5
        replace k0 := k0.ext hx5
        replace k1 := k1.ext hx5
        replace k3 := k3.ext hx5
        clear z0 z1 z2 z3
        have z0 : W5.cell? ⟨w.heap.size, 0, none⟩ = some (.int .i64 t) := k0.cell 0
        have z1 : W5.cell? ⟨w.heap.size, 1, none⟩ = some (.slice (some ⟨b, o, none⟩) n cap) := k0.cell 1
        have z2 : W5.cell? ⟨w.heap.size + 1, 0, none⟩ = some (.int .i64 f) := k1.cell 0
        have z3 : W5.cell? ⟨w.heap.size + 1, 1, none⟩ = some (.slice B n cap') := k1.cell 1
        obtain ⟨b1, o1, ee1, _, hc1⟩ := hrw.2 _ _ HV1.out
        obtain ⟨b0, o0, ee0, _, hc0⟩ := hrw.2 _ _ HV0.out
        obtain ⟨rfl, rfl⟩ : g = b1 ∧ 0 = o1 := by simpa using ee1
        obtain ⟨rfl, rfl⟩ : g = b0 ∧ 0 = o0 := by simpa using ee0
        rw [← HJ1.out] at hc1
        have x1 : W5.cell? ⟨g, j1 * 2, none⟩ = some (.int .i64 v1) := by have := hc1 0 _ rfl; simpa using this
        have x2 : W5.cell? ⟨g, j1 * 2 + 1, none⟩ = some (.int .i64 v2) := by have := hc1 1 _ rfl; simpa using this
        have x3 : W5.cell? ⟨g, 0, none⟩ = some (.int .i64 d1) := by have := hc0 0 _ rfl; simpa using this
        have x4 : W5.cell? ⟨g, 1, none⟩ = some (.int .i64 d2) := by have := hc0 1 _ rfl; simpa using this
        clear hc1 hc0 ee1 ee0 hrw k0 k1
        refine wp_region_part 14 [some 37, some 38, some 39, some 40, some 41, some 42, some 43, some 44, some 45, some 46, some 47, some 48, some 49, some 50] [[3], [4], [9], [37, 38, 39], [11], [10], [42], [41, 43], [44], [40, 45], [11], [47], [48], [46, 49]]
          [Is (.agg #[.int .i64 (t), .slice (some ⟨b, o, none⟩) n cap]), Is (.agg #[.int .i64 (f), .slice B n cap']), Is (.int .i64 ((i : Int))), Is (.agg #[.int .i64 g1, .int .i64 g2]), Is (.slice (some ⟨g, 0, none⟩) (n + 1) cp), Is (.int .i64 ((j : Int))), Is (.int .i64 ((j1 : Int))), Is (.pointer (some ⟨g, j1 * 2, none⟩)), Is (.agg #[.int .i64 (v1), .int .i64 (v2)]), Is (.agg #[.int .i64 (g1 * v1 - g2 * v2), .int .i64 (g1 * v2 + g2 * v1)]), Is (.slice (some ⟨g, 0, none⟩) (n + 1) cp), Is (.pointer (some ⟨g, 0, none⟩)), Is (.agg #[.int .i64 (d1), .int .i64 (d2)]), Is (.agg (redV ⟨g1 * v1 - g2 * v2, g1 * v2 + g2 * v1⟩ ⟨d1, d2⟩))]
          (by kernel_rfl) (by kernel_rfl) (by kernel_rfl) (by kernel_rfl) (by kernel_rfl) (by kernel_rfl) (by kernel_rfl) Ext (fun W => Ext W5 W)
          (fun W _ => Ext.refl W) (fun W W' h k => h.trans k) ?_ (Ext.drew _) ?_ ?_
        · repeat (refine ⟨fun _ _ _ _ k h => (by first | exact h | exact IntsAt.ext h k), ?_⟩)
          exact trivial
        · refine ⟨?_, ?_, ?_, ?_, ?_, ?_, ?_, ?_, ?_, ?_, ?_, ?_, ?_, ?_, trivial⟩
          all_goals intro ρ W ⟨kc, kg, kf⟩ hF hs
          · obtain ⟨h0, -⟩ := hs
            replace h0 : ρ (.tmp 3) = .pointer (some ⟨w.heap.size, 0, none⟩) := h0
            have hc0 : W.cell? ⟨w.heap.size, 0, none⟩ = some (.int .i64 (t)) := hF.cell (by assumption)
            have hc1 : W.cell? ⟨w.heap.size, 1, none⟩ = some (.slice (some ⟨b, o, none⟩) n cap) := hF.cell (by assumption)
            go_simp
            exact ⟨Ext.refl _, rfl⟩
          · obtain ⟨h0, -⟩ := hs
            replace h0 : ρ (.tmp 4) = .pointer (some ⟨w.heap.size + 1, 0, none⟩) := h0
            have hc0 : W.cell? ⟨w.heap.size + 1, 0, none⟩ = some (.int .i64 (f)) := hF.cell (by assumption)
            have hc1 : W.cell? ⟨w.heap.size + 1, 1, none⟩ = some (.slice B n cap') := hF.cell (by assumption)
            go_simp
            exact ⟨Ext.refl _, rfl⟩
          · obtain ⟨h0, -⟩ := hs
            replace h0 : ρ (.tmp 9) = .int .i64 ((i : Int)) := h0
            go_simp
            exact ⟨Ext.refl _, rfl⟩
          · obtain ⟨h0, h1, h2, -⟩ := hs
            replace h0 : ρ (.tmp 37) = .agg #[.int .i64 (t), .slice (some ⟨b, o, none⟩) n cap] := h0
            replace h1 : ρ (.tmp 38) = .agg #[.int .i64 (f), .slice B n cap'] := h1
            replace h2 : ρ (.tmp 39) = .int .i64 ((i : Int)) := h2
            go_simp
            refine (HGA.out W (e5.trans hF)).mono ?_; rintro e w' ⟨rfl, hx⟩; exact ⟨_, rfl, hx, rfl⟩
          · obtain ⟨h0, -⟩ := hs
            replace h0 : ρ (.tmp 11) = .slice (some ⟨g, 0, none⟩) (n + 1) cp := h0
            go_simp
            exact ⟨Ext.refl _, rfl⟩
          · obtain ⟨h0, -⟩ := hs
            replace h0 : ρ (.tmp 10) = .int .i64 ((j : Int)) := h0
            go_simp
            exact ⟨Ext.refl _, rfl⟩
          · obtain ⟨h0, -⟩ := hs
            replace h0 : ρ (.tmp 42) = .int .i64 ((j : Int)) := h0
            have hw : IntKind.i64.wrap ((j : Int) + 1) = (j1 : Int) := hj1w
            go_simp
            exact ⟨Ext.refl _, rfl⟩
          · obtain ⟨h0, h1, -⟩ := hs
            replace h0 : ρ (.tmp 41) = .slice (some ⟨g, 0, none⟩) (n + 1) cp := h0
            replace h1 : ρ (.tmp 43) = .int .i64 ((j1 : Int)) := h1
            have hj2 : (j1 : Int) < (n : Int) + 1 := hj1n
            go_simp
            exact ⟨Ext.refl _, rfl⟩
          · obtain ⟨h0, -⟩ := hs
            replace h0 : ρ (.tmp 44) = .pointer (some ⟨g, j1 * 2, none⟩) := h0
            have hc0 : W.cell? ⟨g, j1 * 2, none⟩ = some (.int .i64 (v1)) := hF.cell (by assumption)
            have hc1 : W.cell? ⟨g, j1 * 2 + 1, none⟩ = some (.int .i64 (v2)) := hF.cell (by assumption)
            go_simp
            exact ⟨Ext.refl _, rfl⟩
          · obtain ⟨h0, h1, -⟩ := hs
            replace h0 : ρ (.tmp 40) = .agg #[.int .i64 g1, .int .i64 g2] := h0
            replace h1 : ρ (.tmp 45) = .agg #[.int .i64 (v1), .int .i64 (v2)] := h1
            go_simp
            refine (HTM.out W).mono ?_; rintro e w' ⟨rfl, hx⟩; exact ⟨_, rfl, hx, rfl⟩
          · obtain ⟨h0, -⟩ := hs
            replace h0 : ρ (.tmp 11) = .slice (some ⟨g, 0, none⟩) (n + 1) cp := h0
            go_simp
            exact ⟨Ext.refl _, rfl⟩
          · obtain ⟨h0, -⟩ := hs
            replace h0 : ρ (.tmp 47) = .slice (some ⟨g, 0, none⟩) (n + 1) cp := h0
            have hn0 : (0 : Int) < (n : Int) + 1 := by omega
            go_simp
            exact ⟨Ext.refl _, rfl⟩
          · obtain ⟨h0, -⟩ := hs
            replace h0 : ρ (.tmp 48) = .pointer (some ⟨g, 0, none⟩) := h0
            have hc0 : W.cell? ⟨g, 0, none⟩ = some (.int .i64 (d1)) := hF.cell (by assumption)
            have hc1 : W.cell? ⟨g, 1, none⟩ = some (.int .i64 (d2)) := hF.cell (by assumption)
            go_simp
            exact ⟨Ext.refl _, rfl⟩
          · obtain ⟨h0, h1, -⟩ := hs
            replace h0 : ρ (.tmp 46) = .agg #[.int .i64 (g1 * v1 - g2 * v2), .int .i64 (g1 * v2 + g2 * v1)] := h0
            replace h1 : ρ (.tmp 49) = .agg #[.int .i64 (d1), .int .i64 (d2)] := h1
            go_simp
            refine (HRD.out W).mono ?_; rintro e w' ⟨rfl, hx⟩; exact ⟨_, rfl, hx, rfl⟩
        · intro fv W hF hs
          obtain ⟨-, -, -, -, -, -, -, -, -, -, -, -, -, h50, -⟩ := hs
          replace h50 : fv 50 = .agg (redV ⟨g1 * v1 - g2 * v2, g1 * v2 + g2 * v1⟩ ⟨d1, d2⟩) := h50
          simp only [fin, List.filterMap]
          go_simp
          have k4 := k3.ext hF
          have f0 := k4.free 0
          have f1 := k4.free 1
          have f2 := k4.free 2
          have f3 := k4.free 3
          have y0 := k4.cell 0
          have y1 := k4.cell 1
          have y2 := k4.cell 2
          have y3 := k4.cell 3
          simp only [List.getElem?_toArray, List.getElem?_cons_zero, List.getElem?_cons_succ] at y0 y1 y2 y3
          obtain ⟨a1, a2, a3, a4, hrv⟩ : ∃ a1 a2 a3 a4, redV ⟨g1 * v1 - g2 * v2, g1 * v2 + g2 * v1⟩ ⟨d1, d2⟩ = #[.int .i64 a1, .int .i64 a2, .int .i64 a3, .int .i64 a4] := ⟨_, _, _, _, rfl⟩
          rw [hrv]
          have HRV := Lib.hid hrv
          have HE6 := Lib.hid (e5.trans hF)
          clear hrv h50 hF
          go_wp2
          refine bodyPost_ret (v := .tuple #[.agg #[.int .i64 a1, .int .i64 a2, .int .i64 a3, .int .i64 a4], .int .i64 0]) (by simp [results, Try.f54, go_sem, y0, y1, y2, y3]) rfl ⟨Ext.set (Ext.set (Ext.set (Ext.set HE6.out (by dsimp only; omega) _) (by dsimp only; omega) _) (by dsimp only; omega) _) (by dsimp only; omega) _, .inr ⟨HR.out, ?_⟩⟩
          rw [HI.out, HJ.out, ← HGZ.out, ← HVZ.out, ← HDZ.out]
          show _ = Ending.returned (.tuple #[.agg (redV ⟨g1 * v1 - g2 * v2, g1 * v2 + g2 * v1⟩ ⟨d1, d2⟩), .int .i64 0])
          rw [HRV.out]
    · have HR := Lib.hid hr
      have hr' : (transE t l f m p q != 0) = true := by simp [hr]
      have f0 := k3.free 0
      have f1 := k3.free 1
      have f2 := k3.free 2
      have f3 := k3.free 3
      have y0 := k3.cell 0
      have y1 := k3.cell 1
      have y2 := k3.cell 2
      have y3 := k3.cell 3
      simp only [List.getElem?_toArray, List.getElem?_cons_zero, List.getElem?_cons_succ] at y0 y1 y2 y3
      clear hr HE HC HSE k0 k1 k2
      obtain ⟨r, hrr⟩ : ∃ r, r = transE t l f m p q := ⟨_, rfl⟩
      rw [← hrr] at hr' ⊢
      have HRR := Lib.hid hrr
      clear hrr
      go_wp2
      refine bodyPost_ret (v := .tuple #[.agg #[.int .i64 0, .int .i64 0, .int .i64 0, .int .i64 0], .int .i64 r]) (by simp [results, Try.f54, go_sem, y0, y1, y2, y3]) rfl ⟨Ext.set (Ext.set (Ext.set (Ext.set e1 (by dsimp only; omega) _) (by dsimp only; omega) _) (by dsimp only; omega) _) (by dsimp only; omega) _, .inl ⟨HR.out, by rw [HRR.out]⟩⟩

end Go.Proofs.Ytpaoeghdfeekoaa
