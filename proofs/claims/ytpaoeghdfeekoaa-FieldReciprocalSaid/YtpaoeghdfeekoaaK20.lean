/- Transfers of a ladder without shells; impedances and transfers with their errors. -/
import Derived.Test.YtpaoeghdfeekoaaK19
namespace Go.Proofs.Ytpaoeghdfeekoaa
open Go.RowKit Go.Shelf Go.Mem Go.RegInv
attribute [local go_sem] RelUpon_value RelUpon_skip RelUpon_enter BigFrame.eval_const BigFrame.eval_global BigFrame.eval_func

set_option maxRecDepth 100000 in
set_option maxHeartbeats 2000000 in
theorem transferOf_none (t : Int) (A : Option Addr) (n cap : Nat) (l : List Sh) (hl0 : l.length = 0) (hn : l.length = n) (f : Int) (B : Option Addr) (m cap' : Nat) (hot : List Bool) (hm : hot.length = m) (p q : Int) (w : World)
    (hS : RowsAt 3 Sh.enc w A l) (hH : RowsAt 1 boolEnc w B hot) :
    Calls Try.prog 54 #[.agg #[.int .i64 t, .slice A n cap], .agg #[.int .i64 f, .slice B m cap'], .agg #[.int .i64 p, .int .i64 q]] w fun e w' => Ext w w' ∧
      ((transE t l f m p q ≠ 0 ∧ e = .returned (.tuple #[.agg #[.int .i64 0, .int .i64 0, .int .i64 0, .int .i64 0], .int .i64 (transE t l f m p q)])) ∨
       (transE t l f m p q = 0 ∧ e = .returned (.tuple #[.agg (redV (timesG (grounded f hot l (min p q).toNat) (volt f hot l ((max p q).toNat + 1))) (volt f hot l 0)), .int .i64 0]))) := by
  have hnb : n ≤ 1152921504606846976 := by have := hS.1; omega
  have HC := Lib.hid (fun W (e : Ext w W) => checkDrive_any t A n cap l hn f B m cap' W (hS.ext e))
  have HSE := Lib.hid (fun W (h : IntsAt W (.slice (some ⟨w.heap.size + 1 + 1, 0, none⟩) 2 2) [p, q]) => shellError_any t A n cap _ [p, q] W hnb h)
  have e0 : Ext w ((((w.alloc (.cells #[.int .i64 t, .slice A n cap] 24)).alloc (.cells #[.int .i64 f, .slice B m cap'] 27)).alloc (.cells #[.int .i64 p, .int .i64 q] 82)).alloc (.cells #[.int .i64 0, .int .i64 0, .int .i64 0, .int .i64 0] 84)) := (Ext.alloc _ _).trans ((Ext.alloc _ _).trans ((Ext.alloc _ _).trans (Ext.alloc _ _)))
  have k0 : Blk ((((w.alloc (.cells #[.int .i64 t, .slice A n cap] 24)).alloc (.cells #[.int .i64 f, .slice B m cap'] 27)).alloc (.cells #[.int .i64 p, .int .i64 q] 82)).alloc (.cells #[.int .i64 0, .int .i64 0, .int .i64 0, .int .i64 0] 84)) w.heap.size 24 #[.int .i64 t, .slice A n cap] := (((Blk.newAt _ _ _ rfl).alloc _).alloc _).alloc _
  have k1 : Blk ((((w.alloc (.cells #[.int .i64 t, .slice A n cap] 24)).alloc (.cells #[.int .i64 f, .slice B m cap'] 27)).alloc (.cells #[.int .i64 p, .int .i64 q] 82)).alloc (.cells #[.int .i64 0, .int .i64 0, .int .i64 0, .int .i64 0] 84)) (w.heap.size + 1) 27 #[.int .i64 f, .slice B m cap'] := ((Blk.newAt _ _ _ (by simp)).alloc _).alloc _
  have k2 : Blk ((((w.alloc (.cells #[.int .i64 t, .slice A n cap] 24)).alloc (.cells #[.int .i64 f, .slice B m cap'] 27)).alloc (.cells #[.int .i64 p, .int .i64 q] 82)).alloc (.cells #[.int .i64 0, .int .i64 0, .int .i64 0, .int .i64 0] 84)) (w.heap.size + 1 + 1) 82 #[.int .i64 p, .int .i64 q] := (Blk.newAt _ _ _ (by simp)).alloc _
  have k3 : Blk ((((w.alloc (.cells #[.int .i64 t, .slice A n cap] 24)).alloc (.cells #[.int .i64 f, .slice B m cap'] 27)).alloc (.cells #[.int .i64 p, .int .i64 q] 82)).alloc (.cells #[.int .i64 0, .int .i64 0, .int .i64 0, .int .i64 0] 84)) (w.heap.size + 1 + 1 + 1) 84 #[.int .i64 0, .int .i64 0, .int .i64 0, .int .i64 0] := Blk.newAt _ _ _ (by simp)
  have HE := Lib.hid (show transE t l f m p q = firstE [driveE t l f m, errIf ([p, q].any (outB 0 ((n : Int) - 1))) 6] by unfold transE; rw [hn])
  have HS := Lib.hid hS
  have HH := Lib.hid hH
  have HN := Lib.hid hn
  have HM := Lib.hid hm
  clear hn hS hm hH
  obtain ⟨q1, hq1⟩ : ∃ q, q = driveE t l f m := ⟨_, rfl⟩
  obtain ⟨q2, hq2⟩ : ∃ x, x = errIf ([p, q].any (outB 0 ((n : Int) - 1))) 6 := ⟨_, rfl⟩
  rw [← hq1] at HC HE
  rw [← hq2] at HSE HE
  have HQ1 := Lib.hid hq1
  have HQ2 := Lib.hid hq2
  clear hq1 hq2
  go_enter Try.func54, Try.ntmps54
  go_wp2
  generalize ((((w.alloc (.cells #[.int .i64 t, .slice A n cap] 24)).alloc (.cells #[.int .i64 f, .slice B m cap'] 27)).alloc (.cells #[.int .i64 p, .int .i64 q] 82)).alloc (.cells #[.int .i64 0, .int .i64 0, .int .i64 0, .int .i64 0] 84)) = W0 at *
  have HIN := Lib.hid (ints_two k2)
  have z0 : W0.cell? ⟨w.heap.size, 0, none⟩ = some (.int .i64 t) := k0.cell 0
  have z1 : W0.cell? ⟨w.heap.size, 1, none⟩ = some (.slice A n cap) := k0.cell 1
  have z2 : W0.cell? ⟨w.heap.size + 1, 0, none⟩ = some (.int .i64 f) := k1.cell 0
  have z3 : W0.cell? ⟨w.heap.size + 1, 1, none⟩ = some (.slice B m cap') := k1.cell 1
  have z4 : W0.cell? ⟨w.heap.size + 1 + 1, 0, none⟩ = some (.int .i64 p) := k2.cell 0
  have z5 : W0.cell? ⟨w.heap.size + 1 + 1, 1, none⟩ = some (.int .i64 q) := k2.cell 1
  refine wp_region_each [some 12, some 13, some 14, some 15, some 16, some 17, some 18, some 19, some 8] [[3], [4], [12, 13], [3], [5], [15, 16], [14, 17], [18], [19]]
    [Is (.agg #[.int .i64 (t), .slice A n cap]), Is (.agg #[.int .i64 (f), .slice B m cap']), Is (.int .i64 (q1)), Is (.agg #[.int .i64 (t), .slice A n cap]), Is (.slice (some ⟨w.heap.size + 1 + 1, 0, none⟩) 2 2), Is (.int .i64 (q2)), Ints [q1, q2], Is (.int .i64 (firstE [q1, q2])), Is (.int .i64 (firstE [q1, q2]))]
    (by kernel_rfl) (by kernel_rfl) (by kernel_rfl) (by kernel_rfl) (by kernel_rfl) Ext (fun W => Ext W0 W)
    (fun W _ => Ext.refl W) (fun W W' h k => h.trans k) ?_ (Ext.drew _) ?_ ?_
  · repeat (refine ⟨fun _ _ _ _ k h => (by first | exact h | exact IntsAt.ext h k), ?_⟩)
    exact trivial
  · refine ⟨?_, ?_, ?_, ?_, ?_, ?_, ?_, ?_, ?_, trivial⟩
    all_goals intro ρ W ⟨kc, kg, kf⟩ hF hs
    · obtain ⟨h0, -⟩ := hs
      replace h0 : ρ (.tmp 3) = .pointer (some ⟨w.heap.size, 0, none⟩) := h0
      have hc0 : W.cell? ⟨w.heap.size, 0, none⟩ = some (.int .i64 (t)) := hF.cell (by assumption)
      have hc1 : W.cell? ⟨w.heap.size, 1, none⟩ = some (.slice A n cap) := hF.cell (by assumption)
      go_simp
      exact ⟨Ext.refl _, rfl⟩
    · obtain ⟨h0, -⟩ := hs
      replace h0 : ρ (.tmp 4) = .pointer (some ⟨w.heap.size + 1, 0, none⟩) := h0
      have hc0 : W.cell? ⟨w.heap.size + 1, 0, none⟩ = some (.int .i64 (f)) := hF.cell (by assumption)
      have hc1 : W.cell? ⟨w.heap.size + 1, 1, none⟩ = some (.slice B m cap') := hF.cell (by assumption)
      go_simp
      exact ⟨Ext.refl _, rfl⟩
    · obtain ⟨h0, h1, -⟩ := hs
      replace h0 : ρ (.tmp 12) = .agg #[.int .i64 (t), .slice A n cap] := h0
      replace h1 : ρ (.tmp 13) = .agg #[.int .i64 (f), .slice B m cap'] := h1
      go_simp
      refine (HC.out W (e0.trans hF)).mono ?_; rintro e w' ⟨rfl, hx⟩; exact ⟨_, rfl, hx, rfl⟩
    · obtain ⟨h0, -⟩ := hs
      replace h0 : ρ (.tmp 3) = .pointer (some ⟨w.heap.size, 0, none⟩) := h0
      have hc0 : W.cell? ⟨w.heap.size, 0, none⟩ = some (.int .i64 (t)) := hF.cell (by assumption)
      have hc1 : W.cell? ⟨w.heap.size, 1, none⟩ = some (.slice A n cap) := hF.cell (by assumption)
      go_simp
      exact ⟨Ext.refl _, rfl⟩
    · obtain ⟨h0, -⟩ := hs
      replace h0 : ρ (.tmp 5) = .pointer (some ⟨w.heap.size + 1 + 1, 0, none⟩) := h0
      go_simp
      exact ⟨Ext.refl _, rfl⟩
    · obtain ⟨h0, h1, -⟩ := hs
      replace h0 : ρ (.tmp 15) = .agg #[.int .i64 (t), .slice A n cap] := h0
      replace h1 : ρ (.tmp 16) = .slice (some ⟨w.heap.size + 1 + 1, 0, none⟩) 2 2 := h1
      go_simp
      refine (HSE.out W (HIN.out.ext hF)).mono ?_; rintro e w' ⟨rfl, hx⟩; exact ⟨_, rfl, hx, rfl⟩
    · obtain ⟨h0, h1, -⟩ := hs
      replace h0 : ρ (.tmp 14) = .int .i64 (q1) := h0
      replace h1 : ρ (.tmp 17) = .int .i64 (q2) := h1
      go_simp
      exact ⟨Ext.alloc _ _, ints_new _ [q1, q2] _ (by simp)⟩
    · obtain ⟨h0, -⟩ := hs
      replace h0 : (Ints [q1, q2]) (ρ (.tmp 18)) W := h0
      go_simp
      refine (firstOf_any _ _ _ h0).mono ?_; rintro e w' ⟨rfl, rfl⟩; exact ⟨_, rfl, Ext.refl _, rfl⟩
    · obtain ⟨h0, -⟩ := hs
      replace h0 : ρ (.tmp 19) = .int .i64 (firstE [q1, q2]) := h0
      go_simp
      exact ⟨Ext.refl _, rfl⟩
  · intro fv W1 hF hs
    obtain ⟨-, -, -, -, -, -, -, -, h8, -⟩ := hs
    replace h8 : fv 8 = .int .i64 (firstE [q1, q2]) := h8
    simp only [fin, List.filterMap]
    go_simp
    rw [← HE.out]
    have e1 := e0.trans hF
    clear h8 z0 z1 z2 z3 z4 z5
    replace k0 := k0.ext hF
    replace k1 := k1.ext hF
    replace k2 := k2.ext hF
    replace k3 := k3.ext hF
    clear hF
    have z0 : W1.cell? ⟨w.heap.size, 0, none⟩ = some (.int .i64 t) := k0.cell 0
    have z1 : W1.cell? ⟨w.heap.size, 1, none⟩ = some (.slice A n cap) := k0.cell 1
    have z2 : W1.cell? ⟨w.heap.size + 1, 0, none⟩ = some (.int .i64 f) := k1.cell 0
    have z3 : W1.cell? ⟨w.heap.size + 1, 1, none⟩ = some (.slice B m cap') := k1.cell 1
    have z4 : W1.cell? ⟨w.heap.size + 1 + 1, 0, none⟩ = some (.int .i64 p) := k2.cell 0
    have z5 : W1.cell? ⟨w.heap.size + 1 + 1, 1, none⟩ = some (.int .i64 q) := k2.cell 1
    by_cases hr : transE t l f m p q = 0
    · exfalso
      have hz := (firstE_zero _).1 hr
      obtain ⟨⟨_, ⟨h1, _⟩, _⟩, _, _⟩ := (driveE_zero t l f m).1 (hz _ (by simp))
      omega
    · have HR := Lib.hid hr
      have hr' : (transE t l f m p q != 0) = true := by simp [hr]
      have f0 := k3.free 0
      have f1 := k3.free 1
      have f2 := k3.free 2
      have f3 := k3.free 3
      have y0 := k3.cell 0
      have y1 := k3.cell 1
      have y2 := k3.cell 2
      have y3 := k3.cell 3
      simp only [List.getElem?_toArray, List.getElem?_cons_zero, List.getElem?_cons_succ] at y0 y1 y2 y3
      clear hr HE HC HSE k0 k1 k2
      obtain ⟨r, hrr⟩ : ∃ r, r = transE t l f m p q := ⟨_, rfl⟩
      rw [← hrr] at hr' ⊢
      have HRR := Lib.hid hrr
      clear hrr
      go_wp2
      refine bodyPost_ret (v := .tuple #[.agg #[.int .i64 0, .int .i64 0, .int .i64 0, .int .i64 0], .int .i64 r]) (by simp [results, Try.f54, go_sem, y0, y1, y2, y3]) rfl ⟨Ext.set (Ext.set (Ext.set (Ext.set e1 (by dsimp only; omega) _) (by dsimp only; omega) _) (by dsimp only; omega) _) (by dsimp only; omega) _, .inl ⟨HR.out, by rw [HRR.out]⟩⟩

/-- The parts of a quotient, or zeros. -/
def Parts (q : Int) (n d : G) (z1 z2 z3 z4 : Int) : Prop := (q ≠ 0 → z1 = 0 ∧ z2 = 0 ∧ z3 = 0 ∧ z4 = 0) ∧ (q = 0 → redV n d = #[.int .i64 z1, .int .i64 z2, .int .i64 z3, .int .i64 z4])
theorem parts_ex (q : Int) (n d : G) : ∃ z1 z2 z3 z4, Parts q n d z1 z2 z3 z4 := by
  by_cases h : q = 0
  · exact ⟨_, _, _, _, fun h2 => absurd h h2, fun _ => rfl⟩
  · exact ⟨0, 0, 0, 0, fun _ => ⟨rfl, rfl, rfl, rfl⟩, fun h2 => absurd h2 h⟩
theorem impedanceOf_V {t : Int} {xs : List Sh} {f : Int} {hot : List Bool} {m : Nat} (hm : hot.length = m) {z1 z2 z3 z4 : Int} (hz : Parts (driveE t xs f m) (impN t f hot xs) (curIn f hot xs) z1 z2 z3 z4) (W : World) (u v : Value) (h : LadV t xs u W) (k : DrvV f hot v W) :
    Calls Try.prog 53 #[u, v] W (VPost W (Is (.tuple #[.agg #[.int .i64 z1, .int .i64 z2, .int .i64 z3, .int .i64 z4], .int .i64 (driveE t xs f m)]))) := by
  obtain ⟨A, n, c, hn, rfl, hl⟩ := h
  obtain ⟨B, m', d, hm', rfl, hd⟩ := k
  obtain rfl : m = m' := hm.symm.trans hm'.out
  refine (impedanceOf_any t A n c xs hn.out f B m d hot hm W hl.1 hd (fun hq => by
    obtain ⟨⟨_, ⟨h1, h4⟩, hok⟩, hf, _⟩ := (driveE_zero t xs f m).1 hq
    exact curIn_ne hok hf h1 h4)).mono ?_
  rintro e w' ⟨hx, ⟨h1, h2⟩ | ⟨h1, h2⟩⟩
  · obtain ⟨rfl, rfl, rfl, rfl⟩ := hz.1 h1
    exact ⟨_, h2, hx, rfl⟩
  · rw [hz.2 h1] at h2
    exact ⟨_, h2, hx, by rw [h1]; rfl⟩
theorem transferOf_V {t : Int} {xs : List Sh} {f : Int} {hot : List Bool} {m : Nat} (hm : hot.length = m) (p q : Int) {z1 z2 z3 z4 : Int} (hz : Parts (transE t xs f m p q) (timesG (grounded f hot xs (min p q).toNat) (volt f hot xs ((max p q).toNat + 1))) (volt f hot xs 0) z1 z2 z3 z4) (W : World) (u v : Value) (h : LadV t xs u W) (k : DrvV f hot v W) :
    Calls Try.prog 54 #[u, v, .agg #[.int .i64 p, .int .i64 q]] W (VPost W (Is (.tuple #[.agg #[.int .i64 z1, .int .i64 z2, .int .i64 z3, .int .i64 z4], .int .i64 (transE t xs f m p q)]))) := by
  obtain ⟨A, n, c, hn, rfl, hl⟩ := h
  obtain ⟨B, m', d, hm', rfl, hd⟩ := k
  obtain rfl : m = m' := hm.symm.trans hm'.out
  have fin : ∀ {e : Ending} {w' : World}, (Ext W w' ∧ ((transE t xs f m p q ≠ 0 ∧ e = .returned (.tuple #[.agg #[.int .i64 0, .int .i64 0, .int .i64 0, .int .i64 0], .int .i64 (transE t xs f m p q)])) ∨
       (transE t xs f m p q = 0 ∧ e = .returned (.tuple #[.agg (redV (timesG (grounded f hot xs (min p q).toNat) (volt f hot xs ((max p q).toNat + 1))) (volt f hot xs 0)), .int .i64 0])))) →
      VPost W (Is (.tuple #[.agg #[.int .i64 z1, .int .i64 z2, .int .i64 z3, .int .i64 z4], .int .i64 (transE t xs f m p q)])) e w' := by
    rintro e w' ⟨hx, ⟨h1, h2⟩ | ⟨h1, h2⟩⟩
    · obtain ⟨rfl, rfl, rfl, rfl⟩ := hz.1 h1
      exact ⟨_, h2, hx, rfl⟩
    · rw [hz.2 h1] at h2
      exact ⟨_, h2, hx, by rw [h1]; rfl⟩
  by_cases h0 : xs.length = 0
  · exact (transferOf_none t A n c xs h0 hn.out f B m d hot hm p q W hl.1 hd).mono fun _ _ h => fin h
  · obtain ⟨b, o, rfl, _⟩ := hl.1.2 0 _ (List.getElem?_eq_getElem (by omega))
    exact (transferOf_any t b o n c xs hn.out f B m d hot hm p q W hl.1 hd (fun hq => by
      have hz := (firstE_zero _).1 hq
      obtain ⟨⟨_, ⟨h1, h4⟩, hok⟩, hf, _⟩ := (driveE_zero t xs f m).1 (hz _ (by simp))
      exact ne_of_norm (volt0_ne hok hf h1))).mono fun _ _ h => fin h

end Go.Proofs.Ytpaoeghdfeekoaa
