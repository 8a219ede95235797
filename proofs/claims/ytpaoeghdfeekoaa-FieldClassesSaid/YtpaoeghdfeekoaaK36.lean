/- Classes: the reference's CheckClass and ClassErr; base.Mod. -/
import Derived.Test.YtpaoeghdfeekoaaK33
namespace Go.Proofs.Ytpaoeghdfeekoaa
open Go.RowKit Go.Shelf Go.Mem Go.RegInv
attribute [local go_sem] RelUpon_value RelUpon_skip RelUpon_enter BigFrame.eval_const BigFrame.eval_global BigFrame.eval_func

theorem ends_cases4 (r : G) : endsE 1 4 r = if inB 1 4 r.re = true ∧ inB 1 4 r.im = true then (if r.im < r.re then 9 else 0) else 2 := by
  unfold endsE
  rw [rangeE_two]
  by_cases h : inB 1 4 r.re = true ∧ inB 1 4 r.im = true
  · rw [if_pos h, if_pos h]; by_cases hlt : r.im < r.re <;> simp [firstE, errIf, hlt]
  · rw [if_neg h, if_neg h]; simp [firstE]
theorem checkL_big {t : Int} {ls : List Sh} (h : 4 < ls.length) : (checkL t ls).2 ≠ 0 := by
  unfold checkL
  by_cases h1 : inB 1 20 t = true
  · have hh : headE t ls.length = 8 := by rw [head_cases, if_pos h1, if_neg (by omega), if_pos h]
    rw [hh]; simp
  · have hh : headE t ls.length = 2 := by rw [head_cases, if_neg h1]
    rw [hh]; simp

set_option maxRecDepth 100000 in
set_option maxHeartbeats 4000000 in
theorem refCheckClass_any (t : Int) (A : Option Addr) (n ca : Nat) (ls : List Sh) (hn : ls.length = n) (R : Option Addr) (m cr : Nat) (rs : List G) (hm : rs.length = m) (w : World) (hS : n ≤ 6 → RowsAt 3 Sh.enc w A ls) (hR : m ≤ 6 → RowsAt 2 G.enc w R rs) :
    Calls Try.prog 75 #[.agg #[.int .i64 t, .slice A n ca, .slice R m cr]] w fun e w' => e = .returned (.tuple #[.int .i64 (checkC t ls rs).1, .int .i64 (checkC t ls rs).2]) ∧ Ext w w' := by
  obtain ⟨W0, hW0⟩ : ∃ W0, W0 = w.alloc (.cells #[.int .i64 t, .slice A n ca, .slice R m cr] 120) := ⟨_, rfl⟩
  have k0 : Blk W0 w.heap.size 120 #[.int .i64 t, .slice A n ca, .slice R m cr] := by rw [hW0]; exact Blk.new _ _ _
  have e0 : Ext w W0 := by rw [hW0]; exact Ext.alloc _ _
  have z0 : W0.cell? ⟨w.heap.size, 0, none⟩ = some (.int .i64 t) := k0.cell 0
  have z1 : W0.cell? ⟨w.heap.size, 1, none⟩ = some (.slice A n ca) := k0.cell 1
  have z2 : W0.cell? ⟨w.heap.size, 2, none⟩ = some (.slice R m cr) := k0.cell 2
  have HL := Lib.hid (refCheckLadder_gen t A n ca ls hn W0 (fun h => (hS h).ext e0))
  have HC := Lib.hid (show checkC t ls rs = if (checkL t ls).2 ≠ 0 then ((checkL t ls).1, (checkL t ls).2) else if m ≠ n then (0, 10) else firstRg rs 0 by unfold checkC; rw [hn, hm])
  have HBIG := Lib.hid (show (checkL t ls).2 = 0 → n ≤ 4 from fun h => by by_cases h4 : n ≤ 4; exact h4; exact absurd h (checkL_big (by omega)))
  have K0 := Lib.hid k0
  have E0 := Lib.hid e0
  have HM := Lib.hid hm
  have HR := Lib.hid hR
  clear hn hm hS hR k0 e0
  generalize (checkL t ls).1 = c1 at *
  generalize (checkL t ls).2 = c2 at *
  by_cases hc : c2 = 0
  · have hcb : (c2 != 0) = false := by simp [hc]
    have n4 := HBIG.out hc
    by_cases hmn : m = n
    · have hnb : ((m : Int) != (n : Int)) = false := by simp [hmn]
      have HR' := Lib.hid (show checkC t ls rs = firstRg rs 0 by rw [HC.out, if_neg (by simp [hc]), if_neg (by simp [hmn])])
      have HRR := Lib.hid (HR.out (by omega))
      have m4 : m ≤ 4 := by omega
      clear hc hmn HC HBIG HR
      go_enter Try.func75, Try.ntmps75
      go_wp2_with (rw [← hW0]; clear hW0; go_at_call 23; refine (HL.out).mono ?_; rintro e W1 ⟨rfl, hx⟩; have z2' := (K0.out.ext hx).cell 2; have z1' := (K0.out.ext hx).cell 1; have X1 := Lib.hid hx; clear hx)
      have z2W := Lib.hid z2'
      clear z1' z2' z0 z1 z2
      go_loopw [6] (fun i wr => ∃ k : Nat, k ≤ m ∧ i = .int .i64 k ∧ firstRg rs 0 = firstRg (rs.drop k) k ∧ Ext W1 wr) (fun i _ => m - (intOf i).toNat)
      case atStart => exact ⟨0, Nat.zero_le _, rfl, rfl, Ext.refl _⟩
      case round =>
        obtain ⟨k, hk, rfl, hr, hx⟩ := hrel
        have HF := Lib.hid hr
        have HX := Lib.hid hx
        have z2 : wr.cell? ⟨w.heap.size, 2, none⟩ = some (.slice R m cr) := hx.cell z2W.out
        clear hr hx
        by_cases hlt : k < m
        · obtain ⟨g, hg⟩ : ∃ g, rs[k]? = some g := ⟨_, List.getElem?_eq_getElem (by rw [HM.out]; exact hlt)⟩
          have HD := Lib.hid (firstRg_drop rs k g hg)
          obtain ⟨b, o, hA, hb, hc⟩ := HRR.out.2 k g hg
          subst hA
          have c0 : wr.cell? ⟨b, o + k * 2, none⟩ = some (.int .i64 g.re) := (E0.out.trans (X1.out.trans HX.out)).cell (hc 0 _ rfl)
          have c1 : wr.cell? ⟨b, o + k * 2 + 1, none⟩ = some (.int .i64 g.im) := (E0.out.trans (X1.out.trans HX.out)).cell (hc 1 _ rfl)
          have HE := Lib.hid (ends_cases4 g)
          clear hg hc hb
          generalize endsE 1 4 g = z at HD HE
          generalize g.re = ga at *
          generalize g.im = gb at *
          have hki : (k : Int) < (m : Int) := by omega
          by_cases h1 : inB 1 4 ga = true
          · have HT0 := Lib.hid (fun W => within_any ga 1 4 W)
            rw [h1] at HT0
            by_cases h2 : inB 1 4 gb = true
            · have HT1 := Lib.hid (fun W => within_any gb 1 4 W)
              rw [h2] at HT1
              by_cases hlt2 : gb < ga
              · have HZ := Lib.hid (show z = 9 by rw [HE.out, if_pos ⟨h1, h2⟩, if_pos hlt2])
                have hgt : decide (ga > gb) = true := by simp; omega
                have HA := Lib.hid (show checkC t ls rs = ((k : Int), 9) by rw [HR'.out, HF.out, HD.out, HZ.out]; rfl)
                clear h1 h2 HE
                go_wp2_with (first
                  | (go_at_call 40; (with_reducible refine (HT0.out _).mono ?_); rintro e w' ⟨rfl, rfl⟩)
                  | (go_at_call 40; (with_reducible refine (HT1.out _).mono ?_); rintro e w' ⟨rfl, rfl⟩))
                go_quiet (fail)
                go_wp2
                rw [HA.out]
                go_ret2
                exact ⟨rfl, E0.out.trans (X1.out.trans (HX.out.trans (Ext.drewN _ _)))⟩
              · have HZ := Lib.hid (show z = 0 by rw [HE.out, if_pos ⟨h1, h2⟩, if_neg hlt2])
                have hgt : decide (ga > gb) = false := by simp; omega
                clear h1 h2 HE
                go_wp2_with (first
                  | (go_at_call 40; (with_reducible refine (HT0.out _).mono ?_); rintro e w' ⟨rfl, rfl⟩)
                  | (go_at_call 40; (with_reducible refine (HT1.out _).mono ?_); rintro e w' ⟨rfl, rfl⟩))
                go_quiet (fail)
                go_wp2
                go_roundw
                case rel => exact ⟨k + 1, by omega, by go_num, by rw [HF.out, HD.out, HZ.out]; simp, HX.out.trans (Ext.drewN _ _)⟩
                case measure => simp [intOf]; omega
            · have HT1 := Lib.hid (fun W => within_any gb 1 4 W)
              rw [show inB 1 4 gb = false by simpa using h2] at HT1
              have HZ := Lib.hid (show z = 2 by rw [HE.out, if_neg (by simp [h2])])
              have HA := Lib.hid (show checkC t ls rs = ((k : Int), 2) by rw [HR'.out, HF.out, HD.out, HZ.out]; rfl)
              clear h1 h2 HE
              go_wp2_with (first
                  | (go_at_call 40; (with_reducible refine (HT0.out _).mono ?_); rintro e w' ⟨rfl, rfl⟩)
                  | (go_at_call 40; (with_reducible refine (HT1.out _).mono ?_); rintro e w' ⟨rfl, rfl⟩))
              rw [HA.out]
              go_ret2
              exact ⟨rfl, E0.out.trans (X1.out.trans HX.out)⟩
          · have HT0 := Lib.hid (fun W => within_any ga 1 4 W)
            rw [show inB 1 4 ga = false by simpa using h1] at HT0
            have HZ := Lib.hid (show z = 2 by rw [HE.out, if_neg (by simp [h1])])
            have HA := Lib.hid (show checkC t ls rs = ((k : Int), 2) by rw [HR'.out, HF.out, HD.out, HZ.out]; rfl)
            clear h1 HE
            go_wp2_with (first
                  | (go_at_call 40; (with_reducible refine (HT0.out _).mono ?_); rintro e w' ⟨rfl, rfl⟩))
            rw [HA.out]
            go_ret2
            exact ⟨rfl, E0.out.trans (X1.out.trans HX.out)⟩
        · have HA := Lib.hid (show checkC t ls rs = (0, 0) by rw [HR'.out, HF.out, List.drop_of_length_le (by rw [HM.out]; omega)]; rfl)
          go_wp2
          rw [HA.out]
          go_ret2
          exact ⟨rfl, E0.out.trans (X1.out.trans HX.out)⟩
    · have hnb : ((m : Int) != (n : Int)) = true := by simp; omega
      have HA := Lib.hid (show checkC t ls rs = (0, 10) by rw [HC.out, if_neg (by simp [hc]), if_pos hmn])
      rw [HA.out]
      clear hc hmn HC HA HBIG
      go_enter Try.func75, Try.ntmps75
      go_wp2_with (rw [← hW0]; clear hW0; go_at_call 23; refine (HL.out).mono ?_; rintro e W1 ⟨rfl, hx⟩; have z2' := (K0.out.ext hx).cell 2; have z1' := (K0.out.ext hx).cell 1; have X1 := Lib.hid hx; clear hx)
      go_ret2
      exact ⟨rfl, E0.out.trans X1.out⟩
  · have hcb : (c2 != 0) = true := by simp [hc]
    have HA := Lib.hid (show checkC t ls rs = (c1, c2) by rw [HC.out, if_pos hc])
    rw [HA.out]
    clear hc HC HA HBIG
    go_enter Try.func75, Try.ntmps75
    go_wp2_with (rw [← hW0]; clear hW0; go_at_call 23; refine (HL.out).mono ?_; rintro e W1 ⟨rfl, hx⟩; have z2' := (K0.out.ext hx).cell 2; have z1' := (K0.out.ext hx).cell 1; have X1 := Lib.hid hx; clear hx)
    go_ret2
    exact ⟨rfl, E0.out.trans X1.out⟩

set_option maxRecDepth 100000 in
theorem classErr_any (t : Int) (A : Option Addr) (n ca : Nat) (ls : List Sh) (hn : ls.length = n) (R : Option Addr) (m cr : Nat) (rs : List G) (hm : rs.length = m) (w : World) (hS : n ≤ 6 → RowsAt 3 Sh.enc w A ls) (hR : m ≤ 6 → RowsAt 2 G.enc w R rs) :
    Calls Try.prog 79 #[.agg #[.int .i64 t, .slice A n ca, .slice R m cr]] w fun e w' => e = .returned (.int .i64 (checkC t ls rs).2) ∧ Ext w w' := by
  have e0 := Ext.alloc w (.cells #[.int .i64 t, .slice A n ca, .slice R m cr] 120)
  have HC := Lib.hid (refCheckClass_any t A n ca ls hn R m cr rs hm _ (fun h => (hS h).ext e0) (fun h => (hR h).ext e0))
  have E0 := Lib.hid e0
  clear hn hm hS hR e0
  generalize (checkC t ls rs).1 = c1 at *
  generalize (checkC t ls rs).2 = c2 at *
  go_enter Try.func79, Try.ntmps79
  go_wp2_with (go_at_call 75; refine (HC.out).mono ?_; rintro e W1 ⟨rfl, hx⟩; have X1 := Lib.hid hx; clear hx)
  go_ret
  exact ⟨rfl, E0.out.trans X1.out⟩

end Go.Proofs.Ytpaoeghdfeekoaa
