/- The examples' reading of rules. -/
import Derived.Test.YtkmekbafjnlfkaaGreatS39
import Derived.BigQuiet
import Derived.Lib.MinMax

namespace Go.Proofs.YtkmekbafjnlfkaaGreat
open Go.RowKit Go.Shelf Go.Mem Go.RegInv
attribute [local go_sem] RelUpon_value RelUpon_skip RelUpon_enter BigFrame.eval_const BigFrame.eval_global BigFrame.eval_func

def Rgs2 (xs : List Rg) : Value → World → Prop := fun u W => ∃ b, u = .slice (some ⟨b, 0, none⟩) 2 2 ∧ RowsAt 2 Rg.enc W (some ⟨b, 0, none⟩) xs
theorem Rgs2.ext {xs : List Rg} {u : Value} {W W' : World} (h : Rgs2 xs u W) (e : Ext W W') : Rgs2 xs u W' := by
  obtain ⟨b, h1, h2⟩ := h; exact ⟨b, h1, h2.ext e⟩
theorem hard_eq (a b c d : Int) : hardE a b c d = if (withinB a 0 2000 && withinB b 0 2000 && withinB c 0 2000 && withinB d 0 2000) = true then (if b < a ∨ c < b ∨ d < c then 9 else 0) else 2 := by
  unfold hardE
  rw [rangeE_all]
  simp only [List.all_cons, List.all_nil, Bool.and_true, downK, List.getD_cons_zero, List.getD_cons_succ]
  cases withinB a 0 2000 <;> cases withinB b 0 2000 <;> cases withinB c 0 2000 <;> cases withinB d 0 2000 <;> by_cases h1 : b < a <;> by_cases h2 : c < b <;> by_cases h3 : d < c <;> simp [firstE, errIf, h1, h2, h3]

set_option maxRecDepth 100000 in
set_option maxHeartbeats 8000000 in
theorem refRules_any {r : Ru} {A0 A1 A2 A3 : Option Addr} {n0 n1 n2 n3 c0 c1 c2 c3 : Nat} {w : World} (h : RuAt w r A0 A1 A2 A3 n0 n1 n2 n3) (h10 : n0 ≤ 10 ∧ n1 ≤ 10 ∧ n2 ≤ 10 ∧ n3 ≤ 10) :
    Calls Tryz.prog 17 #[.agg #[.slice A0 n0 c0, .slice A1 n1 c1, .slice A2 n2 c2, .slice A3 n3 c3, .int .i64 r.h0, .int .i64 r.h1, .int .i64 r.h2, .int .i64 r.h3]] w fun e w' => e = .returned (.tuple #[.int .i64 (checkR r (mostR r)).1, .int .i64 (checkR r (mostR r)).2]) ∧ Ext w w' := by
  obtain ⟨m0, m1, m2, m3⟩ := h10
  have HO := Lib.hid (show checkR r (mostR r) = firstFlt [(0, errIf (decide (8 < max (max (max (n0 : Int) n1) n2) n3)) 8), firstAt (knotE HK.kn risingK r.hs) n0 0, firstAt (knotE CK.kn laterK r.cs) n1 0, firstAt (knotE DK.kn fallingK r.ds) n2 0, firstAt (knotE TK.kn laterK r.ts) n3 0, (0, clashK r), (0, hardE r.h0 r.h1 r.h2 r.h3)] by rw [checkR, mostR, h.l0, h.l1, h.l2, h.l3])
  have HCL := Lib.hid (fun (x : HK) (hx : r.hs[0]? = some x) (h0 : knotE HK.kn risingK r.hs 0 = 0) => clash_last (r := r) hx h0 h.l1 h.l2 h.l3)
  have HCN := Lib.hid (fun (e : n0 = 0) => clash_none (r := r) (h.l0.trans e))
  have R0 := Lib.hid (fun (j : Nat) (x : HK) (h : r.hs[j]? = some x) (b : Bool) h1 h2 => heat_round h b h1 h2)
  have R1 := Lib.hid (fun (j : Nat) (x : CK) (h : r.cs[j]? = some x) => cool_round h)
  have R2 := Lib.hid (fun (j : Nat) (x : DK) (h : r.ds[j]? = some x) (b : Bool) h1 h2 => cold_round h b h1 h2)
  have R3 := Lib.hid (fun (j : Nat) (x : TK) (h : r.ts[j]? = some x) => temper_round h)
  have S0 := Lib.hid (fun (j : Nat) (x : HK) (h : r.hs[j]? = some x) => (show lastT HK.kn r.hs (j + 1) = x.k from lastT_succ h))
  have S1 := Lib.hid (fun (j : Nat) (x : CK) (h : r.cs[j]? = some x) => (show lastT CK.kn r.cs (j + 1) = x.k from lastT_succ h))
  have S2 := Lib.hid (fun (j : Nat) (x : DK) (h : r.ds[j]? = some x) => (show lastT DK.kn r.ds (j + 1) = x.k from lastT_succ h))
  have S3 := Lib.hid (fun (j : Nat) (x : TK) (h : r.ts[j]? = some x) => (show lastT TK.kn r.ts (j + 1) = x.k from lastT_succ h))
  have Z0 := Lib.hid (show lastT HK.kn r.hs 0 = -1 from rfl)
  have Z1 := Lib.hid (show lastT CK.kn r.cs 0 = -1 from rfl)
  have Z2 := Lib.hid (show lastT DK.kn r.ds 0 = -1 from rfl)
  have Z3 := Lib.hid (show lastT TK.kn r.ts 0 = -1 from rfl)
  have HHD := Lib.hid (hard_eq r.h0 r.h1 r.h2 r.h3)
  have HB0 := Lib.hid (fun W => within_any r.h0 0 2000 W)
  generalize withinB r.h0 0 2000 = b0 at HHD HB0
  have HB1 := Lib.hid (fun W => within_any r.h1 0 2000 W)
  generalize withinB r.h1 0 2000 = b1 at HHD HB1
  have HB2 := Lib.hid (fun W => within_any r.h2 0 2000 W)
  generalize withinB r.h2 0 2000 = b2 at HHD HB2
  have HB3 := Lib.hid (fun W => within_any r.h3 0 2000 W)
  generalize withinB r.h3 0 2000 = b3 at HHD HB3
  have H := Lib.hid h
  clear h
  generalize checkR r (mostR r) = z at HO ⊢
  generalize clashK r = ck at HO HCL HCN
  generalize hardE r.h0 r.h1 r.h2 r.h3 = hd at HO HHD
  generalize knotE HK.kn risingK r.hs = F0 at HO HCL R0
  generalize knotE CK.kn laterK r.cs = F1 at HO R1
  generalize knotE DK.kn fallingK r.ds = F2 at HO R2
  generalize knotE TK.kn laterK r.ts = F3 at HO R3
  generalize lastT HK.kn r.hs = L0 at R0 S0 Z0
  generalize lastT CK.kn r.cs = L1 at R1 S1 Z1 HCL
  generalize lastT DK.kn r.ds = L2 at R2 S2 Z2 HCL
  generalize lastT TK.kn r.ts = L3 at R3 S3 Z3 HCL
  by_cases g0 : (8 : Int) < (n0 : Int)
  · have HZ := Lib.hid (show z = (0, 8) by
      rw [HO.out]
      exact flt_here (p := (0, errIf (decide (8 < max (max (max (n0 : Int) n1) n2) n3)) 8)) (by rw [decide_eq_true (by omega)]; decide) |>.trans (by rw [decide_eq_true (by omega)]; rfl))
    clear HO HCL HCN H S0 S1 S2 S3 R0 R1 R2 R3 Z0 Z1 Z2 Z3 HHD HB0 HB1 HB2 HB3
    go_enter Tryz.func17, Tryz.ntmps17
    go_wp2
    rw [HZ.out]
    go_ret2
    exact ⟨rfl, Ext.alloc _ _⟩
  · by_cases g1 : (8 : Int) < (n1 : Int)
    · have HZ := Lib.hid (show z = (0, 8) by
        rw [HO.out]
        exact flt_here (p := (0, errIf (decide (8 < max (max (max (n0 : Int) n1) n2) n3)) 8)) (by rw [decide_eq_true (by omega)]; decide) |>.trans (by rw [decide_eq_true (by omega)]; rfl))
      clear HO HCL HCN H S0 S1 S2 S3 R0 R1 R2 R3 Z0 Z1 Z2 Z3 HHD HB0 HB1 HB2 HB3
      go_enter Tryz.func17, Tryz.ntmps17
      go_wp2
      rw [HZ.out]
      go_ret2
      exact ⟨rfl, Ext.alloc _ _⟩
    · by_cases g2 : (8 : Int) < (n2 : Int)
      · have HZ := Lib.hid (show z = (0, 8) by
          rw [HO.out]
          exact flt_here (p := (0, errIf (decide (8 < max (max (max (n0 : Int) n1) n2) n3)) 8)) (by rw [decide_eq_true (by omega)]; decide) |>.trans (by rw [decide_eq_true (by omega)]; rfl))
        clear HO HCL HCN H S0 S1 S2 S3 R0 R1 R2 R3 Z0 Z1 Z2 Z3 HHD HB0 HB1 HB2 HB3
        go_enter Tryz.func17, Tryz.ntmps17
        go_wp2
        rw [HZ.out]
        go_ret2
        exact ⟨rfl, Ext.alloc _ _⟩
      · by_cases g3 : (8 : Int) < (n3 : Int)
        · have HZ := Lib.hid (show z = (0, 8) by
            rw [HO.out]
            exact flt_here (p := (0, errIf (decide (8 < max (max (max (n0 : Int) n1) n2) n3)) 8)) (by rw [decide_eq_true (by omega)]; decide) |>.trans (by rw [decide_eq_true (by omega)]; rfl))
          clear HO HCL HCN H S0 S1 S2 S3 R0 R1 R2 R3 Z0 Z1 Z2 Z3 HHD HB0 HB1 HB2 HB3
          go_enter Tryz.func17, Tryz.ntmps17
          go_wp2
          rw [HZ.out]
          go_ret2
          exact ⟨rfl, Ext.alloc _ _⟩
        · have HE0 := Lib.hid (show z = firstFlt [firstAt F0 n0 0, firstAt F1 n1 0, firstAt F2 n2 0, firstAt F3 n3 0, (0, ck), (0, hd)] by
            rw [HO.out]
            exact flt_skip (by rw [decide_eq_false (by omega)]; rfl))
          clear HO
          obtain ⟨W0, hW0⟩ : ∃ W0, W0 = w.alloc (.cells #[.slice A0 n0 c0, .slice A1 n1 c1, .slice A2 n2 c2, .slice A3 n3 c3, .int .i64 r.h0, .int .i64 r.h1, .int .i64 r.h2, .int .i64 r.h3] 28) := ⟨_, rfl⟩
          have K0 := Lib.hid (show Blk W0 w.heap.size 28 #[.slice A0 n0 c0, .slice A1 n1 c1, .slice A2 n2 c2, .slice A3 n3 c3, .int .i64 r.h0, .int .i64 r.h1, .int .i64 r.h2, .int .i64 r.h3] by rw [hW0]; exact Blk.new _ _ _)
          have E0 := Lib.hid (show Ext w W0 by rw [hW0]; exact Ext.alloc _ _)
          replace H := Lib.hid (H.out.ext E0.out)
          go_enter Tryz.func17, Tryz.ntmps17
          go_wp2
          rw [← hW0]
          clear hW0
          go_loopw [4, 5] (fun la i wr => ∃ j : Nat, j ≤ n0 ∧ i = .int .i64 j ∧ la = .int .i64 (L0 j) ∧ firstAt F0 n0 0 = firstAt F0 (n0 - j) j ∧ Ext W0 wr) (fun _ i _ => n0 - (intOf i).toNat)
          case atStart => exact ⟨0, Nat.zero_le _, rfl, by rw [Z0.out], rfl, Ext.refl _⟩
          case round =>
            obtain ⟨j, hj, rfl, rfl, hr, hx⟩ := hrel
            rename World => wr
            have HX := Lib.hid hx
            have HR := Lib.hid hr
            clear hx hr
            have y0 : wr.cell? ⟨w.heap.size, 0, none⟩ = some (.slice A0 n0 c0) := (K0.out.ext HX.out).cell 0
            by_cases hlt : j < n0
            · obtain ⟨x, hg⟩ : ∃ x, r.hs[j]? = some x := ⟨_, List.getElem?_eq_getElem (by rw [H.out.l0]; exact hlt)⟩
              have HD := Lib.hid (firstAt_step F0 hlt)
              have HL := Lib.hid (S0.out j x hg)
              have HG := Lib.hid hg
              obtain ⟨b, o, hAe, hb, hc⟩ := H.out.r0.2 j x hg
              subst hAe
              have q0 : wr.cell? ⟨b, o + j * 4, none⟩ = some (.int .i64 x.k) := HX.out.cell (hc 0 _ rfl)
              have q1 : wr.cell? ⟨b, o + j * 4 + 1, none⟩ = some (.int .i64 x.lo) := HX.out.cell (hc 1 _ rfl)
              have q2 : wr.cell? ⟨b, o + j * 4 + 2, none⟩ = some (.int .i64 x.hi) := HX.out.cell (hc 2 _ rfl)
              have q3 : wr.cell? ⟨b, o + j * 4 + 3, none⟩ = some (.int .i64 x.g) := HX.out.cell (hc 3 _ rfl)
              have hji : (j : Int) < (n0 : Int) := by omega
              clear hc hb
              obtain ⟨Wx, hWx⟩ : ∃ Wx, Wx = wr.alloc (.cells #[.int .i64 x.k, .int .i64 x.lo, .int .i64 x.hi, .int .i64 x.g] 68) := ⟨_, rfl⟩
              have EA := Lib.hid (show Ext wr Wx by rw [hWx]; exact Ext.alloc _ _)
              have KX := Lib.hid (show Blk Wx wr.heap.size 68 #[.int .i64 x.k, .int .i64 x.lo, .int .i64 x.hi, .int .i64 x.g] by rw [hWx]; exact Blk.new _ _ _)
              have p0 : Wx.cell? ⟨wr.heap.size, 0, none⟩ = some (.int .i64 x.k) := KX.out.cell 0
              have p1 : Wx.cell? ⟨wr.heap.size, 1, none⟩ = some (.int .i64 x.lo) := KX.out.cell 1
              have p2 : Wx.cell? ⟨wr.heap.size, 2, none⟩ = some (.int .i64 x.hi) := KX.out.cell 2
              have p3 : Wx.cell? ⟨wr.heap.size, 3, none⟩ = some (.int .i64 x.g) := KX.out.cell 3
              have y1 : Wx.cell? ⟨w.heap.size, 0, none⟩ = some (.slice (some ⟨b, o, none⟩) n0 c0) := EA.out.cell y0
              have r0 : ∀ nn oo, ((Wx.drewN nn).alloc oo).cell? ⟨wr.heap.size, 0, none⟩ = some (.int .i64 x.k) := fun nn oo => ((Ext.drewN _ _).trans (Ext.alloc _ oo)).cell p0
              have r1 : ∀ nn oo, ((Wx.drewN nn).alloc oo).cell? ⟨wr.heap.size, 1, none⟩ = some (.int .i64 x.lo) := fun nn oo => ((Ext.drewN _ _).trans (Ext.alloc _ oo)).cell p1
              have r2 : ∀ nn oo, ((Wx.drewN nn).alloc oo).cell? ⟨wr.heap.size, 2, none⟩ = some (.int .i64 x.hi) := fun nn oo => ((Ext.drewN _ _).trans (Ext.alloc _ oo)).cell p2
              have r3 : ∀ nn oo, ((Wx.drewN nn).alloc oo).cell? ⟨wr.heap.size, 3, none⟩ = some (.int .i64 x.g) := fun nn oo => ((Ext.drewN _ _).trans (Ext.alloc _ oo)).cell p3
              by_cases hj0 : j = 0
              · have HZ := Lib.hid (R0.out j x HG.out true (fun _ => rfl) (by intro i y hi; omega))
                have hje : ((j : Int) == 0) = true := by simp [hj0]
                clear hj0
                go_wp2
                rw [← hWx]
                clear hWx
                go_quiet (fail)
                go_wp2_with (go_at_call 86; refine (refKnot_any (n := 1) (xs := [⟨x.lo, x.hi⟩]) _ _ _ _ rfl (rows_blk (n := 1) (Blk.new _ _ _) (fun _ => rfl) rfl rfl (by decide))).mono ?_; rintro e W1 ⟨rfl, hx1⟩; have X1 := Lib.hid (show Ext Wx W1 from (Ext.drewN _ _).trans ((Ext.alloc _ _).trans hx1)); have u0 : W1.cell? ⟨wr.heap.size, 0, none⟩ = some (.int .i64 x.k) := (KX.out.ext X1.out).cell 0; clear hx1; refine Hid.out ?_)
                refine Lib.hid ?_
                rw [HZ.out]
                generalize F0 j = ev at HD HZ ⊢
                by_cases he : ev = 0
                · have he' : (ev != 0) = false := by simp [he]
                  have HE1 := Lib.hid he
                  clear he
                  go_wp2
                  go_roundw
                  case rel => exact ⟨j + 1, by omega, by go_num, by rw [HL.out], by rw [HR.out, HD.out, if_neg (by rw [HE1.out]; simp)], HX.out.trans (EA.out.trans X1.out)⟩
                  case measure => simp [intOf]; omega
                · have he' : (ev != 0) = true := by simp [he]
                  have HZ2 := Lib.hid (show z = ((j : Int), ev) by
                    have h1 : firstAt F0 n0 0 = ((j : Int), ev) := by rw [HR.out, HD.out, if_pos he]
                    rw [HE0.out, h1]
                    exact flt_here (p := ((j : Int), ev)) he)
                  clear he
                  go_wp2
                  rw [HZ2.out]
                  go_ret2
                  exact ⟨rfl, E0.out.trans (HX.out.trans (EA.out.trans X1.out))⟩
              · obtain ⟨i, hi⟩ : ∃ i, j = i + 1 := ⟨j - 1, by omega⟩
                obtain ⟨y, hy⟩ : ∃ y, r.hs[i]? = some y := ⟨_, List.getElem?_eq_getElem (by rw [H.out.l0]; omega)⟩
                have hje : ((j : Int) == 0) = false := by simp; omega
                have hw : IntKind.i64.wrap ((j : Int) - 1) = (i : Int) := by rw [wrap_id _ (by omega) (by omega)]; omega
                have hin : (i : Int) < (n0 : Int) := by omega
                obtain ⟨b2, o2, hAe2, hb2, hc2⟩ := H.out.r0.2 i y hy
                obtain ⟨rfl, rfl⟩ : b = b2 ∧ o = o2 := by simpa using hAe2
                have v1 : Wx.cell? ⟨b, o + i * 4 + 1, none⟩ = some (.int .i64 y.lo) := EA.out.cell (HX.out.cell (hc2 1 _ rfl))
                have v2 : Wx.cell? ⟨b, o + i * 4 + 2, none⟩ = some (.int .i64 y.hi) := EA.out.cell (HX.out.cell (hc2 2 _ rfl))
                have HY := Lib.hid hy
                have HI := Lib.hid hi
                have hj1 : (j : Int) ≤ 1152921504606846976 := by omega
                clear hc2 hb2 hAe2 hj0 hy hi
                by_cases hlo : y.lo ≤ x.lo
                · have HZ := Lib.hid (R0.out j x HG.out (decide (y.hi ≤ x.hi)) (by intro h; have := HI.out; omega) (by
                    intro i2 y2 h2 h3
                    obtain rfl : i = i2 := by have := HI.out; omega
                    obtain rfl : y = y2 := by have := HY.out.symm.trans h3; simpa using this
                    simp [hlo]))
                  have hlo' : decide (y.lo ≤ x.lo) = true := decide_eq_true hlo
                  go_wp2
                  rw [← hWx]
                  clear hWx
                  go_quiet (fail)
                  go_wp2_with (go_at_call 86; refine (refKnot_any (n := 1) (xs := [⟨x.lo, x.hi⟩]) _ _ _ _ rfl (rows_blk (n := 1) (Blk.new _ _ _) (fun _ => rfl) rfl rfl (by decide))).mono ?_; rintro e W1 ⟨rfl, hx1⟩; have X1 := Lib.hid (show Ext Wx W1 from (Ext.drewN _ _).trans ((Ext.alloc _ _).trans hx1)); have u0 : W1.cell? ⟨wr.heap.size, 0, none⟩ = some (.int .i64 x.k) := (KX.out.ext X1.out).cell 0; clear hx1; refine Hid.out ?_)
                  refine Lib.hid ?_
                  rw [HZ.out]
                  generalize F0 j = ev at HD HZ ⊢
                  by_cases he : ev = 0
                  · have he' : (ev != 0) = false := by simp [he]
                    have HE1 := Lib.hid he
                    clear he
                    go_wp2
                    go_roundw
                    case rel => exact ⟨j + 1, by omega, by go_num, by rw [HL.out], by rw [HR.out, HD.out, if_neg (by rw [HE1.out]; simp)], HX.out.trans (EA.out.trans X1.out)⟩
                    case measure => simp [intOf]; omega
                  · have he' : (ev != 0) = true := by simp [he]
                    have HZ2 := Lib.hid (show z = ((j : Int), ev) by
                      have h1 : firstAt F0 n0 0 = ((j : Int), ev) := by rw [HR.out, HD.out, if_pos he]
                      rw [HE0.out, h1]
                      exact flt_here (p := ((j : Int), ev)) he)
                    clear he
                    go_wp2
                    rw [HZ2.out]
                    go_ret2
                    exact ⟨rfl, E0.out.trans (HX.out.trans (EA.out.trans X1.out))⟩
                · have HZ := Lib.hid (R0.out j x HG.out false (by intro h; have := HI.out; omega) (by
                    intro i2 y2 h2 h3
                    obtain rfl : i = i2 := by have := HI.out; omega
                    obtain rfl : y = y2 := by have := HY.out.symm.trans h3; simpa using this
                    simp [hlo]))
                  have hlo' : decide (y.lo ≤ x.lo) = false := decide_eq_false hlo
                  go_wp2
                  rw [← hWx]
                  clear hWx
                  go_quiet (fail)
                  go_wp2_with (go_at_call 86; refine (refKnot_any (n := 1) (xs := [⟨x.lo, x.hi⟩]) _ _ _ _ rfl (rows_blk (n := 1) (Blk.new _ _ _) (fun _ => rfl) rfl rfl (by decide))).mono ?_; rintro e W1 ⟨rfl, hx1⟩; have X1 := Lib.hid (show Ext Wx W1 from (Ext.drewN _ _).trans ((Ext.alloc _ _).trans hx1)); have u0 : W1.cell? ⟨wr.heap.size, 0, none⟩ = some (.int .i64 x.k) := (KX.out.ext X1.out).cell 0; clear hx1; refine Hid.out ?_)
                  refine Lib.hid ?_
                  rw [HZ.out]
                  generalize F0 j = ev at HD HZ ⊢
                  by_cases he : ev = 0
                  · have he' : (ev != 0) = false := by simp [he]
                    have HE1 := Lib.hid he
                    clear he
                    go_wp2
                    go_roundw
                    case rel => exact ⟨j + 1, by omega, by go_num, by rw [HL.out], by rw [HR.out, HD.out, if_neg (by rw [HE1.out]; simp)], HX.out.trans (EA.out.trans X1.out)⟩
                    case measure => simp [intOf]; omega
                  · have he' : (ev != 0) = true := by simp [he]
                    have HZ2 := Lib.hid (show z = ((j : Int), ev) by
                      have h1 : firstAt F0 n0 0 = ((j : Int), ev) := by rw [HR.out, HD.out, if_pos he]
                      rw [HE0.out, h1]
                      exact flt_here (p := ((j : Int), ev)) he)
                    clear he
                    go_wp2
                    rw [HZ2.out]
                    go_ret2
                    exact ⟨rfl, E0.out.trans (HX.out.trans (EA.out.trans X1.out))⟩
            · obtain rfl : n0 = j := by omega
              have HF := Lib.hid (show firstAt F0 n0 0 = (0, 0) by rw [HR.out, Nat.sub_self]; rfl)
              have HE1 := Lib.hid (show z = firstFlt [firstAt F1 n1 0, firstAt F2 n2 0, firstAt F3 n3 0, (0, ck), (0, hd)] by rw [HE0.out, HF.out]; exact flt_skip rfl)
              have HK0 := Lib.hid (fun (h : 0 < n0) => firstAt_zero (E := F0) (n := n0) (k := 0) (by rw [HF.out]) 0 (Nat.le_refl _) (by omega))
              clear hlt hj HR HF
              obtain ⟨wo0, hwo⟩ : ∃ v, v = wr := ⟨_, rfl⟩
              subst hwo
              have HX0 := Lib.hid HX.out
              clear HX
              go_wp2
              clear y0
              go_loopw [4, 9] (fun la i wr => ∃ j : Nat, j ≤ n1 ∧ i = .int .i64 j ∧ la = .int .i64 (L1 j) ∧ firstAt F1 n1 0 = firstAt F1 (n1 - j) j ∧ Ext W0 wr) (fun _ i _ => n1 - (intOf i).toNat)
              case atStart => exact ⟨0, Nat.zero_le _, rfl, by rw [Z1.out], rfl, HX0.out⟩
              case round =>
                obtain ⟨j, hj, rfl, rfl, hr, hx⟩ := hrel
                rename World => wr
                have HX := Lib.hid hx
                have HR := Lib.hid hr
                clear hx hr
                have y0 : wr.cell? ⟨w.heap.size, 1, none⟩ = some (.slice A1 n1 c1) := (K0.out.ext HX.out).cell 1
                by_cases hlt : j < n1
                · obtain ⟨x, hg⟩ : ∃ x, r.cs[j]? = some x := ⟨_, List.getElem?_eq_getElem (by rw [H.out.l1]; exact hlt)⟩
                  have HD := Lib.hid (firstAt_step F1 hlt)
                  have HL := Lib.hid (S1.out j x hg)
                  have HG := Lib.hid hg
                  obtain ⟨b, o, hAe, hb, hc⟩ := H.out.r1.2 j x hg
                  subst hAe
                  have q0 : wr.cell? ⟨b, o + j * 5, none⟩ = some (.int .i64 x.k) := HX.out.cell (hc 0 _ rfl)
                  have q1 : wr.cell? ⟨b, o + j * 5 + 1, none⟩ = some (.int .i64 x.wlo) := HX.out.cell (hc 1 _ rfl)
                  have q2 : wr.cell? ⟨b, o + j * 5 + 2, none⟩ = some (.int .i64 x.whi) := HX.out.cell (hc 2 _ rfl)
                  have q3 : wr.cell? ⟨b, o + j * 5 + 3, none⟩ = some (.int .i64 x.rlo) := HX.out.cell (hc 3 _ rfl)
                  have q4 : wr.cell? ⟨b, o + j * 5 + 4, none⟩ = some (.int .i64 x.rhi) := HX.out.cell (hc 4 _ rfl)
                  have hji : (j : Int) < (n1 : Int) := by omega
                  clear hc hb
                  have HZ := Lib.hid (R1.out j x HG.out)
                  go_wp2
                  refine wp_region_each [some 107, some 108, some 109, some 110, some 111, some 112, some 113, some 114, some 115, some 116, some 117, some 118, some 119, some 120, some 121, some 122, some 123, some 124, some 125, some 126, some 127, some 10] [[1], [107], [9], [108, 109], [110], [111], [4], [1], [114], [9], [115, 116], [117], [118], [1], [120], [9], [121, 122], [123], [124], [119, 125], [112, 113, 126], [127]]
                    [Is (.pointer (some ⟨w.heap.size, 1, none⟩)), Is (.slice (some ⟨b, o, none⟩) n1 c1), Is (.int .i64 ((j : Int))), Is (.pointer (some ⟨b, o + j * 5, none⟩)), Is (.pointer (some ⟨b, o + j * 5, none⟩)), Is (.int .i64 (x.k)), Is (.int .i64 (L1 j)), Is (.pointer (some ⟨w.heap.size, 1, none⟩)), Is (.slice (some ⟨b, o, none⟩) n1 c1), Is (.int .i64 ((j : Int))), Is (.pointer (some ⟨b, o + j * 5, none⟩)), Is (.pointer (some ⟨b, o + j * 5 + 1, none⟩)), Is (.agg #[.int .i64 (x.wlo), .int .i64 (x.whi)]), Is (.pointer (some ⟨w.heap.size, 1, none⟩)), Is (.slice (some ⟨b, o, none⟩) n1 c1), Is (.int .i64 ((j : Int))), Is (.pointer (some ⟨b, o + j * 5, none⟩)), Is (.pointer (some ⟨b, o + j * 5 + 3, none⟩)), Is (.agg #[.int .i64 (x.rlo), .int .i64 (x.rhi)]), Rgs2 [⟨x.wlo, x.whi⟩, ⟨x.rlo, x.rhi⟩], Is (.int .i64 (refK x.k (L1 j) [⟨x.wlo, x.whi⟩, ⟨x.rlo, x.rhi⟩] 0 true)), Is (.int .i64 (refK x.k (L1 j) [⟨x.wlo, x.whi⟩, ⟨x.rlo, x.rhi⟩] 0 true))]
                    (by kernel_rfl) (by kernel_rfl) (by kernel_rfl) (by kernel_rfl) (by kernel_rfl) Ext (fun W => Ext wr W)
                    (fun W _ => Ext.refl W) (fun W W' h k => h.trans k) ?_ (Ext.drew _) ?_ ?_
                  · repeat (refine ⟨fun _ _ _ _ k h => (by first | exact h | exact (by first | exact Rgs2.ext h k)), ?_⟩)
                    exact trivial
                  · refine ⟨?_, ?_, ?_, ?_, ?_, ?_, ?_, ?_, ?_, ?_, ?_, ?_, ?_, ?_, ?_, ?_, ?_, ?_, ?_, ?_, ?_, ?_, trivial⟩
                    all_goals intro ρ W ⟨kc, kg, kf⟩ hF hs
                    · obtain ⟨h0, -⟩ := hs
                      replace h0 : ρ (.tmp 1) = .pointer (some ⟨w.heap.size, 0, none⟩) := h0
                      go_simp
                      exact ⟨Ext.refl _, rfl⟩
                    · obtain ⟨h0, -⟩ := hs
                      replace h0 : ρ (.tmp 107) = .pointer (some ⟨w.heap.size, 1, none⟩) := h0
                      have hc0 : W.cell? ⟨w.heap.size, 1, none⟩ = some (.slice (some ⟨b, o, none⟩) n1 c1) := hF.cell (by assumption)
                      go_simp
                      exact ⟨Ext.refl _, rfl⟩
                    · obtain ⟨h0, -⟩ := hs
                      replace h0 : ρ (.tmp 9) = .int .i64 ((j : Int)) := h0
                      go_simp
                      exact ⟨Ext.refl _, rfl⟩
                    · obtain ⟨h0, h1, -⟩ := hs
                      replace h0 : ρ (.tmp 108) = .slice (some ⟨b, o, none⟩) n1 c1 := h0
                      replace h1 : ρ (.tmp 109) = .int .i64 ((j : Int)) := h1
                      go_simp
                      exact ⟨Ext.refl _, rfl⟩
                    · obtain ⟨h0, -⟩ := hs
                      replace h0 : ρ (.tmp 110) = .pointer (some ⟨b, o + j * 5, none⟩) := h0
                      go_simp
                      exact ⟨Ext.refl _, rfl⟩
                    · obtain ⟨h0, -⟩ := hs
                      replace h0 : ρ (.tmp 111) = .pointer (some ⟨b, o + j * 5, none⟩) := h0
                      have hc0 : W.cell? ⟨b, o + j * 5, none⟩ = some (.int .i64 (x.k)) := hF.cell (by assumption)
                      go_simp
                      exact ⟨Ext.refl _, rfl⟩
                    · obtain ⟨h0, -⟩ := hs
                      replace h0 : ρ (.tmp 4) = .int .i64 (L1 j) := h0
                      go_simp
                      exact ⟨Ext.refl _, rfl⟩
                    · obtain ⟨h0, -⟩ := hs
                      replace h0 : ρ (.tmp 1) = .pointer (some ⟨w.heap.size, 0, none⟩) := h0
                      go_simp
                      exact ⟨Ext.refl _, rfl⟩
                    · obtain ⟨h0, -⟩ := hs
                      replace h0 : ρ (.tmp 114) = .pointer (some ⟨w.heap.size, 1, none⟩) := h0
                      have hc0 : W.cell? ⟨w.heap.size, 1, none⟩ = some (.slice (some ⟨b, o, none⟩) n1 c1) := hF.cell (by assumption)
                      go_simp
                      exact ⟨Ext.refl _, rfl⟩
                    · obtain ⟨h0, -⟩ := hs
                      replace h0 : ρ (.tmp 9) = .int .i64 ((j : Int)) := h0
                      go_simp
                      exact ⟨Ext.refl _, rfl⟩
                    · obtain ⟨h0, h1, -⟩ := hs
                      replace h0 : ρ (.tmp 115) = .slice (some ⟨b, o, none⟩) n1 c1 := h0
                      replace h1 : ρ (.tmp 116) = .int .i64 ((j : Int)) := h1
                      go_simp
                      exact ⟨Ext.refl _, rfl⟩
                    · obtain ⟨h0, -⟩ := hs
                      replace h0 : ρ (.tmp 117) = .pointer (some ⟨b, o + j * 5, none⟩) := h0
                      go_simp
                      exact ⟨Ext.refl _, rfl⟩
                    · obtain ⟨h0, -⟩ := hs
                      replace h0 : ρ (.tmp 118) = .pointer (some ⟨b, o + j * 5 + 1, none⟩) := h0
                      have hc0 : W.cell? ⟨b, o + j * 5 + 1, none⟩ = some (.int .i64 (x.wlo)) := hF.cell (by assumption)
                      have hc1 : W.cell? ⟨b, o + j * 5 + 1 + 1, none⟩ = some (.int .i64 (x.whi)) := hF.cell (by assumption)
                      go_simp
                      exact ⟨Ext.refl _, rfl⟩
                    · obtain ⟨h0, -⟩ := hs
                      replace h0 : ρ (.tmp 1) = .pointer (some ⟨w.heap.size, 0, none⟩) := h0
                      go_simp
                      exact ⟨Ext.refl _, rfl⟩
                    · obtain ⟨h0, -⟩ := hs
                      replace h0 : ρ (.tmp 120) = .pointer (some ⟨w.heap.size, 1, none⟩) := h0
                      have hc0 : W.cell? ⟨w.heap.size, 1, none⟩ = some (.slice (some ⟨b, o, none⟩) n1 c1) := hF.cell (by assumption)
                      go_simp
                      exact ⟨Ext.refl _, rfl⟩
                    · obtain ⟨h0, -⟩ := hs
                      replace h0 : ρ (.tmp 9) = .int .i64 ((j : Int)) := h0
                      go_simp
                      exact ⟨Ext.refl _, rfl⟩
                    · obtain ⟨h0, h1, -⟩ := hs
                      replace h0 : ρ (.tmp 121) = .slice (some ⟨b, o, none⟩) n1 c1 := h0
                      replace h1 : ρ (.tmp 122) = .int .i64 ((j : Int)) := h1
                      go_simp
                      exact ⟨Ext.refl _, rfl⟩
                    · obtain ⟨h0, -⟩ := hs
                      replace h0 : ρ (.tmp 123) = .pointer (some ⟨b, o + j * 5, none⟩) := h0
                      go_simp
                      exact ⟨Ext.refl _, rfl⟩
                    · obtain ⟨h0, -⟩ := hs
                      replace h0 : ρ (.tmp 124) = .pointer (some ⟨b, o + j * 5 + 3, none⟩) := h0
                      have hc0 : W.cell? ⟨b, o + j * 5 + 3, none⟩ = some (.int .i64 (x.rlo)) := hF.cell (by assumption)
                      have hc1 : W.cell? ⟨b, o + j * 5 + 3 + 1, none⟩ = some (.int .i64 (x.rhi)) := hF.cell (by assumption)
                      go_simp
                      exact ⟨Ext.refl _, rfl⟩
                    · obtain ⟨h0, h1, -⟩ := hs
                      replace h0 : ρ (.tmp 119) = .agg #[.int .i64 (x.wlo), .int .i64 (x.whi)] := h0
                      replace h1 : ρ (.tmp 125) = .agg #[.int .i64 (x.rlo), .int .i64 (x.rhi)] := h1
                      go_simp
                      exact ⟨Ext.alloc _ _, _, rfl, rows_blk (n := 2) (Blk.new _ _ _) (fun _ => rfl) rfl rfl (by decide)⟩
                    · obtain ⟨h0, h1, h2, -⟩ := hs
                      replace h0 : ρ (.tmp 112) = .int .i64 (x.k) := h0
                      replace h1 : ρ (.tmp 113) = .int .i64 (L1 j) := h1
                      replace h2 : (Rgs2 [⟨x.wlo, x.whi⟩, ⟨x.rlo, x.rhi⟩]) (ρ (.tmp 126)) W := h2
                      obtain ⟨g, hg2, hrw⟩ := h2
                      go_simp
                      refine (refKnot_any (n := 2) _ _ _ _ rfl hrw).mono ?_; rintro e w' ⟨rfl, hx⟩; exact ⟨_, rfl, hx, rfl⟩
                    · obtain ⟨h0, -⟩ := hs
                      replace h0 : ρ (.tmp 127) = .int .i64 (refK x.k (L1 j) [⟨x.wlo, x.whi⟩, ⟨x.rlo, x.rhi⟩] 0 true) := h0
                      go_simp
                      exact ⟨Ext.refl _, rfl⟩
                  · intro fv W1 hF hs
                    obtain ⟨-, -, -, -, -, -, -, -, -, -, -, -, -, -, -, -, -, -, -, -, -, h10, -⟩ := hs
                    replace h10 : fv 10 = .int .i64 (refK x.k (L1 j) [⟨x.wlo, x.whi⟩, ⟨x.rlo, x.rhi⟩] 0 true) := h10
                    simp only [fin, List.filterMap]
                    go_simp
                    have u0 : W1.cell? ⟨b, o + j * 5, none⟩ = some (.int .i64 x.k) := hF.cell q0
                    have u1 : W1.cell? ⟨w.heap.size, 1, none⟩ = some (.slice (some ⟨b, o, none⟩) n1 c1) := hF.cell y0
                    have XW := Lib.hid hF
                    rw [HZ.out]
                    clear h10 hF
                    generalize F1 j = ev at HD HZ ⊢
                    by_cases he : ev = 0
                    · have he' : (ev != 0) = false := by simp [he]
                      have HE1 := Lib.hid he
                      clear he
                      go_wp2
                      go_roundw
                      case rel => exact ⟨j + 1, by omega, by go_num, by rw [HL.out], by rw [HR.out, HD.out, if_neg (by rw [HE1.out]; simp)], HX.out.trans XW.out⟩
                      case measure => simp [intOf]; omega
                    · have he' : (ev != 0) = true := by simp [he]
                      have HZ2 := Lib.hid (show z = ((j : Int), ev) by
                        have h1 : firstAt F1 n1 0 = ((j : Int), ev) := by rw [HR.out, HD.out, if_pos he]
                        rw [HE1.out, h1]
                        exact flt_here (p := ((j : Int), ev)) he)
                      clear he
                      go_wp2
                      rw [HZ2.out]
                      go_ret2
                      exact ⟨rfl, E0.out.trans (HX.out.trans XW.out)⟩
                · obtain rfl : n1 = j := by omega
                  have HF := Lib.hid (show firstAt F1 n1 0 = (0, 0) by rw [HR.out, Nat.sub_self]; rfl)
                  have HE2 := Lib.hid (show z = firstFlt [firstAt F2 n2 0, firstAt F3 n3 0, (0, ck), (0, hd)] by rw [HE1.out, HF.out]; exact flt_skip rfl)
                  clear hlt hj HR HF
                  obtain ⟨wo1, hwo⟩ : ∃ v, v = wr := ⟨_, rfl⟩
                  subst hwo
                  have HX1 := Lib.hid HX.out
                  clear HX
                  go_wp2
                  clear y0
                  go_loopw [4, 12] (fun la i wr => ∃ j : Nat, j ≤ n2 ∧ i = .int .i64 j ∧ la = .int .i64 (L2 j) ∧ firstAt F2 n2 0 = firstAt F2 (n2 - j) j ∧ Ext W0 wr) (fun _ i _ => n2 - (intOf i).toNat)
                  case atStart => exact ⟨0, Nat.zero_le _, rfl, by rw [Z2.out], rfl, HX1.out⟩
                  case round =>
                    obtain ⟨j, hj, rfl, rfl, hr, hx⟩ := hrel
                    rename World => wr
                    have HX := Lib.hid hx
                    have HR := Lib.hid hr
                    clear hx hr
                    have y0 : wr.cell? ⟨w.heap.size, 2, none⟩ = some (.slice A2 n2 c2) := (K0.out.ext HX.out).cell 2
                    by_cases hlt : j < n2
                    · obtain ⟨x, hg⟩ : ∃ x, r.ds[j]? = some x := ⟨_, List.getElem?_eq_getElem (by rw [H.out.l2]; exact hlt)⟩
                      have HD := Lib.hid (firstAt_step F2 hlt)
                      have HL := Lib.hid (S2.out j x hg)
                      have HG := Lib.hid hg
                      obtain ⟨b, o, hAe, hb, hc⟩ := H.out.r2.2 j x hg
                      subst hAe
                      have q0 : wr.cell? ⟨b, o + j * 3, none⟩ = some (.int .i64 x.k) := HX.out.cell (hc 0 _ rfl)
                      have q1 : wr.cell? ⟨b, o + j * 3 + 1, none⟩ = some (.int .i64 x.lo) := HX.out.cell (hc 1 _ rfl)
                      have q2 : wr.cell? ⟨b, o + j * 3 + 2, none⟩ = some (.int .i64 x.hi) := HX.out.cell (hc 2 _ rfl)
                      have hji : (j : Int) < (n2 : Int) := by omega
                      clear hc hb
                      obtain ⟨Wx, hWx⟩ : ∃ Wx, Wx = wr.alloc (.cells #[.int .i64 x.k, .int .i64 x.lo, .int .i64 x.hi] 141) := ⟨_, rfl⟩
                      have EA := Lib.hid (show Ext wr Wx by rw [hWx]; exact Ext.alloc _ _)
                      have KX := Lib.hid (show Blk Wx wr.heap.size 141 #[.int .i64 x.k, .int .i64 x.lo, .int .i64 x.hi] by rw [hWx]; exact Blk.new _ _ _)
                      have p0 : Wx.cell? ⟨wr.heap.size, 0, none⟩ = some (.int .i64 x.k) := KX.out.cell 0
                      have p1 : Wx.cell? ⟨wr.heap.size, 1, none⟩ = some (.int .i64 x.lo) := KX.out.cell 1
                      have p2 : Wx.cell? ⟨wr.heap.size, 2, none⟩ = some (.int .i64 x.hi) := KX.out.cell 2
                      have y1 : Wx.cell? ⟨w.heap.size, 2, none⟩ = some (.slice (some ⟨b, o, none⟩) n2 c2) := EA.out.cell y0
                      have r0 : ∀ nn oo, ((Wx.drewN nn).alloc oo).cell? ⟨wr.heap.size, 0, none⟩ = some (.int .i64 x.k) := fun nn oo => ((Ext.drewN _ _).trans (Ext.alloc _ oo)).cell p0
                      have r1 : ∀ nn oo, ((Wx.drewN nn).alloc oo).cell? ⟨wr.heap.size, 1, none⟩ = some (.int .i64 x.lo) := fun nn oo => ((Ext.drewN _ _).trans (Ext.alloc _ oo)).cell p1
                      have r2 : ∀ nn oo, ((Wx.drewN nn).alloc oo).cell? ⟨wr.heap.size, 2, none⟩ = some (.int .i64 x.hi) := fun nn oo => ((Ext.drewN _ _).trans (Ext.alloc _ oo)).cell p2
                      by_cases hj0 : j = 0
                      · have HZ := Lib.hid (R2.out j x HG.out true (fun _ => rfl) (by intro i y hi; omega))
                        have hje : ((j : Int) == 0) = true := by simp [hj0]
                        clear hj0
                        go_wp2
                        rw [← hWx]
                        clear hWx
                        go_quiet (fail)
                        go_wp2_with (go_at_call 86; refine (refKnot_any (n := 1) (xs := [⟨x.lo, x.hi⟩]) _ _ _ _ rfl (rows_blk (n := 1) (Blk.new _ _ _) (fun _ => rfl) rfl rfl (by decide))).mono ?_; rintro e W1 ⟨rfl, hx1⟩; have X1 := Lib.hid (show Ext Wx W1 from (Ext.drewN _ _).trans ((Ext.alloc _ _).trans hx1)); have u0 : W1.cell? ⟨wr.heap.size, 0, none⟩ = some (.int .i64 x.k) := (KX.out.ext X1.out).cell 0; clear hx1; refine Hid.out ?_)
                        refine Lib.hid ?_
                        rw [HZ.out]
                        generalize F2 j = ev at HD HZ ⊢
                        by_cases he : ev = 0
                        · have he' : (ev != 0) = false := by simp [he]
                          have HE1 := Lib.hid he
                          clear he
                          go_wp2
                          go_roundw
                          case rel => exact ⟨j + 1, by omega, by go_num, by rw [HL.out], by rw [HR.out, HD.out, if_neg (by rw [HE1.out]; simp)], HX.out.trans (EA.out.trans X1.out)⟩
                          case measure => simp [intOf]; omega
                        · have he' : (ev != 0) = true := by simp [he]
                          have HZ2 := Lib.hid (show z = ((j : Int), ev) by
                            have h1 : firstAt F2 n2 0 = ((j : Int), ev) := by rw [HR.out, HD.out, if_pos he]
                            rw [HE2.out, h1]
                            exact flt_here (p := ((j : Int), ev)) he)
                          clear he
                          go_wp2
                          rw [HZ2.out]
                          go_ret2
                          exact ⟨rfl, E0.out.trans (HX.out.trans (EA.out.trans X1.out))⟩
                      · obtain ⟨i, hi⟩ : ∃ i, j = i + 1 := ⟨j - 1, by omega⟩
                        obtain ⟨y, hy⟩ : ∃ y, r.ds[i]? = some y := ⟨_, List.getElem?_eq_getElem (by rw [H.out.l2]; omega)⟩
                        have hje : ((j : Int) == 0) = false := by simp; omega
                        have hw : IntKind.i64.wrap ((j : Int) - 1) = (i : Int) := by rw [wrap_id _ (by omega) (by omega)]; omega
                        have hin : (i : Int) < (n2 : Int) := by omega
                        obtain ⟨b2, o2, hAe2, hb2, hc2⟩ := H.out.r2.2 i y hy
                        obtain ⟨rfl, rfl⟩ : b = b2 ∧ o = o2 := by simpa using hAe2
                        have v1 : Wx.cell? ⟨b, o + i * 3 + 1, none⟩ = some (.int .i64 y.lo) := EA.out.cell (HX.out.cell (hc2 1 _ rfl))
                        have v2 : Wx.cell? ⟨b, o + i * 3 + 2, none⟩ = some (.int .i64 y.hi) := EA.out.cell (HX.out.cell (hc2 2 _ rfl))
                        have HY := Lib.hid hy
                        have HI := Lib.hid hi
                        have hj1 : (j : Int) ≤ 1152921504606846976 := by omega
                        clear hc2 hb2 hAe2 hj0 hy hi
                        by_cases hlo : x.lo ≤ y.lo
                        · have HZ := Lib.hid (R2.out j x HG.out (decide (x.hi ≤ y.hi)) (by intro h; have := HI.out; omega) (by
                            intro i2 y2 h2 h3
                            obtain rfl : i = i2 := by have := HI.out; omega
                            obtain rfl : y = y2 := by have := HY.out.symm.trans h3; simpa using this
                            simp [hlo]))
                          have hlo' : decide (x.lo ≤ y.lo) = true := decide_eq_true hlo
                          go_wp2
                          rw [← hWx]
                          clear hWx
                          go_quiet (fail)
                          go_wp2_with (go_at_call 86; refine (refKnot_any (n := 1) (xs := [⟨x.lo, x.hi⟩]) _ _ _ _ rfl (rows_blk (n := 1) (Blk.new _ _ _) (fun _ => rfl) rfl rfl (by decide))).mono ?_; rintro e W1 ⟨rfl, hx1⟩; have X1 := Lib.hid (show Ext Wx W1 from (Ext.drewN _ _).trans ((Ext.alloc _ _).trans hx1)); have u0 : W1.cell? ⟨wr.heap.size, 0, none⟩ = some (.int .i64 x.k) := (KX.out.ext X1.out).cell 0; clear hx1; refine Hid.out ?_)
                          refine Lib.hid ?_
                          rw [HZ.out]
                          generalize F2 j = ev at HD HZ ⊢
                          by_cases he : ev = 0
                          · have he' : (ev != 0) = false := by simp [he]
                            have HE1 := Lib.hid he
                            clear he
                            go_wp2
                            go_roundw
                            case rel => exact ⟨j + 1, by omega, by go_num, by rw [HL.out], by rw [HR.out, HD.out, if_neg (by rw [HE1.out]; simp)], HX.out.trans (EA.out.trans X1.out)⟩
                            case measure => simp [intOf]; omega
                          · have he' : (ev != 0) = true := by simp [he]
                            have HZ2 := Lib.hid (show z = ((j : Int), ev) by
                              have h1 : firstAt F2 n2 0 = ((j : Int), ev) := by rw [HR.out, HD.out, if_pos he]
                              rw [HE2.out, h1]
                              exact flt_here (p := ((j : Int), ev)) he)
                            clear he
                            go_wp2
                            rw [HZ2.out]
                            go_ret2
                            exact ⟨rfl, E0.out.trans (HX.out.trans (EA.out.trans X1.out))⟩
                        · have HZ := Lib.hid (R2.out j x HG.out false (by intro h; have := HI.out; omega) (by
                            intro i2 y2 h2 h3
                            obtain rfl : i = i2 := by have := HI.out; omega
                            obtain rfl : y = y2 := by have := HY.out.symm.trans h3; simpa using this
                            simp [hlo]))
                          have hlo' : decide (x.lo ≤ y.lo) = false := decide_eq_false hlo
                          go_wp2
                          rw [← hWx]
                          clear hWx
                          go_quiet (fail)
                          go_wp2_with (go_at_call 86; refine (refKnot_any (n := 1) (xs := [⟨x.lo, x.hi⟩]) _ _ _ _ rfl (rows_blk (n := 1) (Blk.new _ _ _) (fun _ => rfl) rfl rfl (by decide))).mono ?_; rintro e W1 ⟨rfl, hx1⟩; have X1 := Lib.hid (show Ext Wx W1 from (Ext.drewN _ _).trans ((Ext.alloc _ _).trans hx1)); have u0 : W1.cell? ⟨wr.heap.size, 0, none⟩ = some (.int .i64 x.k) := (KX.out.ext X1.out).cell 0; clear hx1; refine Hid.out ?_)
                          refine Lib.hid ?_
                          rw [HZ.out]
                          generalize F2 j = ev at HD HZ ⊢
                          by_cases he : ev = 0
                          · have he' : (ev != 0) = false := by simp [he]
                            have HE1 := Lib.hid he
                            clear he
                            go_wp2
                            go_roundw
                            case rel => exact ⟨j + 1, by omega, by go_num, by rw [HL.out], by rw [HR.out, HD.out, if_neg (by rw [HE1.out]; simp)], HX.out.trans (EA.out.trans X1.out)⟩
                            case measure => simp [intOf]; omega
                          · have he' : (ev != 0) = true := by simp [he]
                            have HZ2 := Lib.hid (show z = ((j : Int), ev) by
                              have h1 : firstAt F2 n2 0 = ((j : Int), ev) := by rw [HR.out, HD.out, if_pos he]
                              rw [HE2.out, h1]
                              exact flt_here (p := ((j : Int), ev)) he)
                            clear he
                            go_wp2
                            rw [HZ2.out]
                            go_ret2
                            exact ⟨rfl, E0.out.trans (HX.out.trans (EA.out.trans X1.out))⟩
                    · obtain rfl : n2 = j := by omega
                      have HF := Lib.hid (show firstAt F2 n2 0 = (0, 0) by rw [HR.out, Nat.sub_self]; rfl)
                      have HE3 := Lib.hid (show z = firstFlt [firstAt F3 n3 0, (0, ck), (0, hd)] by rw [HE2.out, HF.out]; exact flt_skip rfl)
                      clear hlt hj HR HF
                      obtain ⟨wo2, hwo⟩ : ∃ v, v = wr := ⟨_, rfl⟩
                      subst hwo
                      have HX2 := Lib.hid HX.out
                      clear HX
                      go_wp2
                      clear y0
                      go_loopw [4, 16] (fun la i wr => ∃ j : Nat, j ≤ n3 ∧ i = .int .i64 j ∧ la = .int .i64 (L3 j) ∧ firstAt F3 n3 0 = firstAt F3 (n3 - j) j ∧ Ext W0 wr) (fun _ i _ => n3 - (intOf i).toNat)
                      case atStart => exact ⟨0, Nat.zero_le _, rfl, by rw [Z3.out], rfl, HX2.out⟩
                      case round =>
                        obtain ⟨j, hj, rfl, rfl, hr, hx⟩ := hrel
                        rename World => wr
                        have HX := Lib.hid hx
                        have HR := Lib.hid hr
                        clear hx hr
                        have y0 : wr.cell? ⟨w.heap.size, 3, none⟩ = some (.slice A3 n3 c3) := (K0.out.ext HX.out).cell 3
                        by_cases hlt : j < n3
                        · obtain ⟨x, hg⟩ : ∃ x, r.ts[j]? = some x := ⟨_, List.getElem?_eq_getElem (by rw [H.out.l3]; exact hlt)⟩
                          have HD := Lib.hid (firstAt_step F3 hlt)
                          have HL := Lib.hid (S3.out j x hg)
                          have HG := Lib.hid hg
                          obtain ⟨b, o, hAe, hb, hc⟩ := H.out.r3.2 j x hg
                          subst hAe
                          have q0 : wr.cell? ⟨b, o + j * 2, none⟩ = some (.int .i64 x.k) := HX.out.cell (hc 0 _ rfl)
                          have q1 : wr.cell? ⟨b, o + j * 2 + 1, none⟩ = some (.int .i64 x.r) := HX.out.cell (hc 1 _ rfl)
                          have hji : (j : Int) < (n3 : Int) := by omega
                          clear hc hb
                          have HZ := Lib.hid (R3.out j x HG.out)
                          go_wp2
                          refine wp_region_each [some 205, some 206, some 207, some 208, some 209, some 210, some 211, some 212, some 213, some 214, some 215, some 216, some 217, some 218, some 17] [[1], [205], [16], [206, 207], [208], [209], [4], [1], [212], [16], [213, 214], [215], [216], [210, 211, 217], [218]]
                            [Is (.pointer (some ⟨w.heap.size, 3, none⟩)), Is (.slice (some ⟨b, o, none⟩) n3 c3), Is (.int .i64 ((j : Int))), Is (.pointer (some ⟨b, o + j * 2, none⟩)), Is (.pointer (some ⟨b, o + j * 2, none⟩)), Is (.int .i64 (x.k)), Is (.int .i64 (L3 j)), Is (.pointer (some ⟨w.heap.size, 3, none⟩)), Is (.slice (some ⟨b, o, none⟩) n3 c3), Is (.int .i64 ((j : Int))), Is (.pointer (some ⟨b, o + j * 2, none⟩)), Is (.pointer (some ⟨b, o + j * 2 + 1, none⟩)), Is (.int .i64 (x.r)), Is (.int .i64 (refK x.k (L3 j) [] x.r true)), Is (.int .i64 (refK x.k (L3 j) [] x.r true))]
                            (by kernel_rfl) (by kernel_rfl) (by kernel_rfl) (by kernel_rfl) (by kernel_rfl) Ext (fun W => Ext wr W)
                            (fun W _ => Ext.refl W) (fun W W' h k => h.trans k) ?_ (Ext.drew _) ?_ ?_
                          · repeat (refine ⟨fun _ _ _ _ k h => (by first | exact h | exact (by first | exact IntsAt.ext h k | exact KnV.ext h k | exact NumsV.ext h k)), ?_⟩)
                            exact trivial
                          · refine ⟨?_, ?_, ?_, ?_, ?_, ?_, ?_, ?_, ?_, ?_, ?_, ?_, ?_, ?_, ?_, trivial⟩
                            all_goals intro ρ W ⟨kc, kg, kf⟩ hF hs
                            · obtain ⟨h0, -⟩ := hs
                              replace h0 : ρ (.tmp 1) = .pointer (some ⟨w.heap.size, 0, none⟩) := h0
                              go_simp
                              exact ⟨Ext.refl _, rfl⟩
                            · obtain ⟨h0, -⟩ := hs
                              replace h0 : ρ (.tmp 205) = .pointer (some ⟨w.heap.size, 3, none⟩) := h0
                              have hc0 : W.cell? ⟨w.heap.size, 3, none⟩ = some (.slice (some ⟨b, o, none⟩) n3 c3) := hF.cell (by assumption)
                              go_simp
                              exact ⟨Ext.refl _, rfl⟩
                            · obtain ⟨h0, -⟩ := hs
                              replace h0 : ρ (.tmp 16) = .int .i64 ((j : Int)) := h0
                              go_simp
                              exact ⟨Ext.refl _, rfl⟩
                            · obtain ⟨h0, h1, -⟩ := hs
                              replace h0 : ρ (.tmp 206) = .slice (some ⟨b, o, none⟩) n3 c3 := h0
                              replace h1 : ρ (.tmp 207) = .int .i64 ((j : Int)) := h1
                              go_simp
                              exact ⟨Ext.refl _, rfl⟩
                            · obtain ⟨h0, -⟩ := hs
                              replace h0 : ρ (.tmp 208) = .pointer (some ⟨b, o + j * 2, none⟩) := h0
                              go_simp
                              exact ⟨Ext.refl _, rfl⟩
                            · obtain ⟨h0, -⟩ := hs
                              replace h0 : ρ (.tmp 209) = .pointer (some ⟨b, o + j * 2, none⟩) := h0
                              have hc0 : W.cell? ⟨b, o + j * 2, none⟩ = some (.int .i64 (x.k)) := hF.cell (by assumption)
                              go_simp
                              exact ⟨Ext.refl _, rfl⟩
                            · obtain ⟨h0, -⟩ := hs
                              replace h0 : ρ (.tmp 4) = .int .i64 (L3 j) := h0
                              go_simp
                              exact ⟨Ext.refl _, rfl⟩
                            · obtain ⟨h0, -⟩ := hs
                              replace h0 : ρ (.tmp 1) = .pointer (some ⟨w.heap.size, 0, none⟩) := h0
                              go_simp
                              exact ⟨Ext.refl _, rfl⟩
                            · obtain ⟨h0, -⟩ := hs
                              replace h0 : ρ (.tmp 212) = .pointer (some ⟨w.heap.size, 3, none⟩) := h0
                              have hc0 : W.cell? ⟨w.heap.size, 3, none⟩ = some (.slice (some ⟨b, o, none⟩) n3 c3) := hF.cell (by assumption)
                              go_simp
                              exact ⟨Ext.refl _, rfl⟩
                            · obtain ⟨h0, -⟩ := hs
                              replace h0 : ρ (.tmp 16) = .int .i64 ((j : Int)) := h0
                              go_simp
                              exact ⟨Ext.refl _, rfl⟩
                            · obtain ⟨h0, h1, -⟩ := hs
                              replace h0 : ρ (.tmp 213) = .slice (some ⟨b, o, none⟩) n3 c3 := h0
                              replace h1 : ρ (.tmp 214) = .int .i64 ((j : Int)) := h1
                              go_simp
                              exact ⟨Ext.refl _, rfl⟩
                            · obtain ⟨h0, -⟩ := hs
                              replace h0 : ρ (.tmp 215) = .pointer (some ⟨b, o + j * 2, none⟩) := h0
                              go_simp
                              exact ⟨Ext.refl _, rfl⟩
                            · obtain ⟨h0, -⟩ := hs
                              replace h0 : ρ (.tmp 216) = .pointer (some ⟨b, o + j * 2 + 1, none⟩) := h0
                              have hc0 : W.cell? ⟨b, o + j * 2 + 1, none⟩ = some (.int .i64 (x.r)) := hF.cell (by assumption)
                              go_simp
                              exact ⟨Ext.refl _, rfl⟩
                            · obtain ⟨h0, h1, h2, -⟩ := hs
                              replace h0 : ρ (.tmp 210) = .int .i64 (x.k) := h0
                              replace h1 : ρ (.tmp 211) = .int .i64 (L3 j) := h1
                              replace h2 : ρ (.tmp 217) = .int .i64 (x.r) := h2
                              go_simp
                              refine (refKnot_any (xs := []) (n := 0) _ _ _ _ rfl ⟨by simp, fun i x hx => by simp at hx⟩).mono ?_; rintro e w' ⟨rfl, hx⟩; exact ⟨_, rfl, hx, rfl⟩
                            · obtain ⟨h0, -⟩ := hs
                              replace h0 : ρ (.tmp 218) = .int .i64 (refK x.k (L3 j) [] x.r true) := h0
                              go_simp
                              exact ⟨Ext.refl _, rfl⟩
                          · intro fv W1 hF hs
                            obtain ⟨-, -, -, -, -, -, -, -, -, -, -, -, -, -, h17, -⟩ := hs
                            replace h17 : fv 17 = .int .i64 (refK x.k (L3 j) [] x.r true) := h17
                            simp only [fin, List.filterMap]
                            go_simp
                            have u0 : W1.cell? ⟨b, o + j * 2, none⟩ = some (.int .i64 x.k) := hF.cell q0
                            have u1 : W1.cell? ⟨w.heap.size, 3, none⟩ = some (.slice (some ⟨b, o, none⟩) n3 c3) := hF.cell y0
                            have XW := Lib.hid hF
                            rw [HZ.out]
                            clear h17 hF
                            generalize F3 j = ev at HD HZ ⊢
                            by_cases he : ev = 0
                            · have he' : (ev != 0) = false := by simp [he]
                              have HE1 := Lib.hid he
                              clear he
                              go_wp2
                              go_roundw
                              case rel => exact ⟨j + 1, by omega, by go_num, by rw [HL.out], by rw [HR.out, HD.out, if_neg (by rw [HE1.out]; simp)], HX.out.trans XW.out⟩
                              case measure => simp [intOf]; omega
                            · have he' : (ev != 0) = true := by simp [he]
                              have HZ2 := Lib.hid (show z = ((j : Int), ev) by
                                have h1 : firstAt F3 n3 0 = ((j : Int), ev) := by rw [HR.out, HD.out, if_pos he]
                                rw [HE3.out, h1]
                                exact flt_here (p := ((j : Int), ev)) he)
                              clear he
                              go_wp2
                              rw [HZ2.out]
                              go_ret2
                              exact ⟨rfl, E0.out.trans (HX.out.trans XW.out)⟩
                        · obtain rfl : n3 = j := by omega
                          have HF := Lib.hid (show firstAt F3 n3 0 = (0, 0) by rw [HR.out, Nat.sub_self]; rfl)
                          have HE4 := Lib.hid (show z = firstFlt [(0, ck), (0, hd)] by rw [HE3.out, HF.out]; exact flt_skip rfl)
                          clear hlt hj HR HF
                          obtain ⟨wo3, hwo⟩ : ∃ v, v = wr := ⟨_, rfl⟩
                          subst hwo
                          have HX3 := Lib.hid HX.out
                          clear HX
                          have yh : wo3.cell? ⟨w.heap.size, 0, none⟩ = some (.slice A0 n0 c0) := (K0.out.ext HX3.out).cell 0
                          by_cases hz : n0 = 0
                          · have HE5 := Lib.hid (show z = firstFlt [(0, hd)] by rw [HE4.out, HCN.out hz]; exact flt_skip rfl)
                            have hgt : decide (0 < n0) = false := by simp [hz]
                            go_wp2
                            refine wp_loop_rounds 5 ?_
                            rw [rounds_succ]
                            have k0 : wo3.cell? ⟨w.heap.size, 4, none⟩ = some (.int .i64 r.h0) := (K0.out.ext HX3.out).cell 4
                            cases b0 with
                            | false =>
                              have HZ := Lib.hid (show z = (0, 2) by rw [HE5.out, HHD.out, if_neg (by simp)]; exact flt_here (p := (0, 2)) (by decide))
                              go_wp2_with (go_at_call 34; refine (HB0.out _).mono ?_; rintro e V0 ⟨rfl, hx⟩; have XV0 := Lib.hid (HX3.out.trans hx); have k1 : V0.cell? ⟨w.heap.size, 5, none⟩ = some (.int .i64 r.h1) := (K0.out.ext XV0.out).cell 5; clear hx; refine Hid.out ?_)
                              refine Lib.hid ?_
                              go_wp2
                              rw [HZ.out]
                              go_ret2
                              exact ⟨rfl, E0.out.trans (XV0.out)⟩
                            | true =>
                              go_wp2_with (go_at_call 34; refine (HB0.out _).mono ?_; rintro e V0 ⟨rfl, hx⟩; have XV0 := Lib.hid (HX3.out.trans hx); have k1 : V0.cell? ⟨w.heap.size, 5, none⟩ = some (.int .i64 r.h1) := (K0.out.ext XV0.out).cell 5; clear hx; refine Hid.out ?_)
                              refine Lib.hid ?_
                              go_wp2
                              rw [rounds_succ]
                              cases b1 with
                              | false =>
                                have HZ := Lib.hid (show z = (0, 2) by rw [HE5.out, HHD.out, if_neg (by simp)]; exact flt_here (p := (0, 2)) (by decide))
                                go_wp2_with (go_at_call 34; refine (HB1.out _).mono ?_; rintro e V1 ⟨rfl, hx⟩; have XV1 := Lib.hid (XV0.out.trans hx); have k2 : V1.cell? ⟨w.heap.size, 6, none⟩ = some (.int .i64 r.h2) := (K0.out.ext XV1.out).cell 6; clear hx; refine Hid.out ?_)
                                refine Lib.hid ?_
                                go_wp2
                                rw [HZ.out]
                                go_ret2
                                exact ⟨rfl, E0.out.trans (XV1.out)⟩
                              | true =>
                                go_wp2_with (go_at_call 34; refine (HB1.out _).mono ?_; rintro e V1 ⟨rfl, hx⟩; have XV1 := Lib.hid (XV0.out.trans hx); have k2 : V1.cell? ⟨w.heap.size, 6, none⟩ = some (.int .i64 r.h2) := (K0.out.ext XV1.out).cell 6; clear hx; refine Hid.out ?_)
                                refine Lib.hid ?_
                                go_wp2
                                rw [rounds_succ]
                                cases b2 with
                                | false =>
                                  have HZ := Lib.hid (show z = (0, 2) by rw [HE5.out, HHD.out, if_neg (by simp)]; exact flt_here (p := (0, 2)) (by decide))
                                  go_wp2_with (go_at_call 34; refine (HB2.out _).mono ?_; rintro e V2 ⟨rfl, hx⟩; have XV2 := Lib.hid (XV1.out.trans hx); have k3 : V2.cell? ⟨w.heap.size, 7, none⟩ = some (.int .i64 r.h3) := (K0.out.ext XV2.out).cell 7; clear hx; refine Hid.out ?_)
                                  refine Lib.hid ?_
                                  go_wp2
                                  rw [HZ.out]
                                  go_ret2
                                  exact ⟨rfl, E0.out.trans (XV2.out)⟩
                                | true =>
                                  go_wp2_with (go_at_call 34; refine (HB2.out _).mono ?_; rintro e V2 ⟨rfl, hx⟩; have XV2 := Lib.hid (XV1.out.trans hx); have k3 : V2.cell? ⟨w.heap.size, 7, none⟩ = some (.int .i64 r.h3) := (K0.out.ext XV2.out).cell 7; clear hx; refine Hid.out ?_)
                                  refine Lib.hid ?_
                                  go_wp2
                                  rw [rounds_succ]
                                  cases b3 with
                                  | false =>
                                    have HZ := Lib.hid (show z = (0, 2) by rw [HE5.out, HHD.out, if_neg (by simp)]; exact flt_here (p := (0, 2)) (by decide))
                                    go_wp2_with (go_at_call 34; refine (HB3.out _).mono ?_; rintro e V3 ⟨rfl, hx⟩; have XV3 := Lib.hid (XV2.out.trans hx); clear hx; refine Hid.out ?_)
                                    refine Lib.hid ?_
                                    go_wp2
                                    rw [HZ.out]
                                    go_ret2
                                    exact ⟨rfl, E0.out.trans (XV3.out)⟩
                                  | true =>
                                    go_wp2_with (go_at_call 34; refine (HB3.out _).mono ?_; rintro e V3 ⟨rfl, hx⟩; have XV3 := Lib.hid (XV2.out.trans hx); clear hx; refine Hid.out ?_)
                                    refine Lib.hid ?_
                                    go_wp2
                                    rw [rounds_succ]
                                    go_wp2
                                    have mm0 : V3.cell? ⟨w.heap.size, 4, none⟩ = some (.int .i64 r.h0) := (K0.out.ext XV3.out).cell 4
                                    have mm1 : V3.cell? ⟨w.heap.size, 5, none⟩ = some (.int .i64 r.h1) := (K0.out.ext XV3.out).cell 5
                                    have mm2 : V3.cell? ⟨w.heap.size, 6, none⟩ = some (.int .i64 r.h2) := (K0.out.ext XV3.out).cell 6
                                    have mm3 : V3.cell? ⟨w.heap.size, 7, none⟩ = some (.int .i64 r.h3) := (K0.out.ext XV3.out).cell 7
                                    refine wp_loop_rounds 4 ?_
                                    rw [rounds_succ]
                                    by_cases d1 : r.h1 < r.h0
                                    · have HZ := Lib.hid (show z = (0, 9) by rw [HE5.out, HHD.out, if_pos (show (true && true && true && true) = true from rfl), if_pos (by omega)]; exact flt_here (p := (0, 9)) (by decide))
                                      go_wp2
                                      go_quiet (fail)
                                      go_wp2
                                      rw [HZ.out]
                                      go_ret2
                                      exact ⟨rfl, E0.out.trans (XV3.out.trans (by first | exact Ext.drewN _ _ | exact (Ext.drewN _ _).trans (Ext.drewN _ _) | exact (Ext.drewN _ _).trans ((Ext.drewN _ _).trans (Ext.drewN _ _))))⟩
                                    · go_wp2
                                      go_quiet (fail)
                                      go_wp2
                                      rw [rounds_succ]
                                      by_cases d2 : r.h2 < r.h1
                                      · have HZ := Lib.hid (show z = (0, 9) by rw [HE5.out, HHD.out, if_pos (show (true && true && true && true) = true from rfl), if_pos (by omega)]; exact flt_here (p := (0, 9)) (by decide))
                                        go_wp2
                                        go_quiet (fail)
                                        go_wp2
                                        rw [HZ.out]
                                        go_ret2
                                        exact ⟨rfl, E0.out.trans (XV3.out.trans (by first | exact Ext.drewN _ _ | exact (Ext.drewN _ _).trans (Ext.drewN _ _) | exact (Ext.drewN _ _).trans ((Ext.drewN _ _).trans (Ext.drewN _ _))))⟩
                                      · go_wp2
                                        go_quiet (fail)
                                        go_wp2
                                        rw [rounds_succ]
                                        by_cases d3 : r.h3 < r.h2
                                        · have HZ := Lib.hid (show z = (0, 9) by rw [HE5.out, HHD.out, if_pos (show (true && true && true && true) = true from rfl), if_pos (by omega)]; exact flt_here (p := (0, 9)) (by decide))
                                          go_wp2
                                          go_quiet (fail)
                                          go_wp2
                                          rw [HZ.out]
                                          go_ret2
                                          exact ⟨rfl, E0.out.trans (XV3.out.trans (by first | exact Ext.drewN _ _ | exact (Ext.drewN _ _).trans (Ext.drewN _ _) | exact (Ext.drewN _ _).trans ((Ext.drewN _ _).trans (Ext.drewN _ _))))⟩
                                        · go_wp2
                                          go_quiet (fail)
                                          go_wp2
                                          rw [rounds_succ]
                                          have HZ := Lib.hid (show z = (0, 0) by rw [HE5.out, HHD.out, if_pos (show (true && true && true && true) = true from rfl), if_neg (by omega)]; exact flt_skip rfl)
                                          go_wp2
                                          rw [HZ.out]
                                          go_ret2
                                          exact ⟨rfl, E0.out.trans (XV3.out.trans (by first | exact Ext.drewN _ _ | exact (Ext.drewN _ _).trans (Ext.drewN _ _) | exact (Ext.drewN _ _).trans ((Ext.drewN _ _).trans (Ext.drewN _ _))))⟩
                          · obtain ⟨x, hx⟩ : ∃ x, r.hs[0]? = some x := ⟨_, List.getElem?_eq_getElem (by rw [H.out.l0]; omega)⟩
                            have hck := HCL.out x hx (HK0.out (by omega))
                            rw [show max (max (L1 n1) (L2 n2)) (L3 n3) = max (L1 n1) (max (L2 n2) (L3 n3)) by omega] at hck
                            obtain ⟨b, o, hAe, hb, hc⟩ := H.out.r0.2 0 x hx
                            subst hAe
                            have q0 : wo3.cell? ⟨b, o, none⟩ = some (.int .i64 x.k) := HX3.out.cell (by have := hc 0 _ rfl; simpa using this)
                            have hgt : decide (0 < n0) = true := by simp; omega
                            have hg0 : 0 < n0 := by omega
                            have hg1 : (0 : Int) < (n0 : Int) := by omega
                            clear hc hb hx
                            by_cases hcl : x.k ≤ max (L1 n1) (max (L2 n2) (L3 n3))
                            · have HZ := Lib.hid (show z = (0, 13) by rw [HE4.out, hck, decide_eq_true hcl]; exact flt_here (p := (0, 13)) (by decide))
                              have hcd : decide (x.k ≤ max (L1 n1) (max (L2 n2) (L3 n3))) = true := decide_eq_true hcl
                              clear hck
                              go_wp2
                              rw [HZ.out]
                              go_ret2
                              exact ⟨rfl, E0.out.trans (HX3.out)⟩
                            · have HE5 := Lib.hid (show z = firstFlt [(0, hd)] by rw [HE4.out, hck, decide_eq_false hcl]; exact flt_skip rfl)
                              have hcd : decide (x.k ≤ max (L1 n1) (max (L2 n2) (L3 n3))) = false := decide_eq_false hcl
                              clear hck
                              go_wp2
                              refine wp_loop_rounds 5 ?_
                              rw [rounds_succ]
                              have k0 : wo3.cell? ⟨w.heap.size, 4, none⟩ = some (.int .i64 r.h0) := (K0.out.ext HX3.out).cell 4
                              cases b0 with
                              | false =>
                                have HZ := Lib.hid (show z = (0, 2) by rw [HE5.out, HHD.out, if_neg (by simp)]; exact flt_here (p := (0, 2)) (by decide))
                                go_wp2_with (go_at_call 34; refine (HB0.out _).mono ?_; rintro e V0 ⟨rfl, hx⟩; have XV0 := Lib.hid (HX3.out.trans hx); have k1 : V0.cell? ⟨w.heap.size, 5, none⟩ = some (.int .i64 r.h1) := (K0.out.ext XV0.out).cell 5; clear hx; refine Hid.out ?_)
                                refine Lib.hid ?_
                                go_wp2
                                rw [HZ.out]
                                go_ret2
                                exact ⟨rfl, E0.out.trans (XV0.out)⟩
                              | true =>
                                go_wp2_with (go_at_call 34; refine (HB0.out _).mono ?_; rintro e V0 ⟨rfl, hx⟩; have XV0 := Lib.hid (HX3.out.trans hx); have k1 : V0.cell? ⟨w.heap.size, 5, none⟩ = some (.int .i64 r.h1) := (K0.out.ext XV0.out).cell 5; clear hx; refine Hid.out ?_)
                                refine Lib.hid ?_
                                go_wp2
                                rw [rounds_succ]
                                cases b1 with
                                | false =>
                                  have HZ := Lib.hid (show z = (0, 2) by rw [HE5.out, HHD.out, if_neg (by simp)]; exact flt_here (p := (0, 2)) (by decide))
                                  go_wp2_with (go_at_call 34; refine (HB1.out _).mono ?_; rintro e V1 ⟨rfl, hx⟩; have XV1 := Lib.hid (XV0.out.trans hx); have k2 : V1.cell? ⟨w.heap.size, 6, none⟩ = some (.int .i64 r.h2) := (K0.out.ext XV1.out).cell 6; clear hx; refine Hid.out ?_)
                                  refine Lib.hid ?_
                                  go_wp2
                                  rw [HZ.out]
                                  go_ret2
                                  exact ⟨rfl, E0.out.trans (XV1.out)⟩
                                | true =>
                                  go_wp2_with (go_at_call 34; refine (HB1.out _).mono ?_; rintro e V1 ⟨rfl, hx⟩; have XV1 := Lib.hid (XV0.out.trans hx); have k2 : V1.cell? ⟨w.heap.size, 6, none⟩ = some (.int .i64 r.h2) := (K0.out.ext XV1.out).cell 6; clear hx; refine Hid.out ?_)
                                  refine Lib.hid ?_
                                  go_wp2
                                  rw [rounds_succ]
                                  cases b2 with
                                  | false =>
                                    have HZ := Lib.hid (show z = (0, 2) by rw [HE5.out, HHD.out, if_neg (by simp)]; exact flt_here (p := (0, 2)) (by decide))
                                    go_wp2_with (go_at_call 34; refine (HB2.out _).mono ?_; rintro e V2 ⟨rfl, hx⟩; have XV2 := Lib.hid (XV1.out.trans hx); have k3 : V2.cell? ⟨w.heap.size, 7, none⟩ = some (.int .i64 r.h3) := (K0.out.ext XV2.out).cell 7; clear hx; refine Hid.out ?_)
                                    refine Lib.hid ?_
                                    go_wp2
                                    rw [HZ.out]
                                    go_ret2
                                    exact ⟨rfl, E0.out.trans (XV2.out)⟩
                                  | true =>
                                    go_wp2_with (go_at_call 34; refine (HB2.out _).mono ?_; rintro e V2 ⟨rfl, hx⟩; have XV2 := Lib.hid (XV1.out.trans hx); have k3 : V2.cell? ⟨w.heap.size, 7, none⟩ = some (.int .i64 r.h3) := (K0.out.ext XV2.out).cell 7; clear hx; refine Hid.out ?_)
                                    refine Lib.hid ?_
                                    go_wp2
                                    rw [rounds_succ]
                                    cases b3 with
                                    | false =>
                                      have HZ := Lib.hid (show z = (0, 2) by rw [HE5.out, HHD.out, if_neg (by simp)]; exact flt_here (p := (0, 2)) (by decide))
                                      go_wp2_with (go_at_call 34; refine (HB3.out _).mono ?_; rintro e V3 ⟨rfl, hx⟩; have XV3 := Lib.hid (XV2.out.trans hx); clear hx; refine Hid.out ?_)
                                      refine Lib.hid ?_
                                      go_wp2
                                      rw [HZ.out]
                                      go_ret2
                                      exact ⟨rfl, E0.out.trans (XV3.out)⟩
                                    | true =>
                                      go_wp2_with (go_at_call 34; refine (HB3.out _).mono ?_; rintro e V3 ⟨rfl, hx⟩; have XV3 := Lib.hid (XV2.out.trans hx); clear hx; refine Hid.out ?_)
                                      refine Lib.hid ?_
                                      go_wp2
                                      rw [rounds_succ]
                                      go_wp2
                                      have mm0 : V3.cell? ⟨w.heap.size, 4, none⟩ = some (.int .i64 r.h0) := (K0.out.ext XV3.out).cell 4
                                      have mm1 : V3.cell? ⟨w.heap.size, 5, none⟩ = some (.int .i64 r.h1) := (K0.out.ext XV3.out).cell 5
                                      have mm2 : V3.cell? ⟨w.heap.size, 6, none⟩ = some (.int .i64 r.h2) := (K0.out.ext XV3.out).cell 6
                                      have mm3 : V3.cell? ⟨w.heap.size, 7, none⟩ = some (.int .i64 r.h3) := (K0.out.ext XV3.out).cell 7
                                      refine wp_loop_rounds 4 ?_
                                      rw [rounds_succ]
                                      by_cases d1 : r.h1 < r.h0
                                      · have HZ := Lib.hid (show z = (0, 9) by rw [HE5.out, HHD.out, if_pos (show (true && true && true && true) = true from rfl), if_pos (by omega)]; exact flt_here (p := (0, 9)) (by decide))
                                        go_wp2
                                        go_quiet (fail)
                                        go_wp2
                                        rw [HZ.out]
                                        go_ret2
                                        exact ⟨rfl, E0.out.trans (XV3.out.trans (by first | exact Ext.drewN _ _ | exact (Ext.drewN _ _).trans (Ext.drewN _ _) | exact (Ext.drewN _ _).trans ((Ext.drewN _ _).trans (Ext.drewN _ _))))⟩
                                      · go_wp2
                                        go_quiet (fail)
                                        go_wp2
                                        rw [rounds_succ]
                                        by_cases d2 : r.h2 < r.h1
                                        · have HZ := Lib.hid (show z = (0, 9) by rw [HE5.out, HHD.out, if_pos (show (true && true && true && true) = true from rfl), if_pos (by omega)]; exact flt_here (p := (0, 9)) (by decide))
                                          go_wp2
                                          go_quiet (fail)
                                          go_wp2
                                          rw [HZ.out]
                                          go_ret2
                                          exact ⟨rfl, E0.out.trans (XV3.out.trans (by first | exact Ext.drewN _ _ | exact (Ext.drewN _ _).trans (Ext.drewN _ _) | exact (Ext.drewN _ _).trans ((Ext.drewN _ _).trans (Ext.drewN _ _))))⟩
                                        · go_wp2
                                          go_quiet (fail)
                                          go_wp2
                                          rw [rounds_succ]
                                          by_cases d3 : r.h3 < r.h2
                                          · have HZ := Lib.hid (show z = (0, 9) by rw [HE5.out, HHD.out, if_pos (show (true && true && true && true) = true from rfl), if_pos (by omega)]; exact flt_here (p := (0, 9)) (by decide))
                                            go_wp2
                                            go_quiet (fail)
                                            go_wp2
                                            rw [HZ.out]
                                            go_ret2
                                            exact ⟨rfl, E0.out.trans (XV3.out.trans (by first | exact Ext.drewN _ _ | exact (Ext.drewN _ _).trans (Ext.drewN _ _) | exact (Ext.drewN _ _).trans ((Ext.drewN _ _).trans (Ext.drewN _ _))))⟩
                                          · go_wp2
                                            go_quiet (fail)
                                            go_wp2
                                            rw [rounds_succ]
                                            have HZ := Lib.hid (show z = (0, 0) by rw [HE5.out, HHD.out, if_pos (show (true && true && true && true) = true from rfl), if_neg (by omega)]; exact flt_skip rfl)
                                            go_wp2
                                            rw [HZ.out]
                                            go_ret2
                                            exact ⟨rfl, E0.out.trans (XV3.out.trans (by first | exact Ext.drewN _ _ | exact (Ext.drewN _ _).trans (Ext.drewN _ _) | exact (Ext.drewN _ _).trans ((Ext.drewN _ _).trans (Ext.drewN _ _))))⟩

end Go.Proofs.YtkmekbafjnlfkaaGreat
