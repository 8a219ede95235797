/- The reference's check of voltages. By lawgen.py. -/
import Derived.Test.YtpaoeghdfeekoaaK4
namespace Go.Proofs.Ytpaoeghdfeekoaa
open Go.RowKit Go.Shelf Go.Mem Go.RegInv
attribute [local go_sem] RelUpon_value RelUpon_skip RelUpon_enter BigFrame.eval_const BigFrame.eval_global BigFrame.eval_func

theorem outG_in (z : G) : outG z = !(inB (-1000000000) 1000000000 z.re && inB (-1000000000) 1000000000 z.im) := by
  unfold outG
  rw [outB_not, outB_not, Bool.not_and]

set_option maxRecDepth 100000 in
set_option maxHeartbeats 8000000 in
theorem refCheckVoltages_any (t : Int) (A : Option Addr) (n cap : Nat) (l : List Sh) (hn : l.length = n) (f : Int) (B : Option Addr) (cap' : Nat) (hot : List Bool) (hm : hot.length = n)
    (C : Option Addr) (M cz : Nat) (zs : List G) (hM : zs.length = M) (w : World)
    (hS : RowsAt 3 Sh.enc w A l) (hH : RowsAt 1 boolEnc w B hot) (hZ : RowsAt 2 G.enc w C zs) (hok : ∀ s ∈ l, shOK s) (hf : 1 ≤ f ∧ f ≤ 8) (h1 : 1 ≤ n) (hn4 : n ≤ 4) :
    Calls Try.prog 37 #[.agg #[.int .i64 t, .slice A n cap], .agg #[.int .i64 f, .slice B n cap'], .slice C M cz] w fun e w' =>
      e = .returned (.tuple #[.int .i64 (chkV f hot l zs).1, .int .i64 (chkV f hot l zs).2]) ∧ Ext w w' := by
  have e0 : Ext w ((w.alloc (.cells #[.int .i64 t, .slice A n cap] 24)).alloc (.cells #[.int .i64 f, .slice B n cap'] 27)) := (Ext.alloc _ _).trans (Ext.alloc _ _)
  have FA := Lib.hid (show ∀ W : World, Ext ((w.alloc (.cells #[.int .i64 t, .slice A n cap] 24)).alloc (.cells #[.int .i64 f, .slice B n cap'] 27)) W →
      W.cell? ⟨w.heap.size, 0, none⟩ = some (.int .i64 t) ∧ W.cell? ⟨w.heap.size, 1, none⟩ = some (.slice A n cap) ∧ W.cell? ⟨w.heap.size + 1, 0, none⟩ = some (.int .i64 f) ∧ W.cell? ⟨w.heap.size + 1, 1, none⟩ = some (.slice B n cap') from
    fun W hx => ⟨hx.cell (by go_simp), hx.cell (by go_simp), hx.cell (by go_simp), hx.cell (by go_simp)⟩)
  have HS := Lib.hid hS
  have HZ := Lib.hid hZ
  have HN := Lib.hid hn
  have HM := Lib.hid hM
  have HMM := Lib.hid hm
  have E0 := Lib.hid e0
  have hMb : M ≤ 1152921504606846976 := by have := hZ.1; omega
  have HVE := Lib.hid (show volE n zs = if zs.length ≠ n + 1 then 10 else if zs.any outG = true then 2 else if zs.getD n ⟨0, 0⟩ ≠ ⟨1, 0⟩ then 3 else 0 from rfl)
  have HA := Lib.hid (show chkV f hot l zs = if volE n zs ≠ 0 then (0, volE n zs) else chkFrom f hot l zs n 0 by unfold chkV; rw [hn])
  generalize chkV f hot l zs = r at *
  by_cases hml : M = n + 1
  · subst hml
    obtain ⟨rl, hrl⟩ : ∃ rl, rl = reactL f hot l := ⟨_, rfl⟩
    have H26 := Lib.hid (fun W (e : Ext w W) => show Calls Try.prog 26 #[.agg #[.int .i64 t, .slice A n cap], .agg #[.int .i64 f, .slice B n cap']] W (VPost W (Ints rl)) from
      (refReactances_any t A n cap l hn f B cap' hot hm W (hS.ext e) (hH.ext e) hok hf hn4).mono fun _ _ ⟨v, h1, h2, h3⟩ => ⟨v, h1, h3, by rw [hrl]; exact h2⟩)
    have HRL := Lib.hid hrl
    have HRLN := Lib.hid (show rl.length = n by rw [hrl, reactL_len (by rw [hm, hn]), hn])
    have HRB := Lib.hid (fun (b : Bool) (s : Sh) (hs : s ∈ l) => (⟨react_bd (h := b) hf (hok s hs), (hok s hs).1⟩ : (1 ≤ react f b s ∧ react f b s ≤ 32) ∧ (1 ≤ s.g ∧ s.g ≤ 4)))
    have HCB := Lib.hid (fun (hb : ∀ z ∈ zs.tail, Bd 1000000000 z) j k (h : j + k = n) => curAt_bd9 (ls := l) (zs := zs.tail) (by simp [hn, hM]) hok hb j k (by omega))
    have HCE := Lib.hid (curAt_end l zs.tail (by simp [hn, hM]) n (by omega))
    have HV1 := Lib.hid (show volE n zs = if zs.any outG = true then 2 else if zs.getD n ⟨0, 0⟩ ≠ ⟨1, 0⟩ then 3 else 0 by rw [HVE.out, if_neg (by simp [hM])])
    obtain ⟨sA, hsA⟩ : ∃ s, l[0]? = some s := ⟨_, List.getElem?_eq_getElem (by omega)⟩
    obtain ⟨b, o, hAA, _, _⟩ := hS.2 0 _ hsA
    subst hAA
    obtain ⟨zC, hzC⟩ : ∃ z, zs[0]? = some z := ⟨_, List.getElem?_eq_getElem (by omega)⟩
    obtain ⟨gz, oz, hCC, _, _⟩ := hZ.2 0 _ hzC
    subst hCC
    clear hrl hS hH hZ hn hm hM e0 hok hf hsA hzC HVE
    generalize volE n zs = ve at *
    go_enter Try.func37, Try.ntmps37
    go_wp2
    obtain ⟨W0, hW0⟩ : ∃ W0, W0 = (w.alloc (.cells #[.int .i64 t, .slice (some ⟨b, o, none⟩) n cap] 24)).alloc (.cells #[.int .i64 f, .slice B n cap'] 27) := ⟨_, rfl⟩
    rw [← hW0] at E0 FA ⊢
    clear hW0
    go_loopw [9] (fun i wr => ∃ k : Nat, k ≤ n + 1 ∧ i = .int .i64 k ∧ (∀ z ∈ zs.take k, outG z = false) ∧ Ext W0 wr) (fun i _ => n + 1 - (intOf i).toNat)
    case atStart => exact ⟨0, Nat.zero_le _, rfl, by simp, Ext.refl _⟩
    case round =>
      obtain ⟨k, hk, rfl, hr, hx⟩ := hrel
      have HR := Lib.hid hr
      have HX := Lib.hid hx
      clear hr hx
      by_cases hlt : k < n + 1
      · obtain ⟨z, hz⟩ : ∃ z, zs[k]? = some z := ⟨_, List.getElem?_eq_getElem (by rw [HM.out]; exact hlt)⟩
        obtain ⟨g1, o1, hC, _, hc⟩ := HZ.out.2 k z hz
        obtain ⟨rfl, rfl⟩ : gz = g1 ∧ oz = o1 := by simpa using hC
        have hc1 : wr.cell? ⟨gz, oz + k * 2, none⟩ = some (.int .i64 z.re) := (E0.out.trans HX.out).cell (by have := hc 0 _ rfl; simpa using this)
        have hc2 : wr.cell? ⟨gz, oz + k * 2 + 1, none⟩ = some (.int .i64 z.im) := (E0.out.trans HX.out).cell (hc 1 _ rfl)
        have HO := Lib.hid (outG_in z)
        have HZK := Lib.hid hz
        have hki : (k : Int) < (n : Int) + 1 := by omega
        clear hz hc hC
        cases hb1 : inB (-1000000000) 1000000000 z.re
        · have HB1 := Lib.hid hb1
          have HOZ := Lib.hid (show outG z = true by rw [HO.out, hb1]; rfl)
          have HAN := Lib.hid (show zs.any outG = true from List.any_eq_true.2 ⟨z, List.mem_of_getElem? HZK.out, HOZ.out⟩)
          have HVE2 := Lib.hid (show ve = 2 by rw [HV1.out, if_pos HAN.out])
          clear hb1
          generalize z.re = zr at *
          generalize z.im = zi at *
          go_wp2_with (go_at_call 40; refine (within_any _ _ _ _).mono ?_; rintro e w' ⟨rfl, rfl⟩; rw [HB1.out])
          go_ret2
          exact ⟨ret_pair (by rw [HA.out, if_pos (by rw [HVE2.out]; decide)]) (by rw [HA.out, if_pos (by rw [HVE2.out]; decide), HVE2.out]), E0.out.trans HX.out⟩
        · have HB1 := Lib.hid hb1
          cases hb2 : inB (-1000000000) 1000000000 z.im
          · have HB2 := Lib.hid hb2
            have HOZ := Lib.hid (show outG z = true by rw [HO.out, hb1, hb2]; rfl)
            have HAN := Lib.hid (show zs.any outG = true from List.any_eq_true.2 ⟨z, List.mem_of_getElem? HZK.out, HOZ.out⟩)
            have HVE2 := Lib.hid (show ve = 2 by rw [HV1.out, if_pos HAN.out])
            clear hb1 hb2
            generalize z.re = zr at *
            generalize z.im = zi at *
            go_wp2_with (go_at_call 40; refine (within_any _ _ _ _).mono ?_; rintro e w' ⟨rfl, rfl⟩; first | rw [HB1.out] | rw [HB2.out])
            go_ret2
            exact ⟨ret_pair (by rw [HA.out, if_pos (by rw [HVE2.out]; decide)]) (by rw [HA.out, if_pos (by rw [HVE2.out]; decide), HVE2.out]), E0.out.trans HX.out⟩
          · have HB2 := Lib.hid hb2
            have HOZ := Lib.hid (show outG z = false by rw [HO.out, hb1, hb2]; rfl)
            clear hb1 hb2
            generalize z.re = zr at *
            generalize z.im = zi at *
            go_wp2_with (go_at_call 40; refine (within_any _ _ _ _).mono ?_; rintro e w' ⟨rfl, rfl⟩; first | rw [HB1.out] | rw [HB2.out])
            go_roundw
            case rel => exact ⟨k + 1, by omega, by go_num, by
              intro y hy
              rw [List.take_add_one, HZK.out] at hy
              rcases List.mem_append.1 hy with h | h
              · exact HR.out y h
              · simp at h; rw [h]; exact HOZ.out, HX.out⟩
            case measure => simp [intOf]; omega
      · have HALL := Lib.hid (show ∀ z ∈ zs, outG z = false from fun z hz => HR.out z (by rw [List.take_of_length_le (by rw [HM.out]; omega)]; exact hz))
        have HNA := Lib.hid (show zs.any outG = false by
          rw [List.any_eq_false]; intro y hy
          rw [HALL.out y hy]; decide)
        obtain ⟨z, hz⟩ : ∃ z, zs[n]? = some z := ⟨_, List.getElem?_eq_getElem (by rw [HM.out]; omega)⟩
        obtain ⟨g1, o1, hC, _, hc⟩ := HZ.out.2 n z hz
        obtain ⟨rfl, rfl⟩ : gz = g1 ∧ oz = o1 := by simpa using hC
        have hc1 : wr.cell? ⟨gz, oz + n * 2, none⟩ = some (.int .i64 z.re) := (E0.out.trans HX.out).cell (by have := hc 0 _ rfl; simpa using this)
        have hc2 : wr.cell? ⟨gz, oz + n * 2 + 1, none⟩ = some (.int .i64 z.im) := (E0.out.trans HX.out).cell (hc 1 _ rfl)
        have HZN := Lib.hid (show zs.getD n ⟨0, 0⟩ = z by rw [List.getD, hz]; rfl)
        have hni : (n : Int) < (n : Int) + 1 := by omega
        clear hz hc hC
        obtain ⟨zr, zi⟩ := z
        by_cases hzz : zr = 1 ∧ zi = 0
        · have HR1 := Lib.hid (show r = chkFrom f hot l zs n 0 by rw [HA.out, if_neg (by rw [HV1.out, HNA.out, if_neg (by simp), HZN.out, if_neg (by simp [hzz.1, hzz.2])]; simp)])
          obtain ⟨rfl, rfl⟩ := hzz
          have HCB2 := Lib.hid (HCB.out (fun z hz => outG_bd (HALL.out z (List.mem_of_mem_tail hz))))
          obtain ⟨z0, z1, z2, z3⟩ := FA.out _ HX.out
          go_wp2_with (go_at_call 26; refine (H26.out _ (E0.out.trans HX.out)).mono ?_; rintro e W5 ⟨v5, rfl, hx5, hv5⟩; obtain ⟨Al, cl, hvl, hrl⟩ := ints_rows hv5; rw [HRLN.out] at hvl; subst hvl; have HRR := Lib.hid hrl; have X5 := Lib.hid (HX.out.trans hx5); clear hx5 hv5 hrl hc1 hc2 z0 z1 z2 z3)
          obtain ⟨x0, hx0⟩ : ∃ x, rl[0]? = some x := ⟨_, List.getElem?_eq_getElem (by rw [HRLN.out]; omega)⟩
          obtain ⟨gl, ol, hAl, _, _⟩ := HRR.out.2 0 x0 hx0
          subst hAl
          clear hx0
          go_loopw [11] (fun i wr => ∃ k : Nat, k ≤ n ∧ i = .int .i64 k ∧ chkFrom f hot l zs n 0 = chkFrom f hot l zs (n - k) k ∧ Ext W5 wr) (fun i _ => n - (intOf i).toNat)
          case atStart => exact ⟨0, Nat.zero_le _, rfl, rfl, Ext.refl _⟩
          case round =>
            obtain ⟨k, hk, rfl, hr, hx⟩ := hrel
            have HR0 := Lib.hid hr
            have HX6 := Lib.hid hx
            clear hr hx
            by_cases hlt : k < n
            · obtain ⟨wo, hwo⟩ : ∃ wo : World, wo = wr := ⟨_, rfl⟩
              rw [← hwo] at HX6 ⊢
              clear hwo
              have hwo5 := HX6.out.size
              go_wp2
              have hb12 : Blk (wo.alloc (.cells #[.int .i64 0, .int .i64 0] 65)) wo.heap.size 65 #[.int .i64 0, .int .i64 0] := Blk.new _ _ _
              have hx12 : Ext W5 (wo.alloc (.cells #[.int .i64 0, .int .i64 0] 65)) := HX6.out.trans (Ext.alloc _ _)
              generalize hWn : wo.alloc (.cells #[.int .i64 0, .int .i64 0] 65) = Wn at *
              generalize wo.heap.size = q12 at *
              clear hWn
              go_loopw [13] (fun i wr => ∃ mm : Nat, k ≤ mm ∧ mm ≤ n ∧ i = .int .i64 mm ∧ (∃ cr ci, Blk wr q12 65 #[.int .i64 cr, .int .i64 ci] ∧ cr + (curAt l zs.tail mm).re = (curAt l zs.tail k).re ∧ ci + (curAt l zs.tail mm).im = (curAt l zs.tail k).im) ∧ Ext W5 wr) (fun i _ => n - (intOf i).toNat)
              case atStart => exact ⟨k, Nat.le_refl _, by omega, rfl, ⟨0, 0, hb12, by omega, by omega⟩, hx12⟩
              case round =>
                obtain ⟨mm, hkm, hmn, rfl, ⟨cr, ci, hb, hcr, hci⟩, hx⟩ := hrel
                have y5 : wr.cell? ⟨q12, 0, none⟩ = some (.int .i64 cr) := hb.cell 0
                have y6 : wr.cell? ⟨q12, 1, none⟩ = some (.int .i64 ci) := hb.cell 1
                obtain ⟨z0, z1, z2, z3⟩ := FA.out _ (X5.out.trans hx)
                have B12 := Lib.hid hb
                have HXW := Lib.hid hx
                by_cases hlm : mm < n
                · obtain ⟨s, hs⟩ : ∃ s, l[mm]? = some s := ⟨_, List.getElem?_eq_getElem (by rw [HN.out]; exact hlm)⟩
                  obtain ⟨bb, hbb⟩ : ∃ bb : Bool, bb = false := ⟨_, rfl⟩
                  obtain ⟨⟨vr, vi⟩, hzv⟩ : ∃ z, zs[mm + 1]? = some z := ⟨_, List.getElem?_eq_getElem (by rw [HM.out]; omega)⟩
                  have hstep := curAt_step l zs.tail mm s ⟨vr, vi⟩ hs (by rw [List.getElem?_tail]; exact hzv)
                  obtain ⟨_, hg1, hg4⟩ := HRB.out bb s (List.mem_of_getElem? hs)
                  have hvb := outG_bd (HALL.out _ (List.mem_of_getElem? hzv))
                  have hcb1 := HCB2.out (n - k) k (by omega)
                  have hcb2 := HCB2.out (n - mm) mm (by omega)
                  have hb1 : ((n - k : Nat) : Int) * 4000000000 ≤ 16000000000 := by omega
                  have hb2 : ((n - mm : Nat) : Int) * 4000000000 ≤ 16000000000 := by omega
                  simp only [Bd] at hvb hcb1 hcb2
                  have m1 := mul_bd (n := s.g) (x := vr) (N := 4) (B := 1000000000) (by omega) hg4 (by omega) (by omega)
                  have m2 := mul_bd (n := s.g) (x := vi) (N := 4) (B := 1000000000) (by omega) hg4 (by omega) (by omega)
                  obtain ⟨c2r, hc2r⟩ : ∃ y, y = cr + s.g * vr := ⟨_, rfl⟩
                  obtain ⟨c2i, hc2i⟩ : ∃ y, y = ci + s.g * vi := ⟨_, rfl⟩
                  have HS1 := Lib.hid (fun W => show Calls Try.prog 93 #[.agg #[.int .i64 vr, .int .i64 vi], .int .i64 s.g] W (VPost W (Is (.agg #[.int .i64 (s.g * vr), .int .i64 (s.g * vi)]))) from
                    (scaled_any vr vi s.g (by unfold Mid; omega) (by unfold Mid; omega) W).mono fun _ _ ⟨h1, h2⟩ => ⟨_, h1, h2, rfl⟩)
                  have HP1 := Lib.hid (fun W => show Calls Try.prog 57 #[.agg #[.int .i64 cr, .int .i64 ci], .agg #[.int .i64 (s.g * vr), .int .i64 (s.g * vi)]] W (VPost W (Is (.agg #[.int .i64 c2r, .int .i64 c2i]))) from
                    (gadd_any cr ci (s.g * vr) (s.g * vi) (by unfold Mid; omega) (by unfold Mid; omega) (by unfold Mid; omega) (by unfold Mid; omega) W).mono fun _ _ ⟨h1, h2⟩ => ⟨_, h1, h2, by rw [hc2r, hc2i]; rfl⟩)
                  have HNR := Lib.hid (show c2r + (curAt l zs.tail (mm + 1)).re = (curAt l zs.tail k).re by rw [← hcr, hstep, hc2r]; simp only [plusG]; omega)
                  have HNI := Lib.hid (show c2i + (curAt l zs.tail (mm + 1)).im = (curAt l zs.tail k).im by rw [← hci, hstep, hc2i]; simp only [plusG]; omega)
                  obtain ⟨b', o', hAA, _, hsc⟩ := HS.out.2 mm s hs
                  obtain ⟨rfl, rfl⟩ : b = b' ∧ o = o' := by simpa using hAA
                  obtain ⟨g1, o1, hC, _, hvc⟩ := HZ.out.2 (mm + 1) _ hzv
                  obtain ⟨rfl, rfl⟩ : gz = g1 ∧ oz = o1 := by simpa using hC
                  have y1 : wr.cell? ⟨b, o + mm * 3, none⟩ = some (.int .i64 s.g) := (E0.out.trans (X5.out.trans hx)).cell (by have := hsc 0 _ rfl; simpa using this)
                  have y3 : wr.cell? ⟨gz, oz + (mm + 1) * 2, none⟩ = some (.int .i64 vr) := (E0.out.trans (X5.out.trans hx)).cell (by have := hvc 0 _ rfl; simpa using this)
                  have y4 : wr.cell? ⟨gz, oz + (mm + 1) * 2 + 1, none⟩ = some (.int .i64 vi) := (E0.out.trans (X5.out.trans hx)).cell (by have := hvc 1 _ rfl; simpa using this)
                  clear hb12 hx12 hb hcr hci hx hs hzv hstep hvb hcb1 hcb2 hb1 hb2 m1 m2 hc2r hc2i hAA hC hsc hvc hbb
                  generalize hsg : s.g = sg at *
                  clear hsg
                  go_wp2
                  refine wp_region_part 14 [some 64, some 65, some 66, some 67, some 68, some 69, some 70, some 71, some 72, some 73, some 74, some 75, some 76, some 77] [[12], [2], [13], [66], [65, 67], [68], [3], [70], [13], [71, 72], [73], [74], [69, 75], [64, 76]]
                    [Is (.agg #[.int .i64 (cr), .int .i64 (ci)]), Is (.slice (some ⟨gz, oz, none⟩) (n + 1) cz), Is (.int .i64 (mm)), Is (.int .i64 ((mm : Int) + 1)), Is (.pointer (some ⟨gz, oz + (mm + 1) * 2, none⟩)), Is (.agg #[.int .i64 (vr), .int .i64 (vi)]), Is (.pointer (some ⟨w.heap.size, 1, none⟩)), Is (.slice (some ⟨b, o, none⟩) n cap), Is (.int .i64 (mm)), Is (.pointer (some ⟨b, o + mm * 3, none⟩)), Is (.pointer (some ⟨b, o + mm * 3, none⟩)), Is (.int .i64 (sg)), Is (.agg #[.int .i64 (sg * vr), .int .i64 (sg * vi)]), Is (.agg #[.int .i64 (c2r), .int .i64 (c2i)])]
                    (by kernel_rfl) (by kernel_rfl) (by kernel_rfl) (by kernel_rfl) (by kernel_rfl) (by kernel_rfl) (by kernel_rfl) Ext (fun W => Ext wr W)
                    (fun W _ => Ext.refl W) (fun W W' h k => h.trans k) ?_ (Ext.drew _) ?_ ?_
                  · repeat (refine ⟨fun _ _ _ _ k h => (by first | exact h | exact (by first | exact LadV.ext h k | exact DrvV.ext h k | exact TupV.ext (fun _ _ _ h k => by first | exact Opt.ext (fun _ _ _ h k => by first | exact IntsAt.ext h k | exact GsV.ext h k) h k | exact IntsAt.ext h k) h k | exact Opt.ext (fun _ _ _ h k => by first | exact IntsAt.ext h k | exact GsV.ext h k) h k | exact IntsAt.ext h k)), ?_⟩)
                    exact trivial
                  · refine ⟨?_, ?_, ?_, ?_, ?_, ?_, ?_, ?_, ?_, ?_, ?_, ?_, ?_, ?_, trivial⟩
                    all_goals intro ρ W ⟨kc, kg, kf⟩ hF hs
                    · obtain ⟨h0, -⟩ := hs
                      replace h0 : ρ (.tmp 12) = .pointer (some ⟨q12, 0, none⟩) := h0
                      have hc0 : W.cell? ⟨q12, 0, none⟩ = some (.int .i64 (cr)) := hF.cell (by assumption)
                      have hc1 : W.cell? ⟨q12, 1, none⟩ = some (.int .i64 (ci)) := hF.cell (by assumption)
                      go_simp
                      exact ⟨Ext.refl _, rfl⟩
                    · obtain ⟨h0, -⟩ := hs
                      replace h0 : ρ (.tmp 2) = .slice (some ⟨gz, oz, none⟩) (n + 1) cz := h0
                      go_simp
                      exact ⟨Ext.refl _, rfl⟩
                    · obtain ⟨h0, -⟩ := hs
                      replace h0 : ρ (.tmp 13) = .int .i64 (mm) := h0
                      go_simp
                      exact ⟨Ext.refl _, rfl⟩
                    · obtain ⟨h0, -⟩ := hs
                      replace h0 : ρ (.tmp 66) = .int .i64 (mm) := h0
                      have hw : IntKind.i64.wrap ((mm : Int) + 1) = (mm : Int) + 1 := IntWalk.i64_in _ (by omega)
                      go_simp
                      exact ⟨Ext.refl _, rfl⟩
                    · obtain ⟨h0, h1, -⟩ := hs
                      replace h0 : ρ (.tmp 65) = .slice (some ⟨gz, oz, none⟩) (n + 1) cz := h0
                      replace h1 : ρ (.tmp 67) = .int .i64 ((mm : Int) + 1) := h1
                      have hki : (mm : Int) + 1 < (n : Int) + 1 := by omega
                      have hkt : ((mm : Int) + 1).toNat = mm + 1 := by omega
                      have hk0 : (0 : Int) ≤ (mm : Int) + 1 := by omega
                      go_simp
                      exact ⟨Ext.refl _, rfl⟩
                    · obtain ⟨h0, -⟩ := hs
                      replace h0 : ρ (.tmp 68) = .pointer (some ⟨gz, oz + (mm + 1) * 2, none⟩) := h0
                      have hc0 : W.cell? ⟨gz, oz + (mm + 1) * 2, none⟩ = some (.int .i64 (vr)) := hF.cell (by assumption)
                      have hc1 : W.cell? ⟨gz, oz + (mm + 1) * 2 + 1, none⟩ = some (.int .i64 (vi)) := hF.cell (by assumption)
                      go_simp
                      exact ⟨Ext.refl _, rfl⟩
                    · obtain ⟨h0, -⟩ := hs
                      replace h0 : ρ (.tmp 3) = .pointer (some ⟨w.heap.size, 0, none⟩) := h0
                      go_simp
                      exact ⟨Ext.refl _, rfl⟩
                    · obtain ⟨h0, -⟩ := hs
                      replace h0 : ρ (.tmp 70) = .pointer (some ⟨w.heap.size, 1, none⟩) := h0
                      have hc0 : W.cell? ⟨w.heap.size, 1, none⟩ = some (.slice (some ⟨b, o, none⟩) n cap) := hF.cell (by assumption)
                      go_simp
                      exact ⟨Ext.refl _, rfl⟩
                    · obtain ⟨h0, -⟩ := hs
                      replace h0 : ρ (.tmp 13) = .int .i64 (mm) := h0
                      go_simp
                      exact ⟨Ext.refl _, rfl⟩
                    · obtain ⟨h0, h1, -⟩ := hs
                      replace h0 : ρ (.tmp 71) = .slice (some ⟨b, o, none⟩) n cap := h0
                      replace h1 : ρ (.tmp 72) = .int .i64 (mm) := h1
                      have hki : (mm : Int) < (n : Int) := by omega
                      go_simp
                      exact ⟨Ext.refl _, rfl⟩
                    · obtain ⟨h0, -⟩ := hs
                      replace h0 : ρ (.tmp 73) = .pointer (some ⟨b, o + mm * 3, none⟩) := h0
                      go_simp
                      exact ⟨Ext.refl _, rfl⟩
                    · obtain ⟨h0, -⟩ := hs
                      replace h0 : ρ (.tmp 74) = .pointer (some ⟨b, o + mm * 3, none⟩) := h0
                      have hc0 : W.cell? ⟨b, o + mm * 3, none⟩ = some (.int .i64 (sg)) := hF.cell (by assumption)
                      go_simp
                      exact ⟨Ext.refl _, rfl⟩
                    · obtain ⟨h0, h1, -⟩ := hs
                      replace h0 : ρ (.tmp 69) = .agg #[.int .i64 (vr), .int .i64 (vi)] := h0
                      replace h1 : ρ (.tmp 75) = .int .i64 (sg) := h1
                      go_simp
                      exact HS1.out W
                    · obtain ⟨h0, h1, -⟩ := hs
                      replace h0 : ρ (.tmp 64) = .agg #[.int .i64 (cr), .int .i64 (ci)] := h0
                      replace h1 : ρ (.tmp 76) = .agg #[.int .i64 (sg * vr), .int .i64 (sg * vi)] := h1
                      go_simp
                      exact HP1.out W
                  · intro fv W8 hF hs
                    obtain ⟨-, -, -, -, -, -, -, -, -, -, -, -, -, h77, -⟩ := hs
                    replace h77 : fv 77 = .agg #[.int .i64 (c2r), .int .i64 (c2i)] := h77
                    simp only [fin, List.filterMap]
                    go_simp
                    have B12' := Lib.hid (B12.out.ext hF)
                    have F8 := Lib.hid hF
                    have p1 : W8.cell? ⟨q12, 0, none⟩ = some (.int .i64 cr) := hF.cell y5
                    have p2 : W8.cell? ⟨q12, 1, none⟩ = some (.int .i64 ci) := hF.cell y6
                    have p3 : W8.frozen? ⟨q12, 0, none⟩ = false := B12'.out.free 0
                    have p4 : W8.frozen? ⟨q12, 1, none⟩ = false := B12'.out.free 1
                    clear hF y1 y3 y4 y5 y6 z0 z1 z2 z3
                    go_wp2
                    go_roundw
                    case rel => exact ⟨mm + 1, by omega, by omega, by go_num, ⟨c2r, c2i, (B12'.out.setSame 0 _).setSame 1 _, HNR.out, HNI.out⟩, Ext.set (Ext.set (HXW.out.trans F8.out) (by dsimp only; omega) _) (by dsimp only; omega) _⟩
                    case measure => simp [intOf]; omega
                · obtain rfl : n = mm := by omega
                  rw [HCE.out] at hcr hci
                  obtain ⟨s, hs⟩ : ∃ s, l[k]? = some s := ⟨_, List.getElem?_eq_getElem (by rw [HN.out]; exact hlt)⟩
                  obtain ⟨bb, hbb⟩ : ∃ bb, hot[k]? = some bb := ⟨_, List.getElem?_eq_getElem (by rw [HMM.out]; exact hlt)⟩
                  obtain ⟨⟨ar, ai⟩, hza⟩ : ∃ z, zs[k]? = some z := ⟨_, List.getElem?_eq_getElem (by rw [HM.out]; omega)⟩
                  obtain ⟨⟨br, bi⟩, hzb⟩ : ∃ z, zs[k + 1]? = some z := ⟨_, List.getElem?_eq_getElem (by rw [HM.out]; omega)⟩
                  have hcb := HCB2.out (n - k) k (by omega)
                  obtain ⟨⟨dr, di⟩, hd⟩ : ∃ z, z = curAt l zs.tail k := ⟨_, rfl⟩
                  rw [← hd] at hcr hci hcb
                  obtain rfl : cr = dr := by simpa using hcr
                  obtain rfl : ci = di := by simpa using hci
                  obtain ⟨x, hx'⟩ : ∃ x, x = react f bb s := ⟨_, rfl⟩
                  have hrk : rl[k]? = some x := by rw [HRL.out, hx']; exact reactL_at hbb hs
                  obtain ⟨⟨hx1, hx32⟩, _⟩ := HRB.out bb s (List.mem_of_getElem? hs)
                  rw [← hx'] at hx1 hx32
                  obtain ⟨⟨e1, e2⟩, he⟩ : ∃ z, z = befG ⟨br, bi⟩ x ⟨cr, ci⟩ := ⟨_, rfl⟩
                  have hvb := outG_bd (HALL.out _ (List.mem_of_getElem? hzb))
                  have hb1 : ((n - k : Nat) : Int) * 4000000000 ≤ 16000000000 := by omega
                  simp only [Bd] at hvb hcb
                  have m3 := mul_bd (n := x) (x := -ci) (N := 32) (B := 16000000000) (by omega) hx32 (by omega) (by omega)
                  have m4 := mul_bd (n := x) (x := cr) (N := 32) (B := 16000000000) (by omega) hx32 (by omega) (by omega)
                  have HT1 := Lib.hid (fun W => show Calls Try.prog 94 #[.agg #[.int .i64 cr, .int .i64 ci]] W (VPost W (Is (.agg #[.int .i64 (-ci), .int .i64 cr]))) from
                    (turned_any cr ci (by unfold Mid; omega) W).mono fun _ _ ⟨h1, h2⟩ => ⟨_, h1, h2, rfl⟩)
                  have HS2 := Lib.hid (fun W => show Calls Try.prog 93 #[.agg #[.int .i64 (-ci), .int .i64 cr], .int .i64 x] W (VPost W (Is (.agg #[.int .i64 (x * -ci), .int .i64 (x * cr)]))) from
                    (scaled_any (-ci) cr x (by unfold Mid; omega) (by unfold Mid; omega) W).mono fun _ _ ⟨h1, h2⟩ => ⟨_, h1, h2, rfl⟩)
                  have HP2 := Lib.hid (fun W => show Calls Try.prog 57 #[.agg #[.int .i64 br, .int .i64 bi], .agg #[.int .i64 (x * -ci), .int .i64 (x * cr)]] W (VPost W (Is (.agg #[.int .i64 e1, .int .i64 e2]))) from
                    (gadd_any br bi (x * -ci) (x * cr) (by unfold Mid; omega) (by unfold Mid; omega) (by unfold Mid; omega) (by unfold Mid; omega) W).mono fun _ _ ⟨h1, h2⟩ => ⟨_, h1, h2, by
                      show _ = _
                      simp only [befG, G.mk.injEq] at he
                      rw [he.1, he.2]⟩)
                  have HWA := Lib.hid (show zat zs k = ⟨ar, ai⟩ by simp [zat, hza])
                  have HWB := Lib.hid (show wantG f hot l zs k = ⟨e1, e2⟩ by rw [he, hx', wantG, ← hd]; simp [zat, hzb, List.getD, hbb, hs])
                  have HST := Lib.hid (show chkFrom f hot l zs (n - k) k = if zat zs k ≠ wantG f hot l zs k then ((k : Int), 19) else chkFrom f hot l zs (n - (k + 1)) (k + 1) by
                    rw [show n - k = n - (k + 1) + 1 by omega]; rfl)
                  obtain ⟨g1, o1, hC, _, hva⟩ := HZ.out.2 k _ hza
                  obtain ⟨rfl, rfl⟩ : gz = g1 ∧ oz = o1 := by simpa using hC
                  obtain ⟨g1, o1, hC', _, hvb'⟩ := HZ.out.2 (k + 1) _ hzb
                  obtain ⟨rfl, rfl⟩ : gz = g1 ∧ oz = o1 := by simpa using hC'
                  obtain ⟨gl', ol', hgl, _, hrc⟩ := HRR.out.2 k x hrk
                  obtain ⟨rfl, rfl⟩ : gl = gl' ∧ ol = ol' := by simpa using hgl
                  have w1 : wr.cell? ⟨gz, oz + k * 2, none⟩ = some (.int .i64 ar) := (E0.out.trans (X5.out.trans hx)).cell (by have := hva 0 _ rfl; simpa using this)
                  have w2 : wr.cell? ⟨gz, oz + k * 2 + 1, none⟩ = some (.int .i64 ai) := (E0.out.trans (X5.out.trans hx)).cell (by have := hva 1 _ rfl; simpa using this)
                  have w3 : wr.cell? ⟨gz, oz + (k + 1) * 2, none⟩ = some (.int .i64 br) := (E0.out.trans (X5.out.trans hx)).cell (by have := hvb' 0 _ rfl; simpa using this)
                  have w4 : wr.cell? ⟨gz, oz + (k + 1) * 2 + 1, none⟩ = some (.int .i64 bi) := (E0.out.trans (X5.out.trans hx)).cell (by have := hvb' 1 _ rfl; simpa using this)
                  have w5 : wr.cell? ⟨gl, ol + k, none⟩ = some (.int .i64 x) := hx.cell (by have := hrc 0 _ rfl; simpa using this)
                  have hkn : (k : Int) < (n : Int) := by omega
                  clear hb12 hx12 hb hcr hci hx hs hbb hza hzb hcb hd hx' hrk hx1 hx32 he hvb hb1 m3 m4 hC hC' hva hvb' hgl hrc
                  go_wp2
                  by_cases hre : ar = e1
                  · by_cases him : ai = e2
                    · subst hre him
                      refine wp_region_each [some 78, some 79, some 80, some 81, some 82, some 83, some 84, some 85, some 86, some 87, some 88, some 89, some 90, some 91, some 92, some 93, some 94, some 95] [[2], [11], [78, 79], [80], [2], [11], [83], [82, 84], [85], [12], [87], [10], [11], [89, 90], [91], [88, 92], [86, 93], [81, 94]]
                        [Is (.slice (some ⟨gz, oz, none⟩) (n + 1) cz), Is (.int .i64 (k)), Is (.pointer (some ⟨gz, oz + k * 2, none⟩)), Is (.agg #[.int .i64 (ar), .int .i64 (ai)]), Is (.slice (some ⟨gz, oz, none⟩) (n + 1) cz), Is (.int .i64 (k)), Is (.int .i64 ((k : Int) + 1)), Is (.pointer (some ⟨gz, oz + (k + 1) * 2, none⟩)), Is (.agg #[.int .i64 (br), .int .i64 (bi)]), Is (.agg #[.int .i64 (cr), .int .i64 (ci)]), Is (.agg #[.int .i64 (-ci), .int .i64 (cr)]), Is (.slice (some ⟨gl, ol, none⟩) n cl), Is (.int .i64 (k)), Is (.pointer (some ⟨gl, ol + k, none⟩)), Is (.int .i64 (x)), Is (.agg #[.int .i64 (x * -ci), .int .i64 (x * cr)]), Is (.agg #[.int .i64 (ar), .int .i64 (ai)]), Is (.bool (false))]
                        (by kernel_rfl) (by kernel_rfl) (by kernel_rfl) (by kernel_rfl) (by kernel_rfl) Ext (fun W => Ext wr W)
                        (fun W _ => Ext.refl W) (fun W W' h k => h.trans k) ?_ (Ext.drew _) ?_ ?_
                      · repeat (refine ⟨fun _ _ _ _ k h => (by first | exact h | exact (by first | exact LadV.ext h k | exact DrvV.ext h k | exact TupV.ext (fun _ _ _ h k => by first | exact Opt.ext (fun _ _ _ h k => by first | exact IntsAt.ext h k | exact GsV.ext h k) h k | exact IntsAt.ext h k) h k | exact Opt.ext (fun _ _ _ h k => by first | exact IntsAt.ext h k | exact GsV.ext h k) h k | exact IntsAt.ext h k)), ?_⟩)
                        exact trivial
                      · refine ⟨?_, ?_, ?_, ?_, ?_, ?_, ?_, ?_, ?_, ?_, ?_, ?_, ?_, ?_, ?_, ?_, ?_, ?_, trivial⟩
                        all_goals intro ρ W ⟨kc, kg, kf⟩ hF hs
                        · obtain ⟨h0, -⟩ := hs
                          replace h0 : ρ (.tmp 2) = .slice (some ⟨gz, oz, none⟩) (n + 1) cz := h0
                          go_simp
                          exact ⟨Ext.refl _, rfl⟩
                        · obtain ⟨h0, -⟩ := hs
                          replace h0 : ρ (.tmp 11) = .int .i64 (k) := h0
                          go_simp
                          exact ⟨Ext.refl _, rfl⟩
                        · obtain ⟨h0, h1, -⟩ := hs
                          replace h0 : ρ (.tmp 78) = .slice (some ⟨gz, oz, none⟩) (n + 1) cz := h0
                          replace h1 : ρ (.tmp 79) = .int .i64 (k) := h1
                          have hki : (k : Int) < (n : Int) + 1 := by omega
                          go_simp
                          exact ⟨Ext.refl _, rfl⟩
                        · obtain ⟨h0, -⟩ := hs
                          replace h0 : ρ (.tmp 80) = .pointer (some ⟨gz, oz + k * 2, none⟩) := h0
                          have hc0 : W.cell? ⟨gz, oz + k * 2, none⟩ = some (.int .i64 (ar)) := hF.cell (by assumption)
                          have hc1 : W.cell? ⟨gz, oz + k * 2 + 1, none⟩ = some (.int .i64 (ai)) := hF.cell (by assumption)
                          go_simp
                          exact ⟨Ext.refl _, rfl⟩
                        · obtain ⟨h0, -⟩ := hs
                          replace h0 : ρ (.tmp 2) = .slice (some ⟨gz, oz, none⟩) (n + 1) cz := h0
                          go_simp
                          exact ⟨Ext.refl _, rfl⟩
                        · obtain ⟨h0, -⟩ := hs
                          replace h0 : ρ (.tmp 11) = .int .i64 (k) := h0
                          go_simp
                          exact ⟨Ext.refl _, rfl⟩
                        · obtain ⟨h0, -⟩ := hs
                          replace h0 : ρ (.tmp 83) = .int .i64 (k) := h0
                          have hw : IntKind.i64.wrap ((k : Int) + 1) = (k : Int) + 1 := IntWalk.i64_in _ (by omega)
                          go_simp
                          exact ⟨Ext.refl _, rfl⟩
                        · obtain ⟨h0, h1, -⟩ := hs
                          replace h0 : ρ (.tmp 82) = .slice (some ⟨gz, oz, none⟩) (n + 1) cz := h0
                          replace h1 : ρ (.tmp 84) = .int .i64 ((k : Int) + 1) := h1
                          have hki : (k : Int) + 1 < (n : Int) + 1 := by omega
                          have hkt : ((k : Int) + 1).toNat = k + 1 := by omega
                          have hk0 : (0 : Int) ≤ (k : Int) + 1 := by omega
                          go_simp
                          exact ⟨Ext.refl _, rfl⟩
                        · obtain ⟨h0, -⟩ := hs
                          replace h0 : ρ (.tmp 85) = .pointer (some ⟨gz, oz + (k + 1) * 2, none⟩) := h0
                          have hc0 : W.cell? ⟨gz, oz + (k + 1) * 2, none⟩ = some (.int .i64 (br)) := hF.cell (by assumption)
                          have hc1 : W.cell? ⟨gz, oz + (k + 1) * 2 + 1, none⟩ = some (.int .i64 (bi)) := hF.cell (by assumption)
                          go_simp
                          exact ⟨Ext.refl _, rfl⟩
                        · obtain ⟨h0, -⟩ := hs
                          replace h0 : ρ (.tmp 12) = .pointer (some ⟨q12, 0, none⟩) := h0
                          have hc0 : W.cell? ⟨q12, 0, none⟩ = some (.int .i64 (cr)) := hF.cell (by assumption)
                          have hc1 : W.cell? ⟨q12, 1, none⟩ = some (.int .i64 (ci)) := hF.cell (by assumption)
                          go_simp
                          exact ⟨Ext.refl _, rfl⟩
                        · obtain ⟨h0, -⟩ := hs
                          replace h0 : ρ (.tmp 87) = .agg #[.int .i64 (cr), .int .i64 (ci)] := h0
                          go_simp
                          exact HT1.out W
                        · obtain ⟨h0, -⟩ := hs
                          replace h0 : ρ (.tmp 10) = .slice (some ⟨gl, ol, none⟩) n cl := h0
                          go_simp
                          exact ⟨Ext.refl _, rfl⟩
                        · obtain ⟨h0, -⟩ := hs
                          replace h0 : ρ (.tmp 11) = .int .i64 (k) := h0
                          go_simp
                          exact ⟨Ext.refl _, rfl⟩
                        · obtain ⟨h0, h1, -⟩ := hs
                          replace h0 : ρ (.tmp 89) = .slice (some ⟨gl, ol, none⟩) n cl := h0
                          replace h1 : ρ (.tmp 90) = .int .i64 (k) := h1
                          have hki : (k : Int) < (n : Int) := by omega
                          go_simp
                          exact ⟨Ext.refl _, rfl⟩
                        · obtain ⟨h0, -⟩ := hs
                          replace h0 : ρ (.tmp 91) = .pointer (some ⟨gl, ol + k, none⟩) := h0
                          have hc0 : W.cell? ⟨gl, ol + k, none⟩ = some (.int .i64 (x)) := hF.cell (by assumption)
                          go_simp
                          exact ⟨Ext.refl _, rfl⟩
                        · obtain ⟨h0, h1, -⟩ := hs
                          replace h0 : ρ (.tmp 88) = .agg #[.int .i64 (-ci), .int .i64 (cr)] := h0
                          replace h1 : ρ (.tmp 92) = .int .i64 (x) := h1
                          go_simp
                          exact HS2.out W
                        · obtain ⟨h0, h1, -⟩ := hs
                          replace h0 : ρ (.tmp 86) = .agg #[.int .i64 (br), .int .i64 (bi)] := h0
                          replace h1 : ρ (.tmp 93) = .agg #[.int .i64 (x * -ci), .int .i64 (x * cr)] := h1
                          go_simp
                          exact HP2.out W
                        · obtain ⟨h0, h1, -⟩ := hs
                          replace h0 : ρ (.tmp 81) = .agg #[.int .i64 (ar), .int .i64 (ai)] := h0
                          replace h1 : ρ (.tmp 94) = .agg #[.int .i64 (ar), .int .i64 (ai)] := h1
                          go_simp
                          first | exact ⟨Ext.refl _, rfl⟩ | exact Ext.refl _
                      · intro fv W10 hF hs
                        obtain ⟨-, -, -, -, -, -, -, -, -, -, -, -, -, -, -, -, -, h95, -⟩ := hs
                        replace h95 : fv 95 = .bool (false) := h95
                        simp only [fin, List.filterMap]
                        go_simp
                        have HF := Lib.hid hF
                        clear hF w1 w2 w3 w4 w5 y5 y6 z0 z1 z2 z3
                        go_wp2
                        go_roundw
                        case rel => exact ⟨k + 1, by omega, by go_num, by rw [HR0.out, HST.out, if_neg (by rw [HWA.out, HWB.out]; simp)], HXW.out.trans HF.out⟩
                        case measure => simp [intOf]; omega
                    · subst hre
                      have hxy' : (ai == e2) = false := by rw [beq_eq_false_iff_ne]; exact him
                      have HNE := Lib.hid him
                      clear him
                      refine wp_region_each [some 78, some 79, some 80, some 81, some 82, some 83, some 84, some 85, some 86, some 87, some 88, some 89, some 90, some 91, some 92, some 93, some 94, some 95] [[2], [11], [78, 79], [80], [2], [11], [83], [82, 84], [85], [12], [87], [10], [11], [89, 90], [91], [88, 92], [86, 93], [81, 94]]
                        [Is (.slice (some ⟨gz, oz, none⟩) (n + 1) cz), Is (.int .i64 (k)), Is (.pointer (some ⟨gz, oz + k * 2, none⟩)), Is (.agg #[.int .i64 (ar), .int .i64 (ai)]), Is (.slice (some ⟨gz, oz, none⟩) (n + 1) cz), Is (.int .i64 (k)), Is (.int .i64 ((k : Int) + 1)), Is (.pointer (some ⟨gz, oz + (k + 1) * 2, none⟩)), Is (.agg #[.int .i64 (br), .int .i64 (bi)]), Is (.agg #[.int .i64 (cr), .int .i64 (ci)]), Is (.agg #[.int .i64 (-ci), .int .i64 (cr)]), Is (.slice (some ⟨gl, ol, none⟩) n cl), Is (.int .i64 (k)), Is (.pointer (some ⟨gl, ol + k, none⟩)), Is (.int .i64 (x)), Is (.agg #[.int .i64 (x * -ci), .int .i64 (x * cr)]), Is (.agg #[.int .i64 (ar), .int .i64 (e2)]), Is (.bool (true))]
                        (by kernel_rfl) (by kernel_rfl) (by kernel_rfl) (by kernel_rfl) (by kernel_rfl) Ext (fun W => Ext wr W)
                        (fun W _ => Ext.refl W) (fun W W' h k => h.trans k) ?_ (Ext.drew _) ?_ ?_
                      · repeat (refine ⟨fun _ _ _ _ k h => (by first | exact h | exact (by first | exact LadV.ext h k | exact DrvV.ext h k | exact TupV.ext (fun _ _ _ h k => by first | exact Opt.ext (fun _ _ _ h k => by first | exact IntsAt.ext h k | exact GsV.ext h k) h k | exact IntsAt.ext h k) h k | exact Opt.ext (fun _ _ _ h k => by first | exact IntsAt.ext h k | exact GsV.ext h k) h k | exact IntsAt.ext h k)), ?_⟩)
                        exact trivial
                      · refine ⟨?_, ?_, ?_, ?_, ?_, ?_, ?_, ?_, ?_, ?_, ?_, ?_, ?_, ?_, ?_, ?_, ?_, ?_, trivial⟩
                        all_goals intro ρ W ⟨kc, kg, kf⟩ hF hs
                        · obtain ⟨h0, -⟩ := hs
                          replace h0 : ρ (.tmp 2) = .slice (some ⟨gz, oz, none⟩) (n + 1) cz := h0
                          go_simp
                          exact ⟨Ext.refl _, rfl⟩
                        · obtain ⟨h0, -⟩ := hs
                          replace h0 : ρ (.tmp 11) = .int .i64 (k) := h0
                          go_simp
                          exact ⟨Ext.refl _, rfl⟩
                        · obtain ⟨h0, h1, -⟩ := hs
                          replace h0 : ρ (.tmp 78) = .slice (some ⟨gz, oz, none⟩) (n + 1) cz := h0
                          replace h1 : ρ (.tmp 79) = .int .i64 (k) := h1
                          have hki : (k : Int) < (n : Int) + 1 := by omega
                          go_simp
                          exact ⟨Ext.refl _, rfl⟩
                        · obtain ⟨h0, -⟩ := hs
                          replace h0 : ρ (.tmp 80) = .pointer (some ⟨gz, oz + k * 2, none⟩) := h0
                          have hc0 : W.cell? ⟨gz, oz + k * 2, none⟩ = some (.int .i64 (ar)) := hF.cell (by assumption)
                          have hc1 : W.cell? ⟨gz, oz + k * 2 + 1, none⟩ = some (.int .i64 (ai)) := hF.cell (by assumption)
                          go_simp
                          exact ⟨Ext.refl _, rfl⟩
                        · obtain ⟨h0, -⟩ := hs
                          replace h0 : ρ (.tmp 2) = .slice (some ⟨gz, oz, none⟩) (n + 1) cz := h0
                          go_simp
                          exact ⟨Ext.refl _, rfl⟩
                        · obtain ⟨h0, -⟩ := hs
                          replace h0 : ρ (.tmp 11) = .int .i64 (k) := h0
                          go_simp
                          exact ⟨Ext.refl _, rfl⟩
                        · obtain ⟨h0, -⟩ := hs
                          replace h0 : ρ (.tmp 83) = .int .i64 (k) := h0
                          have hw : IntKind.i64.wrap ((k : Int) + 1) = (k : Int) + 1 := IntWalk.i64_in _ (by omega)
                          go_simp
                          exact ⟨Ext.refl _, rfl⟩
                        · obtain ⟨h0, h1, -⟩ := hs
                          replace h0 : ρ (.tmp 82) = .slice (some ⟨gz, oz, none⟩) (n + 1) cz := h0
                          replace h1 : ρ (.tmp 84) = .int .i64 ((k : Int) + 1) := h1
                          have hki : (k : Int) + 1 < (n : Int) + 1 := by omega
                          have hkt : ((k : Int) + 1).toNat = k + 1 := by omega
                          have hk0 : (0 : Int) ≤ (k : Int) + 1 := by omega
                          go_simp
                          exact ⟨Ext.refl _, rfl⟩
                        · obtain ⟨h0, -⟩ := hs
                          replace h0 : ρ (.tmp 85) = .pointer (some ⟨gz, oz + (k + 1) * 2, none⟩) := h0
                          have hc0 : W.cell? ⟨gz, oz + (k + 1) * 2, none⟩ = some (.int .i64 (br)) := hF.cell (by assumption)
                          have hc1 : W.cell? ⟨gz, oz + (k + 1) * 2 + 1, none⟩ = some (.int .i64 (bi)) := hF.cell (by assumption)
                          go_simp
                          exact ⟨Ext.refl _, rfl⟩
                        · obtain ⟨h0, -⟩ := hs
                          replace h0 : ρ (.tmp 12) = .pointer (some ⟨q12, 0, none⟩) := h0
                          have hc0 : W.cell? ⟨q12, 0, none⟩ = some (.int .i64 (cr)) := hF.cell (by assumption)
                          have hc1 : W.cell? ⟨q12, 1, none⟩ = some (.int .i64 (ci)) := hF.cell (by assumption)
                          go_simp
                          exact ⟨Ext.refl _, rfl⟩
                        · obtain ⟨h0, -⟩ := hs
                          replace h0 : ρ (.tmp 87) = .agg #[.int .i64 (cr), .int .i64 (ci)] := h0
                          go_simp
                          exact HT1.out W
                        · obtain ⟨h0, -⟩ := hs
                          replace h0 : ρ (.tmp 10) = .slice (some ⟨gl, ol, none⟩) n cl := h0
                          go_simp
                          exact ⟨Ext.refl _, rfl⟩
                        · obtain ⟨h0, -⟩ := hs
                          replace h0 : ρ (.tmp 11) = .int .i64 (k) := h0
                          go_simp
                          exact ⟨Ext.refl _, rfl⟩
                        · obtain ⟨h0, h1, -⟩ := hs
                          replace h0 : ρ (.tmp 89) = .slice (some ⟨gl, ol, none⟩) n cl := h0
                          replace h1 : ρ (.tmp 90) = .int .i64 (k) := h1
                          have hki : (k : Int) < (n : Int) := by omega
                          go_simp
                          exact ⟨Ext.refl _, rfl⟩
                        · obtain ⟨h0, -⟩ := hs
                          replace h0 : ρ (.tmp 91) = .pointer (some ⟨gl, ol + k, none⟩) := h0
                          have hc0 : W.cell? ⟨gl, ol + k, none⟩ = some (.int .i64 (x)) := hF.cell (by assumption)
                          go_simp
                          exact ⟨Ext.refl _, rfl⟩
                        · obtain ⟨h0, h1, -⟩ := hs
                          replace h0 : ρ (.tmp 88) = .agg #[.int .i64 (-ci), .int .i64 (cr)] := h0
                          replace h1 : ρ (.tmp 92) = .int .i64 (x) := h1
                          go_simp
                          exact HS2.out W
                        · obtain ⟨h0, h1, -⟩ := hs
                          replace h0 : ρ (.tmp 86) = .agg #[.int .i64 (br), .int .i64 (bi)] := h0
                          replace h1 : ρ (.tmp 93) = .agg #[.int .i64 (x * -ci), .int .i64 (x * cr)] := h1
                          go_simp
                          exact HP2.out W
                        · obtain ⟨h0, h1, -⟩ := hs
                          replace h0 : ρ (.tmp 81) = .agg #[.int .i64 (ar), .int .i64 (ai)] := h0
                          replace h1 : ρ (.tmp 94) = .agg #[.int .i64 (ar), .int .i64 (e2)] := h1
                          go_simp
                          first | exact ⟨Ext.refl _, rfl⟩ | exact Ext.refl _
                      · intro fv W10 hF hs
                        obtain ⟨-, -, -, -, -, -, -, -, -, -, -, -, -, -, -, -, -, h95, -⟩ := hs
                        replace h95 : fv 95 = .bool (true) := h95
                        simp only [fin, List.filterMap]
                        go_simp
                        have HF := Lib.hid hF
                        clear hF w1 w2 w3 w4 w5 y5 y6 z0 z1 z2 z3
                        go_wp2
                        go_ret2
                        exact ⟨ret_pair (by rw [HR1.out, HR0.out, HST.out, if_pos (by rw [HWA.out, HWB.out]; simp [HNE.out])]) (by rw [HR1.out, HR0.out, HST.out, if_pos (by rw [HWA.out, HWB.out]; simp [HNE.out])]), E0.out.trans (X5.out.trans (HXW.out.trans HF.out))⟩
                  · have hxy' : (ar == e1) = false := by rw [beq_eq_false_iff_ne]; exact hre
                    have HNE := Lib.hid hre
                    clear hre
                    refine wp_region_each [some 78, some 79, some 80, some 81, some 82, some 83, some 84, some 85, some 86, some 87, some 88, some 89, some 90, some 91, some 92, some 93, some 94, some 95] [[2], [11], [78, 79], [80], [2], [11], [83], [82, 84], [85], [12], [87], [10], [11], [89, 90], [91], [88, 92], [86, 93], [81, 94]]
                      [Is (.slice (some ⟨gz, oz, none⟩) (n + 1) cz), Is (.int .i64 (k)), Is (.pointer (some ⟨gz, oz + k * 2, none⟩)), Is (.agg #[.int .i64 (ar), .int .i64 (ai)]), Is (.slice (some ⟨gz, oz, none⟩) (n + 1) cz), Is (.int .i64 (k)), Is (.int .i64 ((k : Int) + 1)), Is (.pointer (some ⟨gz, oz + (k + 1) * 2, none⟩)), Is (.agg #[.int .i64 (br), .int .i64 (bi)]), Is (.agg #[.int .i64 (cr), .int .i64 (ci)]), Is (.agg #[.int .i64 (-ci), .int .i64 (cr)]), Is (.slice (some ⟨gl, ol, none⟩) n cl), Is (.int .i64 (k)), Is (.pointer (some ⟨gl, ol + k, none⟩)), Is (.int .i64 (x)), Is (.agg #[.int .i64 (x * -ci), .int .i64 (x * cr)]), Is (.agg #[.int .i64 (e1), .int .i64 (e2)]), Is (.bool (true))]
                      (by kernel_rfl) (by kernel_rfl) (by kernel_rfl) (by kernel_rfl) (by kernel_rfl) Ext (fun W => Ext wr W)
                      (fun W _ => Ext.refl W) (fun W W' h k => h.trans k) ?_ (Ext.drew _) ?_ ?_
                    · repeat (refine ⟨fun _ _ _ _ k h => (by first | exact h | exact (by first | exact LadV.ext h k | exact DrvV.ext h k | exact TupV.ext (fun _ _ _ h k => by first | exact Opt.ext (fun _ _ _ h k => by first | exact IntsAt.ext h k | exact GsV.ext h k) h k | exact IntsAt.ext h k) h k | exact Opt.ext (fun _ _ _ h k => by first | exact IntsAt.ext h k | exact GsV.ext h k) h k | exact IntsAt.ext h k)), ?_⟩)
                      exact trivial
                    · refine ⟨?_, ?_, ?_, ?_, ?_, ?_, ?_, ?_, ?_, ?_, ?_, ?_, ?_, ?_, ?_, ?_, ?_, ?_, trivial⟩
                      all_goals intro ρ W ⟨kc, kg, kf⟩ hF hs
                      · obtain ⟨h0, -⟩ := hs
                        replace h0 : ρ (.tmp 2) = .slice (some ⟨gz, oz, none⟩) (n + 1) cz := h0
                        go_simp
                        exact ⟨Ext.refl _, rfl⟩
                      · obtain ⟨h0, -⟩ := hs
                        replace h0 : ρ (.tmp 11) = .int .i64 (k) := h0
                        go_simp
                        exact ⟨Ext.refl _, rfl⟩
                      · obtain ⟨h0, h1, -⟩ := hs
                        replace h0 : ρ (.tmp 78) = .slice (some ⟨gz, oz, none⟩) (n + 1) cz := h0
                        replace h1 : ρ (.tmp 79) = .int .i64 (k) := h1
                        have hki : (k : Int) < (n : Int) + 1 := by omega
                        go_simp
                        exact ⟨Ext.refl _, rfl⟩
                      · obtain ⟨h0, -⟩ := hs
                        replace h0 : ρ (.tmp 80) = .pointer (some ⟨gz, oz + k * 2, none⟩) := h0
                        have hc0 : W.cell? ⟨gz, oz + k * 2, none⟩ = some (.int .i64 (ar)) := hF.cell (by assumption)
                        have hc1 : W.cell? ⟨gz, oz + k * 2 + 1, none⟩ = some (.int .i64 (ai)) := hF.cell (by assumption)
                        go_simp
                        exact ⟨Ext.refl _, rfl⟩
                      · obtain ⟨h0, -⟩ := hs
                        replace h0 : ρ (.tmp 2) = .slice (some ⟨gz, oz, none⟩) (n + 1) cz := h0
                        go_simp
                        exact ⟨Ext.refl _, rfl⟩
                      · obtain ⟨h0, -⟩ := hs
                        replace h0 : ρ (.tmp 11) = .int .i64 (k) := h0
                        go_simp
                        exact ⟨Ext.refl _, rfl⟩
                      · obtain ⟨h0, -⟩ := hs
                        replace h0 : ρ (.tmp 83) = .int .i64 (k) := h0
                        have hw : IntKind.i64.wrap ((k : Int) + 1) = (k : Int) + 1 := IntWalk.i64_in _ (by omega)
                        go_simp
                        exact ⟨Ext.refl _, rfl⟩
                      · obtain ⟨h0, h1, -⟩ := hs
                        replace h0 : ρ (.tmp 82) = .slice (some ⟨gz, oz, none⟩) (n + 1) cz := h0
                        replace h1 : ρ (.tmp 84) = .int .i64 ((k : Int) + 1) := h1
                        have hki : (k : Int) + 1 < (n : Int) + 1 := by omega
                        have hkt : ((k : Int) + 1).toNat = k + 1 := by omega
                        have hk0 : (0 : Int) ≤ (k : Int) + 1 := by omega
                        go_simp
                        exact ⟨Ext.refl _, rfl⟩
                      · obtain ⟨h0, -⟩ := hs
                        replace h0 : ρ (.tmp 85) = .pointer (some ⟨gz, oz + (k + 1) * 2, none⟩) := h0
                        have hc0 : W.cell? ⟨gz, oz + (k + 1) * 2, none⟩ = some (.int .i64 (br)) := hF.cell (by assumption)
                        have hc1 : W.cell? ⟨gz, oz + (k + 1) * 2 + 1, none⟩ = some (.int .i64 (bi)) := hF.cell (by assumption)
                        go_simp
                        exact ⟨Ext.refl _, rfl⟩
                      · obtain ⟨h0, -⟩ := hs
                        replace h0 : ρ (.tmp 12) = .pointer (some ⟨q12, 0, none⟩) := h0
                        have hc0 : W.cell? ⟨q12, 0, none⟩ = some (.int .i64 (cr)) := hF.cell (by assumption)
                        have hc1 : W.cell? ⟨q12, 1, none⟩ = some (.int .i64 (ci)) := hF.cell (by assumption)
                        go_simp
                        exact ⟨Ext.refl _, rfl⟩
                      · obtain ⟨h0, -⟩ := hs
                        replace h0 : ρ (.tmp 87) = .agg #[.int .i64 (cr), .int .i64 (ci)] := h0
                        go_simp
                        exact HT1.out W
                      · obtain ⟨h0, -⟩ := hs
                        replace h0 : ρ (.tmp 10) = .slice (some ⟨gl, ol, none⟩) n cl := h0
                        go_simp
                        exact ⟨Ext.refl _, rfl⟩
                      · obtain ⟨h0, -⟩ := hs
                        replace h0 : ρ (.tmp 11) = .int .i64 (k) := h0
                        go_simp
                        exact ⟨Ext.refl _, rfl⟩
                      · obtain ⟨h0, h1, -⟩ := hs
                        replace h0 : ρ (.tmp 89) = .slice (some ⟨gl, ol, none⟩) n cl := h0
                        replace h1 : ρ (.tmp 90) = .int .i64 (k) := h1
                        have hki : (k : Int) < (n : Int) := by omega
                        go_simp
                        exact ⟨Ext.refl _, rfl⟩
                      · obtain ⟨h0, -⟩ := hs
                        replace h0 : ρ (.tmp 91) = .pointer (some ⟨gl, ol + k, none⟩) := h0
                        have hc0 : W.cell? ⟨gl, ol + k, none⟩ = some (.int .i64 (x)) := hF.cell (by assumption)
                        go_simp
                        exact ⟨Ext.refl _, rfl⟩
                      · obtain ⟨h0, h1, -⟩ := hs
                        replace h0 : ρ (.tmp 88) = .agg #[.int .i64 (-ci), .int .i64 (cr)] := h0
                        replace h1 : ρ (.tmp 92) = .int .i64 (x) := h1
                        go_simp
                        exact HS2.out W
                      · obtain ⟨h0, h1, -⟩ := hs
                        replace h0 : ρ (.tmp 86) = .agg #[.int .i64 (br), .int .i64 (bi)] := h0
                        replace h1 : ρ (.tmp 93) = .agg #[.int .i64 (x * -ci), .int .i64 (x * cr)] := h1
                        go_simp
                        exact HP2.out W
                      · obtain ⟨h0, h1, -⟩ := hs
                        replace h0 : ρ (.tmp 81) = .agg #[.int .i64 (ar), .int .i64 (ai)] := h0
                        replace h1 : ρ (.tmp 94) = .agg #[.int .i64 (e1), .int .i64 (e2)] := h1
                        go_simp
                        first | exact ⟨Ext.refl _, rfl⟩ | exact Ext.refl _
                    · intro fv W10 hF hs
                      obtain ⟨-, -, -, -, -, -, -, -, -, -, -, -, -, -, -, -, -, h95, -⟩ := hs
                      replace h95 : fv 95 = .bool (true) := h95
                      simp only [fin, List.filterMap]
                      go_simp
                      have HF := Lib.hid hF
                      clear hF w1 w2 w3 w4 w5 y5 y6 z0 z1 z2 z3
                      go_wp2
                      go_ret2
                      exact ⟨ret_pair (by rw [HR1.out, HR0.out, HST.out, if_pos (by rw [HWA.out, HWB.out]; simp [HNE.out])]) (by rw [HR1.out, HR0.out, HST.out, if_pos (by rw [HWA.out, HWB.out]; simp [HNE.out])]), E0.out.trans (X5.out.trans (HXW.out.trans HF.out))⟩
            · have HEND := Lib.hid (show chkFrom f hot l zs (n - k) k = (0, 0) by rw [show n - k = 0 by omega]; rfl)
              go_wp2
              go_ret2
              exact ⟨ret_pair (by rw [HR1.out, HR0.out, HEND.out]) (by rw [HR1.out, HR0.out, HEND.out]), E0.out.trans (X5.out.trans HX6.out)⟩
        · have HVE2 := Lib.hid (show ve = 3 by rw [HV1.out, HNA.out, if_neg (by simp), HZN.out, if_pos (by simp; exact fun h => fun h' => hzz ⟨h, h'⟩)])
          by_cases h1 : zr = 1
          · subst h1
            have hxy' : (zi == 0) = false := by rw [beq_eq_false_iff_ne]; exact fun h => hzz ⟨rfl, h⟩
            clear hzz
            go_wp2
            go_ret2
            exact ⟨ret_pair (by rw [HA.out, if_pos (by rw [HVE2.out]; decide)]) (by rw [HA.out, if_pos (by rw [HVE2.out]; decide), HVE2.out]), E0.out.trans HX.out⟩
          · have hxy' : (zr == 1) = false := by rw [beq_eq_false_iff_ne]; exact h1
            clear hzz
            go_wp2
            go_ret2
            exact ⟨ret_pair (by rw [HA.out, if_pos (by rw [HVE2.out]; decide)]) (by rw [HA.out, if_pos (by rw [HVE2.out]; decide), HVE2.out]), E0.out.trans HX.out⟩
  · have HVE2 := Lib.hid (show volE n zs = 10 by rw [HVE.out, if_pos (by rw [hM]; exact hml)])
    have hb : ((M : Int) != ((n : Int) + 1)) = true := by simp; omega
    clear hM hml HVE hS hH hZ hn hm hok hf e0
    generalize volE n zs = ve at *
    go_enter Try.func37, Try.ntmps37
    go_wp2
    go_ret2
    exact ⟨ret_pair (by rw [HA.out, if_pos (by rw [HVE2.out]; decide)]) (by rw [HA.out, if_pos (by rw [HVE2.out]; decide), HVE2.out]), E0.out⟩

end Go.Proofs.Ytpaoeghdfeekoaa
