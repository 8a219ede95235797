/- Faults of knots: Heats. -/
import Derived.Test.YtkmekbafjnlfkaaGreatS4
import Derived.Test.YtkmekbafjnlfkaaGreatR5

namespace Go.Proofs.YtkmekbafjnlfkaaGreat
open Go.RowKit Go.Shelf Go.Mem Go.RegInv
attribute [local go_sem] RelUpon_value RelUpon_skip RelUpon_enter BigFrame.eval_const BigFrame.eval_global BigFrame.eval_func

/-- The first index from k on, of f, at which E is not 0, and what it is there; 0 and 0 if there is none. -/
def firstAt (E : Nat → Int) : Nat → Nat → Int × Int
  | 0, _ => (0, 0)
  | f + 1, k => if E k ≠ 0 then ((k : Int), E k) else firstAt E f (k + 1)
theorem firstAt_step (E : Nat → Int) {n k : Nat} (h : k < n) : firstAt E (n - k) k = if E k ≠ 0 then ((k : Int), E k) else firstAt E (n - (k + 1)) (k + 1) := by
  obtain ⟨d, hd⟩ : ∃ d, n - k = d + 1 := ⟨n - k - 1, by omega⟩
  rw [hd, firstAt, show n - (k + 1) = d by omega]
theorem knV_lit {x : Kn} {u : Value} {w : World} {kk : Int} (h : KnV x u w) (hk : x.k = kk) : ∃ A n c B m d, u = .agg #[.int .i64 kk, .slice A n c, .slice B m d] := by
  obtain ⟨A, n, ca, va, -, -, -, rfl, -, hv⟩ := h
  subst hk
  rcases hv with ⟨rfl, -⟩ | ⟨b, g, rfl, -, -⟩
  · exact ⟨_, _, _, none, 0, 0, rfl⟩
  · exact ⟨_, _, _, _, _, _, rfl⟩
def knotE {α : Type} (kn : α → Kn) (fol : Kn → Kn → Bool) (xs : List α) (k : Nat) : Int :=
  match xs[k]? with
  | some x => firstE [ownE (kn x), errIf (match k, xs[k - 1]? with | _ + 1, some y => !fol (kn y) (kn x) | _, _ => false) 9]
  | none => 0

set_option maxRecDepth 100000 in
set_option maxHeartbeats 4000000 in
theorem knotsFault73_any {A : Option Addr} {n ca : Nat} {xs : List HK} {w : World} (hn : xs.length = n) (hA : RowsAt 4 HK.enc w A xs) :
    Calls Tryz.prog 73 #[.slice A n ca, .func (.func 74) #[] #[], .func (.func 75) #[] #[]] w fun e w' => e = .returned (.agg #[.int .i64 (firstAt (knotE HK.kn risingK xs) n 0).1, .int .i64 (firstAt (knotE HK.kn risingK xs) n 0).2]) ∧ Ext w w' := by
  have hnb : n ≤ 1152921504606846976 := by have := hA.1; omega
  obtain ⟨W0, hW0⟩ : ∃ W0, W0 = w.alloc (.cells #[.int .i64 0, .int .i64 0] 131) := ⟨_, rfl⟩
  have k0 : Blk W0 w.heap.size 131 #[.int .i64 0, .int .i64 0] := by rw [hW0]; exact Blk.new _ _ _
  have e0 : Ext w W0 := by rw [hW0]; exact Ext.alloc _ _
  have HA := Lib.hid hA
  have HN := Lib.hid hn
  have K0 := Lib.hid k0
  have E0 := Lib.hid e0
  clear hA hn k0 e0
  go_enter Tryz.func73, Tryz.ntmps73
  go_wp2
  rw [← hW0]
  clear hW0
  go_loopw [13] (fun i wr => ∃ k : Nat, k ≤ n ∧ i = .int .i64 k ∧ firstAt (knotE HK.kn risingK xs) n 0 = firstAt (knotE HK.kn risingK xs) (n - k) k ∧ Ext w wr ∧ Blk wr w.heap.size 131 #[.int .i64 0, .int .i64 0]) (fun i _ => n - (intOf i).toNat)
  case atStart => exact ⟨0, Nat.zero_le _, rfl, rfl, E0.out, K0.out⟩
  case round =>
    obtain ⟨k, hk, rfl, hr, hx, hbk⟩ := hrel
    have HR := Lib.hid hr
    have HX := Lib.hid hx
    have HBK := Lib.hid hbk
    clear hr hx hbk
    by_cases hlt : k < n
    · obtain ⟨x, hg⟩ : ∃ x, xs[k]? = some x := ⟨_, List.getElem?_eq_getElem (by rw [HN.out]; exact hlt)⟩
      have HD := Lib.hid (firstAt_step (knotE HK.kn risingK xs) hlt)
      have HG := Lib.hid hg
      obtain ⟨b, o, hAe, hb, hc⟩ := HA.out.2 k x hg
      subst hAe
      have c0 : wr.cell? ⟨b, o + k * 4, none⟩ = some (.int .i64 x.k) := HX.out.cell (hc 0 _ rfl)
      have c1 : wr.cell? ⟨b, o + k * 4 + 1, none⟩ = some (.int .i64 x.lo) := HX.out.cell (hc 1 _ rfl)
      have c2 : wr.cell? ⟨b, o + k * 4 + 2, none⟩ = some (.int .i64 x.hi) := HX.out.cell (hc 2 _ rfl)
      have c3 : wr.cell? ⟨b, o + k * 4 + 3, none⟩ = some (.int .i64 x.g) := HX.out.cell (hc 3 _ rfl)
      clear hg hc hb
      have hki : (k : Int) < (n : Int) := by omega
      obtain ⟨Wa, hWa⟩ : ∃ Wa, Wa = wr.alloc (.cells #[.int .i64 x.k, .int .i64 x.lo, .int .i64 x.hi, .int .i64 x.g] 68) := ⟨_, rfl⟩
      have EA := Lib.hid (show Ext wr Wa by rw [hWa]; exact Ext.alloc _ _)
      by_cases hk0 : k = 0
      · have hgt : decide (0 < k) = false := by simp [hk0]
        have HE := Lib.hid (show knotE HK.kn risingK xs k = firstE [ownE x.kn, errIf (false) 9] by rw [knotE, HG.out, hk0])
        clear hk0
        go_wp2_with (go_at_call 74; rw [← hWa]; clear hWa; refine (heatKnot_any _ _ _ _ _).mono ?_; rintro e W1 ⟨v, rfl, hx1, hv⟩; obtain ⟨A1, n1, e1, B1, m1, d1, rfl⟩ := knV_lit (kk := x.k) hv rfl; have HV := Lib.hid hv; have X1 := Lib.hid hx1; clear hv hx1)
        obtain ⟨W2, hW2⟩ : ∃ W2, W2 = W1.alloc (.cells #[.int .i64 x.k, .slice A1 n1 e1, .slice B1 m1 d1] 190) := ⟨_, rfl⟩
        have k2 : Blk W2 W1.heap.size 190 #[.int .i64 x.k, .slice A1 n1 e1, .slice B1 m1 d1] := by rw [hW2]; exact Blk.new _ _ _
        have E12 := Lib.hid (show Ext W1 W2 by rw [hW2]; exact Ext.alloc _ _)
        have E02 := Lib.hid (EA.out.trans (X1.out.trans E12.out))
        have z0 : W2.cell? ⟨W1.heap.size, 0, none⟩ = some (.int .i64 (x.k)) := k2.cell 0
        have z1 : W2.cell? ⟨W1.heap.size, 1, none⟩ = some (.slice A1 n1 e1) := k2.cell 1
        have z2 : W2.cell? ⟨W1.heap.size, 2, none⟩ = some (.slice B1 m1 d1) := k2.cell 2
        clear k2
        have q1 : (IntKind.i64.wrap 0) = 0 := rfl
        rw [← hW2]
        clear hW2 q1
        refine wp_region_eachN [(25, true), (25, true), (25, true), (25, true), (25, true), (25, true), (25, true), (25, true), (25, true), (25, true), (25, true)] [some 21, some 22, some 23, some 24, some 25, some 26, some 27, some 28, some 29, some 30, some 31, some 32, some 33, some 34, some 35, some 36, some 37, some 38, some 39, some 40, some 10] [[9], [21], [7], [23], [24], [2, 25], [1, 25], [0, 25], [7, 25], [29, 25], [28, 30, 25], [31, 25], [27, 32, 25], [9, 25], [26, 33, 34, 25], [35, 25], [25, 36], [37], [22, 38], [39], [40]]
          [Is (.agg #[.int .i64 (x.k), .slice A1 n1 e1, .slice B1 m1 d1]), Is (.int .i64 (ownE x.kn)), Is (.int .i64 ((k : Int))), Is (.bool (false)), Is (.bool (false)), Is (undef), Is (undef), Is (undef), Is (undef), Is (undef), Is (undef), Is (undef), Is (undef), Is (undef), Is (undef), Is (undef), Is (.bool (false)), Is (.int .i64 (errIf (false) 9)), Ints [ownE x.kn, errIf (false) 9], Is (.int .i64 (firstE [ownE x.kn, errIf (false) 9])), Is (.int .i64 (firstE [ownE x.kn, errIf (false) 9]))]
          (by kernel_rfl) (by kernel_rfl) (by kernel_rfl) (by kernel_rfl) (by kernel_rfl) Ext (fun W => Ext W2 W)
          (fun W _ => Ext.refl W) (fun W W' h k => h.trans k) ?_ (by intro p hp; simp at hp; first | (subst hp; exact ⟨_, rfl, fun _ _ h => h⟩) | (rcases hp with rfl | rfl <;> exact ⟨_, rfl, fun _ _ h => h⟩) | (rcases hp with rfl | rfl | rfl <;> exact ⟨_, rfl, fun _ _ h => h⟩)) (Ext.drew _) ?_ ?_
        · repeat (refine ⟨fun _ _ _ _ k h => (by first | exact h | exact (by first | exact IntsAt.ext h k | exact KnV.ext h k | exact NumsV.ext h k)), ?_⟩)
          exact trivial
        · refine ⟨?_, ?_, ?_, ?_, ?_, ?_, ?_, ?_, ?_, ?_, ?_, ?_, ?_, ?_, ?_, ?_, ?_, ?_, ?_, ?_, ?_, trivial⟩
          · intro ρ W ⟨kc, kg, kf⟩ hF hs
            obtain ⟨h0, -⟩ := hs
            replace h0 : ρ (.tmp 9) = .pointer (some ⟨W1.heap.size, 0, none⟩) := h0
            have hc0 : W.cell? ⟨W1.heap.size, 0, none⟩ = some (.int .i64 (x.k)) := hF.cell (by assumption)
            have hc1 : W.cell? ⟨W1.heap.size, 1, none⟩ = some (.slice A1 n1 e1) := hF.cell (by assumption)
            have hc2 : W.cell? ⟨W1.heap.size, 2, none⟩ = some (.slice B1 m1 d1) := hF.cell (by assumption)
            go_simp
            exact ⟨Ext.refl _, rfl⟩
          · intro ρ W ⟨kc, kg, kf⟩ hF hs
            obtain ⟨h0, -⟩ := hs
            replace h0 : ρ (.tmp 21) = .agg #[.int .i64 (x.k), .slice A1 n1 e1, .slice B1 m1 d1] := h0
            go_simp
            refine (ownError_any (HV.out.ext (E12.out.trans hF))).mono ?_; rintro e w' ⟨rfl, hx⟩; exact ⟨_, rfl, hx, rfl⟩
          · intro ρ W ⟨kc, kg, kf⟩ hF hs
            obtain ⟨h0, -⟩ := hs
            replace h0 : ρ (.tmp 7) = .int .i64 ((k : Int)) := h0
            go_simp
            exact ⟨Ext.refl _, rfl⟩
          · intro ρ W ⟨kc, kg, kf⟩ hF hs
            obtain ⟨h0, -⟩ := hs
            replace h0 : ρ (.tmp 23) = .int .i64 ((k : Int)) := h0
            go_simp
            exact ⟨Ext.refl _, rfl⟩
          · intro ρ W ⟨kc, kg, kf⟩ hF hs
            obtain ⟨h0, -⟩ := hs
            replace h0 : ρ (.tmp 24) = .bool (false) := h0
            go_simp
            exact ⟨Ext.refl _, rfl⟩
          · exact fun _ => rfl
          · exact fun _ => rfl
          · exact fun _ => rfl
          · exact fun _ => rfl
          · exact fun _ => rfl
          · exact fun _ => rfl
          · exact fun _ => rfl
          · exact fun _ => rfl
          · exact fun _ => rfl
          · exact fun _ => rfl
          · exact fun _ => rfl
          · intro ρ W ⟨kc, kg, kf⟩ hF hs
            obtain ⟨h0, h1, -⟩ := hs
            replace h0 : ρ (.tmp 25) = .bool (false) := h0
            replace h1 : ρ (.tmp 36) = undef := h1
            go_simp
            exact ⟨Ext.refl _, rfl⟩
          · intro ρ W ⟨kc, kg, kf⟩ hF hs
            obtain ⟨h0, -⟩ := hs
            replace h0 : ρ (.tmp 37) = .bool (false) := h0
            go_simp
            refine (errorIf_any _ _ _).mono ?_; rintro e w' ⟨rfl, rfl⟩; exact ⟨_, rfl, Ext.refl _, rfl⟩
          · intro ρ W ⟨kc, kg, kf⟩ hF hs
            obtain ⟨h0, h1, -⟩ := hs
            replace h0 : ρ (.tmp 22) = .int .i64 (ownE x.kn) := h0
            replace h1 : ρ (.tmp 38) = .int .i64 (errIf (false) 9) := h1
            go_simp
            exact ⟨Ext.alloc _ _, ints_new _ [ownE x.kn, errIf (false) 9] _ (by simp)⟩
          · intro ρ W ⟨kc, kg, kf⟩ hF hs
            obtain ⟨h0, -⟩ := hs
            replace h0 : (Ints [ownE x.kn, errIf (false) 9]) (ρ (.tmp 39)) W := h0
            go_simp
            refine (firstOf_any _ _ _ h0).mono ?_; rintro e w' ⟨rfl, rfl⟩; exact ⟨_, rfl, Ext.refl _, rfl⟩
          · intro ρ W ⟨kc, kg, kf⟩ hF hs
            obtain ⟨h0, -⟩ := hs
            replace h0 : ρ (.tmp 40) = .int .i64 (firstE [ownE x.kn, errIf (false) 9]) := h0
            go_simp
            exact ⟨Ext.refl _, rfl⟩
        · intro fv W3 hF hs
          obtain ⟨-, -, -, -, -, -, -, -, -, -, -, -, -, -, -, -, -, -, -, -, h10, -⟩ := hs
          replace h10 : fv 10 = .int .i64 (firstE [ownE x.kn, errIf (false) 9]) := h10
          simp only [fin, List.filterMap]
          go_simp
          have HK3 := Lib.hid (HBK.out.ext (E02.out.trans hF))
          have X3 := Lib.hid (HX.out.trans (E02.out.trans hF))
          have g0 := HK3.out.cell 0
          have g1 := HK3.out.cell 1
          have f0 := HK3.out.free 0
          have f1 := HK3.out.free 1
          simp only [List.getElem?_toArray, List.getElem?_cons_zero, List.getElem?_cons_succ] at g0 g1
          clear hF h10
          generalize firstE [ownE x.kn, errIf (false) 9] = z at HE
          by_cases hz : z = 0
          · have hz' : (z != 0) = false := by simp [hz]
            have HZ := Lib.hid hz
            clear hz g0 g1 f0 f1
            go_wp2
            go_roundw
            case rel => exact ⟨k + 1, by omega, by go_num, by rw [HR.out, HD.out, if_neg (by rw [HE.out, HZ.out]; simp)], X3.out, HK3.out⟩
            case measure => simp [intOf]; omega
          · have hz' : (z != 0) = true := by simp [hz]
            have HZ := Lib.hid hz
            have HA' := Lib.hid (show firstAt (knotE HK.kn risingK xs) n 0 = ((k : Int), z) by rw [HR.out, HD.out, if_pos (by rw [HE.out]; exact HZ.out), HE.out])
            clear hz
            go_wp2
            rw [HA'.out]
            exact bodyPost_ret (v := .agg #[.int .i64 (k : Int), .int .i64 z]) (by simp [results, Tryz.f73, go_sem, g0, g1]) rfl
              ⟨rfl, Ext.set (Ext.set X3.out (by simp) _) (by simp) _⟩

      · obtain ⟨j, hj⟩ : ∃ j, k = j + 1 := ⟨k - 1, by omega⟩
        obtain ⟨y, hgy⟩ : ∃ y, xs[j]? = some y := ⟨_, List.getElem?_eq_getElem (by rw [HN.out]; omega)⟩
        obtain ⟨b', o', hAe', hb', hcy⟩ := HA.out.2 j y hgy
        obtain ⟨rfl, rfl⟩ : b = b' ∧ o = o' := by simpa using hAe'
        have hgt : decide (0 < k) = true := decide_eq_true (by omega)
        have HJW := Lib.hid (show IntKind.i64.wrap ((k : Int) - 1) = (j : Int) by rw [wrap_id _ (by omega) (by omega)]; omega)
        have HJN := Lib.hid (show (j : Int) < (n : Int) by omega)
        have HE := Lib.hid (show knotE HK.kn risingK xs k = firstE [ownE x.kn, errIf (!risingK y.kn x.kn) 9] by subst hj; rw [knotE, HG.out, Nat.add_sub_cancel, hgy])
        clear hk0 hj hgy hAe' hb'
        go_wp2_with (go_at_call 74; rw [← hWa]; clear hWa; refine (heatKnot_any _ _ _ _ _).mono ?_; rintro e W1 ⟨v, rfl, hx1, hv⟩; obtain ⟨A1, n1, e1, B1, m1, d1, rfl⟩ := knV_lit (kk := x.k) hv rfl; have HV := Lib.hid hv; have X1 := Lib.hid hx1; clear hv hx1)
        obtain ⟨W2, hW2⟩ : ∃ W2, W2 = W1.alloc (.cells #[.int .i64 x.k, .slice A1 n1 e1, .slice B1 m1 d1] 190) := ⟨_, rfl⟩
        have k2 : Blk W2 W1.heap.size 190 #[.int .i64 x.k, .slice A1 n1 e1, .slice B1 m1 d1] := by rw [hW2]; exact Blk.new _ _ _
        have E12 := Lib.hid (show Ext W1 W2 by rw [hW2]; exact Ext.alloc _ _)
        have E02 := Lib.hid (EA.out.trans (X1.out.trans E12.out))
        have z0 : W2.cell? ⟨W1.heap.size, 0, none⟩ = some (.int .i64 (x.k)) := k2.cell 0
        have z1 : W2.cell? ⟨W1.heap.size, 1, none⟩ = some (.slice A1 n1 e1) := k2.cell 1
        have z2 : W2.cell? ⟨W1.heap.size, 2, none⟩ = some (.slice B1 m1 d1) := k2.cell 2
        have yd0 : W2.cell? ⟨b, o + j * 4, none⟩ = some (.int .i64 y.k) := (HX.out.trans E02.out).cell (hcy 0 _ rfl)
        have yd1 : W2.cell? ⟨b, o + j * 4 + 1, none⟩ = some (.int .i64 y.lo) := (HX.out.trans E02.out).cell (hcy 1 _ rfl)
        have yd2 : W2.cell? ⟨b, o + j * 4 + 2, none⟩ = some (.int .i64 y.hi) := (HX.out.trans E02.out).cell (hcy 2 _ rfl)
        have yd3 : W2.cell? ⟨b, o + j * 4 + 3, none⟩ = some (.int .i64 y.g) := (HX.out.trans E02.out).cell (hcy 3 _ rfl)
        clear k2 hcy
        rw [← hW2]
        clear hW2
        refine wp_region_eachG [(25, true), (25, true), (25, true), (25, true), (25, true), (25, true), (25, true), (25, true), (25, true), (25, true), (25, true)] [some 21, some 22, some 23, some 24, some 25, some 26, some 27, some 28, some 29, some 30, some 31, some 32, some 33, some 34, some 35, some 36, some 37, some 38, some 39, some 40, some 10] [[9], [21], [7], [23], [24], [2, 25], [1, 25], [0, 25], [7, 25], [29, 25], [28, 30, 25], [31, 25], [27, 32, 25], [9, 25], [26, 33, 34, 25], [35, 25], [25, 36], [37], [22, 38], [39], [40]]
          [Is (.agg #[.int .i64 (x.k), .slice A1 n1 e1, .slice B1 m1 d1]), Is (.int .i64 (ownE x.kn)), Is (.int .i64 ((k : Int))), Is (.bool (true)), Is (.bool (true)), Is (.func (.func 75) #[] #[]), Is (.func (.func 74) #[] #[]), Is (.slice (some ⟨b, o, none⟩) n ca), Is (.int .i64 ((k : Int))), Is (.int .i64 ((j : Int))), Is (.pointer (some ⟨b, o + j * 4, none⟩)), Is (.agg #[.int .i64 (y.k), .int .i64 (y.lo), .int .i64 (y.hi), .int .i64 (y.g)]), KnV y.kn, Is (.agg #[.int .i64 (x.k), .slice A1 n1 e1, .slice B1 m1 d1]), Is (.bool (risingK y.kn x.kn)), Is (.bool (!risingK y.kn x.kn)), Is (.bool (!risingK y.kn x.kn)), Is (.int .i64 (errIf (!risingK y.kn x.kn) 9)), Ints [ownE x.kn, errIf (!risingK y.kn x.kn) 9], Is (.int .i64 (firstE [ownE x.kn, errIf (!risingK y.kn x.kn) 9])), Is (.int .i64 (firstE [ownE x.kn, errIf (!risingK y.kn x.kn) 9]))]
          (by kernel_rfl) (by kernel_rfl) (by kernel_rfl) (by kernel_rfl) (by kernel_rfl) Ext (fun W => Ext W2 W)
          (fun W _ => Ext.refl W) (fun W W' h k => h.trans k) ?_ (by intro p hp; simp at hp; first | (subst hp; exact ⟨_, rfl, fun _ _ h => h⟩) | (rcases hp with rfl | rfl <;> exact ⟨_, rfl, fun _ _ h => h⟩) | (rcases hp with rfl | rfl | rfl <;> exact ⟨_, rfl, fun _ _ h => h⟩)) (Ext.drew _) ?_ ?_
        · repeat (refine ⟨fun _ _ _ _ k h => (by first | exact h | exact (by first | exact IntsAt.ext h k | exact KnV.ext h k | exact NumsV.ext h k)), ?_⟩)
          exact trivial
        · refine ⟨?_, ?_, ?_, ?_, ?_, ?_, ?_, ?_, ?_, ?_, ?_, ?_, ?_, ?_, ?_, ?_, ?_, ?_, ?_, ?_, ?_, trivial⟩
          all_goals intro ρ W ⟨kc, kg, kf⟩ hF hs
          · obtain ⟨h0, -⟩ := hs
            replace h0 : ρ (.tmp 9) = .pointer (some ⟨W1.heap.size, 0, none⟩) := h0
            have hc0 : W.cell? ⟨W1.heap.size, 0, none⟩ = some (.int .i64 (x.k)) := hF.cell (by assumption)
            have hc1 : W.cell? ⟨W1.heap.size, 1, none⟩ = some (.slice A1 n1 e1) := hF.cell (by assumption)
            have hc2 : W.cell? ⟨W1.heap.size, 2, none⟩ = some (.slice B1 m1 d1) := hF.cell (by assumption)
            go_simp
            exact ⟨Ext.refl _, rfl⟩
          · obtain ⟨h0, -⟩ := hs
            replace h0 : ρ (.tmp 21) = .agg #[.int .i64 (x.k), .slice A1 n1 e1, .slice B1 m1 d1] := h0
            go_simp
            refine (ownError_any (HV.out.ext (E12.out.trans hF))).mono ?_; rintro e w' ⟨rfl, hx⟩; exact ⟨_, rfl, hx, rfl⟩
          · obtain ⟨h0, -⟩ := hs
            replace h0 : ρ (.tmp 7) = .int .i64 ((k : Int)) := h0
            go_simp
            exact ⟨Ext.refl _, rfl⟩
          · obtain ⟨h0, -⟩ := hs
            replace h0 : ρ (.tmp 23) = .int .i64 ((k : Int)) := h0
            go_simp
            exact ⟨Ext.refl _, rfl⟩
          · obtain ⟨h0, -⟩ := hs
            replace h0 : ρ (.tmp 24) = .bool (true) := h0
            go_simp
            exact ⟨Ext.refl _, rfl⟩
          · obtain ⟨h0, h1, -⟩ := hs
            replace h0 : ρ (.tmp 2) = .func (.func 75) #[] #[] := h0
            replace h1 : ρ (.tmp 25) = .bool (true) := h1
            go_simp
            exact ⟨Ext.refl _, rfl⟩
          · obtain ⟨h0, h1, -⟩ := hs
            replace h0 : ρ (.tmp 1) = .func (.func 74) #[] #[] := h0
            replace h1 : ρ (.tmp 25) = .bool (true) := h1
            go_simp
            exact ⟨Ext.refl _, rfl⟩
          · obtain ⟨h0, h1, -⟩ := hs
            replace h0 : ρ (.tmp 0) = .slice (some ⟨b, o, none⟩) n ca := h0
            replace h1 : ρ (.tmp 25) = .bool (true) := h1
            go_simp
            exact ⟨Ext.refl _, rfl⟩
          · obtain ⟨h0, h1, -⟩ := hs
            replace h0 : ρ (.tmp 7) = .int .i64 ((k : Int)) := h0
            replace h1 : ρ (.tmp 25) = .bool (true) := h1
            go_simp
            exact ⟨Ext.refl _, rfl⟩
          · obtain ⟨h0, h1, -⟩ := hs
            replace h0 : ρ (.tmp 29) = .int .i64 ((k : Int)) := h0
            replace h1 : ρ (.tmp 25) = .bool (true) := h1
            have hw : IntKind.i64.wrap ((k : Int) - 1) = (j : Int) := HJW.out
            go_simp
            exact ⟨Ext.refl _, rfl⟩
          · obtain ⟨h0, h1, h2, -⟩ := hs
            replace h0 : ρ (.tmp 28) = .slice (some ⟨b, o, none⟩) n ca := h0
            replace h1 : ρ (.tmp 30) = .int .i64 ((j : Int)) := h1
            replace h2 : ρ (.tmp 25) = .bool (true) := h2
            have hj1 : (j : Int) < (n : Int) := HJN.out
            go_simp
            exact ⟨Ext.refl _, rfl⟩
          · obtain ⟨h0, h1, -⟩ := hs
            replace h0 : ρ (.tmp 31) = .pointer (some ⟨b, o + j * 4, none⟩) := h0
            replace h1 : ρ (.tmp 25) = .bool (true) := h1
            have hc0 : W.cell? ⟨b, o + j * 4, none⟩ = some (.int .i64 (y.k)) := hF.cell (by assumption)
            have hc1 : W.cell? ⟨b, o + j * 4 + 1, none⟩ = some (.int .i64 (y.lo)) := hF.cell (by assumption)
            have hc2 : W.cell? ⟨b, o + j * 4 + 2, none⟩ = some (.int .i64 (y.hi)) := hF.cell (by assumption)
            have hc3 : W.cell? ⟨b, o + j * 4 + 3, none⟩ = some (.int .i64 (y.g)) := hF.cell (by assumption)
            go_simp
            exact ⟨Ext.refl _, rfl⟩
          · obtain ⟨h0, h1, h2, -⟩ := hs
            replace h0 : ρ (.tmp 27) = .func (.func 74) #[] #[] := h0
            replace h1 : ρ (.tmp 32) = .agg #[.int .i64 (y.k), .int .i64 (y.lo), .int .i64 (y.hi), .int .i64 (y.g)] := h1
            replace h2 : ρ (.tmp 25) = .bool (true) := h2
            go_simp
            exact heatKnot_any _ _ _ _ _
          · obtain ⟨h0, h1, -⟩ := hs
            replace h0 : ρ (.tmp 9) = .pointer (some ⟨W1.heap.size, 0, none⟩) := h0
            replace h1 : ρ (.tmp 25) = .bool (true) := h1
            have hc0 : W.cell? ⟨W1.heap.size, 0, none⟩ = some (.int .i64 (x.k)) := hF.cell (by assumption)
            have hc1 : W.cell? ⟨W1.heap.size, 1, none⟩ = some (.slice A1 n1 e1) := hF.cell (by assumption)
            have hc2 : W.cell? ⟨W1.heap.size, 2, none⟩ = some (.slice B1 m1 d1) := hF.cell (by assumption)
            go_simp
            exact ⟨Ext.refl _, rfl⟩
          · obtain ⟨h0, h1, h2, h3, -⟩ := hs
            replace h0 : ρ (.tmp 26) = .func (.func 75) #[] #[] := h0
            replace h1 : (KnV y.kn) (ρ (.tmp 33)) W := h1
            replace h2 : ρ (.tmp 34) = .agg #[.int .i64 (x.k), .slice A1 n1 e1, .slice B1 m1 d1] := h2
            replace h3 : ρ (.tmp 25) = .bool (true) := h3
            go_simp
            refine (rising_any h1 (HV.out.ext (E12.out.trans hF)) (by exact Nat.le_refl 1) (by exact Nat.le_refl 1)).mono ?_; rintro e w' ⟨rfl, hx⟩; exact ⟨_, rfl, hx, rfl⟩
          · obtain ⟨h0, h1, -⟩ := hs
            replace h0 : ρ (.tmp 35) = .bool (risingK y.kn x.kn) := h0
            replace h1 : ρ (.tmp 25) = .bool (true) := h1
            go_simp
            exact ⟨Ext.refl _, rfl⟩
          · obtain ⟨h0, h1, -⟩ := hs
            replace h0 : ρ (.tmp 25) = .bool (true) := h0
            replace h1 : ρ (.tmp 36) = .bool (!risingK y.kn x.kn) := h1
            go_simp
            exact ⟨Ext.refl _, rfl⟩
          · obtain ⟨h0, -⟩ := hs
            replace h0 : ρ (.tmp 37) = .bool (!risingK y.kn x.kn) := h0
            go_simp
            refine (errorIf_any _ _ _).mono ?_; rintro e w' ⟨rfl, rfl⟩; exact ⟨_, rfl, Ext.refl _, rfl⟩
          · obtain ⟨h0, h1, -⟩ := hs
            replace h0 : ρ (.tmp 22) = .int .i64 (ownE x.kn) := h0
            replace h1 : ρ (.tmp 38) = .int .i64 (errIf (!risingK y.kn x.kn) 9) := h1
            go_simp
            exact ⟨Ext.alloc _ _, ints_new _ [ownE x.kn, errIf (!risingK y.kn x.kn) 9] _ (by simp)⟩
          · obtain ⟨h0, -⟩ := hs
            replace h0 : (Ints [ownE x.kn, errIf (!risingK y.kn x.kn) 9]) (ρ (.tmp 39)) W := h0
            go_simp
            refine (firstOf_any _ _ _ h0).mono ?_; rintro e w' ⟨rfl, rfl⟩; exact ⟨_, rfl, Ext.refl _, rfl⟩
          · obtain ⟨h0, -⟩ := hs
            replace h0 : ρ (.tmp 40) = .int .i64 (firstE [ownE x.kn, errIf (!risingK y.kn x.kn) 9]) := h0
            go_simp
            exact ⟨Ext.refl _, rfl⟩
        · intro fv W3 hF hs
          obtain ⟨-, -, -, -, -, -, -, -, -, -, -, -, -, -, -, -, -, -, -, -, h10, -⟩ := hs
          replace h10 : fv 10 = .int .i64 (firstE [ownE x.kn, errIf (!risingK y.kn x.kn) 9]) := h10
          simp only [fin, List.filterMap]
          go_simp
          have HK3 := Lib.hid (HBK.out.ext (E02.out.trans hF))
          have X3 := Lib.hid (HX.out.trans (E02.out.trans hF))
          have g0 := HK3.out.cell 0
          have g1 := HK3.out.cell 1
          have f0 := HK3.out.free 0
          have f1 := HK3.out.free 1
          simp only [List.getElem?_toArray, List.getElem?_cons_zero, List.getElem?_cons_succ] at g0 g1
          clear hF h10
          generalize firstE [ownE x.kn, errIf (!risingK y.kn x.kn) 9] = z at HE
          by_cases hz : z = 0
          · have hz' : (z != 0) = false := by simp [hz]
            have HZ := Lib.hid hz
            clear hz g0 g1 f0 f1
            go_wp2
            go_roundw
            case rel => exact ⟨k + 1, by omega, by go_num, by rw [HR.out, HD.out, if_neg (by rw [HE.out, HZ.out]; simp)], X3.out, HK3.out⟩
            case measure => simp [intOf]; omega
          · have hz' : (z != 0) = true := by simp [hz]
            have HZ := Lib.hid hz
            have HA' := Lib.hid (show firstAt (knotE HK.kn risingK xs) n 0 = ((k : Int), z) by rw [HR.out, HD.out, if_pos (by rw [HE.out]; exact HZ.out), HE.out])
            clear hz
            go_wp2
            rw [HA'.out]
            exact bodyPost_ret (v := .agg #[.int .i64 (k : Int), .int .i64 z]) (by simp [results, Tryz.f73, go_sem, g0, g1]) rfl
              ⟨rfl, Ext.set (Ext.set X3.out (by simp) _) (by simp) _⟩

    · obtain rfl : k = n := by omega
      have HA' := Lib.hid (show firstAt (knotE HK.kn risingK xs) k 0 = ((0 : Int), (0 : Int)) by rw [HR.out, Nat.sub_self]; rfl)
      have g0 := HBK.out.cell 0
      have g1 := HBK.out.cell 1
      have f0 := HBK.out.free 0
      have f1 := HBK.out.free 1
      simp only [List.getElem?_toArray, List.getElem?_cons_zero, List.getElem?_cons_succ] at g0 g1
      go_wp2
      rw [HA'.out]
      exact bodyPost_ret (v := .agg #[.int .i64 0, .int .i64 0]) (by simp [results, Tryz.f73, go_sem, g0, g1]) rfl
        ⟨rfl, Ext.set (Ext.set HX.out (by simp) _) (by simp) _⟩

end Go.Proofs.YtkmekbafjnlfkaaGreat
