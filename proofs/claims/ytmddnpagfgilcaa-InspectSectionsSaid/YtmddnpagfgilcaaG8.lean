/- Traverses: the reference of their errors. -/
import Derived.Test.YtmddnpagfgilcaaG2
import Derived.Test.YtmddnpagfgilcaaR6
import Derived.Lib.MinMax

namespace Go.Proofs.Ytmddnpagfgilcaa
open Go.RowKit Go.Shelf Go.Mem Go.RegInv
attribute [local go_sem] RelUpon_value RelUpon_skip RelUpon_enter BigFrame.eval_const BigFrame.eval_global BigFrame.eval_func


theorem i64w (n : Int) : IntKind.i64.wrap n = wrap64 n := by rw [IntKind.wrap_i64]; unfold wrap64; rfl
theorem indE_eq (b : Bool) (x : In) : indE b x = if withinB x.d 1 10000 = true then (if withinB x.g 1 10000 = true then (if hardB x.lo = true then (if hardB x.hi = true then (if x.hi < x.lo then 9 else if b = true then 17 else 0) else 2) else 2) else 2) else 2 := by
  unfold indE
  rw [show rangeE 1 10000 [x.d, x.g] = if withinB x.d 1 10000 = true then (if withinB x.g 1 10000 = true then 0 else 2) else 2 by
    unfold rangeE errIf withinB outB
    by_cases h1 : 1 ≤ x.d <;> by_cases h2 : x.d ≤ 10000 <;> by_cases h3 : 1 ≤ x.g <;> by_cases h4 : x.g ≤ 10000 <;> simp [h1, h2, h3, h4] <;> omega,
   show rangeE 0 2000 [x.lo, x.hi] = if hardB x.lo = true then (if hardB x.hi = true then 0 else 2) else 2 by
    unfold rangeE errIf hardB withinB outB
    by_cases h1 : 0 ≤ x.lo <;> by_cases h2 : x.lo ≤ 2000 <;> by_cases h3 : 0 ≤ x.hi <;> by_cases h4 : x.hi ≤ 2000 <;> simp [h1, h2, h3, h4] <;> omega]
  cases withinB x.d 1 10000 <;> cases withinB x.g 1 10000 <;> cases hardB x.lo <;> cases hardB x.hi <;> cases b <;> by_cases h : x.hi < x.lo <;> simp [firstE, errIf, h]
theorem checkT_stop {xs : List In} {n k : Nat} {x : In} {v : Int} (hk : k < n) (hx : xs[k]? = some x) (hp : checkT xs = firstAt (indAt xs) (n - k) k) (hv : indE (distK xs k) x = v) (h : v ≠ 0) : checkT xs = ((k : Int), v) := by
  have e : indAt xs k = v := by unfold indAt; rw [show xs.getD k default = x by simp [hx]]; exact hv
  rw [hp, firstAt_step _ hk, e, if_pos h]
theorem checkT_next {xs : List In} {n k : Nat} {x : In} (hk : k < n) (hx : xs[k]? = some x) (hp : checkT xs = firstAt (indAt xs) (n - k) k) (hv : indE (distK xs k) x = 0) : checkT xs = firstAt (indAt xs) (n - (k + 1)) (k + 1) := by
  have e : indAt xs k = 0 := by unfold indAt; rw [show xs.getD k default = x by simp [hx]]; exact hv
  rw [hp, firstAt_step _ hk, e, if_neg (by simp)]
theorem countT_lo {n : Nat} (h : n < 2) : countE n 2 20 = 10 := by
  unfold countE; simp [firstE, errIf]; omega
theorem countT_hi {n : Nat} (h : 20 < n) : countE n 2 20 = 8 := by
  unfold countE; simp [firstE, errIf]; omega
theorem countT_in {n : Nat} (h : 2 ≤ n) (h2 : n ≤ 20) : countE n 2 20 = 0 := by
  unfold countE; simp [firstE, errIf]; omega

set_option maxRecDepth 100000 in
set_option maxHeartbeats 4000000 in
theorem refTraverse_any {A : Option Addr} {n ca : Nat} {xs : List In} {w : World} (hn : xs.length = n) (hn2 : n ≤ 1000) (hA : RowsAt 4 In.enc w A xs) :
    Calls Try.prog 19 #[.agg #[.slice A n ca]] w fun e w' => e = .returned (.tuple #[.int .i64 (checkT xs).1, .int .i64 (checkT xs).2]) ∧ Ext w w' := by
  obtain ⟨W0, hW0⟩ : ∃ W0, W0 = w.alloc (.cells #[.slice A n ca] 24) := ⟨_, rfl⟩
  have K0 := Lib.hid (show Blk W0 w.heap.size 24 #[.slice A n ca] by rw [hW0]; exact Blk.new _ _ _)
  have E0 := Lib.hid (show Ext w W0 by rw [hW0]; exact Ext.alloc _ _)
  have y0 : W0.cell? ⟨w.heap.size, 0, none⟩ = some (.slice A n ca) := K0.out.cell 0
  rcases Nat.lt_or_ge n 2 with hlo | hlo
  · have HC := Lib.hid (show checkT xs = (0, 10) by unfold checkT; rw [hn, countT_lo hlo]; rfl)
    have hlo2 : (n : Int) < 2 := by omega
    clear hA
    go_enter Try.func19, Try.ntmps19
    go_wp2
    rw [← hW0]
    clear hW0
    go_wp2
    go_ret2
    exact ⟨by rw [HC.out]; rfl, E0.out⟩
  have hlo2 : ¬ (n : Int) < 2 := by omega
  rcases Nat.lt_or_ge 20 n with hhi | hhi
  · have HC := Lib.hid (show checkT xs = (0, 8) by unfold checkT; rw [hn, countT_hi hhi]; rfl)
    have hhi2 : (20 : Int) < n := by omega
    clear hA
    go_enter Try.func19, Try.ntmps19
    go_wp2
    rw [← hW0]
    clear hW0
    go_wp2
    go_ret2
    exact ⟨by rw [HC.out]; rfl, E0.out⟩
  have hhi2 : ¬ (20 : Int) < n := by omega
  have HC0 := Lib.hid (show checkT xs = firstAt (indAt xs) n 0 by unfold checkT; rw [hn, countT_in hlo hhi]; rfl)
  have HA := Lib.hid hA
  have HN := Lib.hid hn
  clear hA hn
  go_enter Try.func19, Try.ntmps19
  go_wp2
  rw [← hW0]
  clear hW0
  go_wp2
  clear y0
  go_loopw [4] (fun i wr => ∃ k : Nat, k ≤ n ∧ i = .int .i64 k ∧ Ext W0 wr ∧ checkT xs = firstAt (indAt xs) (n - k) k) (fun i _ => n - (intOf i).toNat)
  case atStart => exact ⟨0, Nat.zero_le _, rfl, Ext.refl _, HC0.out⟩
  case round =>
    obtain ⟨k, hk, rfl, hx, hcx⟩ := hrel
    have X := Lib.hid hx
    have HCX := Lib.hid hcx
    clear hx hcx
    have y0 : wr.cell? ⟨w.heap.size, 0, none⟩ = some (.slice A n ca) := (K0.out.ext X.out).cell 0
    by_cases hlt : k < n
    · obtain ⟨x, hxk⟩ : ∃ x, xs[k]? = some x := ⟨_, List.getElem?_eq_getElem (by have := HN.out; omega)⟩
      obtain ⟨b, o, rfl, hb, hc⟩ := row_at (HA.out.ext (E0.out.trans X.out)) hxk
      have p0 : wr.cell? ⟨b, o + k * 4, none⟩ = some (.int .i64 x.d) := hc 0 _ rfl
      have p1 : wr.cell? ⟨b, o + k * 4 + 1, none⟩ = some (.int .i64 x.g) := hc 1 _ rfl
      have p2 : wr.cell? ⟨b, o + k * 4 + 2, none⟩ = some (.int .i64 x.lo) := hc 2 _ rfl
      have p3 : wr.cell? ⟨b, o + k * 4 + 3, none⟩ = some (.int .i64 x.hi) := hc 3 _ rfl
      have HX := Lib.hid hxk
      clear hb hc hxk
      have hlt2 : (k : Int) < (n : Int) := by omega
      have hbk : ((k : Int)).toNat = k := by omega
      have HKE := Lib.hid (indE_eq (distK xs k) x)
      have H1 := Lib.hid (fun W => within_any x.d 1 10000 W)
      have H2 := Lib.hid (fun W => within_any x.g 1 10000 W)
      have H3 := Lib.hid (fun W => isHard_any x.lo W)
      have H4 := Lib.hid (fun W => isHard_any x.hi W)
      generalize withinB x.d 1 10000 = b1 at *
      generalize withinB x.g 1 10000 = b2 at *
      generalize hardB x.lo = b3 at *
      generalize hardB x.hi = b4 at *
      cases b1 with
      | false =>
        have HC := Lib.hid (checkT_stop (v := 2) hlt HX.out HCX.out (by rw [HKE.out]; rfl) (by decide))
        clear HKE
        go_wp2_with (first
          | (go_at_call 20; (with_reducible refine (H1.out _).mono ?_); rintro e w' ⟨rfl, rfl⟩)
          | (go_at_call 20; (with_reducible refine (H2.out _).mono ?_); rintro e w' ⟨rfl, rfl⟩)
          | (go_at_call 87; (with_reducible refine (H3.out _).mono ?_); rintro e w' ⟨rfl, rfl⟩)
          | (go_at_call 87; (with_reducible refine (H4.out _).mono ?_); rintro e w' ⟨rfl, rfl⟩))
        go_ret2
        exact ⟨by rw [HC.out]; rfl, E0.out.trans (X.out.trans (Ext.alloc wr (.cells #[.int .i64 x.d, .int .i64 x.g, .int .i64 x.lo, .int .i64 x.hi] 43)))⟩
      | true =>
        cases b2 with
        | false =>
          have HC := Lib.hid (checkT_stop (v := 2) hlt HX.out HCX.out (by rw [HKE.out]; rfl) (by decide))
          clear HKE
          go_wp2_with (first
            | (go_at_call 20; (with_reducible refine (H1.out _).mono ?_); rintro e w' ⟨rfl, rfl⟩)
            | (go_at_call 20; (with_reducible refine (H2.out _).mono ?_); rintro e w' ⟨rfl, rfl⟩)
            | (go_at_call 87; (with_reducible refine (H3.out _).mono ?_); rintro e w' ⟨rfl, rfl⟩)
            | (go_at_call 87; (with_reducible refine (H4.out _).mono ?_); rintro e w' ⟨rfl, rfl⟩))
          go_ret2
          exact ⟨by rw [HC.out]; rfl, E0.out.trans (X.out.trans (Ext.alloc wr (.cells #[.int .i64 x.d, .int .i64 x.g, .int .i64 x.lo, .int .i64 x.hi] 43)))⟩
        | true =>
          cases b3 with
          | false =>
            have HC := Lib.hid (checkT_stop (v := 2) hlt HX.out HCX.out (by rw [HKE.out]; rfl) (by decide))
            clear HKE
            go_wp2_with (first
              | (go_at_call 20; (with_reducible refine (H1.out _).mono ?_); rintro e w' ⟨rfl, rfl⟩)
              | (go_at_call 20; (with_reducible refine (H2.out _).mono ?_); rintro e w' ⟨rfl, rfl⟩)
              | (go_at_call 87; (with_reducible refine (H3.out _).mono ?_); rintro e w' ⟨rfl, rfl⟩)
              | (go_at_call 87; (with_reducible refine (H4.out _).mono ?_); rintro e w' ⟨rfl, rfl⟩))
            go_ret2
            exact ⟨by rw [HC.out]; rfl, E0.out.trans (X.out.trans (Ext.alloc wr (.cells #[.int .i64 x.d, .int .i64 x.g, .int .i64 x.lo, .int .i64 x.hi] 43)))⟩
          | true =>
            cases b4 with
            | false =>
              have HC := Lib.hid (checkT_stop (v := 2) hlt HX.out HCX.out (by rw [HKE.out]; rfl) (by decide))
              clear HKE
              go_wp2_with (first
                | (go_at_call 20; (with_reducible refine (H1.out _).mono ?_); rintro e w' ⟨rfl, rfl⟩)
                | (go_at_call 20; (with_reducible refine (H2.out _).mono ?_); rintro e w' ⟨rfl, rfl⟩)
                | (go_at_call 87; (with_reducible refine (H3.out _).mono ?_); rintro e w' ⟨rfl, rfl⟩)
                | (go_at_call 87; (with_reducible refine (H4.out _).mono ?_); rintro e w' ⟨rfl, rfl⟩))
              go_ret2
              exact ⟨by rw [HC.out]; rfl, E0.out.trans (X.out.trans (Ext.alloc wr (.cells #[.int .i64 x.d, .int .i64 x.g, .int .i64 x.lo, .int .i64 x.hi] 43)))⟩
            | true =>
              have HK := Lib.hid (show indE (distK xs k) x = if x.hi < x.lo then 9 else if distK xs k = true then 17 else 0 by rw [HKE.out]; rfl)
              clear HKE
              by_cases hA : x.hi < x.lo
              · have HC := Lib.hid (checkT_stop (v := 9) hlt HX.out HCX.out (by rw [HK.out, if_pos hA]) (by decide))
                clear HK
                go_wp2_with (first
                  | (go_at_call 20; (with_reducible refine (H1.out _).mono ?_); rintro e w' ⟨rfl, rfl⟩)
                  | (go_at_call 20; (with_reducible refine (H2.out _).mono ?_); rintro e w' ⟨rfl, rfl⟩)
                  | (go_at_call 87; (with_reducible refine (H3.out _).mono ?_); rintro e w' ⟨rfl, rfl⟩)
                  | (go_at_call 87; (with_reducible refine (H4.out _).mono ?_); rintro e w' ⟨rfl, rfl⟩))
                go_ret2
                exact ⟨by rw [HC.out]; rfl, E0.out.trans (X.out.trans (Ext.alloc wr (.cells #[.int .i64 x.d, .int .i64 x.g, .int .i64 x.lo, .int .i64 x.hi] 43)))⟩
              · have HK := Lib.hid (show indE (distK xs k) x = if distK xs k = true then 17 else 0 by rw [HK.out, if_neg hA])
                rcases Nat.eq_zero_or_pos k with hk0 | hk0
                · have HB := Lib.hid (show distK xs k = decide (wrap64 (2 * x.d) < wrap64 (5 * x.g)) by
                    have := HX.out
                    rw [hk0] at this ⊢
                    unfold distK dist0
                    rw [if_pos rfl, show xs.getD 0 default = x by simp [this]])
                  have HK0 := Lib.hid hk0
                  have hk1 : ¬ (0 : Int) < (k : Int) := by omega
                  have hk2 : ((k : Int) == 0) = true := by simp [hk0]
                  clear hk0
                  by_cases hD : wrap64 (2 * x.d) < wrap64 (5 * x.g)
                  · have HC := Lib.hid (checkT_stop (v := 17) hlt HX.out HCX.out (by rw [HK.out, HB.out, if_pos (decide_eq_true hD)]) (by decide))
                    clear HK HB
                    go_wp2_with (first
                      | (go_at_call 20; (with_reducible refine (H1.out _).mono ?_); rintro e w' ⟨rfl, rfl⟩)
                      | (go_at_call 20; (with_reducible refine (H2.out _).mono ?_); rintro e w' ⟨rfl, rfl⟩)
                      | (go_at_call 87; (with_reducible refine (H3.out _).mono ?_); rintro e w' ⟨rfl, rfl⟩)
                      | (go_at_call 87; (with_reducible refine (H4.out _).mono ?_); rintro e w' ⟨rfl, rfl⟩))
                    go_ret2
                    exact ⟨by rw [HC.out]; rfl, E0.out.trans (X.out.trans (Ext.alloc wr (.cells #[.int .i64 x.d, .int .i64 x.g, .int .i64 x.lo, .int .i64 x.hi] 43)))⟩
                  · have HC := Lib.hid (checkT_next hlt HX.out HCX.out (by rw [HK.out, HB.out, if_neg (by simpa using hD)]))
                    clear HK HB
                    go_wp2_with (first
                      | (go_at_call 20; (with_reducible refine (H1.out _).mono ?_); rintro e w' ⟨rfl, rfl⟩)
                      | (go_at_call 20; (with_reducible refine (H2.out _).mono ?_); rintro e w' ⟨rfl, rfl⟩)
                      | (go_at_call 87; (with_reducible refine (H3.out _).mono ?_); rintro e w' ⟨rfl, rfl⟩)
                      | (go_at_call 87; (with_reducible refine (H4.out _).mono ?_); rintro e w' ⟨rfl, rfl⟩))
                    obtain ⟨W5, hW5⟩ : ∃ W5, W5 = wr.alloc (.cells #[.int .i64 x.d, .int .i64 x.g, .int .i64 x.lo, .int .i64 x.hi] 43) := ⟨_, rfl⟩
                    rw [← hW5]
                    have Q := Lib.hid (show Blk W5 wr.heap.size 43 #[.int .i64 x.d, .int .i64 x.g, .int .i64 x.lo, .int .i64 x.hi] by rw [hW5]; exact Blk.new _ _ _)
                    have hx5 : Ext wr W5 := by rw [hW5]; exact Ext.alloc _ _
                    have X5 := Lib.hid (X.out.trans hx5)
                    have l0 : W5.cell? ⟨wr.heap.size, 0, none⟩ = some (.int .i64 x.d) := Q.out.cell 0
                    have l1 : W5.cell? ⟨wr.heap.size, 1, none⟩ = some (.int .i64 x.g) := Q.out.cell 1
                    have l2 : W5.cell? ⟨wr.heap.size, 2, none⟩ = some (.int .i64 x.lo) := Q.out.cell 2
                    have l3 : W5.cell? ⟨wr.heap.size, 3, none⟩ = some (.int .i64 x.hi) := Q.out.cell 3
                    clear y0 p0 p1 p2 p3 hx5 hW5 Q
                    have y0 : W5.cell? ⟨w.heap.size, 0, none⟩ = some (.slice (some ⟨b, o, none⟩) n ca) := (K0.out.ext X5.out).cell 0
                    generalize wr.heap.size = q at *
                    refine wp_region_eachM [true, true, true, false, false, false, false, false, false, false, false, false, false, false, false, false, false, false, false, false, false, false, false, false, false, true] [(73, true, false), (73, true, false), (73, true, false), (73, true, false), (73, true, false), (73, true, false), (73, true, false), (73, true, false), (73, true, false), (73, true, false), (73, true, false), (73, true, false), (73, true, false), (73, true, false), (73, true, false), (73, true, false), (73, true, false), (73, true, false), (73, true, false), (73, true, false), (73, true, false), (73, true, false)] [some 71, some 72, some 73, some 74, some 75, some 76, some 77, some 78, some 79, some 80, some 81, some 82, some 83, some 84, some 85, some 86, some 87, some 88, some 89, some 90, some 91, some 92, some 93, some 94, some 95, some 96] [[4], [71], [72], [5, 73], [74, 73], [1, 73], [76, 73], [4, 73], [78, 73], [77, 79, 73], [80, 73], [81, 73], [75, 82, 73], [5, 73], [84, 73], [1, 73], [86, 73], [4, 73], [88, 73], [87, 89, 73], [90, 73], [91, 73], [85, 92, 73], [93, 73], [83, 94, 73], [73, 95]]
                      [Is (.int .i64 ((k : Int))), Is (.bool (false)), Is (.bool (false)), Is (undef), Is (undef), Is (undef), Is (undef), Is (undef), Is (undef), Is (undef), Is (undef), Is (undef), Is (undef), Is (undef), Is (undef), Is (undef), Is (undef), Is (undef), Is (undef), Is (undef), Is (undef), Is (undef), Is (undef), Is (undef), Is (undef), Is (.bool (false))]
                      (by kernel_rfl) (by kernel_rfl) (by kernel_rfl) (by kernel_rfl) (by kernel_rfl) Ext (fun W => Ext W5 W)
                      (fun W _ => Ext.refl W) (fun W W' h k => h.trans k) ?_ (by intro p hp; simp only [List.mem_cons, List.not_mem_nil, or_false] at hp; rcases hp with rfl | rfl | rfl | rfl | rfl | rfl | rfl | rfl | rfl | rfl | rfl | rfl | rfl | rfl | rfl | rfl | rfl | rfl | rfl | rfl | rfl | rfl <;> exact ⟨_, rfl, fun v W h => by rw [show v = _ from h]; first | (simp; done) | (simp [undef]; done)⟩) (Ext.drew _) ?_ ?_
                    · repeat (refine ⟨fun _ _ _ _ k h => (by first | exact h | exact (IntsAt.ext h k)), ?_⟩)
                      exact trivial
                    · refine ⟨?_, ?_, ?_, ?_, ?_, ?_, ?_, ?_, ?_, ?_, ?_, ?_, ?_, ?_, ?_, ?_, ?_, ?_, ?_, ?_, ?_, ?_, ?_, ?_, ?_, ?_, trivial⟩
                      · intro ρ W ⟨kc, kg, kf⟩ hF hs
                        obtain ⟨h0, -⟩ := hs
                        replace h0 : ρ (.tmp 4) = .int .i64 ((k : Int)) := h0
                        go_simp
                        exact ⟨Ext.refl _, rfl⟩
                      · intro ρ W ⟨kc, kg, kf⟩ hF hs
                        obtain ⟨h0, -⟩ := hs
                        replace h0 : ρ (.tmp 71) = .int .i64 ((k : Int)) := h0
                        have hd2 : ¬ 0 < k := by have := HK0.out; omega
                        go_simp
                        exact ⟨Ext.refl _, rfl⟩
                      · intro ρ W ⟨kc, kg, kf⟩ hF hs
                        obtain ⟨h0, -⟩ := hs
                        replace h0 : ρ (.tmp 72) = .bool (false) := h0
                        go_simp
                        exact ⟨Ext.refl _, rfl⟩
                      · exact fun _ => rfl
                      · exact fun _ => rfl
                      · exact fun _ => rfl
                      · exact fun _ => rfl
                      · exact fun _ => rfl
                      · exact fun _ => rfl
                      · exact fun _ => rfl
                      · exact fun _ => rfl
                      · exact fun _ => rfl
                      · exact fun _ => rfl
                      · exact fun _ => rfl
                      · exact fun _ => rfl
                      · exact fun _ => rfl
                      · exact fun _ => rfl
                      · exact fun _ => rfl
                      · exact fun _ => rfl
                      · exact fun _ => rfl
                      · exact fun _ => rfl
                      · exact fun _ => rfl
                      · exact fun _ => rfl
                      · exact fun _ => rfl
                      · exact fun _ => rfl
                      · intro ρ W ⟨kc, kg, kf⟩ hF hs
                        obtain ⟨h0, h1, -⟩ := hs
                        replace h0 : ρ (.tmp 73) = .bool (false) := h0
                        replace h1 : ρ (.tmp 95) = undef := h1
                        go_simp
                        exact ⟨Ext.refl _, rfl⟩
                    · intro fv W hF hs
                      obtain ⟨-, -, -, -, -, -, -, -, -, -, -, -, -, -, -, -, -, -, -, -, -, -, -, -, -, h96, -⟩ := hs
                      replace h96 : fv 96 = .bool (false) := h96
                      simp only [fin, List.filterMap]
                      go_simp
                      have X6 := Lib.hid (X5.out.trans hF)
                      clear hF y0 l0 l1 l2 l3
                      go_wp2
                      go_roundw
                      case rel => exact ⟨k + 1, by omega, by go_num, X6.out, HC.out⟩
                      case measure => simp [intOf]; omega
                · obtain ⟨j, hj⟩ : ∃ j, k = j + 1 := ⟨k - 1, by omega⟩
                  obtain ⟨y, hyj⟩ : ∃ y, xs[j]? = some y := ⟨_, List.getElem?_eq_getElem (by have := HN.out; omega)⟩
                  have HB := Lib.hid (show distK xs k = decide (wrap64 (x.d - y.d) < wrap64 (3 * max x.g y.g)) by
                    have := HX.out
                    rw [hj] at this ⊢
                    unfold distK dist1
                    rw [if_neg (by omega), show xs.getD (j + 1) default = x by simp [this], show xs.getD (j + 1 - 1) default = y by simp [hyj]])
                  have HR := Lib.hid (fun W (e : Ext w W) => row_at (HA.out.ext e) hyj)
                  have hj1 : j < k := by omega
                  have hj2 : k ≤ j + 1 := by omega
                  have hk2 : ((k : Int) == 0) = false := by simp; omega
                  clear hj hyj
                  by_cases hD : wrap64 (x.d - y.d) < wrap64 (3 * max x.g y.g)
                  · have HC := Lib.hid (checkT_stop (v := 17) hlt HX.out HCX.out (by rw [HK.out, HB.out, if_pos (decide_eq_true hD)]) (by decide))
                    have HDD := Lib.hid (show decide (IntKind.i64.wrap (x.d - y.d) < IntKind.i64.wrap (3 * max x.g y.g)) = true by rw [i64w, i64w]; exact decide_eq_true hD)
                    clear HK HB hD
                    go_wp2_with (first
                      | (go_at_call 20; (with_reducible refine (H1.out _).mono ?_); rintro e w' ⟨rfl, rfl⟩)
                      | (go_at_call 20; (with_reducible refine (H2.out _).mono ?_); rintro e w' ⟨rfl, rfl⟩)
                      | (go_at_call 87; (with_reducible refine (H3.out _).mono ?_); rintro e w' ⟨rfl, rfl⟩)
                      | (go_at_call 87; (with_reducible refine (H4.out _).mono ?_); rintro e w' ⟨rfl, rfl⟩))
                    obtain ⟨W5, hW5⟩ : ∃ W5, W5 = wr.alloc (.cells #[.int .i64 x.d, .int .i64 x.g, .int .i64 x.lo, .int .i64 x.hi] 43) := ⟨_, rfl⟩
                    rw [← hW5]
                    have Q := Lib.hid (show Blk W5 wr.heap.size 43 #[.int .i64 x.d, .int .i64 x.g, .int .i64 x.lo, .int .i64 x.hi] by rw [hW5]; exact Blk.new _ _ _)
                    have hx5 : Ext wr W5 := by rw [hW5]; exact Ext.alloc _ _
                    have X5 := Lib.hid (X.out.trans hx5)
                    have l0 : W5.cell? ⟨wr.heap.size, 0, none⟩ = some (.int .i64 x.d) := Q.out.cell 0
                    have l1 : W5.cell? ⟨wr.heap.size, 1, none⟩ = some (.int .i64 x.g) := Q.out.cell 1
                    have l2 : W5.cell? ⟨wr.heap.size, 2, none⟩ = some (.int .i64 x.lo) := Q.out.cell 2
                    have l3 : W5.cell? ⟨wr.heap.size, 3, none⟩ = some (.int .i64 x.hi) := Q.out.cell 3
                    clear y0 p0 p1 p2 p3 hx5 hW5 Q
                    have y0 : W5.cell? ⟨w.heap.size, 0, none⟩ = some (.slice (some ⟨b, o, none⟩) n ca) := (K0.out.ext X5.out).cell 0
                    generalize wr.heap.size = q at *
                    obtain ⟨b2, o2, he, -, hc⟩ := HR.out W5 (E0.out.trans X5.out)
                    obtain ⟨rfl, rfl⟩ : b = b2 ∧ o = o2 := by simpa using he
                    have t0 : W5.cell? ⟨b, o + j * 4, none⟩ = some (.int .i64 y.d) := hc 0 _ rfl
                    have t1 : W5.cell? ⟨b, o + j * 4 + 1, none⟩ = some (.int .i64 y.g) := hc 1 _ rfl
                    have t2 : W5.cell? ⟨b, o + j * 4 + 2, none⟩ = some (.int .i64 y.lo) := hc 2 _ rfl
                    have t3 : W5.cell? ⟨b, o + j * 4 + 3, none⟩ = some (.int .i64 y.hi) := hc 3 _ rfl
                    clear hc he HR
                    refine wp_region_eachG [(73, true), (73, true), (73, true), (73, true), (73, true), (73, true), (73, true), (73, true), (73, true), (73, true), (73, true), (73, true), (73, true), (73, true), (73, true), (73, true), (73, true), (73, true), (73, true), (73, true), (73, true), (73, true)] [some 71, some 72, some 73, some 74, some 75, some 76, some 77, some 78, some 79, some 80, some 81, some 82, some 83, some 84, some 85, some 86, some 87, some 88, some 89, some 90, some 91, some 92, some 93, some 94, some 95, some 96] [[4], [71], [72], [5, 73], [74, 73], [1, 73], [76, 73], [4, 73], [78, 73], [77, 79, 73], [80, 73], [81, 73], [75, 82, 73], [5, 73], [84, 73], [1, 73], [86, 73], [4, 73], [88, 73], [87, 89, 73], [90, 73], [91, 73], [85, 92, 73], [93, 73], [83, 94, 73], [73, 95]]
                      [Is (.int .i64 ((k : Int))), Is (.bool (true)), Is (.bool (true)), Is (.pointer (some ⟨q, 0, none⟩)), Is (.int .i64 (x.d)), Is (.pointer (some ⟨w.heap.size, 0, none⟩)), Is (.slice (some ⟨b, o, none⟩) n ca), Is (.int .i64 ((k : Int))), Is (.int .i64 ((k : Int) - 1)), Is (.pointer (some ⟨b, o + j * 4, none⟩)), Is (.pointer (some ⟨b, o + j * 4, none⟩)), Is (.int .i64 (y.d)), Is (.int .i64 (IntKind.i64.wrap (x.d - y.d))), Is (.pointer (some ⟨q, 1, none⟩)), Is (.int .i64 (x.g)), Is (.pointer (some ⟨w.heap.size, 0, none⟩)), Is (.slice (some ⟨b, o, none⟩) n ca), Is (.int .i64 ((k : Int))), Is (.int .i64 ((k : Int) - 1)), Is (.pointer (some ⟨b, o + j * 4, none⟩)), Is (.pointer (some ⟨b, o + j * 4 + 1, none⟩)), Is (.int .i64 (y.g)), Is (.int .i64 (max x.g y.g)), Is (.int .i64 (IntKind.i64.wrap (3 * max x.g y.g))), Is (.bool (true)), Is (.bool (true))]
                      (by kernel_rfl) (by kernel_rfl) (by kernel_rfl) (by kernel_rfl) (by kernel_rfl) Ext (fun W => Ext W5 W)
                      (fun W _ => Ext.refl W) (fun W W' h k => h.trans k) ?_ (by intro p hp; simp only [List.mem_cons, List.not_mem_nil, or_false] at hp; rcases hp with rfl | rfl | rfl | rfl | rfl | rfl | rfl | rfl | rfl | rfl | rfl | rfl | rfl | rfl | rfl | rfl | rfl | rfl | rfl | rfl | rfl | rfl <;> exact ⟨_, rfl, fun _ _ h => h⟩) (Ext.drew _) ?_ ?_
                    · repeat (refine ⟨fun _ _ _ _ k h => (by first | exact h | exact (IntsAt.ext h k)), ?_⟩)
                      exact trivial
                    · refine ⟨?_, ?_, ?_, ?_, ?_, ?_, ?_, ?_, ?_, ?_, ?_, ?_, ?_, ?_, ?_, ?_, ?_, ?_, ?_, ?_, ?_, ?_, ?_, ?_, ?_, ?_, trivial⟩
                      all_goals intro ρ W ⟨kc, kg, kf⟩ hF hs
                      · obtain ⟨h0, -⟩ := hs
                        replace h0 : ρ (.tmp 4) = .int .i64 ((k : Int)) := h0
                        go_simp
                        exact ⟨Ext.refl _, rfl⟩
                      · obtain ⟨h0, -⟩ := hs
                        replace h0 : ρ (.tmp 71) = .int .i64 ((k : Int)) := h0
                        have hd : decide ((0 : Int) < (k : Int)) = true := by simp; omega
                        go_simp
                        exact ⟨Ext.refl _, rfl⟩
                      · obtain ⟨h0, -⟩ := hs
                        replace h0 : ρ (.tmp 72) = .bool (true) := h0
                        go_simp
                        exact ⟨Ext.refl _, rfl⟩
                      · obtain ⟨h0, h1, -⟩ := hs
                        replace h0 : ρ (.tmp 5) = .pointer (some ⟨q, 0, none⟩) := h0
                        replace h1 : ρ (.tmp 73) = .bool (true) := h1
                        go_simp
                        exact ⟨Ext.refl _, rfl⟩
                      · obtain ⟨h0, h1, -⟩ := hs
                        replace h0 : ρ (.tmp 74) = .pointer (some ⟨q, 0, none⟩) := h0
                        replace h1 : ρ (.tmp 73) = .bool (true) := h1
                        have hc0 : W.cell? ⟨q, 0, none⟩ = some (.int .i64 (x.d)) := hF.cell (by assumption)
                        go_simp
                        exact ⟨Ext.refl _, rfl⟩
                      · obtain ⟨h0, h1, -⟩ := hs
                        replace h0 : ρ (.tmp 1) = .pointer (some ⟨w.heap.size, 0, none⟩) := h0
                        replace h1 : ρ (.tmp 73) = .bool (true) := h1
                        go_simp
                        exact ⟨Ext.refl _, rfl⟩
                      · obtain ⟨h0, h1, -⟩ := hs
                        replace h0 : ρ (.tmp 76) = .pointer (some ⟨w.heap.size, 0, none⟩) := h0
                        replace h1 : ρ (.tmp 73) = .bool (true) := h1
                        have hc0 : W.cell? ⟨w.heap.size, 0, none⟩ = some (.slice (some ⟨b, o, none⟩) n ca) := hF.cell (by assumption)
                        go_simp
                        exact ⟨Ext.refl _, rfl⟩
                      · obtain ⟨h0, h1, -⟩ := hs
                        replace h0 : ρ (.tmp 4) = .int .i64 ((k : Int)) := h0
                        replace h1 : ρ (.tmp 73) = .bool (true) := h1
                        go_simp
                        exact ⟨Ext.refl _, rfl⟩
                      · obtain ⟨h0, h1, -⟩ := hs
                        replace h0 : ρ (.tmp 78) = .int .i64 ((k : Int)) := h0
                        replace h1 : ρ (.tmp 73) = .bool (true) := h1
                        have hw : IntKind.i64.wrap ((k : Int) - 1) = (k : Int) - 1 := wrap_id _ (by omega) (by omega)
                        go_simp
                        exact ⟨Ext.refl _, rfl⟩
                      · obtain ⟨h0, h1, h2, -⟩ := hs
                        replace h0 : ρ (.tmp 77) = .slice (some ⟨b, o, none⟩) n ca := h0
                        replace h1 : ρ (.tmp 79) = .int .i64 ((k : Int) - 1) := h1
                        replace h2 : ρ (.tmp 73) = .bool (true) := h2
                        have hb6 : (1 : Int) ≤ (k : Int) := by omega
                        have hb1 : (k : Int) - 1 < (n : Int) := by omega
                        have hb3 : (0 : Int) ≤ (k : Int) - 1 := by omega
                        have hb4 : ((k : Int) - 1).toNat = j := by omega
                        have hb7 : k - 1 = j := by omega
                        have hb5 : (k : Int) ≤ (n : Int) := by omega
                        have hb8 : j < n := by omega
                        go_simp
                        exact ⟨Ext.refl _, rfl⟩
                      · obtain ⟨h0, h1, -⟩ := hs
                        replace h0 : ρ (.tmp 80) = .pointer (some ⟨b, o + j * 4, none⟩) := h0
                        replace h1 : ρ (.tmp 73) = .bool (true) := h1
                        go_simp
                        exact ⟨Ext.refl _, rfl⟩
                      · obtain ⟨h0, h1, -⟩ := hs
                        replace h0 : ρ (.tmp 81) = .pointer (some ⟨b, o + j * 4, none⟩) := h0
                        replace h1 : ρ (.tmp 73) = .bool (true) := h1
                        have hc0 : W.cell? ⟨b, o + j * 4, none⟩ = some (.int .i64 (y.d)) := hF.cell (by assumption)
                        go_simp
                        exact ⟨Ext.refl _, rfl⟩
                      · obtain ⟨h0, h1, h2, -⟩ := hs
                        replace h0 : ρ (.tmp 75) = .int .i64 (x.d) := h0
                        replace h1 : ρ (.tmp 82) = .int .i64 (y.d) := h1
                        replace h2 : ρ (.tmp 73) = .bool (true) := h2
                        go_simp
                        exact ⟨Ext.refl _, rfl⟩
                      · obtain ⟨h0, h1, -⟩ := hs
                        replace h0 : ρ (.tmp 5) = .pointer (some ⟨q, 0, none⟩) := h0
                        replace h1 : ρ (.tmp 73) = .bool (true) := h1
                        go_simp
                        exact ⟨Ext.refl _, rfl⟩
                      · obtain ⟨h0, h1, -⟩ := hs
                        replace h0 : ρ (.tmp 84) = .pointer (some ⟨q, 1, none⟩) := h0
                        replace h1 : ρ (.tmp 73) = .bool (true) := h1
                        have hc0 : W.cell? ⟨q, 1, none⟩ = some (.int .i64 (x.g)) := hF.cell (by assumption)
                        go_simp
                        exact ⟨Ext.refl _, rfl⟩
                      · obtain ⟨h0, h1, -⟩ := hs
                        replace h0 : ρ (.tmp 1) = .pointer (some ⟨w.heap.size, 0, none⟩) := h0
                        replace h1 : ρ (.tmp 73) = .bool (true) := h1
                        go_simp
                        exact ⟨Ext.refl _, rfl⟩
                      · obtain ⟨h0, h1, -⟩ := hs
                        replace h0 : ρ (.tmp 86) = .pointer (some ⟨w.heap.size, 0, none⟩) := h0
                        replace h1 : ρ (.tmp 73) = .bool (true) := h1
                        have hc0 : W.cell? ⟨w.heap.size, 0, none⟩ = some (.slice (some ⟨b, o, none⟩) n ca) := hF.cell (by assumption)
                        go_simp
                        exact ⟨Ext.refl _, rfl⟩
                      · obtain ⟨h0, h1, -⟩ := hs
                        replace h0 : ρ (.tmp 4) = .int .i64 ((k : Int)) := h0
                        replace h1 : ρ (.tmp 73) = .bool (true) := h1
                        go_simp
                        exact ⟨Ext.refl _, rfl⟩
                      · obtain ⟨h0, h1, -⟩ := hs
                        replace h0 : ρ (.tmp 88) = .int .i64 ((k : Int)) := h0
                        replace h1 : ρ (.tmp 73) = .bool (true) := h1
                        have hw : IntKind.i64.wrap ((k : Int) - 1) = (k : Int) - 1 := wrap_id _ (by omega) (by omega)
                        go_simp
                        exact ⟨Ext.refl _, rfl⟩
                      · obtain ⟨h0, h1, h2, -⟩ := hs
                        replace h0 : ρ (.tmp 87) = .slice (some ⟨b, o, none⟩) n ca := h0
                        replace h1 : ρ (.tmp 89) = .int .i64 ((k : Int) - 1) := h1
                        replace h2 : ρ (.tmp 73) = .bool (true) := h2
                        have hb6 : (1 : Int) ≤ (k : Int) := by omega
                        have hb1 : (k : Int) - 1 < (n : Int) := by omega
                        have hb3 : (0 : Int) ≤ (k : Int) - 1 := by omega
                        have hb4 : ((k : Int) - 1).toNat = j := by omega
                        have hb7 : k - 1 = j := by omega
                        have hb5 : (k : Int) ≤ (n : Int) := by omega
                        have hb8 : j < n := by omega
                        go_simp
                        exact ⟨Ext.refl _, rfl⟩
                      · obtain ⟨h0, h1, -⟩ := hs
                        replace h0 : ρ (.tmp 90) = .pointer (some ⟨b, o + j * 4, none⟩) := h0
                        replace h1 : ρ (.tmp 73) = .bool (true) := h1
                        go_simp
                        exact ⟨Ext.refl _, rfl⟩
                      · obtain ⟨h0, h1, -⟩ := hs
                        replace h0 : ρ (.tmp 91) = .pointer (some ⟨b, o + j * 4 + 1, none⟩) := h0
                        replace h1 : ρ (.tmp 73) = .bool (true) := h1
                        have hc0 : W.cell? ⟨b, o + j * 4 + 1, none⟩ = some (.int .i64 (y.g)) := hF.cell (by assumption)
                        go_simp
                        exact ⟨Ext.refl _, rfl⟩
                      · obtain ⟨h0, h1, h2, -⟩ := hs
                        replace h0 : ρ (.tmp 85) = .int .i64 (x.g) := h0
                        replace h1 : ρ (.tmp 92) = .int .i64 (y.g) := h1
                        replace h2 : ρ (.tmp 73) = .bool (true) := h2
                        go_simp
                        exact ⟨Ext.refl _, rfl⟩
                      · obtain ⟨h0, h1, -⟩ := hs
                        replace h0 : ρ (.tmp 93) = .int .i64 (max x.g y.g) := h0
                        replace h1 : ρ (.tmp 73) = .bool (true) := h1
                        go_simp
                        exact ⟨Ext.refl _, rfl⟩
                      · obtain ⟨h0, h1, h2, -⟩ := hs
                        replace h0 : ρ (.tmp 83) = .int .i64 (IntKind.i64.wrap (x.d - y.d)) := h0
                        replace h1 : ρ (.tmp 94) = .int .i64 (IntKind.i64.wrap (3 * max x.g y.g)) := h1
                        replace h2 : ρ (.tmp 73) = .bool (true) := h2
                        have hd := HDD.out
                        go_simp
                        exact ⟨Ext.refl _, rfl⟩
                      · obtain ⟨h0, h1, -⟩ := hs
                        replace h0 : ρ (.tmp 73) = .bool (true) := h0
                        replace h1 : ρ (.tmp 95) = .bool (true) := h1
                        go_simp
                        exact ⟨Ext.refl _, rfl⟩
                    · intro fv W hF hs
                      obtain ⟨-, -, -, -, -, -, -, -, -, -, -, -, -, -, -, -, -, -, -, -, -, -, -, -, -, h96, -⟩ := hs
                      replace h96 : fv 96 = .bool (true) := h96
                      simp only [fin, List.filterMap]
                      go_simp
                      have X6 := Lib.hid (E0.out.trans (X5.out.trans hF))
                      clear hF y0 l0 l1 l2 l3 t0 t1 t2 t3
                      go_wp2
                      go_ret2
                      exact ⟨by rw [HC.out]; rfl, X6.out⟩
                  · have HC := Lib.hid (checkT_next hlt HX.out HCX.out (by rw [HK.out, HB.out, if_neg (by simpa using hD)]))
                    have HDD := Lib.hid (show decide (IntKind.i64.wrap (x.d - y.d) < IntKind.i64.wrap (3 * max x.g y.g)) = false by rw [i64w, i64w]; exact decide_eq_false hD)
                    clear HK HB hD
                    go_wp2_with (first
                      | (go_at_call 20; (with_reducible refine (H1.out _).mono ?_); rintro e w' ⟨rfl, rfl⟩)
                      | (go_at_call 20; (with_reducible refine (H2.out _).mono ?_); rintro e w' ⟨rfl, rfl⟩)
                      | (go_at_call 87; (with_reducible refine (H3.out _).mono ?_); rintro e w' ⟨rfl, rfl⟩)
                      | (go_at_call 87; (with_reducible refine (H4.out _).mono ?_); rintro e w' ⟨rfl, rfl⟩))
                    obtain ⟨W5, hW5⟩ : ∃ W5, W5 = wr.alloc (.cells #[.int .i64 x.d, .int .i64 x.g, .int .i64 x.lo, .int .i64 x.hi] 43) := ⟨_, rfl⟩
                    rw [← hW5]
                    have Q := Lib.hid (show Blk W5 wr.heap.size 43 #[.int .i64 x.d, .int .i64 x.g, .int .i64 x.lo, .int .i64 x.hi] by rw [hW5]; exact Blk.new _ _ _)
                    have hx5 : Ext wr W5 := by rw [hW5]; exact Ext.alloc _ _
                    have X5 := Lib.hid (X.out.trans hx5)
                    have l0 : W5.cell? ⟨wr.heap.size, 0, none⟩ = some (.int .i64 x.d) := Q.out.cell 0
                    have l1 : W5.cell? ⟨wr.heap.size, 1, none⟩ = some (.int .i64 x.g) := Q.out.cell 1
                    have l2 : W5.cell? ⟨wr.heap.size, 2, none⟩ = some (.int .i64 x.lo) := Q.out.cell 2
                    have l3 : W5.cell? ⟨wr.heap.size, 3, none⟩ = some (.int .i64 x.hi) := Q.out.cell 3
                    clear y0 p0 p1 p2 p3 hx5 hW5 Q
                    have y0 : W5.cell? ⟨w.heap.size, 0, none⟩ = some (.slice (some ⟨b, o, none⟩) n ca) := (K0.out.ext X5.out).cell 0
                    generalize wr.heap.size = q at *
                    obtain ⟨b2, o2, he, -, hc⟩ := HR.out W5 (E0.out.trans X5.out)
                    obtain ⟨rfl, rfl⟩ : b = b2 ∧ o = o2 := by simpa using he
                    have t0 : W5.cell? ⟨b, o + j * 4, none⟩ = some (.int .i64 y.d) := hc 0 _ rfl
                    have t1 : W5.cell? ⟨b, o + j * 4 + 1, none⟩ = some (.int .i64 y.g) := hc 1 _ rfl
                    have t2 : W5.cell? ⟨b, o + j * 4 + 2, none⟩ = some (.int .i64 y.lo) := hc 2 _ rfl
                    have t3 : W5.cell? ⟨b, o + j * 4 + 3, none⟩ = some (.int .i64 y.hi) := hc 3 _ rfl
                    clear hc he HR
                    refine wp_region_eachG [(73, true), (73, true), (73, true), (73, true), (73, true), (73, true), (73, true), (73, true), (73, true), (73, true), (73, true), (73, true), (73, true), (73, true), (73, true), (73, true), (73, true), (73, true), (73, true), (73, true), (73, true), (73, true)] [some 71, some 72, some 73, some 74, some 75, some 76, some 77, some 78, some 79, some 80, some 81, some 82, some 83, some 84, some 85, some 86, some 87, some 88, some 89, some 90, some 91, some 92, some 93, some 94, some 95, some 96] [[4], [71], [72], [5, 73], [74, 73], [1, 73], [76, 73], [4, 73], [78, 73], [77, 79, 73], [80, 73], [81, 73], [75, 82, 73], [5, 73], [84, 73], [1, 73], [86, 73], [4, 73], [88, 73], [87, 89, 73], [90, 73], [91, 73], [85, 92, 73], [93, 73], [83, 94, 73], [73, 95]]
                      [Is (.int .i64 ((k : Int))), Is (.bool (true)), Is (.bool (true)), Is (.pointer (some ⟨q, 0, none⟩)), Is (.int .i64 (x.d)), Is (.pointer (some ⟨w.heap.size, 0, none⟩)), Is (.slice (some ⟨b, o, none⟩) n ca), Is (.int .i64 ((k : Int))), Is (.int .i64 ((k : Int) - 1)), Is (.pointer (some ⟨b, o + j * 4, none⟩)), Is (.pointer (some ⟨b, o + j * 4, none⟩)), Is (.int .i64 (y.d)), Is (.int .i64 (IntKind.i64.wrap (x.d - y.d))), Is (.pointer (some ⟨q, 1, none⟩)), Is (.int .i64 (x.g)), Is (.pointer (some ⟨w.heap.size, 0, none⟩)), Is (.slice (some ⟨b, o, none⟩) n ca), Is (.int .i64 ((k : Int))), Is (.int .i64 ((k : Int) - 1)), Is (.pointer (some ⟨b, o + j * 4, none⟩)), Is (.pointer (some ⟨b, o + j * 4 + 1, none⟩)), Is (.int .i64 (y.g)), Is (.int .i64 (max x.g y.g)), Is (.int .i64 (IntKind.i64.wrap (3 * max x.g y.g))), Is (.bool (false)), Is (.bool (false))]
                      (by kernel_rfl) (by kernel_rfl) (by kernel_rfl) (by kernel_rfl) (by kernel_rfl) Ext (fun W => Ext W5 W)
                      (fun W _ => Ext.refl W) (fun W W' h k => h.trans k) ?_ (by intro p hp; simp only [List.mem_cons, List.not_mem_nil, or_false] at hp; rcases hp with rfl | rfl | rfl | rfl | rfl | rfl | rfl | rfl | rfl | rfl | rfl | rfl | rfl | rfl | rfl | rfl | rfl | rfl | rfl | rfl | rfl | rfl <;> exact ⟨_, rfl, fun _ _ h => h⟩) (Ext.drew _) ?_ ?_
                    · repeat (refine ⟨fun _ _ _ _ k h => (by first | exact h | exact (IntsAt.ext h k)), ?_⟩)
                      exact trivial
                    · refine ⟨?_, ?_, ?_, ?_, ?_, ?_, ?_, ?_, ?_, ?_, ?_, ?_, ?_, ?_, ?_, ?_, ?_, ?_, ?_, ?_, ?_, ?_, ?_, ?_, ?_, ?_, trivial⟩
                      all_goals intro ρ W ⟨kc, kg, kf⟩ hF hs
                      · obtain ⟨h0, -⟩ := hs
                        replace h0 : ρ (.tmp 4) = .int .i64 ((k : Int)) := h0
                        go_simp
                        exact ⟨Ext.refl _, rfl⟩
                      · obtain ⟨h0, -⟩ := hs
                        replace h0 : ρ (.tmp 71) = .int .i64 ((k : Int)) := h0
                        have hd : decide ((0 : Int) < (k : Int)) = true := by simp; omega
                        go_simp
                        exact ⟨Ext.refl _, rfl⟩
                      · obtain ⟨h0, -⟩ := hs
                        replace h0 : ρ (.tmp 72) = .bool (true) := h0
                        go_simp
                        exact ⟨Ext.refl _, rfl⟩
                      · obtain ⟨h0, h1, -⟩ := hs
                        replace h0 : ρ (.tmp 5) = .pointer (some ⟨q, 0, none⟩) := h0
                        replace h1 : ρ (.tmp 73) = .bool (true) := h1
                        go_simp
                        exact ⟨Ext.refl _, rfl⟩
                      · obtain ⟨h0, h1, -⟩ := hs
                        replace h0 : ρ (.tmp 74) = .pointer (some ⟨q, 0, none⟩) := h0
                        replace h1 : ρ (.tmp 73) = .bool (true) := h1
                        have hc0 : W.cell? ⟨q, 0, none⟩ = some (.int .i64 (x.d)) := hF.cell (by assumption)
                        go_simp
                        exact ⟨Ext.refl _, rfl⟩
                      · obtain ⟨h0, h1, -⟩ := hs
                        replace h0 : ρ (.tmp 1) = .pointer (some ⟨w.heap.size, 0, none⟩) := h0
                        replace h1 : ρ (.tmp 73) = .bool (true) := h1
                        go_simp
                        exact ⟨Ext.refl _, rfl⟩
                      · obtain ⟨h0, h1, -⟩ := hs
                        replace h0 : ρ (.tmp 76) = .pointer (some ⟨w.heap.size, 0, none⟩) := h0
                        replace h1 : ρ (.tmp 73) = .bool (true) := h1
                        have hc0 : W.cell? ⟨w.heap.size, 0, none⟩ = some (.slice (some ⟨b, o, none⟩) n ca) := hF.cell (by assumption)
                        go_simp
                        exact ⟨Ext.refl _, rfl⟩
                      · obtain ⟨h0, h1, -⟩ := hs
                        replace h0 : ρ (.tmp 4) = .int .i64 ((k : Int)) := h0
                        replace h1 : ρ (.tmp 73) = .bool (true) := h1
                        go_simp
                        exact ⟨Ext.refl _, rfl⟩
                      · obtain ⟨h0, h1, -⟩ := hs
                        replace h0 : ρ (.tmp 78) = .int .i64 ((k : Int)) := h0
                        replace h1 : ρ (.tmp 73) = .bool (true) := h1
                        have hw : IntKind.i64.wrap ((k : Int) - 1) = (k : Int) - 1 := wrap_id _ (by omega) (by omega)
                        go_simp
                        exact ⟨Ext.refl _, rfl⟩
                      · obtain ⟨h0, h1, h2, -⟩ := hs
                        replace h0 : ρ (.tmp 77) = .slice (some ⟨b, o, none⟩) n ca := h0
                        replace h1 : ρ (.tmp 79) = .int .i64 ((k : Int) - 1) := h1
                        replace h2 : ρ (.tmp 73) = .bool (true) := h2
                        have hb6 : (1 : Int) ≤ (k : Int) := by omega
                        have hb1 : (k : Int) - 1 < (n : Int) := by omega
                        have hb3 : (0 : Int) ≤ (k : Int) - 1 := by omega
                        have hb4 : ((k : Int) - 1).toNat = j := by omega
                        have hb7 : k - 1 = j := by omega
                        have hb5 : (k : Int) ≤ (n : Int) := by omega
                        have hb8 : j < n := by omega
                        go_simp
                        exact ⟨Ext.refl _, rfl⟩
                      · obtain ⟨h0, h1, -⟩ := hs
                        replace h0 : ρ (.tmp 80) = .pointer (some ⟨b, o + j * 4, none⟩) := h0
                        replace h1 : ρ (.tmp 73) = .bool (true) := h1
                        go_simp
                        exact ⟨Ext.refl _, rfl⟩
                      · obtain ⟨h0, h1, -⟩ := hs
                        replace h0 : ρ (.tmp 81) = .pointer (some ⟨b, o + j * 4, none⟩) := h0
                        replace h1 : ρ (.tmp 73) = .bool (true) := h1
                        have hc0 : W.cell? ⟨b, o + j * 4, none⟩ = some (.int .i64 (y.d)) := hF.cell (by assumption)
                        go_simp
                        exact ⟨Ext.refl _, rfl⟩
                      · obtain ⟨h0, h1, h2, -⟩ := hs
                        replace h0 : ρ (.tmp 75) = .int .i64 (x.d) := h0
                        replace h1 : ρ (.tmp 82) = .int .i64 (y.d) := h1
                        replace h2 : ρ (.tmp 73) = .bool (true) := h2
                        go_simp
                        exact ⟨Ext.refl _, rfl⟩
                      · obtain ⟨h0, h1, -⟩ := hs
                        replace h0 : ρ (.tmp 5) = .pointer (some ⟨q, 0, none⟩) := h0
                        replace h1 : ρ (.tmp 73) = .bool (true) := h1
                        go_simp
                        exact ⟨Ext.refl _, rfl⟩
                      · obtain ⟨h0, h1, -⟩ := hs
                        replace h0 : ρ (.tmp 84) = .pointer (some ⟨q, 1, none⟩) := h0
                        replace h1 : ρ (.tmp 73) = .bool (true) := h1
                        have hc0 : W.cell? ⟨q, 1, none⟩ = some (.int .i64 (x.g)) := hF.cell (by assumption)
                        go_simp
                        exact ⟨Ext.refl _, rfl⟩
                      · obtain ⟨h0, h1, -⟩ := hs
                        replace h0 : ρ (.tmp 1) = .pointer (some ⟨w.heap.size, 0, none⟩) := h0
                        replace h1 : ρ (.tmp 73) = .bool (true) := h1
                        go_simp
                        exact ⟨Ext.refl _, rfl⟩
                      · obtain ⟨h0, h1, -⟩ := hs
                        replace h0 : ρ (.tmp 86) = .pointer (some ⟨w.heap.size, 0, none⟩) := h0
                        replace h1 : ρ (.tmp 73) = .bool (true) := h1
                        have hc0 : W.cell? ⟨w.heap.size, 0, none⟩ = some (.slice (some ⟨b, o, none⟩) n ca) := hF.cell (by assumption)
                        go_simp
                        exact ⟨Ext.refl _, rfl⟩
                      · obtain ⟨h0, h1, -⟩ := hs
                        replace h0 : ρ (.tmp 4) = .int .i64 ((k : Int)) := h0
                        replace h1 : ρ (.tmp 73) = .bool (true) := h1
                        go_simp
                        exact ⟨Ext.refl _, rfl⟩
                      · obtain ⟨h0, h1, -⟩ := hs
                        replace h0 : ρ (.tmp 88) = .int .i64 ((k : Int)) := h0
                        replace h1 : ρ (.tmp 73) = .bool (true) := h1
                        have hw : IntKind.i64.wrap ((k : Int) - 1) = (k : Int) - 1 := wrap_id _ (by omega) (by omega)
                        go_simp
                        exact ⟨Ext.refl _, rfl⟩
                      · obtain ⟨h0, h1, h2, -⟩ := hs
                        replace h0 : ρ (.tmp 87) = .slice (some ⟨b, o, none⟩) n ca := h0
                        replace h1 : ρ (.tmp 89) = .int .i64 ((k : Int) - 1) := h1
                        replace h2 : ρ (.tmp 73) = .bool (true) := h2
                        have hb6 : (1 : Int) ≤ (k : Int) := by omega
                        have hb1 : (k : Int) - 1 < (n : Int) := by omega
                        have hb3 : (0 : Int) ≤ (k : Int) - 1 := by omega
                        have hb4 : ((k : Int) - 1).toNat = j := by omega
                        have hb7 : k - 1 = j := by omega
                        have hb5 : (k : Int) ≤ (n : Int) := by omega
                        have hb8 : j < n := by omega
                        go_simp
                        exact ⟨Ext.refl _, rfl⟩
                      · obtain ⟨h0, h1, -⟩ := hs
                        replace h0 : ρ (.tmp 90) = .pointer (some ⟨b, o + j * 4, none⟩) := h0
                        replace h1 : ρ (.tmp 73) = .bool (true) := h1
                        go_simp
                        exact ⟨Ext.refl _, rfl⟩
                      · obtain ⟨h0, h1, -⟩ := hs
                        replace h0 : ρ (.tmp 91) = .pointer (some ⟨b, o + j * 4 + 1, none⟩) := h0
                        replace h1 : ρ (.tmp 73) = .bool (true) := h1
                        have hc0 : W.cell? ⟨b, o + j * 4 + 1, none⟩ = some (.int .i64 (y.g)) := hF.cell (by assumption)
                        go_simp
                        exact ⟨Ext.refl _, rfl⟩
                      · obtain ⟨h0, h1, h2, -⟩ := hs
                        replace h0 : ρ (.tmp 85) = .int .i64 (x.g) := h0
                        replace h1 : ρ (.tmp 92) = .int .i64 (y.g) := h1
                        replace h2 : ρ (.tmp 73) = .bool (true) := h2
                        go_simp
                        exact ⟨Ext.refl _, rfl⟩
                      · obtain ⟨h0, h1, -⟩ := hs
                        replace h0 : ρ (.tmp 93) = .int .i64 (max x.g y.g) := h0
                        replace h1 : ρ (.tmp 73) = .bool (true) := h1
                        go_simp
                        exact ⟨Ext.refl _, rfl⟩
                      · obtain ⟨h0, h1, h2, -⟩ := hs
                        replace h0 : ρ (.tmp 83) = .int .i64 (IntKind.i64.wrap (x.d - y.d)) := h0
                        replace h1 : ρ (.tmp 94) = .int .i64 (IntKind.i64.wrap (3 * max x.g y.g)) := h1
                        replace h2 : ρ (.tmp 73) = .bool (true) := h2
                        have hd := HDD.out
                        go_simp
                        exact ⟨Ext.refl _, rfl⟩
                      · obtain ⟨h0, h1, -⟩ := hs
                        replace h0 : ρ (.tmp 73) = .bool (true) := h0
                        replace h1 : ρ (.tmp 95) = .bool (false) := h1
                        go_simp
                        exact ⟨Ext.refl _, rfl⟩
                    · intro fv W hF hs
                      obtain ⟨-, -, -, -, -, -, -, -, -, -, -, -, -, -, -, -, -, -, -, -, -, -, -, -, -, h96, -⟩ := hs
                      replace h96 : fv 96 = .bool (false) := h96
                      simp only [fin, List.filterMap]
                      go_simp
                      have X6 := Lib.hid (X5.out.trans hF)
                      clear hF y0 l0 l1 l2 l3 t0 t1 t2 t3
                      go_wp2
                      go_roundw
                      case rel => exact ⟨k + 1, by omega, by go_num, X6.out, HC.out⟩
                      case measure => simp [intOf]; omega
    · have hkn : k = n := by omega
      have hlt2 : ¬ (k : Int) < (n : Int) := by omega
      have HC := Lib.hid (show checkT xs = (0, 0) by rw [HCX.out, hkn, Nat.sub_self]; rfl)
      have X6 := Lib.hid (E0.out.trans X.out)
      clear hkn hlt
      go_wp2
      go_ret2
      exact ⟨by rw [HC.out]; rfl, X6.out⟩

set_option maxRecDepth 100000 in
set_option maxHeartbeats 4000000 in
theorem refTraverseErr_any {A : Option Addr} {n ca : Nat} {xs : List In} {w : World} (hn : xs.length = n) (hn2 : n ≤ 1000) (hA : RowsAt 4 In.enc w A xs) :
    Calls Try.prog 25 #[.agg #[.slice A n ca]] w fun e w' => e = .returned (.int .i64 (checkT xs).2) ∧ Ext w w' := by
  have HT := Lib.hid (fun W (e : Ext w W) => refTraverse_any (ca := ca) hn hn2 (hA.ext e))
  clear hA hn
  generalize checkT xs = ck at *
  go_enter Try.func25, Try.ntmps25
  go_wp2_with (go_at_call 19; refine (HT.out _ (Ext.alloc _ _)).mono ?_; rintro e W1 ⟨rfl, hx⟩; have X1 := Lib.hid ((Ext.alloc _ _).trans hx); clear hx)
  go_ret
  exact ⟨rfl, X1.out⟩
set_option maxRecDepth 100000 in
theorem few_any {A : Option Addr} {n ca : Nat} (w : World) : Calls Try.prog 14 #[.agg #[.slice A n ca]] w fun e w' => e = .returned (.bool (decide ((n : Int) ≤ 22))) ∧ Ext w w' := by
  go_enter Try.func14, Try.ntmps14
  go_wp2
  go_ret
  exact ⟨rfl, Ext.alloc _ _⟩

end Go.Proofs.Ytmddnpagfgilcaa
