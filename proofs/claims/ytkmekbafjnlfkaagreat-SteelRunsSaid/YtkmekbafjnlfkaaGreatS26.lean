/- Cases: the reference. -/
import Derived.Test.YtkmekbafjnlfkaaGreatS25
import Derived.Laws.AppendOwn
import Derived.Laws.AppendOwnNone

namespace Go.Proofs.YtkmekbafjnlfkaaGreat
open Go.RowKit Go.Shelf Go.Mem Go.RegInv
attribute [local go_sem] RelUpon_value RelUpon_skip RelUpon_enter BigFrame.eval_const BigFrame.eval_global BigFrame.eval_func

def withinB (x lo hi : Int) : Bool := decide (lo ≤ x) && decide (x ≤ hi)
theorem within_any (x lo hi : Int) (w : World) : Calls Tryz.prog 34 #[.int .i64 x, .int .i64 lo, .int .i64 hi] w fun e w' => e = .returned (.bool (withinB x lo hi)) ∧ Ext w w' := by
  by_cases h1 : lo ≤ x
  all_goals
    go_enter Tryz.func34, Tryz.ntmps34
    go_wp2
    go_ret
    exact ⟨by simp [withinB, h1] <;> omega, Ext.refl _⟩
theorem hrdE_eq (r : Rg) : hrdE r = if withinB r.lo 0 2000 = true then (if withinB r.hi 0 2000 = true then (if r.hi < r.lo then 9 else 0) else 2) else 2 := by
  unfold hrdE endsE rangeE
  by_cases h1 : 0 ≤ r.lo <;> by_cases h2 : r.lo ≤ 2000 <;> by_cases h3 : 0 ≤ r.hi <;> by_cases h4 : r.hi ≤ 2000 <;> by_cases h5 : r.hi < r.lo <;>
    simp [withinB, firstE, errIf, outB, h1, h2, h3, h4, h5] <;> omega
set_option maxRecDepth 100000 in
theorem hardErr_any (r : Rg) (w : World) : Calls Tryz.prog 120 #[.agg #[.int .i64 r.lo, .int .i64 r.hi]] w fun e w' => e = .returned (.int .i64 (hrdE r)) ∧ Ext w w' := by
  have HE := Lib.hid (hrdE_eq r)
  generalize hrdE r = z at HE ⊢
  have H1 := Lib.hid (fun W => within_any r.lo 0 2000 W)
  have H2 := Lib.hid (fun W => within_any r.hi 0 2000 W)
  obtain ⟨b1, hb1⟩ : ∃ b, b = withinB r.lo 0 2000 := ⟨_, rfl⟩
  obtain ⟨b2, hb2⟩ : ∃ b, b = withinB r.hi 0 2000 := ⟨_, rfl⟩
  rw [← hb1, ← hb2] at HE
  rw [← hb1] at H1
  rw [← hb2] at H2
  clear hb1 hb2
  cases b1 with
  | false =>
    go_enter Tryz.func120, Tryz.ntmps120
    go_wp2_with (go_at_call 34; refine (H1.out _).mono ?_; rintro e W1 ⟨rfl, hx⟩; have X1 := Lib.hid ((Ext.alloc w _).trans hx); clear hx)
    go_ret
    exact ⟨ret_int (by rw [HE.out]; rfl), X1.out⟩
  | true =>
    by_cases hc : r.hi < r.lo
    all_goals
      cases b2
      all_goals
        go_enter Tryz.func120, Tryz.ntmps120
        go_wp2_with (go_at_call 34; refine (H1.out _).mono ?_; rintro e W1 ⟨rfl, hx⟩; have X1 := Lib.hid hx; have y2 : W1.cell? ⟨w.heap.size, 1, none⟩ = some (.int .i64 r.hi) := ((Blk.new w 66 #[.int .i64 r.lo, .int .i64 r.hi]).ext hx).cell 1; clear hx H1; refine Hid.out ?_)
        refine Lib.hid ?_
        go_wp2_with (go_at_call 34; refine (H2.out _).mono ?_; rintro e W2 ⟨rfl, hx⟩; have X2 := Lib.hid hx; have y3 : W2.cell? ⟨w.heap.size, 0, none⟩ = some (.int .i64 r.lo) := ((Blk.new w 66 #[.int .i64 r.lo, .int .i64 r.hi]).ext (X1.out.trans hx)).cell 0; have y4 : W2.cell? ⟨w.heap.size, 1, none⟩ = some (.int .i64 r.hi) := ((Blk.new w 66 #[.int .i64 r.lo, .int .i64 r.hi]).ext (X1.out.trans hx)).cell 1; clear hx H2)
        go_ret
        exact ⟨ret_int (by rw [HE.out]; simp [hc]), ((Ext.alloc _ _).trans X1.out).trans X2.out⟩

/-- The examples' reading of a case's error. -/
theorem caseE_eq {xs : List Rg} {n : Nat} (hn : xs.length = n) (l : Int) : caseE xs l = if (12 : Int) < (n : Int) then 8 else if (firstAt (hrdAt xs) n 0).2 ≠ 0 then (firstAt (hrdAt xs) n 0).2 else if withinB l 0 2000 = true then 0 else 2 := by
  unfold caseE rangeE
  rw [hn]
  generalize (firstAt (hrdAt xs) n 0).2 = z
  by_cases h1 : (12 : Int) < (n : Int) <;> by_cases h2 : z = 0 <;> by_cases h3 : 0 ≤ l <;> by_cases h4 : l ≤ 2000 <;>
    simp [withinB, firstE, errIf, outB, h1, h2, h3, h4] <;> omega
set_option maxRecDepth 100000 in
set_option maxHeartbeats 1000000 in
theorem caseErr_any {A : Option Addr} {n ca : Nat} {xs : List Rg} {w : World} (l : Int) (hn : xs.length = n) (hA : RowsAt 2 Rg.enc w A xs) : Calls Tryz.prog 56 #[.slice A n ca, .int .i64 l] w fun e w' => e = .returned (.int .i64 (caseE xs l)) ∧ Ext w w' := by
  have hnb : n ≤ 1152921504606846976 := by have := hA.1; omega
  have HA := Lib.hid hA
  have HN := Lib.hid hn
  have HC := Lib.hid (caseE_eq hn l)
  generalize caseE xs l = cz at HC ⊢
  clear hA hn
  by_cases h12 : (12 : Int) < (n : Int)
  · go_enter Tryz.func56, Tryz.ntmps56
    go_wp2
    go_ret
    exact ⟨ret_int (by rw [HC.out, if_pos h12]), Ext.refl _⟩
  · have HC2 := Lib.hid (HC.out.trans (if_neg h12))
    clear HC
    go_enter Tryz.func56, Tryz.ntmps56
    go_wp2
    go_loopw [5] (fun i wr => ∃ k : Nat, k ≤ n ∧ i = .int .i64 k ∧ firstAt (hrdAt xs) n 0 = firstAt (hrdAt xs) (n - k) k ∧ Ext w wr) (fun i _ => n - (intOf i).toNat)
    case atStart => exact ⟨0, Nat.zero_le _, rfl, rfl, Ext.refl _⟩
    case round =>
      obtain ⟨k, hk, rfl, hr, hx⟩ := hrel
      have HR := Lib.hid hr
      have HX := Lib.hid hx
      clear hr hx
      by_cases hlt : k < n
      · obtain ⟨x, hg⟩ : ∃ x, xs[k]? = some x := ⟨_, List.getElem?_eq_getElem (by rw [HN.out]; exact hlt)⟩
        have HD := Lib.hid (firstAt_step (hrdAt xs) hlt)
        obtain ⟨b, o, hAe, hb, hc⟩ := HA.out.2 k x hg
        subst hAe
        have c0 : wr.cell? ⟨b, o + k * 2, none⟩ = some (.int .i64 x.lo) := HX.out.cell (hc 0 _ rfl)
        have c1 : wr.cell? ⟨b, o + k * 2 + 1, none⟩ = some (.int .i64 x.hi) := HX.out.cell (hc 1 _ rfl)
        have HE := Lib.hid (show hrdAt xs k = hrdE x by unfold hrdAt; rw [List.getD_eq_getElem?_getD, hg]; rfl)
        have HK := Lib.hid (fun W => hardErr_any x W)
        have hki : (k : Int) < (n : Int) := by omega
        clear hg hb hc
        generalize hrdE x = z at HE HK
        by_cases hz : z = 0
        · have hz' : (z != 0) = false := by simp [hz]
          have HZ := Lib.hid hz
          clear hz
          go_wp2_with (go_at_call 120; refine (HK.out _).mono ?_; rintro e W1 ⟨rfl, hx⟩; have X1 := Lib.hid hx; clear hx)
          go_roundw
          case rel => exact ⟨k + 1, by omega, by go_num, by rw [HR.out, HD.out, if_neg (by rw [HE.out, HZ.out]; simp)], HX.out.trans X1.out⟩
          case measure => simp [intOf]; omega
        · have hz' : (z != 0) = true := by simp [hz]
          have HZ := Lib.hid hz
          have HA' := Lib.hid (show firstAt (hrdAt xs) n 0 = ((k : Int), z) by rw [HR.out, HD.out, if_pos (by rw [HE.out]; exact HZ.out), HE.out])
          clear hz
          go_wp2_with (go_at_call 120; refine (HK.out _).mono ?_; rintro e W1 ⟨rfl, hx⟩; have X1 := Lib.hid hx; clear hx)
          go_ret
          exact ⟨ret_int (by rw [HC2.out, HA'.out, if_pos HZ.out]), HX.out.trans X1.out⟩
      · have HA' := Lib.hid (show firstAt (hrdAt xs) n 0 = (0, 0) by rw [HR.out, show n - k = 0 by omega]; rfl)
        have H1 := Lib.hid (fun W => within_any l 0 2000 W)
        obtain ⟨b1, hb1⟩ : ∃ b, b = withinB l 0 2000 := ⟨_, rfl⟩
        rw [← hb1] at HC2 H1
        clear hb1
        cases b1
        all_goals
          go_wp2_with (go_at_call 34; refine (H1.out _).mono ?_; rintro e W1 ⟨rfl, hx⟩; have X1 := Lib.hid hx; clear hx)
          go_ret
          exact ⟨ret_int (by rw [HC2.out, HA'.out]; simp), HX.out.trans X1.out⟩

set_option maxRecDepth 100000 in
set_option maxHeartbeats 2000000 in
theorem case_any {A : Option Addr} {n ca : Nat} {xs : List Rg} {w : World} (l : Int) (hn : xs.length = n) (hA : RowsAt 2 Rg.enc w A xs) : Calls Tryz.prog 57 #[.slice A n ca, .int .i64 l] w fun e w' => e = .returned (.agg #[.int .i64 (upTo (softLo l) xs), .int .i64 (upTo (softHi l) xs)]) ∧ Ext w w' := by
  have hnb : n ≤ 1152921504606846976 := by have := hA.1; omega
  have HA := Lib.hid hA
  have HN := Lib.hid hn
  obtain ⟨W0, hW0⟩ : ∃ W0, W0 = w.alloc (.cells #[.int .i64 0, .int .i64 0] 66) := ⟨_, rfl⟩
  have K0 := Lib.hid (show Blk W0 w.heap.size 66 #[.int .i64 0, .int .i64 0] by rw [hW0]; exact Blk.new _ _ _)
  have E0 := Lib.hid (show Ext w W0 by rw [hW0]; exact Ext.alloc _ _)
  have HC0 := Lib.hid (fun p v (h : w.cell? p = some v) => E0.out.cell h)
  have z0 : W0.cell? ⟨w.heap.size, 0, none⟩ = some (.int .i64 0) := K0.out.cell 0
  have z1 : W0.cell? ⟨w.heap.size, 1, none⟩ = some (.int .i64 0) := K0.out.cell 1
  have zf0 := K0.out.free 0
  have zf1 := K0.out.free 1
  clear hA hn
  go_enter Tryz.func57, Tryz.ntmps57
  go_wp2
  rw [← hW0]
  clear hW0
  go_loopw [5] (fun i wr => ∃ k : Nat, k ≤ n ∧ i = .int .i64 k ∧ idxF (softLo l) xs 0 = idxF (softLo l) (xs.drop k) k ∧ Hid (W0 = wr)) (fun i _ => n - (intOf i).toNat)
  case atStart => exact ⟨0, Nat.zero_le _, rfl, rfl, Lib.hid rfl⟩
  case round =>
    obtain ⟨k, hk, rfl, hr, hwr⟩ := hrel
    replace hwr := hwr.out
    subst hwr
    have HRk := Lib.hid hr
    clear hr
    by_cases hlt : k < n
    · obtain ⟨x, hg⟩ : ∃ x, xs[k]? = some x := ⟨_, List.getElem?_eq_getElem (by rw [HN.out]; exact hlt)⟩
      have HD := Lib.hid (idxF_drop (softLo l) xs k x hg)
      obtain ⟨b, o, hAe, hb, hc⟩ := HA.out.2 k x hg
      first | subst hAe | (simp only [Option.some.injEq, Addr.mk.injEq, and_true] at hAe; obtain ⟨rfl, rfl⟩ := hAe)
      have c0 : W0.cell? ⟨b, o + k * 2, none⟩ = some (.int .i64 x.lo) := HC0.out _ _ (hc 0 _ rfl)
      have hki : (k : Int) < (n : Int) := by omega
      clear hg hb hc
      by_cases hge : l ≤ x.lo
      · have HP := Lib.hid (show softLo l x = false by simp [softLo]; omega)
        go_wp2
        go_roundw
        case rel => exact ⟨k + 1, by omega, by go_num, by rw [HRk.out, HD.out, if_neg (by rw [HP.out]; simp)], (by first | exact Lib.hid rfl | exact Lib.hid trivial)⟩
        case measure => simp [intOf]; omega
      · have HP := Lib.hid (show softLo l x = true by simp [softLo]; omega)
        have HUk := Lib.hid (show upTo (softLo l) xs = k by
          have h1 : idxF (softLo l) xs 0 = (k : Int) := by rw [HRk.out, HD.out, if_pos HP.out]
          rw [upTo, h1, if_pos (by omega)])
        clear HD HP
        go_wp2
        go_loopw [6] (fun i wr => ∃ j : Nat, j ≤ n ∧ i = .int .i64 j ∧ idxF (softHi l) xs 0 = idxF (softHi l) (xs.drop j) j ∧ Hid (W0 = wr)) (fun i _ => n - (intOf i).toNat)
        case atStart => exact ⟨0, Nat.zero_le _, rfl, rfl, Lib.hid rfl⟩
        case round =>
          obtain ⟨j, hk, rfl, hr, hwr⟩ := hrel
          replace hwr := hwr.out
          subst hwr
          have HRj := Lib.hid hr
          clear hr
          by_cases hlt : j < n
          · obtain ⟨x, hg⟩ : ∃ x, xs[j]? = some x := ⟨_, List.getElem?_eq_getElem (by rw [HN.out]; exact hlt)⟩
            have HD := Lib.hid (idxF_drop (softHi l) xs j x hg)
            obtain ⟨b, o, hAe, hb, hc⟩ := HA.out.2 j x hg
            first | subst hAe | (simp only [Option.some.injEq, Addr.mk.injEq, and_true] at hAe; obtain ⟨rfl, rfl⟩ := hAe)
            have c0 : W0.cell? ⟨b, o + j * 2 + 1, none⟩ = some (.int .i64 x.hi) := HC0.out _ _ (hc 1 _ rfl)
            have hki : (j : Int) < (n : Int) := by omega
            clear hg hb hc
            by_cases hge : l ≤ x.hi
            · have HP := Lib.hid (show softHi l x = false by simp [softHi]; omega)
              go_wp2
              go_roundw
              case rel => exact ⟨j + 1, by omega, by go_num, by rw [HRj.out, HD.out, if_neg (by rw [HP.out]; simp)], (by first | exact Lib.hid rfl | exact Lib.hid trivial)⟩
              case measure => simp [intOf]; omega
            · have HP := Lib.hid (show softHi l x = true by simp [softHi]; omega)
              have HUj := Lib.hid (show upTo (softHi l) xs = j by
                have h1 : idxF (softHi l) xs 0 = (j : Int) := by rw [HRj.out, HD.out, if_pos HP.out]
                rw [upTo, h1, if_pos (by omega)])
              clear HD HP
              go_wp2
              exact bodyPost_ret (v := .agg #[.int .i64 k, .int .i64 j]) (by simp [results, Tryz.f57, go_sem, z0, z1]) rfl ⟨by rw [HUk.out, HUj.out], Ext.set (Ext.set E0.out (by dsimp only; omega) _) (by dsimp only; omega) _⟩
          · have HUj := Lib.hid (show upTo (softHi l) xs = j by
              have h1 : idxF (softHi l) xs 0 = -1 := by rw [HRj.out, List.drop_eq_nil_of_le (by rw [HN.out]; omega)]; rfl
              rw [upTo, h1, if_neg (by omega), HN.out]; omega)
            go_wp2
            exact bodyPost_ret (v := .agg #[.int .i64 k, .int .i64 j]) (by simp [results, Tryz.f57, go_sem, z0, z1]) rfl ⟨by rw [HUk.out, HUj.out], Ext.set (Ext.set E0.out (by dsimp only; omega) _) (by dsimp only; omega) _⟩
    · have HUk := Lib.hid (show upTo (softLo l) xs = k by
        have h1 : idxF (softLo l) xs 0 = -1 := by rw [HRk.out, List.drop_eq_nil_of_le (by rw [HN.out]; omega)]; rfl
        rw [upTo, h1, if_neg (by omega), HN.out]; omega)
      go_wp2
      go_loopw [6] (fun i wr => ∃ j : Nat, j ≤ n ∧ i = .int .i64 j ∧ idxF (softHi l) xs 0 = idxF (softHi l) (xs.drop j) j ∧ Hid (W0 = wr)) (fun i _ => n - (intOf i).toNat)
      case atStart => exact ⟨0, Nat.zero_le _, rfl, rfl, Lib.hid rfl⟩
      case round =>
        obtain ⟨j, hk, rfl, hr, hwr⟩ := hrel
        replace hwr := hwr.out
        subst hwr
        have HRj := Lib.hid hr
        clear hr
        by_cases hlt : j < n
        · obtain ⟨x, hg⟩ : ∃ x, xs[j]? = some x := ⟨_, List.getElem?_eq_getElem (by rw [HN.out]; exact hlt)⟩
          have HD := Lib.hid (idxF_drop (softHi l) xs j x hg)
          obtain ⟨b, o, hAe, hb, hc⟩ := HA.out.2 j x hg
          first | subst hAe | (simp only [Option.some.injEq, Addr.mk.injEq, and_true] at hAe; obtain ⟨rfl, rfl⟩ := hAe)
          have c0 : W0.cell? ⟨b, o + j * 2 + 1, none⟩ = some (.int .i64 x.hi) := HC0.out _ _ (hc 1 _ rfl)
          have hki : (j : Int) < (n : Int) := by omega
          clear hg hb hc
          by_cases hge : l ≤ x.hi
          · have HP := Lib.hid (show softHi l x = false by simp [softHi]; omega)
            go_wp2
            go_roundw
            case rel => exact ⟨j + 1, by omega, by go_num, by rw [HRj.out, HD.out, if_neg (by rw [HP.out]; simp)], (by first | exact Lib.hid rfl | exact Lib.hid trivial)⟩
            case measure => simp [intOf]; omega
          · have HP := Lib.hid (show softHi l x = true by simp [softHi]; omega)
            have HUj := Lib.hid (show upTo (softHi l) xs = j by
              have h1 : idxF (softHi l) xs 0 = (j : Int) := by rw [HRj.out, HD.out, if_pos HP.out]
              rw [upTo, h1, if_pos (by omega)])
            clear HD HP
            go_wp2
            exact bodyPost_ret (v := .agg #[.int .i64 k, .int .i64 j]) (by simp [results, Tryz.f57, go_sem, z0, z1]) rfl ⟨by rw [HUk.out, HUj.out], Ext.set (Ext.set E0.out (by dsimp only; omega) _) (by dsimp only; omega) _⟩
        · have HUj := Lib.hid (show upTo (softHi l) xs = j by
            have h1 : idxF (softHi l) xs 0 = -1 := by rw [HRj.out, List.drop_eq_nil_of_le (by rw [HN.out]; omega)]; rfl
            rw [upTo, h1, if_neg (by omega), HN.out]; omega)
          go_wp2
          exact bodyPost_ret (v := .agg #[.int .i64 k, .int .i64 j]) (by simp [results, Tryz.f57, go_sem, z0, z1]) rfl ⟨by rw [HUk.out, HUj.out], Ext.set (Ext.set E0.out (by dsimp only; omega) _) (by dsimp only; omega) _⟩

theorem flat_idx {α : Type} {k : Nat} {enc : α → List Value} (hp : 0 < k) (hk : ∀ x, (enc x).length = k) : ∀ (xs : List α) (j : Nat) (u : Value), (xs.flatMap enc)[j]? = some u → ∃ x, xs[j / k]? = some x ∧ (enc x)[j % k]? = some u
  | [], j, u, h => by simp at h
  | s :: l, j, u, h => by
    rw [List.flatMap_cons] at h
    by_cases hj : j < k
    · rw [List.getElem?_append_left (by rw [hk]; exact hj)] at h
      exact ⟨s, by rw [Nat.div_eq_of_lt hj]; rfl, by rw [Nat.mod_eq_of_lt hj]; exact h⟩
    · rw [List.getElem?_append_right (by rw [hk]; omega), hk] at h
      obtain ⟨x, h1, h2⟩ := flat_idx hp hk l (j - k) u h
      exact ⟨x, by rw [Nat.div_eq_sub_div hp (by omega)]; simpa using h1, by rw [Nat.mod_eq_sub_mod (by omega)]; exact h2⟩
theorem flat_lenG {α : Type} {k : Nat} {enc : α → List Value} (hk : ∀ x, (enc x).length = k) : ∀ (xs : List α), (xs.flatMap enc).length = xs.length * k
  | [] => by simp
  | s :: l => by rw [List.flatMap_cons, List.length_append, flat_lenG hk l, hk, List.length_cons, Nat.succ_mul]; omega
theorem flat_one {α : Type} {enc : α → List Value} (h : ∀ x, ∀ u ∈ enc x, u.oneCell' = true) (xs : List α) : ∀ u ∈ xs.flatMap enc, u.oneCell' = true := by
  intro u hu
  obtain ⟨x, _, hx⟩ := List.mem_flatMap.1 hu
  exact h x u hx
theorem info66 : (Tryz.prog.info? 66).map (fun i => (i.zero, i.size, i.bytes)) = some (some (.agg #[.int .i64 0, .int .i64 0]), 2, 16) := by kernel_rfl

set_option maxRecDepth 100000 in
set_option maxHeartbeats 1000000 in
theorem copyRanges_any {A : Option Addr} {n ca : Nat} {xs : List Rg} (hn : xs.length = n) (w : World) (ha : RowsAt 2 Rg.enc w A xs) (h6 : n ≤ 1000) (hnil : A = none → ca = 0) :
    Calls Tryz.prog 39 #[.slice A n ca] w fun e w' => ∃ A' c', e = .returned (.slice A' n c') ∧ RowsAt 2 Rg.enc w' A' xs ∧ Ext w w' := by
  obtain ⟨i0, hi, hz0, hz1, hz2⟩ := info_parts info66
  have HI0 := Lib.hid hz0
  have hown : Hid ((w.alloc (.cells #[] 66)).ownsRow w.heap.size 66 2 (.slice (some ⟨w.heap.size, 0, none⟩) 0 0) 0 []) :=
    Lib.hid ⟨rfl, .inr ⟨w.heap.size, 0, #[], rfl, Nat.le_refl _, Blk.new w 66 #[], Nat.le_refl _, by decide, rfl, rfl⟩⟩
  cases A with
  | none =>
    obtain rfl : xs = [] := by
      cases xs with
      | nil => rfl
      | cons x l => obtain ⟨b, o, h, _⟩ := ha.2 0 x rfl; cases h
    obtain rfl := hnil rfl
    obtain rfl : n = 0 := by simpa using hn.symm
    clear ha hn hnil h6
    go_enter Tryz.func39, Tryz.ntmps39
    go_wp2_with (at_builtin; refine wpList_append_own_none rfl _ _ 75 rfl w.heap.size 66 i0 2 Tryz.underlying75 hi _ _ _ rfl hown.out rfl ?_)
    go_ret
    exact ⟨_, _, rfl, ⟨by simp, fun i x hx => by simp at hx⟩, Ext.alloc _ _⟩
  | some ad =>
    have hnews : Hid (∀ j u, (xs.flatMap Rg.enc)[j]? = some u → (w.alloc (.cells #[] 66)).cell? (ad.add j) = some u) := Lib.hid fun j u hu => by
      obtain ⟨s, hs, hj⟩ := flat_idx (k := 2) (enc := Rg.enc) (by decide) (fun _ => rfl) xs j u hu
      obtain ⟨b, o, e, _, hc⟩ := ha.2 _ s hs
      obtain rfl : ad = ⟨b, o, none⟩ := by simpa using e
      have := (Ext.alloc w (.cells #[] 66)).cell (hc _ _ hj)
      rw [WideShapes.add_plain, show o + j = o + j / 2 * 2 + j % 2 by omega]; exact this
    have HL := Lib.hid (show (xs.flatMap Rg.enc).length = n * 2 by rw [flat_lenG (k := 2) (fun _ => rfl), hn])
    have HN := Lib.hid hn
    have HO := Lib.hid (flat_one (enc := Rg.enc) (by intro x u hu; simp [Rg.enc] at hu; rcases hu with rfl | rfl <;> rfl) xs)
    clear ha hn hnil
    go_enter Tryz.func39, Tryz.ntmps39
    go_wp2_with (at_builtin; refine wpList_append_own _ rfl _ _ 75 rfl w.heap.size 66 i0 (.agg #[.int .i64 0, .int .i64 0]) 2 16 Tryz.underlying75 hi HI0.out hz1 hz2 rfl (by decide) _ _ _ rfl hown.out ad n ca (xs.flatMap Rg.enc) rfl HL.out hnews.out HO.out (by unfold maxLen; omega) (by omega) (by simp) ?_; intro v' w1 hown' hgrow _; have HE1 := Lib.hid (Ext.grownBy (Ext.alloc w _) hgrow (fun g hg => own_base hown.out hg)); obtain ⟨A', c', hv'⟩ := own_slice hown'; rw [Nat.zero_add] at hv'; subst hv'; have HO1 := Lib.hid hown'; clear hown' hgrow)
    go_ret
    exact ⟨_, _, rfl, by have := HO1.out; rw [Nat.zero_add, List.nil_append] at this; exact rows_own HN.out (fun _ => rfl) this (by omega), HE1.out⟩

end Go.Proofs.YtkmekbafjnlfkaaGreat
