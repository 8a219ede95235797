/- A knot: the reference; few rules. -/
import Derived.Test.YtkmekbafjnlfkaaGreatS30
import Derived.BigQuiet

namespace Go.Proofs.YtkmekbafjnlfkaaGreat
open Go.RowKit Go.Shelf Go.Mem Go.RegInv
attribute [local go_sem] RelUpon_value RelUpon_skip RelUpon_enter BigFrame.eval_const BigFrame.eval_global BigFrame.eval_func

set_option maxRecDepth 100000 in
theorem few_any (A0 A1 A2 A3 : Option Addr) (n0 n1 n2 n3 c0 c1 c2 c3 : Nat) (h0 h1 h2 h3 : Int) (w : World) :
    Calls Tryz.prog 14 #[.agg #[.slice A0 n0 c0, .slice A1 n1 c1, .slice A2 n2 c2, .slice A3 n3 c3, .int .i64 h0, .int .i64 h1, .int .i64 h2, .int .i64 h3]] w fun e w' => e = .returned (.bool (decide (n0 ≤ 10 ∧ n1 ≤ 10 ∧ n2 ≤ 10 ∧ n3 ≤ 10))) ∧ Ext w w' := by
  obtain ⟨fb, hfb⟩ : ∃ fb, fb = decide (n0 ≤ 10 ∧ n1 ≤ 10 ∧ n2 ≤ 10 ∧ n3 ≤ 10) := ⟨_, rfl⟩
  rw [← hfb]
  by_cases g0 : (n0 : Int) ≤ 10
  · by_cases g1 : (n1 : Int) ≤ 10
    · by_cases g2 : (n2 : Int) ≤ 10
      · by_cases g3 : (n3 : Int) ≤ 10
        all_goals
          have HF := Lib.hid (show fb = decide ((n3 : Int) ≤ 10) from hfb.trans (decide_eq_decide.2 (by omega)))
          clear hfb
          go_enter Tryz.func14, Tryz.ntmps14
          go_wp2
          go_ret
          exact ⟨by rw [HF.out]; simp [g3], Ext.alloc _ _⟩
      · have HF := Lib.hid (show fb = false from hfb.trans (decide_eq_false (by omega)))
        clear hfb
        go_enter Tryz.func14, Tryz.ntmps14
        go_wp2
        go_ret
        exact ⟨by rw [HF.out]; rfl, Ext.alloc _ _⟩
    · have HF := Lib.hid (show fb = false from hfb.trans (decide_eq_false (by omega)))
      clear hfb
      go_enter Tryz.func14, Tryz.ntmps14
      go_wp2
      go_ret
      exact ⟨by rw [HF.out]; rfl, Ext.alloc _ _⟩
  · have HF := Lib.hid (show fb = false from hfb.trans (decide_eq_false (by omega)))
    clear hfb
    go_enter Tryz.func14, Tryz.ntmps14
    go_wp2
    go_ret
    exact ⟨by rw [HF.out]; rfl, Ext.alloc _ _⟩

/-- What the examples' reading of a knot answers. -/
def refK (k last : Int) (xs : List Rg) (g : Int) (rises : Bool) : Int :=
  if (withinB k 1 3000 && withinB g 0 1000000 && xs.all partB) = true then (if xs.any bwd = true then 3 else if k ≤ last ∨ rises = false then 9 else 0) else 2
theorem take_all {f : Rg → Bool} {xs : List Rg} {k : Nat} {x : Rg} (h : xs[k]? = some x) : (xs.take (k + 1)).all f = ((xs.take k).all f && f x) := by
  rw [List.take_add_one, h]; simp
theorem drop_any {f : Rg → Bool} {xs : List Rg} {k : Nat} {x : Rg} (h : xs[k]? = some x) : (xs.drop k).any f = (f x || (xs.drop (k + 1)).any f) := by
  obtain ⟨h1, h2⟩ := List.getElem?_eq_some_iff.1 h
  rw [List.drop_eq_getElem_cons h1, h2]; rfl
set_option maxRecDepth 100000 in
set_option maxHeartbeats 2000000 in
theorem refKnot_any {A : Option Addr} {n ca : Nat} {xs : List Rg} {w : World} (k last g : Int) (rises : Bool) (hn : xs.length = n) (hA : RowsAt 2 Rg.enc w A xs) :
    Calls Tryz.prog 86 #[.int .i64 k, .int .i64 last, .slice A n ca, .int .i64 g, .bool rises] w fun e w' => e = .returned (.int .i64 (refK k last xs g rises)) ∧ Ext w w' := by
  have hnb : n ≤ 1152921504606846976 := by have := hA.1; omega
  have HA := Lib.hid hA
  have HN := Lib.hid hn
  have HE := Lib.hid (show refK k last xs g rises = if (withinB k 1 3000 && withinB g 0 1000000 && xs.all partB) = true then (if xs.any bwd = true then 3 else if k ≤ last ∨ rises = false then 9 else 0) else 2 from rfl)
  generalize refK k last xs g rises = z at HE ⊢
  clear hA hn
  have H1 := Lib.hid (fun W => isKelvin_any k W)
  have H2 := Lib.hid (fun W => within_any g 0 1000000 W)
  obtain ⟨b1, hb1⟩ : ∃ b, b = withinB k 1 3000 := ⟨_, rfl⟩
  obtain ⟨b2, hb2⟩ : ∃ b, b = withinB g 0 1000000 := ⟨_, rfl⟩
  rw [← hb1, ← hb2] at HE
  rw [← hb1] at H1
  rw [← hb2] at H2
  clear hb1 hb2
  obtain ⟨ok, hok⟩ : ∃ ok, ok = (b1 && b2) := ⟨_, rfl⟩
  rw [← hok] at HE
  cases b1 with
  | false =>
    have HOK := Lib.hid (show ok = false from hok)
    clear hok
    go_enter Tryz.func86, Tryz.ntmps86
    go_wp2_with (go_at_call 98; refine (H1.out _).mono ?_; rintro e W1 ⟨rfl, hx⟩; have X1 := Lib.hid hx; clear hx; refine Hid.out ?_)
    refine Lib.hid ?_
    go_wp2
    go_loopw [11, 12] (fun c i wr => ∃ j : Nat, j ≤ n ∧ i = .int .i64 j ∧ c = .bool (ok && (xs.take j).all partB) ∧ Ext w wr) (fun _ i _ => n - (intOf i).toNat)
    case atStart => exact ⟨0, Nat.zero_le _, rfl, by rw [HOK.out]; simp, X1.out⟩
    case round =>
      obtain ⟨j, hj, rfl, rfl, hx⟩ := hrel
      have HX := Lib.hid hx
      clear hx
      by_cases hlt : j < n
      · obtain ⟨x, hg⟩ : ∃ x, xs[j]? = some x := ⟨_, List.getElem?_eq_getElem (by rw [HN.out]; exact hlt)⟩
        have HD := Lib.hid (take_all (f := partB) hg)
        obtain ⟨b, o, hAe, hb, hc⟩ := HA.out.2 j x hg
        subst hAe
        have c0 : wr.cell? ⟨b, o + j * 2, none⟩ = some (.int .i64 x.lo) := HX.out.cell (hc 0 _ rfl)
        have c1 : wr.cell? ⟨b, o + j * 2 + 1, none⟩ = some (.int .i64 x.hi) := HX.out.cell (hc 1 _ rfl)
        have hji : (j : Int) < (n : Int) := by omega
        clear hg hb hc
        generalize hcb : (ok && (xs.take j).all partB) = cb
        have HCB := Lib.hid hcb
        clear hcb
        cases cb with
        | false =>
          go_wp2
          go_roundw
          case rel => exact ⟨j + 1, by omega, by go_num, by rw [HD.out, ← Bool.and_assoc, HCB.out]; rfl, HX.out⟩
          case measure => simp [intOf]; omega
        | true =>
          have HP := Lib.hid (fun W => part_any x W)
          obtain ⟨px, hpx⟩ : ∃ b, b = partB x := ⟨_, rfl⟩
          rw [← hpx] at HP
          have HPX := Lib.hid hpx
          clear hpx
          go_wp2_with (go_at_call 129; refine (HP.out _).mono ?_; rintro e W5 ⟨rfl, hx⟩; have X5 := Lib.hid hx; clear hx)
          go_roundw
          case rel => exact ⟨j + 1, by omega, by go_num, by rw [HD.out, ← Bool.and_assoc, HCB.out, ← HPX.out]; simp, HX.out.trans X5.out⟩
          case measure => simp [intOf]; omega
      · have HALL := Lib.hid (show (ok && (xs.take j).all partB) = (ok && xs.all partB) by rw [List.take_of_length_le (by rw [HN.out]; omega)])
        rw [HALL.out]
        generalize hcb : (ok && xs.all partB) = cb at HE
        have HCB := Lib.hid hcb
        clear hcb HALL
        cases cb with
        | false =>
          go_wp2
          go_ret
          exact ⟨ret_int (by rw [HE.out]; rfl), HX.out⟩
        | true =>
          have HE2 := Lib.hid (HE.out.trans (if_pos rfl))
          clear HE HCB
          go_wp2
          go_loopw [13] (fun i ws => ∃ l : Nat, l ≤ n ∧ i = .int .i64 l ∧ xs.any bwd = (xs.drop l).any bwd ∧ Ext w ws) (fun i _ => n - (intOf i).toNat)
          case atStart => exact ⟨0, Nat.zero_le _, rfl, rfl, HX.out⟩
          case round =>
            obtain ⟨l, hl, rfl, hr, hx⟩ := hrel
            rename World => ws
            have HY := Lib.hid hx
            have HR := Lib.hid hr
            clear hx hr
            by_cases hlt2 : l < n
            · obtain ⟨x, hg⟩ : ∃ x, xs[l]? = some x := ⟨_, List.getElem?_eq_getElem (by rw [HN.out]; exact hlt2)⟩
              have HD := Lib.hid (drop_any (f := bwd) hg)
              obtain ⟨b, o, hAe, hb, hc⟩ := HA.out.2 l x hg
              first | subst hAe | (simp only [Option.some.injEq, Addr.mk.injEq, and_true] at hAe; obtain ⟨rfl, rfl⟩ := hAe)
              have c0 : ws.cell? ⟨b, o + l * 2, none⟩ = some (.int .i64 x.lo) := HY.out.cell (hc 0 _ rfl)
              have c1 : ws.cell? ⟨b, o + l * 2 + 1, none⟩ = some (.int .i64 x.hi) := HY.out.cell (hc 1 _ rfl)
              have hji : (l : Int) < (n : Int) := by omega
              clear hg hb hc
              by_cases hb : x.hi < x.lo
              · have HB := Lib.hid (show xs.any bwd = true by rw [HR.out, HD.out]; simp [bwd, hb])
                go_wp2
                go_quiet (fail)
                go_wp2
                go_ret
                exact ⟨ret_int (by rw [HE2.out, if_pos HB.out]), HY.out.trans (Ext.drewN _ _)⟩
              · have HB := Lib.hid (show xs.any bwd = (xs.drop (l + 1)).any bwd by rw [HR.out, HD.out]; simp [bwd, hb])
                go_wp2
                go_quiet (fail)
                go_wp2
                go_roundw
                case rel => exact ⟨l + 1, by omega, by go_num, HB.out, HY.out.trans (Ext.drewN _ _)⟩
                case measure => simp [intOf]; omega
            · have HB := Lib.hid (show xs.any bwd = false by rw [HR.out, List.drop_eq_nil_of_le (by rw [HN.out]; omega)]; rfl)
              have HE3 := Lib.hid (HE2.out.trans (if_neg (by rw [HB.out]; simp)))
              clear HE2
              by_cases hkl : k ≤ last
              · go_wp2
                go_ret
                exact ⟨ret_int (by rw [HE3.out, if_pos (.inl hkl)]), HY.out⟩
              · cases rises
                · go_wp2
                  go_ret
                  exact ⟨ret_int (by rw [HE3.out]; simp), HY.out⟩
                · go_wp2
                  go_ret
                  exact ⟨ret_int (by rw [HE3.out]; simp [hkl]), HY.out⟩
  | true =>
    have HOK := Lib.hid (show ok = b2 by simpa using hok)
    clear hok
    go_enter Tryz.func86, Tryz.ntmps86
    go_wp2_with (go_at_call 98; refine (H1.out _).mono ?_; rintro e W1 ⟨rfl, hx⟩; have X1 := Lib.hid hx; clear hx H1; refine Hid.out ?_)
    refine Lib.hid ?_
    go_wp2_with (go_at_call 34; refine (H2.out _).mono ?_; rintro e W2 ⟨rfl, hx⟩; have X2 := Lib.hid hx; clear hx; refine Hid.out ?_)
    refine Lib.hid ?_
    go_wp2
    go_loopw [11, 12] (fun c i wr => ∃ j : Nat, j ≤ n ∧ i = .int .i64 j ∧ c = .bool (ok && (xs.take j).all partB) ∧ Ext w wr) (fun _ i _ => n - (intOf i).toNat)
    case atStart => exact ⟨0, Nat.zero_le _, rfl, by rw [HOK.out]; simp, (X1.out.trans X2.out)⟩
    case round =>
      obtain ⟨j, hj, rfl, rfl, hx⟩ := hrel
      have HX := Lib.hid hx
      clear hx
      by_cases hlt : j < n
      · obtain ⟨x, hg⟩ : ∃ x, xs[j]? = some x := ⟨_, List.getElem?_eq_getElem (by rw [HN.out]; exact hlt)⟩
        have HD := Lib.hid (take_all (f := partB) hg)
        obtain ⟨b, o, hAe, hb, hc⟩ := HA.out.2 j x hg
        subst hAe
        have c0 : wr.cell? ⟨b, o + j * 2, none⟩ = some (.int .i64 x.lo) := HX.out.cell (hc 0 _ rfl)
        have c1 : wr.cell? ⟨b, o + j * 2 + 1, none⟩ = some (.int .i64 x.hi) := HX.out.cell (hc 1 _ rfl)
        have hji : (j : Int) < (n : Int) := by omega
        clear hg hb hc
        generalize hcb : (ok && (xs.take j).all partB) = cb
        have HCB := Lib.hid hcb
        clear hcb
        cases cb with
        | false =>
          go_wp2
          go_roundw
          case rel => exact ⟨j + 1, by omega, by go_num, by rw [HD.out, ← Bool.and_assoc, HCB.out]; rfl, HX.out⟩
          case measure => simp [intOf]; omega
        | true =>
          have HP := Lib.hid (fun W => part_any x W)
          obtain ⟨px, hpx⟩ : ∃ b, b = partB x := ⟨_, rfl⟩
          rw [← hpx] at HP
          have HPX := Lib.hid hpx
          clear hpx
          go_wp2_with (go_at_call 129; refine (HP.out _).mono ?_; rintro e W5 ⟨rfl, hx⟩; have X5 := Lib.hid hx; clear hx)
          go_roundw
          case rel => exact ⟨j + 1, by omega, by go_num, by rw [HD.out, ← Bool.and_assoc, HCB.out, ← HPX.out]; simp, HX.out.trans X5.out⟩
          case measure => simp [intOf]; omega
      · have HALL := Lib.hid (show (ok && (xs.take j).all partB) = (ok && xs.all partB) by rw [List.take_of_length_le (by rw [HN.out]; omega)])
        rw [HALL.out]
        generalize hcb : (ok && xs.all partB) = cb at HE
        have HCB := Lib.hid hcb
        clear hcb HALL
        cases cb with
        | false =>
          go_wp2
          go_ret
          exact ⟨ret_int (by rw [HE.out]; rfl), HX.out⟩
        | true =>
          have HE2 := Lib.hid (HE.out.trans (if_pos rfl))
          clear HE HCB
          go_wp2
          go_loopw [13] (fun i ws => ∃ l : Nat, l ≤ n ∧ i = .int .i64 l ∧ xs.any bwd = (xs.drop l).any bwd ∧ Ext w ws) (fun i _ => n - (intOf i).toNat)
          case atStart => exact ⟨0, Nat.zero_le _, rfl, rfl, HX.out⟩
          case round =>
            obtain ⟨l, hl, rfl, hr, hx⟩ := hrel
            rename World => ws
            have HY := Lib.hid hx
            have HR := Lib.hid hr
            clear hx hr
            by_cases hlt2 : l < n
            · obtain ⟨x, hg⟩ : ∃ x, xs[l]? = some x := ⟨_, List.getElem?_eq_getElem (by rw [HN.out]; exact hlt2)⟩
              have HD := Lib.hid (drop_any (f := bwd) hg)
              obtain ⟨b, o, hAe, hb, hc⟩ := HA.out.2 l x hg
              first | subst hAe | (simp only [Option.some.injEq, Addr.mk.injEq, and_true] at hAe; obtain ⟨rfl, rfl⟩ := hAe)
              have c0 : ws.cell? ⟨b, o + l * 2, none⟩ = some (.int .i64 x.lo) := HY.out.cell (hc 0 _ rfl)
              have c1 : ws.cell? ⟨b, o + l * 2 + 1, none⟩ = some (.int .i64 x.hi) := HY.out.cell (hc 1 _ rfl)
              have hji : (l : Int) < (n : Int) := by omega
              clear hg hb hc
              by_cases hb : x.hi < x.lo
              · have HB := Lib.hid (show xs.any bwd = true by rw [HR.out, HD.out]; simp [bwd, hb])
                go_wp2
                go_quiet (fail)
                go_wp2
                go_ret
                exact ⟨ret_int (by rw [HE2.out, if_pos HB.out]), HY.out.trans (Ext.drewN _ _)⟩
              · have HB := Lib.hid (show xs.any bwd = (xs.drop (l + 1)).any bwd by rw [HR.out, HD.out]; simp [bwd, hb])
                go_wp2
                go_quiet (fail)
                go_wp2
                go_roundw
                case rel => exact ⟨l + 1, by omega, by go_num, HB.out, HY.out.trans (Ext.drewN _ _)⟩
                case measure => simp [intOf]; omega
            · have HB := Lib.hid (show xs.any bwd = false by rw [HR.out, List.drop_eq_nil_of_le (by rw [HN.out]; omega)]; rfl)
              have HE3 := Lib.hid (HE2.out.trans (if_neg (by rw [HB.out]; simp)))
              clear HE2
              by_cases hkl : k ≤ last
              · go_wp2
                go_ret
                exact ⟨ret_int (by rw [HE3.out, if_pos (.inl hkl)]), HY.out⟩
              · cases rises
                · go_wp2
                  go_ret
                  exact ⟨ret_int (by rw [HE3.out]; simp), HY.out⟩
                · go_wp2
                  go_ret
                  exact ⟨ret_int (by rw [HE3.out]; simp [hkl]), HY.out⟩


end Go.Proofs.YtkmekbafjnlfkaaGreat
