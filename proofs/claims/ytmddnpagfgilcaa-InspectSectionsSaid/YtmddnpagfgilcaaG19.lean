/- Sections: Contradicting. -/
import Derived.Test.YtmddnpagfgilcaaG18
import Derived.Lib.MinMax
import Derived.Deep.DeepCutAuto

namespace Go.Proofs.Ytmddnpagfgilcaa
open Go.RowKit Go.Shelf Go.Mem Go.RegInv
attribute [local go_sem] RelUpon_value RelUpon_skip RelUpon_enter BigFrame.eval_const BigFrame.eval_global BigFrame.eval_func


/-- Two ranges have nothing in common. -/
def dis (x y : Int × Int) : Prop := ¬ (comS x y).1 ≤ (comS x y).2
instance (x y : Int × Int) : Decidable (dis x y) := by unfold dis; exact inferInstance
def inn (xs : List (Int × Int)) (i : Nat) : Nat → Nat → Option Nat
  | 0, _ => none
  | f + 1, k => if dis (xs.getD i default) (xs.getD k default) then some k else inn xs i f (k + 1)
def outK (xs : List (Int × Int)) (n : Nat) : Nat → Nat → Option (Nat × Nat)
  | 0, _ => none
  | f + 1, i => match inn xs i (n - (i + 1)) (i + 1) with
    | some k => some (i, k)
    | none => outK xs n f (i + 1)
theorem inn_step (xs : List (Int × Int)) (i : Nat) {n k : Nat} (h : k < n) : inn xs i (n - k) k = if dis (xs.getD i default) (xs.getD k default) then some k else inn xs i (n - (k + 1)) (k + 1) := by
  obtain ⟨d, hd⟩ : ∃ d, n - k = d + 1 := ⟨n - k - 1, by omega⟩
  rw [hd, inn, show n - (k + 1) = d by omega]
theorem outK_step (xs : List (Int × Int)) {n i : Nat} (h : i < n) : outK xs n (n - i) i = match inn xs i (n - (i + 1)) (i + 1) with | some k => some (i, k) | none => outK xs n (n - (i + 1)) (i + 1) := by
  obtain ⟨d, hd⟩ : ∃ d, n - i = d + 1 := ⟨n - i - 1, by omega⟩
  rw [hd, outK, show n - (i + 1) = d by omega]
theorem rows_new1 (W : World) (y : Int × Int) : RowsAt 2 frEnc (W.alloc (.cells #[.int .i64 y.1, .int .i64 y.2] 41)) (some ⟨W.heap.size, 0, none⟩) [y] :=
  ⟨by simp, fun i x hx => by
    match i, hx with
    | 0, hx =>
      obtain rfl : y = x := by simpa using hx
      exact ⟨W.heap.size, 0, rfl, by simp, fun j u hu => by
        rw [(Blk.new W 41 #[.int .i64 y.1, .int .i64 y.2]).cell]
        match j, hu with
        | 0, hu => exact hu
        | 1, hu => exact hu
        | j + 2, hu => simp [frEnc] at hu⟩
    | i + 1, hx => simp at hx⟩
theorem rows_new2 (W : World) (x y : Int × Int) : RowsAt 2 frEnc (W.alloc (.cells #[.int .i64 x.1, .int .i64 x.2, .int .i64 y.1, .int .i64 y.2] 41)) (some ⟨W.heap.size, 0, none⟩) [x, y] :=
  ⟨by simp, fun i z hz => by
    have B := Blk.new W 41 #[.int .i64 x.1, .int .i64 x.2, .int .i64 y.1, .int .i64 y.2]
    match i, hz with
    | 0, hz =>
      obtain rfl : x = z := by simpa using hz
      exact ⟨W.heap.size, 0, rfl, by simp, fun j u hu => by
        rw [B.cell]
        match j, hu with
        | 0, hu => exact hu
        | 1, hu => exact hu
        | j + 2, hu => simp [frEnc] at hu⟩
    | 1, hz =>
      obtain rfl : y = z := by simpa using hz
      exact ⟨W.heap.size, 0, rfl, by simp, fun j u hu => by
        rw [B.cell]
        match j, hu with
        | 0, hu => exact hu
        | 1, hu => exact hu
        | j + 2, hu => simp [frEnc] at hu⟩
    | i + 2, hz => simp at hz⟩
theorem comK_two (x y : Int × Int) : comK x [x, y] = comS x y := by
  unfold comK comS
  simp
theorem gR {xs : List (Int × Int)} {n i : Nat} (hn : xs.length = n) (h : i < n) : xs[i]? = some (xs.getD i default) := by
  rw [List.getD_eq_getElem?_getD, List.getElem?_eq_getElem (by omega)]; rfl

set_option maxRecDepth 100000 in
set_option maxHeartbeats 4000000 in
theorem contr_bad {A : Option Addr} {n ca : Nat} {xs : List (Int × Int)} {w : World} (hn : xs.length = n) (hA : RowsAt 2 frEnc w A xs) (hz : rngE xs ≠ 0) :
    Calls Try.prog 48 #[.slice A n ca] w fun e w' => e = .returned (.tuple #[.slice none 0 0, .int .i64 (rngE xs)]) ∧ Ext w w' := by
  have HR := Lib.hid (fun W (e : Ext w W) => rangesError_any (ca := ca) hn (hA.ext e))
  generalize rngE xs = rz at *
  have hz2 : (rz != 0) = true := by simp [hz]
  clear hn hA hz
  go_enter Try.func48, Try.ntmps48
  go_wp2_with (go_at_call 99; refine (HR.out _ (Ext.refl _)).mono ?_; rintro e W1 ⟨rfl, hx⟩; have X := Lib.hid hx; clear hx)
  go_ret2
  exact ⟨rfl, X.out⟩

set_option maxRecDepth 100000 in
set_option maxHeartbeats 4000000 in
theorem contr_any {b1 o1 : Nat} {n ca : Nat} {xs : List (Int × Int)} {w : World} (hn : xs.length = n) (hA : RowsAt 2 frEnc w (some ⟨b1, o1, none⟩) xs) (hc : n ≤ ca) (hz : rngE xs = 0) :
    Calls Try.prog 48 #[.slice (some ⟨b1, o1, none⟩) n ca] w fun e w' => (∀ i k, outK xs n n 0 = some (i, k) → ∃ q, e = .returned (.tuple #[.slice (some ⟨q, 0, none⟩) 2 2, .int .i64 0]) ∧ Blk w' q 3 #[.int .i64 (i : Nat), .int .i64 (k : Nat)]) ∧ (outK xs n n 0 = none → e = .returned (.tuple #[.slice none 0 0, .int .i64 12])) ∧ Ext w w' := by
  obtain ⟨m1, m12, -⟩ := rngE_ok hz
  rw [hn] at m1 m12
  have HR := Lib.hid (fun W (e : Ext w W) => show Calls Try.prog 99 #[.slice (some ⟨b1, o1, none⟩) n ca] W fun e w' => e = .returned (.int .i64 0) ∧ Ext W w' from by
    have := rangesError_any (ca := ca) hn (hA.ext e)
    rw [hz] at this
    exact this)
  have HCO := Lib.hid (fun W (x y : Int × Int) => common_any (w := W.alloc (.cells #[.int .i64 y.1, .int .i64 y.2] 41)) (n := 1) (ca := 1) (xs := [y]) x.1 x.2 rfl (rows_new1 W y))
  obtain ⟨fo, hfo⟩ : ∃ fo, fo = outK xs n n 0 := ⟨_, rfl⟩
  have HFO := Lib.hid (show fo = outK xs n (n - 0) 0 from hfo)
  rw [← hfo]
  have HA := Lib.hid hA
  have HN := Lib.hid hn
  clear hn hA hz hfo
  go_enter Try.func48, Try.ntmps48
  go_wp2_with (go_at_call 99; refine (HR.out _ (Ext.refl _)).mono ?_; rintro e W1 ⟨rfl, hx⟩; have X := Lib.hid hx; clear hx)
  go_loopw [18] (fun i wr => ∃ k : Nat, k ≤ n ∧ i = .int .i64 k ∧ Ext w wr ∧ fo = outK xs n (n - k) k) (fun i _ => n - (intOf i).toNat)
  case atStart => exact ⟨0, Nat.zero_le _, rfl, X.out, HFO.out⟩
  case round =>
    obtain ⟨k, hk, rfl, hx, hf⟩ := hrel
    have X := Lib.hid hx
    have HF := Lib.hid hf
    clear hx hf
    by_cases hlt : k < n
    · obtain ⟨x, hxk⟩ : ∃ x, x = xs.getD k default := ⟨_, rfl⟩
      have gx := gR HN.out hlt
      rw [← hxk] at gx
      obtain ⟨b2, o2, he, -, hcc⟩ := row_at (HA.out.ext X.out) gx
      obtain ⟨rfl, rfl⟩ : b1 = b2 ∧ o1 = o2 := by simpa using he
      have p0 : wr.cell? ⟨b1, o1 + k * 2, none⟩ = some (.int .i64 x.1) := hcc 0 _ rfl
      have p1 : wr.cell? ⟨b1, o1 + k * 2 + 1, none⟩ = some (.int .i64 x.2) := hcc 1 _ rfl
      have HS := Lib.hid (HF.out.trans (outK_step xs hlt))
      have HXK := Lib.hid hxk
      clear he hcc gx hxk
      have hlt2 : (k : Int) < (n : Int) := by omega
      have hbk : ((k : Int)).toNat = k := by omega
      have hk1 : (k : Int) + 1 ≤ (n : Int) := by omega
      have hk2 : ((k : Int) + 1).toNat = k + 1 := by omega
      go_upto_region 7 with (fail)
      obtain ⟨V, hV⟩ : ∃ V, V = wr.alloc (.cells #[.int .i64 x.1, .int .i64 x.2] 41) := ⟨_, rfl⟩
      obtain ⟨q6, hq6⟩ : ∃ q, q = wr.heap.size := ⟨_, rfl⟩
      rw [← hV, ← hq6]
      have K6 := Lib.hid (show Blk V q6 41 #[.int .i64 x.1, .int .i64 x.2] by rw [hV, hq6]; exact Blk.new _ _ _)
      have hx : Ext wr V := by rw [hV]; exact Ext.alloc _ _
      have X := Lib.hid (X.out.trans hx)
      clear hx hV hq6 p0 p1
      rcases Nat.lt_or_ge (k + 1) n with hk3 | hk3
      · have hca : ¬ ca = k + 1 := by omega
        go_wp2
        go_loopw [28] (fun i wr => ∃ j : Nat, k + 1 + j ≤ n ∧ i = .int .i64 j ∧ Ext V wr ∧ inn xs k (n - (k + 1)) (k + 1) = inn xs k (n - (k + 1 + j)) (k + 1 + j)) (fun i _ => n - (intOf i).toNat)
        case atStart => exact ⟨0, by omega, rfl, Ext.refl _, rfl⟩
        case round =>
          obtain ⟨j, hj, rfl, hx, hi⟩ := hrel
          have X := Lib.hid (X.out.trans hx)
          have K6 := Lib.hid (K6.out.ext hx)
          have HI := Lib.hid hi
          have XJ := Lib.hid hx
          clear hx hi
          by_cases hjl : k + 1 + j < n
          · obtain ⟨y, hyk⟩ : ∃ y, y = xs.getD (k + 1 + j) default := ⟨_, rfl⟩
            have gy := gR HN.out hjl
            rw [← hyk] at gy
            obtain ⟨b2, o2, he, -, hcc⟩ := row_at (HA.out.ext X.out) gy
            obtain ⟨rfl, rfl⟩ : b1 = b2 ∧ o1 = o2 := by simpa using he
            have p0 : wr.cell? ⟨b1, o1 + (k + 1) * 2 + j * 2, none⟩ = some (.int .i64 y.1) := by
              have := hcc 0 _ rfl
              rw [show o1 + (k + 1 + j) * 2 + 0 = o1 + (k + 1) * 2 + j * 2 by omega] at this; exact this
            have p1 : wr.cell? ⟨b1, o1 + (k + 1) * 2 + j * 2 + 1, none⟩ = some (.int .i64 y.2) := by
              have := hcc 1 _ rfl
              rw [show o1 + (k + 1 + j) * 2 + 1 = o1 + (k + 1) * 2 + j * 2 + 1 by omega] at this; exact this
            have HIS := Lib.hid (HI.out.trans (inn_step xs k hjl))
            rw [← hyk, ← HXK.out] at HIS
            clear he hcc gy hyk
            have hj2 : (j : Int) < ((n - (k + 1) : Nat) : Int) := by omega
            have hbj : ((j : Int)).toNat = j := by omega
            have hj3 : j < n - (k + 1) := by omega
            go_upto_region 10 with (fail)
            obtain ⟨V2, hV⟩ : ∃ V2, V2 = wr.alloc (.cells #[.int .i64 y.1, .int .i64 y.2] 41) := ⟨_, rfl⟩
            obtain ⟨q8, hq8⟩ : ∃ q, q = wr.heap.size := ⟨_, rfl⟩
            rw [← hV, ← hq8]
            have K8 := Lib.hid (show Blk V2 q8 41 #[.int .i64 y.1, .int .i64 y.2] by rw [hV, hq8]; exact Blk.new _ _ _)
            have hx : Ext wr V2 := by rw [hV]; exact Ext.alloc _ _
            have X := Lib.hid (X.out.trans hx)
            have K6 := Lib.hid (K6.out.ext hx)
            have XI := Lib.hid hx
            clear hx hV hq8 p0 p1
            have l0 : V2.cell? ⟨q6, 0, none⟩ = some (.int .i64 x.1) := K6.out.cell 0
            have l1 : V2.cell? ⟨q6, 1, none⟩ = some (.int .i64 x.2) := K6.out.cell 1
            have l2 : V2.cell? ⟨q8, 0, none⟩ = some (.int .i64 y.1) := K8.out.cell 0
            have l3 : V2.cell? ⟨q8, 1, none⟩ = some (.int .i64 y.2) := K8.out.cell 1
            by_cases hd : dis x y
            · have HC2 := Lib.hid (show Calls Try.prog 100 #[.agg #[.int .i64 x.1, .int .i64 x.2], .slice (some ⟨V2.heap.size, 0, none⟩) 1 1] (V2.alloc (.cells #[.int .i64 y.1, .int .i64 y.2] 41)) fun e w' => e = .returned (.tuple #[.agg #[.int .i64 (comS x y).1, .int .i64 (comS x y).2], .bool false]) ∧ Ext (V2.alloc (.cells #[.int .i64 y.1, .int .i64 y.2] 41)) w' from by
                have := HCO.out V2 x y
                rw [show comK (x.1, x.2) [y] = comS x y from rfl, show decide ((comS x y).1 ≤ (comS x y).2) = false from decide_eq_false hd] at this
                exact this)
              have HV := Lib.hid (show fo = some (k, k + 1 + j) by rw [HS.out, HIS.out, if_pos hd])
              have hcast : ((k + 1 + j : Nat) : Int) = (k : Int) + 1 + (j : Int) := by omega
              generalize comS x y = cm at *
              clear hd
              go_wp2_with (go_at_call 100; refine HC2.out.mono ?_; rintro e V3 ⟨rfl, hx⟩; have X3 := Lib.hid ((X.out.trans (Ext.alloc _ _)).trans hx); clear hx l0 l1 l2 l3)
              go_ret2
              refine ⟨fun i' k' h => ?_, fun h => (by rw [HV.out] at h; cases h), X3.out.trans ((Ext.alloc _ _).trans (Ext.alloc _ _))⟩
              rw [HV.out] at h
              obtain ⟨rfl, rfl⟩ : k = i' ∧ k + 1 + j = k' := by simpa using h
              refine ⟨_, rfl, ?_⟩
              rw [hcast]
              exact Blk.newAt _ _ _ (by simp)
            · have HC2 := Lib.hid (show Calls Try.prog 100 #[.agg #[.int .i64 x.1, .int .i64 x.2], .slice (some ⟨V2.heap.size, 0, none⟩) 1 1] (V2.alloc (.cells #[.int .i64 y.1, .int .i64 y.2] 41)) fun e w' => e = .returned (.tuple #[.agg #[.int .i64 (comS x y).1, .int .i64 (comS x y).2], .bool true]) ∧ Ext (V2.alloc (.cells #[.int .i64 y.1, .int .i64 y.2] 41)) w' from by
                have := HCO.out V2 x y
                rw [show comK (x.1, x.2) [y] = comS x y from rfl, show decide ((comS x y).1 ≤ (comS x y).2) = true from decide_eq_true (Decidable.not_not.1 hd)] at this
                exact this)
              have HIN := Lib.hid (HIS.out.trans (if_neg hd))
              generalize comS x y = cm at *
              clear hd
              go_wp2_with (go_at_call 100; refine HC2.out.mono ?_; rintro e V3 ⟨rfl, hx⟩; have X3 := Lib.hid ((XI.out.trans (Ext.alloc _ _)).trans hx); clear hx l0 l1 l2 l3)
              go_roundw
              case rel => exact ⟨j + 1, by omega, by go_num, XJ.out.trans (X3.out.trans (Ext.alloc _ _)), HIN.out⟩
              case measure => simp [intOf]; omega
          · have hjn : k + 1 + j = n := by omega
            have hj2 : ¬ (j : Int) < ((n - (k + 1) : Nat) : Int) := by omega
            have HV := Lib.hid (show fo = outK xs n (n - (k + 1)) (k + 1) by
              rw [HS.out, HI.out, hjn, Nat.sub_self]; rfl)
            clear hjn hjl
            go_wp2
            go_roundw
            case rel => exact ⟨k + 1, by omega, by go_num, X.out, HV.out⟩
            case measure => simp [intOf]; omega
      · have HV := Lib.hid (show fo = outK xs n (n - (k + 1)) (k + 1) by
          rw [HS.out, show n - (k + 1) = 0 by omega]; rfl)
        have hz0 : n - (k + 1) = 0 := by omega
        by_cases hca : ca = k + 1
        · subst hca
          go_wp2
          go_loopw [28] (fun i wr => i = .int .i64 0 ∧ Ext V wr) (fun i _ => 0)
          case atStart => exact ⟨rfl, Ext.refl _⟩
          case round =>
            obtain ⟨rfl, hx⟩ := hrel
            have X := Lib.hid (X.out.trans hx)
            clear hx
            go_wp2
            go_roundw
            case rel => exact ⟨k + 1, by omega, by go_num, X.out, HV.out⟩
            case measure => simp [intOf]; omega
        · skip
          go_wp2
          go_loopw [28] (fun i wr => i = .int .i64 0 ∧ Ext V wr) (fun i _ => 0)
          case atStart => exact ⟨rfl, Ext.refl _⟩
          case round =>
            obtain ⟨rfl, hx⟩ := hrel
            have X := Lib.hid (X.out.trans hx)
            clear hx
            go_wp2
            go_roundw
            case rel => exact ⟨k + 1, by omega, by go_num, X.out, HV.out⟩
            case measure => simp [intOf]; omega
    · have hkn : k = n := by omega
      have hlt2 : ¬ (k : Int) < (n : Int) := by omega
      have HV := Lib.hid (show fo = none by rw [HF.out, hkn, Nat.sub_self]; rfl)
      clear hkn hlt
      go_wp2
      go_ret2
      exact ⟨fun i k h => (by rw [HV.out] at h; cases h), fun _ => rfl, X.out⟩

set_option maxRecDepth 100000 in
set_option maxHeartbeats 4000000 in
theorem refContr_any {b1 o1 : Nat} {n ca : Nat} {xs : List (Int × Int)} {w : World} (hn : xs.length = n) (hA : RowsAt 2 frEnc w (some ⟨b1, o1, none⟩) xs) (hb : n ≤ 100) :
    Calls Try.prog 51 #[.slice (some ⟨b1, o1, none⟩) n ca] w fun e w' => (∀ i k, outK xs n n 0 = some (i, k) → ∃ q, e = .returned (.tuple #[.slice (some ⟨q, 0, none⟩) 2 2, .bool true]) ∧ Blk w' q 3 #[.int .i64 (i : Nat), .int .i64 (k : Nat)]) ∧ (outK xs n n 0 = none → e = .returned (.tuple #[.slice none 0 0, .bool false])) ∧ Ext w w' := by
  obtain ⟨fo, hfo⟩ : ∃ fo, fo = outK xs n n 0 := ⟨_, rfl⟩
  have HFO := Lib.hid (show fo = outK xs n (n - 0) 0 from hfo)
  rw [← hfo]
  have HA := Lib.hid hA
  have HN := Lib.hid hn
  clear hn hA hfo
  go_enter Try.func51, Try.ntmps51
  go_wp2
  go_loopw [4] (fun i wr => ∃ k : Nat, k ≤ n ∧ i = .int .i64 k ∧ Ext w wr ∧ fo = outK xs n (n - k) k) (fun i _ => n - (intOf i).toNat)
  case atStart => exact ⟨0, Nat.zero_le _, rfl, Ext.refl _, HFO.out⟩
  case round =>
    obtain ⟨k, hk, rfl, hx, hf⟩ := hrel
    have X := Lib.hid hx
    have HF := Lib.hid hf
    clear hx hf
    by_cases hlt : k < n
    · obtain ⟨x, hxk⟩ : ∃ x, x = xs.getD k default := ⟨_, rfl⟩
      have gx := gR HN.out hlt
      rw [← hxk] at gx
      have HRX := Lib.hid (fun W (e : Ext w W) => row_at (HA.out.ext e) gx)
      have HS := Lib.hid (HF.out.trans (outK_step xs hlt))
      have HXK := Lib.hid hxk
      clear gx hxk
      have hlt2 : (k : Int) < (n : Int) := by omega
      obtain ⟨wo, hwo⟩ : ∃ x, x = wr := ⟨_, rfl⟩
      subst hwo
      go_wp2
      go_loopw [5] (fun i wr => ∃ j : Nat, k + 1 ≤ j ∧ j ≤ n ∧ i = .int .i64 (j : Nat) ∧ Ext wo wr ∧ inn xs k (n - (k + 1)) (k + 1) = inn xs k (n - j) j) (fun i _ => n - (intOf i).toNat)
      case atStart => exact ⟨k + 1, by omega, by omega, by go_num, Ext.refl _, rfl⟩
      case round =>
        obtain ⟨j, hj1, hj, rfl, hx, hi⟩ := hrel
        have XJ := Lib.hid hx
        have X := Lib.hid (X.out.trans hx)
        have HI := Lib.hid hi
        clear hx hi
        by_cases hjl : j < n
        · obtain ⟨y, hyk⟩ : ∃ y, y = xs.getD j default := ⟨_, rfl⟩
          have gy := gR HN.out hjl
          rw [← hyk] at gy
          obtain ⟨b2, o2, he, -, hcx⟩ := HRX.out _ X.out
          obtain ⟨rfl, rfl⟩ : b1 = b2 ∧ o1 = o2 := by simpa using he
          obtain ⟨b2, o2, he2, -, hcc⟩ := row_at (HA.out.ext X.out) gy
          obtain ⟨rfl, rfl⟩ : b1 = b2 ∧ o1 = o2 := by simpa using he2
          have p0 : wr.cell? ⟨b1, o1 + k * 2, none⟩ = some (.int .i64 x.1) := hcx 0 _ rfl
          have p1 : wr.cell? ⟨b1, o1 + k * 2 + 1, none⟩ = some (.int .i64 x.2) := hcx 1 _ rfl
          have q0 : wr.cell? ⟨b1, o1 + j * 2, none⟩ = some (.int .i64 y.1) := hcc 0 _ rfl
          have q1 : wr.cell? ⟨b1, o1 + j * 2 + 1, none⟩ = some (.int .i64 y.2) := hcc 1 _ rfl
          have HIS := Lib.hid (HI.out.trans (inn_step xs k hjl))
          rw [← hyk, ← HXK.out] at HIS
          clear he he2 hcc hcx gy hyk
          have hj2 : (j : Int) < (n : Int) := by omega
          by_cases hd : dis x y
          · have HV := Lib.hid (show fo = some (k, j) by rw [HS.out, HIS.out, if_pos hd])
            have HAG := Lib.hid (fun W b o c (h : RowsAt 2 frEnc W (some ⟨b, o, none⟩) [x, y]) => show Calls Try.prog 50 #[.slice (some ⟨b, o, none⟩) 2 c] W fun e w' => e = .returned (.tuple #[.agg #[.int .i64 0, .int .i64 0], .bool false]) ∧ Ext W w' from by
              have := refAgreed_any (ca := c) (x0 := x) (by rfl) h rfl
              rw [comK_two, if_neg hd] at this
              exact this)
            clear hd
            go_wp2
            refine wp_region_free [.op, .op, .op, .op, .op, .op, .op, .op, .op, .op, .op, .op, .late (.bool (false)), .new, .store, .late (.bool (false))] [14] [6, 33] [6] [some 23, some 24, some 25, some 26, some 27, some 28, some 29, some 30, some 31, some 32, some 22, some 33, some 34, some 6, none, some 7] [[0], [4], [23, 24], [25], [0], [5], [27, 28], [29], [26, 30], [31], [32], [22], [22], [], [6, 33], [34]]
              [Is (.slice (some ⟨b1, o1, none⟩) n ca), Is (.int .i64 ((k : Int))), Is (.pointer (some ⟨b1, o1 + k * 2, none⟩)), Is (.agg #[.int .i64 (x.1), .int .i64 (x.2)]), Is (.slice (some ⟨b1, o1, none⟩) n ca), Is (.int .i64 ((j : Int))), Is (.pointer (some ⟨b1, o1 + j * 2, none⟩)), Is (.agg #[.int .i64 (y.1), .int .i64 (y.2)]), RgC 2 [x, y], Is (.tuple #[.agg #[.int .i64 0, .int .i64 0], .bool false]), Is (.tuple #[.agg #[.int .i64 0, .int .i64 0], .bool false]), Is (.agg #[.int .i64 0, .int .i64 0]), Is (.bool (false)), NewP wr.heap.size 41 #[.int .i64 0, .int .i64 0], fun _ _ => True, Is (.bool (false))]
              (by kernel_rfl) (by kernel_rfl) (by kernel_rfl) (by kernel_rfl) (by kernel_rfl) (by kernel_rfl) (by kernel_rfl) (by kernel_rfl) (by kernel_rfl) Ext (fun W => Ext wr W)
              (fun W _ => Ext.refl W) (fun W W' h k => h.trans k) (fun W W' h => h.size) ?_ (Ext.drew _) ?_ ?_
            · repeat (refine ⟨fun _ _ _ _ k h => (by first | exact h | exact (by first | exact IntsAt.ext h k | exact NewP.ext h k | exact RgC.ext h k)), ?_⟩)
              exact trivial
            · refine ⟨?_, ?_, ?_, ?_, ?_, ?_, ?_, ?_, ?_, ?_, ?_, ?_, ?_, ?_, ?_, trivial⟩
              · intro ρ W ⟨kc, kg, kf⟩ hF hs
                obtain ⟨h0, -⟩ := hs
                replace h0 : ρ (.tmp 0) = .slice (some ⟨b1, o1, none⟩) n ca := h0
                go_simp
                exact ⟨Ext.refl _, rfl⟩
              · intro ρ W ⟨kc, kg, kf⟩ hF hs
                obtain ⟨h0, -⟩ := hs
                replace h0 : ρ (.tmp 4) = .int .i64 ((k : Int)) := h0
                go_simp
                exact ⟨Ext.refl _, rfl⟩
              · intro ρ W ⟨kc, kg, kf⟩ hF hs
                obtain ⟨h0, h1, -⟩ := hs
                replace h0 : ρ (.tmp 23) = .slice (some ⟨b1, o1, none⟩) n ca := h0
                replace h1 : ρ (.tmp 24) = .int .i64 ((k : Int)) := h1
                have hb1 : (k : Int) < (n : Int) := by omega
                have hb3 : (0 : Int) ≤ (k : Int) := by omega
                have hb4 : ((k : Int)).toNat = k := by omega
                have hb8 : k < n := by omega
                go_simp
                exact ⟨Ext.refl _, rfl⟩
              · intro ρ W ⟨kc, kg, kf⟩ hF hs
                obtain ⟨h0, -⟩ := hs
                replace h0 : ρ (.tmp 25) = .pointer (some ⟨b1, o1 + k * 2, none⟩) := h0
                have hc0 : W.cell? ⟨b1, o1 + k * 2, none⟩ = some (.int .i64 (x.1)) := hF.cell (by assumption)
                have hc1 : W.cell? ⟨b1, o1 + k * 2 + 1, none⟩ = some (.int .i64 (x.2)) := hF.cell (by assumption)
                go_simp
                exact ⟨Ext.refl _, rfl⟩
              · intro ρ W ⟨kc, kg, kf⟩ hF hs
                obtain ⟨h0, -⟩ := hs
                replace h0 : ρ (.tmp 0) = .slice (some ⟨b1, o1, none⟩) n ca := h0
                go_simp
                exact ⟨Ext.refl _, rfl⟩
              · intro ρ W ⟨kc, kg, kf⟩ hF hs
                obtain ⟨h0, -⟩ := hs
                replace h0 : ρ (.tmp 5) = .int .i64 ((j : Int)) := h0
                go_simp
                exact ⟨Ext.refl _, rfl⟩
              · intro ρ W ⟨kc, kg, kf⟩ hF hs
                obtain ⟨h0, h1, -⟩ := hs
                replace h0 : ρ (.tmp 27) = .slice (some ⟨b1, o1, none⟩) n ca := h0
                replace h1 : ρ (.tmp 28) = .int .i64 ((j : Int)) := h1
                have hb1 : ((j : Nat) : Int) < (n : Int) := by omega
                have hb3 : (0 : Int) ≤ ((j : Nat) : Int) := by omega
                have hb4 : ((j : Nat) : Int).toNat = j := by omega
                have hb8 : j < n := by omega
                go_simp
                exact ⟨Ext.refl _, rfl⟩
              · intro ρ W ⟨kc, kg, kf⟩ hF hs
                obtain ⟨h0, -⟩ := hs
                replace h0 : ρ (.tmp 29) = .pointer (some ⟨b1, o1 + j * 2, none⟩) := h0
                have hc0 : W.cell? ⟨b1, o1 + j * 2, none⟩ = some (.int .i64 (y.1)) := hF.cell (by assumption)
                have hc1 : W.cell? ⟨b1, o1 + j * 2 + 1, none⟩ = some (.int .i64 (y.2)) := hF.cell (by assumption)
                go_simp
                exact ⟨Ext.refl _, rfl⟩
              · intro ρ W ⟨kc, kg, kf⟩ hF hs
                obtain ⟨h0, h1, -⟩ := hs
                replace h0 : ρ (.tmp 26) = .agg #[.int .i64 (x.1), .int .i64 (x.2)] := h0
                replace h1 : ρ (.tmp 30) = .agg #[.int .i64 (y.1), .int .i64 (y.2)] := h1
                go_simp
                exact ⟨Ext.alloc _ _, _, _, rfl, rows_new2 _ _ _⟩
              · intro ρ W ⟨kc, kg, kf⟩ hF hs
                obtain ⟨h0, -⟩ := hs
                replace h0 : (RgC 2 [x, y]) (ρ (.tmp 31)) W := h0
                obtain ⟨A2, c2, hv, hr2⟩ := h0
                obtain ⟨b2, o2, rfl, -, -⟩ := row_at hr2 (i := 0) (x := x) rfl
                have hv2 : ρ (.tmp 31) = .slice (some ⟨b2, o2, none⟩) 2 c2 := hv
                clear hv
                go_simp
                refine (HAG.out _ _ _ _ hr2).mono ?_; rintro e w' ⟨rfl, hx⟩; exact ⟨_, rfl, hx, rfl⟩
              · intro ρ W ⟨kc, kg, kf⟩ hF hs
                obtain ⟨h0, -⟩ := hs
                replace h0 : ρ (.tmp 32) = .tuple #[.agg #[.int .i64 0, .int .i64 0], .bool false] := h0
                go_simp
                exact ⟨Ext.refl _, rfl⟩
              · intro ρ W ⟨kc, kg, kf⟩ hF hs
                obtain ⟨h0, -⟩ := hs
                replace h0 : ρ (.tmp 22) = .tuple #[.agg #[.int .i64 0, .int .i64 0], .bool false] := h0
                go_simp
                exact ⟨Ext.refl _, rfl⟩
              · refine ⟨rfl, fun ρ W ⟨kc, kg, kf⟩ hF hs W' => ?_⟩
                obtain ⟨h0, -⟩ := hs
                replace h0 : ρ (.tmp 22) = .tuple #[.agg #[.int .i64 0, .int .i64 0], .bool false] := h0
                go_simp
              · intro ρ W ⟨kc, kg, kf⟩ hF hs
                exact ⟨W.alloc (.cells #[.int .i64 0, .int .i64 0] 41), (by go_simp), by simp, Ext.alloc _ _, _, rfl, hF.size, Blk.new _ _ _⟩
              · refine ⟨rfl, fun ρ W ⟨kc, kg, kf⟩ hF hs W' => ?_⟩
                obtain ⟨h0, -⟩ := hs
                replace h0 : ρ (.tmp 34) = .bool (false) := h0
                go_simp
            · intro fv U hF hs hap σ hσ ρ ⟨kc, kg, kf⟩ hr
              obtain ⟨-, -, -, -, -, -, -, -, -, -, -, h33, h34, h6, h7, -⟩ := hs
              replace h33 : fv 33 = .agg #[.int .i64 0, .int .i64 0] := h33
              replace h34 : fv 34 = .bool (false) := h34
              replace h6 : (NewP wr.heap.size 41 #[.int .i64 0, .int .i64 0]) (fv 6) U := h6
              replace h7 : fv 7 = .bool (false) := h7
              obtain ⟨r0, r1, -⟩ := hr
              replace r0 : ρ (.tmp 6) = fv 6 := r0
              replace r1 : ρ (.tmp 33) = .agg #[.int .i64 0, .int .i64 0] := r1.trans h33
              obtain ⟨q6, hq6, hqs6, hb6⟩ := h6
              rw [hq6] at r0
              have f6_0 := hb6.free 0
              have c6_0 : U.cell? ⟨q6, 0, none⟩ = some (.int .i64 0) := hb6.cell 0
              have f6_1 := hb6.free 1
              have c6_1 : U.cell? ⟨q6, 1, none⟩ = some (.int .i64 0) := hb6.cell 1
              refine stores_one _ rfl hσ ((U.setCell ⟨q6, 0, none⟩ (.int .i64 0)).setCell ⟨q6, 1, none⟩ (.int .i64 0)) (by go_simp) ?_
              obtain ⟨V, hV⟩ : ∃ Vx, Vx = (U.setCell ⟨q6, 0, none⟩ (.int .i64 0)).setCell ⟨q6, 1, none⟩ (.int .i64 0) := ⟨_, rfl⟩
              rw [← hV]
              have K6 := Lib.hid (show Blk V q6 41 #[.int .i64 0, .int .i64 0] by rw [hV]; exact (hb6.setSame 0 _).setSame 1 _)
              have XN := Lib.hid (show Ext wr V by rw [hV]; exact Ext.set (Ext.set hF (by dsimp only; exact hqs6) _) (by dsimp only; exact hqs6) _)
              have L6 := Lib.hid hqs6
              clear f6_0 c6_0 f6_1 c6_1
              clear hV hF hap hσ r0 r1 kc kg kf hb6 hqs6
              simp only [fin, List.filterMap]
              go_simp
              try rw [hq6]
              clear hq6
              clear ρ σ h33 h34 h7
              have X := Lib.hid (X.out.trans XN.out)
              clear XN p0 p1 q0 q1 L6 K6
              go_wp2
              go_ret2
              refine ⟨fun i' k' h => ?_, fun h => (by rw [HV.out] at h; cases h), X.out.trans (Ext.alloc _ _)⟩
              rw [HV.out] at h
              obtain ⟨rfl, rfl⟩ : k = i' ∧ j = k' := by simpa using h
              exact ⟨_, rfl, Blk.new _ _ _⟩
          · have HIN := Lib.hid (HIS.out.trans (if_neg hd))
            have HAG := Lib.hid (fun W b o c (h : RowsAt 2 frEnc W (some ⟨b, o, none⟩) [x, y]) => show Calls Try.prog 50 #[.slice (some ⟨b, o, none⟩) 2 c] W fun e w' => e = .returned (.tuple #[.agg #[.int .i64 (comS x y).1, .int .i64 (comS x y).2], .bool true]) ∧ Ext W w' from by
              have := refAgreed_any (ca := c) (x0 := x) (by rfl) h rfl
              rw [comK_two, if_pos (Decidable.not_not.1 hd)] at this
              exact this)
            generalize comS x y = cm at *
            clear hd
            go_wp2
            refine wp_region_free [.op, .op, .op, .op, .op, .op, .op, .op, .op, .op, .op, .op, .late (.bool (true)), .new, .store, .late (.bool (true))] [14] [6, 33] [6] [some 23, some 24, some 25, some 26, some 27, some 28, some 29, some 30, some 31, some 32, some 22, some 33, some 34, some 6, none, some 7] [[0], [4], [23, 24], [25], [0], [5], [27, 28], [29], [26, 30], [31], [32], [22], [22], [], [6, 33], [34]]
              [Is (.slice (some ⟨b1, o1, none⟩) n ca), Is (.int .i64 ((k : Int))), Is (.pointer (some ⟨b1, o1 + k * 2, none⟩)), Is (.agg #[.int .i64 (x.1), .int .i64 (x.2)]), Is (.slice (some ⟨b1, o1, none⟩) n ca), Is (.int .i64 ((j : Int))), Is (.pointer (some ⟨b1, o1 + j * 2, none⟩)), Is (.agg #[.int .i64 (y.1), .int .i64 (y.2)]), RgC 2 [x, y], Is (.tuple #[.agg #[.int .i64 cm.1, .int .i64 cm.2], .bool true]), Is (.tuple #[.agg #[.int .i64 cm.1, .int .i64 cm.2], .bool true]), Is (.agg #[.int .i64 cm.1, .int .i64 cm.2]), Is (.bool (true)), NewP wr.heap.size 41 #[.int .i64 0, .int .i64 0], fun _ _ => True, Is (.bool (true))]
              (by kernel_rfl) (by kernel_rfl) (by kernel_rfl) (by kernel_rfl) (by kernel_rfl) (by kernel_rfl) (by kernel_rfl) (by kernel_rfl) (by kernel_rfl) Ext (fun W => Ext wr W)
              (fun W _ => Ext.refl W) (fun W W' h k => h.trans k) (fun W W' h => h.size) ?_ (Ext.drew _) ?_ ?_
            · repeat (refine ⟨fun _ _ _ _ k h => (by first | exact h | exact (by first | exact IntsAt.ext h k | exact NewP.ext h k | exact RgC.ext h k)), ?_⟩)
              exact trivial
            · refine ⟨?_, ?_, ?_, ?_, ?_, ?_, ?_, ?_, ?_, ?_, ?_, ?_, ?_, ?_, ?_, trivial⟩
              · intro ρ W ⟨kc, kg, kf⟩ hF hs
                obtain ⟨h0, -⟩ := hs
                replace h0 : ρ (.tmp 0) = .slice (some ⟨b1, o1, none⟩) n ca := h0
                go_simp
                exact ⟨Ext.refl _, rfl⟩
              · intro ρ W ⟨kc, kg, kf⟩ hF hs
                obtain ⟨h0, -⟩ := hs
                replace h0 : ρ (.tmp 4) = .int .i64 ((k : Int)) := h0
                go_simp
                exact ⟨Ext.refl _, rfl⟩
              · intro ρ W ⟨kc, kg, kf⟩ hF hs
                obtain ⟨h0, h1, -⟩ := hs
                replace h0 : ρ (.tmp 23) = .slice (some ⟨b1, o1, none⟩) n ca := h0
                replace h1 : ρ (.tmp 24) = .int .i64 ((k : Int)) := h1
                have hb1 : (k : Int) < (n : Int) := by omega
                have hb3 : (0 : Int) ≤ (k : Int) := by omega
                have hb4 : ((k : Int)).toNat = k := by omega
                have hb8 : k < n := by omega
                go_simp
                exact ⟨Ext.refl _, rfl⟩
              · intro ρ W ⟨kc, kg, kf⟩ hF hs
                obtain ⟨h0, -⟩ := hs
                replace h0 : ρ (.tmp 25) = .pointer (some ⟨b1, o1 + k * 2, none⟩) := h0
                have hc0 : W.cell? ⟨b1, o1 + k * 2, none⟩ = some (.int .i64 (x.1)) := hF.cell (by assumption)
                have hc1 : W.cell? ⟨b1, o1 + k * 2 + 1, none⟩ = some (.int .i64 (x.2)) := hF.cell (by assumption)
                go_simp
                exact ⟨Ext.refl _, rfl⟩
              · intro ρ W ⟨kc, kg, kf⟩ hF hs
                obtain ⟨h0, -⟩ := hs
                replace h0 : ρ (.tmp 0) = .slice (some ⟨b1, o1, none⟩) n ca := h0
                go_simp
                exact ⟨Ext.refl _, rfl⟩
              · intro ρ W ⟨kc, kg, kf⟩ hF hs
                obtain ⟨h0, -⟩ := hs
                replace h0 : ρ (.tmp 5) = .int .i64 ((j : Int)) := h0
                go_simp
                exact ⟨Ext.refl _, rfl⟩
              · intro ρ W ⟨kc, kg, kf⟩ hF hs
                obtain ⟨h0, h1, -⟩ := hs
                replace h0 : ρ (.tmp 27) = .slice (some ⟨b1, o1, none⟩) n ca := h0
                replace h1 : ρ (.tmp 28) = .int .i64 ((j : Int)) := h1
                have hb1 : ((j : Nat) : Int) < (n : Int) := by omega
                have hb3 : (0 : Int) ≤ ((j : Nat) : Int) := by omega
                have hb4 : ((j : Nat) : Int).toNat = j := by omega
                have hb8 : j < n := by omega
                go_simp
                exact ⟨Ext.refl _, rfl⟩
              · intro ρ W ⟨kc, kg, kf⟩ hF hs
                obtain ⟨h0, -⟩ := hs
                replace h0 : ρ (.tmp 29) = .pointer (some ⟨b1, o1 + j * 2, none⟩) := h0
                have hc0 : W.cell? ⟨b1, o1 + j * 2, none⟩ = some (.int .i64 (y.1)) := hF.cell (by assumption)
                have hc1 : W.cell? ⟨b1, o1 + j * 2 + 1, none⟩ = some (.int .i64 (y.2)) := hF.cell (by assumption)
                go_simp
                exact ⟨Ext.refl _, rfl⟩
              · intro ρ W ⟨kc, kg, kf⟩ hF hs
                obtain ⟨h0, h1, -⟩ := hs
                replace h0 : ρ (.tmp 26) = .agg #[.int .i64 (x.1), .int .i64 (x.2)] := h0
                replace h1 : ρ (.tmp 30) = .agg #[.int .i64 (y.1), .int .i64 (y.2)] := h1
                go_simp
                exact ⟨Ext.alloc _ _, _, _, rfl, rows_new2 _ _ _⟩
              · intro ρ W ⟨kc, kg, kf⟩ hF hs
                obtain ⟨h0, -⟩ := hs
                replace h0 : (RgC 2 [x, y]) (ρ (.tmp 31)) W := h0
                obtain ⟨A2, c2, hv, hr2⟩ := h0
                obtain ⟨b2, o2, rfl, -, -⟩ := row_at hr2 (i := 0) (x := x) rfl
                have hv2 : ρ (.tmp 31) = .slice (some ⟨b2, o2, none⟩) 2 c2 := hv
                clear hv
                go_simp
                refine (HAG.out _ _ _ _ hr2).mono ?_; rintro e w' ⟨rfl, hx⟩; exact ⟨_, rfl, hx, rfl⟩
              · intro ρ W ⟨kc, kg, kf⟩ hF hs
                obtain ⟨h0, -⟩ := hs
                replace h0 : ρ (.tmp 32) = .tuple #[.agg #[.int .i64 cm.1, .int .i64 cm.2], .bool true] := h0
                go_simp
                exact ⟨Ext.refl _, rfl⟩
              · intro ρ W ⟨kc, kg, kf⟩ hF hs
                obtain ⟨h0, -⟩ := hs
                replace h0 : ρ (.tmp 22) = .tuple #[.agg #[.int .i64 cm.1, .int .i64 cm.2], .bool true] := h0
                go_simp
                exact ⟨Ext.refl _, rfl⟩
              · refine ⟨rfl, fun ρ W ⟨kc, kg, kf⟩ hF hs W' => ?_⟩
                obtain ⟨h0, -⟩ := hs
                replace h0 : ρ (.tmp 22) = .tuple #[.agg #[.int .i64 cm.1, .int .i64 cm.2], .bool true] := h0
                go_simp
              · intro ρ W ⟨kc, kg, kf⟩ hF hs
                exact ⟨W.alloc (.cells #[.int .i64 0, .int .i64 0] 41), (by go_simp), by simp, Ext.alloc _ _, _, rfl, hF.size, Blk.new _ _ _⟩
              · refine ⟨rfl, fun ρ W ⟨kc, kg, kf⟩ hF hs W' => ?_⟩
                obtain ⟨h0, -⟩ := hs
                replace h0 : ρ (.tmp 34) = .bool (true) := h0
                go_simp
            · intro fv U hF hs hap σ hσ ρ ⟨kc, kg, kf⟩ hr
              obtain ⟨-, -, -, -, -, -, -, -, -, -, -, h33, h34, h6, h7, -⟩ := hs
              replace h33 : fv 33 = .agg #[.int .i64 cm.1, .int .i64 cm.2] := h33
              replace h34 : fv 34 = .bool (true) := h34
              replace h6 : (NewP wr.heap.size 41 #[.int .i64 0, .int .i64 0]) (fv 6) U := h6
              replace h7 : fv 7 = .bool (true) := h7
              obtain ⟨r0, r1, -⟩ := hr
              replace r0 : ρ (.tmp 6) = fv 6 := r0
              replace r1 : ρ (.tmp 33) = .agg #[.int .i64 cm.1, .int .i64 cm.2] := r1.trans h33
              obtain ⟨q6, hq6, hqs6, hb6⟩ := h6
              rw [hq6] at r0
              have f6_0 := hb6.free 0
              have c6_0 : U.cell? ⟨q6, 0, none⟩ = some (.int .i64 0) := hb6.cell 0
              have f6_1 := hb6.free 1
              have c6_1 : U.cell? ⟨q6, 1, none⟩ = some (.int .i64 0) := hb6.cell 1
              refine stores_one _ rfl hσ ((U.setCell ⟨q6, 0, none⟩ (.int .i64 cm.1)).setCell ⟨q6, 1, none⟩ (.int .i64 cm.2)) (by go_simp) ?_
              obtain ⟨V, hV⟩ : ∃ Vx, Vx = (U.setCell ⟨q6, 0, none⟩ (.int .i64 cm.1)).setCell ⟨q6, 1, none⟩ (.int .i64 cm.2) := ⟨_, rfl⟩
              rw [← hV]
              have K6 := Lib.hid (show Blk V q6 41 #[.int .i64 cm.1, .int .i64 cm.2] by rw [hV]; exact (hb6.setSame 0 _).setSame 1 _)
              have XN := Lib.hid (show Ext wr V by rw [hV]; exact Ext.set (Ext.set hF (by dsimp only; exact hqs6) _) (by dsimp only; exact hqs6) _)
              have L6 := Lib.hid hqs6
              clear f6_0 c6_0 f6_1 c6_1
              clear hV hF hap hσ r0 r1 kc kg kf hb6 hqs6
              simp only [fin, List.filterMap]
              go_simp
              try rw [hq6]
              clear hq6
              clear ρ σ h33 h34 h7
              have XJ := Lib.hid (XJ.out.trans XN.out)
              clear XN p0 p1 q0 q1 L6 K6
              go_wp2
              go_roundw
              case rel => exact ⟨j + 1, by omega, by omega, by go_num, XJ.out, HIN.out⟩
              case measure => simp [intOf]; omega
        · have hjn : j = n := by omega
          have hj2 : ¬ (j : Int) < (n : Int) := by omega
          have HV := Lib.hid (show fo = outK xs n (n - (k + 1)) (k + 1) by
            rw [HS.out, HI.out, hjn, Nat.sub_self]; rfl)
          clear hjn hjl
          go_wp2
          go_roundw
          case rel => exact ⟨k + 1, by omega, by go_num, X.out, HV.out⟩
          case measure => simp [intOf]; omega
    · have hkn : k = n := by omega
      have hlt2 : ¬ (k : Int) < (n : Int) := by omega
      have HV := Lib.hid (show fo = none by rw [HF.out, hkn, Nat.sub_self]; rfl)
      clear hkn hlt
      go_wp2
      go_ret2
      exact ⟨fun i k h => (by rw [HV.out] at h; cases h), fun _ => rfl, X.out⟩

end Go.Proofs.Ytmddnpagfgilcaa
