/- Curves, where they fall. -/
import Derived.Test.YtmddnpagfgilcaaC4
import Derived.Test.YtmddnpagfgilcaaG8
import Derived.Test.YtmddnpagfgilcaaG4
import Derived.Test.YtmddnpagfgilcaaG3
import Derived.Test.YtmddnpagfgilcaaR7
import Derived.Lib.MinMax

namespace Go.Proofs.Ytmddnpagfgilcaa
open Go.RowKit Go.Shelf Go.Mem Go.RegInv
attribute [local go_sem] RelUpon_value RelUpon_skip RelUpon_enter BigFrame.eval_const BigFrame.eval_global BigFrame.eval_func


set_option maxRecDepth 100000 in
set_option maxHeartbeats 2000000 in
theorem curveLo_any {A : Option Addr} {n ca : Nat} {xs : List In} {w : World} (hn : xs.length = n) (hn2 : n ≤ 100) (hA : RowsAt 4 In.enc w A xs) :
    Calls Try.prog 22 #[.agg #[.slice A n ca], .int .i64 0] w fun e w' => ∃ A' c', e = .returned (.slice A' n c') ∧ RowsAt 2 frEnc w' A' (xs.map fun x => (x.d, x.lo)) ∧ Ext w w' := by
  obtain ⟨W0, hW0⟩ : ∃ W0, W0 = w.alloc (.cells #[.slice A n ca] 24) := ⟨_, rfl⟩
  have K0 := Lib.hid (show Blk W0 w.heap.size 24 #[.slice A n ca] by rw [hW0]; exact Blk.new _ _ _)
  have E0 := Lib.hid (show Ext w W0 by rw [hW0]; exact Ext.alloc _ _)
  have HA := Lib.hid hA
  have HN := Lib.hid hn
  clear hA hn
  go_enter Try.func22, Try.ntmps22
  go_wp2
  rw [← hW0]
  clear hW0
  go_wp2
  go_loopw [5, 6] (fun v i wr => ∃ (k c : Nat) (R : Option Addr), k ≤ n ∧ i = .int .i64 k ∧ v = .slice R k c ∧ wr.ownsRow W0.heap.size 141 2 (.slice R k c) k (((xs.take k).map fun x => (x.d, x.lo)).flatMap frEnc) ∧ Ext W0 wr) (fun _ i _ => n - (intOf i).toNat)
  case atStart => exact ⟨0, 0, none, Nat.zero_le _, rfl, rfl, own_none _ _ _ _, Ext.refl _⟩
  case round =>
    obtain ⟨k, c, R, hk, rfl, rfl, ho, hx⟩ := hrel
    have X := Lib.hid hx
    have O := Lib.hid ho
    have SZ := Lib.hid (show W0.heap.size ≤ wr.heap.size from hx.size)
    clear hx ho
    have y0 : wr.cell? ⟨w.heap.size, 0, none⟩ = some (.slice A n ca) := (K0.out.ext X.out).cell 0
    by_cases hlt : k < n
    · obtain ⟨x, hxk⟩ : ∃ x, xs[k]? = some x := ⟨_, List.getElem?_eq_getElem (by have := HN.out; omega)⟩
      obtain ⟨b, o, rfl, hb, hc⟩ := row_at (HA.out.ext (E0.out.trans X.out)) hxk
      have p0 : wr.cell? ⟨b, o + k * 4, none⟩ = some (.int .i64 x.d) := hc 0 _ rfl
      have p1 : wr.cell? ⟨b, o + k * 4 + 1, none⟩ = some (.int .i64 x.g) := hc 1 _ rfl
      have p2 : wr.cell? ⟨b, o + k * 4 + 2, none⟩ = some (.int .i64 x.lo) := hc 2 _ rfl
      have p3 : wr.cell? ⟨b, o + k * 4 + 3, none⟩ = some (.int .i64 x.hi) := hc 3 _ rfl
      have HS := Lib.hid (show ((xs.take (k + 1)).map fun x => (x.d, x.lo)).flatMap frEnc = ((xs.take k).map fun x => (x.d, x.lo)).flatMap frEnc ++ [.int .i64 x.d, .int .i64 x.lo] by
        rw [List.take_add_one, hxk, List.map_append, List.flatMap_append]
        rfl)
      clear hb hc hxk
      have hlt2 : (k : Int) < (n : Int) := by omega
      have hb1 : ((k : Int)).toNat = k := by omega
      go_wp2
      obtain ⟨W5, hW5⟩ : ∃ W5, W5 = wr.alloc (.cells #[.int .i64 x.d, .int .i64 x.g, .int .i64 x.lo, .int .i64 x.hi] 43) := ⟨_, rfl⟩
      rw [← hW5]
      have Q := Lib.hid (show Blk W5 wr.heap.size 43 #[.int .i64 x.d, .int .i64 x.g, .int .i64 x.lo, .int .i64 x.hi] by rw [hW5]; exact Blk.new _ _ _)
      have hx5 : Ext wr W5 := by rw [hW5]; exact Ext.alloc _ _
      have X5 := Lib.hid hx5
      have l0 : W5.cell? ⟨wr.heap.size, 0, none⟩ = some (.int .i64 x.d) := Q.out.cell 0
      have l1 : W5.cell? ⟨wr.heap.size, 1, none⟩ = some (.int .i64 x.g) := Q.out.cell 1
      have l2 : W5.cell? ⟨wr.heap.size, 2, none⟩ = some (.int .i64 x.lo) := Q.out.cell 2
      have l3 : W5.cell? ⟨wr.heap.size, 3, none⟩ = some (.int .i64 x.hi) := Q.out.cell 3
      clear y0 p0 p1 p2 p3 hx5 hW5 Q hb1
      generalize hq : wr.heap.size = q at *
      have SQ := Lib.hid hq
      clear hq
      refine wp_region_partR 15 [some 20, some 21, some 22, some 23, some 24, some 25, some 26, some 27, some 28, some 29, some 30, some 31, some 32, some 33, some 34] [[5], [7], [21], [7], [23], [24], [7], [26], [27], [25, 28], [1], [29, 30], [31], [22, 32], [33]]
        [Is (.slice R k c), Is (.pointer (some ⟨q, 0, none⟩)), Is (.int .i64 (x.d)), Is (.pointer (some ⟨q, 2, none⟩)), Is (.pointer (some ⟨q, 2, none⟩)), Is (.int .i64 (x.lo)), Is (.pointer (some ⟨q, 2, none⟩)), Is (.pointer (some ⟨q, 3, none⟩)), Is (.int .i64 (x.hi)), Ints [x.lo, x.hi], Is (.int .i64 (0)), CellP (x.lo), Is (.int .i64 (x.lo)), Is (.agg #[.int .i64 x.d, .int .i64 x.lo]), SlP 141 #[.int .i64 x.d, .int .i64 x.lo]]
        (by kernel_rfl) (by kernel_rfl) (by kernel_rfl) (by kernel_rfl) (by kernel_rfl) (by kernel_rfl) (by kernel_rfl) Ext (fun W => Ext W5 W)
        (fun W _ => Ext.refl W) (fun W W' h k => h.trans k) ?_ (Ext.drew _) ?_ ?_
      · repeat (refine ⟨fun _ _ _ _ k h => (by first | exact h | exact (by first | exact IntsAt.ext h k | exact CellP.ext h k | exact SlP.ext h k)), ?_⟩)
        exact trivial
      · refine ⟨?_, ?_, ?_, ?_, ?_, ?_, ?_, ?_, ?_, ?_, ?_, ?_, ?_, ?_, ?_, trivial⟩
        all_goals intro ρ W ⟨kc, kg, kf⟩ hF hs
        · obtain ⟨h0, -⟩ := hs
          replace h0 : ρ (.tmp 5) = .slice R k c := h0
          go_simp
          exact ⟨Ext.refl _, rfl⟩
        · obtain ⟨h0, -⟩ := hs
          replace h0 : ρ (.tmp 7) = .pointer (some ⟨q, 0, none⟩) := h0
          go_simp
          exact ⟨Ext.refl _, rfl⟩
        · obtain ⟨h0, -⟩ := hs
          replace h0 : ρ (.tmp 21) = .pointer (some ⟨q, 0, none⟩) := h0
          have hc0 : W.cell? ⟨q, 0, none⟩ = some (.int .i64 (x.d)) := hF.cell (by assumption)
          go_simp
          exact ⟨Ext.refl _, rfl⟩
        · obtain ⟨h0, -⟩ := hs
          replace h0 : ρ (.tmp 7) = .pointer (some ⟨q, 0, none⟩) := h0
          go_simp
          exact ⟨Ext.refl _, rfl⟩
        · obtain ⟨h0, -⟩ := hs
          replace h0 : ρ (.tmp 23) = .pointer (some ⟨q, 2, none⟩) := h0
          go_simp
          exact ⟨Ext.refl _, rfl⟩
        · obtain ⟨h0, -⟩ := hs
          replace h0 : ρ (.tmp 24) = .pointer (some ⟨q, 2, none⟩) := h0
          have hc0 : W.cell? ⟨q, 2, none⟩ = some (.int .i64 (x.lo)) := hF.cell (by assumption)
          go_simp
          exact ⟨Ext.refl _, rfl⟩
        · obtain ⟨h0, -⟩ := hs
          replace h0 : ρ (.tmp 7) = .pointer (some ⟨q, 0, none⟩) := h0
          go_simp
          exact ⟨Ext.refl _, rfl⟩
        · obtain ⟨h0, -⟩ := hs
          replace h0 : ρ (.tmp 26) = .pointer (some ⟨q, 2, none⟩) := h0
          go_simp
          exact ⟨Ext.refl _, rfl⟩
        · obtain ⟨h0, -⟩ := hs
          replace h0 : ρ (.tmp 27) = .pointer (some ⟨q, 3, none⟩) := h0
          have hc0 : W.cell? ⟨q, 3, none⟩ = some (.int .i64 (x.hi)) := hF.cell (by assumption)
          go_simp
          exact ⟨Ext.refl _, rfl⟩
        · obtain ⟨h0, h1, -⟩ := hs
          replace h0 : ρ (.tmp 25) = .int .i64 (x.lo) := h0
          replace h1 : ρ (.tmp 28) = .int .i64 (x.hi) := h1
          go_simp
          exact ⟨Ext.alloc _ _, ints_new _ [x.lo, x.hi] _ (by simp)⟩
        · obtain ⟨h0, -⟩ := hs
          replace h0 : ρ (.tmp 1) = .int .i64 (0) := h0
          go_simp
          exact ⟨Ext.refl _, rfl⟩
        · obtain ⟨h0, h1, -⟩ := hs
          replace h0 : (Ints [x.lo, x.hi]) (ρ (.tmp 29)) W := h0
          replace h1 : ρ (.tmp 30) = .int .i64 (0) := h1
          rcases h0 with ⟨ao, cap, -, hnil⟩ | ⟨b1, o1, cap, hv, hb1, hl, hcc⟩
          · cases hnil
          have hcu := hcc 0 (by simp)
          have hv2 : ρ (.tmp 29) = .slice (some ⟨b1, o1, none⟩) 2 cap := hv
          clear hv
          go_simp
          exact ⟨Ext.refl _, _, rfl, hcu⟩
        · obtain ⟨h0, -⟩ := hs
          replace h0 : (CellP (x.lo)) (ρ (.tmp 31)) W := h0
          obtain ⟨p, hv, hcc⟩ := h0
          have hv2 : ρ (.tmp 31) = .pointer (some p) := hv
          clear hv
          go_simp
          exact ⟨Ext.refl _, rfl⟩
        · obtain ⟨h0, h1, -⟩ := hs
          replace h0 : ρ (.tmp 22) = .int .i64 (x.d) := h0
          replace h1 : ρ (.tmp 32) = .int .i64 (x.lo) := h1
          go_simp
          exact ⟨Ext.refl _, rfl⟩
        · obtain ⟨h0, -⟩ := hs
          replace h0 : ρ (.tmp 33) = .agg #[.int .i64 x.d, .int .i64 x.lo] := h0
          go_simp
          exact ⟨Ext.alloc _ _, _, rfl, Blk.new _ _ _⟩
      · intro fv W hF hs
        obtain ⟨h20, -, -, -, -, -, -, -, -, -, -, -, -, -, h34, -⟩ := hs
        replace h20 : fv 20 = .slice R k c := h20
        replace h34 : (SlP 141 #[.int .i64 x.d, .int .i64 x.lo]) (fv 34) W := h34
        simp only [fin, List.filterMap]
        go_simp
        obtain ⟨q2, hq2, hQ2⟩ := h34
        rw [hq2]
        have Q2 := Lib.hid hQ2
        have hx6 := Lib.hid (X5.out.trans hF)
        clear hq2 hQ2
        clear hF l0 l1 l2 l3 X5
        go_wp2_with
          (refine append_point (own_ext O.out hx6.out) (by omega) (by have := SZ.out; have := SQ.out; have := hx6.out.size; omega) Q2.out rfl (.tmp 20) (.tmp 34) rfl rfl rfl rfl ?_
           intro R' c' w2 hown' hkb hxe hgs
           have O2 := Lib.hid hown'
           have X2 := Lib.hid (hxe W0 (X.out.trans hx6.out) (Nat.le_refl _))
           clear hown' hkb hxe hgs)
        go_roundw
        case rel => exact ⟨k + 1, _, _, by omega, by go_num, rfl, by rw [HS.out]; exact O2.out, X2.out⟩
        case measure => simp [intOf]; omega
    · have hkn : k = n := by omega
      have hlt2 : ¬ (k : Int) < (n : Int) := by omega
      have H := Lib.hid (show RowsAt 2 frEnc wr R (xs.map fun x => (x.d, x.lo)) by
        have := rows_own (enc := frEnc) (xs := (xs.take k).map fun x => (x.d, x.lo)) (by have := HN.out; simp; omega) (fun _ => rfl) O.out (by omega)
        rwa [List.take_of_length_le (by have := HN.out; omega)] at this)
      have HKN := Lib.hid hkn
      clear hkn hlt
      go_wp2
      go_ret
      exact ⟨R, ⟨c, by rw [← HKN.out]; rfl⟩, H.out, E0.out.trans X.out⟩

set_option maxRecDepth 100000 in
set_option maxHeartbeats 2000000 in
theorem curveHi_any {A : Option Addr} {n ca : Nat} {xs : List In} {w : World} (hn : xs.length = n) (hn2 : n ≤ 100) (hA : RowsAt 4 In.enc w A xs) :
    Calls Try.prog 22 #[.agg #[.slice A n ca], .int .i64 1] w fun e w' => ∃ A' c', e = .returned (.slice A' n c') ∧ RowsAt 2 frEnc w' A' (xs.map fun x => (x.d, x.hi)) ∧ Ext w w' := by
  obtain ⟨W0, hW0⟩ : ∃ W0, W0 = w.alloc (.cells #[.slice A n ca] 24) := ⟨_, rfl⟩
  have K0 := Lib.hid (show Blk W0 w.heap.size 24 #[.slice A n ca] by rw [hW0]; exact Blk.new _ _ _)
  have E0 := Lib.hid (show Ext w W0 by rw [hW0]; exact Ext.alloc _ _)
  have HA := Lib.hid hA
  have HN := Lib.hid hn
  clear hA hn
  go_enter Try.func22, Try.ntmps22
  go_wp2
  rw [← hW0]
  clear hW0
  go_wp2
  go_loopw [5, 6] (fun v i wr => ∃ (k c : Nat) (R : Option Addr), k ≤ n ∧ i = .int .i64 k ∧ v = .slice R k c ∧ wr.ownsRow W0.heap.size 141 2 (.slice R k c) k (((xs.take k).map fun x => (x.d, x.hi)).flatMap frEnc) ∧ Ext W0 wr) (fun _ i _ => n - (intOf i).toNat)
  case atStart => exact ⟨0, 0, none, Nat.zero_le _, rfl, rfl, own_none _ _ _ _, Ext.refl _⟩
  case round =>
    obtain ⟨k, c, R, hk, rfl, rfl, ho, hx⟩ := hrel
    have X := Lib.hid hx
    have O := Lib.hid ho
    have SZ := Lib.hid (show W0.heap.size ≤ wr.heap.size from hx.size)
    clear hx ho
    have y0 : wr.cell? ⟨w.heap.size, 0, none⟩ = some (.slice A n ca) := (K0.out.ext X.out).cell 0
    by_cases hlt : k < n
    · obtain ⟨x, hxk⟩ : ∃ x, xs[k]? = some x := ⟨_, List.getElem?_eq_getElem (by have := HN.out; omega)⟩
      obtain ⟨b, o, rfl, hb, hc⟩ := row_at (HA.out.ext (E0.out.trans X.out)) hxk
      have p0 : wr.cell? ⟨b, o + k * 4, none⟩ = some (.int .i64 x.d) := hc 0 _ rfl
      have p1 : wr.cell? ⟨b, o + k * 4 + 1, none⟩ = some (.int .i64 x.g) := hc 1 _ rfl
      have p2 : wr.cell? ⟨b, o + k * 4 + 2, none⟩ = some (.int .i64 x.lo) := hc 2 _ rfl
      have p3 : wr.cell? ⟨b, o + k * 4 + 3, none⟩ = some (.int .i64 x.hi) := hc 3 _ rfl
      have HS := Lib.hid (show ((xs.take (k + 1)).map fun x => (x.d, x.hi)).flatMap frEnc = ((xs.take k).map fun x => (x.d, x.hi)).flatMap frEnc ++ [.int .i64 x.d, .int .i64 x.hi] by
        rw [List.take_add_one, hxk, List.map_append, List.flatMap_append]
        rfl)
      clear hb hc hxk
      have hlt2 : (k : Int) < (n : Int) := by omega
      have hb1 : ((k : Int)).toNat = k := by omega
      go_wp2
      obtain ⟨W5, hW5⟩ : ∃ W5, W5 = wr.alloc (.cells #[.int .i64 x.d, .int .i64 x.g, .int .i64 x.lo, .int .i64 x.hi] 43) := ⟨_, rfl⟩
      rw [← hW5]
      have Q := Lib.hid (show Blk W5 wr.heap.size 43 #[.int .i64 x.d, .int .i64 x.g, .int .i64 x.lo, .int .i64 x.hi] by rw [hW5]; exact Blk.new _ _ _)
      have hx5 : Ext wr W5 := by rw [hW5]; exact Ext.alloc _ _
      have X5 := Lib.hid hx5
      have l0 : W5.cell? ⟨wr.heap.size, 0, none⟩ = some (.int .i64 x.d) := Q.out.cell 0
      have l1 : W5.cell? ⟨wr.heap.size, 1, none⟩ = some (.int .i64 x.g) := Q.out.cell 1
      have l2 : W5.cell? ⟨wr.heap.size, 2, none⟩ = some (.int .i64 x.lo) := Q.out.cell 2
      have l3 : W5.cell? ⟨wr.heap.size, 3, none⟩ = some (.int .i64 x.hi) := Q.out.cell 3
      clear y0 p0 p1 p2 p3 hx5 hW5 Q hb1
      generalize hq : wr.heap.size = q at *
      have SQ := Lib.hid hq
      clear hq
      refine wp_region_partR 15 [some 20, some 21, some 22, some 23, some 24, some 25, some 26, some 27, some 28, some 29, some 30, some 31, some 32, some 33, some 34] [[5], [7], [21], [7], [23], [24], [7], [26], [27], [25, 28], [1], [29, 30], [31], [22, 32], [33]]
        [Is (.slice R k c), Is (.pointer (some ⟨q, 0, none⟩)), Is (.int .i64 (x.d)), Is (.pointer (some ⟨q, 2, none⟩)), Is (.pointer (some ⟨q, 2, none⟩)), Is (.int .i64 (x.lo)), Is (.pointer (some ⟨q, 2, none⟩)), Is (.pointer (some ⟨q, 3, none⟩)), Is (.int .i64 (x.hi)), Ints [x.lo, x.hi], Is (.int .i64 (1)), CellP (x.hi), Is (.int .i64 (x.hi)), Is (.agg #[.int .i64 x.d, .int .i64 x.hi]), SlP 141 #[.int .i64 x.d, .int .i64 x.hi]]
        (by kernel_rfl) (by kernel_rfl) (by kernel_rfl) (by kernel_rfl) (by kernel_rfl) (by kernel_rfl) (by kernel_rfl) Ext (fun W => Ext W5 W)
        (fun W _ => Ext.refl W) (fun W W' h k => h.trans k) ?_ (Ext.drew _) ?_ ?_
      · repeat (refine ⟨fun _ _ _ _ k h => (by first | exact h | exact (by first | exact IntsAt.ext h k | exact CellP.ext h k | exact SlP.ext h k)), ?_⟩)
        exact trivial
      · refine ⟨?_, ?_, ?_, ?_, ?_, ?_, ?_, ?_, ?_, ?_, ?_, ?_, ?_, ?_, ?_, trivial⟩
        all_goals intro ρ W ⟨kc, kg, kf⟩ hF hs
        · obtain ⟨h0, -⟩ := hs
          replace h0 : ρ (.tmp 5) = .slice R k c := h0
          go_simp
          exact ⟨Ext.refl _, rfl⟩
        · obtain ⟨h0, -⟩ := hs
          replace h0 : ρ (.tmp 7) = .pointer (some ⟨q, 0, none⟩) := h0
          go_simp
          exact ⟨Ext.refl _, rfl⟩
        · obtain ⟨h0, -⟩ := hs
          replace h0 : ρ (.tmp 21) = .pointer (some ⟨q, 0, none⟩) := h0
          have hc0 : W.cell? ⟨q, 0, none⟩ = some (.int .i64 (x.d)) := hF.cell (by assumption)
          go_simp
          exact ⟨Ext.refl _, rfl⟩
        · obtain ⟨h0, -⟩ := hs
          replace h0 : ρ (.tmp 7) = .pointer (some ⟨q, 0, none⟩) := h0
          go_simp
          exact ⟨Ext.refl _, rfl⟩
        · obtain ⟨h0, -⟩ := hs
          replace h0 : ρ (.tmp 23) = .pointer (some ⟨q, 2, none⟩) := h0
          go_simp
          exact ⟨Ext.refl _, rfl⟩
        · obtain ⟨h0, -⟩ := hs
          replace h0 : ρ (.tmp 24) = .pointer (some ⟨q, 2, none⟩) := h0
          have hc0 : W.cell? ⟨q, 2, none⟩ = some (.int .i64 (x.lo)) := hF.cell (by assumption)
          go_simp
          exact ⟨Ext.refl _, rfl⟩
        · obtain ⟨h0, -⟩ := hs
          replace h0 : ρ (.tmp 7) = .pointer (some ⟨q, 0, none⟩) := h0
          go_simp
          exact ⟨Ext.refl _, rfl⟩
        · obtain ⟨h0, -⟩ := hs
          replace h0 : ρ (.tmp 26) = .pointer (some ⟨q, 2, none⟩) := h0
          go_simp
          exact ⟨Ext.refl _, rfl⟩
        · obtain ⟨h0, -⟩ := hs
          replace h0 : ρ (.tmp 27) = .pointer (some ⟨q, 3, none⟩) := h0
          have hc0 : W.cell? ⟨q, 3, none⟩ = some (.int .i64 (x.hi)) := hF.cell (by assumption)
          go_simp
          exact ⟨Ext.refl _, rfl⟩
        · obtain ⟨h0, h1, -⟩ := hs
          replace h0 : ρ (.tmp 25) = .int .i64 (x.lo) := h0
          replace h1 : ρ (.tmp 28) = .int .i64 (x.hi) := h1
          go_simp
          exact ⟨Ext.alloc _ _, ints_new _ [x.lo, x.hi] _ (by simp)⟩
        · obtain ⟨h0, -⟩ := hs
          replace h0 : ρ (.tmp 1) = .int .i64 (1) := h0
          go_simp
          exact ⟨Ext.refl _, rfl⟩
        · obtain ⟨h0, h1, -⟩ := hs
          replace h0 : (Ints [x.lo, x.hi]) (ρ (.tmp 29)) W := h0
          replace h1 : ρ (.tmp 30) = .int .i64 (1) := h1
          rcases h0 with ⟨ao, cap, -, hnil⟩ | ⟨b1, o1, cap, hv, hb1, hl, hcc⟩
          · cases hnil
          have hcu := hcc 1 (by simp)
          have hv2 : ρ (.tmp 29) = .slice (some ⟨b1, o1, none⟩) 2 cap := hv
          clear hv
          go_simp
          exact ⟨Ext.refl _, _, rfl, hcu⟩
        · obtain ⟨h0, -⟩ := hs
          replace h0 : (CellP (x.hi)) (ρ (.tmp 31)) W := h0
          obtain ⟨p, hv, hcc⟩ := h0
          have hv2 : ρ (.tmp 31) = .pointer (some p) := hv
          clear hv
          go_simp
          exact ⟨Ext.refl _, rfl⟩
        · obtain ⟨h0, h1, -⟩ := hs
          replace h0 : ρ (.tmp 22) = .int .i64 (x.d) := h0
          replace h1 : ρ (.tmp 32) = .int .i64 (x.hi) := h1
          go_simp
          exact ⟨Ext.refl _, rfl⟩
        · obtain ⟨h0, -⟩ := hs
          replace h0 : ρ (.tmp 33) = .agg #[.int .i64 x.d, .int .i64 x.hi] := h0
          go_simp
          exact ⟨Ext.alloc _ _, _, rfl, Blk.new _ _ _⟩
      · intro fv W hF hs
        obtain ⟨h20, -, -, -, -, -, -, -, -, -, -, -, -, -, h34, -⟩ := hs
        replace h20 : fv 20 = .slice R k c := h20
        replace h34 : (SlP 141 #[.int .i64 x.d, .int .i64 x.hi]) (fv 34) W := h34
        simp only [fin, List.filterMap]
        go_simp
        obtain ⟨q2, hq2, hQ2⟩ := h34
        rw [hq2]
        have Q2 := Lib.hid hQ2
        have hx6 := Lib.hid (X5.out.trans hF)
        clear hq2 hQ2
        clear hF l0 l1 l2 l3 X5
        go_wp2_with
          (refine append_point (own_ext O.out hx6.out) (by omega) (by have := SZ.out; have := SQ.out; have := hx6.out.size; omega) Q2.out rfl (.tmp 20) (.tmp 34) rfl rfl rfl rfl ?_
           intro R' c' w2 hown' hkb hxe hgs
           have O2 := Lib.hid hown'
           have X2 := Lib.hid (hxe W0 (X.out.trans hx6.out) (Nat.le_refl _))
           clear hown' hkb hxe hgs)
        go_roundw
        case rel => exact ⟨k + 1, _, _, by omega, by go_num, rfl, by rw [HS.out]; exact O2.out, X2.out⟩
        case measure => simp [intOf]; omega
    · have hkn : k = n := by omega
      have hlt2 : ¬ (k : Int) < (n : Int) := by omega
      have H := Lib.hid (show RowsAt 2 frEnc wr R (xs.map fun x => (x.d, x.hi)) by
        have := rows_own (enc := frEnc) (xs := (xs.take k).map fun x => (x.d, x.hi)) (by have := HN.out; simp; omega) (fun _ => rfl) O.out (by omega)
        rwa [List.take_of_length_le (by have := HN.out; omega)] at this)
      have HKN := Lib.hid hkn
      clear hkn hlt
      go_wp2
      go_ret
      exact ⟨R, ⟨c, by rw [← HKN.out]; rfl⟩, H.out, E0.out.trans X.out⟩

def fallF (ps : List (Int × Int)) (l : Int) (n : Nat) : Int × Int × Bool := (((fallK ps l n 0).getD (0, 0)).1, ((fallK ps l n 0).getD (0, 0)).2, (fallK ps l n 0).isSome)
theorem lowT_one {a : Int} : lowT a 1 = (a, 1) := by
  unfold lowT; simp
set_option maxRecDepth 100000 in
set_option maxHeartbeats 4000000 in
theorem refFalls_any {A : Option Addr} {n ca : Nat} {ps : List (Int × Int)} {l : Int} {w : World} (hn : ps.length = n) (hnb : n ≤ 100) (hl : 0 ≤ l ∧ l ≤ 2000) (hp : ∀ (i : Nat) (p : Int × Int), ps[i]? = some p → 0 ≤ p.1 ∧ p.1 ≤ 10000 ∧ 0 ≤ p.2 ∧ p.2 ≤ 2000) (hA : RowsAt 2 frEnc w A ps) :
    Calls Try.prog 88 #[.slice A n ca, .int .i64 l] w fun e w' => e = .returned (.tuple #[.agg #[.int .i64 ((fallK ps l n 0).getD (0, 0)).1, .int .i64 ((fallK ps l n 0).getD (0, 0)).2], .bool (fallK ps l n 0).isSome]) ∧ Ext w w' := by
  obtain ⟨fk, hfk⟩ : ∃ fk, fk = fallK ps l n 0 := ⟨_, rfl⟩
  have HFK := Lib.hid (show fk = fallK ps l (n - 0) 0 from hfk)
  rw [← hfk]
  clear hfk
  obtain ⟨W0, hW0⟩ : ∃ W0, W0 = w.alloc (.cells #[.int .i64 0, .int .i64 0] 32) := ⟨_, rfl⟩
  have K0 := Lib.hid (show Blk W0 w.heap.size 32 #[.int .i64 0, .int .i64 0] by rw [hW0]; exact Blk.new _ _ _)
  have E0 := Lib.hid (show Ext w W0 by rw [hW0]; exact Ext.alloc _ _)
  have HA := Lib.hid hA
  have HN := Lib.hid hn
  have HP := Lib.hid hp
  obtain ⟨hl0, hl1⟩ := hl
  clear hA hn hp
  go_enter Try.func88, Try.ntmps88
  go_wp2
  rw [← hW0]
  clear hW0
  go_wp2
  go_loopw [6] (fun i wr => ∃ k : Nat, k ≤ n ∧ i = .int .i64 k ∧ Ext W0 wr ∧ fk = fallK ps l (n - k) k ∧ (k = 0 ∨ ∃ p, ps[k - 1]? = some p ∧ l ≤ p.2)) (fun i _ => n - (intOf i).toNat)
  case atStart => exact ⟨0, Nat.zero_le _, rfl, Ext.refl _, HFK.out, .inl rfl⟩
  case round =>
    obtain ⟨k, hk, rfl, hx, hcx, hbb⟩ := hrel
    have X := Lib.hid hx
    have HCX := Lib.hid hcx
    have HB := Lib.hid hbb
    clear hbb
    have B0 := Lib.hid (K0.out.ext hx)
    have SZ := Lib.hid (show w.heap.size < wr.heap.size from B0.out.lt)
    clear hx hcx
    have c0 : wr.cell? ⟨w.heap.size, 0, none⟩ = some (.int .i64 0) := B0.out.cell 0
    have c1 : wr.cell? ⟨w.heap.size, 1, none⟩ = some (.int .i64 0) := B0.out.cell 1
    have f0 := B0.out.free 0
    have f1 := B0.out.free 1
    by_cases hlt : k < n
    · obtain ⟨p, hpk⟩ : ∃ p, ps[k]? = some p := ⟨_, List.getElem?_eq_getElem (by have := HN.out; omega)⟩
      obtain ⟨b, o, rfl, hb, hc⟩ := row_at (HA.out.ext (E0.out.trans X.out)) hpk
      have p0 : wr.cell? ⟨b, o + k * 2, none⟩ = some (.int .i64 p.1) := hc 0 _ rfl
      have p1 : wr.cell? ⟨b, o + k * 2 + 1, none⟩ = some (.int .i64 p.2) := hc 1 _ rfl
      have HST := Lib.hid (show fk = _ from HCX.out.trans (fallK_step hlt hpk))
      obtain ⟨pb0, pb1, pb2, pb3⟩ := HP.out k p hpk
      have hlt2 : (k : Int) < (n : Int) := by omega
      have hbk : ((k : Int)).toNat = k := by omega
      have HPK := Lib.hid hpk
      clear hb hc hpk HCX
      by_cases hle : l ≤ p.2
      · have HN2 := Lib.hid (show fk = fallK ps l (n - (k + 1)) (k + 1) by rw [HST.out, if_pos hle])
        have HLE := Lib.hid hle
        clear HST
        go_wp2
        go_roundw
        case rel => exact ⟨k + 1, by omega, by go_num, X.out, HN2.out, .inr ⟨p, by rw [Nat.add_sub_cancel]; exact HPK.out, HLE.out⟩⟩
        case measure => simp [intOf]; omega
      · have HST := Lib.hid (show fk = _ from HST.out.trans (if_neg hle))
        rcases Nat.eq_zero_or_pos k with hk0 | hk0
        · have HV := Lib.hid (show fk = some (p.1, 1) by rw [HST.out, if_pos hk0, lowT_one])
          clear HST
          have p00 : wr.cell? ⟨b, o, none⟩ = some (.int .i64 p.1) := by have := p0; rw [hk0] at this; simpa using this
          have hkz : ((k : Int) == 0) = true := by simp [hk0]
          have hn0 : (0 : Int) < (n : Int) := by omega
          have hn1 : 0 < n := by omega
          clear hk0 hbk HB
          go_wp2_with (go_at_call 32; refine (whole_any _ _).mono ?_; rintro e w2 ⟨rfl, hx⟩; have B1 := Lib.hid (B0.out.ext hx); have X1 := Lib.hid ((E0.out.trans X.out).trans hx); clear hx c0 c1 f0 f1; have f0 := B1.out.free 0; have f1 := B1.out.free 1; have c0 : w2.cell? ⟨w.heap.size, 0, none⟩ = some (.int .i64 0) := B1.out.cell 0; have c1 : w2.cell? ⟨w.heap.size, 1, none⟩ = some (.int .i64 0) := B1.out.cell 1)
          exact bodyPost_ret (v := .tuple #[.agg #[.int .i64 p.1, .int .i64 1], .bool true]) (by simp [results, Try.f88, go_sem, c0, c1]) rfl ⟨by rw [HV.out]; rfl, Ext.set (Ext.set X1.out (by dsimp only; omega) _) (by dsimp only; omega) _⟩
        · obtain ⟨j, hj⟩ : ∃ j, k = j + 1 := ⟨k - 1, by omega⟩
          obtain ⟨y, hyj⟩ : ∃ y, ps[j]? = some y := ⟨_, List.getElem?_eq_getElem (by have := HN.out; omega)⟩
          obtain ⟨yb0, yb1, yb2, yb3⟩ := HP.out j y hyj
          obtain ⟨b2, o2, he, _, hc⟩ := row_at (HA.out.ext (E0.out.trans X.out)) hyj
          obtain ⟨rfl, rfl⟩ : b = b2 ∧ o = o2 := by simpa using he
          have t0 : wr.cell? ⟨b, o + j * 2, none⟩ = some (.int .i64 y.1) := hc 0 _ rfl
          have t1 : wr.cell? ⟨b, o + j * 2 + 1, none⟩ = some (.int .i64 y.2) := hc 1 _ rfl
          have hly : l ≤ y.2 := by
            rcases HB.out with h | ⟨p', h1, h2⟩
            · omega
            · rw [show k - 1 = j by omega, hyj] at h1
              obtain rfl : y = p' := by simpa using h1
              exact h2
          have a0 : 0 ≤ y.1 * (y.2 - p.2) := Int.mul_nonneg (by omega) (by omega)
          have a1 : y.1 * (y.2 - p.2) ≤ 10000 * 2000 := Int.mul_le_mul (by omega) (by omega) (by omega) (by omega)
          have a2 : (y.2 - l) * (p.1 - y.1) ≤ 2000 * 10000 := by
            have h1 : (y.2 - l) * (p.1 - y.1) ≤ (y.2 - l) * 10000 := Int.mul_le_mul_of_nonneg_left (by omega) (by omega)
            omega
          have a3 : -(2000 * 10000) ≤ (y.2 - l) * (p.1 - y.1) := by
            have h1 : (y.2 - l) * (-10000) ≤ (y.2 - l) * (p.1 - y.1) := Int.mul_le_mul_of_nonneg_left (by omega) (by omega)
            omega
          have HL := Lib.hid (fun W => lowest_any (y.1 * (y.2 - p.2) + (y.2 - l) * (p.1 - y.1)) (y.2 - p.2) (by unfold Big; omega) (by omega) (by unfold Big; omega) W)
          have HV := Lib.hid (show fk = some (lowT (y.1 * (y.2 - p.2) + (y.2 - l) * (p.1 - y.1)) (y.2 - p.2)) by
            rw [HST.out, if_neg (by omega), show k - 1 = j by omega, show ps.getD j default = y by rw [List.getD_eq_getElem?_getD, hyj]; rfl])
          have hj1 : j < k := by omega
          have hj2 : k ≤ j + 1 := by omega
          have hkz : ((k : Int) == 0) = false := by simp; omega
          have hb2 : ((k : Int) - 1).toNat = j := by omega
          have hb3 : (k : Int) - 1 < (n : Int) := by omega
          have hb5 : (1 : Int) ≤ (k : Int) := by omega
          clear hj hyj hc he HST hk0 HB
          generalize lowT (y.1 * (y.2 - p.2) + (y.2 - l) * (p.1 - y.1)) (y.2 - p.2) = lo at *
          go_wp2
          go_region
          · obtain ⟨V, hV⟩ : ∃ V, V = ((wr.alloc (.cells #[.int .i64 y.1, .int .i64 y.2] 141)).alloc (.cells #[.int .i64 p.1, .int .i64 p.2] 141)).drew := ⟨_, rfl⟩
            rw [← hV]
            have hx5 : Ext wr V := by rw [hV]; exact ((Ext.alloc _ _).trans (Ext.alloc _ _)).trans (Ext.drew _)
            have ky : Blk V wr.heap.size 141 #[.int .i64 y.1, .int .i64 y.2] := by rw [hV]; exact ((Blk.new _ _ _).alloc _).ext (Ext.drew _)
            have kz : Blk V (wr.heap.size + 1) 141 #[.int .i64 p.1, .int .i64 p.2] := by rw [hV]; exact (Blk.newAt _ _ _ (by simp)).ext (Ext.drew _)
            have z0 : V.cell? ⟨wr.heap.size, 0, none⟩ = some (.int .i64 y.1) := ky.cell 0
            have z1 : V.cell? ⟨wr.heap.size, 1, none⟩ = some (.int .i64 y.2) := ky.cell 1
            have z2 : V.cell? ⟨wr.heap.size + 1, 0, none⟩ = some (.int .i64 p.1) := kz.cell 0
            have z3 : V.cell? ⟨wr.heap.size + 1, 1, none⟩ = some (.int .i64 p.2) := kz.cell 1
            have B1 := Lib.hid (B0.out.ext hx5)
            have X1 := Lib.hid ((E0.out.trans X.out).trans hx5)
            clear hV hx5 ky kz c0 c1 f0 f1 t0 t1 p0 p1 B0
            go_wp2_with (go_at_call 74; refine (HL.out _).mono ?_; rintro e w2 ⟨rfl, hx⟩; have B2 := Lib.hid (B1.out.ext hx); have X2 := Lib.hid (X1.out.trans hx); clear hx z0 z1 z2 z3; have f0 := B2.out.free 0; have f1 := B2.out.free 1; have c0 : w2.cell? ⟨w.heap.size, 0, none⟩ = some (.int .i64 0) := B2.out.cell 0; have c1 : w2.cell? ⟨w.heap.size, 1, none⟩ = some (.int .i64 0) := B2.out.cell 1)
            exact bodyPost_ret (v := .tuple #[.agg #[.int .i64 lo.1, .int .i64 lo.2], .bool true]) (by simp [results, Try.f88, go_sem, c0, c1]) rfl ⟨by rw [HV.out]; rfl, Ext.set (Ext.set X2.out (by dsimp only; omega) _) (by dsimp only; omega) _⟩
          · obtain ⟨V, hV⟩ : ∃ V, V = ((wr.alloc (.cells #[.int .i64 p.1, .int .i64 p.2] 141)).alloc (.cells #[.int .i64 y.1, .int .i64 y.2] 141)).drew := ⟨_, rfl⟩
            rw [← hV]
            have hx5 : Ext wr V := by rw [hV]; exact ((Ext.alloc _ _).trans (Ext.alloc _ _)).trans (Ext.drew _)
            have kz : Blk V wr.heap.size 141 #[.int .i64 p.1, .int .i64 p.2] := by rw [hV]; exact ((Blk.new _ _ _).alloc _).ext (Ext.drew _)
            have ky : Blk V (wr.heap.size + 1) 141 #[.int .i64 y.1, .int .i64 y.2] := by rw [hV]; exact (Blk.newAt _ _ _ (by simp)).ext (Ext.drew _)
            have z0 : V.cell? ⟨wr.heap.size + 1, 0, none⟩ = some (.int .i64 y.1) := ky.cell 0
            have z1 : V.cell? ⟨wr.heap.size + 1, 1, none⟩ = some (.int .i64 y.2) := ky.cell 1
            have z2 : V.cell? ⟨wr.heap.size, 0, none⟩ = some (.int .i64 p.1) := kz.cell 0
            have z3 : V.cell? ⟨wr.heap.size, 1, none⟩ = some (.int .i64 p.2) := kz.cell 1
            have B1 := Lib.hid (B0.out.ext hx5)
            have X1 := Lib.hid ((E0.out.trans X.out).trans hx5)
            clear hV hx5 ky kz c0 c1 f0 f1 t0 t1 p0 p1 B0
            go_wp2_with (go_at_call 74; refine (HL.out _).mono ?_; rintro e w2 ⟨rfl, hx⟩; have B2 := Lib.hid (B1.out.ext hx); have X2 := Lib.hid (X1.out.trans hx); clear hx z0 z1 z2 z3; have f0 := B2.out.free 0; have f1 := B2.out.free 1; have c0 : w2.cell? ⟨w.heap.size, 0, none⟩ = some (.int .i64 0) := B2.out.cell 0; have c1 : w2.cell? ⟨w.heap.size, 1, none⟩ = some (.int .i64 0) := B2.out.cell 1)
            exact bodyPost_ret (v := .tuple #[.agg #[.int .i64 lo.1, .int .i64 lo.2], .bool true]) (by simp [results, Try.f88, go_sem, c0, c1]) rfl ⟨by rw [HV.out]; rfl, Ext.set (Ext.set X2.out (by dsimp only; omega) _) (by dsimp only; omega) _⟩
    · have hkn : k = n := by omega
      have hlt2 : ¬ (k : Int) < (n : Int) := by omega
      have HV := Lib.hid (show fk = none by rw [HCX.out, hkn, Nat.sub_self]; rfl)
      have X6 := Lib.hid (E0.out.trans X.out)
      clear hkn hlt
      go_wp2
      exact bodyPost_ret (v := .tuple #[.agg #[.int .i64 0, .int .i64 0], .bool false]) (by simp [results, Try.f88, go_sem, c0, c1]) rfl ⟨by rw [HV.out]; rfl, Ext.set (Ext.set (X6.out) (by dsimp only; omega) _) (by dsimp only; omega) _⟩

end Go.Proofs.Ytmddnpagfgilcaa
