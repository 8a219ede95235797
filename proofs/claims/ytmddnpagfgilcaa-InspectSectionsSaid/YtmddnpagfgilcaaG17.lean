/- Sections: what ranges have in common. -/
import Derived.Test.YtmddnpagfgilcaaG16
import Derived.Test.YtmddnpagfgilcaaR7
import Derived.Lib.MinMax
import Derived.Deep.DeepCutAuto

namespace Go.Proofs.Ytmddnpagfgilcaa
open Go.RowKit Go.Shelf Go.Mem Go.RegInv
attribute [local go_sem] RelUpon_value RelUpon_skip RelUpon_enter BigFrame.eval_const BigFrame.eval_global BigFrame.eval_func


def comS (p x : Int × Int) : Int × Int := (max p.1 x.1, min p.2 x.2)
def comK (p : Int × Int) (xs : List (Int × Int)) : Int × Int := xs.foldl comS p
theorem comK_step {p : Int × Int} {xs : List (Int × Int)} {k : Nat} {x : Int × Int} (h : xs[k]? = some x) : comK p (xs.take (k + 1)) = comS (comK p (xs.take k)) x := by
  unfold comK
  rw [List.take_add_one, h, List.foldl_append]
  rfl

set_option maxRecDepth 100000 in
set_option maxHeartbeats 4000000 in
theorem common_any {A : Option Addr} {n ca : Nat} {xs : List (Int × Int)} {w : World} (a b : Int) (hn : xs.length = n) (hA : RowsAt 2 frEnc w A xs) :
    Calls Try.prog 100 #[.agg #[.int .i64 a, .int .i64 b], .slice A n ca] w fun e w' => e = .returned (.tuple #[.agg #[.int .i64 (comK (a, b) xs).1, .int .i64 (comK (a, b) xs).2], .bool (decide ((comK (a, b) xs).1 ≤ (comK (a, b) xs).2))]) ∧ Ext w w' := by
  obtain ⟨cv, hcv⟩ : ∃ cv, cv = comK (a, b) xs := ⟨_, rfl⟩
  rw [← hcv]
  have HCV := Lib.hid (show comK (a, b) (xs.take n) = cv by rw [hcv, List.take_of_length_le (by omega)])
  clear hcv
  obtain ⟨W0, hW0⟩ : ∃ W0, W0 = (w.alloc (.cells #[.int .i64 a, .int .i64 b] 41)).alloc (.cells #[.int .i64 0, .int .i64 0] 41) := ⟨_, rfl⟩
  have K0 := Lib.hid (show Blk W0 w.heap.size 41 #[.int .i64 a, .int .i64 b] by rw [hW0]; exact (Blk.new _ _ _).alloc _)
  have K1 := Lib.hid (show Blk W0 (w.heap.size + 1) 41 #[.int .i64 0, .int .i64 0] by rw [hW0]; exact Blk.newAt _ _ _ (by simp))
  have E0 := Lib.hid (show Ext w W0 by rw [hW0]; exact (Ext.alloc _ _).trans (Ext.alloc _ _))
  have hnb : n ≤ 1152921504606846976 := by have := hA.1; omega
  have HA := Lib.hid hA
  have HN := Lib.hid hn
  clear hA hn
  go_enter Try.func100, Try.ntmps100
  go_wp2
  rw [← hW0]
  clear hW0
  go_wp2
  go_loopw [10] (fun i wr => ∃ k : Nat, k ≤ n ∧ i = .int .i64 k ∧ Ext w wr ∧ Blk wr w.heap.size 41 #[.int .i64 (comK (a, b) (xs.take k)).1, .int .i64 (comK (a, b) (xs.take k)).2] ∧ Blk wr (w.heap.size + 1) 41 #[.int .i64 0, .int .i64 0]) (fun i _ => n - (intOf i).toNat)
  case atStart => exact ⟨0, Nat.zero_le _, rfl, E0.out, K0.out, K1.out⟩
  case round =>
    obtain ⟨k, hk, rfl, hx, h0, h1⟩ := hrel
    have X := Lib.hid hx
    have B0 := Lib.hid h0
    have B1 := Lib.hid h1
    clear hx h0 h1
    by_cases hlt : k < n
    · obtain ⟨x, hxk⟩ : ∃ x, xs[k]? = some x := ⟨_, List.getElem?_eq_getElem (by have := HN.out; omega)⟩
      have HS := Lib.hid (comK_step (p := (a, b)) hxk)
      obtain ⟨p, hp⟩ : ∃ p, p = comK (a, b) (xs.take k) := ⟨_, rfl⟩
      rw [← hp] at B0 HS
      obtain ⟨b1, o1, rfl, -, hc⟩ := row_at (HA.out.ext X.out) hxk
      have p0 : wr.cell? ⟨b1, o1 + k * 2, none⟩ = some (.int .i64 x.1) := hc 0 _ rfl
      have p1 : wr.cell? ⟨b1, o1 + k * 2 + 1, none⟩ = some (.int .i64 x.2) := hc 1 _ rfl
      clear hc hxk hp
      have SZ := Lib.hid (show w.heap.size + 1 < wr.heap.size from B1.out.lt)
      have hlt2 : (k : Int) < (n : Int) := by omega
      have hbk : ((k : Int)).toNat = k := by omega
      go_upto_region 4 with (fail)
      obtain ⟨V, hV⟩ : ∃ V, V = wr.alloc (.cells #[.int .i64 x.1, .int .i64 x.2] 41) := ⟨_, rfl⟩
      obtain ⟨q, hq⟩ : ∃ q, q = wr.heap.size := ⟨_, rfl⟩
      rw [← hV, ← hq]
      have KX := Lib.hid (show Blk V q 41 #[.int .i64 x.1, .int .i64 x.2] by rw [hV, hq]; exact Blk.new _ _ _)
      have hx : Ext wr V := by rw [hV]; exact Ext.alloc _ _
      have X := Lib.hid (X.out.trans hx)
      have B0 := Lib.hid (B0.out.ext hx)
      have B1 := Lib.hid (B1.out.ext hx)
      clear hx hV hq p0 p1 SZ
      have l0 : V.cell? ⟨w.heap.size, 0, none⟩ = some (.int .i64 p.1) := B0.out.cell 0
      have l1 : V.cell? ⟨w.heap.size, 1, none⟩ = some (.int .i64 p.2) := B0.out.cell 1
      have l2 : V.cell? ⟨q, 0, none⟩ = some (.int .i64 x.1) := KX.out.cell 0
      have l3 : V.cell? ⟨q, 1, none⟩ = some (.int .i64 x.2) := KX.out.cell 1
      have f0 := B0.out.free 0
      have f1 := B0.out.free 1
      go_wp2
      go_roundw
      case rel => exact ⟨k + 1, by omega, by go_num, Ext.set (Ext.set X.out (Nat.le_refl _) _) (Nat.le_refl _) _, by rw [HS.out]; exact (B0.out.setSame 0 _).setSame 1 _, (B1.out.setOther (by dsimp only; omega) _).setOther (by dsimp only; omega) _⟩
      case measure => simp [intOf]; omega
    · have hkn : k = n := by omega
      have hlt2 : ¬ (k : Int) < (n : Int) := by omega
      subst hkn
      rw [HCV.out] at B0
      have l0 : wr.cell? ⟨w.heap.size, 0, none⟩ = some (.int .i64 cv.1) := B0.out.cell 0
      have l1 : wr.cell? ⟨w.heap.size, 1, none⟩ = some (.int .i64 cv.2) := B0.out.cell 1
      have c0 : wr.cell? ⟨w.heap.size + 1, 0, none⟩ = some (.int .i64 0) := B1.out.cell 0
      have c1 : wr.cell? ⟨w.heap.size + 1, 1, none⟩ = some (.int .i64 0) := B1.out.cell 1
      have f0 := B1.out.free 0
      have f1 := B1.out.free 1
      clear hlt
      go_wp2
      go_region
      all_goals go_wp2
      all_goals (exact bodyPost_ret (v := .tuple #[.agg #[.int .i64 cv.1, .int .i64 cv.2], .bool (decide (cv.1 ≤ cv.2))]) (by simp [results, Try.f100, go_sem, c0, c1]) rfl ⟨rfl, by first | exact Ext.set (Ext.set (X.out.trans (Ext.drew _)) (by dsimp only; omega) _) (by dsimp only; omega) _ | exact (Ext.set (Ext.set X.out (by dsimp only; omega) _) (by dsimp only; omega) _).trans (Ext.drew _)⟩)

set_option maxRecDepth 100000 in
set_option maxHeartbeats 4000000 in
theorem refAgreed_any {b1 o1 : Nat} {n ca : Nat} {xs : List (Int × Int)} {x0 : Int × Int} {w : World} (hn : xs.length = n) (hA : RowsAt 2 frEnc w (some ⟨b1, o1, none⟩) xs) (h0 : xs[0]? = some x0) :
    Calls Try.prog 50 #[.slice (some ⟨b1, o1, none⟩) n ca] w fun e w' => e = .returned (if (comK x0 xs).1 ≤ (comK x0 xs).2 then .tuple #[.agg #[.int .i64 (comK x0 xs).1, .int .i64 (comK x0 xs).2], .bool true] else .tuple #[.agg #[.int .i64 0, .int .i64 0], .bool false]) ∧ Ext w w' := by
  obtain ⟨cv, hcv⟩ : ∃ cv, cv = comK x0 xs := ⟨_, rfl⟩
  rw [← hcv]
  have HCV := Lib.hid (show comK x0 (xs.take n) = cv by rw [hcv, List.take_of_length_le (by omega)])
  clear hcv
  obtain ⟨b2, o2, he, hbl, hc⟩ := row_at hA h0
  obtain ⟨rfl, rfl⟩ : b1 = b2 ∧ o1 = o2 := by simpa using he
  have hp0 : w.cell? ⟨b1, o1, none⟩ = some (.int .i64 x0.1) := by have := hc 0 _ rfl; simpa using this
  have hp1 : w.cell? ⟨b1, o1 + 1, none⟩ = some (.int .i64 x0.2) := by have := hc 1 _ rfl; simpa using this
  have p0 : ∀ z, (w.alloc z).cell? ⟨b1, o1, none⟩ = some (.int .i64 x0.1) := fun z => (Ext.alloc _ _).cell hp0
  have p1 : ∀ z, (w.alloc z).cell? ⟨b1, o1 + 1, none⟩ = some (.int .i64 x0.2) := fun z => (Ext.alloc _ _).cell hp1
  have hn1 : 0 < n := by have := (List.getElem?_eq_some_iff.1 h0).1; omega
  have hn0 : (0 : Int) < (n : Int) := by omega
  have hnb : n ≤ 1152921504606846976 := by have := hA.1; omega
  obtain ⟨rv, hrv⟩ : ∃ rv, rv = (if cv.1 ≤ cv.2 then Value.tuple #[.agg #[.int .i64 cv.1, .int .i64 cv.2], .bool true] else .tuple #[.agg #[.int .i64 0, .int .i64 0], .bool false]) := ⟨_, rfl⟩
  rw [← hrv]
  have HRV := Lib.hid hrv
  have HA := Lib.hid hA
  have HN := Lib.hid hn
  clear hA hn hc he h0 hp0 hp1 hbl hrv
  obtain ⟨W0, hW0⟩ : ∃ W0, W0 = (w.alloc (.cells #[.int .i64 0, .int .i64 0] 41)).alloc (.cells #[.int .i64 x0.1, .int .i64 x0.2] 41) := ⟨_, rfl⟩
  have K1 := Lib.hid (show Blk W0 w.heap.size 41 #[.int .i64 0, .int .i64 0] by rw [hW0]; exact (Blk.new _ _ _).alloc _)
  have K4 := Lib.hid (show Blk W0 (w.heap.size + 1) 41 #[.int .i64 x0.1, .int .i64 x0.2] by rw [hW0]; exact Blk.newAt _ _ _ (by simp))
  have E0 := Lib.hid (show Ext w W0 by rw [hW0]; exact (Ext.alloc _ _).trans (Ext.alloc _ _))
  go_enter Try.func50, Try.ntmps50
  go_upto_region 2 with (fail)
  rw [← hW0]
  obtain ⟨q4, hq4⟩ : ∃ q, q = w.heap.size + 1 := ⟨_, rfl⟩
  rw [← hq4]
  have HQ := Lib.hid hq4
  rw [← hq4] at K4
  clear hW0 hq4 p0 p1
  go_wp2
  go_loopw [5] (fun i wr => ∃ k : Nat, k ≤ n ∧ i = .int .i64 k ∧ Ext w wr ∧ Blk wr q4 41 #[.int .i64 (comK x0 (xs.take k)).1, .int .i64 (comK x0 (xs.take k)).2] ∧ Blk wr w.heap.size 41 #[.int .i64 0, .int .i64 0]) (fun i _ => n - (intOf i).toNat)
  case atStart => exact ⟨0, Nat.zero_le _, rfl, E0.out, K4.out, K1.out⟩
  case round =>
    obtain ⟨k, hk, rfl, hx, h0, h1⟩ := hrel
    have X := Lib.hid hx
    have B0 := Lib.hid h0
    have B1 := Lib.hid h1
    clear hx h0 h1
    by_cases hlt : k < n
    · obtain ⟨x, hxk⟩ : ∃ x, xs[k]? = some x := ⟨_, List.getElem?_eq_getElem (by have := HN.out; omega)⟩
      have HS := Lib.hid (comK_step (p := x0) hxk)
      obtain ⟨p, hp⟩ : ∃ p, p = comK x0 (xs.take k) := ⟨_, rfl⟩
      rw [← hp] at B0 HS
      obtain ⟨b2, o2, he, -, hc⟩ := row_at (HA.out.ext X.out) hxk
      obtain ⟨rfl, rfl⟩ : b1 = b2 ∧ o1 = o2 := by simpa using he
      have p0 : wr.cell? ⟨b1, o1 + k * 2, none⟩ = some (.int .i64 x.1) := hc 0 _ rfl
      have p1 : wr.cell? ⟨b1, o1 + k * 2 + 1, none⟩ = some (.int .i64 x.2) := hc 1 _ rfl
      have l0 : wr.cell? ⟨q4, 0, none⟩ = some (.int .i64 p.1) := B0.out.cell 0
      have l1 : wr.cell? ⟨q4, 1, none⟩ = some (.int .i64 p.2) := B0.out.cell 1
      clear hc hxk hp he
      have hlt2 : (k : Int) < (n : Int) := by omega
      go_wp2
      refine wp_region_partR 17 [some 15, some 16, some 17, some 18, some 19, some 20, some 21, some 22, some 23, some 24, some 25, some 26, some 27, some 28, some 29, some 30, some 31] [[4], [15], [0], [5], [17, 18], [19], [20], [16, 21], [4], [23], [0], [5], [25, 26], [27], [28], [24, 29], [22, 30]]
        [Is (.pointer (some ⟨q4, 0, none⟩)), Is (.int .i64 (p.1)), Is (.slice (some ⟨b1, o1, none⟩) n ca), Is (.int .i64 ((k : Int))), Is (.pointer (some ⟨b1, o1 + k * 2, none⟩)), Is (.pointer (some ⟨b1, o1 + k * 2, none⟩)), Is (.int .i64 (x.1)), Is (.int .i64 (max p.1 x.1)), Is (.pointer (some ⟨q4, 1, none⟩)), Is (.int .i64 (p.2)), Is (.slice (some ⟨b1, o1, none⟩) n ca), Is (.int .i64 ((k : Int))), Is (.pointer (some ⟨b1, o1 + k * 2, none⟩)), Is (.pointer (some ⟨b1, o1 + k * 2 + 1, none⟩)), Is (.int .i64 (x.2)), Is (.int .i64 (min p.2 x.2)), Is (.agg #[.int .i64 (max p.1 x.1), .int .i64 (min p.2 x.2)])]
        (by kernel_rfl) (by kernel_rfl) (by kernel_rfl) (by kernel_rfl) (by kernel_rfl) (by kernel_rfl) (by kernel_rfl) Ext (fun W => Ext wr W)
        (fun W _ => Ext.refl W) (fun W W' h k => h.trans k) ?_ (Ext.drew _) ?_ ?_
      · repeat (refine ⟨fun _ _ _ _ k h => (by first | exact h | exact (IntsAt.ext h k)), ?_⟩)
        exact trivial
      · refine ⟨?_, ?_, ?_, ?_, ?_, ?_, ?_, ?_, ?_, ?_, ?_, ?_, ?_, ?_, ?_, ?_, ?_, trivial⟩
        all_goals intro ρ W ⟨kc, kg, kf⟩ hF hs
        · obtain ⟨h0, -⟩ := hs
          replace h0 : ρ (.tmp 4) = .pointer (some ⟨q4, 0, none⟩) := h0
          go_simp
          exact ⟨Ext.refl _, rfl⟩
        · obtain ⟨h0, -⟩ := hs
          replace h0 : ρ (.tmp 15) = .pointer (some ⟨q4, 0, none⟩) := h0
          have hc0 : W.cell? ⟨q4, 0, none⟩ = some (.int .i64 (p.1)) := hF.cell (by assumption)
          go_simp
          exact ⟨Ext.refl _, rfl⟩
        · obtain ⟨h0, -⟩ := hs
          replace h0 : ρ (.tmp 0) = .slice (some ⟨b1, o1, none⟩) n ca := h0
          go_simp
          exact ⟨Ext.refl _, rfl⟩
        · obtain ⟨h0, -⟩ := hs
          replace h0 : ρ (.tmp 5) = .int .i64 ((k : Int)) := h0
          go_simp
          exact ⟨Ext.refl _, rfl⟩
        · obtain ⟨h0, h1, -⟩ := hs
          replace h0 : ρ (.tmp 17) = .slice (some ⟨b1, o1, none⟩) n ca := h0
          replace h1 : ρ (.tmp 18) = .int .i64 ((k : Int)) := h1
          have hb1 : (k : Int) < (n : Int) := by omega
          have hb3 : (0 : Int) ≤ (k : Int) := by omega
          have hb4 : ((k : Int)).toNat = k := by omega
          have hb8 : k < n := by omega
          go_simp
          exact ⟨Ext.refl _, rfl⟩
        · obtain ⟨h0, -⟩ := hs
          replace h0 : ρ (.tmp 19) = .pointer (some ⟨b1, o1 + k * 2, none⟩) := h0
          go_simp
          exact ⟨Ext.refl _, rfl⟩
        · obtain ⟨h0, -⟩ := hs
          replace h0 : ρ (.tmp 20) = .pointer (some ⟨b1, o1 + k * 2, none⟩) := h0
          have hc0 : W.cell? ⟨b1, o1 + k * 2, none⟩ = some (.int .i64 (x.1)) := hF.cell (by assumption)
          go_simp
          exact ⟨Ext.refl _, rfl⟩
        · obtain ⟨h0, h1, -⟩ := hs
          replace h0 : ρ (.tmp 16) = .int .i64 (p.1) := h0
          replace h1 : ρ (.tmp 21) = .int .i64 (x.1) := h1
          go_simp
          exact ⟨Ext.refl _, rfl⟩
        · obtain ⟨h0, -⟩ := hs
          replace h0 : ρ (.tmp 4) = .pointer (some ⟨q4, 0, none⟩) := h0
          go_simp
          exact ⟨Ext.refl _, rfl⟩
        · obtain ⟨h0, -⟩ := hs
          replace h0 : ρ (.tmp 23) = .pointer (some ⟨q4, 1, none⟩) := h0
          have hc0 : W.cell? ⟨q4, 1, none⟩ = some (.int .i64 (p.2)) := hF.cell (by assumption)
          go_simp
          exact ⟨Ext.refl _, rfl⟩
        · obtain ⟨h0, -⟩ := hs
          replace h0 : ρ (.tmp 0) = .slice (some ⟨b1, o1, none⟩) n ca := h0
          go_simp
          exact ⟨Ext.refl _, rfl⟩
        · obtain ⟨h0, -⟩ := hs
          replace h0 : ρ (.tmp 5) = .int .i64 ((k : Int)) := h0
          go_simp
          exact ⟨Ext.refl _, rfl⟩
        · obtain ⟨h0, h1, -⟩ := hs
          replace h0 : ρ (.tmp 25) = .slice (some ⟨b1, o1, none⟩) n ca := h0
          replace h1 : ρ (.tmp 26) = .int .i64 ((k : Int)) := h1
          have hb1 : (k : Int) < (n : Int) := by omega
          have hb3 : (0 : Int) ≤ (k : Int) := by omega
          have hb4 : ((k : Int)).toNat = k := by omega
          have hb8 : k < n := by omega
          go_simp
          exact ⟨Ext.refl _, rfl⟩
        · obtain ⟨h0, -⟩ := hs
          replace h0 : ρ (.tmp 27) = .pointer (some ⟨b1, o1 + k * 2, none⟩) := h0
          go_simp
          exact ⟨Ext.refl _, rfl⟩
        · obtain ⟨h0, -⟩ := hs
          replace h0 : ρ (.tmp 28) = .pointer (some ⟨b1, o1 + k * 2 + 1, none⟩) := h0
          have hc0 : W.cell? ⟨b1, o1 + k * 2 + 1, none⟩ = some (.int .i64 (x.2)) := hF.cell (by assumption)
          go_simp
          exact ⟨Ext.refl _, rfl⟩
        · obtain ⟨h0, h1, -⟩ := hs
          replace h0 : ρ (.tmp 24) = .int .i64 (p.2) := h0
          replace h1 : ρ (.tmp 29) = .int .i64 (x.2) := h1
          go_simp
          exact ⟨Ext.refl _, rfl⟩
        · obtain ⟨h0, h1, -⟩ := hs
          replace h0 : ρ (.tmp 22) = .int .i64 (max p.1 x.1) := h0
          replace h1 : ρ (.tmp 30) = .int .i64 (min p.2 x.2) := h1
          go_simp
          exact ⟨Ext.refl _, rfl⟩
      · intro fv V hF hs
        obtain ⟨-, -, -, -, -, -, -, -, -, -, -, -, -, -, -, -, h31, -⟩ := hs
        replace h31 : fv 31 = .agg #[.int .i64 (max p.1 x.1), .int .i64 (min p.2 x.2)] := h31
        simp only [fin, List.filterMap]
        go_simp
        have X := Lib.hid (X.out.trans hF)
        have B0 := Lib.hid (B0.out.ext hF)
        have B1 := Lib.hid (B1.out.ext hF)
        clear hF p0 p1 l0 l1 h31
        have l0 : V.cell? ⟨q4, 0, none⟩ = some (.int .i64 p.1) := B0.out.cell 0
        have l1 : V.cell? ⟨q4, 1, none⟩ = some (.int .i64 p.2) := B0.out.cell 1
        have f0 := B0.out.free 0
        have f1 := B0.out.free 1
        go_wp2
        have HQ2 := HQ.out
        go_roundw
        case rel => exact ⟨k + 1, by omega, by go_num, Ext.set (Ext.set X.out (by dsimp only; omega) _) (by dsimp only; omega) _, by rw [HS.out]; exact (B0.out.setSame 0 _).setSame 1 _, (B1.out.setOther (by dsimp only; omega) _).setOther (by dsimp only; omega) _⟩
        case measure => simp [intOf]; omega
    · have hkn : k = n := by omega
      have hlt2 : ¬ (k : Int) < (n : Int) := by omega
      subst hkn
      rw [HCV.out] at B0
      have l0 : wr.cell? ⟨q4, 0, none⟩ = some (.int .i64 cv.1) := B0.out.cell 0
      have l1 : wr.cell? ⟨q4, 1, none⟩ = some (.int .i64 cv.2) := B0.out.cell 1
      have c0 : wr.cell? ⟨w.heap.size, 0, none⟩ = some (.int .i64 0) := B1.out.cell 0
      have c1 : wr.cell? ⟨w.heap.size, 1, none⟩ = some (.int .i64 0) := B1.out.cell 1
      have f0 := B1.out.free 0
      have f1 := B1.out.free 1
      clear hlt
      by_cases hle : cv.1 ≤ cv.2
      · have hle2 : ¬ cv.2 < cv.1 := by omega
        have HV := Lib.hid (HRV.out.trans (if_pos hle))
        clear hle
        go_wp2
        exact bodyPost_ret (v := .tuple #[.agg #[.int .i64 cv.1, .int .i64 cv.2], .bool true]) (by simp [results, Try.f50, go_sem, c0, c1]) rfl ⟨by rw [HV.out], Ext.set (Ext.set X.out (by dsimp only; omega) _) (by dsimp only; omega) _⟩
      · have hle2 : cv.2 < cv.1 := by omega
        have HV := Lib.hid (HRV.out.trans (if_neg hle))
        clear hle
        go_wp2
        exact bodyPost_ret (v := .tuple #[.agg #[.int .i64 0, .int .i64 0], .bool false]) (by simp [results, Try.f50, go_sem, c0, c1]) rfl ⟨by rw [HV.out], Ext.set (Ext.set X.out (by dsimp only; omega) _) (by dsimp only; omega) _⟩

set_option maxRecDepth 100000 in
set_option maxHeartbeats 4000000 in
theorem intsSame_any {b1 o1 b2 o2 n c1 c2 : Nat} {xs : List Int} {w : World} (hn : xs.length = n) (hnb : n ≤ 1000) (hA : ∀ i x, xs[i]? = some x → w.cell? ⟨b1, o1 + i, none⟩ = some (.int .i64 x)) (hB : ∀ i x, xs[i]? = some x → w.cell? ⟨b2, o2 + i, none⟩ = some (.int .i64 x)) :
    Calls Try.prog 52 #[.slice (some ⟨b1, o1, none⟩) n c1, .slice (some ⟨b2, o2, none⟩) n c2] w fun e w' => e = .returned (.bool true) ∧ Ext w w' := by
  have HA := Lib.hid hA
  have HB := Lib.hid hB
  have HN := Lib.hid hn
  clear hn hA hB
  go_enter Try.func52, Try.ntmps52
  go_wp2
  go_loopw [5] (fun i wr => ∃ k : Nat, k ≤ n ∧ i = .int .i64 k ∧ Ext w wr) (fun i _ => n - (intOf i).toNat)
  case atStart => exact ⟨0, Nat.zero_le _, rfl, Ext.refl _⟩
  case round =>
    obtain ⟨k, hk, rfl, hx⟩ := hrel
    have X := Lib.hid hx
    clear hx
    by_cases hlt : k < n
    · obtain ⟨x, hxk⟩ : ∃ x, xs[k]? = some x := ⟨_, List.getElem?_eq_getElem (by have := HN.out; omega)⟩
      have p0 := X.out.cell (HA.out k x hxk)
      have q0 := X.out.cell (HB.out k x hxk)
      clear hxk
      have hlt2 : (k : Int) < (n : Int) := by omega
      go_wp2
      refine wp_region_each [some 17, some 18, some 19, some 20, some 21, some 22, some 23, some 24, some 25] [[0], [5], [17, 18], [19], [1], [5], [21, 22], [23], [20, 24]]
        [Is (.slice (some ⟨b1, o1, none⟩) n c1), Is (.int .i64 ((k : Int))), Is (.pointer (some ⟨b1, o1 + k, none⟩)), Is (.int .i64 (x)), Is (.slice (some ⟨b2, o2, none⟩) n c2), Is (.int .i64 ((k : Int))), Is (.pointer (some ⟨b2, o2 + k, none⟩)), Is (.int .i64 (x)), Is (.bool (false))]
        (by kernel_rfl) (by kernel_rfl) (by kernel_rfl) (by kernel_rfl) (by kernel_rfl) Ext (fun W => Ext wr W)
        (fun W _ => Ext.refl W) (fun W W' h k => h.trans k) ?_ (Ext.drew _) ?_ ?_
      · repeat (refine ⟨fun _ _ _ _ k h => (by first | exact h | exact (IntsAt.ext h k)), ?_⟩)
        exact trivial
      · refine ⟨?_, ?_, ?_, ?_, ?_, ?_, ?_, ?_, ?_, trivial⟩
        all_goals intro ρ W ⟨kc, kg, kf⟩ hF hs
        · obtain ⟨h0, -⟩ := hs
          replace h0 : ρ (.tmp 0) = .slice (some ⟨b1, o1, none⟩) n c1 := h0
          go_simp
          exact ⟨Ext.refl _, rfl⟩
        · obtain ⟨h0, -⟩ := hs
          replace h0 : ρ (.tmp 5) = .int .i64 ((k : Int)) := h0
          go_simp
          exact ⟨Ext.refl _, rfl⟩
        · obtain ⟨h0, h1, -⟩ := hs
          replace h0 : ρ (.tmp 17) = .slice (some ⟨b1, o1, none⟩) n c1 := h0
          replace h1 : ρ (.tmp 18) = .int .i64 ((k : Int)) := h1
          have hb1 : (k : Int) < (n : Int) := by omega
          have hb3 : (0 : Int) ≤ (k : Int) := by omega
          have hb4 : ((k : Int)).toNat = k := by omega
          have hb8 : k < n := by omega
          go_simp
          exact ⟨Ext.refl _, rfl⟩
        · obtain ⟨h0, -⟩ := hs
          replace h0 : ρ (.tmp 19) = .pointer (some ⟨b1, o1 + k, none⟩) := h0
          have hc0 : W.cell? ⟨b1, o1 + k, none⟩ = some (.int .i64 (x)) := hF.cell (by assumption)
          go_simp
          exact ⟨Ext.refl _, rfl⟩
        · obtain ⟨h0, -⟩ := hs
          replace h0 : ρ (.tmp 1) = .slice (some ⟨b2, o2, none⟩) n c2 := h0
          go_simp
          exact ⟨Ext.refl _, rfl⟩
        · obtain ⟨h0, -⟩ := hs
          replace h0 : ρ (.tmp 5) = .int .i64 ((k : Int)) := h0
          go_simp
          exact ⟨Ext.refl _, rfl⟩
        · obtain ⟨h0, h1, -⟩ := hs
          replace h0 : ρ (.tmp 21) = .slice (some ⟨b2, o2, none⟩) n c2 := h0
          replace h1 : ρ (.tmp 22) = .int .i64 ((k : Int)) := h1
          have hb1 : (k : Int) < (n : Int) := by omega
          have hb3 : (0 : Int) ≤ (k : Int) := by omega
          have hb4 : ((k : Int)).toNat = k := by omega
          have hb8 : k < n := by omega
          go_simp
          exact ⟨Ext.refl _, rfl⟩
        · obtain ⟨h0, -⟩ := hs
          replace h0 : ρ (.tmp 23) = .pointer (some ⟨b2, o2 + k, none⟩) := h0
          have hc0 : W.cell? ⟨b2, o2 + k, none⟩ = some (.int .i64 (x)) := hF.cell (by assumption)
          go_simp
          exact ⟨Ext.refl _, rfl⟩
        · obtain ⟨h0, h1, -⟩ := hs
          replace h0 : ρ (.tmp 20) = .int .i64 (x) := h0
          replace h1 : ρ (.tmp 24) = .int .i64 (x) := h1
          go_simp
          exact ⟨Ext.refl _, rfl⟩
      · intro fv V hF hs
        obtain ⟨-, -, -, -, -, -, -, -, h25, -⟩ := hs
        replace h25 : fv 25 = .bool (false) := h25
        simp only [fin, List.filterMap]
        go_simp
        have X6 := Lib.hid (X.out.trans hF)
        clear hF p0 q0 h25
        go_wp2
        go_roundw
        case rel => exact ⟨k + 1, by omega, by go_num, X6.out⟩
        case measure => simp [intOf]; omega
    · have hlt2 : ¬ (k : Int) < (n : Int) := by omega
      go_wp2
      go_ret
      exact ⟨rfl, X.out⟩

end Go.Proofs.Ytmddnpagfgilcaa
