/- Sums of what strokes give. -/
import Derived.Test.YtjdilmmpdlcimaaGreatC2
import Derived.Test.YtjdilmmpdlcimaaGreatQ0
import Derived.Lib.MinMax
import Derived.Deep.DeepCutAuto
import Derived.Laws.MakeOwn

namespace Go.Proofs.YtjdilmmpdlcimaaGreat
open Go.RowKit Go.Shelf Go.Mem Go.RegInv
attribute [local go_sem] RelUpon_value RelUpon_skip RelUpon_enter BigFrame.eval_const BigFrame.eval_global BigFrame.eval_func

theorem madeOne (v : Value) (k : Nat) : madeCells #[v] k = Array.replicate k v := by
  apply Array.ext
  · simp [madeCells]
  · intro i h1 h2
    simp [madeCells, Nat.mod_one]
theorem mk_ints (W : World) (L : Int) (k : Nat) (hL : L = (k : Int)) (hk : k ≤ 1000) :
    (Instr.makeSlice 22 (.int .i64 L) (.int .i64 L)).run Tryz.prog W = .ok (.slice (some ⟨W.heap.size, 0, none⟩) k k) (W.alloc (.cells (Array.replicate k (.int .i64 0)) 3)) := by
  obtain ⟨i0, hi, hz0, hz1, hz2⟩ := info_parts infoI1G
  subst hL
  have := run_make (P := Tryz.prog) W 22 3 i0 _ (by kernel_rfl) hi hz0 .i64 .i64 (k : Int) (k : Int) (by omega) (Int.le_refl _) (by rw [hz2]; omega) (by omega)
  rw [hz1] at this
  have hm : madeCells (Value.int .i64 0).cells (k * 1) = Array.replicate k (.int .i64 0) := by
    rw [Nat.mul_one]
    exact madeOne _ k
  rw [Int.toNat_natCast, hm] at this
  exact this


/-- The sum at a joint of what the first k strokes give. -/
def sumK (f : Sk → Int) (l : List Sk) (j : Int) : Nat → Int
  | 0 => 0
  | k + 1 => if (l.getD k default).j = j then sumK f l j k + f (l.getD k default) else sumK f l j k
def sumL (f : Sk → Int) (l : List Sk) (n : Nat) : List Int := (List.range n).map fun (j : Nat) => sumK f l (j : Int) l.length
def sumA (f : Sk → Int) (l : List Sk) (n k : Nat) : Array Value := ((List.range n).map fun (j : Nat) => Value.int .i64 (sumK f l (j : Int) k)).toArray
theorem sumA_zero (f : Sk → Int) (l : List Sk) (n : Nat) : Array.replicate n (.int .i64 0) = sumA f l n 0 := by
  apply Array.ext
  · simp [sumA]
  · intro i h1 h2
    simp [sumA, sumK]
theorem sumA_get (f : Sk → Int) (l : List Sk) {n k j : Nat} (hj : j < n) : (sumA f l n k)[j]? = some (.int .i64 (sumK f l (j : Int) k)) := by
  simp [sumA, hj]
theorem sumA_set (f : Sk → Int) (l : List Sk) {n k j : Nat} (hj : j < n) (hx : (l.getD k default).j = (j : Int)) : (sumA f l n k).setIfInBounds j (.int .i64 (sumK f l (j : Int) k + f (l.getD k default))) = sumA f l n (k + 1) := by
  apply Array.ext_getElem?
  intro i
  rw [Array.getElem?_setIfInBounds]
  by_cases hi : i < n
  · rw [sumA_get f l hi, sumA_get f l hi, sumK]
    by_cases h : j = i
    · subst h
      rw [if_pos rfl, if_pos (by simpa [sumA] using hj), if_pos hx]
    · rw [if_neg h, if_neg (by omega)]
  · by_cases h : j = i
    · omega
    · rw [if_neg h]
      simp [sumA, hi]
theorem sumK_bd {f : Sk → Int} {l : List Sk} {j : Int} {B : Int} (hB : 0 ≤ B) (h : ∀ k, k < l.length → -B ≤ f (l.getD k default) ∧ f (l.getD k default) ≤ B) : ∀ k, k ≤ l.length → -(B * (k : Int)) ≤ sumK f l j k ∧ sumK f l j k ≤ B * (k : Int)
  | 0, _ => by simp [sumK]
  | k + 1, hk => by
    have ih := sumK_bd (j := j) hB h k (by omega)
    have hx := h k (by omega)
    have e : B * ((k + 1 : Nat) : Int) = B * (k : Int) + B := by rw [Int.natCast_add, Int.mul_add]; simp
    rw [sumK, e]
    split <;> omega
set_option maxRecDepth 100000 in
set_option maxHeartbeats 1000000 in
theorem sums_any {L : Int} {J K : Option Addr} {n m cj ck : Nat} {w : World} {A : Option Addr} {N ca g : Nat} {xs : List Sk} {cp : Array Value} {f : Sk → Int} (hn6 : n ≤ 1000) (hN : xs.length = N) (hA : RowsAt 3 Sk.enc w A xs) (h10 : N ≤ 10)
    (hj : ∀ k, k < N → 0 ≤ (xs.getD k default).j ∧ (xs.getD k default).j < n) (hf : ∀ k, k < N → -100000000 ≤ f (xs.getD k default) ∧ f (xs.getD k default) ≤ 100000000)
    (hcf : ∀ args W, Sem.run Tryz.prog (callFunc g args) W = .ok (.enter g args) W)
    (hG : ∀ k x W, k < N → xs.getD k default = x → Ext w W → Calls Tryz.prog g (#[.agg #[.int .i64 x.j, .int .i64 x.a, .bool x.u]] ++ cp) W fun e w' => e = .returned (.int .i64 (f x)) ∧ Ext W w') :
    Calls Tryz.prog 78 #[.agg #[.int .i64 L, .slice J n cj, .slice K m ck], .slice A N ca, .func (.func g) #[] cp] w fun e w' => ∃ q, e = .returned (.slice (some ⟨q, 0, none⟩) n n) ∧ IntsAt w' (.slice (some ⟨q, 0, none⟩) n n) (sumL f xs n) ∧ w.heap.size ≤ q ∧ Blk w' q 3 (sumA f xs n N) ∧ Ext w w' := by
  have HN := Lib.hid hN
  have HA := Lib.hid hA
  have HJ := Lib.hid hj
  have HF := Lib.hid hf
  have HGG := Lib.hid hG
  have HCF := Lib.hid hcf
  have HB := Lib.hid (fun k j (hk : k ≤ N) => sumK_bd (f := f) (l := xs) (j := j) (B := 100000000) (by omega) (fun k hk => hf k (by omega)) k (by omega))
  have HM := Lib.hid (fun W => mk_ints W n n rfl hn6)
  have hnb : N ≤ 1152921504606846976 := by omega
  clear hN hA hj hf hG hcf
  obtain ⟨W0, hW0⟩ : ∃ W0, W0 = w.alloc (.cells #[.int .i64 L, .slice J n cj, .slice K m ck] 75) := ⟨_, rfl⟩
  have K0 := Lib.hid (show Blk W0 (w.heap.size) 75 #[.int .i64 L, .slice J n cj, .slice K m ck] by rw [hW0]; exact Blk.new _ _ _)
  have E0 := Lib.hid (show Ext w W0 by rw [hW0]; exact Ext.alloc _ _)
  have y0_0 : W0.cell? ⟨w.heap.size, 0, none⟩ = some (.int .i64 L) := K0.out.cell 0
  have y0_1 : W0.cell? ⟨w.heap.size, 1, none⟩ = some (.slice J n cj) := K0.out.cell 1
  have y0_2 : W0.cell? ⟨w.heap.size, 2, none⟩ = some (.slice K m ck) := K0.out.cell 2
  go_enter Tryz.func78, Tryz.ntmps78
  go_upto_region 1 with (fail)
  rw [← hW0]
  clear hW0
  have hm := HM.out W0
  rw [show Array.replicate n (.int .i64 0) = sumA f xs n 0 from sumA_zero f xs n] at hm
  obtain ⟨q, hq⟩ : ∃ q, q = W0.heap.size := ⟨_, rfl⟩
  obtain ⟨W1, hW1⟩ : ∃ W, W = W0.alloc (.cells (sumA f xs n 0) 3) := ⟨_, rfl⟩
  have E1 := Lib.hid (show Ext W0 W1 by rw [hW1]; exact Ext.alloc _ _)
  have KQ := Lib.hid (show Blk W1 q 3 (sumA f xs n 0) by rw [hW1, hq]; exact Blk.new _ _ _)
  have hsq := Lib.hid (show w.heap.size < q by have := K0.out.lt; omega)
  rw [← hW1, ← hq] at hm
  clear hW1 hq
  go_upto_region 2 with (fail)
  clear hm HM y0_0 y0_1 y0_2
  have X1 := Lib.hid (E0.out.trans E1.out)
  clear E0 E1 K0
  go_wp2
  go_loopw [17] (fun i wr => ∃ k : Nat, k ≤ N ∧ i = .int .i64 (k : Int) ∧ Ext w wr ∧ Blk wr q 3 (sumA f xs n k)) (fun i _ => N - (intOf i).toNat)
  case atStart => exact ⟨0, by omega, rfl, X1.out, KQ.out⟩
  case round =>
    clear X1 KQ
    obtain ⟨k, hk, rfl, hx, hkq⟩ := hrel
    have X := Lib.hid hx
    have KQ := Lib.hid hkq
    clear hx hkq
    by_cases hlt : k < N
    · obtain ⟨x, hx⟩ : ∃ x, xs[k]? = some x := ⟨_, List.getElem?_eq_getElem (by rw [HN.out]; exact hlt)⟩
      obtain ⟨b, o, rfl, hb, hc⟩ := row_at (HA.out.ext X.out) hx
      have hd : xs.getD k default = x := by simp [hx]
      have hj := HJ.out k hlt
      have hf := HF.out k hlt
      have HG := Lib.hid (fun W (e : Ext w W) => HGG.out k x W hlt hd e)
      have HST := Lib.hid (fun j (h : j < n) => sumA_set f xs (k := k) h)
      rw [hd] at hj hf HST
      obtain ⟨xj, xa, xu⟩ := x
      obtain ⟨jx, hjx⟩ : ∃ j : Nat, xj = (j : Int) := ⟨xj.toNat, by have := hj.1; dsimp only at this; omega⟩
      subst hjx
      have hjx : jx < n := by have := hj.2; dsimp only at this; omega
      have p0 := hc 0 _ rfl
      have p1 := hc 1 _ rfl
      have p2 := hc 2 _ rfl
      simp only [Nat.add_zero] at p0
      dsimp only at p0 p1 p2 HG
      have hz := HB.out k (jx : Int) hk
      have HS := Lib.hid (HST.out jx hjx rfl)
      generalize f ⟨(jx : Int), xa, xu⟩ = y at *
      have cz : wr.cell? ⟨q, jx, none⟩ = some (.int .i64 (sumK f xs (jx : Int) k)) := by exact (KQ.out.cell jx).trans (sumA_get f xs hjx)
      have fz : wr.frozen? ⟨q, jx, none⟩ = false := KQ.out.free _
      generalize hzz : sumK f xs (jx : Int) k = z at *
      have HZZ := Lib.hid hzz
      clear hzz hc hx hd hj HST
      have hki : (k : Int) < (N : Int) := by omega
      have hk10 : (k : Int) ≤ 10 := by omega
      obtain ⟨qx, hq⟩ : ∃ q, q = wr.heap.size := ⟨_, rfl⟩
      obtain ⟨W1, hW1⟩ : ∃ W, W = wr.alloc (.cells #[.int .i64 (jx : Int), .int .i64 xa, .bool xu] 68) := ⟨_, rfl⟩
      have E1 := Lib.hid (show Ext wr W1 by rw [hW1]; exact Ext.alloc _ _)
      have KX := Lib.hid (show Blk W1 qx 68 #[.int .i64 (jx : Int), .int .i64 xa, .bool xu] by rw [hW1, hq]; exact Blk.new _ _ _)
      go_upto_region 5 with (fail)
      rw [← hW1, ← hq]
      clear p0 p1 p2
      have X2 := Lib.hid (X.out.trans E1.out)
      have cz1 := E1.out.cell cz
      replace KQ := Lib.hid (KQ.out.ext E1.out)
      clear cz fz hW1 hq X E1
      have x0 : W1.cell? ⟨qx, 0, none⟩ = some (.int .i64 (jx : Int)) := KX.out.cell 0
      have x1 : W1.cell? ⟨qx, 1, none⟩ = some (.int .i64 xa) := KX.out.cell 1
      have x2 : W1.cell? ⟨qx, 2, none⟩ = some (.bool xu) := KX.out.cell 2
      have hjx2 : (jx : Int) < (n : Int) := by omega
      refine wp_region_part 10 [some 21, some 22, some 23, some 24, some 25, some 26, some 27, some 28, some 29, some 30] [[7], [9], [22], [21, 23], [24], [2], [9], [26, 27], [25, 28], [21, 23]]
        [Is (.slice (some ⟨q, 0, none⟩) n n), Is (.pointer (some ⟨qx, 0, none⟩)), Is (.int .i64 ((jx : Int))), Is (.pointer (some ⟨q, jx, none⟩)), Is (.int .i64 (z)), Is (.func (.func g) #[] cp), Is (.agg #[.int .i64 (jx : Int), .int .i64 xa, .bool xu]), Is (.int .i64 (y)), Is (.int .i64 (z + y)), Is (.pointer (some ⟨q, jx, none⟩))]
        (by kernel_rfl) (by kernel_rfl) (by kernel_rfl) (by kernel_rfl) (by kernel_rfl) (by kernel_rfl) (by kernel_rfl) Ext (fun W => Ext W1 W)
        (fun W _ => Ext.refl W) (fun W W' h k => h.trans k) ?_ (Ext.drew _) ?_ ?_
      · repeat (refine ⟨fun _ _ _ _ k h => (by first | exact h | exact (IntsAt.ext h k)), ?_⟩)
        exact trivial
      · refine ⟨?_, ?_, ?_, ?_, ?_, ?_, ?_, ?_, ?_, ?_, trivial⟩
        all_goals intro ρ W ⟨kc, kg, kf⟩ hF hs
        · obtain ⟨h0, -⟩ := hs
          replace h0 : ρ (.tmp 7) = .slice (some ⟨q, 0, none⟩) n n := h0
          go_simp
          exact ⟨Ext.refl _, rfl⟩
        · obtain ⟨h0, -⟩ := hs
          replace h0 : ρ (.tmp 9) = .pointer (some ⟨qx, 0, none⟩) := h0
          go_simp
          exact ⟨Ext.refl _, rfl⟩
        · obtain ⟨h0, -⟩ := hs
          replace h0 : ρ (.tmp 22) = .pointer (some ⟨qx, 0, none⟩) := h0
          have hc0 : W.cell? ⟨qx, 0, none⟩ = some (.int .i64 ((jx : Int))) := hF.cell (by assumption)
          go_simp
          exact ⟨Ext.refl _, rfl⟩
        · obtain ⟨h0, h1, -⟩ := hs
          replace h0 : ρ (.tmp 21) = .slice (some ⟨q, 0, none⟩) n n := h0
          replace h1 : ρ (.tmp 23) = .int .i64 ((jx : Int)) := h1
          have hjx2 : (jx : Int) < (n : Int) := by omega
          go_simp
          exact ⟨Ext.refl _, rfl⟩
        · obtain ⟨h0, -⟩ := hs
          replace h0 : ρ (.tmp 24) = .pointer (some ⟨q, jx, none⟩) := h0
          have hc0 : W.cell? ⟨q, jx, none⟩ = some (.int .i64 (z)) := hF.cell (by assumption)
          go_simp
          exact ⟨Ext.refl _, rfl⟩
        · obtain ⟨h0, -⟩ := hs
          replace h0 : ρ (.tmp 2) = .func (.func g) #[] cp := h0
          go_simp
          exact ⟨Ext.refl _, rfl⟩
        · obtain ⟨h0, -⟩ := hs
          replace h0 : ρ (.tmp 9) = .pointer (some ⟨qx, 0, none⟩) := h0
          have hc0 : W.cell? ⟨qx, 0, none⟩ = some (.int .i64 ((jx : Int))) := hF.cell (by assumption)
          have hc1 : W.cell? ⟨qx, 1, none⟩ = some (.int .i64 (xa)) := hF.cell (by assumption)
          have hc2 : W.cell? ⟨qx, 2, none⟩ = some (.bool (xu)) := hF.cell (by assumption)
          go_simp
          exact ⟨Ext.refl _, rfl⟩
        · obtain ⟨h0, h1, -⟩ := hs
          replace h0 : ρ (.tmp 26) = .func (.func g) #[] cp := h0
          replace h1 : ρ (.tmp 27) = .agg #[.int .i64 (jx : Int), .int .i64 xa, .bool xu] := h1
          replace h0 : ρ (.tmp 26) = .func (.func g) #[] cp := h0
          go_simp
          rw [HCF.out]
          refine (HG.out _ (X2.out.trans hF)).mono ?_; rintro e w' ⟨rfl, hx⟩; exact ⟨_, rfl, hx, rfl⟩
        · obtain ⟨h0, h1, -⟩ := hs
          replace h0 : ρ (.tmp 25) = .int .i64 (z) := h0
          replace h1 : ρ (.tmp 28) = .int .i64 (y) := h1
          have hw : IntKind.i64.wrap (z + y) = z + y := wrap_id _ (by omega) (by omega)
          go_simp
          exact ⟨Ext.refl _, rfl⟩
        · obtain ⟨h0, h1, -⟩ := hs
          replace h0 : ρ (.tmp 21) = .slice (some ⟨q, 0, none⟩) n n := h0
          replace h1 : ρ (.tmp 23) = .int .i64 ((jx : Int)) := h1
          have hjx2 : (jx : Int) < (n : Int) := by omega
          go_simp
          exact ⟨Ext.refl _, rfl⟩
      · intro fv W hF hs
        obtain ⟨-, -, -, -, -, -, -, -, h29, h30, -⟩ := hs
        replace h29 : fv 29 = .int .i64 (z + y) := h29
        replace h30 : fv 30 = .pointer (some ⟨q, jx, none⟩) := h30
        simp only [fin, List.filterMap]
        go_simp
        replace KQ := Lib.hid (KQ.out.ext hF)
        have X3 := Lib.hid (X2.out.trans hF)
        clear hF cz1 x0 x1 x2
        have fz : W.frozen? ⟨q, jx, none⟩ = false := KQ.out.free _
        have cz : W.cell? ⟨q, jx, none⟩ = some (.int .i64 z) := by rw [KQ.out.cell jx, sumA_get f xs hjx, HZZ.out]
        go_wp2
        go_roundw
        case rel => exact ⟨k + 1, by omega, by go_num, Ext.set X3.out (by have := hsq.out; dsimp only; omega) _, by rw [← HS.out]; have := KQ.out.setSame jx (.int .i64 (z + y)); simpa using this⟩
        case measure => simp [intOf]; omega
    · obtain rfl : k = N := by omega
      have hkn : ¬ (k : Int) < (k : Int) := by omega
      go_wp2
      go_ret
      refine ⟨q, rfl, ?_, by have := hsq.out; omega, KQ.out, X.out⟩
      refine .inr ⟨q, 0, n, by simp [sumL], KQ.out.lt, by simp [sumL]; omega, fun i hi => ?_⟩
      have hi2 : i < n := by simpa [sumL] using hi
      have := (KQ.out.cell i).trans (sumA_get f xs hi2)
      simpa [sumL, hi2, HN.out] using this

end Go.Proofs.YtjdilmmpdlcimaaGreat
