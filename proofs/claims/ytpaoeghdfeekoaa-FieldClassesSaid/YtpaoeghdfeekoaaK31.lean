/- slices.Repeat, for a slice of one range. -/
import Derived.Test.YtpaoeghdfeekoaaK26
import Derived.Laws.CopyRow
import Derived.Lib.SlBuf
import Derived.Deep.RegionHeld3
import Derived.Deep.DrawnRows
import Derived.Deep.DeepCutAuto
namespace Go.Proofs.Ytpaoeghdfeekoaa
open Go.RowKit Go.Shelf Go.Mem Go.RegInv
attribute [local go_sem ↓] Go.wp_at_zero Go.wp_at_succ

theorem run_copy2 {P : Program} (w : World) (dT sT ty elem : TypeId) (g o dLen dCap : Nat) (a : Addr) (sLen sCap : Nat) (cur : Array Value) (t : TypeId) (cs : List Value)
    (hu : P.underlying dT = some (.slice elem)) (hs : (P.info? elem).map (·.size) = some 2)
    (hg : w.heap[g]? = some (.cells cur t (0, 0))) (k : Nat) (hk : Nat.min sLen dLen = k) (hn : k * 2 = cs.length)
    (hsrc : ∀ j v, cs[j]? = some v → w.cell? (a.add j) = some v) (hfit : o + cs.length ≤ cur.size) (h1 : ∀ v ∈ cs, v.oneCell' = true) :
    (Builtin.copy_ #[dT, sT] ty #[.slice (some ⟨g, o, none⟩) dLen dCap, .slice (some a) sLen sCap]).run P w =
      .ok (goInt k) (w.setRow g (cur.toList.take o ++ cs ++ cur.toList.drop (o + cs.length)).toArray) := by
  have hl := run_loadCells_list (P := P) w a cs hsrc
  have hst := run_storeCells_at P g o t cs 0 cur w hg (by simpa using hfit) h1
  cases hq : P.info? elem with
  | none => simp [hq] at hs
  | some i =>
    have hi : i.size = 2 := by simpa [hq] using hs
    simp [Builtin.copy_, run_underlying hu, Builtin.lenOf, Builtin.firstCells, sizeOf, typeInfo, hq, hi, hk, hn, hl, hst]
theorem step_copy_run {P : Program} {ops : Array Oper} {o : Oper} {a : Act} {w : World} {K : Act → World → Prop} {Q : Exit → Act → World → Prop} {E : Prop} (hgd : o.guard = none) (d s : Operand) (t t' : TypeId)
    (ho : o.op = .call { callee := .builtin .copy, args := #[d, s], argTypes := #[t, t'] }) (v u : Value) (hd : a.eval d = v) (hs : a.eval s = u) {v' : Value} {w' : World}
    (hr : (Builtin.copy_ #[t, t'] o.type #[v, u]).run P w = .ok v' w') (h : K (a.put o.dst v') w') : if Region.wanted o (yielded ops a.tmps) = true then Oper.wp P o a w K Q else E := by
  have hw : Region.wanted o (yielded ops a.tmps) = true := by simp [Region.wanted, hgd]
  rw [if_pos hw]
  exact Lib.wp_copy_run w d s t t' ho v u hd hs hr h

set_option maxRecDepth 100000 in
theorem mul64_one (n : Nat) (h : n = 1 ∨ n = 2 ∨ n = 3 ∨ n = 4) (w : World) : Calls Try.prog 139 #[.int .u64 1, .int .u64 (n : Int)] w fun e w' => e = .returned (.tuple #[.int .u64 0, .int .u64 (n : Int)]) ∧ w = w' := by
  rcases h with rfl | rfl | rfl | rfl
  all_goals
    go_enter Try.func139, Try.ntmps139
    go_wp2
    go_ret2
    exact ⟨rfl, rfl⟩
set_option maxRecDepth 100000 in
theorem mul_one (n : Nat) (h : n = 1 ∨ n = 2 ∨ n = 3 ∨ n = 4) (w : World) : Calls Try.prog 133 #[.int .u64 1, .int .u64 (n : Int)] w fun e w' => e = .returned (.tuple #[.int .u64 0, .int .u64 (n : Int)]) ∧ w = w' := by
  have HM := Lib.hid (fun W => mul64_one n h W)
  clear h
  go_enter Try.func133, Try.ntmps133
  go_wp2_with (go_at_call 139; refine (HM.out _).mono ?_; rintro e w' ⟨rfl, rfl⟩)
  go_ret2
  exact ⟨rfl, rfl⟩

theorem mk_run132 (W : World) (L : Int) (k : Nat) (hL : L = (k : Int)) (hk : k ≤ 100) :
    (Instr.makeSlice 99 (.int .i64 L) (.int .i64 L)).run Try.prog W = .ok (.slice (some ⟨W.heap.size, 0, none⟩) k k) (W.alloc (.cells (madeCells #[.int .i64 0, .int .i64 0] (k * 2)) 132)) := by
  obtain ⟨i0, hi, hz0, hz1, hz2⟩ := info_parts info132
  subst hL
  have := run_make (P := Try.prog) W 99 132 i0 _ Try.underlying99 hi hz0 .i64 .i64 (k : Int) (k : Int) (by omega) (Int.le_refl _) (by rw [hz2]; omega) (by omega)
  rw [hz1] at this
  simpa [Value.cells] using this

/-- The first k rows of a block are this one. -/
def FillAt (cu : Array Value) (n k : Nat) (x y : Int) : Prop := cu.size = n * 2 ∧ ∀ i, i < k → cu[i * 2]? = some (.int .i64 x) ∧ cu[i * 2 + 1]? = some (.int .i64 y)
def pairsL (m : Nat) (x y : Int) : List Value := (List.replicate m [Value.int .i64 x, Value.int .i64 y]).flatten
theorem pairsL_len (m : Nat) (x y : Int) : (pairsL m x y).length = m * 2 := by
  unfold pairsL
  induction m with
  | zero => rfl
  | succ m ih => rw [List.replicate_succ, List.flatten_cons, List.length_append, ih]; simp; omega
theorem pairsL_at (m : Nat) (x y : Int) : ∀ i, i < m → (pairsL m x y)[i * 2]? = some (.int .i64 x) ∧ (pairsL m x y)[i * 2 + 1]? = some (.int .i64 y) := by
  unfold pairsL
  induction m with
  | zero => intro i h; omega
  | succ m ih =>
    intro i h
    rw [List.replicate_succ, List.flatten_cons]
    cases i with
    | zero => exact ⟨rfl, rfl⟩
    | succ i =>
      obtain ⟨h1, h2⟩ := ih i (by omega)
      rw [show (i + 1) * 2 = i * 2 + 2 by omega]
      refine ⟨?_, ?_⟩
      · rw [List.getElem?_append_right (by simp)]; simpa using h1
      · rw [List.getElem?_append_right (by simp)]; simpa using h2
theorem pairsL_one (m : Nat) (x y : Int) : ∀ v ∈ pairsL m x y, v.oneCell' = true := by
  intro v hv
  unfold pairsL at hv
  obtain ⟨l, hl, hv⟩ := List.mem_flatten.1 hv
  obtain ⟨_, rfl⟩ := List.mem_replicate.1 hl
  simp only [List.mem_cons, List.not_mem_nil, or_false] at hv
  rcases hv with rfl | rfl <;> rfl
theorem fill_more {cu : Array Value} {n k m : Nat} {x y : Int} (h : FillAt cu n k x y) (hm : k + m ≤ n) :
    FillAt (cu.toList.take (k * 2) ++ pairsL m x y ++ cu.toList.drop (k * 2 + (pairsL m x y).length)).toArray n (k + m) x y := by
  obtain ⟨h1, h2⟩ := h
  have hl : cu.toList.length = n * 2 := by simpa using h1
  refine ⟨by simp [pairsL_len, h1]; omega, fun i hi => ?_⟩
  by_cases hik : i < k
  · obtain ⟨h3, h4⟩ := h2 i hik
    refine ⟨?_, ?_⟩
    · rw [List.getElem?_toArray, List.append_assoc, List.getElem?_append_left (by simp; omega), List.getElem?_take, if_pos (by omega), Array.getElem?_toList]; exact h3
    · rw [List.getElem?_toArray, List.append_assoc, List.getElem?_append_left (by simp; omega), List.getElem?_take, if_pos (by omega), Array.getElem?_toList]; exact h4
  · obtain ⟨h3, h4⟩ := pairsL_at m x y (i - k) (by omega)
    have ht : (cu.toList.take (k * 2)).length = k * 2 := by rw [List.length_take, hl]; omega
    refine ⟨?_, ?_⟩
    · rw [List.getElem?_toArray, List.append_assoc, List.getElem?_append_right (by omega), ht, List.getElem?_append_left (by rw [pairsL_len]; omega), show i * 2 - k * 2 = (i - k) * 2 by omega]; exact h3
    · rw [List.getElem?_toArray, List.append_assoc, List.getElem?_append_right (by omega), ht, List.getElem?_append_left (by rw [pairsL_len]; omega), show i * 2 + 1 - k * 2 = (i - k) * 2 + 1 by omega]; exact h4
/-- The cells of a copy, out of rows that are all the same. -/
theorem pairs_src {W : World} {g : Nat} {t : TypeId} {cu : Array Value} {n k m : Nat} {x y : Int} (hb : Blk W g t cu) (h : FillAt cu n k x y) (hm : m ≤ k) : ∀ j v, (pairsL m x y)[j]? = some v → W.cell? ((⟨g, 0, none⟩ : Addr).add j) = some v := by
  intro j v hj
  have hlt := (List.getElem?_eq_some_iff.1 hj).1
  rw [pairsL_len] at hlt
  obtain ⟨h3, h4⟩ := h.2 (j / 2) (by omega)
  obtain ⟨h5, h6⟩ := pairsL_at m x y (j / 2) (by omega)
  rw [WideShapes.add_plain, hb.cell]
  show cu[0 + j]? = _
  rcases Nat.mod_two_eq_zero_or_one j with hj2 | hj2
  · rw [show j / 2 * 2 = j by omega] at h3 h5
    rw [h5] at hj
    rw [Nat.zero_add, h3, hj]
  · rw [show j / 2 * 2 + 1 = j by omega] at h4 h6
    rw [h6] at hj
    rw [Nat.zero_add, h4, hj]
theorem set_row {W : World} {g : Nat} {t : TypeId} {cs cs' : Array Value} (h : Blk W g t cs) : Blk (W.setRow g cs') g t cs' := setRow_heap W g _ _ t _ h
theorem ext_row {W0 W : World} {g : Nat} (h : Ext W0 W) (hg : W0.heap.size ≤ g) (cs : Array Value) : Ext W0 (W.setRow g cs) :=
  Below.trans h ⟨rfl, rfl, rfl, by simp [World.setRow], fun k hk => setRow_other W g k cs (by omega)⟩

set_option maxRecDepth 100000 in
set_option maxHeartbeats 4000000 in
theorem repeat_any (b n : Nat) (x y : Int) (h1 : 1 ≤ n) (h4 : n ≤ 4) (w : World) (hb : Blk w b 132 #[.int .i64 x, .int .i64 y]) :
    Calls Try.prog 122 #[.slice (some ⟨b, 0, none⟩) 1 1, .int .i64 (n : Int)] w fun e w' => ∃ g cu, e = .returned (.slice (some ⟨g, 0, none⟩) n n) ∧ Blk w' g 132 cu ∧ FillAt cu n n x y ∧ w.heap.size ≤ g ∧ Ext w w' := by
  have HM := Lib.hid (fun W => mul_one n (by omega) W)
  have HB := Lib.hid hb
  have HMK := Lib.hid (mk_run132 w (n : Int) n rfl (by omega))
  have hs132 : (Try.prog.info? 132).map (·.size) = some 2 := by kernel_rfl
  have HS132 := Lib.hid hs132
  clear hb hs132
  have hn0 : ¬ (n : Int) < 0 := by omega
  have hmk := HMK.out
  obtain ⟨W1, hW1⟩ : ∃ W1, W1 = w.alloc (.cells (madeCells #[.int .i64 0, .int .i64 0] (n * 2)) 132) := ⟨_, rfl⟩
  rw [← hW1] at hmk
  have HMZ : (madeCells #[.int .i64 0, .int .i64 0] (n * 2)).size = n * 2 := by rw [size_madeCells]
  have k1 : Blk W1 w.heap.size 132 (madeCells #[.int .i64 0, .int .i64 0] (n * 2)) := by rw [hW1]; exact Blk.new _ _ _
  have e1 : Ext w W1 := by rw [hW1]; exact Ext.alloc _ _
  have hcp := run_copy2 (P := Try.prog) W1 99 99 3 132 w.heap.size 0 n n ⟨b, 0, none⟩ 1 1 _ 132 (pairsL 1 x y) Try.underlying99 HS132.out k1 1 (by show min 1 n = 1; omega) (by rw [pairsL_len])
    (pairs_src (n := 1) (k := 1) (HB.out.ext e1) ⟨rfl, fun i hi => (by have h0 : i = 0 := (by omega); subst h0; exact ⟨rfl, rfl⟩)⟩ (Nat.le_refl _)) (by rw [pairsL_len, HMZ]; omega) (pairsL_one _ _ _)
  obtain ⟨W2, hW2⟩ : ∃ W2, W2 = W1.setRow w.heap.size ((madeCells #[.int .i64 0, .int .i64 0] (n * 2)).toList.take 0 ++ pairsL 1 x y ++ (madeCells #[.int .i64 0, .int .i64 0] (n * 2)).toList.drop (0 + (pairsL 1 x y).length)).toArray := ⟨_, rfl⟩
  rw [← hW2] at hcp
  have f2 : FillAt ((madeCells #[.int .i64 0, .int .i64 0] (n * 2)).toList.take 0 ++ pairsL 1 x y ++ (madeCells #[.int .i64 0, .int .i64 0] (n * 2)).toList.drop (0 + (pairsL 1 x y).length)).toArray n (0 + 1) x y :=
    fill_more (k := 0) ⟨HMZ, fun i hi => by omega⟩ (by omega)
  have I2 := Lib.hid (show ∃ cu, Blk W2 w.heap.size 132 cu ∧ FillAt cu n 1 x y from ⟨_, by rw [hW2]; exact set_row k1, f2⟩)
  have E2 := Lib.hid (show Ext w W2 by rw [hW2]; exact ext_row e1 (Nat.le_refl _) _)
  have HCP := Lib.hid hcp
  clear hW1 hW2 k1 e1 f2 HMK HMZ hcp
  go_enter Try.func122, Try.ntmps122
  go_wp2_with (first
    | (go_at_call 133; refine (HM.out _).mono ?_; rintro e w' ⟨rfl, rfl⟩)
    | (at_builtin; refine Lib.wpList_copy_run _ rfl _ _ 99 99 rfl _ _ (by rfl) (by rfl) HCP.out ?_)
    | (refine Lib.wpList_copy_run _ rfl (.tmp 31) (.tmp 32) 99 99 rfl _ _ (by rfl) (by rfl) HCP.out ?_))
  have hn1 : (1 : Int) ≤ (n : Int) := by omega
  go_loopw [8] (fun v wr => ∃ k : Nat, 1 ≤ k ∧ k ≤ n ∧ v = .int .i64 k ∧ (∃ cu, Blk wr w.heap.size 132 cu ∧ FillAt cu n k x y) ∧ Ext w wr) (fun v _ => n - (intOf v).toNat)
  case atStart => exact ⟨1, Nat.le_refl _, h1, rfl, I2.out, E2.out⟩
  case round =>
    obtain ⟨k, hk1, hkn, rfl, ⟨cu, hb, hfl⟩, he⟩ := hrel
    by_cases hlt : k < n
    · obtain ⟨m, hm⟩ : ∃ m, m = min k (n - k) := ⟨_, rfl⟩
      have HBB := Lib.hid hb
      have HFL := Lib.hid hfl
      have HE := Lib.hid he
      have hcp := fun W (hb : Blk W w.heap.size 132 cu) => run_copy2 (P := Try.prog) W 99 99 3 132 w.heap.size (k * 2) (n - k) (n - k) ⟨w.heap.size, 0, none⟩ k n cu 132 (pairsL m x y) Try.underlying99 HS132.out hb m (by show min k (n - k) = m; omega) (by rw [pairsL_len])
        (pairs_src hb hfl (by omega)) (by rw [pairsL_len, hfl.1]; omega) (pairsL_one _ _ _)
      have HCQ := Lib.hid hcp
      have hfm := fill_more hfl (m := m) (by omega)
      have HFM := Lib.hid hfm
      have hb0 : (0 : Int) ≤ (k : Int) := by omega
      have hb1 : (k : Int) ≤ (n : Int) := by omega
      have hb2 : (n == k) = false := by rw [beq_eq_false_iff_ne]; omega
      have hb3 : ¬ n = k := by omega
      have hki : (k : Int) < (n : Int) := by omega
      have hm1 : 1 ≤ m := by omega
      have hm2 : k + m ≤ n := by omega
      have hw : IntKind.i64.wrap ((k : Int) + (m : Int)) = (k : Int) + (m : Int) := IntWalk.i64_in _ (by omega)
      have HW := Lib.hid hw
      clear hb hfl he hcp hfm hm hw
      go_upto_region 9 with (fail)
      go_region_held3 (fun _ => True) (trivial)
        ((refine step_copy_run (by rfl) (.tmp 41) (.tmp 44) 99 99 (by rfl) _ _ (by rfl) (by rfl) (HCQ.out _ (by first | exact HBB.out | exact HBB.out.drew)) ?_))
      rw [HW.out]
      go_wp2
      go_roundw
      case rel => exact ⟨k + m, by omega, hm2, by rw [show ((k + m : Nat) : Int) = (k : Int) + (m : Int) by omega], ⟨_, set_row HBB.out.drew, HFM.out⟩, ext_row (HE.out.trans (Ext.drew _)) (Nat.le_refl _) _⟩
      case measure => simp [intOf]; omega
    · obtain rfl : n = k := by omega
      go_wp2
      go_ret
      exact ⟨_, cu, rfl, hb, hfl, Nat.le_refl _, he⟩

end Go.Proofs.Ytpaoeghdfeekoaa
