/- The reference's solution of a ladder. By lawgen.py. -/
import Derived.Test.YtpaoeghdfeekoaaG7
namespace Go.Proofs.Ytpaoeghdfeekoaa
open Go.RowKit Go.Shelf Go.Mem Go.RegInv
attribute [local go_sem] RelUpon_value RelUpon_skip RelUpon_enter BigFrame.eval_const BigFrame.eval_global BigFrame.eval_func

theorem gadd_any (a b c d : Int) (ha : Mid a) (hb : Mid b) (hc : Mid c) (hd : Mid d) (w : World) :
    Calls Try.prog 57 #[.agg #[.int .i64 a, .int .i64 b], .agg #[.int .i64 c, .int .i64 d]] w fun e w' => e = .returned (.agg #[.int .i64 (a + c), .int .i64 (b + d)]) ∧ Ext w w' := by
  obtain ⟨ha1, ha2⟩ := ha
  obtain ⟨hb1, hb2⟩ := hb
  obtain ⟨hc1, hc2⟩ := hc
  obtain ⟨hd1, hd2⟩ := hd
  go_enter Try.func57, Try.ntmps57
  go_wp2
  exact bodyPost_ret (v := .agg #[.int .i64 (a + c), .int .i64 (b + d)]) (by simp [results, Try.f57, go_sem]) rfl ⟨rfl, (Ext.alloc _ _).trans ((Ext.alloc _ _).trans (Ext.alloc _ _))⟩
theorem scaled_any (a b n : Int) (ha : Mid (n * a)) (hb : Mid (n * b)) (w : World) :
    Calls Try.prog 93 #[.agg #[.int .i64 a, .int .i64 b], .int .i64 n] w fun e w' => e = .returned (.agg #[.int .i64 (n * a), .int .i64 (n * b)]) ∧ Ext w w' := by
  obtain ⟨ha1, ha2⟩ := ha
  obtain ⟨hb1, hb2⟩ := hb
  go_enter Try.func93, Try.ntmps93
  go_wp2
  exact bodyPost_ret (v := .agg #[.int .i64 (n * a), .int .i64 (n * b)]) (by simp [results, Try.f93, go_sem]) rfl ⟨rfl, (Ext.alloc _ _).trans (Ext.alloc _ _)⟩
theorem turned_any (a b : Int) (hb : Mid b) (w : World) :
    Calls Try.prog 94 #[.agg #[.int .i64 a, .int .i64 b]] w fun e w' => e = .returned (.agg #[.int .i64 (-b), .int .i64 a]) ∧ Ext w w' := by
  obtain ⟨hb1, hb2⟩ := hb
  go_enter Try.func94, Try.ntmps94
  go_wp2
  exact bodyPost_ret (v := .agg #[.int .i64 (-b), .int .i64 a]) (by simp [results, Try.f94, go_sem]) rfl ⟨rfl, (Ext.alloc _ _).trans (Ext.alloc _ _)⟩

theorem mk_run (W : World) (L : Int) (k : Nat) (hL : L = (k : Int)) (hk : k ≤ 100) :
    (Instr.makeSlice 53 (.int .i64 L) (.int .i64 L)).run Try.prog W = .ok (.slice (some ⟨W.heap.size, 0, none⟩) k k) (W.alloc (.cells (madeCells #[.int .i64 0, .int .i64 0] (k * 2)) 65)) := by
  obtain ⟨i0, hi, hz0, hz1, hz2⟩ := info_parts info65
  subst hL
  have := run_make (P := Try.prog) W 53 65 i0 _ Try.underlying53 hi hz0 .i64 .i64 (k : Int) (k : Int) (by omega) (Int.le_refl _) (by rw [hz2]; omega) (by omega)
  rw [hz1] at this
  simpa [Value.cells] using this

/-- A new slice of k voltages. -/
def FrV (q k : Nat) : Value → World → Prop := fun u W => ∃ g cu, q ≤ g ∧ u = .slice (some ⟨g, 0, none⟩) k k ∧ Blk W g 65 cu ∧ cu.size = k * 2
theorem FrV.ext {q k : Nat} {u : Value} {W W' : World} (h : FrV q k u W) (e : Ext W W') : FrV q k u W' := by
  obtain ⟨g, cu, h1, h2, h3, h4⟩ := h; exact ⟨g, cu, h1, h2, h3.ext e, h4⟩
theorem mk_fr (W : World) (k : Nat) (q : Nat) (hq : q ≤ W.heap.size) : FrV q k (.slice (some ⟨W.heap.size, 0, none⟩) k k) (W.alloc (.cells (madeCells #[.int .i64 0, .int .i64 0] (k * 2)) 65)) :=
  ⟨_, _, hq, rfl, Blk.new _ _ _, by rw [size_madeCells]⟩

/-- The cells from j on. -/
def FromC (cu : Array Value) (j n : Nat) (z : Nat → G) : Prop := ∀ p, j ≤ p → p < n → cu[p * 2]? = some (.int .i64 (z p).re) ∧ cu[p * 2 + 1]? = some (.int .i64 (z p).im)
theorem fromC_set {cu : Array Value} {j n : Nat} {z : Nat → G} (h : FromC cu (j + 1) n z) (hs : cu.size = n * 2) (hj : j < n) {x y : Int} (hx : x = (z j).re) (hy : y = (z j).im) :
    FromC ((cu.setIfInBounds (j * 2) (.int .i64 x)).setIfInBounds (j * 2 + 1) (.int .i64 y)) j n z := by
  intro p hp hpn
  rw [set_at, set_at, set_at, set_at]
  by_cases hpj : p = j
  · subst hpj
    rw [if_neg (by omega), if_pos rfl, if_pos (by omega), if_pos rfl, if_pos (by simp; omega), hx, hy]
    exact ⟨rfl, rfl⟩
  · rw [if_neg (by omega), if_neg (by omega), if_neg (by omega), if_neg (by omega)]
    exact h p (by omega) hpn

/-- Solve behind some of its rounds. -/
structure StS (W0 : World) (f : Int) (hot : List Bool) (ls : List Sh) (n g8 g9 q10 j : Nat) (W : World) : Prop where
  b8 : ∃ cu, Blk W g8 65 cu ∧ cu.size = (n + 1) * 2 ∧ FromC cu j (n + 1) (fun p => (st f hot ls p).last)
  b9 : ∃ cu, Blk W g9 65 cu ∧ cu.size = n * 2 ∧ FromC cu j n (fun p => (st f hot ls p).cur)
  b10 : Blk W q10 65 #[.int .i64 (st f hot ls j).cur.re, .int .i64 (st f hot ls j).cur.im]
  below : Ext W0 W

theorem rows_from {W : World} {g n : Nat} {cu : Array Value} {z : Nat → G} {xs : List G} (hb : Blk W g 65 cu) (hn : n ≤ 1152921504606846976) (hl : xs.length = n) (hx : ∀ p, p < n → xs[p]? = some (z p)) (h : FromC cu 0 n z) : RowsAt 2 G.enc W (some ⟨g, 0, none⟩) xs := by
  refine ⟨by omega, fun i s hs => ⟨g, 0, rfl, hb.lt, fun j u hu => ?_⟩⟩
  have hi : i < n := by rw [← hl]; exact (List.getElem?_eq_some_iff.1 hs).1
  have hj : j < 2 := (List.getElem?_eq_some_iff.1 hu).1
  obtain rfl : z i = s := by rw [hx i hi] at hs; exact Option.some.inj hs
  obtain ⟨h1, h2⟩ := h i (Nat.zero_le _) hi
  rw [hb.cell]
  match j, hj, hu with
  | 0, _, hu =>
    obtain rfl : Value.int .i64 (z i).re = u := by simpa [G.enc] using hu
    rw [show 0 + i * 2 + 0 = i * 2 by omega]; exact h1
  | 1, _, hu =>
    obtain rfl : Value.int .i64 (z i).im = u := by simpa [G.enc] using hu
    rw [show 0 + i * 2 + 1 = i * 2 + 1 by omega]; exact h2

set_option maxRecDepth 100000 in
set_option maxHeartbeats 4000000 in
theorem solve_any (t : Int) (A : Option Addr) (n cap : Nat) (ls : List Sh) (hn : ls.length = n) (f : Int) (B : Option Addr) (cap' : Nat) (hot : List Bool) (hm : hot.length = n) (w : World)
    (hS : RowsAt 3 Sh.enc w A ls) (hH : RowsAt 1 boolEnc w B hot) (hok : ∀ s ∈ ls, shOK s) (hf : 1 ≤ f ∧ f ≤ 8) (h1 : 1 ≤ n) (hn4 : n ≤ 4) :
    Calls Try.prog 36 #[.agg #[.int .i64 t, .slice A n cap], .agg #[.int .i64 f, .slice B n cap']] w fun e w' => ∃ g8 g9, e = .returned (.tuple #[.slice (some ⟨g8, 0, none⟩) (n + 1) (n + 1), .slice (some ⟨g9, 0, none⟩) n n]) ∧
      RowsAt 2 G.enc w' (some ⟨g8, 0, none⟩) (volts f hot ls) ∧ RowsAt 2 G.enc w' (some ⟨g9, 0, none⟩) (curr ls (volts f hot ls).tail) ∧ Ext w w' := by
  have e0 : Ext w ((w.alloc (.cells #[.int .i64 t, .slice A n cap] 24)).alloc (.cells #[.int .i64 f, .slice B n cap'] 27)) := (Ext.alloc _ _).trans (Ext.alloc _ _)
  have FA := Lib.hid (show ∀ W : World, Ext ((w.alloc (.cells #[.int .i64 t, .slice A n cap] 24)).alloc (.cells #[.int .i64 f, .slice B n cap'] 27)) W →
      W.cell? ⟨w.heap.size, 0, none⟩ = some (.int .i64 t) ∧ W.cell? ⟨w.heap.size, 1, none⟩ = some (.slice A n cap) ∧ W.cell? ⟨w.heap.size + 1, 0, none⟩ = some (.int .i64 f) ∧ W.cell? ⟨w.heap.size + 1, 1, none⟩ = some (.slice B n cap') from
    fun W hx => ⟨hx.cell (by go_simp), hx.cell (by go_simp), hx.cell (by go_simp), hx.cell (by go_simp)⟩)
  obtain ⟨rl, hrl⟩ : ∃ rl, rl = reactL f hot ls := ⟨_, rfl⟩
  have H26 := Lib.hid (fun W (e : Ext w W) => show Calls Try.prog 26 #[.agg #[.int .i64 t, .slice A n cap], .agg #[.int .i64 f, .slice B n cap']] W (VPost W (Ints rl)) from
    (refReactances_any t A n cap ls hn f B cap' hot hm W (hS.ext e) (hH.ext e) hok hf hn4).mono fun _ _ ⟨v, h1, h2, h3⟩ => ⟨v, h1, h3, by rw [hrl]; exact h2⟩)
  have HRL := Lib.hid hrl
  have HS := Lib.hid hS
  have HN := Lib.hid hn
  have HM := Lib.hid hm
  have E0 := Lib.hid e0
  have HRLN := Lib.hid (show rl.length = n by rw [hrl, reactL_len (by rw [hm, hn]), hn])
  have HSM := Lib.hid (fun k => st_small (hot := hot) hok hf (by omega) k)
  have HRB := Lib.hid (fun (b : Bool) (s : Sh) (hs : s ∈ ls) => (⟨react_bd (h := b) hf (hok s hs), (hok s hs).1⟩ : (1 ≤ react f b s ∧ react f b s ≤ 32) ∧ (1 ≤ s.g ∧ s.g ≤ 4)))
  have HVL := Lib.hid (volts_len f hot ls)
  clear hrl hS hH hn hm e0 hok hf
  go_enter Try.func36, Try.ntmps36
  go_wp2
  obtain ⟨z0, z1, z2, z3⟩ := FA.out _ (Ext.refl _)
  generalize hW0 : (w.alloc (.cells #[.int .i64 t, .slice A n cap] 24)).alloc (.cells #[.int .i64 f, .slice B n cap'] 27) = W0 at *
  clear hW0
  refine wp_region_each [some 12, some 13, some 14, some 15, some 16, some 17, some 6, some 7] [[2], [12], [13], [2], [3], [15, 16], [14], [17]]
    [Is (.pointer (some ⟨w.heap.size, 1, none⟩)), Is (.slice A n cap), Is (.int .i64 ((n : Int))), Is (.agg #[.int .i64 (t), .slice A n cap]), Is (.agg #[.int .i64 (f), .slice B n cap']), Ints rl, Is (.int .i64 ((n : Int))), Ints rl]
    (by kernel_rfl) (by kernel_rfl) (by kernel_rfl) (by kernel_rfl) (by kernel_rfl) Ext (fun W => Ext W0 W)
    (fun W _ => Ext.refl W) (fun W W' h k => h.trans k) ?_ (Ext.drew _) ?_ ?_
  · repeat (refine ⟨fun _ _ _ _ k h => (by first | exact h | exact IntsAt.ext h k), ?_⟩)
    exact trivial
  · refine ⟨?_, ?_, ?_, ?_, ?_, ?_, ?_, ?_, trivial⟩
    all_goals intro ρ W ⟨kc, kg, kf⟩ hF hs
    · obtain ⟨h0, -⟩ := hs
      replace h0 : ρ (.tmp 2) = .pointer (some ⟨w.heap.size, 0, none⟩) := h0
      go_simp
      exact ⟨Ext.refl _, rfl⟩
    · obtain ⟨h0, -⟩ := hs
      replace h0 : ρ (.tmp 12) = .pointer (some ⟨w.heap.size, 1, none⟩) := h0
      have hc0 : W.cell? ⟨w.heap.size, 1, none⟩ = some (.slice A n cap) := hF.cell (by assumption)
      go_simp
      exact ⟨Ext.refl _, rfl⟩
    · obtain ⟨h0, -⟩ := hs
      replace h0 : ρ (.tmp 13) = .slice A n cap := h0
      go_simp
      exact ⟨Ext.refl _, rfl⟩
    · obtain ⟨h0, -⟩ := hs
      replace h0 : ρ (.tmp 2) = .pointer (some ⟨w.heap.size, 0, none⟩) := h0
      have hc0 : W.cell? ⟨w.heap.size, 0, none⟩ = some (.int .i64 (t)) := hF.cell (by assumption)
      have hc1 : W.cell? ⟨w.heap.size, 1, none⟩ = some (.slice A n cap) := hF.cell (by assumption)
      go_simp
      exact ⟨Ext.refl _, rfl⟩
    · obtain ⟨h0, -⟩ := hs
      replace h0 : ρ (.tmp 3) = .pointer (some ⟨w.heap.size + 1, 0, none⟩) := h0
      have hc0 : W.cell? ⟨w.heap.size + 1, 0, none⟩ = some (.int .i64 (f)) := hF.cell (by assumption)
      have hc1 : W.cell? ⟨w.heap.size + 1, 1, none⟩ = some (.slice B n cap') := hF.cell (by assumption)
      go_simp
      exact ⟨Ext.refl _, rfl⟩
    · obtain ⟨h0, h1, -⟩ := hs
      replace h0 : ρ (.tmp 15) = .agg #[.int .i64 (t), .slice A n cap] := h0
      replace h1 : ρ (.tmp 16) = .agg #[.int .i64 (f), .slice B n cap'] := h1
      go_simp
      exact H26.out W (E0.out.trans hF)
    · obtain ⟨h0, -⟩ := hs
      replace h0 : ρ (.tmp 14) = .int .i64 ((n : Int)) := h0
      go_simp
      exact ⟨Ext.refl _, rfl⟩
    · obtain ⟨h0, -⟩ := hs
      replace h0 : (Ints rl) (ρ (.tmp 17)) W := h0
      go_simp
      first | exact ⟨Ext.refl _, h0⟩ | exact Ext.refl _
  · intro fv W1 hF hs
    obtain ⟨-, -, -, -, -, -, h6, h7, -⟩ := hs
    replace h6 : fv 6 = .int .i64 ((n : Int)) := h6
    replace h7 : (Ints rl) (fv 7) W1 := h7
    simp only [fin, List.filterMap]
    go_simp
    obtain ⟨Al, cl, hvl, hrl⟩ := ints_rows h7
    rw [HRLN.out] at hvl
    have HRR := Lib.hid hrl
    rw [hvl]
    have X1 := Lib.hid hF
    clear h6 h7 hvl hrl hF z0 z1 z2 z3
    obtain ⟨x0, hx0⟩ : ∃ x, rl[0]? = some x := ⟨_, List.getElem?_eq_getElem (by rw [HRLN.out]; omega)⟩
    obtain ⟨gl, ol, hAl, _, _⟩ := HRR.out.2 0 x0 hx0
    subst hAl
    clear hx0
    go_wp2
    obtain ⟨W2, hW2⟩ : ∃ W2, W2 = W1 := ⟨_, rfl⟩
    rw [← hW2]
    rw [← hW2] at HRR X1
    clear hW2
    refine wp_region_each [some 18, some 19, some 20, some 21, some 22, some 8, some 9] [[6], [18], [19, 19], [6], [21, 21], [20], [22]]
      [Is (.int .i64 (n)), Is (.int .i64 ((n : Int) + 1)), FrV W2.heap.size (n + 1), Is (.int .i64 (n)), FrV W2.heap.size (n), FrV W2.heap.size (n + 1), FrV W2.heap.size (n)]
      (by kernel_rfl) (by kernel_rfl) (by kernel_rfl) (by kernel_rfl) (by kernel_rfl) Ext (fun W => Ext W2 W)
      (fun W _ => Ext.refl W) (fun W W' h k => h.trans k) ?_ (Ext.drew _) ?_ ?_
    · repeat (refine ⟨fun _ _ _ _ k h => (by first | exact h | exact FrV.ext h k), ?_⟩)
      exact trivial
    · refine ⟨?_, ?_, ?_, ?_, ?_, ?_, ?_, trivial⟩
      all_goals intro ρ W ⟨kc, kg, kf⟩ hF hs
      · obtain ⟨h0, -⟩ := hs
        replace h0 : ρ (.tmp 6) = .int .i64 (n) := h0
        go_simp
        exact ⟨Ext.refl _, rfl⟩
      · obtain ⟨h0, -⟩ := hs
        replace h0 : ρ (.tmp 18) = .int .i64 (n) := h0
        have hw : IntKind.i64.wrap ((n : Int) + 1) = (n : Int) + 1 := IntWalk.i64_in _ (by omega)
        go_simp
        exact ⟨Ext.refl _, rfl⟩
      · obtain ⟨h0, h1, -⟩ := hs
        replace h0 : ρ (.tmp 19) = .int .i64 ((n : Int) + 1) := h0
        replace h1 : ρ (.tmp 19) = .int .i64 ((n : Int) + 1) := h1
        have hmk := mk_run W ((n : Int) + 1) (n + 1) (by omega) (by omega)
        go_simp
        exact ⟨Ext.alloc _ _, mk_fr W (n + 1) _ hF.size⟩
      · obtain ⟨h0, -⟩ := hs
        replace h0 : ρ (.tmp 6) = .int .i64 (n) := h0
        go_simp
        exact ⟨Ext.refl _, rfl⟩
      · obtain ⟨h0, h1, -⟩ := hs
        replace h0 : ρ (.tmp 21) = .int .i64 (n) := h0
        replace h1 : ρ (.tmp 21) = .int .i64 (n) := h1
        have hmk := mk_run W ((n : Int)) (n) (by omega) (by omega)
        go_simp
        exact ⟨Ext.alloc _ _, mk_fr W (n) _ hF.size⟩
      · obtain ⟨h0, -⟩ := hs
        replace h0 : (FrV W2.heap.size (n + 1)) (ρ (.tmp 20)) W := h0
        go_simp
        first | exact ⟨Ext.refl _, h0⟩ | exact Ext.refl _
      · obtain ⟨h0, -⟩ := hs
        replace h0 : (FrV W2.heap.size (n)) (ρ (.tmp 22)) W := h0
        go_simp
        first | exact ⟨Ext.refl _, h0⟩ | exact Ext.refl _
    · intro fv W3 hF hs
      obtain ⟨-, -, -, -, -, h8, h9, -⟩ := hs
      replace h8 : (FrV W2.heap.size (n + 1)) (fv 8) W3 := h8
      replace h9 : (FrV W2.heap.size (n)) (fv 9) W3 := h9
      simp only [fin, List.filterMap]
      go_simp
      obtain ⟨g8, cu8, hg8, hv8, hb8, hs8⟩ := h8
      obtain ⟨g9, cu9, hg9, hv9, hb9, hs9⟩ := h9
      have hne : g8 ≠ g9 := by
        rintro rfl
        unfold Blk at hb8 hb9
        rw [hb8] at hb9
        simp at hb9
        rw [hb9] at hs8
        omega
      rw [hv8, hv9]
      have X23 := Lib.hid hF
      have hw23 := hF.size
      obtain ⟨u1, hu1⟩ : ∃ u, W3.cell? ⟨g8, n * 2, none⟩ = some u := ⟨_, by rw [hb8.cell]; exact Array.getElem?_eq_getElem (by omega)⟩
      obtain ⟨u2, hu2⟩ : ∃ u, W3.cell? ⟨g8, n * 2 + 1, none⟩ = some u := ⟨_, by rw [hb8.cell]; exact Array.getElem?_eq_getElem (by omega)⟩
      have hf1 := hb8.free (n * 2)
      have hf2 := hb8.free (n * 2 + 1)
      have HB8 := Lib.hid hb8
      have HB9 := Lib.hid hb9
      have hl8 := hb8.lt
      have hl9 := hb9.lt
      have HE := Lib.hid (show st f hot ls n = vs0 by rw [← HN.out]; exact st_end f hot ls)
      have hni : (n : Int) < (n : Int) + 1 := by omega
      clear hb8 hb9 hv8 hv9 hF
      go_wp2
      have hst : StS W2 f hot ls n g8 g9 W3.heap.size n (((W3.setCell ⟨g8, n * 2, none⟩ (.int .i64 1)).setCell ⟨g8, n * 2 + 1, none⟩ (.int .i64 0)).alloc (.cells #[.int .i64 0, .int .i64 0] 65)) := by
        refine ⟨⟨_, ((HB8.out.setSame _ _).setSame _ _).alloc _, by simp [hs8], fromC_set (fun p h1 h2 => by omega) hs8 (by omega) (by rw [HE.out]; rfl) (by rw [HE.out]; rfl)⟩, ⟨cu9, ((HB9.out.setOther (by dsimp only; omega) _).setOther (by dsimp only; omega) _).alloc _, hs9, fun p h1 h2 => by omega⟩, ?_, ?_⟩
        · rw [HE.out]
          exact Blk.newAt _ _ _ (by simp [World.setCell])
        · exact (Ext.set (Ext.set X23.out hg8 _) hg8 _).trans (Ext.alloc _ _)
      generalize hW4 : ((W3.setCell ⟨g8, n * 2, none⟩ (.int .i64 1)).setCell ⟨g8, n * 2 + 1, none⟩ (.int .i64 0)).alloc (.cells #[.int .i64 0, .int .i64 0] 65) = W4 at *
      generalize W3.heap.size = q10 at *
      clear hW4 hu1 hu2 hf1 hf2 HB8 HB9 X23 HE
      go_loopw [11] (fun i wr => ∃ j : Nat, j ≤ n ∧ i = .int .i64 ((j : Int) - 1) ∧ StS W2 f hot ls n g8 g9 q10 j wr) (fun i _ => (intOf i + 1).toNat)
      case atStart => exact ⟨n, Nat.le_refl _, rfl, hst⟩
      case round =>
        obtain ⟨j, hj, rfl, hstj⟩ := hrel
        by_cases h0 : j = 0
        · subst h0
          have ek : ((0 : Nat) : Int) - 1 = -1 := by omega
          rw [ek]
          have HST := Lib.hid hstj
          clear hst hstj ek
          go_wp2
          go_ret2
          obtain ⟨cu8', b8, s8, c8⟩ := HST.out.b8
          obtain ⟨cu9', b9, s9, c9⟩ := HST.out.b9
          exact ⟨g8, g9, rfl, rows_from b8 (by omega) (by rw [HVL.out, HN.out]) (fun p hp => volts_at f hot ls p (by rw [HN.out]; omega)) c8,
            rows_from b9 (by omega) (by rw [curr_len ls _ (by simp [HVL.out]), HN.out]) (fun p hp => by
              rw [← cur_at f hot ls (n - p) p (by rw [HN.out]; omega)]
              simp [curAt, List.getElem?_eq_getElem (show p < (curr ls (volts f hot ls).tail).length by rw [curr_len ls _ (by simp [HVL.out]), HN.out]; exact hp)]) c9, E0.out.trans (X1.out.trans HST.out.below)⟩
        · obtain ⟨k, rfl⟩ : ∃ k, j = k + 1 := ⟨j - 1, by omega⟩
          have ek : ((k + 1 : Nat) : Int) - 1 = (k : Int) := by omega
          rw [ek]
          have hlt : k < n := by omega
          obtain ⟨s, hs⟩ : ∃ s, ls[k]? = some s := ⟨_, List.getElem?_eq_getElem (by rw [HN.out]; exact hlt)⟩
          obtain ⟨bb, hb⟩ : ∃ bb, hot[k]? = some bb := ⟨_, List.getElem?_eq_getElem (by rw [HM.out]; exact hlt)⟩
          obtain ⟨cu8', b8, s8, c8⟩ := hstj.b8
          obtain ⟨cu9', b9, s9, c9⟩ := hstj.b9
          have b10 := hstj.b10
          have hbe := hstj.below
          obtain ⟨hcv1, hcv2⟩ : cu8'[(k + 1) * 2]? = some (.int .i64 (st f hot ls (k + 1)).last.re) ∧ cu8'[(k + 1) * 2 + 1]? = some (.int .i64 (st f hot ls (k + 1)).last.im) := c8 (k + 1) (Nat.le_refl _) (by omega)
          obtain ⟨hsm1, hsm2⟩ := HSM.out (k + 1)
          have hsmk := (HSM.out k).2
          have HSTEP := Lib.hid (st_step (f := f) (hot := hot) hs)
          obtain ⟨⟨hx1, hx32⟩, hg1, hg4⟩ := HRB.out bb s (List.mem_of_getElem? hs)
          obtain ⟨x, hx⟩ : ∃ x, x = react f bb s := ⟨_, rfl⟩
          have hrk : rl[k]? = some x := by rw [HRL.out, hx]; exact reactL_at hb hs
          rw [← hx] at hx1 hx32
          obtain ⟨⟨vr, vi⟩, hv⟩ : ∃ z, z = (st f hot ls (k + 1)).last := ⟨_, rfl⟩
          obtain ⟨⟨cr, ci⟩, hc⟩ : ∃ z, z = (st f hot ls (k + 1)).cur := ⟨_, rfl⟩
          rw [← hv] at hcv1 hcv2 hsm1
          rw [← hc] at hsm2 b10
          have hck : (st f hot ls k).cur = plusG ⟨cr, ci⟩ s.g ⟨vr, vi⟩ := by rw [HSTEP.out]; simp only [vstep]; rw [← hc, ← hv]
          have hvk : (st f hot ls k).last = befG ⟨vr, vi⟩ x (plusG ⟨cr, ci⟩ s.g ⟨vr, vi⟩) := by
            rw [HSTEP.out]; simp only [vstep]; rw [← hc, ← hv, hx]; simp [List.getD, hb]
          obtain ⟨c2r, hc2r⟩ : ∃ y, y = cr + s.g * vr := ⟨_, rfl⟩
          obtain ⟨c2i, hc2i⟩ : ∃ y, y = ci + s.g * vi := ⟨_, rfl⟩
          have hck2 : (st f hot ls k).cur = ⟨c2r, c2i⟩ := by rw [hck, hc2r, hc2i]; rfl
          obtain ⟨v2r, hv2r⟩ : ∃ y, y = vr + x * -c2i := ⟨_, rfl⟩
          obtain ⟨v2i, hv2i⟩ : ∃ y, y = vi + x * c2r := ⟨_, rfl⟩
          have hvk2 : (st f hot ls k).last = ⟨v2r, v2i⟩ := by rw [hvk, ← hck, hck2, hv2r, hv2i]; rfl
          rw [hck2] at hsmk
          simp only [Bd] at hsm1 hsm2 hsmk
          have m1 := mul_bd (n := s.g) (x := vr) (N := 4) (B := 300000000) (by omega) hg4 (by omega) (by omega)
          have m2 := mul_bd (n := s.g) (x := vi) (N := 4) (B := 300000000) (by omega) hg4 (by omega) (by omega)
          have m3 := mul_bd (n := x) (x := -c2i) (N := 32) (B := 300000000) (by omega) hx32 (by omega) (by omega)
          have m4 := mul_bd (n := x) (x := c2r) (N := 32) (B := 300000000) (by omega) hx32 (by omega) (by omega)
          have HS1 := Lib.hid (fun W => show Calls Try.prog 93 #[.agg #[.int .i64 vr, .int .i64 vi], .int .i64 s.g] W (VPost W (Is (.agg #[.int .i64 (s.g * vr), .int .i64 (s.g * vi)]))) from
            (scaled_any vr vi s.g (by unfold Mid; omega) (by unfold Mid; omega) W).mono fun _ _ ⟨h1, h2⟩ => ⟨_, h1, h2, rfl⟩)
          have HP1 := Lib.hid (fun W => show Calls Try.prog 57 #[.agg #[.int .i64 cr, .int .i64 ci], .agg #[.int .i64 (s.g * vr), .int .i64 (s.g * vi)]] W (VPost W (Is (.agg #[.int .i64 c2r, .int .i64 c2i]))) from
            (gadd_any cr ci (s.g * vr) (s.g * vi) (by unfold Mid; omega) (by unfold Mid; omega) (by unfold Mid; omega) (by unfold Mid; omega) W).mono fun _ _ ⟨h1, h2⟩ => ⟨_, h1, h2, by rw [hc2r, hc2i]; rfl⟩)
          have HT1 := Lib.hid (fun W => show Calls Try.prog 94 #[.agg #[.int .i64 c2r, .int .i64 c2i]] W (VPost W (Is (.agg #[.int .i64 (-c2i), .int .i64 c2r]))) from
            (turned_any c2r c2i (by unfold Mid; omega) W).mono fun _ _ ⟨h1, h2⟩ => ⟨_, h1, h2, rfl⟩)
          have HS2 := Lib.hid (fun W => show Calls Try.prog 93 #[.agg #[.int .i64 (-c2i), .int .i64 c2r], .int .i64 x] W (VPost W (Is (.agg #[.int .i64 (x * -c2i), .int .i64 (x * c2r)]))) from
            (scaled_any (-c2i) c2r x (by unfold Mid; omega) (by unfold Mid; omega) W).mono fun _ _ ⟨h1, h2⟩ => ⟨_, h1, h2, rfl⟩)
          have HP2 := Lib.hid (fun W => show Calls Try.prog 57 #[.agg #[.int .i64 vr, .int .i64 vi], .agg #[.int .i64 (x * -c2i), .int .i64 (x * c2r)]] W (VPost W (Is (.agg #[.int .i64 v2r, .int .i64 v2i]))) from
            (gadd_any vr vi (x * -c2i) (x * c2r) (by unfold Mid; omega) (by unfold Mid; omega) (by unfold Mid; omega) (by unfold Mid; omega) W).mono fun _ _ ⟨h1, h2⟩ => ⟨_, h1, h2, by rw [hv2r, hv2i]; rfl⟩)
          obtain ⟨b, o, hA, _, hsc⟩ := HS.out.2 k s hs
          subst hA
          have y1 : wr.cell? ⟨b, o + k * 3, none⟩ = some (.int .i64 s.g) := (E0.out.trans (X1.out.trans hbe)).cell (by have := hsc 0 _ rfl; simpa using this)
          obtain ⟨gl', ol', hgl, _, hrc⟩ := HRR.out.2 k x hrk
          obtain ⟨rfl, rfl⟩ : gl = gl' ∧ ol = ol' := by simpa using hgl
          have y2 : wr.cell? ⟨gl, ol + k, none⟩ = some (.int .i64 x) := hbe.cell (by have := hrc 0 _ rfl; simpa using this)
          have y3 : wr.cell? ⟨g8, (k + 1) * 2, none⟩ = some (.int .i64 vr) := by rw [b8.cell]; exact hcv1
          have y4 : wr.cell? ⟨g8, (k + 1) * 2 + 1, none⟩ = some (.int .i64 vi) := by rw [b8.cell]; exact hcv2
          have y5 : wr.cell? ⟨q10, 0, none⟩ = some (.int .i64 cr) := b10.cell 0
          have y6 : wr.cell? ⟨q10, 1, none⟩ = some (.int .i64 ci) := b10.cell 1
          obtain ⟨z0, z1, z2, z3⟩ := FA.out _ (X1.out.trans hbe)
          have B8 := Lib.hid b8
          have B9 := Lib.hid b9
          have B10 := Lib.hid b10
          have C8 := Lib.hid c8
          have C9 := Lib.hid c9
          have BE := Lib.hid hbe
          have HCK := Lib.hid hck2
          have HVK := Lib.hid hvk2
          have HQ1 : ¬ q10 = g9 := by omega
          have HQ2 : ¬ g9 = q10 := by omega
          have HRK := Lib.hid hrk
          have HCV := Lib.hid (And.intro hcv1 hcv2)
          clear hst hstj ek hs hb b8 b9 b10 c8 c9 hbe hcv1 hcv2 hsm1 hsm2 hsmk hx hrk hv hc hck hvk hc2r hc2i hck2 hv2r hv2i hvk2 m1 m2 m3 m4 hsc hgl hrc
          generalize hsg : s.g = sg at *
          clear hsg
          go_wp2
          refine wp_region_part 14 [some 33, some 34, some 35, some 36, some 37, some 38, some 39, some 40, some 41, some 42, some 43, some 44, some 45, some 46] [[10], [8], [11], [35], [34, 36], [37], [2], [39], [11], [40, 41], [42], [43], [38, 44], [33, 45]]
            [Is (.agg #[.int .i64 (cr), .int .i64 (ci)]), Is (.slice (some ⟨g8, 0, none⟩) (n + 1) (n + 1)), Is (.int .i64 (k)), Is (.int .i64 ((k : Int) + 1)), Is (.pointer (some ⟨g8, (k + 1) * 2, none⟩)), Is (.agg #[.int .i64 (vr), .int .i64 (vi)]), Is (.pointer (some ⟨w.heap.size, 1, none⟩)), Is (.slice (some ⟨b, o, none⟩) n cap), Is (.int .i64 (k)), Is (.pointer (some ⟨b, o + k * 3, none⟩)), Is (.pointer (some ⟨b, o + k * 3, none⟩)), Is (.int .i64 (sg)), Is (.agg #[.int .i64 (sg * vr), .int .i64 (sg * vi)]), Is (.agg #[.int .i64 (c2r), .int .i64 (c2i)])]
            (by kernel_rfl) (by kernel_rfl) (by kernel_rfl) (by kernel_rfl) (by kernel_rfl) (by kernel_rfl) (by kernel_rfl) Ext (fun W => Ext wr W)
            (fun W _ => Ext.refl W) (fun W W' h k => h.trans k) ?_ (Ext.drew _) ?_ ?_
          · repeat (refine ⟨fun _ _ _ _ k h => (by first | exact h | exact (by first | exact LadV.ext h k | exact DrvV.ext h k | exact TupV.ext (fun _ _ _ h k => by first | exact Opt.ext (fun _ _ _ h k => by first | exact IntsAt.ext h k | exact GsV.ext h k) h k | exact IntsAt.ext h k) h k | exact Opt.ext (fun _ _ _ h k => by first | exact IntsAt.ext h k | exact GsV.ext h k) h k | exact IntsAt.ext h k)), ?_⟩)
            exact trivial
          · refine ⟨?_, ?_, ?_, ?_, ?_, ?_, ?_, ?_, ?_, ?_, ?_, ?_, ?_, ?_, trivial⟩
            all_goals intro ρ W ⟨kc, kg, kf⟩ hF hs
            · obtain ⟨h0, -⟩ := hs
              replace h0 : ρ (.tmp 10) = .pointer (some ⟨q10, 0, none⟩) := h0
              have hc0 : W.cell? ⟨q10, 0, none⟩ = some (.int .i64 (cr)) := hF.cell (by assumption)
              have hc1 : W.cell? ⟨q10, 1, none⟩ = some (.int .i64 (ci)) := hF.cell (by assumption)
              go_simp
              exact ⟨Ext.refl _, rfl⟩
            · obtain ⟨h0, -⟩ := hs
              replace h0 : ρ (.tmp 8) = .slice (some ⟨g8, 0, none⟩) (n + 1) (n + 1) := h0
              go_simp
              exact ⟨Ext.refl _, rfl⟩
            · obtain ⟨h0, -⟩ := hs
              replace h0 : ρ (.tmp 11) = .int .i64 (k) := h0
              go_simp
              exact ⟨Ext.refl _, rfl⟩
            · obtain ⟨h0, -⟩ := hs
              replace h0 : ρ (.tmp 35) = .int .i64 (k) := h0
              have hw : IntKind.i64.wrap ((k : Int) + 1) = (k : Int) + 1 := IntWalk.i64_in _ (by omega)
              go_simp
              exact ⟨Ext.refl _, rfl⟩
            · obtain ⟨h0, h1, -⟩ := hs
              replace h0 : ρ (.tmp 34) = .slice (some ⟨g8, 0, none⟩) (n + 1) (n + 1) := h0
              replace h1 : ρ (.tmp 36) = .int .i64 ((k : Int) + 1) := h1
              have hki : (k : Int) + 1 < (n : Int) + 1 := by omega
              have hkt : ((k : Int) + 1).toNat = k + 1 := by omega
              have hk0 : (0 : Int) ≤ (k : Int) + 1 := by omega
              go_simp
              exact ⟨Ext.refl _, rfl⟩
            · obtain ⟨h0, -⟩ := hs
              replace h0 : ρ (.tmp 37) = .pointer (some ⟨g8, (k + 1) * 2, none⟩) := h0
              have hc0 : W.cell? ⟨g8, (k + 1) * 2, none⟩ = some (.int .i64 (vr)) := hF.cell (by assumption)
              have hc1 : W.cell? ⟨g8, (k + 1) * 2 + 1, none⟩ = some (.int .i64 (vi)) := hF.cell (by assumption)
              go_simp
              exact ⟨Ext.refl _, rfl⟩
            · obtain ⟨h0, -⟩ := hs
              replace h0 : ρ (.tmp 2) = .pointer (some ⟨w.heap.size, 0, none⟩) := h0
              go_simp
              exact ⟨Ext.refl _, rfl⟩
            · obtain ⟨h0, -⟩ := hs
              replace h0 : ρ (.tmp 39) = .pointer (some ⟨w.heap.size, 1, none⟩) := h0
              have hc0 : W.cell? ⟨w.heap.size, 1, none⟩ = some (.slice (some ⟨b, o, none⟩) n cap) := hF.cell (by assumption)
              go_simp
              exact ⟨Ext.refl _, rfl⟩
            · obtain ⟨h0, -⟩ := hs
              replace h0 : ρ (.tmp 11) = .int .i64 (k) := h0
              go_simp
              exact ⟨Ext.refl _, rfl⟩
            · obtain ⟨h0, h1, -⟩ := hs
              replace h0 : ρ (.tmp 40) = .slice (some ⟨b, o, none⟩) n cap := h0
              replace h1 : ρ (.tmp 41) = .int .i64 (k) := h1
              have hki : (k : Int) < (n : Int) := by omega
              go_simp
              exact ⟨Ext.refl _, rfl⟩
            · obtain ⟨h0, -⟩ := hs
              replace h0 : ρ (.tmp 42) = .pointer (some ⟨b, o + k * 3, none⟩) := h0
              go_simp
              exact ⟨Ext.refl _, rfl⟩
            · obtain ⟨h0, -⟩ := hs
              replace h0 : ρ (.tmp 43) = .pointer (some ⟨b, o + k * 3, none⟩) := h0
              have hc0 : W.cell? ⟨b, o + k * 3, none⟩ = some (.int .i64 (sg)) := hF.cell (by assumption)
              go_simp
              exact ⟨Ext.refl _, rfl⟩
            · obtain ⟨h0, h1, -⟩ := hs
              replace h0 : ρ (.tmp 38) = .agg #[.int .i64 (vr), .int .i64 (vi)] := h0
              replace h1 : ρ (.tmp 44) = .int .i64 (sg) := h1
              go_simp
              exact HS1.out W
            · obtain ⟨h0, h1, -⟩ := hs
              replace h0 : ρ (.tmp 33) = .agg #[.int .i64 (cr), .int .i64 (ci)] := h0
              replace h1 : ρ (.tmp 45) = .agg #[.int .i64 (sg * vr), .int .i64 (sg * vi)] := h1
              go_simp
              exact HP1.out W
          · intro fv W5 hF hs
            obtain ⟨-, -, -, -, -, -, -, -, -, -, -, -, -, h46, -⟩ := hs
            replace h46 : fv 46 = .agg #[.int .i64 (c2r), .int .i64 (c2i)] := h46
            simp only [fin, List.filterMap]
            go_simp
            have B10' := Lib.hid (B10.out.ext hF)
            have B9' := Lib.hid (B9.out.ext hF)
            have B8' := Lib.hid (B8.out.ext hF)
            have F5 := Lib.hid hF
            have p1 : W5.cell? ⟨q10, 0, none⟩ = some (.int .i64 cr) := hF.cell y5
            have p2 : W5.cell? ⟨q10, 1, none⟩ = some (.int .i64 ci) := hF.cell y6
            have p3 : W5.frozen? ⟨q10, 0, none⟩ = false := B10'.out.free 0
            have p4 : W5.frozen? ⟨q10, 1, none⟩ = false := B10'.out.free 1
            obtain ⟨u3, hu3⟩ : ∃ u, W5.cell? ⟨g9, k * 2, none⟩ = some u := ⟨_, by rw [B9'.out.cell]; exact Array.getElem?_eq_getElem (by omega)⟩
            obtain ⟨u4, hu4⟩ : ∃ u, W5.cell? ⟨g9, k * 2 + 1, none⟩ = some u := ⟨_, by rw [B9'.out.cell]; exact Array.getElem?_eq_getElem (by omega)⟩
            have p5 : W5.frozen? ⟨g9, k * 2, none⟩ = false := B9'.out.free _
            have p6 : W5.frozen? ⟨g9, k * 2 + 1, none⟩ = false := B9'.out.free _
            have hki : (k : Int) < (n : Int) := by omega
            clear hF y1 y3 y4 y5 y6 z0 z1 z2 z3 y2
            go_wp2
            have D10 := ((((B10'.out.setSame 0 (.int .i64 c2r)).setSame 1 (.int .i64 c2i)).setOther (p := ⟨g9, k * 2, none⟩) (by dsimp only; omega) (.int .i64 c2r)).setOther (p := ⟨g9, k * 2 + 1, none⟩) (by dsimp only; omega) (.int .i64 c2i))
            have D9 := ((((B9'.out.setOther (p := ⟨q10, 0, none⟩) (by dsimp only; omega) (.int .i64 c2r)).setOther (p := ⟨q10, 1, none⟩) (by dsimp only; omega) (.int .i64 c2i)).setSame (k * 2) (.int .i64 c2r)).setSame (k * 2 + 1) (.int .i64 c2i))
            have D8 := ((((B8'.out.setOther (p := ⟨q10, 0, none⟩) (by dsimp only; omega) (.int .i64 c2r)).setOther (p := ⟨q10, 1, none⟩) (by dsimp only; omega) (.int .i64 c2i)).setOther (p := ⟨g9, k * 2, none⟩) (by dsimp only; omega) (.int .i64 c2r)).setOther (p := ⟨g9, k * 2 + 1, none⟩) (by dsimp only; omega) (.int .i64 c2i))
            have E6 : Ext W2 ((((W5.setCell ⟨q10, 0, none⟩ (.int .i64 c2r)).setCell ⟨q10, 1, none⟩ (.int .i64 c2i)).setCell ⟨g9, k * 2, none⟩ (.int .i64 c2r)).setCell ⟨g9, k * 2 + 1, none⟩ (.int .i64 c2i)) :=
              Ext.set (Ext.set (Ext.set (Ext.set (BE.out.trans F5.out) (by dsimp only; omega) _) (by dsimp only; omega) _) hg9 _) hg9 _
            generalize hW6 : (((W5.setCell ⟨q10, 0, none⟩ (.int .i64 c2r)).setCell ⟨q10, 1, none⟩ (.int .i64 c2i)).setCell ⟨g9, k * 2, none⟩ (.int .i64 c2r)).setCell ⟨g9, k * 2 + 1, none⟩ (.int .i64 c2i) = W6 at *
            clear hW6 p1 p2 p3 p4 p5 p6 hu3 hu4
            obtain ⟨z0, z1, z2, z3⟩ := FA.out _ (X1.out.trans E6)
            obtain ⟨gl', ol', hgl, _, hrc⟩ := HRR.out.2 k x HRK.out
            obtain ⟨rfl, rfl⟩ : gl = gl' ∧ ol = ol' := by simpa using hgl
            have y2 : W6.cell? ⟨gl, ol + k, none⟩ = some (.int .i64 x) := E6.cell (by have := hrc 0 _ rfl; simpa using this)
            have y3 : W6.cell? ⟨g8, (k + 1) * 2, none⟩ = some (.int .i64 vr) := by rw [D8.cell]; exact HCV.out.1
            have y4 : W6.cell? ⟨g8, (k + 1) * 2 + 1, none⟩ = some (.int .i64 vi) := by rw [D8.cell]; exact HCV.out.2
            have y5 : W6.cell? ⟨q10, 0, none⟩ = some (.int .i64 c2r) := by rw [D10.cell]; simp
            have y6 : W6.cell? ⟨q10, 1, none⟩ = some (.int .i64 c2i) := by rw [D10.cell]; simp
            have H10 := Lib.hid D10
            have H9 := Lib.hid D9
            have H8 := Lib.hid D8
            have H6 := Lib.hid E6
            clear D10 D9 D8 E6 hgl hrc
            refine wp_region_part 16 [some 51, some 52, some 53, some 54, some 55, some 56, some 57, some 58, some 59, some 60, some 61, some 62, some 63, some 64, some 65, some 66] [[8], [11], [8], [11], [54], [53, 55], [56], [10], [58], [7], [11], [60, 61], [62], [59, 63], [57, 64], [51, 52]]
              [Is (.slice (some ⟨g8, 0, none⟩) (n + 1) (n + 1)), Is (.int .i64 (k)), Is (.slice (some ⟨g8, 0, none⟩) (n + 1) (n + 1)), Is (.int .i64 (k)), Is (.int .i64 ((k : Int) + 1)), Is (.pointer (some ⟨g8, (k + 1) * 2, none⟩)), Is (.agg #[.int .i64 (vr), .int .i64 (vi)]), Is (.agg #[.int .i64 (c2r), .int .i64 (c2i)]), Is (.agg #[.int .i64 (-c2i), .int .i64 (c2r)]), Is (.slice (some ⟨gl, ol, none⟩) n cl), Is (.int .i64 (k)), Is (.pointer (some ⟨gl, ol + k, none⟩)), Is (.int .i64 (x)), Is (.agg #[.int .i64 (x * -c2i), .int .i64 (x * c2r)]), Is (.agg #[.int .i64 (v2r), .int .i64 (v2i)]), Is (.pointer (some ⟨g8, k * 2, none⟩))]
              (by kernel_rfl) (by kernel_rfl) (by kernel_rfl) (by kernel_rfl) (by kernel_rfl) (by kernel_rfl) (by kernel_rfl) Ext (fun W => Ext W6 W)
              (fun W _ => Ext.refl W) (fun W W' h k => h.trans k) ?_ (Ext.drew _) ?_ ?_
            · repeat (refine ⟨fun _ _ _ _ k h => (by first | exact h | exact (by first | exact LadV.ext h k | exact DrvV.ext h k | exact TupV.ext (fun _ _ _ h k => by first | exact Opt.ext (fun _ _ _ h k => by first | exact IntsAt.ext h k | exact GsV.ext h k) h k | exact IntsAt.ext h k) h k | exact Opt.ext (fun _ _ _ h k => by first | exact IntsAt.ext h k | exact GsV.ext h k) h k | exact IntsAt.ext h k)), ?_⟩)
              exact trivial
            · refine ⟨?_, ?_, ?_, ?_, ?_, ?_, ?_, ?_, ?_, ?_, ?_, ?_, ?_, ?_, ?_, ?_, trivial⟩
              all_goals intro ρ W ⟨kc, kg, kf⟩ hF hs
              · obtain ⟨h0, -⟩ := hs
                replace h0 : ρ (.tmp 8) = .slice (some ⟨g8, 0, none⟩) (n + 1) (n + 1) := h0
                go_simp
                exact ⟨Ext.refl _, rfl⟩
              · obtain ⟨h0, -⟩ := hs
                replace h0 : ρ (.tmp 11) = .int .i64 (k) := h0
                go_simp
                exact ⟨Ext.refl _, rfl⟩
              · obtain ⟨h0, -⟩ := hs
                replace h0 : ρ (.tmp 8) = .slice (some ⟨g8, 0, none⟩) (n + 1) (n + 1) := h0
                go_simp
                exact ⟨Ext.refl _, rfl⟩
              · obtain ⟨h0, -⟩ := hs
                replace h0 : ρ (.tmp 11) = .int .i64 (k) := h0
                go_simp
                exact ⟨Ext.refl _, rfl⟩
              · obtain ⟨h0, -⟩ := hs
                replace h0 : ρ (.tmp 54) = .int .i64 (k) := h0
                have hw : IntKind.i64.wrap ((k : Int) + 1) = (k : Int) + 1 := IntWalk.i64_in _ (by omega)
                go_simp
                exact ⟨Ext.refl _, rfl⟩
              · obtain ⟨h0, h1, -⟩ := hs
                replace h0 : ρ (.tmp 53) = .slice (some ⟨g8, 0, none⟩) (n + 1) (n + 1) := h0
                replace h1 : ρ (.tmp 55) = .int .i64 ((k : Int) + 1) := h1
                have hki : (k : Int) + 1 < (n : Int) + 1 := by omega
                have hkt : ((k : Int) + 1).toNat = k + 1 := by omega
                have hk0 : (0 : Int) ≤ (k : Int) + 1 := by omega
                go_simp
                exact ⟨Ext.refl _, rfl⟩
              · obtain ⟨h0, -⟩ := hs
                replace h0 : ρ (.tmp 56) = .pointer (some ⟨g8, (k + 1) * 2, none⟩) := h0
                have hc0 : W.cell? ⟨g8, (k + 1) * 2, none⟩ = some (.int .i64 (vr)) := hF.cell (by assumption)
                have hc1 : W.cell? ⟨g8, (k + 1) * 2 + 1, none⟩ = some (.int .i64 (vi)) := hF.cell (by assumption)
                go_simp
                exact ⟨Ext.refl _, rfl⟩
              · obtain ⟨h0, -⟩ := hs
                replace h0 : ρ (.tmp 10) = .pointer (some ⟨q10, 0, none⟩) := h0
                have hc0 : W.cell? ⟨q10, 0, none⟩ = some (.int .i64 (c2r)) := hF.cell (by assumption)
                have hc1 : W.cell? ⟨q10, 1, none⟩ = some (.int .i64 (c2i)) := hF.cell (by assumption)
                go_simp
                exact ⟨Ext.refl _, rfl⟩
              · obtain ⟨h0, -⟩ := hs
                replace h0 : ρ (.tmp 58) = .agg #[.int .i64 (c2r), .int .i64 (c2i)] := h0
                go_simp
                exact HT1.out W
              · obtain ⟨h0, -⟩ := hs
                replace h0 : ρ (.tmp 7) = .slice (some ⟨gl, ol, none⟩) n cl := h0
                go_simp
                exact ⟨Ext.refl _, rfl⟩
              · obtain ⟨h0, -⟩ := hs
                replace h0 : ρ (.tmp 11) = .int .i64 (k) := h0
                go_simp
                exact ⟨Ext.refl _, rfl⟩
              · obtain ⟨h0, h1, -⟩ := hs
                replace h0 : ρ (.tmp 60) = .slice (some ⟨gl, ol, none⟩) n cl := h0
                replace h1 : ρ (.tmp 61) = .int .i64 (k) := h1
                have hki : (k : Int) < (n : Int) := by omega
                go_simp
                exact ⟨Ext.refl _, rfl⟩
              · obtain ⟨h0, -⟩ := hs
                replace h0 : ρ (.tmp 62) = .pointer (some ⟨gl, ol + k, none⟩) := h0
                have hc0 : W.cell? ⟨gl, ol + k, none⟩ = some (.int .i64 (x)) := hF.cell (by assumption)
                go_simp
                exact ⟨Ext.refl _, rfl⟩
              · obtain ⟨h0, h1, -⟩ := hs
                replace h0 : ρ (.tmp 59) = .agg #[.int .i64 (-c2i), .int .i64 (c2r)] := h0
                replace h1 : ρ (.tmp 63) = .int .i64 (x) := h1
                go_simp
                exact HS2.out W
              · obtain ⟨h0, h1, -⟩ := hs
                replace h0 : ρ (.tmp 57) = .agg #[.int .i64 (vr), .int .i64 (vi)] := h0
                replace h1 : ρ (.tmp 64) = .agg #[.int .i64 (x * -c2i), .int .i64 (x * c2r)] := h1
                go_simp
                exact HP2.out W
              · obtain ⟨h0, h1, -⟩ := hs
                replace h0 : ρ (.tmp 51) = .slice (some ⟨g8, 0, none⟩) (n + 1) (n + 1) := h0
                replace h1 : ρ (.tmp 52) = .int .i64 (k) := h1
                have hki : (k : Int) < (n : Int) + 1 := by omega
                go_simp
                exact ⟨Ext.refl _, rfl⟩
            · intro fv W7 hF hs
              obtain ⟨-, -, -, -, -, -, -, -, -, -, -, -, -, -, h65, h66, -⟩ := hs
              replace h65 : fv 65 = .agg #[.int .i64 (v2r), .int .i64 (v2i)] := h65
              replace h66 : fv 66 = .pointer (some ⟨g8, k * 2, none⟩) := h66
              simp only [fin, List.filterMap]
              go_simp
              have G8 := Lib.hid (H8.out.ext hF)
              have G9 := Lib.hid (H9.out.ext hF)
              have G10 := Lib.hid (H10.out.ext hF)
              have F7 := Lib.hid hF
              obtain ⟨u5, hu5⟩ : ∃ u, W7.cell? ⟨g8, k * 2, none⟩ = some u := ⟨_, by rw [G8.out.cell]; exact Array.getElem?_eq_getElem (by omega)⟩
              obtain ⟨u6, hu6⟩ : ∃ u, W7.cell? ⟨g8, k * 2 + 1, none⟩ = some u := ⟨_, by rw [G8.out.cell]; exact Array.getElem?_eq_getElem (by omega)⟩
              have p5 : W7.frozen? ⟨g8, k * 2, none⟩ = false := G8.out.free _
              have p6 : W7.frozen? ⟨g8, k * 2 + 1, none⟩ = false := G8.out.free _
              clear hF y2 y3 y4 y5 y6 z0 z1 z2 z3
              go_wp2
              go_roundw
              case rel =>
                refine ⟨k, by omega, rfl, ⟨_, (G8.out.setSame _ _).setSame _ _, by simp [s8], fromC_set C8.out s8 (by omega) (by rw [HVK.out]) (by rw [HVK.out])⟩, ⟨_, (G9.out.setOther (by dsimp only; omega) _).setOther (by dsimp only; omega) _, by simp [s9], fromC_set C9.out s9 hlt (by rw [HCK.out]) (by rw [HCK.out])⟩, ?_, Ext.set (Ext.set (H6.out.trans F7.out) hg8 _) hg8 _⟩
                rw [HCK.out]
                exact (G10.out.setOther (by dsimp only; omega) _).setOther (by dsimp only; omega) _
              case measure => simp [intOf]

end Go.Proofs.Ytpaoeghdfeekoaa
