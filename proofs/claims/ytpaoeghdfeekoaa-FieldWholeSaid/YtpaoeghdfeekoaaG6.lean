/- FieldDeeper: the law's function. By lawgen.py. -/
import Derived.Test.YtpaoeghdfeekoaaG4
import Derived.Test.YtpaoeghdfeekoaaG5
import Derived.Test.YtpaoeghdfeekoaaK0
import Derived.StillTailTactics
namespace Go.Proofs.Ytpaoeghdfeekoaa
open Go.RowKit Go.Shelf Go.Mem Go.RegInv
attribute [local go_sem] RelUpon_value RelUpon_skip RelUpon_enter BigFrame.eval_const BigFrame.eval_global BigFrame.eval_func

/-- Too many shells: nothing of them is read. -/
theorem refCheckLadder_big (t : Int) (A : Option Addr) (n cap : Nat) (l : List Sh) (hn : l.length = n) (w : World) (h4 : 4 < n) :
    Calls Try.prog 23 #[.agg #[.int .i64 t, .slice A n cap]] w fun e w' => e = .returned (.tuple #[.int .i64 (checkL t l).1, .int .i64 (checkL t l).2]) ∧ Ext w w' := by
  have HL := Lib.hid (show checkL t l = if headE t n ≠ 0 then (0, headE t n) else firstBad l 0 by unfold checkL; rw [hn])
  have HH := Lib.hid (head_cases t n)
  have E0 := Lib.hid (Ext.alloc w (.cells #[.int .i64 t, .slice A n cap] 24))
  clear hn
  by_cases h1 : inB 1 20 t = true
  · have H1 := Lib.hid h1
    have h0 : ¬ n = 0 := by omega
    have hb0 : ((n : Int) == 0) = false := by simp [h0]
    have HR := Lib.hid (show checkL t l = (0, 8) by rw [HL.out, HH.out, if_pos h1, if_neg h0, if_pos h4]; rfl)
    have hb4 : decide ((4 : Int) < (n : Int)) = true := by simp; omega
    clear h0 h1 h4
    generalize checkL t l = r at *
    go_enter Try.func23, Try.ntmps23
    go_wp2_with (go_at_call 40; refine (within_any _ _ _ _).mono ?_; rintro e w' ⟨rfl, rfl⟩; rw [H1.out])
    go_ret2
    exact ⟨ret_pair (by rw [HR.out]) (by rw [HR.out]), E0.out⟩
  · have h1' : inB 1 20 t = false := by simpa using h1
    have H1 := Lib.hid h1'
    have HR := Lib.hid (show checkL t l = (0, 2) by rw [HL.out, HH.out, if_neg h1]; rfl)
    clear h1 h1'
    generalize checkL t l = r at *
    go_enter Try.func23, Try.ntmps23
    go_wp2_with (go_at_call 40; refine (within_any _ _ _ _).mono ?_; rintro e w' ⟨rfl, rfl⟩; rw [H1.out])
    go_ret2
    exact ⟨ret_pair (by rw [HR.out]) (by rw [HR.out]), E0.out⟩
theorem refCheckLadder_gen (t : Int) (A : Option Addr) (n cap : Nat) (l : List Sh) (hn : l.length = n) (w : World) (hS : n ≤ 6 → RowsAt 3 Sh.enc w A l) :
    Calls Try.prog 23 #[.agg #[.int .i64 t, .slice A n cap]] w fun e w' => e = .returned (.tuple #[.int .i64 (checkL t l).1, .int .i64 (checkL t l).2]) ∧ Ext w w' :=
  if h : n ≤ 6 then refCheckLadder_any t A n cap l hn w (hS h) else refCheckLadder_big t A n cap l hn w (by omega)
theorem refLadderErr_gen (t : Int) (A : Option Addr) (n cap : Nat) (l : List Sh) (hn : l.length = n) (w : World) (hS : n ≤ 6 → RowsAt 3 Sh.enc w A l) :
    Calls Try.prog 65 #[.agg #[.int .i64 t, .slice A n cap]] w fun e w' => e = .returned (.int .i64 (checkL t l).2) ∧ Ext w w' := by
  have HC := Lib.hid (fun W h => refCheckLadder_gen t A n cap l hn W h)
  have e0 := Ext.alloc w (.cells #[.int .i64 t, .slice A n cap] 24)
  have HS := Lib.hid (fun h => (hS h).ext e0)
  clear hn hS
  generalize checkL t l = q at HC
  go_enter Try.func65, Try.ntmps65
  go_wp2_with (go_at_call 23; refine (HC.out _ HS.out).mono ?_; rintro e w' ⟨rfl, hx⟩)
  go_ret
  exact ⟨rfl, e0.trans hx⟩
theorem refBothErr_gen (t : Int) (A : Option Addr) (n cap : Nat) (l : List Sh) (hn : l.length = n) (f : Int) (B : Option Addr) (m cap' : Nat) (w : World) (hS : n ≤ 6 → RowsAt 3 Sh.enc w A l) :
    Calls Try.prog 24 #[.agg #[.int .i64 t, .slice A n cap], .agg #[.int .i64 f, .slice B m cap']] w fun e w' => e = .returned (.int .i64 (driveE t l f m)) ∧ Ext w w' := by
  have HC := Lib.hid (fun W h => refLadderErr_gen t A n cap l hn W h)
  have HD := Lib.hid (fun W => refDriveErr_any t A n cap f B m cap' W)
  have e0 : Ext w ((w.alloc (.cells #[.int .i64 t, .slice A n cap] 24)).alloc (.cells #[.int .i64 f, .slice B m cap'] 27)) := (Ext.alloc _ _).trans (Ext.alloc _ _)
  have HS := Lib.hid (fun h => (hS h).ext e0)
  have HR := Lib.hid (show driveE t l f m = if (checkL t l).2 ≠ 0 then (checkL t l).2 else drvE f m n by rw [drive_split, hn])
  clear hn hS
  generalize (checkL t l).2 = q at *
  generalize driveE t l f m = r at *
  have FA := Lib.hid (show ∀ W : World, Ext ((w.alloc (.cells #[.int .i64 t, .slice A n cap] 24)).alloc (.cells #[.int .i64 f, .slice B m cap'] 27)) W →
      W.cell? ⟨w.heap.size, 0, none⟩ = some (.int .i64 t) ∧ W.cell? ⟨w.heap.size, 1, none⟩ = some (.slice A n cap) ∧ W.cell? ⟨w.heap.size + 1, 0, none⟩ = some (.int .i64 f) ∧ W.cell? ⟨w.heap.size + 1, 1, none⟩ = some (.slice B m cap') from
    fun W hx => ⟨hx.cell (by go_simp), hx.cell (by go_simp), hx.cell (by go_simp), hx.cell (by go_simp)⟩)
  by_cases hq : q = 0
  · have hq' : (q != 0) = false := by simp [hq]
    have HQ := Lib.hid hq
    clear hq
    go_enter Try.func24, Try.ntmps24
    go_wp2_with (first
      | (go_at_call 65; refine (HC.out _ HS.out).mono ?_; rintro e W1 ⟨rfl, hx1⟩; obtain ⟨z0, z1, z2, z3⟩ := FA.out _ hx1)
      | (go_at_call 76; refine (HD.out _).mono ?_; rintro e W2 ⟨rfl, hx2⟩))
    go_ret
    exact ⟨ret_int (by rw [HR.out, if_neg (by simp [HQ.out])]), e0.trans (hx1.trans hx2)⟩
  · have hq' : (q != 0) = true := by simp [hq]
    have HQ := Lib.hid hq
    clear hq
    go_enter Try.func24, Try.ntmps24
    go_wp2_with (go_at_call 65; refine (HC.out _ HS.out).mono ?_; rintro e W1 ⟨rfl, hx1⟩)
    go_ret
    exact ⟨ret_int (by rw [HR.out, if_pos HQ.out]), e0.trans hx1⟩

theorem powersPub_V {t : Int} {xs : List Sh} {f : Int} {hot : List Bool} {m : Nat} (hm : hot.length = m) (W : World) (u v : Value) (h : LadV t xs u W) (k : DrvV f hot v W) :
    Calls Try.prog 39 #[u, v] W (VPost W (TupV (Opt (driveE t xs f m) (.slice none 0 0) (Ints (powers f hot xs))) (driveE t xs f m))) := by
  obtain ⟨A, n, c, hn, rfl, hl⟩ := h
  obtain ⟨B, m', d, hm', rfl, hd⟩ := k
  obtain rfl : m = m' := hm.symm.trans hm'.out
  refine (powersPub_any t A n c xs hn.out f B m d hot hm W hl hd).mono ?_
  rintro e w' ⟨hx, ⟨h1, h2⟩ | ⟨h1, v, h2, h3⟩⟩
  · exact ⟨_, h2, hx, _, rfl, fun _ => rfl, fun h => absurd h h1⟩
  · exact ⟨_, h2, hx, _, by rw [h1], fun h => absurd h1 h, fun _ => h3⟩

/-- The first k shells have the conductance of the first one. -/
def eqG (g0 : Int) (k : Nat) (xs : List Sh) : List Sh := (xs.take k).map (fun s => { s with g := g0 }) ++ xs.drop k
theorem eqG_len (g0 : Int) (k : Nat) (xs : List Sh) (h : k ≤ xs.length) : (eqG g0 k xs).length = xs.length := by simp [eqG]; omega
theorem eqG_lo {g0 : Int} {k : Nat} {xs : List Sh} {i : Nat} {s : Sh} (hi : i < k) (h : xs[i]? = some s) : (eqG g0 k xs)[i]? = some { s with g := g0 } := by
  have := (List.getElem?_eq_some_iff.1 h).1
  unfold eqG
  rw [List.getElem?_append_left (by simp; omega), List.getElem?_map, List.getElem?_take, if_pos hi, h]; rfl
theorem eqG_hi {g0 : Int} {k : Nat} {xs : List Sh} {i : Nat} (hk : k ≤ xs.length) (hi : k ≤ i) : (eqG g0 k xs)[i]? = xs[i]? := by
  unfold eqG
  rw [List.getElem?_append_right (by simp; omega)]
  simp
  congr 1; omega
theorem eqG_ok {g0 : Int} {k : Nat} {xs : List Sh} (hok : ∀ s ∈ xs, shOK s) (hg : 1 ≤ g0 ∧ g0 ≤ 4) : ∀ s ∈ eqG g0 k xs, shOK s := by
  intro s hs
  rcases List.mem_append.1 hs with h | h
  · obtain ⟨s', h', rfl⟩ := List.mem_map.1 h
    have := hok s' (List.mem_of_mem_take h')
    exact ⟨hg, this.2⟩
  · exact hok s (List.mem_of_mem_drop h)
/-- The cells of a block that begins with these shells. -/
def ShCells (cu : Array Value) (ys : List Sh) : Prop := ∀ i s, ys[i]? = some s → ∀ j u, (Sh.enc s)[j]? = some u → cu[i * 3 + j]? = some u
theorem shCells_step {cu : Array Value} {g0 : Int} {k : Nat} {xs : List Sh} (hk : k < xs.length) (h : ShCells cu (eqG g0 k xs)) : ShCells (cu.setIfInBounds (k * 3) (.int .i64 g0)) (eqG g0 (k + 1) xs) := by
  intro i s hs j u hu
  have hj : j < 3 := (List.getElem?_eq_some_iff.1 hu).1
  have hi : i < xs.length := by have := (List.getElem?_eq_some_iff.1 hs).1; rwa [eqG_len _ _ _ (by omega)] at this
  have hx : xs[i]? = some xs[i] := List.getElem?_eq_getElem hi
  have hxk : (eqG g0 k xs)[k]? = some xs[k] := by rw [eqG_hi (by omega) (Nat.le_refl _)]; exact List.getElem?_eq_getElem hk
  have hsz : k * 3 < cu.size := by
    have := h k _ hxk 0 _ rfl
    exact (Array.getElem?_eq_some_iff.1 this).1
  rw [set_at]
  rcases Nat.lt_trichotomy i k with hik | hik | hik
  · rw [if_neg (by omega)]
    have e := eqG_lo (g0 := g0) (k := k + 1) (by omega : i < k + 1) hx
    obtain rfl : { xs[i] with g := g0 } = s := by rw [hs] at e; exact (Option.some.inj e).symm
    exact h i _ (eqG_lo hik hx) j u hu
  · subst hik
    have e := eqG_lo (g0 := g0) (k := i + 1) (by omega : i < i + 1) hx
    obtain rfl : { xs[i] with g := g0 } = s := by rw [hs] at e; exact (Option.some.inj e).symm
    by_cases hj0 : j = 0
    · subst hj0
      rw [if_pos (by omega), if_pos hsz]
      simpa [Sh.enc] using hu
    · rw [if_neg (by omega)]
      refine h i _ hxk j u ?_
      match j, hj0, hu with
      | 1, _, hu => exact hu
      | 2, _, hu => exact hu
      | 0, h, _ => exact absurd rfl h
  · rw [if_neg (by omega)]
    rw [eqG_hi (by omega) (by omega)] at hs
    exact h i s (by rw [eqG_hi (by omega) (by omega)]; exact hs) j u hu
theorem rows_cells {W : World} {g : Nat} {cu : Array Value} {ys : List Sh} (hb : Blk W g 92 cu) (hl : ys.length ≤ 1152921504606846976) (h : ShCells cu ys) : LadAt W (some ⟨g, 0, none⟩) ys :=
  ⟨⟨hl, fun i s hs => ⟨g, 0, rfl, hb.lt, fun j u hu => by rw [hb.cell, show 0 + i * 3 + j = i * 3 + j by omega]; exact h i s hs j u hu⟩⟩,
    fun b o e => by obtain ⟨rfl, _⟩ : g = b ∧ 0 = o := by simpa using e
                    exact ⟨cu, hb⟩⟩

theorem own_cells {W : World} {base n c : Nat} {A : Option Addr} {xs : List Sh} (hl : xs.length = n) (h1 : 1 ≤ n) (h : W.ownsRow base 92 3 (.slice A n c) n (xs.flatMap Sh.enc)) :
    ∃ g cu, A = some ⟨g, 0, none⟩ ∧ base ≤ g ∧ n ≤ c ∧ c ≤ maxLen ∧ Blk W g 92 cu ∧ ShCells cu xs := by
  rcases h.2 with ⟨he, _⟩ | ⟨g, cap, cu, he, hg, hh, hc, hmx, hs, ht⟩
  · exfalso
    have : n = 0 := by simp at he; omega
    omega
  · obtain ⟨rfl, rfl⟩ : A = some ⟨g, 0, none⟩ ∧ c = cap := by simpa using he
    refine ⟨g, cu, rfl, hg, hc, hmx, hh, fun i s hx j u hu => ?_⟩
    have hi := (List.getElem?_eq_some_iff.1 hx).1
    have hj : j < 3 := (List.getElem?_eq_some_iff.1 hu).1
    have h2 := sh_at xs i j s u hx hu
    rw [← ht, List.getElem?_take, if_pos (by omega), Array.getElem?_toList] at h2
    exact h2

set_option maxRecDepth 100000 in
set_option maxHeartbeats 4000000 in
theorem fieldDeeper_any (t : Int) (A : Option Addr) (n ca : Nat) (xs : List Sh) (hn : xs.length = n) (f : Int) (B : Option Addr) (m cb : Nat) (hot : List Bool) (hm : hot.length = m) (w : World)
    (hA : n ≤ 6 → RowsAt 3 Sh.enc w A xs) (hB : m ≤ 6 → RowsAt 1 boolEnc w B hot) (hAn : A = none → ca = 0) (hBn : B = none → cb = 0) :
    Calls Try.prog 12 #[.agg #[.int .i64 t, .slice A n ca], .agg #[.int .i64 f, .slice B m cb]] w fun e w' => e = .returned (.bool true) ∧ Ext w w' := by
  have e0 : Ext w ((w.alloc (.cells #[.int .i64 t, .slice A n ca] 24)).alloc (.cells #[.int .i64 f, .slice B m cb] 27)) := (Ext.alloc _ _).trans (Ext.alloc _ _)
  have FA := Lib.hid (show ∀ W : World, Ext ((w.alloc (.cells #[.int .i64 t, .slice A n ca] 24)).alloc (.cells #[.int .i64 f, .slice B m cb] 27)) W →
      W.cell? ⟨w.heap.size, 0, none⟩ = some (.int .i64 t) ∧ W.cell? ⟨w.heap.size, 1, none⟩ = some (.slice A n ca) ∧ W.cell? ⟨w.heap.size + 1, 0, none⟩ = some (.int .i64 f) ∧ W.cell? ⟨w.heap.size + 1, 1, none⟩ = some (.slice B m cb) from
    fun W hx => ⟨hx.cell (by go_simp), hx.cell (by go_simp), hx.cell (by go_simp), hx.cell (by go_simp)⟩)
  have H24 := Lib.hid (fun W (e : Ext w W) => refBothErr_gen t A n ca xs hn f B m cb W (fun h => (hA h).ext e))
  have E0 := Lib.hid e0
  clear e0
  by_cases hq : driveE t xs f m = 0
  · obtain ⟨⟨ht, ⟨h1, h4⟩, hok⟩, hf, hml⟩ := (driveE_zero t xs f m).1 hq
    obtain rfl : n = m := by rw [hml, hn]
    rw [hn] at h1 h4
    have hA' := hA (by omega)
    have hB' := hB (by omega)
    have H19 := Lib.hid (fun W (e : Ext w W) => copyLadder_own t A n ca xs hn W (hA'.ext e) (by omega) hAn)
    have HCD := Lib.hid (copyDrive_V (f := f) hm hB' (by omega) hBn)
    obtain ⟨s0, hs0⟩ : ∃ s, xs[0]? = some s := ⟨_, List.getElem?_eq_getElem (by omega)⟩
    obtain ⟨g0, hg0⟩ : ∃ g0, g0 = s0.g := ⟨_, rfl⟩
    have hg04 := (hok s0 (List.mem_of_getElem? hs0)).1
    rw [← hg0] at hg04
    obtain ⟨ys, hys⟩ : ∃ ys, ys = eqG g0 n xs := ⟨_, rfl⟩
    have hyl : ys.length = n := by rw [hys, eqG_len _ _ _ (by omega), hn]
    have hyok : ∀ s ∈ ys, shOK s := by rw [hys]; exact eqG_ok hok hg04
    have hq2 : driveE t ys f n = 0 := (driveE_zero t ys f n).2 ⟨⟨ht, ⟨by omega, by omega⟩, hyok⟩, hf, hyl.symm⟩
    obtain ⟨ps, hps⟩ : ∃ ps, ps = powers f hot ys := ⟨_, rfl⟩
    have hpl : ps.length = n := by rw [hps, powers_len, hyl]
    have H39 := Lib.hid (fun W u v (h : LadV t ys u W) (k : DrvV f hot v W) => show Calls Try.prog 39 #[u, v] W (VPost W (TupV (Ints ps) 0)) from by
      have := powersPub_V (f := f) hm W u v h k
      rw [hq2, ← hps] at this
      exact this.mono fun e w' ⟨r, h1, h2, v, h3, h4⟩ => ⟨r, h1, h2, v, h3, h4.2 rfl⟩)
    have HDN := Lib.hid (show ∀ k, k + 1 < n → ps.getD (k + 1) 0 ≤ ps.getD k 0 from fun k hk => by
      rw [hps]
      have a := eqG_lo (g0 := g0) (k := n) (by omega : k < n) (List.getElem?_eq_getElem (by omega : k < xs.length))
      have b := eqG_lo (g0 := g0) (k := n) hk (List.getElem?_eq_getElem (by omega : k + 1 < xs.length))
      rw [← hys] at a b
      exact powers_down hyok hf k _ _ a b rfl)
    have HN := Lib.hid hn
    have HPL := Lib.hid hpl
    have HYS := Lib.hid hys
    have HS0 := Lib.hid hs0
    have HG0 := Lib.hid hg0
    have HYL := Lib.hid hyl
    rw [hq] at H24
    clear ht hok hf hml hA hB hA' hB' hAn hBn hs0 hg0 hg04 hys hyl hyok hq2 hps hpl hq hn hm
    go_enter Try.func12, Try.ntmps12
    go_wp2_with (first
      | (go_at_call 15; refine (awake_any _).mono ?_; rintro e W1 ⟨rfl, hx1⟩; obtain ⟨z0, z1, z2, z3⟩ := FA.out _ hx1; have X1 := Lib.hid hx1; clear hx1)
      | (go_at_call 24; refine (H24.out _ (E0.out.trans X1.out)).mono ?_; rintro e W2 ⟨rfl, hx2⟩; clear z0 z1 z2 z3; have X2 := Lib.hid (X1.out.trans hx2); clear hx2; obtain ⟨z0, z1, z2, z3⟩ := FA.out _ X2.out)
      | (go_at_call 19; refine (H19.out _ (E0.out.trans X2.out)).mono ?_; rintro e W3 ⟨A5, c5, rfl, hown, hx3⟩; obtain ⟨g, cu, rfl, hgb, hc5, hc5m, hbk, hsc⟩ := own_cells HN.out h1 hown; have HBK := Lib.hid hbk; have HSC := Lib.hid hsc; have EX3 := Lib.hid hx3; have hs3 := hx3.size; have hs2 := X2.out.size; clear z0 z1 z2 z3 hown hx3 hbk hsc))
    have hby : Blk (W3.alloc (.cells #[.int .i64 t, .slice (some ⟨g, 0, none⟩) n c5] 24)) W3.heap.size 24 #[.int .i64 t, .slice (some ⟨g, 0, none⟩) n c5] := Blk.new _ _ _
    have hbg := HBK.out.alloc (.cells #[.int .i64 t, .slice (some ⟨g, 0, none⟩) n c5] 24)
    have hgy : g < W3.heap.size := HBK.out.lt
    have hew : Ext W2 (W3.alloc (.cells #[.int .i64 t, .slice (some ⟨g, 0, none⟩) n c5] 24)) := (EX3.out).trans (Ext.alloc _ _)
    generalize hW4 : W3.alloc (.cells #[.int .i64 t, .slice (some ⟨g, 0, none⟩) n c5] 24) = W4 at *
    clear hW4 HBK
    generalize W3.heap.size = y5 at *
    have HY := Lib.hid hby
    have HG := Lib.hid hbg
    have HW := Lib.hid hew
    clear hby hbg hew
    go_loopw [6] (fun i wr => ∃ k : Nat, k ≤ n ∧ i = .int .i64 k ∧ (∃ cu, Blk wr g 92 cu ∧ ShCells cu (eqG g0 k xs)) ∧ Blk wr y5 24 #[.int .i64 t, .slice (some ⟨g, 0, none⟩) n c5] ∧ Ext W2 wr) (fun i _ => n - (intOf i).toNat)
    case atStart => exact ⟨0, Nat.zero_le _, rfl, ⟨cu, HG.out, by simpa [eqG] using HSC.out⟩, HY.out, HW.out⟩
    case round =>
      obtain ⟨k, hk, rfl, ⟨cw, hbw, hcw⟩, hby, hew⟩ := hrel
      have y0 : wr.cell? ⟨y5, 0, none⟩ = some (.int .i64 t) := hby.cell 0
      have y1 : wr.cell? ⟨y5, 1, none⟩ = some (.slice (some ⟨g, 0, none⟩) n c5) := hby.cell 1
      have BW := Lib.hid hbw
      have CW := Lib.hid hcw
      have BY := Lib.hid hby
      have EW := Lib.hid hew
      clear hbw hcw hby hew
      by_cases hlt : k < n
      · have hxk : (eqG g0 k xs)[k]? = some (xs[k]'(by rw [HN.out]; exact hlt)) := by rw [eqG_hi (by rw [HN.out]; omega) (Nat.le_refl _)]; exact List.getElem?_eq_getElem (by rw [HN.out]; exact hlt)
        have zg : wr.cell? ⟨g, 0, none⟩ = some (.int .i64 g0) := by
          rw [BW.out.cell]
          rcases Nat.eq_zero_or_pos k with h0 | h0
          · subst h0
            have := CW.out 0 s0 (by simpa [eqG] using HS0.out) 0 _ rfl
            rw [HG0.out]; simpa using this
          · have := CW.out 0 _ (eqG_lo (g0 := g0) h0 HS0.out) 0 _ rfl
            simpa using this
        obtain ⟨ck, hck⟩ : ∃ ck, wr.cell? ⟨g, k * 3, none⟩ = some ck := ⟨_, by rw [BW.out.cell]; exact CW.out k _ hxk 0 _ rfl⟩
        have hfk : wr.frozen? ⟨g, k * 3, none⟩ = false := BW.out.free _
        have HXK := Lib.hid hxk
        clear hxk
        have hn0 : 0 < n := by omega
        have hki : (k : Int) < (n : Int) := by omega
        go_wp2
        go_still_tail 10, (by kernel_rfl)
        change wpList _ _ _ _ _ wr.drew
        go_wp2
        go_roundw
        case rel => exact ⟨k + 1, by omega, by go_num, ⟨_, (show Blk wr.drew g 92 cw from BW.out).setSame _ _, shCells_step (by rw [HN.out]; exact hlt) CW.out⟩, (show Blk wr.drew y5 24 _ from BY.out).setOther (by dsimp only; omega) _, Ext.set (EW.out.trans (Ext.drew _)) (by dsimp only; omega) _⟩
        case measure => simp [intOf]; omega
      · obtain rfl : n = k := by omega
        have hly : LadAt wr (some ⟨g, 0, none⟩) ys := by rw [HYS.out]; exact rows_cells BW.out (by rw [eqG_len _ _ _ (by rw [HN.out]; omega), HN.out]; omega) CW.out
        have HCL := Lib.hid (copyLadder_V (t := t) (ca := c5) HYL.out hly.1 (by omega) (fun h => by cases h))
        obtain ⟨z0, z1, z2, z3⟩ := FA.out _ (X2.out.trans EW.out)
        clear hly
        go_wp2
        refine wp_region_each [some 36, some 37, some 38, some 39, some 40, some 35, some 41, some 42, some 7, some 8] [[5], [36], [3], [38], [37, 39], [40], [35], [35], [41], [42]]
          [Is (.agg #[.int .i64 (t), .slice (some ⟨g, 0, none⟩) n c5]), LadV t ys, Is (.agg #[.int .i64 (f), .slice B n cb]), DrvV f hot, TupV (Ints ps) (0), TupV (Ints ps) (0), Ints ps, Is (.int .i64 (0)), Ints ps, Is (.int .i64 (0))]
          (by kernel_rfl) (by kernel_rfl) (by kernel_rfl) (by kernel_rfl) (by kernel_rfl) Ext (fun W => Ext wr W)
          (fun W _ => Ext.refl W) (fun W W' h k => h.trans k) ?_ (Ext.drew _) ?_ ?_
        · repeat (refine ⟨fun _ _ _ _ k h => (by first | exact h | exact (by first | exact LadV.ext h k | exact DrvV.ext h k | exact TupV.ext (fun _ _ _ h k => by first | exact Opt.ext (fun _ _ _ h k => by first | exact IntsAt.ext h k | exact GsV.ext h k) h k | exact IntsAt.ext h k) h k | exact Opt.ext (fun _ _ _ h k => by first | exact IntsAt.ext h k | exact GsV.ext h k) h k | exact IntsAt.ext h k)), ?_⟩)
          exact trivial
        · refine ⟨?_, ?_, ?_, ?_, ?_, ?_, ?_, ?_, ?_, ?_, trivial⟩
          all_goals intro ρ W ⟨kc, kg, kf⟩ hF hs
          · obtain ⟨h0, -⟩ := hs
            replace h0 : ρ (.tmp 5) = .pointer (some ⟨y5, 0, none⟩) := h0
            have hc0 : W.cell? ⟨y5, 0, none⟩ = some (.int .i64 (t)) := hF.cell (by assumption)
            have hc1 : W.cell? ⟨y5, 1, none⟩ = some (.slice (some ⟨g, 0, none⟩) n c5) := hF.cell (by assumption)
            go_simp
            exact ⟨Ext.refl _, rfl⟩
          · obtain ⟨h0, -⟩ := hs
            replace h0 : ρ (.tmp 36) = .agg #[.int .i64 (t), .slice (some ⟨g, 0, none⟩) n c5] := h0
            go_simp
            exact HCL.out W hF
          · obtain ⟨h0, -⟩ := hs
            replace h0 : ρ (.tmp 3) = .pointer (some ⟨w.heap.size + 1, 0, none⟩) := h0
            have hc0 : W.cell? ⟨w.heap.size + 1, 0, none⟩ = some (.int .i64 (f)) := hF.cell (by assumption)
            have hc1 : W.cell? ⟨w.heap.size + 1, 1, none⟩ = some (.slice B n cb) := hF.cell (by assumption)
            go_simp
            exact ⟨Ext.refl _, rfl⟩
          · obtain ⟨h0, -⟩ := hs
            replace h0 : ρ (.tmp 38) = .agg #[.int .i64 (f), .slice B n cb] := h0
            go_simp
            exact HCD.out W (E0.out.trans (X2.out.trans (EW.out.trans hF)))
          · obtain ⟨h0, h1, -⟩ := hs
            replace h0 : (LadV t ys) (ρ (.tmp 37)) W := h0
            replace h1 : (DrvV f hot) (ρ (.tmp 39)) W := h1
            go_simp
            exact H39.out W _ _ h0 h1
          · obtain ⟨h0, -⟩ := hs
            replace h0 : (TupV (Ints ps) (0)) (ρ (.tmp 40)) W := h0
            go_simp
            first | exact ⟨Ext.refl _, h0⟩ | exact Ext.refl _
          · obtain ⟨h0, -⟩ := hs
            replace h0 : (TupV (Ints ps) (0)) (ρ (.tmp 35)) W := h0
            obtain ⟨v, hv, hp⟩ := h0
            go_simp
            first | exact ⟨Ext.refl _, hp⟩ | exact Ext.refl _
          · obtain ⟨h0, -⟩ := hs
            replace h0 : (TupV (Ints ps) (0)) (ρ (.tmp 35)) W := h0
            obtain ⟨v, hv, hp⟩ := h0
            go_simp
            first | exact ⟨Ext.refl _, rfl⟩ | exact Ext.refl _
          · obtain ⟨h0, -⟩ := hs
            replace h0 : (Ints ps) (ρ (.tmp 41)) W := h0
            go_simp
            first | exact ⟨Ext.refl _, h0⟩ | exact Ext.refl _
          · obtain ⟨h0, -⟩ := hs
            replace h0 : ρ (.tmp 42) = .int .i64 (0) := h0
            go_simp
            exact ⟨Ext.refl _, rfl⟩
        · intro fv W5 hF hs
          obtain ⟨-, -, -, -, -, -, -, -, h7, h8, -⟩ := hs
          replace h7 : (Ints ps) (fv 7) W5 := h7
          replace h8 : fv 8 = .int .i64 (0) := h8
          simp only [fin, List.filterMap]
          go_simp
          have X5 := Lib.hid (EW.out.trans hF)
          have y0' : W5.cell? ⟨y5, 0, none⟩ = some (.int .i64 t) := hF.cell y0
          have y1' : W5.cell? ⟨y5, 1, none⟩ = some (.slice (some ⟨g, 0, none⟩) n c5) := hF.cell y1
          clear hF z0 z1 z2 z3 y0 y1
          obtain ⟨A7, c7, hv7, hr7⟩ := ints_rows h7
          rw [HPL.out] at hv7
          have HR7 := Lib.hid hr7
          clear h7 hr7
          go_wp2
          go_loopw [9] (fun i wr => ∃ j : Nat, j + 1 ≤ n ∧ i = .int .i64 ((j : Int) + 1) ∧ Ext W5 wr) (fun i _ => n - (intOf i).toNat)
          case atStart => exact ⟨0, h1, rfl, Ext.refl _⟩
          case round =>
            obtain ⟨j, hj, rfl, hx⟩ := hrel
            by_cases hlt2 : j + 1 < n
            · obtain ⟨x, hax⟩ : ∃ x, ps[j + 1]? = some x := ⟨_, List.getElem?_eq_getElem (by rw [HPL.out]; exact hlt2)⟩
              obtain ⟨y, hay⟩ : ∃ y, ps[j]? = some y := ⟨_, List.getElem?_eq_getElem (by rw [HPL.out]; omega)⟩
              have hxy : x ≤ y := by
                have := HDN.out j hlt2
                simpa [List.getD, hax, hay] using this
              obtain ⟨b1, o1, hA1, _, hc⟩ := HR7.out.2 (j + 1) x hax
              obtain ⟨b2, o2, hA2, _, hd⟩ := HR7.out.2 j y hay
              subst hA1
              obtain ⟨rfl, rfl⟩ : b1 = b2 ∧ o1 = o2 := by simpa using hA2
              have hc1 : wr.cell? ⟨b1, o1 + (j + 1), none⟩ = some (.int .i64 x) := hx.cell (by have := hc 0 _ rfl; simpa using this)
              have hd1 : wr.cell? ⟨b1, o1 + j, none⟩ = some (.int .i64 y) := hx.cell (by have := hd 0 _ rfl; simpa using this)
              have hji : (j : Int) + 1 < (n : Int) := by omega
              have hji2 : (j : Int) < (n : Int) := by omega
              have hdx : decide (y < x) = false := by simp; omega
              have HXX := Lib.hid hx
              clear hc hd hA2 hax hay hx hxy
              go_wp2
              go_quiet (fail)
              go_wp2
              go_roundw
              case rel => exact ⟨j + 1, by omega, by go_num, HXX.out.trans (Ext.drewN _ _)⟩
              case measure => simp [intOf]; omega
            · go_wp2
              go_ret
              exact ⟨rfl, E0.out.trans (X2.out.trans (X5.out.trans hx))⟩
  · have hq' : (driveE t xs f m != 0) = true := by simp [hq]
    clear hq hA hB hAn hBn hn hm
    generalize driveE t xs f m = q at *
    go_enter Try.func12, Try.ntmps12
    go_wp2_with (first
      | (go_at_call 15; refine (awake_any _).mono ?_; rintro e W1 ⟨rfl, hx1⟩; obtain ⟨z0, z1, z2, z3⟩ := FA.out _ hx1; have X1 := Lib.hid hx1; clear hx1)
      | (go_at_call 24; refine (H24.out _ (E0.out.trans X1.out)).mono ?_; rintro e W2 ⟨rfl, hx2⟩; have X2 := Lib.hid (X1.out.trans hx2); clear hx2 z0 z1 z2 z3))
    go_ret
    exact ⟨rfl, E0.out.trans X2.out⟩

end Go.Proofs.Ytpaoeghdfeekoaa
