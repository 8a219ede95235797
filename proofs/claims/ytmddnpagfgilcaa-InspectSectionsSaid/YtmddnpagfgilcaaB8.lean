/- Pairs: their errors, their window. -/
import Derived.Test.YtmddnpagfgilcaaB7
import Derived.Lib.MinMax

namespace Go.Proofs.Ytmddnpagfgilcaa
open Go.RowKit Go.Shelf Go.Mem Go.RegInv
attribute [local go_sem] RelUpon_value RelUpon_skip RelUpon_enter BigFrame.eval_const BigFrame.eval_global BigFrame.eval_func


/-- A pair. -/
structure Pr where
  s : Int
  v : Int
deriving DecidableEq, Inhabited
def Pr.enc (x : Pr) : List Value := [.int .i64 x.s, .int .i64 x.v]
theorem sizeError_any (m : Int) (v : Value) (xs : List Int) (w : World) (hm : 0 ≤ m ∧ m ≤ 1000000000000) (hx : IntsAt w v xs) :
    Calls Try.prog 134 #[.int .i64 m, v] w fun e w' => e = .returned (.int .i64 (rangeE (-m) m xs)) ∧ Ext w w' := by
  have H := Lib.hid (rangeError_any (-m) m v xs w hx)
  obtain ⟨m0, m1⟩ := hm
  clear hx
  go_enter Try.func134, Try.ntmps134
  go_wp2_with (go_at_call 79; refine H.out.mono ?_; rintro e w' ⟨rfl, hx⟩)
  go_ret
  exact ⟨rfl, hx⟩
def prE (x : Pr) : Int := rangeE (-100) 100 [x.s, x.v]
set_option maxRecDepth 100000 in
theorem prErr_any (i : Int) (x : Pr) (w : World) : Calls Try.prog 133 #[.int .i64 i, .agg #[.int .i64 x.s, .int .i64 x.v]] w fun e w' => e = .returned (.int .i64 (prE x)) ∧ Ext w w' := by
  have HE := Lib.hid (show prE x = rangeE (-100) 100 [x.s, x.v] from rfl)
  generalize prE x = z at *
  have HS := Lib.hid (fun W v (h : IntsAt W v [x.s, x.v]) => sizeError_any 100 v [x.s, x.v] W ⟨by decide, by decide⟩ h)
  have HI := Lib.hid (show IntsAt ((w.alloc (.cells #[.int .i64 x.s, .int .i64 x.v] 162)).alloc (.cells #[.int .i64 x.s, .int .i64 x.v] 3)) (.slice (some ⟨w.heap.size + 1, 0, none⟩) 2 2) [x.s, x.v] from by
    have := ints_new (w.alloc (.cells #[.int .i64 x.s, .int .i64 x.v] 162)) [x.s, x.v] 3 (by simp)
    simpa using this)
  go_enter Try.func133, Try.ntmps133
  go_wp2_with (go_at_call 134; refine (HS.out _ _ HI.out).mono ?_; rintro e W1 ⟨rfl, hx⟩; have X1 := Lib.hid ((Ext.alloc _ _).trans ((Ext.alloc _ _).trans hx)); clear hx)
  go_ret
  exact ⟨ret_int HE.out.symm, X1.out⟩

set_option maxRecDepth 100000 in
set_option maxHeartbeats 1000000 in
theorem firstError132_any {A : Option Addr} {n ca : Nat} {xs : List Pr} {w : World} {E : Nat → Int} {cp : Array Value} (hn : xs.length = n) (hA : RowsAt 2 Pr.enc w A xs)
    (hF : ∀ (i : Nat) (x : Pr) (W : World), xs[i]? = some x → Ext w W → Calls Try.prog 133 (#[.int .i64 (i : Int), .agg #[.int .i64 x.s, .int .i64 x.v]] ++ cp) W fun e w' => e = .returned (.int .i64 (E i)) ∧ Ext W w') :
    Calls Try.prog 132 #[.slice A n ca, .func (.func 133) #[] cp] w fun e w' => e = .returned (.tuple #[.int .i64 (firstAt E n 0).1, .int .i64 (firstAt E n 0).2]) ∧ Ext w w' := by
  have HN := Lib.hid hn
  have HA := Lib.hid hA
  have HF := Lib.hid hF
  have hnb : n ≤ 1152921504606846976 := by have := hA.1; omega
  clear hn hA hF
  go_enter Try.func132, Try.ntmps132
  go_wp2
  go_loopw [11] (fun i wr => ∃ k : Nat, k ≤ n ∧ i = .int .i64 k ∧ firstAt E n 0 = firstAt E (n - k) k ∧ Ext w wr) (fun i _ => n - (intOf i).toNat)
  case atStart => exact ⟨0, Nat.zero_le _, rfl, by rw [Nat.sub_zero], Ext.refl _⟩
  case round =>
    obtain ⟨k, hk, rfl, hr, hx⟩ := hrel
    have X := Lib.hid hx
    have R := Lib.hid hr
    clear hx hr
    by_cases hlt : k < n
    · have R2 := Lib.hid (R.out.trans (firstAt_step E hlt))
      clear R
      obtain ⟨x, hx⟩ : ∃ x, xs[k]? = some x := ⟨_, List.getElem?_eq_getElem (by rw [HN.out]; exact hlt)⟩
      obtain ⟨b, o, rfl, hb, hc⟩ := row_at (HA.out.ext X.out) hx
      have HX := Lib.hid hx
      have p0 := hc 0 _ rfl
      have p1 := hc 1 _ rfl
      simp only [Nat.add_zero] at p0
      have HC := Lib.hid (fun W (e : Ext w W) => HF.out k x W HX.out e)
      clear hc hx
      have hki : (k : Int) < (n : Int) := by omega
      by_cases hz : E k = 0
      · have hz2 : (E k != 0) = false := by simp [hz]
        have HZ := Lib.hid hz
        clear hz
        generalize hE : E k = z at *
        have HE := Lib.hid hE
        clear hE
        go_wp2_with (go_at_call 133; refine (HC.out _ (X.out.trans (Ext.alloc _ _))).mono ?_; rintro e W1 ⟨rfl, hx⟩; have X1 := Lib.hid ((X.out.trans (Ext.alloc _ _)).trans hx); clear hx)
        go_roundw
        case rel => exact ⟨k + 1, by omega, by go_num, by rw [R2.out, if_neg (by simpa using HZ.out)], X1.out⟩
        case measure => simp [intOf]; omega
      · have hz2 : (E k != 0) = true := by simp [hz]
        have HZ := Lib.hid hz
        clear hz
        generalize hE : E k = z at *
        have HE := Lib.hid hE
        clear hE
        go_wp2_with (go_at_call 133; refine (HC.out _ (X.out.trans (Ext.alloc _ _))).mono ?_; rintro e W1 ⟨rfl, hx⟩; have X1 := Lib.hid ((X.out.trans (Ext.alloc _ _)).trans hx); clear hx)
        go_ret2
        exact ⟨ret_two (by rw [R2.out, if_pos HZ.out]) (by rw [R2.out, if_pos HZ.out]), X1.out⟩
    · have R2 := Lib.hid (show firstAt E n 0 = (0, 0) by rw [R.out, show n - k = 0 by omega]; rfl)
      have hkn : ¬ (k : Int) < (n : Int) := by omega
      go_wp2
      go_ret2
      exact ⟨ret_two (by rw [R2.out]) (by rw [R2.out]), X.out⟩

def prAt (xs : List Pr) (i : Nat) : Int := prE (xs.getD i default)
def pairsE (xs : List Pr) : Int := if countE xs.length 2 10 ≠ 0 then countE xs.length 2 10 else (firstAt (prAt xs) xs.length 0).2
set_option maxRecDepth 100000 in
set_option maxHeartbeats 1000000 in
theorem pairsError_any {A : Option Addr} {n ca : Nat} {xs : List Pr} {w : World} (hn : xs.length = n) (hA : RowsAt 2 Pr.enc w A xs) :
    Calls Try.prog 112 #[.slice A n ca] w fun e w' => e = .returned (.int .i64 (pairsE xs)) ∧ Ext w w' := by
  have hnb : n ≤ 1152921504606846976 := by have := hA.1; omega
  have HT := Lib.hid (show pairsE xs = if countE n 2 10 ≠ 0 then countE n 2 10 else (firstAt (prAt xs) n 0).2 by rw [← hn]; rfl)
  have HFE := Lib.hid (fun W (e : Ext w W) => firstError132_any (ca := ca) (E := prAt xs) (cp := #[]) hn (hA.ext e) (fun i x W2 hx e2 => by
    have := prErr_any i x W2
    have hd : xs.getD i default = x := by simp [hx]
    unfold prAt
    rw [hd]
    exact this))
  generalize firstAt (prAt xs) n 0 = fa at *
  clear hA hn
  by_cases hz : countE n 2 10 = 0
  · have hz2 : (countE n 2 10 != 0) = false := by simp [hz]
    have HZ := Lib.hid hz
    clear hz
    have HC := Lib.hid (fun W => countError_any n 2 10 W)
    generalize countE n 2 10 = z at *
    go_enter Try.func112, Try.ntmps112
    go_wp2_with (go_at_call 75; refine (HC.out _).mono ?_; rintro e W1 ⟨rfl, hx⟩; have X1 := Lib.hid hx; clear hx; refine Hid.out ?_)
    refine Lib.hid ?_
    go_wp2_with (go_at_call 132; refine (HFE.out _ X1.out).mono ?_; rintro e W2 ⟨rfl, hx⟩; have X2 := Lib.hid hx; clear hx)
    go_ret
    exact ⟨ret_int (by rw [HT.out, if_neg (by simpa using HZ.out)]), X1.out.trans X2.out⟩
  · have hz2 : (countE n 2 10 != 0) = true := by simp [hz]
    have HZ := Lib.hid hz
    clear hz
    have HC := Lib.hid (fun W => countError_any n 2 10 W)
    generalize countE n 2 10 = z at *
    go_enter Try.func112, Try.ntmps112
    go_wp2_with (go_at_call 75; refine (HC.out _).mono ?_; rintro e W1 ⟨rfl, hx⟩; have X1 := Lib.hid hx; clear hx; refine Hid.out ?_)
    refine Lib.hid ?_
    go_wp2
    go_ret
    exact ⟨ret_int (by rw [HT.out, if_pos HZ.out]), X1.out⟩

/-- A pointer to a block of its own. -/
def NewP (base : Nat) (T : TypeId) (cs : Array Value) : Value → World → Prop := fun v W => ∃ q, v = .pointer (some ⟨q, 0, none⟩) ∧ base ≤ q ∧ Blk W q T cs
theorem NewP.ext {base : Nat} {T : TypeId} {cs : Array Value} {v : Value} {W W' : World} (h : NewP base T cs v W) (k : Ext W W') : NewP base T cs v W' := by
  obtain ⟨q, h1, h2, h3⟩ := h; exact ⟨q, h1, h2, h3.ext k⟩
/-- The window of the first k pairs. -/
def winK (xs : List Pr) : Nat → Int × Int
  | 0 => ((xs.getD 0 default).s, (xs.getD 0 default).s)
  | k + 1 => (min (winK xs k).1 (xs.getD k default).s, max (winK xs k).2 (xs.getD k default).s)
set_option maxRecDepth 100000 in
set_option maxHeartbeats 1000000 in
theorem windowOf_any {A : Option Addr} {n ca : Nat} {xs : List Pr} {w : World} (hn : xs.length = n) (hA : RowsAt 2 Pr.enc w A xs) (h0 : 0 < n) :
    Calls Try.prog 135 #[.slice A n ca] w fun e w' => e = .returned (.agg #[.int .i64 (winK xs n).1, .int .i64 (winK xs n).2]) ∧ Ext w w' := by
  have hl := hA.1
  rw [hn] at hl
  have g : ∀ i, i < n → xs[i]? = some (xs.getD i default) := fun i h => by rw [List.getD_eq_getElem?_getD, List.getElem?_eq_getElem (by omega)]; rfl
  have G := Lib.hid g
  have HW0 := Lib.hid (show winK xs 0 = ((xs.getD 0 default).s, (xs.getD 0 default).s) from rfl)
  have hx0 := g 0 h0
  obtain ⟨b, o, rfl, hb, hc⟩ := row_at hA hx0
  have p0 := hc 0 _ rfl
  simp only [Nat.zero_mul, Nat.add_zero] at p0
  generalize xs.getD 0 default = x0 at *
  have HA := Lib.hid hA
  have HN := Lib.hid hn
  obtain ⟨W0, hW0⟩ : ∃ W0, W0 = w.alloc (.cells #[.int .i64 0, .int .i64 0] 41) := ⟨_, rfl⟩
  have K0 := Lib.hid (show Blk W0 w.heap.size 41 #[.int .i64 0, .int .i64 0] by rw [hW0]; exact Blk.new _ _ _)
  have E0 := Lib.hid (show Ext w W0 by rw [hW0]; exact Ext.alloc _ _)
  have r0 := E0.out.cell p0
  clear g hc hb p0 hA hn hx0
  go_enter Try.func135, Try.ntmps135
  go_wp2
  rw [← hW0]
  clear hW0
  go_wp2
  refine wp_region_part 10 [some 6, some 7, some 8, some 9, some 10, some 11, some 12, some 13, some 14, some 3] [[0], [6], [7], [8], [0], [10], [11], [12], [9, 13], []]
    [Is (.slice (some ⟨b, o, none⟩) n ca), Is (.pointer (some ⟨b, o, none⟩)), Is (.pointer (some ⟨b, o, none⟩)), Is (.int .i64 (x0.s)), Is (.slice (some ⟨b, o, none⟩) n ca), Is (.pointer (some ⟨b, o, none⟩)), Is (.pointer (some ⟨b, o, none⟩)), Is (.int .i64 (x0.s)), Is (.agg #[.int .i64 x0.s, .int .i64 x0.s]), NewP W0.heap.size 41 #[.int .i64 0, .int .i64 0]]
    (by kernel_rfl) (by kernel_rfl) (by kernel_rfl) (by kernel_rfl) (by kernel_rfl) (by kernel_rfl) (by kernel_rfl) Ext (fun W => Ext W0 W)
    (fun W _ => Ext.refl W) (fun W W' h k => h.trans k) ?_ (Ext.drew _) ?_ ?_
  · repeat (refine ⟨fun _ _ _ _ k h => (by first | exact h | exact (by first | exact IntsAt.ext h k | exact NewP.ext h k)), ?_⟩)
    exact trivial
  · refine ⟨?_, ?_, ?_, ?_, ?_, ?_, ?_, ?_, ?_, ?_, trivial⟩
    all_goals intro ρ W ⟨kc, kg, kf⟩ hF hs
    · obtain ⟨h0, -⟩ := hs
      replace h0 : ρ (.tmp 0) = .slice (some ⟨b, o, none⟩) n ca := h0
      go_simp
      exact ⟨Ext.refl _, rfl⟩
    · obtain ⟨h0, -⟩ := hs
      replace h0 : ρ (.tmp 6) = .slice (some ⟨b, o, none⟩) n ca := h0
      have hb2 : (0 : Int) < (n : Int) := by omega
      have hb3 : 0 < n := by omega
      go_simp
      exact ⟨Ext.refl _, rfl⟩
    · obtain ⟨h0, -⟩ := hs
      replace h0 : ρ (.tmp 7) = .pointer (some ⟨b, o, none⟩) := h0
      go_simp
      exact ⟨Ext.refl _, rfl⟩
    · obtain ⟨h0, -⟩ := hs
      replace h0 : ρ (.tmp 8) = .pointer (some ⟨b, o, none⟩) := h0
      have hc0 : W.cell? ⟨b, o, none⟩ = some (.int .i64 (x0.s)) := hF.cell (by assumption)
      go_simp
      exact ⟨Ext.refl _, rfl⟩
    · obtain ⟨h0, -⟩ := hs
      replace h0 : ρ (.tmp 0) = .slice (some ⟨b, o, none⟩) n ca := h0
      go_simp
      exact ⟨Ext.refl _, rfl⟩
    · obtain ⟨h0, -⟩ := hs
      replace h0 : ρ (.tmp 10) = .slice (some ⟨b, o, none⟩) n ca := h0
      have hb2 : (0 : Int) < (n : Int) := by omega
      have hb3 : 0 < n := by omega
      go_simp
      exact ⟨Ext.refl _, rfl⟩
    · obtain ⟨h0, -⟩ := hs
      replace h0 : ρ (.tmp 11) = .pointer (some ⟨b, o, none⟩) := h0
      go_simp
      exact ⟨Ext.refl _, rfl⟩
    · obtain ⟨h0, -⟩ := hs
      replace h0 : ρ (.tmp 12) = .pointer (some ⟨b, o, none⟩) := h0
      have hc0 : W.cell? ⟨b, o, none⟩ = some (.int .i64 (x0.s)) := hF.cell (by assumption)
      go_simp
      exact ⟨Ext.refl _, rfl⟩
    · obtain ⟨h0, h1, -⟩ := hs
      replace h0 : ρ (.tmp 9) = .int .i64 (x0.s) := h0
      replace h1 : ρ (.tmp 13) = .int .i64 (x0.s) := h1
      go_simp
      exact ⟨Ext.refl _, rfl⟩
    · go_simp
      exact ⟨Ext.alloc _ _, _, rfl, hF.size, Blk.new _ _ _⟩
  · intro fv W hF hs
    obtain ⟨-, -, -, -, -, -, -, -, h14, h3, -⟩ := hs
    replace h14 : fv 14 = .agg #[.int .i64 x0.s, .int .i64 x0.s] := h14
    replace h3 : (NewP W0.heap.size 41 #[.int .i64 0, .int .i64 0]) (fv 3) W := h3
    simp only [fin, List.filterMap]
    go_simp
    have X1 := Lib.hid hF
    obtain ⟨q, hq, hqs, hbq⟩ := h3
    rw [hq]
    have f0 := hbq.free 0
    have f1 := hbq.free 1
    have c0 : W.cell? ⟨q, 0, none⟩ = some (.int .i64 0) := hbq.cell 0
    have c1 : W.cell? ⟨q, 1, none⟩ = some (.int .i64 0) := hbq.cell 1
    have HB := Lib.hid hbq
    clear hF r0 hq hbq
    go_wp2
    obtain ⟨W1, hW1⟩ : ∃ W1, W1 = (W.setCell ⟨q, 0, none⟩ (.int .i64 x0.s)).setCell ⟨q, 1, none⟩ (.int .i64 x0.s) := ⟨_, rfl⟩
    rw [← hW1]
    have KR := Lib.hid (show Blk W1 q 41 #[.int .i64 (winK xs 0).1, .int .i64 (winK xs 0).2] by rw [hW1, HW0.out]; exact (HB.out.setSame 0 _).setSame 1 _)
    have X2 := Lib.hid (show Ext W0 W1 by rw [hW1]; exact Ext.set (Ext.set X1.out hqs _) hqs _)
    clear hW1 h14 c0 c1 f0 f1 HB X1
    go_loopw [17] (fun i wr => ∃ k : Nat, k ≤ n ∧ i = .int .i64 k ∧ Blk wr q 41 #[.int .i64 (winK xs k).1, .int .i64 (winK xs k).2] ∧ Ext W0 wr) (fun i _ => n - (intOf i).toNat)
    case atStart => exact ⟨0, Nat.zero_le _, rfl, KR.out, X2.out⟩
    case round =>
      obtain ⟨k, hk, rfl, hb, hx⟩ := hrel
      have X := Lib.hid hx
      have B := Lib.hid hb
      clear hx hb KR X2
      by_cases hlt : k < n
      · have hxk := G.out k hlt
        obtain ⟨b2, o2, he, hb2, hc⟩ := row_at (HA.out.ext (E0.out.trans X.out)) hxk
        obtain ⟨rfl, rfl⟩ : b = b2 ∧ o = o2 := by simpa using he
        have p0 := hc 0 _ rfl
        have p1 := hc 1 _ rfl
        simp only [Nat.add_zero] at p0
        have HK := Lib.hid (show winK xs (k + 1) = (min (winK xs k).1 (xs.getD k default).s, max (winK xs k).2 (xs.getD k default).s) from rfl)
        generalize xs.getD k default = x at *
        have hki : (k : Int) < (n : Int) := by omega
        clear hc he hxk
        have c0 : ∀ o, (wr.alloc o).cell? ⟨q, 0, none⟩ = some (.int .i64 (winK xs k).1) := fun o => (B.out.alloc o).cell 0
        have c1 : ∀ o, (wr.alloc o).cell? ⟨q, 1, none⟩ = some (.int .i64 (winK xs k).2) := fun o => (B.out.alloc o).cell 1
        have f0 : ∀ o, (wr.alloc o).frozen? ⟨q, 0, none⟩ = false := fun o => (B.out.alloc o).free 0
        have f1 : ∀ o, (wr.alloc o).frozen? ⟨q, 1, none⟩ = false := fun o => (B.out.alloc o).free 1
        generalize winK xs k = z at *
        go_wp2
        go_roundw
        case rel => exact ⟨k + 1, by omega, by go_num, by rw [HK.out]; exact ((B.out.alloc _).setSame 0 _).setSame 1 _, Ext.set (Ext.set (X.out.trans (Ext.alloc _ _)) hqs _) hqs _⟩
        case measure => simp [intOf]; omega
      · have hkn : k = n := by omega
        rw [hkn] at B
        have hkn2 : ¬ (k : Int) < (n : Int) := by omega
        clear hkn
        have c0 : wr.cell? ⟨q, 0, none⟩ = some (.int .i64 (winK xs n).1) := B.out.cell 0
        have c1 : wr.cell? ⟨q, 1, none⟩ = some (.int .i64 (winK xs n).2) := B.out.cell 1
        have B2 := Lib.hid (K0.out.ext X.out)
        have f0 := B2.out.free 0
        have f1 := B2.out.free 1
        have d0 : wr.cell? ⟨w.heap.size, 0, none⟩ = some (.int .i64 0) := B2.out.cell 0
        have d1 : wr.cell? ⟨w.heap.size, 1, none⟩ = some (.int .i64 0) := B2.out.cell 1
        clear B B2
        go_wp2
        exact bodyPost_ret (v := .agg #[.int .i64 (winK xs n).1, .int .i64 (winK xs n).2]) (by simp [results, Try.f135, go_sem, d0, d1]) rfl ⟨rfl, Ext.set (Ext.set (E0.out.trans X.out) (by dsimp only; omega) _) (by dsimp only; omega) _⟩

end Go.Proofs.Ytmddnpagfgilcaa
