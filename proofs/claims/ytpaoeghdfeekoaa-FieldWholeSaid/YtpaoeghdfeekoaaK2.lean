/- Copies of voltages; CurrentsOf; the error of voltages. -/
import Derived.Test.YtpaoeghdfeekoaaK1
import Derived.Test.YtpaoeghdfeekoaaG4
namespace Go.Proofs.Ytpaoeghdfeekoaa
open Go.RowKit Go.Shelf Go.Mem Go.RegInv
attribute [local go_sem] RelUpon_value RelUpon_skip RelUpon_enter BigFrame.eval_const BigFrame.eval_global BigFrame.eval_func

theorem g_len (xs : List G) : (xs.flatMap G.enc).length = xs.length * 2 := flat_len xs
theorem g_at (xs : List G) (i j : Nat) (s : G) (u : Value) (h : xs[i]? = some s) (h' : (G.enc s)[j]? = some u) : (xs.flatMap G.enc)[i * 2 + j]? = some u :=
  flat_get (k := 2) (fun x => by simp [G.enc]) xs i j s u h h'
theorem g_idx (xs : List G) (p : Nat) (u : Value) (h : (xs.flatMap G.enc)[p]? = some u) : ∃ s, xs[p / 2]? = some s ∧ (G.enc s)[p % 2]? = some u := by
  have hp : p < xs.length * 2 := by rw [← g_len]; exact (List.getElem?_eq_some_iff.1 h).1
  have hi : p / 2 < xs.length := by omega
  have hs : xs[p / 2]? = some xs[p / 2] := List.getElem?_eq_getElem hi
  have hj : p % 2 < (G.enc xs[p / 2]).length := by simp [G.enc]; omega
  have := g_at xs (p / 2) (p % 2) _ _ hs (List.getElem?_eq_getElem hj)
  rw [show p / 2 * 2 + p % 2 = p by omega, h] at this
  exact ⟨_, hs, by rw [List.getElem?_eq_getElem hj, this]⟩
theorem g_one (xs : List G) : ∀ u ∈ xs.flatMap G.enc, u.oneCell' = true := by
  intro u hu
  obtain ⟨s, _, h⟩ := List.mem_flatMap.1 hu
  simp only [G.enc, List.mem_cons, List.not_mem_nil, or_false] at h
  rcases h with rfl | rfl <;> rfl
theorem g_own {W : World} {base n c : Nat} {A : Option Addr} {xs : List G} (hl : xs.length = n) (hn : n ≤ 1152921504606846976) (h : W.ownsRow base 65 2 (.slice A n c) n (xs.flatMap G.enc)) :
    RowsAt 2 G.enc W A xs ∧ (1 ≤ n → ∃ g, A = some ⟨g, 0, none⟩ ∧ n ≤ c) := by
  rcases h.2 with ⟨he, _⟩ | ⟨g, cap, cu, he, _, hh, hc, _, hs, ht⟩
  · obtain rfl : n = 0 := by simp at he; omega
    obtain rfl := List.eq_nil_of_length_eq_zero hl
    exact ⟨⟨by simp, by simp⟩, fun h => by omega⟩
  · obtain ⟨rfl, rfl⟩ : A = some ⟨g, 0, none⟩ ∧ c = cap := by simpa using he
    refine ⟨⟨by omega, fun i s hx => ⟨g, 0, rfl, (show Blk W g 65 cu from hh).lt, fun j u hu => ?_⟩⟩, fun _ => ⟨g, rfl, hc⟩⟩
    have hi := (List.getElem?_eq_some_iff.1 hx).1
    have hj : j < 2 := (List.getElem?_eq_some_iff.1 hu).1
    rw [(show Blk W g 65 cu from hh).cell]
    have h2 := g_at xs i j s u hx hu
    rw [← ht, List.getElem?_take, if_pos (by omega), Array.getElem?_toList] at h2
    rw [show 0 + i * 2 + j = i * 2 + j by omega]; exact h2

/-- A copy of voltages. -/
def GcV (zs : List G) : Value → World → Prop := fun u W => ∃ A n c, Hid (zs.length = n) ∧ u = .slice A n c ∧ RowsAt 2 G.enc W A zs ∧ (1 ≤ n → ∃ g, A = some ⟨g, 0, none⟩ ∧ n ≤ c)
theorem GcV.ext {zs : List G} {u : Value} {W W' : World} (h : GcV zs u W) (e : Ext W W') : GcV zs u W' := by
  obtain ⟨A, n, c, h1, h2, h3, h4⟩ := h; exact ⟨A, n, c, h1, h2, h3.ext e, h4⟩

set_option maxHeartbeats 1000000 in
theorem copyGausses_V (A : Option Addr) (n ca : Nat) (xs : List G) (hn : xs.length = n) (w : World) (ha : RowsAt 2 G.enc w A xs) (h6 : n ≤ 8) (hnil : A = none → ca = 0) :
    Calls Try.prog 35 #[.slice A n ca] w (VPost w (GcV xs)) := by
  obtain ⟨i0, hi, hz0, hz1, hz2⟩ := info_parts info65
  have HI0 := Lib.hid hz0
  have hown : Hid ((w.alloc (.cells #[] 65)).ownsRow w.heap.size 65 2 (.slice (some ⟨w.heap.size, 0, none⟩) 0 0) 0 []) :=
    Lib.hid ⟨rfl, .inr ⟨w.heap.size, 0, #[], rfl, Nat.le_refl _, Blk.new w 65 #[], Nat.le_refl _, by decide, rfl, rfl⟩⟩
  cases A with
  | none =>
    obtain rfl : xs = [] := by
      cases xs with
      | nil => rfl
      | cons x l => obtain ⟨b, o, h, _⟩ := ha.2 0 x rfl; cases h
    obtain rfl := hnil rfl
    obtain rfl : n = 0 := by simpa using hn.symm
    clear ha hn hnil
    go_enter Try.func35, Try.ntmps35
    go_wp2_with (at_builtin; refine wpList_append_own_none rfl _ _ 53 rfl w.heap.size 65 i0 2 Try.underlying53 hi _ _ _ rfl hown.out rfl ?_)
    go_ret
    exact ⟨_, rfl, Ext.alloc _ _, _, 0, _, Lib.hid rfl, rfl, ⟨by simp, by simp⟩, fun h => by omega⟩
  | some ad =>
    have hnews : Hid (∀ j u, (xs.flatMap G.enc)[j]? = some u → (w.alloc (.cells #[] 65)).cell? (ad.add j) = some u) := Lib.hid fun j u hu => by
      obtain ⟨s, hs, hj⟩ := g_idx xs j u hu
      obtain ⟨b, o, e, _, hc⟩ := ha.2 _ s hs
      obtain rfl : ad = ⟨b, o, none⟩ := by simpa using e
      have := (Ext.alloc w (.cells #[] 65)).cell (hc _ _ hj)
      rw [WideShapes.add_plain, show o + j = o + j / 2 * 2 + j % 2 by omega]; exact this
    have HL := Lib.hid (show (xs.flatMap G.enc).length = n * 2 by rw [g_len, hn])
    have HN := Lib.hid hn
    have HO := Lib.hid (g_one xs)
    clear ha hn hnil
    go_enter Try.func35, Try.ntmps35
    go_wp2_with (at_builtin; refine wpList_append_own _ rfl _ _ 53 rfl w.heap.size 65 i0 (.agg #[.int .i64 0, .int .i64 0]) 2 16 Try.underlying53 hi HI0.out hz1 hz2 rfl (by decide) _ _ _ rfl hown.out ad n ca (xs.flatMap G.enc) rfl HL.out hnews.out HO.out (by unfold maxLen; omega) (by omega) (by simp) ?_; intro v' w1 hown' hgrow _; have HE1 := Lib.hid (Ext.grownBy (Ext.alloc w _) hgrow (fun g hg => own_base hown.out hg)); obtain ⟨A', c', hv'⟩ := own_slice hown'; rw [Nat.zero_add] at hv'; subst hv'; have HO1 := Lib.hid hown'; clear hown' hgrow)
    go_ret
    have h1 := HO1.out
    rw [Nat.zero_add, List.nil_append] at h1
    obtain ⟨h2, h3⟩ := g_own HN.out (by omega) h1
    exact ⟨_, rfl, HE1.out, A', n, c', HN, rfl, h2, h3⟩

/-- The voltages as voltagesOf has left them. -/
def VsV (m : Nat) (zs : List G) : Value → World → Prop := fun u W => ∃ g c, u = .slice (some ⟨g, 0, none⟩) (m + 1) c ∧ m + 1 ≤ c ∧ RowsAt 2 G.enc W (some ⟨g, 0, none⟩) zs
theorem VsV.ext {m : Nat} {zs : List G} {u : Value} {W W' : World} (h : VsV m zs u W) (e : Ext W W') : VsV m zs u W' := by
  obtain ⟨g, c, h1, h2, h3⟩ := h; exact ⟨g, c, h1, h2, h3.ext e⟩

theorem bd_mono {a b : Int} {z : G} (h : Bd a z) (hab : a ≤ b) : Bd b z := by
  obtain ⟨⟨h1, h2⟩, h3, h4⟩ := h
  exact ⟨⟨by omega, by omega⟩, by omega, by omega⟩

set_option maxRecDepth 100000 in
set_option maxHeartbeats 2000000 in
theorem currentsPub_any (t : Int) (A : Option Addr) (n cap : Nat) (l : List Sh) (hn : l.length = n) (f : Int) (B : Option Addr) (m cap' : Nat) (hot : List Bool) (hm : hot.length = m) (w : World)
    (hS : RowsAt 3 Sh.enc w A l) (hH : RowsAt 1 boolEnc w B hot) :
    Calls Try.prog 33 #[.agg #[.int .i64 t, .slice A n cap], .agg #[.int .i64 f, .slice B m cap']] w (VPost w (TupV (Opt (driveE t l f m) (.slice none 0 0) (GsV (curr l (volts f hot l).tail))) (driveE t l f m))) := by
  have HC := Lib.hid (fun W h => checkDrive_any t A n cap l hn f B m cap' W h)
  have e0 : Ext w ((w.alloc (.cells #[.int .i64 t, .slice A n cap] 24)).alloc (.cells #[.int .i64 f, .slice B m cap'] 27)) := (Ext.alloc _ _).trans (Ext.alloc _ _)
  have FA := Lib.hid (show ∀ W : World, Ext ((w.alloc (.cells #[.int .i64 t, .slice A n cap] 24)).alloc (.cells #[.int .i64 f, .slice B m cap'] 27)) W →
      W.cell? ⟨w.heap.size, 0, none⟩ = some (.int .i64 t) ∧ W.cell? ⟨w.heap.size, 1, none⟩ = some (.slice A n cap) ∧ W.cell? ⟨w.heap.size + 1, 0, none⟩ = some (.int .i64 f) ∧ W.cell? ⟨w.heap.size + 1, 1, none⟩ = some (.slice B m cap') from
    fun W hx => ⟨hx.cell (by go_simp), hx.cell (by go_simp), hx.cell (by go_simp), hx.cell (by go_simp)⟩)
  have HS := Lib.hid hS
  have E0 := Lib.hid e0
  by_cases hq : driveE t l f m = 0
  · obtain ⟨⟨_, ⟨h1, h4⟩, hok⟩, hf, hml⟩ := (driveE_zero t l f m).1 hq
    obtain rfl : n = m := by rw [hml, hn]
    rw [hn] at h1 h4
    have HV := Lib.hid (fun W (e : Ext w W) => show Calls Try.prog 89 #[.agg #[.int .i64 t, .slice A n cap], .agg #[.int .i64 f, .slice B n cap']] W (VPost W (VsV n (volts f hot l))) from
      (callsIn_wide.1 (voltagesOf_in t A n cap l hn f B cap' hot hm W (hS.ext e) (hH.ext e) hok hf h1 h4)).mono fun e w' ⟨g, c, h1, h2, h3, h4, h5, _⟩ => ⟨_, h1, h3, g, c, rfl, h5, h2⟩)
    have hvl := volts_len f hot l
    have hvb := volts_small (hot := hot) hok hf (by omega)
    have HCU := Lib.hid (fun W u (e : Ext w W) (h : VsV n (volts f hot l) u W) => show Calls Try.prog 90 #[.agg #[.int .i64 t, .slice A n cap], u] W (VPost W (GsV (curr l (volts f hot l).tail))) from by
      obtain ⟨g, c, rfl, hc, hr⟩ := h
      refine (callsIn_wide.1 (currentsOf_in9 t A n cap l hn g c (volts f hot l) (by rw [hvl, hn]) W (hS.ext e) hr hc hok (fun z hz => by
        obtain ⟨i, hi⟩ := List.mem_iff_getElem?.1 hz
        exact bd_mono (hvb (i + 1) z (by simpa using hi)) (by decide)) h1 h4)).mono ?_
      rintro e' w' ⟨g', c', cu, h1, h2, _, h4⟩
      have hcl : (curr l (volts f hot l).tail).length = n := by rw [curr_len l _ (by simp [hvl]), hn]
      exact ⟨_, h1, h4, _, c', by rw [hcl], h2⟩)
    have HQ := Lib.hid hq
    rw [hq] at HC
    clear hok hf hml hvl hvb hn hm hS hH e0
    generalize volts f hot l = vs at *
    have HQ0 := Lib.hid (show driveE t l f n = 0 from hq)
    rw [hq]
    clear hq
    go_enter Try.func33, Try.ntmps33
    go_wp2_with (go_at_call 20; refine (HC.out _ (HS.out.ext E0.out)).mono ?_; rintro e W1 ⟨rfl, hx1⟩; obtain ⟨z0, z1, z2, z3⟩ := FA.out _ hx1; have X1 := Lib.hid (E0.out.trans hx1); clear hx1)
    refine wp_region_each [some 13, some 14, some 15, some 16, some 17, some 4, some 5] [[2], [2], [3], [14, 15], [13, 16], [17], []]
      [Is (.agg #[.int .i64 (t), .slice A n cap]), Is (.agg #[.int .i64 (t), .slice A n cap]), Is (.agg #[.int .i64 (f), .slice B n cap']), VsV n vs, GsV (curr l vs.tail), GsV (curr l vs.tail), Is (.int .i64 (0))]
      (by kernel_rfl) (by kernel_rfl) (by kernel_rfl) (by kernel_rfl) (by kernel_rfl) Ext (fun W => Ext W1 W)
      (fun W _ => Ext.refl W) (fun W W' h k => h.trans k) ?_ (Ext.drew _) ?_ ?_
    · repeat (refine ⟨fun _ _ _ _ k h => (by first | exact h | exact (by first | exact VsV.ext h k | exact GsV.ext h k)), ?_⟩)
      exact trivial
    · refine ⟨?_, ?_, ?_, ?_, ?_, ?_, ?_, trivial⟩
      all_goals intro ρ W ⟨kc, kg, kf⟩ hF hs
      · obtain ⟨h0, -⟩ := hs
        replace h0 : ρ (.tmp 2) = .pointer (some ⟨w.heap.size, 0, none⟩) := h0
        have hc0 : W.cell? ⟨w.heap.size, 0, none⟩ = some (.int .i64 (t)) := hF.cell (by assumption)
        have hc1 : W.cell? ⟨w.heap.size, 1, none⟩ = some (.slice A n cap) := hF.cell (by assumption)
        go_simp
        exact ⟨Ext.refl _, rfl⟩
      · obtain ⟨h0, -⟩ := hs
        replace h0 : ρ (.tmp 2) = .pointer (some ⟨w.heap.size, 0, none⟩) := h0
        have hc0 : W.cell? ⟨w.heap.size, 0, none⟩ = some (.int .i64 (t)) := hF.cell (by assumption)
        have hc1 : W.cell? ⟨w.heap.size, 1, none⟩ = some (.slice A n cap) := hF.cell (by assumption)
        go_simp
        exact ⟨Ext.refl _, rfl⟩
      · obtain ⟨h0, -⟩ := hs
        replace h0 : ρ (.tmp 3) = .pointer (some ⟨w.heap.size + 1, 0, none⟩) := h0
        have hc0 : W.cell? ⟨w.heap.size + 1, 0, none⟩ = some (.int .i64 (f)) := hF.cell (by assumption)
        have hc1 : W.cell? ⟨w.heap.size + 1, 1, none⟩ = some (.slice B n cap') := hF.cell (by assumption)
        go_simp
        exact ⟨Ext.refl _, rfl⟩
      · obtain ⟨h0, h1, -⟩ := hs
        replace h0 : ρ (.tmp 14) = .agg #[.int .i64 (t), .slice A n cap] := h0
        replace h1 : ρ (.tmp 15) = .agg #[.int .i64 (f), .slice B n cap'] := h1
        go_simp
        exact HV.out W (X1.out.trans hF)
      · obtain ⟨h0, h1, -⟩ := hs
        replace h0 : ρ (.tmp 13) = .agg #[.int .i64 (t), .slice A n cap] := h0
        replace h1 : (VsV n vs) (ρ (.tmp 16)) W := h1
        go_simp
        exact HCU.out W _ (X1.out.trans hF) h1
      · obtain ⟨h0, -⟩ := hs
        replace h0 : (GsV (curr l vs.tail)) (ρ (.tmp 17)) W := h0
        go_simp
        first | exact ⟨Ext.refl _, h0⟩ | exact Ext.refl _
      · go_simp
        exact ⟨Ext.refl _, rfl⟩
    · intro fv W2 hF hs
      obtain ⟨-, -, -, -, -, h4', h5, -⟩ := hs
      replace h4' : (GsV (curr l vs.tail)) (fv 4) W2 := h4'
      replace h5 : fv 5 = .int .i64 (0) := h5
      simp only [fin, List.filterMap]
      go_simp
      have HG := Lib.hid h4'
      have X2 := Lib.hid (X1.out.trans hF)
      clear h4' hF z0 z1 z2 z3
      go_wp2
      go_ret2
      exact ⟨_, rfl, X2.out, _, rfl, fun h => absurd rfl h, fun _ => HG.out⟩
  · have HQ := Lib.hid hq
    have hq' : (driveE t l f m != 0) = true := by simp [hq]
    clear hq hn hm hS hH e0
    generalize driveE t l f m = q at *
    go_enter Try.func33, Try.ntmps33
    go_wp2_with (go_at_call 20; refine (HC.out _ (HS.out.ext E0.out)).mono ?_; rintro e w' ⟨rfl, hx⟩)
    go_ret2
    exact ⟨_, rfl, E0.out.trans hx, _, rfl, fun _ => rfl, fun h => absurd h HQ.out⟩

/-- A voltage with a part that is too large. -/
def outG (z : G) : Bool := outB (-1000000000) 1000000000 z.re || outB (-1000000000) 1000000000 z.im
/-- The error of voltages. -/
def volE (n : Nat) (zs : List G) : Int := if zs.length ≠ n + 1 then 10 else if zs.any outG = true then 2 else if zs.getD n ⟨0, 0⟩ ≠ ⟨1, 0⟩ then 3 else 0

theorem outG_range (z : G) : rangeE (-1000000000) 1000000000 [z.re, z.im] = if outG z = true then 2 else 0 := by
  simp [rangeE, errIf, outG]

set_option maxRecDepth 100000 in
set_option maxHeartbeats 2000000 in
theorem voltagesError_any (t : Int) (A : Option Addr) (n cap : Nat) (C : Option Addr) (M cz : Nat) (zs : List G) (hM : zs.length = M) (hn8 : n ≤ 8) (w : World) (hZ : RowsAt 2 G.enc w C zs) :
    Calls Try.prog 91 #[.agg #[.int .i64 t, .slice A n cap], .slice C M cz] w fun e w' => e = .returned (.int .i64 (volE n zs)) ∧ Ext w w' := by
  have e0 := Ext.alloc w (.cells #[.int .i64 t, .slice A n cap] 24)
  have E0 := Lib.hid e0
  have hMb : M ≤ 1152921504606846976 := by have := hZ.1; omega
  have HZ := Lib.hid hZ
  have HM := Lib.hid hM
  have HV := Lib.hid (show volE n zs = if zs.length ≠ n + 1 then 10 else if zs.any outG = true then 2 else if zs.getD n ⟨0, 0⟩ ≠ ⟨1, 0⟩ then 3 else 0 from rfl)
  clear hZ e0
  by_cases h1 : M = n + 1
  · subst h1
    have HV1 := Lib.hid (show volE n zs = if zs.any outG = true then 2 else if zs.getD n ⟨0, 0⟩ ≠ ⟨1, 0⟩ then 3 else 0 by rw [HV.out, if_neg (by simp [hM])])
    clear hM HV
    generalize volE n zs = r at *
    go_enter Try.func91, Try.ntmps91
    go_wp2
    generalize hW0 : w.alloc (.cells #[.int .i64 t, .slice A n cap] 24) = W0 at *
    clear hW0
    go_loopw [17] (fun i wr => ∃ k : Nat, k ≤ n + 1 ∧ i = .int .i64 k ∧ (∀ z ∈ zs.take k, outG z = false) ∧ Ext W0 wr) (fun i _ => n + 1 - (intOf i).toNat)
    case atStart => exact ⟨0, Nat.zero_le _, rfl, by simp, Ext.refl _⟩
    case round =>
      obtain ⟨k, hk, rfl, hr, hx⟩ := hrel
      have HR := Lib.hid hr
      have HX := Lib.hid hx
      clear hr hx
      by_cases hlt : k < n + 1
      · obtain ⟨z, hz⟩ : ∃ z, zs[k]? = some z := ⟨_, List.getElem?_eq_getElem (by rw [HM.out]; exact hlt)⟩
        obtain ⟨b, o, hC, _, hc⟩ := HZ.out.2 k z hz
        subst hC
        have hc1 : wr.cell? ⟨b, o + k * 2, none⟩ = some (.int .i64 z.re) := (E0.out.trans HX.out).cell (by have := hc 0 _ rfl; simpa using this)
        have hc2 : wr.cell? ⟨b, o + k * 2 + 1, none⟩ = some (.int .i64 z.im) := (E0.out.trans HX.out).cell (hc 1 _ rfl)
        have HO := Lib.hid (outG_range z)
        have HZK := Lib.hid hz
        have hki : (k : Int) < (n : Int) + 1 := by omega
        clear hz hc
        cases hb : outG z
        · have HB := Lib.hid hb
          rw [hb] at HO
          clear hb
          have HO0 := Lib.hid (show rangeE (-1000000000) 1000000000 [z.re, z.im] = 0 by rw [HO.out]; rfl)
          generalize hzr : z.re = zr at *
          generalize hzi : z.im = zi at *
          clear hzr hzi
          go_wp2_with (go_at_call 84; refine (rangeError_any (-1000000000) 1000000000 _ [zr, zi] _ (ints_two (Blk.newAt _ 3 #[.int .i64 zr, .int .i64 zi] (by simp)))).mono ?_; rintro e W2 ⟨rfl, hx2⟩; rw [HO0.out]; have HX2 := Lib.hid hx2; clear hx2)
          go_roundw
          case rel => exact ⟨k + 1, by omega, by go_num, by
            intro y hy
            rw [List.take_add_one, HZK.out] at hy
            rcases List.mem_append.1 hy with h | h
            · exact HR.out y h
            · simp at h; rw [h]; exact HB.out, HX.out.trans (((Ext.alloc _ _).trans (Ext.alloc _ _)).trans HX2.out)⟩
          case measure => simp [intOf]; omega
        · have HA := Lib.hid (show zs.any outG = true from List.any_eq_true.2 ⟨z, List.mem_of_getElem? HZK.out, hb⟩)
          rw [hb] at HO
          clear hb
          have HO0 := Lib.hid (show rangeE (-1000000000) 1000000000 [z.re, z.im] = 2 by rw [HO.out]; rfl)
          generalize hzr : z.re = zr at *
          generalize hzi : z.im = zi at *
          clear hzr hzi
          go_wp2_with (go_at_call 84; refine (rangeError_any (-1000000000) 1000000000 _ [zr, zi] _ (ints_two (Blk.newAt _ 3 #[.int .i64 zr, .int .i64 zi] (by simp)))).mono ?_; rintro e W2 ⟨rfl, hx2⟩; rw [HO0.out]; have HX2 := Lib.hid hx2; clear hx2)
          go_ret
          exact ⟨ret_int (by rw [HV1.out, if_pos HA.out]), E0.out.trans (HX.out.trans (((Ext.alloc _ _).trans (Ext.alloc _ _)).trans HX2.out))⟩
      · have HNA := Lib.hid (show zs.any outG = false by
          rw [List.any_eq_false]; intro y hy
          rw [HR.out y (by rw [List.take_of_length_le (by rw [HM.out]; omega)]; exact hy)]; decide)
        obtain ⟨z, hz⟩ : ∃ z, zs[n]? = some z := ⟨_, List.getElem?_eq_getElem (by rw [HM.out]; omega)⟩
        obtain ⟨b, o, hC, _, hc⟩ := HZ.out.2 n z hz
        subst hC
        have hc1 : wr.cell? ⟨b, o + n * 2, none⟩ = some (.int .i64 z.re) := (E0.out.trans HX.out).cell (by have := hc 0 _ rfl; simpa using this)
        have hc2 : wr.cell? ⟨b, o + n * 2 + 1, none⟩ = some (.int .i64 z.im) := (E0.out.trans HX.out).cell (hc 1 _ rfl)
        have HZN := Lib.hid (show zs.getD n ⟨0, 0⟩ = z by rw [List.getD, hz]; rfl)
        have hni : (n : Int) < (n : Int) + 1 := by omega
        clear hz hc
        obtain ⟨zr, zi⟩ := z
        by_cases hzz : zr = 1 ∧ zi = 0
        · have HR2 := Lib.hid (show r = 0 by rw [HV1.out, HNA.out, if_neg (by simp), HZN.out, if_neg (by simp [hzz.1, hzz.2])])
          obtain ⟨rfl, rfl⟩ := hzz
          go_wp2_with (go_at_call 85; refine (errorIf_any _ _ _).mono ?_; rintro e w' ⟨rfl, rfl⟩)
          go_ret
          exact ⟨ret_int (by rw [HR2.out]; rfl), E0.out.trans HX.out⟩
        · have HR2 := Lib.hid (show r = 3 by rw [HV1.out, HNA.out, if_neg (by simp), HZN.out, if_pos (by simp; exact fun h => fun h' => hzz ⟨h, h'⟩)])
          by_cases h1 : zr = 1
          · subst h1
            have hxy' : (zi == 0) = false := by rw [beq_eq_false_iff_ne]; exact fun h => hzz ⟨rfl, h⟩
            clear hzz
            go_wp2_with (go_at_call 85; refine (errorIf_any _ _ _).mono ?_; rintro e w' ⟨rfl, rfl⟩)
            go_ret
            exact ⟨ret_int (by rw [HR2.out]; rfl), E0.out.trans HX.out⟩
          · have hxy' : (zr == 1) = false := by rw [beq_eq_false_iff_ne]; exact h1
            clear hzz
            go_wp2_with (go_at_call 85; refine (errorIf_any _ _ _).mono ?_; rintro e w' ⟨rfl, rfl⟩)
            go_ret
            exact ⟨ret_int (by rw [HR2.out]; rfl), E0.out.trans HX.out⟩
  · have HR := Lib.hid (show volE n zs = 10 by rw [HV.out, if_pos (by rw [hM]; exact h1)])
    have hb : ((M : Int) != ((n : Int) + 1)) = true := by simp; omega
    clear hM h1 HV
    generalize volE n zs = r at *
    go_enter Try.func91, Try.ntmps91
    go_wp2
    go_ret
    exact ⟨ret_int HR.out.symm, E0.out⟩

end Go.Proofs.Ytpaoeghdfeekoaa
