/- FieldClasses: the reference's Ranges. -/
import Derived.Test.YtpaoeghdfeekoaaK42
import Derived.Test.YtpaoeghdfeekoaaK43
namespace Go.Proofs.Ytpaoeghdfeekoaa
open Go.RowKit Go.Shelf Go.Mem Go.RegInv
attribute [local go_sem] RelUpon_value RelUpon_skip RelUpon_enter BigFrame.eval_const BigFrame.eval_global BigFrame.eval_func

def WtV (n base : Nat) (ws : List Int) : Value → World → Prop := fun u W => ∃ (g c : Nat) (cu : Array Value), u = .slice (some ⟨g, 0, none⟩) n c ∧ base ≤ g ∧ Blk W g 3 cu ∧ ∀ (i : Nat) (x : Int), ws[i]? = some x → cu[i]? = some (Value.int .i64 x)
theorem WtV.ext {n base : Nat} {ws : List Int} {u : Value} {W W' : World} (h : WtV n base ws u W) (e : Ext W W') : WtV n base ws u W' := by
  obtain ⟨g, c, cu, h1, h2, h3, h4⟩ := h; exact ⟨g, c, cu, h1, h2, h3.ext e, h4⟩
def PrR (x : Int) : Value → World → Prop := fun u W => ∃ b, u = .slice (some ⟨b, 0, none⟩) 1 1 ∧ Blk W b 132 #[.int .i64 x, .int .i64 x]
theorem PrR.ext {x : Int} {u : Value} {W W' : World} (h : PrR x u W) (e : Ext W W') : PrR x u W' := by
  obtain ⟨b, h1, h2⟩ := h; exact ⟨b, h1, h2.ext e⟩
/-- The ranges so far: none ahead of the first ladder. -/
def OutR (n base j : Nat) (L : List G) (u : Value) (W : World) : Prop := (j = 0 ∧ u = .slice none 0 0) ∨ (1 ≤ j ∧ ∃ (g c : Nat) (cu : Array Value), u = .slice (some ⟨g, 0, none⟩) n c ∧ base ≤ g ∧ Blk W g 132 cu ∧ RowsIs cu n L)
theorem own_blk2 {W : World} {base n c : Nat} {R : Option Addr} {gs : List Int} (hl : gs.length = n) (h1 : 1 ≤ n) (h : W.ownsRow base 132 2 (.slice R n c) n (oneRows gs)) : ∃ (g : Nat) (cu : Array Value), R = some ⟨g, 0, none⟩ ∧ base ≤ g ∧ Blk W g 132 cu ∧ RowsIs cu n (gs.map fun x => ⟨x, x⟩) := by
  have hg : ∀ l : List Int, (oneRows l).length = l.length * 2 := by
    intro l; induction l with
    | nil => rfl
    | cons s l ih => rw [show oneRows (s :: l) = [.int .i64 s, .int .i64 s] ++ oneRows l from rfl, List.length_append, ih]; simp; omega
  have hat : ∀ (l : List Int) (i : Nat) (x : Int), l[i]? = some x → (oneRows l)[i * 2]? = some (Value.int .i64 x) ∧ (oneRows l)[i * 2 + 1]? = some (Value.int .i64 x) := by
    intro l; induction l with
    | nil => intro i x h; simp at h
    | cons s l ih =>
      intro i x h
      rw [show oneRows (s :: l) = .int .i64 s :: .int .i64 s :: oneRows l from rfl]
      cases i with
      | zero => obtain rfl : s = x := by simpa using h
                exact ⟨rfl, rfl⟩
      | succ i =>
        obtain ⟨a, b⟩ := ih i x (by simpa using h)
        rw [show (i + 1) * 2 = i * 2 + 1 + 1 by omega]
        exact ⟨by simpa using a, by simpa using b⟩
  rcases h.2 with ⟨he, _⟩ | ⟨g, cap, cu, he, hb, hh, hc, _, hs, ht⟩
  · simp at he; omega
  · simp only [Value.slice.injEq] at he
    obtain ⟨rfl, -, -⟩ := he
    have h2 := congrArg List.length ht
    rw [List.length_take, hg, hl] at h2
    simp at h2
    refine ⟨g, cu, rfl, hb, hh, by omega, fun i r hr => ?_⟩
    rw [List.getElem?_map] at hr
    obtain ⟨x, hx, rfl⟩ := Option.map_eq_some_iff.1 hr
    obtain ⟨a, b⟩ := hat gs i x hx
    have hi := (List.getElem?_eq_some_iff.1 hx).1
    rw [← ht, List.getElem?_take, if_pos (by omega)] at a b
    exact ⟨by simpa using a, by simpa using b⟩
theorem oneRows_at : ∀ (l : List Int) (i : Nat) (x : Int), l[i]? = some x → (oneRows l)[i * 2]? = some (Value.int .i64 x) ∧ (oneRows l)[i * 2 + 1]? = some (Value.int .i64 x) := by
  intro l; induction l with
  | nil => intro i x h; simp at h
  | cons s l ih =>
    intro i x h
    rw [show oneRows (s :: l) = .int .i64 s :: .int .i64 s :: oneRows l from rfl]
    cases i with
    | zero => obtain rfl : s = x := by simpa using h
              exact ⟨rfl, rfl⟩
    | succ i =>
      obtain ⟨a, b⟩ := ih i x (by simpa using h)
      rw [show (i + 1) * 2 = i * 2 + 1 + 1 by omega]
      exact ⟨by simpa using a, by simpa using b⟩
/-- A cell of one's own row that is given what it holds. -/
theorem own_same {W : World} {base n c g i : Nat} {xs : List Value} {v : Value} (h : W.ownsRow base 132 2 (.slice (some ⟨g, 0, none⟩) n c) n xs) (hi : xs[i]? = some v) : (W.setCell ⟨g, i, none⟩ v).ownsRow base 132 2 (.slice (some ⟨g, 0, none⟩) n c) n xs := by
  rcases h.2 with ⟨he, h2⟩ | ⟨g', cap, cu, he, hb, hh, hc, h5, hs, ht⟩
  · cases he
  · have he' := he
    simp only [Value.slice.injEq, Option.some.injEq, Addr.mk.injEq] at he'
    obtain ⟨⟨rfl, -, -⟩, -, -⟩ := he'
    refine ⟨h.1, .inr ⟨g, cap, cu, he, hb, ?_, hc, h5, hs, ht⟩⟩
    have hl := (List.getElem?_eq_some_iff.1 hi).1
    have hcu : cu[i]? = some v := by
      rw [← ht, List.getElem?_take] at hi
      split at hi
      · simpa using hi
      · cases hi
    have := Blk.setSame hh i v
    have hcc : cu.setIfInBounds i v = cu := by
      refine Array.ext_getElem? fun j => ?_
      by_cases hj : i = j
      · subst hj
        have := (Array.getElem?_eq_some_iff.1 hcu).1
        rw [Array.getElem?_setIfInBounds_self_of_lt this, hcu]
      · rw [Array.getElem?_setIfInBounds_ne hj]
    rw [hcc] at this
    exact this
theorem ranges_first {total f : Int} {hot : List Bool} {n : Nat} {M : List (List Sh)} {x : List Sh} (hm : M[0]? = some x) (hw : ∀ (i : Nat) (w : Int), (wattsL total (powers f hot x) n)[i]? = some w → 0 ≤ w ∧ w ≤ total) : rangesK total f hot n M 1 = (wattsL total (powers f hot x) n).map fun w => ⟨w, w⟩ := by
  rw [← ranges_one hw, show (1 : Nat) = 0 + 1 from rfl, rangesK_succ hm, rangesK_succ (M := [x]) (j := 0) rfl]
  rfl

set_option maxRecDepth 100000 in
set_option maxHeartbeats 16000000 in
theorem refRanges_any (t : Int) (A : Option Addr) (n ca : Nat) (ls : List Sh) (hn : ls.length = n) (R : Option Addr) (cr : Nat) (rs : List G) (hr : rs.length = n) (f : Int) (B : Option Addr) (cb : Nat) (hot : List Bool) (hh : hot.length = n) (total : Int) (w : World)
    (hS : RowsAt 3 Sh.enc w A ls) (hR : RowsAt 2 G.enc w R rs) (hB : RowsAt 1 boolEnc w B hot) (hAn : A = none → ca = 0) (h1 : 1 ≤ n) (h4 : n ≤ 4) (hrs : ∀ r ∈ rs, 1 ≤ r.re ∧ r.re ≤ r.im ∧ r.im ≤ 4) (hok : ∀ s ∈ ls, shOK s) (hf : 1 ≤ f ∧ f ≤ 8) (htot : 0 ≤ total ∧ total ≤ 100000) :
    Calls Try.prog 78 #[.agg #[.int .i64 t, .slice A n ca, .slice R n cr], .agg #[.int .i64 f, .slice B n cb], .int .i64 total] w fun e w' => ∃ g c cu, e = .returned (.slice (some ⟨g, 0, none⟩) n c) ∧ Blk w' g 132 cu ∧ RowsIs cu n (rangesK total f hot n (membersK ls rs n) (membersK ls rs n).length) ∧ Ext w w' := by
  obtain ⟨W0, hW0⟩ : ∃ W0, W0 = (w.alloc (.cells #[.int .i64 t, .slice A n ca, .slice R n cr] 120)).alloc (.cells #[.int .i64 f, .slice B n cb] 27) := ⟨_, rfl⟩
  have k0 : Blk W0 w.heap.size 120 #[.int .i64 t, .slice A n ca, .slice R n cr] := by rw [hW0]; exact (Blk.new _ _ _).alloc _
  have k1 : Blk W0 (w.heap.size + 1) 27 #[.int .i64 f, .slice B n cb] := by rw [hW0]; exact Blk.newAt _ _ _ (by simp)
  have e0 : Ext w W0 := by rw [hW0]; exact (Ext.alloc _ _).trans (Ext.alloc _ _)
  have HOK := Lib.hid (members_ok ls rs hok hrs n)
  have HLEN := Lib.hid (membersK_len ls rs n hn hr n (Nat.le_refl _))
  have hszm := membersK_size ls rs n hn hr h4 hrs n (Nat.le_refl _)
  have hM1 : 1 ≤ (membersK ls rs n).length := hszm.1
  have hM2 : (membersK ls rs n).length ≤ 256 := by
    have h2 : 4 ^ n ≤ 4 ^ 4 := Nat.pow_le_pow_right (by decide) h4
    omega
  have HLD := Lib.hid (fun W (e : Ext w W) => refLadders_any t A n ca ls hn R cr rs hr W (hS.ext e) (hR.ext e) hAn h1 h4 hrs)
  have HB := Lib.hid hB
  have HH := Lib.hid hh
  have HF := Lib.hid hf
  have E0 := Lib.hid e0
  have Z0 := Lib.hid (fun W (e : Ext W0 W) => (⟨(k0.ext e).cell 0, (k0.ext e).cell 1, (k0.ext e).cell 2, (k1.ext e).cell 0, (k1.ext e).cell 1⟩ : W.cell? ⟨w.heap.size, 0, none⟩ = some (.int .i64 t) ∧ W.cell? ⟨w.heap.size, 1, none⟩ = some (.slice A n ca) ∧ W.cell? ⟨w.heap.size, 2, none⟩ = some (.slice R n cr) ∧ W.cell? ⟨w.heap.size + 1, 0, none⟩ = some (.int .i64 f) ∧ W.cell? ⟨w.heap.size + 1, 1, none⟩ = some (.slice B n cb)))
  obtain ⟨z0, z1, z2, -, -⟩ := Z0.out W0 (Ext.refl _)
  clear hS hR hB hn hr hh hf hrs hok k0 k1 e0 hAn hszm
  generalize membersK ls rs n = M at *
  go_enter Try.func78, Try.ntmps78
  go_wp2_with (rw [← hW0]; clear hW0; go_at_call 124; refine (HLD.out _ E0.out).mono ?_; rintro e W1 ⟨v, rfl, hlb, hx1⟩; obtain ⟨bM, cM, cuM, rfl, hkM, hpM⟩ := hlb; have LB := Lib.hid (show LadsB (fun _ => True) W1 t (.slice (some ⟨bM, 0, none⟩) M.length cM) M from ⟨bM, cM, cuM, rfl, hkM, hpM⟩); have X1 := Lib.hid hx1; clear hx1 z0 z1 z2 hkM hpM)
  go_loopw [9, 8] (fun i v wr => ∃ (j : Nat) (u : Value), j ≤ M.length ∧ i = .int .i64 j ∧ u = v ∧ OutR n W0.heap.size j (rangesK total f hot n M j) u wr ∧ LadsB (fun _ => True) wr t (.slice (some ⟨bM, 0, none⟩) M.length cM) M ∧ Ext W0 wr) (fun i _ _ => M.length - (intOf i).toNat)
  case atStart => exact ⟨0, _, Nat.zero_le _, rfl, rfl, .inl ⟨rfl, rfl⟩, LB.out, X1.out⟩
  case round =>
    obtain ⟨j, v8, hj, rfl, rfl, hout, hlb, hx⟩ := hrel
    by_cases hlt : j < M.length
    · obtain ⟨x, hxM⟩ : ∃ x, M[j]? = some x := ⟨_, List.getElem?_eq_getElem hlt⟩
      have hxn := HLEN.out x (List.mem_of_getElem? hxM)
      have hxok := HOK.out x (List.mem_of_getElem? hxM)
      have HOUT := Lib.hid hout
      have HLB := Lib.hid hlb
      have HX := Lib.hid hx
      obtain ⟨b', c', cuM', e', hkM, hpM⟩ := hlb
      obtain ⟨rfl, rfl⟩ : bM = b' ∧ cM = c' := by simpa using e'
      obtain ⟨hp0, Ai, ci, hp1, -, hlp⟩ := hpM j x hxM
      rw [hxn] at hp1
      have c0 : wr.cell? ⟨bM, j * 2, none⟩ = some (.int .i64 t) := by rw [hkM.cell]; exact hp0
      have c1 : wr.cell? ⟨bM, j * 2 + 1, none⟩ = some (.slice Ai n ci) := by rw [hkM.cell]; exact hp1
      have okp := powers_ok (hot := hot) hxok HF.out (by rw [hxn]; exact h1) (by rw [hxn]; exact h4)
      have hnn : ∀ y ∈ powers f hot x, 0 ≤ y := fun y hy => by
        obtain ⟨i, hi⟩ := List.mem_iff_getElem?.1 hy
        exact (power_bd hxok HF.out (by rw [hxn]; exact h4) i y hi).1
      have hww := fun (i : Nat) (y : Int) (h : (wattsL total (powers f hot x) n)[i]? = some y) => watts_within htot okp hnn h
      have HRF := Lib.hid (show j = 0 → rangesK total f hot n M (j + 1) = (wattsL total (powers f hot x) n).map fun w => ⟨w, w⟩ from fun h => by subst h; exact ranges_first hxM hww)
      have H50 := Lib.hid (fun W (e : Ext wr W) => show Calls Try.prog 50 #[.agg #[.int .i64 t, .slice Ai n ci], .agg #[.int .i64 f, .slice B n cb], .int .i64 total] W (VPost W (WtV n wr.heap.size (wattsL total (powers f hot x) n))) from
        (refWatts_own t Ai n ci x hxn f B cb hot HH.out total W (hlp.1.1.ext e) (HB.out.ext (E0.out.trans (hx.trans e))) hxok HF.out h1 h4 htot).mono fun _ _ ⟨v, h2, h3, h5⟩ => by
          obtain ⟨g, c, cu, h6, h7, h8, _, _, h9⟩ := own_blk (wattsL_len _ _ _) h1 h3
          exact ⟨v, h2, h5, g, c, cu, h6, Nat.le_trans e.size h7, h8, h9⟩)
      have HRL := Lib.hid (rangesK_len total f hot n M j hj)
      have HRS := Lib.hid (rangesK_succ (total := total) (f := f) (hot := hot) (n := n) hxM)
      have HWL := Lib.hid (wattsL_len total (powers f hot x) n)
      obtain ⟨-, -, -, z3, z4⟩ := Z0.out wr hx
      have hji : (j : Int) < (M.length : Int) := by omega
      clear hxn hxok hout hx hxM e' hkM hpM hp0 hp1 hlp okp hnn hww
      obtain ⟨Rn, hRn⟩ : ∃ Rn, rangesK total f hot n M (j + 1) = Rn := ⟨_, rfl⟩
      have HRN1 := Lib.hid hRn
      rw [hRn] at HRF HRS
      clear hRn
      obtain ⟨Rj, hRj⟩ : ∃ Rj, rangesK total f hot n M j = Rj := ⟨_, rfl⟩
      rw [hRj] at HOUT HRL HRS
      clear hRj
      generalize wattsL total (powers f hot x) n = ws at *
      go_wp2
      refine wp_region_each [some 20, some 21, some 22, some 23, some 24, some 25, some 26, some 10] [[7], [9], [20, 21], [22], [4], [2], [23, 24, 25], [26]]
        [Is (.slice (some ⟨bM, 0, none⟩) M.length cM), Is (.int .i64 ((j : Int))), Is (.pointer (some ⟨bM, j * 2, none⟩)), Is (.agg #[.int .i64 (t), .slice Ai n ci]), Is (.agg #[.int .i64 (f), .slice B n cb]), Is (.int .i64 (total)), WtV n wr.heap.size ws, WtV n wr.heap.size ws]
        (by kernel_rfl) (by kernel_rfl) (by kernel_rfl) (by kernel_rfl) (by kernel_rfl) Ext (fun W => Ext wr W)
        (fun W _ => Ext.refl W) (fun W W' h k => h.trans k) ?_ (Ext.drew _) ?_ ?_
      · repeat (refine ⟨fun _ _ _ _ k h => (by first | exact h | exact (by first | exact WtV.ext h k)), ?_⟩)
        exact trivial
      · refine ⟨?_, ?_, ?_, ?_, ?_, ?_, ?_, ?_, trivial⟩
        all_goals intro ρ W ⟨kc, kg, kf⟩ hF hs
        · obtain ⟨h0, -⟩ := hs
          replace h0 : ρ (.tmp 7) = .slice (some ⟨bM, 0, none⟩) M.length cM := h0
          go_simp
          exact ⟨Ext.refl _, rfl⟩
        · obtain ⟨h0, -⟩ := hs
          replace h0 : ρ (.tmp 9) = .int .i64 ((j : Int)) := h0
          go_simp
          exact ⟨Ext.refl _, rfl⟩
        · obtain ⟨h0, h1, -⟩ := hs
          replace h0 : ρ (.tmp 20) = .slice (some ⟨bM, 0, none⟩) M.length cM := h0
          replace h1 : ρ (.tmp 21) = .int .i64 ((j : Int)) := h1
          go_simp
          exact ⟨Ext.refl _, rfl⟩
        · obtain ⟨h0, -⟩ := hs
          replace h0 : ρ (.tmp 22) = .pointer (some ⟨bM, j * 2, none⟩) := h0
          have hc0 : W.cell? ⟨bM, j * 2, none⟩ = some (.int .i64 (t)) := hF.cell (by assumption)
          have hc1 : W.cell? ⟨bM, j * 2 + 1, none⟩ = some (.slice Ai n ci) := hF.cell (by assumption)
          go_simp
          exact ⟨Ext.refl _, rfl⟩
        · obtain ⟨h0, -⟩ := hs
          replace h0 : ρ (.tmp 4) = .pointer (some ⟨w.heap.size + 1, 0, none⟩) := h0
          have hc0 : W.cell? ⟨w.heap.size + 1, 0, none⟩ = some (.int .i64 (f)) := hF.cell (by assumption)
          have hc1 : W.cell? ⟨w.heap.size + 1, 1, none⟩ = some (.slice B n cb) := hF.cell (by assumption)
          go_simp
          exact ⟨Ext.refl _, rfl⟩
        · obtain ⟨h0, -⟩ := hs
          replace h0 : ρ (.tmp 2) = .int .i64 (total) := h0
          go_simp
          exact ⟨Ext.refl _, rfl⟩
        · obtain ⟨h0, h1, h2, -⟩ := hs
          replace h0 : ρ (.tmp 23) = .agg #[.int .i64 (t), .slice Ai n ci] := h0
          replace h1 : ρ (.tmp 24) = .agg #[.int .i64 (f), .slice B n cb] := h1
          replace h2 : ρ (.tmp 25) = .int .i64 (total) := h2
          go_simp
          exact H50.out W hF
        · obtain ⟨h0, -⟩ := hs
          replace h0 : (WtV n wr.heap.size ws) (ρ (.tmp 26)) W := h0
          go_simp
          first | exact ⟨Ext.refl _, h0⟩ | exact Ext.refl _
      · intro fv W4 hF hs
        obtain ⟨-, -, -, -, -, -, -, h10, -⟩ := hs
        replace h10 : (WtV n wr.heap.size ws) (fv 10) W4 := h10
        simp only [fin, List.filterMap]
        go_simp
        obtain ⟨g2, c2, cu2, hv10, hg2, hb2, hw2⟩ := h10
        rw [hv10]
        have B2 := Lib.hid hb2
        have HW := Lib.hid hw2
        have X4 := Lib.hid hF
        have LB4 := Lib.hid (HLB.out.ext hF)
        have hsz4 := hF.size
        have HXS := HX.out.size
        clear hv10 hb2 hw2 hF c0 c1 z3 z4 H50
        obtain ⟨wo, hwo⟩ : ∃ x, x = wr := ⟨_, rfl⟩
        subst hwo
        by_cases hj0 : j = 0
        · subst hj0
          obtain rfl : v8 = .slice none 0 0 := by
            rcases HOUT.out with ⟨_, h⟩ | ⟨h, _⟩
            · exact h
            · omega
          have hRn := HRF.out rfl
          have HRN := Lib.hid hRn
          have own0 : W4.ownsRow W4.heap.size 132 2 (.slice none 0 0) 0 (oneRows (ws.take 0)) := ⟨by simp [oneRows], .inl ⟨rfl, by simp⟩⟩
          have OWN0 := Lib.hid own0
          clear hRn own0
          go_wp2
          go_loopw [11, 8] (fun i v wr => ∃ (k : Nat) (u : Value), k ≤ n ∧ i = .int .i64 k ∧ u = v ∧ (∃ Rk ck, u = .slice Rk k ck ∧ wr.ownsRow W4.heap.size 132 2 (.slice Rk k ck) k (oneRows (ws.take k))) ∧ Ext W4 wr) (fun i _ _ => n - (intOf i).toNat)
          case atStart => exact ⟨0, _, Nat.zero_le _, rfl, rfl, ⟨none, 0, rfl, OWN0.out⟩, Ext.refl _⟩
          case round =>
            obtain ⟨k, u, hk, rfl, rfl, ⟨Rk, ck, rfl, hown⟩, hx⟩ := hrel
            have KO := Lib.hid hown
            have KX := Lib.hid hx
            by_cases hlt : k < n
            · obtain ⟨x, hxw⟩ : ∃ x, ws[k]? = some x := ⟨_, List.getElem?_eq_getElem (by rw [HWL.out]; exact hlt)⟩
              have c0 : wr.cell? ⟨g2, k, none⟩ = some (.int .i64 x) := by rw [(B2.out.ext hx).cell]; exact HW.out k x hxw
              have HXW := Lib.hid hxw
              have hki : (k : Int) < (n : Int) := by omega
              clear hown hx hxw
              go_wp2
              refine wp_region_partR 11 [some 35, some 36, some 37, some 38, some 39, some 40, some 41, some 42, some 43, some 44, some 45] [[8], [10], [11], [36, 37], [38], [10], [11], [40, 41], [42], [39, 43], [44]]
                [Is (.slice Rk k ck), Is (.slice (some ⟨g2, 0, none⟩) n c2), Is (.int .i64 ((k : Int))), Is (.pointer (some ⟨g2, k, none⟩)), Is (.int .i64 (x)), Is (.slice (some ⟨g2, 0, none⟩) n c2), Is (.int .i64 ((k : Int))), Is (.pointer (some ⟨g2, k, none⟩)), Is (.int .i64 (x)), Is (.agg #[.int .i64 x, .int .i64 x]), PrR x]
                (by kernel_rfl) (by kernel_rfl) (by kernel_rfl) (by kernel_rfl) (by kernel_rfl) (by kernel_rfl) (by kernel_rfl) Ext (fun W => Ext wr W)
                (fun W _ => Ext.refl W) (fun W W' h k => h.trans k) ?_ (Ext.drew _) ?_ ?_
              · repeat (refine ⟨fun _ _ _ _ k h => (by first | exact h | exact (by first | exact PrR.ext h k)), ?_⟩)
                exact trivial
              · refine ⟨?_, ?_, ?_, ?_, ?_, ?_, ?_, ?_, ?_, ?_, ?_, trivial⟩
                all_goals intro ρ W ⟨kc, kg, kf⟩ hF hs
                · obtain ⟨h0, -⟩ := hs
                  replace h0 : ρ (.tmp 8) = .slice Rk k ck := h0
                  go_simp
                  exact ⟨Ext.refl _, rfl⟩
                · obtain ⟨h0, -⟩ := hs
                  replace h0 : ρ (.tmp 10) = .slice (some ⟨g2, 0, none⟩) n c2 := h0
                  go_simp
                  exact ⟨Ext.refl _, rfl⟩
                · obtain ⟨h0, -⟩ := hs
                  replace h0 : ρ (.tmp 11) = .int .i64 ((k : Int)) := h0
                  go_simp
                  exact ⟨Ext.refl _, rfl⟩
                · obtain ⟨h0, h1, -⟩ := hs
                  replace h0 : ρ (.tmp 36) = .slice (some ⟨g2, 0, none⟩) n c2 := h0
                  replace h1 : ρ (.tmp 37) = .int .i64 ((k : Int)) := h1
                  go_simp
                  exact ⟨Ext.refl _, rfl⟩
                · obtain ⟨h0, -⟩ := hs
                  replace h0 : ρ (.tmp 38) = .pointer (some ⟨g2, k, none⟩) := h0
                  have hc0 : W.cell? ⟨g2, k, none⟩ = some (.int .i64 (x)) := hF.cell (by assumption)
                  go_simp
                  exact ⟨Ext.refl _, rfl⟩
                · obtain ⟨h0, -⟩ := hs
                  replace h0 : ρ (.tmp 10) = .slice (some ⟨g2, 0, none⟩) n c2 := h0
                  go_simp
                  exact ⟨Ext.refl _, rfl⟩
                · obtain ⟨h0, -⟩ := hs
                  replace h0 : ρ (.tmp 11) = .int .i64 ((k : Int)) := h0
                  go_simp
                  exact ⟨Ext.refl _, rfl⟩
                · obtain ⟨h0, h1, -⟩ := hs
                  replace h0 : ρ (.tmp 40) = .slice (some ⟨g2, 0, none⟩) n c2 := h0
                  replace h1 : ρ (.tmp 41) = .int .i64 ((k : Int)) := h1
                  go_simp
                  exact ⟨Ext.refl _, rfl⟩
                · obtain ⟨h0, -⟩ := hs
                  replace h0 : ρ (.tmp 42) = .pointer (some ⟨g2, k, none⟩) := h0
                  have hc0 : W.cell? ⟨g2, k, none⟩ = some (.int .i64 (x)) := hF.cell (by assumption)
                  go_simp
                  exact ⟨Ext.refl _, rfl⟩
                · obtain ⟨h0, h1, -⟩ := hs
                  replace h0 : ρ (.tmp 39) = .int .i64 (x) := h0
                  replace h1 : ρ (.tmp 43) = .int .i64 (x) := h1
                  go_simp
                  exact ⟨Ext.refl _, rfl⟩
                · obtain ⟨h0, -⟩ := hs
                  replace h0 : ρ (.tmp 44) = .agg #[.int .i64 x, .int .i64 x] := h0
                  go_simp
                  exact ⟨Ext.alloc _ _, W.heap.size, rfl, Blk.new _ _ _⟩
              · intro fv W5 hF hs
                obtain ⟨h35, -, -, -, -, -, -, -, -, -, h45, -⟩ := hs
                replace h35 : fv 35 = .slice Rk k ck := h35
                replace h45 : (PrR x) (fv 45) W5 := h45
                simp only [fin, List.filterMap]
                go_simp
                obtain ⟨bp, hv45, hbp⟩ := h45
                rw [hv45]
                have PB := Lib.hid hbp
                have XF := Lib.hid hF
                have hs5 : W4.heap.size ≤ W5.heap.size := (KX.out.trans hF).size
                clear hv45 hbp hF c0
                go_wp2_with
                  (refine append_pair (own_ext KO.out XF.out) (by omega) hs5 PB.out rfl (.tmp 35) (.tmp 45) rfl rfl rfl rfl ?_
                   intro R' c' w2 hown' hkb hxe hgs
                   have PO := Lib.hid hown'
                   have PX := Lib.hid (hxe W4 (KX.out.trans XF.out) (Nat.le_refl _))
                   clear hown' hkb hxe hgs)
                have htl : (ws.take (k + 1)).length = k + 1 := by rw [List.length_take, HWL.out]; omega
                have po := PO.out
                rw [← oneRows_snoc, ← take_snoc HXW.out] at po
                obtain ⟨g, cu, hg, hbg, hgb, hgr⟩ := own_blk2 htl (by omega) po
                subst hg
                obtain ⟨a1, a2⟩ := hgr.2 k ⟨x, x⟩ (by rw [List.getElem?_map, List.getElem?_take, if_pos (by omega), HXW.out]; rfl)
                have d1 : w2.cell? ⟨g, k * 2, none⟩ = some (.int .i64 x) := by rw [hgb.cell]; exact a1
                have d2 : w2.cell? ⟨g, k * 2 + 1, none⟩ = some (.int .i64 x) := by rw [hgb.cell]; exact a2
                have d3 : w2.cell? ⟨g2, k, none⟩ = some (.int .i64 x) := by rw [(B2.out.ext PX.out).cell]; exact HW.out k x HXW.out
                have f1 := hgb.free (k * 2)
                have f2 := hgb.free (k * 2 + 1)
                have hx1 : (oneRows (ws.take (k + 1)))[k * 2]? = some (.int .i64 x) ∧ (oneRows (ws.take (k + 1)))[k * 2 + 1]? = some (.int .i64 x) := oneRows_at _ k x (by rw [List.getElem?_take, if_pos (by omega)]; exact HXW.out)
                have p2 := own_same po hx1.1
                have p3 := own_same p2 hx1.2
                have P3 := Lib.hid p3
                have hk2 : (k : Int) < ((k + 1 : Nat) : Int) := by omega
                have hk3 : (k : Int) < (k : Int) + 1 := by omega
                have hmin : min x x = x := by omega
                have hmax : max x x = x := by omega
                clear hgb hgr a1 a2 po hx1 p2 p3 htl
                go_region
                go_wp2
                go_roundw
                case rel => exact ⟨k + 1, _, by omega, by go_num, rfl, ⟨_, c', rfl, by first | exact own_ext P3.out (Ext.drew _) | (rw [hmin, hmax]; exact own_ext P3.out (Ext.drew _))⟩, (Ext.set (Ext.set PX.out hbg _) hbg _).trans (Ext.drew _)⟩
                case measure => simp [intOf]; omega
            · obtain rfl : n = k := by omega
              have ho := KO.out
              rw [List.take_of_length_le (by rw [HWL.out]; omega)] at ho
              obtain ⟨g, cu, rfl, hbg, hgb, hgr⟩ := own_blk2 HWL.out h1 ho
              have NEW := Lib.hid (show OutR n W0.heap.size (0 + 1) Rn (.slice (some ⟨g, 0, none⟩) n ck) wr from .inr ⟨by omega, g, ck, cu, rfl, by omega, hgb, by rw [HRN.out]; exact hgr⟩)
              have LN := Lib.hid (LB4.out.ext KX.out)
              have XN := Lib.hid (HX.out.trans (X4.out.trans KX.out))
              clear hown hx ho hbg hgb hgr
              go_wp2
              go_roundw
              case rel => exact ⟨0 + 1, _, by omega, by go_num, rfl, by rw [HRN1.out]; exact NEW.out, LN.out, XN.out⟩
              case measure => simp [intOf]; omega
        · obtain ⟨g, c, cu, hv8, hgb, hbg, hro⟩ : ∃ (g c : Nat) (cu : Array Value), v8 = .slice (some ⟨g, 0, none⟩) n c ∧ W0.heap.size ≤ g ∧ Blk wo g 132 cu ∧ RowsIs cu n Rj := by
            rcases HOUT.out with ⟨h, _⟩ | ⟨_, h⟩
            · exact absurd h hj0
            · exact h
          subst hv8
          have hjb : ((j : Int) == 0) = false := by simp; omega
          have hg2' : g ≠ g2 := by have := hbg.lt; omega
          have BG := Lib.hid (hbg.ext X4.out)
          have RO := Lib.hid hro
          clear hbg hro HOUT HRF
          go_wp2
          go_loopw [11, 8] (fun i v wr => ∃ k : Nat, k ≤ n ∧ i = .int .i64 k ∧ v = .slice (some ⟨g, 0, none⟩) n c ∧ (∃ cu, Blk wr g 132 cu ∧ RowsIs cu n (midL Rj ws k)) ∧ Blk wr g2 3 cu2 ∧ LadsB (fun _ => True) wr t (.slice (some ⟨bM, 0, none⟩) M.length cM) M ∧ Ext W0 wr) (fun i _ _ => n - (intOf i).toNat)
          case atStart => exact ⟨0, Nat.zero_le _, rfl, rfl, ⟨cu, BG.out, by rw [mid_zero]; exact RO.out⟩, B2.out, LB4.out, HX.out.trans X4.out⟩
          case round =>
            obtain ⟨k, hk, rfl, rfl, ⟨cu', hb, hro⟩, hb2, hlb, hx⟩ := hrel
            by_cases hlt : k < n
            · obtain ⟨r, hr⟩ : ∃ r, Rj[k]? = some r := ⟨_, List.getElem?_eq_getElem (by rw [HRL.out]; exact hlt)⟩
              obtain ⟨y, hy⟩ : ∃ y, ws[k]? = some y := ⟨_, List.getElem?_eq_getElem (by rw [HWL.out]; exact hlt)⟩
              obtain ⟨a1, a2⟩ := hro.2 k r (by rw [mid_at HRL.out HWL.out (by omega), if_neg (by omega)]; exact hr)
              have hst := hro.step HRL.out HWL.out hlt hr hy
              have c0 : wr.cell? ⟨g, k * 2, none⟩ = some (.int .i64 r.re) := by rw [hb.cell]; exact a1
              have c1 : wr.cell? ⟨g, k * 2 + 1, none⟩ = some (.int .i64 r.im) := by rw [hb.cell]; exact a2
              have c2' : wr.cell? ⟨g2, k, none⟩ = some (.int .i64 y) := by rw [hb2.cell]; exact HW.out k y hy
              have f0 := hb.free (k * 2)
              have f1' := hb.free (k * 2 + 1)
              have hki : (k : Int) < (n : Int) := by omega
              have B1 := Lib.hid hb
              have B3 := Lib.hid hb2
              have LB5 := Lib.hid hlb
              have HX5 := Lib.hid hx
              have HST := Lib.hid hst
              clear hb hb2 hlb hx hst hro a1 a2 hr hy
              go_upto_region 12 with (fail)
              go_region
              go_wp2
              go_roundw
              case rel => exact ⟨k + 1, by omega, by go_num, rfl, ⟨_, ((B1.out.setSame (k * 2) (.int .i64 (min r.re y))).setSame (k * 2 + 1) (.int .i64 (max r.im y))).drew, HST.out⟩,
                ((B3.out.setOther (p := ⟨g, k * 2, none⟩) (fun e => hg2' e.symm) _).setOther (p := ⟨g, k * 2 + 1, none⟩) (fun e => hg2' e.symm) _).drew, lads_set LB5.out B1.out, (Ext.set (Ext.set HX5.out hgb _) hgb _).trans (Ext.drew _)⟩
              case measure => simp [intOf]; omega
            · obtain rfl : n = k := by omega
              have NEW := Lib.hid (show OutR n W0.heap.size (j + 1) Rn (.slice (some ⟨g, 0, none⟩) n c) wr from .inr ⟨by omega, g, c, cu', rfl, hgb, hb, by rw [HRS.out, ← mid_all HRL.out HWL.out]; exact hro⟩)
              have LN := Lib.hid hlb
              have XN := Lib.hid hx
              clear hb hb2 hlb hx hro
              go_wp2
              go_roundw
              case rel => exact ⟨j + 1, _, by omega, by go_num, rfl, by rw [HRN1.out]; exact NEW.out, LN.out, XN.out⟩
              case measure => simp [intOf]; omega
    · obtain rfl : M.length = j := by omega
      rcases hout with ⟨h, _⟩ | ⟨_, g, c, cu, rfl, _, hbg, hro⟩
      · omega
      · go_wp2
        go_ret
        exact ⟨g, c, cu, rfl, hbg, hro, E0.out.trans hx⟩
end Go.Proofs.Ytpaoeghdfeekoaa
