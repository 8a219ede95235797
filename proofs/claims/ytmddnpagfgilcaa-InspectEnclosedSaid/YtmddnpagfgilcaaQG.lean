/- Part 7 of what the row builds on. -/
import Derived.Test.YtmddnpagfgilcaaQF


namespace Go.Proofs.Ytmddnpagfgilcaa
open Go.RowKit Go.Shelf Go.Mem Go.RegInv
attribute [local go_sem] RelUpon_value RelUpon_skip RelUpon_enter BigFrame.eval_const BigFrame.eval_global BigFrame.eval_func

/-- A copy that is nobody else's. -/
def OwnC (n : Nat) (xs : List In) (b0 : Nat) : Value → World → Prop := fun v W => ∃ g c B, v = .agg #[.slice (some ⟨g, 0, none⟩) n c] ∧ b0 ≤ g ∧ W.ownsRow B 43 4 (.slice (some ⟨g, 0, none⟩) n c) n (xs.flatMap In.enc)
theorem OwnC.ext {n : Nat} {xs : List In} {b0 : Nat} {v : Value} {W W' : World} (h : OwnC n xs b0 v W) (k : Ext W W') : OwnC n xs b0 v W' := by
  obtain ⟨g, c, B, e, hg, ho⟩ := h
  exact ⟨g, c, B, e, hg, own_ext ho k⟩
def intEnc (z : Int) : List Value := [.int .i64 z]

set_option maxRecDepth 100000 in
set_option maxHeartbeats 8000000 in
theorem enc_main {b o b9 o9 : Nat} {n ca cb : Nat} {xs : List In} {pl : List Int} {w : World} (l0 l1 : Int) (hn : xs.length = n) (hr : RowsAt 4 In.enc w (some ⟨b, o, none⟩) xs) (hm : pl.length = n) (hp : RowsAt 1 intEnc w (some ⟨b9, o9, none⟩) pl) (hz : (checkT xs).2 = 0) (hl0 : 0 ≤ l0 ∧ l0 ≤ 2000) (hl1 : 0 ≤ l1 ∧ l1 ≤ 2000) (hl : l0 ≤ l1) : Calls Try.prog 4 #[.agg #[.slice (some ⟨b, o, none⟩) n ca], .slice (some ⟨b9, o9, none⟩) n cb, .agg #[.int .i64 l0, .int .i64 l1]] w fun e w' => e = .returned (.bool true) ∧ Ext w w' := by
  obtain ⟨m2, m20, hok⟩ := checkT_ok hz
  rw [hn] at m2 m20
  have hn1 : 1 ≤ n := by omega
  have HTE := Lib.hid (fun W (e : Ext w W) => show Calls Try.prog 25 #[.agg #[.slice (some ⟨b, o, none⟩) n ca]] W fun e w' => e = .returned (.int .i64 0) ∧ Ext W w' from by
    have := refTraverseErr_any (ca := ca) hn (by omega) (hr.ext e)
    rw [hz] at this
    exact this)
  have H0 := Lib.hid (fun W => show Calls Try.prog 23 #[.int .i64 l0] W fun e w' => e = .returned (.int .i64 0) ∧ W = w' from by
    have := refLimit_any l0 W
    rw [show hardB l0 = true by unfold hardB; rw [withinB_eq]; exact decide_eq_true hl0] at this
    exact this)
  have H1 := Lib.hid (fun W => show Calls Try.prog 23 #[.int .i64 l1] W fun e w' => e = .returned (.int .i64 0) ∧ W = w' from by
    have := refLimit_any l1 W
    rw [show hardB l1 = true by unfold hardB; rw [withinB_eq]; exact decide_eq_true hl1] at this
    exact this)
  have HCO := Lib.hid (fun W (e : Ext w W) => copyTraverse_own (ca := ca) hn (hr.ext e) (by omega))
  have HCP := Lib.hid (fun W (e : Ext w W) => copyTraverse_any (ca := ca) hn (hr.ext e) (by omega) (fun h => by cases h))
  have HAT := Lib.hid (fun k (hk : k < n) => getI (xs := xs) hn hk)
  have HOK := Lib.hid (fun k (hk : k < n) => hok k _ (getI hn hk))
  have HR := Lib.hid hr
  have HP := Lib.hid hp
  have HN := Lib.hid hn
  have HM := Lib.hid hm
  have HZ := Lib.hid hz
  have HYL := Lib.hid (show ((List.range n).map (exI xs pl)).length = xs.length by simp [hn])
  have HZL := Lib.hid (show ((List.range n).map (naI xs pl)).length = xs.length by simp [hn])
  have hlo : ¬ l1 < l0 := by omega
  have HB0 := Lib.hid hl0
  have HB1 := Lib.hid hl1
  have HLE := Lib.hid hl
  have hd0 : 0 ≤ (xs.getD 0 default).d ∧ (xs.getD 0 default).d ≤ 10000 := by have := hok 0 _ (getI hn (show 0 < n by omega)); omega
  have hd1 : 0 ≤ (xs.getD (n - 1) default).d ∧ (xs.getD (n - 1) default).d ≤ 10000 := by have := hok (n - 1) _ (getI hn (show n - 1 < n by omega)); omega
  obtain ⟨p0, q0, e0, hC, hW⟩ := case_all (xs := xs) (n := n) (l := l0) hn hz hl0
  have hS : e0 = 0 → Spd (xs.getD 0 default).d (xs.getD (n - 1) default).d p0 q0 := fun he => by
    subst he
    have := case_spd (n := n) hn hz hl0 hC
    exact this
  have HSP0 := Lib.hid (fun (he : e0 = 0) W (e : Ext w W) => spanned_ok (ca := ca) hn (hr.ext e) (show 0 < n by omega) m20 hd0 hd1 (hS he))
  have SP0 := Lib.hid hS
  have C0 := Lib.hid hC
  have HW0 := Lib.hid hW
  clear hC hW hS
  obtain ⟨p1, q1, e1, hC, hW⟩ := case_all (xs := ((List.range n).map (exI xs pl))) (n := n) (l := l0) (show ((List.range n).map (exI xs pl)).length = n by simp) (ex_ok hn hz) hl0
  have hS : e1 = 0 → Spd (xs.getD 0 default).d (xs.getD (n - 1) default).d p1 q1 := fun he => by
    subst he
    have := case_spd (n := n) (show ((List.range n).map (exI xs pl)).length = n by simp) (ex_ok hn hz) hl0 hC
    rw [range_getD (show 0 < n by omega), range_getD (show n - 1 < n by omega)] at this
    exact this
  have HSP1 := Lib.hid (fun (he : e1 = 0) W (e : Ext w W) => spanned_ok (ca := ca) hn (hr.ext e) (show 0 < n by omega) m20 hd0 hd1 (hS he))
  have SP1 := Lib.hid hS
  have HEQ1 := Lib.hid (show e1 = 0 → p1 = q1 from fun he => by
    subst he
    rcases hC with ⟨-, -, h | h⟩ | ⟨-, ha, hb⟩
    · cases h
    · cases h
    · rw [show loP ((List.range n).map (exI xs pl)) = upP ((List.range n).map (exI xs pl)) by simp only [loP, upP, List.map_map]; rfl, hb] at ha
      exact (Option.some.inj ha).symm)
  have C1 := Lib.hid hC
  have HW1 := Lib.hid hW
  clear hC hW hS
  obtain ⟨p2, q2, e2, hC, hW⟩ := case_all (xs := ((List.range n).map (naI xs pl))) (n := n) (l := l0) (show ((List.range n).map (naI xs pl)).length = n by simp) (na_ok hn hz) hl0
  have hS : e2 = 0 → Spd (xs.getD 0 default).d (xs.getD (n - 1) default).d p2 q2 := fun he => by
    subst he
    have := case_spd (n := n) (show ((List.range n).map (naI xs pl)).length = n by simp) (na_ok hn hz) hl0 hC
    rw [range_getD (show 0 < n by omega), range_getD (show n - 1 < n by omega)] at this
    exact this
  have HSP2 := Lib.hid (fun (he : e2 = 0) W (e : Ext w W) => spanned_ok (ca := ca) hn (hr.ext e) (show 0 < n by omega) m20 hd0 hd1 (hS he))
  have SP2 := Lib.hid hS
  have C2 := Lib.hid hC
  have HW2 := Lib.hid hW
  clear hC hW hS
  obtain ⟨p3, q3, e3, hC, hW⟩ := case_all (xs := xs) (n := n) (l := l1) hn hz hl1
  have hS : e3 = 0 → Spd (xs.getD 0 default).d (xs.getD (n - 1) default).d p3 q3 := fun he => by
    subst he
    have := case_spd (n := n) hn hz hl1 hC
    exact this
  have HSP3 := Lib.hid (fun (he : e3 = 0) W (e : Ext w W) => spanned_ok (ca := ca) hn (hr.ext e) (show 0 < n by omega) m20 hd0 hd1 (hS he))
  have SP3 := Lib.hid hS
  have C3 := Lib.hid hC
  have HW3 := Lib.hid hW
  clear hC hW hS
  have hdY : ∀ i, i < n → (xs.getD i default).d = (((List.range n).map (exI xs pl)).getD i default).d := fun i hi => by rw [range_getD hi]; rfl
  have hdZ : ∀ i, i < n → (xs.getD i default).d = (((List.range n).map (naI xs pl)).getD i default).d := fun i hi => by rw [range_getD hi]; rfl
  have hdYZ : ∀ i, i < n → (((List.range n).map (naI xs pl)).getD i default).d = (((List.range n).map (exI xs pl)).getD i default).d := fun i hi => by rw [range_getD hi, range_getD hi]; rfl
  have hpk := fun i (hi : i < n) => pick_in (pl := pl) (lo_le hn hz hi)
  have loY : ∀ i, i < n → (((List.range n).map (exI xs pl)).getD i default).lo = pickH xs pl i ∧ (((List.range n).map (exI xs pl)).getD i default).hi = pickH xs pl i := fun i hi => by rw [range_getD hi]; exact ⟨rfl, rfl⟩
  have loZ : ∀ i, i < n → (((List.range n).map (naI xs pl)).getD i default).lo = pickH xs pl i ∧ (((List.range n).map (naI xs pl)).getD i default).hi = (xs.getD i default).hi := fun i hi => by rw [range_getD hi]; exact ⟨rfl, rfl⟩
  have HIN01 := Lib.hid (fun (h0 : e0 = 0) (h1 : e1 = 0) (W : World) => by
    have a0 := h0 ▸ C0.out
    have a1 := h1 ▸ C1.out
    exact inside_ok (w := W) (SP1.out h1).lp (SP1.out h1).lq (SP0.out h0).lp (SP0.out h0).lq
      (case_in hn (show ((List.range n).map (exI xs pl)).length = n by simp) hz hdY (fun i hi => by have := loY i hi; have := hpk i hi; omega) a0 a1)
      (case_in2 (show ((List.range n).map (exI xs pl)).length = n by simp) hn (ex_ok hn hz) (fun i hi => (hdY i hi).symm) (fun i hi => by have := loY i hi; have := hpk i hi; omega) a1 a0))
  have HIN02 := Lib.hid (fun (h0 : e0 = 0) (h2 : e2 = 0) (W : World) => by
    have a0 := h0 ▸ C0.out
    have a2 := h2 ▸ C2.out
    exact inside_ok (w := W) (SP2.out h2).lp (SP2.out h2).lq (SP0.out h0).lp (SP0.out h0).lq
      (case_in hn (show ((List.range n).map (naI xs pl)).length = n by simp) hz hdZ (fun i hi => by have := loZ i hi; have := hpk i hi; omega) a0 a2)
      (case_in2 (show ((List.range n).map (naI xs pl)).length = n by simp) hn (na_ok hn hz) (fun i hi => (hdZ i hi).symm) (fun i hi => by have := loZ i hi; have := hpk i hi; omega) a2 a0))
  have HIN12 := Lib.hid (fun (h1 : e1 = 0) (h2 : e2 = 0) (W : World) => by
    have a1 := h1 ▸ C1.out
    have a2 := h2 ▸ C2.out
    exact inside_ok (w := W) (SP1.out h1).lp (SP1.out h1).lq (SP2.out h2).lp (SP2.out h2).lq
      (case_in (show ((List.range n).map (naI xs pl)).length = n by simp) (show ((List.range n).map (exI xs pl)).length = n by simp) (na_ok hn hz) hdYZ (fun i hi => by have := loZ i hi; have := loY i hi; omega) a2 a1)
      (case_in2 (show ((List.range n).map (exI xs pl)).length = n by simp) (show ((List.range n).map (naI xs pl)).length = n by simp) (ex_ok hn hz) (fun i hi => (hdYZ i hi).symm) (fun i hi => by have := loZ i hi; have := loY i hi; have := hpk i hi; omega) a1 a2))
  have HCM := Lib.hid (fun (h0 : e0 = 0) (h3 : e3 = 0) => show ∃ c d : Int, c ≤ 0 ∧ d ≤ 0 ∧ (∀ W, Calls Try.prog 29 #[.agg #[.int .i64 p3.1, .int .i64 p3.2], .agg #[.int .i64 p0.1, .int .i64 p0.2]] W fun e w' => e = .returned (.int .i64 c) ∧ Ext W w') ∧ (∀ W, Calls Try.prog 29 #[.agg #[.int .i64 q3.1, .int .i64 q3.2], .agg #[.int .i64 q0.1, .int .i64 q0.2]] W fun e w' => e = .returned (.int .i64 d) ∧ Ext W w') from by
    have a0 := h0 ▸ C0.out
    have a3 := h3 ▸ C3.out
    exact ⟨_, _, cmp_le (case_in hn hn hz (fun _ _ => rfl) (fun i hi => by omega) a3 a0), cmp_le (case_in2 hn hn hz (fun _ _ => rfl) (fun i hi => by omega) a3 a0), fun W => low_cmp_any (SP3.out h3).lp (SP0.out h0).lp W, fun W => low_cmp_any (SP3.out h3).lq (SP0.out h0).lq W⟩)
  clear hdY hdZ hdYZ hpk loY loZ
  clear hn hr hm hp hz hl0 hl1 hl hok hd0 hd1
  have P0 := Lib.hid (show Blk ((w.alloc (.cells #[.slice (some ⟨b, o, none⟩) n ca] 24)).alloc (.cells #[.int .i64 l0, .int .i64 l1] 52)) w.heap.size 24 #[.slice (some ⟨b, o, none⟩) n ca] from (Blk.new _ _ _).alloc _)
  have P1 := Lib.hid (show Blk ((w.alloc (.cells #[.slice (some ⟨b, o, none⟩) n ca] 24)).alloc (.cells #[.int .i64 l0, .int .i64 l1] 52)) (w.heap.size + 1) 52 #[.int .i64 l0, .int .i64 l1] from Blk.newAt _ _ _ (by simp))
  go_enter Try.func4, Try.ntmps4
  go_wp2_with (go_at_call 13; refine (awake_any _).mono ?_; rintro e W1 ⟨rfl, hx⟩; have X := Lib.hid (((Ext.alloc _ _).trans (Ext.alloc _ _)).trans hx); have K0 := Lib.hid (P0.out.ext hx); have K1 := Lib.hid (P1.out.ext hx); clear hx; refine Hid.out ?_)
  refine Lib.hid ?_
  clear P0 P1
  have y0 : W1.cell? ⟨w.heap.size, 0, none⟩ = some (.slice (some ⟨b, o, none⟩) n ca) := K0.out.cell 0
  have z0 : W1.cell? ⟨w.heap.size + 1, 0, none⟩ = some (.int .i64 l0) := K1.out.cell 0
  have z1 : W1.cell? ⟨w.heap.size + 1, 1, none⟩ = some (.int .i64 l1) := K1.out.cell 1
  go_wp2_with (go_at_call 25; refine (HTE.out _ X.out).mono ?_; rintro e W2 ⟨rfl, hx⟩; have X := Lib.hid (X.out.trans hx); have K0 := Lib.hid (K0.out.ext hx); have K1 := Lib.hid (K1.out.ext hx); clear hx y0 z0 z1; refine Hid.out ?_)
  refine Lib.hid ?_
  have y0 : W2.cell? ⟨w.heap.size, 0, none⟩ = some (.slice (some ⟨b, o, none⟩) n ca) := K0.out.cell 0
  have z0 : W2.cell? ⟨w.heap.size + 1, 0, none⟩ = some (.int .i64 l0) := K1.out.cell 0
  have z1 : W2.cell? ⟨w.heap.size + 1, 1, none⟩ = some (.int .i64 l1) := K1.out.cell 1
  go_wp2_with (go_at_call 23; refine (H0.out _).mono ?_; rintro e w2 ⟨rfl, rfl⟩; refine Hid.out ?_)
  refine Lib.hid ?_
  go_wp2_with (go_at_call 23; refine (H1.out _).mono ?_; rintro e w2 ⟨rfl, rfl⟩; refine Hid.out ?_)
  refine Lib.hid ?_
  go_wp2
  refine wp_region_own [.op, .new, .op, .new, .new, .new, .store, .store] [6, 7] [8, 61, 9, 63] [61, 63, 8, 9] [some 60, some 61, some 62, some 63, some 8, some 9, none, none] [[3], [60], [3], [62], [], [], [8, 61], [9, 63]]
    [Is (.agg #[.slice (some ⟨b, o, none⟩) n ca]), OwnC n xs W2.heap.size, Is (.agg #[.slice (some ⟨b, o, none⟩) n ca]), OwnC n xs W2.heap.size, NewP W2.heap.size 24 #[.slice none 0 0], NewP W2.heap.size 24 #[.slice none 0 0], fun _ _ => True, fun _ _ => True]
    (by kernel_rfl) (by kernel_rfl) (by kernel_rfl) (by kernel_rfl) (by kernel_rfl) (by kernel_rfl) (by kernel_rfl) (by kernel_rfl) (by kernel_rfl) Ext (fun W => Ext W2 W)
    (fun W _ => Ext.refl W) (fun W W' h k => h.trans k) (fun W W' h => h.size) ?_ (Ext.drew _) ?_ ?_
  · repeat (refine ⟨fun _ _ _ _ k h => (by first | exact h | exact NewP.ext h k | exact OwnC.ext h k), ?_⟩)
    exact trivial
  · refine ⟨?_, ?_, ?_, ?_, ?_, ?_, trivial⟩
    · intro ρ W ⟨kc, kg, kf⟩ hF hs
      obtain ⟨h0, -⟩ := hs
      replace h0 : ρ (.tmp 3) = .pointer (some ⟨w.heap.size, 0, none⟩) := h0
      have hc0 : W.cell? ⟨w.heap.size, 0, none⟩ = some (.slice (some ⟨b, o, none⟩) n ca) := hF.cell (by assumption)
      go_simp
      exact ⟨Ext.refl _, rfl⟩
    · intro ρ W ⟨kc, kg, kf⟩ hF hs
      obtain ⟨h0, -⟩ := hs
      replace h0 : ρ (.tmp 60) = .agg #[.slice (some ⟨b, o, none⟩) n ca] := h0
      go_simp
      refine (HCO.out _ (X.out.trans hF)).mono ?_
      rintro e w' ⟨A2, c2, B2, rfl, ho, hB, hx⟩
      obtain ⟨g, c3, cu, hsl, hbg, -, hblk, -⟩ := own_cells ho hn1
      obtain ⟨rfl, rfl⟩ : A2 = some ⟨g, 0, none⟩ ∧ c2 = c3 := by simpa using hsl
      exact ⟨_, rfl, hx, ⟨g, _, B2, rfl, by have := hF.size; omega, ho⟩, g, rfl, by omega, hblk.lt⟩
    · intro ρ W ⟨kc, kg, kf⟩ hF hs
      obtain ⟨h0, -⟩ := hs
      replace h0 : ρ (.tmp 3) = .pointer (some ⟨w.heap.size, 0, none⟩) := h0
      have hc0 : W.cell? ⟨w.heap.size, 0, none⟩ = some (.slice (some ⟨b, o, none⟩) n ca) := hF.cell (by assumption)
      go_simp
      exact ⟨Ext.refl _, rfl⟩
    · intro ρ W ⟨kc, kg, kf⟩ hF hs
      obtain ⟨h0, -⟩ := hs
      replace h0 : ρ (.tmp 62) = .agg #[.slice (some ⟨b, o, none⟩) n ca] := h0
      go_simp
      refine (HCO.out _ (X.out.trans hF)).mono ?_
      rintro e w' ⟨A2, c2, B2, rfl, ho, hB, hx⟩
      obtain ⟨g, c3, cu, hsl, hbg, -, hblk, -⟩ := own_cells ho hn1
      obtain ⟨rfl, rfl⟩ : A2 = some ⟨g, 0, none⟩ ∧ c2 = c3 := by simpa using hsl
      exact ⟨_, rfl, hx, ⟨g, _, B2, rfl, by have := hF.size; omega, ho⟩, g, rfl, by omega, hblk.lt⟩
    · intro ρ W ⟨kc, kg, kf⟩ hF hs
      go_simp
      exact ⟨Ext.alloc _ _, ⟨_, rfl, hF.size, Blk.new _ _ _⟩, _, rfl, Nat.le_refl _, by simp⟩
    · intro ρ W ⟨kc, kg, kf⟩ hF hs
      go_simp
      exact ⟨Ext.alloc _ _, ⟨_, rfl, hF.size, Blk.new _ _ _⟩, _, rfl, Nat.le_refl _, by simp⟩
  · intro fv U hF hs hap σ hσ ρ ⟨kc, kg, kf⟩ hr
    obtain ⟨-, h61, -, h63, h8, h9, -⟩ := hs
    replace h61 : OwnC n xs W2.heap.size (fv 61) U := h61
    replace h63 : OwnC n xs W2.heap.size (fv 63) U := h63
    replace h8 : (NewP W2.heap.size 24 #[.slice none 0 0]) (fv 8) U := h8
    replace h9 : (NewP W2.heap.size 24 #[.slice none 0 0]) (fv 9) U := h9
    obtain ⟨r0, r1, r2, r3, -⟩ := hr
    replace r0 : ρ (.tmp 8) = fv 8 := r0
    replace r1 : ρ (.tmp 61) = fv 61 := r1
    replace r2 : ρ (.tmp 9) = fv 9 := r2
    replace r3 : ρ (.tmp 63) = fv 63 := r3
    obtain ⟨g1, c1, B1, hv61, hg1, ho1⟩ := h61
    obtain ⟨g2, c2, B2, hv63, hg2, ho2⟩ := h63
    obtain ⟨q8, hq8, hqs8, hb8⟩ := h8
    obtain ⟨q9, hq9, hqs9, hb9⟩ := h9
    rw [hq8] at r0
    rw [hv61] at r1
    rw [hq9] at r2
    rw [hv63] at r3
    have f8_0 := hb8.free 0
    have c8_0 : U.cell? ⟨q8, 0, none⟩ = some (.slice none 0 0) := hb8.cell 0
    have f9_0 := hb9.free 0
    have c9_0 : U.cell? ⟨q9, 0, none⟩ = some (.slice none 0 0) := hb9.cell 0
    obtain ⟨ha61, ha63, ha8, -⟩ := hap
    have hg12 : g1 ≠ g2 := by
      have := ha61 63 (by simp)
      rw [hv61, hv63] at this
      intro h; exact this (show some g1 = some g2 by rw [h])
    have hne : q8 ≠ q9 := by
      have := ha8 9 (by simp)
      rw [hq8, hq9] at this
      intro h; exact this (show some q8 = some q9 by rw [h])
    have hne2 := Ne.symm hne
    have n18 := own_notBlk ho1 hb8 (by decide)
    have n19 := own_notBlk ho1 hb9 (by decide)
    have n28 := own_notBlk ho2 hb8 (by decide)
    have n29 := own_notBlk ho2 hb9 (by decide)
    refine stores_two (R := fun V => Ext W2 V ∧ Blk V q8 24 #[.slice (some ⟨g1, 0, none⟩) n c1] ∧ Blk V q9 24 #[.slice (some ⟨g2, 0, none⟩) n c2] ∧ V.ownsRow B1 43 4 (.slice (some ⟨g1, 0, none⟩) n c1) n (xs.flatMap In.enc) ∧ V.ownsRow B2 43 4 (.slice (some ⟨g2, 0, none⟩) n c2) n (xs.flatMap In.enc)) _ _ rfl rfl hσ (U.setCell ⟨q8, 0, none⟩ (.slice (some ⟨g1, 0, none⟩) n c1)) ((U.setCell ⟨q8, 0, none⟩ (.slice (some ⟨g1, 0, none⟩) n c1)).setCell ⟨q9, 0, none⟩ (.slice (some ⟨g2, 0, none⟩) n c2)) (U.setCell ⟨q9, 0, none⟩ (.slice (some ⟨g2, 0, none⟩) n c2)) ((U.setCell ⟨q9, 0, none⟩ (.slice (some ⟨g2, 0, none⟩) n c2)).setCell ⟨q8, 0, none⟩ (.slice (some ⟨g1, 0, none⟩) n c1)) (by go_simp) (by go_simp) (by go_simp) (by go_simp)
      ⟨Ext.set (Ext.set hF (by dsimp only; exact hqs8) _) (by dsimp only; exact hqs9) _, (hb8.setSame 0 _).setOther (by dsimp only; first | exact hne | exact hne2) _, (hb9.setOther (by dsimp only; first | exact hne | exact hne2) _).setSame 0 _, own_set (own_set ho1 n18 _) n19 _, own_set (own_set ho2 n28 _) n29 _⟩
      ⟨Ext.set (Ext.set hF (by dsimp only; exact hqs9) _) (by dsimp only; exact hqs8) _, (hb8.setOther (by dsimp only; first | exact hne | exact hne2) _).setSame 0 _, (hb9.setSame 0 _).setOther (by dsimp only; first | exact hne | exact hne2) _, own_set (own_set ho1 n19 _) n18 _, own_set (own_set ho2 n29 _) n28 _⟩ ?_
    rintro V ⟨XN, K8, K9, O1, O2⟩
    replace XN := Lib.hid XN
    replace K8 := Lib.hid K8
    replace K9 := Lib.hid K9
    replace O1 := Lib.hid O1
    replace O2 := Lib.hid O2
    have N12 := Lib.hid hg12
    have G1s := Lib.hid hg1
    have G2s := Lib.hid hg2
    have Q8s := Lib.hid hqs8
    have Q9s := Lib.hid hqs9
    have N18 := Lib.hid (show g1 ≠ q8 from fun h => n18 (by rw [h]; rfl))
    have N19 := Lib.hid (show g1 ≠ q9 from fun h => n19 (by rw [h]; rfl))
    have N28 := Lib.hid (show g2 ≠ q8 from fun h => n28 (by rw [h]; rfl))
    have N29 := Lib.hid (show g2 ≠ q9 from fun h => n29 (by rw [h]; rfl))
    clear f8_0 c8_0 f9_0 c9_0 n18 n19 n28 n29 hg12 hg1 hg2 ha61 ha63 ha8 ho1 ho2
    clear hF hσ hne hne2 r0 r1 r2 r3 kc kg kf hb8 hqs8 hb9 hqs9 hv61 hv63
    simp only [fin, List.filterMap]
    go_simp
    try rw [hq8]
    try rw [hq9]
    clear hq8 hq9
    clear ρ σ
    clear y0 z0 z1
    have y8 : V.cell? ⟨q8, 0, none⟩ = some (.slice (some ⟨g1, 0, none⟩) n c1) := K8.out.cell 0
    go_wp2
    go_loopw [10] (fun i wr => ∃ k : Nat, k ≤ n ∧ i = .int .i64 k ∧ Ext W2 wr ∧ Blk wr q8 24 #[.slice (some ⟨g1, 0, none⟩) n c1] ∧ Blk wr q9 24 #[.slice (some ⟨g2, 0, none⟩) n c2] ∧ wr.ownsRow B1 43 4 (.slice (some ⟨g1, 0, none⟩) n c1) n ((mix ((List.range n).map (exI xs pl)) xs k).flatMap In.enc) ∧ wr.ownsRow B2 43 4 (.slice (some ⟨g2, 0, none⟩) n c2) n ((mix ((List.range n).map (naI xs pl)) xs k).flatMap In.enc)) (fun i _ => n - (intOf i).toNat)
    case atStart => exact ⟨0, Nat.zero_le _, rfl, XN.out, K8.out, K9.out, by rw [mix_zero]; exact O1.out, by rw [mix_zero]; exact O2.out⟩
    case round =>
      obtain ⟨k, hk, rfl, hx, hb8, hb9, ho1, ho2⟩ := hrel
      have XR := Lib.hid hx
      have XW := Lib.hid (X.out.trans hx)
      have K0r := Lib.hid (K0.out.ext hx)
      have K1r := Lib.hid (K1.out.ext hx)
      have K8 := Lib.hid hb8
      have K9 := Lib.hid hb9
      have O1 := Lib.hid ho1
      have O2 := Lib.hid ho2
      clear hx hb8 hb9 ho1 ho2
      by_cases hlt : k < n
      · obtain ⟨x, hx0⟩ : ∃ x, x = xs.getD k default := ⟨_, rfl⟩
        obtain ⟨u, hu0⟩ : ∃ u, u = pl.getD k 0 := ⟨_, rfl⟩
        have hxk := HAT.out k hlt
        have hok := HOK.out k hlt
        rw [← hx0] at hxk hok
        have huk : pl[k]? = some u := by rw [hu0, List.getD_eq_getElem?_getD, List.getElem?_eq_getElem (by have := HM.out; omega)]; rfl
        obtain ⟨b2, o2, he, -, hc⟩ := row_at (HR.out.ext XW.out) hxk
        obtain ⟨rfl, rfl⟩ : b = b2 ∧ o = o2 := by simpa using he
        have p2 : wr.cell? ⟨b, o + k * 4 + 2, none⟩ = some (.int .i64 x.lo) := hc 2 _ rfl
        have p3 : wr.cell? ⟨b, o + k * 4 + 3, none⟩ = some (.int .i64 x.hi) := hc 3 _ rfl
        have p32 : wr.cell? ⟨b, o + k * 4 + 2 + 1, none⟩ = some (.int .i64 x.hi) := p3
        obtain ⟨b2, o2, he2, -, hc2⟩ := row_at (HP.out.ext XW.out) huk
        obtain ⟨rfl, rfl⟩ : b9 = b2 ∧ o9 = o2 := by simpa using he2
        have pu : wr.cell? ⟨b9, o9 + k, none⟩ = some (.int .i64 u) := by have := hc2 0 _ rfl; simpa using this
        have hb1 : 0 ≤ x.lo ∧ x.lo ≤ 2000 ∧ 0 ≤ x.hi ∧ x.hi ≤ 2000 ∧ x.lo ≤ x.hi := by omega
        obtain ⟨hv1, hv2, hv3, hv4, hv5⟩ := hb1
        have HMO := Lib.hid (fun W => mod_any u (x.hi - x.lo + 1) ⟨by omega, by omega⟩ W)
        have hu1 := Int.emod_nonneg u (show x.hi - x.lo + 1 ≠ 0 by omega)
        have hu2 := Int.emod_lt_of_pos u (show 0 < x.hi - x.lo + 1 by omega)
        have HXK := Lib.hid hxk
        have HE1 := Lib.hid (show exI xs pl k = ⟨x.d, x.g, x.lo + u % (x.hi - x.lo + 1), x.lo + u % (x.hi - x.lo + 1)⟩ by unfold exI pickH; rw [← hx0, ← hu0])
        have HE2 := Lib.hid (show naI xs pl k = ⟨x.d, x.g, x.lo + u % (x.hi - x.lo + 1), x.hi⟩ by unfold naI pickH; rw [← hx0, ← hu0])
        clear hc he hc2 he2 hxk hok huk hx0 hu0
        have hlt2 : (k : Int) < (n : Int) := by omega
        have hbk : ((k : Int)).toNat = k := by omega
        have y0 : wr.cell? ⟨w.heap.size, 0, none⟩ = some (.slice (some ⟨b, o, none⟩) n ca) := K0r.out.cell 0
        go_upto_region 11 with (fail)
        obtain ⟨U, hU⟩ : ∃ V, V = wr.alloc (.cells #[.int .i64 x.lo, .int .i64 x.hi] 41) := ⟨_, rfl⟩
        obtain ⟨q11, hq11⟩ : ∃ q, q = wr.heap.size := ⟨_, rfl⟩
        rw [← hU, ← hq11]
        have K11 := Lib.hid (show Blk U q11 41 #[.int .i64 x.lo, .int .i64 x.hi] by rw [hU, hq11]; exact Blk.new _ _ _)
        have hx : Ext wr U := by rw [hU]; exact Ext.alloc _ _
        replace pu := hx.cell pu
        have XR := Lib.hid (XR.out.trans hx)
        have K8 := Lib.hid (K8.out.ext hx)
        have K9 := Lib.hid (K9.out.ext hx)
        have O1 := Lib.hid (own_ext O1.out hx)
        have O2 := Lib.hid (own_ext O2.out hx)
        clear hx hU hq11 y0 p2 p3 p32 K0r K1r XW
        have t0 : U.cell? ⟨q11, 0, none⟩ = some (.int .i64 x.lo) := K11.out.cell 0
        have t1 : U.cell? ⟨q11, 1, none⟩ = some (.int .i64 x.hi) := K11.out.cell 1
        go_wp2
        refine wp_region_each [some 75, some 76, some 77, some 78, some 79, some 80, some 81, some 82, some 83, some 84, some 85, some 86, some 87, some 88, some 12] [[11], [75], [1], [10], [77, 78], [79], [11], [81], [11], [83], [82, 84], [85], [80, 86], [76, 87], [88]]
          [Is (.pointer (some ⟨q11, 0, none⟩)), Is (.int .i64 (x.lo)), Is (.slice (some ⟨b9, o9, none⟩) n cb), Is (.int .i64 ((k : Int))), Is (.pointer (some ⟨b9, o9 + k, none⟩)), Is (.int .i64 (u)), Is (.pointer (some ⟨q11, 1, none⟩)), Is (.int .i64 (x.hi)), Is (.pointer (some ⟨q11, 0, none⟩)), Is (.int .i64 (x.lo)), Is (.int .i64 (x.hi - x.lo)), Is (.int .i64 (x.hi - x.lo + 1)), Is (.int .i64 (u % (x.hi - x.lo + 1))), Is (.int .i64 (x.lo + u % (x.hi - x.lo + 1))), Is (.int .i64 (x.lo + u % (x.hi - x.lo + 1)))]
          (by kernel_rfl) (by kernel_rfl) (by kernel_rfl) (by kernel_rfl) (by kernel_rfl) Ext (fun W => Ext U W)
          (fun W _ => Ext.refl W) (fun W W' h k => h.trans k) ?_ (Ext.drew _) ?_ ?_
        · repeat (refine ⟨fun _ _ _ _ k h => (by first | exact h | exact (IntsAt.ext h k)), ?_⟩)
          exact trivial
        · refine ⟨?_, ?_, ?_, ?_, ?_, ?_, ?_, ?_, ?_, ?_, ?_, ?_, ?_, ?_, ?_, trivial⟩
          all_goals intro ρ W ⟨kc, kg, kf⟩ hF hs
          · obtain ⟨h0, -⟩ := hs
            replace h0 : ρ (.tmp 11) = .pointer (some ⟨q11, 0, none⟩) := h0
            go_simp
            exact ⟨Ext.refl _, rfl⟩
          · obtain ⟨h0, -⟩ := hs
            replace h0 : ρ (.tmp 75) = .pointer (some ⟨q11, 0, none⟩) := h0
            have hc0 : W.cell? ⟨q11, 0, none⟩ = some (.int .i64 (x.lo)) := hF.cell (by assumption)
            go_simp
            exact ⟨Ext.refl _, rfl⟩
          · obtain ⟨h0, -⟩ := hs
            replace h0 : ρ (.tmp 1) = .slice (some ⟨b9, o9, none⟩) n cb := h0
            go_simp
            exact ⟨Ext.refl _, rfl⟩
          · obtain ⟨h0, -⟩ := hs
            replace h0 : ρ (.tmp 10) = .int .i64 ((k : Int)) := h0
            go_simp
            exact ⟨Ext.refl _, rfl⟩
          · obtain ⟨h0, h1, -⟩ := hs
            replace h0 : ρ (.tmp 77) = .slice (some ⟨b9, o9, none⟩) n cb := h0
            replace h1 : ρ (.tmp 78) = .int .i64 ((k : Int)) := h1
            have hb1 : (k : Int) < (n : Int) := by omega
            have hb3 : (0 : Int) ≤ (k : Int) := by omega
            have hb4 : ((k : Int)).toNat = k := by omega
            have hb8 : k < n := by omega
            go_simp
            exact ⟨Ext.refl _, rfl⟩
          · obtain ⟨h0, -⟩ := hs
            replace h0 : ρ (.tmp 79) = .pointer (some ⟨b9, o9 + k, none⟩) := h0
            have hc0 : W.cell? ⟨b9, o9 + k, none⟩ = some (.int .i64 (u)) := hF.cell (by assumption)
            go_simp
            exact ⟨Ext.refl _, rfl⟩
          · obtain ⟨h0, -⟩ := hs
            replace h0 : ρ (.tmp 11) = .pointer (some ⟨q11, 0, none⟩) := h0
            go_simp
            exact ⟨Ext.refl _, rfl⟩
          · obtain ⟨h0, -⟩ := hs
            replace h0 : ρ (.tmp 81) = .pointer (some ⟨q11, 1, none⟩) := h0
            have hc0 : W.cell? ⟨q11, 1, none⟩ = some (.int .i64 (x.hi)) := hF.cell (by assumption)
            go_simp
            exact ⟨Ext.refl _, rfl⟩
          · obtain ⟨h0, -⟩ := hs
            replace h0 : ρ (.tmp 11) = .pointer (some ⟨q11, 0, none⟩) := h0
            go_simp
            exact ⟨Ext.refl _, rfl⟩
          · obtain ⟨h0, -⟩ := hs
            replace h0 : ρ (.tmp 83) = .pointer (some ⟨q11, 0, none⟩) := h0
            have hc0 : W.cell? ⟨q11, 0, none⟩ = some (.int .i64 (x.lo)) := hF.cell (by assumption)
            go_simp
            exact ⟨Ext.refl _, rfl⟩
          · obtain ⟨h0, h1, -⟩ := hs
            replace h0 : ρ (.tmp 82) = .int .i64 (x.hi) := h0
            replace h1 : ρ (.tmp 84) = .int .i64 (x.lo) := h1
            have hw : IntKind.i64.wrap (x.hi - x.lo) = x.hi - x.lo := wrap_id _ (by omega) (by omega)
            go_simp
            exact ⟨Ext.refl _, rfl⟩
          · obtain ⟨h0, -⟩ := hs
            replace h0 : ρ (.tmp 85) = .int .i64 (x.hi - x.lo) := h0
            have hw : IntKind.i64.wrap (x.hi - x.lo + 1) = x.hi - x.lo + 1 := wrap_id _ (by omega) (by omega)
            go_simp
            exact ⟨Ext.refl _, rfl⟩
          · obtain ⟨h0, h1, -⟩ := hs
            replace h0 : ρ (.tmp 80) = .int .i64 (u) := h0
            replace h1 : ρ (.tmp 86) = .int .i64 (x.hi - x.lo + 1) := h1
            go_simp
            refine (HMO.out _).mono ?_; rintro e w' ⟨rfl, rfl⟩; exact ⟨_, rfl, Ext.refl _, rfl⟩
          · obtain ⟨h0, h1, -⟩ := hs
            replace h0 : ρ (.tmp 76) = .int .i64 (x.lo) := h0
            replace h1 : ρ (.tmp 87) = .int .i64 (u % (x.hi - x.lo + 1)) := h1
            have hw : IntKind.i64.wrap (x.lo + u % (x.hi - x.lo + 1)) = x.lo + u % (x.hi - x.lo + 1) := wrap_id _ (by omega) (by omega)
            go_simp
            exact ⟨Ext.refl _, rfl⟩
          · obtain ⟨h0, -⟩ := hs
            replace h0 : ρ (.tmp 88) = .int .i64 (x.lo + u % (x.hi - x.lo + 1)) := h0
            go_simp
            exact ⟨Ext.refl _, rfl⟩
        · intro fv U2 hF hs
          obtain ⟨-, -, -, -, -, -, -, -, -, -, -, -, -, -, h12, -⟩ := hs
          replace h12 : fv 12 = .int .i64 (x.lo + u % (x.hi - x.lo + 1)) := h12
          simp only [fin, List.filterMap]
          go_simp
          have XR := Lib.hid (XR.out.trans hF)
          have K8 := Lib.hid (K8.out.ext hF)
          have K9 := Lib.hid (K9.out.ext hF)
          have K11 := Lib.hid (K11.out.ext hF)
          have O1 := Lib.hid (own_ext O1.out hF)
          have O2 := Lib.hid (own_ext O2.out hF)
          clear hF pu t0 t1 h12
          have hkm : k * 4 + 4 ≤ n * 4 := by omega
          have z8 : U2.cell? ⟨q8, 0, none⟩ = some (.slice (some ⟨g1, 0, none⟩) n c1) := K8.out.cell 0
          have j2 := O1.out.cellAt (k * 4 + 2) (by omega)
          have j3 := O1.out.cellAt (k * 4 + 3) (by omega)
          rw [flat_at _ k x 2 _ (mix_at HYL.out HXK.out) rfl] at j2
          rw [flat_at _ k x 3 _ (mix_at HYL.out HXK.out) rfl] at j3
          have f2 := O1.out.frozenAt (k * 4 + 2)
          have f3 := O1.out.frozenAt (k * 4 + 3)
          have j3' : U2.cell? ⟨g1, k * 4 + 2 + 1, none⟩ = some (.int .i64 x.hi) := j3
          have f3' : U2.frozen? ⟨g1, k * 4 + 2 + 1, none⟩ = false := f3
          have hn11 := own_notBlk O1.out K11.out (by decide)
          go_upto_region 13 with (fail)
          obtain ⟨h, hh⟩ : ∃ h, h = x.lo + u % (x.hi - x.lo + 1) := ⟨_, rfl⟩
          rw [← hh] at HE1 HE2 ⊢
          clear hh
          obtain ⟨V3, hV3⟩ : ∃ V, V = (U2.setCell ⟨g1, k * 4 + 2, none⟩ (.int .i64 h)).setCell ⟨g1, k * 4 + 2 + 1, none⟩ (.int .i64 h) := ⟨_, rfl⟩
          rw [← hV3]
          have O1 := Lib.hid (show V3.ownsRow B1 43 4 (.slice (some ⟨g1, 0, none⟩) n c1) n ((mix ((List.range n).map (exI xs pl)) xs (k + 1)).flatMap In.enc) by
            have h3 := ((O1.out.stored (k * 4 + 2) (.int .i64 h)).1.stored (k * 4 + 3) (.int .i64 h)).1
            rw [flat_set2 _ _ _ k x (mix_at HYL.out HXK.out), ← HE1.out, mix_step HYL.out (range_at hlt)] at h3
            rw [hV3]; exact h3)
          have hs1 : some g1 ≠ (.slice (some ⟨g2, 0, none⟩) n c2 : Value).ownBlock := fun hh => N12.out (by simpa [Value.ownBlock] using hh)
          have O2 := Lib.hid (show V3.ownsRow B2 43 4 (.slice (some ⟨g2, 0, none⟩) n c2) n ((mix ((List.range n).map (naI xs pl)) xs k).flatMap In.enc) by rw [hV3]; exact own_set (own_set O2.out hs1 _) hs1 _)
          have XR := Lib.hid (show Ext W2 V3 by rw [hV3]; exact Ext.set (Ext.set XR.out (by have := G1s.out; dsimp only; omega) _) (by have := G1s.out; dsimp only; omega) _)
          have K8 := Lib.hid (show Blk V3 q8 24 #[.slice (some ⟨g1, 0, none⟩) n c1] by rw [hV3]; exact (K8.out.setOther (by have := N18.out; dsimp only; first | exact this | exact Ne.symm this) _).setOther (by have := N18.out; dsimp only; first | exact this | exact Ne.symm this) _)
          have K9 := Lib.hid (show Blk V3 q9 24 #[.slice (some ⟨g2, 0, none⟩) n c2] by rw [hV3]; exact (K9.out.setOther (by have := N19.out; dsimp only; first | exact this | exact Ne.symm this) _).setOther (by have := N19.out; dsimp only; first | exact this | exact Ne.symm this) _)
          have n11 : g1 ≠ q11 := fun hh => hn11 (by rw [hh]; rfl)
          have K11 := Lib.hid (show Blk V3 q11 41 #[.int .i64 x.lo, .int .i64 x.hi] by rw [hV3]; exact (K11.out.setOther (by dsimp only; first | exact n11 | exact Ne.symm n11) _).setOther (by dsimp only; first | exact n11 | exact Ne.symm n11) _)
          clear j2 j3 j3' f2 f3 f3' z8 hs1 n11 hn11 hV3
          have z9 : V3.cell? ⟨q9, 0, none⟩ = some (.slice (some ⟨g2, 0, none⟩) n c2) := K9.out.cell 0
          have t1 : V3.cell? ⟨q11, 1, none⟩ = some (.int .i64 x.hi) := K11.out.cell 1
          have j2 := O2.out.cellAt (k * 4 + 2) (by omega)
          have j3 := O2.out.cellAt (k * 4 + 3) (by omega)
          rw [flat_at _ k x 2 _ (mix_at HZL.out HXK.out) rfl] at j2
          rw [flat_at _ k x 3 _ (mix_at HZL.out HXK.out) rfl] at j3
          have f2 := O2.out.frozenAt (k * 4 + 2)
          have f3 := O2.out.frozenAt (k * 4 + 3)
          have j3' : V3.cell? ⟨g2, k * 4 + 2 + 1, none⟩ = some (.int .i64 x.hi) := j3
          have f3' : V3.frozen? ⟨g2, k * 4 + 2 + 1, none⟩ = false := f3
          go_upto_region 9 with (fail)
          obtain ⟨V4, hV4⟩ : ∃ V, V = (V3.setCell ⟨g2, k * 4 + 2, none⟩ (.int .i64 h)).setCell ⟨g2, k * 4 + 2 + 1, none⟩ (.int .i64 x.hi) := ⟨_, rfl⟩
          rw [← hV4]
          have O2 := Lib.hid (show V4.ownsRow B2 43 4 (.slice (some ⟨g2, 0, none⟩) n c2) n ((mix ((List.range n).map (naI xs pl)) xs (k + 1)).flatMap In.enc) by
            have h3 := ((O2.out.stored (k * 4 + 2) (.int .i64 h)).1.stored (k * 4 + 3) (.int .i64 x.hi)).1
            rw [flat_set2 _ _ _ k x (mix_at HZL.out HXK.out), ← HE2.out, mix_step HZL.out (range_at hlt)] at h3
            rw [hV4]; exact h3)
          have hs2 : some g2 ≠ (.slice (some ⟨g1, 0, none⟩) n c1 : Value).ownBlock := fun hh => N12.out (by simpa [Value.ownBlock] using hh.symm)
          have O1 := Lib.hid (show V4.ownsRow B1 43 4 (.slice (some ⟨g1, 0, none⟩) n c1) n ((mix ((List.range n).map (exI xs pl)) xs (k + 1)).flatMap In.enc) by rw [hV4]; exact own_set (own_set O1.out hs2 _) hs2 _)
          have XR := Lib.hid (show Ext W2 V4 by rw [hV4]; exact Ext.set (Ext.set XR.out (by have := G2s.out; dsimp only; omega) _) (by have := G2s.out; dsimp only; omega) _)
          have K8 := Lib.hid (show Blk V4 q8 24 #[.slice (some ⟨g1, 0, none⟩) n c1] by rw [hV4]; exact (K8.out.setOther (by have := N28.out; dsimp only; first | exact this | exact Ne.symm this) _).setOther (by have := N28.out; dsimp only; first | exact this | exact Ne.symm this) _)
          have K9 := Lib.hid (show Blk V4 q9 24 #[.slice (some ⟨g2, 0, none⟩) n c2] by rw [hV4]; exact (K9.out.setOther (by have := N29.out; dsimp only; first | exact this | exact Ne.symm this) _).setOther (by have := N29.out; dsimp only; first | exact this | exact Ne.symm this) _)
          clear j2 j3 j3' f2 f3 f3' z9 t1 hs2 hV4
          go_wp2
          go_roundw
          case rel => exact ⟨k + 1, by omega, by go_num, XR.out, K8.out, K9.out, O1.out, O2.out⟩
          case measure => simp [intOf]; omega
      · have hkn : k = n := by omega
        have hlt2 : ¬ (k : Int) < (n : Int) := by omega
        have R1 := Lib.hid (show RowsAt 4 In.enc wr (some ⟨g1, 0, none⟩) ((List.range n).map (exI xs pl)) by
          have := rows_own (enc := In.enc) (xs := mix ((List.range n).map (exI xs pl)) xs k) (by have := HN.out; rw [mix_len HYL.out (by omega)]; exact this) (fun _ => rfl) O1.out (by omega)
          rwa [hkn, mix_all (by simp) HN.out] at this)
        have R2 := Lib.hid (show RowsAt 4 In.enc wr (some ⟨g2, 0, none⟩) ((List.range n).map (naI xs pl)) by
          have := rows_own (enc := In.enc) (xs := mix ((List.range n).map (naI xs pl)) xs k) (by have := HN.out; rw [mix_len HZL.out (by omega)]; exact this) (fun _ => rfl) O2.out (by omega)
          rwa [hkn, mix_all (by simp) HN.out] at this)
        clear O1 O2 XR hkn
        have y0 : wr.cell? ⟨w.heap.size, 0, none⟩ = some (.slice (some ⟨b, o, none⟩) n ca) := K0r.out.cell 0
        have z0 : wr.cell? ⟨w.heap.size + 1, 0, none⟩ = some (.int .i64 l0) := K1r.out.cell 0
        have z1 : wr.cell? ⟨w.heap.size + 1, 1, none⟩ = some (.int .i64 l1) := K1r.out.cell 1
        go_wp2
        refine wp_region_free [.op, .op, .op, .op, .op, .op, .op, .late (.int .i64 (e0)), .new, .store, .late (.int .i64 (e0))] [9] [13, 112] [13] [some 107, some 108, some 109, some 110, some 111, some 106, some 112, some 113, some 13, none, some 14] [[3], [107], [5], [109], [108, 110], [111], [106], [106], [], [13, 112], [113]]
          [Is (.agg #[.slice (some ⟨b, o, none⟩) n ca]), TrvC n xs, Is (.pointer (some ⟨w.heap.size + 1, 0, none⟩)), Is (.int .i64 (l0)), Is (.tuple #[.agg #[.int .i64 p0.1, .int .i64 p0.2, .int .i64 q0.1, .int .i64 q0.2], .int .i64 e0]), Is (.tuple #[.agg #[.int .i64 p0.1, .int .i64 p0.2, .int .i64 q0.1, .int .i64 q0.2], .int .i64 e0]), Is (.agg #[.int .i64 p0.1, .int .i64 p0.2, .int .i64 q0.1, .int .i64 q0.2]), Is (.int .i64 (e0)), NewP wr.heap.size 34 #[.int .i64 0, .int .i64 0, .int .i64 0, .int .i64 0], fun _ _ => True, Is (.int .i64 (e0))]
          (by kernel_rfl) (by kernel_rfl) (by kernel_rfl) (by kernel_rfl) (by kernel_rfl) (by kernel_rfl) (by kernel_rfl) (by kernel_rfl) (by kernel_rfl) Ext (fun W => Ext wr W)
          (fun W _ => Ext.refl W) (fun W W' h k => h.trans k) (fun W W' h => h.size) ?_ (Ext.drew _) ?_ ?_
        · repeat (refine ⟨fun _ _ _ _ k h => (by first | exact h | exact (by first | exact IntsAt.ext h k | exact NewP.ext h k | exact TrvC.ext h k)), ?_⟩)
          exact trivial
        · refine ⟨?_, ?_, ?_, ?_, ?_, ?_, ?_, ?_, ?_, ?_, trivial⟩
          · intro ρ W ⟨kc, kg, kf⟩ hF hs
            obtain ⟨h0, -⟩ := hs
            replace h0 : ρ (.tmp 3) = .pointer (some ⟨w.heap.size, 0, none⟩) := h0
            have hc0 : W.cell? ⟨w.heap.size, 0, none⟩ = some (.slice (some ⟨b, o, none⟩) n ca) := hF.cell (by assumption)
            go_simp
            exact ⟨Ext.refl _, rfl⟩
          · intro ρ W ⟨kc, kg, kf⟩ hF hs
            obtain ⟨h0, -⟩ := hs
            replace h0 : ρ (.tmp 107) = .agg #[.slice (some ⟨b, o, none⟩) n ca] := h0
            go_simp
            refine (HCP.out _ (XW.out.trans hF)).mono ?_; rintro e w' ⟨A2, c2, rfl, hr2, -, hx⟩; exact ⟨_, rfl, hx, A2, c2, rfl, hr2⟩
          · intro ρ W ⟨kc, kg, kf⟩ hF hs
            obtain ⟨h0, -⟩ := hs
            replace h0 : ρ (.tmp 5) = .pointer (some ⟨w.heap.size + 1, 0, none⟩) := h0
            go_simp
            exact ⟨Ext.refl _, rfl⟩
          · intro ρ W ⟨kc, kg, kf⟩ hF hs
            obtain ⟨h0, -⟩ := hs
            replace h0 : ρ (.tmp 109) = .pointer (some ⟨w.heap.size + 1, 0, none⟩) := h0
            have hc0 : W.cell? ⟨w.heap.size + 1, 0, none⟩ = some (.int .i64 (l0)) := hF.cell (by assumption)
            go_simp
            exact ⟨Ext.refl _, rfl⟩
          · intro ρ W ⟨kc, kg, kf⟩ hF hs
            obtain ⟨h0, h1, -⟩ := hs
            replace h0 : (TrvC n xs) (ρ (.tmp 108)) W := h0
            replace h1 : ρ (.tmp 110) = .int .i64 (l0) := h1
            obtain ⟨A2, c2, hv, hr2⟩ := h0
            have hv2 : ρ (.tmp 108) = .agg #[.slice A2 n c2] := hv
            clear hv
            go_simp
            refine (HW0.out _ _ _ hr2).mono ?_; rintro e w' ⟨rfl, hx⟩; exact ⟨_, rfl, hx, rfl⟩
          · intro ρ W ⟨kc, kg, kf⟩ hF hs
            obtain ⟨h0, -⟩ := hs
            replace h0 : ρ (.tmp 111) = .tuple #[.agg #[.int .i64 p0.1, .int .i64 p0.2, .int .i64 q0.1, .int .i64 q0.2], .int .i64 e0] := h0
            go_simp
            exact ⟨Ext.refl _, rfl⟩
          · intro ρ W ⟨kc, kg, kf⟩ hF hs
            obtain ⟨h0, -⟩ := hs
            replace h0 : ρ (.tmp 106) = .tuple #[.agg #[.int .i64 p0.1, .int .i64 p0.2, .int .i64 q0.1, .int .i64 q0.2], .int .i64 e0] := h0
            go_simp
            exact ⟨Ext.refl _, rfl⟩
          · refine ⟨rfl, fun ρ W ⟨kc, kg, kf⟩ hF hs W' => ?_⟩
            obtain ⟨h0, -⟩ := hs
            replace h0 : ρ (.tmp 106) = .tuple #[.agg #[.int .i64 p0.1, .int .i64 p0.2, .int .i64 q0.1, .int .i64 q0.2], .int .i64 e0] := h0
            go_simp
          · intro ρ W ⟨kc, kg, kf⟩ hF hs
            exact ⟨W.alloc (.cells #[.int .i64 0, .int .i64 0, .int .i64 0, .int .i64 0] 34), (by go_simp), by simp, Ext.alloc _ _, _, rfl, hF.size, Blk.new _ _ _⟩
          · refine ⟨rfl, fun ρ W ⟨kc, kg, kf⟩ hF hs W' => ?_⟩
            obtain ⟨h0, -⟩ := hs
            replace h0 : ρ (.tmp 113) = .int .i64 (e0) := h0
            go_simp
        · intro fv U hF hs hap σ hσ ρ ⟨kc, kg, kf⟩ hr
          obtain ⟨-, -, -, -, -, -, h112, h113, h13, h14, -⟩ := hs
          replace h112 : fv 112 = .agg #[.int .i64 p0.1, .int .i64 p0.2, .int .i64 q0.1, .int .i64 q0.2] := h112
          replace h113 : fv 113 = .int .i64 (e0) := h113
          replace h13 : (NewP wr.heap.size 34 #[.int .i64 0, .int .i64 0, .int .i64 0, .int .i64 0]) (fv 13) U := h13
          replace h14 : fv 14 = .int .i64 (e0) := h14
          obtain ⟨r0, r1, -⟩ := hr
          replace r0 : ρ (.tmp 13) = fv 13 := r0
          replace r1 : ρ (.tmp 112) = .agg #[.int .i64 p0.1, .int .i64 p0.2, .int .i64 q0.1, .int .i64 q0.2] := r1.trans h112
          obtain ⟨q13, hq13, hqs13, hb13⟩ := h13
          rw [hq13] at r0
          have f13_0 := hb13.free 0
          have c13_0 : U.cell? ⟨q13, 0, none⟩ = some (.int .i64 0) := hb13.cell 0
          have f13_1 := hb13.free 1
          have c13_1 : U.cell? ⟨q13, 1, none⟩ = some (.int .i64 0) := hb13.cell 1
          have f13_2 := hb13.free 2
          have c13_2 : U.cell? ⟨q13, 2, none⟩ = some (.int .i64 0) := hb13.cell 2
          have f13_3 := hb13.free 3
          have c13_3 : U.cell? ⟨q13, 3, none⟩ = some (.int .i64 0) := hb13.cell 3
          refine stores_one _ rfl hσ ((((U.setCell ⟨q13, 0, none⟩ (.int .i64 p0.1)).setCell ⟨q13, 1, none⟩ (.int .i64 p0.2)).setCell ⟨q13, 2, none⟩ (.int .i64 q0.1)).setCell ⟨q13, 3, none⟩ (.int .i64 q0.2)) (by go_simp) ?_
          obtain ⟨W5, hW5⟩ : ∃ Vx, Vx = (((U.setCell ⟨q13, 0, none⟩ (.int .i64 p0.1)).setCell ⟨q13, 1, none⟩ (.int .i64 p0.2)).setCell ⟨q13, 2, none⟩ (.int .i64 q0.1)).setCell ⟨q13, 3, none⟩ (.int .i64 q0.2) := ⟨_, rfl⟩
          rw [← hW5]
          have K13 := Lib.hid (show Blk W5 q13 34 #[.int .i64 p0.1, .int .i64 p0.2, .int .i64 q0.1, .int .i64 q0.2] by rw [hW5]; exact (((hb13.setSame 0 _).setSame 1 _).setSame 2 _).setSame 3 _)
          have XN := Lib.hid (show Ext wr W5 by rw [hW5]; exact Ext.set (Ext.set (Ext.set (Ext.set hF (by dsimp only; exact hqs13) _) (by dsimp only; exact hqs13) _) (by dsimp only; exact hqs13) _) (by dsimp only; exact hqs13) _)
          have L13 := Lib.hid hqs13
          clear f13_0 c13_0 f13_1 c13_1 f13_2 c13_2 f13_3 c13_3
          clear hW5 hF hap hσ r0 r1 kc kg kf hb13 hqs13
          simp only [fin, List.filterMap]
          go_simp
          try rw [hq13]
          clear hq13
          clear ρ σ h112 h113 h14
          have XW := Lib.hid (XW.out.trans XN.out)
          have K0r := Lib.hid (K0r.out.ext XN.out)
          have K1r := Lib.hid (K1r.out.ext XN.out)
          have K8 := Lib.hid (K8.out.ext XN.out)
          have K9 := Lib.hid (K9.out.ext XN.out)
          have R1 := Lib.hid (R1.out.ext XN.out)
          have R2 := Lib.hid (R2.out.ext XN.out)
          clear XN L13 y0 z0 z1
          have y0 : W5.cell? ⟨w.heap.size, 0, none⟩ = some (.slice (some ⟨b, o, none⟩) n ca) := K0r.out.cell 0
          have z0 : W5.cell? ⟨w.heap.size + 1, 0, none⟩ = some (.int .i64 l0) := K1r.out.cell 0
          have z1 : W5.cell? ⟨w.heap.size + 1, 1, none⟩ = some (.int .i64 l1) := K1r.out.cell 1
          have y8 : W5.cell? ⟨q8, 0, none⟩ = some (.slice (some ⟨g1, 0, none⟩) n c1) := K8.out.cell 0
          go_wp2_with (go_at_call 18; refine (HW1.out _ _ _ R1.out).mono ?_; rintro e W6 ⟨rfl, hx⟩; have XW := Lib.hid (XW.out.trans hx); have K0r := Lib.hid (K0r.out.ext hx); have K1r := Lib.hid (K1r.out.ext hx); have K8 := Lib.hid (K8.out.ext hx); have K9 := Lib.hid (K9.out.ext hx); have R1 := Lib.hid (R1.out.ext hx); have R2 := Lib.hid (R2.out.ext hx); have K13 := Lib.hid (K13.out.ext hx); clear hx y0 z0 z1 y8; refine Hid.out ?_)
          refine Lib.hid ?_
          go_upto_region 16 with (fail)
          obtain ⟨V6, hV⟩ : ∃ V1, V1 = W6.alloc (.cells #[.int .i64 p1.1, .int .i64 p1.2, .int .i64 q1.1, .int .i64 q1.2] 34) := ⟨_, rfl⟩
          obtain ⟨q15, hq⟩ : ∃ q, q = W6.heap.size := ⟨_, rfl⟩
          rw [← hV, ← hq]
          have K15 := Lib.hid (show Blk V6 q15 34 #[.int .i64 p1.1, .int .i64 p1.2, .int .i64 q1.1, .int .i64 q1.2] by rw [hV, hq]; exact Blk.new _ _ _)
          have hx : Ext W6 V6 := by rw [hV]; exact Ext.alloc _ _
          have XW := Lib.hid (XW.out.trans hx)
          have K0r := Lib.hid (K0r.out.ext hx)
          have K1r := Lib.hid (K1r.out.ext hx)
          have K8 := Lib.hid (K8.out.ext hx)
          have K9 := Lib.hid (K9.out.ext hx)
          have R1 := Lib.hid (R1.out.ext hx)
          have R2 := Lib.hid (R2.out.ext hx)
          have K13 := Lib.hid (K13.out.ext hx)
          clear hx hV hq
          have y0 : V6.cell? ⟨w.heap.size, 0, none⟩ = some (.slice (some ⟨b, o, none⟩) n ca) := K0r.out.cell 0
          have z0 : V6.cell? ⟨w.heap.size + 1, 0, none⟩ = some (.int .i64 l0) := K1r.out.cell 0
          have z1 : V6.cell? ⟨w.heap.size + 1, 1, none⟩ = some (.int .i64 l1) := K1r.out.cell 1
          clear K8 R1
          have y8 : V6.cell? ⟨q9, 0, none⟩ = some (.slice (some ⟨g2, 0, none⟩) n c2) := K9.out.cell 0
          go_wp2_with (go_at_call 18; refine (HW2.out _ _ _ R2.out).mono ?_; rintro e W7 ⟨rfl, hx⟩; have XW := Lib.hid (XW.out.trans hx); have K0r := Lib.hid (K0r.out.ext hx); have K1r := Lib.hid (K1r.out.ext hx); have K9 := Lib.hid (K9.out.ext hx); have R2 := Lib.hid (R2.out.ext hx); have K13 := Lib.hid (K13.out.ext hx); have K15 := Lib.hid (K15.out.ext hx); clear hx y0 z0 z1 y8; refine Hid.out ?_)
          refine Lib.hid ?_
          go_upto_region 17 with (fail)
          obtain ⟨V7, hV⟩ : ∃ V1, V1 = W7.alloc (.cells #[.int .i64 p2.1, .int .i64 p2.2, .int .i64 q2.1, .int .i64 q2.2] 34) := ⟨_, rfl⟩
          obtain ⟨q17, hq⟩ : ∃ q, q = W7.heap.size := ⟨_, rfl⟩
          rw [← hV, ← hq]
          have K17 := Lib.hid (show Blk V7 q17 34 #[.int .i64 p2.1, .int .i64 p2.2, .int .i64 q2.1, .int .i64 q2.2] by rw [hV, hq]; exact Blk.new _ _ _)
          have hx : Ext W7 V7 := by rw [hV]; exact Ext.alloc _ _
          have XW := Lib.hid (XW.out.trans hx)
          have K0r := Lib.hid (K0r.out.ext hx)
          have K1r := Lib.hid (K1r.out.ext hx)
          have K9 := Lib.hid (K9.out.ext hx)
          have R2 := Lib.hid (R2.out.ext hx)
          have K13 := Lib.hid (K13.out.ext hx)
          have K15 := Lib.hid (K15.out.ext hx)
          clear hx hV hq
          have y0 : V7.cell? ⟨w.heap.size, 0, none⟩ = some (.slice (some ⟨b, o, none⟩) n ca) := K0r.out.cell 0
          have z0 : V7.cell? ⟨w.heap.size + 1, 0, none⟩ = some (.int .i64 l0) := K1r.out.cell 0
          have z1 : V7.cell? ⟨w.heap.size + 1, 1, none⟩ = some (.int .i64 l1) := K1r.out.cell 1
          clear K9 R2
          go_wp2
          refine wp_region_free [.op, .op, .op, .op, .op, .op, .op, .late (.int .i64 (e3)), .new, .store, .late (.int .i64 (e3))] [9] [19, 134] [19] [some 129, some 130, some 131, some 132, some 133, some 128, some 134, some 135, some 19, none, some 20] [[3], [129], [5], [131], [130, 132], [133], [128], [128], [], [19, 134], [135]]
            [Is (.agg #[.slice (some ⟨b, o, none⟩) n ca]), TrvC n xs, Is (.pointer (some ⟨w.heap.size + 1, 1, none⟩)), Is (.int .i64 (l1)), Is (.tuple #[.agg #[.int .i64 p3.1, .int .i64 p3.2, .int .i64 q3.1, .int .i64 q3.2], .int .i64 e3]), Is (.tuple #[.agg #[.int .i64 p3.1, .int .i64 p3.2, .int .i64 q3.1, .int .i64 q3.2], .int .i64 e3]), Is (.agg #[.int .i64 p3.1, .int .i64 p3.2, .int .i64 q3.1, .int .i64 q3.2]), Is (.int .i64 (e3)), NewP V7.heap.size 34 #[.int .i64 0, .int .i64 0, .int .i64 0, .int .i64 0], fun _ _ => True, Is (.int .i64 (e3))]
            (by kernel_rfl) (by kernel_rfl) (by kernel_rfl) (by kernel_rfl) (by kernel_rfl) (by kernel_rfl) (by kernel_rfl) (by kernel_rfl) (by kernel_rfl) Ext (fun W => Ext V7 W)
            (fun W _ => Ext.refl W) (fun W W' h k => h.trans k) (fun W W' h => h.size) ?_ (Ext.drew _) ?_ ?_
          · repeat (refine ⟨fun _ _ _ _ k h => (by first | exact h | exact (by first | exact IntsAt.ext h k | exact NewP.ext h k | exact TrvC.ext h k)), ?_⟩)
            exact trivial
          · refine ⟨?_, ?_, ?_, ?_, ?_, ?_, ?_, ?_, ?_, ?_, trivial⟩
            · intro ρ W ⟨kc, kg, kf⟩ hF hs
              obtain ⟨h0, -⟩ := hs
              replace h0 : ρ (.tmp 3) = .pointer (some ⟨w.heap.size, 0, none⟩) := h0
              have hc0 : W.cell? ⟨w.heap.size, 0, none⟩ = some (.slice (some ⟨b, o, none⟩) n ca) := hF.cell (by assumption)
              go_simp
              exact ⟨Ext.refl _, rfl⟩
            · intro ρ W ⟨kc, kg, kf⟩ hF hs
              obtain ⟨h0, -⟩ := hs
              replace h0 : ρ (.tmp 129) = .agg #[.slice (some ⟨b, o, none⟩) n ca] := h0
              go_simp
              refine (HCP.out _ (XW.out.trans hF)).mono ?_; rintro e w' ⟨A2, c2, rfl, hr2, -, hx⟩; exact ⟨_, rfl, hx, A2, c2, rfl, hr2⟩
            · intro ρ W ⟨kc, kg, kf⟩ hF hs
              obtain ⟨h0, -⟩ := hs
              replace h0 : ρ (.tmp 5) = .pointer (some ⟨w.heap.size + 1, 0, none⟩) := h0
              go_simp
              exact ⟨Ext.refl _, rfl⟩
            · intro ρ W ⟨kc, kg, kf⟩ hF hs
              obtain ⟨h0, -⟩ := hs
              replace h0 : ρ (.tmp 131) = .pointer (some ⟨w.heap.size + 1, 1, none⟩) := h0
              have hc0 : W.cell? ⟨w.heap.size + 1, 1, none⟩ = some (.int .i64 (l1)) := hF.cell (by assumption)
              go_simp
              exact ⟨Ext.refl _, rfl⟩
            · intro ρ W ⟨kc, kg, kf⟩ hF hs
              obtain ⟨h0, h1, -⟩ := hs
              replace h0 : (TrvC n xs) (ρ (.tmp 130)) W := h0
              replace h1 : ρ (.tmp 132) = .int .i64 (l1) := h1
              obtain ⟨A2, c2, hv, hr2⟩ := h0
              have hv2 : ρ (.tmp 130) = .agg #[.slice A2 n c2] := hv
              clear hv
              go_simp
              refine (HW3.out _ _ _ hr2).mono ?_; rintro e w' ⟨rfl, hx⟩; exact ⟨_, rfl, hx, rfl⟩
            · intro ρ W ⟨kc, kg, kf⟩ hF hs
              obtain ⟨h0, -⟩ := hs
              replace h0 : ρ (.tmp 133) = .tuple #[.agg #[.int .i64 p3.1, .int .i64 p3.2, .int .i64 q3.1, .int .i64 q3.2], .int .i64 e3] := h0
              go_simp
              exact ⟨Ext.refl _, rfl⟩
            · intro ρ W ⟨kc, kg, kf⟩ hF hs
              obtain ⟨h0, -⟩ := hs
              replace h0 : ρ (.tmp 128) = .tuple #[.agg #[.int .i64 p3.1, .int .i64 p3.2, .int .i64 q3.1, .int .i64 q3.2], .int .i64 e3] := h0
              go_simp
              exact ⟨Ext.refl _, rfl⟩
            · refine ⟨rfl, fun ρ W ⟨kc, kg, kf⟩ hF hs W' => ?_⟩
              obtain ⟨h0, -⟩ := hs
              replace h0 : ρ (.tmp 128) = .tuple #[.agg #[.int .i64 p3.1, .int .i64 p3.2, .int .i64 q3.1, .int .i64 q3.2], .int .i64 e3] := h0
              go_simp
            · intro ρ W ⟨kc, kg, kf⟩ hF hs
              exact ⟨W.alloc (.cells #[.int .i64 0, .int .i64 0, .int .i64 0, .int .i64 0] 34), (by go_simp), by simp, Ext.alloc _ _, _, rfl, hF.size, Blk.new _ _ _⟩
            · refine ⟨rfl, fun ρ W ⟨kc, kg, kf⟩ hF hs W' => ?_⟩
              obtain ⟨h0, -⟩ := hs
              replace h0 : ρ (.tmp 135) = .int .i64 (e3) := h0
              go_simp
          · intro fv U hF hs hap σ hσ ρ ⟨kc, kg, kf⟩ hr
            obtain ⟨-, -, -, -, -, -, h134, h135, h19, h20, -⟩ := hs
            replace h134 : fv 134 = .agg #[.int .i64 p3.1, .int .i64 p3.2, .int .i64 q3.1, .int .i64 q3.2] := h134
            replace h135 : fv 135 = .int .i64 (e3) := h135
            replace h19 : (NewP V7.heap.size 34 #[.int .i64 0, .int .i64 0, .int .i64 0, .int .i64 0]) (fv 19) U := h19
            replace h20 : fv 20 = .int .i64 (e3) := h20
            obtain ⟨r0, r1, -⟩ := hr
            replace r0 : ρ (.tmp 19) = fv 19 := r0
            replace r1 : ρ (.tmp 134) = .agg #[.int .i64 p3.1, .int .i64 p3.2, .int .i64 q3.1, .int .i64 q3.2] := r1.trans h134
            obtain ⟨q19, hq19, hqs19, hb19⟩ := h19
            rw [hq19] at r0
            have f19_0 := hb19.free 0
            have c19_0 : U.cell? ⟨q19, 0, none⟩ = some (.int .i64 0) := hb19.cell 0
            have f19_1 := hb19.free 1
            have c19_1 : U.cell? ⟨q19, 1, none⟩ = some (.int .i64 0) := hb19.cell 1
            have f19_2 := hb19.free 2
            have c19_2 : U.cell? ⟨q19, 2, none⟩ = some (.int .i64 0) := hb19.cell 2
            have f19_3 := hb19.free 3
            have c19_3 : U.cell? ⟨q19, 3, none⟩ = some (.int .i64 0) := hb19.cell 3
            refine stores_one _ rfl hσ ((((U.setCell ⟨q19, 0, none⟩ (.int .i64 p3.1)).setCell ⟨q19, 1, none⟩ (.int .i64 p3.2)).setCell ⟨q19, 2, none⟩ (.int .i64 q3.1)).setCell ⟨q19, 3, none⟩ (.int .i64 q3.2)) (by go_simp) ?_
            obtain ⟨W8, hW8⟩ : ∃ Vx, Vx = (((U.setCell ⟨q19, 0, none⟩ (.int .i64 p3.1)).setCell ⟨q19, 1, none⟩ (.int .i64 p3.2)).setCell ⟨q19, 2, none⟩ (.int .i64 q3.1)).setCell ⟨q19, 3, none⟩ (.int .i64 q3.2) := ⟨_, rfl⟩
            rw [← hW8]
            have K19 := Lib.hid (show Blk W8 q19 34 #[.int .i64 p3.1, .int .i64 p3.2, .int .i64 q3.1, .int .i64 q3.2] by rw [hW8]; exact (((hb19.setSame 0 _).setSame 1 _).setSame 2 _).setSame 3 _)
            have XN := Lib.hid (show Ext V7 W8 by rw [hW8]; exact Ext.set (Ext.set (Ext.set (Ext.set hF (by dsimp only; exact hqs19) _) (by dsimp only; exact hqs19) _) (by dsimp only; exact hqs19) _) (by dsimp only; exact hqs19) _)
            have L19 := Lib.hid hqs19
            clear f19_0 c19_0 f19_1 c19_1 f19_2 c19_2 f19_3 c19_3
            clear hW8 hF hap hσ r0 r1 kc kg kf hb19 hqs19
            simp only [fin, List.filterMap]
            go_simp
            try rw [hq19]
            clear hq19
            clear ρ σ h134 h135 h20
            have XW := Lib.hid (XW.out.trans XN.out)
            have K0r := Lib.hid (K0r.out.ext XN.out)
            have K1r := Lib.hid (K1r.out.ext XN.out)
            have K13 := Lib.hid (K13.out.ext XN.out)
            have K15 := Lib.hid (K15.out.ext XN.out)
            have K17 := Lib.hid (K17.out.ext XN.out)
            clear XN L19 y0 z0 z1
            have y0 : W8.cell? ⟨w.heap.size, 0, none⟩ = some (.slice (some ⟨b, o, none⟩) n ca) := K0r.out.cell 0
            have z0 : W8.cell? ⟨w.heap.size + 1, 0, none⟩ = some (.int .i64 l0) := K1r.out.cell 0
            have z1 : W8.cell? ⟨w.heap.size + 1, 1, none⟩ = some (.int .i64 l1) := K1r.out.cell 1
            go_upto_region 18 with (fail)
            clear y0 z0 z1
            refine r18 HSP0 HSP1 HSP2 HSP3 HEQ1 XW K0r K1r K13 K15 K17 K19 ?_
            clear XW K0r K1r K13 K15 K17 K19
            intro u106 u107 u108 u109 u110 u111 u112 u113 u114 u115 u116 u117 u118 u119 u120 u121 u122 u123 u124 u125 u126 u127 u128 u129 u130 u131 u132 u133 u134 u135 u136 u137 u138 u139 u140 u141 u142 u143 u144 u145 u146 u147 u148 u149 u150 u151 u152 u153 u154 u155 u156 u157 u158 u159 u160 u161 u162 u163 u164 u165 u166 u167 u168 u169 u170 u171 u172 u173 u174 u175 u176 u177 u178 u179 W9 hrel
            obtain ⟨hx, k0, k1, k13, k15, k17, k19⟩ := hrel
            have XW := Lib.hid hx
            have K0r := Lib.hid k0
            have K1r := Lib.hid k1
            have K13 := Lib.hid k13
            have K15 := Lib.hid k15
            have K17 := Lib.hid k17
            have K19 := Lib.hid k19
            clear hx k0 k1 k13 k15 k17 k19
            clear HEQ1 HSP0 HSP1 HSP2 HSP3
            go_upto_region 20 with (fail)
            refine r20 HIN01 HIN02 HIN12 XW K0r K1r K13 K15 K17 K19 ?_
            clear XW K0r K1r K13 K15 K17 K19
            intro u181 u182 u183 u184 u185 u186 u187 u188 u189 u190 u191 u192 u193 u194 u195 u196 u197 u198 u199 u200 u201 u202 u203 u204 u205 u206 u207 u208 u209 u210 u211 u212 u213 u214 u215 u216 u217 u218 u219 W10 hrel
            obtain ⟨hx, k0, k1, k13, k15, k17, k19⟩ := hrel
            have XW := Lib.hid hx
            have K0r := Lib.hid k0
            have K1r := Lib.hid k1
            have K13 := Lib.hid k13
            have K15 := Lib.hid k15
            have K17 := Lib.hid k17
            have K19 := Lib.hid k19
            clear hx k0 k1 k13 k15 k17 k19
            clear HIN01 HIN02 HIN12
            go_upto_region 22 with (fail)
            refine r22 HCM XW K0r K1r K13 K15 K17 K19 ?_
            clear XW K0r K1r K13 K15 K17 K19
            intro u221 u222 u223 u224 u225 u226 u227 u228 u229 u230 u231 u232 u233 u234 u235 u236 u237 u238 u239 u240 u241 u242 W11 hrel
            obtain ⟨rfl, hx, k0, k1, k13⟩ := hrel
            have XW := Lib.hid hx
            have K0r := Lib.hid k0
            have K1r := Lib.hid k1
            have K13 := Lib.hid k13
            clear hx k0 k1 k13
            clear HCM C1 C2 C3 SP1 SP2 SP3 HW0 HW1 HW2 HW3
            by_cases he0 : e0 = 0
            · subst he0
              obtain ⟨hf0, hf1⟩ : fallK (loP xs) l0 n 0 = some p0 ∧ fallK (upP xs) l0 n 0 = some q0 := by
                rcases C0.out with ⟨-, -, h | h⟩ | ⟨-, ha, hb⟩
                · cases h
                · cases h
                · exact ⟨ha, hb⟩
              have HE0 := Lib.hid (end_all (up := false) HN.out HZ.out HB0.out hf0)
              have HE1 := Lib.hid (end_all (up := true) HN.out HZ.out HB0.out hf1)
              have hd0 : 0 ≤ (xs.getD 0 default).d ∧ (xs.getD 0 default).d ≤ 10000 := by have := HOK.out 0 (by omega); omega
              have HD0 := Lib.hid hd0
              clear hf0 hf1 C0 SP0 hd0
              go_wp2
              go_loopw [21] (fun i wr => ∃ k : Nat, k ≤ 2 ∧ i = .int .i64 k ∧ Ext w wr ∧ Blk wr w.heap.size 24 #[.slice (some ⟨b, o, none⟩) n ca] ∧ Blk wr (w.heap.size + 1) 52 #[.int .i64 l0, .int .i64 l1] ∧ Blk wr q13 34 #[.int .i64 p0.1, .int .i64 p0.2, .int .i64 q0.1, .int .i64 q0.2]) (fun i _ => 2 - (intOf i).toNat)
              case atStart => exact ⟨0, by omega, rfl, XW.out, K0r.out, K1r.out, K13.out⟩
              case round =>
                obtain ⟨k, hk, rfl, hx, k0, k1, k13⟩ := hrel
                clear XW K0r K1r K13
                have XW := Lib.hid hx
                have K0r := Lib.hid k0
                have K1r := Lib.hid k1
                have K13 := Lib.hid k13
                clear hx k0 k1 k13
                rcases (show k = 0 ∨ k = 1 ∨ k = 2 by omega) with rfl | rfl | rfl
                · obtain ⟨d, lo, hi, hfl, hha, hlow, hval⟩ := HE0.out
                  have HFL := Lib.hid hfl
                  have HHA := Lib.hid hha
                  replace hlow : Low lo := hlow
                  replace hval : (xs.getD 0 default).d < d → l0 * lo.2 ≤ lo.1 := hval
                  have HSM := Lib.hid (fun W => isSmall_ok lo.1 lo.2 W hlow.a hlow.b)
                  have HCM := Lib.hid (show (xs.getD 0 default).d < d → ∃ c : Int, 0 ≤ c ∧ ∀ W, Calls Try.prog 29 #[.agg #[.int .i64 lo.1, .int .i64 lo.2], .agg #[.int .i64 l0, .int .i64 1]] W fun e w' => e = .returned (.int .i64 c) ∧ Ext W w' from fun h =>
                    ⟨cmpV (lo.1 * 1) (l0 * lo.2), cmp_ge (by have := hval h; omega), fun W => low_cmp_any hlow (low_whole (d := l0) (by have := HB0.out; omega)) W⟩)
                  obtain ⟨x0, hx0⟩ : ∃ x0, x0 = xs.getD 0 default := ⟨_, rfl⟩
                  have g0 := HAT.out 0 (by omega)
                  obtain ⟨b2, o2, he, -, hc⟩ := row_at HR.out g0
                  obtain ⟨rfl, rfl⟩ : b = b2 ∧ o = o2 := by simpa using he
                  have G0 := Lib.hid (show w.cell? ⟨b, o, none⟩ = some (.int .i64 x0.d) by have := hc 0 _ rfl; rw [← hx0] at this; simpa using this)
                  rw [← hx0] at HCM
                  clear hfl hha hlow hval hc he g0 hx0 HE0 HE1
                  have v13_0 : wr.cell? ⟨q13, 0, none⟩ = some (.int .i64 p0.1) := K13.out.cell 0
                  have v13_1 : wr.cell? ⟨q13, 1, none⟩ = some (.int .i64 p0.2) := K13.out.cell 1
                  have v13_2 : wr.cell? ⟨q13, 2, none⟩ = some (.int .i64 q0.1) := K13.out.cell 2
                  have v13_3 : wr.cell? ⟨q13, 3, none⟩ = some (.int .i64 q0.2) := K13.out.cell 3
                  go_upto_region 30 with (fail)
                  obtain ⟨V1, hV⟩ : ∃ V, V = (wr.alloc (.cells #[.int .i64 p0.1, .int .i64 p0.2, .int .i64 q0.1, .int .i64 q0.2] 32)).alloc (.cells #[.int .i64 p0.1, .int .i64 p0.2] 32) := ⟨_, rfl⟩
                  obtain ⟨q22, hq⟩ : ∃ q, q = (wr.alloc (.cells #[.int .i64 p0.1, .int .i64 p0.2, .int .i64 q0.1, .int .i64 q0.2] 32)).heap.size := ⟨_, rfl⟩
                  have hq' : wr.heap.size + 1 = q22 := by rw [hq]; simp
                  rw [← hV]
                  try rw [hq']
                  have K22 := Lib.hid (show Blk V1 q22 32 #[.int .i64 p0.1, .int .i64 p0.2] by rw [hV, hq]; exact Blk.new _ _ _)
                  have hx : Ext wr V1 := by rw [hV]; exact (Ext.alloc _ _).trans (Ext.alloc _ _)
                  have XW := Lib.hid (XW.out.trans hx)
                  have K0r := Lib.hid (K0r.out.ext hx)
                  have K1r := Lib.hid (K1r.out.ext hx)
                  have K13 := Lib.hid (K13.out.ext hx)
                  clear hx hV hq hq' v13_0 v13_1 v13_2 v13_3
                  have u0 : V1.cell? ⟨q22, 0, none⟩ = some (.int .i64 p0.1) := K22.out.cell 0
                  have u1 : V1.cell? ⟨q22, 1, none⟩ = some (.int .i64 p0.2) := K22.out.cell 1
                  go_wp2_with (go_at_call 30; refine (HFL.out _).mono ?_; rintro e w2 ⟨rfl, rfl⟩; refine Hid.out ?_)
                  refine Lib.hid ?_
                  clear u0 u1 K22
                  have y0 : V1.cell? ⟨w.heap.size, 0, none⟩ = some (.slice (some ⟨b, o, none⟩) n ca) := K0r.out.cell 0
                  go_wp2_with (go_at_call 16; refine (HCP.out _ XW.out).mono ?_; rintro e V2 ⟨A2, c2, rfl, hr2, -, hx⟩; have R2 := Lib.hid hr2; have XW := Lib.hid (XW.out.trans hx); have K0r := Lib.hid (K0r.out.ext hx); have K1r := Lib.hid (K1r.out.ext hx); have K13 := Lib.hid (K13.out.ext hx); clear hx hr2 y0; refine Hid.out ?_)
                  refine Lib.hid ?_
                  go_wp2_with (go_at_call 17; refine (HHA.out _ _ _ R2.out).mono ?_; rintro e V3 ⟨rfl, hx⟩; have XW := Lib.hid (XW.out.trans hx); have K0r := Lib.hid (K0r.out.ext hx); have K1r := Lib.hid (K1r.out.ext hx); have K13 := Lib.hid (K13.out.ext hx); clear hx R2; refine Hid.out ?_)
                  refine Lib.hid ?_
                  go_upto_region 32 with (fail)
                  obtain ⟨V4, hV⟩ : ∃ V, V = V3.alloc (.cells #[.int .i64 lo.1, .int .i64 lo.2, .int .i64 hi.1, .int .i64 hi.2] 34) := ⟨_, rfl⟩
                  obtain ⟨q24, hq⟩ : ∃ q, q = V3.heap.size := ⟨_, rfl⟩
                  rw [← hV, ← hq]
                  have K24 := Lib.hid (show Blk V4 q24 34 #[.int .i64 lo.1, .int .i64 lo.2, .int .i64 hi.1, .int .i64 hi.2] by rw [hV, hq]; exact Blk.new _ _ _)
                  have hx : Ext V3 V4 := by rw [hV]; exact Ext.alloc _ _
                  have XW := Lib.hid (XW.out.trans hx)
                  have K0r := Lib.hid (K0r.out.ext hx)
                  have K1r := Lib.hid (K1r.out.ext hx)
                  have K13 := Lib.hid (K13.out.ext hx)
                  clear hx hV hq
                  have u0 : V4.cell? ⟨q24, 0, none⟩ = some (.int .i64 lo.1) := K24.out.cell 0
                  have u1 : V4.cell? ⟨q24, 1, none⟩ = some (.int .i64 lo.2) := K24.out.cell 1
                  have u2 : V4.cell? ⟨q24, 2, none⟩ = some (.int .i64 hi.1) := K24.out.cell 2
                  have u3 : V4.cell? ⟨q24, 3, none⟩ = some (.int .i64 hi.2) := K24.out.cell 3
                  go_upto_region 35 with (fail)
                  obtain ⟨V5, hV⟩ : ∃ V, V = (V4.alloc (.cells #[.int .i64 lo.1, .int .i64 lo.2, .int .i64 hi.1, .int .i64 hi.2] 32)).alloc (.cells #[.int .i64 lo.1, .int .i64 lo.2] 32) := ⟨_, rfl⟩
                  obtain ⟨q26, hq⟩ : ∃ q, q = (V4.alloc (.cells #[.int .i64 lo.1, .int .i64 lo.2, .int .i64 hi.1, .int .i64 hi.2] 32)).heap.size := ⟨_, rfl⟩
                  have hq' : V4.heap.size + 1 = q26 := by rw [hq]; simp
                  rw [← hV]
                  try rw [hq']
                  have K26 := Lib.hid (show Blk V5 q26 32 #[.int .i64 lo.1, .int .i64 lo.2] by rw [hV, hq]; exact Blk.new _ _ _)
                  have hx : Ext V4 V5 := by rw [hV]; exact (Ext.alloc _ _).trans (Ext.alloc _ _)
                  have XW := Lib.hid (XW.out.trans hx)
                  have K0r := Lib.hid (K0r.out.ext hx)
                  have K1r := Lib.hid (K1r.out.ext hx)
                  have K13 := Lib.hid (K13.out.ext hx)
                  clear hx hV hq hq' u0 u1 u2 u3 K24
                  have y0 : V5.cell? ⟨w.heap.size, 0, none⟩ = some (.slice (some ⟨b, o, none⟩) n ca) := K0r.out.cell 0
                  have z0 : V5.cell? ⟨w.heap.size + 1, 0, none⟩ = some (.int .i64 l0) := K1r.out.cell 0
                  have u0 : V5.cell? ⟨q26, 0, none⟩ = some (.int .i64 lo.1) := K26.out.cell 0
                  have u1 : V5.cell? ⟨q26, 1, none⟩ = some (.int .i64 lo.2) := K26.out.cell 1
                  have g0 : V5.cell? ⟨b, o, none⟩ = some (.int .i64 x0.d) := XW.out.cell G0.out
                  by_cases hdp : x0.d < d
                  · obtain ⟨c, hc0, hcm⟩ := HCM.out hdp
                    have HCM2 := Lib.hid hcm
                    clear hcm HCM
                    refine wp_region_eachG [(288, false), (288, false), (288, false), (288, false), (288, false), (288, false), (288, false), (288, false), (296, true), (296, true), (296, true), (296, true), (296, true), (296, true), (288, false)] [some 285, some 286, some 287, some 288, some 289, some 290, some 291, some 292, some 293, some 294, some 295, some 296, some 297, some 298, some 299, some 300, some 301, some 302, some 303, some 304] [[26], [285], [286], [287], [23, 288], [3, 288], [290, 288], [291, 288], [292, 288], [293, 288], [289, 294, 288], [295, 288], [26, 296], [5, 296], [298, 296], [299, 296], [297, 300, 296], [301, 296], [296, 302, 288], [288, 303]]
                      [Is (.agg #[.int .i64 (lo.1), .int .i64 (lo.2)]), Is (.bool (true)), Is (.bool (false)), Is (.bool (false)), Is (.int .i64 (d)), Is (.pointer (some ⟨w.heap.size, 0, none⟩)), Is (.slice (some ⟨b, o, none⟩) n ca), Is (.pointer (some ⟨b, o, none⟩)), Is (.pointer (some ⟨b, o, none⟩)), Is (.int .i64 (x0.d)), Is (.bool (true)), Is (.bool (true)), Is (.agg #[.int .i64 (lo.1), .int .i64 (lo.2)]), Is (.pointer (some ⟨w.heap.size + 1, 0, none⟩)), Is (.int .i64 (l0)), Is (.agg #[.int .i64 l0, .int .i64 1]), Is (.int .i64 (c)), Is (.bool (false)), Is (.bool (false)), Is (.bool (false))]
                      (by kernel_rfl) (by kernel_rfl) (by kernel_rfl) (by kernel_rfl) (by kernel_rfl) Ext (fun W => Ext V5 W)
                      (fun W _ => Ext.refl W) (fun W W' h k => h.trans k) ?_ (by intro p hp; simp only [List.mem_cons, List.not_mem_nil, or_false] at hp; rcases hp with rfl | rfl | rfl | rfl | rfl | rfl | rfl | rfl | rfl | rfl | rfl | rfl | rfl | rfl | rfl <;> exact ⟨_, rfl, fun _ _ h => h⟩) (Ext.drew _) ?_ ?_
                    · repeat (refine ⟨fun _ _ _ _ k h => (by first | exact h | exact (IntsAt.ext h k)), ?_⟩)
                      exact trivial
                    · refine ⟨?_, ?_, ?_, ?_, ?_, ?_, ?_, ?_, ?_, ?_, ?_, ?_, ?_, ?_, ?_, ?_, ?_, ?_, ?_, ?_, trivial⟩
                      all_goals intro ρ W ⟨kc, kg, kf⟩ hF hs
                      · obtain ⟨h0, -⟩ := hs
                        replace h0 : ρ (.tmp 26) = .pointer (some ⟨q26, 0, none⟩) := h0
                        have hc0 : W.cell? ⟨q26, 0, none⟩ = some (.int .i64 (lo.1)) := hF.cell (by assumption)
                        have hc1 : W.cell? ⟨q26, 1, none⟩ = some (.int .i64 (lo.2)) := hF.cell (by assumption)
                        go_simp
                        exact ⟨Ext.refl _, rfl⟩
                      · obtain ⟨h0, -⟩ := hs
                        replace h0 : ρ (.tmp 285) = .agg #[.int .i64 (lo.1), .int .i64 (lo.2)] := h0
                        go_simp
                        refine (HSM.out _).mono ?_; rintro e w' ⟨rfl, hx⟩; exact ⟨_, rfl, hx, rfl⟩
                      · obtain ⟨h0, -⟩ := hs
                        replace h0 : ρ (.tmp 286) = .bool (true) := h0
                        go_simp
                        exact ⟨Ext.refl _, rfl⟩
                      · obtain ⟨h0, -⟩ := hs
                        replace h0 : ρ (.tmp 287) = .bool (false) := h0
                        go_simp
                        exact ⟨Ext.refl _, rfl⟩
                      · obtain ⟨h0, h1, -⟩ := hs
                        replace h0 : ρ (.tmp 23) = .int .i64 (d) := h0
                        replace h1 : ρ (.tmp 288) = .bool (false) := h1
                        go_simp
                        exact ⟨Ext.refl _, rfl⟩
                      · obtain ⟨h0, h1, -⟩ := hs
                        replace h0 : ρ (.tmp 3) = .pointer (some ⟨w.heap.size, 0, none⟩) := h0
                        replace h1 : ρ (.tmp 288) = .bool (false) := h1
                        go_simp
                        exact ⟨Ext.refl _, rfl⟩
                      · obtain ⟨h0, h1, -⟩ := hs
                        replace h0 : ρ (.tmp 290) = .pointer (some ⟨w.heap.size, 0, none⟩) := h0
                        replace h1 : ρ (.tmp 288) = .bool (false) := h1
                        have hc0 : W.cell? ⟨w.heap.size, 0, none⟩ = some (.slice (some ⟨b, o, none⟩) n ca) := hF.cell (by assumption)
                        go_simp
                        exact ⟨Ext.refl _, rfl⟩
                      · obtain ⟨h0, h1, -⟩ := hs
                        replace h0 : ρ (.tmp 291) = .slice (some ⟨b, o, none⟩) n ca := h0
                        replace h1 : ρ (.tmp 288) = .bool (false) := h1
                        have hb2 : (0 : Int) < (n : Int) := by omega
                        have hb3 : 0 < n := by omega
                        go_simp
                        exact ⟨Ext.refl _, rfl⟩
                      · obtain ⟨h0, h1, -⟩ := hs
                        replace h0 : ρ (.tmp 292) = .pointer (some ⟨b, o, none⟩) := h0
                        replace h1 : ρ (.tmp 288) = .bool (false) := h1
                        go_simp
                        exact ⟨Ext.refl _, rfl⟩
                      · obtain ⟨h0, h1, -⟩ := hs
                        replace h0 : ρ (.tmp 293) = .pointer (some ⟨b, o, none⟩) := h0
                        replace h1 : ρ (.tmp 288) = .bool (false) := h1
                        have hc0 : W.cell? ⟨b, o, none⟩ = some (.int .i64 (x0.d)) := hF.cell (by assumption)
                        go_simp
                        exact ⟨Ext.refl _, rfl⟩
                      · obtain ⟨h0, h1, h2, -⟩ := hs
                        replace h0 : ρ (.tmp 289) = .int .i64 (d) := h0
                        replace h1 : ρ (.tmp 294) = .int .i64 (x0.d) := h1
                        replace h2 : ρ (.tmp 288) = .bool (false) := h2
                        have hd : decide (x0.d < d) = true := by simp; omega
                        go_simp
                        exact ⟨Ext.refl _, rfl⟩
                      · obtain ⟨h0, h1, -⟩ := hs
                        replace h0 : ρ (.tmp 295) = .bool (true) := h0
                        replace h1 : ρ (.tmp 288) = .bool (false) := h1
                        go_simp
                        exact ⟨Ext.refl _, rfl⟩
                      · obtain ⟨h0, h1, -⟩ := hs
                        replace h0 : ρ (.tmp 26) = .pointer (some ⟨q26, 0, none⟩) := h0
                        replace h1 : ρ (.tmp 296) = .bool (true) := h1
                        have hc0 : W.cell? ⟨q26, 0, none⟩ = some (.int .i64 (lo.1)) := hF.cell (by assumption)
                        have hc1 : W.cell? ⟨q26, 1, none⟩ = some (.int .i64 (lo.2)) := hF.cell (by assumption)
                        go_simp
                        exact ⟨Ext.refl _, rfl⟩
                      · obtain ⟨h0, h1, -⟩ := hs
                        replace h0 : ρ (.tmp 5) = .pointer (some ⟨w.heap.size + 1, 0, none⟩) := h0
                        replace h1 : ρ (.tmp 296) = .bool (true) := h1
                        go_simp
                        exact ⟨Ext.refl _, rfl⟩
                      · obtain ⟨h0, h1, -⟩ := hs
                        replace h0 : ρ (.tmp 298) = .pointer (some ⟨w.heap.size + 1, 0, none⟩) := h0
                        replace h1 : ρ (.tmp 296) = .bool (true) := h1
                        have hc0 : W.cell? ⟨w.heap.size + 1, 0, none⟩ = some (.int .i64 (l0)) := hF.cell (by assumption)
                        go_simp
                        exact ⟨Ext.refl _, rfl⟩
                      · obtain ⟨h0, h1, -⟩ := hs
                        replace h0 : ρ (.tmp 299) = .int .i64 (l0) := h0
                        replace h1 : ρ (.tmp 296) = .bool (true) := h1
                        go_simp
                        refine (whole_any _ _).mono ?_; rintro e w' ⟨rfl, hx⟩; exact ⟨_, rfl, hx, rfl⟩
                      · obtain ⟨h0, h1, h2, -⟩ := hs
                        replace h0 : ρ (.tmp 297) = .agg #[.int .i64 (lo.1), .int .i64 (lo.2)] := h0
                        replace h1 : ρ (.tmp 300) = .agg #[.int .i64 l0, .int .i64 1] := h1
                        replace h2 : ρ (.tmp 296) = .bool (true) := h2
                        go_simp
                        refine (HCM2.out _).mono ?_; rintro e w' ⟨rfl, hx⟩; exact ⟨_, rfl, hx, rfl⟩
                      · obtain ⟨h0, h1, -⟩ := hs
                        replace h0 : ρ (.tmp 301) = .int .i64 (c) := h0
                        replace h1 : ρ (.tmp 296) = .bool (true) := h1
                        have hd : decide (c < (0 : Int)) = false := by simp; omega
                        go_simp
                        exact ⟨Ext.refl _, rfl⟩
                      · obtain ⟨h0, h1, h2, -⟩ := hs
                        replace h0 : ρ (.tmp 296) = .bool (true) := h0
                        replace h1 : ρ (.tmp 302) = .bool (false) := h1
                        replace h2 : ρ (.tmp 288) = .bool (false) := h2
                        go_simp
                        exact ⟨Ext.refl _, rfl⟩
                      · obtain ⟨h0, h1, -⟩ := hs
                        replace h0 : ρ (.tmp 288) = .bool (false) := h0
                        replace h1 : ρ (.tmp 303) = .bool (false) := h1
                        go_simp
                        exact ⟨Ext.refl _, rfl⟩
                    · intro fv V6 hF hs
                      obtain ⟨-, -, -, -, -, -, -, -, -, -, -, -, -, -, -, -, -, -, -, h304, -⟩ := hs
                      replace h304 : fv 304 = .bool (false) := h304
                      simp only [fin, List.filterMap]
                      go_simp
                      have XW := Lib.hid (XW.out.trans hF)
                      have K0r := Lib.hid (K0r.out.ext hF)
                      have K1r := Lib.hid (K1r.out.ext hF)
                      have K13 := Lib.hid (K13.out.ext hF)
                      clear hF y0 z0 u0 u1 g0 h304
                      go_wp2
                      go_roundw
                      case rel => exact ⟨1, by omega, by go_num, XW.out, K0r.out, K1r.out, K13.out⟩
                      case measure => simp [intOf]
                  · refine wp_region_eachM [true, true, true, true, true, true, true, true, true, true, true, true, false, false, false, false, false, false, true, true] [(288, false, true), (288, false, true), (288, false, true), (288, false, true), (288, false, true), (288, false, true), (288, false, true), (288, false, true), (296, true, false), (296, true, false), (296, true, false), (296, true, false), (296, true, false), (296, true, false), (288, false, true)] [some 285, some 286, some 287, some 288, some 289, some 290, some 291, some 292, some 293, some 294, some 295, some 296, some 297, some 298, some 299, some 300, some 301, some 302, some 303, some 304] [[26], [285], [286], [287], [23, 288], [3, 288], [290, 288], [291, 288], [292, 288], [293, 288], [289, 294, 288], [295, 288], [26, 296], [5, 296], [298, 296], [299, 296], [297, 300, 296], [301, 296], [296, 302, 288], [288, 303]]
                      [Is (.agg #[.int .i64 (lo.1), .int .i64 (lo.2)]), Is (.bool (true)), Is (.bool (false)), Is (.bool (false)), Is (.int .i64 (d)), Is (.pointer (some ⟨w.heap.size, 0, none⟩)), Is (.slice (some ⟨b, o, none⟩) n ca), Is (.pointer (some ⟨b, o, none⟩)), Is (.pointer (some ⟨b, o, none⟩)), Is (.int .i64 (x0.d)), Is (.bool (false)), Is (.bool (false)), Is (undef), Is (undef), Is (undef), Is (undef), Is (undef), Is (undef), Is (.bool (false)), Is (.bool (false))]
                      (by kernel_rfl) (by kernel_rfl) (by kernel_rfl) (by kernel_rfl) (by kernel_rfl) Ext (fun W => Ext V5 W)
                      (fun W _ => Ext.refl W) (fun W W' h k => h.trans k) ?_ (by intro p hp; simp only [List.mem_cons, List.not_mem_nil, or_false] at hp; rcases hp with rfl | rfl | rfl | rfl | rfl | rfl | rfl | rfl | rfl | rfl | rfl | rfl | rfl | rfl | rfl <;> exact ⟨_, rfl, fun v W h => by rw [show v = _ from h]; first | (simp; done) | (simp [undef]; done)⟩) (Ext.drew _) ?_ ?_
                    · repeat (refine ⟨fun _ _ _ _ k h => (by first | exact h | exact (IntsAt.ext h k)), ?_⟩)
                      exact trivial
                    · refine ⟨?_, ?_, ?_, ?_, ?_, ?_, ?_, ?_, ?_, ?_, ?_, ?_, ?_, ?_, ?_, ?_, ?_, ?_, ?_, ?_, trivial⟩
                      · intro ρ W ⟨kc, kg, kf⟩ hF hs
                        obtain ⟨h0, -⟩ := hs
                        replace h0 : ρ (.tmp 26) = .pointer (some ⟨q26, 0, none⟩) := h0
                        have hc0 : W.cell? ⟨q26, 0, none⟩ = some (.int .i64 (lo.1)) := hF.cell (by assumption)
                        have hc1 : W.cell? ⟨q26, 1, none⟩ = some (.int .i64 (lo.2)) := hF.cell (by assumption)
                        go_simp
                        exact ⟨Ext.refl _, rfl⟩
                      · intro ρ W ⟨kc, kg, kf⟩ hF hs
                        obtain ⟨h0, -⟩ := hs
                        replace h0 : ρ (.tmp 285) = .agg #[.int .i64 (lo.1), .int .i64 (lo.2)] := h0
                        go_simp
                        refine (HSM.out _).mono ?_; rintro e w' ⟨rfl, hx⟩; exact ⟨_, rfl, hx, rfl⟩
                      · intro ρ W ⟨kc, kg, kf⟩ hF hs
                        obtain ⟨h0, -⟩ := hs
                        replace h0 : ρ (.tmp 286) = .bool (true) := h0
                        go_simp
                        exact ⟨Ext.refl _, rfl⟩
                      · intro ρ W ⟨kc, kg, kf⟩ hF hs
                        obtain ⟨h0, -⟩ := hs
                        replace h0 : ρ (.tmp 287) = .bool (false) := h0
                        go_simp
                        exact ⟨Ext.refl _, rfl⟩
                      · intro ρ W ⟨kc, kg, kf⟩ hF hs
                        obtain ⟨h0, h1, -⟩ := hs
                        replace h0 : ρ (.tmp 23) = .int .i64 (d) := h0
                        replace h1 : ρ (.tmp 288) = .bool (false) := h1
                        go_simp
                        exact ⟨Ext.refl _, rfl⟩
                      · intro ρ W ⟨kc, kg, kf⟩ hF hs
                        obtain ⟨h0, h1, -⟩ := hs
                        replace h0 : ρ (.tmp 3) = .pointer (some ⟨w.heap.size, 0, none⟩) := h0
                        replace h1 : ρ (.tmp 288) = .bool (false) := h1
                        go_simp
                        exact ⟨Ext.refl _, rfl⟩
                      · intro ρ W ⟨kc, kg, kf⟩ hF hs
                        obtain ⟨h0, h1, -⟩ := hs
                        replace h0 : ρ (.tmp 290) = .pointer (some ⟨w.heap.size, 0, none⟩) := h0
                        replace h1 : ρ (.tmp 288) = .bool (false) := h1
                        have hc0 : W.cell? ⟨w.heap.size, 0, none⟩ = some (.slice (some ⟨b, o, none⟩) n ca) := hF.cell (by assumption)
                        go_simp
                        exact ⟨Ext.refl _, rfl⟩
                      · intro ρ W ⟨kc, kg, kf⟩ hF hs
                        obtain ⟨h0, h1, -⟩ := hs
                        replace h0 : ρ (.tmp 291) = .slice (some ⟨b, o, none⟩) n ca := h0
                        replace h1 : ρ (.tmp 288) = .bool (false) := h1
                        have hb2 : (0 : Int) < (n : Int) := by omega
                        have hb3 : 0 < n := by omega
                        go_simp
                        exact ⟨Ext.refl _, rfl⟩
                      · intro ρ W ⟨kc, kg, kf⟩ hF hs
                        obtain ⟨h0, h1, -⟩ := hs
                        replace h0 : ρ (.tmp 292) = .pointer (some ⟨b, o, none⟩) := h0
                        replace h1 : ρ (.tmp 288) = .bool (false) := h1
                        go_simp
                        exact ⟨Ext.refl _, rfl⟩
                      · intro ρ W ⟨kc, kg, kf⟩ hF hs
                        obtain ⟨h0, h1, -⟩ := hs
                        replace h0 : ρ (.tmp 293) = .pointer (some ⟨b, o, none⟩) := h0
                        replace h1 : ρ (.tmp 288) = .bool (false) := h1
                        have hc0 : W.cell? ⟨b, o, none⟩ = some (.int .i64 (x0.d)) := hF.cell (by assumption)
                        go_simp
                        exact ⟨Ext.refl _, rfl⟩
                      · intro ρ W ⟨kc, kg, kf⟩ hF hs
                        obtain ⟨h0, h1, h2, -⟩ := hs
                        replace h0 : ρ (.tmp 289) = .int .i64 (d) := h0
                        replace h1 : ρ (.tmp 294) = .int .i64 (x0.d) := h1
                        replace h2 : ρ (.tmp 288) = .bool (false) := h2
                        have hd : decide (x0.d < d) = false := by simp; omega
                        go_simp
                        exact ⟨Ext.refl _, rfl⟩
                      · intro ρ W ⟨kc, kg, kf⟩ hF hs
                        obtain ⟨h0, h1, -⟩ := hs
                        replace h0 : ρ (.tmp 295) = .bool (false) := h0
                        replace h1 : ρ (.tmp 288) = .bool (false) := h1
                        go_simp
                        exact ⟨Ext.refl _, rfl⟩
                      · exact fun _ => rfl
                      · exact fun _ => rfl
                      · exact fun _ => rfl
                      · exact fun _ => rfl
                      · exact fun _ => rfl
                      · exact fun _ => rfl
                      · intro ρ W ⟨kc, kg, kf⟩ hF hs
                        obtain ⟨h0, h1, h2, -⟩ := hs
                        replace h0 : ρ (.tmp 296) = .bool (false) := h0
                        replace h1 : ρ (.tmp 302) = undef := h1
                        replace h2 : ρ (.tmp 288) = .bool (false) := h2
                        go_simp
                        exact ⟨Ext.refl _, rfl⟩
                      · intro ρ W ⟨kc, kg, kf⟩ hF hs
                        obtain ⟨h0, h1, -⟩ := hs
                        replace h0 : ρ (.tmp 288) = .bool (false) := h0
                        replace h1 : ρ (.tmp 303) = .bool (false) := h1
                        go_simp
                        exact ⟨Ext.refl _, rfl⟩
                    · intro fv V6 hF hs
                      obtain ⟨-, -, -, -, -, -, -, -, -, -, -, -, -, -, -, -, -, -, -, h304, -⟩ := hs
                      replace h304 : fv 304 = .bool (false) := h304
                      simp only [fin, List.filterMap]
                      go_simp
                      have XW := Lib.hid (XW.out.trans hF)
                      have K0r := Lib.hid (K0r.out.ext hF)
                      have K1r := Lib.hid (K1r.out.ext hF)
                      have K13 := Lib.hid (K13.out.ext hF)
                      clear hF y0 z0 u0 u1 g0 h304
                      go_wp2
                      go_roundw
                      case rel => exact ⟨1, by omega, by go_num, XW.out, K0r.out, K1r.out, K13.out⟩
                      case measure => simp [intOf]
                · obtain ⟨d, lo, hi, hfl, hha, hlow, hval⟩ := HE1.out
                  have HFL := Lib.hid hfl
                  have HHA := Lib.hid hha
                  replace hlow : Low hi := hlow
                  replace hval : (xs.getD 0 default).d < d → l0 * hi.2 ≤ hi.1 := hval
                  have HSM := Lib.hid (fun W => isSmall_ok hi.1 hi.2 W hlow.a hlow.b)
                  have HCM := Lib.hid (show (xs.getD 0 default).d < d → ∃ c : Int, 0 ≤ c ∧ ∀ W, Calls Try.prog 29 #[.agg #[.int .i64 hi.1, .int .i64 hi.2], .agg #[.int .i64 l0, .int .i64 1]] W fun e w' => e = .returned (.int .i64 c) ∧ Ext W w' from fun h =>
                    ⟨cmpV (hi.1 * 1) (l0 * hi.2), cmp_ge (by have := hval h; omega), fun W => low_cmp_any hlow (low_whole (d := l0) (by have := HB0.out; omega)) W⟩)
                  obtain ⟨x0, hx0⟩ : ∃ x0, x0 = xs.getD 0 default := ⟨_, rfl⟩
                  have g0 := HAT.out 0 (by omega)
                  obtain ⟨b2, o2, he, -, hc⟩ := row_at HR.out g0
                  obtain ⟨rfl, rfl⟩ : b = b2 ∧ o = o2 := by simpa using he
                  have G0 := Lib.hid (show w.cell? ⟨b, o, none⟩ = some (.int .i64 x0.d) by have := hc 0 _ rfl; rw [← hx0] at this; simpa using this)
                  rw [← hx0] at HCM
                  clear hfl hha hlow hval hc he g0 hx0 HE0 HE1
                  have v13_0 : wr.cell? ⟨q13, 0, none⟩ = some (.int .i64 p0.1) := K13.out.cell 0
                  have v13_1 : wr.cell? ⟨q13, 1, none⟩ = some (.int .i64 p0.2) := K13.out.cell 1
                  have v13_2 : wr.cell? ⟨q13, 2, none⟩ = some (.int .i64 q0.1) := K13.out.cell 2
                  have v13_3 : wr.cell? ⟨q13, 3, none⟩ = some (.int .i64 q0.2) := K13.out.cell 3
                  go_upto_region 30 with (fail)
                  obtain ⟨V1, hV⟩ : ∃ V, V = (wr.alloc (.cells #[.int .i64 p0.1, .int .i64 p0.2, .int .i64 q0.1, .int .i64 q0.2] 32)).alloc (.cells #[.int .i64 q0.1, .int .i64 q0.2] 32) := ⟨_, rfl⟩
                  obtain ⟨q22, hq⟩ : ∃ q, q = (wr.alloc (.cells #[.int .i64 p0.1, .int .i64 p0.2, .int .i64 q0.1, .int .i64 q0.2] 32)).heap.size := ⟨_, rfl⟩
                  have hq' : wr.heap.size + 1 = q22 := by rw [hq]; simp
                  rw [← hV]
                  try rw [hq']
                  have K22 := Lib.hid (show Blk V1 q22 32 #[.int .i64 q0.1, .int .i64 q0.2] by rw [hV, hq]; exact Blk.new _ _ _)
                  have hx : Ext wr V1 := by rw [hV]; exact (Ext.alloc _ _).trans (Ext.alloc _ _)
                  have XW := Lib.hid (XW.out.trans hx)
                  have K0r := Lib.hid (K0r.out.ext hx)
                  have K1r := Lib.hid (K1r.out.ext hx)
                  have K13 := Lib.hid (K13.out.ext hx)
                  clear hx hV hq hq' v13_0 v13_1 v13_2 v13_3
                  have u0 : V1.cell? ⟨q22, 0, none⟩ = some (.int .i64 q0.1) := K22.out.cell 0
                  have u1 : V1.cell? ⟨q22, 1, none⟩ = some (.int .i64 q0.2) := K22.out.cell 1
                  go_wp2_with (go_at_call 30; refine (HFL.out _).mono ?_; rintro e w2 ⟨rfl, rfl⟩; refine Hid.out ?_)
                  refine Lib.hid ?_
                  clear u0 u1 K22
                  have y0 : V1.cell? ⟨w.heap.size, 0, none⟩ = some (.slice (some ⟨b, o, none⟩) n ca) := K0r.out.cell 0
                  go_wp2_with (go_at_call 16; refine (HCP.out _ XW.out).mono ?_; rintro e V2 ⟨A2, c2, rfl, hr2, -, hx⟩; have R2 := Lib.hid hr2; have XW := Lib.hid (XW.out.trans hx); have K0r := Lib.hid (K0r.out.ext hx); have K1r := Lib.hid (K1r.out.ext hx); have K13 := Lib.hid (K13.out.ext hx); clear hx hr2 y0; refine Hid.out ?_)
                  refine Lib.hid ?_
                  go_wp2_with (go_at_call 17; refine (HHA.out _ _ _ R2.out).mono ?_; rintro e V3 ⟨rfl, hx⟩; have XW := Lib.hid (XW.out.trans hx); have K0r := Lib.hid (K0r.out.ext hx); have K1r := Lib.hid (K1r.out.ext hx); have K13 := Lib.hid (K13.out.ext hx); clear hx R2; refine Hid.out ?_)
                  refine Lib.hid ?_
                  go_upto_region 32 with (fail)
                  obtain ⟨V4, hV⟩ : ∃ V, V = V3.alloc (.cells #[.int .i64 lo.1, .int .i64 lo.2, .int .i64 hi.1, .int .i64 hi.2] 34) := ⟨_, rfl⟩
                  obtain ⟨q24, hq⟩ : ∃ q, q = V3.heap.size := ⟨_, rfl⟩
                  rw [← hV, ← hq]
                  have K24 := Lib.hid (show Blk V4 q24 34 #[.int .i64 lo.1, .int .i64 lo.2, .int .i64 hi.1, .int .i64 hi.2] by rw [hV, hq]; exact Blk.new _ _ _)
                  have hx : Ext V3 V4 := by rw [hV]; exact Ext.alloc _ _
                  have XW := Lib.hid (XW.out.trans hx)
                  have K0r := Lib.hid (K0r.out.ext hx)
                  have K1r := Lib.hid (K1r.out.ext hx)
                  have K13 := Lib.hid (K13.out.ext hx)
                  clear hx hV hq
                  have u0 : V4.cell? ⟨q24, 0, none⟩ = some (.int .i64 lo.1) := K24.out.cell 0
                  have u1 : V4.cell? ⟨q24, 1, none⟩ = some (.int .i64 lo.2) := K24.out.cell 1
                  have u2 : V4.cell? ⟨q24, 2, none⟩ = some (.int .i64 hi.1) := K24.out.cell 2
                  have u3 : V4.cell? ⟨q24, 3, none⟩ = some (.int .i64 hi.2) := K24.out.cell 3
                  go_upto_region 35 with (fail)
                  obtain ⟨V5, hV⟩ : ∃ V, V = (V4.alloc (.cells #[.int .i64 lo.1, .int .i64 lo.2, .int .i64 hi.1, .int .i64 hi.2] 32)).alloc (.cells #[.int .i64 hi.1, .int .i64 hi.2] 32) := ⟨_, rfl⟩
                  obtain ⟨q26, hq⟩ : ∃ q, q = (V4.alloc (.cells #[.int .i64 lo.1, .int .i64 lo.2, .int .i64 hi.1, .int .i64 hi.2] 32)).heap.size := ⟨_, rfl⟩
                  have hq' : V4.heap.size + 1 = q26 := by rw [hq]; simp
                  rw [← hV]
                  try rw [hq']
                  have K26 := Lib.hid (show Blk V5 q26 32 #[.int .i64 hi.1, .int .i64 hi.2] by rw [hV, hq]; exact Blk.new _ _ _)
                  have hx : Ext V4 V5 := by rw [hV]; exact (Ext.alloc _ _).trans (Ext.alloc _ _)
                  have XW := Lib.hid (XW.out.trans hx)
                  have K0r := Lib.hid (K0r.out.ext hx)
                  have K1r := Lib.hid (K1r.out.ext hx)
                  have K13 := Lib.hid (K13.out.ext hx)
                  clear hx hV hq hq' u0 u1 u2 u3 K24
                  have y0 : V5.cell? ⟨w.heap.size, 0, none⟩ = some (.slice (some ⟨b, o, none⟩) n ca) := K0r.out.cell 0
                  have z0 : V5.cell? ⟨w.heap.size + 1, 0, none⟩ = some (.int .i64 l0) := K1r.out.cell 0
                  have u0 : V5.cell? ⟨q26, 0, none⟩ = some (.int .i64 hi.1) := K26.out.cell 0
                  have u1 : V5.cell? ⟨q26, 1, none⟩ = some (.int .i64 hi.2) := K26.out.cell 1
                  have g0 : V5.cell? ⟨b, o, none⟩ = some (.int .i64 x0.d) := XW.out.cell G0.out
                  by_cases hdp : x0.d < d
                  · obtain ⟨c, hc0, hcm⟩ := HCM.out hdp
                    have HCM2 := Lib.hid hcm
                    clear hcm HCM
                    refine wp_region_eachG [(288, false), (288, false), (288, false), (288, false), (288, false), (288, false), (288, false), (288, false), (296, true), (296, true), (296, true), (296, true), (296, true), (296, true), (288, false)] [some 285, some 286, some 287, some 288, some 289, some 290, some 291, some 292, some 293, some 294, some 295, some 296, some 297, some 298, some 299, some 300, some 301, some 302, some 303, some 304] [[26], [285], [286], [287], [23, 288], [3, 288], [290, 288], [291, 288], [292, 288], [293, 288], [289, 294, 288], [295, 288], [26, 296], [5, 296], [298, 296], [299, 296], [297, 300, 296], [301, 296], [296, 302, 288], [288, 303]]
                      [Is (.agg #[.int .i64 (hi.1), .int .i64 (hi.2)]), Is (.bool (true)), Is (.bool (false)), Is (.bool (false)), Is (.int .i64 (d)), Is (.pointer (some ⟨w.heap.size, 0, none⟩)), Is (.slice (some ⟨b, o, none⟩) n ca), Is (.pointer (some ⟨b, o, none⟩)), Is (.pointer (some ⟨b, o, none⟩)), Is (.int .i64 (x0.d)), Is (.bool (true)), Is (.bool (true)), Is (.agg #[.int .i64 (hi.1), .int .i64 (hi.2)]), Is (.pointer (some ⟨w.heap.size + 1, 0, none⟩)), Is (.int .i64 (l0)), Is (.agg #[.int .i64 l0, .int .i64 1]), Is (.int .i64 (c)), Is (.bool (false)), Is (.bool (false)), Is (.bool (false))]
                      (by kernel_rfl) (by kernel_rfl) (by kernel_rfl) (by kernel_rfl) (by kernel_rfl) Ext (fun W => Ext V5 W)
                      (fun W _ => Ext.refl W) (fun W W' h k => h.trans k) ?_ (by intro p hp; simp only [List.mem_cons, List.not_mem_nil, or_false] at hp; rcases hp with rfl | rfl | rfl | rfl | rfl | rfl | rfl | rfl | rfl | rfl | rfl | rfl | rfl | rfl | rfl <;> exact ⟨_, rfl, fun _ _ h => h⟩) (Ext.drew _) ?_ ?_
                    · repeat (refine ⟨fun _ _ _ _ k h => (by first | exact h | exact (IntsAt.ext h k)), ?_⟩)
                      exact trivial
                    · refine ⟨?_, ?_, ?_, ?_, ?_, ?_, ?_, ?_, ?_, ?_, ?_, ?_, ?_, ?_, ?_, ?_, ?_, ?_, ?_, ?_, trivial⟩
                      all_goals intro ρ W ⟨kc, kg, kf⟩ hF hs
                      · obtain ⟨h0, -⟩ := hs
                        replace h0 : ρ (.tmp 26) = .pointer (some ⟨q26, 0, none⟩) := h0
                        have hc0 : W.cell? ⟨q26, 0, none⟩ = some (.int .i64 (hi.1)) := hF.cell (by assumption)
                        have hc1 : W.cell? ⟨q26, 1, none⟩ = some (.int .i64 (hi.2)) := hF.cell (by assumption)
                        go_simp
                        exact ⟨Ext.refl _, rfl⟩
                      · obtain ⟨h0, -⟩ := hs
                        replace h0 : ρ (.tmp 285) = .agg #[.int .i64 (hi.1), .int .i64 (hi.2)] := h0
                        go_simp
                        refine (HSM.out _).mono ?_; rintro e w' ⟨rfl, hx⟩; exact ⟨_, rfl, hx, rfl⟩
                      · obtain ⟨h0, -⟩ := hs
                        replace h0 : ρ (.tmp 286) = .bool (true) := h0
                        go_simp
                        exact ⟨Ext.refl _, rfl⟩
                      · obtain ⟨h0, -⟩ := hs
                        replace h0 : ρ (.tmp 287) = .bool (false) := h0
                        go_simp
                        exact ⟨Ext.refl _, rfl⟩
                      · obtain ⟨h0, h1, -⟩ := hs
                        replace h0 : ρ (.tmp 23) = .int .i64 (d) := h0
                        replace h1 : ρ (.tmp 288) = .bool (false) := h1
                        go_simp
                        exact ⟨Ext.refl _, rfl⟩
                      · obtain ⟨h0, h1, -⟩ := hs
                        replace h0 : ρ (.tmp 3) = .pointer (some ⟨w.heap.size, 0, none⟩) := h0
                        replace h1 : ρ (.tmp 288) = .bool (false) := h1
                        go_simp
                        exact ⟨Ext.refl _, rfl⟩
                      · obtain ⟨h0, h1, -⟩ := hs
                        replace h0 : ρ (.tmp 290) = .pointer (some ⟨w.heap.size, 0, none⟩) := h0
                        replace h1 : ρ (.tmp 288) = .bool (false) := h1
                        have hc0 : W.cell? ⟨w.heap.size, 0, none⟩ = some (.slice (some ⟨b, o, none⟩) n ca) := hF.cell (by assumption)
                        go_simp
                        exact ⟨Ext.refl _, rfl⟩
                      · obtain ⟨h0, h1, -⟩ := hs
                        replace h0 : ρ (.tmp 291) = .slice (some ⟨b, o, none⟩) n ca := h0
                        replace h1 : ρ (.tmp 288) = .bool (false) := h1
                        have hb2 : (0 : Int) < (n : Int) := by omega
                        have hb3 : 0 < n := by omega
                        go_simp
                        exact ⟨Ext.refl _, rfl⟩
                      · obtain ⟨h0, h1, -⟩ := hs
                        replace h0 : ρ (.tmp 292) = .pointer (some ⟨b, o, none⟩) := h0
                        replace h1 : ρ (.tmp 288) = .bool (false) := h1
                        go_simp
                        exact ⟨Ext.refl _, rfl⟩
                      · obtain ⟨h0, h1, -⟩ := hs
                        replace h0 : ρ (.tmp 293) = .pointer (some ⟨b, o, none⟩) := h0
                        replace h1 : ρ (.tmp 288) = .bool (false) := h1
                        have hc0 : W.cell? ⟨b, o, none⟩ = some (.int .i64 (x0.d)) := hF.cell (by assumption)
                        go_simp
                        exact ⟨Ext.refl _, rfl⟩
                      · obtain ⟨h0, h1, h2, -⟩ := hs
                        replace h0 : ρ (.tmp 289) = .int .i64 (d) := h0
                        replace h1 : ρ (.tmp 294) = .int .i64 (x0.d) := h1
                        replace h2 : ρ (.tmp 288) = .bool (false) := h2
                        have hd : decide (x0.d < d) = true := by simp; omega
                        go_simp
                        exact ⟨Ext.refl _, rfl⟩
                      · obtain ⟨h0, h1, -⟩ := hs
                        replace h0 : ρ (.tmp 295) = .bool (true) := h0
                        replace h1 : ρ (.tmp 288) = .bool (false) := h1
                        go_simp
                        exact ⟨Ext.refl _, rfl⟩
                      · obtain ⟨h0, h1, -⟩ := hs
                        replace h0 : ρ (.tmp 26) = .pointer (some ⟨q26, 0, none⟩) := h0
                        replace h1 : ρ (.tmp 296) = .bool (true) := h1
                        have hc0 : W.cell? ⟨q26, 0, none⟩ = some (.int .i64 (hi.1)) := hF.cell (by assumption)
                        have hc1 : W.cell? ⟨q26, 1, none⟩ = some (.int .i64 (hi.2)) := hF.cell (by assumption)
                        go_simp
                        exact ⟨Ext.refl _, rfl⟩
                      · obtain ⟨h0, h1, -⟩ := hs
                        replace h0 : ρ (.tmp 5) = .pointer (some ⟨w.heap.size + 1, 0, none⟩) := h0
                        replace h1 : ρ (.tmp 296) = .bool (true) := h1
                        go_simp
                        exact ⟨Ext.refl _, rfl⟩
                      · obtain ⟨h0, h1, -⟩ := hs
                        replace h0 : ρ (.tmp 298) = .pointer (some ⟨w.heap.size + 1, 0, none⟩) := h0
                        replace h1 : ρ (.tmp 296) = .bool (true) := h1
                        have hc0 : W.cell? ⟨w.heap.size + 1, 0, none⟩ = some (.int .i64 (l0)) := hF.cell (by assumption)
                        go_simp
                        exact ⟨Ext.refl _, rfl⟩
                      · obtain ⟨h0, h1, -⟩ := hs
                        replace h0 : ρ (.tmp 299) = .int .i64 (l0) := h0
                        replace h1 : ρ (.tmp 296) = .bool (true) := h1
                        go_simp
                        refine (whole_any _ _).mono ?_; rintro e w' ⟨rfl, hx⟩; exact ⟨_, rfl, hx, rfl⟩
                      · obtain ⟨h0, h1, h2, -⟩ := hs
                        replace h0 : ρ (.tmp 297) = .agg #[.int .i64 (hi.1), .int .i64 (hi.2)] := h0
                        replace h1 : ρ (.tmp 300) = .agg #[.int .i64 l0, .int .i64 1] := h1
                        replace h2 : ρ (.tmp 296) = .bool (true) := h2
                        go_simp
                        refine (HCM2.out _).mono ?_; rintro e w' ⟨rfl, hx⟩; exact ⟨_, rfl, hx, rfl⟩
                      · obtain ⟨h0, h1, -⟩ := hs
                        replace h0 : ρ (.tmp 301) = .int .i64 (c) := h0
                        replace h1 : ρ (.tmp 296) = .bool (true) := h1
                        have hd : decide (c < (0 : Int)) = false := by simp; omega
                        go_simp
                        exact ⟨Ext.refl _, rfl⟩
                      · obtain ⟨h0, h1, h2, -⟩ := hs
                        replace h0 : ρ (.tmp 296) = .bool (true) := h0
                        replace h1 : ρ (.tmp 302) = .bool (false) := h1
                        replace h2 : ρ (.tmp 288) = .bool (false) := h2
                        go_simp
                        exact ⟨Ext.refl _, rfl⟩
                      · obtain ⟨h0, h1, -⟩ := hs
                        replace h0 : ρ (.tmp 288) = .bool (false) := h0
                        replace h1 : ρ (.tmp 303) = .bool (false) := h1
                        go_simp
                        exact ⟨Ext.refl _, rfl⟩
                    · intro fv V6 hF hs
                      obtain ⟨-, -, -, -, -, -, -, -, -, -, -, -, -, -, -, -, -, -, -, h304, -⟩ := hs
                      replace h304 : fv 304 = .bool (false) := h304
                      simp only [fin, List.filterMap]
                      go_simp
                      have XW := Lib.hid (XW.out.trans hF)
                      have K0r := Lib.hid (K0r.out.ext hF)
                      have K1r := Lib.hid (K1r.out.ext hF)
                      have K13 := Lib.hid (K13.out.ext hF)
                      clear hF y0 z0 u0 u1 g0 h304
                      go_wp2
                      go_roundw
                      case rel => exact ⟨2, by omega, by go_num, XW.out, K0r.out, K1r.out, K13.out⟩
                      case measure => simp [intOf]
                  · refine wp_region_eachM [true, true, true, true, true, true, true, true, true, true, true, true, false, false, false, false, false, false, true, true] [(288, false, true), (288, false, true), (288, false, true), (288, false, true), (288, false, true), (288, false, true), (288, false, true), (288, false, true), (296, true, false), (296, true, false), (296, true, false), (296, true, false), (296, true, false), (296, true, false), (288, false, true)] [some 285, some 286, some 287, some 288, some 289, some 290, some 291, some 292, some 293, some 294, some 295, some 296, some 297, some 298, some 299, some 300, some 301, some 302, some 303, some 304] [[26], [285], [286], [287], [23, 288], [3, 288], [290, 288], [291, 288], [292, 288], [293, 288], [289, 294, 288], [295, 288], [26, 296], [5, 296], [298, 296], [299, 296], [297, 300, 296], [301, 296], [296, 302, 288], [288, 303]]
                      [Is (.agg #[.int .i64 (hi.1), .int .i64 (hi.2)]), Is (.bool (true)), Is (.bool (false)), Is (.bool (false)), Is (.int .i64 (d)), Is (.pointer (some ⟨w.heap.size, 0, none⟩)), Is (.slice (some ⟨b, o, none⟩) n ca), Is (.pointer (some ⟨b, o, none⟩)), Is (.pointer (some ⟨b, o, none⟩)), Is (.int .i64 (x0.d)), Is (.bool (false)), Is (.bool (false)), Is (undef), Is (undef), Is (undef), Is (undef), Is (undef), Is (undef), Is (.bool (false)), Is (.bool (false))]
                      (by kernel_rfl) (by kernel_rfl) (by kernel_rfl) (by kernel_rfl) (by kernel_rfl) Ext (fun W => Ext V5 W)
                      (fun W _ => Ext.refl W) (fun W W' h k => h.trans k) ?_ (by intro p hp; simp only [List.mem_cons, List.not_mem_nil, or_false] at hp; rcases hp with rfl | rfl | rfl | rfl | rfl | rfl | rfl | rfl | rfl | rfl | rfl | rfl | rfl | rfl | rfl <;> exact ⟨_, rfl, fun v W h => by rw [show v = _ from h]; first | (simp; done) | (simp [undef]; done)⟩) (Ext.drew _) ?_ ?_
                    · repeat (refine ⟨fun _ _ _ _ k h => (by first | exact h | exact (IntsAt.ext h k)), ?_⟩)
                      exact trivial
                    · refine ⟨?_, ?_, ?_, ?_, ?_, ?_, ?_, ?_, ?_, ?_, ?_, ?_, ?_, ?_, ?_, ?_, ?_, ?_, ?_, ?_, trivial⟩
                      · intro ρ W ⟨kc, kg, kf⟩ hF hs
                        obtain ⟨h0, -⟩ := hs
                        replace h0 : ρ (.tmp 26) = .pointer (some ⟨q26, 0, none⟩) := h0
                        have hc0 : W.cell? ⟨q26, 0, none⟩ = some (.int .i64 (hi.1)) := hF.cell (by assumption)
                        have hc1 : W.cell? ⟨q26, 1, none⟩ = some (.int .i64 (hi.2)) := hF.cell (by assumption)
                        go_simp
                        exact ⟨Ext.refl _, rfl⟩
                      · intro ρ W ⟨kc, kg, kf⟩ hF hs
                        obtain ⟨h0, -⟩ := hs
                        replace h0 : ρ (.tmp 285) = .agg #[.int .i64 (hi.1), .int .i64 (hi.2)] := h0
                        go_simp
                        refine (HSM.out _).mono ?_; rintro e w' ⟨rfl, hx⟩; exact ⟨_, rfl, hx, rfl⟩
                      · intro ρ W ⟨kc, kg, kf⟩ hF hs
                        obtain ⟨h0, -⟩ := hs
                        replace h0 : ρ (.tmp 286) = .bool (true) := h0
                        go_simp
                        exact ⟨Ext.refl _, rfl⟩
                      · intro ρ W ⟨kc, kg, kf⟩ hF hs
                        obtain ⟨h0, -⟩ := hs
                        replace h0 : ρ (.tmp 287) = .bool (false) := h0
                        go_simp
                        exact ⟨Ext.refl _, rfl⟩
                      · intro ρ W ⟨kc, kg, kf⟩ hF hs
                        obtain ⟨h0, h1, -⟩ := hs
                        replace h0 : ρ (.tmp 23) = .int .i64 (d) := h0
                        replace h1 : ρ (.tmp 288) = .bool (false) := h1
                        go_simp
                        exact ⟨Ext.refl _, rfl⟩
                      · intro ρ W ⟨kc, kg, kf⟩ hF hs
                        obtain ⟨h0, h1, -⟩ := hs
                        replace h0 : ρ (.tmp 3) = .pointer (some ⟨w.heap.size, 0, none⟩) := h0
                        replace h1 : ρ (.tmp 288) = .bool (false) := h1
                        go_simp
                        exact ⟨Ext.refl _, rfl⟩
                      · intro ρ W ⟨kc, kg, kf⟩ hF hs
                        obtain ⟨h0, h1, -⟩ := hs
                        replace h0 : ρ (.tmp 290) = .pointer (some ⟨w.heap.size, 0, none⟩) := h0
                        replace h1 : ρ (.tmp 288) = .bool (false) := h1
                        have hc0 : W.cell? ⟨w.heap.size, 0, none⟩ = some (.slice (some ⟨b, o, none⟩) n ca) := hF.cell (by assumption)
                        go_simp
                        exact ⟨Ext.refl _, rfl⟩
                      · intro ρ W ⟨kc, kg, kf⟩ hF hs
                        obtain ⟨h0, h1, -⟩ := hs
                        replace h0 : ρ (.tmp 291) = .slice (some ⟨b, o, none⟩) n ca := h0
                        replace h1 : ρ (.tmp 288) = .bool (false) := h1
                        have hb2 : (0 : Int) < (n : Int) := by omega
                        have hb3 : 0 < n := by omega
                        go_simp
                        exact ⟨Ext.refl _, rfl⟩
                      · intro ρ W ⟨kc, kg, kf⟩ hF hs
                        obtain ⟨h0, h1, -⟩ := hs
                        replace h0 : ρ (.tmp 292) = .pointer (some ⟨b, o, none⟩) := h0
                        replace h1 : ρ (.tmp 288) = .bool (false) := h1
                        go_simp
                        exact ⟨Ext.refl _, rfl⟩
                      · intro ρ W ⟨kc, kg, kf⟩ hF hs
                        obtain ⟨h0, h1, -⟩ := hs
                        replace h0 : ρ (.tmp 293) = .pointer (some ⟨b, o, none⟩) := h0
                        replace h1 : ρ (.tmp 288) = .bool (false) := h1
                        have hc0 : W.cell? ⟨b, o, none⟩ = some (.int .i64 (x0.d)) := hF.cell (by assumption)
                        go_simp
                        exact ⟨Ext.refl _, rfl⟩
                      · intro ρ W ⟨kc, kg, kf⟩ hF hs
                        obtain ⟨h0, h1, h2, -⟩ := hs
                        replace h0 : ρ (.tmp 289) = .int .i64 (d) := h0
                        replace h1 : ρ (.tmp 294) = .int .i64 (x0.d) := h1
                        replace h2 : ρ (.tmp 288) = .bool (false) := h2
                        have hd : decide (x0.d < d) = false := by simp; omega
                        go_simp
                        exact ⟨Ext.refl _, rfl⟩
                      · intro ρ W ⟨kc, kg, kf⟩ hF hs
                        obtain ⟨h0, h1, -⟩ := hs
                        replace h0 : ρ (.tmp 295) = .bool (false) := h0
                        replace h1 : ρ (.tmp 288) = .bool (false) := h1
                        go_simp
                        exact ⟨Ext.refl _, rfl⟩
                      · exact fun _ => rfl
                      · exact fun _ => rfl
                      · exact fun _ => rfl
                      · exact fun _ => rfl
                      · exact fun _ => rfl
                      · exact fun _ => rfl
                      · intro ρ W ⟨kc, kg, kf⟩ hF hs
                        obtain ⟨h0, h1, h2, -⟩ := hs
                        replace h0 : ρ (.tmp 296) = .bool (false) := h0
                        replace h1 : ρ (.tmp 302) = undef := h1
                        replace h2 : ρ (.tmp 288) = .bool (false) := h2
                        go_simp
                        exact ⟨Ext.refl _, rfl⟩
                      · intro ρ W ⟨kc, kg, kf⟩ hF hs
                        obtain ⟨h0, h1, -⟩ := hs
                        replace h0 : ρ (.tmp 288) = .bool (false) := h0
                        replace h1 : ρ (.tmp 303) = .bool (false) := h1
                        go_simp
                        exact ⟨Ext.refl _, rfl⟩
                    · intro fv V6 hF hs
                      obtain ⟨-, -, -, -, -, -, -, -, -, -, -, -, -, -, -, -, -, -, -, h304, -⟩ := hs
                      replace h304 : fv 304 = .bool (false) := h304
                      simp only [fin, List.filterMap]
                      go_simp
                      have XW := Lib.hid (XW.out.trans hF)
                      have K0r := Lib.hid (K0r.out.ext hF)
                      have K1r := Lib.hid (K1r.out.ext hF)
                      have K13 := Lib.hid (K13.out.ext hF)
                      clear hF y0 z0 u0 u1 g0 h304
                      go_wp2
                      go_roundw
                      case rel => exact ⟨2, by omega, by go_num, XW.out, K0r.out, K1r.out, K13.out⟩
                      case measure => simp [intOf]
                · go_wp2
                  go_ret
                  exact ⟨rfl, XW.out⟩
            · have hb0 : (e0 == 0) = false := by simp [he0]
              have hb1 : (e0 != 0) = true := by simp [he0]
              rcases C0.out with ⟨-, -, h | h⟩ | ⟨h, -⟩
              · subst h
                go_wp2
                go_ret
                exact ⟨rfl, XW.out⟩
              · subst h
                go_wp2
                go_ret
                exact ⟨rfl, XW.out⟩
              · exact absurd h he0

end Go.Proofs.Ytmddnpagfgilcaa

namespace Go.Proofs.Ytmddnpagfgilcaa
open Go.RowKit Go.Shelf Go.Mem Go.RegInv
attribute [local go_sem] RelUpon_value RelUpon_skip RelUpon_enter BigFrame.eval_const BigFrame.eval_global BigFrame.eval_func

section
open Go.ChangeShapes Go.WideShapes Go.Deep
variable {H : Type} {enc : TypeId × Value → H} {w : World} {base : Nat} {spare : Nat → Bool} {held : Bool} {r : Reach} {b0 : Nat} {v : Value} {d : DataW H} {p : List MemPlace}
set_option maxRecDepth 100000 in
theorem elemIn {fuel : Nat} {cs : List Value} {x : DataW H × List MemPlace} (h : DataW.trod enc Try.prog w base spare held fuel 43 cs = some x) : ∃ z : In, cs = z.enc := by
  obtain ⟨xs, n, _, _, hl, hlen, hF⟩ := DataW.trod_struct Try.underlying43 h
  match cs, hl.trans (show Try.prog.cellsOf 43 = 4 by kernel_rfl), xs, hlen with
  | [c0, c1, c2, c3], _, [y0, y1, y2], _ =>
    have h0 : DataW.trod enc Try.prog w base spare held n 3 [c0] = some y0 := hF 0 _ rfl
    have h1 : DataW.trod enc Try.prog w base spare held n 3 [c1] = some y1 := hF 1 _ rfl
    have h2 : DataW.trod enc Try.prog w base spare held n 41 [c2, c3] = some y2 := hF 2 _ rfl
    obtain ⟨k, ek, _⟩ := DataW.trod_int (k := .i64) Try.underlying3 h0
    obtain ⟨k1, ek1, _⟩ := DataW.trod_int (k := .i64) Try.underlying3 h1
    obtain ⟨lo, hi, elo⟩ := elem2 (cs := [c2, c3]) Try.underlying41 (by kernel_rfl) rfl rfl (by kernel_rfl) (by kernel_rfl) Try.underlying3 Try.underlying3 h2
    simp at ek ek1 elo
    exact ⟨⟨k, k1, lo, hi⟩, by simp [In.enc, ek, ek1, elo]⟩
theorem open_in_row {fuel : Nat} {v : Value} {x : DataW H × List MemPlace} (h : DataW.trod enc Try.prog w base spare held fuel 22 [v] = some x) :
    ∃ A n cap xs, v = .slice A n cap ∧ (A = none → cap = 0) ∧ n ≤ cap ∧ cap ≤ maxLen ∧ xs.length = n ∧ (n ≤ 1152921504606846976 → RowsAt 4 In.enc w A xs) :=
  open_rows 4 In.enc (by decide) Try.underlying22 (by kernel_rfl) (fun fuel cs x h => by
    obtain ⟨z, rfl⟩ := elemIn h
    exact ⟨z, rfl⟩) h
set_option maxRecDepth 100000 in
theorem open_traverse (hv : Value.okWide Try.prog w r b0 24 v) (h : DataW.Trod enc Try.prog w base spare held 24 v d p) :
    ∃ A n ca xs, v = .agg #[.slice A n ca] ∧ (A = none → ca = 0) ∧ n ≤ maxLen ∧ xs.length = n ∧ (n ≤ 1000 → RowsAt 4 In.enc w A xs) := by
  have hu := Try.underlying24
  obtain ⟨cs, rfl, hsz⟩ : ∃ cs, v = .agg cs ∧ cs.size = Try.prog.cellsOf 24 := by
    unfold Value.okWide at hv
    simp only [hu] at hv
    cases v <;> simp_all
  obtain ⟨l⟩ := cs
  match l, hsz.trans (show Try.prog.cellsOf 24 = 1 by kernel_rfl) with
  | [c0], _ =>
    obtain ⟨fuel, hf⟩ := h
    obtain ⟨xs, n, _, _, _, hlen, hF⟩ := DataW.trod_struct hu hf
    match xs, hlen with
    | [y0], _ =>
      have h0 : DataW.trod enc Try.prog w base spare held n 22 [c0] = some y0 := hF 0 _ rfl
      obtain ⟨A0, n0, d0, x0, rfl, a0, l1, l2, l0, r0⟩ := open_in_row h0
      exact ⟨A0, n0, d0, x0, rfl, a0, by omega, l0, fun h => r0 (by omega)⟩
end

end Go.Proofs.Ytmddnpagfgilcaa

namespace Go.Proofs.Ytmddnpagfgilcaa
open Go.RowKit Go.Shelf Go.Mem Go.RegInv
attribute [local go_sem] RelUpon_value RelUpon_skip RelUpon_enter BigFrame.eval_const BigFrame.eval_global BigFrame.eval_func

section
open Go.ChangeShapes Go.WideShapes Go.Deep
variable {H : Type} {enc : TypeId × Value → H} {w : World} {base : Nat} {spare : Nat → Bool} {held : Bool} {r : Reach} {b0 : Nat} {v : Value} {d : DataW H} {p : List MemPlace}
theorem open_int_row {fuel : Nat} {v : Value} {x : DataW H × List MemPlace} (h : DataW.trod enc Try.prog w base spare held fuel 51 [v] = some x) :
    ∃ A n cap xs, v = .slice A n cap ∧ (A = none → cap = 0) ∧ n ≤ cap ∧ cap ≤ maxLen ∧ xs.length = n ∧ (n ≤ 1152921504606846976 → RowsAt 1 intEnc w A xs) :=
  open_rows 1 intEnc (by decide) Try.underlying51 (by kernel_rfl) (fun fuel cs x h => by
    obtain ⟨k, rfl, _⟩ := DataW.trod_int (k := .i64) Try.underlying3 h
    exact ⟨k, rfl⟩) h
set_option maxRecDepth 100000 in
theorem open_introw (hv : Value.okWide Try.prog w r b0 51 v) (h : DataW.Trod enc Try.prog w base spare held 51 v d p) :
    ∃ A n cap xs, v = .slice A n cap ∧ xs.length = n ∧ (n ≤ 1000 → RowsAt 1 intEnc w A xs) := by
  obtain ⟨a0, len0, cap0, rfl⟩ := okWide_slice Try.underlying51 hv
  obtain ⟨fuel, hf⟩ := h
  obtain ⟨A, n, cap, xs, h1, _, _, _, h3, h4⟩ := open_int_row (v := .slice a0 len0 cap0) hf
  exact ⟨A, n, cap, xs, h1, h3, fun h => h4 (by omega)⟩
end

theorem enc_any {A : Option Addr} {n ca : Nat} {xs : List In} {B : Option Addr} {m cb : Nat} {pl : List Int} {w : World} (l0 l1 : Int) (hn : xs.length = n) (hr : n ≤ 1000 → RowsAt 4 In.enc w A xs) (hm : pl.length = m) (hp : m ≤ 1000 → RowsAt 1 intEnc w B pl) : Calls Try.prog 4 #[.agg #[.slice A n ca], .slice B m cb, .agg #[.int .i64 l0, .int .i64 l1]] w fun e w' => e = .returned (.bool true) ∧ Ext w w' := by
  rcases Nat.lt_or_ge 20 n with h | h
  · exact enc_bad l0 l1 8 (by decide) (Lib.hid fun W _ => refTraverseErr_long h W)
  have hr2 := hr (by omega)
  have HT := fun W (e : Ext w W) => refTraverseErr_any (ca := ca) hn (by omega) (hr2.ext e)
  by_cases hz : (checkT xs).2 = 0
  · simp only [hz] at HT
    by_cases hnm : m = n
    · cases hl0 : hardB l0 with
      | false => exact enc_lim0 l0 l1 hnm (Lib.hid HT) (Lib.hid fun W => show Calls Try.prog 23 #[.int .i64 l0] W fun e w' => e = .returned (.int .i64 2) ∧ W = w' from by have := refLimit_any l0 W; rw [hl0] at this; exact this)
      | true =>
        cases hl1 : hardB l1 with
        | false => exact enc_lim1 l0 l1 hnm (Lib.hid HT) (Lib.hid fun W => show Calls Try.prog 23 #[.int .i64 l0] W fun e w' => e = .returned (.int .i64 0) ∧ W = w' from by have := refLimit_any l0 W; rw [hl0] at this; exact this) (Lib.hid fun W => show Calls Try.prog 23 #[.int .i64 l1] W fun e w' => e = .returned (.int .i64 2) ∧ W = w' from by have := refLimit_any l1 W; rw [hl1] at this; exact this)
        | true =>
          by_cases hl : l1 < l0
          · exact enc_ord l0 l1 hnm hl (Lib.hid HT) (Lib.hid fun W => show Calls Try.prog 23 #[.int .i64 l0] W fun e w' => e = .returned (.int .i64 0) ∧ W = w' from by have := refLimit_any l0 W; rw [hl0] at this; exact this) (Lib.hid fun W => show Calls Try.prog 23 #[.int .i64 l1] W fun e w' => e = .returned (.int .i64 0) ∧ W = w' from by have := refLimit_any l1 W; rw [hl1] at this; exact this)
          · have h2 := (checkT_ok hz).1
            obtain ⟨b, o, rfl, -⟩ := row_at hr2 (getI hn (show 0 < n by omega))
            obtain ⟨b9, o9, rfl, -⟩ := row_at (hp (by omega)) (List.getElem?_eq_getElem (show 0 < pl.length by omega))
            subst hnm
            unfold hardB at hl0 hl1
            rw [withinB_eq] at hl0 hl1
            exact enc_main l0 l1 hn hr2 hm (hp (by omega)) hz (of_decide_eq_true hl0) (of_decide_eq_true hl1) (by omega)
    · exact enc_len l0 l1 hnm (Lib.hid HT)
  · exact enc_bad l0 l1 _ hz (Lib.hid HT)

end Go.Proofs.Ytmddnpagfgilcaa
