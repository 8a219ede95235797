/- For FieldFrequencies: TwoWatts and SplitFor. -/
import Derived.Test.YtpaoeghdfeekoaaK25
import Derived.Test.YtpaoeghdfeekoaaK15
namespace Go.Proofs.Ytpaoeghdfeekoaa
open Go.RowKit Go.Shelf Go.Mem Go.RegInv
attribute [local go_sem] RelUpon_value RelUpon_skip RelUpon_enter BigFrame.eval_const BigFrame.eval_global BigFrame.eval_func store_func

/-- A slice of so many numbers. -/
def SlV (n : Nat) (l : List Int) : Value → World → Prop := fun u W => ∃ A c, u = .slice A n c ∧ RowsAt 1 intEnc W A l
theorem SlV.ext {n : Nat} {l : List Int} {u : Value} {W W' : World} (h : SlV n l u W) (e : Ext W W') : SlV n l u W' := by
  obtain ⟨A, c, h1, h2⟩ := h; exact ⟨A, c, h1, h2.ext e⟩
theorem SlV.ints {n : Nat} {l : List Int} {u : Value} {W : World} (hl : l.length = n) (h : SlV n l u W) : IntsAt W u l := by
  obtain ⟨A, c, rfl, h2⟩ := h
  rcases Nat.eq_zero_or_pos n with h0 | h0
  · exact .inl ⟨_, c, by rw [h0], List.eq_nil_of_length_eq_zero (by omega)⟩
  · obtain ⟨b, o, rfl, hb, _⟩ := h2.2 0 _ (List.getElem?_eq_getElem (by omega))
    refine .inr ⟨b, o, c, by rw [hl], hb, h2.1, fun i hi => ?_⟩
    obtain ⟨b', o', e, _, hc⟩ := h2.2 i _ (List.getElem?_eq_getElem hi)
    obtain ⟨rfl, rfl⟩ : b = b' ∧ o = o' := by simpa using e
    have := hc 0 _ rfl
    simpa [hi] using this
theorem SlV.of_ints {n : Nat} {l : List Int} {u : Value} {W : World} (hl : l.length = n) (h : IntsAt W u l) : SlV n l u W := by
  obtain ⟨A, c, rfl, h2⟩ := ints_rows h
  exact ⟨A, c, by rw [hl], h2⟩
theorem twoL_len {a b : List Int} {n : Nat} (ha : a.length = n) (hb : b.length = n) : (twoL a b).length = n := by rw [twoL, List.length_zipWith, ha, hb]; omega

theorem pairE_zero {t : Int} {l : List Sh} {f : Int} {m : Nat} {g : Int} {q : Nat} (h : pairE t l f m g q = 0) : driveE t l f m = 0 ∧ driveE t l g q = 0 := by
  rw [← pair_split] at h
  have := (firstE_zero _).1 h
  exact ⟨this _ (by simp), this _ (by simp)⟩
def twoE (t : Int) (l : List Sh) (f : Int) (m : Nat) (g : Int) (q : Nat) (a b : Int) : Int := firstE [pairE t l f m g q, rangeE 0 100000 [a, b]]

/-- What twoWatts makes of what bothPowers has left. -/
theorem twoWatts_both {A : Option Addr} {n ca : Nat} {l : List Sh} (hn : l.length = n) {f : Int} {hota : List Bool} {g : Int} {hotb : List Bool} {w : World} (hS : LadAt w A l) (hok : ∀ s ∈ l, shOK s) (hf : 1 ≤ f ∧ f ≤ 8) (hg : 1 ≤ g ∧ g ≤ 8) (h1 : 1 ≤ n) (h4 : n ≤ 4)
    (a b : Int) (ha : 0 ≤ a ∧ a ≤ 100000) (hb : 0 ≤ b ∧ b ≤ 100000) (W : World) (e : Ext w W) (u : Value) (h : BothV A n ca l f hota g hotb u W) :
    Calls Try.prog 116 #[u, .agg #[.int .i64 a, .int .i64 b]] W (VPost W (SlV n (twoL (wattsL a (powers f hota l) n) (wattsL b (powers g hotb l) n)))) := by
  obtain ⟨v1, v2, rfl, r1, r2⟩ := h
  obtain ⟨f1, rfl, i1⟩ := powers_at_w (cap := ca) hn hok hf h1 h4 (hS.ext e) r1
  obtain ⟨f2, rfl, i2⟩ := powers_at_w (cap := ca) hn hok hg h1 h4 (hS.ext e) r2
  refine (twoWatts_any f1 f2 (powers f hota l) (powers g hotb l) n (by rw [powers_len, hn]) (by rw [powers_len, hn]) h1 h4 a b ha hb (powers_ok hok hf (by omega) (by omega)) (powers_ok hok hg (by omega) (by omega)) W i1 i2).mono ?_
  rintro e w' ⟨g, c, rfl, hO, hx⟩
  exact ⟨_, rfl, hx, _, c, rfl, hO.2⟩

set_option maxRecDepth 100000 in
set_option maxHeartbeats 4000000 in
theorem twoWattsPub_any (t : Int) (A : Option Addr) (n ca : Nat) (l : List Sh) (hn : l.length = n) (f : Int) (B : Option Addr) (m cb : Nat) (hota : List Bool) (hm : hota.length = m) (g : Int) (D : Option Addr) (q cd : Nat) (hotb : List Bool) (hq : hotb.length = q) (a b : Int) (w : World)
    (hS : LadAt w A l) (hB : RowsAt 1 boolEnc w B hota) (hD : RowsAt 1 boolEnc w D hotb) :
    Calls Try.prog 61 #[.agg #[.int .i64 t, .slice A n ca], .agg #[.int .i64 f, .slice B m cb, .int .i64 g, .slice D q cd], .agg #[.int .i64 a, .int .i64 b]] w (VPost w (TupV (Opt (twoE t l f m g q a b) (.slice none 0 0) (SlV n (twoL (wattsL a (powers f hota l) n) (wattsL b (powers g hotb l) n)))) (twoE t l f m g q a b))) := by
  obtain ⟨W0, hW0⟩ : ∃ W0, W0 = ((w.alloc (.cells #[.int .i64 t, .slice A n ca] 24)).alloc (.cells #[.int .i64 f, .slice B m cb, .int .i64 g, .slice D q cd] 96)).alloc (.cells #[.int .i64 a, .int .i64 b] 82) := ⟨_, rfl⟩
  have k0 : Blk W0 w.heap.size 24 #[.int .i64 t, .slice A n ca] := by rw [hW0]; exact ((Blk.new _ _ _).alloc _).alloc _
  have k1 : Blk W0 (w.heap.size + 1) 96 #[.int .i64 f, .slice B m cb, .int .i64 g, .slice D q cd] := by rw [hW0]; exact (Blk.newAt _ _ _ (by simp)).alloc _
  have k2 : Blk W0 (w.heap.size + 1 + 1) 82 #[.int .i64 a, .int .i64 b] := by rw [hW0]; exact Blk.newAt _ _ _ (by simp)
  have e0 : Ext w W0 := by rw [hW0]; exact (Ext.alloc _ _).trans ((Ext.alloc _ _).trans (Ext.alloc _ _))
  have z0 : W0.cell? ⟨w.heap.size, 0, none⟩ = some (.int .i64 t) := k0.cell 0
  have z1 : W0.cell? ⟨w.heap.size, 1, none⟩ = some (.slice A n ca) := k0.cell 1
  have z2 : W0.cell? ⟨w.heap.size + 1, 0, none⟩ = some (.int .i64 f) := k1.cell 0
  have z3 : W0.cell? ⟨w.heap.size + 1, 1, none⟩ = some (.slice B m cb) := k1.cell 1
  have z4 : W0.cell? ⟨w.heap.size + 1, 2, none⟩ = some (.int .i64 g) := k1.cell 2
  have z5 : W0.cell? ⟨w.heap.size + 1, 3, none⟩ = some (.slice D q cd) := k1.cell 3
  have K0 := Lib.hid k0
  have K1 := Lib.hid k1
  have K2 := Lib.hid k2
  have E0 := Lib.hid e0
  have HP := Lib.hid (fun W (e : Ext w W) => pairError_any t A n ca l hn f B m cb g D q cd W (hS.1.ext e))
  have HT := Lib.hid (fun W (k : Blk W (w.heap.size + 1 + 1) 82 #[.int .i64 a, .int .i64 b]) => totalError_any _ [a, b] W (ints_two k))
  have z6 : W0.cell? ⟨w.heap.size + 1 + 1, 0, none⟩ = some (.int .i64 a) := k2.cell 0
  have z7 : W0.cell? ⟨w.heap.size + 1 + 1, 1, none⟩ = some (.int .i64 b) := k2.cell 1
  have HE := Lib.hid (show twoE t l f m g q a b = firstE [pairE t l f m g q, rangeE 0 100000 [a, b]] from rfl)
  have hr0 : twoE t l f m g q a b = 0 → pairE t l f m g q = 0 ∧ rangeE 0 100000 [a, b] = 0 := fun h => by
    have := (firstE_zero _).1 h
    exact ⟨this _ (by simp), this _ (by simp)⟩
  have HR0 := Lib.hid hr0
  have HPE := Lib.hid (show ∃ p1, p1 = pairE t l f m g q from ⟨_, rfl⟩)
  obtain ⟨p1, hp1⟩ := HPE.out
  rw [← hp1] at HP HE
  have HPEQ := Lib.hid hp1
  obtain ⟨p2, hp2⟩ : ∃ p2, p2 = rangeE 0 100000 [a, b] := ⟨_, rfl⟩
  rw [← hp2] at HT HE
  have HTEQ := Lib.hid hp2
  clear k0 k1 k2 e0 hr0 hp1 hp2 HPE
  by_cases hz : twoE t l f m g q a b = 0
  · obtain ⟨hpz, htz⟩ := HR0.out hz
    have hab := (rangeE_zero 0 100000 [a, b]).1 htz
    have ha := hab a (by simp)
    have hb := hab b (by simp)
    have main : Calls Try.prog 61 #[.agg #[.int .i64 t, .slice A n ca], .agg #[.int .i64 f, .slice B m cb, .int .i64 g, .slice D q cd], .agg #[.int .i64 a, .int .i64 b]] w (VPost w (TupV (SlV n (twoL (wattsL a (powers f hota l) n) (wattsL b (powers g hotb l) n))) 0)) := by
      obtain ⟨hdf, hdg⟩ := pairE_zero hpz
      obtain ⟨⟨_, ⟨h1, h4⟩, hok⟩, hf, hml⟩ := (driveE_zero t l f m).1 hdf
      obtain ⟨-, hg, hql⟩ := (driveE_zero t l g q).1 hdg
      obtain rfl : n = m := by rw [hml, hn]
      obtain rfl : n = q := by rw [hql, hn]
      rw [hn] at h1 h4
      have okp := powers_ok (hot := hota) hok hf (by rw [hn]; exact h1) (by rw [hn]; exact h4)
      have okq := powers_ok (hot := hotb) hok hg (by rw [hn]; exact h1) (by rw [hn]; exact h4)
      have hpl : (powers f hota l).length = n := by rw [powers_len, hn]
      have hql' : (powers g hotb l).length = n := by rw [powers_len, hn]
      have HB := Lib.hid (fun W (e : Ext w W) => bothPowers_any t A n ca l hn f B cb hota hm g D cd hotb hq W (hS.1.ext e) (hB.ext e) (hD.ext e) hok hf hg h1 h4)
      have HW := Lib.hid (fun W u (e : Ext w W) (h : BothV A n ca l f hota g hotb u W) => twoWatts_both hn hS hok hf hg h1 h4 a b ha hb W e u h)
      have HRZ := Lib.hid (show firstE [p1, p2] = 0 by rw [← HE.out]; exact hz)
      clear hS hB hD hn hm hq hdf hdg h1 h4 hok hf hg hml hql okp okq hpl hql' hpz htz hab ha hb hz HR0 HE HPEQ HTEQ
      generalize powers f hota l = ps at *
      generalize powers g hotb l = qs at *
      go_enter Try.func61, Try.ntmps61
      go_wp2
      rw [← hW0]
      clear hW0
      refine wp_region_each [some 9, some 10, some 11, some 12, some 13, some 14, some 15, some 8] [[3], [4], [9, 10], [5], [12], [11, 13], [14], [15]]
        [Is (.agg #[.int .i64 (t), .slice A n ca]), Is (.agg #[.int .i64 (f), .slice B n cb, .int .i64 (g), .slice D n cd]), Is (.int .i64 (p1)), Is (.slice (some ⟨w.heap.size + 1 + 1, 0, none⟩) 2 2), Is (.int .i64 (p2)), Ints [p1, p2], Is (.int .i64 (firstE [p1, p2])), Is (.int .i64 (firstE [p1, p2]))]
        (by kernel_rfl) (by kernel_rfl) (by kernel_rfl) (by kernel_rfl) (by kernel_rfl) Ext (fun W => Ext W0 W)
        (fun W _ => Ext.refl W) (fun W W' h k => h.trans k) ?_ (Ext.drew _) ?_ ?_
      · repeat (refine ⟨fun _ _ _ _ k h => (by first | exact h | exact (by first | exact IntsAt.ext h k | exact BothV.ext h k | exact SlV.ext h k)), ?_⟩)
        exact trivial
      · refine ⟨?_, ?_, ?_, ?_, ?_, ?_, ?_, ?_, trivial⟩
        all_goals intro ρ W ⟨kc, kg, kf⟩ hF hs
        · obtain ⟨h0, -⟩ := hs
          replace h0 : ρ (.tmp 3) = .pointer (some ⟨w.heap.size, 0, none⟩) := h0
          have hc0 : W.cell? ⟨w.heap.size, 0, none⟩ = some (.int .i64 (t)) := hF.cell (by assumption)
          have hc1 : W.cell? ⟨w.heap.size, 1, none⟩ = some (.slice A n ca) := hF.cell (by assumption)
          go_simp
          exact ⟨Ext.refl _, rfl⟩
        · obtain ⟨h0, -⟩ := hs
          replace h0 : ρ (.tmp 4) = .pointer (some ⟨w.heap.size + 1, 0, none⟩) := h0
          have hc0 : W.cell? ⟨w.heap.size + 1, 0, none⟩ = some (.int .i64 (f)) := hF.cell (by assumption)
          have hc1 : W.cell? ⟨w.heap.size + 1, 1, none⟩ = some (.slice B n cb) := hF.cell (by assumption)
          have hc2 : W.cell? ⟨w.heap.size + 1, 2, none⟩ = some (.int .i64 (g)) := hF.cell (by assumption)
          have hc3 : W.cell? ⟨w.heap.size + 1, 3, none⟩ = some (.slice D n cd) := hF.cell (by assumption)
          go_simp
          exact ⟨Ext.refl _, rfl⟩
        · obtain ⟨h0, h1, -⟩ := hs
          replace h0 : ρ (.tmp 9) = .agg #[.int .i64 (t), .slice A n ca] := h0
          replace h1 : ρ (.tmp 10) = .agg #[.int .i64 (f), .slice B n cb, .int .i64 (g), .slice D n cd] := h1
          go_simp
          exact (HP.out W (E0.out.trans hF)).mono fun _ _ ⟨h1, h2⟩ => ⟨_, h1, h2, rfl⟩
        · obtain ⟨h0, -⟩ := hs
          replace h0 : ρ (.tmp 5) = .pointer (some ⟨w.heap.size + 1 + 1, 0, none⟩) := h0
          go_simp
          exact ⟨Ext.refl _, rfl⟩
        · obtain ⟨h0, -⟩ := hs
          replace h0 : ρ (.tmp 12) = .slice (some ⟨w.heap.size + 1 + 1, 0, none⟩) 2 2 := h0
          go_simp
          exact (HT.out W (K2.out.ext hF)).mono fun _ _ ⟨h1, h2⟩ => ⟨_, h1, h2, rfl⟩
        · obtain ⟨h0, h1, -⟩ := hs
          replace h0 : ρ (.tmp 11) = .int .i64 (p1) := h0
          replace h1 : ρ (.tmp 13) = .int .i64 (p2) := h1
          go_simp
          exact ⟨Ext.alloc _ _, ints_new _ [p1, p2] _ (by simp)⟩
        · obtain ⟨h0, -⟩ := hs
          replace h0 : (Ints [p1, p2]) (ρ (.tmp 14)) W := h0
          go_simp
          exact (firstOf_any _ _ _ h0).mono fun _ _ ⟨h1, h2⟩ => ⟨_, h1, h2 ▸ Ext.refl _, rfl⟩
        · obtain ⟨h0, -⟩ := hs
          replace h0 : ρ (.tmp 15) = .int .i64 (firstE [p1, p2]) := h0
          go_simp
          exact ⟨Ext.refl _, rfl⟩
      · intro fv W1 hF hs
        obtain ⟨-, -, -, -, -, -, -, h8, -⟩ := hs
        replace h8 : fv 8 = .int .i64 (firstE [p1, p2]) := h8
        simp only [fin, List.filterMap]
        go_simp
        rw [HRZ.out]
        have X1 := Lib.hid (E0.out.trans hF)
        have k0 := K0.out.ext hF
        have k1 := K1.out.ext hF
        have k2 := K2.out.ext hF
        clear h8 hF z0 z1 z2 z3 z4 z5 z6 z7
        have z0 : W1.cell? ⟨w.heap.size, 0, none⟩ = some (.int .i64 t) := k0.cell 0
        have z1 : W1.cell? ⟨w.heap.size, 1, none⟩ = some (.slice A n ca) := k0.cell 1
        have z2 : W1.cell? ⟨w.heap.size + 1, 0, none⟩ = some (.int .i64 f) := k1.cell 0
        have z3 : W1.cell? ⟨w.heap.size + 1, 1, none⟩ = some (.slice B n cb) := k1.cell 1
        have z4 : W1.cell? ⟨w.heap.size + 1, 2, none⟩ = some (.int .i64 g) := k1.cell 2
        have z5 : W1.cell? ⟨w.heap.size + 1, 3, none⟩ = some (.slice D n cd) := k1.cell 3
        have z6 : W1.cell? ⟨w.heap.size + 1 + 1, 0, none⟩ = some (.int .i64 a) := k2.cell 0
        have z7 : W1.cell? ⟨w.heap.size + 1 + 1, 1, none⟩ = some (.int .i64 b) := k2.cell 1
        clear k0 k1 k2
        go_wp2
        refine wp_region_each [some 19, some 20, some 21, some 22, some 23, some 6, some 7] [[3], [4], [19, 20], [5], [21, 22], [23], []]
          [Is (.agg #[.int .i64 (t), .slice A n ca]), Is (.agg #[.int .i64 (f), .slice B n cb, .int .i64 (g), .slice D n cd]), BothV A n ca l f hota g hotb, Is (.agg #[.int .i64 (a), .int .i64 (b)]), SlV n (twoL (wattsL a ps n) (wattsL b qs n)), SlV n (twoL (wattsL a ps n) (wattsL b qs n)), Is (.int .i64 (0))]
          (by kernel_rfl) (by kernel_rfl) (by kernel_rfl) (by kernel_rfl) (by kernel_rfl) Ext (fun W => Ext W1 W)
          (fun W _ => Ext.refl W) (fun W W' h k => h.trans k) ?_ (Ext.drew _) ?_ ?_
        · repeat (refine ⟨fun _ _ _ _ k h => (by first | exact h | exact (by first | exact IntsAt.ext h k | exact BothV.ext h k | exact SlV.ext h k)), ?_⟩)
          exact trivial
        · refine ⟨?_, ?_, ?_, ?_, ?_, ?_, ?_, trivial⟩
          all_goals intro ρ W ⟨kc, kg, kf⟩ hF hs
          · obtain ⟨h0, -⟩ := hs
            replace h0 : ρ (.tmp 3) = .pointer (some ⟨w.heap.size, 0, none⟩) := h0
            have hc0 : W.cell? ⟨w.heap.size, 0, none⟩ = some (.int .i64 (t)) := hF.cell (by assumption)
            have hc1 : W.cell? ⟨w.heap.size, 1, none⟩ = some (.slice A n ca) := hF.cell (by assumption)
            go_simp
            exact ⟨Ext.refl _, rfl⟩
          · obtain ⟨h0, -⟩ := hs
            replace h0 : ρ (.tmp 4) = .pointer (some ⟨w.heap.size + 1, 0, none⟩) := h0
            have hc0 : W.cell? ⟨w.heap.size + 1, 0, none⟩ = some (.int .i64 (f)) := hF.cell (by assumption)
            have hc1 : W.cell? ⟨w.heap.size + 1, 1, none⟩ = some (.slice B n cb) := hF.cell (by assumption)
            have hc2 : W.cell? ⟨w.heap.size + 1, 2, none⟩ = some (.int .i64 (g)) := hF.cell (by assumption)
            have hc3 : W.cell? ⟨w.heap.size + 1, 3, none⟩ = some (.slice D n cd) := hF.cell (by assumption)
            go_simp
            exact ⟨Ext.refl _, rfl⟩
          · obtain ⟨h0, h1, -⟩ := hs
            replace h0 : ρ (.tmp 19) = .agg #[.int .i64 (t), .slice A n ca] := h0
            replace h1 : ρ (.tmp 20) = .agg #[.int .i64 (f), .slice B n cb, .int .i64 (g), .slice D n cd] := h1
            go_simp
            exact HB.out W (X1.out.trans hF)
          · obtain ⟨h0, -⟩ := hs
            replace h0 : ρ (.tmp 5) = .pointer (some ⟨w.heap.size + 1 + 1, 0, none⟩) := h0
            have hc0 : W.cell? ⟨w.heap.size + 1 + 1, 0, none⟩ = some (.int .i64 (a)) := hF.cell (by assumption)
            have hc1 : W.cell? ⟨w.heap.size + 1 + 1, 1, none⟩ = some (.int .i64 (b)) := hF.cell (by assumption)
            go_simp
            exact ⟨Ext.refl _, rfl⟩
          · obtain ⟨h0, h1, -⟩ := hs
            replace h0 : (BothV A n ca l f hota g hotb) (ρ (.tmp 21)) W := h0
            replace h1 : ρ (.tmp 22) = .agg #[.int .i64 (a), .int .i64 (b)] := h1
            go_simp
            exact HW.out W _ (X1.out.trans hF) h0
          · obtain ⟨h0, -⟩ := hs
            replace h0 : (SlV n (twoL (wattsL a ps n) (wattsL b qs n))) (ρ (.tmp 23)) W := h0
            go_simp
            first | exact ⟨Ext.refl _, h0⟩ | exact Ext.refl _
          · go_simp
            exact ⟨Ext.refl _, rfl⟩
        · intro fv W2 hF hs
          obtain ⟨-, -, -, -, -, h6, h7, -⟩ := hs
          replace h6 : (SlV n (twoL (wattsL a ps n) (wattsL b qs n))) (fv 6) W2 := h6
          replace h7 : fv 7 = .int .i64 (0) := h7
          simp only [fin, List.filterMap]
          go_simp
          have V6 := Lib.hid h6
          clear h6 h7
          go_wp2
          go_ret2
          exact ⟨_, rfl, X1.out.trans hF, _, rfl, V6.out⟩
    refine main.mono ?_
    rintro e w' ⟨v, he, hx, u, hu, hs⟩
    exact ⟨v, he, hx, u, by rw [hz]; exact hu, fun h => absurd hz h, fun _ => hs⟩
  · have main : Calls Try.prog 61 #[.agg #[.int .i64 t, .slice A n ca], .agg #[.int .i64 f, .slice B m cb, .int .i64 g, .slice D q cd], .agg #[.int .i64 a, .int .i64 b]] w (VPost w (Is (.tuple #[.slice none 0 0, .int .i64 (twoE t l f m g q a b)]))) := by
      have hzb : (twoE t l f m g q a b != 0) = true := by simp [hz]
      clear hS hB hD hn hm hq HR0 HPEQ HTEQ hz
      generalize twoE t l f m g q a b = r at *
      go_enter Try.func61, Try.ntmps61
      go_wp2
      rw [← hW0]
      clear hW0
      refine wp_region_each [some 9, some 10, some 11, some 12, some 13, some 14, some 15, some 8] [[3], [4], [9, 10], [5], [12], [11, 13], [14], [15]]
        [Is (.agg #[.int .i64 (t), .slice A n ca]), Is (.agg #[.int .i64 (f), .slice B m cb, .int .i64 (g), .slice D q cd]), Is (.int .i64 (p1)), Is (.slice (some ⟨w.heap.size + 1 + 1, 0, none⟩) 2 2), Is (.int .i64 (p2)), Ints [p1, p2], Is (.int .i64 (firstE [p1, p2])), Is (.int .i64 (firstE [p1, p2]))]
        (by kernel_rfl) (by kernel_rfl) (by kernel_rfl) (by kernel_rfl) (by kernel_rfl) Ext (fun W => Ext W0 W)
        (fun W _ => Ext.refl W) (fun W W' h k => h.trans k) ?_ (Ext.drew _) ?_ ?_
      · repeat (refine ⟨fun _ _ _ _ k h => (by first | exact h | exact (by first | exact IntsAt.ext h k | exact BothV.ext h k | exact SlV.ext h k)), ?_⟩)
        exact trivial
      · refine ⟨?_, ?_, ?_, ?_, ?_, ?_, ?_, ?_, trivial⟩
        all_goals intro ρ W ⟨kc, kg, kf⟩ hF hs
        · obtain ⟨h0, -⟩ := hs
          replace h0 : ρ (.tmp 3) = .pointer (some ⟨w.heap.size, 0, none⟩) := h0
          have hc0 : W.cell? ⟨w.heap.size, 0, none⟩ = some (.int .i64 (t)) := hF.cell (by assumption)
          have hc1 : W.cell? ⟨w.heap.size, 1, none⟩ = some (.slice A n ca) := hF.cell (by assumption)
          go_simp
          exact ⟨Ext.refl _, rfl⟩
        · obtain ⟨h0, -⟩ := hs
          replace h0 : ρ (.tmp 4) = .pointer (some ⟨w.heap.size + 1, 0, none⟩) := h0
          have hc0 : W.cell? ⟨w.heap.size + 1, 0, none⟩ = some (.int .i64 (f)) := hF.cell (by assumption)
          have hc1 : W.cell? ⟨w.heap.size + 1, 1, none⟩ = some (.slice B m cb) := hF.cell (by assumption)
          have hc2 : W.cell? ⟨w.heap.size + 1, 2, none⟩ = some (.int .i64 (g)) := hF.cell (by assumption)
          have hc3 : W.cell? ⟨w.heap.size + 1, 3, none⟩ = some (.slice D q cd) := hF.cell (by assumption)
          go_simp
          exact ⟨Ext.refl _, rfl⟩
        · obtain ⟨h0, h1, -⟩ := hs
          replace h0 : ρ (.tmp 9) = .agg #[.int .i64 (t), .slice A n ca] := h0
          replace h1 : ρ (.tmp 10) = .agg #[.int .i64 (f), .slice B m cb, .int .i64 (g), .slice D q cd] := h1
          go_simp
          exact (HP.out W (E0.out.trans hF)).mono fun _ _ ⟨h1, h2⟩ => ⟨_, h1, h2, rfl⟩
        · obtain ⟨h0, -⟩ := hs
          replace h0 : ρ (.tmp 5) = .pointer (some ⟨w.heap.size + 1 + 1, 0, none⟩) := h0
          go_simp
          exact ⟨Ext.refl _, rfl⟩
        · obtain ⟨h0, -⟩ := hs
          replace h0 : ρ (.tmp 12) = .slice (some ⟨w.heap.size + 1 + 1, 0, none⟩) 2 2 := h0
          go_simp
          exact (HT.out W (K2.out.ext hF)).mono fun _ _ ⟨h1, h2⟩ => ⟨_, h1, h2, rfl⟩
        · obtain ⟨h0, h1, -⟩ := hs
          replace h0 : ρ (.tmp 11) = .int .i64 (p1) := h0
          replace h1 : ρ (.tmp 13) = .int .i64 (p2) := h1
          go_simp
          exact ⟨Ext.alloc _ _, ints_new _ [p1, p2] _ (by simp)⟩
        · obtain ⟨h0, -⟩ := hs
          replace h0 : (Ints [p1, p2]) (ρ (.tmp 14)) W := h0
          go_simp
          exact (firstOf_any _ _ _ h0).mono fun _ _ ⟨h1, h2⟩ => ⟨_, h1, h2 ▸ Ext.refl _, rfl⟩
        · obtain ⟨h0, -⟩ := hs
          replace h0 : ρ (.tmp 15) = .int .i64 (firstE [p1, p2]) := h0
          go_simp
          exact ⟨Ext.refl _, rfl⟩
      · intro fv W1 hF hs
        obtain ⟨-, -, -, -, -, -, -, h8, -⟩ := hs
        replace h8 : fv 8 = .int .i64 (firstE [p1, p2]) := h8
        simp only [fin, List.filterMap]
        go_simp
        rw [← HE.out]
        clear h8
        go_wp2
        go_ret2
        exact ⟨_, rfl, E0.out.trans hF, rfl⟩
    refine main.mono ?_
    rintro e w' ⟨v, he, hx, hu⟩
    exact ⟨v, he, hx, _, hu, fun _ => rfl, fun h => absurd h hz⟩

/-! SplitFor. -/
/-- The first number from k on, of so many, that fits. -/
def firstN (p : Nat → Bool) : Nat → Nat → Option Nat
  | 0, _ => none
  | j + 1, k => if p k = true then some k else firstN p j (k + 1)
def fitAt (ps qs : List Int) (n : Nat) (tot : Int) (rs : List G) (k : Nat) : Bool := fitsL rs (twoL (wattsL (k : Int) ps n) (wattsL (tot - (k : Int)) qs n))
def splitV (ps qs : List Int) (n : Nat) (tot : Int) (rs : List G) : Option Nat := firstN (fitAt ps qs n tot rs) (tot.toNat + 1) 0
def splitN (o : Option Nat) : Int := match o with | some k => k | none => 0
def splitEr (o : Option Nat) : Int := match o with | some _ => 0 | none => 12
def splE (t : Int) (l : List Sh) (f : Int) (m : Nat) (g : Int) (q : Nat) (n : Nat) (tot : Int) (rs : List G) : Int := firstE [pairE t l f m g q, shapeE n tot rs]
def splitA (t : Int) (l : List Sh) (f : Int) (hota : List Bool) (m : Nat) (g : Int) (hotb : List Bool) (q : Nat) (n : Nat) (tot : Int) (rs : List G) : Int × Int :=
  if splE t l f m g q n tot rs ≠ 0 then (0, splE t l f m g q n tot rs) else (splitN (splitV (powers f hota l) (powers g hotb l) n tot rs), splitEr (splitV (powers f hota l) (powers g hotb l) n tot rs))
theorem shapeE_zero {n : Nat} {tot : Int} {rs : List G} (h : shapeE n tot rs = 0) : (0 ≤ tot ∧ tot ≤ 100000) ∧ rs.length = n := by
  unfold shapeE at h
  by_cases h1 : rangeE 0 100000 [tot] = 0
  · rw [if_neg (by simp [h1])] at h
    by_cases h2 : rs.length = n
    · exact ⟨(rangeE_zero 0 100000 [tot]).1 h1 tot (by simp), h2⟩
    · rw [if_pos h2] at h; cases h
  · rw [if_pos h1] at h; exact absurd h h1

set_option maxRecDepth 100000 in
set_option maxHeartbeats 4000000 in
theorem splitFor_any (t : Int) (A : Option Addr) (n ca : Nat) (l : List Sh) (hn : l.length = n) (f : Int) (B : Option Addr) (m cb : Nat) (hota : List Bool) (hm : hota.length = m) (g : Int) (D : Option Addr) (q cd : Nat) (hotb : List Bool) (hq : hotb.length = q) (tot : Int) (C : Option Addr) (M cz : Nat) (rs : List G) (hM : rs.length = M) (w : World)
    (hS : LadAt w A l) (hB : RowsAt 1 boolEnc w B hota) (hD : RowsAt 1 boolEnc w D hotb) (hC : RowsAt 2 G.enc w C rs) :
    Calls Try.prog 63 #[.agg #[.int .i64 t, .slice A n ca], .agg #[.int .i64 f, .slice B m cb, .int .i64 g, .slice D q cd], .agg #[.int .i64 tot, .slice C M cz]] w (VPost w (Is (.tuple #[.int .i64 (splitA t l f hota m g hotb q n tot rs).1, .int .i64 (splitA t l f hota m g hotb q n tot rs).2]))) := by
  obtain ⟨W0, hW0⟩ : ∃ W0, W0 = ((w.alloc (.cells #[.int .i64 t, .slice A n ca] 24)).alloc (.cells #[.int .i64 f, .slice B m cb, .int .i64 g, .slice D q cd] 96)).alloc (.cells #[.int .i64 tot, .slice C M cz] 101) := ⟨_, rfl⟩
  have k0 : Blk W0 w.heap.size 24 #[.int .i64 t, .slice A n ca] := by rw [hW0]; exact ((Blk.new _ _ _).alloc _).alloc _
  have k1 : Blk W0 (w.heap.size + 1) 96 #[.int .i64 f, .slice B m cb, .int .i64 g, .slice D q cd] := by rw [hW0]; exact (Blk.newAt _ _ _ (by simp)).alloc _
  have k2 : Blk W0 (w.heap.size + 1 + 1) 101 #[.int .i64 tot, .slice C M cz] := by rw [hW0]; exact Blk.newAt _ _ _ (by simp)
  have e0 : Ext w W0 := by rw [hW0]; exact (Ext.alloc _ _).trans ((Ext.alloc _ _).trans (Ext.alloc _ _))
  have z0 : W0.cell? ⟨w.heap.size, 0, none⟩ = some (.int .i64 t) := k0.cell 0
  have z1 : W0.cell? ⟨w.heap.size, 1, none⟩ = some (.slice A n ca) := k0.cell 1
  have z2 : W0.cell? ⟨w.heap.size + 1, 0, none⟩ = some (.int .i64 f) := k1.cell 0
  have z3 : W0.cell? ⟨w.heap.size + 1, 1, none⟩ = some (.slice B m cb) := k1.cell 1
  have z4 : W0.cell? ⟨w.heap.size + 1, 2, none⟩ = some (.int .i64 g) := k1.cell 2
  have z5 : W0.cell? ⟨w.heap.size + 1, 3, none⟩ = some (.slice D q cd) := k1.cell 3
  have K0 := Lib.hid k0
  have K1 := Lib.hid k1
  have K2 := Lib.hid k2
  have E0 := Lib.hid e0
  have HP := Lib.hid (fun W (e : Ext w W) => pairError_any t A n ca l hn f B m cb g D q cd W (hS.1.ext e))
  have HT := Lib.hid (fun W (e : Ext w W) => shapeError_any t A n ca tot C M cz rs hM W (hC.ext e))
  have z6 : W0.cell? ⟨w.heap.size + 1 + 1, 0, none⟩ = some (.int .i64 tot) := k2.cell 0
  have z7 : W0.cell? ⟨w.heap.size + 1 + 1, 1, none⟩ = some (.slice C M cz) := k2.cell 1
  have HE := Lib.hid (show splE t l f m g q n tot rs = firstE [pairE t l f m g q, shapeE n tot rs] from rfl)
  have hr0 : splE t l f m g q n tot rs = 0 → pairE t l f m g q = 0 ∧ shapeE n tot rs = 0 := fun h => by
    have := (firstE_zero _).1 h
    exact ⟨this _ (by simp), this _ (by simp)⟩
  have HR0 := Lib.hid hr0
  obtain ⟨p1, hp1⟩ : ∃ p1, p1 = pairE t l f m g q := ⟨_, rfl⟩
  rw [← hp1] at HP HE
  obtain ⟨p2, hp2⟩ : ∃ p2, p2 = shapeE n tot rs := ⟨_, rfl⟩
  rw [← hp2] at HT HE
  clear k0 k1 k2 e0 hr0 hp1 hp2
  by_cases hz : splE t l f m g q n tot rs = 0
  · obtain ⟨hpz, htz⟩ := HR0.out hz
    obtain ⟨htot, hMn⟩ := shapeE_zero htz
    have main : Calls Try.prog 63 #[.agg #[.int .i64 t, .slice A n ca], .agg #[.int .i64 f, .slice B m cb, .int .i64 g, .slice D q cd], .agg #[.int .i64 tot, .slice C M cz]] w (VPost w (Is (.tuple #[.int .i64 (splitN (splitV (powers f hota l) (powers g hotb l) n tot rs)), .int .i64 (splitEr (splitV (powers f hota l) (powers g hotb l) n tot rs))]))) := by
      obtain rfl : n = M := by rw [← hM, hMn]
      obtain ⟨hdf, hdg⟩ := pairE_zero hpz
      obtain ⟨⟨_, ⟨h1, h4⟩, hok⟩, hf, hml⟩ := (driveE_zero t l f m).1 hdf
      obtain ⟨-, hg, hql⟩ := (driveE_zero t l g q).1 hdg
      obtain rfl : n = m := by rw [hml, hn]
      obtain rfl : n = q := by rw [hql, hn]
      rw [hn] at h1 h4
      have okp := powers_ok (hot := hota) hok hf (by rw [hn]; exact h1) (by rw [hn]; exact h4)
      have okq := powers_ok (hot := hotb) hok hg (by rw [hn]; exact h1) (by rw [hn]; exact h4)
      have hpl : (powers f hota l).length = n := by rw [powers_len, hn]
      have hql' : (powers g hotb l).length = n := by rw [powers_len, hn]
      have HB := Lib.hid (fun W (e : Ext w W) => bothPowers_any t A n ca l hn f B cb hota hm g D cd hotb hq W (hS.1.ext e) (hB.ext e) (hD.ext e) hok hf hg h1 h4)
      have HW0 := Lib.hid (fun a b ha hb W u (e : Ext w W) (h : BothV A n ca l f hota g hotb u W) => twoWatts_both hn hS hok hf hg h1 h4 a b ha hb W e u h)
      have HRZ := Lib.hid (show firstE [p1, p2] = 0 by rw [← HE.out]; exact hz)
      have HL := Lib.hid (fun (a b : Int) => twoL_len (wattsL_len a (powers f hota l) n) (wattsL_len b (powers g hotb l) n))
      have HM := Lib.hid hM
      have HC := Lib.hid hC
      clear hS hB hD hn hm hq hdf hdg h1 h4 hok hf hg hml hql okp okq hpl hql' hpz htz hz HR0 HE hM hMn hC
      generalize powers f hota l = ps at *
      generalize powers g hotb l = qs at *
      obtain ⟨tn, rfl⟩ : ∃ tn : Nat, tot = (tn : Int) := ⟨tot.toNat, by omega⟩
      obtain ⟨ht0, ht1⟩ := htot
      have HSV := Lib.hid (show splitV ps qs n (tn : Int) rs = firstN (fitAt ps qs n (tn : Int) rs) (tn + 1) 0 from rfl)
      have HFA := Lib.hid (fun k => show fitAt ps qs n (tn : Int) rs k = fitsL rs (twoL (wattsL (k : Int) ps n) (wattsL ((tn : Int) - (k : Int)) qs n)) from rfl)
      generalize splitV ps qs n (tn : Int) rs = so at *
      generalize fitAt ps qs n (tn : Int) rs = fp at *
      go_enter Try.func63, Try.ntmps63
      go_wp2
      rw [← hW0]
      clear hW0
      refine wp_region_each [some 11, some 12, some 13, some 14, some 15, some 16, some 17, some 18, some 8] [[3], [4], [11, 12], [3], [5], [14, 15], [13, 16], [17], [18]]
        [Is (.agg #[.int .i64 (t), .slice A n ca]), Is (.agg #[.int .i64 (f), .slice B n cb, .int .i64 (g), .slice D n cd]), Is (.int .i64 (p1)), Is (.agg #[.int .i64 (t), .slice A n ca]), Is (.agg #[.int .i64 ((tn : Int)), .slice C n cz]), Is (.int .i64 (p2)), Ints [p1, p2], Is (.int .i64 (firstE [p1, p2])), Is (.int .i64 (firstE [p1, p2]))]
        (by kernel_rfl) (by kernel_rfl) (by kernel_rfl) (by kernel_rfl) (by kernel_rfl) Ext (fun W => Ext W0 W)
        (fun W _ => Ext.refl W) (fun W W' h k => h.trans k) ?_ (Ext.drew _) ?_ ?_
      · repeat (refine ⟨fun _ _ _ _ k h => (by first | exact h | exact (by first | exact IntsAt.ext h k | exact BothV.ext h k | exact SlV.ext h k)), ?_⟩)
        exact trivial
      · refine ⟨?_, ?_, ?_, ?_, ?_, ?_, ?_, ?_, ?_, trivial⟩
        all_goals intro ρ W ⟨kc, kg, kf⟩ hF hs
        · obtain ⟨h0, -⟩ := hs
          replace h0 : ρ (.tmp 3) = .pointer (some ⟨w.heap.size, 0, none⟩) := h0
          have hc0 : W.cell? ⟨w.heap.size, 0, none⟩ = some (.int .i64 (t)) := hF.cell (by assumption)
          have hc1 : W.cell? ⟨w.heap.size, 1, none⟩ = some (.slice A n ca) := hF.cell (by assumption)
          go_simp
          exact ⟨Ext.refl _, rfl⟩
        · obtain ⟨h0, -⟩ := hs
          replace h0 : ρ (.tmp 4) = .pointer (some ⟨w.heap.size + 1, 0, none⟩) := h0
          have hc0 : W.cell? ⟨w.heap.size + 1, 0, none⟩ = some (.int .i64 (f)) := hF.cell (by assumption)
          have hc1 : W.cell? ⟨w.heap.size + 1, 1, none⟩ = some (.slice B n cb) := hF.cell (by assumption)
          have hc2 : W.cell? ⟨w.heap.size + 1, 2, none⟩ = some (.int .i64 (g)) := hF.cell (by assumption)
          have hc3 : W.cell? ⟨w.heap.size + 1, 3, none⟩ = some (.slice D n cd) := hF.cell (by assumption)
          go_simp
          exact ⟨Ext.refl _, rfl⟩
        · obtain ⟨h0, h1, -⟩ := hs
          replace h0 : ρ (.tmp 11) = .agg #[.int .i64 (t), .slice A n ca] := h0
          replace h1 : ρ (.tmp 12) = .agg #[.int .i64 (f), .slice B n cb, .int .i64 (g), .slice D n cd] := h1
          go_simp
          exact (HP.out W (E0.out.trans hF)).mono fun _ _ ⟨h1, h2⟩ => ⟨_, h1, h2, rfl⟩
        · obtain ⟨h0, -⟩ := hs
          replace h0 : ρ (.tmp 3) = .pointer (some ⟨w.heap.size, 0, none⟩) := h0
          have hc0 : W.cell? ⟨w.heap.size, 0, none⟩ = some (.int .i64 (t)) := hF.cell (by assumption)
          have hc1 : W.cell? ⟨w.heap.size, 1, none⟩ = some (.slice A n ca) := hF.cell (by assumption)
          go_simp
          exact ⟨Ext.refl _, rfl⟩
        · obtain ⟨h0, -⟩ := hs
          replace h0 : ρ (.tmp 5) = .pointer (some ⟨w.heap.size + 1 + 1, 0, none⟩) := h0
          have hc0 : W.cell? ⟨w.heap.size + 1 + 1, 0, none⟩ = some (.int .i64 ((tn : Int))) := hF.cell (by assumption)
          have hc1 : W.cell? ⟨w.heap.size + 1 + 1, 1, none⟩ = some (.slice C n cz) := hF.cell (by assumption)
          go_simp
          exact ⟨Ext.refl _, rfl⟩
        · obtain ⟨h0, h1, -⟩ := hs
          replace h0 : ρ (.tmp 14) = .agg #[.int .i64 (t), .slice A n ca] := h0
          replace h1 : ρ (.tmp 15) = .agg #[.int .i64 ((tn : Int)), .slice C n cz] := h1
          go_simp
          exact (HT.out W (E0.out.trans hF)).mono fun _ _ ⟨h1, h2⟩ => ⟨_, h1, h2, rfl⟩
        · obtain ⟨h0, h1, -⟩ := hs
          replace h0 : ρ (.tmp 13) = .int .i64 (p1) := h0
          replace h1 : ρ (.tmp 16) = .int .i64 (p2) := h1
          go_simp
          exact ⟨Ext.alloc _ _, ints_new _ [p1, p2] _ (by simp)⟩
        · obtain ⟨h0, -⟩ := hs
          replace h0 : (Ints [p1, p2]) (ρ (.tmp 17)) W := h0
          go_simp
          exact (firstOf_any _ _ _ h0).mono fun _ _ ⟨h1, h2⟩ => ⟨_, h1, h2 ▸ Ext.refl _, rfl⟩
        · obtain ⟨h0, -⟩ := hs
          replace h0 : ρ (.tmp 18) = .int .i64 (firstE [p1, p2]) := h0
          go_simp
          exact ⟨Ext.refl _, rfl⟩
      · intro fv W1 hF hs
        obtain ⟨-, -, -, -, -, -, -, -, h8, -⟩ := hs
        replace h8 : fv 8 = .int .i64 (firstE [p1, p2]) := h8
        simp only [fin, List.filterMap]
        go_simp
        rw [HRZ.out]
        have X1 := Lib.hid (E0.out.trans hF)
        have k0 := K0.out.ext hF
        have k1 := K1.out.ext hF
        have k2 := K2.out.ext hF
        clear h8 hF z0 z1 z2 z3 z4 z5 z6 z7
        have z0 : W1.cell? ⟨w.heap.size, 0, none⟩ = some (.int .i64 t) := k0.cell 0
        have z1 : W1.cell? ⟨w.heap.size, 1, none⟩ = some (.slice A n ca) := k0.cell 1
        have z2 : W1.cell? ⟨w.heap.size + 1, 0, none⟩ = some (.int .i64 f) := k1.cell 0
        have z3 : W1.cell? ⟨w.heap.size + 1, 1, none⟩ = some (.slice B n cb) := k1.cell 1
        have z4 : W1.cell? ⟨w.heap.size + 1, 2, none⟩ = some (.int .i64 g) := k1.cell 2
        have z5 : W1.cell? ⟨w.heap.size + 1, 3, none⟩ = some (.slice D n cd) := k1.cell 3
        have K2' := Lib.hid k2
        clear k0 k1 k2
        go_wp2_with (go_at_call 117; refine (HB.out _ X1.out).mono ?_; rintro e W2 ⟨u24, rfl, hx2, hb24⟩; obtain ⟨v1, v2, rfl, hn1, hn2⟩ := hb24; obtain ⟨g1, c1, u1, rfl, hr1⟩ := hn1; obtain ⟨g2, c2, u2, rfl, hr2⟩ := hn2; have HR1 := Lib.hid hr1; have HR2 := Lib.hid hr2; have X2 := Lib.hid hx2; have k2 := K2'.out.ext hx2; have z6 := (Ext.alloc W2 (.cells #[.func (.func 130) #[.agg #[.slice A n ca, .slice (some ⟨g1, 2, none⟩) n c1]] #[], .func (.func 130) #[.agg #[.slice A n ca, .slice (some ⟨g2, 2, none⟩) n c2]] #[]] 165)).cell (k2.cell 0 : W2.cell? ⟨w.heap.size + 1 + 1, 0, none⟩ = some (.int .i64 (tn : Int))); have K2q := Lib.hid k2; clear hr1 hr2 hx2 z0 z1 z2 z3 z4 z5 k2)
        obtain ⟨W3, hW3⟩ : ∃ W3, W3 = W2.alloc (.cells #[.func (.func 130) #[.agg #[.slice A n ca, .slice (some ⟨g1, 2, none⟩) n c1]] #[], .func (.func 130) #[.agg #[.slice A n ca, .slice (some ⟨g2, 2, none⟩) n c2]] #[]] 165) := ⟨_, rfl⟩
        have k9 : Blk W3 W2.heap.size 165 #[.func (.func 130) #[.agg #[.slice A n ca, .slice (some ⟨g1, 2, none⟩) n c1]] #[], .func (.func 130) #[.agg #[.slice A n ca, .slice (some ⟨g2, 2, none⟩) n c2]] #[]] := by rw [hW3]; exact Blk.newAt _ _ _ rfl
        have x3 : Ext W2 W3 := by rw [hW3]; exact Ext.alloc _ _
        rw [← hW3]
        clear hW3 z6
        have HBV := Lib.hid (show ∀ W, Ext W3 W → BothV A n ca l f hota g hotb (.agg #[.func (.func 130) #[.agg #[.slice A n ca, .slice (some ⟨g1, 2, none⟩) n c1]] #[], .func (.func 130) #[.agg #[.slice A n ca, .slice (some ⟨g2, 2, none⟩) n c2]] #[]]) W from fun W e => ⟨_, _, rfl, ⟨g1, c1, u1, rfl, HR1.out.1, HR1.out.2.1.ext (x3.trans e), HR1.out.2.2.ext (x3.trans e)⟩, ⟨g2, c2, u2, rfl, HR2.out.1, HR2.out.2.1.ext (x3.trans e), HR2.out.2.2.ext (x3.trans e)⟩⟩)
        have K9 := Lib.hid k9
        have K2r := Lib.hid (K2q.out.ext x3)
        have X3 := Lib.hid (X1.out.trans (X2.out.trans x3))
        clear k9 x3 HR1 HR2
        generalize Value.func (.func 130) #[.agg #[.slice A n ca, .slice (some ⟨g1, 2, none⟩) n c1]] #[] = v1 at *
        generalize Value.func (.func 130) #[.agg #[.slice A n ca, .slice (some ⟨g2, 2, none⟩) n c2]] #[] = v2 at *
        have HSO := Lib.hid (show so = firstN fp (tn + 1) 0 from HSV.out)
        go_loopw [28] (fun i wr => ∃ k : Nat, k ≤ tn + 1 ∧ i = .int .i64 k ∧ so = firstN fp (tn + 1 - k) k ∧ Ext W3 wr) (fun i _ => tn + 1 - (intOf i).toNat)
        case atStart => exact ⟨0, Nat.zero_le _, rfl, HSO.out, Ext.refl _⟩
        case round =>
          obtain ⟨k, hk, rfl, hr, hx⟩ := hrel
          have HF := Lib.hid hr
          have HX := Lib.hid hx
          clear hr hx
          by_cases hlt : k < tn + 1
          · have HD := Lib.hid (show firstN fp (tn + 1 - k) k = if fp k = true then some k else firstN fp (tn + 1 - (k + 1)) (k + 1) by rw [show tn + 1 - k = (tn + 1 - (k + 1)) + 1 by omega, firstN])
            have HW := Lib.hid (fun W (e : Ext wr W) => HW0.out (k : Int) ((tn : Int) - (k : Int)) ⟨by omega, by omega⟩ ⟨by omega, by omega⟩ W (.agg #[v1, v2]) (X3.out.trans (HX.out.trans e)) (HBV.out W (HX.out.trans e)))
            have HFT := Lib.hid (fun W (u : Value) (e : Ext wr W) (h : SlV n (twoL (wattsL (k : Int) ps n) (wattsL ((tn : Int) - (k : Int)) qs n)) u W) => show Calls Try.prog 119 #[.slice C n cz, u] W (VPost W (Is (.bool (fp k)))) from by
              obtain ⟨E, ce, rfl, hE⟩ := h
              rw [HFA.out k]
              exact (allWithin_any C n cz rs HM.out E ce _ (HL.out _ _) W (HC.out.ext (X3.out.trans (HX.out.trans e))) hE).mono fun _ _ ⟨h1, h2⟩ => ⟨_, h1, h2, rfl⟩)
            obtain ⟨fk, hfk⟩ : ∃ b, b = fp k := ⟨_, rfl⟩
            rw [← hfk] at HD HFT
            have s0 : wr.cell? ⟨w.heap.size + 1 + 1, 0, none⟩ = some (.int .i64 (tn : Int)) := (K2r.out.ext HX.out).cell 0
            have s1 : wr.cell? ⟨w.heap.size + 1 + 1, 1, none⟩ = some (.slice C n cz) := (K2r.out.ext HX.out).cell 1
            have s2 : wr.cell? ⟨W2.heap.size, 0, none⟩ = some v1 := (K9.out.ext HX.out).cell 0
            have s3 : wr.cell? ⟨W2.heap.size, 1, none⟩ = some v2 := (K9.out.ext HX.out).cell 1
            have hki : (k : Int) < (tn : Int) + 1 := by omega
            clear hfk
            go_wp2
            refine wp_region_each [some 31, some 32, some 33, some 34, some 35, some 36, some 37, some 38, some 39, some 40, some 41] [[5], [31], [9], [10], [5], [35], [10], [36, 37], [34, 38], [33, 39], [32, 40]]
              [Is (.pointer (some ⟨w.heap.size + 1 + 1, 1, none⟩)), Is (.slice C n cz), Is (.agg #[v1, v2]), Is (.int .i64 ((k : Int))), Is (.pointer (some ⟨w.heap.size + 1 + 1, 0, none⟩)), Is (.int .i64 ((tn : Int))), Is (.int .i64 ((k : Int))), Is (.int .i64 ((tn : Int) - (k : Int))), Is (.agg #[.int .i64 (k : Int), .int .i64 ((tn : Int) - (k : Int))]), SlV n (twoL (wattsL (k : Int) ps n) (wattsL ((tn : Int) - (k : Int)) qs n)), Is (.bool (fk))]
              (by kernel_rfl) (by kernel_rfl) (by kernel_rfl) (by kernel_rfl) (by kernel_rfl) Ext (fun W => Ext wr W)
              (fun W _ => Ext.refl W) (fun W W' h k => h.trans k) ?_ (Ext.drew _) ?_ ?_
            · repeat (refine ⟨fun _ _ _ _ k h => (by first | exact h | exact (by first | exact IntsAt.ext h k | exact BothV.ext h k | exact SlV.ext h k)), ?_⟩)
              exact trivial
            · refine ⟨?_, ?_, ?_, ?_, ?_, ?_, ?_, ?_, ?_, ?_, ?_, trivial⟩
              all_goals intro ρ W ⟨kc, kg, kf⟩ hF hs
              · obtain ⟨h0, -⟩ := hs
                replace h0 : ρ (.tmp 5) = .pointer (some ⟨w.heap.size + 1 + 1, 0, none⟩) := h0
                go_simp
                exact ⟨Ext.refl _, rfl⟩
              · obtain ⟨h0, -⟩ := hs
                replace h0 : ρ (.tmp 31) = .pointer (some ⟨w.heap.size + 1 + 1, 1, none⟩) := h0
                have hc0 : W.cell? ⟨w.heap.size + 1 + 1, 1, none⟩ = some (.slice C n cz) := hF.cell (by assumption)
                go_simp
                exact ⟨Ext.refl _, rfl⟩
              · obtain ⟨h0, -⟩ := hs
                replace h0 : ρ (.tmp 9) = .pointer (some ⟨W2.heap.size, 0, none⟩) := h0
                have hc0 : W.cell? ⟨W2.heap.size, 0, none⟩ = some (v1) := hF.cell (by assumption)
                have hc1 : W.cell? ⟨W2.heap.size, 1, none⟩ = some (v2) := hF.cell (by assumption)
                go_simp
                exact ⟨Ext.refl _, rfl⟩
              · obtain ⟨h0, -⟩ := hs
                replace h0 : ρ (.tmp 10) = .int .i64 ((k : Int)) := h0
                go_simp
                exact ⟨Ext.refl _, rfl⟩
              · obtain ⟨h0, -⟩ := hs
                replace h0 : ρ (.tmp 5) = .pointer (some ⟨w.heap.size + 1 + 1, 0, none⟩) := h0
                go_simp
                exact ⟨Ext.refl _, rfl⟩
              · obtain ⟨h0, -⟩ := hs
                replace h0 : ρ (.tmp 35) = .pointer (some ⟨w.heap.size + 1 + 1, 0, none⟩) := h0
                have hc0 : W.cell? ⟨w.heap.size + 1 + 1, 0, none⟩ = some (.int .i64 ((tn : Int))) := hF.cell (by assumption)
                go_simp
                exact ⟨Ext.refl _, rfl⟩
              · obtain ⟨h0, -⟩ := hs
                replace h0 : ρ (.tmp 10) = .int .i64 ((k : Int)) := h0
                go_simp
                exact ⟨Ext.refl _, rfl⟩
              · obtain ⟨h0, h1, -⟩ := hs
                replace h0 : ρ (.tmp 36) = .int .i64 ((tn : Int)) := h0
                replace h1 : ρ (.tmp 37) = .int .i64 ((k : Int)) := h1
                have hw : IntKind.i64.wrap ((tn : Int) - (k : Int)) = (tn : Int) - (k : Int) := IntWalk.i64_in _ (by omega)
                go_simp
                exact ⟨Ext.refl _, rfl⟩
              · obtain ⟨h0, h1, -⟩ := hs
                replace h0 : ρ (.tmp 34) = .int .i64 ((k : Int)) := h0
                replace h1 : ρ (.tmp 38) = .int .i64 ((tn : Int) - (k : Int)) := h1
                go_simp
                exact ⟨Ext.refl _, rfl⟩
              · obtain ⟨h0, h1, -⟩ := hs
                replace h0 : ρ (.tmp 33) = .agg #[v1, v2] := h0
                replace h1 : ρ (.tmp 39) = .agg #[.int .i64 (k : Int), .int .i64 ((tn : Int) - (k : Int))] := h1
                go_simp
                exact HW.out W hF
              · obtain ⟨h0, h1, -⟩ := hs
                replace h0 : ρ (.tmp 32) = .slice C n cz := h0
                replace h1 : (SlV n (twoL (wattsL (k : Int) ps n) (wattsL ((tn : Int) - (k : Int)) qs n))) (ρ (.tmp 40)) W := h1
                go_simp
                exact HFT.out W _ (hF) h1
            · intro fv W3 hF hs
              obtain ⟨-, -, -, -, -, -, -, -, -, -, h41, -⟩ := hs
              replace h41 : fv 41 = .bool (fk) := h41
              simp only [fin, List.filterMap]
              go_simp
              have XN := Lib.hid (HX.out.trans hF)
              clear hF h41 s0 s1 s2 s3
              cases fk
              · go_wp2
                go_roundw
                case rel => exact ⟨k + 1, by omega, by go_num, by rw [HF.out, HD.out]; rfl, XN.out⟩
                case measure => simp [intOf]; omega
              · have HSE := Lib.hid (show so = some k by rw [HF.out, HD.out]; rfl)
                go_wp2
                go_ret2
                exact ⟨_, rfl, X3.out.trans XN.out, by show _ = _; rw [HSE.out]; rfl⟩
          · obtain rfl : k = tn + 1 := by omega
            have HSE := Lib.hid (show so = none by rw [HF.out, show tn + 1 - (tn + 1) = 0 by omega]; rfl)
            have hki : ¬ ((tn + 1 : Nat) : Int) < (tn : Int) + 1 := by omega
            go_wp2
            go_ret2
            exact ⟨_, rfl, X3.out.trans HX.out, by show _ = _; rw [HSE.out]; rfl⟩
    refine main.mono ?_
    rintro e w' ⟨v, he, hx, hu⟩
    refine ⟨v, he, hx, hu.trans ?_⟩
    unfold splitA
    rw [if_neg (by simp [hz])]
  · have main : Calls Try.prog 63 #[.agg #[.int .i64 t, .slice A n ca], .agg #[.int .i64 f, .slice B m cb, .int .i64 g, .slice D q cd], .agg #[.int .i64 tot, .slice C M cz]] w (VPost w (Is (.tuple #[.int .i64 0, .int .i64 (splE t l f m g q n tot rs)]))) := by
      have hzb : (splE t l f m g q n tot rs != 0) = true := by simp [hz]
      clear hS hB hD hn hm hq HR0 hz hM hC
      generalize splE t l f m g q n tot rs = r at *
      go_enter Try.func63, Try.ntmps63
      go_wp2
      rw [← hW0]
      clear hW0
      refine wp_region_each [some 11, some 12, some 13, some 14, some 15, some 16, some 17, some 18, some 8] [[3], [4], [11, 12], [3], [5], [14, 15], [13, 16], [17], [18]]
        [Is (.agg #[.int .i64 (t), .slice A n ca]), Is (.agg #[.int .i64 (f), .slice B m cb, .int .i64 (g), .slice D q cd]), Is (.int .i64 (p1)), Is (.agg #[.int .i64 (t), .slice A n ca]), Is (.agg #[.int .i64 (tot), .slice C M cz]), Is (.int .i64 (p2)), Ints [p1, p2], Is (.int .i64 (firstE [p1, p2])), Is (.int .i64 (firstE [p1, p2]))]
        (by kernel_rfl) (by kernel_rfl) (by kernel_rfl) (by kernel_rfl) (by kernel_rfl) Ext (fun W => Ext W0 W)
        (fun W _ => Ext.refl W) (fun W W' h k => h.trans k) ?_ (Ext.drew _) ?_ ?_
      · repeat (refine ⟨fun _ _ _ _ k h => (by first | exact h | exact (by first | exact IntsAt.ext h k | exact BothV.ext h k | exact SlV.ext h k)), ?_⟩)
        exact trivial
      · refine ⟨?_, ?_, ?_, ?_, ?_, ?_, ?_, ?_, ?_, trivial⟩
        all_goals intro ρ W ⟨kc, kg, kf⟩ hF hs
        · obtain ⟨h0, -⟩ := hs
          replace h0 : ρ (.tmp 3) = .pointer (some ⟨w.heap.size, 0, none⟩) := h0
          have hc0 : W.cell? ⟨w.heap.size, 0, none⟩ = some (.int .i64 (t)) := hF.cell (by assumption)
          have hc1 : W.cell? ⟨w.heap.size, 1, none⟩ = some (.slice A n ca) := hF.cell (by assumption)
          go_simp
          exact ⟨Ext.refl _, rfl⟩
        · obtain ⟨h0, -⟩ := hs
          replace h0 : ρ (.tmp 4) = .pointer (some ⟨w.heap.size + 1, 0, none⟩) := h0
          have hc0 : W.cell? ⟨w.heap.size + 1, 0, none⟩ = some (.int .i64 (f)) := hF.cell (by assumption)
          have hc1 : W.cell? ⟨w.heap.size + 1, 1, none⟩ = some (.slice B m cb) := hF.cell (by assumption)
          have hc2 : W.cell? ⟨w.heap.size + 1, 2, none⟩ = some (.int .i64 (g)) := hF.cell (by assumption)
          have hc3 : W.cell? ⟨w.heap.size + 1, 3, none⟩ = some (.slice D q cd) := hF.cell (by assumption)
          go_simp
          exact ⟨Ext.refl _, rfl⟩
        · obtain ⟨h0, h1, -⟩ := hs
          replace h0 : ρ (.tmp 11) = .agg #[.int .i64 (t), .slice A n ca] := h0
          replace h1 : ρ (.tmp 12) = .agg #[.int .i64 (f), .slice B m cb, .int .i64 (g), .slice D q cd] := h1
          go_simp
          exact (HP.out W (E0.out.trans hF)).mono fun _ _ ⟨h1, h2⟩ => ⟨_, h1, h2, rfl⟩
        · obtain ⟨h0, -⟩ := hs
          replace h0 : ρ (.tmp 3) = .pointer (some ⟨w.heap.size, 0, none⟩) := h0
          have hc0 : W.cell? ⟨w.heap.size, 0, none⟩ = some (.int .i64 (t)) := hF.cell (by assumption)
          have hc1 : W.cell? ⟨w.heap.size, 1, none⟩ = some (.slice A n ca) := hF.cell (by assumption)
          go_simp
          exact ⟨Ext.refl _, rfl⟩
        · obtain ⟨h0, -⟩ := hs
          replace h0 : ρ (.tmp 5) = .pointer (some ⟨w.heap.size + 1 + 1, 0, none⟩) := h0
          have hc0 : W.cell? ⟨w.heap.size + 1 + 1, 0, none⟩ = some (.int .i64 (tot)) := hF.cell (by assumption)
          have hc1 : W.cell? ⟨w.heap.size + 1 + 1, 1, none⟩ = some (.slice C M cz) := hF.cell (by assumption)
          go_simp
          exact ⟨Ext.refl _, rfl⟩
        · obtain ⟨h0, h1, -⟩ := hs
          replace h0 : ρ (.tmp 14) = .agg #[.int .i64 (t), .slice A n ca] := h0
          replace h1 : ρ (.tmp 15) = .agg #[.int .i64 (tot), .slice C M cz] := h1
          go_simp
          exact (HT.out W (E0.out.trans hF)).mono fun _ _ ⟨h1, h2⟩ => ⟨_, h1, h2, rfl⟩
        · obtain ⟨h0, h1, -⟩ := hs
          replace h0 : ρ (.tmp 13) = .int .i64 (p1) := h0
          replace h1 : ρ (.tmp 16) = .int .i64 (p2) := h1
          go_simp
          exact ⟨Ext.alloc _ _, ints_new _ [p1, p2] _ (by simp)⟩
        · obtain ⟨h0, -⟩ := hs
          replace h0 : (Ints [p1, p2]) (ρ (.tmp 17)) W := h0
          go_simp
          exact (firstOf_any _ _ _ h0).mono fun _ _ ⟨h1, h2⟩ => ⟨_, h1, h2 ▸ Ext.refl _, rfl⟩
        · obtain ⟨h0, -⟩ := hs
          replace h0 : ρ (.tmp 18) = .int .i64 (firstE [p1, p2]) := h0
          go_simp
          exact ⟨Ext.refl _, rfl⟩
      · intro fv W1 hF hs
        obtain ⟨-, -, -, -, -, -, -, -, h8, -⟩ := hs
        replace h8 : fv 8 = .int .i64 (firstE [p1, p2]) := h8
        simp only [fin, List.filterMap]
        go_simp
        rw [← HE.out]
        clear h8
        go_wp2
        go_ret2
        exact ⟨_, rfl, E0.out.trans hF, rfl⟩
    refine main.mono ?_
    rintro e w' ⟨v, he, hx, hu⟩
    refine ⟨v, he, hx, hu.trans ?_⟩
    unfold splitA
    rw [if_pos hz]

end Go.Proofs.Ytpaoeghdfeekoaa
