/- For FieldFrequencies: the reference's watts of a pair and minimum split. -/
import Derived.Test.YtpaoeghdfeekoaaK26
import Derived.Test.YtpaoeghdfeekoaaK14
namespace Go.Proofs.Ytpaoeghdfeekoaa
open Go.RowKit Go.Shelf Go.Mem Go.RegInv
attribute [local go_sem] RelUpon_value RelUpon_skip RelUpon_enter BigFrame.eval_const BigFrame.eval_global BigFrame.eval_func

set_option maxRecDepth 100000 in
set_option maxHeartbeats 4000000 in
theorem refTwo_any (t : Int) (A : Option Addr) (n ca : Nat) (l : List Sh) (hn : l.length = n) (f : Int) (B : Option Addr) (cb : Nat) (hota : List Bool) (hm : hota.length = n) (g : Int) (D : Option Addr) (cd : Nat) (hotb : List Bool) (hq : hotb.length = n) (a b : Int) (ha : 0 ≤ a ∧ a ≤ 100000) (hb : 0 ≤ b ∧ b ≤ 100000) (w : World)
    (hS : RowsAt 3 Sh.enc w A l) (hB : RowsAt 1 boolEnc w B hota) (hD : RowsAt 1 boolEnc w D hotb) (hok : ∀ s ∈ l, shOK s) (hf : 1 ≤ f ∧ f ≤ 8) (hg : 1 ≤ g ∧ g ≤ 8) (h1 : 1 ≤ n) (h4 : n ≤ 4) :
    Calls Try.prog 69 #[.agg #[.int .i64 t, .slice A n ca], .agg #[.int .i64 f, .slice B n cb, .int .i64 g, .slice D n cd], .agg #[.int .i64 a, .int .i64 b]] w (VPost w (SlV n (twoL (wattsL a (powers f hota l) n) (wattsL b (powers g hotb l) n)))) := by
  obtain ⟨W0, hW0⟩ : ∃ W0, W0 = ((w.alloc (.cells #[.int .i64 t, .slice A n ca] 24)).alloc (.cells #[.int .i64 f, .slice B n cb, .int .i64 g, .slice D n cd] 96)).alloc (.cells #[.int .i64 a, .int .i64 b] 82) := ⟨_, rfl⟩
  have k0 : Blk W0 w.heap.size 24 #[.int .i64 t, .slice A n ca] := by rw [hW0]; exact ((Blk.new _ _ _).alloc _).alloc _
  have k1 : Blk W0 (w.heap.size + 1) 96 #[.int .i64 f, .slice B n cb, .int .i64 g, .slice D n cd] := by rw [hW0]; exact (Blk.newAt _ _ _ (by simp)).alloc _
  have k2 : Blk W0 (w.heap.size + 1 + 1) 82 #[.int .i64 a, .int .i64 b] := by rw [hW0]; exact Blk.newAt _ _ _ (by simp)
  have e0 : Ext w W0 := by rw [hW0]; exact (Ext.alloc _ _).trans ((Ext.alloc _ _).trans (Ext.alloc _ _))
  have z0 : W0.cell? ⟨w.heap.size, 0, none⟩ = some (.int .i64 t) := k0.cell 0
  have z1 : W0.cell? ⟨w.heap.size, 1, none⟩ = some (.slice A n ca) := k0.cell 1
  have z2 : W0.cell? ⟨w.heap.size + 1, 0, none⟩ = some (.int .i64 f) := k1.cell 0
  have z3 : W0.cell? ⟨w.heap.size + 1, 1, none⟩ = some (.slice B n cb) := k1.cell 1
  have z4 : W0.cell? ⟨w.heap.size + 1, 2, none⟩ = some (.int .i64 g) := k1.cell 2
  have z5 : W0.cell? ⟨w.heap.size + 1, 3, none⟩ = some (.slice D n cd) := k1.cell 3
  have K0 := Lib.hid k0
  have K1 := Lib.hid k1
  have K2 := Lib.hid k2
  have E0 := Lib.hid e0
  have z6 : W0.cell? ⟨w.heap.size + 1 + 1, 0, none⟩ = some (.int .i64 a) := k2.cell 0
  have z7 : W0.cell? ⟨w.heap.size + 1 + 1, 1, none⟩ = some (.int .i64 b) := k2.cell 1
  have okp := powers_ok (hot := hota) hok hf (by rw [hn]; exact h1) (by rw [hn]; exact h4)
  have okq := powers_ok (hot := hotb) hok hg (by rw [hn]; exact h1) (by rw [hn]; exact h4)
  have HW1 := Lib.hid (fun W (e : Ext w W) => show Calls Try.prog 50 #[.agg #[.int .i64 t, .slice A n ca], .agg #[.int .i64 f, .slice B n cb], .int .i64 a] W (VPost W (SlV n (wattsL a (powers f hota l) n))) from
    (refWatts_any t A n ca l hn f B cb hota hm a W (hS.ext e) (hB.ext e) hok hf h1 h4 ha).mono fun _ _ ⟨v, h1, h2, h3⟩ => ⟨v, h1, h3, SlV.of_ints (wattsL_len _ _ _) h2⟩)
  have HW2 := Lib.hid (fun W (e : Ext w W) => show Calls Try.prog 50 #[.agg #[.int .i64 t, .slice A n ca], .agg #[.int .i64 g, .slice D n cd], .int .i64 b] W (VPost W (SlV n (wattsL b (powers g hotb l) n))) from
    (refWatts_any t A n ca l hn g D cd hotb hq b W (hS.ext e) (hD.ext e) hok hg h1 h4 hb).mono fun _ _ ⟨v, h1, h2, h3⟩ => ⟨v, h1, h3, SlV.of_ints (wattsL_len _ _ _) h2⟩)
  have HR1 := Lib.hid (fun i x => watts_range (n := n) ha okp.sum okp.part i x)
  have HR2 := Lib.hid (fun i x => watts_range (n := n) hb okq.sum okq.part i x)
  have HL1 := Lib.hid (wattsL_len a (powers f hota l) n)
  have HL2 := Lib.hid (wattsL_len b (powers g hotb l) n)
  obtain ⟨i0, hi, hz0, hz1, hz2⟩ := info_parts info3
  have HI0 := Lib.hid hz0
  clear k0 k1 k2 e0 okp okq hn hm hq hS hB hD hok hf hg ha hb
  generalize wattsL a (powers f hota l) n = us at *
  generalize wattsL b (powers g hotb l) n = vs at *
  go_enter Try.func69, Try.ntmps69
  go_wp2
  rw [← hW0]
  clear hW0
  refine wp_region_each [some 11, some 12, some 13, some 14, some 15, some 16, some 17, some 18, some 19, some 20, some 21, some 22, some 7, some 8] [[3], [4], [12], [5], [14], [11, 13, 15], [3], [4], [18], [5], [20], [17, 19, 21], [16], [22]]
    [Is (.agg #[.int .i64 (t), .slice A n ca]), Is (.pointer (some ⟨w.heap.size + 1, 0, none⟩)), Is (.agg #[.int .i64 (f), .slice B n cb]), Is (.pointer (some ⟨w.heap.size + 1 + 1, 0, none⟩)), Is (.int .i64 (a)), SlV n us, Is (.agg #[.int .i64 (t), .slice A n ca]), Is (.pointer (some ⟨w.heap.size + 1, 2, none⟩)), Is (.agg #[.int .i64 (g), .slice D n cd]), Is (.pointer (some ⟨w.heap.size + 1 + 1, 1, none⟩)), Is (.int .i64 (b)), SlV n vs, SlV n us, SlV n vs]
    (by kernel_rfl) (by kernel_rfl) (by kernel_rfl) (by kernel_rfl) (by kernel_rfl) Ext (fun W => Ext W0 W)
    (fun W _ => Ext.refl W) (fun W W' h k => h.trans k) ?_ (Ext.drew _) ?_ ?_
  · repeat (refine ⟨fun _ _ _ _ k h => (by first | exact h | exact (by first | exact IntsAt.ext h k | exact BothV.ext h k | exact SlV.ext h k)), ?_⟩)
    exact trivial
  · refine ⟨?_, ?_, ?_, ?_, ?_, ?_, ?_, ?_, ?_, ?_, ?_, ?_, ?_, ?_, trivial⟩
    all_goals intro ρ W ⟨kc, kg, kf⟩ hF hs
    · obtain ⟨h0, -⟩ := hs
      replace h0 : ρ (.tmp 3) = .pointer (some ⟨w.heap.size, 0, none⟩) := h0
      have hc0 : W.cell? ⟨w.heap.size, 0, none⟩ = some (.int .i64 (t)) := hF.cell (by assumption)
      have hc1 : W.cell? ⟨w.heap.size, 1, none⟩ = some (.slice A n ca) := hF.cell (by assumption)
      go_simp
      exact ⟨Ext.refl _, rfl⟩
    · obtain ⟨h0, -⟩ := hs
      replace h0 : ρ (.tmp 4) = .pointer (some ⟨w.heap.size + 1, 0, none⟩) := h0
      go_simp
      exact ⟨Ext.refl _, rfl⟩
    · obtain ⟨h0, -⟩ := hs
      replace h0 : ρ (.tmp 12) = .pointer (some ⟨w.heap.size + 1, 0, none⟩) := h0
      have hc0 : W.cell? ⟨w.heap.size + 1, 0, none⟩ = some (.int .i64 (f)) := hF.cell (by assumption)
      have hc1 : W.cell? ⟨w.heap.size + 1, 1, none⟩ = some (.slice B n cb) := hF.cell (by assumption)
      go_simp
      exact ⟨Ext.refl _, rfl⟩
    · obtain ⟨h0, -⟩ := hs
      replace h0 : ρ (.tmp 5) = .pointer (some ⟨w.heap.size + 1 + 1, 0, none⟩) := h0
      go_simp
      exact ⟨Ext.refl _, rfl⟩
    · obtain ⟨h0, -⟩ := hs
      replace h0 : ρ (.tmp 14) = .pointer (some ⟨w.heap.size + 1 + 1, 0, none⟩) := h0
      have hc0 : W.cell? ⟨w.heap.size + 1 + 1, 0, none⟩ = some (.int .i64 (a)) := hF.cell (by assumption)
      go_simp
      exact ⟨Ext.refl _, rfl⟩
    · obtain ⟨h0, h1, h2, -⟩ := hs
      replace h0 : ρ (.tmp 11) = .agg #[.int .i64 (t), .slice A n ca] := h0
      replace h1 : ρ (.tmp 13) = .agg #[.int .i64 (f), .slice B n cb] := h1
      replace h2 : ρ (.tmp 15) = .int .i64 (a) := h2
      go_simp
      exact HW1.out W (E0.out.trans hF)
    · obtain ⟨h0, -⟩ := hs
      replace h0 : ρ (.tmp 3) = .pointer (some ⟨w.heap.size, 0, none⟩) := h0
      have hc0 : W.cell? ⟨w.heap.size, 0, none⟩ = some (.int .i64 (t)) := hF.cell (by assumption)
      have hc1 : W.cell? ⟨w.heap.size, 1, none⟩ = some (.slice A n ca) := hF.cell (by assumption)
      go_simp
      exact ⟨Ext.refl _, rfl⟩
    · obtain ⟨h0, -⟩ := hs
      replace h0 : ρ (.tmp 4) = .pointer (some ⟨w.heap.size + 1, 0, none⟩) := h0
      go_simp
      exact ⟨Ext.refl _, rfl⟩
    · obtain ⟨h0, -⟩ := hs
      replace h0 : ρ (.tmp 18) = .pointer (some ⟨w.heap.size + 1, 2, none⟩) := h0
      have hc0 : W.cell? ⟨w.heap.size + 1, 2, none⟩ = some (.int .i64 (g)) := hF.cell (by assumption)
      have hc1 : W.cell? ⟨w.heap.size + 1, 3, none⟩ = some (.slice D n cd) := hF.cell (by assumption)
      go_simp
      exact ⟨Ext.refl _, rfl⟩
    · obtain ⟨h0, -⟩ := hs
      replace h0 : ρ (.tmp 5) = .pointer (some ⟨w.heap.size + 1 + 1, 0, none⟩) := h0
      go_simp
      exact ⟨Ext.refl _, rfl⟩
    · obtain ⟨h0, -⟩ := hs
      replace h0 : ρ (.tmp 20) = .pointer (some ⟨w.heap.size + 1 + 1, 1, none⟩) := h0
      have hc0 : W.cell? ⟨w.heap.size + 1 + 1, 1, none⟩ = some (.int .i64 (b)) := hF.cell (by assumption)
      go_simp
      exact ⟨Ext.refl _, rfl⟩
    · obtain ⟨h0, h1, h2, -⟩ := hs
      replace h0 : ρ (.tmp 17) = .agg #[.int .i64 (t), .slice A n ca] := h0
      replace h1 : ρ (.tmp 19) = .agg #[.int .i64 (g), .slice D n cd] := h1
      replace h2 : ρ (.tmp 21) = .int .i64 (b) := h2
      go_simp
      exact HW2.out W (E0.out.trans hF)
    · obtain ⟨h0, -⟩ := hs
      replace h0 : (SlV n us) (ρ (.tmp 16)) W := h0
      go_simp
      first | exact ⟨Ext.refl _, h0⟩ | exact Ext.refl _
    · obtain ⟨h0, -⟩ := hs
      replace h0 : (SlV n vs) (ρ (.tmp 22)) W := h0
      go_simp
      first | exact ⟨Ext.refl _, h0⟩ | exact Ext.refl _
  · intro fv W1 hF hs
    obtain ⟨-, -, -, -, -, -, -, -, -, -, -, -, h7, h8, -⟩ := hs
    replace h7 : (SlV n us) (fv 7) W1 := h7
    replace h8 : (SlV n vs) (fv 8) W1 := h8
    simp only [fin, List.filterMap]
    go_simp
    have X1 := Lib.hid (E0.out.trans hF)
    obtain ⟨A7, c7, hv7, hr7⟩ := h7
    obtain ⟨A8, c8, hv8, hr8⟩ := h8
    rw [hv7, hv8]
    obtain ⟨b7, o7, rfl, _, _⟩ := hr7.2 0 _ (List.getElem?_eq_getElem (by rw [HL1.out]; omega))
    obtain ⟨b8, o8, rfl, _, _⟩ := hr8.2 0 _ (List.getElem?_eq_getElem (by rw [HL2.out]; omega))
    have HR7 := Lib.hid hr7
    have HR8 := Lib.hid hr8
    clear hv7 hv8 hr7 hr8 hF z0 z1 z2 z3 z4 z5 z6 z7
    have HZL := Lib.hid (twoL_len HL1.out HL2.out)
    have HZ0 := Lib.hid (show (twoL us vs).take 0 = [] by simp)
    go_wp2
    go_loopw [10, 9] (fun i v wr => ∃ (k : Nat) (u : Value), k ≤ n ∧ i = .int .i64 k ∧ u = v ∧ wr.ownsRow W1.heap.size 3 1 u k (((twoL us vs).take k).map (Value.int .i64)) ∧ Ext W1 wr) (fun i _ _ => n - (intOf i).toNat)
    case atStart => exact ⟨0, _, Nat.zero_le _, rfl, rfl, by rw [HZ0.out]; exact World.ownsRow_nil _ _ _ _, Ext.refl _⟩
    case round =>
      obtain ⟨k, v, hk, rfl, rfl, hown, he⟩ := hrel
      have HO := Lib.hid hown
      have HE := Lib.hid he
      clear hown he
      by_cases hlt : k < n
      · obtain ⟨x, hx⟩ : ∃ x, us[k]? = some x := ⟨_, List.getElem?_eq_getElem (by rw [HL1.out]; exact hlt)⟩
        obtain ⟨y, hy⟩ : ∃ y, vs[k]? = some y := ⟨_, List.getElem?_eq_getElem (by rw [HL2.out]; exact hlt)⟩
        obtain ⟨x0, x1⟩ := HR1.out k x hx
        obtain ⟨y0, y1⟩ := HR2.out k y hy
        have HT := Lib.hid (take_snocI (show (twoL us vs)[k]? = some (x + y) by rw [twoL, List.getElem?_zipWith, hx, hy]))
        obtain ⟨b, o, e7, _, hc⟩ := HR7.out.2 k x hx
        obtain ⟨rfl, rfl⟩ : b7 = b ∧ o7 = o := by simpa using e7
        obtain ⟨b', o', e8, _, hd⟩ := HR8.out.2 k y hy
        obtain ⟨rfl, rfl⟩ : b8 = b' ∧ o8 = o' := by simpa using e8
        have c0 : wr.cell? ⟨b7, o7 + k, none⟩ = some (.int .i64 x) := HE.out.cell (by have := hc 0 _ rfl; simpa using this)
        have c1 : wr.cell? ⟨b8, o8 + k, none⟩ = some (.int .i64 y) := HE.out.cell (by have := hd 0 _ rfl; simpa using this)
        have hwb := HE.out.size
        have hki : (k : Int) < (n : Int) := by omega
        clear hx hy e7 e8 hc hd
        go_wp2
        refine wp_region_partR 11 [some 29, some 30, some 31, some 32, some 33, some 34, some 35, some 36, some 37, some 38, some 39] [[9], [7], [10], [30, 31], [32], [8], [10], [34, 35], [36], [33, 37], [38]]
          [Is (v), Is (.slice (some ⟨b7, o7, none⟩) n c7), Is (.int .i64 ((k : Int))), Is (.pointer (some ⟨b7, o7 + k, none⟩)), Is (.int .i64 (x)), Is (.slice (some ⟨b8, o8, none⟩) n c8), Is (.int .i64 ((k : Int))), Is (.pointer (some ⟨b8, o8 + k, none⟩)), Is (.int .i64 (y)), Is (.int .i64 (x + y)), Ints [x + y]]
          (by kernel_rfl) (by kernel_rfl) (by kernel_rfl) (by kernel_rfl) (by kernel_rfl) (by kernel_rfl) (by kernel_rfl) Ext (fun W => Ext wr W)
          (fun W _ => Ext.refl W) (fun W W' h k => h.trans k) ?_ (Ext.drew _) ?_ ?_
        · repeat (refine ⟨fun _ _ _ _ k h => (by first | exact h | exact IntsAt.ext h k), ?_⟩)
          exact trivial
        · refine ⟨?_, ?_, ?_, ?_, ?_, ?_, ?_, ?_, ?_, ?_, ?_, trivial⟩
          all_goals intro ρ W ⟨kc, kg, kf⟩ hF hs
          · obtain ⟨h0, -⟩ := hs
            replace h0 : ρ (.tmp 9) = v := h0
            go_simp
            exact ⟨Ext.refl _, rfl⟩
          · obtain ⟨h0, -⟩ := hs
            replace h0 : ρ (.tmp 7) = .slice (some ⟨b7, o7, none⟩) n c7 := h0
            go_simp
            exact ⟨Ext.refl _, rfl⟩
          · obtain ⟨h0, -⟩ := hs
            replace h0 : ρ (.tmp 10) = .int .i64 ((k : Int)) := h0
            go_simp
            exact ⟨Ext.refl _, rfl⟩
          · obtain ⟨h0, h1, -⟩ := hs
            replace h0 : ρ (.tmp 30) = .slice (some ⟨b7, o7, none⟩) n c7 := h0
            replace h1 : ρ (.tmp 31) = .int .i64 ((k : Int)) := h1
            have hki : (k : Int) < (n : Int) := by omega
            go_simp
            exact ⟨Ext.refl _, rfl⟩
          · obtain ⟨h0, -⟩ := hs
            replace h0 : ρ (.tmp 32) = .pointer (some ⟨b7, o7 + k, none⟩) := h0
            have hc0 : W.cell? ⟨b7, o7 + k, none⟩ = some (.int .i64 (x)) := hF.cell (by assumption)
            go_simp
            exact ⟨Ext.refl _, rfl⟩
          · obtain ⟨h0, -⟩ := hs
            replace h0 : ρ (.tmp 8) = .slice (some ⟨b8, o8, none⟩) n c8 := h0
            go_simp
            exact ⟨Ext.refl _, rfl⟩
          · obtain ⟨h0, -⟩ := hs
            replace h0 : ρ (.tmp 10) = .int .i64 ((k : Int)) := h0
            go_simp
            exact ⟨Ext.refl _, rfl⟩
          · obtain ⟨h0, h1, -⟩ := hs
            replace h0 : ρ (.tmp 34) = .slice (some ⟨b8, o8, none⟩) n c8 := h0
            replace h1 : ρ (.tmp 35) = .int .i64 ((k : Int)) := h1
            have hki : (k : Int) < (n : Int) := by omega
            go_simp
            exact ⟨Ext.refl _, rfl⟩
          · obtain ⟨h0, -⟩ := hs
            replace h0 : ρ (.tmp 36) = .pointer (some ⟨b8, o8 + k, none⟩) := h0
            have hc0 : W.cell? ⟨b8, o8 + k, none⟩ = some (.int .i64 (y)) := hF.cell (by assumption)
            go_simp
            exact ⟨Ext.refl _, rfl⟩
          · obtain ⟨h0, h1, -⟩ := hs
            replace h0 : ρ (.tmp 33) = .int .i64 (x) := h0
            replace h1 : ρ (.tmp 37) = .int .i64 (y) := h1
            have hw : IntKind.i64.wrap (x + y) = x + y := IntWalk.i64_in _ (by omega)
            go_simp
            exact ⟨Ext.refl _, rfl⟩
          · obtain ⟨h0, -⟩ := hs
            replace h0 : ρ (.tmp 38) = .int .i64 (x + y) := h0
            go_simp
            exact ⟨Ext.alloc _ _, ints_new _ [x + y] _ (by simp)⟩
        · intro fv W5 hF hs
          obtain ⟨h29, -, -, -, -, -, -, -, -, -, h39, -⟩ := hs
          replace h29 : fv 29 = v := h29
          replace h39 : (Ints [x + y]) (fv 39) W5 := h39
          simp only [fin, List.filterMap]
          go_simp
          have HX5 := Lib.hid hF
          obtain ⟨bb, ob, cb, hv41, hnw⟩ := ints_one h39
          have HV36 := Lib.hid hv41
          have HNW := Lib.hid hnw
          clear hF h29 h39 hv41 hnw c0 c1
          go_wp2_with (at_builtin; refine wpList_append_own _ rfl _ _ 37 rfl W1.heap.size 3 i0 (.int .i64 0) 1 8 Try.underlying37 hi HI0.out hz1 hz2 rfl (by decide) _ _ _ rfl (own_ext HO.out HX5.out) ⟨bb, ob, none⟩ 1 cb [.int .i64 (x + y)] HV36.out rfl HNW.out (by simp [Value.oneCell']) (by unfold maxLen; omega) (by omega) (by have := HX5.out.size; omega) ?_; intro v' w1 hown' hgrow _; have HO1 := Lib.hid hown'; have HE1 := Lib.hid (Ext.grownBy (HE.out.trans HX5.out) hgrow (fun g hg => own_base HO.out hg)); clear hown' hgrow)
          go_roundw
          case rel => exact ⟨k + 1, _, by omega, by go_num, rfl, by rw [HT.out]; exact HO1.out, HE1.out⟩
          case measure => simp [intOf]; omega
      · obtain rfl : n = k := by omega
        have HTK := Lib.hid (show (twoL us vs).take n = twoL us vs from List.take_of_length_le (by rw [HZL.out]; omega))
        go_wp2
        go_ret
        exact ⟨_, rfl, X1.out.trans HE.out, SlV.of_ints HZL.out (ints_of_own HZL.out (by omega) (by have := HO.out; rw [HTK.out] at this; exact this))⟩

set_option maxRecDepth 100000 in
set_option maxHeartbeats 4000000 in
theorem refSplit_any (t : Int) (A : Option Addr) (n ca : Nat) (l : List Sh) (hn : l.length = n) (f : Int) (B : Option Addr) (cb : Nat) (hota : List Bool) (hm : hota.length = n) (g : Int) (D : Option Addr) (cd : Nat) (hotb : List Bool) (hq : hotb.length = n) (tn : Nat) (ht : tn ≤ 100000) (C : Option Addr) (cz : Nat) (rs : List G) (hM : rs.length = n) (w : World)
    (hS : RowsAt 3 Sh.enc w A l) (hB : RowsAt 1 boolEnc w B hota) (hD : RowsAt 1 boolEnc w D hotb) (hok : ∀ s ∈ l, shOK s) (hf : 1 ≤ f ∧ f ≤ 8) (hg : 1 ≤ g ∧ g ≤ 8) (h1 : 1 ≤ n) (h4 : n ≤ 4) (hC : RowsAt 2 G.enc w C rs) :
    Calls Try.prog 71 #[.agg #[.int .i64 t, .slice A n ca], .agg #[.int .i64 f, .slice B n cb, .int .i64 g, .slice D n cd], .agg #[.int .i64 (tn : Int), .slice C n cz]] w (VPost w (Is (.tuple #[.int .i64 (splitN (splitV (powers f hota l) (powers g hotb l) n (tn : Int) rs)), .bool (splitV (powers f hota l) (powers g hotb l) n (tn : Int) rs).isSome]))) := by
  obtain ⟨W0, hW0⟩ : ∃ W0, W0 = ((w.alloc (.cells #[.int .i64 t, .slice A n ca] 24)).alloc (.cells #[.int .i64 f, .slice B n cb, .int .i64 g, .slice D n cd] 96)).alloc (.cells #[.int .i64 (tn : Int), .slice C n cz] 101) := ⟨_, rfl⟩
  have e0 : Ext w W0 := by rw [hW0]; exact (Ext.alloc _ _).trans ((Ext.alloc _ _).trans (Ext.alloc _ _))
  have K0 := Lib.hid (show Blk W0 w.heap.size 24 #[.int .i64 t, .slice A n ca] by rw [hW0]; exact ((Blk.new _ _ _).alloc _).alloc _)
  have K1 := Lib.hid (show Blk W0 (w.heap.size + 1) 96 #[.int .i64 f, .slice B n cb, .int .i64 g, .slice D n cd] by rw [hW0]; exact (Blk.newAt _ _ _ (by simp)).alloc _)
  have K2 := Lib.hid (show Blk W0 (w.heap.size + 1 + 1) 101 #[.int .i64 (tn : Int), .slice C n cz] by rw [hW0]; exact Blk.newAt _ _ _ (by simp))
  have E0 := Lib.hid e0
  have HW0 := Lib.hid (fun a b ha hb W (e : Ext w W) => refTwo_any t A n ca l hn f B cb hota hm g D cd hotb hq a b ha hb W (hS.ext e) (hB.ext e) (hD.ext e) hok hf hg h1 h4)
  have HL := Lib.hid (fun (a b : Int) => twoL_len (wattsL_len a (powers f hota l) n) (wattsL_len b (powers g hotb l) n))
  have HM := Lib.hid hM
  have HC := Lib.hid hC
  clear e0 hn hm hq hS hB hD hok hf hg hM hC
  generalize powers f hota l = ps at *
  generalize powers g hotb l = qs at *
  have HSV := Lib.hid (show splitV ps qs n (tn : Int) rs = firstN (fitAt ps qs n (tn : Int) rs) (tn + 1) 0 from rfl)
  have HFA := Lib.hid (fun k => show fitAt ps qs n (tn : Int) rs k = fitsL rs (twoL (wattsL (k : Int) ps n) (wattsL ((tn : Int) - (k : Int)) qs n)) from rfl)
  generalize splitV ps qs n (tn : Int) rs = so at *
  generalize fitAt ps qs n (tn : Int) rs = fp at *
  go_enter Try.func71, Try.ntmps71
  go_wp2
  rw [← hW0]
  clear hW0
  go_loopw [8] (fun i wr => ∃ k : Nat, k ≤ tn + 1 ∧ i = .int .i64 k ∧ so = firstN fp (tn + 1 - k) k ∧ Ext W0 wr) (fun i _ => tn + 1 - (intOf i).toNat)
  case atStart => exact ⟨0, Nat.zero_le _, rfl, HSV.out, Ext.refl _⟩
  case round =>
    obtain ⟨k, hk, rfl, hr, hx⟩ := hrel
    have HF := Lib.hid hr
    have HX := Lib.hid hx
    clear hr hx
    have z6 : wr.cell? ⟨w.heap.size + 1 + 1, 0, none⟩ = some (.int .i64 (tn : Int)) := (K2.out.ext HX.out).cell 0
    by_cases hlt : k < tn + 1
    · have HD := Lib.hid (show firstN fp (tn + 1 - k) k = if fp k = true then some k else firstN fp (tn + 1 - (k + 1)) (k + 1) by rw [show tn + 1 - k = (tn + 1 - (k + 1)) + 1 by omega, firstN])
      have HW := Lib.hid (fun W (e : Ext wr W) => HW0.out (k : Int) ((tn : Int) - (k : Int)) ⟨by omega, by omega⟩ ⟨by omega, by omega⟩ W (E0.out.trans (HX.out.trans e)))
      have HFT := Lib.hid (fun W (u : Value) (e : Ext wr W) (h : SlV n (twoL (wattsL (k : Int) ps n) (wattsL ((tn : Int) - (k : Int)) qs n)) u W) => show Calls Try.prog 120 #[u, .slice C n cz] W (VPost W (Is (.bool (fp k)))) from by
        obtain ⟨E, ce, rfl, hE⟩ := h
        rw [HFA.out k]
        exact (fits_any C n cz rs HM.out E ce _ (HL.out _ _) W (HC.out.ext (E0.out.trans (HX.out.trans e))) hE).mono fun _ _ ⟨h1, h2⟩ => ⟨_, h1, h2, rfl⟩)
      obtain ⟨fk, hfk⟩ : ∃ b, b = fp k := ⟨_, rfl⟩
      rw [← hfk] at HD HFT
      have z0 : wr.cell? ⟨w.heap.size, 0, none⟩ = some (.int .i64 t) := (K0.out.ext HX.out).cell 0
      have z1 : wr.cell? ⟨w.heap.size, 1, none⟩ = some (.slice A n ca) := (K0.out.ext HX.out).cell 1
      have z2 : wr.cell? ⟨w.heap.size + 1, 0, none⟩ = some (.int .i64 f) := (K1.out.ext HX.out).cell 0
      have z3 : wr.cell? ⟨w.heap.size + 1, 1, none⟩ = some (.slice B n cb) := (K1.out.ext HX.out).cell 1
      have z4 : wr.cell? ⟨w.heap.size + 1, 2, none⟩ = some (.int .i64 g) := (K1.out.ext HX.out).cell 2
      have z5 : wr.cell? ⟨w.heap.size + 1, 3, none⟩ = some (.slice D n cd) := (K1.out.ext HX.out).cell 3
      have z7 : wr.cell? ⟨w.heap.size + 1 + 1, 1, none⟩ = some (.slice C n cz) := (K2.out.ext HX.out).cell 1
      have hki : (k : Int) ≤ (tn : Int) := by omega
      clear hfk
      go_wp2
      refine wp_region_each [some 15, some 16, some 17, some 18, some 19, some 20, some 21, some 22, some 23, some 24, some 25, some 26] [[3], [4], [8], [5], [18], [8], [19, 20], [17, 21], [15, 16, 22], [5], [24], [23, 25]]
        [Is (.agg #[.int .i64 (t), .slice A n ca]), Is (.agg #[.int .i64 (f), .slice B n cb, .int .i64 (g), .slice D n cd]), Is (.int .i64 ((k : Int))), Is (.pointer (some ⟨w.heap.size + 1 + 1, 0, none⟩)), Is (.int .i64 ((tn : Int))), Is (.int .i64 ((k : Int))), Is (.int .i64 ((tn : Int) - (k : Int))), Is (.agg #[.int .i64 (k : Int), .int .i64 ((tn : Int) - (k : Int))]), SlV n (twoL (wattsL (k : Int) ps n) (wattsL ((tn : Int) - (k : Int)) qs n)), Is (.pointer (some ⟨w.heap.size + 1 + 1, 1, none⟩)), Is (.slice C n cz), Is (.bool (fk))]
        (by kernel_rfl) (by kernel_rfl) (by kernel_rfl) (by kernel_rfl) (by kernel_rfl) Ext (fun W => Ext wr W)
        (fun W _ => Ext.refl W) (fun W W' h k => h.trans k) ?_ (Ext.drew _) ?_ ?_
      · repeat (refine ⟨fun _ _ _ _ k h => (by first | exact h | exact (by first | exact IntsAt.ext h k | exact BothV.ext h k | exact SlV.ext h k)), ?_⟩)
        exact trivial
      · refine ⟨?_, ?_, ?_, ?_, ?_, ?_, ?_, ?_, ?_, ?_, ?_, ?_, trivial⟩
        all_goals intro ρ W ⟨kc, kg, kf⟩ hF hs
        · obtain ⟨h0, -⟩ := hs
          replace h0 : ρ (.tmp 3) = .pointer (some ⟨w.heap.size, 0, none⟩) := h0
          have hc0 : W.cell? ⟨w.heap.size, 0, none⟩ = some (.int .i64 (t)) := hF.cell (by assumption)
          have hc1 : W.cell? ⟨w.heap.size, 1, none⟩ = some (.slice A n ca) := hF.cell (by assumption)
          go_simp
          exact ⟨Ext.refl _, rfl⟩
        · obtain ⟨h0, -⟩ := hs
          replace h0 : ρ (.tmp 4) = .pointer (some ⟨w.heap.size + 1, 0, none⟩) := h0
          have hc0 : W.cell? ⟨w.heap.size + 1, 0, none⟩ = some (.int .i64 (f)) := hF.cell (by assumption)
          have hc1 : W.cell? ⟨w.heap.size + 1, 1, none⟩ = some (.slice B n cb) := hF.cell (by assumption)
          have hc2 : W.cell? ⟨w.heap.size + 1, 2, none⟩ = some (.int .i64 (g)) := hF.cell (by assumption)
          have hc3 : W.cell? ⟨w.heap.size + 1, 3, none⟩ = some (.slice D n cd) := hF.cell (by assumption)
          go_simp
          exact ⟨Ext.refl _, rfl⟩
        · obtain ⟨h0, -⟩ := hs
          replace h0 : ρ (.tmp 8) = .int .i64 ((k : Int)) := h0
          go_simp
          exact ⟨Ext.refl _, rfl⟩
        · obtain ⟨h0, -⟩ := hs
          replace h0 : ρ (.tmp 5) = .pointer (some ⟨w.heap.size + 1 + 1, 0, none⟩) := h0
          go_simp
          exact ⟨Ext.refl _, rfl⟩
        · obtain ⟨h0, -⟩ := hs
          replace h0 : ρ (.tmp 18) = .pointer (some ⟨w.heap.size + 1 + 1, 0, none⟩) := h0
          have hc0 : W.cell? ⟨w.heap.size + 1 + 1, 0, none⟩ = some (.int .i64 ((tn : Int))) := hF.cell (by assumption)
          go_simp
          exact ⟨Ext.refl _, rfl⟩
        · obtain ⟨h0, -⟩ := hs
          replace h0 : ρ (.tmp 8) = .int .i64 ((k : Int)) := h0
          go_simp
          exact ⟨Ext.refl _, rfl⟩
        · obtain ⟨h0, h1, -⟩ := hs
          replace h0 : ρ (.tmp 19) = .int .i64 ((tn : Int)) := h0
          replace h1 : ρ (.tmp 20) = .int .i64 ((k : Int)) := h1
          have hw : IntKind.i64.wrap ((tn : Int) - (k : Int)) = (tn : Int) - (k : Int) := IntWalk.i64_in _ (by omega)
          go_simp
          exact ⟨Ext.refl _, rfl⟩
        · obtain ⟨h0, h1, -⟩ := hs
          replace h0 : ρ (.tmp 17) = .int .i64 ((k : Int)) := h0
          replace h1 : ρ (.tmp 21) = .int .i64 ((tn : Int) - (k : Int)) := h1
          go_simp
          exact ⟨Ext.refl _, rfl⟩
        · obtain ⟨h0, h1, h2, -⟩ := hs
          replace h0 : ρ (.tmp 15) = .agg #[.int .i64 (t), .slice A n ca] := h0
          replace h1 : ρ (.tmp 16) = .agg #[.int .i64 (f), .slice B n cb, .int .i64 (g), .slice D n cd] := h1
          replace h2 : ρ (.tmp 22) = .agg #[.int .i64 (k : Int), .int .i64 ((tn : Int) - (k : Int))] := h2
          go_simp
          exact HW.out W hF
        · obtain ⟨h0, -⟩ := hs
          replace h0 : ρ (.tmp 5) = .pointer (some ⟨w.heap.size + 1 + 1, 0, none⟩) := h0
          go_simp
          exact ⟨Ext.refl _, rfl⟩
        · obtain ⟨h0, -⟩ := hs
          replace h0 : ρ (.tmp 24) = .pointer (some ⟨w.heap.size + 1 + 1, 1, none⟩) := h0
          have hc0 : W.cell? ⟨w.heap.size + 1 + 1, 1, none⟩ = some (.slice C n cz) := hF.cell (by assumption)
          go_simp
          exact ⟨Ext.refl _, rfl⟩
        · obtain ⟨h0, h1, -⟩ := hs
          replace h0 : (SlV n (twoL (wattsL (k : Int) ps n) (wattsL ((tn : Int) - (k : Int)) qs n))) (ρ (.tmp 23)) W := h0
          replace h1 : ρ (.tmp 25) = .slice C n cz := h1
          go_simp
          exact HFT.out W _ hF h0
      · intro fv W3 hF hs
        obtain ⟨-, -, -, -, -, -, -, -, -, -, -, h26, -⟩ := hs
        replace h26 : fv 26 = .bool (fk) := h26
        simp only [fin, List.filterMap]
        go_simp
        have XN := Lib.hid (HX.out.trans hF)
        clear hF h26 z0 z1 z2 z3 z4 z5 z6 z7
        cases fk
        · go_wp2
          go_roundw
          case rel => exact ⟨k + 1, by omega, by go_num, by rw [HF.out, HD.out]; rfl, XN.out⟩
          case measure => simp [intOf]; omega
        · have HSE := Lib.hid (show so = some k by rw [HF.out, HD.out]; rfl)
          go_wp2
          go_ret2
          exact ⟨_, rfl, E0.out.trans XN.out, by show _ = _; rw [HSE.out]; rfl⟩
    · obtain rfl : k = tn + 1 := by omega
      have HSE := Lib.hid (show so = none by rw [HF.out, show tn + 1 - (tn + 1) = 0 by omega]; rfl)
      have hki : ¬ ((tn + 1 : Nat) : Int) ≤ (tn : Int) := by omega
      go_wp2
      go_ret2
      exact ⟨_, rfl, E0.out.trans HX.out, by show _ = _; rw [HSE.out]; rfl⟩

end Go.Proofs.Ytpaoeghdfeekoaa
