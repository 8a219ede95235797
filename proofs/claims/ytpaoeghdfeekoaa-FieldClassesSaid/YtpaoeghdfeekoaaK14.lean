/- The reference's watts and depth. -/
import Derived.Test.YtpaoeghdfeekoaaK13
namespace Go.Proofs.Ytpaoeghdfeekoaa
open Go.RowKit Go.Shelf Go.Mem Go.RegInv
attribute [local go_sem] RelUpon_value RelUpon_skip RelUpon_enter BigFrame.eval_const BigFrame.eval_global BigFrame.eval_func

set_option maxRecDepth 100000 in
set_option maxHeartbeats 4000000 in
theorem refWatts_any (t : Int) (A : Option Addr) (n cap : Nat) (ls : List Sh) (hn : ls.length = n) (f : Int) (B : Option Addr) (cap' : Nat) (hot : List Bool) (hm : hot.length = n) (tot : Int) (w : World)
    (hS : RowsAt 3 Sh.enc w A ls) (hH : RowsAt 1 boolEnc w B hot) (hok : ∀ s ∈ ls, shOK s) (hf : 1 ≤ f ∧ f ≤ 8) (h1 : 1 ≤ n) (hn4 : n ≤ 4) (ht : 0 ≤ tot ∧ tot ≤ 100000) :
    Calls Try.prog 50 #[.agg #[.int .i64 t, .slice A n cap], .agg #[.int .i64 f, .slice B n cap'], .int .i64 tot] w fun e w' => ∃ v, e = .returned v ∧ IntsAt w' v (wattsL tot (powers f hot ls) n) ∧ Ext w w' := by
  have e0 : Ext w ((w.alloc (.cells #[.int .i64 t, .slice A n cap] 24)).alloc (.cells #[.int .i64 f, .slice B n cap'] 27)) := (Ext.alloc _ _).trans (Ext.alloc _ _)
  have FA := Lib.hid (show ∀ W : World, Ext ((w.alloc (.cells #[.int .i64 t, .slice A n cap] 24)).alloc (.cells #[.int .i64 f, .slice B n cap'] 27)) W →
      W.cell? ⟨w.heap.size, 0, none⟩ = some (.int .i64 t) ∧ W.cell? ⟨w.heap.size, 1, none⟩ = some (.slice A n cap) ∧ W.cell? ⟨w.heap.size + 1, 0, none⟩ = some (.int .i64 f) ∧ W.cell? ⟨w.heap.size + 1, 1, none⟩ = some (.slice B n cap') from
    fun W hx => ⟨hx.cell (by go_simp), hx.cell (by go_simp), hx.cell (by go_simp), hx.cell (by go_simp)⟩)
  have HSV := Lib.hid (fun W (e : Ext w W) => refPowers_any t A n cap ls hn f B cap' hot hm W (hS.ext e) (hH.ext e) hok hf h1 hn4)
  have hpok := powers_ok (hot := hot) hok hf (by rw [hn]; exact h1) (by rw [hn]; exact hn4)
  have HPL := Lib.hid (show (powers f hot ls).length = n by rw [powers_len, hn])
  have E0 := Lib.hid e0
  obtain ⟨i0, hi, hz0, hz1, hz2⟩ := info_parts info3
  have HI0 := Lib.hid hz0
  clear hn hS hm hH e0 hok hf
  generalize powers f hot ls = ps at *
  have HB := Lib.hid (show ∀ k, -1000000000000000000 ≤ (ps.take k).sum ∧ (ps.take k).sum ≤ 1000000000000000000 from fun k => by have := hpok.part k; have := hpok.sum; omega)
  have HUB := Lib.hid (upTo_bd ht hpok.sum hpok.part)
  obtain ⟨s0, s1⟩ := hpok.sum
  have HPOK := Lib.hid hpok
  have HWS := Lib.hid (wattsL_succ tot ps)
  have HWL := Lib.hid (wattsL_len tot ps n)
  have HW0 := Lib.hid (show wattsL tot ps 0 = [] from rfl)
  have HTK := Lib.hid (show (ps.take n).sum = ps.sum by rw [List.take_of_length_le (by rw [HPL.out]; omega)])
  have HUT := Lib.hid (show ∀ k, upTo tot ps k = tot * (ps.take k).sum / ps.sum from fun _ => rfl)
  clear hpok
  go_enter Try.func50, Try.ntmps50
  go_wp2_with (first
    | (go_at_call 44; refine (HSV.out _ E0.out).mono ?_; rintro e W0 ⟨g, c, rfl, hg, hx0⟩; have X0 := Lib.hid hx0; have HG := Lib.hid hg; have hnc := hg.1; clear hx0 hg)
    | (go_at_call 47; refine (refSum_any _ n c ps HPL.out _ HG.out.2 HB.out).mono ?_; rintro e w' ⟨rfl, rfl⟩))
  have X1 := X0
  obtain ⟨W1, hW1⟩ : ∃ W1, W1 = W0 := ⟨_, rfl⟩
  rw [← hW1] at X0 X1 HG ⊢
  clear hW1
  generalize hsm : ps.sum = sm at *
  clear hsm
  go_loopw [10, 9] (fun i v wr => ∃ (k : Nat) (u : Value), k ≤ n ∧ i = .int .i64 k ∧ u = v ∧ wr.ownsRow W1.heap.size 3 1 u k ((wattsL tot ps k).map (Value.int .i64)) ∧ Ext W1 wr) (fun i _ _ => n - (intOf i).toNat)
  case atStart => exact ⟨0, _, Nat.zero_le _, rfl, rfl, by rw [HW0.out]; exact World.ownsRow_nil _ _ _ _, Ext.refl _⟩
  case round =>
    obtain ⟨k, v, hk, rfl, rfl, hown, he⟩ := hrel
    have HO := Lib.hid hown
    have HE := Lib.hid he
    clear hown he
    by_cases hlt : k < n
    · have HT := Lib.hid (show (wattsL tot ps (k + 1)).map (Value.int .i64) = (wattsL tot ps k).map (Value.int .i64) ++ [.int .i64 (upTo tot ps (k + 1) - upTo tot ps k)] by rw [HWS.out k]; simp)
      obtain ⟨⟨a1, a2⟩, b1, b2⟩ := HUB.out (k + 1)
      obtain ⟨⟨a3, a4⟩, b3, b4⟩ := HUB.out k
      have HS1 := Lib.hid (fun W (e : Ext wr W) => refSumTake_any g c ps (k + 1) (by rw [HPL.out]; omega) W (HG.out.2.ext (HE.out.trans e)) HB.out)
      have HS0 := Lib.hid (fun W (e : Ext wr W) => refSumTake_any g c ps k (by rw [HPL.out]; omega) W (HG.out.2.ext (HE.out.trans e)) HB.out)
      have HF1 := Lib.hid (fun W => floor_any (tot * (ps.take (k + 1)).sum) sm (by omega) (by omega) W)
      have HF0 := Lib.hid (fun W => floor_any (tot * (ps.take k).sum) sm (by omega) (by omega) W)
      rw [← HUT.out (k + 1)] at HF1
      rw [← HUT.out k] at HF0
      have HW1 := Lib.hid (show IntKind.i64.wrap (tot * (ps.take (k + 1)).sum) = tot * (ps.take (k + 1)).sum from IntWalk.i64_in _ (by omega))
      have HW0' := Lib.hid (show IntKind.i64.wrap (tot * (ps.take k).sum) = tot * (ps.take k).sum from IntWalk.i64_in _ (by omega))
      have hwb := HE.out.size
      have hki : (k : Int) < (n : Int) := by omega
      clear a1 a2 a3 a4 HUB HUT
      have HW0 := HW0'
      clear HW0'
      generalize (ps.take (k + 1)).sum = s1 at *
      generalize (ps.take k).sum = s0 at *
      generalize upTo tot ps (k + 1) = u1 at *
      generalize upTo tot ps k = u0 at *
      go_wp2
      refine wp_region_partR 20 [some 22, some 23, some 24, some 25, some 26, some 27, some 28, some 29, some 30, some 31, some 32, some 33, some 34, some 35, some 36, some 37, some 38, some 39, some 40, some 41] [[9], [2], [7], [10], [25], [24, 26], [27], [23, 28], [8], [29, 30], [2], [7], [10], [33, 34], [35], [32, 36], [8], [37, 38], [31, 39], [40]]
        [Is (v), Is (.int .i64 (tot)), Is (.slice (some ⟨g, 0, none⟩) n c), Is (.int .i64 ((k : Int))), Is (.int .i64 ((k : Int) + 1)), Is (.slice (some ⟨g, 0, none⟩) (k + 1) c), Is (.int .i64 (s1)), Is (.int .i64 (tot * s1)), Is (.int .i64 (sm)), Is (.int .i64 (u1)), Is (.int .i64 (tot)), Is (.slice (some ⟨g, 0, none⟩) n c), Is (.int .i64 ((k : Int))), Is (.slice (some ⟨g, 0, none⟩) (k) c), Is (.int .i64 (s0)), Is (.int .i64 (tot * s0)), Is (.int .i64 (sm)), Is (.int .i64 (u0)), Is (.int .i64 (u1 - u0)), Ints [u1 - u0]]
        (by kernel_rfl) (by kernel_rfl) (by kernel_rfl) (by kernel_rfl) (by kernel_rfl) (by kernel_rfl) (by kernel_rfl) Ext (fun W => Ext wr W)
        (fun W _ => Ext.refl W) (fun W W' h k => h.trans k) ?_ (Ext.drew _) ?_ ?_
      · repeat (refine ⟨fun _ _ _ _ k h => (by first | exact h | exact IntsAt.ext h k), ?_⟩)
        exact trivial
      · refine ⟨?_, ?_, ?_, ?_, ?_, ?_, ?_, ?_, ?_, ?_, ?_, ?_, ?_, ?_, ?_, ?_, ?_, ?_, ?_, ?_, trivial⟩
        all_goals intro ρ W ⟨kc, kg, kf⟩ hF hs
        · obtain ⟨h0, -⟩ := hs
          replace h0 : ρ (.tmp 9) = v := h0
          go_simp
          exact ⟨Ext.refl _, rfl⟩
        · obtain ⟨h0, -⟩ := hs
          replace h0 : ρ (.tmp 2) = .int .i64 (tot) := h0
          go_simp
          exact ⟨Ext.refl _, rfl⟩
        · obtain ⟨h0, -⟩ := hs
          replace h0 : ρ (.tmp 7) = .slice (some ⟨g, 0, none⟩) n c := h0
          go_simp
          exact ⟨Ext.refl _, rfl⟩
        · obtain ⟨h0, -⟩ := hs
          replace h0 : ρ (.tmp 10) = .int .i64 ((k : Int)) := h0
          go_simp
          exact ⟨Ext.refl _, rfl⟩
        · obtain ⟨h0, -⟩ := hs
          replace h0 : ρ (.tmp 25) = .int .i64 ((k : Int)) := h0
          have hw : IntKind.i64.wrap ((k : Int) + 1) = (k : Int) + 1 := IntWalk.i64_in _ (by omega)
          go_simp
          exact ⟨Ext.refl _, rfl⟩
        · obtain ⟨h0, h1, -⟩ := hs
          replace h0 : ρ (.tmp 24) = .slice (some ⟨g, 0, none⟩) n c := h0
          replace h1 : ρ (.tmp 26) = .int .i64 ((k : Int) + 1) := h1
          have hkc : (k : Int) + 1 ≤ (c : Int) := by omega
          have hkt : ((k : Int) + 1).toNat = k + 1 := by omega
          have hk0 : (0 : Int) ≤ (k : Int) + 1 := by omega
          go_simp
          exact ⟨Ext.refl _, rfl⟩
        · obtain ⟨h0, -⟩ := hs
          replace h0 : ρ (.tmp 27) = .slice (some ⟨g, 0, none⟩) (k + 1) c := h0
          go_simp
          exact (HS1.out W (hF)).mono fun _ _ ⟨h1, h2⟩ => ⟨_, h1, h2 ▸ Ext.refl _, rfl⟩
        · obtain ⟨h0, h1, -⟩ := hs
          replace h0 : ρ (.tmp 23) = .int .i64 (tot) := h0
          replace h1 : ρ (.tmp 28) = .int .i64 (s1) := h1
          have hw : IntKind.i64.wrap (tot * s1) = tot * s1 := HW1.out
          go_simp
          exact ⟨Ext.refl _, rfl⟩
        · obtain ⟨h0, -⟩ := hs
          replace h0 : ρ (.tmp 8) = .int .i64 (sm) := h0
          go_simp
          exact ⟨Ext.refl _, rfl⟩
        · obtain ⟨h0, h1, -⟩ := hs
          replace h0 : ρ (.tmp 29) = .int .i64 (tot * s1) := h0
          replace h1 : ρ (.tmp 30) = .int .i64 (sm) := h1
          go_simp
          exact (HF1.out W).mono fun _ _ ⟨h1, h2⟩ => ⟨_, h1, h2 ▸ Ext.refl _, rfl⟩
        · obtain ⟨h0, -⟩ := hs
          replace h0 : ρ (.tmp 2) = .int .i64 (tot) := h0
          go_simp
          exact ⟨Ext.refl _, rfl⟩
        · obtain ⟨h0, -⟩ := hs
          replace h0 : ρ (.tmp 7) = .slice (some ⟨g, 0, none⟩) n c := h0
          go_simp
          exact ⟨Ext.refl _, rfl⟩
        · obtain ⟨h0, -⟩ := hs
          replace h0 : ρ (.tmp 10) = .int .i64 ((k : Int)) := h0
          go_simp
          exact ⟨Ext.refl _, rfl⟩
        · obtain ⟨h0, h1, -⟩ := hs
          replace h0 : ρ (.tmp 33) = .slice (some ⟨g, 0, none⟩) n c := h0
          replace h1 : ρ (.tmp 34) = .int .i64 ((k : Int)) := h1
          have hkc : (k : Int) ≤ (c : Int) := by omega
          go_simp
          exact ⟨Ext.refl _, rfl⟩
        · obtain ⟨h0, -⟩ := hs
          replace h0 : ρ (.tmp 35) = .slice (some ⟨g, 0, none⟩) (k) c := h0
          go_simp
          exact (HS0.out W (hF)).mono fun _ _ ⟨h1, h2⟩ => ⟨_, h1, h2 ▸ Ext.refl _, rfl⟩
        · obtain ⟨h0, h1, -⟩ := hs
          replace h0 : ρ (.tmp 32) = .int .i64 (tot) := h0
          replace h1 : ρ (.tmp 36) = .int .i64 (s0) := h1
          have hw : IntKind.i64.wrap (tot * s0) = tot * s0 := HW0.out
          go_simp
          exact ⟨Ext.refl _, rfl⟩
        · obtain ⟨h0, -⟩ := hs
          replace h0 : ρ (.tmp 8) = .int .i64 (sm) := h0
          go_simp
          exact ⟨Ext.refl _, rfl⟩
        · obtain ⟨h0, h1, -⟩ := hs
          replace h0 : ρ (.tmp 37) = .int .i64 (tot * s0) := h0
          replace h1 : ρ (.tmp 38) = .int .i64 (sm) := h1
          go_simp
          exact (HF0.out W).mono fun _ _ ⟨h1, h2⟩ => ⟨_, h1, h2 ▸ Ext.refl _, rfl⟩
        · obtain ⟨h0, h1, -⟩ := hs
          replace h0 : ρ (.tmp 31) = .int .i64 (u1) := h0
          replace h1 : ρ (.tmp 39) = .int .i64 (u0) := h1
          have hw : IntKind.i64.wrap (u1 - u0) = u1 - u0 := IntWalk.i64_in _ (by omega)
          go_simp
          exact ⟨Ext.refl _, rfl⟩
        · obtain ⟨h0, -⟩ := hs
          replace h0 : ρ (.tmp 40) = .int .i64 (u1 - u0) := h0
          go_simp
          exact ⟨Ext.alloc _ _, ints_new _ [u1 - u0] _ (by simp)⟩
      · intro fv W5 hF hs
        obtain ⟨h22, -, -, -, -, -, -, -, -, -, -, -, -, -, -, -, -, -, -, h41, -⟩ := hs
        replace h22 : fv 22 = v := h22
        replace h41 : (Ints [u1 - u0]) (fv 41) W5 := h41
        simp only [fin, List.filterMap]
        go_simp
        have HX5 := Lib.hid hF
        obtain ⟨bb, ob, cb, hv41, hnw⟩ := ints_one h41
        have HV36 := Lib.hid hv41
        have HNW := Lib.hid hnw
        clear hF h22 h41 hv41 hnw
        go_wp2_with (at_builtin; refine wpList_append_own _ rfl _ _ 37 rfl W1.heap.size 3 i0 (.int .i64 0) 1 8 Try.underlying37 hi HI0.out hz1 hz2 rfl (by decide) _ _ _ rfl (own_ext HO.out HX5.out) ⟨bb, ob, none⟩ 1 cb [.int .i64 (u1 - u0)] HV36.out rfl HNW.out (by simp [Value.oneCell']) (by unfold maxLen; omega) (by omega) (by have := HX5.out.size; omega) ?_; intro v' w1 hown' hgrow _; have HO1 := Lib.hid hown'; have HE1 := Lib.hid (Ext.grownBy (HE.out.trans HX5.out) hgrow (fun g hg => own_base HO.out hg)); clear hown' hgrow)
        go_roundw
        case rel => exact ⟨k + 1, _, by omega, by go_num, rfl, by rw [HT.out]; exact HO1.out, HE1.out⟩
        case measure => simp [intOf]; omega
    · obtain rfl : n = k := by omega
      go_wp2
      go_ret
      exact ⟨_, rfl, ints_of_own HWL.out (by omega) HO.out, E0.out.trans (X0.out.trans HE.out)⟩

set_option maxRecDepth 100000 in
set_option maxHeartbeats 4000000 in
theorem refDepth_any (t : Int) (A : Option Addr) (n cap : Nat) (ls : List Sh) (hn : ls.length = n) (f : Int) (B : Option Addr) (cap' : Nat) (hot : List Bool) (hm : hot.length = n) (pc : Int) (w : World)
    (hS : RowsAt 3 Sh.enc w A ls) (hH : RowsAt 1 boolEnc w B hot) (hok : ∀ s ∈ ls, shOK s) (hf : 1 ≤ f ∧ f ≤ 8) (h1 : 1 ≤ n) (hn4 : n ≤ 4) (hp : 1 ≤ pc ∧ pc ≤ 100) :
    Calls Try.prog 51 #[.agg #[.int .i64 t, .slice A n cap], .agg #[.int .i64 f, .slice B n cap'], .int .i64 pc] w fun e w' => ∃ d : Nat, e = .returned (.int .i64 (d : Int)) ∧ IsDepth (powers f hot ls) pc d ∧ Ext w w' := by
  have e0 : Ext w ((w.alloc (.cells #[.int .i64 t, .slice A n cap] 24)).alloc (.cells #[.int .i64 f, .slice B n cap'] 27)) := (Ext.alloc _ _).trans (Ext.alloc _ _)
  have FA := Lib.hid (show ∀ W : World, Ext ((w.alloc (.cells #[.int .i64 t, .slice A n cap] 24)).alloc (.cells #[.int .i64 f, .slice B n cap'] 27)) W →
      W.cell? ⟨w.heap.size, 0, none⟩ = some (.int .i64 t) ∧ W.cell? ⟨w.heap.size, 1, none⟩ = some (.slice A n cap) ∧ W.cell? ⟨w.heap.size + 1, 0, none⟩ = some (.int .i64 f) ∧ W.cell? ⟨w.heap.size + 1, 1, none⟩ = some (.slice B n cap') from
    fun W hx => ⟨hx.cell (by go_simp), hx.cell (by go_simp), hx.cell (by go_simp), hx.cell (by go_simp)⟩)
  have HSV := Lib.hid (fun W (e : Ext w W) => refPowers_any t A n cap ls hn f B cap' hot hm W (hS.ext e) (hH.ext e) hok hf h1 hn4)
  have hpok := powers_ok (hot := hot) hok hf (by rw [hn]; exact h1) (by rw [hn]; exact hn4)
  have HPL := Lib.hid (show (powers f hot ls).length = n by rw [powers_len, hn])
  have E0 := Lib.hid e0
  clear hn hS hm hH e0 hok hf
  generalize powers f hot ls = ps at *
  have HB := Lib.hid (show ∀ k, -1000000000000000000 ≤ (ps.take k).sum ∧ (ps.take k).sum ≤ 1000000000000000000 from fun k => by have := hpok.part k; have := hpok.sum; omega)
  obtain ⟨s0, s1⟩ := hpok.sum
  have HPOK := Lib.hid hpok
  have HTK := Lib.hid (show (ps.take n).sum = ps.sum by rw [List.take_of_length_le (by rw [HPL.out]; omega)])
  clear hpok
  have m1 : pc * ps.sum ≤ 100 * ps.sum := Int.mul_le_mul_of_nonneg_right hp.2 (by omega)
  have m2 : 1 * ps.sum ≤ pc * ps.sum := Int.mul_le_mul_of_nonneg_right hp.1 (by omega)
  go_enter Try.func51, Try.ntmps51
  go_wp2_with (go_at_call 44; refine (HSV.out _ E0.out).mono ?_; rintro e W1 ⟨g, c, rfl, hg, hx0⟩; have X1 := Lib.hid hx0; have HG := Lib.hid hg; have hnc := hg.1; clear hx0 hg)
  have HSUM := Lib.hid (refSum_any _ n c ps HPL.out W1 HG.out.2 HB.out)
  have HID := Lib.hid (fun d => show IsDepth ps pc d ↔ d ≤ ps.length ∧ (∀ j, j < d → 100 * (ps.take j).sum < pc * ps.sum) ∧ (d < ps.length → pc * ps.sum ≤ 100 * (ps.take d).sum) from Iff.rfl)
  have HPT := Lib.hid HPOK.out.part
  have HZ := Lib.hid (show (ps.take 0).sum = 0 by simp)
  generalize hsm : ps.sum = sm at *
  clear hsm
  go_loopw [8] (fun i wr => ∃ k : Nat, 1 ≤ k ∧ k ≤ n ∧ i = .int .i64 k ∧ wr = W1 ∧ ∀ j, j < k → 100 * (ps.take j).sum < pc * sm) (fun i _ => n - (intOf i).toNat)
  case atStart => exact ⟨1, Nat.le_refl _, h1, rfl, rfl, fun j hj => by obtain rfl : j = 0 := by omega
                                                                        rw [HZ.out]; omega⟩
  case round =>
    obtain ⟨k, hk1, hk, rfl, rfl, hless⟩ := hrel
    have HL := Lib.hid hless
    have HSK := Lib.hid (refSumTake_any g c ps k (by rw [HPL.out]; omega) wr HG.out.2 HB.out)
    obtain ⟨p1, p2⟩ := HPT.out k
    have HTK2 := Lib.hid (show k = n → (ps.take k).sum = sm from fun h => by rw [h]; exact HTK.out)
    have HSKD := Lib.hid (show ∃ s, s = (ps.take k).sum from ⟨_, rfl⟩)
    obtain ⟨s, hs⟩ := HSKD.out
    rw [← hs] at HSK p1 p2 HTK2
    have HSS := Lib.hid hs
    have hkc : (k : Int) ≤ (c : Int) := by omega
    clear hless hs HSKD
    by_cases hc : 100 * s < pc * sm
    · have hcd : decide (100 * s < pc * sm) = true := by simpa using hc
      have hne : k ≠ n := fun h => by have := HTK2.out h; omega
      have HC := Lib.hid hc
      clear hc
      go_wp2_with (first
        | (go_at_call 47; (with_reducible refine HSK.out.mono ?_); rintro e w' ⟨rfl, rfl⟩)
        | (go_at_call 47; (with_reducible refine HSUM.out.mono ?_); rintro e w' ⟨rfl, rfl⟩))
      go_roundw
      case rel => exact ⟨k + 1, by omega, by omega, by go_num, by trivial, fun j hj => by
        rcases Nat.lt_or_ge j k with h | h
        · exact HL.out j h
        · obtain rfl : j = k := by omega
          rw [← HSS.out]; exact HC.out⟩
      case measure => simp [intOf]; omega
    · have hcd : decide (100 * s < pc * sm) = false := by simpa using hc
      have HC := Lib.hid hc
      clear hc
      go_wp2_with (first
        | (go_at_call 47; (with_reducible refine HSK.out.mono ?_); rintro e w' ⟨rfl, rfl⟩)
        | (go_at_call 47; (with_reducible refine HSUM.out.mono ?_); rintro e w' ⟨rfl, rfl⟩))
      go_ret
      exact ⟨k, rfl, (HID.out k).2 ⟨by rw [HPL.out]; exact hk, HL.out, fun _ => by rw [← HSS.out]; have := HC.out; omega⟩, E0.out.trans X1.out⟩

end Go.Proofs.Ytpaoeghdfeekoaa
