/- For FieldFrequencies: the reference's frequency; there is only one. -/
import Derived.Test.YtpaoeghdfeekoaaK22
import Derived.Test.YtpaoeghdfeekoaaK14
import Derived.Test.YtpaoeghdfeekoaaK15
namespace Go.Proofs.Ytpaoeghdfeekoaa
open Go.RowKit Go.Shelf Go.Mem Go.RegInv
attribute [local go_sem] RelUpon_value RelUpon_skip RelUpon_enter BigFrame.eval_const BigFrame.eval_global BigFrame.eval_func

theorem freq_uniq {t : Int} {l : List Sh} {hot : List Bool} {m : Nat} {pc dep f er f' er' : Int} (h : FreqIs t l hot m pc dep f er) (h' : FreqIs t l hot m pc dep f' er') : f = f' ∧ er = er' := by
  have key : ∀ (k k' : Nat), 1 ≤ k → Deep hot l pc dep k' → (∃ d : Nat, IsDepth (powers (k : Int) hot l) pc d ∧ (d : Int) ≤ dep) → k' ≤ k := fun k k' h1 hd ⟨d, hd1, hd2⟩ => by
    rcases Nat.lt_or_ge k k' with hlt | hge
    · obtain ⟨d', e1, e2⟩ := hd k h1 hlt
      have := depth_eq e1 hd1
      omega
    · exact hge
  rcases h with ⟨a1, a2, a3⟩ | ⟨a1, a2, k, a3, a4, a5, a6, a7⟩ | ⟨a1, a2, a3, a4⟩ <;>
  rcases h' with ⟨b1, b2, b3⟩ | ⟨b1, b2, k', b3, b4, b5, b6, b7⟩ | ⟨b1, b2, b3, b4⟩
  · exact ⟨by omega, by omega⟩
  · exact absurd b1 a1
  · exact absurd b1 a1
  · exact absurd a1 b1
  · subst a3 b3
    have h1 := key k k' a4 b6 a7
    have h2 := key k' k b4 a6 b7
    exact ⟨by omega, by omega⟩
  · subst a3
    have := key k 9 a4 b4 a7
    omega
  · exact absurd a1 b1
  · subst b3
    have := key k' 9 b4 a4 b7
    omega
  · exact ⟨by omega, by omega⟩
theorem freq_split (t : Int) (l : List Sh) (n m : Nat) (hn : l.length = n) (pc dep : Int) : freqE t l m pc dep = if (checkL t l).2 ≠ 0 then (checkL t l).2 else wishE n m pc dep := by
  unfold freqE wishE
  rw [rangeE_one, rangeE_one, hn]
  by_cases h : (checkL t l).2 = 0
  · rw [h]
    by_cases hm : m = n
    · subst hm
      by_cases h1 : inB 1 100 pc = true <;> by_cases h2 : inB 1 (m : Int) dep = true <;> simp [firstE, errIf, h1, h2]
    · have : ((m : Int) != (n : Int)) = true := by simp; omega
      simp [firstE, errIf, hm, this]
  · simp [firstE, h]

set_option maxRecDepth 100000 in
set_option maxHeartbeats 4000000 in
theorem refFrequency_any (t : Int) (A : Option Addr) (n ca : Nat) (l : List Sh) (hn : l.length = n) (B : Option Addr) (cb : Nat) (hot : List Bool) (hm : hot.length = n) (pc dep : Int) (w : World)
    (hS : RowsAt 3 Sh.enc w A l) (hH : RowsAt 1 boolEnc w B hot) (hz : freqE t l n pc dep = 0) :
    Calls Try.prog 67 #[.agg #[.int .i64 t, .slice A n ca], .slice B n cb, .agg #[.int .i64 pc, .int .i64 dep]] w fun e w' => ∃ f ok, e = .returned (.tuple #[.int .i64 f, .bool ok]) ∧ Ext w w' ∧
      ((ok = true ∧ FreqIs t l hot n pc dep f 0) ∨ (ok = false ∧ FreqIs t l hot n pc dep 0 12)) := by
  have hz' := hz
  rw [freq_split t l n n hn] at hz'
  have hcz : (checkL t l).2 = 0 := by
    by_cases h : (checkL t l).2 = 0
    · exact h
    · rw [if_pos h] at hz'; exact absurd hz' h
  obtain ⟨_, ⟨h1, h4⟩, hok⟩ := (checkL_zero t l).1 hcz
  rw [hn] at h1 h4
  have hpc : 1 ≤ pc ∧ pc ≤ 100 := by
    rw [if_neg (by simp [hcz])] at hz'
    unfold wishE at hz'
    rw [if_neg (by simp)] at hz'
    split at hz'
    · rename_i h; simpa [inB] using h.1
    · cases hz'
  have HZ := Lib.hid hz
  obtain ⟨W0, hW0⟩ : ∃ W0, W0 = (w.alloc (.cells #[.int .i64 t, .slice A n ca] 24)).alloc (.cells #[.int .i64 pc, .int .i64 dep] 98) := ⟨_, rfl⟩
  have e0 : Ext w W0 := by rw [hW0]; exact (Ext.alloc _ _).trans (Ext.alloc _ _)
  have K0 := Lib.hid (show Blk W0 w.heap.size 24 #[.int .i64 t, .slice A n ca] by rw [hW0]; exact (Blk.new _ _ _).alloc _)
  have K1 := Lib.hid (show Blk W0 (w.heap.size + 1) 98 #[.int .i64 pc, .int .i64 dep] by rw [hW0]; exact Blk.newAt _ _ _ (by simp))
  have E0 := Lib.hid e0
  have HD0 := Lib.hid (fun f hf W (e : Ext w W) => refDepth_any t A n ca l hn f B cb hot hm pc W (hS.ext e) (hH.ext e) hok hf h1 h4 hpc)
  clear e0 hn hm hS hH hok hcz hz hz' hpc h1 h4
  go_enter Try.func67, Try.ntmps67
  go_wp2
  rw [← hW0]
  clear hW0
  go_loopw [8] (fun i wr => ∃ k : Nat, 1 ≤ k ∧ k ≤ 9 ∧ i = .int .i64 k ∧ Deep hot l pc dep k ∧ Ext W0 wr) (fun i _ => 9 - (intOf i).toNat)
  case atStart => exact ⟨1, Nat.le_refl _, by decide, rfl, fun g h1 h2 => by omega, Ext.refl _⟩
  case round =>
    obtain ⟨k, hk1, hk9, rfl, hdp, hx⟩ := hrel
    have HDP := Lib.hid hdp
    have HX := Lib.hid hx
    clear hdp hx
    by_cases hk8 : k ≤ 8
    · have hk18 : 1 ≤ (k : Int) ∧ (k : Int) ≤ 8 := by omega
      have hk8' : (k : Int) ≤ 8 := by omega
      have z0 : wr.cell? ⟨w.heap.size, 0, none⟩ = some (.int .i64 t) := (K0.out.ext HX.out).cell 0
      have z1 : wr.cell? ⟨w.heap.size, 1, none⟩ = some (.slice A n ca) := (K0.out.ext HX.out).cell 1
      have z2 : wr.cell? ⟨w.heap.size + 1, 0, none⟩ = some (.int .i64 pc) := (K1.out.ext HX.out).cell 0
      have z3 : wr.cell? ⟨w.heap.size + 1, 1, none⟩ = some (.int .i64 dep) := (K1.out.ext HX.out).cell 1
      have HD := Lib.hid (fun W (e : Ext wr W) => show Calls Try.prog 51 #[.agg #[.int .i64 t, .slice A n ca], .agg #[.int .i64 (k : Int), .slice B n cb], .int .i64 pc] W (VPost W (fun u _ => ∃ d : Nat, u = .int .i64 (d : Int) ∧ IsDepth (powers (k : Int) hot l) pc d)) from
        (HD0.out (k : Int) hk18 W (E0.out.trans (HX.out.trans e))).mono fun _ _ ⟨d, h1, h2, h3⟩ => ⟨_, h1, h3, d, rfl, h2⟩)
      go_wp2
      refine wp_region_each [some 13, some 14, some 15, some 16, some 17, some 18, some 19, some 20, some 21, some 22] [[3], [8], [1], [14, 15], [5], [17], [13, 16, 18], [5], [20], [19, 21]]
        [Is (.agg #[.int .i64 (t), .slice A n ca]), Is (.int .i64 ((k : Int))), Is (.slice B n cb), Is (.agg #[.int .i64 (k : Int), .slice B n cb]), Is (.pointer (some ⟨w.heap.size + 1, 0, none⟩)), Is (.int .i64 (pc)), fun u _ => ∃ d : Nat, u = .int .i64 (d : Int) ∧ IsDepth (powers (k : Int) hot l) pc d, Is (.pointer (some ⟨w.heap.size + 1, 1, none⟩)), Is (.int .i64 (dep)), fun u _ => ∃ d : Nat, u = .bool (decide ((d : Int) ≤ dep)) ∧ IsDepth (powers (k : Int) hot l) pc d]
        (by kernel_rfl) (by kernel_rfl) (by kernel_rfl) (by kernel_rfl) (by kernel_rfl) Ext (fun W => Ext wr W)
        (fun W _ => Ext.refl W) (fun W W' h k => h.trans k) ?_ (Ext.drew _) ?_ ?_
      · repeat (refine ⟨fun _ _ _ _ k h => (by first | exact h | exact (by first | exact IntsAt.ext h k | exact BothV.ext h k | exact SlV.ext h k)), ?_⟩)
        exact trivial
      · refine ⟨?_, ?_, ?_, ?_, ?_, ?_, ?_, ?_, ?_, ?_, trivial⟩
        all_goals intro ρ W ⟨kc, kg, kf⟩ hF hs
        · obtain ⟨h0, -⟩ := hs
          replace h0 : ρ (.tmp 3) = .pointer (some ⟨w.heap.size, 0, none⟩) := h0
          have hc0 : W.cell? ⟨w.heap.size, 0, none⟩ = some (.int .i64 (t)) := hF.cell (by assumption)
          have hc1 : W.cell? ⟨w.heap.size, 1, none⟩ = some (.slice A n ca) := hF.cell (by assumption)
          go_simp
          exact ⟨Ext.refl _, rfl⟩
        · obtain ⟨h0, -⟩ := hs
          replace h0 : ρ (.tmp 8) = .int .i64 ((k : Int)) := h0
          go_simp
          exact ⟨Ext.refl _, rfl⟩
        · obtain ⟨h0, -⟩ := hs
          replace h0 : ρ (.tmp 1) = .slice B n cb := h0
          go_simp
          exact ⟨Ext.refl _, rfl⟩
        · obtain ⟨h0, h1, -⟩ := hs
          replace h0 : ρ (.tmp 14) = .int .i64 ((k : Int)) := h0
          replace h1 : ρ (.tmp 15) = .slice B n cb := h1
          go_simp
          exact ⟨Ext.refl _, rfl⟩
        · obtain ⟨h0, -⟩ := hs
          replace h0 : ρ (.tmp 5) = .pointer (some ⟨w.heap.size + 1, 0, none⟩) := h0
          go_simp
          exact ⟨Ext.refl _, rfl⟩
        · obtain ⟨h0, -⟩ := hs
          replace h0 : ρ (.tmp 17) = .pointer (some ⟨w.heap.size + 1, 0, none⟩) := h0
          have hc0 : W.cell? ⟨w.heap.size + 1, 0, none⟩ = some (.int .i64 (pc)) := hF.cell (by assumption)
          go_simp
          exact ⟨Ext.refl _, rfl⟩
        · obtain ⟨h0, h1, h2, -⟩ := hs
          replace h0 : ρ (.tmp 13) = .agg #[.int .i64 (t), .slice A n ca] := h0
          replace h1 : ρ (.tmp 16) = .agg #[.int .i64 (k : Int), .slice B n cb] := h1
          replace h2 : ρ (.tmp 18) = .int .i64 (pc) := h2
          go_simp
          exact HD.out W hF
        · obtain ⟨h0, -⟩ := hs
          replace h0 : ρ (.tmp 5) = .pointer (some ⟨w.heap.size + 1, 0, none⟩) := h0
          go_simp
          exact ⟨Ext.refl _, rfl⟩
        · obtain ⟨h0, -⟩ := hs
          replace h0 : ρ (.tmp 20) = .pointer (some ⟨w.heap.size + 1, 1, none⟩) := h0
          have hc0 : W.cell? ⟨w.heap.size + 1, 1, none⟩ = some (.int .i64 (dep)) := hF.cell (by assumption)
          go_simp
          exact ⟨Ext.refl _, rfl⟩
        · obtain ⟨h0, h1, -⟩ := hs
          replace h0 : (fun u _ => ∃ d : Nat, u = .int .i64 (d : Int) ∧ IsDepth (powers (k : Int) hot l) pc d) (ρ (.tmp 19)) W := h0
          replace h1 : ρ (.tmp 21) = .int .i64 (dep) := h1
          obtain ⟨d, e, hd⟩ := h0
          go_simp
          exact ⟨Ext.refl _, d, Iff.rfl, hd⟩
      · intro fv W3 hF hs
        obtain ⟨-, -, -, -, -, -, -, -, -, h22, -⟩ := hs
        replace h22 : (fun u _ => ∃ d : Nat, u = .bool (decide ((d : Int) ≤ dep)) ∧ IsDepth (powers (k : Int) hot l) pc d) (fv 22) W3 := h22
        simp only [fin, List.filterMap]
        go_simp
        have XN := Lib.hid (HX.out.trans hF)
        obtain ⟨d, e50, hd⟩ := h22
        have e50' : fv 22 = .bool (decide ((d : Int) ≤ dep)) := e50
        have HDD := Lib.hid hd
        clear hd e50 hF z0 z1 z2 z3
        by_cases hdd : (d : Int) ≤ dep
        · have e51 : fv 22 = .bool true := by rw [e50', decide_eq_true hdd]
          have HLE := Lib.hid hdd
          clear e50' hdd
          rw [e51]
          clear e51
          go_wp2
          go_ret2
          exact ⟨_, _, rfl, E0.out.trans XN.out, .inl ⟨rfl, .inr (.inl ⟨HZ.out, rfl, k, rfl, hk1, hk8, HDP.out, d, HDD.out, HLE.out⟩)⟩⟩
        · have e51 : fv 22 = .bool false := by rw [e50', decide_eq_false hdd]
          have HLE := Lib.hid hdd
          clear e50' hdd
          rw [e51]
          clear e51
          go_wp2
          go_roundw
          case rel => exact ⟨k + 1, by omega, by omega, by go_num, fun g h1 h2 => by
            by_cases hg : g = k
            · subst hg; exact ⟨d, HDD.out, by have := HLE.out; omega⟩
            · exact HDP.out g h1 (by omega), XN.out⟩
          case measure => simp [intOf]; omega
    · obtain rfl : k = 9 := by omega
      go_wp2
      go_ret2
      exact ⟨_, _, rfl, E0.out.trans HX.out, .inr ⟨rfl, .inr (.inr ⟨HZ.out, rfl, rfl, HDP.out⟩)⟩⟩

end Go.Proofs.Ytpaoeghdfeekoaa
