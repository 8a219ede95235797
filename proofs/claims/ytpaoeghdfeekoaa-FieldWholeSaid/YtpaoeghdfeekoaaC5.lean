/- The frequency for a wish. By regen.py. -/
import Derived.Test.YtpaoeghdfeekoaaC4
namespace Go.Proofs.Ytpaoeghdfeekoaa
open Go.RowKit Go.Mem Go.RegInv
attribute [local go_sem] RelUpon_value RelUpon_skip RelUpon_enter BigFrame.eval_const BigFrame.eval_global BigFrame.eval_func

theorem shellError_any (t : Int) (A : Option Addr) (n cap : Nat) (v : Value) (xs : List Int) (w : World) (hn : n ≤ 1152921504606846976) (hx : IntsAt w v xs) :
    Calls Try.prog 97 #[.agg #[.int .i64 t, .slice A n cap], v] w fun e w' => e = .returned (.int .i64 (errIf (xs.any (outB 0 ((n : Int) - 1))) 6)) ∧ Ext w w' := by
  have e0 := Ext.alloc w (.cells #[.int .i64 t, .slice A n cap] 24)
  have e1 := e0.trans ((Ext.alloc _ (.cells #[.int .i64 0] 3)).trans (Ext.alloc _ (.cells #[.int .i64 ((n : Int) - 1)] 3)))
  have HC := Lib.hid (containsFunc_out v 0 ((n : Int) - 1) ⟨w.heap.size + 1, 0, none⟩ ⟨w.heap.size + 1 + 1, 0, none⟩ xs _ (hx.ext e1) (by go_simp) (by go_simp))
  clear hx
  generalize xs.any (outB 0 ((n : Int) - 1)) = c at HC ⊢
  go_enter Try.func97, Try.ntmps97
  go_wp2_with (first
    | (go_at_call 126; refine (outside_any _ _ _).mono ?_; rintro e w' ⟨rfl, rfl⟩)
    | (go_at_call 125; refine HC.out.mono ?_; rintro e w' ⟨rfl, rfl⟩)
    | (go_at_call 85; refine (errorIf_any _ _ _).mono ?_; rintro e w' ⟨rfl, rfl⟩))
  go_ret
  exact ⟨rfl, e1⟩

def freqE (t : Int) (l : List Sh) (m : Nat) (pc dep : Int) : Int := firstE [(checkL t l).2, errIf ((m : Int) != (l.length : Int)) 10, rangeE 1 100 [pc], rangeE 1 (l.length : Int) [dep]]

/-- Too deep at every frequency below f. -/
def Deep (hot : List Bool) (l : List Sh) (pc dep : Int) (f : Nat) : Prop := ∀ g : Nat, 1 ≤ g → g < f → ∃ d : Nat, IsDepth (powers g hot l) pc d ∧ dep < d

def FreqIs (t : Int) (l : List Sh) (hot : List Bool) (m : Nat) (pc dep f er : Int) : Prop :=
  (freqE t l m pc dep ≠ 0 ∧ f = 0 ∧ er = freqE t l m pc dep) ∨
  (freqE t l m pc dep = 0 ∧ er = 0 ∧ ∃ k : Nat, f = k ∧ 1 ≤ k ∧ k ≤ 8 ∧ Deep hot l pc dep k ∧ ∃ d : Nat, IsDepth (powers f hot l) pc d ∧ (d : Int) ≤ dep) ∨
  (freqE t l m pc dep = 0 ∧ er = 12 ∧ f = 0 ∧ Deep hot l pc dep 9)

set_option maxRecDepth 100000 in
set_option maxHeartbeats 2000000 in
theorem frequencyFor_any (t : Int) (A : Option Addr) (n cap : Nat) (l : List Sh) (hn : l.length = n) (B : Option Addr) (m cap' : Nat) (hot : List Bool) (hm : hot.length = m) (pc dep : Int) (w : World)
    (hS : LadAt w A l) (hH : RowsAt 1 boolEnc w B hot) :
    Calls Try.prog 59 #[.agg #[.int .i64 t, .slice A n cap], .slice B m cap', .agg #[.int .i64 pc, .int .i64 dep]] w fun e w' => Ext w w' ∧ ∃ f er, e = .returned (.tuple #[.int .i64 f, .int .i64 er]) ∧ FreqIs t l hot m pc dep f er := by
  have HC := Lib.hid (fun W h => ladderError_any t A n cap l hn W h)
  have e0 : Ext w ((w.alloc (.cells #[.int .i64 t, .slice A n cap] 24)).alloc (.cells #[.int .i64 pc, .int .i64 dep] 98)) := (Ext.alloc _ _).trans (Ext.alloc _ _)
  have HE := Lib.hid (show freqE t l m pc dep = firstE [(checkL t l).2, errIf ((m : Int) != (n : Int)) 10, rangeE 1 100 [pc], rangeE 1 (n : Int) [dep]] by unfold freqE; rw [hn])
  have HLA := Lib.hid hS
  have HS := Lib.hid hS.1
  have HH := Lib.hid hH
  have HN := Lib.hid hn
  have HM := Lib.hid hm
  clear hn hS hm hH
  obtain ⟨q, hq⟩ : ∃ q, q = (checkL t l).2 := ⟨_, rfl⟩
  rw [← hq] at HC HE
  have HQ := Lib.hid hq
  clear hq
  go_enter Try.func59, Try.ntmps59
  go_wp2
  refine wp_region_each [some 11, some 12, some 13, some 14, some 15, some 16, some 17, some 18, some 19, some 20, some 21, some 22, some 23, some 24, some 25, some 26, some 27, some 28, some 29, some 30, some 31, some 8] [[3], [11], [1], [13], [3], [15], [16], [14, 17], [18], [5], [20], [21], [3], [23], [24], [5], [26], [27], [25, 28], [12, 19, 22, 29], [30], [31]]
    [Is (.agg #[.int .i64 (t), .slice A n cap]), Is (.int .i64 (q)), Is (.slice B m cap'), Is (.int .i64 ((m : Int))), Is (.pointer (some ⟨w.heap.size, 1, none⟩)), Is (.slice A n cap), Is (.int .i64 ((n : Int))), Is (.bool ((m : Int) != (n : Int))), Is (.int .i64 (errIf ((m : Int) != (n : Int)) 10)), Is (.pointer (some ⟨w.heap.size + 1, 0, none⟩)), Is (.int .i64 (pc)), Is (.int .i64 (rangeE 1 100 [pc])), Is (.pointer (some ⟨w.heap.size, 1, none⟩)), Is (.slice A n cap), Is (.int .i64 ((n : Int))), Is (.pointer (some ⟨w.heap.size + 1, 1, none⟩)), Is (.int .i64 (dep)), Ints [dep], Is (.int .i64 (rangeE 1 (n : Int) [dep])), Ints [q, errIf ((m : Int) != (n : Int)) 10, rangeE 1 100 [pc], rangeE 1 (n : Int) [dep]], Is (.int .i64 (firstE [q, errIf ((m : Int) != (n : Int)) 10, rangeE 1 100 [pc], rangeE 1 (n : Int) [dep]])), Is (.int .i64 (firstE [q, errIf ((m : Int) != (n : Int)) 10, rangeE 1 100 [pc], rangeE 1 (n : Int) [dep]]))]
    (by kernel_rfl) (by kernel_rfl) (by kernel_rfl) (by kernel_rfl) (by kernel_rfl) Ext (fun W => Ext ((w.alloc (.cells #[.int .i64 t, .slice A n cap] 24)).alloc (.cells #[.int .i64 pc, .int .i64 dep] 98)) W)
    (fun W _ => Ext.refl W) (fun W W' h k => h.trans k) ?_ (Ext.drew _) ?_ ?_
  · repeat (refine ⟨fun _ _ _ _ k h => (by first | exact h | exact IntsAt.ext h k), ?_⟩)
    exact trivial
  · refine ⟨?_, ?_, ?_, ?_, ?_, ?_, ?_, ?_, ?_, ?_, ?_, ?_, ?_, ?_, ?_, ?_, ?_, ?_, ?_, ?_, ?_, ?_, trivial⟩
    all_goals intro ρ W ⟨kc, kg, kf⟩ hF hs
    · obtain ⟨h0, -⟩ := hs
      replace h0 : ρ (.tmp 3) = .pointer (some ⟨w.heap.size, 0, none⟩) := h0
      have hc0 : W.cell? ⟨w.heap.size, 0, none⟩ = some (.int .i64 (t)) := hF.cell (by go_simp)
      have hc1 : W.cell? ⟨w.heap.size, 1, none⟩ = some (.slice A n cap) := hF.cell (by go_simp)
      go_simp
      exact ⟨Ext.refl _, rfl⟩
    · obtain ⟨h0, -⟩ := hs
      replace h0 : ρ (.tmp 11) = .agg #[.int .i64 (t), .slice A n cap] := h0
      go_simp
      refine (HC.out W (HS.out.ext (e0.trans hF))).mono ?_; rintro e w' ⟨rfl, hx⟩; exact ⟨_, rfl, hx, rfl⟩
    · obtain ⟨h0, -⟩ := hs
      replace h0 : ρ (.tmp 1) = .slice B m cap' := h0
      go_simp
      exact ⟨Ext.refl _, rfl⟩
    · obtain ⟨h0, -⟩ := hs
      replace h0 : ρ (.tmp 13) = .slice B m cap' := h0
      go_simp
      exact ⟨Ext.refl _, rfl⟩
    · obtain ⟨h0, -⟩ := hs
      replace h0 : ρ (.tmp 3) = .pointer (some ⟨w.heap.size, 0, none⟩) := h0
      go_simp
      exact ⟨Ext.refl _, rfl⟩
    · obtain ⟨h0, -⟩ := hs
      replace h0 : ρ (.tmp 15) = .pointer (some ⟨w.heap.size, 1, none⟩) := h0
      have hc0 : W.cell? ⟨w.heap.size, 1, none⟩ = some (.slice A n cap) := hF.cell (by go_simp)
      go_simp
      exact ⟨Ext.refl _, rfl⟩
    · obtain ⟨h0, -⟩ := hs
      replace h0 : ρ (.tmp 16) = .slice A n cap := h0
      go_simp
      exact ⟨Ext.refl _, rfl⟩
    · obtain ⟨h0, h1, -⟩ := hs
      replace h0 : ρ (.tmp 14) = .int .i64 ((m : Int)) := h0
      replace h1 : ρ (.tmp 17) = .int .i64 ((n : Int)) := h1
      go_simp
      exact ⟨Ext.refl _, rfl⟩
    · obtain ⟨h0, -⟩ := hs
      replace h0 : ρ (.tmp 18) = .bool ((m : Int) != (n : Int)) := h0
      go_simp
      refine (errorIf_any _ _ _).mono ?_; rintro e w' ⟨rfl, rfl⟩; exact ⟨_, rfl, Ext.refl _, rfl⟩
    · obtain ⟨h0, -⟩ := hs
      replace h0 : ρ (.tmp 5) = .pointer (some ⟨w.heap.size + 1, 0, none⟩) := h0
      go_simp
      exact ⟨Ext.refl _, rfl⟩
    · obtain ⟨h0, -⟩ := hs
      replace h0 : ρ (.tmp 20) = .pointer (some ⟨w.heap.size + 1, 0, none⟩) := h0
      have hc0 : W.cell? ⟨w.heap.size + 1, 0, none⟩ = some (.int .i64 (pc)) := hF.cell (by go_simp)
      go_simp
      exact ⟨Ext.refl _, rfl⟩
    · obtain ⟨h0, -⟩ := hs
      replace h0 : ρ (.tmp 21) = .int .i64 (pc) := h0
      go_simp
      refine (percentError_any pc _).mono ?_; rintro e w' ⟨rfl, hx⟩; exact ⟨_, rfl, hx, rfl⟩
    · obtain ⟨h0, -⟩ := hs
      replace h0 : ρ (.tmp 3) = .pointer (some ⟨w.heap.size, 0, none⟩) := h0
      go_simp
      exact ⟨Ext.refl _, rfl⟩
    · obtain ⟨h0, -⟩ := hs
      replace h0 : ρ (.tmp 23) = .pointer (some ⟨w.heap.size, 1, none⟩) := h0
      have hc0 : W.cell? ⟨w.heap.size, 1, none⟩ = some (.slice A n cap) := hF.cell (by go_simp)
      go_simp
      exact ⟨Ext.refl _, rfl⟩
    · obtain ⟨h0, -⟩ := hs
      replace h0 : ρ (.tmp 24) = .slice A n cap := h0
      go_simp
      exact ⟨Ext.refl _, rfl⟩
    · obtain ⟨h0, -⟩ := hs
      replace h0 : ρ (.tmp 5) = .pointer (some ⟨w.heap.size + 1, 0, none⟩) := h0
      go_simp
      exact ⟨Ext.refl _, rfl⟩
    · obtain ⟨h0, -⟩ := hs
      replace h0 : ρ (.tmp 26) = .pointer (some ⟨w.heap.size + 1, 1, none⟩) := h0
      have hc0 : W.cell? ⟨w.heap.size + 1, 1, none⟩ = some (.int .i64 (dep)) := hF.cell (by go_simp)
      go_simp
      exact ⟨Ext.refl _, rfl⟩
    · obtain ⟨h0, -⟩ := hs
      replace h0 : ρ (.tmp 27) = .int .i64 (dep) := h0
      go_simp
      exact ⟨Ext.alloc _ _, ints_new _ [dep] _ (by simp)⟩
    · obtain ⟨h0, h1, -⟩ := hs
      replace h0 : ρ (.tmp 25) = .int .i64 ((n : Int)) := h0
      replace h1 : (Ints [dep]) (ρ (.tmp 28)) W := h1
      go_simp
      refine (rangeError_any 1 ((n : Int)) _ _ _ h1).mono ?_; rintro e w' ⟨rfl, hx⟩; exact ⟨_, rfl, hx, rfl⟩
    · obtain ⟨h0, h1, h2, h3, -⟩ := hs
      replace h0 : ρ (.tmp 12) = .int .i64 (q) := h0
      replace h1 : ρ (.tmp 19) = .int .i64 (errIf ((m : Int) != (n : Int)) 10) := h1
      replace h2 : ρ (.tmp 22) = .int .i64 (rangeE 1 100 [pc]) := h2
      replace h3 : ρ (.tmp 29) = .int .i64 (rangeE 1 (n : Int) [dep]) := h3
      go_simp
      exact ⟨Ext.alloc _ _, ints_new _ [q, errIf ((m : Int) != (n : Int)) 10, rangeE 1 100 [pc], rangeE 1 (n : Int) [dep]] _ (by simp)⟩
    · obtain ⟨h0, -⟩ := hs
      replace h0 : (Ints [q, errIf ((m : Int) != (n : Int)) 10, rangeE 1 100 [pc], rangeE 1 (n : Int) [dep]]) (ρ (.tmp 30)) W := h0
      go_simp
      refine (firstOf_any _ _ _ h0).mono ?_; rintro e w' ⟨rfl, rfl⟩; exact ⟨_, rfl, Ext.refl _, rfl⟩
    · obtain ⟨h0, -⟩ := hs
      replace h0 : ρ (.tmp 31) = .int .i64 (firstE [q, errIf ((m : Int) != (n : Int)) 10, rangeE 1 100 [pc], rangeE 1 (n : Int) [dep]]) := h0
      go_simp
      exact ⟨Ext.refl _, rfl⟩
  · intro fv W hF hs
    obtain ⟨-, -, -, -, -, -, -, -, -, -, -, -, -, -, -, -, -, -, -, -, -, h8, -⟩ := hs
    replace h8 : fv 8 = .int .i64 (firstE [q, errIf ((m : Int) != (n : Int)) 10, rangeE 1 100 [pc], rangeE 1 (n : Int) [dep]]) := h8
    simp only [fin, List.filterMap]
    go_simp
    rw [← HE.out]
    have e1 := e0.trans hF
    have z0 : W.cell? ⟨w.heap.size, 0, none⟩ = some (.int .i64 t) := hF.cell (by go_simp)
    have z1 : W.cell? ⟨w.heap.size, 1, none⟩ = some (.slice A n cap) := hF.cell (by go_simp)
    have z2 : W.cell? ⟨w.heap.size + 1, 0, none⟩ = some (.int .i64 pc) := hF.cell (by go_simp)
    have z3 : W.cell? ⟨w.heap.size + 1, 1, none⟩ = some (.int .i64 dep) := hF.cell (by go_simp)
    clear h8 hF
    by_cases hr : freqE t l m pc dep = 0
    · have hz := (firstE_zero _).1 (HE.out.symm.trans hr)
      have hz1 : q = 0 := hz _ (by simp)
      have hz2 : errIf ((m : Int) != (n : Int)) 10 = 0 := hz _ (by simp)
      have hz3 : rangeE 1 100 [pc] = 0 := hz _ (by simp)
      obtain rfl : n = m := by
        have := (errIf_zero (by decide)).1 hz2
        simp at this; omega
      obtain ⟨_, ⟨h1, h4⟩, hok⟩ := (checkL_zero t l).1 (HQ.out.symm.trans hz1)
      have hpc := (rangeE_zero 1 100 [pc]).1 hz3 pc (by simp)
      rw [HN.out] at h1 h4
      have HP := Lib.hid (fun W (e : Ext w W) f hf => powersOf_any t A n cap l HN.out f B cap' hot HM.out W (HS.out.ext e) (HH.out.ext e) hok hf h1 h4)
      have HIT := Lib.hid (fun W (e : Ext w W) f hf v => powers_at_w (cap := cap) HN.out (hot := hot) (f := f) hok hf h1 h4 (HLA.out.ext e) (v := v))
      have HOK := Lib.hid (fun f hf => powers_ok (hot := hot) (f := f) hok hf (by rw [HN.out]; exact h1) (by rw [HN.out]; exact h4))
      have HPC := Lib.hid hpc
      have HPL := Lib.hid (fun f => powers_len f hot l)
      have hn4 : n ≤ 1000 := by omega
      have HR := Lib.hid hr
      have hr' : (freqE t l n pc dep != 0) = false := by simp [hr]
      clear hz hz1 hz2 hz3 hpc h1 h4 hok hr HE
      obtain ⟨r, hrr⟩ : ∃ r, r = freqE t l n pc dep := ⟨_, rfl⟩
      rw [← hrr] at hr' ⊢
      have HRR := Lib.hid hrr
      clear hrr
      go_wp2
      go_loopw [9] (fun i wr => ∃ k : Nat, 1 ≤ k ∧ k ≤ 9 ∧ i = .int .i64 k ∧ Deep hot l pc dep k ∧ Ext W wr) (fun i _ => 9 - (intOf i).toNat)
      case atStart => exact ⟨1, Nat.le_refl _, by decide, rfl, fun g h1 h2 => by omega, Ext.refl _⟩
      case round =>
        obtain ⟨k, hk1, hk9, rfl, hdp, hx⟩ := hrel
        have HDP := Lib.hid hdp
        clear hdp
        by_cases hk8 : k ≤ 8
        · have hk18 : 1 ≤ (k : Int) ∧ (k : Int) ≤ 8 := by omega
          have hk8' : (k : Int) ≤ 8 := by omega
          have x0 := (Ext.alloc wr (.cells #[.int .i64 (k : Int), .slice B n cap'] 27)).cell (hx.cell z0)
          have x1 := (Ext.alloc wr (.cells #[.int .i64 (k : Int), .slice B n cap'] 27)).cell (hx.cell z1)
          have x2 := (Ext.alloc wr (.cells #[.int .i64 (k : Int), .slice B n cap'] 27)).cell (hx.cell z2)
          have x3 := (Ext.alloc wr (.cells #[.int .i64 (k : Int), .slice B n cap'] 27)).cell (hx.cell z3)
          have b10 := Blk.newAt wr 27 #[.int .i64 (k : Int), .slice B n cap'] (g := wr.heap.size) rfl
          have x4 : (wr.alloc (.cells #[.int .i64 (k : Int), .slice B n cap'] 27)).cell? ⟨wr.heap.size, 0, none⟩ = some (.int .i64 (k : Int)) := b10.cell 0
          have x5 : (wr.alloc (.cells #[.int .i64 (k : Int), .slice B n cap'] 27)).cell? ⟨wr.heap.size, 1, none⟩ = some (.slice B n cap') := b10.cell 1
          have ew := e1.trans (hx.trans (Ext.alloc wr (.cells #[.int .i64 (k : Int), .slice B n cap'] 27)))
          have HXW := Lib.hid (hx.trans (Ext.alloc wr (.cells #[.int .i64 (k : Int), .slice B n cap'] 27)))
          clear b10
          go_wp2
          generalize wr.alloc (.cells #[.int .i64 (k : Int), .slice B n cap'] 27) = W2 at *
          refine wp_region_each [some 42, some 43, some 44, some 45, some 46, some 47, some 48, some 49, some 50] [[3], [10], [42, 43], [5], [45], [44, 46], [5], [48], [47, 49]]
            [Is (.agg #[.int .i64 (t), .slice A n cap]), Is (.agg #[.int .i64 ((k : Int)), .slice B n cap']), Nd (fun g c => .func (.func 130) #[.agg #[.slice A n cap, .slice (some ⟨g, 2, none⟩) n c]] #[]) 0 2 (nodes (k : Int) hot l), Is (.pointer (some ⟨w.heap.size + 1, 0, none⟩)), Is (.int .i64 (pc)), fun u _ => ∃ d : Nat, u = .int .i64 (d : Int) ∧ IsDepth (powers (k : Int) hot l) pc d, Is (.pointer (some ⟨w.heap.size + 1, 1, none⟩)), Is (.int .i64 (dep)), fun u _ => ∃ d : Nat, u = .bool (decide ((d : Int) ≤ dep)) ∧ IsDepth (powers (k : Int) hot l) pc d]
            (by kernel_rfl) (by kernel_rfl) (by kernel_rfl) (by kernel_rfl) (by kernel_rfl) Ext (fun W => Ext W2 W)
            (fun W _ => Ext.refl W) (fun W W' h k => h.trans k) ?_ (Ext.drew _) ?_ ?_
          · repeat (refine ⟨fun _ _ _ _ k h => (by first | exact h | exact Nd.ext h k), ?_⟩)
            exact trivial
          · refine ⟨?_, ?_, ?_, ?_, ?_, ?_, ?_, ?_, ?_, trivial⟩
            all_goals intro ρ W ⟨kc, kg, kf⟩ hF hs
            · obtain ⟨h0, -⟩ := hs
              replace h0 : ρ (.tmp 3) = .pointer (some ⟨w.heap.size, 0, none⟩) := h0
              have hc0 : W.cell? ⟨w.heap.size, 0, none⟩ = some (.int .i64 (t)) := hF.cell (by assumption)
              have hc1 : W.cell? ⟨w.heap.size, 1, none⟩ = some (.slice A n cap) := hF.cell (by assumption)
              go_simp
              exact ⟨Ext.refl _, rfl⟩
            · obtain ⟨h0, -⟩ := hs
              replace h0 : ρ (.tmp 10) = .pointer (some ⟨wr.heap.size, 0, none⟩) := h0
              have hc0 : W.cell? ⟨wr.heap.size, 0, none⟩ = some (.int .i64 ((k : Int))) := hF.cell (by assumption)
              have hc1 : W.cell? ⟨wr.heap.size, 1, none⟩ = some (.slice B n cap') := hF.cell (by assumption)
              go_simp
              exact ⟨Ext.refl _, rfl⟩
            · obtain ⟨h0, h1, -⟩ := hs
              replace h0 : ρ (.tmp 42) = .agg #[.int .i64 (t), .slice A n cap] := h0
              replace h1 : ρ (.tmp 43) = .agg #[.int .i64 ((k : Int)), .slice B n cap'] := h1
              go_simp
              refine (HP.out W (ew.trans hF) (k : Int) hk18).mono ?_
              rintro e w' ⟨v, rfl, hv, hx⟩
              exact ⟨_, rfl, hx, hv⟩
            · obtain ⟨h0, -⟩ := hs
              replace h0 : ρ (.tmp 5) = .pointer (some ⟨w.heap.size + 1, 0, none⟩) := h0
              go_simp
              exact ⟨Ext.refl _, rfl⟩
            · obtain ⟨h0, -⟩ := hs
              replace h0 : ρ (.tmp 45) = .pointer (some ⟨w.heap.size + 1, 0, none⟩) := h0
              have hc0 : W.cell? ⟨w.heap.size + 1, 0, none⟩ = some (.int .i64 (pc)) := hF.cell (by assumption)
              go_simp
              exact ⟨Ext.refl _, rfl⟩
            · obtain ⟨h0, h1, -⟩ := hs
              replace h0 : (Nd (fun g c => .func (.func 130) #[.agg #[.slice A n cap, .slice (some ⟨g, 2, none⟩) n c]] #[]) 0 2 (nodes (k : Int) hot l)) (ρ (.tmp 44)) W := h0
              replace h1 : ρ (.tmp 46) = .int .i64 (pc) := h1
              obtain ⟨first, e, hit⟩ := HIT.out W (ew.trans hF) (k : Int) hk18 _ h0
              have hok := HOK.out (k : Int) hk18
              clear h0
              go_simp
              refine (callsIn_wide.1 (depthOf_in 130 first #[] eg130 (powers (k : Int) hot l) n (by rw [HPL.out, HN.out]) hn4 pc _ hit HPC.out hok.sum hok.part)).mono ?_
              rintro e w' ⟨d, rfl, hd, hx⟩
              exact ⟨_, rfl, hx, d, rfl, hd⟩
            · obtain ⟨h0, -⟩ := hs
              replace h0 : ρ (.tmp 5) = .pointer (some ⟨w.heap.size + 1, 0, none⟩) := h0
              go_simp
              exact ⟨Ext.refl _, rfl⟩
            · obtain ⟨h0, -⟩ := hs
              replace h0 : ρ (.tmp 48) = .pointer (some ⟨w.heap.size + 1, 1, none⟩) := h0
              have hc0 : W.cell? ⟨w.heap.size + 1, 1, none⟩ = some (.int .i64 (dep)) := hF.cell (by assumption)
              go_simp
              exact ⟨Ext.refl _, rfl⟩
            · obtain ⟨h0, h1, -⟩ := hs
              replace h0 : (fun u _ => ∃ d : Nat, u = .int .i64 (d : Int) ∧ IsDepth (powers (k : Int) hot l) pc d) (ρ (.tmp 47)) W := h0
              replace h1 : ρ (.tmp 49) = .int .i64 (dep) := h1
              obtain ⟨d, e, hd⟩ := h0
              go_simp
              exact ⟨Ext.refl _, d, Iff.rfl, hd⟩
          · intro fv W hF hs
            obtain ⟨-, -, -, -, -, -, -, -, h50, -⟩ := hs
            replace h50 : (fun u _ => ∃ d : Nat, u = .bool (decide ((d : Int) ≤ dep)) ∧ IsDepth (powers (k : Int) hot l) pc d) (fv 50) W := h50
            simp only [fin, List.filterMap]
            go_simp
            obtain ⟨d, e50, hd⟩ := h50
            have e50' : fv 50 = .bool (decide ((d : Int) ≤ dep)) := e50
            have HD := Lib.hid hd
            clear hd e50
            by_cases hdd : (d : Int) ≤ dep
            · have e51 : fv 50 = .bool true := by rw [e50', decide_eq_true hdd]
              clear e50'
              rw [e51]
              go_wp2
              go_ret2
              exact ⟨e1.trans (HXW.out.trans hF), _, _, rfl, .inr (.inl ⟨HR.out, rfl, k, rfl, hk1, hk8, HDP.out, d, HD.out, hdd⟩)⟩
            · have e51 : fv 50 = .bool false := by rw [e50', decide_eq_false hdd]
              clear e50'
              rw [e51]
              go_wp2
              go_roundw
              case rel => exact ⟨k + 1, by omega, by omega, by go_num, fun g h1 h2 => by
                by_cases hg : g = k
                · subst hg; exact ⟨d, HD.out, by omega⟩
                · exact HDP.out g h1 (by omega), HXW.out.trans hF⟩
              case measure => simp [intOf]; omega
        · obtain rfl : k = 9 := by omega
          go_wp2
          go_ret2
          exact ⟨e1.trans hx, _, _, rfl, .inr (.inr ⟨HR.out, rfl, rfl, HDP.out⟩)⟩
    · have HR := Lib.hid hr
      have hr' : (freqE t l m pc dep != 0) = true := by simp [hr]
      clear hr HE
      obtain ⟨r, hrr⟩ : ∃ r, r = freqE t l m pc dep := ⟨_, rfl⟩
      rw [← hrr] at hr' ⊢
      have HRR := Lib.hid hrr
      clear hrr
      go_wp2
      go_ret2
      exact ⟨e1, _, _, rfl, .inl ⟨HR.out, rfl, HRR.out⟩⟩

end Go.Proofs.Ytpaoeghdfeekoaa
