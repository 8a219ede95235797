/- The error of a knot by itself. -/
import Derived.Test.YtkmekbafjnlfkaaGreatS2

namespace Go.Proofs.YtkmekbafjnlfkaaGreat
open Go.RowKit Go.Shelf Go.Mem Go.RegInv
attribute [local go_sem] RelUpon_value RelUpon_skip RelUpon_enter BigFrame.eval_const BigFrame.eval_global BigFrame.eval_func

theorem NumsV.ext {x : Kn} {u : Value} {W W' : World} (h : NumsV x u W) (e : Ext W W') : NumsV x u W' := by
  obtain ⟨g, m, c, h1, h2, h3, h4, h5⟩ := h; exact ⟨g, m, c, h1, h2, h3, h4, h5.ext e⟩
def bwd (r : Rg) : Bool := decide (r.hi < r.lo)
theorem backward_any (r : Rg) (w : World) : Calls Tryz.prog 145 #[.agg #[.int .i64 r.lo, .int .i64 r.hi]] w fun e w' => e = .returned (.bool (bwd r)) ∧ Ext w w' := by
  go_enter Tryz.func145, Tryz.ntmps145
  go_wp2
  go_ret
  exact ⟨rfl, Ext.alloc _ _⟩

set_option maxRecDepth 100000 in
set_option maxHeartbeats 1000000 in
theorem indexFunc142_any {A : Option Addr} {n ca : Nat} {xs : List Rg} (p : Rg → Bool) {w : World} (hn : xs.length = n) (hA : RowsAt 2 Rg.enc w A xs)
    (hF : ∀ (g : Rg) (W : World), Ext w W → Calls Tryz.prog 145 #[.agg #[.int .i64 g.lo, .int .i64 g.hi]] W fun e w' => e = .returned (.bool (p g)) ∧ Ext W w') :
    Calls Tryz.prog 142 #[.slice A n ca, .func (.func 145) #[] #[]] w fun e w' => e = .returned (.int .i64 (idxF p xs 0)) ∧ Ext w w' := by
  have hnb : n ≤ 1152921504606846976 := by have := hA.1; omega
  have HA := Lib.hid hA
  have HN := Lib.hid hn
  have HF := Lib.hid hF
  clear hA hn hF
  go_enter Tryz.func142, Tryz.ntmps142
  go_wp2
  go_loopw [8] (fun i wr => ∃ k : Nat, k ≤ n ∧ i = .int .i64 k ∧ idxF p xs 0 = idxF p (xs.drop k) k ∧ Ext w wr) (fun i _ => n - (intOf i).toNat)
  case atStart => exact ⟨0, Nat.zero_le _, rfl, rfl, Ext.refl _⟩
  case round =>
    obtain ⟨k, hk, rfl, hr, hx⟩ := hrel
    have HR := Lib.hid hr
    have HX := Lib.hid hx
    clear hr hx
    by_cases hlt : k < n
    · obtain ⟨g, hg⟩ : ∃ g, xs[k]? = some g := ⟨_, List.getElem?_eq_getElem (by rw [HN.out]; exact hlt)⟩
      have HD := Lib.hid (idxF_drop p xs k g hg)
      obtain ⟨b, o, hAe, hb, hc⟩ := HA.out.2 k g hg
      subst hAe
      have c0 : wr.cell? ⟨b, o + k * 2, none⟩ = some (.int .i64 g.lo) := HX.out.cell (hc 0 _ rfl)
      have c1 : wr.cell? ⟨b, o + k * 2 + 1, none⟩ = some (.int .i64 g.hi) := HX.out.cell (hc 1 _ rfl)
      have HC := Lib.hid (HF.out g wr HX.out)
      clear hg hc hb
      generalize p g = z at HD HC
      generalize g.lo = g0 at *
      generalize g.hi = g1 at *
      have hki : (k : Int) < (n : Int) := by omega
      cases z
      · go_wp2_with (go_at_call 145; refine HC.out.mono ?_; rintro e W2 ⟨rfl, hx2⟩; have X2 := Lib.hid hx2; clear hx2)
        go_roundw
        case rel => exact ⟨k + 1, by omega, by go_num, by rw [HR.out, HD.out, if_neg (by simp)], HX.out.trans X2.out⟩
        case measure => simp [intOf]; omega
      · go_wp2_with (go_at_call 145; refine HC.out.mono ?_; rintro e W2 ⟨rfl, hx2⟩; have X2 := Lib.hid hx2; clear hx2)
        go_ret
        exact ⟨ret_int (by rw [HR.out, HD.out, if_pos (by trivial)]), HX.out.trans X2.out⟩
    · have HE := Lib.hid (show idxF p (xs.drop k) k = -1 by rw [List.drop_of_length_le (by rw [HN.out]; omega)]; rfl)
      go_wp2
      go_ret
      exact ⟨ret_int (by rw [HR.out, HE.out]), HX.out⟩

theorem containsFunc147_any {A : Option Addr} {n ca : Nat} {xs : List Rg} {w : World} (hn : xs.length = n) (hA : RowsAt 2 Rg.enc w A xs) :
    Calls Tryz.prog 147 #[.slice A n ca, .func (.func 145) #[] #[]] w fun e w' => e = .returned (.bool (xs.any bwd)) ∧ Ext w w' := by
  have HC := Lib.hid (indexFunc142_any (ca := ca) bwd hn hA (fun g W _ => backward_any g W))
  have HI := Lib.hid (idxF_any bwd xs 0)
  clear hA
  generalize idxF bwd xs 0 = m at HC HI
  go_enter Tryz.func147, Tryz.ntmps147
  go_wp2_with (go_at_call 142; refine HC.out.mono ?_; rintro e w' ⟨rfl, hx⟩)
  go_ret
  exact ⟨ret_bool (by rw [← HI.out]), hx⟩

def ownE (x : Kn) : Int := firstE [kelE x.k, rangeE 0 1000000 x.nums, errIf (x.rs.any bwd) 3]
theorem ints_tail {W : World} {g m c : Nat} {x : Int} {xs : List Int} (h : IntsAt W (.slice (some ⟨g, 0, none⟩) m c) (x :: xs)) : IntsAt W (.slice (some ⟨g, 1, none⟩) (m - 1) (c - 1)) xs := by
  rcases h with ⟨_, _, h1, h2⟩ | ⟨b, o, cap, h1, hb, hl, hc⟩
  · cases h2
  · obtain ⟨⟨rfl, rfl⟩, rfl, rfl⟩ : (g = b ∧ 0 = o) ∧ m = (x :: xs).length ∧ c = cap := by simpa using h1
    refine .inr ⟨g, 1, c - 1, by simp, hb, by simp at hl; omega, fun i hi => ?_⟩
    have := hc (i + 1) (by simpa using hi)
    rw [show 0 + (i + 1) = 1 + i by omega] at this
    simpa using this

set_option maxRecDepth 100000 in
set_option maxHeartbeats 1000000 in
theorem ownError_any {x : Kn} {u : Value} {w : World} (hK : KnV x u w) : Calls Tryz.prog 123 #[u] w fun e w' => e = .returned (.int .i64 (ownE x)) ∧ Ext w w' := by
  have hK0 := hK
  obtain ⟨A, n, ca, va, HN, n2, h1, rfl, hA, hva⟩ := hK
  obtain ⟨W0, hW0⟩ : ∃ W0, W0 = w.alloc (.cells #[.int .i64 x.k, .slice A n ca, va] 190) := ⟨_, rfl⟩
  have k0 : Blk W0 w.heap.size 190 #[.int .i64 x.k, .slice A n ca, va] := by rw [hW0]; exact Blk.new _ _ _
  have e0 : Ext w W0 := by rw [hW0]; exact Ext.alloc _ _
  have HNU := Lib.hid (fun (W : World) (e : Ext W0 W) => numbers_any (hK0.ext (e0.trans e)))
  have HCF := Lib.hid (fun (W : World) (e : Ext W0 W) => containsFunc147_any (ca := ca) HN.out (hA.ext (e0.trans e)))
  have E0 := Lib.hid e0
  have z0 : W0.cell? ⟨w.heap.size, 0, none⟩ = some (.int .i64 (x.k)) := k0.cell 0
  have z1 : W0.cell? ⟨w.heap.size, 1, none⟩ = some (.slice A n ca) := k0.cell 1
  have z2 : W0.cell? ⟨w.heap.size, 2, none⟩ = some (va) := k0.cell 2
  have HO := Lib.hid (show ownE x = firstE [kelE x.k, rangeE 0 1000000 x.nums, errIf (x.rs.any bwd) 3] from rfl)
  clear hK0 hA hva k0 e0 h1
  go_enter Tryz.func123, Tryz.ntmps123
  go_wp2
  rw [← hW0]
  clear hW0
  go_wp2
  refine wp_region_each [some 4, some 5, some 6, some 7, some 8, some 9, some 10, some 11, some 12, some 13, some 14, some 15, some 16, some 17, some 2] [[1], [4], [5], [1], [7], [8], [9], [1], [11], [3], [12, 13], [14], [6, 10, 15], [16], [17]]
    [Is (.pointer (some ⟨w.heap.size, 0, none⟩)), Is (.int .i64 (x.k)), Is (.int .i64 (kelE (x.k))), Is (.agg #[.int .i64 (x.k), .slice A n ca, va]), NumsV x, Ints x.nums, Is (.int .i64 (rangeE 0 1000000 x.nums)), Is (.pointer (some ⟨w.heap.size, 1, none⟩)), Is (.slice A n ca), Is (.func (.func 145) #[] #[]), Is (.bool (x.rs.any bwd)), Is (.int .i64 (errIf (x.rs.any bwd) 3)), Ints [kelE (x.k), rangeE 0 1000000 x.nums, errIf (x.rs.any bwd) 3], Is (.int .i64 (firstE [kelE (x.k), rangeE 0 1000000 x.nums, errIf (x.rs.any bwd) 3])), Is (.int .i64 (firstE [kelE (x.k), rangeE 0 1000000 x.nums, errIf (x.rs.any bwd) 3]))]
    (by kernel_rfl) (by kernel_rfl) (by kernel_rfl) (by kernel_rfl) (by kernel_rfl) Ext (fun W => Ext W0 W)
    (fun W _ => Ext.refl W) (fun W W' h k => h.trans k) ?_ (Ext.drew _) ?_ ?_
  · repeat (refine ⟨fun _ _ _ _ k h => (by first | exact h | exact (by first | exact IntsAt.ext h k | exact KnV.ext h k | exact NumsV.ext h k)), ?_⟩)
    exact trivial
  · refine ⟨?_, ?_, ?_, ?_, ?_, ?_, ?_, ?_, ?_, ?_, ?_, ?_, ?_, ?_, ?_, trivial⟩
    all_goals intro ρ W ⟨kc, kg, kf⟩ hF hs
    · obtain ⟨h0, -⟩ := hs
      replace h0 : ρ (.tmp 1) = .pointer (some ⟨w.heap.size, 0, none⟩) := h0
      go_simp
      exact ⟨Ext.refl _, rfl⟩
    · obtain ⟨h0, -⟩ := hs
      replace h0 : ρ (.tmp 4) = .pointer (some ⟨w.heap.size, 0, none⟩) := h0
      have hc0 : W.cell? ⟨w.heap.size, 0, none⟩ = some (.int .i64 (x.k)) := hF.cell (by assumption)
      go_simp
      exact ⟨Ext.refl _, rfl⟩
    · obtain ⟨h0, -⟩ := hs
      replace h0 : ρ (.tmp 5) = .int .i64 (x.k) := h0
      go_simp
      refine (kelvinError_any _ _).mono ?_; rintro e w' ⟨rfl, hx⟩; exact ⟨_, rfl, hx, rfl⟩
    · obtain ⟨h0, -⟩ := hs
      replace h0 : ρ (.tmp 1) = .pointer (some ⟨w.heap.size, 0, none⟩) := h0
      have hc0 : W.cell? ⟨w.heap.size, 0, none⟩ = some (.int .i64 (x.k)) := hF.cell (by assumption)
      have hc1 : W.cell? ⟨w.heap.size, 1, none⟩ = some (.slice A n ca) := hF.cell (by assumption)
      have hc2 : W.cell? ⟨w.heap.size, 2, none⟩ = some (va) := hF.cell (by assumption)
      go_simp
      exact ⟨Ext.refl _, rfl⟩
    · obtain ⟨h0, -⟩ := hs
      replace h0 : ρ (.tmp 7) = .agg #[.int .i64 (x.k), .slice A n ca, va] := h0
      go_simp
      exact HNU.out W hF
    · obtain ⟨h0, -⟩ := hs
      replace h0 : (NumsV x) (ρ (.tmp 8)) W := h0
      obtain ⟨g, m, c, hv, h2, hc, -, hi⟩ := h0
      have h3 : (1 : Int) ≤ (m : Int) := by omega
      have h4 : (m : Int) ≤ (c : Int) := by omega
      have h5 : ¬ c = 1 := by omega
      have h6 : 1 ≤ m := by omega
      go_simp
      exact ⟨Ext.refl _, ints_tail hi⟩
    · obtain ⟨h0, -⟩ := hs
      replace h0 : (Ints x.nums) (ρ (.tmp 9)) W := h0
      go_simp
      refine (rangeError_any _ _ _ _ _ h0).mono ?_; rintro e w' ⟨rfl, hx⟩; exact ⟨_, rfl, hx, rfl⟩
    · obtain ⟨h0, -⟩ := hs
      replace h0 : ρ (.tmp 1) = .pointer (some ⟨w.heap.size, 0, none⟩) := h0
      go_simp
      exact ⟨Ext.refl _, rfl⟩
    · obtain ⟨h0, -⟩ := hs
      replace h0 : ρ (.tmp 11) = .pointer (some ⟨w.heap.size, 1, none⟩) := h0
      have hc0 : W.cell? ⟨w.heap.size, 1, none⟩ = some (.slice A n ca) := hF.cell (by assumption)
      go_simp
      exact ⟨Ext.refl _, rfl⟩
    · obtain ⟨h0, -⟩ := hs
      replace h0 : ρ (.tmp 3) = .func (.func 145) #[] #[] := h0
      go_simp
      exact ⟨Ext.refl _, rfl⟩
    · obtain ⟨h0, h1, -⟩ := hs
      replace h0 : ρ (.tmp 12) = .slice A n ca := h0
      replace h1 : ρ (.tmp 13) = .func (.func 145) #[] #[] := h1
      go_simp
      refine (HCF.out W hF).mono ?_; rintro e w' ⟨rfl, hx⟩; exact ⟨_, rfl, hx, rfl⟩
    · obtain ⟨h0, -⟩ := hs
      replace h0 : ρ (.tmp 14) = .bool (x.rs.any bwd) := h0
      go_simp
      refine (errorIf_any _ _ _).mono ?_; rintro e w' ⟨rfl, rfl⟩; exact ⟨_, rfl, Ext.refl _, rfl⟩
    · obtain ⟨h0, h1, h2, -⟩ := hs
      replace h0 : ρ (.tmp 6) = .int .i64 (kelE (x.k)) := h0
      replace h1 : ρ (.tmp 10) = .int .i64 (rangeE 0 1000000 x.nums) := h1
      replace h2 : ρ (.tmp 15) = .int .i64 (errIf (x.rs.any bwd) 3) := h2
      go_simp
      exact ⟨Ext.alloc _ _, ints_new _ [kelE (x.k), rangeE 0 1000000 x.nums, errIf (x.rs.any bwd) 3] _ (by simp)⟩
    · obtain ⟨h0, -⟩ := hs
      replace h0 : (Ints [kelE (x.k), rangeE 0 1000000 x.nums, errIf (x.rs.any bwd) 3]) (ρ (.tmp 16)) W := h0
      go_simp
      refine (firstOf_any _ _ _ h0).mono ?_; rintro e w' ⟨rfl, rfl⟩; exact ⟨_, rfl, Ext.refl _, rfl⟩
    · obtain ⟨h0, -⟩ := hs
      replace h0 : ρ (.tmp 17) = .int .i64 (firstE [kelE (x.k), rangeE 0 1000000 x.nums, errIf (x.rs.any bwd) 3]) := h0
      go_simp
      exact ⟨Ext.refl _, rfl⟩
  · intro fv W hF hs
    obtain ⟨-, -, -, -, -, -, -, -, -, -, -, -, -, -, h2, -⟩ := hs
    replace h2 : fv 2 = .int .i64 (firstE [kelE (x.k), rangeE 0 1000000 x.nums, errIf (x.rs.any bwd) 3]) := h2
    simp only [fin, List.filterMap]
    go_simp
    go_wp2
    go_ret
    exact ⟨ret_int HO.out.symm, E0.out.trans hF⟩

end Go.Proofs.YtkmekbafjnlfkaaGreat
