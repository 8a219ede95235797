/- The reference's powers, watts and depth. -/
import Derived.Test.YtpaoeghdfeekoaaMF
namespace Go.Proofs.Ytpaoeghdfeekoaa
open Go.RowKit Go.Shelf Go.Mem Go.RegInv
attribute [local go_sem] RelUpon_value RelUpon_skip RelUpon_enter BigFrame.eval_const BigFrame.eval_global BigFrame.eval_func

/-- Numbers in a block of this call's own. -/
def OwnI (W : World) (g n c : Nat) (xs : List Int) : Prop := n ≤ c ∧ RowsAt 1 intEnc W (some ⟨g, 0, none⟩) xs
theorem OwnI.ext {W W' : World} {g n c : Nat} {xs : List Int} (h : OwnI W g n c xs) (e : Ext W W') : OwnI W' g n c xs := ⟨h.1, h.2.ext e⟩
theorem ownI_of {W : World} {base n : Nat} {v : Value} {xs : List Int} (hl : xs.length = n) (h1 : 1 ≤ n) (hn : n ≤ 1152921504606846976) (h : W.ownsRow base 3 1 v n (xs.map (Value.int .i64))) : ∃ g c, v = .slice (some ⟨g, 0, none⟩) n c ∧ OwnI W g n c xs := by
  have hi := ints_of_own hl hn h
  rcases h.2 with ⟨rfl, h2⟩ | ⟨g, cap, cu, rfl, _, hh, hc, _, hs, ht⟩
  · omega
  · refine ⟨g, cap, rfl, hc, ?_⟩
    obtain ⟨A, c', e, hr⟩ := ints_rows hi
    simp only [Value.slice.injEq] at e
    rw [← e.1] at hr
    exact hr
theorem rows_take {W : World} {A : Option Addr} {xs : List Int} (h : RowsAt 1 intEnc W A xs) (k : Nat) : RowsAt 1 intEnc W A (xs.take k) :=
  ⟨by have := h.1; rw [List.length_take]; omega, fun i x hx => h.2 i x (by
    rw [List.getElem?_take] at hx
    split at hx
    · exact hx
    · cases hx)⟩
theorem ints_one {W : World} {v : Value} {x : Int} (h : IntsAt W v [x]) : ∃ b o c, v = .slice (some ⟨b, o, none⟩) 1 c ∧ ∀ j u, [Value.int .i64 x][j]? = some u → W.cell? (Addr.add ⟨b, o, none⟩ j) = some u := by
  rcases h with ⟨_, _, _, h⟩ | ⟨b, o, c, rfl, _, _, hc⟩
  · cases h
  · refine ⟨b, o, c, rfl, fun j u hj => ?_⟩
    match j, hj with
    | 0, hj => have := hc 0 (by simp); simpa [Addr.add] using this.trans (by simpa using hj)
    | j + 1, hj => simp at hj
/-- The sum of the first ones. -/
theorem refSumTake_any (g c : Nat) (ps : List Int) (k : Nat) (hk : k ≤ ps.length) (w : World) (hA : RowsAt 1 intEnc w (some ⟨g, 0, none⟩) ps) (hb : ∀ k, -1000000000000000000 ≤ (ps.take k).sum ∧ (ps.take k).sum ≤ 1000000000000000000) :
    Calls Try.prog 47 #[.slice (some ⟨g, 0, none⟩) k c] w fun e w' => e = .returned (.int .i64 (ps.take k).sum) ∧ w = w' :=
  refSum_any _ k c (ps.take k) (by rw [List.length_take]; omega) w (rows_take hA k) (fun j => by rw [List.take_take]; exact hb _)

set_option maxRecDepth 100000 in
set_option maxHeartbeats 4000000 in
theorem refPowers_any (t : Int) (A : Option Addr) (n cap : Nat) (ls : List Sh) (hn : ls.length = n) (f : Int) (B : Option Addr) (cap' : Nat) (hot : List Bool) (hm : hot.length = n) (w : World)
    (hS : RowsAt 3 Sh.enc w A ls) (hH : RowsAt 1 boolEnc w B hot) (hok : ∀ s ∈ ls, shOK s) (hf : 1 ≤ f ∧ f ≤ 8) (h1 : 1 ≤ n) (hn4 : n ≤ 4) :
    Calls Try.prog 44 #[.agg #[.int .i64 t, .slice A n cap], .agg #[.int .i64 f, .slice B n cap']] w fun e w' => ∃ g c, e = .returned (.slice (some ⟨g, 0, none⟩) n c) ∧ OwnI w' g n c (powers f hot ls) ∧ Ext w w' := by
  have e0 : Ext w ((w.alloc (.cells #[.int .i64 t, .slice A n cap] 24)).alloc (.cells #[.int .i64 f, .slice B n cap'] 27)) := (Ext.alloc _ _).trans (Ext.alloc _ _)
  have FA := Lib.hid (show ∀ W : World, Ext ((w.alloc (.cells #[.int .i64 t, .slice A n cap] 24)).alloc (.cells #[.int .i64 f, .slice B n cap'] 27)) W →
      W.cell? ⟨w.heap.size, 0, none⟩ = some (.int .i64 t) ∧ W.cell? ⟨w.heap.size, 1, none⟩ = some (.slice A n cap) ∧ W.cell? ⟨w.heap.size + 1, 0, none⟩ = some (.int .i64 f) ∧ W.cell? ⟨w.heap.size + 1, 1, none⟩ = some (.slice B n cap') from
    fun W hx => ⟨hx.cell (by go_simp), hx.cell (by go_simp), hx.cell (by go_simp), hx.cell (by go_simp)⟩)
  have HSV := Lib.hid (fun W (e : Ext w W) => solve_any t A n cap ls hn f B cap' hot hm W (hS.ext e) (hH.ext e) hok hf h1 hn4)
  have HS := Lib.hid hS
  have HN := Lib.hid hn
  have HST := Lib.hid (fun k => st_small (hot := hot) hok hf (by rw [hn]; exact hn4) k)
  have HVA := Lib.hid (fun k (hk : k ≤ ls.length) => volts_at f hot ls k hk)
  have HPG := Lib.hid (fun k s (h : ls[k]? = some s) => powers_get (f := f) (hot := hot) h)
  have HPB := Lib.hid (fun k y h => power_bd hok hf (by rw [hn]; exact hn4) k y h (hot := hot))
  have HPL := Lib.hid (show (powers f hot ls).length = n by rw [powers_len, hn])
  have E0 := Lib.hid e0
  obtain ⟨i0, hi, hz0, hz1, hz2⟩ := info_parts info3
  have HI0 := Lib.hid hz0
  clear hn hS hm hH e0 hok hf
  obtain ⟨ps, hps⟩ : ∃ ps, ps = powers f hot ls := ⟨_, rfl⟩
  rw [← hps] at HPL HPG HPB ⊢
  clear hps
  go_enter Try.func44, Try.ntmps44
  go_wp2_with (go_at_call 36; refine (HSV.out _ E0.out).mono ?_; rintro e W1 ⟨g8, g9, rfl, hr8, _, hx1⟩; have X1 := Lib.hid hx1; have HR8 := Lib.hid hr8; clear hx1 hr8)
  go_loopw [8, 7] (fun i v wr => ∃ (k : Nat) (u : Value), k ≤ n ∧ i = .int .i64 k ∧ u = v ∧ wr.ownsRow W1.heap.size 3 1 u k ((ps.take k).map (Value.int .i64)) ∧ Ext W1 wr) (fun i _ _ => n - (intOf i).toNat)
  case atStart => exact ⟨0, _, Nat.zero_le _, rfl, rfl, World.ownsRow_nil _ _ _ _, Ext.refl _⟩
  case round =>
    obtain ⟨k, v, hk, rfl, rfl, hown, he⟩ := hrel
    have HO := Lib.hid hown
    have HE := Lib.hid he
    clear hown he
    obtain ⟨z0, z1, z2, z3⟩ := FA.out _ (X1.out.trans HE.out)
    by_cases hlt : k < n
    · obtain ⟨s, hs⟩ : ∃ s, ls[k]? = some s := ⟨_, List.getElem?_eq_getElem (by rw [HN.out]; exact hlt)⟩
      have hp := HPG.out k s hs
      have HT := Lib.hid (take_snocI hp)
      obtain ⟨pb0, pb1⟩ := HPB.out k _ hp
      have hzv := HVA.out (k + 1) (by rw [HN.out]; omega)
      have hzb := HST.out (k + 1)
      generalize (st f hot ls (k + 1)).last = z at *
      obtain ⟨⟨hb1, hb2⟩, _⟩ := hzb
      obtain ⟨vr, vi⟩ := z
      dsimp only at hb1 hb2
      obtain ⟨b, o, hA1, _, hc⟩ := HS.out.2 k s hs
      subst hA1
      obtain ⟨b8, o8, hA8, _, hc8⟩ := HR8.out.2 (k + 1) _ hzv
      obtain ⟨rfl, rfl⟩ : g8 = b8 ∧ 0 = o8 := by simpa using hA8
      have z5 : wr.cell? ⟨b, o + k * 3, none⟩ = some (.int .i64 s.g) := (E0.out.trans (X1.out.trans HE.out)).cell (hc 0 _ rfl)
      have z6 : wr.cell? ⟨g8, (k + 1) * 2, none⟩ = some (.int .i64 vr) := HE.out.cell (by have := hc8 0 _ rfl; simpa using this)
      have z7 : wr.cell? ⟨g8, (k + 1) * 2 + 1, none⟩ = some (.int .i64 vi) := HE.out.cell (by have := hc8 1 _ rfl; simpa using this)
      have HGN := Lib.hid (fun W => gnorm_any vr vi (by omega) (by omega) W)
      have HWP := Lib.hid (show IntKind.i64.wrap (s.g * normG ⟨vr, vi⟩) = s.g * normG ⟨vr, vi⟩ from IntWalk.i64_in _ (by omega))
      have hwb := HE.out.size
      have hki : (k : Int) < (n : Int) := by omega
      clear hs hp pb0 pb1 hzv hb1 hb2 hc hA8 hc8
      generalize normG ⟨vr, vi⟩ = nz at *
      generalize s.g = sg at *
      go_wp2
      refine wp_region_partR 15 [some 22, some 23, some 24, some 25, some 26, some 27, some 28, some 29, some 30, some 31, some 32, some 33, some 34, some 35, some 36] [[7], [2], [23], [8], [24, 25], [26], [27], [5], [8], [30], [29, 31], [32], [33], [28, 34], [35]]
        [Is (v), Is (.pointer (some ⟨w.heap.size, 1, none⟩)), Is (.slice (some ⟨b, o, none⟩) n cap), Is (.int .i64 ((k : Int))), Is (.pointer (some ⟨b, o + k * 3, none⟩)), Is (.pointer (some ⟨b, o + k * 3, none⟩)), Is (.int .i64 (sg)), Is (.slice (some ⟨g8, 0, none⟩) (n + 1) (n + 1)), Is (.int .i64 ((k : Int))), Is (.int .i64 ((k : Int) + 1)), Is (.pointer (some ⟨g8, (k + 1) * 2, none⟩)), Is (.agg #[.int .i64 (vr), .int .i64 (vi)]), Is (.int .i64 (nz)), Is (.int .i64 (sg * nz)), Ints [sg * nz]]
        (by kernel_rfl) (by kernel_rfl) (by kernel_rfl) (by kernel_rfl) (by kernel_rfl) (by kernel_rfl) (by kernel_rfl) Ext (fun W => Ext wr W)
        (fun W _ => Ext.refl W) (fun W W' h k => h.trans k) ?_ (Ext.drew _) ?_ ?_
      · repeat (refine ⟨fun _ _ _ _ k h => (by first | exact h | exact IntsAt.ext h k), ?_⟩)
        exact trivial
      · refine ⟨?_, ?_, ?_, ?_, ?_, ?_, ?_, ?_, ?_, ?_, ?_, ?_, ?_, ?_, ?_, trivial⟩
        all_goals intro ρ W ⟨kc, kg, kf⟩ hF hs
        · obtain ⟨h0, -⟩ := hs
          replace h0 : ρ (.tmp 7) = v := h0
          go_simp
          exact ⟨Ext.refl _, rfl⟩
        · obtain ⟨h0, -⟩ := hs
          replace h0 : ρ (.tmp 2) = .pointer (some ⟨w.heap.size, 0, none⟩) := h0
          go_simp
          exact ⟨Ext.refl _, rfl⟩
        · obtain ⟨h0, -⟩ := hs
          replace h0 : ρ (.tmp 23) = .pointer (some ⟨w.heap.size, 1, none⟩) := h0
          have hc0 : W.cell? ⟨w.heap.size, 1, none⟩ = some (.slice (some ⟨b, o, none⟩) n cap) := hF.cell (by assumption)
          go_simp
          exact ⟨Ext.refl _, rfl⟩
        · obtain ⟨h0, -⟩ := hs
          replace h0 : ρ (.tmp 8) = .int .i64 ((k : Int)) := h0
          go_simp
          exact ⟨Ext.refl _, rfl⟩
        · obtain ⟨h0, h1, -⟩ := hs
          replace h0 : ρ (.tmp 24) = .slice (some ⟨b, o, none⟩) n cap := h0
          replace h1 : ρ (.tmp 25) = .int .i64 ((k : Int)) := h1
          have hki : (k : Int) < (n : Int) := by omega
          go_simp
          exact ⟨Ext.refl _, rfl⟩
        · obtain ⟨h0, -⟩ := hs
          replace h0 : ρ (.tmp 26) = .pointer (some ⟨b, o + k * 3, none⟩) := h0
          go_simp
          exact ⟨Ext.refl _, rfl⟩
        · obtain ⟨h0, -⟩ := hs
          replace h0 : ρ (.tmp 27) = .pointer (some ⟨b, o + k * 3, none⟩) := h0
          have hc0 : W.cell? ⟨b, o + k * 3, none⟩ = some (.int .i64 (sg)) := hF.cell (by assumption)
          go_simp
          exact ⟨Ext.refl _, rfl⟩
        · obtain ⟨h0, -⟩ := hs
          replace h0 : ρ (.tmp 5) = .slice (some ⟨g8, 0, none⟩) (n + 1) (n + 1) := h0
          go_simp
          exact ⟨Ext.refl _, rfl⟩
        · obtain ⟨h0, -⟩ := hs
          replace h0 : ρ (.tmp 8) = .int .i64 ((k : Int)) := h0
          go_simp
          exact ⟨Ext.refl _, rfl⟩
        · obtain ⟨h0, -⟩ := hs
          replace h0 : ρ (.tmp 30) = .int .i64 ((k : Int)) := h0
          have hw : IntKind.i64.wrap ((k : Int) + 1) = (k : Int) + 1 := IntWalk.i64_in _ (by omega)
          go_simp
          exact ⟨Ext.refl _, rfl⟩
        · obtain ⟨h0, h1, -⟩ := hs
          replace h0 : ρ (.tmp 29) = .slice (some ⟨g8, 0, none⟩) (n + 1) (n + 1) := h0
          replace h1 : ρ (.tmp 31) = .int .i64 ((k : Int) + 1) := h1
          have hki : (k : Int) + 1 < (n : Int) + 1 := by omega
          have hkt : ((k : Int) + 1).toNat = k + 1 := by omega
          have hk0 : (0 : Int) ≤ (k : Int) + 1 := by omega
          go_simp
          exact ⟨Ext.refl _, rfl⟩
        · obtain ⟨h0, -⟩ := hs
          replace h0 : ρ (.tmp 32) = .pointer (some ⟨g8, (k + 1) * 2, none⟩) := h0
          have hc0 : W.cell? ⟨g8, (k + 1) * 2, none⟩ = some (.int .i64 (vr)) := hF.cell (by assumption)
          have hc1 : W.cell? ⟨g8, (k + 1) * 2 + 1, none⟩ = some (.int .i64 (vi)) := hF.cell (by assumption)
          go_simp
          exact ⟨Ext.refl _, rfl⟩
        · obtain ⟨h0, -⟩ := hs
          replace h0 : ρ (.tmp 33) = .agg #[.int .i64 (vr), .int .i64 (vi)] := h0
          go_simp
          exact (HGN.out W).mono fun _ _ ⟨h1, h2⟩ => ⟨_, h1, h2, rfl⟩
        · obtain ⟨h0, h1, -⟩ := hs
          replace h0 : ρ (.tmp 28) = .int .i64 (sg) := h0
          replace h1 : ρ (.tmp 34) = .int .i64 (nz) := h1
          have hw : IntKind.i64.wrap (sg * nz) = sg * nz := HWP.out
          go_simp
          exact ⟨Ext.refl _, rfl⟩
        · obtain ⟨h0, -⟩ := hs
          replace h0 : ρ (.tmp 35) = .int .i64 (sg * nz) := h0
          go_simp
          exact ⟨Ext.alloc _ _, ints_new _ [sg * nz] _ (by simp)⟩
      · intro fv W5 hF hs
        obtain ⟨h22, -, -, -, -, -, -, -, -, -, -, -, -, -, h36, -⟩ := hs
        replace h22 : fv 22 = v := h22
        replace h36 : (Ints [sg * nz]) (fv 36) W5 := h36
        simp only [fin, List.filterMap]
        go_simp
        have HX5 := Lib.hid hF
        obtain ⟨bb, ob, cb, hv36, hnw⟩ := ints_one h36
        have HV36 := Lib.hid hv36
        have HNW := Lib.hid hnw
        clear hF h22 h36 hv36 hnw z0 z1 z2 z3 z5 z6 z7
        go_wp2_with (at_builtin; refine wpList_append_own _ rfl _ _ 37 rfl W1.heap.size 3 i0 (.int .i64 0) 1 8 Try.underlying37 hi HI0.out hz1 hz2 rfl (by decide) _ _ _ rfl (own_ext HO.out HX5.out) ⟨bb, ob, none⟩ 1 cb [.int .i64 (sg * nz)] HV36.out rfl HNW.out (by simp [Value.oneCell']) (by unfold maxLen; omega) (by omega) (by have := HX5.out.size; omega) ?_; intro v' w1 hown' hgrow _; have HO1 := Lib.hid hown'; have HE1 := Lib.hid (Ext.grownBy (HE.out.trans HX5.out) hgrow (fun g hg => own_base HO.out hg)); clear hown' hgrow)
        go_roundw
        case rel => exact ⟨k + 1, _, by omega, by go_num, rfl, by rw [HT.out]; exact HO1.out, HE1.out⟩
        case measure => simp [intOf]; omega
    · obtain rfl : n = k := by omega
      obtain ⟨g, c, rfl, hg⟩ := ownI_of (xs := ps) HPL.out h1 (by omega) (by have := HO.out; rw [List.take_of_length_le (by rw [HPL.out]; omega)] at this; exact this)
      have HG := Lib.hid hg
      clear hg
      go_wp2
      go_ret
      exact ⟨g, c, rfl, HG.out, E0.out.trans (X1.out.trans HE.out)⟩

end Go.Proofs.Ytpaoeghdfeekoaa
