/- For FieldFrequencies: watts in their ranges, the watts of a pair. -/
import Derived.Test.YtpaoeghdfeekoaaK24
import Derived.Test.YtpaoeghdfeekoaaK23
import Derived.Test.YtpaoeghdfeekoaaK13
namespace Go.Proofs.Ytpaoeghdfeekoaa
open Go.RowKit Go.Shelf Go.Mem Go.RegInv
attribute [local go_sem] RelUpon_value RelUpon_skip RelUpon_enter BigFrame.eval_const BigFrame.eval_global BigFrame.eval_func

def fitB (r : G) (x : Int) : Bool := inB r.re r.im x
def fitsL : List G → List Int → Bool
  | r :: rs, x :: xs => fitB r x && fitsL rs xs
  | _, _ => true
theorem fitsL_drop (rs : List G) (ws : List Int) (k : Nat) (r : G) (x : Int) (h1 : rs[k]? = some r) (h2 : ws[k]? = some x) : fitsL (rs.drop k) (ws.drop k) = (fitB r x && fitsL (rs.drop (k + 1)) (ws.drop (k + 1))) := by
  obtain ⟨k1, e1⟩ := List.getElem?_eq_some_iff.1 h1
  obtain ⟨k2, e2⟩ := List.getElem?_eq_some_iff.1 h2
  rw [List.drop_eq_getElem_cons k1, List.drop_eq_getElem_cons k2, e1, e2, fitsL]
theorem fitsL_end (rs : List G) (ws : List Int) (k : Nat) (h : rs.length ≤ k) : fitsL (rs.drop k) (ws.drop k) = true := by
  rw [List.drop_of_length_le h]; simp [fitsL]

set_option maxRecDepth 100000 in
set_option maxHeartbeats 2000000 in
theorem allWithin_any (C : Option Addr) (M cz : Nat) (rs : List G) (hM : rs.length = M) (E : Option Addr) (ce : Nat) (ws : List Int) (hW : ws.length = M) (w : World) (hC : RowsAt 2 G.enc w C rs) (hE : RowsAt 1 intEnc w E ws) :
    Calls Try.prog 119 #[.slice C M cz, .slice E M ce] w fun e w' => e = .returned (.bool (fitsL rs ws)) ∧ Ext w w' := by
  have HM := Lib.hid hM
  have HW := Lib.hid hW
  have HC := Lib.hid hC
  have HE := Lib.hid hE
  have hmb : M ≤ 1152921504606846976 := by have := hC.1; omega
  clear hM hW hC hE
  go_enter Try.func119, Try.ntmps119
  go_wp2
  go_loopw [9] (fun i wr => ∃ k : Nat, k ≤ M ∧ i = .int .i64 k ∧ fitsL rs ws = fitsL (rs.drop k) (ws.drop k) ∧ Ext w wr) (fun i _ => M - (intOf i).toNat)
  case atStart => exact ⟨0, Nat.zero_le _, rfl, rfl, Ext.refl _⟩
  case round =>
    obtain ⟨k, hk, rfl, hr, hx⟩ := hrel
    have HF := Lib.hid hr
    have HX := Lib.hid hx
    clear hr hx
    by_cases hlt : k < M
    · obtain ⟨r, hg⟩ : ∃ r, rs[k]? = some r := ⟨_, List.getElem?_eq_getElem (by rw [HM.out]; exact hlt)⟩
      obtain ⟨x, hy⟩ : ∃ x, ws[k]? = some x := ⟨_, List.getElem?_eq_getElem (by rw [HW.out]; exact hlt)⟩
      have HD := Lib.hid (fitsL_drop rs ws k r x hg hy)
      have HB := Lib.hid (show fitB r x = (decide (r.re ≤ x) && decide (x ≤ r.im)) from rfl)
      obtain ⟨b, o, hA, _, hc⟩ := HC.out.2 k r hg
      obtain ⟨b2, o2, hA2, _, hd⟩ := HE.out.2 k x hy
      subst hA hA2
      have c0 : wr.cell? ⟨b, o + k * 2, none⟩ = some (.int .i64 r.re) := HX.out.cell (hc 0 _ rfl)
      have c1 : wr.cell? ⟨b, o + k * 2 + 1, none⟩ = some (.int .i64 r.im) := HX.out.cell (hc 1 _ rfl)
      have d0 : wr.cell? ⟨b2, o2 + k, none⟩ = some (.int .i64 x) := HX.out.cell (by have := hd 0 _ rfl; simpa using this)
      have hki : (k : Int) < (M : Int) := by omega
      clear hg hy hc hd
      generalize fitB r x = fb at *
      generalize r.re = ga at *
      generalize r.im = gb at *
      obtain ⟨W2, hW2⟩ : ∃ W2, W2 = wr.alloc (.cells #[.int .i64 ga, .int .i64 gb] 132) := ⟨_, rfl⟩
      have kb : Blk W2 wr.heap.size 132 #[.int .i64 ga, .int .i64 gb] := by rw [hW2]; exact Blk.newAt _ _ _ rfl
      have x2 : Ext wr W2 := by rw [hW2]; exact Ext.alloc _ _
      have y0 : W2.cell? ⟨wr.heap.size, 0, none⟩ = some (.int .i64 ga) := kb.cell 0
      have y1 : W2.cell? ⟨wr.heap.size, 1, none⟩ = some (.int .i64 gb) := kb.cell 1
      have d2 : W2.cell? ⟨b2, o2 + k, none⟩ = some (.int .i64 x) := x2.cell d0
      have HW2 := Lib.hid hW2
      have X2 := Lib.hid x2
      clear hW2 kb x2
      by_cases h1 : x < ga
      · have h1b : decide (x < ga) = true := by simpa using h1
        have HZ := Lib.hid (show fb = false by rw [HB.out]; simp; omega)
        clear h1
        go_wp2
        rw [← HW2.out]
        clear c0 c1 d0
        go_quiet (fail)
        go_wp2
        go_ret
        exact ⟨ret_bool (by rw [HF.out, HD.out, HZ.out]; rfl), HX.out.trans (X2.out.trans (Ext.drewN _ _))⟩
      · have h1b : decide (x < ga) = false := by simpa using h1
        by_cases h2 : gb < x
        · have h2b : decide (gb < x) = true := by simpa using h2
          have HZ := Lib.hid (show fb = false by rw [HB.out]; simp; omega)
          clear h1 h2
          go_wp2
          rw [← HW2.out]
          clear c0 c1 d0
          go_quiet (fail)
          go_wp2
          go_ret
          exact ⟨ret_bool (by rw [HF.out, HD.out, HZ.out]; rfl), HX.out.trans (X2.out.trans (Ext.drewN _ _))⟩
        · have h2b : decide (gb < x) = false := by simpa using h2
          have HZ := Lib.hid (show fb = true by rw [HB.out]; simp; omega)
          clear h1 h2
          go_wp2
          rw [← HW2.out]
          clear c0 c1 d0
          go_quiet (fail)
          go_wp2
          go_roundw
          case rel => exact ⟨k + 1, by omega, by go_num, by rw [HF.out, HD.out, HZ.out]; rfl, HX.out.trans (X2.out.trans (Ext.drewN _ _))⟩
          case measure => simp [intOf]; omega
    · have HZ := Lib.hid (fitsL_end rs ws k (by rw [HM.out]; omega))
      go_wp2
      go_ret
      exact ⟨ret_bool (by rw [HF.out, HZ.out]), HX.out⟩

set_option maxRecDepth 100000 in
set_option maxHeartbeats 2000000 in
theorem fits_any (C : Option Addr) (M cz : Nat) (rs : List G) (hM : rs.length = M) (E : Option Addr) (ce : Nat) (ws : List Int) (hW : ws.length = M) (w : World) (hC : RowsAt 2 G.enc w C rs) (hE : RowsAt 1 intEnc w E ws) :
    Calls Try.prog 120 #[.slice E M ce, .slice C M cz] w fun e w' => e = .returned (.bool (fitsL rs ws)) ∧ Ext w w' := by
  have HM := Lib.hid hM
  have HW := Lib.hid hW
  have HC := Lib.hid hC
  have HE := Lib.hid hE
  have hmb : M ≤ 1152921504606846976 := by have := hC.1; omega
  clear hM hW hC hE
  go_enter Try.func120, Try.ntmps120
  go_wp2
  go_loopw [5] (fun i wr => ∃ k : Nat, k ≤ M ∧ i = .int .i64 k ∧ fitsL rs ws = fitsL (rs.drop k) (ws.drop k) ∧ Ext w wr) (fun i _ => M - (intOf i).toNat)
  case atStart => exact ⟨0, Nat.zero_le _, rfl, rfl, Ext.refl _⟩
  case round =>
    obtain ⟨k, hk, rfl, hr, hx⟩ := hrel
    have HF := Lib.hid hr
    have HX := Lib.hid hx
    clear hr hx
    by_cases hlt : k < M
    · obtain ⟨r, hg⟩ : ∃ r, rs[k]? = some r := ⟨_, List.getElem?_eq_getElem (by rw [HM.out]; exact hlt)⟩
      obtain ⟨x, hy⟩ : ∃ x, ws[k]? = some x := ⟨_, List.getElem?_eq_getElem (by rw [HW.out]; exact hlt)⟩
      have HD := Lib.hid (fitsL_drop rs ws k r x hg hy)
      have HB := Lib.hid (fun W => within_any x r.re r.im W)
      have HBE := Lib.hid (show fitB r x = inB r.re r.im x from rfl)
      obtain ⟨b, o, hA, _, hc⟩ := HC.out.2 k r hg
      obtain ⟨b2, o2, hA2, _, hd⟩ := HE.out.2 k x hy
      subst hA hA2
      have c0 : wr.cell? ⟨b, o + k * 2, none⟩ = some (.int .i64 r.re) := HX.out.cell (hc 0 _ rfl)
      have c1 : wr.cell? ⟨b, o + k * 2 + 1, none⟩ = some (.int .i64 r.im) := HX.out.cell (hc 1 _ rfl)
      have d0 : wr.cell? ⟨b2, o2 + k, none⟩ = some (.int .i64 x) := HX.out.cell (by have := hd 0 _ rfl; simpa using this)
      have hki : (k : Int) < (M : Int) := by omega
      clear hg hy hc hd
      rw [HBE.out] at HD
      clear HBE
      generalize inB r.re r.im x = bb at *
      generalize r.re = ga at *
      generalize r.im = gb at *
      go_wp2
      refine wp_region_each [some 12, some 13, some 14, some 15, some 16, some 17, some 18, some 19, some 20, some 21, some 22, some 23, some 24, some 25, some 26, some 27] [[0], [5], [12, 13], [14], [1], [5], [16, 17], [18], [19], [1], [5], [21, 22], [23], [24], [15, 20, 25], [26]]
        [Is (.slice (some ⟨b2, o2, none⟩) M ce), Is (.int .i64 ((k : Int))), Is (.pointer (some ⟨b2, o2 + k, none⟩)), Is (.int .i64 (x)), Is (.slice (some ⟨b, o, none⟩) M cz), Is (.int .i64 ((k : Int))), Is (.pointer (some ⟨b, o + k * 2, none⟩)), Is (.pointer (some ⟨b, o + k * 2, none⟩)), Is (.int .i64 (ga)), Is (.slice (some ⟨b, o, none⟩) M cz), Is (.int .i64 ((k : Int))), Is (.pointer (some ⟨b, o + k * 2, none⟩)), Is (.pointer (some ⟨b, o + k * 2 + 1, none⟩)), Is (.int .i64 (gb)), Is (.bool (bb)), Is (.bool (!bb))]
        (by kernel_rfl) (by kernel_rfl) (by kernel_rfl) (by kernel_rfl) (by kernel_rfl) Ext (fun W => Ext wr W)
        (fun W _ => Ext.refl W) (fun W W' h k => h.trans k) ?_ (Ext.drew _) ?_ ?_
      · repeat (refine ⟨fun _ _ _ _ k h => (by first | exact h | exact Ext.refl _), ?_⟩)
        exact trivial
      · refine ⟨?_, ?_, ?_, ?_, ?_, ?_, ?_, ?_, ?_, ?_, ?_, ?_, ?_, ?_, ?_, ?_, trivial⟩
        all_goals intro ρ W ⟨kc, kg, kf⟩ hF hs
        · obtain ⟨h0, -⟩ := hs
          replace h0 : ρ (.tmp 0) = .slice (some ⟨b2, o2, none⟩) M ce := h0
          go_simp
          exact ⟨Ext.refl _, rfl⟩
        · obtain ⟨h0, -⟩ := hs
          replace h0 : ρ (.tmp 5) = .int .i64 ((k : Int)) := h0
          go_simp
          exact ⟨Ext.refl _, rfl⟩
        · obtain ⟨h0, h1, -⟩ := hs
          replace h0 : ρ (.tmp 12) = .slice (some ⟨b2, o2, none⟩) M ce := h0
          replace h1 : ρ (.tmp 13) = .int .i64 ((k : Int)) := h1
          go_simp
          exact ⟨Ext.refl _, rfl⟩
        · obtain ⟨h0, -⟩ := hs
          replace h0 : ρ (.tmp 14) = .pointer (some ⟨b2, o2 + k, none⟩) := h0
          have hc0 : W.cell? ⟨b2, o2 + k, none⟩ = some (.int .i64 (x)) := hF.cell (by assumption)
          go_simp
          exact ⟨Ext.refl _, rfl⟩
        · obtain ⟨h0, -⟩ := hs
          replace h0 : ρ (.tmp 1) = .slice (some ⟨b, o, none⟩) M cz := h0
          go_simp
          exact ⟨Ext.refl _, rfl⟩
        · obtain ⟨h0, -⟩ := hs
          replace h0 : ρ (.tmp 5) = .int .i64 ((k : Int)) := h0
          go_simp
          exact ⟨Ext.refl _, rfl⟩
        · obtain ⟨h0, h1, -⟩ := hs
          replace h0 : ρ (.tmp 16) = .slice (some ⟨b, o, none⟩) M cz := h0
          replace h1 : ρ (.tmp 17) = .int .i64 ((k : Int)) := h1
          go_simp
          exact ⟨Ext.refl _, rfl⟩
        · obtain ⟨h0, -⟩ := hs
          replace h0 : ρ (.tmp 18) = .pointer (some ⟨b, o + k * 2, none⟩) := h0
          go_simp
          exact ⟨Ext.refl _, rfl⟩
        · obtain ⟨h0, -⟩ := hs
          replace h0 : ρ (.tmp 19) = .pointer (some ⟨b, o + k * 2, none⟩) := h0
          have hc0 : W.cell? ⟨b, o + k * 2, none⟩ = some (.int .i64 (ga)) := hF.cell (by assumption)
          go_simp
          exact ⟨Ext.refl _, rfl⟩
        · obtain ⟨h0, -⟩ := hs
          replace h0 : ρ (.tmp 1) = .slice (some ⟨b, o, none⟩) M cz := h0
          go_simp
          exact ⟨Ext.refl _, rfl⟩
        · obtain ⟨h0, -⟩ := hs
          replace h0 : ρ (.tmp 5) = .int .i64 ((k : Int)) := h0
          go_simp
          exact ⟨Ext.refl _, rfl⟩
        · obtain ⟨h0, h1, -⟩ := hs
          replace h0 : ρ (.tmp 21) = .slice (some ⟨b, o, none⟩) M cz := h0
          replace h1 : ρ (.tmp 22) = .int .i64 ((k : Int)) := h1
          go_simp
          exact ⟨Ext.refl _, rfl⟩
        · obtain ⟨h0, -⟩ := hs
          replace h0 : ρ (.tmp 23) = .pointer (some ⟨b, o + k * 2, none⟩) := h0
          go_simp
          exact ⟨Ext.refl _, rfl⟩
        · obtain ⟨h0, -⟩ := hs
          replace h0 : ρ (.tmp 24) = .pointer (some ⟨b, o + k * 2 + 1, none⟩) := h0
          have hc0 : W.cell? ⟨b, o + k * 2 + 1, none⟩ = some (.int .i64 (gb)) := hF.cell (by assumption)
          go_simp
          exact ⟨Ext.refl _, rfl⟩
        · obtain ⟨h0, h1, h2, -⟩ := hs
          replace h0 : ρ (.tmp 15) = .int .i64 (x) := h0
          replace h1 : ρ (.tmp 20) = .int .i64 (ga) := h1
          replace h2 : ρ (.tmp 25) = .int .i64 (gb) := h2
          go_simp
          exact (HB.out W).mono fun _ _ ⟨h1, h2⟩ => ⟨_, h1, h2 ▸ Ext.refl _, rfl⟩
        · obtain ⟨h0, -⟩ := hs
          replace h0 : ρ (.tmp 26) = .bool (bb) := h0
          go_simp
          exact ⟨Ext.refl _, rfl⟩
      · intro fv W2 hF hs
        obtain ⟨-, -, -, -, -, -, -, -, -, -, -, -, -, -, -, h27, -⟩ := hs
        replace h27 : fv 27 = .bool (!bb) := h27
        simp only [fin, List.filterMap]
        go_simp
        have X2 := Lib.hid hF
        clear hF c0 c1 d0 h27
        cases bb
        · go_wp2
          go_ret
          exact ⟨ret_bool (by rw [HF.out, HD.out]; rfl), HX.out.trans X2.out⟩
        · go_wp2
          go_roundw
          case rel => exact ⟨k + 1, by omega, by go_num, by rw [HF.out, HD.out]; rfl, HX.out.trans X2.out⟩
          case measure => simp [intOf]; omega
    · have HZ := Lib.hid (fitsL_end rs ws k (by rw [HM.out]; omega))
      go_wp2
      go_ret
      exact ⟨ret_bool (by rw [HF.out, HZ.out]), HX.out⟩

theorem store_func {P : Program} {w : World} (a : Addr) (m : Mode) (fn : Fn) (first captured : Array Value) : (store a (.func fn first captured) m).run P w = stored P w a (.func fn first captured) m := run_store P w a _ m rfl
attribute [local go_sem] store_func
theorem not_g_nil (zs : List G) : ∀ x ∈ zs, Value.nilFunc ∉ G.enc x := by intro x _; simp [G.enc]
/-- The powers by both drives of a pair, ready to be walked. -/
def BothV (A : Option Addr) (n ca : Nat) (ls : List Sh) (f : Int) (hota : List Bool) (g : Int) (hotb : List Bool) : Value → World → Prop := fun u W => ∃ v1 v2, u = .agg #[v1, v2] ∧
  Nd (fun g c => .func (.func 130) #[.agg #[.slice A n ca, .slice (some ⟨g, 2, none⟩) n c]] #[]) 0 2 (nodes f hota ls) v1 W ∧ Nd (fun g c => .func (.func 130) #[.agg #[.slice A n ca, .slice (some ⟨g, 2, none⟩) n c]] #[]) 0 2 (nodes g hotb ls) v2 W
theorem BothV.ext {A : Option Addr} {n ca : Nat} {ls : List Sh} {f : Int} {hota : List Bool} {g : Int} {hotb : List Bool} {u : Value} {W W' : World} (h : BothV A n ca ls f hota g hotb u W) (e : Ext W W') : BothV A n ca ls f hota g hotb u W' := by
  obtain ⟨v1, v2, h1, h2, h3⟩ := h; exact ⟨v1, v2, h1, h2.ext e, h3.ext e⟩

set_option maxRecDepth 100000 in
set_option maxHeartbeats 2000000 in
theorem bothPowers_any (t : Int) (A : Option Addr) (n ca : Nat) (ls : List Sh) (hn : ls.length = n) (f : Int) (B : Option Addr) (cb : Nat) (hota : List Bool) (hm : hota.length = n) (g : Int) (D : Option Addr) (cd : Nat) (hotb : List Bool) (hq : hotb.length = n) (w : World)
    (hS : RowsAt 3 Sh.enc w A ls) (hB : RowsAt 1 boolEnc w B hota) (hD : RowsAt 1 boolEnc w D hotb) (hok : ∀ s ∈ ls, shOK s) (hf : 1 ≤ f ∧ f ≤ 8) (hg : 1 ≤ g ∧ g ≤ 8) (h1 : 1 ≤ n) (h4 : n ≤ 4) :
    Calls Try.prog 117 #[.agg #[.int .i64 t, .slice A n ca], .agg #[.int .i64 f, .slice B n cb, .int .i64 g, .slice D n cd]] w (VPost w (BothV A n ca ls f hota g hotb)) := by
  obtain ⟨W0, hW0⟩ : ∃ W0, W0 = ((w.alloc (.cells #[.int .i64 t, .slice A n ca] 24)).alloc (.cells #[.int .i64 f, .slice B n cb, .int .i64 g, .slice D n cd] 96)).alloc (.cells #[.nilFunc, .nilFunc] 165) := ⟨_, rfl⟩
  have k0 : Blk W0 w.heap.size 24 #[.int .i64 t, .slice A n ca] := by rw [hW0]; exact ((Blk.new _ _ _).alloc _).alloc _
  have k1 : Blk W0 (w.heap.size + 1) 96 #[.int .i64 f, .slice B n cb, .int .i64 g, .slice D n cd] := by rw [hW0]; exact (Blk.newAt _ _ _ (by simp)).alloc _
  have k2 : Blk W0 (w.heap.size + 1 + 1) 165 #[.nilFunc, .nilFunc] := by rw [hW0]; exact Blk.newAt _ _ _ (by simp)
  have e0 : Ext w W0 := by rw [hW0]; exact (Ext.alloc _ _).trans ((Ext.alloc _ _).trans (Ext.alloc _ _))
  have z0 : W0.cell? ⟨w.heap.size, 0, none⟩ = some (.int .i64 t) := k0.cell 0
  have z1 : W0.cell? ⟨w.heap.size, 1, none⟩ = some (.slice A n ca) := k0.cell 1
  have z2 : W0.cell? ⟨w.heap.size + 1, 0, none⟩ = some (.int .i64 f) := k1.cell 0
  have z3 : W0.cell? ⟨w.heap.size + 1, 1, none⟩ = some (.slice B n cb) := k1.cell 1
  have z4 : W0.cell? ⟨w.heap.size + 1, 2, none⟩ = some (.int .i64 g) := k1.cell 2
  have z5 : W0.cell? ⟨w.heap.size + 1, 3, none⟩ = some (.slice D n cd) := k1.cell 3
  have HC1 := Lib.hid (fun W (e : Ext w W) => powersOf_any t A n ca ls hn f B cb hota hm W (hS.ext e) (hB.ext e) hok hf h1 h4)
  have HC2 := Lib.hid (fun W (e : Ext w W) => powersOf_any t A n ca ls hn g D cd hotb hq W (hS.ext e) (hD.ext e) hok hg h1 h4)
  have E0 := Lib.hid e0
  have K2 := Lib.hid k2
  clear k0 k1 k2 e0 hn hS hm hq hB hD hok hf hg h1 h4
  go_enter Try.func117, Try.ntmps117
  go_wp2
  rw [← hW0]
  clear hW0
  refine wp_region_part 9 [some 5, some 6, some 7, some 8, some 9, some 10, some 11, some 12, some 13] [[2], [3], [6], [5, 7], [2], [3], [10], [9, 11], [8, 12]]
    [Is (.agg #[.int .i64 (t), .slice A n ca]), Is (.pointer (some ⟨w.heap.size + 1, 0, none⟩)), Is (.agg #[.int .i64 (f), .slice B n cb]), Nd (fun g c => .func (.func 130) #[.agg #[.slice A n ca, .slice (some ⟨g, 2, none⟩) n c]] #[]) 0 2 (nodes f hota ls), Is (.agg #[.int .i64 (t), .slice A n ca]), Is (.pointer (some ⟨w.heap.size + 1, 2, none⟩)), Is (.agg #[.int .i64 (g), .slice D n cd]), Nd (fun g c => .func (.func 130) #[.agg #[.slice A n ca, .slice (some ⟨g, 2, none⟩) n c]] #[]) 0 2 (nodes g hotb ls), BothV A n ca ls f hota g hotb]
    (by kernel_rfl) (by kernel_rfl) (by kernel_rfl) (by kernel_rfl) (by kernel_rfl) (by kernel_rfl) (by kernel_rfl) Ext (fun W => Ext W0 W)
    (fun W _ => Ext.refl W) (fun W W' h k => h.trans k) ?_ (Ext.drew _) ?_ ?_
  · repeat (refine ⟨fun _ _ _ _ k h => (by first | exact h | exact (by first | exact Nd.ext h k | exact BothV.ext h k)), ?_⟩)
    exact trivial
  · refine ⟨?_, ?_, ?_, ?_, ?_, ?_, ?_, ?_, ?_, trivial⟩
    all_goals intro ρ W ⟨kc, kg, kf⟩ hF hs
    · obtain ⟨h0, -⟩ := hs
      replace h0 : ρ (.tmp 2) = .pointer (some ⟨w.heap.size, 0, none⟩) := h0
      have hc0 : W.cell? ⟨w.heap.size, 0, none⟩ = some (.int .i64 (t)) := hF.cell (by assumption)
      have hc1 : W.cell? ⟨w.heap.size, 1, none⟩ = some (.slice A n ca) := hF.cell (by assumption)
      go_simp
      exact ⟨Ext.refl _, rfl⟩
    · obtain ⟨h0, -⟩ := hs
      replace h0 : ρ (.tmp 3) = .pointer (some ⟨w.heap.size + 1, 0, none⟩) := h0
      go_simp
      exact ⟨Ext.refl _, rfl⟩
    · obtain ⟨h0, -⟩ := hs
      replace h0 : ρ (.tmp 6) = .pointer (some ⟨w.heap.size + 1, 0, none⟩) := h0
      have hc0 : W.cell? ⟨w.heap.size + 1, 0, none⟩ = some (.int .i64 (f)) := hF.cell (by assumption)
      have hc1 : W.cell? ⟨w.heap.size + 1, 1, none⟩ = some (.slice B n cb) := hF.cell (by assumption)
      go_simp
      exact ⟨Ext.refl _, rfl⟩
    · obtain ⟨h0, h1, -⟩ := hs
      replace h0 : ρ (.tmp 5) = .agg #[.int .i64 (t), .slice A n ca] := h0
      replace h1 : ρ (.tmp 7) = .agg #[.int .i64 (f), .slice B n cb] := h1
      go_simp
      exact (HC1.out W (E0.out.trans hF)).mono fun _ _ ⟨v, h1, h2, h3⟩ => ⟨v, h1, h3, h2⟩
    · obtain ⟨h0, -⟩ := hs
      replace h0 : ρ (.tmp 2) = .pointer (some ⟨w.heap.size, 0, none⟩) := h0
      have hc0 : W.cell? ⟨w.heap.size, 0, none⟩ = some (.int .i64 (t)) := hF.cell (by assumption)
      have hc1 : W.cell? ⟨w.heap.size, 1, none⟩ = some (.slice A n ca) := hF.cell (by assumption)
      go_simp
      exact ⟨Ext.refl _, rfl⟩
    · obtain ⟨h0, -⟩ := hs
      replace h0 : ρ (.tmp 3) = .pointer (some ⟨w.heap.size + 1, 0, none⟩) := h0
      go_simp
      exact ⟨Ext.refl _, rfl⟩
    · obtain ⟨h0, -⟩ := hs
      replace h0 : ρ (.tmp 10) = .pointer (some ⟨w.heap.size + 1, 2, none⟩) := h0
      have hc0 : W.cell? ⟨w.heap.size + 1, 2, none⟩ = some (.int .i64 (g)) := hF.cell (by assumption)
      have hc1 : W.cell? ⟨w.heap.size + 1, 3, none⟩ = some (.slice D n cd) := hF.cell (by assumption)
      go_simp
      exact ⟨Ext.refl _, rfl⟩
    · obtain ⟨h0, h1, -⟩ := hs
      replace h0 : ρ (.tmp 9) = .agg #[.int .i64 (t), .slice A n ca] := h0
      replace h1 : ρ (.tmp 11) = .agg #[.int .i64 (g), .slice D n cd] := h1
      go_simp
      exact (HC2.out W (E0.out.trans hF)).mono fun _ _ ⟨v, h1, h2, h3⟩ => ⟨v, h1, h3, h2⟩
    · obtain ⟨h0, h1, -⟩ := hs
      replace h0 : (Nd (fun g c => .func (.func 130) #[.agg #[.slice A n ca, .slice (some ⟨g, 2, none⟩) n c]] #[]) 0 2 (nodes f hota ls)) (ρ (.tmp 8)) W := h0
      replace h1 : (Nd (fun g c => .func (.func 130) #[.agg #[.slice A n ca, .slice (some ⟨g, 2, none⟩) n c]] #[]) 0 2 (nodes g hotb ls)) (ρ (.tmp 12)) W := h1
      obtain ⟨g1, c1, u1, e1, q1, r1, k1⟩ := h0
      obtain ⟨g2, c2, u2, e2, q2, r2, k2⟩ := h1
      go_simp
      exact ⟨Ext.refl _, _, _, rfl, ⟨g1, c1, u1, rfl, q1, r1, k1⟩, ⟨g2, c2, u2, rfl, q2, r2, k2⟩⟩
  · intro fv W1 hF hs
    obtain ⟨-, -, -, -, -, -, -, -, h13, -⟩ := hs
    replace h13 : (BothV A n ca ls f hota g hotb) (fv 13) W1 := h13
    simp only [fin, List.filterMap]
    go_simp
    obtain ⟨v1, v2, hv, ⟨g1, c1, u1, rfl, p1, r1, kk1⟩, ⟨g2, c2, u2, rfl, p2, r2, kk2⟩⟩ := h13
    rw [hv]
    have k2 := K2.out.ext hF
    have f0 := k2.free 0
    have f1 := k2.free 1
    have c0' : W1.cell? ⟨w.heap.size + 1 + 1, 0, none⟩ = some .nilFunc := k2.cell 0
    have c1' : W1.cell? ⟨w.heap.size + 1 + 1, 1, none⟩ = some .nilFunc := k2.cell 1
    have S0 := Lib.hid (k2.setSame 0 (.func (.func 130) #[.agg #[.slice A n ca, .slice (some ⟨g1, 2, none⟩) n c1]] #[]))
    have HX := Lib.hid (E0.out.trans hF)
    have R1 := Lib.hid r1
    have R2 := Lib.hid r2
    have KK1 := Lib.hid kk1
    have KK2 := Lib.hid kk2
    have K2' := Lib.hid k2
    clear hv k2 hF z0 z1 z2 z3 z4 z5 r1 r2 kk1 kk2
    go_wp2
    have hne1 : g1 ≠ w.heap.size + 1 + 1 := fun e' => by
      have h1 := K2'.out; have kk := KK1.out; rw [← e'] at h1; unfold Blk at kk h1; rw [kk] at h1; simp at h1
    have hne2 : g2 ≠ w.heap.size + 1 + 1 := fun e' => by
      have h1 := K2'.out; have kk := KK2.out; rw [← e'] at h1; unfold Blk at kk h1; rw [kk] at h1; simp at h1
    exact bodyPost_ret (v := .agg #[.func (.func 130) #[.agg #[.slice A n ca, .slice (some ⟨g1, 2, none⟩) n c1]] #[], .func (.func 130) #[.agg #[.slice A n ca, .slice (some ⟨g2, 2, none⟩) n c2]] #[]]) (by simp [results, Try.f117, go_sem, c0', c1']) rfl
      ⟨_, rfl, Ext.set (Ext.set HX.out (by dsimp only; omega) _) (by dsimp only; omega) _, _, _, rfl,
        ⟨g1, c1, u1, rfl, p1, rows_set (rows_set R1.out c0' (not_g_nil _) _) (S0.out.cell 1) (not_g_nil _) _, (KK1.out.setOther hne1 _).setOther hne1 _⟩,
        ⟨g2, c2, u2, rfl, p2, rows_set (rows_set R2.out c0' (not_g_nil _) _) (S0.out.cell 1) (not_g_nil _) _, (KK2.out.setOther hne2 _).setOther hne2 _⟩⟩

/-- Numbers in a block of this call's own. -/
theorem own_blk {W : World} {base n : Nat} {v : Value} {xs : List Int} (hl : xs.length = n) (h1 : 1 ≤ n) (h : W.ownsRow base 3 1 v n (xs.map (Value.int .i64))) :
    ∃ (g c : Nat) (cu : Array Value), v = .slice (some ⟨g, 0, none⟩) n c ∧ base ≤ g ∧ Blk W g 3 cu ∧ n ≤ c ∧ n ≤ cu.size ∧ ∀ (i : Nat) (x : Int), xs[i]? = some x → cu[i]? = some (Value.int .i64 x) := by
  rcases h.2 with ⟨rfl, h2⟩ | ⟨g, cap, cu, rfl, hb, hh, hc, _, hs, ht⟩
  · omega
  · refine ⟨g, cap, cu, rfl, hb, hh, hc, by omega, fun i x hx => ?_⟩
    have hi := (List.getElem?_eq_some_iff.1 hx).1
    have h2 : (xs.map (Value.int .i64))[i]? = some (.int .i64 x) := by simp [hx]
    rw [← ht, List.getElem?_take, if_pos (by omega), Array.getElem?_toList] at h2
    exact h2
def twoL (a b : List Int) : List Int := List.zipWith (· + ·) a b
theorem watts_range {total : Int} {l : List Int} {n : Nat} (ht : 0 ≤ total ∧ total ≤ 100000) (hs : 0 < l.sum ∧ l.sum ≤ 40000000000000) (hb : ∀ k, 0 ≤ (l.take k).sum ∧ (l.take k).sum ≤ l.sum) (i : Nat) (x : Int) (h : (wattsL total l n)[i]? = some x) : -100000 ≤ x ∧ x ≤ 100000 := by
  have hi : i < n := by have := (List.getElem?_eq_some_iff.1 h).1; rwa [wattsL_len] at this
  rw [watts_at hi] at h
  have h1 := upTo_bd ht hs hb i
  have h2 := upTo_bd ht hs hb (i + 1)
  simp only [Option.some.injEq] at h
  omega

set_option maxRecDepth 100000 in
set_option maxHeartbeats 2000000 in
theorem twoWatts_any (f1 f2 : Array Value) (ps qs : List Int) (n : Nat) (hp : ps.length = n) (hq : qs.length = n) (h1 : 1 ≤ n) (h4 : n ≤ 4) (a b : Int) (ha : 0 ≤ a ∧ a ≤ 100000) (hb : 0 ≤ b ∧ b ≤ 100000) (okp : PowersOK ps) (okq : PowersOK qs) (w : World)
    (i1 : ∀ W, Ext w W → IterAt Try.prog 4 130 f1 #[] encInt ps Kp37 W) (i2 : ∀ W, Ext w W → IterAt Try.prog 4 130 f2 #[] encInt qs Kp37 W) :
    Calls Try.prog 116 #[.agg #[.func (.func 130) f1 #[], .func (.func 130) f2 #[]], .agg #[.int .i64 a, .int .i64 b]] w fun e w' => ∃ g c, e = .returned (.slice (some ⟨g, 0, none⟩) n c) ∧ OwnI w' g n c (twoL (wattsL a ps n) (wattsL b qs n)) ∧ Ext w w' := by
  have HW1 := Lib.hid (fun W (e : Ext w W) => callsIn_wide.1 (wattsOf_in 130 f1 #[] eg130 ps n hp (by omega) a W (fun W' e' => i1 W' (e.trans e')) ha okp.sum okp.part))
  have HW2 := Lib.hid (fun W (e : Ext w W) => callsIn_wide.1 (wattsOf_in 130 f2 #[] eg130 qs n hq (by omega) b W (fun W' e' => i2 W' (e.trans e')) hb okq.sum okq.part))
  have HR1 := Lib.hid (fun i x => watts_range (n := n) ha okp.sum okp.part i x)
  have HR2 := Lib.hid (fun i x => watts_range (n := n) hb okq.sum okq.part i x)
  have HL1 := Lib.hid (wattsL_len a ps n)
  have HL2 := Lib.hid (wattsL_len b qs n)
  have e0 : Ext w ((w.alloc (.cells #[.func (.func 130) f1 #[], .func (.func 130) f2 #[]] 165)).alloc (.cells #[.int .i64 a, .int .i64 b] 82)) := (Ext.alloc _ _).trans (Ext.alloc _ _)
  have E0 := Lib.hid e0
  have FA := Lib.hid (show ∀ W : World, Ext ((w.alloc (.cells #[.func (.func 130) f1 #[], .func (.func 130) f2 #[]] 165)).alloc (.cells #[.int .i64 a, .int .i64 b] 82)) W →
      W.cell? ⟨w.heap.size, 1, none⟩ = some (.func (.func 130) f2 #[]) ∧ W.cell? ⟨w.heap.size + 1, 1, none⟩ = some (.int .i64 b) from
    fun W hx => ⟨hx.cell (by go_simp), hx.cell (by go_simp)⟩)
  clear e0 hp hq ha hb okp okq i1 i2
  generalize wattsL a ps n = us at *
  generalize wattsL b qs n = vs at *
  have H1n := Lib.hid h1
  go_enter Try.func116, Try.ntmps116
  go_wp2_with (first
    | (go_at_call 102; (with_reducible refine (HW1.out _ E0.out).mono ?_); rintro e W1 ⟨v5, rfl, hv5, hx1⟩; obtain ⟨g, c, cu, rfl, hbase, hbk, hnc, hns, hcu⟩ := own_blk HL1.out H1n.out hv5; have HB1 := Lib.hid hbk; have hlt1 := hbk.lt; have HCU := Lib.hid hcu; have X1 := Lib.hid hx1; obtain ⟨z0, z1⟩ := FA.out _ hx1; have hge := hx1.size; clear hv5 hbk hcu hx1)
    | (go_at_call 102; (with_reducible refine (HW2.out _ (E0.out.trans X1.out)).mono ?_); rintro e W2 ⟨v17, rfl, hv17, hx2⟩; obtain ⟨g2, c2, cu2, rfl, hbase2, hbk2, hnc2, hns2, hcu2⟩ := own_blk HL2.out H1n.out hv17; have HB2 := Lib.hid hbk2; have HCU2 := Lib.hid hcu2; have X2 := Lib.hid hx2; clear hv17 hbk2 hcu2 hx2 z0 z1))
  have hg12 : g ≠ g2 := by omega
  simp only [World.size_alloc] at hbase
  have HB1' := Lib.hid (HB1.out.ext X2.out)
  have hwg : w.heap.size ≤ g := by omega
  clear HB1 HW1 HW2 FA
  go_loopw [19] (fun i wr => ∃ k : Nat, k ≤ n ∧ i = .int .i64 k ∧ (∃ cu', Blk wr g 3 cu' ∧ n ≤ cu'.size ∧ ∀ (i : Nat) (x y : Int), us[i]? = some x → vs[i]? = some y → cu'[i]? = some (Value.int .i64 (if i < k then x + y else x))) ∧ Blk wr g2 3 cu2 ∧ Ext w wr) (fun i _ => n - (intOf i).toNat)
  case atStart => exact ⟨0, Nat.zero_le _, rfl, ⟨cu, HB1'.out, hns, fun i x y hx _ => by rw [HCU.out i x hx]; simp⟩, HB2.out, E0.out.trans (X1.out.trans X2.out)⟩
  case round =>
    obtain ⟨k, hk, rfl, ⟨cu', hk1, hsz, hcu'⟩, hk2, hx⟩ := hrel
    have K1 := Lib.hid hk1
    have K2 := Lib.hid hk2
    have HC' := Lib.hid hcu'
    have HX := Lib.hid hx
    clear hk1 hk2 hcu' hx
    by_cases hlt : k < n
    · obtain ⟨x, hx⟩ : ∃ x, us[k]? = some x := ⟨_, List.getElem?_eq_getElem (by rw [HL1.out]; exact hlt)⟩
      obtain ⟨y, hy⟩ : ∃ y, vs[k]? = some y := ⟨_, List.getElem?_eq_getElem (by rw [HL2.out]; exact hlt)⟩
      obtain ⟨x0, x1⟩ := HR1.out k x hx
      obtain ⟨y0, y1⟩ := HR2.out k y hy
      have c0 : wr.cell? ⟨g, k, none⟩ = some (.int .i64 x) := by rw [K1.out.cell, HC'.out k x y hx hy]; simp
      have c1 : wr.cell? ⟨g2, k, none⟩ = some (.int .i64 y) := by rw [K2.out.cell, HCU2.out k y hy]
      have f0 := K1.out.free k
      have hki : (k : Int) < (n : Int) := by omega
      have HXK := Lib.hid hx
      have HYK := Lib.hid hy
      clear hx hy
      go_wp2
      go_roundw
      case rel => exact ⟨k + 1, by omega, by go_num, ⟨_, K1.out.setSame k (.int .i64 (x + y)), by simpa using hsz, fun i x' y' hx' hy' => by
        rw [set_at]
        by_cases hik : k = i
        · subst hik
          obtain rfl : x = x' := by have := HXK.out.symm.trans hx'; simpa using this
          obtain rfl : y = y' := by have := HYK.out.symm.trans hy'; simpa using this
          rw [if_pos rfl, if_pos (by omega), if_pos (by omega)]
        · rw [if_neg hik, HC'.out i x' y' hx' hy']
          by_cases hik2 : i < k
          · rw [if_pos hik2, if_pos (by omega)]
          · rw [if_neg hik2, if_neg (by omega)]⟩, K2.out.setOther (fun e => hg12 e.symm) _, Ext.set HX.out hwg _⟩
      case measure => simp [intOf]; omega
    · obtain rfl : n = k := by omega
      go_wp2
      go_ret
      refine ⟨g, c, rfl, ⟨hnc, by rw [twoL, List.length_zipWith, HL1.out, HL2.out]; omega, fun i z hz => ⟨g, 0, rfl, K1.out.lt, fun j u hu => ?_⟩⟩, HX.out⟩
      rw [twoL, List.getElem?_zipWith] at hz
      obtain ⟨x, hx⟩ : ∃ x, us[i]? = some x := by cases h : us[i]? with | none => rw [h] at hz; simp at hz | some x => exact ⟨x, rfl⟩
      obtain ⟨y, hy⟩ : ∃ y, vs[i]? = some y := by cases h : vs[i]? with | none => rw [h] at hz; simp at hz; | some y => exact ⟨y, rfl⟩
      rw [hx, hy] at hz
      have hin : i < n := by have := (List.getElem?_eq_some_iff.1 hx).1; rwa [HL1.out] at this
      have hc := HC'.out i x y hx hy
      rw [if_pos hin] at hc
      have hz' : x + y = z := by simpa using hz
      rw [hz'] at hc
      match j, hu with
      | 0, hu =>
        obtain rfl : Value.int .i64 z = u := by simpa [intEnc] using hu
        rw [K1.out.cell, show 0 + i * 1 + 0 = i by omega]; exact hc
      | j + 1, hu => simp [intEnc] at hu

end Go.Proofs.Ytpaoeghdfeekoaa
