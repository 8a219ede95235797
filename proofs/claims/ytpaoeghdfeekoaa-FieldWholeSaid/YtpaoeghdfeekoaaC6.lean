/- The voltage of a node, from the ground outwards. By regen.py. -/
import Derived.Test.YtpaoeghdfeekoaaC5
namespace Go.Proofs.Ytpaoeghdfeekoaa
open Go.RowKit Go.Mem Go.RegInv
attribute [local go_sem] RelUpon_value RelUpon_skip RelUpon_enter BigFrame.eval_const BigFrame.eval_global BigFrame.eval_func

def gstep (f : Int) (hot : List Bool) (z : G × G) (k : Nat) (s : Sh) : G × G :=
  (befG z.1 (react f (hot.getD k false) s) z.2, plusG z.2 s.g (befG z.1 (react f (hot.getD k false) s) z.2))
def gfold (f : Int) (hot : List Bool) (ls : List Sh) : Nat → G × G
  | 0 => (⟨0, 0⟩, ⟨1, 0⟩)
  | k + 1 => match ls[k]? with
    | some s => gstep f hot (gfold f hot ls k) k s
    | none => gfold f hot ls k
def grounded (f : Int) (hot : List Bool) (ls : List Sh) (node : Nat) : G := (gfold f hot ls (node + 1)).1
def gbv : Nat → Int × Int
  | 0 => (0, 1)
  | n + 1 => ((gbv n).1 + 32 * (gbv n).2, (gbv n).2 + 4 * ((gbv n).1 + 32 * (gbv n).2))
theorem gfold_bd {f : Int} {hot : List Bool} {ls : List Sh} (hok : ∀ s ∈ ls, shOK s) (hf : 1 ≤ f ∧ f ≤ 8) : ∀ k, k ≤ ls.length → Bd (gbv k).1 (gfold f hot ls k).1 ∧ Bd (gbv k).2 (gfold f hot ls k).2
  | 0, _ => by simp [gfold, gbv, Bd]
  | k + 1, h => by
    obtain ⟨h1, h2⟩ := gfold_bd hok hf k (by omega)
    have hs : ls[k]? = some ls[k] := List.getElem?_eq_getElem (by omega)
    have hx := hok _ (List.mem_of_getElem? hs)
    have hr := react_bd (h := hot.getD k false) hf hx
    have hb := bef_bd (n := react f (hot.getD k false) ls[k]) h1 h2 (by omega) hr.2
    simp only [gfold, hs, gstep, gbv]
    exact ⟨hb, plus_bd h2 hb (by have := hx.1; omega) hx.1.2⟩
theorem gbv_le : ∀ k, k ≤ 4 → (gbv k).1 ≤ 300000000 ∧ (gbv k).2 ≤ 300000000
  | 0, _ => by decide
  | 1, _ => by decide
  | 2, _ => by decide
  | 3, _ => by decide
  | 4, _ => by decide
  | k + 5, h => by omega
theorem gfold_small {f : Int} {hot : List Bool} {ls : List Sh} (hok : ∀ s ∈ ls, shOK s) (hf : 1 ≤ f ∧ f ≤ 8) (h4 : ls.length ≤ 4) (k : Nat) (hk : k ≤ ls.length) : Bd 300000000 (gfold f hot ls k).1 ∧ Bd 300000000 (gfold f hot ls k).2 := by
  have h1 := gfold_bd (hot := hot) hok hf k hk
  have h2 := gbv_le k (by omega)
  simp only [Bd] at h1 ⊢
  omega

structure StG (w : World) (t : Int) (A : Value) (f : Int) (B : Value) (v c : G) (W : World) : Prop where
  b0 : Blk W w.heap.size 24 #[.int .i64 t, A]
  b1 : Blk W (w.heap.size + 1) 27 #[.int .i64 f, B]
  b2 : Blk W (w.heap.size + 1 + 1) 65 #[.int .i64 0, .int .i64 0]
  b3 : Blk W (w.heap.size + 1 + 1 + 1) 65 #[.int .i64 v.re, .int .i64 v.im]
  b4 : Blk W (w.heap.size + 1 + 1 + 1 + 1) 65 #[.int .i64 c.re, .int .i64 c.im]
  below : Ext w W
theorem StG.ext {w : World} {t : Int} {A : Value} {f : Int} {B : Value} {v c : G} {W W' : World} (h : StG w t A f B v c W) (e : Ext W W') : StG w t A f B v c W' :=
  ⟨h.b0.ext e, h.b1.ext e, h.b2.ext e, h.b3.ext e, h.b4.ext e, h.below.trans e⟩
theorem StG.setV {w : World} {t : Int} {A : Value} {f : Int} {B : Value} {v c : G} {W : World} (h : StG w t A f B v c W) (re im : Int) :
    StG w t A f B ⟨re, im⟩ c ((W.setCell ⟨w.heap.size + 1 + 1 + 1, 0, none⟩ (.int .i64 re)).setCell ⟨w.heap.size + 1 + 1 + 1, 1, none⟩ (.int .i64 im)) := by
  refine ⟨(h.b0.setOther (by dsimp only; omega) _).setOther (by dsimp only; omega) _, (h.b1.setOther (by dsimp only; omega) _).setOther (by dsimp only; omega) _, (h.b2.setOther (by dsimp only; omega) _).setOther (by dsimp only; omega) _, ?_, (h.b4.setOther (by dsimp only; omega) _).setOther (by dsimp only; omega) _, Ext.set (Ext.set h.below (by dsimp only; omega) _) (by dsimp only; omega) _⟩
  have := (h.b3.setSame 0 (.int .i64 re)).setSame 1 (.int .i64 im)
  simpa using this
theorem StG.setC {w : World} {t : Int} {A : Value} {f : Int} {B : Value} {v c : G} {W : World} (h : StG w t A f B v c W) (re im : Int) :
    StG w t A f B v ⟨re, im⟩ ((W.setCell ⟨w.heap.size + 1 + 1 + 1 + 1, 0, none⟩ (.int .i64 re)).setCell ⟨w.heap.size + 1 + 1 + 1 + 1, 1, none⟩ (.int .i64 im)) := by
  refine ⟨(h.b0.setOther (by dsimp only; omega) _).setOther (by dsimp only; omega) _, (h.b1.setOther (by dsimp only; omega) _).setOther (by dsimp only; omega) _, (h.b2.setOther (by dsimp only; omega) _).setOther (by dsimp only; omega) _, (h.b3.setOther (by dsimp only; omega) _).setOther (by dsimp only; omega) _, ?_, Ext.set (Ext.set h.below (by dsimp only; omega) _) (by dsimp only; omega) _⟩
  have := (h.b4.setSame 0 (.int .i64 re)).setSame 1 (.int .i64 im)
  simpa using this

set_option maxRecDepth 100000 in
set_option maxHeartbeats 2000000 in
theorem groundedAt_any (t : Int) (b o n cap : Nat) (ls : List Sh) (hn : ls.length = n) (f : Int) (B : Option Addr) (cap' : Nat) (hot : List Bool) (hm : hot.length = n) (node : Nat) (w : World)
    (hS : RowsAt 3 Sh.enc w (some ⟨b, o, none⟩) ls) (hH : RowsAt 1 boolEnc w B hot) (hok : ∀ s ∈ ls, shOK s) (hf : 1 ≤ f ∧ f ≤ 8) (h4 : n ≤ 4) (hnode : node < n) :
    Calls Try.prog 111 #[.agg #[.int .i64 t, .slice (some ⟨b, o, none⟩) n cap], .agg #[.int .i64 f, .slice B n cap'], .int .i64 node] w fun e w' =>
      e = .returned (.agg #[.int .i64 (grounded f hot ls node).re, .int .i64 (grounded f hot ls node).im]) ∧ Ext w w' := by
  have HS := Lib.hid hS
  have HH := Lib.hid hH
  have HM := Lib.hid hn
  have HM' := Lib.hid hm
  have HOK := Lib.hid hok
  have HF := Lib.hid hf
  have HBD := Lib.hid (fun k hk => gfold_small (hot := hot) hok hf (by omega) k hk)
  have HG := Lib.hid (show grounded f hot ls node = (gfold f hot ls (node + 1)).1 from rfl)
  clear hS hH hn hm hok hf
  generalize grounded f hot ls node = gr at HG ⊢
  go_enter Try.func111, Try.ntmps111
  go_wp2
  go_loopw [14] (fun i wr => ∃ k : Nat, k ≤ node + 1 ∧ i = .int .i64 k ∧ StG w t (.slice (some ⟨b, o, none⟩) n cap) f (.slice B n cap') (gfold f hot ls k).1 (gfold f hot ls k).2 wr) (fun i _ => node + 1 - (intOf i).toNat)
  case atStart =>
    refine ⟨0, Nat.zero_le _, rfl, ?_, ?_, ?_, ?_, ?_, ?_⟩
    · exact ((((Blk.newAt _ _ _ rfl).alloc _).alloc _).alloc _).alloc _
    · exact (((Blk.newAt _ _ _ (by simp)).alloc _).alloc _).alloc _
    · exact ((Blk.newAt _ _ _ (by simp)).alloc _).alloc _
    · exact (Blk.newAt _ _ _ (by simp)).alloc _
    · exact Blk.newAt _ _ _ (by simp)
    · exact (Ext.alloc _ _).trans ((Ext.alloc _ _).trans ((Ext.alloc _ _).trans ((Ext.alloc _ _).trans (Ext.alloc _ _))))
  case round =>
    obtain ⟨k, hk, rfl, hI⟩ := hrel
    by_cases hlt : k < node + 1
    · obtain ⟨s, hx⟩ : ∃ s, ls[k]? = some s := ⟨_, List.getElem?_eq_getElem (by rw [HM.out]; omega)⟩
      obtain ⟨hk0, hhk⟩ : ∃ hk0, hot[k]? = some hk0 := ⟨_, List.getElem?_eq_getElem (by rw [HM'.out]; omega)⟩
      have hgd : hot.getD k false = hk0 := by simp [hhk]
      have hsk := HOK.out s (List.mem_of_getElem? hx)
      have hrb := react_bd (h := hk0) HF.out hsk
      obtain ⟨hf1, hf2⟩ := HF.out
      have HRC := Lib.hid (fun W' (h : Ext w W') => reactanceOf_any t (some ⟨b, o, none⟩) n cap ls HM.out f B n cap' hot k s hk0 W' (HS.out.ext h) (HH.out.ext h) hx hhk HM'.out
        (mid_of (N := 8) (B := 4) (by omega) hf2 (by have := hsk.2.1; omega) (by have := hsk.2.1; omega) (by omega)) (mid_of (N := 8) (B := 4) (by omega) hf2 (by have := hsk.2.2.1; omega) (by have := hsk.2.2.1; omega) (by omega)))
      obtain ⟨hb1, hb2⟩ := HBD.out k (by rw [HM.out]; omega)
      have hb3 := (HBD.out (k + 1) (by rw [HM.out]; omega)).1
      have hgs : gfold f hot ls (k + 1) = (befG (gfold f hot ls k).1 (react f hk0 s) (gfold f hot ls k).2, plusG (gfold f hot ls k).2 s.g (befG (gfold f hot ls k).1 (react f hk0 s) (gfold f hot ls k).2)) := by
        rw [gfold, hx]; simp only [gstep, hgd]
      rw [hgs] at hb3
      have HGS := Lib.hid hgs
      clear hgs hgd hhk
      generalize react f hk0 s = x at HRC HGS hrb hb3
      generalize gfold f hot ls k = z at HGS hb1 hb2 hb3 hI
      obtain ⟨⟨va, vb⟩, ⟨ca, cb⟩⟩ := z
      simp only [Bd, befG] at hb1 hb2 hb3
      have hg := hsk.1
      have HB := Lib.hid (before_any va vb x ca cb (by unfold Mid; omega) (by unfold Mid; omega) (mid_of (N := 32) (B := 300000000) (by omega) hrb.2 (by omega) (by omega) (by omega)) (mid_of (N := 32) (B := 300000000) (by omega) hrb.2 (by omega) (by omega) (by omega)) (by unfold Mid; omega))
      have HP := Lib.hid (plus_any ca cb s.g (va + x * -cb) (vb + x * ca) (by unfold Mid; omega) (by unfold Mid; omega) (mid_of (N := 4) (B := 300000000) (by omega) hg.2 (by omega) (by omega) (by omega)) (mid_of (N := 4) (B := 300000000) (by omega) hg.2 (by omega) (by omega) (by omega)))
      have hkn : (k : Int) < (n : Int) := by omega
      have hkn1 : (k : Int) < (node : Int) + 1 := by omega
      have hnb := HS.out.1
      rw [HM.out] at hnb
      obtain ⟨b', o', e, _, hc⟩ := HS.out.2 k s hx
      obtain ⟨rfl, rfl⟩ : b = b' ∧ o = o' := by simpa using e
      have hcg : w.cell? ⟨b, o + k * 3, none⟩ = some (.int .i64 s.g) := hc 0 _ rfl
      clear hb1 hb2 hb3 hsk hg hf1 hf2 hrb hc e hx
      go_wp2
      refine wp_region_part 7 [some 17, some 18, some 19, some 20, some 21, some 22, some 23] [[7], [3], [4], [9], [18, 19, 20], [8], [17, 21, 22]]
        [Is (.agg #[.int .i64 (va), .int .i64 (vb)]), Is (.agg #[.int .i64 (t), .slice (some ⟨b, o, none⟩) n cap]), Is (.agg #[.int .i64 (f), .slice B n cap']), Is (.int .i64 ((k : Int))), Is (.int .i64 (x)), Is (.agg #[.int .i64 (ca), .int .i64 (cb)]), Is (.agg #[.int .i64 (va + x * -cb), .int .i64 (vb + x * ca)])]
        (by kernel_rfl) (by kernel_rfl) (by kernel_rfl) (by kernel_rfl) (by kernel_rfl) (by kernel_rfl) (by kernel_rfl) Ext (fun W => Ext wr W)
        (fun W _ => Ext.refl W) (fun W W' h k => h.trans k) ?_ (Ext.drew _) ?_ ?_
      · repeat (refine ⟨fun _ _ _ _ k h => (by first | exact h | exact IntsAt.ext h k), ?_⟩)
        exact trivial
      · refine ⟨?_, ?_, ?_, ?_, ?_, ?_, ?_, trivial⟩
        all_goals intro ρ W ⟨kc, kg, kf⟩ hF hs
        · obtain ⟨h0, -⟩ := hs
          replace h0 : ρ (.tmp 7) = .pointer (some ⟨w.heap.size + 1 + 1 + 1, 0, none⟩) := h0
          have hc0 : W.cell? ⟨w.heap.size + 1 + 1 + 1, 0, none⟩ = some (.int .i64 (va)) := (hI.ext hF).b3.cell 0
          have hc1 : W.cell? ⟨w.heap.size + 1 + 1 + 1, 1, none⟩ = some (.int .i64 (vb)) := (hI.ext hF).b3.cell 1
          go_simp
          exact ⟨Ext.refl _, rfl⟩
        · obtain ⟨h0, -⟩ := hs
          replace h0 : ρ (.tmp 3) = .pointer (some ⟨w.heap.size, 0, none⟩) := h0
          have hc0 : W.cell? ⟨w.heap.size, 0, none⟩ = some (.int .i64 (t)) := (hI.ext hF).b0.cell 0
          have hc1 : W.cell? ⟨w.heap.size, 1, none⟩ = some (.slice (some ⟨b, o, none⟩) n cap) := (hI.ext hF).b0.cell 1
          go_simp
          exact ⟨Ext.refl _, rfl⟩
        · obtain ⟨h0, -⟩ := hs
          replace h0 : ρ (.tmp 4) = .pointer (some ⟨w.heap.size + 1, 0, none⟩) := h0
          have hc0 : W.cell? ⟨w.heap.size + 1, 0, none⟩ = some (.int .i64 (f)) := (hI.ext hF).b1.cell 0
          have hc1 : W.cell? ⟨w.heap.size + 1, 1, none⟩ = some (.slice B n cap') := (hI.ext hF).b1.cell 1
          go_simp
          exact ⟨Ext.refl _, rfl⟩
        · obtain ⟨h0, -⟩ := hs
          replace h0 : ρ (.tmp 9) = .int .i64 ((k : Int)) := h0
          go_simp
          exact ⟨Ext.refl _, rfl⟩
        · obtain ⟨h0, h1, h2, -⟩ := hs
          replace h0 : ρ (.tmp 18) = .agg #[.int .i64 (t), .slice (some ⟨b, o, none⟩) n cap] := h0
          replace h1 : ρ (.tmp 19) = .agg #[.int .i64 (f), .slice B n cap'] := h1
          replace h2 : ρ (.tmp 20) = .int .i64 ((k : Int)) := h2
          go_simp
          refine (HRC.out W (hI.ext hF).below).mono ?_; rintro e w' ⟨rfl, hx⟩; exact ⟨_, rfl, hx, rfl⟩
        · obtain ⟨h0, -⟩ := hs
          replace h0 : ρ (.tmp 8) = .pointer (some ⟨w.heap.size + 1 + 1 + 1 + 1, 0, none⟩) := h0
          have hc0 : W.cell? ⟨w.heap.size + 1 + 1 + 1 + 1, 0, none⟩ = some (.int .i64 (ca)) := (hI.ext hF).b4.cell 0
          have hc1 : W.cell? ⟨w.heap.size + 1 + 1 + 1 + 1, 1, none⟩ = some (.int .i64 (cb)) := (hI.ext hF).b4.cell 1
          go_simp
          exact ⟨Ext.refl _, rfl⟩
        · obtain ⟨h0, h1, h2, -⟩ := hs
          replace h0 : ρ (.tmp 17) = .agg #[.int .i64 (va), .int .i64 (vb)] := h0
          replace h1 : ρ (.tmp 21) = .int .i64 (x) := h1
          replace h2 : ρ (.tmp 22) = .agg #[.int .i64 (ca), .int .i64 (cb)] := h2
          go_simp
          refine (HB.out W).mono ?_; rintro e w' ⟨rfl, hx⟩; exact ⟨_, rfl, hx, rfl⟩
      · intro fv W hF hs
        obtain ⟨-, -, -, -, -, -, h23, -⟩ := hs
        replace h23 : fv 23 = .agg #[.int .i64 (va + x * -cb), .int .i64 (vb + x * ca)] := h23
        simp only [fin, List.filterMap]
        go_simp
        have hI1 := hI.ext hF
        have d0 := hI1.b3.cell 0
        have d1 := hI1.b3.cell 1
        have g0 := hI1.b3.free 0
        have g1 := hI1.b3.free 1
        simp only [List.getElem?_toArray, List.getElem?_cons_zero, List.getElem?_cons_succ] at d0 d1
        have hI2 := hI1.setV (va + x * -cb) (vb + x * ca)
        have HI2 := Lib.hid hI2
        clear hI hI1 hF hI2
        go_wp2
        have hI2 := HI2.out
        generalize ((W.setCell ⟨w.heap.size + 1 + 1 + 1, 0, none⟩ (.int .i64 (va + x * -cb))).setCell ⟨w.heap.size + 1 + 1 + 1, 1, none⟩ (.int .i64 (vb + x * ca))) = W2 at hI2 ⊢
        clear HI2 d0 d1 g0 g1
        refine wp_region_part 9 [some 24, some 25, some 26, some 27, some 28, some 29, some 30, some 31, some 32] [[8], [3], [25], [9], [26, 27], [28], [29], [7], [24, 30, 31]]
          [Is (.agg #[.int .i64 (ca), .int .i64 (cb)]), Is (.pointer (some ⟨w.heap.size, 1, none⟩)), Is (.slice (some ⟨b, o, none⟩) n cap), Is (.int .i64 ((k : Int))), Is (.pointer (some ⟨b, o + k * 3, none⟩)), Is (.pointer (some ⟨b, o + k * 3, none⟩)), Is (.int .i64 (s.g)), Is (.agg #[.int .i64 (va + x * -cb), .int .i64 (vb + x * ca)]), Is (.agg #[.int .i64 (ca + s.g * (va + x * -cb)), .int .i64 (cb + s.g * (vb + x * ca))])]
          (by kernel_rfl) (by kernel_rfl) (by kernel_rfl) (by kernel_rfl) (by kernel_rfl) (by kernel_rfl) (by kernel_rfl) Ext (fun W => Ext W2 W)
          (fun W _ => Ext.refl W) (fun W W' h k => h.trans k) ?_ (Ext.drew _) ?_ ?_
        · repeat (refine ⟨fun _ _ _ _ k h => (by first | exact h | exact IntsAt.ext h k), ?_⟩)
          exact trivial
        · refine ⟨?_, ?_, ?_, ?_, ?_, ?_, ?_, ?_, ?_, trivial⟩
          all_goals intro ρ W ⟨kc, kg, kf⟩ hF hs
          · obtain ⟨h0, -⟩ := hs
            replace h0 : ρ (.tmp 8) = .pointer (some ⟨w.heap.size + 1 + 1 + 1 + 1, 0, none⟩) := h0
            have hc0 : W.cell? ⟨w.heap.size + 1 + 1 + 1 + 1, 0, none⟩ = some (.int .i64 (ca)) := (hI2.ext hF).b4.cell 0
            have hc1 : W.cell? ⟨w.heap.size + 1 + 1 + 1 + 1, 1, none⟩ = some (.int .i64 (cb)) := (hI2.ext hF).b4.cell 1
            go_simp
            exact ⟨Ext.refl _, rfl⟩
          · obtain ⟨h0, -⟩ := hs
            replace h0 : ρ (.tmp 3) = .pointer (some ⟨w.heap.size, 0, none⟩) := h0
            go_simp
            exact ⟨Ext.refl _, rfl⟩
          · obtain ⟨h0, -⟩ := hs
            replace h0 : ρ (.tmp 25) = .pointer (some ⟨w.heap.size, 1, none⟩) := h0
            have hc0 : W.cell? ⟨w.heap.size, 1, none⟩ = some (.slice (some ⟨b, o, none⟩) n cap) := (hI2.ext hF).b0.cell 1
            go_simp
            exact ⟨Ext.refl _, rfl⟩
          · obtain ⟨h0, -⟩ := hs
            replace h0 : ρ (.tmp 9) = .int .i64 ((k : Int)) := h0
            go_simp
            exact ⟨Ext.refl _, rfl⟩
          · obtain ⟨h0, h1, -⟩ := hs
            replace h0 : ρ (.tmp 26) = .slice (some ⟨b, o, none⟩) n cap := h0
            replace h1 : ρ (.tmp 27) = .int .i64 ((k : Int)) := h1
            go_simp
            exact ⟨Ext.refl _, rfl⟩
          · obtain ⟨h0, -⟩ := hs
            replace h0 : ρ (.tmp 28) = .pointer (some ⟨b, o + k * 3, none⟩) := h0
            go_simp
            exact ⟨Ext.refl _, rfl⟩
          · obtain ⟨h0, -⟩ := hs
            replace h0 : ρ (.tmp 29) = .pointer (some ⟨b, o + k * 3, none⟩) := h0
            have hc0 : W.cell? ⟨b, o + k * 3, none⟩ = some (.int .i64 (s.g)) := (hI2.ext hF).below.cell hcg
            go_simp
            exact ⟨Ext.refl _, rfl⟩
          · obtain ⟨h0, -⟩ := hs
            replace h0 : ρ (.tmp 7) = .pointer (some ⟨w.heap.size + 1 + 1 + 1, 0, none⟩) := h0
            have hc0 : W.cell? ⟨w.heap.size + 1 + 1 + 1, 0, none⟩ = some (.int .i64 (va + x * -cb)) := (hI2.ext hF).b3.cell 0
            have hc1 : W.cell? ⟨w.heap.size + 1 + 1 + 1, 1, none⟩ = some (.int .i64 (vb + x * ca)) := (hI2.ext hF).b3.cell 1
            go_simp
            exact ⟨Ext.refl _, rfl⟩
          · obtain ⟨h0, h1, h2, -⟩ := hs
            replace h0 : ρ (.tmp 24) = .agg #[.int .i64 (ca), .int .i64 (cb)] := h0
            replace h1 : ρ (.tmp 30) = .int .i64 (s.g) := h1
            replace h2 : ρ (.tmp 31) = .agg #[.int .i64 (va + x * -cb), .int .i64 (vb + x * ca)] := h2
            go_simp
            refine (HP.out W).mono ?_; rintro e w' ⟨rfl, hx⟩; exact ⟨_, rfl, hx, rfl⟩
        · intro fv W hF hs
          obtain ⟨-, -, -, -, -, -, -, -, h32, -⟩ := hs
          replace h32 : fv 32 = .agg #[.int .i64 (ca + s.g * (va + x * -cb)), .int .i64 (cb + s.g * (vb + x * ca))] := h32
          simp only [fin, List.filterMap]
          go_simp
          have hI3 := hI2.ext hF
          have d0 := hI3.b4.cell 0
          have d1 := hI3.b4.cell 1
          have g0 := hI3.b4.free 0
          have g1 := hI3.b4.free 1
          simp only [List.getElem?_toArray, List.getElem?_cons_zero, List.getElem?_cons_succ] at d0 d1
          have HI4 := Lib.hid (hI3.setC (ca + s.g * (va + x * -cb)) (cb + s.g * (vb + x * ca)))
          clear hI2 hI3 hF
          go_wp2
          go_roundw
          case rel => exact ⟨k + 1, by omega, by go_num, by rw [HGS.out]; exact HI4.out⟩
          case measure => simp [intOf]; omega
    · obtain rfl : k = node + 1 := by omega
      have d0 := hI.b3.cell 0
      have d1 := hI.b3.cell 1
      have g0 := hI.b2.free 0
      have g1 := hI.b2.free 1
      have q0 := hI.b2.cell 0
      have q1 := hI.b2.cell 1
      simp only [List.getElem?_toArray, List.getElem?_cons_zero, List.getElem?_cons_succ] at d0 d1 q0 q1
      have HI := Lib.hid hI.below
      clear hI
      rw [← HG.out] at d0 d1
      go_wp2
      exact bodyPost_ret (v := .agg #[.int .i64 gr.re, .int .i64 gr.im]) (by simp [results, Try.f111, go_sem, q0, q1]) rfl ⟨rfl, Ext.set (Ext.set HI.out (by dsimp only; omega) _) (by dsimp only; omega) _⟩

end Go.Proofs.Ytpaoeghdfeekoaa
