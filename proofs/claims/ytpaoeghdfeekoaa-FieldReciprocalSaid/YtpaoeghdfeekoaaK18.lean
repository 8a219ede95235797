/- Voltages from the input: the reference's. -/
import Derived.Test.YtpaoeghdfeekoaaK17
namespace Go.Proofs.Ytpaoeghdfeekoaa
open Go.RowKit Go.Shelf Go.Mem Go.RegInv
attribute [local go_sem] RelUpon_value RelUpon_skip RelUpon_enter BigFrame.eval_const BigFrame.eval_global BigFrame.eval_func

def negG (z : G) : G := ⟨-z.re, -z.im⟩
/-- The voltages from the input. -/
def fromL (f : Int) (hot : List Bool) (ls : List Sh) : List G := (List.range ls.length).map fun k => negG (grounded f hot ls k)
theorem fromL_len (f : Int) (hot : List Bool) (ls : List Sh) : (fromL f hot ls).length = ls.length := by simp [fromL]
theorem fromL_at (f : Int) (hot : List Bool) (ls : List Sh) (k : Nat) (hk : k < ls.length) : (fromL f hot ls)[k]? = some (negG (gfold f hot ls (k + 1)).1) := by
  simp [fromL, hk, grounded]
theorem gs_own {W : World} {base n : Nat} {v : Value} {xs : List G} (hl : xs.length = n) (h1 : 1 ≤ n) (hn : n ≤ 1152921504606846976) (h : W.ownsRow base 65 2 v n (xs.flatMap G.enc)) :
    ∃ g c, v = .slice (some ⟨g, 0, none⟩) n c ∧ n ≤ c ∧ RowsAt 2 G.enc W (some ⟨g, 0, none⟩) xs := by
  obtain ⟨A, c, rfl⟩ := own_slice h
  obtain ⟨h2, h3⟩ := g_own hl hn h
  obtain ⟨g, rfl, hc⟩ := h3 h1
  exact ⟨g, c, rfl, hc, h2⟩
theorem flat_take {xs : List G} {k : Nat} {z : G} (h : xs[k]? = some z) : (xs.take (k + 1)).flatMap G.enc = (xs.take k).flatMap G.enc ++ [.int .i64 z.re, .int .i64 z.im] := by
  rw [List.take_add_one, h]; simp [G.enc]

theorem own_set2 {W : World} {base : Nat} {e : TypeId} {size : Nat} {v : Value} {n : Nat} {xs : List Value} (r : W.ownsRow base e size v n xs) {g : Nat} (hg : g < base) (u1 u2 : Value) : ((W.setCell ⟨g, 0, none⟩ u1).setCell ⟨g, 1, none⟩ u2).ownsRow base e size v n xs :=
  own_set (p := ⟨g, 1, none⟩) (own_set (p := ⟨g, 0, none⟩) r (own_not r hg) u1) (own_not (own_set (p := ⟨g, 0, none⟩) r (own_not r hg) u1) hg) u2
/-- fromInput behind some of its rounds. -/
structure StF (W0 : World) (q6 : Nat) (f : Int) (hot : List Bool) (ls : List Sh) (k : Nat) (u : Value) (W : World) : Prop where
  b6 : Blk W q6 65 #[.int .i64 (negG (gfold f hot ls k).1).re, .int .i64 (negG (gfold f hot ls k).1).im]
  b7 : Blk W (q6 + 1) 65 #[.int .i64 (gfold f hot ls k).2.re, .int .i64 (gfold f hot ls k).2.im]
  row : W.ownsRow (q6 + 1 + 1) 65 2 u k (((fromL f hot ls).take k).flatMap G.enc)
  below : Ext W0 W

set_option maxRecDepth 100000 in
set_option maxHeartbeats 4000000 in
theorem fromInput_any (t : Int) (A : Option Addr) (n cap : Nat) (ls : List Sh) (hn : ls.length = n) (f : Int) (B : Option Addr) (cap' : Nat) (hot : List Bool) (hm : hot.length = n) (w : World)
    (hS : RowsAt 3 Sh.enc w A ls) (hH : RowsAt 1 boolEnc w B hot) (hok : ∀ s ∈ ls, shOK s) (hf : 1 ≤ f ∧ f ≤ 8) (h1 : 1 ≤ n) (hn4 : n ≤ 4) :
    Calls Try.prog 113 #[.agg #[.int .i64 t, .slice A n cap], .agg #[.int .i64 f, .slice B n cap']] w fun e w' => ∃ g c, e = .returned (.slice (some ⟨g, 0, none⟩) n c) ∧ RowsAt 2 G.enc w' (some ⟨g, 0, none⟩) (fromL f hot ls) ∧ Ext w w' := by
  have e0 : Ext w ((w.alloc (.cells #[.int .i64 t, .slice A n cap] 24)).alloc (.cells #[.int .i64 f, .slice B n cap'] 27)) := (Ext.alloc _ _).trans (Ext.alloc _ _)
  have FA := Lib.hid (show ∀ W : World, Ext ((w.alloc (.cells #[.int .i64 t, .slice A n cap] 24)).alloc (.cells #[.int .i64 f, .slice B n cap'] 27)) W →
      W.cell? ⟨w.heap.size, 0, none⟩ = some (.int .i64 t) ∧ W.cell? ⟨w.heap.size, 1, none⟩ = some (.slice A n cap) ∧ W.cell? ⟨w.heap.size + 1, 0, none⟩ = some (.int .i64 f) ∧ W.cell? ⟨w.heap.size + 1, 1, none⟩ = some (.slice B n cap') from
    fun W hx => ⟨hx.cell (by go_simp), hx.cell (by go_simp), hx.cell (by go_simp), hx.cell (by go_simp)⟩)
  have H26 := Lib.hid (fun W (e : Ext w W) => refReactances_any t A n cap ls hn f B cap' hot hm W (hS.ext e) (hH.ext e) hok hf hn4)
  have HS := Lib.hid hS
  have HN := Lib.hid hn
  have HM := Lib.hid hm
  have HOK := Lib.hid hok
  have HF := Lib.hid hf
  have HBD := Lib.hid (fun k hk => gfold_small (hot := hot) hok hf (by omega) k hk)
  have HRL := Lib.hid (show (reactL f hot ls).length = n by rw [reactL_len (by rw [hm, hn]), hn])
  have HFL := Lib.hid (show (fromL f hot ls).length = n by rw [fromL_len, hn])
  have HFA := Lib.hid (fun k hk => fromL_at f hot ls k hk)
  have E0 := Lib.hid e0
  obtain ⟨i0, hi, hz0, hz1, hz2⟩ := info_parts info65
  have HI0 := Lib.hid hz0
  clear hS hH hok hf hn hm e0
  go_enter Try.func113, Try.ntmps113
  go_wp2_with (go_at_call 26; refine (H26.out _ E0.out).mono ?_; rintro e W1 ⟨v5, rfl, hv5, hx1⟩; obtain ⟨Ar, cr, rfl, hrr⟩ := ints_rows hv5; rw [HRL.out]; have HRR := Lib.hid hrr; have X1 := Lib.hid hx1; clear hv5 hrr hx1)
  obtain ⟨q6, hq6⟩ : ∃ q, q = W1.heap.size := ⟨_, rfl⟩
  rw [← hq6]
  have HQ6 := Lib.hid hq6
  clear hq6
  go_loopw [9, 8] (fun i v wr => ∃ (k : Nat) (u : Value), k ≤ n ∧ i = .int .i64 k ∧ u = v ∧ StF W1 q6 f hot ls k u wr) (fun i _ _ => n - (intOf i).toNat)
  case atStart =>
    refine ⟨0, _, Nat.zero_le _, rfl, rfl, ?_, ?_, ?_, ?_⟩
    · exact (Blk.newAt _ _ _ HQ6.out).alloc _
    · exact Blk.newAt _ _ _ (by rw [HQ6.out]; simp)
    · exact World.ownsRow_nil _ _ _ _
    · exact (Ext.alloc _ _).trans (Ext.alloc _ _)
  case round =>
    obtain ⟨k, v, hk, rfl, rfl, hst⟩ := hrel
    obtain ⟨z0, z1, z2, z3⟩ := FA.out _ (X1.out.trans hst.below)
    by_cases hlt : k < n
    · obtain ⟨s, hs⟩ : ∃ s, ls[k]? = some s := ⟨_, List.getElem?_eq_getElem (by rw [HN.out]; exact hlt)⟩
      obtain ⟨hk0, hhk⟩ : ∃ hk0, hot[k]? = some hk0 := ⟨_, List.getElem?_eq_getElem (by rw [HM.out]; exact hlt)⟩
      have hgd : hot.getD k false = hk0 := by simp [hhk]
      have hsk := HOK.out s (List.mem_of_getElem? hs)
      have hrb := react_bd (h := hk0) HF.out hsk
      have hrl := reactL_at (f := f) hhk hs
      obtain ⟨hb1, hb2⟩ := HBD.out k (by rw [HN.out]; omega)
      obtain ⟨hb3, hb4⟩ := HBD.out (k + 1) (by rw [HN.out]; omega)
      have hfl := HFA.out k (by rw [HN.out]; exact hlt)
      have HTK := Lib.hid (flat_take hfl)
      have hgs : gfold f hot ls (k + 1) = (befG (gfold f hot ls k).1 (react f hk0 s) (gfold f hot ls k).2, plusG (gfold f hot ls k).2 s.g (befG (gfold f hot ls k).1 (react f hk0 s) (gfold f hot ls k).2)) := by
        rw [gfold, hs]; simp only [gstep, hgd]
      obtain ⟨b, o, hA1, _, hc⟩ := HS.out.2 k s hs
      subst hA1
      obtain ⟨gr, ro, hAr, _, hcr⟩ := HRR.out.2 k _ hrl
      subst hAr
      have z4 : wr.cell? ⟨b, o + k * 3, none⟩ = some (.int .i64 s.g) := (E0.out.trans (X1.out.trans hst.below)).cell (hc 0 _ rfl)
      have z5 : wr.cell? ⟨gr, ro + k, none⟩ = some (.int .i64 (react f hk0 s)) := hst.below.cell (by have := hcr 0 _ rfl; simpa using this)
      have HSC4 := Lib.hid (show ∃ _s : Unit, w.cell? ⟨b, o + k * 3, none⟩ = some (.int .i64 s.g) from ⟨(), hc 0 _ rfl⟩)
      have HB6 := Lib.hid hst.b6
      have HB7 := Lib.hid hst.b7
      have HRW := Lib.hid hst.row
      have HBL := Lib.hid hst.below
      rw [hgs] at hb3 hb4
      have HGS := Lib.hid hgs
      have hsg := hsk.1
      clear hst hs hhk hgd hrl hfl hc hcr hgs hsk
      obtain ⟨zn, hzn⟩ : ∃ z, z = gfold f hot ls (k + 1) := ⟨_, rfl⟩
      rw [← hzn] at HGS HTK
      have HZN := Lib.hid hzn
      clear hzn
      generalize gfold f hot ls k = z at *
      obtain ⟨⟨ga, gb⟩, ⟨c1, c2⟩⟩ := z
      generalize react f hk0 s = x at *
      generalize s.g = sg at *
      simp only [Bd, befG, plusG] at hb1 hb2 hb3 hb4
      obtain ⟨a1, ha1⟩ : ∃ a, a = -ga := ⟨_, rfl⟩
      obtain ⟨a2, ha2⟩ : ∃ a, a = -gb := ⟨_, rfl⟩
      have HB6' := Lib.hid (show Blk wr q6 65 #[.int .i64 a1, .int .i64 a2] from by rw [ha1, ha2]; exact HB6.out)
      have HB7' := Lib.hid (show Blk wr (q6 + 1) 65 #[.int .i64 c1, .int .i64 c2] from HB7.out)
      obtain ⟨b1, hbb1⟩ : ∃ a, a = a1 - x * -c2 := ⟨_, rfl⟩
      obtain ⟨b2, hbb2⟩ : ∃ a, a = a2 - x * c1 := ⟨_, rfl⟩
      have hnb1 : b1 = -(ga + x * -c2) := by rw [hbb1, ha1]; omega
      have hnb2 : b2 = -(gb + x * c1) := by rw [hbb2, ha2]; omega
      have hsb1 : sg * b1 = -(sg * (ga + x * -c2)) := by rw [hnb1, Int.mul_neg]
      have hsb2 : sg * b2 = -(sg * (gb + x * c1)) := by rw [hnb2, Int.mul_neg]
      have HTU := Lib.hid (fun W => turned_any c1 c2 (by unfold Mid; omega) W)
      have m1 := mid_of (n := x) (x := -c2) (N := 32) (B := 300000000) (by omega) hrb.2 (by omega) (by omega) (by omega)
      have m2 := mid_of (n := x) (x := c1) (N := 32) (B := 300000000) (by omega) hrb.2 (by omega) (by omega) (by omega)
      have m3 := mid_of (n := sg) (x := b1) (N := 4) (B := 300000000) (by omega) hsg.2 (by omega) (by omega) (by omega)
      have m4 := mid_of (n := sg) (x := b2) (N := 4) (B := 300000000) (by omega) hsg.2 (by omega) (by omega) (by omega)
      have HSC := Lib.hid (fun W => scaled_any (-c2) c1 x m1 m2 W)
      have HSB := Lib.hid (fun W => gsub_any a1 a2 (x * -c2) (x * c1) (by unfold Mid; omega) (by unfold Mid; omega) m1 m2 W)
      rw [← hbb1, ← hbb2] at HSB
      have HSC2 := Lib.hid (fun W => scaled_any b1 b2 sg m3 m4 W)
      obtain ⟨d1, hd1⟩ : ∃ a, a = c1 - sg * b1 := ⟨_, rfl⟩
      obtain ⟨d2, hd2⟩ : ∃ a, a = c2 - sg * b2 := ⟨_, rfl⟩
      have HSB2 := Lib.hid (fun W => gsub_any c1 c2 (sg * b1) (sg * b2) (by unfold Mid; omega) (by unfold Mid; omega) m3 m4 W)
      rw [← hd1, ← hd2] at HSB2
      have HN1 := Lib.hid (show negG zn.1 = ⟨b1, b2⟩ by rw [HGS.out, hnb1, hnb2]; rfl)
      have HN2 := Lib.hid (show zn.2 = ⟨d1, d2⟩ by
        rw [HGS.out]
        show (⟨c1 + sg * (ga + x * -c2), c2 + sg * (gb + x * c1)⟩ : G) = ⟨d1, d2⟩
        rw [hd1, hd2, hsb1, hsb2]
        congr 1 <;> omega)
      have HLT := Lib.hid HB6'.out.lt
      have HLT7 := Lib.hid HB7'.out.lt
      have z6 : wr.cell? ⟨q6, 0, none⟩ = some (.int .i64 a1) := HB6'.out.cell 0
      have z7 : wr.cell? ⟨q6, 1, none⟩ = some (.int .i64 a2) := HB6'.out.cell 1
      have z8 : wr.cell? ⟨q6 + 1, 0, none⟩ = some (.int .i64 c1) := HB7'.out.cell 0
      have z9 : wr.cell? ⟨q6 + 1, 1, none⟩ = some (.int .i64 c2) := HB7'.out.cell 1
      have hki : (k : Int) < (n : Int) := by omega
      rw [HN1.out] at HTK
      clear HB6 HB7 hb1 hb2 hb3 hb4 hrb hsg ha1 ha2 hbb1 hbb2 hnb1 hnb2 hsb1 hsb2 m1 m2 m3 m4 hd1 hd2 HGS
      go_wp2
      refine wp_region_part 9 [some 21, some 22, some 23, some 24, some 25, some 26, some 27, some 28, some 29] [[6], [7], [22], [5], [9], [24, 25], [26], [23, 27], [21, 28]]
        [Is (.agg #[.int .i64 (a1), .int .i64 (a2)]), Is (.agg #[.int .i64 (c1), .int .i64 (c2)]), Is (.agg #[.int .i64 (-c2), .int .i64 (c1)]), Is (.slice (some ⟨gr, ro, none⟩) n cr), Is (.int .i64 ((k : Int))), Is (.pointer (some ⟨gr, ro + k, none⟩)), Is (.int .i64 (x)), Is (.agg #[.int .i64 (x * -c2), .int .i64 (x * c1)]), Is (.agg #[.int .i64 (b1), .int .i64 (b2)])]
        (by kernel_rfl) (by kernel_rfl) (by kernel_rfl) (by kernel_rfl) (by kernel_rfl) (by kernel_rfl) (by kernel_rfl) Ext (fun W => Ext wr W)
        (fun W _ => Ext.refl W) (fun W W' h k => h.trans k) ?_ (Ext.drew _) ?_ ?_
      · repeat (refine ⟨fun _ _ _ _ k h => (by first | exact h | exact (by first | exact LadV.ext h k | exact DrvV.ext h k | exact TupV.ext (fun _ _ _ h k => by first | exact Opt.ext (fun _ _ _ h k => by first | exact IntsAt.ext h k | exact GsV.ext h k) h k | exact IntsAt.ext h k) h k | exact Opt.ext (fun _ _ _ h k => by first | exact IntsAt.ext h k | exact GsV.ext h k) h k | exact IntsAt.ext h k)), ?_⟩)
        exact trivial
      · refine ⟨?_, ?_, ?_, ?_, ?_, ?_, ?_, ?_, ?_, trivial⟩
        all_goals intro ρ W ⟨kc, kg, kf⟩ hF hs
        · obtain ⟨h0, -⟩ := hs
          replace h0 : ρ (.tmp 6) = .pointer (some ⟨q6, 0, none⟩) := h0
          have hc0 : W.cell? ⟨q6, 0, none⟩ = some (.int .i64 (a1)) := hF.cell (by assumption)
          have hc1 : W.cell? ⟨q6, 1, none⟩ = some (.int .i64 (a2)) := hF.cell (by assumption)
          go_simp
          exact ⟨Ext.refl _, rfl⟩
        · obtain ⟨h0, -⟩ := hs
          replace h0 : ρ (.tmp 7) = .pointer (some ⟨q6 + 1, 0, none⟩) := h0
          have hc0 : W.cell? ⟨q6 + 1, 0, none⟩ = some (.int .i64 (c1)) := hF.cell (by assumption)
          have hc1 : W.cell? ⟨q6 + 1, 1, none⟩ = some (.int .i64 (c2)) := hF.cell (by assumption)
          go_simp
          exact ⟨Ext.refl _, rfl⟩
        · obtain ⟨h0, -⟩ := hs
          replace h0 : ρ (.tmp 22) = .agg #[.int .i64 (c1), .int .i64 (c2)] := h0
          go_simp
          exact (HTU.out W).mono fun _ _ ⟨h1, h2⟩ => ⟨_, h1, h2, rfl⟩
        · obtain ⟨h0, -⟩ := hs
          replace h0 : ρ (.tmp 5) = .slice (some ⟨gr, ro, none⟩) n cr := h0
          go_simp
          exact ⟨Ext.refl _, rfl⟩
        · obtain ⟨h0, -⟩ := hs
          replace h0 : ρ (.tmp 9) = .int .i64 ((k : Int)) := h0
          go_simp
          exact ⟨Ext.refl _, rfl⟩
        · obtain ⟨h0, h1, -⟩ := hs
          replace h0 : ρ (.tmp 24) = .slice (some ⟨gr, ro, none⟩) n cr := h0
          replace h1 : ρ (.tmp 25) = .int .i64 ((k : Int)) := h1
          have hki : (k : Int) < (n : Int) := by omega
          go_simp
          exact ⟨Ext.refl _, rfl⟩
        · obtain ⟨h0, -⟩ := hs
          replace h0 : ρ (.tmp 26) = .pointer (some ⟨gr, ro + k, none⟩) := h0
          have hc0 : W.cell? ⟨gr, ro + k, none⟩ = some (.int .i64 (x)) := hF.cell (by assumption)
          go_simp
          exact ⟨Ext.refl _, rfl⟩
        · obtain ⟨h0, h1, -⟩ := hs
          replace h0 : ρ (.tmp 23) = .agg #[.int .i64 (-c2), .int .i64 (c1)] := h0
          replace h1 : ρ (.tmp 27) = .int .i64 (x) := h1
          go_simp
          exact (HSC.out W).mono fun _ _ ⟨h1, h2⟩ => ⟨_, h1, h2, rfl⟩
        · obtain ⟨h0, h1, -⟩ := hs
          replace h0 : ρ (.tmp 21) = .agg #[.int .i64 (a1), .int .i64 (a2)] := h0
          replace h1 : ρ (.tmp 28) = .agg #[.int .i64 (x * -c2), .int .i64 (x * c1)] := h1
          go_simp
          exact (HSB.out W).mono fun _ _ ⟨h1, h2⟩ => ⟨_, h1, h2, rfl⟩
      · intro fv W5 hF hs
        obtain ⟨-, -, -, -, -, -, -, -, h29, -⟩ := hs
        replace h29 : fv 29 = .agg #[.int .i64 (b1), .int .i64 (b2)] := h29
        simp only [fin, List.filterMap]
        go_simp
        have HB65 := Lib.hid (HB6'.out.ext hF)
        have HB75 := Lib.hid (HB7'.out.ext hF)
        have HBL5 := Lib.hid (HBL.out.trans hF)
        have HRW5 := Lib.hid (own_ext HRW.out hF)
        have f0 := HB65.out.free 0
        have f1 := HB65.out.free 1
        replace z0 := hF.cell z0
        replace z1 := hF.cell z1
        replace z2 := hF.cell z2
        replace z3 := hF.cell z3
        replace z4 := hF.cell z4
        replace z5 := hF.cell z5
        replace z6 := hF.cell z6
        replace z7 := hF.cell z7
        clear hF h29 z8 z9
        have HB66 := Lib.hid ((HB65.out.setSame 0 (.int .i64 b1)).setSame 1 (.int .i64 b2))
        have HB76 := Lib.hid (show Blk ((W5.setCell ⟨q6, 0, none⟩ (.int .i64 b1)).setCell ⟨q6, 1, none⟩ (.int .i64 b2)) (q6 + 1) 65 #[.int .i64 c1, .int .i64 c2] from (HB75.out.setOther (p := ⟨q6, 0, none⟩) (by first | omega | (dsimp only; omega)) _).setOther (p := ⟨q6, 1, none⟩) (by first | omega | (dsimp only; omega)) _)
        have HBL6 := Lib.hid (show Ext W1 ((W5.setCell ⟨q6, 0, none⟩ (.int .i64 b1)).setCell ⟨q6, 1, none⟩ (.int .i64 b2)) from Ext.set (Ext.set HBL5.out (by rw [HQ6.out]; exact Nat.le_refl _) _) (by rw [HQ6.out]; exact Nat.le_refl _) _)
        have HRW6 := Lib.hid (show ((W5.setCell ⟨q6, 0, none⟩ (.int .i64 b1)).setCell ⟨q6, 1, none⟩ (.int .i64 b2)).ownsRow (q6 + 1 + 1) 65 2 v k (((fromL f hot ls).take k).flatMap G.enc) from own_set2 HRW5.out (show q6 < q6 + 1 + 1 by omega) _ _)
        have HZ6 := Lib.hid (FA.out _ (X1.out.trans HBL6.out))
        have HZ4 := Lib.hid (show ((W5.setCell ⟨q6, 0, none⟩ (.int .i64 b1)).setCell ⟨q6, 1, none⟩ (.int .i64 b2)).cell? ⟨b, o + k * 3, none⟩ = some (.int .i64 sg) from by
          obtain ⟨s', hs'⟩ := HSC4.out
          exact (E0.out.trans (X1.out.trans HBL6.out)).cell hs')
        go_wp2
        clear f0 f1 z0 z1 z2 z3 z4 z5 z6 z7
        generalize (W5.setCell ⟨q6, 0, none⟩ (.int .i64 b1)).setCell ⟨q6, 1, none⟩ (.int .i64 b2) = W6 at *
        obtain ⟨z0, z1, z2, z3⟩ := HZ6.out
        have z4 := HZ4.out
        have z6 : W6.cell? ⟨q6, 0, none⟩ = some (.int .i64 b1) := by have := HB66.out.cell 0; simpa using this
        have z7 : W6.cell? ⟨q6, 1, none⟩ = some (.int .i64 b2) := by have := HB66.out.cell 1; simpa using this
        have z8 : W6.cell? ⟨q6 + 1, 0, none⟩ = some (.int .i64 c1) := HB76.out.cell 0
        have z9 : W6.cell? ⟨q6 + 1, 1, none⟩ = some (.int .i64 c2) := HB76.out.cell 1
        clear HB65 HB75 HBL5 HRW5 HZ6 HZ4
        refine wp_region_part 10 [some 30, some 31, some 32, some 33, some 34, some 35, some 36, some 37, some 38, some 39] [[7], [6], [2], [32], [9], [33, 34], [35], [36], [31, 37], [30, 38]]
          [Is (.agg #[.int .i64 (c1), .int .i64 (c2)]), Is (.agg #[.int .i64 (b1), .int .i64 (b2)]), Is (.pointer (some ⟨w.heap.size, 1, none⟩)), Is (.slice (some ⟨b, o, none⟩) n cap), Is (.int .i64 ((k : Int))), Is (.pointer (some ⟨b, o + k * 3, none⟩)), Is (.pointer (some ⟨b, o + k * 3, none⟩)), Is (.int .i64 (sg)), Is (.agg #[.int .i64 (sg * b1), .int .i64 (sg * b2)]), Is (.agg #[.int .i64 (d1), .int .i64 (d2)])]
          (by kernel_rfl) (by kernel_rfl) (by kernel_rfl) (by kernel_rfl) (by kernel_rfl) (by kernel_rfl) (by kernel_rfl) Ext (fun W => Ext W6 W)
          (fun W _ => Ext.refl W) (fun W W' h k => h.trans k) ?_ (Ext.drew _) ?_ ?_
        · repeat (refine ⟨fun _ _ _ _ k h => (by first | exact h | exact (by first | exact LadV.ext h k | exact DrvV.ext h k | exact TupV.ext (fun _ _ _ h k => by first | exact Opt.ext (fun _ _ _ h k => by first | exact IntsAt.ext h k | exact GsV.ext h k) h k | exact IntsAt.ext h k) h k | exact Opt.ext (fun _ _ _ h k => by first | exact IntsAt.ext h k | exact GsV.ext h k) h k | exact IntsAt.ext h k)), ?_⟩)
          exact trivial
        · refine ⟨?_, ?_, ?_, ?_, ?_, ?_, ?_, ?_, ?_, ?_, trivial⟩
          all_goals intro ρ W ⟨kc, kg, kf⟩ hF hs
          · obtain ⟨h0, -⟩ := hs
            replace h0 : ρ (.tmp 7) = .pointer (some ⟨q6 + 1, 0, none⟩) := h0
            have hc0 : W.cell? ⟨q6 + 1, 0, none⟩ = some (.int .i64 (c1)) := hF.cell (by assumption)
            have hc1 : W.cell? ⟨q6 + 1, 1, none⟩ = some (.int .i64 (c2)) := hF.cell (by assumption)
            go_simp
            exact ⟨Ext.refl _, rfl⟩
          · obtain ⟨h0, -⟩ := hs
            replace h0 : ρ (.tmp 6) = .pointer (some ⟨q6, 0, none⟩) := h0
            have hc0 : W.cell? ⟨q6, 0, none⟩ = some (.int .i64 (b1)) := hF.cell (by assumption)
            have hc1 : W.cell? ⟨q6, 1, none⟩ = some (.int .i64 (b2)) := hF.cell (by assumption)
            go_simp
            exact ⟨Ext.refl _, rfl⟩
          · obtain ⟨h0, -⟩ := hs
            replace h0 : ρ (.tmp 2) = .pointer (some ⟨w.heap.size, 0, none⟩) := h0
            go_simp
            exact ⟨Ext.refl _, rfl⟩
          · obtain ⟨h0, -⟩ := hs
            replace h0 : ρ (.tmp 32) = .pointer (some ⟨w.heap.size, 1, none⟩) := h0
            have hc0 : W.cell? ⟨w.heap.size, 1, none⟩ = some (.slice (some ⟨b, o, none⟩) n cap) := hF.cell (by assumption)
            go_simp
            exact ⟨Ext.refl _, rfl⟩
          · obtain ⟨h0, -⟩ := hs
            replace h0 : ρ (.tmp 9) = .int .i64 ((k : Int)) := h0
            go_simp
            exact ⟨Ext.refl _, rfl⟩
          · obtain ⟨h0, h1, -⟩ := hs
            replace h0 : ρ (.tmp 33) = .slice (some ⟨b, o, none⟩) n cap := h0
            replace h1 : ρ (.tmp 34) = .int .i64 ((k : Int)) := h1
            have hki : (k : Int) < (n : Int) := by omega
            go_simp
            exact ⟨Ext.refl _, rfl⟩
          · obtain ⟨h0, -⟩ := hs
            replace h0 : ρ (.tmp 35) = .pointer (some ⟨b, o + k * 3, none⟩) := h0
            go_simp
            exact ⟨Ext.refl _, rfl⟩
          · obtain ⟨h0, -⟩ := hs
            replace h0 : ρ (.tmp 36) = .pointer (some ⟨b, o + k * 3, none⟩) := h0
            have hc0 : W.cell? ⟨b, o + k * 3, none⟩ = some (.int .i64 (sg)) := hF.cell (by assumption)
            go_simp
            exact ⟨Ext.refl _, rfl⟩
          · obtain ⟨h0, h1, -⟩ := hs
            replace h0 : ρ (.tmp 31) = .agg #[.int .i64 (b1), .int .i64 (b2)] := h0
            replace h1 : ρ (.tmp 37) = .int .i64 (sg) := h1
            go_simp
            exact (HSC2.out W).mono fun _ _ ⟨h1, h2⟩ => ⟨_, h1, h2, rfl⟩
          · obtain ⟨h0, h1, -⟩ := hs
            replace h0 : ρ (.tmp 30) = .agg #[.int .i64 (c1), .int .i64 (c2)] := h0
            replace h1 : ρ (.tmp 38) = .agg #[.int .i64 (sg * b1), .int .i64 (sg * b2)] := h1
            go_simp
            exact (HSB2.out W).mono fun _ _ ⟨h1, h2⟩ => ⟨_, h1, h2, rfl⟩
        · intro fv W7 hF hs
          obtain ⟨-, -, -, -, -, -, -, -, -, h39, -⟩ := hs
          replace h39 : fv 39 = .agg #[.int .i64 (d1), .int .i64 (d2)] := h39
          simp only [fin, List.filterMap]
          go_simp
          have HB67 := Lib.hid (HB66.out.ext hF)
          have HB77 := Lib.hid (HB76.out.ext hF)
          have HBL7 := Lib.hid (HBL6.out.trans hF)
          have HRW7 := Lib.hid (own_ext HRW6.out hF)
          have f0 := HB77.out.free 0
          have f1 := HB77.out.free 1
          replace z8 := hF.cell z8
          replace z9 := hF.cell z9
          replace z6 := hF.cell z6
          replace z7 := hF.cell z7
          clear hF h39 z0 z1 z2 z3 z4
          have HB78 := Lib.hid ((HB77.out.setSame 0 (.int .i64 d1)).setSame 1 (.int .i64 d2))
          have HB68 := Lib.hid (show Blk ((W7.setCell ⟨q6 + 1, 0, none⟩ (.int .i64 d1)).setCell ⟨q6 + 1, 1, none⟩ (.int .i64 d2)) q6 65 _ from (HB67.out.setOther (p := ⟨q6 + 1, 0, none⟩) (by first | omega | (dsimp only; omega)) _).setOther (p := ⟨q6 + 1, 1, none⟩) (by first | omega | (dsimp only; omega)) _)
          have HBL8 := Lib.hid (show Ext W1 ((W7.setCell ⟨q6 + 1, 0, none⟩ (.int .i64 d1)).setCell ⟨q6 + 1, 1, none⟩ (.int .i64 d2)) from Ext.set (Ext.set HBL7.out (by rw [HQ6.out]; exact Nat.le_succ _) _) (by rw [HQ6.out]; exact Nat.le_succ _) _)
          have HRW8 := Lib.hid (show ((W7.setCell ⟨q6 + 1, 0, none⟩ (.int .i64 d1)).setCell ⟨q6 + 1, 1, none⟩ (.int .i64 d2)).ownsRow (q6 + 1 + 1) 65 2 v k (((fromL f hot ls).take k).flatMap G.enc) from own_set2 HRW7.out (show q6 + 1 < q6 + 1 + 1 by omega) _ _)
          have HZL := Lib.hid (show q6 + 1 < ((W7.setCell ⟨q6 + 1, 0, none⟩ (.int .i64 d1)).setCell ⟨q6 + 1, 1, none⟩ (.int .i64 d2)).heap.size from HB78.out.lt)
          have hzl := HB67.out.lt
          have hz7 := HB77.out.lt
          clear HB67 HB77 HBL7 HRW7
          go_wp2_with (at_builtin; refine wpList_append_own _ rfl _ _ 53 rfl (q6 + 1 + 1) 65 i0 (.agg #[.int .i64 0, .int .i64 0]) 2 16 Try.underlying53 hi HI0.out hz1 hz2 rfl (by decide) _ _ _ rfl (HRW8.out.alloc _) ⟨W7.heap.size, 0, none⟩ 1 1 [.int .i64 b1, .int .i64 b2] rfl rfl (news_of (Blk.newAt ((W7.setCell ⟨q6 + 1, 0, none⟩ (.int .i64 d1)).setCell ⟨q6 + 1, 1, none⟩ (.int .i64 d2)) 65 #[.int .i64 b1, .int .i64 b2] (g := W7.heap.size) (by simp))) (by simp [Value.oneCell']) (by unfold maxLen; omega) (by omega) (by simp; omega) ?_; intro v' w1 hown' hgrow _; have HO1 := Lib.hid hown'; have HG9 := Lib.hid hgrow; clear hown' hgrow)
          clear f0 f1 z8 z9 z6 z7
          have hb69 : Blk w1 q6 65 #[.int .i64 b1, .int .i64 b2] := (HG9.out.block q6 (by simp; omega) (own_not HRW8.out (show q6 < q6 + 1 + 1 by omega))).trans (HB68.out.alloc _)
          have hb79 : Blk w1 (q6 + 1) 65 #[.int .i64 d1, .int .i64 d2] := (HG9.out.block (q6 + 1) (by simp; omega) (own_not HRW8.out (show q6 + 1 < q6 + 1 + 1 by omega))).trans (HB78.out.alloc _)
          have hbl9 : Ext W1 w1 := Ext.grownBy (HBL8.out.trans (Ext.alloc _ _)) HG9.out (fun g hg => by have := own_base HRW8.out hg; have := HQ6.out; omega)
          go_roundw
          case rel =>
            refine ⟨k + 1, _, by omega, by go_num, rfl, ?_, ?_, ?_, hbl9⟩
            · rw [← HZN.out, HN1.out]; exact hb69
            · rw [← HZN.out, HN2.out]; exact hb79
            · rw [HTK.out]; exact HO1.out
          case measure => simp [intOf]; omega
    · obtain rfl : n = k := by omega
      have hrow := hst.row
      rw [List.take_of_length_le (by rw [HFL.out]; omega)] at hrow
      obtain ⟨g, c, rfl, _, hg⟩ := gs_own HFL.out h1 (by omega) hrow
      have HG := Lib.hid hg
      have HBL := Lib.hid hst.below
      clear hg hrow hst
      go_wp2
      go_ret
      exact ⟨g, c, rfl, HG.out, E0.out.trans (X1.out.trans HBL.out)⟩

end Go.Proofs.Ytpaoeghdfeekoaa
