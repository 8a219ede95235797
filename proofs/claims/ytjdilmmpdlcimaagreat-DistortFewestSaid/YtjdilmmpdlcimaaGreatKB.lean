/- ref.grown where strokes are wanted. ref.Fewest, and the ways in which nothing is asked of plans. -/
import Derived.Test.YtjdilmmpdlcimaaGreatKA
import Derived.Test.YtjdilmmpdlcimaaGreatRU
import Derived.Test.YtjdilmmpdlcimaaGreatC11
import Derived.Lib.MinMax
import Derived.Deep.DeepCutAuto
import Derived.BigQuiet
import Derived.Laws.AppendOwn
import Derived.Laws.AppendOwnNone

namespace Go.Proofs.YtjdilmmpdlcimaaGreat
open Go.RowKit Go.Shelf Go.Mem Go.RegInv
attribute [local go_sem] RelUpon_value RelUpon_skip RelUpon_enter BigFrame.eval_const BigFrame.eval_global BigFrame.eval_func


def LongF (base N : Nat) (t : Int) (xs : List Value) : Fact := fun vs _ W => ∃ q g c, vs.getD 0 undef = .pointer (some ⟨q, 0, none⟩) ∧ base ≤ q ∧ Blk W q 90 #[.slice (some ⟨g, 0, none⟩) (N + 1) c, .int .i64 t] ∧ W.ownsRow base 68 3 (.slice (some ⟨g, 0, none⟩) (N + 1) c) (N + 1) xs
/-- The first answer of a search from a place on. -/
def fsR {β : Type} (G : Nat → Option β) (n f : Nat) : Option β := (List.range' f (n - f)).findSome? G
theorem fsR_step {β : Type} (G : Nat → Option β) {n f : Nat} (h : f < n) : fsR G n f = match G f with | some p => some p | none => fsR G n (f + 1) := by
  unfold fsR
  obtain ⟨d, hd⟩ : ∃ d, n - f = d + 1 := ⟨n - f - 1, by omega⟩
  rw [hd, List.range'_succ, List.findSome?_cons, show n - (f + 1) = d by omega]
  cases G f <;> rfl
theorem fsR_end {β : Type} (G : Nat → Option β) (n : Nat) : fsR G n n = none := by
  unfold fsR
  rw [Nat.sub_self]
  rfl
theorem copyPlanW_any {A : Option Addr} {n ca : Nat} {xs : List Sk} {w : World} (hn : xs.length = n) (hA : RowsAt 3 Sk.enc w A xs) (h6 : n ≤ 1000) (hnil : A = none → ca = 0) :
    Calls Tryz.prog 60 #[.slice A n ca] w fun e w' => ∃ A' c', e = .returned (.slice A' n c') ∧ w'.ownsRow w.heap.size 68 3 (.slice A' n c') n (xs.flatMap Sk.enc) ∧ Ext w w' := by
  obtain ⟨i0, hi0, hz0, ha0, hb0⟩ := info_parts infoSkG
  have I0 := Lib.hid hz0
  have HN := Lib.hid hn
  have HA := Lib.hid hA
  have HL := Lib.hid hnil
  clear hn hA hnil hz0
  go_enter Tryz.func60, Tryz.ntmps60
  go_wp2_with (at_builtin; refine wpList_copyW rfl _ _ 32 rfl 68 i0 (.agg #[.int .i64 0, .int .i64 0, .bool false]) 3 24 (by kernel_rfl) hi0 I0.out ha0 hb0 rfl (by decide) (by decide) Sk.enc (fun _ => rfl) Sk_one rfl A n ca xs rfl HN.out HA.out (by omega) HL.out ?_; intro A' c' V0 hro hx; have XR := Lib.hid hro; have XX := Lib.hid hx; clear hro hx)
  go_ret
  exact ⟨A', c', rfl, XR.out, XX.out⟩
set_option maxRecDepth 100000 in
set_option maxHeartbeats 4000000 in
theorem grown_succ {L : Int} {J K : Option Addr} {n cj ck : Nat} {js : List Int} {ks : List Rg} {w : World} (hn : js.length = n) {P : Option Addr} {np cp : Nat} {am : List Int} {sp ga li : Int} (hnp : am.length = np) (hP : RowsAt 1 I1 w P am) {A : Option Addr} {N ca : Nat} {l : List Sk} {t : Int} (hN : l.length = N) (hA : RowsAt 3 Sk.enc w A l) (hnil : A = none → ca = 0) (hs : ShOK L js ks) (hp : PrOK am sp ga li) {c f : Nat} {os : List Sk} (hos : optL am n = os) {on : Nat} (hon : os.length = on) (hf : f ≤ on) (hob : on ≤ 1000) (h4 : N + (c + 1) ≤ 4) {g1 : List Sk → Nat → Option (List Sk)}
    (IH : ∀ i x W A' c', i < on → os.getD i default = x → Ext w W → strokesE n am li (l ++ [x]) = 0 → RowsAt 3 Sk.enc W A' (l ++ [x]) → (A' = none → c' = 0) → Calls Tryz.prog 39 #[.agg #[.int .i64 L, .slice J n cj, .slice K n ck], .agg #[.slice P np cp, .int .i64 sp, .int .i64 ga, .int .i64 li], .agg #[.slice A' (N + 1) c', .int .i64 t], .int .i64 (i : Int), .int .i64 (c : Int)] W (FiP (g1 (l ++ [x]) i) W)) :
    Calls Tryz.prog 39 #[.agg #[.int .i64 L, .slice J n cj, .slice K n ck], .agg #[.slice P np cp, .int .i64 sp, .int .i64 ga, .int .i64 li], .agg #[.slice A N ca, .int .i64 t], .int .i64 (f : Int), .int .i64 ((c : Int) + 1)] w (FiP (fsR (fun i => if strokesE n am li (l ++ [os.getD i default]) ≠ 0 then none else g1 (l ++ [os.getD i default]) i) on f) w) := by
  obtain ⟨i0, hi0, hz0, ha0, hb0⟩ := info_parts infoSkG
  have I0 := Lib.hid hz0
  have hn4 : n ≤ 4 := by have := hs.four; omega
  have HOP := Lib.hid (fun W (e : Ext w W) => optionsR_any (L := L) (J := J) (K := K) (cj := cj) (ck := ck) (cp := cp) (sp := sp) (ga := ga) (li := li) hnp (hP.ext e) hn4 (by have := hp.three; omega))
  rw [hos, hon] at HOP
  have HCO := Lib.hid (fun W (e : Ext w W) => copyPlanW_any (ca := ca) hN (hA.ext e) (by omega) hnil)
  have HSE := Lib.hid (fun W (e : Ext w W) A' c' (x : Sk) (h1 : RowsAt 3 Sk.enc W A' (l ++ [x])) => refStrokesErr_any (L := L) (J := J) (K := K) (n := n) (m := n) (cj := cj) (ck := ck) (cp := cp) (sp := sp) (ga := ga) (li := li) (ca := c') (N := N + 1) hnp (hP.ext e) (by omega) hp.am1 (by simp [hN]) h1) 
  have HIH := Lib.hid IH
  have HN := Lib.hid hN
  obtain ⟨G, hG⟩ : ∃ G : Nat → Option (List Sk), G = fun i => if strokesE n am li (l ++ [os.getD i default]) ≠ 0 then none else g1 (l ++ [os.getD i default]) i := ⟨_, rfl⟩
  have HG := Lib.hid (fun i => show G i = if strokesE n am li (l ++ [os.getD i default]) ≠ 0 then none else g1 (l ++ [os.getD i default]) i by rw [hG])
  rw [← hG]
  obtain ⟨r, hr⟩ : ∃ r, r = fsR G on f := ⟨_, rfl⟩
  rw [← hr]
  have HR0 := Lib.hid hr
  have HON := Lib.hid hon
  have hcz : ((c : Int) + 1 == 0) = false := by simp; omega
  clear hn hnp hP hs hp hN hA hnil IH hos hon hG hr hz0
  obtain ⟨W0, hW0⟩ : ∃ W0, W0 = ((w.alloc (.cells #[.int .i64 L, .slice J n cj, .slice K n ck] 25)).alloc (.cells #[.slice P np cp, .int .i64 sp, .int .i64 ga, .int .i64 li] 27)).alloc (.cells #[.slice A N ca, .int .i64 t] 90) := ⟨_, rfl⟩
  have K0 := Lib.hid (show Blk W0 (w.heap.size) 25 #[.int .i64 L, .slice J n cj, .slice K n ck] by rw [hW0]; exact ((Blk.new _ _ _).alloc _).alloc _)
  have K1 := Lib.hid (show Blk W0 (w.heap.size + 1) 27 #[.slice P np cp, .int .i64 sp, .int .i64 ga, .int .i64 li] by rw [hW0]; exact (Blk.newAt _ _ _ (by simp)).alloc _)
  have K2 := Lib.hid (show Blk W0 (w.heap.size + 1 + 1) 90 #[.slice A N ca, .int .i64 t] by rw [hW0]; exact Blk.newAt _ _ _ (by simp))
  have E0 := Lib.hid (show Ext w W0 by rw [hW0]; exact ((Ext.alloc _ _).trans (Ext.alloc _ _)).trans (Ext.alloc _ _))
  have y0_0 : W0.cell? ⟨w.heap.size, 0, none⟩ = some (.int .i64 L) := K0.out.cell 0
  have y0_1 : W0.cell? ⟨w.heap.size, 1, none⟩ = some (.slice J n cj) := K0.out.cell 1
  have y0_2 : W0.cell? ⟨w.heap.size, 2, none⟩ = some (.slice K n ck) := K0.out.cell 2
  have y1_0 : W0.cell? ⟨w.heap.size + 1, 0, none⟩ = some (.slice P np cp) := K1.out.cell 0
  have y1_1 : W0.cell? ⟨w.heap.size + 1, 1, none⟩ = some (.int .i64 sp) := K1.out.cell 1
  have y1_2 : W0.cell? ⟨w.heap.size + 1, 2, none⟩ = some (.int .i64 ga) := K1.out.cell 2
  have y1_3 : W0.cell? ⟨w.heap.size + 1, 3, none⟩ = some (.int .i64 li) := K1.out.cell 3
  have y2_0 : W0.cell? ⟨w.heap.size + 1 + 1, 0, none⟩ = some (.slice A N ca) := K2.out.cell 0
  have y2_1 : W0.cell? ⟨w.heap.size + 1 + 1, 1, none⟩ = some (.int .i64 t) := K2.out.cell 1
  go_enter Tryz.func39, Tryz.ntmps39
  go_upto_region 1 with (fail)
  rw [← hW0]
  clear hW0
  go_wp2_with (go_at_call 23; refine (HOP.out _ E0.out).mono ?_; rintro e V ⟨O, ⟨oc, rfl⟩, ho, hx⟩; have XV := Lib.hid (E0.out.trans hx); have HO := Lib.hid ho; replace K0 := Lib.hid (K0.out.ext hx); replace K1 := Lib.hid (K1.out.ext hx); replace K2 := Lib.hid (K2.out.ext hx); clear hx ho y0_0 y0_1 y0_2 y1_0 y1_1 y1_2 y1_3 y2_0 y2_1; refine Hid.out ?_)
  refine Lib.hid ?_
  clear E0 HOP
  go_wp2
  go_loopw [13] (fun i wr => ∃ k : Nat, k ≤ on ∧ i = .int .i64 (k : Int) ∧ r = fsR G on k ∧ Ext V wr ∧ Blk wr w.heap.size 25 #[.int .i64 L, .slice J n cj, .slice K n ck] ∧ Blk wr (w.heap.size + 1) 27 #[.slice P np cp, .int .i64 sp, .int .i64 ga, .int .i64 li] ∧ Blk wr (w.heap.size + 1 + 1) 90 #[.slice A N ca, .int .i64 t]) (fun i _ => on - (intOf i).toNat)
  case atStart => exact ⟨f, hf, rfl, HR0.out, Ext.refl _, K0.out, K1.out, K2.out⟩
  case round =>
    clear K0 K1 K2
    obtain ⟨k, hk, rfl, hr, hx, k0, k1, k2⟩ := hrel
    have XR := Lib.hid hx
    have K0 := Lib.hid k0
    have K1 := Lib.hid k1
    have K2 := Lib.hid k2
    have R := Lib.hid hr
    clear hx k0 k1 k2 hr
    by_cases hlt : k < on
    · obtain ⟨x, hx⟩ : ∃ x, os[k]? = some x := ⟨_, List.getElem?_eq_getElem (by rw [HON.out]; exact hlt)⟩
      obtain ⟨ob, oo, rfl, -, hc⟩ := row_at (HO.out.ext XR.out) hx
      have hd : os.getD k default = x := by simp [hx]
      have HGK := Lib.hid (HG.out k)
      rw [hd] at HGK
      have HS := Lib.hid (R.out.trans (fsR_step G hlt))
      have HC := Lib.hid (fun W A' c' (e : Ext w W) h0 h1 h2 => HIH.out k x W A' c' hlt hd e h0 h1 h2)
      have hki : (k : Int) < (on : Int) := by omega
      obtain ⟨V0, hV0⟩ : ∃ W, W = wr := ⟨_, rfl⟩
      have z0 := hc 0 _ rfl
      have z1 := hc 1 _ rfl
      have z2 := hc 2 _ rfl
      simp only [Nat.add_zero] at z0
      rw [← hV0] at XR K0 K1 K2 z0 z1 z2 ⊢
      have X := Lib.hid (XV.out.trans XR.out)
      clear hc hx hd R hV0
      have y2_0 : V0.cell? ⟨w.heap.size + 1 + 1, 0, none⟩ = some (.slice A N ca) := K2.out.cell 0
      have y2_1 : V0.cell? ⟨w.heap.size + 1 + 1, 1, none⟩ = some (.int .i64 t) := K2.out.cell 1
      go_upto_region 7 with (fail)
      refine wp_region_uni [some 36, some 37, some 38, some 39, some 40, some 41, some 42, some 43, some 44, some 45, some 46, some 47, some 14, none] [[7], [36], [37], [12], [13], [39, 40], [41], [42], [38, 43], [7], [45], [44, 46], [], [14, 47]]
        [Iv (.pointer (some ⟨w.heap.size + 1 + 1, 0, none⟩)), Iv (.slice A N ca), Ow V0.heap.size 68 3 N (l.flatMap Sk.enc), Iv (.slice (some ⟨ob, oo, none⟩) on oc), Iv (.int .i64 ((k : Int))), Iv (.pointer (some ⟨ob, oo + k * 3, none⟩)), Iv (.agg #[.int .i64 x.j, .int .i64 x.a, .bool x.u]), Ph (fun v W => ∃ q, v = .slice (some ⟨q, 0, none⟩) 1 1 ∧ Blk W q 68 #[.int .i64 x.j, .int .i64 x.a, .bool x.u]), Ph (fun v W => ∃ g c, v = .slice (some ⟨g, 0, none⟩) (N + 1) c ∧ W.ownsRow V0.heap.size 68 3 (.slice (some ⟨g, 0, none⟩) (N + 1) c) (N + 1) ((l.flatMap Sk.enc) ++ [.int .i64 x.j, .int .i64 x.a, .bool x.u])), Iv (.pointer (some ⟨w.heap.size + 1 + 1, 1, none⟩)), Iv (.int .i64 (t)), Ph (fun v W => ∃ g c, v = .agg #[.slice (some ⟨g, 0, none⟩) (N + 1) c, .int .i64 t] ∧ W.ownsRow V0.heap.size 68 3 (.slice (some ⟨g, 0, none⟩) (N + 1) c) (N + 1) ((l.flatMap Sk.enc) ++ [.int .i64 x.j, .int .i64 x.a, .bool x.u])), Nb V0.heap.size 90 #[.slice none 0 0, .int .i64 0], LongF V0.heap.size N t ((l.flatMap Sk.enc) ++ [.int .i64 x.j, .int .i64 x.a, .bool x.u])]
        [false, false, true, false, false, false, false, false, false, false, false, false, true, false] [[], [], [], [], [], [], [], [], [2, 7], [], [], [], [], [12]] [[], [], [], [], [], [], [], [], [], [], [], [], [], []] [[], [], [], [], [], [], [], [], [], [], [], [], [], []] [[], [], [], [], [], [], [], [], [11, 13], [], [], [], [], []] []
        [(8, Wr V0.heap.size 68), (13, Wr V0.heap.size 90)]
        (by kernel_rfl) (by kernel_rfl) (by kernel_rfl) (by kernel_rfl) (by kernel_rfl) (by kernel_rfl) (by kernel_rfl) (by kernel_rfl) Ext (fun W => Ext V0 W)
        (fun W W' h k => ⟨h.trans k, k.size⟩) ?_ (by (repeat (refine ⟨fun _ _ _ k h => h.ext k, ?_⟩)); trivial) ?_ (Ext.drew _) trivial ?_ ?_
      · repeat (refine ⟨fun _ _ _ _ _ k h => (by first | exact h | exact Nb.ext h k | exact Sb.ext h k | exact own_ext h k | (obtain ⟨q, h1, h2⟩ := h; exact ⟨q, h1, h2.ext k⟩) | (obtain ⟨g, c, h1, h2⟩ := h; exact ⟨g, c, h1, own_ext h2 k⟩) | (obtain ⟨q, g, c, h1, h2, h3, h4⟩ := h; exact ⟨q, g, c, h1, h2, h3.ext k, own_ext h4 k⟩)), ?_⟩)
        exact trivial
      · refine ⟨fun _ _ _ h k => Wr.ext h k, ?_, trivial, ?_⟩
        · repeat (first | (refine ⟨trivial, ?_⟩) | (refine ⟨fun _ _ _ _ _ _ k ap ap2 h => (by first | exact h | exact Nb.wrT h k (by decide) | exact Sb.wrT h k (by decide) | exact Nb.wr h k (ap rfl) | exact Sb.wr h k (ap2 rfl) | (obtain ⟨q, h1, h2⟩ := h; exact ⟨q, h1, blk_wrT h2 k (by decide)⟩) | exact own_wrT h k (by decide) | (obtain ⟨g, c, h1, h2⟩ := h; exact ⟨g, c, h1, own_wrT h2 k (by decide)⟩)), ?_⟩))
          exact trivial
        refine ⟨fun _ _ _ h k => Wr.ext h k, ?_, trivial, ?_⟩
        · repeat (first | (refine ⟨trivial, ?_⟩) | (refine ⟨fun _ _ _ _ _ _ k ap ap2 h => (by first | exact h | exact Nb.wrT h k (by decide) | exact Sb.wrT h k (by decide) | exact Nb.wr h k (ap rfl) | exact Sb.wr h k (ap2 rfl) | (obtain ⟨q, h1, h2⟩ := h; exact ⟨q, h1, blk_wrT h2 k (by decide)⟩) | exact own_wrT h k (by decide) | (obtain ⟨g, c, h1, h2⟩ := h; exact ⟨g, c, h1, own_wrT h2 k (by decide)⟩)), ?_⟩))
          exact trivial
        exact trivial
      · refine ⟨?_, ?_, ?_, ?_, ?_, ?_, ?_, ?_, ?_, ?_, ?_, ?_, ?_, ?_, trivial⟩
        all_goals intro ρ W ⟨kc, kg, kf⟩ hF hb hs
        · obtain ⟨h0, -⟩ := hs
          replace h0 : ρ (.tmp 7) = .pointer (some ⟨w.heap.size + 1 + 1, 0, none⟩) := h0
          go_simp
          exact ⟨Ext.refl _, rfl, trivial⟩
        · obtain ⟨h0, -⟩ := hs
          replace h0 : ρ (.tmp 36) = .pointer (some ⟨w.heap.size + 1 + 1, 0, none⟩) := h0
          have hc0 : W.cell? ⟨w.heap.size + 1 + 1, 0, none⟩ = some (.slice A N ca) := hF.cell (by assumption)
          go_simp
          exact ⟨Ext.refl _, rfl, trivial⟩
        · obtain ⟨h0, -⟩ := hs
          replace h0 : ρ (.tmp 37) = .slice A N ca := h0
          go_simp
          refine (HCO.out _ (X.out.trans hF)).mono ?_; rintro e w' ⟨A', c', rfl, ho, hx⟩; exact ⟨_, rfl, hx, own_low ho hF.size, fun q hq => own_new ho hq⟩
        · obtain ⟨h0, -⟩ := hs
          replace h0 : ρ (.tmp 12) = .slice (some ⟨ob, oo, none⟩) on oc := h0
          go_simp
          exact ⟨Ext.refl _, rfl, trivial⟩
        · obtain ⟨h0, -⟩ := hs
          replace h0 : ρ (.tmp 13) = .int .i64 ((k : Int)) := h0
          go_simp
          exact ⟨Ext.refl _, rfl, trivial⟩
        · obtain ⟨h0, h1, -⟩ := hs
          replace h0 : ρ (.tmp 39) = .slice (some ⟨ob, oo, none⟩) on oc := h0
          replace h1 : ρ (.tmp 40) = .int .i64 ((k : Int)) := h1
          have hb1 : (k : Int) < (on : Int) := by omega
          have hb3 : (0 : Int) ≤ (k : Int) := by omega
          have hb4 : ((k : Int)).toNat = k := by omega
          have hb8 : k < on := by omega
          go_simp
          exact ⟨Ext.refl _, rfl, trivial⟩
        · obtain ⟨h0, -⟩ := hs
          replace h0 : ρ (.tmp 41) = .pointer (some ⟨ob, oo + k * 3, none⟩) := h0
          have hc0 : W.cell? ⟨ob, oo + k * 3, none⟩ = some (.int .i64 x.j) := hF.cell (by assumption)
          have hc1 : W.cell? ⟨ob, oo + k * 3 + 1, none⟩ = some (.int .i64 x.a) := hF.cell (by assumption)
          have hc2 : W.cell? ⟨ob, oo + k * 3 + 2, none⟩ = some (.bool x.u) := hF.cell (by assumption)
          go_simp
          exact ⟨Ext.refl _, rfl, trivial⟩
        · obtain ⟨h0, -⟩ := hs
          replace h0 : ρ (.tmp 42) = .agg #[.int .i64 x.j, .int .i64 x.a, .bool x.u] := h0
          go_simp
          exact ⟨Ext.alloc _ _, ⟨_, rfl, Blk.new _ _ _⟩, trivial⟩
        · obtain ⟨h0, h1, -⟩ := hs
          replace h0 := h0
          replace h1 : (fun v W => ∃ q, v = .slice (some ⟨q, 0, none⟩) 1 1 ∧ Blk W q 68 #[.int .i64 x.j, .int .i64 x.a, .bool x.u]) (ρ (.tmp 43)) W := h1
          have ho : W.ownsRow V0.heap.size 68 3 (ρ (.tmp 38)) N (l.flatMap Sk.enc) := h0
          obtain ⟨A', c', hv⟩ := own_slice ho
          rw [hv] at ho
          obtain ⟨q, hq, hbk⟩ := h1
          refine rel_append (.tmp 38) (.tmp 43) 32 (by rfl) V0.heap.size 68 i0 (.agg #[.int .i64 0, .int .i64 0, .bool false]) 3 24 Tryz.underlying32 hi0 I0.out ha0 hb0 rfl (by decide) _ N _ hv ho ⟨q, 0, none⟩ 1 1 [.int .i64 x.j, .int .i64 x.a, .bool x.u] hq (by rfl) (World.news_of_block hbk) (by simp [Value.oneCell']) (by decide) (by unfold maxLen; omega) (by omega) hF.size ?_
          rintro g cap w' h2 h3 h4 h5
          exact ⟨Wr.ofOwn hv ho h3, ⟨g, cap, rfl, h2⟩, trivial⟩
        · obtain ⟨h0, -⟩ := hs
          replace h0 : ρ (.tmp 7) = .pointer (some ⟨w.heap.size + 1 + 1, 0, none⟩) := h0
          go_simp
          exact ⟨Ext.refl _, rfl, trivial⟩
        · obtain ⟨h0, -⟩ := hs
          replace h0 : ρ (.tmp 45) = .pointer (some ⟨w.heap.size + 1 + 1, 1, none⟩) := h0
          have hc0 : W.cell? ⟨w.heap.size + 1 + 1, 1, none⟩ = some (.int .i64 (t)) := hF.cell (by assumption)
          go_simp
          exact ⟨Ext.refl _, rfl, trivial⟩
        · obtain ⟨h0, h1, -⟩ := hs
          replace h0 : (fun v W => ∃ g c, v = .slice (some ⟨g, 0, none⟩) (N + 1) c ∧ W.ownsRow V0.heap.size 68 3 (.slice (some ⟨g, 0, none⟩) (N + 1) c) (N + 1) ((l.flatMap Sk.enc) ++ [.int .i64 x.j, .int .i64 x.a, .bool x.u])) (ρ (.tmp 44)) W := h0
          replace h1 : ρ (.tmp 46) = .int .i64 (t) := h1
          obtain ⟨g, c, hv, ho⟩ := h0
          replace hv : ρ (.tmp 44) = .slice (some ⟨g, 0, none⟩) (N + 1) c := hv
          go_simp
          exact ⟨Ext.refl _, ⟨g, c, rfl, ho⟩, trivial⟩
        · go_simp
          exact ⟨Ext.alloc _ _, ⟨_, rfl, hF.size, Blk.new _ _ _⟩, fun q h => by cases h; exact ⟨Nat.le_refl _, by simp⟩⟩
        · obtain ⟨h0, h1, -⟩ := hs
          replace h0 := h0
          replace h1 : (fun v W => ∃ g c, v = .agg #[.slice (some ⟨g, 0, none⟩) (N + 1) c, .int .i64 t] ∧ W.ownsRow V0.heap.size 68 3 (.slice (some ⟨g, 0, none⟩) (N + 1) c) (N + 1) ((l.flatMap Sk.enc) ++ [.int .i64 x.j, .int .i64 x.a, .bool x.u])) (ρ (.tmp 47)) W := h1
          obtain ⟨q, hq, hqs, hb⟩ := h0
          have hq0 : ρ (.tmp 14) = .pointer (some ⟨q, 0, none⟩) := hq
          obtain ⟨g, c, hv, ho⟩ := h1
          replace hv : ρ (.tmp 47) = .agg #[.slice (some ⟨g, 0, none⟩) (N + 1) c, .int .i64 t] := hv
          have f0 := hb.free 0
          have f1 := hb.free 1
          have c0 : W.cell? ⟨q, 0, none⟩ = some (.slice none 0 0) := hb.cell 0
          have c1 : W.cell? ⟨q, 1, none⟩ = some (.int .i64 0) := hb.cell 1
          have hne := own_notBlk ho hb (by decide)
          go_simp
          exact ⟨Wr.of hq hqs hb (gset (gset0 _ _ 0 _) 1 _), ⟨q, g, c, hq, hqs, (hb.setSame 0 _).setSame 1 _, own_set (own_set ho hne _) hne _⟩, trivial⟩
      · intro fv V2 hF hs hbs hap
        obtain ⟨-, -, -, -, -, -, -, -, -, -, -, -, -, hst0, -⟩ := hs
        obtain ⟨q14, g, cg, hq14, hl14, hb14, ho14⟩ := hst0
        replace hq14 : fv 14 = .pointer (some ⟨q14, 0, none⟩) := hq14
        have K14 := Lib.hid hb14
        have O14 := Lib.hid ho14
        clear hl14 hb14 ho14
        have XN := Lib.hid hF
        clear hF hbs hap
        simp only [fin, List.filterMap]
        go_simp
        try rw [hq14]
        clear hq14
        replace XR := Lib.hid (XR.out.trans XN.out)
        replace X := Lib.hid (X.out.trans XN.out)
        replace K0 := Lib.hid (K0.out.ext XN.out)
        replace K1 := Lib.hid (K1.out.ext XN.out)
        replace K2 := Lib.hid (K2.out.ext XN.out)
        have RN := Lib.hid (show RowsAt 3 Sk.enc V2 (some ⟨g, 0, none⟩) (l ++ [x]) from by
          have := O14.out
          rw [show l.flatMap Sk.enc ++ [.int .i64 x.j, .int .i64 x.a, .bool x.u] = (l ++ [x]).flatMap Sk.enc by simp [Sk.enc]] at this
          exact rows_own (by simp [HN.out]) (fun _ => rfl) this (by omega))
        have CC := Lib.hid (show (some (⟨g, 0, none⟩ : Addr)) = none → cg = 0 from fun h => by cases h)
        clear O14 XN y2_0 y2_1 z0 z1 z2
        have y0_0 : V2.cell? ⟨w.heap.size, 0, none⟩ = some (.int .i64 L) := K0.out.cell 0
        have y0_1 : V2.cell? ⟨w.heap.size, 1, none⟩ = some (.slice J n cj) := K0.out.cell 1
        have y0_2 : V2.cell? ⟨w.heap.size, 2, none⟩ = some (.slice K n ck) := K0.out.cell 2
        have y1_0 : V2.cell? ⟨w.heap.size + 1, 0, none⟩ = some (.slice P np cp) := K1.out.cell 0
        have y1_1 : V2.cell? ⟨w.heap.size + 1, 1, none⟩ = some (.int .i64 sp) := K1.out.cell 1
        have y1_2 : V2.cell? ⟨w.heap.size + 1, 2, none⟩ = some (.int .i64 ga) := K1.out.cell 2
        have y1_3 : V2.cell? ⟨w.heap.size + 1, 3, none⟩ = some (.int .i64 li) := K1.out.cell 3
        have y3_0 : V2.cell? ⟨q14, 0, none⟩ = some (.slice (some ⟨g, 0, none⟩) (N + 1) cg) := K14.out.cell 0
        have y3_1 : V2.cell? ⟨q14, 1, none⟩ = some (.int .i64 t) := K14.out.cell 1
        have HSX := Lib.hid (HSE.out _ X.out _ cg x RN.out)
        have HC1 := Lib.hid (fun W (e : Ext V2 W) h0 => HC.out W (some ⟨g, 0, none⟩) cg (X.out.trans e) h0 (RN.out.ext e) CC.out)
        clear HC RN CC
        generalize strokesE n am li (l ++ [x]) = se at *
        go_wp2_with (go_at_call 61; refine (HSX.out).mono ?_; rintro e W3 ⟨rfl, hx⟩; replace HC1 := Lib.hid (HC1.out _ hx); replace XR := Lib.hid (XR.out.trans hx); replace K0 := Lib.hid (K0.out.ext hx); replace K1 := Lib.hid (K1.out.ext hx); replace K2 := Lib.hid (K2.out.ext hx); replace K14 := Lib.hid (K14.out.ext hx); clear hx y0_0 y0_1 y0_2 y1_0 y1_1 y1_2 y1_3 y3_0 y3_1; refine Hid.out ?_)
        refine Lib.hid ?_
        by_cases hse : se = 0
        · subst hse
          have HC2 := Lib.hid (HC1.out rfl)
          have HGk := Lib.hid (show G k = g1 (l ++ [x]) k from by rw [HGK.out, if_neg (by simp)])
          clear HGK HC1 HSX
          replace HS := Lib.hid (by have := HS.out; rw [HGk.out] at this; exact this)
          generalize g1 (l ++ [x]) k = rr at *
          have y0_0 : W3.cell? ⟨w.heap.size, 0, none⟩ = some (.int .i64 L) := K0.out.cell 0
          have y0_1 : W3.cell? ⟨w.heap.size, 1, none⟩ = some (.slice J n cj) := K0.out.cell 1
          have y0_2 : W3.cell? ⟨w.heap.size, 2, none⟩ = some (.slice K n ck) := K0.out.cell 2
          have y1_0 : W3.cell? ⟨w.heap.size + 1, 0, none⟩ = some (.slice P np cp) := K1.out.cell 0
          have y1_1 : W3.cell? ⟨w.heap.size + 1, 1, none⟩ = some (.int .i64 sp) := K1.out.cell 1
          have y1_2 : W3.cell? ⟨w.heap.size + 1, 2, none⟩ = some (.int .i64 ga) := K1.out.cell 2
          have y1_3 : W3.cell? ⟨w.heap.size + 1, 3, none⟩ = some (.int .i64 li) := K1.out.cell 3
          have y3_0 : W3.cell? ⟨q14, 0, none⟩ = some (.slice (some ⟨g, 0, none⟩) (N + 1) cg) := K14.out.cell 0
          have y3_1 : W3.cell? ⟨q14, 1, none⟩ = some (.int .i64 t) := K14.out.cell 1
          cases rr with
          | none =>
            have HS2 := Lib.hid (show r = fsR G on (k + 1) from HS.out)
            clear HS
            go_wp2_with (go_at_call 39; refine (HC2.out).mono ?_; rintro e W5 ⟨A2, m2, c2, rfl, -, hx⟩; replace XR := Lib.hid (XR.out.trans hx); replace K0 := Lib.hid (K0.out.ext hx); replace K1 := Lib.hid (K1.out.ext hx); replace K2 := Lib.hid (K2.out.ext hx); clear hx y0_0 y0_1 y0_2 y1_0 y1_1 y1_2 y1_3 y3_0 y3_1)
            go_roundw
            case rel => exact ⟨k + 1, by omega, by go_num, HS2.out, XR.out, K0.out, K1.out, K2.out⟩
            case measure => simp [intOf]; omega
          | some p =>
            have HS2 := Lib.hid (show r = some p from HS.out)
            clear HS
            go_wp2_with (go_at_call 39; refine (HC2.out).mono ?_; rintro e W5 ⟨A2, m2, c2, rfl, hp, hx⟩; replace XR := Lib.hid (XR.out.trans hx); have HP := Lib.hid (hp p rfl); clear hx hp)
            go_ret2
            rw [HS2.out]
            exact ⟨A2, m2, c2, rfl, (fun p' h => by cases h; exact HP.out), XV.out.trans XR.out⟩
        · have HS2 := Lib.hid (show r = fsR G on (k + 1) from by have := HS.out; rw [HGK.out, if_pos (by simpa using hse)] at this; exact this)
          have hsb : (se != 0) = true := by simp [hse]
          clear HS HGK HC1 HSX hse
          go_wp2
          go_roundw
          case rel => exact ⟨k + 1, by omega, by go_num, HS2.out, XR.out, K0.out, K1.out, K2.out⟩
          case measure => simp [intOf]; omega
    · obtain rfl : on = k := by omega
      have hkn : ¬ (on : Int) < (on : Int) := by omega
      have HS := Lib.hid (show r = none from R.out.trans (fsR_end G on))
      go_wp2
      go_ret2
      rw [HS.out]
      exact ⟨none, 0, 0, rfl, (fun p h => by cases h), XV.out.trans XR.out⟩

end Go.Proofs.YtjdilmmpdlcimaaGreat

namespace Go.Proofs.YtjdilmmpdlcimaaGreat
open Go.RowKit Go.Shelf Go.Mem Go.RegInv
attribute [local go_sem] RelUpon_value RelUpon_skip RelUpon_enter BigFrame.eval_const BigFrame.eval_global BigFrame.eval_func


theorem fullB_nil (li : Int) (n : Nat) (h : 0 ≤ li) : fullB li [] n = false := by
  unfold fullB sumL
  rw [List.any_map, List.any_eq_false]
  intro j _
  simp [sumK, overB]
  omega
set_option maxRecDepth 100000 in
set_option maxHeartbeats 4000000 in
theorem grown_any {L : Int} {J K : Option Addr} {n cj ck : Nat} {js : List Int} {ks : List Rg} (hn : js.length = n) (hm : ks.length = n) {P : Option Addr} {np cp : Nat} {am : List Int} {sp ga li : Int} (hnp : am.length = np) {t : Int} (hjn : J = none → cj = 0) (hkn : K = none → ck = 0) (hs : ShOK L js ks) (hp : PrOK am sp ga li) {os : List Sk} (hos : optL am n = os) (hob : os.length ≤ 1000) (c : Nat) : ∀ {w : World} {A : Option Addr} {N ca f : Nat} {l : List Sk}, RowsAt 1 I1 w J js → RowsAt 2 Rg.enc w K ks → RowsAt 1 I1 w P am → l.length = N → RowsAt 3 Sk.enc w A l → (A = none → ca = 0) → N + c ≤ 4 → f ≤ os.length →
    Calls Tryz.prog 39 #[.agg #[.int .i64 L, .slice J n cj, .slice K n ck], .agg #[.slice P np cp, .int .i64 sp, .int .i64 ga, .int .i64 li], .agg #[.slice A N ca, .int .i64 t], .int .i64 (f : Int), .int .i64 (c : Int)] w (FiP (grnV n am li (planE L js ks am sp ga li t) os c l f) w) := by
  induction c with
  | zero =>
    intro w A N ca f l hJ hK hP hN hA hnil h4 hf
    exact grown_zero hn hJ hm hK hnp hP hN hA hnil hjn hkn hs hp (f : Int)
  | succ c ih =>
    intro w A N ca f l hJ hK hP hN hA hnil h4 hf
    rw [show ((c + 1 : Nat) : Int) = (c : Int) + 1 by omega]
    refine grown_succ (g1 := fun b i => grnV n am li (planE L js ks am sp ga li t) os c b i) hn hnp hP hN hA hnil hs hp hos rfl hf hob h4 ?_
    intro i x W A' c' hi hx e h0 hr hc
    exact ih (hJ.ext e) (hK.ext e) (hP.ext e) (by simp [hN]) hr hc (by omega) (by omega)
theorem refFewest_any {L : Int} {J K : Option Addr} {n cj ck : Nat} {js : List Int} {ks : List Rg} {w : World} (hn : js.length = n) (hJ : RowsAt 1 I1 w J js) (hm : ks.length = n) (hK : RowsAt 2 Rg.enc w K ks) {P : Option Addr} {np cp : Nat} {am : List Int} {sp ga li : Int} (hnp : am.length = np) (hP : RowsAt 1 I1 w P am) {t : Int} (hjn : J = none → cj = 0) (hkn : K = none → ck = 0) (hs : ShOK L js ks) (hp : PrOK am sp ga li) (ht : tolE t = 0) (hob : (optL am n).length ≤ 1000) :
    Calls Tryz.prog 15 #[.agg #[.int .i64 L, .slice J n cj, .slice K n ck], .agg #[.slice P np cp, .int .i64 sp, .int .i64 ga, .int .i64 li], .int .i64 t] w (FiP (fewRk n li (pfB ga sp t L js ks) (optL am n) 0) w) := by
  refine refFewest_of fun k hk W e => ?_
  have h1 := grown_any (A := none) (ca := 0) (f := 0) (l := []) (t := t) (cj := cj) (ck := ck) (cp := cp) hn hm hnp hjn hkn hs hp rfl hob k (hJ.ext e) (hK.ext e) (hP.ext e) (N := 0) rfl ⟨by simp, fun i x hx => by simp at hx⟩ (fun _ => rfl) (by omega) (by omega)
  have h2 := grn_srch (L := L) (js := js) (ks := ks) (sp := sp) (ga := ga) (li := li) ht (os := optL am n) (am := am) (fun i hi => by have := optL_StOK (am := am) (n := n) i hi; rw [hn]; exact this) k [] 0 (by simp; omega) (fun k hk => by simp at hk) (fullB_nil li js.length hp.li1.1)
  rw [hn] at h2
  rw [← h2]
  exact h1
set_option maxRecDepth 100000 in
set_option maxHeartbeats 4000000 in
theorem light_bad {L : Int} {J K : Option Addr} {n m cj ck : Nat} {js : List Int} {ks : List Rg} {w : World} (hn : js.length = n) (hJ : RowsAt 1 I1 w J js) (hm : ks.length = m) (hK : RowsAt 2 Rg.enc w K ks) {P : Option Addr} {np cp : Nat} {am : List Int} {sp ga li : Int} (hnp : am.length = np) (hP : RowsAt 1 I1 w P am) {z : Int} (hbe : (if (checkS L js ks).2 ≠ 0 then (checkS L js ks).2 else (checkP am sp ga li).2) = z) (hz : z ≠ 0) :
    Calls Tryz.prog 7 #[.agg #[.int .i64 L, .slice J n cj, .slice K m ck], .agg #[.slice P np cp, .int .i64 sp, .int .i64 ga, .int .i64 li]] w fun e w' => e = .returned (.bool true) ∧ Ext w w' := by
  have HBE := Lib.hid (fun W (e : Ext w W) => show Calls Tryz.prog 12 #[.agg #[.int .i64 L, .slice J n cj, .slice K m ck], .agg #[.slice P np cp, .int .i64 sp, .int .i64 ga, .int .i64 li]] W fun e w' => e = .returned (.int .i64 z) ∧ Ext W w' from by have := bothErr_any (cj := cj) (ck := ck) (cp := cp) (L := L) (sp := sp) (ga := ga) (li := li) hn (hJ.ext e) hm (hK.ext e) hnp (hP.ext e); rw [hbe] at this; exact this)
  have hz2 : (z != 0) = true := by simp [hz]
  clear hn hJ hm hK hnp hP hbe hz
  obtain ⟨W0, hW0⟩ : ∃ W0, W0 = (w.alloc (.cells #[.int .i64 L, .slice J n cj, .slice K m ck] 25)).alloc (.cells #[.slice P np cp, .int .i64 sp, .int .i64 ga, .int .i64 li] 27) := ⟨_, rfl⟩
  have K0 := Lib.hid (show Blk W0 (w.heap.size) 25 #[.int .i64 L, .slice J n cj, .slice K m ck] by rw [hW0]; exact (Blk.new _ _ _).alloc _)
  have K1 := Lib.hid (show Blk W0 (w.heap.size + 1) 27 #[.slice P np cp, .int .i64 sp, .int .i64 ga, .int .i64 li] by rw [hW0]; exact Blk.newAt _ _ _ (by simp))
  have E0 := Lib.hid (show Ext w W0 by rw [hW0]; exact (Ext.alloc _ _).trans (Ext.alloc _ _))
  have y0_0 : W0.cell? ⟨w.heap.size, 0, none⟩ = some (.int .i64 L) := K0.out.cell 0
  have y0_1 : W0.cell? ⟨w.heap.size, 1, none⟩ = some (.slice J n cj) := K0.out.cell 1
  have y0_2 : W0.cell? ⟨w.heap.size, 2, none⟩ = some (.slice K m ck) := K0.out.cell 2
  have y1_0 : W0.cell? ⟨w.heap.size + 1, 0, none⟩ = some (.slice P np cp) := K1.out.cell 0
  have y1_1 : W0.cell? ⟨w.heap.size + 1, 1, none⟩ = some (.int .i64 sp) := K1.out.cell 1
  have y1_2 : W0.cell? ⟨w.heap.size + 1, 2, none⟩ = some (.int .i64 ga) := K1.out.cell 2
  have y1_3 : W0.cell? ⟨w.heap.size + 1, 3, none⟩ = some (.int .i64 li) := K1.out.cell 3
  go_enter Tryz.func7, Tryz.ntmps7
  go_upto_region 1 with (fail)
  rw [← hW0]
  clear hW0
  go_wp2_with (go_at_call 12; refine (HBE.out _ E0.out).mono ?_; rintro e W1 ⟨rfl, hx⟩; replace E0 := Lib.hid (E0.out.trans hx); clear hx y0_0 y0_1 y0_2 y1_0 y1_1 y1_2 y1_3)
  go_ret
  exact ⟨rfl, E0.out⟩
set_option maxRecDepth 100000 in
set_option maxHeartbeats 4000000 in
theorem boundOf_bad {L : Int} {J K : Option Addr} {n m cj ck : Nat} {js : List Int} {ks : List Rg} {w : World} (hn : js.length = n) (hJ : RowsAt 1 I1 w J js) (hm : ks.length = m) (hK : RowsAt 2 Rg.enc w K ks) {P : Option Addr} {np cp : Nat} {am : List Int} {sp ga li : Int} (hnp : am.length = np) (hP : RowsAt 1 I1 w P am) {t z : Int} (hz0 : bndE L js ks am sp ga li t = z) (hz : z ≠ 0) :
    Calls Tryz.prog 11 #[.agg #[.int .i64 L, .slice J n cj, .slice K m ck], .agg #[.slice P np cp, .int .i64 sp, .int .i64 ga, .int .i64 li], .int .i64 t] w fun e w' => e = .returned (.tuple #[.int .i64 0, .int .i64 0, .int .i64 z]) ∧ Ext w w' := by
  have HSE := Lib.hid (fun W (e : Ext w W) => shaftError_any (cj := cj) (ck := ck) (L := L) hn (hJ.ext e) hm (hK.ext e))
  have HPE := Lib.hid (fun W (e : Ext w W) => pressError_any (cp := cp) (sp := sp) (ga := ga) (li := li) hnp (hP.ext e))
  have HT2 := Lib.hid (show firstE [(checkS L js ks).2, (checkP am sp ga li).2, tolE t] = z from hz0)
  have hzb : (z != 0) = true := by simp [hz]
  generalize (checkS L js ks).2 = z1 at *
  generalize (checkP am sp ga li).2 = z2 at *
  clear hn hJ hm hK hnp hP hz0 hz
  obtain ⟨W0, hW0⟩ : ∃ W0, W0 = (w.alloc (.cells #[.int .i64 L, .slice J n cj, .slice K m ck] 25)).alloc (.cells #[.slice P np cp, .int .i64 sp, .int .i64 ga, .int .i64 li] 27) := ⟨_, rfl⟩
  have K0 := Lib.hid (show Blk W0 (w.heap.size) 25 #[.int .i64 L, .slice J n cj, .slice K m ck] by rw [hW0]; exact (Blk.new _ _ _).alloc _)
  have K1 := Lib.hid (show Blk W0 (w.heap.size + 1) 27 #[.slice P np cp, .int .i64 sp, .int .i64 ga, .int .i64 li] by rw [hW0]; exact Blk.newAt _ _ _ (by simp))
  have E0 := Lib.hid (show Ext w W0 by rw [hW0]; exact (Ext.alloc _ _).trans (Ext.alloc _ _))
  have y0_0 : W0.cell? ⟨w.heap.size, 0, none⟩ = some (.int .i64 L) := K0.out.cell 0
  have y0_1 : W0.cell? ⟨w.heap.size, 1, none⟩ = some (.slice J n cj) := K0.out.cell 1
  have y0_2 : W0.cell? ⟨w.heap.size, 2, none⟩ = some (.slice K m ck) := K0.out.cell 2
  have y1_0 : W0.cell? ⟨w.heap.size + 1, 0, none⟩ = some (.slice P np cp) := K1.out.cell 0
  have y1_1 : W0.cell? ⟨w.heap.size + 1, 1, none⟩ = some (.int .i64 sp) := K1.out.cell 1
  have y1_2 : W0.cell? ⟨w.heap.size + 1, 2, none⟩ = some (.int .i64 ga) := K1.out.cell 2
  have y1_3 : W0.cell? ⟨w.heap.size + 1, 3, none⟩ = some (.int .i64 li) := K1.out.cell 3
  go_enter Tryz.func11, Tryz.ntmps11
  go_upto_region 1 with (fail)
  rw [← hW0]
  clear hW0
  refine wp_region_each [some 15, some 16, some 17, some 18, some 19, some 20, some 21, some 22, some 9] [[3], [15], [4], [17], [2], [19], [16, 18, 20], [21], [22]]
    [Is (.agg #[.int .i64 L, .slice J n cj, .slice K m ck]), Is (.int .i64 (z1)), Is (.agg #[.slice P np cp, .int .i64 sp, .int .i64 ga, .int .i64 li]), Is (.int .i64 (z2)), Is (.int .i64 (t)), Is (.int .i64 (tolE t)), Ints [z1, z2, tolE t], Is (.int .i64 (firstE [z1, z2, tolE t])), Is (.int .i64 (firstE [z1, z2, tolE t]))]
    (by kernel_rfl) (by kernel_rfl) (by kernel_rfl) (by kernel_rfl) (by kernel_rfl) Ext (fun W => Ext W0 W)
    (fun W _ => Ext.refl W) (fun W W' h k => h.trans k) ?_ (Ext.drew _) ?_ ?_
  · repeat (refine ⟨fun _ _ _ _ k h => (by first | exact h | exact (IntsAt.ext h k)), ?_⟩)
    exact trivial
  · refine ⟨?_, ?_, ?_, ?_, ?_, ?_, ?_, ?_, ?_, trivial⟩
    all_goals intro ρ W ⟨kc, kg, kf⟩ hF hs
    · obtain ⟨h0, -⟩ := hs
      replace h0 : ρ (.tmp 3) = .pointer (some ⟨w.heap.size, 0, none⟩) := h0
      have hc0 : W.cell? ⟨w.heap.size, 0, none⟩ = some (.int .i64 L) := hF.cell (by assumption)
      have hc1 : W.cell? ⟨w.heap.size, 1, none⟩ = some (.slice J n cj) := hF.cell (by assumption)
      have hc2 : W.cell? ⟨w.heap.size, 2, none⟩ = some (.slice K m ck) := hF.cell (by assumption)
      go_simp
      exact ⟨Ext.refl _, rfl⟩
    · obtain ⟨h0, -⟩ := hs
      replace h0 : ρ (.tmp 15) = .agg #[.int .i64 L, .slice J n cj, .slice K m ck] := h0
      go_simp
      refine (HSE.out _ (E0.out.trans hF)).mono ?_; rintro e w' ⟨rfl, hx⟩; exact ⟨_, rfl, hx, rfl⟩
    · obtain ⟨h0, -⟩ := hs
      replace h0 : ρ (.tmp 4) = .pointer (some ⟨w.heap.size + 1, 0, none⟩) := h0
      have hc0 : W.cell? ⟨w.heap.size + 1, 0, none⟩ = some (.slice P np cp) := hF.cell (by assumption)
      have hc1 : W.cell? ⟨w.heap.size + 1, 1, none⟩ = some (.int .i64 sp) := hF.cell (by assumption)
      have hc2 : W.cell? ⟨w.heap.size + 1, 2, none⟩ = some (.int .i64 ga) := hF.cell (by assumption)
      have hc3 : W.cell? ⟨w.heap.size + 1, 3, none⟩ = some (.int .i64 li) := hF.cell (by assumption)
      go_simp
      exact ⟨Ext.refl _, rfl⟩
    · obtain ⟨h0, -⟩ := hs
      replace h0 : ρ (.tmp 17) = .agg #[.slice P np cp, .int .i64 sp, .int .i64 ga, .int .i64 li] := h0
      go_simp
      refine (HPE.out _ (E0.out.trans hF)).mono ?_; rintro e w' ⟨rfl, hx⟩; exact ⟨_, rfl, hx, rfl⟩
    · obtain ⟨h0, -⟩ := hs
      replace h0 : ρ (.tmp 2) = .int .i64 (t) := h0
      go_simp
      exact ⟨Ext.refl _, rfl⟩
    · obtain ⟨h0, -⟩ := hs
      replace h0 : ρ (.tmp 19) = .int .i64 (t) := h0
      go_simp
      refine (toleranceError_any _ _).mono ?_; rintro e w' ⟨rfl, hx⟩; exact ⟨_, rfl, hx, rfl⟩
    · obtain ⟨h0, h1, h2, -⟩ := hs
      replace h0 : ρ (.tmp 16) = .int .i64 (z1) := h0
      replace h1 : ρ (.tmp 18) = .int .i64 (z2) := h1
      replace h2 : ρ (.tmp 20) = .int .i64 (tolE t) := h2
      go_simp
      exact ⟨Ext.alloc _ _, ints_new _ [z1, z2, tolE t] _ (by simp)⟩
    · obtain ⟨h0, -⟩ := hs
      replace h0 : (Ints [z1, z2, tolE t]) (ρ (.tmp 21)) W := h0
      go_simp
      refine (firstOf_any _ _ _ h0).mono ?_; rintro e w' ⟨rfl, rfl⟩; exact ⟨_, rfl, Ext.refl _, rfl⟩
    · obtain ⟨h0, -⟩ := hs
      replace h0 : ρ (.tmp 22) = .int .i64 (firstE [z1, z2, tolE t]) := h0
      go_simp
      exact ⟨Ext.refl _, rfl⟩
  · intro fv W1 hF hs
    obtain ⟨-, -, -, -, -, -, -, -, h9, -⟩ := hs
    replace h9 : fv 9 = .int .i64 (firstE [z1, z2, tolE t]) := h9
    simp only [fin, List.filterMap]
    go_simp
    rw [HT2.out]
    go_wp2
    go_ret3
    exact ⟨rfl, E0.out.trans hF⟩

end Go.Proofs.YtjdilmmpdlcimaaGreat
