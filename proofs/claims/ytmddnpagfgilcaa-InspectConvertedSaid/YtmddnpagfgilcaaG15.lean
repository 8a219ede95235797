/- ref.ConvertedTraverse. -/
import Derived.Test.YtmddnpagfgilcaaG14
import Derived.Lib.MinMax
import Derived.Deep.DeepCutAuto
import Derived.Laws.OwnMore

namespace Go.Proofs.Ytmddnpagfgilcaa
open Go.RowKit Go.Shelf Go.Mem Go.RegInv
attribute [local go_sem] RelUpon_value RelUpon_skip RelUpon_enter BigFrame.eval_const BigFrame.eval_global BigFrame.eval_func


theorem flat_at : ∀ (zs : List In) (k : Nat) (x : In) (j : Nat) (u : Value), zs[k]? = some x → (In.enc x)[j]? = some u → (zs.flatMap In.enc)[k * 4 + j]? = some u
  | [], k, x, j, u, h, _ => by simp at h
  | y :: zs, 0, x, j, u, h, hu => by
    obtain rfl : y = x := by simpa using h
    have hj := (List.getElem?_eq_some_iff.1 hu).1
    rw [List.flatMap_cons, List.getElem?_append_left (by omega)]
    simpa using hu
  | y :: zs, k + 1, x, j, u, h, hu => by
    rw [List.flatMap_cons, List.getElem?_append_right (by simp [In.enc]; omega), show (In.enc y).length = 4 from rfl, show (k + 1) * 4 + j - 4 = k * 4 + j by omega]
    exact flat_at zs k x j u (by simpa using h) hu
theorem flat_set2 (lo hi : Int) : ∀ (zs : List In) (k : Nat) (x : In), zs[k]? = some x → ((zs.flatMap In.enc).set (k * 4 + 2) (.int .i64 lo)).set (k * 4 + 3) (.int .i64 hi) = (zs.set k ⟨x.d, x.g, lo, hi⟩).flatMap In.enc
  | [], k, x, h => by simp at h
  | y :: zs, 0, x, h => by
    obtain rfl : y = x := by simpa using h
    simp [In.enc]
  | y :: zs, k + 1, x, h => by
    have ih := flat_set2 lo hi zs k x (by simpa using h)
    rw [List.set_cons_succ, List.flatMap_cons, List.flatMap_cons, ← ih, show (k + 1) * 4 + 2 = k * 4 + 2 + 1 + 1 + 1 + 1 by omega, show (k + 1) * 4 + 3 = k * 4 + 3 + 1 + 1 + 1 + 1 by omega]
    simp [In.enc]
theorem mE_in {f0 f1 a b : Int} (h : withinB a f0 f1 = false ∨ withinB b f0 f1 = false) : missE f0 f1 a b = 6 := by
  unfold missE rangeE errIf outB
  rw [withinB_eq, withinB_eq] at h
  simp only [decide_eq_false_iff_not] at h
  have : ([a, b].any fun v => decide (v < f0) || decide (f1 < v)) = true := by
    simp only [List.any_cons, List.any_nil, Bool.or_false, Bool.or_eq_true, decide_eq_true_eq]
    omega
  simp [this]
theorem mE_ok {f0 f1 a b : Int} (h1 : withinB a f0 f1 = true) (h2 : withinB b f0 f1 = true) : missE f0 f1 a b = 0 := by
  rw [withinB_eq] at h1 h2
  have h1 := of_decide_eq_true h1
  have h2 := of_decide_eq_true h2
  unfold missE
  rw [rangeE_ok (fun v hv => by
      simp only [List.mem_cons, List.not_mem_nil, or_false] at hv
      rcases hv with rfl | rfl
      · exact h1
      · exact h2)]
  rfl
/-- The first k rows new, the others old. -/
def mix {α : Type} (ys xs : List α) (k : Nat) : List α := ys.take k ++ xs.drop k
theorem mix_at {α : Type} {ys xs : List α} {k : Nat} {x : α} (hl : ys.length = xs.length) (hx : xs[k]? = some x) : (mix ys xs k)[k]? = some x := by
  have hk := (List.getElem?_eq_some_iff.1 hx).1
  unfold mix
  rw [List.getElem?_append_right (by simp; omega), List.length_take, show k - min k ys.length = 0 by omega, List.getElem?_drop]
  simpa using hx
theorem mix_step {α : Type} {ys xs : List α} {k : Nat} {y : α} (hl : ys.length = xs.length) (hy : ys[k]? = some y) : (mix ys xs k).set k y = mix ys xs (k + 1) := by
  have hk := (List.getElem?_eq_some_iff.1 hy).1
  unfold mix
  rw [List.set_append_right _ _ (by simp; omega), List.length_take, show k - min k ys.length = 0 by omega, List.drop_eq_getElem_cons (by omega), List.set_cons_zero, List.take_add_one, hy]
  simp
theorem mix_len {α : Type} {ys xs : List α} {k : Nat} (hl : ys.length = xs.length) (hk : k ≤ xs.length) : (mix ys xs k).length = xs.length := by
  unfold mix; simp; omega
theorem mix_zero {α : Type} (ys xs : List α) : mix ys xs 0 = xs := by simp [mix]
theorem mix_all {α : Type} {ys xs : List α} {n : Nat} (hl : ys.length = n) (hn : xs.length = n) : mix ys xs n = ys := by
  unfold mix
  rw [List.drop_of_length_le (by omega), List.take_of_length_le (by omega)]; simp

set_option maxRecDepth 100000 in
set_option maxHeartbeats 8000000 in
theorem refConvT_any {A : Option Addr} {b o : Nat} {n m ca cb : Nat} {ks : List Kn} {xs : List In} {w : World} (hn : ks.length = n) (hm : xs.length = m) (hA : RowsAt 3 Kn.enc w A ks) (hB : RowsAt 4 In.enc w (some ⟨b, o, none⟩) xs) (hz : (checkX ks).2 = 0) (h1 : 0 < m) (h2 : m ≤ 100) : Calls Try.prog 44 #[.agg #[.slice A n ca], .agg #[.slice (some ⟨b, o, none⟩) m cb]] w fun e w' => ((firstAt (missAt ks xs) m 0).2 = 0 → ∃ A' c', e = .returned (.tuple #[.agg #[.slice A' m c'], .int .i64 0, .int .i64 0]) ∧ RowsAt 4 In.enc w' A' (xs.map (cvI ks))) ∧ ((firstAt (missAt ks xs) m 0).2 ≠ 0 → e = .returned (.tuple #[.agg #[.slice none 0 0], .int .i64 (firstAt (missAt ks xs) m 0).1, .int .i64 (firstAt (missAt ks xs) m 0).2])) ∧ Ext w w' := by
  obtain ⟨n2, n12, -, -⟩ := checkX_ok hz
  rw [hn] at n2 n12
  have HCP := Lib.hid (fun W (e : Ext w W) => copyTraverse_own (ca := cb) hm (hB.ext e) (by omega))
  have HIN := Lib.hid (fun v W (e : Ext w W) => refIsIn_any (ca := ca) v hn (hA.ext e) (getK (xs := ks) (i := 0) (by omega)) (getK (xs := ks) (i := n - 1) (by omega)))
  have HCV := Lib.hid (fun W (e : Ext w W) (x : In) (h1 : withinB x.lo (ks.getD 0 default).f (ks.getD (n - 1) default).f = true) (h2 : withinB x.hi (ks.getD 0 default).f (ks.getD (n - 1) default).f = true) => show Calls Try.prog 40 #[.agg #[.slice A n ca], .agg #[.int .i64 x.lo, .int .i64 x.hi]] W fun e w' => e = .returned (.agg #[.int .i64 (cvI ks x).lo, .int .i64 (cvI ks x).hi]) ∧ Ext W w' from by
    rw [withinB_eq] at h1 h2
    exact refConverted_any (ca := ca) x.lo x.hi hn (hA.ext e) hz (of_decide_eq_true h1) (of_decide_eq_true h2))
  have HMS := Lib.hid (fun k (x : In) (hx : xs[k]? = some x) => show missAt ks xs k = missE (ks.getD 0 default).f (ks.getD (n - 1) default).f x.lo x.hi by
    unfold missAt; rw [hn, show xs.getD k default = x by rw [List.getD_eq_getElem?_getD, hx]; rfl])
  have HB := Lib.hid hB
  have HM := Lib.hid hm
  have HYL := Lib.hid (show (xs.map (cvI ks)).length = xs.length by simp)
  obtain ⟨fa, hfa⟩ : ∃ fa, fa = firstAt (missAt ks xs) m 0 := ⟨_, rfl⟩
  have HFA := Lib.hid (show fa = firstAt (missAt ks xs) (m - 0) 0 from hfa)
  rw [← hfa]
  clear hn hm hA hB hz hfa
  obtain ⟨W0, hW0⟩ : ∃ W0, W0 = ((w.alloc (.cells #[.slice A n ca] 64)).alloc (.cells #[.slice (some ⟨b, o, none⟩) m cb] 24)).alloc (.cells #[.slice none 0 0] 24) := ⟨_, rfl⟩
  have K0 := Lib.hid (show Blk W0 w.heap.size 64 #[.slice A n ca] by rw [hW0]; exact ((Blk.new _ _ _).alloc _).alloc _)
  have K1 := Lib.hid (show Blk W0 (w.heap.size + 1) 24 #[.slice (some ⟨b, o, none⟩) m cb] by rw [hW0]; exact (Blk.newAt _ _ _ (by simp)).alloc _)
  have K2 := Lib.hid (show Blk W0 (w.heap.size + 1 + 1) 24 #[.slice none 0 0] by rw [hW0]; exact Blk.newAt _ _ _ (by simp))
  have E0 := Lib.hid (show Ext w W0 by rw [hW0]; exact ((Ext.alloc _ _).trans (Ext.alloc _ _)).trans (Ext.alloc _ _))
  have y0 : W0.cell? ⟨w.heap.size, 0, none⟩ = some (.slice A n ca) := K0.out.cell 0
  have y1 : W0.cell? ⟨w.heap.size + 1, 0, none⟩ = some (.slice (some ⟨b, o, none⟩) m cb) := K1.out.cell 0
  have y1' : ∀ o1, (W0.alloc o1).cell? ⟨w.heap.size + 1, 0, none⟩ = some (.slice (some ⟨b, o, none⟩) m cb) := fun o1 => (K1.out.alloc o1).cell 0
  go_enter Try.func44, Try.ntmps44
  go_wp2_with (fail)
  rw [← hW0]
  have SZ0 := Lib.hid (show w.heap.size + 1 + 1 < W0.heap.size from K2.out.lt)
  clear hW0
  go_wp2_with (go_at_call 16; refine (HCP.out _ E0.out).mono ?_; rintro e W1 ⟨A', c', B, rfl, ho, hsz, hx⟩; have O := Lib.hid ho; have SB := Lib.hid hsz; have X := Lib.hid hx; clear ho hsz hx y0 y1 y1'; refine Hid.out ?_)
  refine Lib.hid ?_
  obtain ⟨g, c2, cu, hsl, hbg, -, hblk, -⟩ := own_cells O.out (by omega)
  obtain ⟨rfl, rfl⟩ : A' = some ⟨g, 0, none⟩ ∧ c' = c2 := by simpa using hsl
  have HBG := Lib.hid hbg
  have SG := Lib.hid (show g < W1.heap.size from hblk.lt)
  clear hsl hblk hbg
  go_upto_region 2 with (fail)
  obtain ⟨W2, hW2⟩ : ∃ V, V = W1.alloc (.cells #[.slice (some ⟨g, 0, none⟩) m c'] 24) := ⟨_, rfl⟩
  obtain ⟨q7, hq7⟩ : ∃ q, q = W1.heap.size := ⟨_, rfl⟩
  rw [← hW2, ← hq7]
  have K7 := Lib.hid (show Blk W2 q7 24 #[.slice (some ⟨g, 0, none⟩) m c'] by rw [hW2, hq7]; exact Blk.new _ _ _)
  have hx : Ext W1 W2 := by rw [hW2]; exact Ext.alloc _ _
  have X2 := Lib.hid (X.out.trans hx)
  have O := Lib.hid (own_ext O.out hx)
  have SG := Lib.hid (show g < q7 by rw [hq7]; exact SG.out)
  clear hx hW2 hq7
  go_wp2
  go_loopw [8] (fun i wr => ∃ k : Nat, k ≤ m ∧ i = .int .i64 k ∧ Ext W0 wr ∧ Blk wr q7 24 #[.slice (some ⟨g, 0, none⟩) m c'] ∧ wr.ownsRow B 43 4 (.slice (some ⟨g, 0, none⟩) m c') m ((mix (xs.map (cvI ks)) xs k).flatMap In.enc) ∧ fa = firstAt (missAt ks xs) (m - k) k) (fun i _ => m - (intOf i).toNat)
  case atStart => exact ⟨0, Nat.zero_le _, rfl, X2.out, K7.out, by rw [mix_zero]; exact O.out, HFA.out⟩
  case round =>
    obtain ⟨k, hk, rfl, hx, hb7, ho, hfa⟩ := hrel
    have XR := Lib.hid hx
    have XU := Lib.hid (E0.out.trans hx)
    have K0r := Lib.hid (K0.out.ext hx)
    have K1r := Lib.hid (K1.out.ext hx)
    have K2r := Lib.hid (K2.out.ext hx)
    have K7r := Lib.hid hb7
    have OR := Lib.hid ho
    have HF := Lib.hid hfa
    clear hx hb7 ho hfa
    have y1 : wr.cell? ⟨w.heap.size + 1, 0, none⟩ = some (.slice (some ⟨b, o, none⟩) m cb) := K1r.out.cell 0
    by_cases hlt : k < m
    · obtain ⟨x, hxk⟩ : ∃ x, xs[k]? = some x := ⟨_, List.getElem?_eq_getElem (by have := HM.out; omega)⟩
      obtain ⟨b2, o2, he, -, hc⟩ := row_at (HB.out.ext XU.out) hxk
      obtain ⟨rfl, rfl⟩ : b = b2 ∧ o = o2 := by simpa using he
      have p2 : wr.cell? ⟨b, o + k * 4 + 2, none⟩ = some (.int .i64 x.lo) := hc 2 _ rfl
      have p3 : wr.cell? ⟨b, o + k * 4 + 3, none⟩ = some (.int .i64 x.hi) := hc 3 _ rfl
      have p32 : wr.cell? ⟨b, o + k * 4 + 2 + 1, none⟩ = some (.int .i64 x.hi) := p3
      have HST := Lib.hid (HF.out.trans (firstAt_step _ hlt))
      rw [HMS.out k x hxk] at HST
      have HI1 := Lib.hid (fun W e => HIN.out x.lo W e)
      have HI2 := Lib.hid (fun W e => HIN.out x.hi W e)
      have HCX := Lib.hid (fun W e => HCV.out W e x)
      have HMI := Lib.hid (fun h => mE_in (a := x.lo) (b := x.hi) (f0 := (ks.getD 0 default).f) (f1 := (ks.getD (n - 1) default).f) h)
      have HMO := Lib.hid (fun h h' => mE_ok (a := x.lo) (b := x.hi) (f0 := (ks.getD 0 default).f) (f1 := (ks.getD (n - 1) default).f) h h')
      have HXK := Lib.hid hxk
      generalize withinB x.lo (ks.getD 0 default).f (ks.getD (n - 1) default).f = b1 at *
      generalize withinB x.hi (ks.getD 0 default).f (ks.getD (n - 1) default).f = b2 at *
      generalize missE (ks.getD 0 default).f (ks.getD (n - 1) default).f x.lo x.hi = me at *
      clear hc he hxk
      have hlt2 : (k : Int) < (m : Int) := by omega
      have hbk : ((k : Int)).toNat = k := by omega
      go_upto_region 6 with (fail)
      obtain ⟨U, hU⟩ : ∃ V, V = wr.alloc (.cells #[.int .i64 x.lo, .int .i64 x.hi] 41) := ⟨_, rfl⟩
      obtain ⟨q9, hq9⟩ : ∃ q, q = wr.heap.size := ⟨_, rfl⟩
      rw [← hU, ← hq9]
      have K9 := Lib.hid (show Blk U q9 41 #[.int .i64 x.lo, .int .i64 x.hi] by rw [hU, hq9]; exact Blk.new _ _ _)
      have hx : Ext wr U := by rw [hU]; exact Ext.alloc _ _
      have XR := Lib.hid (XR.out.trans hx)
      have XU := Lib.hid (XU.out.trans hx)
      have K0r := Lib.hid (K0r.out.ext hx)
      have K2r := Lib.hid (K2r.out.ext hx)
      have K7r := Lib.hid (K7r.out.ext hx)
      have OR := Lib.hid (own_ext OR.out hx)
      clear hx hU hq9 y1 p2 p3 p32 K1r
      have y0 : U.cell? ⟨w.heap.size, 0, none⟩ = some (.slice A n ca) := K0r.out.cell 0
      have l0 : U.cell? ⟨q9, 0, none⟩ = some (.int .i64 x.lo) := K9.out.cell 0
      have l1 : U.cell? ⟨q9, 1, none⟩ = some (.int .i64 x.hi) := K9.out.cell 1
      cases b1 with
      | false =>
        have HV := Lib.hid (show fa = ((k : Int), 6) by rw [HST.out, HMI.out (Or.inl rfl)]; rfl)
        clear HST HMI HMO
        have y0' := y0
        go_wp2_with (first
          | (go_at_call 39; (with_reducible refine (HI1.out _ XU.out).mono ?_); rintro e U1 ⟨rfl, hx⟩; have X1 := Lib.hid (XU.out.trans hx); have K2a := Lib.hid (K2r.out.ext hx); have y0 : U1.cell? ⟨w.heap.size, 0, none⟩ = some (.slice A n ca) := (K0r.out.ext hx).cell 0; have l1 := hx.cell l1; clear hx; refine Hid.out ?_))
        refine Lib.hid ?_
        have f0 := K2a.out.free 0
        have c0 : U1.cell? ⟨w.heap.size + 1 + 1, 0, none⟩ = some (.slice none 0 0) := K2a.out.cell 0
        go_wp2
        exact bodyPost_ret (v := .tuple #[.agg #[.slice none 0 0], .int .i64 k, .int .i64 6]) (by simp [results, Try.f44, go_sem, c0]) rfl ⟨fun h => absurd h (by rw [HV.out]; simp), fun _ => by rw [HV.out], Ext.set X1.out (by dsimp only; omega) _⟩
      | true =>
        cases b2 with
        | false =>
          have HV := Lib.hid (show fa = ((k : Int), 6) by rw [HST.out, HMI.out (Or.inr rfl)]; rfl)
          clear HST HMI HMO
          have y0' := y0
          go_wp2_with (first
            | (go_at_call 39; (with_reducible refine (HI1.out _ XU.out).mono ?_); rintro e U1 ⟨rfl, hx⟩; have X1 := Lib.hid (XU.out.trans hx); have K2a := Lib.hid (K2r.out.ext hx); have y0 : U1.cell? ⟨w.heap.size, 0, none⟩ = some (.slice A n ca) := (K0r.out.ext hx).cell 0; have l1 := hx.cell l1; have XX := Lib.hid hx; clear hx; refine Hid.out ?_))
          refine Lib.hid ?_
          go_wp2_with (go_at_call 39; refine (HI2.out _ X1.out).mono ?_; rintro e U2 ⟨rfl, hx⟩; have X2a := Lib.hid (X1.out.trans hx); have K2b := Lib.hid (K2a.out.ext hx); clear hx; refine Hid.out ?_)
          refine Lib.hid ?_
          have f0 := K2b.out.free 0
          have c0 : U2.cell? ⟨w.heap.size + 1 + 1, 0, none⟩ = some (.slice none 0 0) := K2b.out.cell 0
          go_wp2
          exact bodyPost_ret (v := .tuple #[.agg #[.slice none 0 0], .int .i64 k, .int .i64 6]) (by simp [results, Try.f44, go_sem, c0]) rfl ⟨fun h => absurd h (by rw [HV.out]; simp), fun _ => by rw [HV.out], Ext.set X2a.out (by dsimp only; omega) _⟩
        | true =>
          have HV := Lib.hid (show fa = firstAt (missAt ks xs) (m - (k + 1)) (k + 1) by rw [HST.out, HMO.out rfl rfl]; rfl)
          have HCY := Lib.hid (fun W (e : Ext w W) => show Calls Try.prog 40 #[.agg #[.slice A n ca], .agg #[.int .i64 x.lo, .int .i64 x.hi]] W fun e w' => e = .returned (.agg #[.int .i64 (cvI ks x).lo, .int .i64 (cvI ks x).hi]) ∧ Ext W w' from HCX.out W e rfl rfl)
          clear HST HMI HMO HCX
          go_wp2_with (go_at_call 39; refine (HI1.out _ XU.out).mono ?_; rintro e U1 ⟨rfl, hx⟩; have XU := Lib.hid (XU.out.trans hx); have XR := Lib.hid (XR.out.trans hx); have K0r := Lib.hid (K0r.out.ext hx); have K2r := Lib.hid (K2r.out.ext hx); have K7r := Lib.hid (K7r.out.ext hx); have K9 := Lib.hid (K9.out.ext hx); have OR := Lib.hid (own_ext OR.out hx); have y0 := hx.cell y0; have l1 := hx.cell l1; clear hx l0; refine Hid.out ?_)
          refine Lib.hid ?_
          go_wp2_with (go_at_call 39; refine (HI2.out _ XU.out).mono ?_; rintro e U ⟨rfl, hx⟩; have XU := Lib.hid (XU.out.trans hx); have XR := Lib.hid (XR.out.trans hx); have K0r := Lib.hid (K0r.out.ext hx); have K2r := Lib.hid (K2r.out.ext hx); have K7r := Lib.hid (K7r.out.ext hx); have K9 := Lib.hid (K9.out.ext hx); have OR := Lib.hid (own_ext OR.out hx); clear hx y0 l1; refine Hid.out ?_)
          refine Lib.hid ?_
          have y0 : U.cell? ⟨w.heap.size, 0, none⟩ = some (.slice A n ca) := K0r.out.cell 0
          have l0 : U.cell? ⟨q9, 0, none⟩ = some (.int .i64 x.lo) := K9.out.cell 0
          have l1 : U.cell? ⟨q9, 1, none⟩ = some (.int .i64 x.hi) := K9.out.cell 1
          have z7 : U.cell? ⟨q7, 0, none⟩ = some (.slice (some ⟨g, 0, none⟩) m c') := K7r.out.cell 0
          go_wp2
          refine wp_region_partR 8 [some 39, some 40, some 41, some 42, some 43, some 44, some 45, some 46] [[7], [39], [8], [2], [9], [42, 43], [40, 41], [45]]
            [Is (.pointer (some ⟨q7, 0, none⟩)), Is (.slice (some ⟨g, 0, none⟩) m c'), Is (.int .i64 ((k : Int))), Is (.agg #[.slice A n ca]), Is (.agg #[.int .i64 (x.lo), .int .i64 (x.hi)]), Is (.agg #[.int .i64 (cvI ks x).lo, .int .i64 (cvI ks x).hi]), Is (.pointer (some ⟨g, 0 + k * 4, none⟩)), Is (.pointer (some ⟨g, 0 + k * 4 + 2, none⟩))]
            (by kernel_rfl) (by kernel_rfl) (by kernel_rfl) (by kernel_rfl) (by kernel_rfl) (by kernel_rfl) (by kernel_rfl) Ext (fun W => Ext U W)
            (fun W _ => Ext.refl W) (fun W W' h k => h.trans k) ?_ (Ext.drew _) ?_ ?_
          · repeat (refine ⟨fun _ _ _ _ k h => (by first | exact h | exact (IntsAt.ext h k)), ?_⟩)
            exact trivial
          · refine ⟨?_, ?_, ?_, ?_, ?_, ?_, ?_, ?_, trivial⟩
            all_goals intro ρ W ⟨kc, kg, kf⟩ hF hs
            · obtain ⟨h0, -⟩ := hs
              replace h0 : ρ (.tmp 7) = .pointer (some ⟨q7, 0, none⟩) := h0
              go_simp
              exact ⟨Ext.refl _, rfl⟩
            · obtain ⟨h0, -⟩ := hs
              replace h0 : ρ (.tmp 39) = .pointer (some ⟨q7, 0, none⟩) := h0
              have hc0 : W.cell? ⟨q7, 0, none⟩ = some (.slice (some ⟨g, 0, none⟩) m c') := hF.cell (by assumption)
              go_simp
              exact ⟨Ext.refl _, rfl⟩
            · obtain ⟨h0, -⟩ := hs
              replace h0 : ρ (.tmp 8) = .int .i64 ((k : Int)) := h0
              go_simp
              exact ⟨Ext.refl _, rfl⟩
            · obtain ⟨h0, -⟩ := hs
              replace h0 : ρ (.tmp 2) = .pointer (some ⟨w.heap.size, 0, none⟩) := h0
              have hc0 : W.cell? ⟨w.heap.size, 0, none⟩ = some (.slice A n ca) := hF.cell (by assumption)
              go_simp
              exact ⟨Ext.refl _, rfl⟩
            · obtain ⟨h0, -⟩ := hs
              replace h0 : ρ (.tmp 9) = .pointer (some ⟨q9, 0, none⟩) := h0
              have hc0 : W.cell? ⟨q9, 0, none⟩ = some (.int .i64 (x.lo)) := hF.cell (by assumption)
              have hc1 : W.cell? ⟨q9, 1, none⟩ = some (.int .i64 (x.hi)) := hF.cell (by assumption)
              go_simp
              exact ⟨Ext.refl _, rfl⟩
            · obtain ⟨h0, h1, -⟩ := hs
              replace h0 : ρ (.tmp 42) = .agg #[.slice A n ca] := h0
              replace h1 : ρ (.tmp 43) = .agg #[.int .i64 (x.lo), .int .i64 (x.hi)] := h1
              go_simp
              refine (HCY.out _ (XU.out.trans hF)).mono ?_; rintro e w' ⟨rfl, hx⟩; exact ⟨_, rfl, hx, rfl⟩
            · obtain ⟨h0, h1, -⟩ := hs
              replace h0 : ρ (.tmp 40) = .slice (some ⟨g, 0, none⟩) m c' := h0
              replace h1 : ρ (.tmp 41) = .int .i64 ((k : Int)) := h1
              have hb1 : (k : Int) < (m : Int) := by omega
              have hb3 : (0 : Int) ≤ (k : Int) := by omega
              have hb4 : ((k : Int)).toNat = k := by omega
              have hb8 : k < m := by omega
              go_simp
              exact ⟨Ext.refl _, rfl⟩
            · obtain ⟨h0, -⟩ := hs
              replace h0 : ρ (.tmp 45) = .pointer (some ⟨g, 0 + k * 4, none⟩) := h0
              go_simp
              exact ⟨Ext.refl _, rfl⟩
          · intro fv V hF hs
            obtain ⟨-, -, -, -, -, h44, -, h46, -⟩ := hs
            replace h44 : fv 44 = .agg #[.int .i64 (cvI ks x).lo, .int .i64 (cvI ks x).hi] := h44
            replace h46 : fv 46 = .pointer (some ⟨g, 0 + k * 4 + 2, none⟩) := h46
            simp only [fin, List.filterMap]
            go_simp
            have XR := Lib.hid (XR.out.trans hF)
            have K7r := Lib.hid (K7r.out.ext hF)
            have OR := Lib.hid (own_ext OR.out hF)
            clear hF y0 l0 l1 z7 h44 h46
            have hkm : k * 4 + 4 ≤ m * 4 := by omega
            have j2 := OR.out.cellAt (k * 4 + 2) (by omega)
            have j3 := OR.out.cellAt (k * 4 + 3) (by omega)
            rw [flat_at _ k x 2 _ (mix_at HYL.out HXK.out) rfl] at j2
            rw [flat_at _ k x 3 _ (mix_at HYL.out HXK.out) rfl] at j3
            have f2 := OR.out.frozenAt (k * 4 + 2)
            have f3 := OR.out.frozenAt (k * 4 + 3)
            have j3' : V.cell? ⟨g, k * 4 + 2 + 1, none⟩ = some (.int .i64 x.hi) := j3
            have f3' : V.frozen? ⟨g, k * 4 + 2 + 1, none⟩ = false := f3
            go_wp2
            have S2 := OR.out.stored (k * 4 + 2) (.int .i64 (cvI ks x).lo)
            have S3 := S2.1.stored (k * 4 + 3) (.int .i64 (cvI ks x).hi)
            go_roundw
            case rel =>
              refine ⟨k + 1, by omega, by go_num, ?_, ?_, ?_, HV.out⟩
              · exact Ext.set (Ext.set XR.out (by have := HBG.out; have := SB.out; dsimp only; omega) _) (by have := HBG.out; have := SB.out; dsimp only; omega) _
              · exact (K7r.out.setOther (by have := SG.out; dsimp only; omega) _).setOther (by have := SG.out; dsimp only; omega) _
              · have h3 := S3.1
                rw [flat_set2 _ _ _ k x (mix_at HYL.out HXK.out)] at h3
                rw [show (⟨x.d, x.g, (cvI ks x).lo, (cvI ks x).hi⟩ : In) = cvI ks x from rfl, mix_step HYL.out (by rw [List.getElem?_map, HXK.out]; rfl)] at h3
                exact h3
            case measure => simp [intOf]; omega
    · have hkm : k = m := by omega
      have hlt2 : ¬ (k : Int) < (m : Int) := by omega
      have HV := Lib.hid (show fa = (0, 0) by rw [HF.out, hkm, Nat.sub_self]; rfl)
      have HR := Lib.hid (show RowsAt 4 In.enc wr (some ⟨g, 0, none⟩) (xs.map (cvI ks)) by
        have := rows_own (enc := In.enc) (xs := mix (xs.map (cvI ks)) xs k) (by have := HM.out; rw [mix_len HYL.out (by omega)]; exact this) (fun _ => rfl) OR.out (by omega)
        rwa [hkm, mix_all (by rw [HYL.out]; exact HM.out) HM.out] at this)
      have z7 : wr.cell? ⟨q7, 0, none⟩ = some (.slice (some ⟨g, 0, none⟩) m c') := K7r.out.cell 0
      have f0 := K2r.out.free 0
      have c0 : wr.cell? ⟨w.heap.size + 1 + 1, 0, none⟩ = some (.slice none 0 0) := K2r.out.cell 0
      have NB := Lib.hid (show ∀ b' o', (some ⟨g, 0, none⟩ : Option Addr) = some ⟨b', o', none⟩ → b' ≠ w.heap.size + 1 + 1 from fun b' o' hb => by
        obtain ⟨rfl, rfl⟩ : g = b' ∧ 0 = o' := by simpa using hb
        have := HBG.out
        have := SB.out
        have := SZ0.out
        omega)
      clear hkm hlt HF
      go_wp2
      exact bodyPost_ret (v := .tuple #[.agg #[.slice (some ⟨g, 0, none⟩) m c'], .int .i64 0, .int .i64 0]) (by simp [results, Try.f44, go_sem, c0]) rfl ⟨fun _ => ⟨_, ⟨_, rfl⟩, rows_setOther (p := ⟨w.heap.size + 1 + 1, 0, none⟩) HR.out NB.out _⟩, fun h => absurd (by rw [HV.out]) h, Ext.set XU.out (by dsimp only; omega) _⟩

end Go.Proofs.Ytmddnpagfgilcaa
