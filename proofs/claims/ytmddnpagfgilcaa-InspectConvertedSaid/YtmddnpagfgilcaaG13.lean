/- Traverses that are converted: parts. -/
import Derived.Test.YtmddnpagfgilcaaG7
import Derived.Test.YtmddnpagfgilcaaG8
import Derived.Test.YtmddnpagfgilcaaG10
import Derived.Lib.MinMax
import Derived.Laws.OwnMore

namespace Go.Proofs.Ytmddnpagfgilcaa
open Go.RowKit Go.Shelf Go.Mem Go.RegInv
attribute [local go_sem] RelUpon_value RelUpon_skip RelUpon_enter BigFrame.eval_const BigFrame.eval_global BigFrame.eval_func


set_option maxRecDepth 100000 in
set_option maxHeartbeats 1000000 in
theorem firstError98_any {A : Option Addr} {n ca : Nat} {xs : List In} {w : World} {E : Nat → Int} {cp : Array Value} (hn : xs.length = n) (hA : RowsAt 4 In.enc w A xs)
    (hF : ∀ (i : Nat) (x : In) (W : World), xs[i]? = some x → Ext w W → Calls Try.prog 98 (#[.int .i64 (i : Int), .agg #[.int .i64 x.d, .int .i64 x.g, .int .i64 x.lo, .int .i64 x.hi]] ++ cp) W fun e w' => e = .returned (.int .i64 (E i)) ∧ Ext W w') :
    Calls Try.prog 76 #[.slice A n ca, .func (.func 98) #[] cp] w fun e w' => e = .returned (.tuple #[.int .i64 (firstAt E n 0).1, .int .i64 (firstAt E n 0).2]) ∧ Ext w w' := by
  have HN := Lib.hid hn
  have HA := Lib.hid hA
  have HF := Lib.hid hF
  have hnb : n ≤ 1152921504606846976 := by have := hA.1; omega
  clear hn hA hF
  go_enter Try.func76, Try.ntmps76
  go_wp2
  go_loopw [11] (fun i wr => ∃ k : Nat, k ≤ n ∧ i = .int .i64 k ∧ firstAt E n 0 = firstAt E (n - k) k ∧ Ext w wr) (fun i _ => n - (intOf i).toNat)
  case atStart => exact ⟨0, Nat.zero_le _, rfl, by rw [Nat.sub_zero], Ext.refl _⟩
  case round =>
    obtain ⟨k, hk, rfl, hr, hx⟩ := hrel
    have X := Lib.hid hx
    have R := Lib.hid hr
    clear hx hr
    by_cases hlt : k < n
    · have R2 := Lib.hid (R.out.trans (firstAt_step E hlt))
      clear R
      obtain ⟨x, hx⟩ : ∃ x, xs[k]? = some x := ⟨_, List.getElem?_eq_getElem (by rw [HN.out]; exact hlt)⟩
      obtain ⟨b, o, rfl, hb, hc⟩ := row_at (HA.out.ext X.out) hx
      have HX := Lib.hid hx
      have p0 := hc 0 _ rfl
      have p1 := hc 1 _ rfl
      have p2 := hc 2 _ rfl
      have p3 := hc 3 _ rfl
      simp only [Nat.add_zero] at p0
      have HC := Lib.hid (fun W (e : Ext w W) => HF.out k x W HX.out e)
      clear hc hx
      have hki : (k : Int) < (n : Int) := by omega
      by_cases hz : E k = 0
      · have hz2 : (E k != 0) = false := by simp [hz]
        have HZ := Lib.hid hz
        clear hz
        generalize hE : E k = z at *
        have HE := Lib.hid hE
        clear hE
        go_wp2_with (go_at_call 98; refine (HC.out _ (X.out.trans (Ext.alloc _ _))).mono ?_; rintro e W1 ⟨rfl, hx⟩; have X1 := Lib.hid ((X.out.trans (Ext.alloc _ _)).trans hx); clear hx)
        go_roundw
        case rel => exact ⟨k + 1, by omega, by go_num, by rw [R2.out, if_neg (by simpa using HZ.out)], X1.out⟩
        case measure => simp [intOf]; omega
      · have hz2 : (E k != 0) = true := by simp [hz]
        have HZ := Lib.hid hz
        clear hz
        generalize hE : E k = z at *
        have HE := Lib.hid hE
        clear hE
        go_wp2_with (go_at_call 98; refine (HC.out _ (X.out.trans (Ext.alloc _ _))).mono ?_; rintro e W1 ⟨rfl, hx⟩; have X1 := Lib.hid ((X.out.trans (Ext.alloc _ _)).trans hx); clear hx)
        go_ret2
        exact ⟨ret_two (by rw [R2.out, if_pos HZ.out]) (by rw [R2.out, if_pos HZ.out]), X1.out⟩
    · have R2 := Lib.hid (show firstAt E n 0 = (0, 0) by rw [R.out, show n - k = 0 by omega]; rfl)
      have hkn : ¬ (k : Int) < (n : Int) := by omega
      go_wp2
      go_ret2
      exact ⟨ret_two (by rw [R2.out]) (by rw [R2.out]), X.out⟩


theorem wpList_copyO {α : Type} {W : World} {ops : Array Oper} {rest : List Oper} {o : Oper} {a : Act} {Q : Exit → Act → World → Prop} (hgd : o.guard = none) (s x : Operand) (t : TypeId)
    (ho : o.op = .call { callee := .builtin .append, args := #[s, x], argTypes := #[t, t] })
    (e : TypeId) (i : TypeInfo) (z : Value) (size bytes : Nat) (ht : Try.prog.underlying t = some (.slice e)) (hi : Try.prog.info? e = some i) (hz : i.zero = some z)
    (hsize : i.size = size) (hby : i.bytes = bytes) (hzs : z.cells.size = size) (hsz : 0 < size) (hb1 : bytes ≤ 1000)
    (enc : α → List Value) (hk : ∀ x, (enc x).length = size) (h1 : ∀ x, ∀ u ∈ enc x, u.oneCell' = true)
    (hs : a.eval s = .slice (some ⟨W.heap.size, 0, none⟩) 0 0) (ad : Addr) (n ca : Nat) (xs : List α) (hx : a.eval x = .slice (some ad) n ca) (hn : xs.length = n) (hA : RowsAt size enc W (some ad) xs) (h6 : n ≤ 1000)
    (h : ∀ A' c' w', w'.ownsRow W.heap.size e size (.slice A' n c') n (xs.flatMap enc) → Ext W w' → wpList Try.prog ops Q rest (a.put o.dst (.slice A' n c')) w') :
    wpList Try.prog ops Q (o :: rest) a (W.alloc (.cells #[] e)) := by
  have hown : (W.alloc (.cells #[] e)).ownsRow W.heap.size e size (.slice (some ⟨W.heap.size, 0, none⟩) 0 0) 0 [] :=
    ⟨by simp, .inr ⟨W.heap.size, 0, #[], rfl, Nat.le_refl _, Blk.new W e #[], Nat.le_refl _, by unfold maxLen; omega, by simp, by simp⟩⟩
  have hnews : ∀ j u, (xs.flatMap enc)[j]? = some u → (W.alloc (.cells #[] e)).cell? (ad.add j) = some u := fun j u hu => by
    obtain ⟨s, hs, hj⟩ := flat_idx (k := size) (enc := enc) hsz hk xs j u hu
    obtain ⟨b, o, e', _, hc⟩ := hA.2 _ s hs
    obtain rfl : ad = ⟨b, o, none⟩ := by simpa using e'
    have := (Ext.alloc W (.cells #[] e)).cell (hc _ _ hj)
    have hdm := Nat.div_add_mod j size
    rw [Nat.mul_comm] at hdm
    rw [WideShapes.add_plain, show o + j = o + j / size * size + j % size by omega]; exact this
  refine wpList_append_own _ hgd s x t ho W.heap.size e i z size bytes ht hi hz hsize hby hzs hsz _ _ _ hs hown ad n ca (xs.flatMap enc) hx (by rw [flat_lenG hk, hn]) hnews (flat_one h1 xs) (by unfold maxLen; omega) (by
    have := Nat.mul_le_mul h6 hb1
    rw [Nat.zero_add]; omega) (by simp) ?_
  intro v' w1 hown' hgrow hnone
  have hE : Ext W w1 := Ext.grownBy (Ext.alloc W _) hgrow (fun g hg => own_base hown hg)
  obtain ⟨A', c', hv'⟩ := own_slice hown'
  rw [Nat.zero_add] at hv'
  subst hv'
  rw [Nat.zero_add, List.nil_append] at hown'
  exact h A' c' w1 hown' hE

set_option maxRecDepth 100000 in
set_option maxHeartbeats 1000000 in
theorem copyTraverse_own {b o : Nat} {n ca : Nat} {xs : List In} {w : World} (hn : xs.length = n) (hA : RowsAt 4 In.enc w (some ⟨b, o, none⟩) xs) (h6 : n ≤ 1000) :
    Calls Try.prog 16 #[.agg #[.slice (some ⟨b, o, none⟩) n ca]] w fun e w' => ∃ A' c' B, e = .returned (.agg #[.slice A' n c']) ∧ w'.ownsRow B 43 4 (.slice A' n c') n (xs.flatMap In.enc) ∧ w.heap.size ≤ B ∧ Ext w w' := by
  obtain ⟨i0, hi0, hz0, ha0, hb0⟩ := info_parts info43G
  have I0 := Lib.hid hz0
  obtain ⟨W0, hW0⟩ : ∃ W0, W0 = (w.alloc (.cells #[.slice (some ⟨b, o, none⟩) n ca] 24)).alloc (.cells #[.slice none 0 0] 24) := ⟨_, rfl⟩
  have K1 := Lib.hid (show Blk W0 (w.heap.size + 1) 24 #[.slice none 0 0] by rw [hW0]; exact Blk.newAt _ _ _ (by simp))
  have E0 := Lib.hid (show Ext w W0 by rw [hW0]; exact (Ext.alloc _ _).trans (Ext.alloc _ _))
  have HSZ := Lib.hid (show W0.heap.size = w.heap.size + 1 + 1 by rw [hW0]; simp)
  have HN := Lib.hid hn
  have HA := Lib.hid (hA.ext E0.out)
  clear hn hA hz0
  go_enter Try.func16, Try.ntmps16
  refine Hid.out ?_
  refine Lib.hid ?_
  go_wp2_with (at_builtin; rw [← hW0]; refine wpList_copyO rfl _ _ 22 rfl 43 i0 (.agg #[.int .i64 0, .int .i64 0, .int .i64 0, .int .i64 0]) 4 32 Try.underlying22 hi0 I0.out ha0 hb0 rfl (by decide) (by decide) In.enc (fun _ => rfl) In_one (by first | rfl | (rw [HSZ.out]; rfl)) ⟨b, o, none⟩ n ca xs rfl HN.out HA.out (by omega) ?_; intro A' c' V0 hro hx; have XR := Lib.hid hro; have XX := Lib.hid (E0.out.trans hx); have k0 := K1.out.ext hx; have f0 := k0.free 0; have x0 : V0.cell? ⟨w.heap.size + 1, 0, none⟩ = some (.slice none 0 0) := k0.cell 0; clear hro hx k0 hW0; refine Hid.out ?_)
  refine Lib.hid ?_
  go_wp2
  exact bodyPost_ret (v := .agg #[.slice A' n c']) (by simp [results, Try.f16, go_sem, x0]) rfl ⟨A', c', W0.heap.size, rfl, own_set (p := ⟨w.heap.size + 1, 0, none⟩) XR.out (own_not XR.out (by have := HSZ.out; dsimp only; omega)) _, by have := HSZ.out; omega, Ext.set XX.out (by dsimp only; omega) _⟩

def cvI (ks : List Kn) (x : In) : In := ⟨x.d, x.g, (convV ks x.lo x.hi).1, (convV ks x.lo x.hi).2⟩
def missAt (ks : List Kn) (xs : List In) (i : Nat) : Int := missE (ks.getD 0 default).f (ks.getD (ks.length - 1) default).f (xs.getD i default).lo (xs.getD i default).hi
set_option maxRecDepth 100000 in
set_option maxHeartbeats 4000000 in
theorem clos98_any {A : Option Addr} {n ca tb to : Nat} {ks : List Kn} {x : In} {w : World} (i : Int) (hn : ks.length = n) (h2 : 2 ≤ n) (hA : RowsAt 3 Kn.enc w A ks) (ht : w.cell? ⟨tb, to, none⟩ = some (.slice A n ca)) :
    Calls Try.prog 98 #[.int .i64 i, .agg #[.int .i64 x.d, .int .i64 x.g, .int .i64 x.lo, .int .i64 x.hi], .pointer (some ⟨tb, to, none⟩)] w fun e w' => e = .returned (.int .i64 (missE (ks.getD 0 default).f (ks.getD (ks.length - 1) default).f x.lo x.hi)) ∧ Ext w w' := by
  have HM := Lib.hid (fun W (e : Ext w W) => missing_any (ca := ca) x.lo x.hi hn (hA.ext e) (getK (xs := ks) (i := 0) (by omega)) (getK (xs := ks) (i := n - 1) (by omega)))
  have HT := Lib.hid (show ∀ o1, (w.alloc o1).cell? ⟨tb, to, none⟩ = some (.slice A n ca) from fun o1 => (Ext.alloc _ _).cell ht)
  rw [hn]
  generalize missE (ks.getD 0 default).f (ks.getD (n - 1) default).f x.lo x.hi = z at *
  have ht1 := HT.out
  clear hn hA ht h2 HT
  go_enter Try.func98, Try.ntmps98
  go_wp2_with (go_at_call 94; refine (HM.out _ (Ext.alloc _ _)).mono ?_; rintro e W1 ⟨rfl, hx⟩; have X1 := Lib.hid ((Ext.alloc _ _).trans hx); clear hx)
  go_ret
  exact ⟨rfl, X1.out⟩

set_option maxRecDepth 100000 in
set_option maxHeartbeats 4000000 in
theorem sameTraverse_any {A B : Option Addr} {n ca cb : Nat} {xs : List In} {w : World} (hn : xs.length = n) (hA : RowsAt 4 In.enc w A xs) (hB : RowsAt 4 In.enc w B xs) :
    Calls Try.prog 43 #[.agg #[.slice A n ca], .agg #[.slice B n cb]] w fun e w' => e = .returned (.bool true) ∧ Ext w w' := by
  obtain ⟨W0, hW0⟩ : ∃ W0, W0 = (w.alloc (.cells #[.slice A n ca] 24)).alloc (.cells #[.slice B n cb] 24) := ⟨_, rfl⟩
  have K0 := Lib.hid (show Blk W0 w.heap.size 24 #[.slice A n ca] by rw [hW0]; exact (Blk.new _ _ _).alloc _)
  have K1 := Lib.hid (show Blk W0 (w.heap.size + 1) 24 #[.slice B n cb] by rw [hW0]; exact Blk.newAt _ _ _ (by simp))
  have E0 := Lib.hid (show Ext w W0 by rw [hW0]; exact (Ext.alloc _ _).trans (Ext.alloc _ _))
  have HA := Lib.hid (hA.ext E0.out)
  have HB := Lib.hid (hB.ext E0.out)
  have HN := Lib.hid hn
  have hnb : n ≤ 1152921504606846976 := by have := hA.1; omega
  have y0 : W0.cell? ⟨w.heap.size, 0, none⟩ = some (.slice A n ca) := K0.out.cell 0
  have y1 : W0.cell? ⟨w.heap.size + 1, 0, none⟩ = some (.slice B n cb) := K1.out.cell 0
  clear hn hA hB
  go_enter Try.func43, Try.ntmps43
  go_wp2
  rw [← hW0]
  clear hW0
  go_wp2
  clear y0 y1
  go_loopw [5] (fun i wr => ∃ k : Nat, k ≤ n ∧ i = .int .i64 k ∧ Ext W0 wr) (fun i _ => n - (intOf i).toNat)
  case atStart => exact ⟨0, Nat.zero_le _, rfl, Ext.refl _⟩
  case round =>
    obtain ⟨k, hk, rfl, hx⟩ := hrel
    have X := Lib.hid hx
    have y0 : wr.cell? ⟨w.heap.size, 0, none⟩ = some (.slice A n ca) := (K0.out.ext hx).cell 0
    have y1 : wr.cell? ⟨w.heap.size + 1, 0, none⟩ = some (.slice B n cb) := (K1.out.ext hx).cell 0
    clear hx
    by_cases hlt : k < n
    · obtain ⟨x, hxk⟩ : ∃ x, xs[k]? = some x := ⟨_, List.getElem?_eq_getElem (by have := HN.out; omega)⟩
      obtain ⟨b, o, rfl, -, hc⟩ := row_at (HA.out.ext X.out) hxk
      obtain ⟨b2, o2, rfl, -, hc2⟩ := row_at (HB.out.ext X.out) hxk
      have p0 : wr.cell? ⟨b, o + k * 4, none⟩ = some (.int .i64 x.d) := hc 0 _ rfl
      have p1 : wr.cell? ⟨b, o + k * 4 + 1, none⟩ = some (.int .i64 x.g) := hc 1 _ rfl
      have p2 : wr.cell? ⟨b, o + k * 4 + 2, none⟩ = some (.int .i64 x.lo) := hc 2 _ rfl
      have p3 : wr.cell? ⟨b, o + k * 4 + 3, none⟩ = some (.int .i64 x.hi) := hc 3 _ rfl
      have q0 : wr.cell? ⟨b2, o2 + k * 4, none⟩ = some (.int .i64 x.d) := hc2 0 _ rfl
      have q1 : wr.cell? ⟨b2, o2 + k * 4 + 1, none⟩ = some (.int .i64 x.g) := hc2 1 _ rfl
      have q2 : wr.cell? ⟨b2, o2 + k * 4 + 2, none⟩ = some (.int .i64 x.lo) := hc2 2 _ rfl
      have q3 : wr.cell? ⟨b2, o2 + k * 4 + 3, none⟩ = some (.int .i64 x.hi) := hc2 3 _ rfl
      clear hc hc2 hxk
      have hlt2 : (k : Int) < (n : Int) := by omega
      go_wp2
      refine wp_region_each [some 20, some 21, some 22, some 23, some 24, some 25, some 26, some 27, some 28, some 29, some 30] [[2], [20], [5], [21, 22], [23], [3], [25], [5], [26, 27], [28], [24, 29]]
        [Is (.pointer (some ⟨w.heap.size, 0, none⟩)), Is (.slice (some ⟨b, o, none⟩) n ca), Is (.int .i64 ((k : Int))), Is (.pointer (some ⟨b, o + k * 4, none⟩)), Is (.agg #[.int .i64 (x.d), .int .i64 (x.g), .int .i64 (x.lo), .int .i64 (x.hi)]), Is (.pointer (some ⟨w.heap.size + 1, 0, none⟩)), Is (.slice (some ⟨b2, o2, none⟩) n cb), Is (.int .i64 ((k : Int))), Is (.pointer (some ⟨b2, o2 + k * 4, none⟩)), Is (.agg #[.int .i64 (x.d), .int .i64 (x.g), .int .i64 (x.lo), .int .i64 (x.hi)]), Is (.bool (false))]
        (by kernel_rfl) (by kernel_rfl) (by kernel_rfl) (by kernel_rfl) (by kernel_rfl) Ext (fun W => Ext wr W)
        (fun W _ => Ext.refl W) (fun W W' h k => h.trans k) ?_ (Ext.drew _) ?_ ?_
      · repeat (refine ⟨fun _ _ _ _ k h => (by first | exact h | exact (IntsAt.ext h k)), ?_⟩)
        exact trivial
      · refine ⟨?_, ?_, ?_, ?_, ?_, ?_, ?_, ?_, ?_, ?_, ?_, trivial⟩
        all_goals intro ρ W ⟨kc, kg, kf⟩ hF hs
        · obtain ⟨h0, -⟩ := hs
          replace h0 : ρ (.tmp 2) = .pointer (some ⟨w.heap.size, 0, none⟩) := h0
          go_simp
          exact ⟨Ext.refl _, rfl⟩
        · obtain ⟨h0, -⟩ := hs
          replace h0 : ρ (.tmp 20) = .pointer (some ⟨w.heap.size, 0, none⟩) := h0
          have hc0 : W.cell? ⟨w.heap.size, 0, none⟩ = some (.slice (some ⟨b, o, none⟩) n ca) := hF.cell (by assumption)
          go_simp
          exact ⟨Ext.refl _, rfl⟩
        · obtain ⟨h0, -⟩ := hs
          replace h0 : ρ (.tmp 5) = .int .i64 ((k : Int)) := h0
          go_simp
          exact ⟨Ext.refl _, rfl⟩
        · obtain ⟨h0, h1, -⟩ := hs
          replace h0 : ρ (.tmp 21) = .slice (some ⟨b, o, none⟩) n ca := h0
          replace h1 : ρ (.tmp 22) = .int .i64 ((k : Int)) := h1
          have hb1 : (k : Int) < (n : Int) := by omega
          have hb3 : (0 : Int) ≤ (k : Int) := by omega
          have hb4 : ((k : Int)).toNat = k := by omega
          have hb8 : k < n := by omega
          go_simp
          exact ⟨Ext.refl _, rfl⟩
        · obtain ⟨h0, -⟩ := hs
          replace h0 : ρ (.tmp 23) = .pointer (some ⟨b, o + k * 4, none⟩) := h0
          have hc0 : W.cell? ⟨b, o + k * 4, none⟩ = some (.int .i64 (x.d)) := hF.cell (by assumption)
          have hc1 : W.cell? ⟨b, o + k * 4 + 1, none⟩ = some (.int .i64 (x.g)) := hF.cell (by assumption)
          have hc2 : W.cell? ⟨b, o + k * 4 + 2, none⟩ = some (.int .i64 (x.lo)) := hF.cell (by assumption)
          have hc3 : W.cell? ⟨b, o + k * 4 + 3, none⟩ = some (.int .i64 (x.hi)) := hF.cell (by assumption)
          go_simp
          exact ⟨Ext.refl _, rfl⟩
        · obtain ⟨h0, -⟩ := hs
          replace h0 : ρ (.tmp 3) = .pointer (some ⟨w.heap.size + 1, 0, none⟩) := h0
          go_simp
          exact ⟨Ext.refl _, rfl⟩
        · obtain ⟨h0, -⟩ := hs
          replace h0 : ρ (.tmp 25) = .pointer (some ⟨w.heap.size + 1, 0, none⟩) := h0
          have hc0 : W.cell? ⟨w.heap.size + 1, 0, none⟩ = some (.slice (some ⟨b2, o2, none⟩) n cb) := hF.cell (by assumption)
          go_simp
          exact ⟨Ext.refl _, rfl⟩
        · obtain ⟨h0, -⟩ := hs
          replace h0 : ρ (.tmp 5) = .int .i64 ((k : Int)) := h0
          go_simp
          exact ⟨Ext.refl _, rfl⟩
        · obtain ⟨h0, h1, -⟩ := hs
          replace h0 : ρ (.tmp 26) = .slice (some ⟨b2, o2, none⟩) n cb := h0
          replace h1 : ρ (.tmp 27) = .int .i64 ((k : Int)) := h1
          have hb1 : (k : Int) < (n : Int) := by omega
          have hb3 : (0 : Int) ≤ (k : Int) := by omega
          have hb4 : ((k : Int)).toNat = k := by omega
          have hb8 : k < n := by omega
          go_simp
          exact ⟨Ext.refl _, rfl⟩
        · obtain ⟨h0, -⟩ := hs
          replace h0 : ρ (.tmp 28) = .pointer (some ⟨b2, o2 + k * 4, none⟩) := h0
          have hc0 : W.cell? ⟨b2, o2 + k * 4, none⟩ = some (.int .i64 (x.d)) := hF.cell (by assumption)
          have hc1 : W.cell? ⟨b2, o2 + k * 4 + 1, none⟩ = some (.int .i64 (x.g)) := hF.cell (by assumption)
          have hc2 : W.cell? ⟨b2, o2 + k * 4 + 2, none⟩ = some (.int .i64 (x.lo)) := hF.cell (by assumption)
          have hc3 : W.cell? ⟨b2, o2 + k * 4 + 3, none⟩ = some (.int .i64 (x.hi)) := hF.cell (by assumption)
          go_simp
          exact ⟨Ext.refl _, rfl⟩
        · obtain ⟨h0, h1, -⟩ := hs
          replace h0 : ρ (.tmp 24) = .agg #[.int .i64 (x.d), .int .i64 (x.g), .int .i64 (x.lo), .int .i64 (x.hi)] := h0
          replace h1 : ρ (.tmp 29) = .agg #[.int .i64 (x.d), .int .i64 (x.g), .int .i64 (x.lo), .int .i64 (x.hi)] := h1
          go_simp
          exact ⟨Ext.refl _, rfl⟩
      · intro fv W hF hs
        obtain ⟨-, -, -, -, -, -, -, -, -, -, h30, -⟩ := hs
        replace h30 : fv 30 = .bool (false) := h30
        simp only [fin, List.filterMap]
        go_simp
        have X6 := Lib.hid (X.out.trans hF)
        clear hF y0 y1 p0 p1 p2 p3 q0 q1 q2 q3
        go_wp2
        go_roundw
        case rel => exact ⟨k + 1, by omega, by go_num, X6.out⟩
        case measure => simp [intOf]; omega
    · have hlt2 : ¬ (k : Int) < (n : Int) := by omega
      go_wp2
      go_ret
      exact ⟨rfl, E0.out.trans X.out⟩

end Go.Proofs.Ytmddnpagfgilcaa
