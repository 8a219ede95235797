/- Copies, arguments of the rows, the errors of the reference, reactances; FieldLadders. -/
import Derived.Test.YtpaoeghdfeekoaaMC
import Derived.WideShapes
import Derived.Test.YtpaoeghdfeekoaaMA
import Derived.Laws.IdiomArrays

/- Copies of ladders and drives; the reference's errors. -/
namespace Go.Proofs.Ytpaoeghdfeekoaa
open Go.RowKit Go.Shelf Go.Mem Go.RegInv

theorem info92 : (Try.prog.info? 92).map (fun i => (i.zero, i.size, i.bytes)) = some (some (.agg #[.int .i64 0, .int .i64 0, .int .i64 0]), 3, 24) := by kernel_rfl

theorem sh_len (xs : List Sh) : (xs.flatMap Sh.enc).length = xs.length * 3 := by
  induction xs with
  | nil => rfl
  | cons x l ih => simp [List.flatMap_cons, ih, Sh.enc]; omega
theorem sh_at (xs : List Sh) : ∀ (i j : Nat) (s : Sh) (u : Value), xs[i]? = some s → (Sh.enc s)[j]? = some u → (xs.flatMap Sh.enc)[i * 3 + j]? = some u := by
  induction xs with
  | nil => intro i j s u h; simp at h
  | cons x l ih =>
    intro i j s u h h'
    rw [List.flatMap_cons]
    cases i with
    | zero =>
      obtain rfl : x = s := by simpa using h
      have hj : j < (Sh.enc x).length := (List.getElem?_eq_some_iff.1 h').1
      rw [List.getElem?_append_left (by omega)]
      simpa using h'
    | succ i =>
      have := ih i j s u (by simpa using h) h'
      rw [List.getElem?_append_right (by simp [Sh.enc]; omega)]
      rw [show (i + 1) * 3 + j - (Sh.enc x).length = i * 3 + j by simp [Sh.enc]; omega]
      exact this
theorem sh_idx (xs : List Sh) (p : Nat) (u : Value) (h : (xs.flatMap Sh.enc)[p]? = some u) : ∃ s, xs[p / 3]? = some s ∧ (Sh.enc s)[p % 3]? = some u := by
  have hp : p < xs.length * 3 := by rw [← sh_len]; exact (List.getElem?_eq_some_iff.1 h).1
  have hi : p / 3 < xs.length := by omega
  have hs : xs[p / 3]? = some xs[p / 3] := List.getElem?_eq_getElem hi
  have hj : p % 3 < (Sh.enc xs[p / 3]).length := by simp [Sh.enc]; omega
  have := sh_at xs (p / 3) (p % 3) _ _ hs (List.getElem?_eq_getElem hj)
  rw [show p / 3 * 3 + p % 3 = p by omega, h] at this
  exact ⟨_, hs, by rw [List.getElem?_eq_getElem hj, this]⟩
theorem sh_one (xs : List Sh) : ∀ u ∈ xs.flatMap Sh.enc, u.oneCell' = true := by
  intro u hu
  obtain ⟨s, _, h⟩ := List.mem_flatMap.1 hu
  simp only [Sh.enc, List.mem_cons, List.not_mem_nil, or_false] at h
  rcases h with rfl | rfl | rfl <;> rfl

theorem lad_of_own {W : World} {base n : Nat} {v : Value} {xs : List Sh} (hl : xs.length = n) (hn : n ≤ 1152921504606846976) (h : W.ownsRow base 92 3 v n (xs.flatMap Sh.enc)) : ∃ A cap, v = .slice A n cap ∧ LadAt W A xs := by
  rcases h.2 with ⟨rfl, rfl⟩ | ⟨g, cap, cu, rfl, _, hh, hc, _, hs, ht⟩
  · obtain rfl := List.eq_nil_of_length_eq_zero hl
    exact ⟨none, 0, rfl, ⟨by simp, by simp⟩, fun b o h => by cases h⟩
  · refine ⟨_, cap, rfl, ⟨by omega, fun i s hx => ⟨g, 0, rfl, (show Blk W g 92 cu from hh).lt, fun j u hu => ?_⟩⟩, fun b o h => ?_⟩
    · have hi := (List.getElem?_eq_some_iff.1 hx).1
      have hj : j < 3 := (List.getElem?_eq_some_iff.1 hu).1
      rw [(show Blk W g 92 cu from hh).cell]
      have h2 := sh_at xs i j s u hx hu
      rw [← ht, List.getElem?_take, if_pos (by omega), Array.getElem?_toList] at h2
      rw [show 0 + i * 3 + j = i * 3 + j by omega]; exact h2
    · obtain ⟨rfl, rfl⟩ : g = b ∧ 0 = o := by simpa using h
      exact ⟨cu, hh⟩

/-- A ladder in memory, a drive in memory. -/
def LadV (t : Int) (ls : List Sh) : Value → World → Prop := fun u W => ∃ A n c, Hid (ls.length = n) ∧ u = .agg #[.int .i64 t, .slice A n c] ∧ LadAt W A ls
theorem LadV.ext {t : Int} {ls : List Sh} {u : Value} {W W' : World} (h : LadV t ls u W) (e : Ext W W') : LadV t ls u W' := by
  obtain ⟨A, n, c, h1, h2, h3⟩ := h; exact ⟨A, n, c, h1, h2, h3.ext e⟩
def DrvV (f : Int) (hot : List Bool) : Value → World → Prop := fun u W => ∃ B m c, Hid (hot.length = m) ∧ u = .agg #[.int .i64 f, .slice B m c] ∧ RowsAt 1 boolEnc W B hot
theorem DrvV.ext {f : Int} {hot : List Bool} {u : Value} {W W' : World} (h : DrvV f hot u W) (e : Ext W W') : DrvV f hot u W' := by
  obtain ⟨A, n, c, h1, h2, h3⟩ := h; exact ⟨A, n, c, h1, h2, h3.ext e⟩

theorem own_slice {W : World} {base n k : Nat} {e : TypeId} {v : Value} {xs : List Value} (h : W.ownsRow base e k v n xs) : ∃ A c, v = .slice A n c := by
  rcases h.2 with ⟨rfl, rfl⟩ | ⟨g, cap, cu, rfl, _⟩
  · exact ⟨none, 0, by have := h.1; simp⟩
  · exact ⟨_, cap, rfl⟩
theorem lad_own {W : World} {base n c : Nat} {A : Option Addr} {xs : List Sh} (hl : xs.length = n) (hn : n ≤ 1152921504606846976) (h : W.ownsRow base 92 3 (.slice A n c) n (xs.flatMap Sh.enc)) : LadAt W A xs := by
  obtain ⟨A', c', he, h'⟩ := lad_of_own hl hn h
  obtain ⟨rfl, _⟩ : A = A' ∧ c = c' := by simpa using he
  exact h'

set_option maxRecDepth 100000 in
set_option maxHeartbeats 1000000 in
theorem copyLadder_own (t : Int) (A : Option Addr) (n ca : Nat) (xs : List Sh) (hn : xs.length = n) (w : World) (ha : RowsAt 3 Sh.enc w A xs) (h6 : n ≤ 6) (hnil : A = none → ca = 0) :
    Calls Try.prog 19 #[.agg #[.int .i64 t, .slice A n ca]] w fun e w' => ∃ A' c', e = .returned (.agg #[.int .i64 t, .slice A' n c']) ∧ w'.ownsRow w.heap.size 92 3 (.slice A' n c') n (xs.flatMap Sh.enc) ∧ Ext w w' := by
  obtain ⟨i0, hi, hz0, hz1, hz2⟩ := info_parts info92
  have HI0 := Lib.hid hz0
  obtain ⟨Wb, hWb⟩ : ∃ Wb, Wb = (w.alloc (.cells #[.int .i64 t, .slice A n ca] 24)).alloc (.cells #[.int .i64 0, .slice none 0 0] 24) := ⟨_, rfl⟩
  have k0 : Blk Wb w.heap.size 24 #[.int .i64 t, .slice A n ca] := by rw [hWb]; exact (Blk.new _ _ _).alloc _
  have k1 : Blk Wb (w.heap.size + 1) 24 #[.int .i64 0, .slice none 0 0] := by rw [hWb]; exact Blk.newAt _ _ _ (by simp)
  have hsz : Wb.heap.size = w.heap.size + 1 + 1 := by rw [hWb]; simp
  have hown : Hid ((Wb.alloc (.cells #[] 92)).ownsRow (w.heap.size + 1 + 1) 92 3 (.slice (some ⟨w.heap.size + 1 + 1, 0, none⟩) 0 0) 0 []) :=
    Lib.hid ⟨rfl, .inr ⟨w.heap.size + 1 + 1, 0, #[], rfl, Nat.le_refl _, Blk.newAt Wb 92 #[] hsz.symm, Nat.le_refl _, by decide, rfl, rfl⟩⟩
  have e0 : Ext w Wb := by rw [hWb]; exact (Ext.alloc _ _).trans (Ext.alloc _ _)
  have hax : Ext Wb (Wb.alloc (.cells #[] 92)) := Ext.alloc _ _
  have K0 := Lib.hid k0
  have K1 := Lib.hid k1
  have HX := Lib.hid hax
  have E0 := Lib.hid e0
  have HSZ := Lib.hid hsz
  cases A with
  | none =>
    obtain rfl : xs = [] := by
      cases xs with
      | nil => rfl
      | cons x l => obtain ⟨b, o, h, _⟩ := ha.2 0 x rfl; cases h
    obtain rfl := hnil rfl
    obtain rfl : n = 0 := by simpa using hn.symm
    clear ha k0 k1 hax e0 hsz hn hnil
    subst hWb
    go_enter Try.func19, Try.ntmps19
    go_wp2_with (at_builtin; refine wpList_append_own_none rfl _ _ 22 rfl (w.heap.size + 1 + 1) 92 i0 3 Try.underlying22 hi _ _ _ rfl hown.out rfl ?_)
    exact bodyPost_ret (v := .agg #[.int .i64 t, .slice (some ⟨w.heap.size + 1 + 1, 0, none⟩) 0 0]) (by simp [results, Try.f19, go_sem]) rfl
      ⟨_, _, rfl, ⟨rfl, .inr ⟨w.heap.size + 1 + 1, 0, #[], rfl, by omega, Blk.newAt _ _ _ (by simp), Nat.le_refl _, by decide, rfl, rfl⟩⟩,
        ((Ext.alloc _ _).trans (Ext.alloc _ _)).trans (Ext.alloc _ _)⟩
  | some ad =>
    have hnews : Hid (∀ j u, (xs.flatMap Sh.enc)[j]? = some u → (Wb.alloc (.cells #[] 92)).cell? (ad.add j) = some u) := Lib.hid fun j u hu => by
      obtain ⟨s, hs, hj⟩ := sh_idx xs j u hu
      obtain ⟨b, o, e, _, hc⟩ := ha.2 _ s hs
      obtain rfl : ad = ⟨b, o, none⟩ := by simpa using e
      have := (e0.trans hax).cell (hc _ _ hj)
      rw [WideShapes.add_plain, show o + j = o + j / 3 * 3 + j % 3 by omega]; exact this
    have HL := Lib.hid (show (xs.flatMap Sh.enc).length = n * 3 by rw [sh_len, hn])
    have HN := Lib.hid hn
    have HO := Lib.hid (sh_one xs)
    clear ha k0 k1 hax e0 hsz hn hnil
    subst hWb
    go_enter Try.func19, Try.ntmps19
    go_wp2_with (at_builtin; refine wpList_append_own _ rfl _ _ 22 rfl (w.heap.size + 1 + 1) 92 i0 (.agg #[.int .i64 0, .int .i64 0, .int .i64 0]) 3 24 Try.underlying22 hi HI0.out hz1 hz2 rfl (by decide) _ _ _ rfl hown.out ad n ca (xs.flatMap Sh.enc) rfl HL.out hnews.out HO.out (by unfold maxLen; omega) (by omega) (by simp) ?_; intro v' w1 hown' hgrow _; have HE1 := Lib.hid (Ext.grownBy HX.out hgrow (fun g hg => by have := own_base hown.out hg; have := HSZ.out; omega)); obtain ⟨A', c', hv'⟩ := own_slice hown'; rw [Nat.zero_add] at hv'; subst hv'; have HO1 := Lib.hid hown'; have q0 : w1.cell? ⟨w.heap.size, 0, none⟩ = some (.int .i64 t) := (K0.out.ext HE1.out).cell 0; have q1 : w1.cell? ⟨w.heap.size, 1, none⟩ = some (.slice (some ad) n ca) := (K0.out.ext HE1.out).cell 1; have q2 : w1.frozen? ⟨w.heap.size, 1, none⟩ = false := (K0.out.ext HE1.out).free 1; have p0 : w1.cell? ⟨w.heap.size + 1, 0, none⟩ = some (.int .i64 0) := (K1.out.ext HE1.out).cell 0; have p1 : w1.cell? ⟨w.heap.size + 1, 1, none⟩ = some (.slice none 0 0) := (K1.out.ext HE1.out).cell 1; have p2 : w1.frozen? ⟨w.heap.size + 1, 0, none⟩ = false := (K1.out.ext HE1.out).free 0; have p3 : w1.frozen? ⟨w.heap.size + 1, 1, none⟩ = false := (K1.out.ext HE1.out).free 1; clear hown' hgrow)
    exact bodyPost_ret (v := .agg #[.int .i64 t, .slice A' n c']) (by simp [results, Try.f19, go_sem, p0, p1]) rfl
      ⟨_, _, rfl, (by
        have := HO1.out
        rw [Nat.zero_add, List.nil_append] at this
        exact own_mono (ownsRow_setCell_below (ownsRow_setCell_below (ownsRow_setCell_below this (by dsimp only; omega) _) (by dsimp only; omega) _) (by dsimp only; omega) _) (by omega)),
        Ext.set (Ext.set (Ext.set (E0.out.trans HE1.out) (by simp) _) (by simp) _) (by simp) _⟩

theorem copyLadder_any (t : Int) (A : Option Addr) (n ca : Nat) (xs : List Sh) (hn : xs.length = n) (w : World) (ha : RowsAt 3 Sh.enc w A xs) (h6 : n ≤ 6) (hnil : A = none → ca = 0) :
    Calls Try.prog 19 #[.agg #[.int .i64 t, .slice A n ca]] w fun e w' => ∃ A' c', e = .returned (.agg #[.int .i64 t, .slice A' n c']) ∧ LadAt w' A' xs ∧ Ext w w' :=
  (copyLadder_own t A n ca xs hn w ha h6 hnil).mono fun _ _ ⟨A', c', h1, h2, h3⟩ => ⟨A', c', h1, lad_own hn (by omega) h2, h3⟩

theorem infoBool : (Try.prog.info? 4).map (fun i => (i.zero, i.size, i.bytes)) = some (some (.bool false), 1, 1) := by kernel_rfl

theorem bools_own {W : World} {base n c : Nat} {A : Option Addr} {bs : List Bool} (hl : bs.length = n) (hn : n ≤ 1152921504606846976) (h : W.ownsRow base 4 1 (.slice A n c) n (bs.map Value.bool)) : RowsAt 1 boolEnc W A bs := by
  rcases h.2 with ⟨he, rfl⟩ | ⟨g, cap, cu, he, _, hh, hc, _, hs, ht⟩
  · obtain rfl := List.eq_nil_of_length_eq_zero hl
    exact ⟨by simp, by simp⟩
  · obtain ⟨rfl, rfl⟩ : A = some ⟨g, 0, none⟩ ∧ c = cap := by simpa using he
    refine ⟨by omega, fun i x hx => ⟨g, 0, rfl, (show Blk W g 4 cu from hh).lt, fun j u hu => ?_⟩⟩
    have hi := (List.getElem?_eq_some_iff.1 hx).1
    match j, hu with
    | 0, hu =>
      obtain rfl : Value.bool x = u := by simpa [boolEnc] using hu
      rw [(show Blk W g 4 cu from hh).cell]
      have h2 : (bs.map Value.bool)[i]? = some (.bool x) := by simp [hx]
      rw [← ht, List.getElem?_take, if_pos (by omega), Array.getElem?_toList] at h2
      rw [show 0 + i * 1 + 0 = i by omega]; exact h2
    | j + 1, hu => simp [boolEnc] at hu

set_option maxHeartbeats 1000000 in
theorem copyBools_any (A : Option Addr) (n ca : Nat) (xs : List Bool) (hn : xs.length = n) (w : World) (ha : RowsAt 1 boolEnc w A xs) (h6 : n ≤ 6) (hnil : A = none → ca = 0) :
    Calls Try.prog 60 #[.slice A n ca] w fun e w' => ∃ A' c', e = .returned (.slice A' n c') ∧ w'.ownsRow w.heap.size 4 1 (.slice A' n c') n (xs.map Value.bool) ∧ Ext w w' := by
  obtain ⟨i0, hi, hz0, hz1, hz2⟩ := info_parts infoBool
  have HI0 := Lib.hid hz0
  have hown : Hid ((w.alloc (.cells #[] 4)).ownsRow w.heap.size 4 1 (.slice (some ⟨w.heap.size, 0, none⟩) 0 0) 0 []) :=
    Lib.hid ⟨rfl, .inr ⟨w.heap.size, 0, #[], rfl, Nat.le_refl _, Blk.new w 4 #[], Nat.le_refl _, by decide, rfl, rfl⟩⟩
  cases A with
  | none =>
    obtain rfl : xs = [] := by
      cases xs with
      | nil => rfl
      | cons x l => obtain ⟨b, o, h, _⟩ := ha.2 0 x rfl; cases h
    obtain rfl := hnil rfl
    obtain rfl : n = 0 := by simpa using hn.symm
    clear ha hn hnil
    go_enter Try.func60, Try.ntmps60
    go_wp2_with (at_builtin; refine wpList_append_own_none rfl _ _ 25 rfl w.heap.size 4 i0 1 Try.underlying25 hi _ _ _ rfl hown.out rfl ?_)
    go_ret
    exact ⟨_, _, rfl, hown.out, Ext.alloc _ _⟩
  | some ad =>
    have hnews : Hid (∀ j u, (xs.map Value.bool)[j]? = some u → (w.alloc (.cells #[] 4)).cell? (ad.add j) = some u) := Lib.hid fun j u hu => by
      rw [List.getElem?_map] at hu
      obtain ⟨x, hx, rfl⟩ := Option.map_eq_some_iff.1 hu
      obtain ⟨b, o, e, _, hc⟩ := ha.2 j x hx
      obtain rfl : ad = ⟨b, o, none⟩ := by simpa using e
      have := (Ext.alloc w (.cells #[] 4)).cell (hc 0 _ rfl)
      rw [Nat.mul_one, Nat.add_zero] at this
      rw [WideShapes.add_plain]; exact this
    have HL := Lib.hid (show (xs.map Value.bool).length = n * 1 by simp [hn])
    have HN := Lib.hid hn
    clear ha hn hnil
    go_enter Try.func60, Try.ntmps60
    go_wp2_with (at_builtin; refine wpList_append_own _ rfl _ _ 25 rfl w.heap.size 4 i0 (.bool false) 1 1 Try.underlying25 hi HI0.out hz1 hz2 rfl (by decide) _ _ _ rfl hown.out ad n ca (xs.map Value.bool) rfl HL.out hnews.out (by intro u hu; obtain ⟨x, _, rfl⟩ := List.mem_map.1 hu; rfl) (by unfold maxLen; omega) (by omega) (by simp) ?_; intro v' w1 hown' hgrow _; have HE1 := Lib.hid (Ext.grownBy (Ext.alloc w _) hgrow (fun g hg => own_base hown.out hg)); obtain ⟨A', c', hv'⟩ := own_slice hown'; rw [Nat.zero_add] at hv'; subst hv'; have HO1 := Lib.hid hown'; clear hown' hgrow)
    go_ret
    exact ⟨_, _, rfl, by have := HO1.out; rw [Nat.zero_add, List.nil_append] at this; exact this, HE1.out⟩

set_option maxHeartbeats 1000000 in
theorem copyDrive_any (f : Int) (A : Option Addr) (n ca : Nat) (xs : List Bool) (hn : xs.length = n) (w : World) (ha : RowsAt 1 boolEnc w A xs) (h6 : n ≤ 6) (hnil : A = none → ca = 0) :
    Calls Try.prog 21 #[.agg #[.int .i64 f, .slice A n ca]] w fun e w' => ∃ A' c', e = .returned (.agg #[.int .i64 f, .slice A' n c']) ∧ RowsAt 1 boolEnc w' A' xs ∧ Ext w w' := by
  obtain ⟨Wb, hWb⟩ : ∃ Wb, Wb = (w.alloc (.cells #[.int .i64 f, .slice A n ca] 27)).alloc (.cells #[.int .i64 0, .slice none 0 0] 27) := ⟨_, rfl⟩
  have k0 : Blk Wb w.heap.size 27 #[.int .i64 f, .slice A n ca] := by rw [hWb]; exact (Blk.new _ _ _).alloc _
  have k1 : Blk Wb (w.heap.size + 1) 27 #[.int .i64 0, .slice none 0 0] := by rw [hWb]; exact Blk.newAt _ _ _ (by simp)
  have hsz : Wb.heap.size = w.heap.size + 1 + 1 := by rw [hWb]; simp
  have e0 : Ext w Wb := by rw [hWb]; exact (Ext.alloc _ _).trans (Ext.alloc _ _)
  have HC := Lib.hid (copyBools_any A n ca xs hn Wb (ha.ext e0) h6 hnil)
  have K0 := Lib.hid k0
  have K1 := Lib.hid k1
  have E0 := Lib.hid e0
  have HSZ := Lib.hid hsz
  have HN := Lib.hid hn
  clear ha k0 k1 e0 hsz hn hnil
  subst hWb
  go_enter Try.func21, Try.ntmps21
  go_wp2_with (go_at_call 60; refine HC.out.mono ?_; rintro e w1 ⟨A', c', rfl, hown, hx⟩; have HO1 := Lib.hid hown; have HE1 := Lib.hid hx; have q0 : w1.cell? ⟨w.heap.size, 0, none⟩ = some (.int .i64 f) := (K0.out.ext HE1.out).cell 0; have q1 : w1.cell? ⟨w.heap.size, 1, none⟩ = some (.slice A n ca) := (K0.out.ext HE1.out).cell 1; have q2 : w1.frozen? ⟨w.heap.size, 1, none⟩ = false := (K0.out.ext HE1.out).free 1; have p0 : w1.cell? ⟨w.heap.size + 1, 0, none⟩ = some (.int .i64 0) := (K1.out.ext HE1.out).cell 0; have p1 : w1.cell? ⟨w.heap.size + 1, 1, none⟩ = some (.slice none 0 0) := (K1.out.ext HE1.out).cell 1; have p2 : w1.frozen? ⟨w.heap.size + 1, 0, none⟩ = false := (K1.out.ext HE1.out).free 0; have p3 : w1.frozen? ⟨w.heap.size + 1, 1, none⟩ = false := (K1.out.ext HE1.out).free 1; clear hown hx)
  exact bodyPost_ret (v := .agg #[.int .i64 f, .slice A' n c']) (by simp [results, Try.f21, go_sem, p0, p1]) rfl
    ⟨_, _, rfl, bools_own HN.out (by omega) (by
      have := HO1.out
      rw [HSZ.out] at this
      exact ownsRow_setCell_below (ownsRow_setCell_below (ownsRow_setCell_below this (by dsimp only; omega) _) (by dsimp only; omega) _) (by dsimp only; omega) _),
      Ext.set (Ext.set (Ext.set (E0.out.trans HE1.out) (by simp) _) (by simp) _) (by simp) _⟩

end Go.Proofs.Ytpaoeghdfeekoaa

/- Arguments of the rows: ladders, drives, slices. -/
namespace Go.Proofs.Ytpaoeghdfeekoaa
open Go.ChangeShapes Go.WideShapes Go.RowKit Go.Deep Go.Mem
instance : Inhabited Sh := ⟨⟨0, 0, 0⟩⟩
instance : Inhabited G := ⟨⟨0, 0⟩⟩
section
variable {H : Type} {enc : TypeId × Value → H} {w : World} {base : Nat} {spare : Nat → Bool} {held : Bool} {r : Reach} {b0 : Nat} {v : Value} {d : DataW H} {p : List MemPlace}

theorem open_shells {fuel : Nat} {v : Value} {x : DataW H × List MemPlace} (h : DataW.trod enc Try.prog w base spare held fuel 22 [v] = some x) :
    ∃ A n cap xs, v = .slice A n cap ∧ (A = none → cap = 0) ∧ n ≤ cap ∧ cap ≤ maxLen ∧ xs.length = n ∧ (n ≤ 1152921504606846976 → RowsAt 3 Sh.enc w A xs) :=
  open_rows 3 Sh.enc (by decide) Try.underlying22 (by kernel_rfl) (fun fuel cs x h => by
    obtain ⟨a, b, c, rfl⟩ := elem3 Try.underlying92 (by kernel_rfl) rfl rfl rfl (by kernel_rfl) (by kernel_rfl) (by kernel_rfl) Try.underlying3 Try.underlying3 Try.underlying3 h
    exact ⟨⟨a, b, c⟩, rfl⟩) h
theorem open_bool_row {fuel : Nat} {v : Value} {x : DataW H × List MemPlace} (h : DataW.trod enc Try.prog w base spare held fuel 25 [v] = some x) :
    ∃ A n cap xs, v = .slice A n cap ∧ (A = none → cap = 0) ∧ n ≤ cap ∧ cap ≤ maxLen ∧ xs.length = n ∧ (n ≤ 1152921504606846976 → RowsAt 1 boolEnc w A xs) :=
  open_rows 1 boolEnc (by decide) Try.underlying25 (by kernel_rfl) (fun fuel cs x h => by
    obtain ⟨a, rfl⟩ := elemB Try.underlying4 h
    exact ⟨a, rfl⟩) h
theorem open_gauss_row {fuel : Nat} {v : Value} {x : DataW H × List MemPlace} (h : DataW.trod enc Try.prog w base spare held fuel 53 [v] = some x) :
    ∃ A n cap xs, v = .slice A n cap ∧ (A = none → cap = 0) ∧ n ≤ cap ∧ cap ≤ maxLen ∧ xs.length = n ∧ (n ≤ 1152921504606846976 → RowsAt 2 G.enc w A xs) :=
  open_rows 2 G.enc (by decide) Try.underlying53 (by kernel_rfl) (fun fuel cs x h => by
    obtain ⟨a, b, rfl⟩ := elem2 Try.underlying65 (by kernel_rfl) rfl rfl (by kernel_rfl) (by kernel_rfl) Try.underlying3 Try.underlying3 h
    exact ⟨⟨a, b⟩, rfl⟩) h

set_option maxRecDepth 100000 in
theorem open_ladder (hv : Value.okWide Try.prog w r b0 24 v) (h : DataW.Trod enc Try.prog w base spare held 24 v d p) :
    ∃ t A n cap xs, v = .agg #[.int .i64 t, .slice A n cap] ∧ (A = none → cap = 0) ∧ xs.length = n ∧ (n ≤ 6 → RowsAt 3 Sh.enc w A xs) := by
  obtain ⟨v0, v1, y0, y1, n, rfl, _, _, h0, h1⟩ := Go.Joins.open_agg2 Try.underlying24 (by kernel_rfl) (by kernel_rfl) hv h
  obtain ⟨t, ht, _⟩ := DataW.trod_int (k := .i64) Try.underlying3 h0
  obtain ⟨A, m, cap, xs, rfl, hA, _, _, hx, hr⟩ := open_shells h1
  obtain rfl : v0 = .int .i64 t := by simpa using ht
  exact ⟨t, A, m, cap, xs, rfl, hA, hx, fun h => hr (by omega)⟩
set_option maxRecDepth 100000 in
theorem open_drive (hv : Value.okWide Try.prog w r b0 27 v) (h : DataW.Trod enc Try.prog w base spare held 27 v d p) :
    ∃ t A n cap xs, v = .agg #[.int .i64 t, .slice A n cap] ∧ (A = none → cap = 0) ∧ xs.length = n ∧ (n ≤ 6 → RowsAt 1 boolEnc w A xs) := by
  obtain ⟨v0, v1, y0, y1, n, rfl, _, _, h0, h1⟩ := Go.Joins.open_agg2 Try.underlying27 (by kernel_rfl) (by kernel_rfl) hv h
  obtain ⟨t, ht, _⟩ := DataW.trod_int (k := .i64) Try.underlying3 h0
  obtain ⟨A, m, cap, xs, rfl, hA, _, _, hx, hr⟩ := open_bool_row h1
  obtain rfl : v0 = .int .i64 t := by simpa using ht
  exact ⟨t, A, m, cap, xs, rfl, hA, hx, fun h => hr (by omega)⟩
end
end Go.Proofs.Ytpaoeghdfeekoaa

/- Arguments of the rows: voltages. -/
namespace Go.Proofs.Ytpaoeghdfeekoaa
open Go.ChangeShapes Go.WideShapes Go.RowKit Go.Deep Go.Mem
section
variable {H : Type} {enc : TypeId × Value → H} {w : World} {base : Nat} {spare : Nat → Bool} {held : Bool} {r : Reach} {b0 : Nat} {v : Value} {d : DataW H} {p : List MemPlace}
set_option maxRecDepth 100000 in
theorem open_gausses (hv : Value.okWide Try.prog w r b0 53 v) (h : DataW.Trod enc Try.prog w base spare held 53 v d p) :
    ∃ A n cap xs, v = .slice A n cap ∧ (A = none → cap = 0) ∧ xs.length = n ∧ (n ≤ 8 → RowsAt 2 G.enc w A xs) := by
  obtain ⟨a0, len0, cap0, rfl⟩ := okWide_slice Try.underlying53 hv
  obtain ⟨fuel, hf⟩ := h
  obtain ⟨A, n, cap, xs, h1, h2, _, _, h3, h4⟩ := open_gauss_row (v := .slice a0 len0 cap0) hf
  exact ⟨A, n, cap, xs, h1, h2, h3, fun h => h4 (by omega)⟩
end
end Go.Proofs.Ytpaoeghdfeekoaa

/- Arguments of the rows: three numbers. -/
namespace Go.Proofs.Ytpaoeghdfeekoaa
open Go.ChangeShapes Go.WideShapes Go.RowKit Go.Deep Go.Mem
section
variable {H : Type} {enc : TypeId × Value → H} {w : World} {base : Nat} {spare : Nat → Bool} {held : Bool} {r : Reach} {b0 : Nat} {v : Value} {d : DataW H} {p : List MemPlace}
set_option maxRecDepth 100000 in
theorem open_three (hv : Value.okWide Try.prog w r b0 66 v) (h : DataW.Trod enc Try.prog w base spare held 66 v d p) :
    ∃ a b c, v = .agg #[.int .i64 a, .int .i64 b, .int .i64 c] := by
  have hu : Try.prog.underlying 66 = some (.array 3 3) := by kernel_rfl
  obtain ⟨cs, rfl, hsz⟩ : ∃ cs, v = .agg cs ∧ cs.size = Try.prog.cellsOf 66 := by
    unfold Value.okWide at hv
    simp only [hu] at hv
    cases v <;> simp_all
  obtain ⟨l⟩ := cs
  match l, hsz.trans (show Try.prog.cellsOf 66 = 3 by kernel_rfl) with
  | [c0, c1, c2], _ =>
    obtain ⟨fuel, hf⟩ := h
    obtain ⟨y0, y1, y2, n, _, h0, h1, h2⟩ := trod_array3 hu (by kernel_rfl) hf
    obtain ⟨a, ha, _⟩ := DataW.trod_int (k := .i64) Try.underlying3 h0
    obtain ⟨b, hb, _⟩ := DataW.trod_int (k := .i64) Try.underlying3 h1
    obtain ⟨c, hc, _⟩ := DataW.trod_int (k := .i64) Try.underlying3 h2
    simp at ha hb hc
    exact ⟨a, b, c, by rw [ha, hb, hc]⟩
end
end Go.Proofs.Ytpaoeghdfeekoaa

/- What FieldHots calls besides the program. -/
namespace Go.Proofs.Ytpaoeghdfeekoaa
open Go.RowKit Go.Mem Go.RegInv

theorem sameBools_any (A B : Option Addr) (ca cb : Nat) (a b : List Bool) (w : World) (ha : RowsAt 1 boolEnc w A a) (hb : RowsAt 1 boolEnc w B b) :
    Calls Try.prog 30 #[.slice A a.length ca, .slice B b.length cb] w fun e w' => e = .returned (.bool (a == b)) ∧ Ext w w' := by
  have ha1 := ha
  have hb1 := hb
  have HA := Lib.hid ha1
  have HB := Lib.hid hb1
  have hla := ha1.1
  have hlb := hb1.1
  clear ha hb ha1 hb1
  by_cases hl : a.length = b.length
  · obtain ⟨n, hn⟩ : ∃ n, n = a.length := ⟨_, rfl⟩
    rw [← hl, ← hn]
    rw [← hn] at hla
    have HN := Lib.hid hn
    have HL := Lib.hid hl
    clear hlb hn hl
    have HE := Lib.hid (show ∀ k, k ≤ n → (∀ j, j < k → a[j]? = b[j]?) → k = n → (a == b) = true from fun k _ h hk => by
      rw [beq_iff_eq]
      refine List.ext_getElem? fun j => ?_
      by_cases hj : j < k
      · exact h j hj
      · rw [List.getElem?_eq_none (by have := HN.out; omega), List.getElem?_eq_none (by have := HN.out; have := HL.out; omega)])
    go_enter Try.func30, Try.ntmps30
    go_wp2
    go_loopw [5] (fun i wr => ∃ k : Nat, k ≤ n ∧ i = .int .i64 k ∧ (∀ j, j < k → a[j]? = b[j]?) ∧ Ext w wr) (fun i _ => n - (intOf i).toNat)
    case atStart => exact ⟨0, Nat.zero_le _, rfl, fun j h => by omega, Ext.refl _⟩
    case round =>
      obtain ⟨k, hk, rfl, hr, hx⟩ := hrel
      have HR := Lib.hid hr
      clear hr
      by_cases hlt : k < n
      · obtain ⟨x, hax⟩ : ∃ x, a[k]? = some x := ⟨_, List.getElem?_eq_getElem (by rw [← HN.out]; exact hlt)⟩
        obtain ⟨y, hby⟩ : ∃ y, b[k]? = some y := ⟨_, List.getElem?_eq_getElem (by rw [← HL.out, ← HN.out]; exact hlt)⟩
        obtain ⟨b1, o1, hA1, _, hc⟩ := HA.out.2 k x hax
        obtain ⟨b2, o2, hB1, _, hd⟩ := HB.out.2 k y hby
        subst hA1 hB1
        have hc1 : wr.cell? ⟨b1, o1 + k, none⟩ = some (.bool x) := hx.cell (by have := hc 0 _ rfl; simpa using this)
        have hd1 : wr.cell? ⟨b2, o2 + k, none⟩ = some (.bool y) := hx.cell (by have := hd 0 _ rfl; simpa using this)
        have HX := Lib.hid hax
        have HY := Lib.hid hby
        have hkn : (k : Int) < (n : Int) := by omega
        clear hc hd hax hby
        cases x <;> cases y
        · go_wp2
          go_quiet (fail)
          go_wp2
          go_roundw
          case rel => exact ⟨k + 1, by omega, by go_num, fun j hj => by
            by_cases hjk : j = k
            · rw [hjk, HX.out, HY.out]
            · exact HR.out j (by omega), hx.trans (Ext.drewN _ _)⟩
          case measure => simp [intOf]; omega
        · have HF := Lib.hid (show (a == b) = false by
            rw [beq_eq_false_iff_ne]; intro h
            rw [h] at HX
            have := HX.out.symm.trans HY.out
            simp at this)
          go_wp2
          go_quiet (fail)
          go_wp2
          go_ret
          exact ⟨ret_bool HF.out.symm, hx.trans (Ext.drewN _ _)⟩
        · have HF := Lib.hid (show (a == b) = false by
            rw [beq_eq_false_iff_ne]; intro h
            rw [h] at HX
            have := HX.out.symm.trans HY.out
            simp at this)
          go_wp2
          go_quiet (fail)
          go_wp2
          go_ret
          exact ⟨ret_bool HF.out.symm, hx.trans (Ext.drewN _ _)⟩
        · go_wp2
          go_quiet (fail)
          go_wp2
          go_roundw
          case rel => exact ⟨k + 1, by omega, by go_num, fun j hj => by
            by_cases hjk : j = k
            · rw [hjk, HX.out, HY.out]
            · exact HR.out j (by omega), hx.trans (Ext.drewN _ _)⟩
          case measure => simp [intOf]; omega
      · go_wp2
        go_ret
        exact ⟨ret_bool (HE.out k hk HR.out (by omega)).symm, hx⟩
  · have HF := Lib.hid (show (a == b) = false by rw [beq_eq_false_iff_ne]; intro h; exact hl (by rw [h]))
    have hl' : ((a.length : Int) != (b.length : Int)) = true := by simp; omega
    generalize a.length = n at *
    generalize b.length = m at *
    clear hl
    go_enter Try.func30, Try.ntmps30
    go_wp2
    go_ret
    exact ⟨ret_bool HF.out.symm, Ext.refl _⟩


def inB (lo hi n : Int) : Bool := decide (lo ≤ n) && decide (n ≤ hi)

theorem within_any (n lo hi : Int) (w : World) : Calls Try.prog 40 #[.int .i64 n, .int .i64 lo, .int .i64 hi] w fun e w' => e = .returned (.bool (inB lo hi n)) ∧ w = w' := by
  by_cases h : lo ≤ n
  · have HI := Lib.hid (show inB lo hi n = decide (n ≤ hi) by simp [inB, h])
    go_enter Try.func40, Try.ntmps40
    go_wp2
    go_ret
    exact ⟨ret_bool (by rw [HI.out]), rfl⟩
  · have HI := Lib.hid (show inB lo hi n = false by simp [inB, h])
    go_enter Try.func40, Try.ntmps40
    go_wp2
    go_ret
    exact ⟨ret_bool (by rw [HI.out]), rfl⟩

def hotE (xs : List Int) (c : Int) : Int := if 4 < xs.length then 8 else if xs.all (inB 1 3000) && inB 1 3000 c then 0 else 2

theorem hotErr_any (v : Value) (xs : List Int) (c : Int) (w : World) (hx : IntsAt w v xs) :
    Calls Try.prog 29 #[v, .int .i64 c] w fun e w' => e = .returned (.int .i64 (hotE xs c)) ∧ w = w' := by
  obtain ⟨A, ca, rfl, ha⟩ := ints_rows hx
  have HA := Lib.hid ha
  clear hx ha
  obtain ⟨n, hn⟩ : ∃ n, n = xs.length := ⟨_, rfl⟩
  rw [← hn]
  have HN := Lib.hid hn
  by_cases h4 : n ≤ 4
  · have HE := Lib.hid (show hotE xs c = if xs.all (inB 1 3000) && inB 1 3000 c then 0 else 2 by unfold hotE; rw [if_neg (by omega)])
    clear hn
    generalize hotE xs c = r at HE ⊢
    go_enter Try.func29, Try.ntmps29
    go_wp2
    go_loopw [5] (fun i wr => ∃ k : Nat, k ≤ n ∧ i = .int .i64 k ∧ (∀ x ∈ xs.take k, inB 1 3000 x = true) ∧ wr = w) (fun i _ => n - (intOf i).toNat)
    case atStart => exact ⟨0, Nat.zero_le _, rfl, by simp, rfl⟩
    case round =>
      obtain ⟨k, hk, rfl, hr, rfl⟩ := hrel
      have HR := Lib.hid hr
      clear hr
      by_cases hlt : k < n
      · obtain ⟨x, hax⟩ : ∃ x, xs[k]? = some x := ⟨_, List.getElem?_eq_getElem (by rw [← HN.out]; exact hlt)⟩
        obtain ⟨b1, o1, hA1, _, hc⟩ := HA.out.2 k x hax
        subst hA1
        have hc1 := (by have := hc 0 _ rfl; simpa using this : wr.cell? ⟨b1, o1 + k, none⟩ = some (.int .i64 x))
        have HX := Lib.hid hax
        clear hc hax
        cases hb : inB 1 3000 x
        · have HB := Lib.hid hb
          clear hb
          go_wp2_with (go_at_call 40; refine (within_any _ _ _ _).mono ?_; rintro e w' ⟨rfl, rfl⟩; rw [HB.out])
          go_ret
          refine ⟨ret_int ?_, rfl⟩
          have : xs.all (inB 1 3000) = false := by
            rw [Bool.eq_false_iff]; intro h
            have := List.all_eq_true.1 h x (List.mem_of_getElem? HX.out)
            rw [HB.out] at this; cases this
          rw [HE.out, this]; rfl
        · have HB := Lib.hid hb
          clear hb
          go_wp2_with (go_at_call 40; refine (within_any _ _ _ _).mono ?_; rintro e w' ⟨rfl, rfl⟩; rw [HB.out])
          go_roundw
          case rel => exact ⟨k + 1, by omega, by go_num, by
            intro y hy
            rw [List.take_add_one, HX.out] at hy
            rcases List.mem_append.1 hy with h | h
            · exact HR.out y h
            · simp at h; rw [h]; exact HB.out, by first | rfl | trivial⟩
          case measure => simp [intOf]; omega
      · have HALL := Lib.hid (show xs.all (inB 1 3000) = true by
          rw [List.all_eq_true]; intro y hy
          exact HR.out y (by rw [List.take_of_length_le (by rw [← HN.out]; omega)]; exact hy))
        cases hb : inB 1 3000 c
        · have HB := Lib.hid hb
          clear hb
          go_wp2_with (go_at_call 40; refine (within_any _ _ _ _).mono ?_; rintro e w' ⟨rfl, rfl⟩; rw [HB.out])
          go_ret
          exact ⟨ret_int (by rw [HE.out, HALL.out, HB.out]; rfl), rfl⟩
        · have HB := Lib.hid hb
          clear hb
          go_wp2_with (go_at_call 40; refine (within_any _ _ _ _).mono ?_; rintro e w' ⟨rfl, rfl⟩; rw [HB.out])
          go_ret
          exact ⟨ret_int (by rw [HE.out, HALL.out, HB.out]; rfl), rfl⟩
  · have HE := Lib.hid (show hotE xs c = 8 by unfold hotE; rw [if_pos (by omega)])
    clear hn
    have h4' : (4 : Int) < (n : Int) := by omega
    generalize hotE xs c = r at HE ⊢
    go_enter Try.func29, Try.ntmps29
    go_wp2
    go_ret
    exact ⟨ret_int HE.out.symm, rfl⟩

end Go.Proofs.Ytpaoeghdfeekoaa

/- The errors of ladders and drives, by the reference. -/
namespace Go.Proofs.Ytpaoeghdfeekoaa
open Go.RowKit Go.Shelf Go.Mem Go.RegInv

theorem rangeE_one (lo hi x : Int) : rangeE lo hi [x] = if inB lo hi x = true then 0 else 2 := by
  unfold rangeE errIf inB outB
  by_cases h1 : lo ≤ x <;> by_cases h2 : x ≤ hi
  · have e1 : ¬ x < lo := by omega
    have e2 : ¬ hi < x := by omega
    simp [h1, h2, e1, e2]
  · have e2 : hi < x := by omega
    simp [h2, e2]
  · have e1 : x < lo := by omega
    simp [h1, e1]
  · have e1 : x < lo := by omega
    simp [h1, e1]
theorem outB_not (lo hi x : Int) : outB lo hi x = !inB lo hi x := by
  simp only [inB, outB, Bool.not_and, ← decide_not, Int.not_le]
theorem rangeE_two (lo hi x y : Int) : rangeE lo hi [x, y] = if inB lo hi x = true ∧ inB lo hi y = true then 0 else 2 := by
  unfold rangeE errIf
  simp only [List.any_cons, List.any_nil, Bool.or_false, outB_not]
  cases inB lo hi x <;> cases inB lo hi y <;> simp

theorem shell_good {g c h : Int} (h1 : inB 1 4 g = true) (h2 : inB 1 4 c = true) (h3 : inB 1 4 h = true) : shellE g c h = if c < h then 9 else 0 := by
  unfold shellE
  rw [rangeE_one, rangeE_two, if_pos h1, if_pos ⟨h2, h3⟩]
  by_cases hlt : c < h <;> simp [firstE, errIf, hlt]
theorem shell_bad1 {g c h : Int} (h1 : inB 1 4 g = false) : shellE g c h = 2 := by
  unfold shellE
  rw [rangeE_one, if_neg (by simp [h1])]; simp [firstE]
theorem shell_bad2 {g c h : Int} (h1 : inB 1 4 g = true) (h2 : inB 1 4 c = false ∨ inB 1 4 h = false) : shellE g c h = 2 := by
  unfold shellE
  rw [rangeE_one, rangeE_two, if_pos h1, if_neg (by rcases h2 with h | h <;> simp [h])]; simp [firstE]
theorem head_cases (t : Int) (n : Nat) : headE t n = if inB 1 20 t = true then (if n = 0 then 10 else if 4 < n then 8 else 0) else 2 := by
  unfold headE
  rw [rangeE_one]
  by_cases h1 : inB 1 20 t = true
  · rw [if_pos h1, if_pos h1]
    by_cases h0 : n = 0
    · simp [firstE, errIf, h0]
    · by_cases h4 : 4 < n
      · have : (4 : Int) < (n : Int) := by omega
        simp [firstE, errIf, h0, h4, this]
      · have : ¬ (4 : Int) < (n : Int) := by omega
        simp [firstE, errIf, h0, h4, this]
  · rw [if_neg h1, if_neg h1]; simp [firstE]

set_option maxRecDepth 100000 in
set_option maxHeartbeats 1000000 in
theorem refCheckLadder_any (t : Int) (A : Option Addr) (n cap : Nat) (l : List Sh) (hn : l.length = n) (w : World) (hS : RowsAt 3 Sh.enc w A l) :
    Calls Try.prog 23 #[.agg #[.int .i64 t, .slice A n cap]] w fun e w' => e = .returned (.tuple #[.int .i64 (checkL t l).1, .int .i64 (checkL t l).2]) ∧ Ext w w' := by
  have HN := Lib.hid hn
  have hm : n ≤ 1152921504606846976 := by have := hS.1; omega
  have HS := Lib.hid hS
  have HL := Lib.hid (show checkL t l = if headE t n ≠ 0 then (0, headE t n) else firstBad l 0 by unfold checkL; rw [hn])
  have HH := Lib.hid (head_cases t n)
  have e0 := Ext.alloc w (.cells #[.int .i64 t, .slice A n cap] 24)
  have E0 := Lib.hid e0
  clear hn hS e0
  by_cases h1 : inB 1 20 t = true
  · have H1 := Lib.hid h1
    by_cases h0 : n = 0
    · have HR := Lib.hid (show checkL t l = (0, 10) by rw [HL.out, HH.out, if_pos h1, if_pos h0]; rfl)
      have hb0 : ((n : Int) == 0) = true := by simp [h0]
      clear h0 h1
      generalize checkL t l = r at *
      go_enter Try.func23, Try.ntmps23
      go_wp2_with (go_at_call 40; refine (within_any _ _ _ _).mono ?_; rintro e w' ⟨rfl, rfl⟩; rw [H1.out])
      go_ret2
      exact ⟨ret_pair (by rw [HR.out]) (by rw [HR.out]), E0.out⟩
    · have hb0 : ((n : Int) == 0) = false := by simp [h0]
      by_cases h4 : 4 < n
      · have HR := Lib.hid (show checkL t l = (0, 8) by rw [HL.out, HH.out, if_pos h1, if_neg h0, if_pos h4]; rfl)
        have hb4 : decide ((4 : Int) < (n : Int)) = true := by simp; omega
        clear h0 h1 h4
        generalize checkL t l = r at *
        go_enter Try.func23, Try.ntmps23
        go_wp2_with (go_at_call 40; refine (within_any _ _ _ _).mono ?_; rintro e w' ⟨rfl, rfl⟩; rw [H1.out])
        go_ret2
        exact ⟨ret_pair (by rw [HR.out]) (by rw [HR.out]), E0.out⟩
      · have HR := Lib.hid (show checkL t l = firstBad l 0 by rw [HL.out, HH.out, if_pos h1, if_neg h0, if_neg h4]; rfl)
        have hb4 : decide ((4 : Int) < (n : Int)) = false := by simp; omega
        have hn4 : n ≤ 4 := by omega
        clear h0 h1 h4 HL HH
        generalize checkL t l = r at *
        go_enter Try.func23, Try.ntmps23
        go_wp2_with (go_at_call 40; refine (within_any _ _ _ _).mono ?_; rintro e w' ⟨rfl, rfl⟩; rw [H1.out])
        have z0 : (w.alloc (.cells #[.int .i64 t, .slice A n cap] 24)).cell? ⟨w.heap.size, 1, none⟩ = some (.slice A n cap) := by go_simp
        generalize w.alloc (.cells #[.int .i64 t, .slice A n cap] 24) = W at *
        have HZ0 := Lib.hid z0
        clear z0
        go_loopw [4] (fun i wr => ∃ k : Nat, k ≤ n ∧ i = .int .i64 k ∧ firstBad l 0 = firstBad (l.drop k) k ∧ Ext W wr) (fun i _ => n - (intOf i).toNat)
        case atStart => exact ⟨0, Nat.zero_le _, rfl, rfl, Ext.refl _⟩
        case round =>
          obtain ⟨k, hk, rfl, hr, hx⟩ := hrel
          have HF := Lib.hid hr
          have z0 : wr.cell? ⟨w.heap.size, 1, none⟩ = some (.slice A n cap) := hx.cell HZ0.out
          have HX := Lib.hid hx
          clear hr hx
          by_cases hlt : k < n
          · obtain ⟨s, hs⟩ : ∃ s, l[k]? = some s := ⟨_, List.getElem?_eq_getElem (by rw [HN.out]; exact hlt)⟩
            have HD := Lib.hid (firstBad_drop l k s hs)
            obtain ⟨b, o, hA, hb, hc⟩ := HS.out.2 k s hs
            subst hA
            have hcg : wr.cell? ⟨b, o + k * 3, none⟩ = some (.int .i64 s.g) := (E0.out.trans HX.out).cell (hc 0 _ rfl)
            have hcc : wr.cell? ⟨b, o + k * 3 + 1, none⟩ = some (.int .i64 s.c) := (E0.out.trans HX.out).cell (hc 1 _ rfl)
            have hch : wr.cell? ⟨b, o + k * 3 + 2, none⟩ = some (.int .i64 s.h) := (E0.out.trans HX.out).cell (hc 2 _ rfl)
            have HE := Lib.hid (show s.e = shellE s.g s.c s.h from rfl)
            clear hs hc hb
            generalize s.e = z at HD HE
            generalize s.g = sg at hcg HE
            generalize s.c = sc at hcc HE
            generalize s.h = sh at hch HE
            have hki : (k : Int) < (n : Int) := by omega
            cases hb1 : inB 1 4 sg
            · have HB1 := Lib.hid hb1
              have HZ := Lib.hid (show z = 2 by rw [HE.out]; exact shell_bad1 hb1)
              clear hb1
              go_wp2_with (go_at_call 40; refine (within_any _ _ _ _).mono ?_; rintro e w' ⟨rfl, rfl⟩; rw [HB1.out])
              go_ret2
              exact ⟨ret_pair (by rw [HR.out, HF.out, HD.out, if_pos (by rw [HZ.out]; decide)]) (by rw [HR.out, HF.out, HD.out, if_pos (by rw [HZ.out]; decide), HZ.out]), E0.out.trans (HX.out.trans (Ext.alloc _ _))⟩
            · have HB1 := Lib.hid hb1
              cases hb2 : inB 1 4 sc
              · have HB2 := Lib.hid hb2
                have HZ := Lib.hid (show z = 2 by rw [HE.out]; exact shell_bad2 hb1 (.inl hb2))
                clear hb1 hb2
                go_wp2_with (go_at_call 40; refine (within_any _ _ _ _).mono ?_; rintro e w' ⟨rfl, rfl⟩; first | rw [HB1.out] | rw [HB2.out])
                go_ret2
                exact ⟨ret_pair (by rw [HR.out, HF.out, HD.out, if_pos (by rw [HZ.out]; decide)]) (by rw [HR.out, HF.out, HD.out, if_pos (by rw [HZ.out]; decide), HZ.out]), E0.out.trans (HX.out.trans (Ext.alloc _ _))⟩
              · have HB2 := Lib.hid hb2
                cases hb3 : inB 1 4 sh
                · have HB3 := Lib.hid hb3
                  have HZ := Lib.hid (show z = 2 by rw [HE.out]; exact shell_bad2 hb1 (.inr hb3))
                  clear hb1 hb2 hb3
                  go_wp2_with (go_at_call 40; refine (within_any _ _ _ _).mono ?_; rintro e w' ⟨rfl, rfl⟩; first | rw [HB1.out] | rw [HB2.out] | rw [HB3.out])
                  go_ret2
                  exact ⟨ret_pair (by rw [HR.out, HF.out, HD.out, if_pos (by rw [HZ.out]; decide)]) (by rw [HR.out, HF.out, HD.out, if_pos (by rw [HZ.out]; decide), HZ.out]), E0.out.trans (HX.out.trans (Ext.alloc _ _))⟩
                · have HB3 := Lib.hid hb3
                  by_cases hlt2 : sc < sh
                  · have HZ := Lib.hid (show z = 9 by rw [HE.out, shell_good hb1 hb2 hb3, if_pos hlt2])
                    clear hb1 hb2 hb3
                    go_wp2_with (go_at_call 40; refine (within_any _ _ _ _).mono ?_; rintro e w' ⟨rfl, rfl⟩; first | rw [HB1.out] | rw [HB2.out] | rw [HB3.out])
                    go_ret2
                    exact ⟨ret_pair (by rw [HR.out, HF.out, HD.out, if_pos (by rw [HZ.out]; decide)]) (by rw [HR.out, HF.out, HD.out, if_pos (by rw [HZ.out]; decide), HZ.out]), E0.out.trans (HX.out.trans (Ext.alloc _ _))⟩
                  · have HZ := Lib.hid (show z = 0 by rw [HE.out, shell_good hb1 hb2 hb3, if_neg hlt2])
                    clear hb1 hb2 hb3
                    go_wp2_with (go_at_call 40; refine (within_any _ _ _ _).mono ?_; rintro e w' ⟨rfl, rfl⟩; first | rw [HB1.out] | rw [HB2.out] | rw [HB3.out])
                    go_roundw
                    case rel => exact ⟨k + 1, by omega, by go_num, by rw [HF.out, HD.out, if_neg (by simp [HZ.out])], HX.out.trans (Ext.alloc _ _)⟩
                    case measure => simp [intOf]; omega
          · have HE := Lib.hid (show firstBad (l.drop k) k = (0, 0) by rw [List.drop_of_length_le (by rw [HN.out]; omega)]; rfl)
            go_wp2
            go_ret2
            exact ⟨ret_pair (by rw [HR.out, HF.out, HE.out]) (by rw [HR.out, HF.out, HE.out]), E0.out.trans HX.out⟩
  · have h1' : inB 1 20 t = false := by simpa using h1
    have H1 := Lib.hid h1'
    have HR := Lib.hid (show checkL t l = (0, 2) by rw [HL.out, HH.out, if_neg h1]; rfl)
    clear h1 h1'
    generalize checkL t l = r at *
    go_enter Try.func23, Try.ntmps23
    go_wp2_with (go_at_call 40; refine (within_any _ _ _ _).mono ?_; rintro e w' ⟨rfl, rfl⟩; rw [H1.out])
    go_ret2
    exact ⟨ret_pair (by rw [HR.out]) (by rw [HR.out]), E0.out⟩

theorem refLadderErr_any (t : Int) (A : Option Addr) (n cap : Nat) (l : List Sh) (hn : l.length = n) (w : World) (hS : RowsAt 3 Sh.enc w A l) :
    Calls Try.prog 65 #[.agg #[.int .i64 t, .slice A n cap]] w fun e w' => e = .returned (.int .i64 (checkL t l).2) ∧ Ext w w' := by
  have HC := Lib.hid (fun W h => refCheckLadder_any t A n cap l hn W h)
  have e0 := Ext.alloc w (.cells #[.int .i64 t, .slice A n cap] 24)
  have HS := Lib.hid (hS.ext e0)
  clear hn hS
  generalize checkL t l = q at HC
  go_enter Try.func65, Try.ntmps65
  go_wp2_with (go_at_call 23; refine (HC.out _ HS.out).mono ?_; rintro e w' ⟨rfl, hx⟩)
  go_ret
  exact ⟨rfl, e0.trans hx⟩

/-- The error of a drive alone. -/
def drvE (f : Int) (m n : Nat) : Int := firstE [rangeE 1 8 [f], errIf ((m : Int) != (n : Int)) 10]

theorem refDriveErr_any (t : Int) (A : Option Addr) (n cap : Nat) (f : Int) (B : Option Addr) (m cap' : Nat) (w : World) :
    Calls Try.prog 76 #[.agg #[.int .i64 t, .slice A n cap], .agg #[.int .i64 f, .slice B m cap']] w fun e w' => e = .returned (.int .i64 (drvE f m n)) ∧ Ext w w' := by
  have e0 : Ext w ((w.alloc (.cells #[.int .i64 t, .slice A n cap] 24)).alloc (.cells #[.int .i64 f, .slice B m cap'] 27)) := (Ext.alloc _ _).trans (Ext.alloc _ _)
  by_cases h1 : inB 1 8 f = true
  · have H1 := Lib.hid h1
    by_cases h2 : m = n
    · have HR := Lib.hid (show drvE f m n = 0 by unfold drvE; rw [rangeE_one, if_pos h1, h2]; simp [firstE, errIf])
      have hb : ((m : Int) != (n : Int)) = false := by simp [h2]
      clear h1 h2
      generalize drvE f m n = r at *
      go_enter Try.func76, Try.ntmps76
      go_wp2_with (go_at_call 40; refine (within_any _ _ _ _).mono ?_; rintro e w' ⟨rfl, rfl⟩; rw [H1.out])
      go_ret
      exact ⟨ret_int HR.out.symm, e0⟩
    · have HR := Lib.hid (show drvE f m n = 10 by unfold drvE; rw [rangeE_one, if_pos h1]; simp [firstE, errIf]; omega)
      have hb : ((m : Int) != (n : Int)) = true := by simp; omega
      clear h1 h2
      generalize drvE f m n = r at *
      go_enter Try.func76, Try.ntmps76
      go_wp2_with (go_at_call 40; refine (within_any _ _ _ _).mono ?_; rintro e w' ⟨rfl, rfl⟩; rw [H1.out])
      go_ret
      exact ⟨ret_int HR.out.symm, e0⟩
  · have H1 := Lib.hid (show inB 1 8 f = false by simpa using h1)
    have HR := Lib.hid (show drvE f m n = 2 by unfold drvE; rw [rangeE_one, if_neg h1]; simp [firstE])
    clear h1
    generalize drvE f m n = r at *
    go_enter Try.func76, Try.ntmps76
    go_wp2_with (go_at_call 40; refine (within_any _ _ _ _).mono ?_; rintro e w' ⟨rfl, rfl⟩; rw [H1.out])
    go_ret
    exact ⟨ret_int HR.out.symm, e0⟩

theorem drive_split (t : Int) (l : List Sh) (f : Int) (m : Nat) : driveE t l f m = if (checkL t l).2 ≠ 0 then (checkL t l).2 else drvE f m l.length := by
  unfold driveE drvE
  by_cases h : (checkL t l).2 = 0
  · rw [if_neg (by simp [h]), h]; simp [firstE]
  · rw [if_pos h]; simp [firstE, h]

theorem refBothErr_any (t : Int) (A : Option Addr) (n cap : Nat) (l : List Sh) (hn : l.length = n) (f : Int) (B : Option Addr) (m cap' : Nat) (w : World) (hS : RowsAt 3 Sh.enc w A l) :
    Calls Try.prog 24 #[.agg #[.int .i64 t, .slice A n cap], .agg #[.int .i64 f, .slice B m cap']] w fun e w' => e = .returned (.int .i64 (driveE t l f m)) ∧ Ext w w' := by
  have HC := Lib.hid (fun W h => refLadderErr_any t A n cap l hn W h)
  have HD := Lib.hid (fun W => refDriveErr_any t A n cap f B m cap' W)
  have e0 : Ext w ((w.alloc (.cells #[.int .i64 t, .slice A n cap] 24)).alloc (.cells #[.int .i64 f, .slice B m cap'] 27)) := (Ext.alloc _ _).trans (Ext.alloc _ _)
  have HS := Lib.hid (hS.ext e0)
  have HR := Lib.hid (show driveE t l f m = if (checkL t l).2 ≠ 0 then (checkL t l).2 else drvE f m n by rw [drive_split, hn])
  clear hn hS
  generalize (checkL t l).2 = q at *
  generalize driveE t l f m = r at *
  have FA := Lib.hid (show ∀ W : World, Ext ((w.alloc (.cells #[.int .i64 t, .slice A n cap] 24)).alloc (.cells #[.int .i64 f, .slice B m cap'] 27)) W →
      W.cell? ⟨w.heap.size, 0, none⟩ = some (.int .i64 t) ∧ W.cell? ⟨w.heap.size, 1, none⟩ = some (.slice A n cap) ∧ W.cell? ⟨w.heap.size + 1, 0, none⟩ = some (.int .i64 f) ∧ W.cell? ⟨w.heap.size + 1, 1, none⟩ = some (.slice B m cap') from
    fun W hx => ⟨hx.cell (by go_simp), hx.cell (by go_simp), hx.cell (by go_simp), hx.cell (by go_simp)⟩)
  by_cases hq : q = 0
  · have hq' : (q != 0) = false := by simp [hq]
    have HQ := Lib.hid hq
    clear hq
    go_enter Try.func24, Try.ntmps24
    go_wp2_with (first
      | (go_at_call 65; refine (HC.out _ HS.out).mono ?_; rintro e W1 ⟨rfl, hx1⟩; obtain ⟨z0, z1, z2, z3⟩ := FA.out _ hx1)
      | (go_at_call 76; refine (HD.out _).mono ?_; rintro e W2 ⟨rfl, hx2⟩))
    go_ret
    exact ⟨ret_int (by rw [HR.out, if_neg (by simp [HQ.out])]), e0.trans (hx1.trans hx2)⟩
  · have hq' : (q != 0) = true := by simp [hq]
    have HQ := Lib.hid hq
    clear hq
    go_enter Try.func24, Try.ntmps24
    go_wp2_with (go_at_call 65; refine (HC.out _ HS.out).mono ?_; rintro e W1 ⟨rfl, hx1⟩)
    go_ret
    exact ⟨ret_int (by rw [HR.out, if_pos HQ.out]), e0.trans hx1⟩

end Go.Proofs.Ytpaoeghdfeekoaa

/- Reactances, by the program and by the reference; few, fewHot. -/
namespace Go.Proofs.Ytpaoeghdfeekoaa
open Go.RowKit Go.Shelf Go.Mem Go.RegInv

theorem few_yes (t : Int) (A : Option Addr) (n cap : Nat) (w : World) (h : n ≤ 6) :
    Calls Try.prog 16 #[.agg #[.int .i64 t, .slice A n cap]] w fun e w' => e = .returned (.bool true) ∧ Ext w w' := by
  have hd : decide ((n : Int) ≤ 6) = true := by simp; omega
  clear h
  go_enter Try.func16, Try.ntmps16
  go_wp2
  go_ret
  exact ⟨ret_bool (by simp), Ext.alloc _ _⟩
theorem few_no (t : Int) (A : Option Addr) (n cap : Nat) (w : World) (h : 6 < n) :
    Calls Try.prog 16 #[.agg #[.int .i64 t, .slice A n cap]] w fun e w' => e = .returned (.bool false) ∧ Ext w w' := by
  have hd : decide ((n : Int) ≤ 6) = false := by simp; omega
  clear h
  go_enter Try.func16, Try.ntmps16
  go_wp2
  go_ret
  exact ⟨ret_bool (by simp), Ext.alloc _ _⟩
theorem fewHot_yes (f : Int) (B : Option Addr) (m cap : Nat) (w : World) (h : m ≤ 6) :
    Calls Try.prog 17 #[.agg #[.int .i64 f, .slice B m cap]] w fun e w' => e = .returned (.bool true) ∧ Ext w w' := by
  have hd : decide ((m : Int) ≤ 6) = true := by simp; omega
  clear h
  go_enter Try.func17, Try.ntmps17
  go_wp2
  go_ret
  exact ⟨ret_bool (by simp), Ext.alloc _ _⟩
theorem fewHot_no (f : Int) (B : Option Addr) (m cap : Nat) (w : World) (h : 6 < m) :
    Calls Try.prog 17 #[.agg #[.int .i64 f, .slice B m cap]] w fun e w' => e = .returned (.bool false) ∧ Ext w w' := by
  have hd : decide ((m : Int) ≤ 6) = false := by simp; omega
  clear h
  go_enter Try.func17, Try.ntmps17
  go_wp2
  go_ret
  exact ⟨ret_bool (by simp), Ext.alloc _ _⟩

def reactL (f : Int) (hot : List Bool) (l : List Sh) : List Int := List.zipWith (react f) hot l
theorem reactL_len {f : Int} {hot : List Bool} {l : List Sh} (h : hot.length = l.length) : (reactL f hot l).length = l.length := by simp [reactL, h]
theorem reactL_at {f : Int} {hot : List Bool} {l : List Sh} {k : Nat} {h : Bool} {s : Sh} (hk : hot[k]? = some h) (ls : l[k]? = some s) : (reactL f hot l)[k]? = some (react f h s) := by
  simp [reactL, List.getElem?_zipWith, hk, ls]
theorem take_snocI {xs : List Int} {k : Nat} {x : Int} (h : xs[k]? = some x) : (xs.take (k + 1)).map (Value.int .i64) = (xs.take k).map (Value.int .i64) ++ [.int .i64 x] := by
  rw [List.take_add_one, h]; simp

theorem own_ext {W W' : World} {base n k : Nat} {e : TypeId} {v : Value} {xs : List Value} (h : W.ownsRow base e k v n xs) (x : Ext W W') : W'.ownsRow base e k v n xs := by
  refine ⟨h.1, ?_⟩
  rcases h.2 with h2 | ⟨g, cap, cu, hv, hg, hh, r⟩
  · exact .inl h2
  · exact .inr ⟨g, cap, cu, hv, hg, (show Blk W' g e cu from (show Blk W g e cu from hh).ext x), r⟩

theorem bd_react {f : Int} {s : Sh} (hf : 1 ≤ f ∧ f ≤ 8) (hs : shOK s) : (-1000 ≤ f * s.c ∧ f * s.c ≤ 1000) ∧ (-1000 ≤ f * s.h ∧ f * s.h ≤ 1000) := by
  obtain ⟨_, h2, h3, _⟩ := hs
  have a := mul_bd (n := f) (x := s.c) (N := 8) (B := 4) (by omega) hf.2 (by omega) (by omega)
  have b := mul_bd (n := f) (x := s.h) (N := 8) (B := 4) (by omega) hf.2 (by omega) (by omega)
  omega
theorem mid_react {f : Int} {s : Sh} (hf : 1 ≤ f ∧ f ≤ 8) (hs : shOK s) : Mid (f * s.c) ∧ Mid (f * s.h) := by
  obtain ⟨_, h2, h3, _⟩ := hs
  have a := mul_bd (n := f) (x := s.c) (N := 8) (B := 4) (by omega) hf.2 (by omega) (by omega)
  have b := mul_bd (n := f) (x := s.h) (N := 8) (B := 4) (by omega) hf.2 (by omega) (by omega)
  unfold Mid
  omega

set_option maxRecDepth 100000 in
set_option maxHeartbeats 2000000 in
theorem reactancesOf_any (t : Int) (A : Option Addr) (n cap : Nat) (l : List Sh) (hn : l.length = n) (f : Int) (B : Option Addr) (m cap' : Nat) (hot : List Bool) (hm : hot.length = m) (w : World)
    (hS : RowsAt 3 Sh.enc w A l) (hH : RowsAt 1 boolEnc w B hot) :
    Calls Try.prog 22 #[.agg #[.int .i64 t, .slice A n cap], .agg #[.int .i64 f, .slice B m cap']] w fun e w' => Ext w w' ∧
      ((driveE t l f m ≠ 0 ∧ e = .returned (.tuple #[.slice none 0 0, .int .i64 (driveE t l f m)])) ∨
       (driveE t l f m = 0 ∧ ∃ v, e = .returned (.tuple #[v, .int .i64 0]) ∧ IntsAt w' v (reactL f hot l))) := by
  have HC := Lib.hid (fun W h => checkDrive_any t A n cap l hn f B m cap' W h)
  have e0 : Ext w ((w.alloc (.cells #[.int .i64 t, .slice A n cap] 24)).alloc (.cells #[.int .i64 f, .slice B m cap'] 27)) := (Ext.alloc _ _).trans (Ext.alloc _ _)
  have FA := Lib.hid (show ∀ W : World, Ext ((w.alloc (.cells #[.int .i64 t, .slice A n cap] 24)).alloc (.cells #[.int .i64 f, .slice B m cap'] 27)) W →
      W.cell? ⟨w.heap.size, 0, none⟩ = some (.int .i64 t) ∧ W.cell? ⟨w.heap.size, 1, none⟩ = some (.slice A n cap) ∧ W.cell? ⟨w.heap.size + 1, 0, none⟩ = some (.int .i64 f) ∧ W.cell? ⟨w.heap.size + 1, 1, none⟩ = some (.slice B m cap') from
    fun W hx => ⟨hx.cell (by go_simp), hx.cell (by go_simp), hx.cell (by go_simp), hx.cell (by go_simp)⟩)
  have HS := Lib.hid hS
  have HH := Lib.hid hH
  have HN := Lib.hid hn
  have HM := Lib.hid hm
  have E0 := Lib.hid e0
  clear hn hS hm hH e0
  by_cases hq : driveE t l f m = 0
  · obtain ⟨⟨_, ⟨h1, h4⟩, hok⟩, hf, hml⟩ := (driveE_zero t l f m).1 hq
    obtain rfl : n = m := by rw [hml, ← HN.out]
    have HRE := Lib.hid (fun (k : Nat) (s : Sh) (b : Bool) (W : World) (hs : l[k]? = some s) (hb : hot[k]? = some b) (e : Ext w W) =>
      reactanceOf_any t A n cap l HN.out f B n cap' hot k s b W (HS.out.ext e) (HH.out.ext e) hs hb HM.out (mid_react hf (hok s (List.mem_of_getElem? hs))).1 (mid_react hf (hok s (List.mem_of_getElem? hs))).2)
    have HQ := Lib.hid hq
    have hn4 : n ≤ 4 := by rw [← HN.out]; exact h4
    clear h1 h4 hok hf hml hq
    obtain ⟨i0, hi, hz0, hz1, hz2⟩ := info_parts info3
    have HI0 := Lib.hid hz0
    generalize driveE t l f n = q at HC HQ ⊢
    have hq' : q = 0 := HQ.out
    subst hq'
    have HLEN := Lib.hid (show (reactL f hot l).length = n by rw [reactL_len (by rw [HM.out, HN.out]), HN.out])
    go_enter Try.func22, Try.ntmps22
    go_wp2_with (go_at_call 20; refine (HC.out _ (HS.out.ext E0.out)).mono ?_; rintro e W1 ⟨rfl, hx1⟩; obtain ⟨z0, z1, z2, z3⟩ := FA.out _ hx1; have X1 := Lib.hid hx1; clear hx1)
    clear z0 z1 z2 z3
    go_loopw [18, 7] (fun i v wr => ∃ k : Nat, k ≤ n ∧ i = .int .i64 k ∧ wr.ownsRow W1.heap.size 3 1 v k (((reactL f hot l).take k).map (Value.int .i64)) ∧ Ext W1 wr) (fun i _ _ => n - (intOf i).toNat)
    case atStart => exact ⟨0, Nat.zero_le _, rfl, World.ownsRow_nil _ _ _ _, Ext.refl _⟩
    case round =>
      obtain ⟨k, hk, rfl, hown, he⟩ := hrel
      have HO := Lib.hid hown
      have HE := Lib.hid he
      clear hown he
      by_cases hlt : k < n
      · obtain ⟨s, hs⟩ : ∃ s, l[k]? = some s := ⟨_, List.getElem?_eq_getElem (by rw [HN.out]; exact hlt)⟩
        obtain ⟨b, hb⟩ : ∃ b, hot[k]? = some b := ⟨_, List.getElem?_eq_getElem (by rw [HM.out]; exact hlt)⟩
        have HT := Lib.hid (take_snocI (reactL_at (f := f) hb hs))
        obtain ⟨z0, z1, z2, z3⟩ := FA.out _ (X1.out.trans HE.out)
        have HR := Lib.hid (HRE.out k s b wr hs hb (E0.out.trans (X1.out.trans HE.out)))
        have hwb := HE.out.size
        clear hs hb
        generalize react f b s = x at *
        go_wp2_with (first
          | (go_at_call 88; refine HR.out.mono ?_; rintro e W5 ⟨rfl, hx5⟩; have X5 := Lib.hid hx5; have hs5 := hx5.size; clear hx5)
          | (at_builtin; refine wpList_append_own _ rfl _ _ 37 rfl W1.heap.size 3 i0 (.int .i64 0) 1 8 Try.underlying37 hi HI0.out hz1 hz2 rfl (by decide) _ _ _ rfl ((own_ext HO.out X5.out).alloc _) ⟨W5.heap.size, 0, none⟩ 1 1 [.int .i64 x] rfl rfl (news_of1 (Blk.new W5 3 #[.int .i64 x])) (by simp [Value.oneCell']) (by unfold maxLen; omega) (by omega) (by simp; omega) ?_; intro v' w1 hown' hgrow _; have HO1 := Lib.hid hown'; have HE1 := Lib.hid (Ext.grownBy ((HE.out.trans X5.out).trans (Ext.alloc _ _)) hgrow (fun g hg => own_base HO.out hg)); clear hown' hgrow))
        go_roundw
        case rel => exact ⟨k + 1, by omega, by go_num, by rw [HT.out]; exact HO1.out, HE1.out⟩
        case measure => simp [intOf]; omega
      · obtain rfl : k = n := by omega
        go_wp2
        go_ret2
        exact ⟨E0.out.trans (X1.out.trans HE.out), .inr ⟨by trivial, _, rfl, ints_of_own (n := k) HLEN.out (by omega) (by have := HO.out; rw [List.take_of_length_le (by rw [HLEN.out]; omega)] at this; exact this)⟩⟩
  · have HQ := Lib.hid hq
    have hq' : (driveE t l f m != 0) = true := by simp [hq]
    clear hq
    generalize driveE t l f m = q at HC HQ hq' ⊢
    go_enter Try.func22, Try.ntmps22
    go_wp2_with (go_at_call 20; refine (HC.out _ (HS.out.ext E0.out)).mono ?_; rintro e w' ⟨rfl, hx⟩)
    go_ret2
    exact ⟨E0.out.trans hx, .inl ⟨HQ.out, rfl⟩⟩

set_option maxRecDepth 100000 in
set_option maxHeartbeats 2000000 in
theorem refReactances_any (t : Int) (A : Option Addr) (n cap : Nat) (l : List Sh) (hn : l.length = n) (f : Int) (B : Option Addr) (cap' : Nat) (hot : List Bool) (hm : hot.length = n) (w : World)
    (hS : RowsAt 3 Sh.enc w A l) (hH : RowsAt 1 boolEnc w B hot) (hok : ∀ s ∈ l, shOK s) (hf : 1 ≤ f ∧ f ≤ 8) (hn4 : n ≤ 4) :
    Calls Try.prog 26 #[.agg #[.int .i64 t, .slice A n cap], .agg #[.int .i64 f, .slice B n cap']] w fun e w' => ∃ v, e = .returned v ∧ IntsAt w' v (reactL f hot l) ∧ Ext w w' := by
  have e0 : Ext w ((w.alloc (.cells #[.int .i64 t, .slice A n cap] 24)).alloc (.cells #[.int .i64 f, .slice B n cap'] 27)) := (Ext.alloc _ _).trans (Ext.alloc _ _)
  have FA := Lib.hid (show ∀ W : World, Ext ((w.alloc (.cells #[.int .i64 t, .slice A n cap] 24)).alloc (.cells #[.int .i64 f, .slice B n cap'] 27)) W →
      W.cell? ⟨w.heap.size, 0, none⟩ = some (.int .i64 t) ∧ W.cell? ⟨w.heap.size, 1, none⟩ = some (.slice A n cap) ∧ W.cell? ⟨w.heap.size + 1, 0, none⟩ = some (.int .i64 f) ∧ W.cell? ⟨w.heap.size + 1, 1, none⟩ = some (.slice B n cap') from
    fun W hx => ⟨hx.cell (by go_simp), hx.cell (by go_simp), hx.cell (by go_simp), hx.cell (by go_simp)⟩)
  have HS := Lib.hid hS
  have HH := Lib.hid hH
  have HN := Lib.hid hn
  have HM := Lib.hid hm
  have E0 := Lib.hid e0
  have HOK := Lib.hid hok
  have HF := Lib.hid hf
  obtain ⟨i0, hi, hz0, hz1, hz2⟩ := info_parts info3
  have HI0 := Lib.hid hz0
  have HLEN := Lib.hid (show (reactL f hot l).length = n by rw [reactL_len (by rw [hm, hn]), hn])
  clear hn hS hm hH e0 hok hf
  go_enter Try.func26, Try.ntmps26
  go_wp2
  generalize hW1 : (w.alloc (.cells #[.int .i64 t, .slice A n cap] 24)).alloc (.cells #[.int .i64 f, .slice B n cap'] 27) = W1 at *
  clear hW1
  go_loopw [6, 5] (fun i v wr => ∃ k : Nat, k ≤ n ∧ i = .int .i64 k ∧ wr.ownsRow W1.heap.size 3 1 v k (((reactL f hot l).take k).map (Value.int .i64)) ∧ Ext W1 wr) (fun i _ _ => n - (intOf i).toNat)
  case atStart => exact ⟨0, Nat.zero_le _, rfl, World.ownsRow_nil _ _ _ _, Ext.refl _⟩
  case round =>
    obtain ⟨k, hk, rfl, hown, he⟩ := hrel
    have HO := Lib.hid hown
    have HE := Lib.hid he
    clear hown he
    obtain ⟨z0, z1, z2, z3⟩ := FA.out _ HE.out
    by_cases hlt : k < n
    · obtain ⟨s, hs⟩ : ∃ s, l[k]? = some s := ⟨_, List.getElem?_eq_getElem (by rw [HN.out]; exact hlt)⟩
      obtain ⟨hb, hbb⟩ : ∃ b, hot[k]? = some b := ⟨_, List.getElem?_eq_getElem (by rw [HM.out]; exact hlt)⟩
      have HT := Lib.hid (take_snocI (reactL_at (f := f) hbb hs))
      obtain ⟨b1, o1, hA1, _, hc⟩ := HS.out.2 k s hs
      subst hA1
      have hcc : wr.cell? ⟨b1, o1 + k * 3 + 1, none⟩ = some (.int .i64 s.c) := (E0.out.trans HE.out).cell (hc 1 _ rfl)
      have hch : wr.cell? ⟨b1, o1 + k * 3 + 2, none⟩ = some (.int .i64 s.h) := (E0.out.trans HE.out).cell (hc 2 _ rfl)
      obtain ⟨b2, o2, hB2, _, hd⟩ := HH.out.2 k hb hbb
      subst hB2
      have hdd : wr.cell? ⟨b2, o2 + k, none⟩ = some (.bool hb) := (E0.out.trans HE.out).cell (by have := hd 0 _ rfl; simpa using this)
      have hmm := bd_react HF.out (HOK.out s (List.mem_of_getElem? hs))
      have HBsc := Lib.hid hmm.1
      have HBsh := Lib.hid hmm.2
      have hwb := HE.out.size
      have HRX : react f hb s = f * (if hb then s.h else s.c) := rfl
      have hki : (k : Int) < (n : Int) := by omega
      clear hs hbb hc hd hmm
      generalize react f hb s = x at HT HRX
      generalize s.c = sc at *
      generalize s.h = sh at *
      cases hb
      · simp only [Bool.false_eq_true, if_false] at HRX
        subst HRX
        have hlo : -1000 ≤ f * sc := HBsc.out.1
        have hhi : f * sc ≤ 1000 := HBsc.out.2
        go_wp2_with (at_builtin; refine wpList_append_own _ rfl _ _ 37 rfl W1.heap.size 3 i0 (.int .i64 0) 1 8 Try.underlying37 hi HI0.out hz1 hz2 rfl (by decide) _ _ _ rfl (HO.out.alloc _) ⟨wr.heap.size, 0, none⟩ 1 1 [.int .i64 (f * sc)] rfl rfl (news_of1 (Blk.new wr 3 #[.int .i64 (f * sc)])) (by simp [Value.oneCell']) (by unfold maxLen; omega) (by omega) (by simp; omega) ?_; intro v' w1 hown' hgrow _; have HO1 := Lib.hid hown'; have HE1 := Lib.hid (Ext.grownBy (HE.out.trans (Ext.alloc _ _)) hgrow (fun g hg => own_base HO.out hg)); clear hown' hgrow)
        go_roundw
        case rel => exact ⟨k + 1, by omega, by go_num, by rw [HT.out]; exact HO1.out, HE1.out⟩
        case measure => simp [intOf]; omega
      · simp only [if_true] at HRX
        subst HRX
        have hlo : -1000 ≤ f * sh := HBsh.out.1
        have hhi : f * sh ≤ 1000 := HBsh.out.2
        go_wp2_with (at_builtin; refine wpList_append_own _ rfl _ _ 37 rfl W1.heap.size 3 i0 (.int .i64 0) 1 8 Try.underlying37 hi HI0.out hz1 hz2 rfl (by decide) _ _ _ rfl (HO.out.alloc _) ⟨wr.heap.size, 0, none⟩ 1 1 [.int .i64 (f * sh)] rfl rfl (news_of1 (Blk.new wr 3 #[.int .i64 (f * sh)])) (by simp [Value.oneCell']) (by unfold maxLen; omega) (by omega) (by simp; omega) ?_; intro v' w1 hown' hgrow _; have HO1 := Lib.hid hown'; have HE1 := Lib.hid (Ext.grownBy (HE.out.trans (Ext.alloc _ _)) hgrow (fun g hg => own_base HO.out hg)); clear hown' hgrow)
        go_roundw
        case rel => exact ⟨k + 1, by omega, by go_num, by rw [HT.out]; exact HO1.out, HE1.out⟩
        case measure => simp [intOf]; omega
    · obtain rfl : k = n := by omega
      go_wp2
      go_ret
      exact ⟨_, rfl, ints_of_own (n := k) HLEN.out (by omega) (by have := HO.out; rw [List.take_of_length_le (by rw [HLEN.out]; omega)] at this; exact this), E0.out.trans HE.out⟩

end Go.Proofs.Ytpaoeghdfeekoaa

/- FieldLadders: the law's function. By lawgen.py. -/
namespace Go.Proofs.Ytpaoeghdfeekoaa
open Go.RowKit Go.Shelf Go.Mem Go.RegInv
attribute [local go_sem] RelUpon_value RelUpon_skip RelUpon_enter BigFrame.eval_const BigFrame.eval_global BigFrame.eval_func

/-- What came back, an error beside it. -/
def TupV (P : Value → World → Prop) (er : Int) : Value → World → Prop := fun u W => ∃ v, u = .tuple #[v, .int .i64 er] ∧ P v W
theorem TupV.ext {P : Value → World → Prop} {er : Int} {u : Value} {W W' : World} (hp : ∀ v a b, P v a → Ext a b → P v b) (h : TupV P er u W) (e : Ext W W') : TupV P er u W' := by
  obtain ⟨v, h1, h2⟩ := h; exact ⟨v, h1, hp _ _ _ h2 e⟩
/-- Nothing where there is an error. -/
def Opt (q : Int) (nilv : Value) (P : Value → World → Prop) : Value → World → Prop := fun v W => (q ≠ 0 → v = nilv) ∧ (q = 0 → P v W)
theorem Opt.ext {P : Value → World → Prop} {q : Int} {nilv : Value} {u : Value} {W W' : World} (hp : ∀ v a b, P v a → Ext a b → P v b) (h : Opt q nilv P u W) (e : Ext W W') : Opt q nilv P u W' :=
  ⟨h.1, fun hq => hp _ _ _ (h.2 hq) e⟩
/-- A slice of complex numbers. -/
def GsV (zs : List G) : Value → World → Prop := fun u W => ∃ A c, u = .slice A zs.length c ∧ RowsAt 2 G.enc W A zs
theorem GsV.ext {zs : List G} {u : Value} {W W' : World} (h : GsV zs u W) (e : Ext W W') : GsV zs u W' := by
  obtain ⟨A, c, h1, h2⟩ := h; exact ⟨A, c, h1, h2.ext e⟩
/-- A result, and what it is. -/
def VPost (W : World) (φ : Value → World → Prop) : Ending → World → Prop := fun e w' => ∃ v, e = .returned v ∧ Ext W w' ∧ φ v w'

theorem copyLadder_V {t : Int} {A : Option Addr} {n ca : Nat} {xs : List Sh} (hn : xs.length = n) {w : World} (ha : RowsAt 3 Sh.enc w A xs) (h6 : n ≤ 6) (hnil : A = none → ca = 0) (W : World) (e : Ext w W) :
    Calls Try.prog 19 #[.agg #[.int .i64 t, .slice A n ca]] W (VPost W (LadV t xs)) :=
  (copyLadder_any t A n ca xs hn W (ha.ext e) h6 hnil).mono fun _ _ ⟨A', c', h1, h2, h3⟩ => ⟨_, h1, h3, A', n, c', Lib.hid hn, rfl, h2⟩
theorem copyDrive_V {f : Int} {A : Option Addr} {n ca : Nat} {xs : List Bool} (hn : xs.length = n) {w : World} (ha : RowsAt 1 boolEnc w A xs) (h6 : n ≤ 6) (hnil : A = none → ca = 0) (W : World) (e : Ext w W) :
    Calls Try.prog 21 #[.agg #[.int .i64 f, .slice A n ca]] W (VPost W (DrvV f xs)) :=
  (copyDrive_any f A n ca xs hn W (ha.ext e) h6 hnil).mono fun _ _ ⟨A', c', h1, h2, h3⟩ => ⟨_, h1, h3, A', n, c', Lib.hid hn, rfl, h2⟩
theorem checkLadder_V {t : Int} {xs : List Sh} (W : World) (u : Value) (h : LadV t xs u W) : Calls Try.prog 18 #[u] W (VPost W (Is (.tuple #[.int .i64 (checkL t xs).1, .int .i64 (checkL t xs).2]))) := by
  obtain ⟨A, n, c, hn, rfl, hl⟩ := h
  exact (checkLadder_any t A n c xs hn.out W hl.1).mono fun _ _ ⟨h1, h2⟩ => ⟨_, h1, h2, rfl⟩
theorem checkDrive_V {t : Int} {xs : List Sh} {f : Int} {hot : List Bool} {m : Nat} (hm : hot.length = m) (W : World) (u v : Value) (h : LadV t xs u W) (k : DrvV f hot v W) : Calls Try.prog 20 #[u, v] W (VPost W (Is (.int .i64 (driveE t xs f m)))) := by
  obtain ⟨A, n, c, hn, rfl, hl⟩ := h
  obtain ⟨B, m', d, hm', rfl, hd⟩ := k
  obtain rfl : m = m' := hm.symm.trans hm'.out
  exact (checkDrive_any t A n c xs hn.out f B m d W hl.1).mono fun _ _ ⟨h1, h2⟩ => ⟨_, h1, h2, rfl⟩
theorem reactancesOf_V {t : Int} {xs : List Sh} {f : Int} {hot : List Bool} {m : Nat} (hm : hot.length = m) (W : World) (u v : Value) (h : LadV t xs u W) (k : DrvV f hot v W) :
    Calls Try.prog 22 #[u, v] W (VPost W (TupV (Opt (driveE t xs f m) (.slice none 0 0) (Ints (reactL f hot xs))) (driveE t xs f m))) := by
  obtain ⟨A, n, c, hn, rfl, hl⟩ := h
  obtain ⟨B, m', d, hm', rfl, hd⟩ := k
  obtain rfl : m = m' := hm.symm.trans hm'.out
  refine (reactancesOf_any t A n c xs hn.out f B m d hot hm W hl.1 hd).mono ?_
  rintro e w' ⟨hx, ⟨h1, h2⟩ | ⟨h1, v, h2, h3⟩⟩
  · exact ⟨_, h2, hx, _, rfl, fun _ => rfl, fun h => absurd h h1⟩
  · exact ⟨_, h2, hx, _, by rw [h1], fun h => absurd h1 h, fun _ => h3⟩

set_option maxRecDepth 100000 in
set_option maxHeartbeats 4000000 in
theorem fieldLadders_main (t : Int) (A : Option Addr) (n ca : Nat) (xs : List Sh) (hn : xs.length = n) (f : Int) (B : Option Addr) (m cb : Nat) (hot : List Bool) (hm : hot.length = m) (w : World)
    (hA : RowsAt 3 Sh.enc w A xs) (hB : RowsAt 1 boolEnc w B hot) (n6 : n ≤ 6) (m6 : m ≤ 6) (hAn : A = none → ca = 0) (hBn : B = none → cb = 0) :
    Calls Try.prog 3 #[.agg #[.int .i64 t, .slice A n ca], .agg #[.int .i64 f, .slice B m cb]] w fun e w' => e = .returned (.bool true) ∧ Ext w w' := by
  have e0 : Ext w ((w.alloc (.cells #[.int .i64 t, .slice A n ca] 24)).alloc (.cells #[.int .i64 f, .slice B m cb] 27)) := (Ext.alloc _ _).trans (Ext.alloc _ _)
  have FA := Lib.hid (show ∀ W : World, Ext ((w.alloc (.cells #[.int .i64 t, .slice A n ca] 24)).alloc (.cells #[.int .i64 f, .slice B m cb] 27)) W →
      W.cell? ⟨w.heap.size, 0, none⟩ = some (.int .i64 t) ∧ W.cell? ⟨w.heap.size, 1, none⟩ = some (.slice A n ca) ∧ W.cell? ⟨w.heap.size + 1, 0, none⟩ = some (.int .i64 f) ∧ W.cell? ⟨w.heap.size + 1, 1, none⟩ = some (.slice B m cb) from
    fun W hx => ⟨hx.cell (by go_simp), hx.cell (by go_simp), hx.cell (by go_simp), hx.cell (by go_simp)⟩)
  have HCL := Lib.hid (copyLadder_V (t := t) hn hA n6 hAn)
  have HCD := Lib.hid (copyDrive_V (f := f) hm hB m6 hBn)
  have H18 := Lib.hid (checkLadder_V (t := t) (xs := xs))
  have H20 := Lib.hid (checkDrive_V (t := t) (xs := xs) (f := f) hm)
  have H22 := Lib.hid (reactancesOf_V (t := t) (xs := xs) (f := f) hm)
  have H23 := Lib.hid (fun W (e : Ext w W) => refCheckLadder_any t A n ca xs hn W (hA.ext e))
  have H24 := Lib.hid (fun W (e : Ext w W) => refBothErr_any t A n ca xs hn f B m cb W (hA.ext e))
  have HF1 := Lib.hid (few_yes t A n ca · n6)
  have HF2 := Lib.hid (fewHot_yes f B m cb · m6)
  have H26 := Lib.hid (fun W (e : Ext w W) (hq : driveE t xs f m = 0) => show Calls Try.prog 26 #[.agg #[.int .i64 t, .slice A n ca], .agg #[.int .i64 f, .slice B m cb]] W (VPost W (Ints (reactL f hot xs))) from by
    obtain ⟨⟨_, ⟨h1, h4⟩, hok⟩, hf, hml⟩ := (driveE_zero t xs f m).1 hq
    obtain rfl : n = m := by rw [hml, hn]
    exact (refReactances_any t A n ca xs hn f B cb hot hm W (hA.ext e) (hB.ext e) hok hf (by omega)).mono fun _ _ ⟨v, h1, h2, h3⟩ => ⟨v, h1, h3, h2⟩)
  have E0 := Lib.hid e0
  clear hn hA hm hB n6 m6 hAn hBn e0
  generalize (checkL t xs).1 = c1 at *
  generalize (checkL t xs).2 = c2 at *
  generalize reactL f hot xs = rl at *
  generalize driveE t xs f m = q at *
  have hc2 : (c2 != c2) = false := by simp
  have hc1 : (c1 != c1) = false := by simp
  have hqq : (q == q) = true := by simp
  go_enter Try.func3, Try.ntmps3
  go_wp2_with (first
    | (go_at_call 15; refine (awake_any _).mono ?_; rintro e W1 ⟨rfl, hx1⟩; obtain ⟨z0, z1, z2, z3⟩ := FA.out _ hx1; have X1 := Lib.hid hx1; clear hx1)
    | (go_at_call 16; refine (HF1.out _).mono ?_; rintro e W2 ⟨rfl, hx2⟩; clear z0 z1 z2 z3; have X2 := Lib.hid (X1.out.trans hx2); clear hx2; obtain ⟨z0, z1, z2, z3⟩ := FA.out _ X2.out)
    | (go_at_call 17; refine (HF2.out _).mono ?_; rintro e W2b ⟨rfl, hx2⟩; clear z0 z1 z2 z3; have X2b := Lib.hid (X2.out.trans hx2); clear hx2; obtain ⟨z0, z1, z2, z3⟩ := FA.out _ X2b.out)
    | (go_at_call 19; refine (HCL.out _ (E0.out.trans X2b.out)).mono ?_; rintro e W2c ⟨u1, rfl, hx2, hv⟩; clear z0 z1 z2 z3; have X2c := Lib.hid (X2b.out.trans hx2); clear hx2; have HV := Lib.hid hv; clear hv; obtain ⟨z0, z1, z2, z3⟩ := FA.out _ X2c.out)
    | (go_at_call 18; refine (H18.out _ _ HV.out).mono ?_; rintro e W3 ⟨u2, rfl, hx2, hv⟩; obtain rfl : u2 = _ := hv; clear z0 z1 z2 z3; have X3 := Lib.hid (X2c.out.trans hx2); clear hx2; obtain ⟨z0, z1, z2, z3⟩ := FA.out _ X3.out))
  have EB := Lib.hid (E0.out.trans X3.out)
  refine wp_region_each [some 28, some 29, some 30, some 31, some 32, some 7] [[2], [28], [3], [30], [29, 31], [32]]
    [Is (.agg #[.int .i64 (t), .slice A n ca]), LadV t xs, Is (.agg #[.int .i64 (f), .slice B m cb]), DrvV f hot, Is (.int .i64 (q)), Is (.int .i64 (q))]
    (by kernel_rfl) (by kernel_rfl) (by kernel_rfl) (by kernel_rfl) (by kernel_rfl) Ext (fun W => Ext W3 W)
    (fun W _ => Ext.refl W) (fun W W' h k => h.trans k) ?_ (Ext.drew _) ?_ ?_
  · repeat (refine ⟨fun _ _ _ _ k h => (by first | exact h | exact (by first | exact LadV.ext h k | exact DrvV.ext h k | exact TupV.ext (fun _ _ _ h k => by first | exact Opt.ext (fun _ _ _ h k => by first | exact IntsAt.ext h k | exact GsV.ext h k) h k | exact IntsAt.ext h k) h k | exact Opt.ext (fun _ _ _ h k => by first | exact IntsAt.ext h k | exact GsV.ext h k) h k | exact IntsAt.ext h k)), ?_⟩)
    exact trivial
  · refine ⟨?_, ?_, ?_, ?_, ?_, ?_, trivial⟩
    all_goals intro ρ W ⟨kc, kg, kf⟩ hF hs
    · obtain ⟨h0, -⟩ := hs
      replace h0 : ρ (.tmp 2) = .pointer (some ⟨w.heap.size, 0, none⟩) := h0
      have hc0 : W.cell? ⟨w.heap.size, 0, none⟩ = some (.int .i64 (t)) := hF.cell (by assumption)
      have hc1 : W.cell? ⟨w.heap.size, 1, none⟩ = some (.slice A n ca) := hF.cell (by assumption)
      go_simp
      exact ⟨Ext.refl _, rfl⟩
    · obtain ⟨h0, -⟩ := hs
      replace h0 : ρ (.tmp 28) = .agg #[.int .i64 (t), .slice A n ca] := h0
      go_simp
      exact HCL.out W (EB.out.trans hF)
    · obtain ⟨h0, -⟩ := hs
      replace h0 : ρ (.tmp 3) = .pointer (some ⟨w.heap.size + 1, 0, none⟩) := h0
      have hc0 : W.cell? ⟨w.heap.size + 1, 0, none⟩ = some (.int .i64 (f)) := hF.cell (by assumption)
      have hc1 : W.cell? ⟨w.heap.size + 1, 1, none⟩ = some (.slice B m cb) := hF.cell (by assumption)
      go_simp
      exact ⟨Ext.refl _, rfl⟩
    · obtain ⟨h0, -⟩ := hs
      replace h0 : ρ (.tmp 30) = .agg #[.int .i64 (f), .slice B m cb] := h0
      go_simp
      exact HCD.out W (EB.out.trans hF)
    · obtain ⟨h0, h1, -⟩ := hs
      replace h0 : (LadV t xs) (ρ (.tmp 29)) W := h0
      replace h1 : (DrvV f hot) (ρ (.tmp 31)) W := h1
      go_simp
      exact H20.out W _ _ h0 h1
    · obtain ⟨h0, -⟩ := hs
      replace h0 : ρ (.tmp 32) = .int .i64 (q) := h0
      go_simp
      exact ⟨Ext.refl _, rfl⟩
  · intro fv W4 hF hs
    obtain ⟨-, -, -, -, -, h7, -⟩ := hs
    replace h7 : fv 7 = .int .i64 (q) := h7
    simp only [fin, List.filterMap]
    go_simp
    have X4 := Lib.hid (X3.out.trans hF)
    clear hF z0 z1 z2 z3
    obtain ⟨z0, z1, z2, z3⟩ := FA.out _ X4.out
    have EB := Lib.hid (E0.out.trans X4.out)

    go_wp2
    refine wp_region_each [some 34, some 35, some 36, some 37, some 38, some 33, some 39, some 40, some 8, some 9] [[2], [34], [3], [36], [35, 37], [38], [33], [33], [39], [40]]
      [Is (.agg #[.int .i64 (t), .slice A n ca]), LadV t xs, Is (.agg #[.int .i64 (f), .slice B m cb]), DrvV f hot, TupV (Opt q (.slice none 0 0) (Ints rl)) (q), TupV (Opt q (.slice none 0 0) (Ints rl)) (q), Opt q (.slice none 0 0) (Ints rl), Is (.int .i64 (q)), Opt q (.slice none 0 0) (Ints rl), Is (.int .i64 (q))]
      (by kernel_rfl) (by kernel_rfl) (by kernel_rfl) (by kernel_rfl) (by kernel_rfl) Ext (fun W => Ext W4 W)
      (fun W _ => Ext.refl W) (fun W W' h k => h.trans k) ?_ (Ext.drew _) ?_ ?_
    · repeat (refine ⟨fun _ _ _ _ k h => (by first | exact h | exact (by first | exact LadV.ext h k | exact DrvV.ext h k | exact TupV.ext (fun _ _ _ h k => by first | exact Opt.ext (fun _ _ _ h k => by first | exact IntsAt.ext h k | exact GsV.ext h k) h k | exact IntsAt.ext h k) h k | exact Opt.ext (fun _ _ _ h k => by first | exact IntsAt.ext h k | exact GsV.ext h k) h k | exact IntsAt.ext h k)), ?_⟩)
      exact trivial
    · refine ⟨?_, ?_, ?_, ?_, ?_, ?_, ?_, ?_, ?_, ?_, trivial⟩
      all_goals intro ρ W ⟨kc, kg, kf⟩ hF hs
      · obtain ⟨h0, -⟩ := hs
        replace h0 : ρ (.tmp 2) = .pointer (some ⟨w.heap.size, 0, none⟩) := h0
        have hc0 : W.cell? ⟨w.heap.size, 0, none⟩ = some (.int .i64 (t)) := hF.cell (by assumption)
        have hc1 : W.cell? ⟨w.heap.size, 1, none⟩ = some (.slice A n ca) := hF.cell (by assumption)
        go_simp
        exact ⟨Ext.refl _, rfl⟩
      · obtain ⟨h0, -⟩ := hs
        replace h0 : ρ (.tmp 34) = .agg #[.int .i64 (t), .slice A n ca] := h0
        go_simp
        exact HCL.out W (EB.out.trans hF)
      · obtain ⟨h0, -⟩ := hs
        replace h0 : ρ (.tmp 3) = .pointer (some ⟨w.heap.size + 1, 0, none⟩) := h0
        have hc0 : W.cell? ⟨w.heap.size + 1, 0, none⟩ = some (.int .i64 (f)) := hF.cell (by assumption)
        have hc1 : W.cell? ⟨w.heap.size + 1, 1, none⟩ = some (.slice B m cb) := hF.cell (by assumption)
        go_simp
        exact ⟨Ext.refl _, rfl⟩
      · obtain ⟨h0, -⟩ := hs
        replace h0 : ρ (.tmp 36) = .agg #[.int .i64 (f), .slice B m cb] := h0
        go_simp
        exact HCD.out W (EB.out.trans hF)
      · obtain ⟨h0, h1, -⟩ := hs
        replace h0 : (LadV t xs) (ρ (.tmp 35)) W := h0
        replace h1 : (DrvV f hot) (ρ (.tmp 37)) W := h1
        go_simp
        exact H22.out W _ _ h0 h1
      · obtain ⟨h0, -⟩ := hs
        replace h0 : (TupV (Opt q (.slice none 0 0) (Ints rl)) (q)) (ρ (.tmp 38)) W := h0
        go_simp
        first | exact ⟨Ext.refl _, h0⟩ | exact Ext.refl _
      · obtain ⟨h0, -⟩ := hs
        replace h0 : (TupV (Opt q (.slice none 0 0) (Ints rl)) (q)) (ρ (.tmp 33)) W := h0
        obtain ⟨v, hv, hp⟩ := h0
        go_simp
        first | exact ⟨Ext.refl _, hp⟩ | exact Ext.refl _
      · obtain ⟨h0, -⟩ := hs
        replace h0 : (TupV (Opt q (.slice none 0 0) (Ints rl)) (q)) (ρ (.tmp 33)) W := h0
        obtain ⟨v, hv, hp⟩ := h0
        go_simp
        first | exact ⟨Ext.refl _, rfl⟩ | exact Ext.refl _
      · obtain ⟨h0, -⟩ := hs
        replace h0 : (Opt q (.slice none 0 0) (Ints rl)) (ρ (.tmp 39)) W := h0
        go_simp
        first | exact ⟨Ext.refl _, h0⟩ | exact Ext.refl _
      · obtain ⟨h0, -⟩ := hs
        replace h0 : ρ (.tmp 40) = .int .i64 (q) := h0
        go_simp
        exact ⟨Ext.refl _, rfl⟩
    · intro fv W5 hF hs
      obtain ⟨-, -, -, -, -, -, -, -, h8, h9, -⟩ := hs
      replace h8 : (Opt q (.slice none 0 0) (Ints rl)) (fv 8) W5 := h8
      replace h9 : fv 9 = .int .i64 (q) := h9
      simp only [fin, List.filterMap]
      go_simp
      have X5 := Lib.hid (X4.out.trans hF)
      clear hF z0 z1 z2 z3
      obtain ⟨z0, z1, z2, z3⟩ := FA.out _ X5.out

      have H8 := Lib.hid h8
      clear h8 h7 h9
      by_cases hq : q = 0
      · have HR := Lib.hid (H8.out.2 hq)
        subst hq
        generalize fv 8 = v8 at *
        go_wp2_with (first
          | (go_at_call 23; refine (H23.out _ (E0.out.trans X5.out)).mono ?_; rintro e W6 ⟨rfl, hx2⟩; clear z0 z1 z2 z3; have X6 := Lib.hid (X5.out.trans hx2); have Y6 := Lib.hid hx2; clear hx2; obtain ⟨z0, z1, z2, z3⟩ := FA.out _ X6.out)
          | (go_at_call 24; refine (H24.out _ (E0.out.trans X6.out)).mono ?_; rintro e W7 ⟨rfl, hx2⟩; clear z0 z1 z2 z3; have X7 := Lib.hid (X6.out.trans hx2); have Y7 := Lib.hid (Y6.out.trans hx2); clear hx2; obtain ⟨z0, z1, z2, z3⟩ := FA.out _ X7.out)
          | (go_at_call 26; (refine (H26.out _ (E0.out.trans X7.out) (by trivial)).mono ?_; rintro e W8 ⟨u8, rfl, hx2, hv⟩; clear z0 z1 z2 z3; have X8 := Lib.hid (X7.out.trans hx2); have Y8 := Lib.hid (Y7.out.trans hx2); have HV8 := Lib.hid hv; clear hx2 hv))
          | (go_at_call 25; (refine (ints_any v8 u8 rl rl _ (HR.out.ext Y8.out) HV8.out).mono ?_; rintro e W9 ⟨rfl, hx2⟩; rw [beq_self_eq_true]; have X9 := Lib.hid (X8.out.trans hx2); clear hx2)))
        go_ret
        exact ⟨rfl, E0.out.trans X9.out⟩
      · have hq' : (q != 0) = true := by simp [hq]
        rw [H8.out.1 hq]
        clear hq
        go_wp2_with (first
          | (go_at_call 23; refine (H23.out _ (E0.out.trans X5.out)).mono ?_; rintro e W6 ⟨rfl, hx2⟩; clear z0 z1 z2 z3; have X6 := Lib.hid (X5.out.trans hx2); clear hx2; obtain ⟨z0, z1, z2, z3⟩ := FA.out _ X6.out)
          | (go_at_call 24; refine (H24.out _ (E0.out.trans X6.out)).mono ?_; rintro e W7 ⟨rfl, hx2⟩; have X7 := Lib.hid (X6.out.trans hx2); clear hx2))
        go_ret
        exact ⟨rfl, E0.out.trans X7.out⟩

set_option maxRecDepth 100000 in
theorem fieldLadders_few (t : Int) (A : Option Addr) (n ca : Nat) (f : Int) (B : Option Addr) (m cb : Nat) (w : World) (h : ¬ (n ≤ 6 ∧ m ≤ 6)) :
    Calls Try.prog 3 #[.agg #[.int .i64 t, .slice A n ca], .agg #[.int .i64 f, .slice B m cb]] w fun e w' => e = .returned (.bool true) ∧ Ext w w' := by
  have e0 : Ext w ((w.alloc (.cells #[.int .i64 t, .slice A n ca] 24)).alloc (.cells #[.int .i64 f, .slice B m cb] 27)) := (Ext.alloc _ _).trans (Ext.alloc _ _)
  have FA := Lib.hid (show ∀ W : World, Ext ((w.alloc (.cells #[.int .i64 t, .slice A n ca] 24)).alloc (.cells #[.int .i64 f, .slice B m cb] 27)) W →
      W.cell? ⟨w.heap.size, 0, none⟩ = some (.int .i64 t) ∧ W.cell? ⟨w.heap.size, 1, none⟩ = some (.slice A n ca) ∧ W.cell? ⟨w.heap.size + 1, 0, none⟩ = some (.int .i64 f) ∧ W.cell? ⟨w.heap.size + 1, 1, none⟩ = some (.slice B m cb) from
    fun W hx => ⟨hx.cell (by go_simp), hx.cell (by go_simp), hx.cell (by go_simp), hx.cell (by go_simp)⟩)
  have E0 := Lib.hid e0
  clear e0
  by_cases n6 : n ≤ 6
  · have m6 : 6 < m := by omega
    have HF1 := Lib.hid (few_yes t A n ca · n6)
    have HF2 := Lib.hid (fewHot_no f B m cb · m6)
    clear n6 m6 h
    go_enter Try.func3, Try.ntmps3
    go_wp2_with (first
      | (go_at_call 15; refine (awake_any _).mono ?_; rintro e W1 ⟨rfl, hx1⟩; have X1 := Lib.hid (hx1); clear hx1; obtain ⟨z0, z1, z2, z3⟩ := FA.out _ X1.out)
      | (go_at_call 16; refine (HF1.out _).mono ?_; rintro e W2 ⟨rfl, hx2⟩; clear z0 z1 z2 z3; have X2 := Lib.hid (X1.out.trans hx2); clear hx2; obtain ⟨z0, z1, z2, z3⟩ := FA.out _ X2.out)
      | (go_at_call 17; refine (HF2.out _).mono ?_; rintro e W2b ⟨rfl, hx2⟩; clear z0 z1 z2 z3; have X2b := Lib.hid (X2.out.trans hx2); clear hx2))
    go_ret
    exact ⟨rfl, E0.out.trans X2b.out⟩
  · have HF1 := Lib.hid (few_no t A n ca · (by omega))
    clear n6 h
    go_enter Try.func3, Try.ntmps3
    go_wp2_with (first
      | (go_at_call 15; refine (awake_any _).mono ?_; rintro e W1 ⟨rfl, hx1⟩; have X1 := Lib.hid (hx1); clear hx1; obtain ⟨z0, z1, z2, z3⟩ := FA.out _ X1.out)
      | (go_at_call 16; refine (HF1.out _).mono ?_; rintro e W2 ⟨rfl, hx2⟩; clear z0 z1 z2 z3; have X2 := Lib.hid (X1.out.trans hx2); clear hx2))
    go_ret
    exact ⟨rfl, E0.out.trans X2.out⟩

end Go.Proofs.Ytpaoeghdfeekoaa

/- slices.Collect of a function that hands out a known list; PowersOf. -/
namespace Go.Proofs.Ytpaoeghdfeekoaa
open Go.RowKit Go.Shelf Go.Mem Go.RegInv
attribute [local go_sem] Oper.semAt_some

structure StA (w : World) (l : List Int) (k : Nat) (W : World) : Prop where
  row : ∃ u, Blk W w.heap.size 37 #[u] ∧ W.ownsRow (w.heap.size + 1) 3 1 u k ((l.take k).map (Value.int .i64))
  below : Ext w W

theorem take_snocJ {xs : List Int} {k : Nat} {x : Int} (h : xs[k]? = some x) : (xs.take (k + 1)).map (Value.int .i64) = (xs.take k).map (Value.int .i64) ++ [.int .i64 x] := by
  rw [List.take_add_one, h]; simp

set_option maxRecDepth 100000 in
set_option maxHeartbeats 2000000 in
theorem appendSeq_in (gf : FuncId) (first lb : Array Value) (eg : ∀ args w, (callFunc gf args).run Try.prog w = .ok (.enter gf args) w) (full : List Int) (n : Nat) (hn : full.length = n) (hn5 : n ≤ 1000) (w : World)
    (hit : ∀ W, Ext w W → IterAt Try.prog 4 gf first lb encInt full Kp37 W) :
    CallsIn Fence.wide 5 Try.prog 129 #[.slice none 0 0, .func (.func gf) first lb] w fun e w' => ∃ v, e = .returned v ∧ w'.ownsRow w.heap.size 3 1 v n (full.map (Value.int .i64)) ∧ Ext w w' := by
  have HIT := Lib.hid hit
  have HEG := Lib.hid eg
  have HN := Lib.hid hn
  obtain ⟨i0, hi, hz0, hz1, hz2'⟩ := info_parts info3
  have HI0 := Lib.hid hz0
  clear hit eg hn
  refine callsIn_of_wp_marks Try.func129 rfl trivial ?_ rfl
  simp only [Try.ntmps129, List.size_toArray, List.length_cons, List.length_nil, Nat.reduceAdd, Nat.reduceSub, Array.replicate_succ, Array.replicate_zero, List.push_toArray, List.append_toArray, List.nil_append, List.cons_append]
  gi_wp2
  have hst : StA w full 0 (w.alloc (.cells #[.slice none 0 0] 37)) := ⟨⟨_, Blk.new _ _ _, World.ownsRow_nil _ _ _ _⟩, Ext.alloc _ _⟩
  have HITW := Lib.hid (HIT.out _ hst.below)
  have hlt0 : w.heap.size < (w.alloc (.cells #[.slice none 0 0] 37)).heap.size := by simp
  generalize hW0 : w.alloc (.cells #[.slice none 0 0] 37) = W0 at hst HITW hlt0 ⊢
  clear hW0
  have hw0 : w.heap.size ≤ W0.heap.size := by omega
  refine rangeFunc_list (by omega) (gf := gf) (first := first) (lb := lb) rfl HEG.out (encs := encInt) (full := full) (Kp := Kp37) HITW.out (fun h k => h.t k) (fun A B hc _ => Kp37.kept hc) (fun _ => rfl)
    (fun k W => StA w full k W) (fun _ _ => False)
    (fun k A B h hc hb => ⟨by obtain ⟨u, h1, h2⟩ := h.row; exact ⟨u, hc.blk h1, hc.own h2⟩, Below.trans h.below (hb.mono hw0)⟩) (fun _ _ _ h _ _ => h) hst
    (fun x a' _ => a' =
      { tmps := #[.slice none 0 0, .func (.func gf) first lb, .pointer (some ⟨w.heap.size, 0, none⟩), undef, .slice none 0 0, .int .i64 x, .func (.func gf) first lb, .int .i64 x, undef, undef, undef, undef, undef], defers := [] }) (fun _ _ _ _ h _ _ => h) ?assign ?body ?done ?stop
  case assign =>
    intro l k x W K hx hsz hI hK'
    unfold encInt
    gi_wp2
    exact hK' _ _ (KeepsOthers.refl _) (Kp37.kept (CellsKept.refl _)) hI rfl
  case body =>
    rintro l k x a' W hxk hsz hI rfl
    have hkn : k < n := by have := (List.getElem?_eq_some_iff.1 hxk).1; rw [HN.out] at this; exact this
    have HT := Lib.hid (take_snocJ hxk)
    obtain ⟨u, hu, hrow⟩ := hI.row
    have a4 : W.cell? ⟨w.heap.size, 0, none⟩ = some u := hu.cell 0
    have f4 := hu.free 0
    have hw1 := hu.lt
    have HI := Lib.hid hI.below
    have HU := Lib.hid hu
    have HR := Lib.hid hrow
    clear hI hu hrow hxk
    have HR2 := Lib.hid (HR.out.alloc (.cells #[.int .i64 x] 3))
    have HU2 := Lib.hid (HU.out.alloc (.cells #[.int .i64 x] 3))
    have HN2 := Lib.hid (news_of1 (Blk.new W 3 #[.int .i64 x]))
    have hb2 : w.heap.size + 1 ≤ (W.alloc (.cells #[.int .i64 x] 3)).heap.size := by rw [World.size_alloc]; omega
    gi_wp2_with (gi_at_builtin; refine wpListIn_append_own _ rfl _ _ 37 rfl (w.heap.size + 1) 3 i0 (.int .i64 0) 1 8 Try.underlying37 hi HI0.out hz1 hz2' rfl (by decide) _ _ _ rfl HR2.out ⟨W.heap.size, 0, none⟩ 1 1 [.int .i64 x] rfl rfl HN2.out (by simp [Value.oneCell']) (by unfold maxLen; omega) (by omega) hb2 ?_; intro v' w1 hown' hgrow _; obtain ⟨g', cap'', rfl⟩ := ownsRow_succ hown'; have hu3 : Blk w1 w.heap.size 37 #[u] := (hgrow.block _ HU2.out.lt (own_notBlk HR2.out HU2.out (by decide))).trans HU2.out; have y0 : w1.cell? ⟨w.heap.size, 0, none⟩ = some u := hu3.cell 0; have y1 := hu3.free 0; have HH3 := Lib.hid hown'; have HG3 := Lib.hid hgrow; have HU3 := Lib.hid hu3; clear hown' hgrow hu3)
    refine ⟨((KeepsOthers.alloc W (.cells #[.int .i64 x] 3)).trans (keepsOthers_own HR2.out HG3.out)).trans (KeepsOthers.setCell w1 ⟨w.heap.size, 0, none⟩ (.slice (some ⟨g', 0, none⟩) (k + 1) cap'')),
      ((Kp37.ext (Ext.alloc W (.cells #[.int .i64 x] 3))).t (Kp37.own HR2.out HG3.out)).t (Kp37.set HU3.out (.inr rfl) 0 (.slice (some ⟨g', 0, none⟩) (k + 1) cap'')), ?_⟩
    have hrow : (w1.setCell ⟨w.heap.size, 0, none⟩ (.slice (some ⟨g', 0, none⟩) (k + 1) cap'')).ownsRow (w.heap.size + 1) 3 1 (.slice (some ⟨g', 0, none⟩) (k + 1) cap'') (k + 1) ((full.take (k + 1)).map (Value.int .i64)) := by
      rw [HT.out]
      exact own_set HH3.out (own_not HH3.out (by dsimp only; omega)) _
    refine ⟨⟨_, HU3.out.setSame 0 _, hrow⟩, ?_⟩
    refine Below.setCell (Below.grown (Below.alloc HI.out (by omega) _) HG3.out (by rw [World.size_alloc]; omega) (fun g hg => ?_)) (by dsimp only; omega) _
    have := own_base HR2.out hg
    omega
  case done =>
    rintro D W hD hI hK'
    rw [HN.out] at hI
    obtain ⟨u, hu, hrow⟩ := hI.row
    have a4 : W.cell? ⟨w.heap.size, 0, none⟩ = some u := hu.cell 0
    gi_wp2
    refine ⟨by simp, .inl ⟨_, _, rfl, run_takeDeferred hK', ?_⟩⟩
    rw [List.take_of_length_le (by rw [HN.out]; omega)] at hrow
    exact ⟨_, results_tmp rfl _ _ _, u, rfl, (CellsKept.put _ hK' rfl).own (own_mono hrow (by omega)), Below.trans hI.below (below_put _ hK' (by omega))⟩
  case stop =>
    rintro D c W _ h _
    exact h.elim

theorem collect_any (gf : FuncId) (first lb : Array Value) (eg : ∀ args w, (callFunc gf args).run Try.prog w = .ok (.enter gf args) w) (full : List Int) (n : Nat) (hn : full.length = n) (hn5 : n ≤ 1000) (w : World)
    (hit : ∀ W, Ext w W → IterAt Try.prog 4 gf first lb encInt full Kp37 W) :
    Calls Try.prog 95 #[.func (.func gf) first lb] w fun e w' => ∃ v, e = .returned v ∧ IntsAt w' v full ∧ Ext w w' := by
  have HC := Lib.hid (callsIn_wide.1 (appendSeq_in gf first lb eg full n hn hn5 w hit))
  have HN := Lib.hid hn
  clear eg hit hn
  go_enter Try.func95, Try.ntmps95
  go_wp2_with (go_at_call 129; refine HC.out.mono ?_; rintro e W1 ⟨v, rfl, hv, hx⟩)
  go_ret
  exact ⟨v, rfl, ints_of_own HN.out (by omega) hv, hx⟩

set_option maxRecDepth 100000 in
theorem powersPub_any (t : Int) (A : Option Addr) (n cap : Nat) (l : List Sh) (hn : l.length = n) (f : Int) (B : Option Addr) (m cap' : Nat) (hot : List Bool) (hm : hot.length = m) (w : World)
    (hS : LadAt w A l) (hH : RowsAt 1 boolEnc w B hot) :
    Calls Try.prog 39 #[.agg #[.int .i64 t, .slice A n cap], .agg #[.int .i64 f, .slice B m cap']] w fun e w' => Ext w w' ∧
      ((driveE t l f m ≠ 0 ∧ e = .returned (.tuple #[.slice none 0 0, .int .i64 (driveE t l f m)])) ∨
       (driveE t l f m = 0 ∧ ∃ v, e = .returned (.tuple #[v, .int .i64 0]) ∧ IntsAt w' v (powers f hot l))) := by
  have HC := Lib.hid (fun W h => checkDrive_any t A n cap l hn f B m cap' W h)
  have e0 : Ext w ((w.alloc (.cells #[.int .i64 t, .slice A n cap] 24)).alloc (.cells #[.int .i64 f, .slice B m cap'] 27)) := (Ext.alloc _ _).trans (Ext.alloc _ _)
  have HS := Lib.hid hS
  have HH := Lib.hid hH
  have HN := Lib.hid hn
  have HM := Lib.hid hm
  clear hn hS hm hH
  have FA := Lib.hid (show ∀ W : World, Ext ((w.alloc (.cells #[.int .i64 t, .slice A n cap] 24)).alloc (.cells #[.int .i64 f, .slice B m cap'] 27)) W →
      W.cell? ⟨w.heap.size, 0, none⟩ = some (.int .i64 t) ∧ W.cell? ⟨w.heap.size, 1, none⟩ = some (.slice A n cap) ∧ W.cell? ⟨w.heap.size + 1, 0, none⟩ = some (.int .i64 f) ∧ W.cell? ⟨w.heap.size + 1, 1, none⟩ = some (.slice B m cap') from
    fun W hx => ⟨hx.cell (by go_simp), hx.cell (by go_simp), hx.cell (by go_simp), hx.cell (by go_simp)⟩)
  by_cases hq : driveE t l f m = 0
  · obtain ⟨⟨_, ⟨h1, h4⟩, hok⟩, hf, hml⟩ := (driveE_zero t l f m).1 hq
    obtain rfl : n = m := by rw [hml, ← HN.out]
    rw [HN.out] at h1 h4
    have HP := Lib.hid (fun W (e : Ext w W) => powersOf_any t A n cap l HN.out f B cap' hot HM.out W (HS.out.1.ext e) (HH.out.ext e) hok hf h1 h4)
    have HIT := Lib.hid (fun W (e : Ext w W) v => powers_at_w (cap := cap) HN.out (hot := hot) hok hf h1 h4 (HS.out.ext e) (v := v))
    have HQ := Lib.hid hq
    have HPL := Lib.hid (show (powers f hot l).length = n by rw [powers_len, HN.out])
    have hn4 : n ≤ 1000 := by omega
    clear h1 h4 hok hf hml hq
    rw [HQ.out] at HC
    go_enter Try.func39, Try.ntmps39
    go_wp2_with (first
      | (go_at_call 20; refine (HC.out _ (HS.out.1.ext e0)).mono ?_; rintro e W1 ⟨rfl, hx1⟩; obtain ⟨z0, z1, z2, z3⟩ := FA.out _ hx1)
      | (go_at_call 96; refine (HP.out _ (e0.trans hx1)).mono ?_; rintro e W4 ⟨v4, rfl, hv4, hx4⟩; obtain ⟨first, rfl, hit⟩ := HIT.out _ (e0.trans (hx1.trans hx4)) _ hv4)
      | (go_at_call 95; refine (collect_any 130 first #[] eg130 (powers f hot l) n HPL.out hn4 _ hit).mono ?_; rintro e W5 ⟨v5, rfl, hv5, hx5⟩))
    go_ret2
    exact ⟨e0.trans (hx1.trans (hx4.trans hx5)), .inr ⟨HQ.out, _, rfl, hv5⟩⟩
  · have HQ := Lib.hid hq
    have hq' : (driveE t l f m != 0) = true := by simp [hq]
    clear hq
    generalize driveE t l f m = r at HC HQ hq' ⊢
    go_enter Try.func39, Try.ntmps39
    go_wp2_with (go_at_call 20; refine (HC.out _ (HS.out.1.ext e0)).mono ?_; rintro e W1 ⟨rfl, hx1⟩)
    go_ret2
    exact ⟨e0.trans hx1, .inl ⟨HQ.out, rfl⟩⟩

end Go.Proofs.Ytpaoeghdfeekoaa

