/- Copies of ladders and drives; the reference's errors. -/
import Derived.Test.YtpaoeghdfeekoaaC2
import Derived.WideShapes
namespace Go.Proofs.Ytpaoeghdfeekoaa
open Go.RowKit Go.Shelf Go.Mem Go.RegInv

theorem info92 : (Try.prog.info? 92).map (fun i => (i.zero, i.size, i.bytes)) = some (some (.agg #[.int .i64 0, .int .i64 0, .int .i64 0]), 3, 24) := by kernel_rfl

theorem sh_len (xs : List Sh) : (xs.flatMap Sh.enc).length = xs.length * 3 := by
  induction xs with
  | nil => rfl
  | cons x l ih => simp [List.flatMap_cons, ih, Sh.enc]; omega
theorem sh_at (xs : List Sh) : ∀ (i j : Nat) (s : Sh) (u : Value), xs[i]? = some s → (Sh.enc s)[j]? = some u → (xs.flatMap Sh.enc)[i * 3 + j]? = some u := by
  induction xs with
  | nil => intro i j s u h; simp at h
  | cons x l ih =>
    intro i j s u h h'
    rw [List.flatMap_cons]
    cases i with
    | zero =>
      obtain rfl : x = s := by simpa using h
      have hj : j < (Sh.enc x).length := (List.getElem?_eq_some_iff.1 h').1
      rw [List.getElem?_append_left (by omega)]
      simpa using h'
    | succ i =>
      have := ih i j s u (by simpa using h) h'
      rw [List.getElem?_append_right (by simp [Sh.enc]; omega)]
      rw [show (i + 1) * 3 + j - (Sh.enc x).length = i * 3 + j by simp [Sh.enc]; omega]
      exact this
theorem sh_idx (xs : List Sh) (p : Nat) (u : Value) (h : (xs.flatMap Sh.enc)[p]? = some u) : ∃ s, xs[p / 3]? = some s ∧ (Sh.enc s)[p % 3]? = some u := by
  have hp : p < xs.length * 3 := by rw [← sh_len]; exact (List.getElem?_eq_some_iff.1 h).1
  have hi : p / 3 < xs.length := by omega
  have hs : xs[p / 3]? = some xs[p / 3] := List.getElem?_eq_getElem hi
  have hj : p % 3 < (Sh.enc xs[p / 3]).length := by simp [Sh.enc]; omega
  have := sh_at xs (p / 3) (p % 3) _ _ hs (List.getElem?_eq_getElem hj)
  rw [show p / 3 * 3 + p % 3 = p by omega, h] at this
  exact ⟨_, hs, by rw [List.getElem?_eq_getElem hj, this]⟩
theorem sh_one (xs : List Sh) : ∀ u ∈ xs.flatMap Sh.enc, u.oneCell' = true := by
  intro u hu
  obtain ⟨s, _, h⟩ := List.mem_flatMap.1 hu
  simp only [Sh.enc, List.mem_cons, List.not_mem_nil, or_false] at h
  rcases h with rfl | rfl | rfl <;> rfl

theorem lad_of_own {W : World} {base n : Nat} {v : Value} {xs : List Sh} (hl : xs.length = n) (hn : n ≤ 1152921504606846976) (h : W.ownsRow base 92 3 v n (xs.flatMap Sh.enc)) : ∃ A cap, v = .slice A n cap ∧ LadAt W A xs := by
  rcases h.2 with ⟨rfl, rfl⟩ | ⟨g, cap, cu, rfl, _, hh, hc, _, hs, ht⟩
  · obtain rfl := List.eq_nil_of_length_eq_zero hl
    exact ⟨none, 0, rfl, ⟨by simp, by simp⟩, fun b o h => by cases h⟩
  · refine ⟨_, cap, rfl, ⟨by omega, fun i s hx => ⟨g, 0, rfl, (show Blk W g 92 cu from hh).lt, fun j u hu => ?_⟩⟩, fun b o h => ?_⟩
    · have hi := (List.getElem?_eq_some_iff.1 hx).1
      have hj : j < 3 := (List.getElem?_eq_some_iff.1 hu).1
      rw [(show Blk W g 92 cu from hh).cell]
      have h2 := sh_at xs i j s u hx hu
      rw [← ht, List.getElem?_take, if_pos (by omega), Array.getElem?_toList] at h2
      rw [show 0 + i * 3 + j = i * 3 + j by omega]; exact h2
    · obtain ⟨rfl, rfl⟩ : g = b ∧ 0 = o := by simpa using h
      exact ⟨cu, hh⟩

/-- A ladder in memory, a drive in memory. -/
def LadV (t : Int) (ls : List Sh) : Value → World → Prop := fun u W => ∃ A n c, Hid (ls.length = n) ∧ u = .agg #[.int .i64 t, .slice A n c] ∧ LadAt W A ls
theorem LadV.ext {t : Int} {ls : List Sh} {u : Value} {W W' : World} (h : LadV t ls u W) (e : Ext W W') : LadV t ls u W' := by
  obtain ⟨A, n, c, h1, h2, h3⟩ := h; exact ⟨A, n, c, h1, h2, h3.ext e⟩
def DrvV (f : Int) (hot : List Bool) : Value → World → Prop := fun u W => ∃ B m c, Hid (hot.length = m) ∧ u = .agg #[.int .i64 f, .slice B m c] ∧ RowsAt 1 boolEnc W B hot
theorem DrvV.ext {f : Int} {hot : List Bool} {u : Value} {W W' : World} (h : DrvV f hot u W) (e : Ext W W') : DrvV f hot u W' := by
  obtain ⟨A, n, c, h1, h2, h3⟩ := h; exact ⟨A, n, c, h1, h2, h3.ext e⟩

theorem own_slice {W : World} {base n k : Nat} {e : TypeId} {v : Value} {xs : List Value} (h : W.ownsRow base e k v n xs) : ∃ A c, v = .slice A n c := by
  rcases h.2 with ⟨rfl, rfl⟩ | ⟨g, cap, cu, rfl, _⟩
  · exact ⟨none, 0, by have := h.1; simp⟩
  · exact ⟨_, cap, rfl⟩
theorem lad_own {W : World} {base n c : Nat} {A : Option Addr} {xs : List Sh} (hl : xs.length = n) (hn : n ≤ 1152921504606846976) (h : W.ownsRow base 92 3 (.slice A n c) n (xs.flatMap Sh.enc)) : LadAt W A xs := by
  obtain ⟨A', c', he, h'⟩ := lad_of_own hl hn h
  obtain ⟨rfl, _⟩ : A = A' ∧ c = c' := by simpa using he
  exact h'

set_option maxRecDepth 100000 in
set_option maxHeartbeats 1000000 in
theorem copyLadder_own (t : Int) (A : Option Addr) (n ca : Nat) (xs : List Sh) (hn : xs.length = n) (w : World) (ha : RowsAt 3 Sh.enc w A xs) (h6 : n ≤ 6) (hnil : A = none → ca = 0) :
    Calls Try.prog 19 #[.agg #[.int .i64 t, .slice A n ca]] w fun e w' => ∃ A' c', e = .returned (.agg #[.int .i64 t, .slice A' n c']) ∧ w'.ownsRow w.heap.size 92 3 (.slice A' n c') n (xs.flatMap Sh.enc) ∧ Ext w w' := by
  obtain ⟨i0, hi, hz0, hz1, hz2⟩ := info_parts info92
  have HI0 := Lib.hid hz0
  obtain ⟨Wb, hWb⟩ : ∃ Wb, Wb = (w.alloc (.cells #[.int .i64 t, .slice A n ca] 24)).alloc (.cells #[.int .i64 0, .slice none 0 0] 24) := ⟨_, rfl⟩
  have k0 : Blk Wb w.heap.size 24 #[.int .i64 t, .slice A n ca] := by rw [hWb]; exact (Blk.new _ _ _).alloc _
  have k1 : Blk Wb (w.heap.size + 1) 24 #[.int .i64 0, .slice none 0 0] := by rw [hWb]; exact Blk.newAt _ _ _ (by simp)
  have hsz : Wb.heap.size = w.heap.size + 1 + 1 := by rw [hWb]; simp
  have hown : Hid ((Wb.alloc (.cells #[] 92)).ownsRow (w.heap.size + 1 + 1) 92 3 (.slice (some ⟨w.heap.size + 1 + 1, 0, none⟩) 0 0) 0 []) :=
    Lib.hid ⟨rfl, .inr ⟨w.heap.size + 1 + 1, 0, #[], rfl, Nat.le_refl _, Blk.newAt Wb 92 #[] hsz.symm, Nat.le_refl _, by decide, rfl, rfl⟩⟩
  have e0 : Ext w Wb := by rw [hWb]; exact (Ext.alloc _ _).trans (Ext.alloc _ _)
  have hax : Ext Wb (Wb.alloc (.cells #[] 92)) := Ext.alloc _ _
  have K0 := Lib.hid k0
  have K1 := Lib.hid k1
  have HX := Lib.hid hax
  have E0 := Lib.hid e0
  have HSZ := Lib.hid hsz
  cases A with
  | none =>
    obtain rfl : xs = [] := by
      cases xs with
      | nil => rfl
      | cons x l => obtain ⟨b, o, h, _⟩ := ha.2 0 x rfl; cases h
    obtain rfl := hnil rfl
    obtain rfl : n = 0 := by simpa using hn.symm
    clear ha k0 k1 hax e0 hsz hn hnil
    subst hWb
    go_enter Try.func19, Try.ntmps19
    go_wp2_with (at_builtin; refine wpList_append_own_none rfl _ _ 22 rfl (w.heap.size + 1 + 1) 92 i0 3 Try.underlying22 hi _ _ _ rfl hown.out rfl ?_)
    exact bodyPost_ret (v := .agg #[.int .i64 t, .slice (some ⟨w.heap.size + 1 + 1, 0, none⟩) 0 0]) (by simp [results, Try.f19, go_sem]) rfl
      ⟨_, _, rfl, ⟨rfl, .inr ⟨w.heap.size + 1 + 1, 0, #[], rfl, by omega, Blk.newAt _ _ _ (by simp), Nat.le_refl _, by decide, rfl, rfl⟩⟩,
        ((Ext.alloc _ _).trans (Ext.alloc _ _)).trans (Ext.alloc _ _)⟩
  | some ad =>
    have hnews : Hid (∀ j u, (xs.flatMap Sh.enc)[j]? = some u → (Wb.alloc (.cells #[] 92)).cell? (ad.add j) = some u) := Lib.hid fun j u hu => by
      obtain ⟨s, hs, hj⟩ := sh_idx xs j u hu
      obtain ⟨b, o, e, _, hc⟩ := ha.2 _ s hs
      obtain rfl : ad = ⟨b, o, none⟩ := by simpa using e
      have := (e0.trans hax).cell (hc _ _ hj)
      rw [WideShapes.add_plain, show o + j = o + j / 3 * 3 + j % 3 by omega]; exact this
    have HL := Lib.hid (show (xs.flatMap Sh.enc).length = n * 3 by rw [sh_len, hn])
    have HN := Lib.hid hn
    have HO := Lib.hid (sh_one xs)
    clear ha k0 k1 hax e0 hsz hn hnil
    subst hWb
    go_enter Try.func19, Try.ntmps19
    go_wp2_with (at_builtin; refine wpList_append_own _ rfl _ _ 22 rfl (w.heap.size + 1 + 1) 92 i0 (.agg #[.int .i64 0, .int .i64 0, .int .i64 0]) 3 24 Try.underlying22 hi HI0.out hz1 hz2 rfl (by decide) _ _ _ rfl hown.out ad n ca (xs.flatMap Sh.enc) rfl HL.out hnews.out HO.out (by unfold maxLen; omega) (by omega) (by simp) ?_; intro v' w1 hown' hgrow _; have HE1 := Lib.hid (Ext.grownBy HX.out hgrow (fun g hg => by have := own_base hown.out hg; have := HSZ.out; omega)); obtain ⟨A', c', hv'⟩ := own_slice hown'; rw [Nat.zero_add] at hv'; subst hv'; have HO1 := Lib.hid hown'; have q0 : w1.cell? ⟨w.heap.size, 0, none⟩ = some (.int .i64 t) := (K0.out.ext HE1.out).cell 0; have q1 : w1.cell? ⟨w.heap.size, 1, none⟩ = some (.slice (some ad) n ca) := (K0.out.ext HE1.out).cell 1; have q2 : w1.frozen? ⟨w.heap.size, 1, none⟩ = false := (K0.out.ext HE1.out).free 1; have p0 : w1.cell? ⟨w.heap.size + 1, 0, none⟩ = some (.int .i64 0) := (K1.out.ext HE1.out).cell 0; have p1 : w1.cell? ⟨w.heap.size + 1, 1, none⟩ = some (.slice none 0 0) := (K1.out.ext HE1.out).cell 1; have p2 : w1.frozen? ⟨w.heap.size + 1, 0, none⟩ = false := (K1.out.ext HE1.out).free 0; have p3 : w1.frozen? ⟨w.heap.size + 1, 1, none⟩ = false := (K1.out.ext HE1.out).free 1; clear hown' hgrow)
    exact bodyPost_ret (v := .agg #[.int .i64 t, .slice A' n c']) (by simp [results, Try.f19, go_sem, p0, p1]) rfl
      ⟨_, _, rfl, (by
        have := HO1.out
        rw [Nat.zero_add, List.nil_append] at this
        exact own_mono (ownsRow_setCell_below (ownsRow_setCell_below (ownsRow_setCell_below this (by dsimp only; omega) _) (by dsimp only; omega) _) (by dsimp only; omega) _) (by omega)),
        Ext.set (Ext.set (Ext.set (E0.out.trans HE1.out) (by simp) _) (by simp) _) (by simp) _⟩

theorem copyLadder_any (t : Int) (A : Option Addr) (n ca : Nat) (xs : List Sh) (hn : xs.length = n) (w : World) (ha : RowsAt 3 Sh.enc w A xs) (h6 : n ≤ 6) (hnil : A = none → ca = 0) :
    Calls Try.prog 19 #[.agg #[.int .i64 t, .slice A n ca]] w fun e w' => ∃ A' c', e = .returned (.agg #[.int .i64 t, .slice A' n c']) ∧ LadAt w' A' xs ∧ Ext w w' :=
  (copyLadder_own t A n ca xs hn w ha h6 hnil).mono fun _ _ ⟨A', c', h1, h2, h3⟩ => ⟨A', c', h1, lad_own hn (by omega) h2, h3⟩

theorem infoBool : (Try.prog.info? 4).map (fun i => (i.zero, i.size, i.bytes)) = some (some (.bool false), 1, 1) := by kernel_rfl

theorem bools_own {W : World} {base n c : Nat} {A : Option Addr} {bs : List Bool} (hl : bs.length = n) (hn : n ≤ 1152921504606846976) (h : W.ownsRow base 4 1 (.slice A n c) n (bs.map Value.bool)) : RowsAt 1 boolEnc W A bs := by
  rcases h.2 with ⟨he, rfl⟩ | ⟨g, cap, cu, he, _, hh, hc, _, hs, ht⟩
  · obtain rfl := List.eq_nil_of_length_eq_zero hl
    exact ⟨by simp, by simp⟩
  · obtain ⟨rfl, rfl⟩ : A = some ⟨g, 0, none⟩ ∧ c = cap := by simpa using he
    refine ⟨by omega, fun i x hx => ⟨g, 0, rfl, (show Blk W g 4 cu from hh).lt, fun j u hu => ?_⟩⟩
    have hi := (List.getElem?_eq_some_iff.1 hx).1
    match j, hu with
    | 0, hu =>
      obtain rfl : Value.bool x = u := by simpa [boolEnc] using hu
      rw [(show Blk W g 4 cu from hh).cell]
      have h2 : (bs.map Value.bool)[i]? = some (.bool x) := by simp [hx]
      rw [← ht, List.getElem?_take, if_pos (by omega), Array.getElem?_toList] at h2
      rw [show 0 + i * 1 + 0 = i by omega]; exact h2
    | j + 1, hu => simp [boolEnc] at hu

set_option maxHeartbeats 1000000 in
theorem copyBools_any (A : Option Addr) (n ca : Nat) (xs : List Bool) (hn : xs.length = n) (w : World) (ha : RowsAt 1 boolEnc w A xs) (h6 : n ≤ 6) (hnil : A = none → ca = 0) :
    Calls Try.prog 60 #[.slice A n ca] w fun e w' => ∃ A' c', e = .returned (.slice A' n c') ∧ w'.ownsRow w.heap.size 4 1 (.slice A' n c') n (xs.map Value.bool) ∧ Ext w w' := by
  obtain ⟨i0, hi, hz0, hz1, hz2⟩ := info_parts infoBool
  have HI0 := Lib.hid hz0
  have hown : Hid ((w.alloc (.cells #[] 4)).ownsRow w.heap.size 4 1 (.slice (some ⟨w.heap.size, 0, none⟩) 0 0) 0 []) :=
    Lib.hid ⟨rfl, .inr ⟨w.heap.size, 0, #[], rfl, Nat.le_refl _, Blk.new w 4 #[], Nat.le_refl _, by decide, rfl, rfl⟩⟩
  cases A with
  | none =>
    obtain rfl : xs = [] := by
      cases xs with
      | nil => rfl
      | cons x l => obtain ⟨b, o, h, _⟩ := ha.2 0 x rfl; cases h
    obtain rfl := hnil rfl
    obtain rfl : n = 0 := by simpa using hn.symm
    clear ha hn hnil
    go_enter Try.func60, Try.ntmps60
    go_wp2_with (at_builtin; refine wpList_append_own_none rfl _ _ 25 rfl w.heap.size 4 i0 1 Try.underlying25 hi _ _ _ rfl hown.out rfl ?_)
    go_ret
    exact ⟨_, _, rfl, hown.out, Ext.alloc _ _⟩
  | some ad =>
    have hnews : Hid (∀ j u, (xs.map Value.bool)[j]? = some u → (w.alloc (.cells #[] 4)).cell? (ad.add j) = some u) := Lib.hid fun j u hu => by
      rw [List.getElem?_map] at hu
      obtain ⟨x, hx, rfl⟩ := Option.map_eq_some_iff.1 hu
      obtain ⟨b, o, e, _, hc⟩ := ha.2 j x hx
      obtain rfl : ad = ⟨b, o, none⟩ := by simpa using e
      have := (Ext.alloc w (.cells #[] 4)).cell (hc 0 _ rfl)
      rw [Nat.mul_one, Nat.add_zero] at this
      rw [WideShapes.add_plain]; exact this
    have HL := Lib.hid (show (xs.map Value.bool).length = n * 1 by simp [hn])
    have HN := Lib.hid hn
    clear ha hn hnil
    go_enter Try.func60, Try.ntmps60
    go_wp2_with (at_builtin; refine wpList_append_own _ rfl _ _ 25 rfl w.heap.size 4 i0 (.bool false) 1 1 Try.underlying25 hi HI0.out hz1 hz2 rfl (by decide) _ _ _ rfl hown.out ad n ca (xs.map Value.bool) rfl HL.out hnews.out (by intro u hu; obtain ⟨x, _, rfl⟩ := List.mem_map.1 hu; rfl) (by unfold maxLen; omega) (by omega) (by simp) ?_; intro v' w1 hown' hgrow _; have HE1 := Lib.hid (Ext.grownBy (Ext.alloc w _) hgrow (fun g hg => own_base hown.out hg)); obtain ⟨A', c', hv'⟩ := own_slice hown'; rw [Nat.zero_add] at hv'; subst hv'; have HO1 := Lib.hid hown'; clear hown' hgrow)
    go_ret
    exact ⟨_, _, rfl, by have := HO1.out; rw [Nat.zero_add, List.nil_append] at this; exact this, HE1.out⟩

set_option maxHeartbeats 1000000 in
theorem copyDrive_any (f : Int) (A : Option Addr) (n ca : Nat) (xs : List Bool) (hn : xs.length = n) (w : World) (ha : RowsAt 1 boolEnc w A xs) (h6 : n ≤ 6) (hnil : A = none → ca = 0) :
    Calls Try.prog 21 #[.agg #[.int .i64 f, .slice A n ca]] w fun e w' => ∃ A' c', e = .returned (.agg #[.int .i64 f, .slice A' n c']) ∧ RowsAt 1 boolEnc w' A' xs ∧ Ext w w' := by
  obtain ⟨Wb, hWb⟩ : ∃ Wb, Wb = (w.alloc (.cells #[.int .i64 f, .slice A n ca] 27)).alloc (.cells #[.int .i64 0, .slice none 0 0] 27) := ⟨_, rfl⟩
  have k0 : Blk Wb w.heap.size 27 #[.int .i64 f, .slice A n ca] := by rw [hWb]; exact (Blk.new _ _ _).alloc _
  have k1 : Blk Wb (w.heap.size + 1) 27 #[.int .i64 0, .slice none 0 0] := by rw [hWb]; exact Blk.newAt _ _ _ (by simp)
  have hsz : Wb.heap.size = w.heap.size + 1 + 1 := by rw [hWb]; simp
  have e0 : Ext w Wb := by rw [hWb]; exact (Ext.alloc _ _).trans (Ext.alloc _ _)
  have HC := Lib.hid (copyBools_any A n ca xs hn Wb (ha.ext e0) h6 hnil)
  have K0 := Lib.hid k0
  have K1 := Lib.hid k1
  have E0 := Lib.hid e0
  have HSZ := Lib.hid hsz
  have HN := Lib.hid hn
  clear ha k0 k1 e0 hsz hn hnil
  subst hWb
  go_enter Try.func21, Try.ntmps21
  go_wp2_with (go_at_call 60; refine HC.out.mono ?_; rintro e w1 ⟨A', c', rfl, hown, hx⟩; have HO1 := Lib.hid hown; have HE1 := Lib.hid hx; have q0 : w1.cell? ⟨w.heap.size, 0, none⟩ = some (.int .i64 f) := (K0.out.ext HE1.out).cell 0; have q1 : w1.cell? ⟨w.heap.size, 1, none⟩ = some (.slice A n ca) := (K0.out.ext HE1.out).cell 1; have q2 : w1.frozen? ⟨w.heap.size, 1, none⟩ = false := (K0.out.ext HE1.out).free 1; have p0 : w1.cell? ⟨w.heap.size + 1, 0, none⟩ = some (.int .i64 0) := (K1.out.ext HE1.out).cell 0; have p1 : w1.cell? ⟨w.heap.size + 1, 1, none⟩ = some (.slice none 0 0) := (K1.out.ext HE1.out).cell 1; have p2 : w1.frozen? ⟨w.heap.size + 1, 0, none⟩ = false := (K1.out.ext HE1.out).free 0; have p3 : w1.frozen? ⟨w.heap.size + 1, 1, none⟩ = false := (K1.out.ext HE1.out).free 1; clear hown hx)
  exact bodyPost_ret (v := .agg #[.int .i64 f, .slice A' n c']) (by simp [results, Try.f21, go_sem, p0, p1]) rfl
    ⟨_, _, rfl, bools_own HN.out (by omega) (by
      have := HO1.out
      rw [HSZ.out] at this
      exact ownsRow_setCell_below (ownsRow_setCell_below (ownsRow_setCell_below this (by dsimp only; omega) _) (by dsimp only; omega) _) (by dsimp only; omega) _),
      Ext.set (Ext.set (Ext.set (E0.out.trans HE1.out) (by simp) _) (by simp) _) (by simp) _⟩

end Go.Proofs.Ytpaoeghdfeekoaa
