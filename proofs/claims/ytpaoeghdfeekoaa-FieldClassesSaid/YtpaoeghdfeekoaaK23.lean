/- For FieldFrequencies: copies of pairs and of shapes. -/
import Derived.Test.YtpaoeghdfeekoaaMF
namespace Go.Proofs.Ytpaoeghdfeekoaa
open Go.RowKit Go.Shelf Go.Mem Go.RegInv
attribute [local go_sem] RelUpon_value RelUpon_skip RelUpon_enter BigFrame.eval_const BigFrame.eval_global BigFrame.eval_func

/-- Rows stay where a cell is stored that held none of them. -/
theorem rows_set {α : Type} {k : Nat} {enc : α → List Value} {W : World} {A : Option Addr} {xs : List α} (h : RowsAt k enc W A xs) {p : Addr} {u : Value} (hu : W.cell? p = some u) (hne : ∀ x ∈ xs, u ∉ enc x) (v : Value) : RowsAt k enc (W.setCell p v) A xs :=
  ⟨h.1, fun i x hx => by
    obtain ⟨b, o, hA, hb, hc⟩ := h.2 i x hx
    refine ⟨b, o, hA, by simpa [World.setCell] using hb, fun j u' hu' => ?_⟩
    have hcu := hc j u' hu'
    by_cases e : p = ⟨b, o + i * k + j, none⟩
    · rw [← e, hu] at hcu
      obtain rfl : u = u' := by simpa using hcu
      exact absurd (List.mem_of_getElem? hu') (hne x (List.mem_of_getElem? hx))
    · rw [World.cell?_setCell_other _ _ _ _ e]
      exact hcu⟩

def PairV (f : Int) (h1 : List Bool) (g : Int) (h2 : List Bool) : Value → World → Prop := fun u W => ∃ B m c D q d, Hid (h1.length = m) ∧ Hid (h2.length = q) ∧ u = .agg #[.int .i64 f, .slice B m c, .int .i64 g, .slice D q d] ∧ RowsAt 1 boolEnc W B h1 ∧ RowsAt 1 boolEnc W D h2
theorem PairV.ext {f : Int} {h1 : List Bool} {g : Int} {h2 : List Bool} {u : Value} {W W' : World} (h : PairV f h1 g h2 u W) (e : Ext W W') : PairV f h1 g h2 u W' := by
  obtain ⟨B, m, c, D, q, d, a1, a2, a3, a4, a5⟩ := h; exact ⟨B, m, c, D, q, d, a1, a2, a3, a4.ext e, a5.ext e⟩

theorem not_bool_int (z : Int) (xs : List Bool) : ∀ x ∈ xs, Value.int .i64 z ∉ boolEnc x := by intro x _; simp [boolEnc]
theorem not_bool_slice (A : Option Addr) (n c : Nat) (xs : List Bool) : ∀ x ∈ xs, Value.slice A n c ∉ boolEnc x := by intro x _; simp [boolEnc]

set_option maxRecDepth 100000 in
set_option maxHeartbeats 2000000 in
theorem copyPair_V {f : Int} {B : Option Addr} {m cb : Nat} {hota : List Bool} (hm : hota.length = m) {g : Int} {D : Option Addr} {q cd : Nat} {hotb : List Bool} (hq : hotb.length = q) {w : World}
    (hB : RowsAt 1 boolEnc w B hota) (hD : RowsAt 1 boolEnc w D hotb) (m6 : m ≤ 6) (q6 : q ≤ 6) (hBn : B = none → cb = 0) (hDn : D = none → cd = 0) :
    Calls Try.prog 62 #[.agg #[.int .i64 f, .slice B m cb, .int .i64 g, .slice D q cd]] w (VPost w (PairV f hota g hotb)) := by
  obtain ⟨W0, hW0⟩ : ∃ W0, W0 = (w.alloc (.cells #[.int .i64 f, .slice B m cb, .int .i64 g, .slice D q cd] 96)).alloc (.cells #[.int .i64 0, .slice none 0 0, .int .i64 0, .slice none 0 0] 96) := ⟨_, rfl⟩
  have k0 : Blk W0 w.heap.size 96 #[.int .i64 f, .slice B m cb, .int .i64 g, .slice D q cd] := by rw [hW0]; exact (Blk.new _ _ _).alloc _
  have k1 : Blk W0 (w.heap.size + 1) 96 #[.int .i64 0, .slice none 0 0, .int .i64 0, .slice none 0 0] := by rw [hW0]; exact Blk.newAt _ _ _ (by simp)
  have e0 : Ext w W0 := by rw [hW0]; exact (Ext.alloc _ _).trans (Ext.alloc _ _)
  have HC1 := Lib.hid (fun W (e : Ext w W) => copyDrive_V (f := f) hm hB m6 hBn W e)
  have HC2 := Lib.hid (fun W (e : Ext w W) => copyDrive_V (f := g) hq hD q6 hDn W e)
  have K1 := Lib.hid k1
  have E0 := Lib.hid e0
  have z0 : W0.cell? ⟨w.heap.size, 0, none⟩ = some (.int .i64 f) := k0.cell 0
  have z1 : W0.cell? ⟨w.heap.size, 1, none⟩ = some (.slice B m cb) := k0.cell 1
  have z2 : W0.cell? ⟨w.heap.size, 2, none⟩ = some (.int .i64 g) := k0.cell 2
  have z3 : W0.cell? ⟨w.heap.size, 3, none⟩ = some (.slice D q cd) := k0.cell 3
  clear hB hD k0 k1 e0 hm hq hBn hDn
  go_enter Try.func62, Try.ntmps62
  go_wp2
  rw [← hW0]
  clear hW0
  refine wp_region_part 7 [some 3, some 4, some 5, some 6, some 7, some 8, some 9] [[1], [3], [4], [1], [6], [7], [5, 8]]
    [Is (.pointer (some ⟨w.heap.size, 0, none⟩)), Is (.agg #[.int .i64 (f), .slice B m cb]), DrvV f hota, Is (.pointer (some ⟨w.heap.size, 2, none⟩)), Is (.agg #[.int .i64 (g), .slice D q cd]), DrvV g hotb, PairV f hota g hotb]
    (by kernel_rfl) (by kernel_rfl) (by kernel_rfl) (by kernel_rfl) (by kernel_rfl) (by kernel_rfl) (by kernel_rfl) Ext (fun W => Ext W0 W)
    (fun W _ => Ext.refl W) (fun W W' h k => h.trans k) ?_ (Ext.drew _) ?_ ?_
  · repeat (refine ⟨fun _ _ _ _ k h => (by first | exact h | exact (by first | exact DrvV.ext h k | exact PairV.ext h k)), ?_⟩)
    exact trivial
  · refine ⟨?_, ?_, ?_, ?_, ?_, ?_, ?_, trivial⟩
    all_goals intro ρ W ⟨kc, kg, kf⟩ hF hs
    · obtain ⟨h0, -⟩ := hs
      replace h0 : ρ (.tmp 1) = .pointer (some ⟨w.heap.size, 0, none⟩) := h0
      go_simp
      exact ⟨Ext.refl _, rfl⟩
    · obtain ⟨h0, -⟩ := hs
      replace h0 : ρ (.tmp 3) = .pointer (some ⟨w.heap.size, 0, none⟩) := h0
      have hc0 : W.cell? ⟨w.heap.size, 0, none⟩ = some (.int .i64 (f)) := hF.cell (by assumption)
      have hc1 : W.cell? ⟨w.heap.size, 1, none⟩ = some (.slice B m cb) := hF.cell (by assumption)
      go_simp
      exact ⟨Ext.refl _, rfl⟩
    · obtain ⟨h0, -⟩ := hs
      replace h0 : ρ (.tmp 4) = .agg #[.int .i64 (f), .slice B m cb] := h0
      go_simp
      exact HC1.out W (E0.out.trans hF)
    · obtain ⟨h0, -⟩ := hs
      replace h0 : ρ (.tmp 1) = .pointer (some ⟨w.heap.size, 0, none⟩) := h0
      go_simp
      exact ⟨Ext.refl _, rfl⟩
    · obtain ⟨h0, -⟩ := hs
      replace h0 : ρ (.tmp 6) = .pointer (some ⟨w.heap.size, 2, none⟩) := h0
      have hc0 : W.cell? ⟨w.heap.size, 2, none⟩ = some (.int .i64 (g)) := hF.cell (by assumption)
      have hc1 : W.cell? ⟨w.heap.size, 3, none⟩ = some (.slice D q cd) := hF.cell (by assumption)
      go_simp
      exact ⟨Ext.refl _, rfl⟩
    · obtain ⟨h0, -⟩ := hs
      replace h0 : ρ (.tmp 7) = .agg #[.int .i64 (g), .slice D q cd] := h0
      go_simp
      exact HC2.out W (E0.out.trans hF)
    · obtain ⟨h0, h1, -⟩ := hs
      replace h0 : (DrvV f hota) (ρ (.tmp 5)) W := h0
      replace h1 : (DrvV g hotb) (ρ (.tmp 8)) W := h1
      obtain ⟨B1, m1, c1, l1, e1, r1⟩ := h0
      obtain ⟨D1, q1, d1, l2, e2, r2⟩ := h1
      go_simp
      exact ⟨Ext.refl _, B1, m1, c1, D1, q1, d1, l1, l2, rfl, r1, r2⟩
  · intro fv W1 hF hs
    obtain ⟨-, -, -, -, -, -, h9, -⟩ := hs
    replace h9 : (PairV f hota g hotb) (fv 9) W1 := h9
    simp only [fin, List.filterMap]
    go_simp
    obtain ⟨B1, m1, c1, D1, q1, d1, l1, l2, hv, r1, r2⟩ := h9
    rw [hv]
    have k1 := K1.out.ext hF
    have f0 := k1.free 0
    have f1 := k1.free 1
    have f2 := k1.free 2
    have f3 := k1.free 3
    have c0' : W1.cell? ⟨w.heap.size + 1, 0, none⟩ = some (.int .i64 0) := k1.cell 0
    have c1' : W1.cell? ⟨w.heap.size + 1, 1, none⟩ = some (.slice none 0 0) := k1.cell 1
    have c2' : W1.cell? ⟨w.heap.size + 1, 2, none⟩ = some (.int .i64 0) := k1.cell 2
    have c3' : W1.cell? ⟨w.heap.size + 1, 3, none⟩ = some (.slice none 0 0) := k1.cell 3
    have S0 := Lib.hid (k1.setSame 0 (.int .i64 f))
    have S1 := Lib.hid (S0.out.setSame 1 (.slice B1 m1 c1))
    have S2 := Lib.hid (S1.out.setSame 2 (.int .i64 g))
    have HX := Lib.hid (E0.out.trans hF)
    have R1 := Lib.hid r1
    have R2 := Lib.hid r2
    clear hv k1 hF z0 z1 z2 z3 r1 r2
    go_wp2
    exact bodyPost_ret (v := .agg #[.int .i64 f, .slice B1 m1 c1, .int .i64 g, .slice D1 q1 d1]) (by simp [results, Try.f62, go_sem, c0', c1', c2', c3']) rfl
      ⟨_, rfl, Ext.set (Ext.set (Ext.set (Ext.set HX.out (by simp) _) (by simp) _) (by simp) _) (by simp) _, B1, m1, c1, D1, q1, d1, l1, l2, rfl,
        rows_set (rows_set (rows_set (rows_set R1.out c0' (not_bool_int _ _) _) (S0.out.cell 1) (not_bool_slice _ _ _ _) _) (S1.out.cell 2) (not_bool_int _ _) _) (S2.out.cell 3) (not_bool_slice _ _ _ _) _,
        rows_set (rows_set (rows_set (rows_set R2.out c0' (not_bool_int _ _) _) (S0.out.cell 1) (not_bool_slice _ _ _ _) _) (S1.out.cell 2) (not_bool_int _ _) _) (S2.out.cell 3) (not_bool_slice _ _ _ _) _⟩

/-! Shapes: a range is written as a G (Lo, Hi). -/
theorem info132 : (Try.prog.info? 132).map (fun i => (i.zero, i.size, i.bytes)) = some (some (.agg #[.int .i64 0, .int .i64 0]), 2, 16) := by kernel_rfl
theorem rg_own {W : World} {base n c : Nat} {A : Option Addr} {xs : List G} (hl : xs.length = n) (hn : n ≤ 1152921504606846976) (h : W.ownsRow base 132 2 (.slice A n c) n (xs.flatMap G.enc)) : RowsAt 2 G.enc W A xs := by
  rcases h.2 with ⟨he, _⟩ | ⟨g, cap, cu, he, _, hh, hc, _, hs, ht⟩
  · obtain rfl : n = 0 := by simp at he; omega
    obtain rfl := List.eq_nil_of_length_eq_zero hl
    exact ⟨by simp, by simp⟩
  · obtain ⟨rfl, rfl⟩ : A = some ⟨g, 0, none⟩ ∧ c = cap := by simpa using he
    refine ⟨by omega, fun i s hx => ⟨g, 0, rfl, (show Blk W g 132 cu from hh).lt, fun j u hu => ?_⟩⟩
    have hi := (List.getElem?_eq_some_iff.1 hx).1
    have hj : j < 2 := (List.getElem?_eq_some_iff.1 hu).1
    rw [(show Blk W g 132 cu from hh).cell]
    have h2 := g_at xs i j s u hx hu
    rw [← ht, List.getElem?_take, if_pos (by omega), Array.getElem?_toList] at h2
    rw [show 0 + i * 2 + j = i * 2 + j by omega]; exact h2
def ShpV (t : Int) (rs : List G) : Value → World → Prop := fun u W => ∃ A n c, Hid (rs.length = n) ∧ u = .agg #[.int .i64 t, .slice A n c] ∧ RowsAt 2 G.enc W A rs
theorem ShpV.ext {t : Int} {rs : List G} {u : Value} {W W' : World} (h : ShpV t rs u W) (e : Ext W W') : ShpV t rs u W' := by
  obtain ⟨A, n, c, h1, h2, h3⟩ := h; exact ⟨A, n, c, h1, h2, h3.ext e⟩

set_option maxRecDepth 100000 in
set_option maxHeartbeats 1000000 in
theorem copyShape_own (t : Int) (A : Option Addr) (n ca : Nat) (xs : List G) (hn : xs.length = n) (w : World) (ha : RowsAt 2 G.enc w A xs) (h6 : n ≤ 6) (hnil : A = none → ca = 0) :
    Calls Try.prog 64 #[.agg #[.int .i64 t, .slice A n ca]] w fun e w' => ∃ A' c', e = .returned (.agg #[.int .i64 t, .slice A' n c']) ∧ w'.ownsRow w.heap.size 132 2 (.slice A' n c') n (xs.flatMap G.enc) ∧ Ext w w' := by
  obtain ⟨i0, hi, hz0, hz1, hz2⟩ := info_parts info132
  have HI0 := Lib.hid hz0
  obtain ⟨Wb, hWb⟩ : ∃ Wb, Wb = (w.alloc (.cells #[.int .i64 t, .slice A n ca] 101)).alloc (.cells #[.int .i64 0, .slice none 0 0] 101) := ⟨_, rfl⟩
  have k0 : Blk Wb w.heap.size 101 #[.int .i64 t, .slice A n ca] := by rw [hWb]; exact (Blk.new _ _ _).alloc _
  have k1 : Blk Wb (w.heap.size + 1) 101 #[.int .i64 0, .slice none 0 0] := by rw [hWb]; exact Blk.newAt _ _ _ (by simp)
  have hsz : Wb.heap.size = w.heap.size + 1 + 1 := by rw [hWb]; simp
  have hown : Hid ((Wb.alloc (.cells #[] 132)).ownsRow (w.heap.size + 1 + 1) 132 2 (.slice (some ⟨w.heap.size + 1 + 1, 0, none⟩) 0 0) 0 []) :=
    Lib.hid ⟨rfl, .inr ⟨w.heap.size + 1 + 1, 0, #[], rfl, Nat.le_refl _, Blk.newAt Wb 132 #[] hsz.symm, Nat.le_refl _, by decide, rfl, rfl⟩⟩
  have e0 : Ext w Wb := by rw [hWb]; exact (Ext.alloc _ _).trans (Ext.alloc _ _)
  have hax : Ext Wb (Wb.alloc (.cells #[] 132)) := Ext.alloc _ _
  have K0 := Lib.hid k0
  have K1 := Lib.hid k1
  have HX := Lib.hid hax
  have E0 := Lib.hid e0
  have HSZ := Lib.hid hsz
  cases A with
  | none =>
    obtain rfl : xs = [] := by
      cases xs with
      | nil => rfl
      | cons x l => obtain ⟨b, o, h, _⟩ := ha.2 0 x rfl; cases h
    obtain rfl := hnil rfl
    obtain rfl : n = 0 := by simpa using hn.symm
    clear ha k0 k1 hax e0 hsz hn hnil
    subst hWb
    go_enter Try.func64, Try.ntmps64
    go_wp2_with (at_builtin; refine wpList_append_own_none rfl _ _ 99 rfl (w.heap.size + 1 + 1) 132 i0 2 Try.underlying99 hi _ _ _ rfl hown.out rfl ?_)
    exact bodyPost_ret (v := .agg #[.int .i64 t, .slice (some ⟨w.heap.size + 1 + 1, 0, none⟩) 0 0]) (by simp [results, Try.f64, go_sem]) rfl
      ⟨_, _, rfl, ⟨rfl, .inr ⟨w.heap.size + 1 + 1, 0, #[], rfl, by omega, Blk.newAt _ _ _ (by simp), Nat.le_refl _, by decide, rfl, rfl⟩⟩,
        ((Ext.alloc _ _).trans (Ext.alloc _ _)).trans (Ext.alloc _ _)⟩
  | some ad =>
    have hnews : Hid (∀ j u, (xs.flatMap G.enc)[j]? = some u → (Wb.alloc (.cells #[] 132)).cell? (ad.add j) = some u) := Lib.hid fun j u hu => by
      obtain ⟨s, hs, hj⟩ := g_idx xs j u hu
      obtain ⟨b, o, e, _, hc⟩ := ha.2 _ s hs
      obtain rfl : ad = ⟨b, o, none⟩ := by simpa using e
      have := (e0.trans hax).cell (hc _ _ hj)
      rw [WideShapes.add_plain, show o + j = o + j / 2 * 2 + j % 2 by omega]; exact this
    have HL := Lib.hid (show (xs.flatMap G.enc).length = n * 2 by rw [g_len, hn])
    have HN := Lib.hid hn
    have HO := Lib.hid (g_one xs)
    clear ha k0 k1 hax e0 hsz hn hnil
    subst hWb
    go_enter Try.func64, Try.ntmps64
    go_wp2_with (at_builtin; refine wpList_append_own _ rfl _ _ 99 rfl (w.heap.size + 1 + 1) 132 i0 (.agg #[.int .i64 0, .int .i64 0]) 2 16 Try.underlying99 hi HI0.out hz1 hz2 rfl (by decide) _ _ _ rfl hown.out ad n ca (xs.flatMap G.enc) rfl HL.out hnews.out HO.out (by unfold maxLen; omega) (by omega) (by simp) ?_; intro v' w1 hown' hgrow _; have HE1 := Lib.hid (Ext.grownBy HX.out hgrow (fun g hg => by have := own_base hown.out hg; have := HSZ.out; omega)); obtain ⟨A', c', hv'⟩ := own_slice hown'; rw [Nat.zero_add] at hv'; subst hv'; have HO1 := Lib.hid hown'; have q0 : w1.cell? ⟨w.heap.size, 0, none⟩ = some (.int .i64 t) := (K0.out.ext HE1.out).cell 0; have q1 : w1.cell? ⟨w.heap.size, 1, none⟩ = some (.slice (some ad) n ca) := (K0.out.ext HE1.out).cell 1; have q2 : w1.frozen? ⟨w.heap.size, 1, none⟩ = false := (K0.out.ext HE1.out).free 1; have p0 : w1.cell? ⟨w.heap.size + 1, 0, none⟩ = some (.int .i64 0) := (K1.out.ext HE1.out).cell 0; have p1 : w1.cell? ⟨w.heap.size + 1, 1, none⟩ = some (.slice none 0 0) := (K1.out.ext HE1.out).cell 1; have p2 : w1.frozen? ⟨w.heap.size + 1, 0, none⟩ = false := (K1.out.ext HE1.out).free 0; have p3 : w1.frozen? ⟨w.heap.size + 1, 1, none⟩ = false := (K1.out.ext HE1.out).free 1; clear hown' hgrow)
    exact bodyPost_ret (v := .agg #[.int .i64 t, .slice A' n c']) (by simp [results, Try.f64, go_sem, p0, p1]) rfl
      ⟨_, _, rfl, (by
        have := HO1.out
        rw [Nat.zero_add, List.nil_append] at this
        exact own_mono (ownsRow_setCell_below (ownsRow_setCell_below (ownsRow_setCell_below this (by dsimp only; omega) _) (by dsimp only; omega) _) (by dsimp only; omega) _) (by omega)),
        Ext.set (Ext.set (Ext.set (E0.out.trans HE1.out) (by simp) _) (by simp) _) (by simp) _⟩

theorem copyShape_V {t : Int} {A : Option Addr} {n ca : Nat} {xs : List G} (hn : xs.length = n) {w : World} (ha : RowsAt 2 G.enc w A xs) (h6 : n ≤ 6) (hnil : A = none → ca = 0) (W : World) (e : Ext w W) :
    Calls Try.prog 64 #[.agg #[.int .i64 t, .slice A n ca]] W (VPost W (ShpV t xs)) :=
  (copyShape_own t A n ca xs hn W (ha.ext e) h6 hnil).mono fun _ _ ⟨A', c', h1, h2, h3⟩ => ⟨_, h1, h3, A', n, c', Lib.hid hn, rfl, rg_own hn (by omega) h2⟩

end Go.Proofs.Ytpaoeghdfeekoaa
