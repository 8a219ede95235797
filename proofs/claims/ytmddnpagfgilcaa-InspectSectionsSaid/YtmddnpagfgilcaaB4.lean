/- Traverses: CaseOf. -/
import Derived.Test.YtmddnpagfgilcaaB3
import Derived.Lib.MinMax

namespace Go.Proofs.Ytmddnpagfgilcaa
open Go.RowKit Go.Shelf Go.Mem Go.RegInv
attribute [local go_sem] RelUpon_value RelUpon_skip RelUpon_enter BigFrame.eval_const BigFrame.eval_global BigFrame.eval_func


def loP (xs : List In) : List (Int × Int) := xs.map fun x => (x.d, x.lo)
def upP (xs : List In) : List (Int × Int) := xs.map fun x => (x.d, x.hi)
def caseE (xs : List In) (l : Int) : Int := firstE [(checkT xs).2, rangeE 0 2000 [l]]
theorem count_ok {n lo hi : Int} (h : countE n lo hi = 0) : lo ≤ n ∧ n ≤ hi := by
  have h1 := firstE_zero h (errIf (decide (n < lo)) 10) (by simp)
  have h2 := firstE_zero h (errIf (decide (hi < n)) 8) (by simp)
  simp [errIf] at h1 h2
  exact ⟨h1, h2⟩
theorem checkT_ok {xs : List In} (h : (checkT xs).2 = 0) : 2 ≤ xs.length ∧ xs.length ≤ 20 ∧ ∀ (i : Nat) (x : In), xs[i]? = some x → 1 ≤ x.d ∧ x.d ≤ 10000 ∧ 1 ≤ x.g ∧ x.g ≤ 10000 ∧ 0 ≤ x.lo ∧ x.lo ≤ x.hi ∧ x.hi ≤ 2000 ∧ distK xs i = false := by
  unfold checkT at h
  by_cases hz : countE xs.length 2 20 = 0
  · rw [if_neg (by simpa using hz)] at h
    obtain ⟨c1, c2⟩ := count_ok hz
    refine ⟨by omega, by omega, fun i x hx => ?_⟩
    have hi := (List.getElem?_eq_some_iff.1 hx).1
    have e := firstAt_zero h i (by omega) (by omega)
    unfold indAt at e
    rw [show xs.getD i default = x by simp [hx]] at e
    have e1 := rangeE_zeros (firstE_zero e (rangeE 1 10000 [x.d, x.g]) (by simp))
    have e2 := rangeE_zeros (firstE_zero e (rangeE 0 2000 [x.lo, x.hi]) (by simp))
    have e3 := firstE_zero e (errIf (decide (x.hi < x.lo)) 9) (by simp)
    have e4 := firstE_zero e (errIf (distK xs i) 17) (by simp)
    have a1 := e1 x.d (by simp)
    have a2 := e1 x.g (by simp)
    have a3 := e2 x.lo (by simp)
    have a4 := e2 x.hi (by simp)
    simp [errIf] at e3 e4
    exact ⟨a1.1, a1.2, a2.1, a2.2, a3.1, e3, a4.2, e4⟩
  · rw [if_pos hz] at h
    exact absurd h hz
theorem curvesOf_any {A : Option Addr} {n ca : Nat} (w : World) : Calls Try.prog 84 #[.agg #[.slice A n ca]] w fun e w' => ∃ tb, e = .returned (.tuple #[.func (.func 119) #[] #[.pointer (some ⟨tb, 0, none⟩)], .func (.func 120) #[] #[.pointer (some ⟨tb, 0, none⟩)]]) ∧ Blk w' tb 24 #[.slice A n ca] ∧ Ext w w' := by
  go_enter Try.func84, Try.ntmps84
  go_wp2
  go_ret2
  exact ⟨w.heap.size, rfl, Blk.new _ _ _, Ext.alloc _ _⟩
set_option maxRecDepth 100000 in
set_option maxHeartbeats 1000000 in
theorem caseOf_bad {A : Option Addr} {n ca : Nat} {xs : List In} {w : World} (l : Int) (hn : xs.length = n) (hA : RowsAt 4 In.enc w A xs) (hz : caseE xs l ≠ 0) :
    Calls Try.prog 18 #[.agg #[.slice A n ca], .int .i64 l] w fun e w' => e = .returned (.tuple #[.agg #[.int .i64 0, .int .i64 0, .int .i64 0, .int .i64 0], .int .i64 (caseE xs l)]) ∧ Ext w w' := by
  have HTE := Lib.hid (fun W (e : Ext w W) => traverseError_any (ca := ca) hn (hA.ext e))
  have HZ := Lib.hid (show firstE [(checkT xs).2, rangeE 0 2000 [l]] = caseE xs l from rfl)
  have hz2 : (caseE xs l != 0) = true := by simp [hz]
  generalize caseE xs l = z at *
  clear hn hA hz
  obtain ⟨W0, hW0⟩ : ∃ W0, W0 = (w.alloc (.cells #[.slice A n ca] 24)).alloc (.cells #[.int .i64 0, .int .i64 0, .int .i64 0, .int .i64 0] 34) := ⟨_, rfl⟩
  have k0 : Blk W0 w.heap.size 24 #[.slice A n ca] := by rw [hW0]; exact (Blk.new _ _ _).alloc _
  have k1 : Blk W0 (w.heap.size + 1) 34 #[.int .i64 0, .int .i64 0, .int .i64 0, .int .i64 0] := by rw [hW0]; exact Blk.newAt _ _ _ (by simp)
  have E0 := Lib.hid (show Ext w W0 by rw [hW0]; exact (Ext.alloc _ _).trans (Ext.alloc _ _))
  have y0 : W0.cell? ⟨w.heap.size, 0, none⟩ = some (.slice A n ca) := k0.cell 0
  have K0 := Lib.hid k0
  have K1 := Lib.hid k1
  clear k0 k1
  go_enter Try.func18, Try.ntmps18
  go_wp2_with (fail)
  rw [← hW0]
  clear hW0
  go_wp2_with (go_at_call 83; refine (HTE.out _ E0.out).mono ?_; rintro e W1 ⟨rfl, hx⟩; have X1 := Lib.hid hx; clear hx y0; refine Hid.out ?_)
  refine Lib.hid ?_
  go_wp2_with (go_at_call 79; refine (rangeError_any 0 2000 _ [l] _ (ints_new _ [l] _ (by simp))).mono ?_; rintro e W2 ⟨rfl, hx⟩; have X2 := Lib.hid (X1.out.trans ((Ext.alloc _ _).trans hx)); clear hx X1; refine Hid.out ?_)
  refine Lib.hid ?_
  go_wp2_with (go_at_call 78; refine (firstOf_any _ [(checkT xs).2, rangeE 0 2000 [l]] _ (ints_new _ [_, _] _ (by simp))).mono ?_; rintro e W3 ⟨rfl, hw⟩; have X3 := Lib.hid (show Ext W0 W3 by rw [← hw]; exact X2.out.trans (Ext.alloc _ _)); clear hw X2; rw [HZ.out]; refine Hid.out ?_)
  refine Lib.hid ?_
  have BR := Lib.hid (K1.out.ext X3.out)
  have B0 := Lib.hid (K0.out.ext X3.out)
  clear K0 K1
  clear B0
  have f0 := BR.out.free 0
  have c0 : W3.cell? ⟨w.heap.size + 1, 0, none⟩ = some (.int .i64 0) := BR.out.cell 0
  have f1 := BR.out.free 1
  have c1 : W3.cell? ⟨w.heap.size + 1, 1, none⟩ = some (.int .i64 0) := BR.out.cell 1
  have f2 := BR.out.free 2
  have c2 : W3.cell? ⟨w.heap.size + 1, 2, none⟩ = some (.int .i64 0) := BR.out.cell 2
  have f3 := BR.out.free 3
  have c3 : W3.cell? ⟨w.heap.size + 1, 3, none⟩ = some (.int .i64 0) := BR.out.cell 3
  clear BR
  go_wp2
  exact bodyPost_ret (v := .tuple #[.agg #[.int .i64 0, .int .i64 0, .int .i64 0, .int .i64 0], .int .i64 z]) (by simp [results, Try.f18, go_sem, c0, c1, c2, c3]) rfl ⟨rfl, (Ext.set (Ext.set (Ext.set (Ext.set (E0.out.trans X3.out) (by dsimp only; omega) _) (by dsimp only; omega) _) (by dsimp only; omega) _) (by dsimp only; omega) _)⟩

set_option maxRecDepth 100000 in
set_option maxHeartbeats 1000000 in
theorem caseOf_none {A : Option Addr} {n ca : Nat} {xs : List In} {w : World} (l : Int) (hn : xs.length = n) (hA : RowsAt 4 In.enc w A xs) (hz : caseE xs l = 0) (hh : (xs.getD 0 default).hi < l) :
    Calls Try.prog 18 #[.agg #[.slice A n ca], .int .i64 l] w fun e w' => e = .returned (.tuple #[.agg #[.int .i64 0, .int .i64 0, .int .i64 0, .int .i64 0], .int .i64 12]) ∧ Ext w w' := by
  have HTE := Lib.hid (fun W (e : Ext w W) => traverseError_any (ca := ca) hn (hA.ext e))
  have HZ := Lib.hid (show firstE [(checkT xs).2, rangeE 0 2000 [l]] = 0 from hz)
  obtain ⟨m2, m20, hok⟩ := checkT_ok (firstE_zero hz (checkT xs).2 (by simp))
  obtain ⟨l0, l1⟩ := rangeE_zeros (firstE_zero hz (rangeE 0 2000 [l]) (by simp)) l (by simp)
  rw [hn] at m2 m20
  have HA := Lib.hid hA
  have HN := Lib.hid hn
  have HOK := Lib.hid hok
  have hn0 : 0 < n := by omega
  obtain ⟨x, hx0⟩ : ∃ x, xs[0]? = some x := ⟨_, List.getElem?_eq_getElem (by omega)⟩
  have HX0 := Lib.hid hx0
  have hh2 : x.hi < l := by simpa [hx0] using hh
  clear hn hA hz hok hx0 hh
  obtain ⟨W0, hW0⟩ : ∃ W0, W0 = (w.alloc (.cells #[.slice A n ca] 24)).alloc (.cells #[.int .i64 0, .int .i64 0, .int .i64 0, .int .i64 0] 34) := ⟨_, rfl⟩
  have k0 : Blk W0 w.heap.size 24 #[.slice A n ca] := by rw [hW0]; exact (Blk.new _ _ _).alloc _
  have k1 : Blk W0 (w.heap.size + 1) 34 #[.int .i64 0, .int .i64 0, .int .i64 0, .int .i64 0] := by rw [hW0]; exact Blk.newAt _ _ _ (by simp)
  have E0 := Lib.hid (show Ext w W0 by rw [hW0]; exact (Ext.alloc _ _).trans (Ext.alloc _ _))
  have y0 : W0.cell? ⟨w.heap.size, 0, none⟩ = some (.slice A n ca) := k0.cell 0
  have K0 := Lib.hid k0
  have K1 := Lib.hid k1
  clear k0 k1
  go_enter Try.func18, Try.ntmps18
  go_wp2_with (fail)
  rw [← hW0]
  clear hW0
  go_wp2_with (go_at_call 83; refine (HTE.out _ E0.out).mono ?_; rintro e W1 ⟨rfl, hx⟩; have X1 := Lib.hid hx; clear hx y0; refine Hid.out ?_)
  refine Lib.hid ?_
  go_wp2_with (go_at_call 79; refine (rangeError_any 0 2000 _ [l] _ (ints_new _ [l] _ (by simp))).mono ?_; rintro e W2 ⟨rfl, hx⟩; have X2 := Lib.hid (X1.out.trans ((Ext.alloc _ _).trans hx)); clear hx X1; refine Hid.out ?_)
  refine Lib.hid ?_
  go_wp2_with (go_at_call 78; refine (firstOf_any _ [(checkT xs).2, rangeE 0 2000 [l]] _ (ints_new _ [_, _] _ (by simp))).mono ?_; rintro e W3 ⟨rfl, hw⟩; have X3 := Lib.hid (show Ext W0 W3 by rw [← hw]; exact X2.out.trans (Ext.alloc _ _)); clear hw X2; rw [HZ.out]; refine Hid.out ?_)
  refine Lib.hid ?_
  have BR := Lib.hid (K1.out.ext X3.out)
  have B0 := Lib.hid (K0.out.ext X3.out)
  clear K0 K1
  obtain ⟨b, o, rfl, hb, hc⟩ := row_at (HA.out.ext (E0.out.trans X3.out)) HX0.out
  have p3 := hc 3 _ rfl
  simp only [Nat.zero_mul, Nat.add_zero] at p3
  have y0 : W3.cell? ⟨w.heap.size, 0, none⟩ = some (.slice (some ⟨b, o, none⟩) n ca) := B0.out.cell 0
  clear hc hb
  have f0 := BR.out.free 0
  have c0 : W3.cell? ⟨w.heap.size + 1, 0, none⟩ = some (.int .i64 0) := BR.out.cell 0
  have f1 := BR.out.free 1
  have c1 : W3.cell? ⟨w.heap.size + 1, 1, none⟩ = some (.int .i64 0) := BR.out.cell 1
  have f2 := BR.out.free 2
  have c2 : W3.cell? ⟨w.heap.size + 1, 2, none⟩ = some (.int .i64 0) := BR.out.cell 2
  have f3 := BR.out.free 3
  have c3 : W3.cell? ⟨w.heap.size + 1, 3, none⟩ = some (.int .i64 0) := BR.out.cell 3
  clear BR B0
  go_wp2
  exact bodyPost_ret (v := .tuple #[.agg #[.int .i64 0, .int .i64 0, .int .i64 0, .int .i64 0], .int .i64 12]) (by simp [results, Try.f18, go_sem, c0, c1, c2, c3]) rfl ⟨rfl, (Ext.set (Ext.set (Ext.set (Ext.set (E0.out.trans X3.out) (by dsimp only; omega) _) (by dsimp only; omega) _) (by dsimp only; omega) _) (by dsimp only; omega) _)⟩

set_option maxRecDepth 100000 in
set_option maxHeartbeats 1000000 in
theorem caseOf_open {A : Option Addr} {n ca : Nat} {xs : List In} {w : World} (l : Int) (hn : xs.length = n) (hA : RowsAt 4 In.enc w A xs) (hz : caseE xs l = 0) (hh : ¬ (xs.getD 0 default).hi < l) (hf : fallK (upP xs) l n 0 = none) :
    Calls Try.prog 18 #[.agg #[.slice A n ca], .int .i64 l] w fun e w' => e = .returned (.tuple #[.agg #[.int .i64 0, .int .i64 0, .int .i64 0, .int .i64 0], .int .i64 21]) ∧ Ext w w' := by
  have HTE := Lib.hid (fun W (e : Ext w W) => traverseError_any (ca := ca) hn (hA.ext e))
  have HZ := Lib.hid (show firstE [(checkT xs).2, rangeE 0 2000 [l]] = 0 from hz)
  obtain ⟨m2, m20, hok⟩ := checkT_ok (firstE_zero hz (checkT xs).2 (by simp))
  obtain ⟨l0, l1⟩ := rangeE_zeros (firstE_zero hz (rangeE 0 2000 [l]) (by simp)) l (by simp)
  rw [hn] at m2 m20
  have HA := Lib.hid hA
  have HN := Lib.hid hn
  have HOK := Lib.hid hok
  have hn0 : 0 < n := by omega
  obtain ⟨x, hx0⟩ : ∃ x, xs[0]? = some x := ⟨_, List.getElem?_eq_getElem (by omega)⟩
  have HX0 := Lib.hid hx0
  have hh2 : ¬ x.hi < l := by simpa [hx0] using hh
  have hU : ∀ (i : Nat) (p : Int × Int), (upP xs)[i]? = some p → 0 ≤ p.1 ∧ p.1 ≤ 10000 ∧ 0 ≤ p.2 ∧ p.2 ≤ 2000 := fun i p h => by
    simp only [upP, List.getElem?_map, Option.map_eq_some_iff] at h
    obtain ⟨y, hy, rfl⟩ := h
    have := hok i y hy
    exact ⟨by dsimp only; omega, by dsimp only; omega, by dsimp only; omega, by dsimp only; omega⟩
  have hL : ∀ (i : Nat) (p : Int × Int), (loP xs)[i]? = some p → 0 ≤ p.1 ∧ p.1 ≤ 10000 ∧ 0 ≤ p.2 ∧ p.2 ≤ 2000 := fun i p h => by
    simp only [loP, List.getElem?_map, Option.map_eq_some_iff] at h
    obtain ⟨y, hy, rfl⟩ := h
    have := hok i y hy
    exact ⟨by dsimp only; omega, by dsimp only; omega, by dsimp only; omega, by dsimp only; omega⟩
  have HU := Lib.hid (fun (tb : Nat) (W : World) (e : Ext w W) (hb : Blk W tb 24 #[.slice A n ca]) => fall120_any (ps := upP xs) (l := l) (n := n) (w := W) (cp := #[.pointer (some ⟨tb, 0, none⟩)]) (by simp [upP, hn]) (by omega) ⟨l0, l1⟩ hU (fun i p W2 hp e2 => by
    simp only [upP, List.getElem?_map, Option.map_eq_some_iff] at hp
    obtain ⟨y, hy, rfl⟩ := hp
    exact clos120_any hn (hA.ext (e.trans e2)) ((hb.ext e2).cell 0) hy))
  have HL := Lib.hid (fun (tb : Nat) (W : World) (e : Ext w W) (hb : Blk W tb 24 #[.slice A n ca]) => fall119_any (ps := loP xs) (l := l) (n := n) (w := W) (cp := #[.pointer (some ⟨tb, 0, none⟩)]) (by simp [loP, hn]) (by omega) ⟨l0, l1⟩ hL (fun i p W2 hp e2 => by
    simp only [loP, List.getElem?_map, Option.map_eq_some_iff] at hp
    obtain ⟨y, hy, rfl⟩ := hp
    exact clos119_any hn (hA.ext (e.trans e2)) ((hb.ext e2).cell 0) hy))
  clear hU hL
  rw [hf] at HU
  clear hn hA hz hok hx0 hh hf HL
  obtain ⟨W0, hW0⟩ : ∃ W0, W0 = (w.alloc (.cells #[.slice A n ca] 24)).alloc (.cells #[.int .i64 0, .int .i64 0, .int .i64 0, .int .i64 0] 34) := ⟨_, rfl⟩
  have k0 : Blk W0 w.heap.size 24 #[.slice A n ca] := by rw [hW0]; exact (Blk.new _ _ _).alloc _
  have k1 : Blk W0 (w.heap.size + 1) 34 #[.int .i64 0, .int .i64 0, .int .i64 0, .int .i64 0] := by rw [hW0]; exact Blk.newAt _ _ _ (by simp)
  have E0 := Lib.hid (show Ext w W0 by rw [hW0]; exact (Ext.alloc _ _).trans (Ext.alloc _ _))
  have y0 : W0.cell? ⟨w.heap.size, 0, none⟩ = some (.slice A n ca) := k0.cell 0
  have K0 := Lib.hid k0
  have K1 := Lib.hid k1
  clear k0 k1
  go_enter Try.func18, Try.ntmps18
  go_wp2_with (fail)
  rw [← hW0]
  clear hW0
  go_wp2_with (go_at_call 83; refine (HTE.out _ E0.out).mono ?_; rintro e W1 ⟨rfl, hx⟩; have X1 := Lib.hid hx; clear hx y0; refine Hid.out ?_)
  refine Lib.hid ?_
  go_wp2_with (go_at_call 79; refine (rangeError_any 0 2000 _ [l] _ (ints_new _ [l] _ (by simp))).mono ?_; rintro e W2 ⟨rfl, hx⟩; have X2 := Lib.hid (X1.out.trans ((Ext.alloc _ _).trans hx)); clear hx X1; refine Hid.out ?_)
  refine Lib.hid ?_
  go_wp2_with (go_at_call 78; refine (firstOf_any _ [(checkT xs).2, rangeE 0 2000 [l]] _ (ints_new _ [_, _] _ (by simp))).mono ?_; rintro e W3 ⟨rfl, hw⟩; have X3 := Lib.hid (show Ext W0 W3 by rw [← hw]; exact X2.out.trans (Ext.alloc _ _)); clear hw X2; rw [HZ.out]; refine Hid.out ?_)
  refine Lib.hid ?_
  have BR := Lib.hid (K1.out.ext X3.out)
  have B0 := Lib.hid (K0.out.ext X3.out)
  clear K0 K1
  obtain ⟨b, o, rfl, hb, hc⟩ := row_at (HA.out.ext (E0.out.trans X3.out)) HX0.out
  have p3 := hc 3 _ rfl
  simp only [Nat.zero_mul, Nat.add_zero] at p3
  have y0 : W3.cell? ⟨w.heap.size, 0, none⟩ = some (.slice (some ⟨b, o, none⟩) n ca) := B0.out.cell 0
  clear hc hb
  have HCV := Lib.hid (fun W => curvesOf_any (A := some ⟨b, o, none⟩) (n := n) (ca := ca) W)
  go_wp2_with (go_at_call 84; refine (HCV.out _).mono ?_; rintro e W4 ⟨tb, rfl, hbt, hx⟩; have BT := Lib.hid hbt; have X4 := Lib.hid (X3.out.trans hx); have BR := Lib.hid (BR.out.ext hx); have B0 := Lib.hid (B0.out.ext hx); clear hx hbt p3 y0; refine Hid.out ?_)
  refine Lib.hid ?_
  have y0 : W4.cell? ⟨w.heap.size, 0, none⟩ = some (.slice (some ⟨b, o, none⟩) n ca) := B0.out.cell 0
  go_wp2_with (go_at_call 86; refine (HU.out tb _ (E0.out.trans X4.out) BT.out).mono ?_; rintro e W5 ⟨rfl, hx⟩; have X5 := Lib.hid (X4.out.trans (hx.trans (Ext.alloc W5 (.cells #[.int .i64 0, .int .i64 0] 32)))); have BR := Lib.hid ((BR.out.ext hx).alloc (.cells #[.int .i64 0, .int .i64 0] 32)); clear hx y0; refine Hid.out ?_)
  refine Lib.hid ?_
  have f0 := BR.out.free 0
  have c0 : (W5.alloc (.cells #[.int .i64 0, .int .i64 0] 32)).cell? ⟨w.heap.size + 1, 0, none⟩ = some (.int .i64 0) := BR.out.cell 0
  have f1 := BR.out.free 1
  have c1 : (W5.alloc (.cells #[.int .i64 0, .int .i64 0] 32)).cell? ⟨w.heap.size + 1, 1, none⟩ = some (.int .i64 0) := BR.out.cell 1
  have f2 := BR.out.free 2
  have c2 : (W5.alloc (.cells #[.int .i64 0, .int .i64 0] 32)).cell? ⟨w.heap.size + 1, 2, none⟩ = some (.int .i64 0) := BR.out.cell 2
  have f3 := BR.out.free 3
  have c3 : (W5.alloc (.cells #[.int .i64 0, .int .i64 0] 32)).cell? ⟨w.heap.size + 1, 3, none⟩ = some (.int .i64 0) := BR.out.cell 3
  clear BR B0 BT
  go_wp2
  exact bodyPost_ret (v := .tuple #[.agg #[.int .i64 0, .int .i64 0, .int .i64 0, .int .i64 0], .int .i64 21]) (by simp [results, Try.f18, go_sem, c0, c1, c2, c3]) rfl ⟨rfl, (Ext.set (Ext.set (Ext.set (Ext.set (E0.out.trans X5.out) (by dsimp only; omega) _) (by dsimp only; omega) _) (by dsimp only; omega) _) (by dsimp only; omega) _)⟩

set_option maxRecDepth 100000 in
set_option maxHeartbeats 1000000 in
theorem caseOf_ok {A : Option Addr} {n ca : Nat} {xs : List In} {w : World} (l : Int) (hn : xs.length = n) (hA : RowsAt 4 In.enc w A xs) {lo hi : Int × Int} (hz : caseE xs l = 0) (hh : ¬ (xs.getD 0 default).hi < l) (hf : fallK (upP xs) l n 0 = some hi) (hg : fallK (loP xs) l n 0 = some lo) :
    Calls Try.prog 18 #[.agg #[.slice A n ca], .int .i64 l] w fun e w' => e = .returned (.tuple #[.agg #[.int .i64 lo.1, .int .i64 lo.2, .int .i64 hi.1, .int .i64 hi.2], .int .i64 0]) ∧ Ext w w' := by
  have HTE := Lib.hid (fun W (e : Ext w W) => traverseError_any (ca := ca) hn (hA.ext e))
  have HZ := Lib.hid (show firstE [(checkT xs).2, rangeE 0 2000 [l]] = 0 from hz)
  obtain ⟨m2, m20, hok⟩ := checkT_ok (firstE_zero hz (checkT xs).2 (by simp))
  obtain ⟨l0, l1⟩ := rangeE_zeros (firstE_zero hz (rangeE 0 2000 [l]) (by simp)) l (by simp)
  rw [hn] at m2 m20
  have HA := Lib.hid hA
  have HN := Lib.hid hn
  have HOK := Lib.hid hok
  have hn0 : 0 < n := by omega
  obtain ⟨x, hx0⟩ : ∃ x, xs[0]? = some x := ⟨_, List.getElem?_eq_getElem (by omega)⟩
  have HX0 := Lib.hid hx0
  have hh2 : ¬ x.hi < l := by simpa [hx0] using hh
  have hU : ∀ (i : Nat) (p : Int × Int), (upP xs)[i]? = some p → 0 ≤ p.1 ∧ p.1 ≤ 10000 ∧ 0 ≤ p.2 ∧ p.2 ≤ 2000 := fun i p h => by
    simp only [upP, List.getElem?_map, Option.map_eq_some_iff] at h
    obtain ⟨y, hy, rfl⟩ := h
    have := hok i y hy
    exact ⟨by dsimp only; omega, by dsimp only; omega, by dsimp only; omega, by dsimp only; omega⟩
  have hL : ∀ (i : Nat) (p : Int × Int), (loP xs)[i]? = some p → 0 ≤ p.1 ∧ p.1 ≤ 10000 ∧ 0 ≤ p.2 ∧ p.2 ≤ 2000 := fun i p h => by
    simp only [loP, List.getElem?_map, Option.map_eq_some_iff] at h
    obtain ⟨y, hy, rfl⟩ := h
    have := hok i y hy
    exact ⟨by dsimp only; omega, by dsimp only; omega, by dsimp only; omega, by dsimp only; omega⟩
  have HU := Lib.hid (fun (tb : Nat) (W : World) (e : Ext w W) (hb : Blk W tb 24 #[.slice A n ca]) => fall120_any (ps := upP xs) (l := l) (n := n) (w := W) (cp := #[.pointer (some ⟨tb, 0, none⟩)]) (by simp [upP, hn]) (by omega) ⟨l0, l1⟩ hU (fun i p W2 hp e2 => by
    simp only [upP, List.getElem?_map, Option.map_eq_some_iff] at hp
    obtain ⟨y, hy, rfl⟩ := hp
    exact clos120_any hn (hA.ext (e.trans e2)) ((hb.ext e2).cell 0) hy))
  have HL := Lib.hid (fun (tb : Nat) (W : World) (e : Ext w W) (hb : Blk W tb 24 #[.slice A n ca]) => fall119_any (ps := loP xs) (l := l) (n := n) (w := W) (cp := #[.pointer (some ⟨tb, 0, none⟩)]) (by simp [loP, hn]) (by omega) ⟨l0, l1⟩ hL (fun i p W2 hp e2 => by
    simp only [loP, List.getElem?_map, Option.map_eq_some_iff] at hp
    obtain ⟨y, hy, rfl⟩ := hp
    exact clos119_any hn (hA.ext (e.trans e2)) ((hb.ext e2).cell 0) hy))
  clear hU hL
  rw [hf] at HU
  rw [hg] at HL
  clear hn hA hz hok hx0 hh hf hg
  obtain ⟨W0, hW0⟩ : ∃ W0, W0 = (w.alloc (.cells #[.slice A n ca] 24)).alloc (.cells #[.int .i64 0, .int .i64 0, .int .i64 0, .int .i64 0] 34) := ⟨_, rfl⟩
  have k0 : Blk W0 w.heap.size 24 #[.slice A n ca] := by rw [hW0]; exact (Blk.new _ _ _).alloc _
  have k1 : Blk W0 (w.heap.size + 1) 34 #[.int .i64 0, .int .i64 0, .int .i64 0, .int .i64 0] := by rw [hW0]; exact Blk.newAt _ _ _ (by simp)
  have E0 := Lib.hid (show Ext w W0 by rw [hW0]; exact (Ext.alloc _ _).trans (Ext.alloc _ _))
  have y0 : W0.cell? ⟨w.heap.size, 0, none⟩ = some (.slice A n ca) := k0.cell 0
  have K0 := Lib.hid k0
  have K1 := Lib.hid k1
  clear k0 k1
  go_enter Try.func18, Try.ntmps18
  go_wp2_with (fail)
  rw [← hW0]
  clear hW0
  go_wp2_with (go_at_call 83; refine (HTE.out _ E0.out).mono ?_; rintro e W1 ⟨rfl, hx⟩; have X1 := Lib.hid hx; clear hx y0; refine Hid.out ?_)
  refine Lib.hid ?_
  go_wp2_with (go_at_call 79; refine (rangeError_any 0 2000 _ [l] _ (ints_new _ [l] _ (by simp))).mono ?_; rintro e W2 ⟨rfl, hx⟩; have X2 := Lib.hid (X1.out.trans ((Ext.alloc _ _).trans hx)); clear hx X1; refine Hid.out ?_)
  refine Lib.hid ?_
  go_wp2_with (go_at_call 78; refine (firstOf_any _ [(checkT xs).2, rangeE 0 2000 [l]] _ (ints_new _ [_, _] _ (by simp))).mono ?_; rintro e W3 ⟨rfl, hw⟩; have X3 := Lib.hid (show Ext W0 W3 by rw [← hw]; exact X2.out.trans (Ext.alloc _ _)); clear hw X2; rw [HZ.out]; refine Hid.out ?_)
  refine Lib.hid ?_
  have BR := Lib.hid (K1.out.ext X3.out)
  have B0 := Lib.hid (K0.out.ext X3.out)
  clear K0 K1
  obtain ⟨b, o, rfl, hb, hc⟩ := row_at (HA.out.ext (E0.out.trans X3.out)) HX0.out
  have p3 := hc 3 _ rfl
  simp only [Nat.zero_mul, Nat.add_zero] at p3
  have y0 : W3.cell? ⟨w.heap.size, 0, none⟩ = some (.slice (some ⟨b, o, none⟩) n ca) := B0.out.cell 0
  clear hc hb
  have HCV := Lib.hid (fun W => curvesOf_any (A := some ⟨b, o, none⟩) (n := n) (ca := ca) W)
  go_wp2_with (go_at_call 84; refine (HCV.out _).mono ?_; rintro e W4 ⟨tb, rfl, hbt, hx⟩; have BT := Lib.hid hbt; have X4 := Lib.hid (X3.out.trans hx); have BR := Lib.hid (BR.out.ext hx); have B0 := Lib.hid (B0.out.ext hx); clear hx hbt p3 y0; refine Hid.out ?_)
  refine Lib.hid ?_
  have y0 : W4.cell? ⟨w.heap.size, 0, none⟩ = some (.slice (some ⟨b, o, none⟩) n ca) := B0.out.cell 0
  go_wp2_with (go_at_call 86; refine (HU.out tb _ (E0.out.trans X4.out) BT.out).mono ?_; rintro e W5 ⟨rfl, hx⟩; have X5 := Lib.hid (X4.out.trans (hx.trans (Ext.alloc W5 (.cells #[.int .i64 hi.1, .int .i64 hi.2] 32)))); have BR := Lib.hid ((BR.out.ext hx).alloc (.cells #[.int .i64 hi.1, .int .i64 hi.2] 32)); have B0 := Lib.hid ((B0.out.ext hx).alloc (.cells #[.int .i64 hi.1, .int .i64 hi.2] 32)); have BT := Lib.hid ((BT.out.ext hx).alloc (.cells #[.int .i64 hi.1, .int .i64 hi.2] 32)); have BH := Lib.hid (Blk.new W5 32 #[.int .i64 hi.1, .int .i64 hi.2]); clear hx y0; refine Hid.out ?_)
  refine Lib.hid ?_
  have y0 : (W5.alloc (.cells #[.int .i64 hi.1, .int .i64 hi.2] 32)).cell? ⟨w.heap.size, 0, none⟩ = some (.slice (some ⟨b, o, none⟩) n ca) := B0.out.cell 0
  go_wp2_with (go_at_call 86; refine (HL.out tb _ (E0.out.trans X5.out) BT.out).mono ?_; rintro e W6 ⟨rfl, hx⟩; have X6 := Lib.hid (X5.out.trans (hx.trans (Ext.alloc W6 (.cells #[.int .i64 lo.1, .int .i64 lo.2] 32)))); have BR := Lib.hid ((BR.out.ext hx).alloc (.cells #[.int .i64 lo.1, .int .i64 lo.2] 32)); have BH := Lib.hid ((BH.out.ext hx).alloc (.cells #[.int .i64 lo.1, .int .i64 lo.2] 32)); clear hx y0; refine Hid.out ?_)
  refine Lib.hid ?_
  have h0 : (W6.alloc (.cells #[.int .i64 lo.1, .int .i64 lo.2] 32)).cell? ⟨W5.heap.size, 0, none⟩ = some (.int .i64 hi.1) := BH.out.cell 0
  have h1 : (W6.alloc (.cells #[.int .i64 lo.1, .int .i64 lo.2] 32)).cell? ⟨W5.heap.size, 1, none⟩ = some (.int .i64 hi.2) := BH.out.cell 1
  have f0 := BR.out.free 0
  have c0 : (W6.alloc (.cells #[.int .i64 lo.1, .int .i64 lo.2] 32)).cell? ⟨w.heap.size + 1, 0, none⟩ = some (.int .i64 0) := BR.out.cell 0
  have f1 := BR.out.free 1
  have c1 : (W6.alloc (.cells #[.int .i64 lo.1, .int .i64 lo.2] 32)).cell? ⟨w.heap.size + 1, 1, none⟩ = some (.int .i64 0) := BR.out.cell 1
  have f2 := BR.out.free 2
  have c2 : (W6.alloc (.cells #[.int .i64 lo.1, .int .i64 lo.2] 32)).cell? ⟨w.heap.size + 1, 2, none⟩ = some (.int .i64 0) := BR.out.cell 2
  have f3 := BR.out.free 3
  have c3 : (W6.alloc (.cells #[.int .i64 lo.1, .int .i64 lo.2] 32)).cell? ⟨w.heap.size + 1, 3, none⟩ = some (.int .i64 0) := BR.out.cell 3
  clear BR B0 BT BH
  go_wp2
  exact bodyPost_ret (v := .tuple #[.agg #[.int .i64 lo.1, .int .i64 lo.2, .int .i64 hi.1, .int .i64 hi.2], .int .i64 0]) (by simp [results, Try.f18, go_sem, c0, c1, c2, c3]) rfl ⟨rfl, (Ext.set (Ext.set (Ext.set (Ext.set (E0.out.trans X6.out) (by dsimp only; omega) _) (by dsimp only; omega) _) (by dsimp only; omega) _) (by dsimp only; omega) _)⟩


end Go.Proofs.Ytmddnpagfgilcaa
