/- Shafts after strokes. -/
import Derived.Test.YtjdilmmpdlcimaaGreatC6
import Derived.Lib.MinMax
import Derived.Deep.DeepCutAuto

namespace Go.Proofs.YtjdilmmpdlcimaaGreat
open Go.RowKit Go.Shelf Go.Mem Go.RegInv
attribute [local go_sem] RelUpon_value RelUpon_skip RelUpon_enter BigFrame.eval_const BigFrame.eval_global BigFrame.eval_func


set_option maxRecDepth 100000 in
set_option maxHeartbeats 1000000 in
theorem bentOf_any {P : Option Addr} {np cp pb : Nat} {sp ga li : Int} {x : Sk} {w : World} (h1 : 0 ≤ sp ∧ sp ≤ 10000) (h2 : 0 ≤ ga ∧ ga ≤ 1000) (h3 : 0 ≤ x.a ∧ x.a ≤ 10000) (q0 : w.cell? ⟨pb, 0, none⟩ = some (.slice P np cp)) (q1 : w.cell? ⟨pb, 1, none⟩ = some (.int .i64 sp)) (q2 : w.cell? ⟨pb, 2, none⟩ = some (.int .i64 ga)) (q3 : w.cell? ⟨pb, 3, none⟩ = some (.int .i64 li)) :
    Calls Tryz.prog 93 #[.agg #[.int .i64 x.j, .int .i64 x.a, .bool x.u], .pointer (some ⟨pb, 0, none⟩)] w fun e w' => e = .returned (.int .i64 (bentV ga sp x)) ∧ Ext w w' := by
  have HB := Lib.hid (fun W => bentBy_any (P := P) (np := np) (cp := cp) (li := li) (x := x) W h1 h2 h3)
  clear h1 h2 h3
  generalize bentV ga sp x = z at *
  obtain ⟨W0, hW0⟩ : ∃ W0, W0 = w.alloc (.cells #[.int .i64 x.j, .int .i64 x.a, .bool x.u] 68) := ⟨_, rfl⟩
  have K0 := Lib.hid (show Blk W0 (w.heap.size) 68 #[.int .i64 x.j, .int .i64 x.a, .bool x.u] by rw [hW0]; exact Blk.new _ _ _)
  have E0 := Lib.hid (show Ext w W0 by rw [hW0]; exact Ext.alloc _ _)
  have y0_0 : W0.cell? ⟨w.heap.size, 0, none⟩ = some (.int .i64 x.j) := K0.out.cell 0
  have y0_1 : W0.cell? ⟨w.heap.size, 1, none⟩ = some (.int .i64 x.a) := K0.out.cell 1
  have y0_2 : W0.cell? ⟨w.heap.size, 2, none⟩ = some (.bool x.u) := K0.out.cell 2
  have t0 := E0.out.cell q0
  have t1 := E0.out.cell q1
  have t2 := E0.out.cell q2
  have t3 := E0.out.cell q3
  clear q0 q1 q2 q3
  go_enter Tryz.func93, Tryz.ntmps93
  go_upto_region 1 with (fail)
  rw [← hW0]
  clear hW0
  go_wp2_with (go_at_call 94; refine (HB.out _).mono ?_; rintro e W1 ⟨rfl, hx⟩; have X := Lib.hid (E0.out.trans hx); clear hx)
  go_ret
  exact ⟨rfl, X.out⟩
set_option maxRecDepth 100000 in
set_option maxHeartbeats 1000000 in
theorem bentKink_any {n k q tb : Nat} {x : Rg} {b : Int} {w : World} (hk : k < n) (hx1 : -1000000000 ≤ x.1 ∧ x.1 ≤ 1000000000) (hx2 : -1000000000 ≤ x.2 ∧ x.2 ≤ 1000000000) (hb : -1000000000 ≤ b ∧ b ≤ 1000000000)
    (ht : w.cell? ⟨tb, 0, none⟩ = some (.slice (some ⟨q, 0, none⟩) n n)) (hq : w.cell? ⟨q, k, none⟩ = some (.int .i64 b)) :
    Calls Tryz.prog 96 #[.int .i64 (k : Int), .agg #[.int .i64 x.1, .int .i64 x.2], .pointer (some ⟨tb, 0, none⟩)] w fun e w' => e = .returned (.agg #[.int .i64 (x.1 + b), .int .i64 (x.2 + b)]) ∧ Ext w w' := by
  obtain ⟨W0, hW0⟩ : ∃ W0, W0 = (w.alloc (.cells #[.int .i64 x.1, .int .i64 x.2] 49)).alloc (.cells #[.int .i64 0, .int .i64 0] 49) := ⟨_, rfl⟩
  have K0 := Lib.hid (show Blk W0 (w.heap.size) 49 #[.int .i64 x.1, .int .i64 x.2] by rw [hW0]; exact (Blk.new _ _ _).alloc _)
  have K1 := Lib.hid (show Blk W0 (w.heap.size + 1) 49 #[.int .i64 0, .int .i64 0] by rw [hW0]; exact Blk.newAt _ _ _ (by simp))
  have E0 := Lib.hid (show Ext w W0 by rw [hW0]; exact (Ext.alloc _ _).trans (Ext.alloc _ _))
  have y0_0 : W0.cell? ⟨w.heap.size, 0, none⟩ = some (.int .i64 x.1) := K0.out.cell 0
  have y0_1 : W0.cell? ⟨w.heap.size, 1, none⟩ = some (.int .i64 x.2) := K0.out.cell 1
  have y1_0 : W0.cell? ⟨w.heap.size + 1, 0, none⟩ = some (.int .i64 0) := K1.out.cell 0
  have y1_1 : W0.cell? ⟨w.heap.size + 1, 1, none⟩ = some (.int .i64 0) := K1.out.cell 1
  have t0 := E0.out.cell ht
  have t1 := E0.out.cell hq
  clear ht hq
  go_enter Tryz.func96, Tryz.ntmps96
  go_wp2
  rw [← hW0]
  clear hW0
  go_wp2
  refine wp_region_part 15 [some 6, some 7, some 8, some 9, some 10, some 11, some 12, some 13, some 14, some 15, some 16, some 17, some 18, some 19, some 20] [[4], [6], [2], [0], [8, 9], [10], [7, 11], [4], [13], [2], [0], [15, 16], [17], [14, 18], [12, 19]]
    [Is (.pointer (some ⟨w.heap.size, 0, none⟩)), Is (.int .i64 (x.1)), Is (.slice (some ⟨q, 0, none⟩) n n), Is (.int .i64 ((k : Int))), Is (.pointer (some ⟨q, k, none⟩)), Is (.int .i64 (b)), Is (.int .i64 (x.1 + b)), Is (.pointer (some ⟨w.heap.size, 1, none⟩)), Is (.int .i64 (x.2)), Is (.slice (some ⟨q, 0, none⟩) n n), Is (.int .i64 ((k : Int))), Is (.pointer (some ⟨q, k, none⟩)), Is (.int .i64 (b)), Is (.int .i64 (x.2 + b)), Is (.agg #[.int .i64 (x.1 + b), .int .i64 (x.2 + b)])]
    (by kernel_rfl) (by kernel_rfl) (by kernel_rfl) (by kernel_rfl) (by kernel_rfl) (by kernel_rfl) (by kernel_rfl) Ext (fun W => Ext W0 W)
    (fun W _ => Ext.refl W) (fun W W' h k => h.trans k) ?_ (Ext.drew _) ?_ ?_
  · repeat (refine ⟨fun _ _ _ _ k h => (by first | exact h | exact (IntsAt.ext h k)), ?_⟩)
    exact trivial
  · refine ⟨?_, ?_, ?_, ?_, ?_, ?_, ?_, ?_, ?_, ?_, ?_, ?_, ?_, ?_, ?_, trivial⟩
    all_goals intro ρ W ⟨kc, kg, kf⟩ hF hs
    · obtain ⟨h0, -⟩ := hs
      replace h0 : ρ (.tmp 4) = .pointer (some ⟨w.heap.size, 0, none⟩) := h0
      go_simp
      exact ⟨Ext.refl _, rfl⟩
    · obtain ⟨h0, -⟩ := hs
      replace h0 : ρ (.tmp 6) = .pointer (some ⟨w.heap.size, 0, none⟩) := h0
      have hc0 : W.cell? ⟨w.heap.size, 0, none⟩ = some (.int .i64 (x.1)) := hF.cell (by assumption)
      go_simp
      exact ⟨Ext.refl _, rfl⟩
    · obtain ⟨h0, -⟩ := hs
      replace h0 : ρ (.tmp 2) = .pointer (some ⟨tb, 0, none⟩) := h0
      have hc0 : W.cell? ⟨tb, 0, none⟩ = some (.slice (some ⟨q, 0, none⟩) n n) := hF.cell (by assumption)
      go_simp
      exact ⟨Ext.refl _, rfl⟩
    · obtain ⟨h0, -⟩ := hs
      replace h0 : ρ (.tmp 0) = .int .i64 ((k : Int)) := h0
      go_simp
      exact ⟨Ext.refl _, rfl⟩
    · obtain ⟨h0, h1, -⟩ := hs
      replace h0 : ρ (.tmp 8) = .slice (some ⟨q, 0, none⟩) n n := h0
      replace h1 : ρ (.tmp 9) = .int .i64 ((k : Int)) := h1
      have hki : (k : Int) < (n : Int) := by omega
      go_simp
      exact ⟨Ext.refl _, rfl⟩
    · obtain ⟨h0, -⟩ := hs
      replace h0 : ρ (.tmp 10) = .pointer (some ⟨q, k, none⟩) := h0
      have hc0 : W.cell? ⟨q, k, none⟩ = some (.int .i64 (b)) := hF.cell (by assumption)
      go_simp
      exact ⟨Ext.refl _, rfl⟩
    · obtain ⟨h0, h1, -⟩ := hs
      replace h0 : ρ (.tmp 7) = .int .i64 (x.1) := h0
      replace h1 : ρ (.tmp 11) = .int .i64 (b) := h1
      have hw : IntKind.i64.wrap (x.1 + b) = x.1 + b := wrap_id _ (by omega) (by omega)
      go_simp
      exact ⟨Ext.refl _, rfl⟩
    · obtain ⟨h0, -⟩ := hs
      replace h0 : ρ (.tmp 4) = .pointer (some ⟨w.heap.size, 0, none⟩) := h0
      go_simp
      exact ⟨Ext.refl _, rfl⟩
    · obtain ⟨h0, -⟩ := hs
      replace h0 : ρ (.tmp 13) = .pointer (some ⟨w.heap.size, 1, none⟩) := h0
      have hc0 : W.cell? ⟨w.heap.size, 1, none⟩ = some (.int .i64 (x.2)) := hF.cell (by assumption)
      go_simp
      exact ⟨Ext.refl _, rfl⟩
    · obtain ⟨h0, -⟩ := hs
      replace h0 : ρ (.tmp 2) = .pointer (some ⟨tb, 0, none⟩) := h0
      have hc0 : W.cell? ⟨tb, 0, none⟩ = some (.slice (some ⟨q, 0, none⟩) n n) := hF.cell (by assumption)
      go_simp
      exact ⟨Ext.refl _, rfl⟩
    · obtain ⟨h0, -⟩ := hs
      replace h0 : ρ (.tmp 0) = .int .i64 ((k : Int)) := h0
      go_simp
      exact ⟨Ext.refl _, rfl⟩
    · obtain ⟨h0, h1, -⟩ := hs
      replace h0 : ρ (.tmp 15) = .slice (some ⟨q, 0, none⟩) n n := h0
      replace h1 : ρ (.tmp 16) = .int .i64 ((k : Int)) := h1
      have hki : (k : Int) < (n : Int) := by omega
      go_simp
      exact ⟨Ext.refl _, rfl⟩
    · obtain ⟨h0, -⟩ := hs
      replace h0 : ρ (.tmp 17) = .pointer (some ⟨q, k, none⟩) := h0
      have hc0 : W.cell? ⟨q, k, none⟩ = some (.int .i64 (b)) := hF.cell (by assumption)
      go_simp
      exact ⟨Ext.refl _, rfl⟩
    · obtain ⟨h0, h1, -⟩ := hs
      replace h0 : ρ (.tmp 14) = .int .i64 (x.2) := h0
      replace h1 : ρ (.tmp 18) = .int .i64 (b) := h1
      have hw : IntKind.i64.wrap (x.2 + b) = x.2 + b := wrap_id _ (by omega) (by omega)
      go_simp
      exact ⟨Ext.refl _, rfl⟩
    · obtain ⟨h0, h1, -⟩ := hs
      replace h0 : ρ (.tmp 12) = .int .i64 (x.1 + b) := h0
      replace h1 : ρ (.tmp 19) = .int .i64 (x.2 + b) := h1
      go_simp
      exact ⟨Ext.refl _, rfl⟩
  · intro fv W hF hs
    obtain ⟨-, -, -, -, -, -, -, -, -, -, -, -, -, -, h20, -⟩ := hs
    replace h20 : fv 20 = .agg #[.int .i64 (x.1 + b), .int .i64 (x.2 + b)] := h20
    simp only [fin, List.filterMap]
    go_simp
    replace K1 := Lib.hid (K1.out.ext hF)
    clear y1_0 y1_1
    have u0 : W.cell? ⟨w.heap.size + 1, 0, none⟩ = some (.int .i64 0) := K1.out.cell 0
    have u1 : W.cell? ⟨w.heap.size + 1, 1, none⟩ = some (.int .i64 0) := K1.out.cell 1
    have f0 := K1.out.free 0
    have f1 := K1.out.free 1
    go_wp2
    exact bodyPost_ret (v := .agg #[.int .i64 (x.1 + b), .int .i64 (x.2 + b)]) (by simp [results, Tryz.f96, go_sem, u0, u1]) rfl ⟨rfl, Ext.set (Ext.set (E0.out.trans hF) (by dsimp only; omega) _) (by dsimp only; omega) _⟩
def kinkE (x : Rg) : Int := rangeE (-100000) 100000 [x.1, x.2]
set_option maxRecDepth 100000 in
set_option maxHeartbeats 1000000 in
theorem kinkErr_any (i : Int) (x : Rg) (w : World) : Calls Tryz.prog 98 #[.int .i64 i, .agg #[.int .i64 x.1, .int .i64 x.2]] w fun e w' => e = .returned (.int .i64 (kinkE x)) ∧ Ext w w' := by
  have HE := Lib.hid (show kinkE x = rangeE (-100000) 100000 [x.1, x.2] from rfl)
  generalize kinkE x = z at *
  obtain ⟨W0, hW0⟩ : ∃ W0, W0 = w.alloc (.cells #[.int .i64 x.1, .int .i64 x.2] 49) := ⟨_, rfl⟩
  have K0 := Lib.hid (show Blk W0 (w.heap.size) 49 #[.int .i64 x.1, .int .i64 x.2] by rw [hW0]; exact Blk.new _ _ _)
  have E0 := Lib.hid (show Ext w W0 by rw [hW0]; exact Ext.alloc _ _)
  have y0_0 : W0.cell? ⟨w.heap.size, 0, none⟩ = some (.int .i64 x.1) := K0.out.cell 0
  have y0_1 : W0.cell? ⟨w.heap.size, 1, none⟩ = some (.int .i64 x.2) := K0.out.cell 1
  go_enter Tryz.func98, Tryz.ntmps98
  go_upto_region 1 with (fail)
  rw [← hW0]
  clear hW0
  go_wp2_with (go_at_call 42; refine (sizeError_any 100000 (by omega) _ [_, _] _ (ints_new _ [_, _] _ (by simp))).mono ?_; rintro e W1 ⟨rfl, hx⟩; have X := Lib.hid (E0.out.trans ((Ext.alloc _ _).trans hx)); clear hx)
  go_ret
  exact ⟨ret_int HE.out.symm, X.out⟩

/-- The kinks after strokes, and their error. -/
def aftF (ga sp : Int) (l : List Sk) (k : Nat) (x : Rg) : Rg := (x.1 + sumK (bentV ga sp) l (k : Int) l.length, x.2 + sumK (bentV ga sp) l (k : Int) l.length)
def aftK (ga sp : Int) (l : List Sk) (ks : List Rg) (n : Nat) : List Rg := kinkL (aftF ga sp l) ks n
def aftAt (ga sp : Int) (l : List Sk) (ks : List Rg) (n i : Nat) : Int := kinkE ((aftK ga sp l ks n).getD i default)
def aftE (ga sp : Int) (l : List Sk) (ks : List Rg) (n : Nat) : Int := (firstAt (aftAt ga sp l ks n) n 0).2
/-- Strokes that a press can make at a shaft's joints. -/
def PlOK (n : Nat) (am : List Int) (l : List Sk) : Prop := l.length ≤ 4 ∧ ∀ k, k < l.length → 0 ≤ (l.getD k default).j ∧ (l.getD k default).j < n ∧ hasB am (l.getD k default).a = true
theorem bentV_bd {ga sp : Int} {x : Sk} (h1 : 0 ≤ sp ∧ sp ≤ 10000) (h2 : 0 ≤ ga ∧ ga ≤ 1000) (h3 : 0 ≤ x.a ∧ x.a ≤ 10000) : -10000000 ≤ bentV ga sp x ∧ bentV ga sp x ≤ 10000000 := by
  have := kinkV_bd h1 h2 h3
  unfold bentV
  split <;> omega
def AftC (base : Nat) (L : Int) (js : List Int) (ks : List Rg) (n : Nat) (z : Int) (v : Value) (W : World) : Prop := if z = 0 then ShC base L js ks n n v W else v = .agg #[.int .i64 0, .slice none 0 0, .slice none 0 0]
set_option maxRecDepth 100000 in
set_option maxHeartbeats 1000000 in
theorem after_any {L : Int} {J K : Option Addr} {n cj ck : Nat} {js : List Int} {ks : List Rg} {w : World} (hn : js.length = n) (hJ : RowsAt 1 I1 w J js) (hm : ks.length = n) (hK : RowsAt 2 Rg.enc w K ks) {P : Option Addr} {np cp : Nat} {am : List Int} {sp ga li : Int} {A : Option Addr} {N ca : Nat} {l : List Sk} (hjn : J = none → cj = 0) (hs : ShOK L js ks) (hp : PrOK am sp ga li) (hN : l.length = N) (hA : RowsAt 3 Sk.enc w A l) (hl : PlOK n am l) :
    Calls Tryz.prog 81 #[.agg #[.int .i64 L, .slice J n cj, .slice K n ck], .agg #[.slice P np cp, .int .i64 sp, .int .i64 ga, .int .i64 li], .slice A N ca] w fun e w' => ∃ v, e = .returned (.tuple #[v, .int .i64 (aftE ga sp l ks n)]) ∧ AftC w.heap.size L js (aftK ga sp l ks n) n (aftE ga sp l ks n) v w' ∧ Ext w w' := by
  have hn4 : n ≤ 4 := by have := hs.four; omega
  have ha : ∀ k, k < N → 0 ≤ (l.getD k default).a ∧ (l.getD k default).a ≤ 10000 := fun k hk => by
    obtain ⟨i, hi, he⟩ := hasB_ok (hl.2 k (by omega)).2.2
    have := hp.am1 i hi
    omega
  have HB := Lib.hid (fun k (hk : k < N) => bentV_bd (x := l.getD k default) hp.sp1 hp.ga1 (ha k hk))
  obtain ⟨W0, hW0⟩ : ∃ W0, W0 = ((w.alloc (.cells #[.int .i64 L, .slice J n cj, .slice K n ck] 75)).alloc (.cells #[.slice P np cp, .int .i64 sp, .int .i64 ga, .int .i64 li] 27)).alloc (.cells #[.int .i64 0, .slice none 0 0, .slice none 0 0] 75) := ⟨_, rfl⟩
  have K0 := Lib.hid (show Blk W0 (w.heap.size) 75 #[.int .i64 L, .slice J n cj, .slice K n ck] by rw [hW0]; exact ((Blk.new _ _ _).alloc _).alloc _)
  have K1 := Lib.hid (show Blk W0 (w.heap.size + 1) 27 #[.slice P np cp, .int .i64 sp, .int .i64 ga, .int .i64 li] by rw [hW0]; exact (Blk.newAt _ _ _ (by simp)).alloc _)
  have K2 := Lib.hid (show Blk W0 (w.heap.size + 1 + 1) 75 #[.int .i64 0, .slice none 0 0, .slice none 0 0] by rw [hW0]; exact Blk.newAt _ _ _ (by simp))
  have E0 := Lib.hid (show Ext w W0 by rw [hW0]; exact ((Ext.alloc _ _).trans (Ext.alloc _ _)).trans (Ext.alloc _ _))
  have y0_0 : W0.cell? ⟨w.heap.size, 0, none⟩ = some (.int .i64 L) := K0.out.cell 0
  have y0_1 : W0.cell? ⟨w.heap.size, 1, none⟩ = some (.slice J n cj) := K0.out.cell 1
  have y0_2 : W0.cell? ⟨w.heap.size, 2, none⟩ = some (.slice K n ck) := K0.out.cell 2
  have y1_0 : W0.cell? ⟨w.heap.size + 1, 0, none⟩ = some (.slice P np cp) := K1.out.cell 0
  have y1_1 : W0.cell? ⟨w.heap.size + 1, 1, none⟩ = some (.int .i64 sp) := K1.out.cell 1
  have y1_2 : W0.cell? ⟨w.heap.size + 1, 2, none⟩ = some (.int .i64 ga) := K1.out.cell 2
  have y1_3 : W0.cell? ⟨w.heap.size + 1, 3, none⟩ = some (.int .i64 li) := K1.out.cell 3
  have y2_0 : W0.cell? ⟨w.heap.size + 1 + 1, 0, none⟩ = some (.int .i64 0) := K2.out.cell 0
  have y2_1 : W0.cell? ⟨w.heap.size + 1 + 1, 1, none⟩ = some (.slice none 0 0) := K2.out.cell 1
  have y2_2 : W0.cell? ⟨w.heap.size + 1 + 1, 2, none⟩ = some (.slice none 0 0) := K2.out.cell 2
  have HSU := Lib.hid (sums_any (w := W0) (L := L) (J := J) (K := K) (n := n) (m := n) (cj := cj) (ck := ck) (ca := ca) (g := 93) (cp := #[.pointer (some ⟨w.heap.size + 1, 0, none⟩)]) (f := bentV ga sp) (by omega) hN (hA.ext E0.out) (by have := hl.1; omega) (fun k hk => ⟨(hl.2 k (by omega)).1, (hl.2 k (by omega)).2.1⟩) (fun k hk => by have := HB.out k hk; omega) (fun args W => by go_simp) (fun k x W hk hx e => bentOf_any (P := P) (np := np) (cp := cp) (li := li) hp.sp1 hp.ga1 (by have := ha k hk; rw [hx] at this; exact this) (e.cell y1_0) (e.cell y1_1) (e.cell y1_2) (e.cell y1_3)))
  have HSB := Lib.hid (fun (j : Int) => sumK_bd (f := bentV ga sp) (l := l) (j := j) (B := 10000000) (by omega) (fun k hk => by have := HB.out k (by omega); omega) l.length (Nat.le_refl _))
  have HKI := Lib.hid (fun W (e : Ext w W) q8 q (h8 : W.cell? ⟨q8, 0, none⟩ = some (.slice (some ⟨q, 0, none⟩) n n)) (hq : ∀ k, k < n → W.cell? ⟨q, k, none⟩ = some (.int .i64 (sumK (bentV ga sp) l (k : Int) N))) => kinked127_any (L := L) (ck := ck) (cp := #[.pointer (some ⟨q8, 0, none⟩)]) (F := aftF ga sp l) hn (hJ.ext e) hm (hK.ext e) hjn (by omega) (fun k x W2 hk hx e2 => by
    have hkk := hs.kink k (by omega)
    rw [hx] at hkk
    have hsb := HSB.out (k : Int)
    have hl4 := hl.1
    have h1 := bentKink_any (x := x) (b := sumK (bentV ga sp) l (k : Int) N) hk (by omega) (by omega) (by rw [← hN]; omega) (e2.cell h8) (e2.cell (hq k hk))
    rw [← hN] at h1
    exact h1))
  have HFE := Lib.hid (fun W K' ck' (h : RowsAt 2 Rg.enc W K' (aftK ga sp l ks n)) => firstError128_129 (A := K') (ca := ck') (cp := #[]) (E := aftAt ga sp l ks n) (show (aftK ga sp l ks n).length = n by simp [aftK, kinkL]) h (fun i x W2 hx _ => by
    have := kinkErr_any (i : Int) x W2
    have hd : (aftK ga sp l ks n).getD i default = x := by simp [hx]
    unfold aftAt
    rw [hd]
    exact this))
  have HE := Lib.hid (show aftE ga sp l ks n = (firstAt (aftAt ga sp l ks n) n 0).2 from rfl)
  have HAK := Lib.hid (show kinkL (aftF ga sp l) ks n = aftK ga sp l ks n from rfl)
  rw [HAK.out] at HKI
  generalize firstAt (aftAt ga sp l ks n) n 0 = fa at *
  generalize aftK ga sp l ks n = ak at *
  generalize aftE ga sp l ks n = ez at *
  clear hn hJ hm hK hjn hs hp hA hl ha HB HSB HAK
  obtain ⟨f1, f2⟩ := fa
  dsimp only at *
  have hez : ez = f2 := HE.out
  subst hez
  go_enter Tryz.func81, Tryz.ntmps81
  go_upto_region 1 with (fail)
  rw [← hW0]
  clear hW0
  go_wp2_with (go_at_call 78; refine HSU.out.mono ?_; rintro e W1 ⟨q, rfl, -, -, hb, hx⟩; have X := Lib.hid (E0.out.trans hx); have KQ := Lib.hid hb; replace K0 := Lib.hid (K0.out.ext hx); replace K2 := Lib.hid (K2.out.ext hx); clear hx hb y0_0 y0_1 y0_2 y1_0 y1_1 y1_2 y1_3 y2_0 y2_1 y2_2; refine Hid.out ?_)
  refine Lib.hid ?_
  clear HSU K1 E0
  obtain ⟨q8, hq8⟩ : ∃ q8, q8 = W1.heap.size := ⟨_, rfl⟩
  obtain ⟨W2, hW2⟩ : ∃ W, W = W1.alloc (.cells #[.slice (some ⟨q, 0, none⟩) n n] 22) := ⟨_, rfl⟩
  have hx2 : Ext W1 W2 := by rw [hW2]; exact Ext.alloc _ _
  have K8 := Lib.hid (show Blk W2 q8 22 #[.slice (some ⟨q, 0, none⟩) n n] by rw [hW2, hq8]; exact Blk.new _ _ _)
  replace X := Lib.hid (X.out.trans hx2)
  replace K0 := Lib.hid (K0.out.ext hx2)
  replace K2 := Lib.hid (K2.out.ext hx2)
  replace KQ := Lib.hid (KQ.out.ext hx2)
  have HC := Lib.hid (HKI.out W2 X.out q8 q (K8.out.cell 0) (fun k hk => (KQ.out.cell k).trans (sumA_get _ _ hk)))
  go_upto_region 2 with (fail)
  rw [← hW2, ← hq8]
  have SZ2 := Lib.hid K2.out.lt
  clear hW2 hq8 hx2 HKI
  have z0 : W2.cell? ⟨w.heap.size, 0, none⟩ = some (.int .i64 L) := K0.out.cell 0
  have z1 : W2.cell? ⟨w.heap.size, 1, none⟩ = some (.slice J n cj) := K0.out.cell 1
  have z2 : W2.cell? ⟨w.heap.size, 2, none⟩ = some (.slice K n ck) := K0.out.cell 2
  go_wp2_with (go_at_call 95; refine HC.out.mono ?_; rintro e W3 ⟨v, rfl, ⟨J', cj', K', ck', rfl, hr1, hr2, hn1, hn2, hb1, hb2⟩, hx⟩; replace X := Lib.hid (X.out.trans hx); replace K2 := Lib.hid (K2.out.ext hx); have R1 := Lib.hid hr1; have R2 := Lib.hid hr2; have N1 := Lib.hid hn1; have N2 := Lib.hid hn2; have B1 := Lib.hid hb1; have B2 := Lib.hid hb2; clear hx hr1 hr2 hn1 hn2 hb1 hb2 z0 z1 z2; refine Hid.out ?_)
  refine Lib.hid ?_
  obtain ⟨q9, hq9⟩ : ∃ q9, q9 = W3.heap.size := ⟨_, rfl⟩
  obtain ⟨W4, hW4⟩ : ∃ W, W = W3.alloc (.cells #[.int .i64 L, .slice J' n cj', .slice K' n ck'] 75) := ⟨_, rfl⟩
  have hx4 : Ext W3 W4 := by rw [hW4]; exact Ext.alloc _ _
  have K9 := Lib.hid (show Blk W4 q9 75 #[.int .i64 L, .slice J' n cj', .slice K' n ck'] by rw [hW4, hq9]; exact Blk.new _ _ _)
  replace X := Lib.hid (X.out.trans hx4)
  replace K2 := Lib.hid (K2.out.ext hx4)
  replace R1 := Lib.hid (R1.out.ext hx4)
  replace R2 := Lib.hid (R2.out.ext hx4)
  go_upto_region 3 with (fail)
  rw [← hW4, ← hq9]
  clear hW4 hq9 hx4 HC K0 KQ K8
  have z2 : W4.cell? ⟨q9, 2, none⟩ = some (.slice K' n ck') := K9.out.cell 2
  go_wp2_with (go_at_call 97; refine (HFE.out _ K' ck' R2.out).mono ?_; rintro e W5 ⟨rfl, hx⟩; replace X := Lib.hid (X.out.trans hx); replace K2 := Lib.hid (K2.out.ext hx); replace K9 := Lib.hid (K9.out.ext hx); replace R1 := Lib.hid (R1.out.ext hx); replace R2 := Lib.hid (R2.out.ext hx); clear hx z2; refine Hid.out ?_)
  refine Lib.hid ?_
  have u0 : W5.cell? ⟨w.heap.size + 1 + 1, 0, none⟩ = some (.int .i64 0) := K2.out.cell 0
  have u1 : W5.cell? ⟨w.heap.size + 1 + 1, 1, none⟩ = some (.slice none 0 0) := K2.out.cell 1
  have u2 : W5.cell? ⟨w.heap.size + 1 + 1, 2, none⟩ = some (.slice none 0 0) := K2.out.cell 2
  have f0 := K2.out.free 0
  have f1' := K2.out.free 1
  have f2' := K2.out.free 2
  by_cases hz : ez = 0
  · have hz2 : (ez != 0) = false := by simp [hz]
    have HZ := Lib.hid hz
    have l0 : W5.cell? ⟨q9, 0, none⟩ = some (.int .i64 L) := K9.out.cell 0
    have l1 : W5.cell? ⟨q9, 1, none⟩ = some (.slice J' n cj') := K9.out.cell 1
    have l2 : W5.cell? ⟨q9, 2, none⟩ = some (.slice K' n ck') := K9.out.cell 2
    clear hz
    go_wp2
    exact bodyPost_ret (v := .tuple #[.agg #[.int .i64 L, .slice J' n cj', .slice K' n ck'], .int .i64 0]) (by simp [results, Tryz.f81, go_sem, u0, u1, u2]) rfl ⟨_, by rw [HZ.out], by rw [AftC, if_pos HZ.out]; exact ⟨_, _, _, _, rfl, (rows_setOther (rows_setOther (rows_setOther R1.out (fun b o hb => by have := B1.out b o hb; have := SZ2.out; dsimp only; omega) _) (fun b o hb => by have := B1.out b o hb; have := SZ2.out; dsimp only; omega) _) (fun b o hb => by have := B1.out b o hb; have := SZ2.out; dsimp only; omega) _), (rows_setOther (rows_setOther (rows_setOther R2.out (fun b o hb => by have := B2.out b o hb; have := SZ2.out; dsimp only; omega) _) (fun b o hb => by have := B2.out b o hb; have := SZ2.out; dsimp only; omega) _) (fun b o hb => by have := B2.out b o hb; have := SZ2.out; dsimp only; omega) _), N1.out, N2.out, fun b o hb => by have := B1.out b o hb; have := SZ2.out; omega, fun b o hb => by have := B2.out b o hb; have := SZ2.out; omega⟩, (Ext.set (Ext.set (Ext.set X.out (by dsimp only; omega) _) (by dsimp only; omega) _) (by dsimp only; omega) _)⟩
  · have hz2 : (ez != 0) = true := by simp [hz]
    have HZ := Lib.hid hz
    clear hz
    go_wp2
    exact bodyPost_ret (v := .tuple #[.agg #[.int .i64 0, .slice none 0 0, .slice none 0 0], .int .i64 ez]) (by simp [results, Tryz.f81, go_sem, u0, u1, u2]) rfl ⟨_, rfl, by rw [AftC, if_neg HZ.out], (Ext.set (Ext.set (Ext.set X.out (by dsimp only; omega) _) (by dsimp only; omega) _) (by dsimp only; omega) _)⟩

end Go.Proofs.YtjdilmmpdlcimaaGreat
