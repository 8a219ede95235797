/- FieldFrequencies: the law's function. By lawgen.py. -/
import Derived.Test.YtpaoeghdfeekoaaK27
import Derived.Test.YtpaoeghdfeekoaaK28
import Derived.Deep.DeepCutAuto
namespace Go.Proofs.Ytpaoeghdfeekoaa
open Go.RowKit Go.Shelf Go.Mem Go.RegInv
attribute [local go_sem] RelUpon_value RelUpon_skip RelUpon_enter BigFrame.eval_const BigFrame.eval_global BigFrame.eval_func

/-- A copy of Booleans. -/
def BlV (hot : List Bool) : Value → World → Prop := fun u W => ∃ B m c, Hid (hot.length = m) ∧ u = .slice B m c ∧ RowsAt 1 boolEnc W B hot
theorem BlV.ext {hot : List Bool} {u : Value} {W W' : World} (h : BlV hot u W) (e : Ext W W') : BlV hot u W' := by
  obtain ⟨A, n, c, h1, h2, h3⟩ := h; exact ⟨A, n, c, h1, h2, h3.ext e⟩
theorem copyBools_V {A : Option Addr} {n ca : Nat} {xs : List Bool} (hn : xs.length = n) {w : World} (ha : RowsAt 1 boolEnc w A xs) (h6 : n ≤ 6) (hnil : A = none → ca = 0) (W : World) (e : Ext w W) :
    Calls Try.prog 60 #[.slice A n ca] W (VPost W (BlV xs)) :=
  (copyBools_any A n ca xs hn W (ha.ext e) h6 hnil).mono fun _ _ ⟨A', c', h1, h2, h3⟩ => ⟨_, h1, h3, A', n, c', Lib.hid hn, rfl, bools_own hn (by omega) h2⟩
/-- The frequency that is found, or the error. -/
def FqV (F0 E0 t : Int) (xs : List Sh) (hot : List Bool) (m : Nat) (pc dep : Int) : Value → World → Prop := fun u _ => u = .int .i64 F0 ∧ FreqIs t xs hot m pc dep F0 E0
theorem freq_ex (t : Int) (xs : List Sh) (hot : List Bool) (m : Nat) (pc dep : Int) : ∃ F0 E0 : Int, ∀ f er, FreqIs t xs hot m pc dep f er → f = F0 ∧ er = E0 := by
  by_cases h : ∃ f er, FreqIs t xs hot m pc dep f er
  · obtain ⟨f, er, h⟩ := h
    exact ⟨f, er, fun _ _ h' => freq_uniq h' h⟩
  · exact ⟨0, 0, fun f er h' => absurd ⟨f, er, h'⟩ h⟩
theorem frequencyFor_V {t : Int} {xs : List Sh} {hot : List Bool} {m : Nat} (hm : hot.length = m) {pc dep F0 E0 : Int} (hu : ∀ f er, FreqIs t xs hot m pc dep f er → f = F0 ∧ er = E0) (W : World) (u v : Value) (h : LadV t xs u W) (k : BlV hot v W) :
    Calls Try.prog 59 #[u, v, .agg #[.int .i64 pc, .int .i64 dep]] W (VPost W (TupV (FqV F0 E0 t xs hot m pc dep) E0)) := by
  obtain ⟨A, n, c, hn, rfl, hl⟩ := h
  obtain ⟨B, m', d, hm', rfl, hd⟩ := k
  obtain rfl : m = m' := hm.symm.trans hm'.out
  refine (frequencyFor_any t A n c xs hn.out B m d hot hm pc dep W hl hd).mono ?_
  rintro e w' ⟨hx, f, er, rfl, hf⟩
  obtain ⟨rfl, rfl⟩ := hu f er hf
  exact ⟨_, rfl, hx, _, rfl, rfl, hf⟩
theorem twoWatts_V {t : Int} {xs : List Sh} {f : Int} {hota : List Bool} {g : Int} {hotb : List Bool} {n m q : Nat} (hn : xs.length = n) (hm : hota.length = m) (hq : hotb.length = q) (a b : Int) (W : World) (u v : Value) (h : LadV t xs u W) (k : PairV f hota g hotb v W) :
    Calls Try.prog 61 #[u, v, .agg #[.int .i64 a, .int .i64 b]] W (VPost W (TupV (Opt (twoE t xs f m g q a b) (.slice none 0 0) (SlV n (twoL (wattsL a (powers f hota xs) n) (wattsL b (powers g hotb xs) n)))) (twoE t xs f m g q a b))) := by
  obtain ⟨A, n', c, hn', rfl, hl⟩ := h
  obtain ⟨B, m', d, D, q', e', hm', hq', rfl, h1, h2⟩ := k
  obtain rfl : n = n' := hn.symm.trans hn'.out
  obtain rfl : m = m' := hm.symm.trans hm'.out
  obtain rfl : q = q' := hq.symm.trans hq'.out
  exact twoWattsPub_any t A n c xs hn f B m d hota hm g D q e' hotb hq a b W hl h1 h2
theorem splitFor_V {t : Int} {xs : List Sh} {f : Int} {hota : List Bool} {g : Int} {hotb : List Bool} {n m q : Nat} (hn : xs.length = n) (hm : hota.length = m) (hq : hotb.length = q) (tot : Int) {rs : List G} (W : World) (u v x : Value) (h : LadV t xs u W) (k : PairV f hota g hotb v W) (l : ShpV tot rs x W) :
    Calls Try.prog 63 #[u, v, x] W (VPost W (TupV (Is (.int .i64 (splitA t xs f hota m g hotb q n tot rs).1)) (splitA t xs f hota m g hotb q n tot rs).2)) := by
  obtain ⟨A, n', c, hn', rfl, hl⟩ := h
  obtain ⟨B, m', d, D, q', e', hm', hq', rfl, h1, h2⟩ := k
  obtain ⟨C, M, cz, hM, rfl, hc⟩ := l
  obtain rfl : n = n' := hn.symm.trans hn'.out
  obtain rfl : m = m' := hm.symm.trans hm'.out
  obtain rfl : q = q' := hq.symm.trans hq'.out
  refine (splitFor_any t A n c xs hn f B m d hota hm g D q e' hotb hq tot C M cz rs hM.out W hl h1 h2 hc).mono ?_
  rintro e w' ⟨v, he, hx, hv⟩
  exact ⟨v, he, hx, _, hv, rfl⟩

set_option maxRecDepth 100000 in
set_option maxHeartbeats 4000000 in
theorem fieldFrequencies_few (t : Int) (A : Option Addr) (n ca : Nat) (f : Int) (B : Option Addr) (m cb : Nat) (g : Int) (D : Option Addr) (q cd : Nat) (pc dep a b tot : Int) (C : Option Addr) (M cz : Nat) (w : World) (h : ¬ (n ≤ 6 ∧ m ≤ 6 ∧ q ≤ 6 ∧ M ≤ 6 ∧ ¬ (150 < tot ∧ tot ≤ 100000))) :
    Calls Try.prog 11 #[.agg #[.int .i64 t, .slice A n ca], .agg #[.int .i64 f, .slice B m cb, .int .i64 g, .slice D q cd], .agg #[.int .i64 pc, .int .i64 dep, .int .i64 a, .int .i64 b, .int .i64 tot, .slice C M cz]] w fun e w' => e = .returned (.bool true) ∧ Ext w w' := by
  have e0 : Ext w (((w.alloc (.cells #[.int .i64 t, .slice A n ca] 24)).alloc (.cells #[.int .i64 f, .slice B m cb, .int .i64 g, .slice D q cd] 96)).alloc (.cells #[.int .i64 pc, .int .i64 dep, .int .i64 a, .int .i64 b, .int .i64 tot, .slice C M cz] 103)) := (Ext.alloc _ _).trans ((Ext.alloc _ _).trans (Ext.alloc _ _))
  have FA := Lib.hid (show ∀ W : World, Ext (((w.alloc (.cells #[.int .i64 t, .slice A n ca] 24)).alloc (.cells #[.int .i64 f, .slice B m cb, .int .i64 g, .slice D q cd] 96)).alloc (.cells #[.int .i64 pc, .int .i64 dep, .int .i64 a, .int .i64 b, .int .i64 tot, .slice C M cz] 103)) W →
      W.cell? ⟨w.heap.size, 0, none⟩ = some (.int .i64 (t)) ∧ W.cell? ⟨w.heap.size, 1, none⟩ = some (.slice A n ca) ∧ W.cell? ⟨w.heap.size + 1, 0, none⟩ = some (.int .i64 (f)) ∧ W.cell? ⟨w.heap.size + 1, 1, none⟩ = some (.slice B m cb) ∧ W.cell? ⟨w.heap.size + 1, 2, none⟩ = some (.int .i64 (g)) ∧ W.cell? ⟨w.heap.size + 1, 3, none⟩ = some (.slice D q cd) ∧ W.cell? ⟨w.heap.size + 1 + 1, 0, none⟩ = some (.int .i64 (pc)) ∧ W.cell? ⟨w.heap.size + 1 + 1, 1, none⟩ = some (.int .i64 (dep)) ∧ W.cell? ⟨w.heap.size + 1 + 1, 2, none⟩ = some (.int .i64 (a)) ∧ W.cell? ⟨w.heap.size + 1 + 1, 3, none⟩ = some (.int .i64 (b)) ∧ W.cell? ⟨w.heap.size + 1 + 1, 4, none⟩ = some (.int .i64 (tot)) ∧ W.cell? ⟨w.heap.size + 1 + 1, 5, none⟩ = some (.slice C M cz) from
    fun W hx => ⟨hx.cell (by go_simp), hx.cell (by go_simp), hx.cell (by go_simp), hx.cell (by go_simp), hx.cell (by go_simp), hx.cell (by go_simp), hx.cell (by go_simp), hx.cell (by go_simp), hx.cell (by go_simp), hx.cell (by go_simp), hx.cell (by go_simp), hx.cell (by go_simp)⟩)
  have E0 := Lib.hid e0
  clear e0
  by_cases n6 : n ≤ 6
  · by_cases m6 : m ≤ 6
    · by_cases q6 : q ≤ 6
      · by_cases M6 : M ≤ 6
        · have ht : 150 < tot ∧ tot ≤ 100000 := by
            by_cases h' : 150 < tot ∧ tot ≤ 100000
            · exact h'
            · exact absurd ⟨n6, m6, q6, M6, h'⟩ h
          have HF1 := Lib.hid (few_yes t A n ca · n6)
          have HF2 := Lib.hid (fewHot_yes f B m cb · m6)
          have HF3 := Lib.hid (fewHot_yes g D q cd · q6)
          have M6' : decide ((6 : Int) < (M : Int)) = false := by simp; omega
          have t1 : decide ((150 : Int) < tot) = true := by simpa using ht.1
          have t2 : decide (tot ≤ (100000 : Int)) = true := by simpa using ht.2
          clear n6 m6 q6 M6 h ht
          go_enter Try.func11, Try.ntmps11
          go_wp2_with (first
            | (go_at_call 15; refine (awake_any _).mono ?_; rintro e W1 ⟨rfl, hx1⟩; obtain ⟨z0, z1, z2, z3, z4, z5, z6, z7, z8, z9, z10, z11⟩ := FA.out _ hx1; have X1 := Lib.hid hx1; clear hx1)
            | (go_at_call 16; refine (HF1.out _).mono ?_; rintro e W2 ⟨rfl, hx⟩; clear z0 z1 z2 z3 z4 z5 z6 z7 z8 z9 z10 z11; have X2 := Lib.hid (X1.out.trans hx); clear hx; obtain ⟨z0, z1, z2, z3, z4, z5, z6, z7, z8, z9, z10, z11⟩ := FA.out _ X2.out)
            | (go_at_call 17; (with_reducible refine (HF2.out _).mono ?_); rintro e W3 ⟨rfl, hx⟩; clear z0 z1 z2 z3 z4 z5 z6 z7 z8 z9 z10 z11; have X3 := Lib.hid (X2.out.trans hx); clear hx; obtain ⟨z0, z1, z2, z3, z4, z5, z6, z7, z8, z9, z10, z11⟩ := FA.out _ X3.out)
            | (go_at_call 17; (with_reducible refine (HF3.out _).mono ?_); rintro e W4 ⟨rfl, hx⟩; clear z0 z1 z2 z3 z4 z5 z6 z7 z8 z9 z10 z11; have X4 := Lib.hid (X3.out.trans hx); clear hx; obtain ⟨z0, z1, z2, z3, z4, z5, z6, z7, z8, z9, z10, z11⟩ := FA.out _ X4.out))
          go_ret
          exact ⟨rfl, E0.out.trans X4.out⟩

        · have M6' : decide ((6 : Int) < (M : Int)) = true := by simp; omega
          have HF1 := Lib.hid (few_yes t A n ca · n6)
          have HF2 := Lib.hid (fewHot_yes f B m cb · m6)
          have HF3 := Lib.hid (fewHot_yes g D q cd · q6)
          clear n6 m6 q6 M6 h
          go_enter Try.func11, Try.ntmps11
          go_wp2_with (first
            | (go_at_call 15; refine (awake_any _).mono ?_; rintro e W1 ⟨rfl, hx1⟩; obtain ⟨z0, z1, z2, z3, z4, z5, z6, z7, z8, z9, z10, z11⟩ := FA.out _ hx1; have X1 := Lib.hid hx1; clear hx1)
            | (go_at_call 16; refine (HF1.out _).mono ?_; rintro e W2 ⟨rfl, hx⟩; clear z0 z1 z2 z3 z4 z5 z6 z7 z8 z9 z10 z11; have X2 := Lib.hid (X1.out.trans hx); clear hx; obtain ⟨z0, z1, z2, z3, z4, z5, z6, z7, z8, z9, z10, z11⟩ := FA.out _ X2.out)
            | (go_at_call 17; (with_reducible refine (HF2.out _).mono ?_); rintro e W3 ⟨rfl, hx⟩; clear z0 z1 z2 z3 z4 z5 z6 z7 z8 z9 z10 z11; have X3 := Lib.hid (X2.out.trans hx); clear hx; obtain ⟨z0, z1, z2, z3, z4, z5, z6, z7, z8, z9, z10, z11⟩ := FA.out _ X3.out)
            | (go_at_call 17; (with_reducible refine (HF3.out _).mono ?_); rintro e W4 ⟨rfl, hx⟩; clear z0 z1 z2 z3 z4 z5 z6 z7 z8 z9 z10 z11; have X4 := Lib.hid (X3.out.trans hx); clear hx; obtain ⟨z0, z1, z2, z3, z4, z5, z6, z7, z8, z9, z10, z11⟩ := FA.out _ X4.out))
          go_ret
          exact ⟨rfl, E0.out.trans X4.out⟩

      · have q6' : 6 < q := by omega
        have HF1 := Lib.hid (few_yes t A n ca · n6)
        have HF2 := Lib.hid (fewHot_yes f B m cb · m6)
        have HF3 := Lib.hid (fewHot_no g D q cd · q6')
        clear n6 m6 q6 q6' h
        go_enter Try.func11, Try.ntmps11
        go_wp2_with (first
          | (go_at_call 15; refine (awake_any _).mono ?_; rintro e W1 ⟨rfl, hx1⟩; obtain ⟨z0, z1, z2, z3, z4, z5, z6, z7, z8, z9, z10, z11⟩ := FA.out _ hx1; have X1 := Lib.hid hx1; clear hx1)
          | (go_at_call 16; refine (HF1.out _).mono ?_; rintro e W2 ⟨rfl, hx⟩; clear z0 z1 z2 z3 z4 z5 z6 z7 z8 z9 z10 z11; have X2 := Lib.hid (X1.out.trans hx); clear hx; obtain ⟨z0, z1, z2, z3, z4, z5, z6, z7, z8, z9, z10, z11⟩ := FA.out _ X2.out)
          | (go_at_call 17; (with_reducible refine (HF2.out _).mono ?_); rintro e W3 ⟨rfl, hx⟩; clear z0 z1 z2 z3 z4 z5 z6 z7 z8 z9 z10 z11; have X3 := Lib.hid (X2.out.trans hx); clear hx; obtain ⟨z0, z1, z2, z3, z4, z5, z6, z7, z8, z9, z10, z11⟩ := FA.out _ X3.out)
          | (go_at_call 17; (with_reducible refine (HF3.out _).mono ?_); rintro e W4 ⟨rfl, hx⟩; clear z0 z1 z2 z3 z4 z5 z6 z7 z8 z9 z10 z11; have X4 := Lib.hid (X3.out.trans hx); clear hx; obtain ⟨z0, z1, z2, z3, z4, z5, z6, z7, z8, z9, z10, z11⟩ := FA.out _ X4.out))
        go_ret
        exact ⟨rfl, E0.out.trans X4.out⟩

    · have m6' : 6 < m := by omega
      have HF1 := Lib.hid (few_yes t A n ca · n6)
      have HF2 := Lib.hid (fewHot_no f B m cb · m6')
      clear n6 m6 m6' h
      go_enter Try.func11, Try.ntmps11
      go_wp2_with (first
        | (go_at_call 15; refine (awake_any _).mono ?_; rintro e W1 ⟨rfl, hx1⟩; obtain ⟨z0, z1, z2, z3, z4, z5, z6, z7, z8, z9, z10, z11⟩ := FA.out _ hx1; have X1 := Lib.hid hx1; clear hx1)
        | (go_at_call 16; refine (HF1.out _).mono ?_; rintro e W2 ⟨rfl, hx⟩; clear z0 z1 z2 z3 z4 z5 z6 z7 z8 z9 z10 z11; have X2 := Lib.hid (X1.out.trans hx); clear hx; obtain ⟨z0, z1, z2, z3, z4, z5, z6, z7, z8, z9, z10, z11⟩ := FA.out _ X2.out)
        | (go_at_call 17; (with_reducible refine (HF2.out _).mono ?_); rintro e W3 ⟨rfl, hx⟩; clear z0 z1 z2 z3 z4 z5 z6 z7 z8 z9 z10 z11; have X3 := Lib.hid (X2.out.trans hx); clear hx; obtain ⟨z0, z1, z2, z3, z4, z5, z6, z7, z8, z9, z10, z11⟩ := FA.out _ X3.out))
      go_ret
      exact ⟨rfl, E0.out.trans X3.out⟩

  · have n6' : 6 < n := by omega
    have HF1 := Lib.hid (few_no t A n ca · n6')
    clear n6 n6' h
    go_enter Try.func11, Try.ntmps11
    go_wp2_with (first
      | (go_at_call 15; refine (awake_any _).mono ?_; rintro e W1 ⟨rfl, hx1⟩; obtain ⟨z0, z1, z2, z3, z4, z5, z6, z7, z8, z9, z10, z11⟩ := FA.out _ hx1; have X1 := Lib.hid hx1; clear hx1)
      | (go_at_call 16; refine (HF1.out _).mono ?_; rintro e W2 ⟨rfl, hx⟩; clear z0 z1 z2 z3 z4 z5 z6 z7 z8 z9 z10 z11; have X2 := Lib.hid (X1.out.trans hx); clear hx; obtain ⟨z0, z1, z2, z3, z4, z5, z6, z7, z8, z9, z10, z11⟩ := FA.out _ X2.out))
    go_ret
    exact ⟨rfl, E0.out.trans X2.out⟩

set_option maxRecDepth 100000 in
set_option maxHeartbeats 16000000 in
theorem fieldFrequencies_main (t : Int) (A : Option Addr) (n ca : Nat) (xs : List Sh) (hn : xs.length = n) (f : Int) (B : Option Addr) (m cb : Nat) (hota : List Bool) (hm : hota.length = m) (g : Int) (D : Option Addr) (q cd : Nat) (hotb : List Bool) (hq : hotb.length = q) (pc dep a b tot : Int) (C : Option Addr) (M cz : Nat) (rs : List G) (hM : rs.length = M) (w : World)
    (hA : RowsAt 3 Sh.enc w A xs) (hB : RowsAt 1 boolEnc w B hota) (hD : RowsAt 1 boolEnc w D hotb) (hC : RowsAt 2 G.enc w C rs) (n6 : n ≤ 6) (m6 : m ≤ 6) (q6 : q ≤ 6) (M6 : M ≤ 6) (ht : ¬ (150 < tot ∧ tot ≤ 100000)) (hAn : A = none → ca = 0) (hBn : B = none → cb = 0) (hDn : D = none → cd = 0) (hCn : C = none → cz = 0) :
    Calls Try.prog 11 #[.agg #[.int .i64 t, .slice A n ca], .agg #[.int .i64 f, .slice B m cb, .int .i64 g, .slice D q cd], .agg #[.int .i64 pc, .int .i64 dep, .int .i64 a, .int .i64 b, .int .i64 tot, .slice C M cz]] w fun e w' => e = .returned (.bool true) ∧ Ext w w' := by
  have e0 : Ext w (((w.alloc (.cells #[.int .i64 t, .slice A n ca] 24)).alloc (.cells #[.int .i64 f, .slice B m cb, .int .i64 g, .slice D q cd] 96)).alloc (.cells #[.int .i64 pc, .int .i64 dep, .int .i64 a, .int .i64 b, .int .i64 tot, .slice C M cz] 103)) := (Ext.alloc _ _).trans ((Ext.alloc _ _).trans (Ext.alloc _ _))
  have FA := Lib.hid (show ∀ W : World, Ext (((w.alloc (.cells #[.int .i64 t, .slice A n ca] 24)).alloc (.cells #[.int .i64 f, .slice B m cb, .int .i64 g, .slice D q cd] 96)).alloc (.cells #[.int .i64 pc, .int .i64 dep, .int .i64 a, .int .i64 b, .int .i64 tot, .slice C M cz] 103)) W →
      W.cell? ⟨w.heap.size, 0, none⟩ = some (.int .i64 (t)) ∧ W.cell? ⟨w.heap.size, 1, none⟩ = some (.slice A n ca) ∧ W.cell? ⟨w.heap.size + 1, 0, none⟩ = some (.int .i64 (f)) ∧ W.cell? ⟨w.heap.size + 1, 1, none⟩ = some (.slice B m cb) ∧ W.cell? ⟨w.heap.size + 1, 2, none⟩ = some (.int .i64 (g)) ∧ W.cell? ⟨w.heap.size + 1, 3, none⟩ = some (.slice D q cd) ∧ W.cell? ⟨w.heap.size + 1 + 1, 0, none⟩ = some (.int .i64 (pc)) ∧ W.cell? ⟨w.heap.size + 1 + 1, 1, none⟩ = some (.int .i64 (dep)) ∧ W.cell? ⟨w.heap.size + 1 + 1, 2, none⟩ = some (.int .i64 (a)) ∧ W.cell? ⟨w.heap.size + 1 + 1, 3, none⟩ = some (.int .i64 (b)) ∧ W.cell? ⟨w.heap.size + 1 + 1, 4, none⟩ = some (.int .i64 (tot)) ∧ W.cell? ⟨w.heap.size + 1 + 1, 5, none⟩ = some (.slice C M cz) from
    fun W hx => ⟨hx.cell (by go_simp), hx.cell (by go_simp), hx.cell (by go_simp), hx.cell (by go_simp), hx.cell (by go_simp), hx.cell (by go_simp), hx.cell (by go_simp), hx.cell (by go_simp), hx.cell (by go_simp), hx.cell (by go_simp), hx.cell (by go_simp), hx.cell (by go_simp)⟩)
  obtain ⟨F0, EF, hFE⟩ := freq_ex t xs hota m pc dep
  have HCL := Lib.hid (copyLadder_V (t := t) hn hA n6 hAn)
  have HCB := Lib.hid (copyBools_V hm hB m6 hBn)
  have HCP := Lib.hid (fun W (e : Ext w W) => copyPair_V (f := f) (g := g) hm hq (hB.ext e) (hD.ext e) m6 q6 hBn hDn)
  have HCS := Lib.hid (copyShape_V (t := tot) hM hC M6 hCn)
  have H59 := Lib.hid (frequencyFor_V (t := t) (xs := xs) hm hFE)
  have H61 := Lib.hid (twoWatts_V (t := t) (f := f) (g := g) hn hm hq a b)
  have H63 := Lib.hid (splitFor_V (t := t) (f := f) (g := g) (rs := rs) hn hm hq tot)
  have HF1 := Lib.hid (few_yes t A n ca · n6)
  have HF2 := Lib.hid (fewHot_yes f B m cb · m6)
  have HF3 := Lib.hid (fewHot_yes g D q cd · q6)
  have M6' : decide ((6 : Int) < (M : Int)) = false := by simp; omega
  have H65 := Lib.hid (fun W (e : Ext w W) => refLadderErr_any t A n ca xs hn W (hA.ext e))
  have H66 := Lib.hid (fun W => wishErr_any t A n ca B m cb pc dep W)
  have H67 := Lib.hid (fun W (e : Ext w W) (hz : freqE t xs m pc dep = 0) => show Calls Try.prog 67 #[.agg #[.int .i64 t, .slice A n ca], .slice B m cb, .agg #[.int .i64 pc, .int .i64 dep]] W (fun e w' => ∃ f ok, e = .returned (.tuple #[.int .i64 f, .bool ok]) ∧ Ext W w' ∧
      ((ok = true ∧ FreqIs t xs hota m pc dep f 0) ∨ (ok = false ∧ FreqIs t xs hota m pc dep 0 12))) from by
    obtain rfl : m = n := by
      have := (firstE_zero _).1 hz
      have := (errIf_zero (by decide)).1 (this (errIf ((m : Int) != (xs.length : Int)) 10) (by simp))
      rw [hn] at this; simp at this; omega
    exact refFrequency_any t A m ca xs hn B cb hota hm pc dep W (hA.ext e) (hB.ext e) hz)
  have H68 := Lib.hid (fun W (e : Ext w W) => pairErr_gen t A n ca xs hn f B m cb g D q cd W (fun _ => hA.ext e))
  have H70 := Lib.hid (fun W (e : Ext w W) => refShapeErr_any t A n ca tot C M cz rs hM W (hC.ext e))
  have HVAL := Lib.hid (fun hz : pairE t xs f m g q = 0 => show m = n ∧ q = n ∧ (∀ s ∈ xs, shOK s) ∧ (1 ≤ f ∧ f ≤ 8) ∧ (1 ≤ g ∧ g ≤ 8) ∧ 1 ≤ n ∧ n ≤ 4 from by
    obtain ⟨h1, h2⟩ := pairE_zero hz
    obtain ⟨⟨_, ⟨k1, k4⟩, hok⟩, hf, hml⟩ := (driveE_zero t xs f m).1 h1
    obtain ⟨-, hg, hql⟩ := (driveE_zero t xs g q).1 h2
    exact ⟨by omega, by omega, hok, hf, hg, by omega, by omega⟩)
  have H69 := Lib.hid (fun W (e : Ext w W) (hz : pairE t xs f m g q = 0) (ha : rangeE 0 100000 [a] = 0) (hb : rangeE 0 100000 [b] = 0) => show Calls Try.prog 69 #[.agg #[.int .i64 t, .slice A n ca], .agg #[.int .i64 f, .slice B m cb, .int .i64 g, .slice D q cd], .agg #[.int .i64 a, .int .i64 b]] W (VPost W (SlV n (twoL (wattsL a (powers f hota xs) n) (wattsL b (powers g hotb xs) n)))) from by
    obtain ⟨rfl, rfl, hok, hf, hg, h1, h4⟩ := HVAL.out hz
    exact refTwo_any t A q ca xs hn f B cb hota hm g D cd hotb hq a b ((rangeE_zero 0 100000 [a]).1 ha a (by simp)) ((rangeE_zero 0 100000 [b]).1 hb b (by simp)) W (hA.ext e) (hB.ext e) (hD.ext e) hok hf hg h1 h4)
  have H71 := Lib.hid (fun W (e : Ext w W) (hz : pairE t xs f m g q = 0) (hs : shapeE n tot rs = 0) => show Calls Try.prog 71 #[.agg #[.int .i64 t, .slice A n ca], .agg #[.int .i64 f, .slice B m cb, .int .i64 g, .slice D q cd], .agg #[.int .i64 tot, .slice C M cz]] W (VPost W (Is (.tuple #[.int .i64 (splitN (splitV (powers f hota xs) (powers g hotb xs) n tot rs)), .bool (splitV (powers f hota xs) (powers g hotb xs) n tot rs).isSome]))) from by
    obtain ⟨rfl, rfl, hok, hf, hg, h1, h4⟩ := HVAL.out hz
    obtain ⟨⟨t0, t1⟩, hMl⟩ := shapeE_zero hs
    obtain ⟨tn, rfl⟩ : ∃ tn : Nat, tot = (tn : Int) := ⟨tot.toNat, by omega⟩
    obtain rfl : q = M := by omega
    exact refSplit_any t A q ca xs hn f B cb hota hm g D cd hotb hq tn (by omega) C cz rs hM W (hA.ext e) (hB.ext e) (hD.ext e) hok hf hg h1 h4 (hC.ext e))
  have HTA := Lib.hid (fun W => totalErr_any a W)
  have HTB := Lib.hid (fun W => totalErr_any b W)
  have HWE := Lib.hid (show twoE t xs f m g q a b = if pairE t xs f m g q ≠ 0 then pairE t xs f m g q else rangeE 0 100000 [a, b] from firstE_two' _ _)
  have HAB := Lib.hid (show rangeE 0 100000 [a, b] = if rangeE 0 100000 [a] ≠ 0 then 2 else if rangeE 0 100000 [b] ≠ 0 then 2 else 0 by
    rw [rangeE_two, rangeE_one, rangeE_one]
    by_cases h1 : inB 0 100000 a = true <;> by_cases h2 : inB 0 100000 b = true <;> simp [h1, h2])
  have HSA := Lib.hid (show splitA t xs f hota m g hotb q n tot rs = if splE t xs f m g q n tot rs ≠ 0 then (0, splE t xs f m g q n tot rs) else (splitN (splitV (powers f hota xs) (powers g hotb xs) n tot rs), splitEr (splitV (powers f hota xs) (powers g hotb xs) n tot rs)) from rfl)
  have HSE := Lib.hid (show splE t xs f m g q n tot rs = if pairE t xs f m g q ≠ 0 then pairE t xs f m g q else shapeE n tot rs from firstE_two' _ _)
  have HFS := Lib.hid (freq_split t xs n m hn pc dep)
  have HPC := Lib.hid (show (checkL t xs).2 ≠ 0 → pairE t xs f m g q = (checkL t xs).2 from fun h => by
    unfold pairE
    rw [drive_split, if_pos h, if_pos h])
  have HWL := Lib.hid (twoL_len (wattsL_len a (powers f hota xs) n) (wattsL_len b (powers g hotb xs) n))
  have HFQ := Lib.hid (show ∀ fr er, FreqIs t xs hota m pc dep fr er → (freqE t xs m pc dep ≠ 0 ∧ fr = 0 ∧ er = freqE t xs m pc dep) ∨ (freqE t xs m pc dep = 0 ∧ (er = 0 ∨ (er = 12 ∧ fr = 0))) from fun fr er h => by
    rcases h with ⟨h1, h2, h3⟩ | ⟨h1, h2, _⟩ | ⟨h1, h2, h3, _⟩
    · exact .inl ⟨h1, h2, h3⟩
    · exact .inr ⟨h1, .inl h2⟩
    · exact .inr ⟨h1, .inr ⟨h2, h3⟩⟩)
  have HFE := Lib.hid hFE
  have E0 := Lib.hid e0
  have HT := Lib.hid ht
  clear hn hm hq hM hA hB hD hC n6 m6 q6 M6 hAn hBn hDn hCn e0 ht HVAL hFE
  generalize freqE t xs m pc dep = fE at *
  generalize hfqv : FqV F0 EF t xs hota m pc dep = FQ at *
  have HFQV := Lib.hid (show ∀ u W, FQ u W → u = .int .i64 F0 ∧ FreqIs t xs hota m pc dep F0 EF from fun u W h => by rw [← hfqv] at h; exact h)
  have HFQX := Lib.hid (show ∀ u W W', FQ u W → FQ u W' from fun u W W' h => by rw [← hfqv] at h ⊢; exact h)
  clear hfqv
  generalize twoL (wattsL a (powers f hota xs) n) (wattsL b (powers g hotb xs) n) = ws at *
  generalize twoE t xs f m g q a b = wE at *
  obtain ⟨sN, hsN⟩ : ∃ s, s = (splitA t xs f hota m g hotb q n tot rs).1 := ⟨_, rfl⟩
  obtain ⟨sE, hsE⟩ : ∃ s, s = (splitA t xs f hota m g hotb q n tot rs).2 := ⟨_, rfl⟩
  rw [← hsN, ← hsE] at H63
  rw [HSA.out] at hsN hsE
  have HSN := Lib.hid hsN
  have HSR := Lib.hid hsE
  clear hsN hsE HSA
  generalize splE t xs f m g q n tot rs = spE at *
  generalize splitV (powers f hota xs) (powers g hotb xs) n tot rs = so at *
  generalize pairE t xs f m g q = pE at *
  generalize shapeE n tot rs = shE at *
  generalize wishE n m pc dep = wsE at *
  generalize (checkL t xs).2 = cE at *
  generalize rangeE 0 100000 [a, b] = abE at *
  generalize rangeE 0 100000 [a] = aE at *
  generalize rangeE 0 100000 [b] = bE at *
  go_enter Try.func11, Try.ntmps11
  go_upto_region 1 with (fail)
  generalize (((w.alloc (.cells #[.int .i64 t, .slice A n ca] 24)).alloc (.cells #[.int .i64 f, .slice B m cb, .int .i64 g, .slice D q cd] 96)).alloc (.cells #[.int .i64 pc, .int .i64 dep, .int .i64 a, .int .i64 b, .int .i64 tot, .slice C M cz] 103)) = Wb at *
  go_upto_region 3 with ((go_at_call 15; refine (awake_any _).mono ?_; rintro e W1 ⟨rfl, hx1⟩; obtain ⟨z0, z1, z2, z3, z4, z5, z6, z7, z8, z9, z10, z11⟩ := FA.out _ hx1; have X1 := Lib.hid hx1; clear hx1))
  have X1' := X1
  go_cut [53] from 20 to 52 (fun s53 wx => s53 = .bool false ∧ Ext Wb wx)
  case first =>
    by_cases h1 : 150 < tot
    · have t1 : decide ((150 : Int) < tot) = true := by simpa using h1
      have t2 : decide (tot ≤ (100000 : Int)) = false := by have := HT.out; simp; omega
      clear h1
      go_wp2_with (first
        | (go_at_call 16; refine (HF1.out _).mono ?_; rintro e W2 ⟨rfl, hx⟩; clear z0 z1 z2 z3 z4 z5 z6 z7 z8 z9 z10 z11; have X2 := Lib.hid (X1.out.trans hx); clear hx; obtain ⟨z0, z1, z2, z3, z4, z5, z6, z7, z8, z9, z10, z11⟩ := FA.out _ X2.out)
        | (go_at_call 17; (with_reducible refine (HF2.out _).mono ?_); rintro e W3 ⟨rfl, hx⟩; clear z0 z1 z2 z3 z4 z5 z6 z7 z8 z9 z10 z11; have X3 := Lib.hid (X2.out.trans hx); clear hx; obtain ⟨z0, z1, z2, z3, z4, z5, z6, z7, z8, z9, z10, z11⟩ := FA.out _ X3.out)
        | (go_at_call 17; (with_reducible refine (HF3.out _).mono ?_); rintro e W4 ⟨rfl, hx⟩; clear z0 z1 z2 z3 z4 z5 z6 z7 z8 z9 z10 z11; have X4 := Lib.hid (X3.out.trans hx); clear hx; obtain ⟨z0, z1, z2, z3, z4, z5, z6, z7, z8, z9, z10, z11⟩ := FA.out _ X4.out))
      go_meet
      exact ⟨rfl, X4.out⟩
    · have t1 : decide ((150 : Int) < tot) = false := by simpa using h1
      clear h1
      go_wp2_with (first
        | (go_at_call 16; refine (HF1.out _).mono ?_; rintro e W2 ⟨rfl, hx⟩; clear z0 z1 z2 z3 z4 z5 z6 z7 z8 z9 z10 z11; have X2 := Lib.hid (X1.out.trans hx); clear hx; obtain ⟨z0, z1, z2, z3, z4, z5, z6, z7, z8, z9, z10, z11⟩ := FA.out _ X2.out)
        | (go_at_call 17; (with_reducible refine (HF2.out _).mono ?_); rintro e W3 ⟨rfl, hx⟩; clear z0 z1 z2 z3 z4 z5 z6 z7 z8 z9 z10 z11; have X3 := Lib.hid (X2.out.trans hx); clear hx; obtain ⟨z0, z1, z2, z3, z4, z5, z6, z7, z8, z9, z10, z11⟩ := FA.out _ X3.out)
        | (go_at_call 17; (with_reducible refine (HF3.out _).mono ?_); rintro e W4 ⟨rfl, hx⟩; clear z0 z1 z2 z3 z4 z5 z6 z7 z8 z9 z10 z11; have X4 := Lib.hid (X3.out.trans hx); clear hx; obtain ⟨z0, z1, z2, z3, z4, z5, z6, z7, z8, z9, z10, z11⟩ := FA.out _ X4.out))
      go_meet
      exact ⟨rfl, X4.out⟩
  case rest =>
    obtain ⟨rfl, hx⟩ := hcut
    have X4 := Lib.hid hx
    clear hx z0 z1 z2 z3 z4 z5 z6 z7 z8 z9 z10 z11 X1 X1' HF1 HF2 HF3
    obtain ⟨z0, z1, z2, z3, z4, z5, z6, z7, z8, z9, z10, z11⟩ := FA.out _ X4.out
    generalize wc = W4 at *
    have EB := Lib.hid (E0.out.trans X4.out)
    go_wp2
    refine wp_region_each [some 55, some 56, some 57, some 58, some 59, some 60, some 61, some 62, some 63, some 54, some 64, some 65, some 7, some 8] [[3], [55], [4], [57], [58], [59], [5], [61], [56, 60, 62], [63], [54], [54], [64], [65]]
      [Is (.agg #[.int .i64 (t), .slice A n ca]), LadV t xs, Is (.pointer (some ⟨w.heap.size + 1, 0, none⟩)), Is (.pointer (some ⟨w.heap.size + 1, 1, none⟩)), Is (.slice B m cb), BlV hota, Is (.pointer (some ⟨w.heap.size + 1 + 1, 0, none⟩)), Is (.agg #[.int .i64 (pc), .int .i64 (dep)]), TupV (FQ) (EF), TupV (FQ) (EF), FQ, Is (.int .i64 (EF)), FQ, Is (.int .i64 (EF))]
      (by kernel_rfl) (by kernel_rfl) (by kernel_rfl) (by kernel_rfl) (by kernel_rfl) Ext (fun W => Ext W4 W)
      (fun W _ => Ext.refl W) (fun W W' h k => h.trans k) ?_ (Ext.drew _) ?_ ?_
    · repeat (refine ⟨fun _ _ _ _ k h => (by first | exact h | exact HFQX.out _ _ _ h | exact (by first | exact LadV.ext h k | exact PairV.ext h k | exact BlV.ext h k | exact ShpV.ext h k | exact TupV.ext (fun _ _ _ h k => by first | exact HFQX.out _ _ _ h | exact Opt.ext (fun _ _ _ h k => SlV.ext h k) h k) h k | exact Opt.ext (fun _ _ _ h k => SlV.ext h k) h k | exact SlV.ext h k | exact IntsAt.ext h k)), ?_⟩)
      exact trivial
    · refine ⟨?_, ?_, ?_, ?_, ?_, ?_, ?_, ?_, ?_, ?_, ?_, ?_, ?_, ?_, trivial⟩
      all_goals intro ρ W ⟨kc, kg, kf⟩ hF hs
      · obtain ⟨h0, -⟩ := hs
        replace h0 : ρ (.tmp 3) = .pointer (some ⟨w.heap.size, 0, none⟩) := h0
        have hc0 : W.cell? ⟨w.heap.size, 0, none⟩ = some (.int .i64 (t)) := hF.cell (by assumption)
        have hc1 : W.cell? ⟨w.heap.size, 1, none⟩ = some (.slice A n ca) := hF.cell (by assumption)
        go_simp
        exact ⟨Ext.refl _, rfl⟩
      · obtain ⟨h0, -⟩ := hs
        replace h0 : ρ (.tmp 55) = .agg #[.int .i64 (t), .slice A n ca] := h0
        go_simp
        exact HCL.out W (EB.out.trans hF)
      · obtain ⟨h0, -⟩ := hs
        replace h0 : ρ (.tmp 4) = .pointer (some ⟨w.heap.size + 1, 0, none⟩) := h0
        go_simp
        exact ⟨Ext.refl _, rfl⟩
      · obtain ⟨h0, -⟩ := hs
        replace h0 : ρ (.tmp 57) = .pointer (some ⟨w.heap.size + 1, 0, none⟩) := h0
        go_simp
        exact ⟨Ext.refl _, rfl⟩
      · obtain ⟨h0, -⟩ := hs
        replace h0 : ρ (.tmp 58) = .pointer (some ⟨w.heap.size + 1, 1, none⟩) := h0
        have hc0 : W.cell? ⟨w.heap.size + 1, 1, none⟩ = some (.slice B m cb) := hF.cell (by assumption)
        go_simp
        exact ⟨Ext.refl _, rfl⟩
      · obtain ⟨h0, -⟩ := hs
        replace h0 : ρ (.tmp 59) = .slice B m cb := h0
        go_simp
        exact HCB.out W (EB.out.trans hF)
      · obtain ⟨h0, -⟩ := hs
        replace h0 : ρ (.tmp 5) = .pointer (some ⟨w.heap.size + 1 + 1, 0, none⟩) := h0
        go_simp
        exact ⟨Ext.refl _, rfl⟩
      · obtain ⟨h0, -⟩ := hs
        replace h0 : ρ (.tmp 61) = .pointer (some ⟨w.heap.size + 1 + 1, 0, none⟩) := h0
        have hc0 : W.cell? ⟨w.heap.size + 1 + 1, 0, none⟩ = some (.int .i64 (pc)) := hF.cell (by assumption)
        have hc1 : W.cell? ⟨w.heap.size + 1 + 1, 1, none⟩ = some (.int .i64 (dep)) := hF.cell (by assumption)
        go_simp
        exact ⟨Ext.refl _, rfl⟩
      · obtain ⟨h0, h1, h2, -⟩ := hs
        replace h0 : (LadV t xs) (ρ (.tmp 56)) W := h0
        replace h1 : (BlV hota) (ρ (.tmp 60)) W := h1
        replace h2 : ρ (.tmp 62) = .agg #[.int .i64 (pc), .int .i64 (dep)] := h2
        go_simp
        exact H59.out W _ _ h0 h1
      · obtain ⟨h0, -⟩ := hs
        replace h0 : (TupV (FQ) (EF)) (ρ (.tmp 63)) W := h0
        go_simp
        first | exact ⟨Ext.refl _, h0⟩ | exact Ext.refl _
      · obtain ⟨h0, -⟩ := hs
        replace h0 : (TupV (FQ) (EF)) (ρ (.tmp 54)) W := h0
        obtain ⟨v, hv, hp⟩ := h0
        go_simp
        first | exact ⟨Ext.refl _, hp⟩ | exact Ext.refl _
      · obtain ⟨h0, -⟩ := hs
        replace h0 : (TupV (FQ) (EF)) (ρ (.tmp 54)) W := h0
        obtain ⟨v, hv, hp⟩ := h0
        go_simp
        first | exact ⟨Ext.refl _, rfl⟩ | exact Ext.refl _
      · obtain ⟨h0, -⟩ := hs
        replace h0 : (FQ) (ρ (.tmp 64)) W := h0
        go_simp
        first | exact ⟨Ext.refl _, h0⟩ | exact Ext.refl _
      · obtain ⟨h0, -⟩ := hs
        replace h0 : ρ (.tmp 65) = .int .i64 (EF) := h0
        go_simp
        exact ⟨Ext.refl _, rfl⟩
    · intro fv W5 hF hs
      obtain ⟨-, -, -, -, -, -, -, -, -, -, -, -, h7, h8, -⟩ := hs
      replace h7 : (FQ) (fv 7) W5 := h7
      replace h8 : fv 8 = .int .i64 (EF) := h8
      simp only [fin, List.filterMap]
      go_simp
      have X5 := Lib.hid (X4.out.trans hF)
      obtain ⟨hv7, hfr⟩ := HFQV.out _ _ h7
      rw [hv7]
      have HFR := Lib.hid hfr
      clear hF h7 h8 hv7 hfr z0 z1 z2 z3 z4 z5 z6 z7 z8 z9 z10 z11 EB H59 HCB
      obtain ⟨z0, z1, z2, z3, z4, z5, z6, z7, z8, z9, z10, z11⟩ := FA.out _ X5.out
      have EB := Lib.hid (E0.out.trans X5.out)
      go_wp2
      refine wp_region_each [some 67, some 68, some 69, some 70, some 71, some 72, some 73, some 66, some 74, some 75, some 9, some 10] [[3], [67], [4], [69], [5], [71], [68, 70, 72], [73], [66], [66], [74], [75]]
        [Is (.agg #[.int .i64 (t), .slice A n ca]), LadV t xs, Is (.agg #[.int .i64 (f), .slice B m cb, .int .i64 (g), .slice D q cd]), PairV f hota g hotb, Is (.pointer (some ⟨w.heap.size + 1 + 1, 2, none⟩)), Is (.agg #[.int .i64 (a), .int .i64 (b)]), TupV (Opt wE (.slice none 0 0) (SlV n ws)) (wE), TupV (Opt wE (.slice none 0 0) (SlV n ws)) (wE), Opt wE (.slice none 0 0) (SlV n ws), Is (.int .i64 (wE)), Opt wE (.slice none 0 0) (SlV n ws), Is (.int .i64 (wE))]
        (by kernel_rfl) (by kernel_rfl) (by kernel_rfl) (by kernel_rfl) (by kernel_rfl) Ext (fun W => Ext W5 W)
        (fun W _ => Ext.refl W) (fun W W' h k => h.trans k) ?_ (Ext.drew _) ?_ ?_
      · repeat (refine ⟨fun _ _ _ _ k h => (by first | exact h | exact (by first | exact LadV.ext h k | exact PairV.ext h k | exact BlV.ext h k | exact ShpV.ext h k | exact TupV.ext (fun _ _ _ h k => by first | exact h | exact Opt.ext (fun _ _ _ h k => SlV.ext h k) h k) h k | exact Opt.ext (fun _ _ _ h k => SlV.ext h k) h k | exact SlV.ext h k | exact IntsAt.ext h k)), ?_⟩)
        exact trivial
      · refine ⟨?_, ?_, ?_, ?_, ?_, ?_, ?_, ?_, ?_, ?_, ?_, ?_, trivial⟩
        all_goals intro ρ W ⟨kc, kg, kf⟩ hF hs
        · obtain ⟨h0, -⟩ := hs
          replace h0 : ρ (.tmp 3) = .pointer (some ⟨w.heap.size, 0, none⟩) := h0
          have hc0 : W.cell? ⟨w.heap.size, 0, none⟩ = some (.int .i64 (t)) := hF.cell (by assumption)
          have hc1 : W.cell? ⟨w.heap.size, 1, none⟩ = some (.slice A n ca) := hF.cell (by assumption)
          go_simp
          exact ⟨Ext.refl _, rfl⟩
        · obtain ⟨h0, -⟩ := hs
          replace h0 : ρ (.tmp 67) = .agg #[.int .i64 (t), .slice A n ca] := h0
          go_simp
          exact HCL.out W (EB.out.trans hF)
        · obtain ⟨h0, -⟩ := hs
          replace h0 : ρ (.tmp 4) = .pointer (some ⟨w.heap.size + 1, 0, none⟩) := h0
          have hc0 : W.cell? ⟨w.heap.size + 1, 0, none⟩ = some (.int .i64 (f)) := hF.cell (by assumption)
          have hc1 : W.cell? ⟨w.heap.size + 1, 1, none⟩ = some (.slice B m cb) := hF.cell (by assumption)
          have hc2 : W.cell? ⟨w.heap.size + 1, 2, none⟩ = some (.int .i64 (g)) := hF.cell (by assumption)
          have hc3 : W.cell? ⟨w.heap.size + 1, 3, none⟩ = some (.slice D q cd) := hF.cell (by assumption)
          go_simp
          exact ⟨Ext.refl _, rfl⟩
        · obtain ⟨h0, -⟩ := hs
          replace h0 : ρ (.tmp 69) = .agg #[.int .i64 (f), .slice B m cb, .int .i64 (g), .slice D q cd] := h0
          go_simp
          exact HCP.out W (EB.out.trans hF)
        · obtain ⟨h0, -⟩ := hs
          replace h0 : ρ (.tmp 5) = .pointer (some ⟨w.heap.size + 1 + 1, 0, none⟩) := h0
          go_simp
          exact ⟨Ext.refl _, rfl⟩
        · obtain ⟨h0, -⟩ := hs
          replace h0 : ρ (.tmp 71) = .pointer (some ⟨w.heap.size + 1 + 1, 2, none⟩) := h0
          have hc0 : W.cell? ⟨w.heap.size + 1 + 1, 2, none⟩ = some (.int .i64 (a)) := hF.cell (by assumption)
          have hc1 : W.cell? ⟨w.heap.size + 1 + 1, 3, none⟩ = some (.int .i64 (b)) := hF.cell (by assumption)
          go_simp
          exact ⟨Ext.refl _, rfl⟩
        · obtain ⟨h0, h1, h2, -⟩ := hs
          replace h0 : (LadV t xs) (ρ (.tmp 68)) W := h0
          replace h1 : (PairV f hota g hotb) (ρ (.tmp 70)) W := h1
          replace h2 : ρ (.tmp 72) = .agg #[.int .i64 (a), .int .i64 (b)] := h2
          go_simp
          exact H61.out W _ _ h0 h1
        · obtain ⟨h0, -⟩ := hs
          replace h0 : (TupV (Opt wE (.slice none 0 0) (SlV n ws)) (wE)) (ρ (.tmp 73)) W := h0
          go_simp
          first | exact ⟨Ext.refl _, h0⟩ | exact Ext.refl _
        · obtain ⟨h0, -⟩ := hs
          replace h0 : (TupV (Opt wE (.slice none 0 0) (SlV n ws)) (wE)) (ρ (.tmp 66)) W := h0
          obtain ⟨v, hv, hp⟩ := h0
          go_simp
          first | exact ⟨Ext.refl _, hp⟩ | exact Ext.refl _
        · obtain ⟨h0, -⟩ := hs
          replace h0 : (TupV (Opt wE (.slice none 0 0) (SlV n ws)) (wE)) (ρ (.tmp 66)) W := h0
          obtain ⟨v, hv, hp⟩ := h0
          go_simp
          first | exact ⟨Ext.refl _, rfl⟩ | exact Ext.refl _
        · obtain ⟨h0, -⟩ := hs
          replace h0 : (Opt wE (.slice none 0 0) (SlV n ws)) (ρ (.tmp 74)) W := h0
          go_simp
          first | exact ⟨Ext.refl _, h0⟩ | exact Ext.refl _
        · obtain ⟨h0, -⟩ := hs
          replace h0 : ρ (.tmp 75) = .int .i64 (wE) := h0
          go_simp
          exact ⟨Ext.refl _, rfl⟩
      · intro fv W6 hF hs
        obtain ⟨-, -, -, -, -, -, -, -, -, -, h9, h10, -⟩ := hs
        replace h9 : (Opt wE (.slice none 0 0) (SlV n ws)) (fv 9) W6 := h9
        replace h10 : fv 10 = .int .i64 (wE) := h10
        simp only [fin, List.filterMap]
        go_simp
        have X6 := Lib.hid (X5.out.trans hF)
        have V9 := Lib.hid h9
        clear hF h9 h10 z0 z1 z2 z3 z4 z5 z6 z7 z8 z9 z10 z11 EB H61
        generalize fv 9 = v9 at *
        obtain ⟨z0, z1, z2, z3, z4, z5, z6, z7, z8, z9, z10, z11⟩ := FA.out _ X6.out
        have EB := Lib.hid (E0.out.trans X6.out)
        go_wp2
        refine wp_region_each [some 77, some 78, some 79, some 80, some 81, some 82, some 83, some 84, some 76, some 85, some 86, some 11, some 12] [[3], [77], [4], [79], [5], [81], [82], [78, 80, 83], [84], [76], [76], [85], [86]]
          [Is (.agg #[.int .i64 (t), .slice A n ca]), LadV t xs, Is (.agg #[.int .i64 (f), .slice B m cb, .int .i64 (g), .slice D q cd]), PairV f hota g hotb, Is (.pointer (some ⟨w.heap.size + 1 + 1, 4, none⟩)), Is (.agg #[.int .i64 (tot), .slice C M cz]), ShpV tot rs, TupV (Is (.int .i64 (sN))) (sE), TupV (Is (.int .i64 (sN))) (sE), Is (.int .i64 (sN)), Is (.int .i64 (sE)), Is (.int .i64 (sN)), Is (.int .i64 (sE))]
          (by kernel_rfl) (by kernel_rfl) (by kernel_rfl) (by kernel_rfl) (by kernel_rfl) Ext (fun W => Ext W6 W)
          (fun W _ => Ext.refl W) (fun W W' h k => h.trans k) ?_ (Ext.drew _) ?_ ?_
        · repeat (refine ⟨fun _ _ _ _ k h => (by first | exact h | exact (by first | exact LadV.ext h k | exact PairV.ext h k | exact BlV.ext h k | exact ShpV.ext h k | exact TupV.ext (fun _ _ _ h k => by first | exact h | exact Opt.ext (fun _ _ _ h k => SlV.ext h k) h k) h k | exact Opt.ext (fun _ _ _ h k => SlV.ext h k) h k | exact SlV.ext h k | exact IntsAt.ext h k)), ?_⟩)
          exact trivial
        · refine ⟨?_, ?_, ?_, ?_, ?_, ?_, ?_, ?_, ?_, ?_, ?_, ?_, ?_, trivial⟩
          all_goals intro ρ W ⟨kc, kg, kf⟩ hF hs
          · obtain ⟨h0, -⟩ := hs
            replace h0 : ρ (.tmp 3) = .pointer (some ⟨w.heap.size, 0, none⟩) := h0
            have hc0 : W.cell? ⟨w.heap.size, 0, none⟩ = some (.int .i64 (t)) := hF.cell (by assumption)
            have hc1 : W.cell? ⟨w.heap.size, 1, none⟩ = some (.slice A n ca) := hF.cell (by assumption)
            go_simp
            exact ⟨Ext.refl _, rfl⟩
          · obtain ⟨h0, -⟩ := hs
            replace h0 : ρ (.tmp 77) = .agg #[.int .i64 (t), .slice A n ca] := h0
            go_simp
            exact HCL.out W (EB.out.trans hF)
          · obtain ⟨h0, -⟩ := hs
            replace h0 : ρ (.tmp 4) = .pointer (some ⟨w.heap.size + 1, 0, none⟩) := h0
            have hc0 : W.cell? ⟨w.heap.size + 1, 0, none⟩ = some (.int .i64 (f)) := hF.cell (by assumption)
            have hc1 : W.cell? ⟨w.heap.size + 1, 1, none⟩ = some (.slice B m cb) := hF.cell (by assumption)
            have hc2 : W.cell? ⟨w.heap.size + 1, 2, none⟩ = some (.int .i64 (g)) := hF.cell (by assumption)
            have hc3 : W.cell? ⟨w.heap.size + 1, 3, none⟩ = some (.slice D q cd) := hF.cell (by assumption)
            go_simp
            exact ⟨Ext.refl _, rfl⟩
          · obtain ⟨h0, -⟩ := hs
            replace h0 : ρ (.tmp 79) = .agg #[.int .i64 (f), .slice B m cb, .int .i64 (g), .slice D q cd] := h0
            go_simp
            exact HCP.out W (EB.out.trans hF)
          · obtain ⟨h0, -⟩ := hs
            replace h0 : ρ (.tmp 5) = .pointer (some ⟨w.heap.size + 1 + 1, 0, none⟩) := h0
            go_simp
            exact ⟨Ext.refl _, rfl⟩
          · obtain ⟨h0, -⟩ := hs
            replace h0 : ρ (.tmp 81) = .pointer (some ⟨w.heap.size + 1 + 1, 4, none⟩) := h0
            have hc0 : W.cell? ⟨w.heap.size + 1 + 1, 4, none⟩ = some (.int .i64 (tot)) := hF.cell (by assumption)
            have hc1 : W.cell? ⟨w.heap.size + 1 + 1, 5, none⟩ = some (.slice C M cz) := hF.cell (by assumption)
            go_simp
            exact ⟨Ext.refl _, rfl⟩
          · obtain ⟨h0, -⟩ := hs
            replace h0 : ρ (.tmp 82) = .agg #[.int .i64 (tot), .slice C M cz] := h0
            go_simp
            exact HCS.out W (EB.out.trans hF)
          · obtain ⟨h0, h1, h2, -⟩ := hs
            replace h0 : (LadV t xs) (ρ (.tmp 78)) W := h0
            replace h1 : (PairV f hota g hotb) (ρ (.tmp 80)) W := h1
            replace h2 : (ShpV tot rs) (ρ (.tmp 83)) W := h2
            go_simp
            exact H63.out W _ _ _ h0 h1 h2
          · obtain ⟨h0, -⟩ := hs
            replace h0 : (TupV (Is (.int .i64 (sN))) (sE)) (ρ (.tmp 84)) W := h0
            go_simp
            first | exact ⟨Ext.refl _, h0⟩ | exact Ext.refl _
          · obtain ⟨h0, -⟩ := hs
            replace h0 : (TupV (Is (.int .i64 (sN))) (sE)) (ρ (.tmp 76)) W := h0
            obtain ⟨v, hv, hp⟩ := h0
            go_simp
            first | exact ⟨Ext.refl _, rfl⟩ | exact Ext.refl _
          · obtain ⟨h0, -⟩ := hs
            replace h0 : (TupV (Is (.int .i64 (sN))) (sE)) (ρ (.tmp 76)) W := h0
            obtain ⟨v, hv, hp⟩ := h0
            go_simp
            first | exact ⟨Ext.refl _, rfl⟩ | exact Ext.refl _
          · obtain ⟨h0, -⟩ := hs
            replace h0 : ρ (.tmp 85) = .int .i64 (sN) := h0
            go_simp
            exact ⟨Ext.refl _, rfl⟩
          · obtain ⟨h0, -⟩ := hs
            replace h0 : ρ (.tmp 86) = .int .i64 (sE) := h0
            go_simp
            exact ⟨Ext.refl _, rfl⟩
        · intro fv W7 hF hs
          obtain ⟨-, -, -, -, -, -, -, -, -, -, -, h11, h12, -⟩ := hs
          replace h11 : fv 11 = .int .i64 (sN) := h11
          replace h12 : fv 12 = .int .i64 (sE) := h12
          simp only [fin, List.filterMap]
          go_simp
          have X7 := Lib.hid (X6.out.trans hF)
          have Z67 := Lib.hid hF
          have Y7 := Lib.hid (Ext.refl W7)
          clear hF h11 h12 z0 z1 z2 z3 z4 z5 z6 z7 z8 z9 z10 z11 EB H63 HCL HCP HCS
          obtain ⟨z0, z1, z2, z3, z4, z5, z6, z7, z8, z9, z10, z11⟩ := FA.out _ X7.out
          go_upto_if 90 with (go_at_call 65; refine (H65.out _ (E0.out.trans X7.out)).mono ?_; rintro e W8 ⟨rfl, hx⟩; clear z0 z1 z2 z3 z4 z5 z6 z7 z8 z9 z10 z11; have X8 := Lib.hid (X7.out.trans hx); have Y8 := Lib.hid (Y7.out.trans hx); clear hx; obtain ⟨z0, z1, z2, z3, z4, z5, z6, z7, z8, z9, z10, z11⟩ := FA.out _ X8.out)
          clear H65
          go_cut [13] from 90 to 97 (fun s13 wx => s13 = .int .i64 fE ∧ Ext W7 wx)
          case first =>
            by_cases hc : cE = 0
            · have hcb : (cE == 0) = true := by simp [hc]
              have HFC := Lib.hid (show wsE = fE by rw [HFS.out, if_neg (by simp [hc])])
              clear hc
              go_wp2_with (go_at_call 66; refine (H66.out _).mono ?_; rintro e W9 ⟨rfl, hx⟩; clear z0 z1 z2 z3 z4 z5 z6 z7 z8 z9 z10 z11; have X9 := Lib.hid (X8.out.trans hx); have Y9 := Lib.hid (Y8.out.trans hx); clear hx; obtain ⟨z0, z1, z2, z3, z4, z5, z6, z7, z8, z9, z10, z11⟩ := FA.out _ X9.out)
              go_meet
              exact ⟨by rw [HFC.out], Y9.out⟩
            · have hcb : (cE == 0) = false := by simp [hc]
              have HFC := Lib.hid (show cE = fE by rw [HFS.out, if_pos hc])
              clear hc
              go_wp2
              go_meet
              exact ⟨by rw [HFC.out], Y8.out⟩
          case rest =>
            obtain ⟨rfl, hx⟩ := hcut
            have X9 := Lib.hid (X7.out.trans hx)
            have Y9 := Lib.hid hx
            clear hx z0 z1 z2 z3 z4 z5 z6 z7 z8 z9 z10 z11 X8 Y8 H66
            obtain ⟨z0, z1, z2, z3, z4, z5, z6, z7, z8, z9, z10, z11⟩ := FA.out _ X9.out
            generalize wc = W9 at *
            go_upto_if 99 with (fail)
            go_cut [14, 15] from 99 to 138 (fun s14 s15 wx => Ext W7 wx)
            case first =>
              by_cases hf : fE = 0
              · have hfb : (fE != 0) = false := by simp [hf]
                have H67' := Lib.hid (fun W e => H67.out W e hf)
                have HQ := HFQ.out _ _ HFR.out
                by_cases he : EF = 0
                · have HU := Lib.hid (show ∀ (fr : Int) (ok : Bool), ((ok = true ∧ FreqIs t xs hota m pc dep fr 0) ∨ (ok = false ∧ FreqIs t xs hota m pc dep 0 12)) → ok = true ∧ fr = F0 from fun fr ok h => by
                    rcases h with ⟨h1, h2⟩ | ⟨h1, h2⟩
                    · exact ⟨h1, (HFE.out _ _ h2).1⟩
                    · have := (HFE.out _ _ h2).2; omega)
                  subst he
                  clear hf HQ
                  go_wp2_with (go_at_call 67; refine (H67'.out _ (E0.out.trans X9.out)).mono ?_; rintro e W10 ⟨fr, ok, rfl, hx, hc⟩; obtain ⟨rfl, rfl⟩ := HU.out fr ok hc; clear hc; clear z0 z1 z2 z3 z4 z5 z6 z7 z8 z9 z10 z11; have X10 := Lib.hid (X9.out.trans hx); have Y10 := Lib.hid (Y9.out.trans hx); clear hx; obtain ⟨z0, z1, z2, z3, z4, z5, z6, z7, z8, z9, z10, z11⟩ := FA.out _ X10.out)
                  go_meet
                  exact Y10.out
                · obtain ⟨rfl, rfl⟩ : EF = 12 ∧ F0 = 0 := by omega
                  have HU := Lib.hid (show ∀ (fr : Int) (ok : Bool), ((ok = true ∧ FreqIs t xs hota m pc dep fr 0) ∨ (ok = false ∧ FreqIs t xs hota m pc dep 0 12)) → ok = false from fun fr ok h => by
                    rcases h with ⟨h1, h2⟩ | ⟨h1, h2⟩
                    · have := (HFE.out _ _ h2).2; omega
                    · exact h1)
                  clear hf HQ he
                  go_wp2_with (go_at_call 67; refine (H67'.out _ (E0.out.trans X9.out)).mono ?_; rintro e W10 ⟨fr, ok, rfl, hx, hc⟩; obtain rfl := HU.out fr ok hc; clear hc; clear z0 z1 z2 z3 z4 z5 z6 z7 z8 z9 z10 z11; have X10 := Lib.hid (X9.out.trans hx); have Y10 := Lib.hid (Y9.out.trans hx); clear hx; obtain ⟨z0, z1, z2, z3, z4, z5, z6, z7, z8, z9, z10, z11⟩ := FA.out _ X10.out)
                  go_meet
                  exact Y10.out
              · have hfb : (fE != 0) = true := by simp [hf]
                obtain ⟨rfl, rfl⟩ : F0 = 0 ∧ EF = fE := by
                  rcases HFQ.out _ _ HFR.out with ⟨_, h1, h2⟩ | ⟨h1, _⟩
                  · exact ⟨h1, h2⟩
                  · exact absurd h1 hf
                clear hf
                go_wp2
                go_meet
                exact Y9.out
            case rest =>
              have X10 := Lib.hid (X7.out.trans hcut)
              have Y10 := Lib.hid hcut
              clear hcut z0 z1 z2 z3 z4 z5 z6 z7 z8 z9 z10 z11 X9 Y9 H67 HFR HFE HFQ HFS
              obtain ⟨z0, z1, z2, z3, z4, z5, z6, z7, z8, z9, z10, z11⟩ := FA.out _ X10.out
              generalize wc = W10 at *
              go_upto_if 143 with (go_at_call 68; refine (H68.out _ (E0.out.trans X10.out)).mono ?_; rintro e W11 ⟨rfl, hx⟩; clear z0 z1 z2 z3 z4 z5 z6 z7 z8 z9 z10 z11; have X11 := Lib.hid (X10.out.trans hx); have Y11 := Lib.hid (Y10.out.trans hx); clear hx; obtain ⟨z0, z1, z2, z3, z4, z5, z6, z7, z8, z9, z10, z11⟩ := FA.out _ X11.out)
              by_cases hp : pE = 0
              · have hpb : (pE != 0) = false := by simp [hp]
                have HWE' := Lib.hid (show wE = abE by rw [HWE.out, if_neg (by simp [hp])])
                have HSE' := Lib.hid (show spE = shE by rw [HSE.out, if_neg (by simp [hp])])
                have H69' := Lib.hid (fun W e => H69.out W e hp)
                have H71' := Lib.hid (fun W e => H71.out W e hp)
                clear hp HWE HSE H69 H71
                go_upto_region 20 with (fail)
                go_cut [172] from 142 to 171 (fun s172 wx => s172 = .bool (abE != 0) ∧ Ext W7 wx)
                case first =>
                  by_cases ha : aE = 0
                  · have hab : (aE != 0) = false := by simp [ha]
                    by_cases hb : bE = 0
                    · have hbb : (bE != 0) = false := by simp [hb]
                      have HZ := Lib.hid (show (abE != 0) = false by rw [HAB.out, if_neg (by simp [ha]), if_neg (by simp [hb])]; rfl)
                      clear ha hb
                      go_wp2_with (first
                        | (go_at_call 49; (with_reducible refine (HTA.out _).mono ?_); rintro e w' ⟨rfl, rfl⟩)
                        | (go_at_call 49; (with_reducible refine (HTB.out _).mono ?_); rintro e w' ⟨rfl, rfl⟩))
                      go_meet
                      exact ⟨by rw [HZ.out], Y11.out⟩
                    · have hbb : (bE != 0) = true := by simp [hb]
                      have HZ := Lib.hid (show (abE != 0) = true by rw [HAB.out, if_neg (by simp [ha]), if_pos hb]; rfl)
                      clear ha hb
                      go_wp2_with (first
                        | (go_at_call 49; (with_reducible refine (HTA.out _).mono ?_); rintro e w' ⟨rfl, rfl⟩)
                        | (go_at_call 49; (with_reducible refine (HTB.out _).mono ?_); rintro e w' ⟨rfl, rfl⟩))
                      go_meet
                      exact ⟨by rw [HZ.out], Y11.out⟩
                  · have hab : (aE != 0) = true := by simp [ha]
                    have HZ := Lib.hid (show (abE != 0) = true by rw [HAB.out, if_pos ha]; rfl)
                    clear ha
                    go_wp2_with (go_at_call 49; (with_reducible refine (HTA.out _).mono ?_); rintro e w' ⟨rfl, rfl⟩)
                    go_meet
                    exact ⟨by rw [HZ.out], Y11.out⟩
                case rest =>
                  obtain ⟨rfl, hx⟩ := hcut
                  have X12 := Lib.hid (X7.out.trans hx)
                  have Y12 := Lib.hid hx
                  clear hx z0 z1 z2 z3 z4 z5 z6 z7 z8 z9 z10 z11 X11 Y11
                  obtain ⟨z0, z1, z2, z3, z4, z5, z6, z7, z8, z9, z10, z11⟩ := FA.out _ X12.out
                  generalize wc = W12 at *
                  have HABZ := Lib.hid (show abE = 0 → aE = 0 ∧ bE = 0 from fun h => by
                    rw [HAB.out] at h
                    by_cases ha : aE = 0
                    · rw [if_neg (by simp [ha])] at h
                      by_cases hb : bE = 0
                      · exact ⟨ha, hb⟩
                      · rw [if_pos hb] at h; cases h
                    · rw [if_pos ha] at h; cases h)
                  have HABN := Lib.hid (show abE ≠ 0 → abE = 2 from fun h => by
                    rw [HAB.out] at h ⊢
                    by_cases ha : aE = 0
                    · rw [if_neg (by simp [ha])] at h ⊢
                      by_cases hb : bE = 0
                      · rw [if_neg (by simp [hb])] at h; exact absurd rfl h
                      · rw [if_pos hb]
                    · rw [if_pos ha])
                  clear HAB HTA HTB
                  go_upto_if 172 with (fail)
                  go_cut [] from 172 to 191 (fun wx => Ext W7 wx)
                  case first =>
                    by_cases hz : abE = 0
                    · obtain ⟨ha, hb⟩ := HABZ.out hz
                      have hwz : wE = 0 := HWE'.out.trans hz
                      have hzb : (abE != 0) = false := by simp [hz]
                      have HS9 := Lib.hid (V9.out.2 hwz)
                      have H69z := Lib.hid (fun W e => H69'.out W e ha hb)
                      have hwb : (wE != 0) = false := by simp [hwz]
                      clear hz ha hb hwz
                      go_wp2_with (first
                        | (go_at_call 69; refine (H69z.out _ (E0.out.trans X12.out)).mono ?_; rintro e W13 ⟨v13, rfl, hx, hs⟩; have HG := Lib.hid (show Calls Try.prog 25 #[v9, v13] W13 (fun e w' => e = .returned (.bool true) ∧ Ext W13 w') from by
                            have hx9 : Ext W6 W13 := Z67.out.trans (Y12.out.trans hx)
                            have := ints_any v9 v13 ws ws W13 (SlV.ints HWL.out (HS9.out.ext hx9)) (SlV.ints HWL.out hs)
                            rw [beq_self_eq_true] at this
                            exact this); clear hs; clear z0 z1 z2 z3 z4 z5 z6 z7 z8 z9 z10 z11; have X13 := Lib.hid (X12.out.trans hx); have Y13 := Lib.hid (Y12.out.trans hx); clear hx; obtain ⟨z0, z1, z2, z3, z4, z5, z6, z7, z8, z9, z10, z11⟩ := FA.out _ X13.out)
                        | (go_at_call 25; refine HG.out.mono ?_; rintro e W14 ⟨rfl, hx⟩; clear z0 z1 z2 z3 z4 z5 z6 z7 z8 z9 z10 z11; have X14 := Lib.hid (X13.out.trans hx); have Y14 := Lib.hid (Y13.out.trans hx); clear hx; obtain ⟨z0, z1, z2, z3, z4, z5, z6, z7, z8, z9, z10, z11⟩ := FA.out _ X14.out))
                      go_meet
                      exact Y14.out
                    · have hw2 : wE = 2 := HWE'.out.trans (HABN.out hz)
                      have hzb : (abE != 0) = true := by simp [hz]
                      have hv9 := V9.out.1 (by rw [hw2]; decide)
                      subst hw2 hv9
                      clear hz V9 HWE'
                      go_wp2
                      go_meet
                      exact Y12.out
                  case rest =>
                    have X13 := Lib.hid (X7.out.trans hcut)
                    have Y13 := Lib.hid hcut
                    clear hcut z0 z1 z2 z3 z4 z5 z6 z7 z8 z9 z10 z11 X12 Y12 V9 HABZ HABN H69'
                    obtain ⟨z0, z1, z2, z3, z4, z5, z6, z7, z8, z9, z10, z11⟩ := FA.out _ X13.out
                    generalize wc = W13 at *
                    by_cases hs : shE = 0
                    · have hsb : (shE != 0) = false := by simp [hs]
                      have hsp : ¬ spE ≠ 0 := by rw [HSE'.out, hs]; simp
                      have hN : sN = splitN so := by rw [HSN.out, if_neg hsp]
                      have hR : sE = splitEr so := by rw [HSR.out, if_neg hsp]
                      have H71z := Lib.hid (fun W e => H71'.out W e hs)
                      subst hN hR
                      clear hs hsp HSN HSR HSE'
                      cases so with
                      | none =>
                        go_wp2_with (first
                          | (go_at_call 70; refine (H70.out _ (E0.out.trans X13.out)).mono ?_; rintro e W14 ⟨rfl, hx⟩; clear z0 z1 z2 z3 z4 z5 z6 z7 z8 z9 z10 z11; have X14 := Lib.hid (X13.out.trans hx); have Y14 := Lib.hid (Y13.out.trans hx); clear hx; obtain ⟨z0, z1, z2, z3, z4, z5, z6, z7, z8, z9, z10, z11⟩ := FA.out _ X14.out)
                          | (go_at_call 71; refine (H71z.out _ (E0.out.trans X14.out)).mono ?_; rintro e W15 ⟨v, rfl, hx, hv⟩; obtain rfl := hv; clear z0 z1 z2 z3 z4 z5 z6 z7 z8 z9 z10 z11; have X15 := Lib.hid (X14.out.trans hx); have Y15 := Lib.hid (Y14.out.trans hx); clear hx; obtain ⟨z0, z1, z2, z3, z4, z5, z6, z7, z8, z9, z10, z11⟩ := FA.out _ X15.out))
                        go_ret
                        exact ⟨ret_bool (by simp [splitN]), E0.out.trans X15.out⟩
                      | some k =>
                        go_wp2_with (first
                          | (go_at_call 70; refine (H70.out _ (E0.out.trans X13.out)).mono ?_; rintro e W14 ⟨rfl, hx⟩; clear z0 z1 z2 z3 z4 z5 z6 z7 z8 z9 z10 z11; have X14 := Lib.hid (X13.out.trans hx); have Y14 := Lib.hid (Y13.out.trans hx); clear hx; obtain ⟨z0, z1, z2, z3, z4, z5, z6, z7, z8, z9, z10, z11⟩ := FA.out _ X14.out)
                          | (go_at_call 71; refine (H71z.out _ (E0.out.trans X14.out)).mono ?_; rintro e W15 ⟨v, rfl, hx, hv⟩; obtain rfl := hv; clear z0 z1 z2 z3 z4 z5 z6 z7 z8 z9 z10 z11; have X15 := Lib.hid (X14.out.trans hx); have Y15 := Lib.hid (Y14.out.trans hx); clear hx; obtain ⟨z0, z1, z2, z3, z4, z5, z6, z7, z8, z9, z10, z11⟩ := FA.out _ X15.out))
                        go_ret
                        exact ⟨ret_bool (by simp), E0.out.trans X15.out⟩
                    · have hsb : (shE != 0) = true := by simp [hs]
                      have hsp : spE ≠ 0 := by rw [HSE'.out]; exact hs
                      have hN : sN = 0 := by rw [HSN.out, if_pos hsp]
                      have hR : sE = shE := by rw [HSR.out, if_pos hsp, HSE'.out]
                      subst hN hR
                      clear hs hsp HSN HSR HSE'
                      go_wp2_with (go_at_call 70; refine (H70.out _ (E0.out.trans X13.out)).mono ?_; rintro e W14 ⟨rfl, hx⟩; clear z0 z1 z2 z3 z4 z5 z6 z7 z8 z9 z10 z11; have X14 := Lib.hid (X13.out.trans hx); have Y14 := Lib.hid (Y13.out.trans hx); clear hx; obtain ⟨z0, z1, z2, z3, z4, z5, z6, z7, z8, z9, z10, z11⟩ := FA.out _ X14.out)
                      go_ret
                      exact ⟨ret_bool (by simp), E0.out.trans X14.out⟩
              · have hpb : (pE != 0) = true := by simp [hp]
                have hwE : wE = pE := by rw [HWE.out, if_pos hp]
                have hsp : spE = pE := by rw [HSE.out, if_pos hp]
                have hv9 := V9.out.1 (by rw [hwE]; exact hp)
                have hN : sN = 0 := by rw [HSN.out, if_pos (by rw [hsp]; exact hp)]
                have hR : sE = pE := by rw [HSR.out, if_pos (by rw [hsp]; exact hp), hsp]
                subst hv9 hN hR hwE
                clear hp hsp V9 HWE HSE HSN HSR H69 H71
                go_wp2
                go_ret
                exact ⟨ret_bool (by simp), E0.out.trans X11.out⟩

theorem fieldFrequencies_any (t : Int) (A : Option Addr) (n ca : Nat) (xs : List Sh) (hn : xs.length = n) (f : Int) (B : Option Addr) (m cb : Nat) (hota : List Bool) (hm : hota.length = m) (g : Int) (D : Option Addr) (q cd : Nat) (hotb : List Bool) (hq : hotb.length = q) (pc dep a b tot : Int) (C : Option Addr) (M cz : Nat) (rs : List G) (hM : rs.length = M) (w : World)
    (hA : n ≤ 6 → RowsAt 3 Sh.enc w A xs) (hB : m ≤ 6 → RowsAt 1 boolEnc w B hota) (hD : q ≤ 6 → RowsAt 1 boolEnc w D hotb) (hC : M ≤ 6 → RowsAt 2 G.enc w C rs) (hAn : A = none → ca = 0) (hBn : B = none → cb = 0) (hDn : D = none → cd = 0) (hCn : C = none → cz = 0) :
    Calls Try.prog 11 #[.agg #[.int .i64 t, .slice A n ca], .agg #[.int .i64 f, .slice B m cb, .int .i64 g, .slice D q cd], .agg #[.int .i64 pc, .int .i64 dep, .int .i64 a, .int .i64 b, .int .i64 tot, .slice C M cz]] w fun e w' => e = .returned (.bool true) ∧ Ext w w' := by
  by_cases h : n ≤ 6 ∧ m ≤ 6 ∧ q ≤ 6 ∧ M ≤ 6 ∧ ¬ (150 < tot ∧ tot ≤ 100000)
  · exact fieldFrequencies_main t A n ca xs hn f B m cb hota hm g D q cd hotb hq pc dep a b tot C M cz rs hM w (hA h.1) (hB h.2.1) (hD h.2.2.1) (hC h.2.2.2.1) h.1 h.2.1 h.2.2.1 h.2.2.2.1 h.2.2.2.2 hAn hBn hDn hCn
  · exact fieldFrequencies_few t A n ca f B m cb g D q cd pc dep a b tot C M cz w h

end Go.Proofs.Ytpaoeghdfeekoaa
