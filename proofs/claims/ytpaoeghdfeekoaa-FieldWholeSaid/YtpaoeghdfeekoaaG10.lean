/- FieldWhole: where it asks nothing. -/
import Derived.Test.YtpaoeghdfeekoaaG9
namespace Go.Proofs.Ytpaoeghdfeekoaa
open Go.RowKit Go.Shelf Go.Mem Go.RegInv

set_option maxRecDepth 100000 in
set_option maxHeartbeats 4000000 in
theorem fieldWhole_skip (t : Int) (A : Option Addr) (n ca : Nat) (xs : List Sh) (hn : xs.length = n) (f : Int) (B : Option Addr) (m cb : Nat) (tot pc mo : Int) (w : World)
    (hA : n ≤ 6 → RowsAt 3 Sh.enc w A xs) (h : ¬ (driveE t xs f m = 0 ∧ rangeE 0 100000 [tot] = 0 ∧ inB 1 100 pc = true ∧ inB pc 100 mo = true)) :
    Calls Try.prog 8 #[.agg #[.int .i64 t, .slice A n ca], .agg #[.int .i64 f, .slice B m cb], .agg #[.int .i64 tot, .int .i64 pc, .int .i64 mo]] w fun e w' => e = .returned (.bool true) ∧ Ext w w' := by
  have e0 : Ext w (((w.alloc (.cells #[.int .i64 t, .slice A n ca] 24)).alloc (.cells #[.int .i64 f, .slice B m cb] 27)).alloc (.cells #[.int .i64 tot, .int .i64 pc, .int .i64 mo] 66)) := (Ext.alloc _ _).trans ((Ext.alloc _ _).trans (Ext.alloc _ _))
  have FA := Lib.hid (show ∀ W : World, Ext (((w.alloc (.cells #[.int .i64 t, .slice A n ca] 24)).alloc (.cells #[.int .i64 f, .slice B m cb] 27)).alloc (.cells #[.int .i64 tot, .int .i64 pc, .int .i64 mo] 66)) W →
      W.cell? ⟨w.heap.size, 0, none⟩ = some (.int .i64 t) ∧ W.cell? ⟨w.heap.size, 1, none⟩ = some (.slice A n ca) ∧ W.cell? ⟨w.heap.size + 1, 0, none⟩ = some (.int .i64 f) ∧ W.cell? ⟨w.heap.size + 1, 1, none⟩ = some (.slice B m cb) from
    fun W hx => ⟨hx.cell (by go_simp), hx.cell (by go_simp), hx.cell (by go_simp), hx.cell (by go_simp)⟩)
  have FY := Lib.hid (show ∀ W : World, Ext (((w.alloc (.cells #[.int .i64 t, .slice A n ca] 24)).alloc (.cells #[.int .i64 f, .slice B m cb] 27)).alloc (.cells #[.int .i64 tot, .int .i64 pc, .int .i64 mo] 66)) W →
      W.cell? ⟨w.heap.size + 1 + 1, 0, none⟩ = some (.int .i64 tot) ∧ W.cell? ⟨w.heap.size + 1 + 1, 1, none⟩ = some (.int .i64 pc) ∧ W.cell? ⟨w.heap.size + 1 + 1, 2, none⟩ = some (.int .i64 mo) from
    fun W hx => ⟨hx.cell (by go_simp), hx.cell (by go_simp), hx.cell (by go_simp)⟩)
  have H24 := Lib.hid (fun W (e : Ext w W) => refBothErr_gen t A n ca xs hn f B m cb W (fun h => (hA h).ext e))
  have E0 := Lib.hid e0
  clear e0 hA hn
  generalize driveE t xs f m = q at *
  by_cases hq : q = 0
  · subst hq
    by_cases ht : rangeE 0 100000 [tot] = 0
    · have HTT := Lib.hid (fun W => totalErr_any tot W)
      rw [ht] at HTT
      by_cases hp : inB 1 100 pc = true
      · have hmo : inB pc 100 mo = false := by
          cases hh : inB pc 100 mo
          · rfl
          · exact absurd ⟨rfl, ht, hp, hh⟩ h
        have HI1 := Lib.hid hp
        have HI2 := Lib.hid hmo
        clear h ht hp hmo
        go_enter Try.func8, Try.ntmps8
        go_wp2_with (go_at_call 15; refine (awake_any _).mono ?_; rintro e W1 ⟨rfl, hx1⟩; obtain ⟨y0, y1, y2⟩ := FY.out _ hx1; have X1 := Lib.hid hx1; clear hx1)
        go_quiet (fail)
        generalize hWd : W1.drewN _ = Wd
        have X1' : Ext W1 Wd := by rw [← hWd]; exact Ext.drewN _ _
        have X1d := Lib.hid (X1.out.trans X1')
        clear hWd X1' y0 y1 y2
        obtain ⟨z0, z1, z2, z3⟩ := FA.out _ X1d.out
        go_wp2_with (first
          | (go_at_call 24; refine (H24.out _ (E0.out.trans X1d.out)).mono ?_; rintro e W2 ⟨rfl, hx2⟩; clear z0 z1 z2 z3; have X2 := Lib.hid (X1d.out.trans hx2); clear hx2)
          | (go_at_call 49; refine (HTT.out _).mono ?_; rintro e w' ⟨rfl, rfl⟩)
          | (go_at_call 40; refine (within_any _ _ _ _).mono ?_; rintro e w' ⟨rfl, rfl⟩; first | rw [HI1.out] | rw [HI2.out]))
        go_ret
        exact ⟨rfl, E0.out.trans X2.out⟩
      · have hp' : inB 1 100 pc = false := by simpa using hp
        have HI1 := Lib.hid hp'
        have HI2 := Lib.hid hp'
        clear h ht hp hp'
        go_enter Try.func8, Try.ntmps8
        go_wp2_with (go_at_call 15; refine (awake_any _).mono ?_; rintro e W1 ⟨rfl, hx1⟩; obtain ⟨y0, y1, y2⟩ := FY.out _ hx1; have X1 := Lib.hid hx1; clear hx1)
        go_quiet (fail)
        generalize hWd : W1.drewN _ = Wd
        have X1' : Ext W1 Wd := by rw [← hWd]; exact Ext.drewN _ _
        have X1d := Lib.hid (X1.out.trans X1')
        clear hWd X1' y0 y1 y2
        obtain ⟨z0, z1, z2, z3⟩ := FA.out _ X1d.out
        go_wp2_with (first
          | (go_at_call 24; refine (H24.out _ (E0.out.trans X1d.out)).mono ?_; rintro e W2 ⟨rfl, hx2⟩; clear z0 z1 z2 z3; have X2 := Lib.hid (X1d.out.trans hx2); clear hx2)
          | (go_at_call 49; refine (HTT.out _).mono ?_; rintro e w' ⟨rfl, rfl⟩)
          | (go_at_call 40; refine (within_any _ _ _ _).mono ?_; rintro e w' ⟨rfl, rfl⟩; first | rw [HI1.out] | rw [HI2.out]))
        go_ret
        exact ⟨rfl, E0.out.trans X2.out⟩
    · have htb : (rangeE 0 100000 [tot] != 0) = true := by simp [ht]
      have HI1 := Lib.hid ht
      have HI2 := Lib.hid ht
      clear h ht
      have HTT := Lib.hid (fun W => totalErr_any tot W)
      generalize rangeE 0 100000 [tot] = te at *
      go_enter Try.func8, Try.ntmps8
      go_wp2_with (go_at_call 15; refine (awake_any _).mono ?_; rintro e W1 ⟨rfl, hx1⟩; obtain ⟨y0, y1, y2⟩ := FY.out _ hx1; have X1 := Lib.hid hx1; clear hx1)
      go_quiet (fail)
      generalize hWd : W1.drewN _ = Wd
      have X1' : Ext W1 Wd := by rw [← hWd]; exact Ext.drewN _ _
      have X1d := Lib.hid (X1.out.trans X1')
      clear hWd X1' y0 y1 y2
      obtain ⟨z0, z1, z2, z3⟩ := FA.out _ X1d.out
      go_wp2_with (first
        | (go_at_call 24; refine (H24.out _ (E0.out.trans X1d.out)).mono ?_; rintro e W2 ⟨rfl, hx2⟩; clear z0 z1 z2 z3; have X2 := Lib.hid (X1d.out.trans hx2); clear hx2)
        | (go_at_call 49; refine (HTT.out _).mono ?_; rintro e w' ⟨rfl, rfl⟩)
        | (go_at_call 40; refine (within_any _ _ _ _).mono ?_; rintro e w' ⟨rfl, rfl⟩; first | rw [HI1.out] | rw [HI2.out]))
      go_ret
      exact ⟨rfl, E0.out.trans X2.out⟩
  · have hqb : (q != 0) = true := by simp [hq]
    have HTT := Lib.hid (fun W => totalErr_any tot W)
    have HI1 := Lib.hid hq
    have HI2 := Lib.hid hq
    clear h hq
    go_enter Try.func8, Try.ntmps8
    go_wp2_with (go_at_call 15; refine (awake_any _).mono ?_; rintro e W1 ⟨rfl, hx1⟩; obtain ⟨y0, y1, y2⟩ := FY.out _ hx1; have X1 := Lib.hid hx1; clear hx1)
    go_quiet (fail)
    generalize hWd : W1.drewN _ = Wd
    have X1' : Ext W1 Wd := by rw [← hWd]; exact Ext.drewN _ _
    have X1d := Lib.hid (X1.out.trans X1')
    clear hWd X1' y0 y1 y2
    obtain ⟨z0, z1, z2, z3⟩ := FA.out _ X1d.out
    go_wp2_with (first
      | (go_at_call 24; refine (H24.out _ (E0.out.trans X1d.out)).mono ?_; rintro e W2 ⟨rfl, hx2⟩; clear z0 z1 z2 z3; have X2 := Lib.hid (X1d.out.trans hx2); clear hx2)
      | (go_at_call 49; refine (HTT.out _).mono ?_; rintro e w' ⟨rfl, rfl⟩)
      | (go_at_call 40; refine (within_any _ _ _ _).mono ?_; rintro e w' ⟨rfl, rfl⟩; first | rw [HI1.out] | rw [HI2.out]))
    go_ret
    exact ⟨rfl, E0.out.trans X2.out⟩

theorem fieldWhole_any (t : Int) (A : Option Addr) (n ca : Nat) (xs : List Sh) (hn : xs.length = n) (f : Int) (B : Option Addr) (m cb : Nat) (hot : List Bool) (hm : hot.length = m) (tot pc mo : Int) (w : World)
    (hA : n ≤ 6 → RowsAt 3 Sh.enc w A xs) (hB : m ≤ 6 → RowsAt 1 boolEnc w B hot) (hAn : A = none → ca = 0) (hBn : B = none → cb = 0) :
    Calls Try.prog 8 #[.agg #[.int .i64 t, .slice A n ca], .agg #[.int .i64 f, .slice B m cb], .agg #[.int .i64 tot, .int .i64 pc, .int .i64 mo]] w fun e w' => e = .returned (.bool true) ∧ Ext w w' := by
  by_cases h : driveE t xs f m = 0 ∧ rangeE 0 100000 [tot] = 0 ∧ inB 1 100 pc = true ∧ inB pc 100 mo = true
  · obtain ⟨hq, ht, hp, hmo⟩ := h
    obtain ⟨⟨_, ⟨h1, h4⟩, _⟩, _, hml⟩ := (driveE_zero t xs f m).1 hq
    obtain rfl : n = m := by rw [hml, hn]
    exact fieldWhole_main t A n ca xs hn f B cb hot hm tot pc mo w (hA (by omega)) (hB (by omega)) hAn hBn hq ht hp hmo
  · exact fieldWhole_skip t A n ca xs hn f B m cb tot pc mo w hA h

end Go.Proofs.Ytpaoeghdfeekoaa
