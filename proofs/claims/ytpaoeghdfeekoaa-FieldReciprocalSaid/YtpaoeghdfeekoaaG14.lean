/- FieldReciprocal: where it asks nothing. -/
import Derived.Test.YtpaoeghdfeekoaaG12
namespace Go.Proofs.Ytpaoeghdfeekoaa
open Go.RowKit Go.Shelf Go.Mem Go.RegInv
attribute [local go_sem] RelUpon_value RelUpon_skip RelUpon_enter BigFrame.eval_const BigFrame.eval_global BigFrame.eval_func

set_option maxRecDepth 100000 in
set_option maxHeartbeats 4000000 in
theorem fieldReciprocal_skip (t : Int) (A : Option Addr) (n ca : Nat) (xs : List Sh) (hn : xs.length = n) (f : Int) (B : Option Addr) (m cb : Nat) (i : Int) (w : World)
    (hA : n ≤ 6 → RowsAt 3 Sh.enc w A xs) (h : driveE t xs f m = 0 → n ≤ 6 ∧ shE n i ≠ 0) :
    Calls Try.prog 10 #[.agg #[.int .i64 t, .slice A n ca], .agg #[.int .i64 f, .slice B m cb], .int .i64 i] w fun e w' => e = .returned (.bool true) ∧ Ext w w' := by
  have e0 : Ext w ((w.alloc (.cells #[.int .i64 t, .slice A n ca] 24)).alloc (.cells #[.int .i64 f, .slice B m cb] 27)) := (Ext.alloc _ _).trans (Ext.alloc _ _)
  have FA := Lib.hid (show ∀ W : World, Ext ((w.alloc (.cells #[.int .i64 t, .slice A n ca] 24)).alloc (.cells #[.int .i64 f, .slice B m cb] 27)) W →
      W.cell? ⟨w.heap.size, 0, none⟩ = some (.int .i64 t) ∧ W.cell? ⟨w.heap.size, 1, none⟩ = some (.slice A n ca) ∧ W.cell? ⟨w.heap.size + 1, 0, none⟩ = some (.int .i64 f) ∧ W.cell? ⟨w.heap.size + 1, 1, none⟩ = some (.slice B m cb) from
    fun W hx => ⟨hx.cell (by go_simp), hx.cell (by go_simp), hx.cell (by go_simp), hx.cell (by go_simp)⟩)
  have H24 := Lib.hid (fun W (e : Ext w W) => refBothErr_gen t A n ca xs hn f B m cb W (fun h => (hA h).ext e))
  have E0 := Lib.hid e0
  clear e0 hA hn
  by_cases hq : driveE t xs f m = 0
  · obtain ⟨n6, hs⟩ := h hq
    have H45 := Lib.hid (fun W => shellErr_any t A n ca i W (by omega))
    rw [hq] at H24
    clear hq h n6
    generalize shE n i = s at *
    have hsb : (s != 0) = true := by simp [hs]
    clear hs
    go_enter Try.func10, Try.ntmps10
    go_wp2_with (first
      | (go_at_call 15; refine (awake_any _).mono ?_; rintro e W1 ⟨rfl, hx1⟩; obtain ⟨z0, z1, z2, z3⟩ := FA.out _ hx1; have X1 := Lib.hid hx1; clear hx1)
      | (go_at_call 24; refine (H24.out _ (E0.out.trans X1.out)).mono ?_; rintro e W1b ⟨rfl, hx2⟩; clear z0 z1 z2 z3; have X1b := Lib.hid (X1.out.trans hx2); clear hx2; obtain ⟨z0, z1, z2, z3⟩ := FA.out _ X1b.out)
      | (go_at_call 45; refine (H45.out _).mono ?_; rintro e W2 ⟨rfl, hx2⟩; clear z0 z1 z2 z3; have X2 := Lib.hid (X1b.out.trans hx2); clear hx2; obtain ⟨z0, z1, z2, z3⟩ := FA.out _ X2.out))
    go_ret
    exact ⟨rfl, E0.out.trans X2.out⟩
  · clear h
    generalize driveE t xs f m = q at *
    have hqb : (q != 0) = true := by simp [hq]
    clear hq
    go_enter Try.func10, Try.ntmps10
    go_wp2_with (first
      | (go_at_call 15; refine (awake_any _).mono ?_; rintro e W1 ⟨rfl, hx1⟩; obtain ⟨z0, z1, z2, z3⟩ := FA.out _ hx1; have X1 := Lib.hid hx1; clear hx1)
      | (go_at_call 24; refine (H24.out _ (E0.out.trans X1.out)).mono ?_; rintro e W1b ⟨rfl, hx2⟩; clear z0 z1 z2 z3; have X1b := Lib.hid (X1.out.trans hx2); clear hx2; obtain ⟨z0, z1, z2, z3⟩ := FA.out _ X1b.out))
    go_ret
    exact ⟨rfl, E0.out.trans X1b.out⟩

end Go.Proofs.Ytpaoeghdfeekoaa
