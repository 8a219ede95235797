/- For FieldFrequencies: the errors of a wish and of a pair. -/
import Derived.Test.YtpaoeghdfeekoaaMF
namespace Go.Proofs.Ytpaoeghdfeekoaa
open Go.RowKit Go.Shelf Go.Mem Go.RegInv
attribute [local go_sem] RelUpon_value RelUpon_skip RelUpon_enter BigFrame.eval_const BigFrame.eval_global BigFrame.eval_func

def wishE (n m : Nat) (pc d : Int) : Int := if m ≠ n then 10 else if inB 1 100 pc = true ∧ inB 1 (n : Int) d = true then 0 else 2
theorem wishErr_any (t : Int) (A : Option Addr) (n ca : Nat) (B : Option Addr) (m cb : Nat) (pc d : Int) (w : World) :
    Calls Try.prog 66 #[.agg #[.int .i64 t, .slice A n ca], .slice B m cb, .agg #[.int .i64 pc, .int .i64 d]] w fun e w' => e = .returned (.int .i64 (wishE n m pc d)) ∧ Ext w w' := by
  have e0 : Ext w ((w.alloc (.cells #[.int .i64 t, .slice A n ca] 24)).alloc (.cells #[.int .i64 pc, .int .i64 d] 98)) := (Ext.alloc _ _).trans (Ext.alloc _ _)
  have E0 := Lib.hid e0
  clear e0
  by_cases hm : m = n
  · have hmb : ((m : Int) != (n : Int)) = false := by simp [hm]
    cases h1 : inB 1 100 pc
    · have HS := Lib.hid (show wishE n m pc d = 2 by simp [wishE, h1, hm])
      have H1 := Lib.hid h1
      clear h1 hm
      go_enter Try.func66, Try.ntmps66
      go_wp2_with (go_at_call 40; refine (within_any _ _ _ _).mono ?_; rintro e w' ⟨rfl, rfl⟩; rw [H1.out])
      go_ret
      exact ⟨ret_int HS.out.symm, E0.out⟩
    · cases h2 : inB 1 (n : Int) d
      · have HS := Lib.hid (show wishE n m pc d = 2 by simp [wishE, h1, h2, hm])
        have H1 := Lib.hid h1
        have H2 := Lib.hid h2
        clear h1 h2 hm
        go_enter Try.func66, Try.ntmps66
        go_wp2_with (go_at_call 40; refine (within_any _ _ _ _).mono ?_; rintro e w' ⟨rfl, rfl⟩; first | rw [H1.out] | rw [H2.out])
        go_ret
        exact ⟨ret_int HS.out.symm, E0.out⟩
      · have HS := Lib.hid (show wishE n m pc d = 0 by simp [wishE, h1, h2, hm])
        have H1 := Lib.hid h1
        have H2 := Lib.hid h2
        clear h1 h2 hm
        go_enter Try.func66, Try.ntmps66
        go_wp2_with (go_at_call 40; refine (within_any _ _ _ _).mono ?_; rintro e w' ⟨rfl, rfl⟩; first | rw [H1.out] | rw [H2.out])
        go_ret
        exact ⟨ret_int HS.out.symm, E0.out⟩
  · have hmb : ((m : Int) != (n : Int)) = true := by simp; omega
    have HS := Lib.hid (show wishE n m pc d = 10 by simp [wishE, hm])
    clear hm
    go_enter Try.func66, Try.ntmps66
    go_wp2
    go_ret
    exact ⟨ret_int HS.out.symm, E0.out⟩

def pairE (t : Int) (l : List Sh) (f : Int) (m : Nat) (g : Int) (q : Nat) : Int := if driveE t l f m ≠ 0 then driveE t l f m else drvE g q l.length
theorem pairErr_gen (t : Int) (A : Option Addr) (n ca : Nat) (l : List Sh) (hn : l.length = n) (f : Int) (B : Option Addr) (m cb : Nat) (g : Int) (D : Option Addr) (q cd : Nat) (w : World) (hS : n ≤ 6 → RowsAt 3 Sh.enc w A l) :
    Calls Try.prog 68 #[.agg #[.int .i64 t, .slice A n ca], .agg #[.int .i64 f, .slice B m cb, .int .i64 g, .slice D q cd]] w fun e w' => e = .returned (.int .i64 (pairE t l f m g q)) ∧ Ext w w' := by
  have e0 : Ext w ((w.alloc (.cells #[.int .i64 t, .slice A n ca] 24)).alloc (.cells #[.int .i64 f, .slice B m cb, .int .i64 g, .slice D q cd] 96)) := (Ext.alloc _ _).trans (Ext.alloc _ _)
  have H24 := Lib.hid (fun W (e : Ext w W) => refBothErr_gen t A n ca l hn f B m cb W (fun h => (hS h).ext e))
  have H76 := Lib.hid (fun W => refDriveErr_any t A n ca g D q cd W)
  have HR := Lib.hid (show pairE t l f m g q = if driveE t l f m ≠ 0 then driveE t l f m else drvE g q n by rw [← hn]; rfl)
  have E0 := Lib.hid e0
  have FA := Lib.hid (show ∀ W : World, Ext ((w.alloc (.cells #[.int .i64 t, .slice A n ca] 24)).alloc (.cells #[.int .i64 f, .slice B m cb, .int .i64 g, .slice D q cd] 96)) W →
      W.cell? ⟨w.heap.size, 0, none⟩ = some (.int .i64 t) ∧ W.cell? ⟨w.heap.size, 1, none⟩ = some (.slice A n ca) ∧ W.cell? ⟨w.heap.size + 1, 2, none⟩ = some (.int .i64 g) ∧ W.cell? ⟨w.heap.size + 1, 3, none⟩ = some (.slice D q cd) from
    fun W hx => ⟨hx.cell (by go_simp), hx.cell (by go_simp), hx.cell (by go_simp), hx.cell (by go_simp)⟩)
  clear hn hS e0
  generalize driveE t l f m = s at *
  generalize pairE t l f m g q = r at *
  by_cases hq : s = 0
  · have hq' : (s != 0) = false := by simp [hq]
    have HQ := Lib.hid hq
    clear hq
    go_enter Try.func68, Try.ntmps68
    go_wp2_with (first
      | (go_at_call 24; refine (H24.out _ E0.out).mono ?_; rintro e W1 ⟨rfl, hx1⟩; obtain ⟨z0, z1, z2, z3⟩ := FA.out _ hx1; have X1 := Lib.hid hx1; clear hx1)
      | (go_at_call 76; refine (H76.out _).mono ?_; rintro e W2 ⟨rfl, hx2⟩))
    go_ret
    exact ⟨ret_int (by rw [HR.out, if_neg (by simp [HQ.out])]), E0.out.trans (X1.out.trans hx2)⟩
  · have hq' : (s != 0) = true := by simp [hq]
    have HQ := Lib.hid hq
    clear hq
    go_enter Try.func68, Try.ntmps68
    go_wp2_with (go_at_call 24; refine (H24.out _ E0.out).mono ?_; rintro e W1 ⟨rfl, hx1⟩)
    go_ret
    exact ⟨ret_int (by rw [HR.out, if_pos HQ.out]), E0.out.trans hx1⟩

end Go.Proofs.Ytpaoeghdfeekoaa
