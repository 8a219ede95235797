/- Studies: errors, ways. -/
import Derived.Test.YtmddnpagfgilcaaA2
import Derived.Laws.MakeOwn

namespace Go.Proofs.Ytmddnpagfgilcaa
open Go.RowKit Go.Shelf Go.Mem Go.RegInv
attribute [local go_sem] RelUpon_value RelUpon_skip RelUpon_enter BigFrame.eval_const BigFrame.eval_global BigFrame.eval_func


theorem info3 : (Try.prog.info? 3).map (fun i => (i.zero, i.size, i.bytes)) = some (some (.int .i64 0), 1, 8) := by kernel_rfl
theorem info_parts {P : Program} {T : TypeId} {z : Value} {s b : Nat} (h : (P.info? T).map (fun i => (i.zero, i.size, i.bytes)) = some (some z, s, b)) : ∃ i, P.info? T = some i ∧ i.zero = some z ∧ i.size = s ∧ i.bytes = b := by
  rcases hi : P.info? T with _ | i
  · rw [hi] at h; cases h
  · rw [hi] at h
    simp at h
    exact ⟨i, rfl, h.1, h.2.1, h.2.2⟩
theorem madeOne (v : Value) (k : Nat) : madeCells #[v] k = Array.replicate k v := by
  apply Array.ext
  · simp [madeCells]
  · intro i h1 h2
    simp [madeCells, Nat.mod_one]
theorem mk_ints (W : World) (L : Int) (k : Nat) (hL : L = (k : Int)) (hk : k ≤ 1000) :
    (Instr.makeSlice 51 (.int .i64 L) (.int .i64 L)).run Try.prog W = .ok (.slice (some ⟨W.heap.size, 0, none⟩) k k) (W.alloc (.cells (Array.replicate k (.int .i64 0)) 3)) := by
  obtain ⟨i0, hi, hz0, hz1, hz2⟩ := info_parts info3
  subst hL
  have := run_make (P := Try.prog) W 51 3 i0 _ Try.underlying51 hi hz0 .i64 .i64 (k : Int) (k : Int) (by omega) (Int.le_refl _) (by rw [hz2]; omega) (by omega)
  rw [hz1] at this
  have hm : madeCells (Value.int .i64 0).cells (k * 1) = Array.replicate k (.int .i64 0) := by
    rw [Nat.mul_one]
    exact madeOne _ k
  rw [Int.toNat_natCast, hm] at this
  exact this

def withinB (x lo hi : Int) : Bool := decide (lo ≤ x) && decide (x ≤ hi)
theorem within_any (x lo hi : Int) (w : World) : Calls Try.prog 20 #[.int .i64 x, .int .i64 lo, .int .i64 hi] w fun e w' => e = .returned (.bool (withinB x lo hi)) ∧ w = w' := by
  by_cases h1 : lo ≤ x
  all_goals
    go_enter Try.func20, Try.ntmps20
    go_wp2
    go_ret
    exact ⟨by simp [withinB, h1] <;> omega, rfl⟩

def studyE (T h : Int) : Int := firstE [rangeE 1 15 [T], rangeE 0 T [h]]
theorem studyError_any (T h : Int) (w : World) : Calls Try.prog 101 #[.int .i64 T, .int .i64 h] w fun e w' => e = .returned (.int .i64 (studyE T h)) ∧ Ext w w' := by
  go_enter Try.func101, Try.ntmps101
  go_wp2_with (go_at_call 79; refine (rangeError_any 1 15 _ [T] _ (ints_new _ [T] _ (by simp))).mono ?_; rintro e W1 ⟨rfl, hx⟩; have X1 := Lib.hid hx; clear hx; refine Hid.out ?_)
  refine Lib.hid ?_
  go_wp2_with (go_at_call 79; refine (rangeError_any 0 T _ [h] _ (ints_new _ [h] _ (by simp))).mono ?_; rintro e W2 ⟨rfl, hx⟩; have X2 := Lib.hid hx; clear hx; refine Hid.out ?_)
  refine Lib.hid ?_
  go_wp2_with (go_at_call 78; refine (firstOf_any _ [rangeE 1 15 [T], rangeE 0 T [h]] _ (ints_new _ [_, _] _ (by simp))).mono ?_; rintro e w' ⟨rfl, rfl⟩)
  go_ret
  exact ⟨rfl, (Ext.alloc _ _).trans (X1.out.trans ((Ext.alloc _ _).trans (X2.out.trans (Ext.alloc _ _))))⟩
def riskE (r : Int) : Int := rangeE 0 999 [r]
theorem riskError_any (r : Int) (w : World) : Calls Try.prog 103 #[.int .i64 r] w fun e w' => e = .returned (.int .i64 (riskE r)) ∧ Ext w w' := by
  go_enter Try.func103, Try.ntmps103
  go_wp2_with (go_at_call 79; refine (rangeError_any 0 999 _ [r] _ (ints_new _ [r] _ (by simp))).mono ?_; rintro e W1 ⟨rfl, hx⟩; have X1 := Lib.hid hx; clear hx)
  go_ret
  exact ⟨rfl, (Ext.alloc _ _).trans X1.out⟩

theorem study_ok {T h : Int} (e : studyE T h = 0) : 1 ≤ T ∧ T ≤ 15 ∧ 0 ≤ h ∧ h ≤ T := by
  have h1 := rangeE_zeros (firstE_zero e (rangeE 1 15 [T]) (by simp)) T (by simp)
  have h2 := rangeE_zeros (firstE_zero e (rangeE 0 T [h]) (by simp)) h (by simp)
  exact ⟨h1.1, h1.2, h2.1, h2.2⟩
def waysE (T h t : Int) : Int := firstE [studyE T h, rangeE 0 10 [t]]
/-- What a call answers: a number, or an error. -/
def orErr (e v : Int) : Value := .tuple #[.int .i64 (if e = 0 then v else 0), .int .i64 e]
def waysV (T h t : Int) : Int := (fw t.toNat T.toNat h.toNat : Nat)
set_option maxRecDepth 100000 in
theorem waysOf_any (T h t : Int) (w : World) : Calls Try.prog 53 #[.int .i64 T, .int .i64 h, .int .i64 t] w fun e w' => e = .returned (orErr (waysE T h t) (waysV T h t)) ∧ Ext w w' := by
  have HW := Lib.hid (fun W (e : waysE T h t = 0) => show Calls Try.prog 102 #[.int .i64 T, .int .i64 h, .int .i64 t] W fun e w' => e = .returned (.int .i64 (waysV T h t)) ∧ W = w' from by
    obtain ⟨h1, h2, h3, h4⟩ := study_ok (firstE_zero e (studyE T h) (by simp))
    have h5 := rangeE_zeros (firstE_zero e (rangeE 0 10 [t]) (by simp)) t (by simp)
    have := ways_any T.toNat h.toNat t.toNat (by omega) (by omega) (by omega) W
    rw [Int.toNat_of_nonneg (by omega), Int.toNat_of_nonneg (by omega), Int.toNat_of_nonneg (by omega)] at this
    exact this)
  have HE := Lib.hid (show waysE T h t = firstE [studyE T h, rangeE 0 10 [t]] from rfl)
  by_cases hz : waysE T h t = 0
  all_goals
    have hz2 : (waysE T h t != 0) = decide (¬ waysE T h t = 0) := by simp [bne, hz]
    simp only [hz] at hz2
    have HZ := Lib.hid hz
    clear hz
    generalize waysE T h t = z at *
    generalize waysV T h t = v at *
    go_enter Try.func53, Try.ntmps53
    go_wp2_with (go_at_call 101; refine (studyError_any T h _).mono ?_; rintro e W1 ⟨rfl, hx⟩; have X1 := Lib.hid hx; clear hx; refine Hid.out ?_)
    refine Lib.hid ?_
    go_wp2_with (go_at_call 79; refine (rangeError_any 0 10 _ [t] _ (ints_new _ [t] _ (by simp))).mono ?_; rintro e W2 ⟨rfl, hx⟩; have X2 := Lib.hid hx; clear hx; refine Hid.out ?_)
    refine Lib.hid ?_
    go_wp2_with (first
      | (go_at_call 78; refine (firstOf_any _ [studyE T h, rangeE 0 10 [t]] _ (ints_new _ [_, _] _ (by simp))).mono ?_; rintro e w' ⟨rfl, rfl⟩; rw [← HE.out]; (try rw [HZ.out]))
      | (go_at_call 102; refine (HW.out _ HZ.out).mono ?_; rintro e w' ⟨rfl, rfl⟩))
    go_ret2
    exact ⟨by simp [orErr, HZ.out], X1.out.trans ((Ext.alloc _ _).trans (X2.out.trans (Ext.alloc _ _)))⟩

end Go.Proofs.Ytmddnpagfgilcaa
