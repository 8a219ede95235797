/- FieldClasses: RangesOf where it errs; the comparison of ranges. -/
import Derived.Test.YtpaoeghdfeekoaaK38
namespace Go.Proofs.Ytpaoeghdfeekoaa
open Go.RowKit Go.Shelf Go.Mem Go.RegInv
attribute [local go_sem] RelUpon_value RelUpon_skip RelUpon_enter BigFrame.eval_const BigFrame.eval_global BigFrame.eval_func

/-- The error of RangesOf. -/
def rgE (t : Int) (ls : List Sh) (rs : List G) (f : Int) (q : Nat) (total : Int) : Int := firstE [(checkC t ls rs).2, driveE t ls f q, rangeE 0 100000 [total]]
set_option maxRecDepth 100000 in
set_option maxHeartbeats 4000000 in
theorem rangesOf_err (t : Int) (A : Option Addr) (n ca : Nat) (ls : List Sh) (hn : ls.length = n) (R : Option Addr) (m cr : Nat) (rs : List G) (hr : rs.length = m) (f : Int) (B : Option Addr) (q cb : Nat) (total : Int) (w : World)
    (hS : RowsAt 3 Sh.enc w A ls) (hR : RowsAt 2 G.enc w R rs) (hz : rgE t ls rs f q total ≠ 0) :
    Calls Try.prog 74 #[.agg #[.int .i64 t, .slice A n ca, .slice R m cr], .agg #[.int .i64 f, .slice B q cb], .int .i64 total] w fun e w' => e = .returned (.tuple #[.slice none 0 0, .int .i64 (rgE t ls rs f q total)]) ∧ Ext w w' := by
  obtain ⟨W0, hW0⟩ : ∃ W0, W0 = (w.alloc (.cells #[.int .i64 t, .slice A n ca, .slice R m cr] 120)).alloc (.cells #[.int .i64 f, .slice B q cb] 27) := ⟨_, rfl⟩
  have k0 : Blk W0 w.heap.size 120 #[.int .i64 t, .slice A n ca, .slice R m cr] := by rw [hW0]; exact (Blk.new _ _ _).alloc _
  have k1 : Blk W0 (w.heap.size + 1) 27 #[.int .i64 f, .slice B q cb] := by rw [hW0]; exact Blk.newAt _ _ _ (by simp)
  have e0 : Ext w W0 := by rw [hW0]; exact (Ext.alloc _ _).trans (Ext.alloc _ _)
  have HC := Lib.hid (fun W (e : Ext w W) => checkClass_any t A n ca ls hn R m cr rs hr W (hS.ext e) (hR.ext e))
  have HD := Lib.hid (fun W (e : Ext w W) => checkDrive_any t A n ca ls hn f B q cb W (hS.ext e))
  have HT := Lib.hid (fun W v (h : IntsAt W v [total]) => totalError_any v [total] W h)
  have HE := Lib.hid (show rgE t ls rs f q total = firstE [(checkC t ls rs).2, driveE t ls f q, rangeE 0 100000 [total]] from rfl)
  have E0 := Lib.hid e0
  generalize rgE t ls rs f q total = er at *
  generalize (checkC t ls rs).1 = c0 at *
  generalize (checkC t ls rs).2 = c1 at *
  generalize driveE t ls f q = c2 at *
  generalize rangeE 0 100000 [total] = c3 at *
  have hzb : (er != 0) = true := by simp [hz]
  have Z0 := Lib.hid (fun W (e : Ext W0 W) => (⟨(k0.ext e).cell 0, (k0.ext e).cell 1, (k0.ext e).cell 2, (k1.ext e).cell 0, (k1.ext e).cell 1⟩ : W.cell? ⟨w.heap.size, 0, none⟩ = some (.int .i64 t) ∧ W.cell? ⟨w.heap.size, 1, none⟩ = some (.slice A n ca) ∧ W.cell? ⟨w.heap.size, 2, none⟩ = some (.slice R m cr) ∧ W.cell? ⟨w.heap.size + 1, 0, none⟩ = some (.int .i64 f) ∧ W.cell? ⟨w.heap.size + 1, 1, none⟩ = some (.slice B q cb)))
  obtain ⟨z0, z1, z2, z3, z4⟩ := Z0.out W0 (Ext.refl _)
  clear hS hR hn hr hz k0 k1 e0
  go_enter Try.func74, Try.ntmps74
  go_wp2_with (first
    | (rw [← hW0]; clear hW0; go_at_call 72; refine (HC.out _ E0.out).mono ?_; rintro e W1 ⟨rfl, hx1⟩; have X1 := Lib.hid hx1; clear z0 z1 z2 z3 z4; obtain ⟨z0, z1, z2, z3, z4⟩ := Z0.out W1 hx1; clear hx1)
    | (go_at_call 20; refine (HD.out _ (E0.out.trans X1.out)).mono ?_; rintro e W2 ⟨rfl, hx2⟩; have X2 := Lib.hid (X1.out.trans hx2); clear z0 z1 z2 z3 z4 hx2; obtain ⟨z0, z1, z2, z3, z4⟩ := Z0.out W2 X2.out)
    | (go_at_call 101; refine (HT.out _ _ (ints_new _ [total] _ (by simp))).mono ?_; rintro e W3 ⟨rfl, hx3⟩; have X3 := Lib.hid (X2.out.trans ((Ext.alloc _ _).trans hx3)); clear z0 z1 z2 z3 z4 hx3; obtain ⟨z0, z1, z2, z3, z4⟩ := Z0.out W3 X3.out)
    | (go_at_call 83; refine (firstOf_any _ [c1, c2, c3] _ (ints_new _ [c1, c2, c3] _ (by simp))).mono ?_; rintro e W4 ⟨rfl, hx4⟩; have X4 := Lib.hid (show Ext W0 W4 by rw [← hx4]; exact X3.out.trans (Ext.alloc _ _)); rw [← HE.out]; clear z0 z1 z2 z3 z4 hx4))
  go_ret2
  exact ⟨rfl, E0.out.trans X4.out⟩

set_option maxRecDepth 100000 in
set_option maxHeartbeats 2000000 in
/-- Equal rows are found equal. -/
theorem sameRanges_any (g h n c c' : Nat) (cu cv : Array Value) (L : List G) (hl : L.length = n) (hn : n ≤ 100) (w : World) (hg : Blk w g 132 cu) (hh : Blk w h 132 cv) (hu : RowsIs cu n L) (hv : RowsIs cv n L) :
    Calls Try.prog 77 #[.slice (some ⟨g, 0, none⟩) n c, .slice (some ⟨h, 0, none⟩) n c'] w fun e w' => e = .returned (.bool true) ∧ Ext w w' := by
  have HL := Lib.hid hl
  have HG := Lib.hid hg
  have HH := Lib.hid hh
  have HU := Lib.hid hu
  have HV := Lib.hid hv
  clear hl hg hh hu hv
  go_enter Try.func77, Try.ntmps77
  go_wp2
  go_loopw [5] (fun i wr => ∃ k : Nat, k ≤ n ∧ i = .int .i64 k ∧ Ext w wr) (fun i _ => n - (intOf i).toNat)
  case atStart => exact ⟨0, Nat.zero_le _, rfl, Ext.refl _⟩
  case round =>
    obtain ⟨k, hk, rfl, hx⟩ := hrel
    have HX := Lib.hid hx
    by_cases hlt : k < n
    · obtain ⟨r, hr⟩ : ∃ r, L[k]? = some r := ⟨_, List.getElem?_eq_getElem (by rw [HL.out]; exact hlt)⟩
      obtain ⟨a1, a2⟩ := HU.out.2 k r hr
      obtain ⟨b1, b2⟩ := HV.out.2 k r hr
      have c0 : wr.cell? ⟨g, k * 2, none⟩ = some (.int .i64 r.re) := by rw [(HG.out.ext hx).cell]; exact a1
      have c1 : wr.cell? ⟨g, k * 2 + 1, none⟩ = some (.int .i64 r.im) := by rw [(HG.out.ext hx).cell]; exact a2
      have c2 : wr.cell? ⟨h, k * 2, none⟩ = some (.int .i64 r.re) := by rw [(HH.out.ext hx).cell]; exact b1
      have c3 : wr.cell? ⟨h, k * 2 + 1, none⟩ = some (.int .i64 r.im) := by rw [(HH.out.ext hx).cell]; exact b2
      have hki : (k : Int) < (n : Int) := by omega
      clear hx hr a1 a2 b1 b2
      generalize r.re = ra at *
      generalize r.im = rb at *
      go_wp2
      go_quiet (fail)
      go_wp2
      go_roundw
      case rel => exact ⟨k + 1, by omega, by go_num, HX.out.trans (Ext.drewN _ _)⟩
      case measure => simp [intOf]; omega
    · obtain rfl : n = k := by omega
      go_wp2
      go_ret
      exact ⟨rfl, HX.out⟩

end Go.Proofs.Ytpaoeghdfeekoaa
