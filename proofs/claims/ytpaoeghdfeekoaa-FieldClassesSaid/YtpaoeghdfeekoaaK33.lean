/- Classes: CheckClass. -/
import Derived.Test.YtpaoeghdfeekoaaK32
import Derived.Test.YtpaoeghdfeekoaaK24
namespace Go.Proofs.Ytpaoeghdfeekoaa
open Go.RowKit Go.Shelf Go.Mem Go.RegInv
attribute [local go_sem] RelUpon_value RelUpon_skip RelUpon_enter BigFrame.eval_const BigFrame.eval_global BigFrame.eval_func

def firstRg : List G → Nat → Int × Int
  | [], _ => (0, 0)
  | r :: rs, i => if endsE 1 4 r ≠ 0 then (i, endsE 1 4 r) else firstRg rs (i + 1)
theorem firstRg_drop (l : List G) (k : Nat) (s : G) (h : l[k]? = some s) : firstRg (l.drop k) k = if endsE 1 4 s ≠ 0 then ((k : Int), endsE 1 4 s) else firstRg (l.drop (k + 1)) (k + 1) := by
  obtain ⟨hk, e⟩ := List.getElem?_eq_some_iff.1 h
  rw [List.drop_eq_getElem_cons hk, e]
  rfl
/-- What CheckClass answers. -/
def checkC (t : Int) (ls : List Sh) (rs : List G) : Int × Int := if (checkL t ls).2 ≠ 0 then checkL t ls else if rs.length ≠ ls.length then (0, 10) else firstRg rs 0

set_option maxRecDepth 100000 in
set_option maxHeartbeats 2000000 in
theorem checkClass_any (t : Int) (A : Option Addr) (n ca : Nat) (ls : List Sh) (hn : ls.length = n) (R : Option Addr) (m cr : Nat) (rs : List G) (hm : rs.length = m) (w : World) (hS : RowsAt 3 Sh.enc w A ls) (hR : RowsAt 2 G.enc w R rs) :
    Calls Try.prog 72 #[.agg #[.int .i64 t, .slice A n ca, .slice R m cr]] w fun e w' => e = .returned (.tuple #[.int .i64 (checkC t ls rs).1, .int .i64 (checkC t ls rs).2]) ∧ Ext w w' := by
  obtain ⟨W0, hW0⟩ : ∃ W0, W0 = w.alloc (.cells #[.int .i64 t, .slice A n ca, .slice R m cr] 120) := ⟨_, rfl⟩
  have k0 : Blk W0 w.heap.size 120 #[.int .i64 t, .slice A n ca, .slice R m cr] := by rw [hW0]; exact Blk.new _ _ _
  have e0 : Ext w W0 := by rw [hW0]; exact Ext.alloc _ _
  have z0 : W0.cell? ⟨w.heap.size, 0, none⟩ = some (.int .i64 t) := k0.cell 0
  have z1 : W0.cell? ⟨w.heap.size, 1, none⟩ = some (.slice A n ca) := k0.cell 1
  have z2 : W0.cell? ⟨w.heap.size, 2, none⟩ = some (.slice R m cr) := k0.cell 2
  have HL := Lib.hid (checkLadder_any t A n ca ls hn W0 (hS.ext e0))
  have HC := Lib.hid (show checkC t ls rs = if (checkL t ls).2 ≠ 0 then ((checkL t ls).1, (checkL t ls).2) else if m ≠ n then (0, 10) else firstRg rs 0 by unfold checkC; rw [hn, hm])
  have K0 := Lib.hid k0
  have E0 := Lib.hid e0
  have HM := Lib.hid hm
  have HR := Lib.hid hR
  have hmb : m ≤ 1152921504606846976 := by have := hR.1; omega
  clear hn hm hS hR k0 e0
  generalize (checkL t ls).1 = c1 at *
  generalize (checkL t ls).2 = c2 at *
  by_cases hc : c2 = 0
  · have hcb : (c2 != 0) = false := by simp [hc]
    by_cases hmn : m = n
    · have hnb : ((m : Int) != (n : Int)) = false := by simp [hmn]
      have HR' := Lib.hid (show checkC t ls rs = firstRg rs 0 by rw [HC.out, if_neg (by simp [hc]), if_neg (by simp [hmn])])
      clear hc hmn HC
      go_enter Try.func72, Try.ntmps72
      go_wp2_with (rw [← hW0]; clear hW0; go_at_call 18; refine (HL.out).mono ?_; rintro e W1 ⟨rfl, hx⟩; have z2' := (K0.out.ext hx).cell 2; have z1' := (K0.out.ext hx).cell 1; have X1 := Lib.hid hx; clear hx)
      go_loopw [30] (fun i wr => ∃ k : Nat, k ≤ m ∧ i = .int .i64 k ∧ firstRg rs 0 = firstRg (rs.drop k) k ∧ Ext W1 wr) (fun i _ => m - (intOf i).toNat)
      case atStart => exact ⟨0, Nat.zero_le _, rfl, rfl, Ext.refl _⟩
      case round =>
        obtain ⟨k, hk, rfl, hr, hx⟩ := hrel
        have HF := Lib.hid hr
        have HX := Lib.hid hx
        clear hr hx
        by_cases hlt : k < m
        · obtain ⟨g, hg⟩ : ∃ g, rs[k]? = some g := ⟨_, List.getElem?_eq_getElem (by rw [HM.out]; exact hlt)⟩
          have HD := Lib.hid (firstRg_drop rs k g hg)
          obtain ⟨b, o, hA, hb, hc⟩ := HR.out.2 k g hg
          subst hA
          have c0 : wr.cell? ⟨b, o + k * 2, none⟩ = some (.int .i64 g.re) := (E0.out.trans (X1.out.trans HX.out)).cell (hc 0 _ rfl)
          have c1 : wr.cell? ⟨b, o + k * 2 + 1, none⟩ = some (.int .i64 g.im) := (E0.out.trans (X1.out.trans HX.out)).cell (hc 1 _ rfl)
          have HE := Lib.hid (fun W => endsError_any 1 4 g.re g.im W)
          have HG := Lib.hid (show endsE 1 4 ⟨g.re, g.im⟩ = endsE 1 4 g from rfl)
          rw [HG.out] at HE
          clear hg hc hb HG
          generalize endsE 1 4 g = z at HD HE
          generalize g.re = ga at *
          generalize g.im = gb at *
          have hki : (k : Int) < (m : Int) := by omega
          by_cases hz : z = 0
          · have hz' : (z != 0) = false := by simp [hz]
            have HZ := Lib.hid hz
            clear hz
            go_wp2_with (go_at_call 121; refine (HE.out _).mono ?_; rintro e W2 ⟨rfl, hx2⟩; have X2 := Lib.hid hx2; clear hx2)
            go_roundw
            case rel => exact ⟨k + 1, by omega, by go_num, by rw [HF.out, HD.out, if_neg (by simp [HZ.out])], HX.out.trans ((Ext.alloc _ _).trans X2.out)⟩
            case measure => simp [intOf]; omega
          · have hz' : (z != 0) = true := by simp [hz]
            have HZ := Lib.hid hz
            clear hz
            go_wp2_with (go_at_call 121; refine (HE.out _).mono ?_; rintro e W2 ⟨rfl, hx2⟩; have X2 := Lib.hid hx2; clear hx2)
            have HA := Lib.hid (show checkC t ls rs = ((k : Int), z) by rw [HR'.out, HF.out, HD.out, if_pos HZ.out])
            rw [HA.out]
            go_ret2
            exact ⟨rfl, E0.out.trans (X1.out.trans (HX.out.trans ((Ext.alloc _ _).trans X2.out)))⟩
        · have HA := Lib.hid (show checkC t ls rs = (0, 0) by rw [HR'.out, HF.out, List.drop_of_length_le (by rw [HM.out]; omega)]; rfl)
          go_wp2
          rw [HA.out]
          go_ret2
          exact ⟨rfl, E0.out.trans (X1.out.trans HX.out)⟩
    · have hnb : ((m : Int) != (n : Int)) = true := by simp; omega
      have HA := Lib.hid (show checkC t ls rs = (0, 10) by rw [HC.out, if_neg (by simp [hc]), if_pos hmn])
      rw [HA.out]
      clear hc hmn HC HA
      go_enter Try.func72, Try.ntmps72
      go_wp2_with (rw [← hW0]; clear hW0; go_at_call 18; refine (HL.out).mono ?_; rintro e W1 ⟨rfl, hx⟩; have z2' := (K0.out.ext hx).cell 2; have z1' := (K0.out.ext hx).cell 1; have X1 := Lib.hid hx; clear hx)
      go_ret2
      exact ⟨rfl, E0.out.trans X1.out⟩
  · have hcb : (c2 != 0) = true := by simp [hc]
    have HA := Lib.hid (show checkC t ls rs = (c1, c2) by rw [HC.out, if_pos hc])
    rw [HA.out]
    clear hc HC HA
    go_enter Try.func72, Try.ntmps72
    go_wp2_with (rw [← hW0]; clear hW0; go_at_call 18; refine (HL.out).mono ?_; rintro e W1 ⟨rfl, hx⟩; have X1 := Lib.hid hx; clear hx)
    go_ret2
    exact ⟨rfl, E0.out.trans X1.out⟩

end Go.Proofs.Ytpaoeghdfeekoaa
