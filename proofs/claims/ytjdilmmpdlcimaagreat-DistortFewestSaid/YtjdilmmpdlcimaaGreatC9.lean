/- Concat. -/
import Derived.Test.YtjdilmmpdlcimaaGreatQ1
import Derived.Test.YtjdilmmpdlcimaaGreatP0
import Derived.Laws.AppendOwn
import Derived.Laws.AppendOwnNone
import Derived.Lib.MinMax
import Derived.Deep.DeepCutAuto
import Derived.Lib.AppendZerosOnto

namespace Go.Proofs.YtjdilmmpdlcimaaGreat
open Go.RowKit Go.Shelf Go.Mem Go.RegInv
attribute [local go_sem] RelUpon_value RelUpon_skip RelUpon_enter BigFrame.eval_const BigFrame.eval_global BigFrame.eval_func


theorem zero_size (z : Array Value) (n : Nat) : (Builtin.zeroCells z n).size = n * z.size := by
  simp [Builtin.zeroCells]
set_option maxRecDepth 100000 in
set_option maxHeartbeats 1000000 in
theorem growNil_any (m : Nat) (h0 : 0 < m) (hm : m ≤ 100) (w : World) :
    Calls Tryz.prog 83 #[.slice none 0 0, .int .i64 (m : Int)] w fun e w' => ∃ A c, e = .returned (.slice A 0 c) ∧ w'.ownsRow w.heap.size 68 3 (.slice A 0 c) 0 [] ∧ Ext w w' := by
  obtain ⟨i0, hi0, hz0, ha0, hb0⟩ := info_parts infoSkG
  have hold : (Builtin.firstCells i0.size 0 (.slice none 0 0)).run Tryz.prog w.drew = .ok (([] : List Value).toArray) w.drew := by
    simp [Builtin.firstCells]
  have hrz : ∀ ty, (Builtin.append_ #[32, 3] ty #[.slice none 0 0, .int .i64 (m : Int)]).run Tryz.prog w =
      .ok (.slice (some ⟨w.heap.size, 0, none⟩) (0 + m) (grownCap w (0 + m) 0 68)) (w.drew.alloc (.cells (([] : List Value).toArray ++ Builtin.zeroCells (Value.agg #[.int .i64 0, .int .i64 0, .bool false]).cells m ++ Builtin.zeroCells (Value.agg #[.int .i64 0, .int .i64 0, .bool false]).cells (grownCap w (0 + m) 0 68 - (0 + m))) 68)) := fun ty =>
    Lib.run_append_grow_zeros w 32 3 ty 68 i0 (Value.agg #[.int .i64 0, .int .i64 0, .bool false]) .i64 .i64 Tryz.underlying32 Tryz.underlying3 hi0 hz0 none 0 0 [] hold m h0 (by omega) (by omega) (by omega) (by rw [hb0]; omega) (by rw [hb0]; exact growslice_fits (by omega) (by omega))
  have hGn : 0 + m ≤ grownCap w (0 + m) 0 68 := grownCap_ge w _ _ _
  have hGM : grownCap w (0 + m) 0 68 ≤ maxLen := grownCap_le_maxLen w (0 + m) 0 68 (by unfold maxLen; omega)
  obtain ⟨G, hG⟩ : ∃ G, G = grownCap w (0 + m) 0 68 := ⟨_, rfl⟩
  rw [← hG] at hrz hGn hGM
  have hG63 : G ≤ 9223372036854775807 := by unfold maxLen at hGM; omega
  have HSZ : Hid ((([] : List Value).toArray ++ Builtin.zeroCells (Value.agg #[.int .i64 0, .int .i64 0, .bool false]).cells m ++ Builtin.zeroCells (Value.agg #[.int .i64 0, .int .i64 0, .bool false]).cells (G - (0 + m))).size = G * 3) := Lib.hid (by
    rw [Array.size_append, Array.size_append, zero_size, zero_size]
    have : (Value.agg #[.int .i64 0, .int .i64 0, .bool false]).cells.size = 3 := by rfl
    rw [this]
    simp
    omega)
  have HGM := Lib.hid hGM
  generalize (([] : List Value).toArray ++ Builtin.zeroCells (Value.agg #[.int .i64 0, .int .i64 0, .bool false]).cells m ++ Builtin.zeroCells (Value.agg #[.int .i64 0, .int .i64 0, .bool false]).cells (G - (0 + m))) = cur at *
  clear hold hG hGM
  go_enter Tryz.func83, Tryz.ntmps83
  go_wp2_with (at_builtin; refine Lib.wpList_append_run _ rfl _ _ _ _ rfl _ _ rfl rfl _ _ (hrz _) ?_)
  all_goals
    go_ret
    exact ⟨_, _, rfl, World.ownsRow_made w.drew cur G (Nat.le_refl _) HGM.out HSZ.out, (Ext.drew _).trans (Ext.alloc _ _)⟩

def catS (N k : Nat) : Nat := if k = 0 then 0 else if k = 1 then N else N + 1
def catL (xs : List Sk) (x : Sk) (k : Nat) : List Sk := if k = 0 then [] else if k = 1 then xs else xs ++ [x]
theorem catL_len (xs : List Sk) (x : Sk) (k : Nat) : (catL xs x k).length = catS xs.length k := by
  unfold catL catS
  split
  · rfl
  · split <;> simp
theorem sk_len (xs : List Sk) : (xs.flatMap Sk.enc).length = xs.length * 3 := flat_lenG (k := 3) (enc := Sk.enc) (fun _ => rfl) xs
set_option maxRecDepth 100000 in
set_option maxHeartbeats 1000000 in
theorem concat2_any {A : Option Addr} {N ca q b o c1 : Nat} {xs : List Sk} {x : Sk} {w : World} (hN : xs.length = N) (h10 : N ≤ 10) (hA : RowsAt 3 Sk.enc w A xs) (hx : RowsAt 3 Sk.enc w (some ⟨b, o, none⟩) [x]) (hnil : A = none → ca = 0)
    (h0 : w.cell? ⟨q, 0, none⟩ = some (.slice A N ca)) (h1 : w.cell? ⟨q, 1, none⟩ = some (.slice (some ⟨b, o, none⟩) 1 c1)) :
    Calls Tryz.prog 52 #[.slice (some ⟨q, 0, none⟩) 2 2] w fun e w' => ∃ A' c', e = .returned (.slice A' (N + 1) c') ∧ RowsAt 3 Sk.enc w' A' (xs ++ [x]) ∧ (A' = none → c' = 0) ∧ Ext w w' := by
  obtain ⟨i0, hi0, hz0, ha0, hb0⟩ := info_parts infoSkG
  have I0 := Lib.hid hz0
  have HA := Lib.hid hA
  have HX := Lib.hid hx
  have HN := Lib.hid hN
  have HL := Lib.hid hnil
  have H0 := Lib.hid h0
  have H1 := Lib.hid h1
  clear hA hx hN hnil h0 h1 hz0
  go_enter Tryz.func52, Tryz.ntmps52
  go_wp2
  go_loopw [3, 11] (fun s i wr => ∃ k : Nat, k ≤ 2 ∧ i = .int .i64 (k : Int) ∧ s = .int .i64 (catS N k : Nat) ∧ Hid (w = wr)) (fun _ i _ => 2 - (intOf i).toNat)
  case atStart => exact ⟨0, by omega, rfl, rfl, by first | exact Lib.hid rfl | exact Lib.hid trivial⟩
  case round =>
    obtain ⟨k, hk, rfl, rfl, hw⟩ := hrel
    have hww : w = wr := hw.out
    subst hww
    have y0 := H0.out
    have y1 := H1.out
    rcases (show k = 0 ∨ k = 1 ∨ k = 2 by omega) with rfl | rfl | rfl
    · have e1 : ((catS N 0 : Nat) : Int) = 0 := rfl
      rw [e1]
      have hd : decide ((N : Int) < 0) = false := by simp
      go_wp2
      go_roundw
      case rel => exact ⟨1, by omega, rfl, rfl, by first | exact Lib.hid rfl | exact Lib.hid trivial⟩
      case measure => simp [intOf]
    · have e1 : ((catS N 1 : Nat) : Int) = (N : Int) := rfl
      rw [e1]
      have hd : decide ((N : Int) + 1 < 0) = false := by simp; omega
      go_wp2
      go_roundw
      case rel => exact ⟨2, by omega, rfl, rfl, by first | exact Lib.hid rfl | exact Lib.hid trivial⟩
      case measure => simp [intOf]
    · have e1 : ((catS N 2 : Nat) : Int) = ((N + 1 : Nat) : Int) := rfl
      rw [e1]
      have HG := Lib.hid (growNil_any (N + 1) (by omega) (by omega) w)
      generalize hm : N + 1 = m at *
      have HM := Lib.hid hm
      clear hm
      go_wp2_with (go_at_call 83; refine HG.out.mono ?_; rintro e W1 ⟨R0, c0, rfl, ho, hx⟩; have X := Lib.hid hx; have O := Lib.hid ho; clear ho hx y0 y1; refine Hid.out ?_)
      refine Lib.hid ?_
      clear HG
      go_wp2
      go_loopw [6, 27] (fun s i wr => ∃ (k c : Nat) (R : Option Addr), k ≤ 2 ∧ i = .int .i64 (k : Int) ∧ s = .slice R (catS N k) c ∧ wr.ownsRow w.heap.size 68 3 (.slice R (catS N k) c) (catS N k) ((catL xs x k).flatMap Sk.enc) ∧ Ext w wr) (fun _ i _ => 2 - (intOf i).toNat)
      case atStart => exact ⟨0, c0, R0, by omega, rfl, rfl, O.out, X.out⟩
      case round =>
        clear X O
        obtain ⟨k, c, R, hk, rfl, rfl, ho, hx⟩ := hrel
        have X := Lib.hid hx
        have O := Lib.hid ho
        clear hx ho
        have y0 : wr.cell? ⟨q, 0, none⟩ = some (.slice A N ca) := X.out.cell H0.out
        have y1 : wr.cell? ⟨q, 1, none⟩ = some (.slice (some ⟨b, o, none⟩) 1 c1) := X.out.cell H1.out
        have SZ := Lib.hid (show w.heap.size ≤ wr.heap.size from X.out.size)
        rcases (show k = 0 ∨ k = 1 ∨ k = 2 by omega) with rfl | rfl | rfl
        · have O0 : Hid (wr.ownsRow w.heap.size 68 3 (.slice R 0 c) 0 []) := Lib.hid O.out
          rw [show catS N 0 = 0 from rfl]
          clear O
          cases A with
          | none =>
            have hz : N = 0 ∧ xs = [] := by
              have := HA.out
              have hn := HN.out
              cases xs with
              | nil => exact ⟨by simpa using hn.symm, rfl⟩
              | cons a l => obtain ⟨b', o', h, -⟩ := row_at this (i := 0) (x := a) rfl; cases h
            obtain ⟨rfl, rfl⟩ := hz
            obtain rfl := HL.out rfl
            go_wp2_with (at_builtin; refine wpList_append_own_none rfl _ _ 32 rfl w.heap.size 68 i0 3 Tryz.underlying32 hi0 _ _ _ rfl O0.out rfl ?_)
            go_roundw
            case rel => exact ⟨1, c, R, by omega, rfl, rfl, O0.out, X.out⟩
            case measure => simp [intOf]
          | some ad =>
            have hnews : ∀ j u, (xs.flatMap Sk.enc)[j]? = some u → wr.cell? (ad.add j) = some u := fun j u hu => by
              obtain ⟨s, hs, hj⟩ := flat_idx (k := 3) (enc := Sk.enc) (by decide) (fun _ => rfl) xs j u hu
              obtain ⟨b', o', e', _, hc⟩ := HA.out.2 _ s hs
              obtain rfl : ad = ⟨b', o', none⟩ := by simpa using e'
              have := X.out.cell (hc _ _ hj)
              have hdm := Nat.div_add_mod j 3
              rw [WideShapes.add_plain, show o' + j = o' + j / 3 * 3 + j % 3 by omega]; exact this
            have HNW := Lib.hid hnews
            clear hnews
            go_wp2_with (at_builtin; refine wpList_append_own _ rfl _ _ 32 rfl w.heap.size 68 i0 (Value.agg #[.int .i64 0, .int .i64 0, .bool false]) 3 24 Tryz.underlying32 hi0 I0.out ha0 hb0 rfl (by decide) _ _ _ rfl O0.out ad N ca (xs.flatMap Sk.enc) rfl (by rw [sk_len, HN.out]) HNW.out (flat_one Sk_one xs) (by unfold maxLen; omega) (by omega) (by have := SZ.out; omega) ?_; intro v' w1 hown' hgrow _; have E1 := Lib.hid (Ext.grownBy X.out hgrow (fun g hg => own_base O0.out hg)); obtain ⟨A', c', hv'⟩ := own_slice hown'; rw [Nat.zero_add] at hv'; subst hv'; rw [Nat.zero_add, List.nil_append] at hown'; have O1 := Lib.hid hown'; clear hown' hgrow)
            go_roundw
            case rel => exact ⟨1, c', A', by omega, rfl, rfl, O1.out, E1.out⟩
            case measure => simp [intOf]
        · have O0 : Hid (wr.ownsRow w.heap.size 68 3 (.slice R N c) N (xs.flatMap Sk.enc)) := Lib.hid O.out
          rw [show catS N 1 = N from rfl]
          clear O
          have hnews : ∀ j u, (Sk.enc x)[j]? = some u → wr.cell? ((⟨b, o, none⟩ : Addr).add j) = some u := fun j u hu => by
            obtain ⟨b', o', e', _, hc⟩ := HX.out.2 0 x rfl
            obtain ⟨rfl, rfl⟩ : b = b' ∧ o = o' := by simpa using e'
            have := X.out.cell (hc j u hu)
            rw [WideShapes.add_plain]
            simpa using this
          have HNW := Lib.hid hnews
          clear hnews
          go_wp2_with (at_builtin; refine wpList_append_own _ rfl _ _ 32 rfl w.heap.size 68 i0 (Value.agg #[.int .i64 0, .int .i64 0, .bool false]) 3 24 Tryz.underlying32 hi0 I0.out ha0 hb0 rfl (by decide) _ _ _ rfl O0.out ⟨b, o, none⟩ 1 c1 (Sk.enc x) rfl rfl HNW.out (Sk_one x) (by unfold maxLen; omega) (by omega) (by have := SZ.out; omega) ?_; intro v' w1 hown' hgrow _; have E1 := Lib.hid (Ext.grownBy X.out hgrow (fun g hg => own_base O0.out hg)); obtain ⟨A', c', hv'⟩ := own_slice hown'; subst hv'; have O1 := Lib.hid hown'; clear hown' hgrow)
          go_roundw
          case rel => exact ⟨2, c', A', by omega, rfl, rfl, (by have := O1.out; rwa [show xs.flatMap Sk.enc ++ Sk.enc x = (xs ++ [x]).flatMap Sk.enc by simp [List.flatMap_append]] at this), E1.out⟩
          case measure => simp [intOf]
        · have R1 : Hid (RowsAt 3 Sk.enc wr R (xs ++ [x])) := Lib.hid (rows_own (n := N + 1) (c := c) (e := 68) (base := w.heap.size) (by have := HN.out; simp; omega) (fun _ => rfl) O.out (by omega))
          have N2 := Lib.hid (show R = none → c = 0 from fun hr => by
            rcases O.out.2 with ⟨h2, _⟩ | ⟨g, cap, cu, h2, _⟩
            · simpa using congrArg (fun v => match v with | Value.slice _ _ c => c | _ => 0) h2
            · rw [hr] at h2; simp at h2)
          rw [show catS N 2 = N + 1 from rfl]
          clear O
          go_wp2
          go_ret
          exact ⟨R, c, rfl, R1.out, N2.out, X.out⟩

end Go.Proofs.YtjdilmmpdlcimaaGreat
