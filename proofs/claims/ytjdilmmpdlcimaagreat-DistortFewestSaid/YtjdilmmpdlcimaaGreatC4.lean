/- Whether strokes at a joint go too far. -/
import Derived.Test.YtjdilmmpdlcimaaGreatC3
import Derived.Lib.MinMax
import Derived.Deep.DeepCutAuto

namespace Go.Proofs.YtjdilmmpdlcimaaGreat
open Go.RowKit Go.Shelf Go.Mem Go.RegInv
attribute [local go_sem] RelUpon_value RelUpon_skip RelUpon_enter BigFrame.eval_const BigFrame.eval_global BigFrame.eval_func


def overB (li n : Int) : Bool := decide (li < n)
theorem over1 (n li : Int) (tb : Nat) (w : World) (ha : w.cell? ⟨tb, 3, none⟩ = some (.int .i64 li)) :
    Calls Tryz.prog 80 #[.int .i64 n, .pointer (some ⟨tb, 0, none⟩)] w fun e w' => e = .returned (.bool (overB li n)) ∧ w = w' := by
  go_enter Tryz.func80, Tryz.ntmps80
  go_wp2
  go_ret
  exact ⟨rfl, rfl⟩
set_option maxHeartbeats 400000 in
theorem indexOver_any (v : Value) (li : Int) (tb : Nat) (xs : List Int) (w : World) (hx : IntsAt w v xs) (ha : w.cell? ⟨tb, 3, none⟩ = some (.int .i64 li)) :
    Calls Tryz.prog 90 #[v, .func (.func 80) #[] #[.pointer (some ⟨tb, 0, none⟩)]] w fun e w' => e = .returned (.int .i64 (idxFrom (overB li) xs 0)) ∧ w = w' := by
  have HF := Lib.hid (fun n => over1 n li tb w ha)
  clear ha
  generalize overB li = p at HF
  rcases hx with ⟨ao, cap, rfl, rfl⟩ | ⟨bl, o, cap, rfl, hbl, hm, hc⟩
  · go_enter Tryz.func90, Tryz.ntmps90
    go_wp2
    refine wp_loop_rounds 1 ?_
    rw [rounds_succ]
    go_wp2
    go_ret
    exact ⟨rfl, rfl⟩
  · have HC := Lib.hid hc
    clear hc
    go_enter Tryz.func90, Tryz.ntmps90
    go_wp2
    go_loop [8] (fun i => ∃ k : Nat, k ≤ xs.length ∧ i = .int .i64 k ∧ idxFrom p xs 0 = idxFrom p (xs.drop k) k) (fun i => xs.length - (intOf i).toNat)
    case atStart => exact ⟨0, Nat.zero_le _, rfl, rfl⟩
    case round =>
      obtain ⟨k, hk, rfl, hr⟩ := hrel
      have HR := Lib.hid hr
      clear hr
      by_cases hlt : k < xs.length
      · have hc := HC.out k hlt
        have HD := Lib.hid (idxFrom_drop p xs k hlt)
        generalize hxk : xs.getD k 0 = x at hc HD
        clear hxk
        cases hz : p x
        · have HZ := Lib.hid hz
          clear hz
          go_wp2_with (go_at_call 80; refine (HF.out _).mono ?_; rintro e w' ⟨rfl, rfl⟩; rw [HZ.out])
          go_round
          case rel => exact ⟨k + 1, by omega, by go_num, by rw [HR.out, HD.out, if_neg (by simp [HZ.out])]⟩
          case measure => simp [intOf]; omega
        · have HZ := Lib.hid hz
          clear hz
          go_wp2_with (go_at_call 80; refine (HF.out _).mono ?_; rintro e w' ⟨rfl, rfl⟩; rw [HZ.out])
          go_ret
          exact ⟨ret_int (by rw [HR.out, HD.out, if_pos HZ.out]), rfl⟩
      · have he : idxFrom p (xs.drop k) k = -1 := by rw [List.drop_of_length_le (by omega)]; rfl
        have HE := Lib.hid he
        clear he
        go_wp2
        go_ret
        exact ⟨ret_int (by rw [HR.out, HE.out]), rfl⟩

theorem containsOver_any (v : Value) (li : Int) (tb : Nat) (xs : List Int) (w : World) (hx : IntsAt w v xs) (ha : w.cell? ⟨tb, 3, none⟩ = some (.int .i64 li)) :
    Calls Tryz.prog 64 #[v, .func (.func 80) #[] #[.pointer (some ⟨tb, 0, none⟩)]] w fun e w' => e = .returned (.bool (xs.any (overB li))) ∧ w = w' := by
  have HC := Lib.hid (indexOver_any v li tb xs w hx ha)
  have HI := Lib.hid (idxFrom_any (overB li) xs 0)
  clear ha hx
  generalize idxFrom (overB li) xs 0 = n at HC HI
  go_enter Tryz.func64, Tryz.ntmps64
  go_wp2_with (go_at_call 90; refine HC.out.mono ?_; rintro e w' ⟨rfl, rfl⟩)
  go_ret
  exact ⟨ret_bool (by rw [← HI.out]), rfl⟩


theorem amountOf_any (x : Sk) (w : World) : Calls Tryz.prog 79 #[.agg #[.int .i64 x.j, .int .i64 x.a, .bool x.u]] w fun e w' => e = .returned (.int .i64 x.a) ∧ Ext w w' := by
  obtain ⟨W0, hW0⟩ : ∃ W0, W0 = w.alloc (.cells #[.int .i64 x.j, .int .i64 x.a, .bool x.u] 68) := ⟨_, rfl⟩
  have K0 := Lib.hid (show Blk W0 (w.heap.size) 68 #[.int .i64 x.j, .int .i64 x.a, .bool x.u] by rw [hW0]; exact Blk.new _ _ _)
  have E0 := Lib.hid (show Ext w W0 by rw [hW0]; exact Ext.alloc _ _)
  have y0_0 : W0.cell? ⟨w.heap.size, 0, none⟩ = some (.int .i64 x.j) := K0.out.cell 0
  have y0_1 : W0.cell? ⟨w.heap.size, 1, none⟩ = some (.int .i64 x.a) := K0.out.cell 1
  have y0_2 : W0.cell? ⟨w.heap.size, 2, none⟩ = some (.bool x.u) := K0.out.cell 2
  go_enter Tryz.func79, Tryz.ntmps79
  go_upto_region 1 with (fail)
  rw [← hW0]
  clear hW0
  go_wp2
  go_ret
  exact ⟨rfl, E0.out⟩
def fullB (li : Int) (xs : List Sk) (n : Nat) : Bool := (sumL (fun x => x.a) xs n).any (overB li)
set_option maxRecDepth 100000 in
set_option maxHeartbeats 1000000 in
theorem fullError_any {L : Int} {J K : Option Addr} {n m cj ck : Nat} {P : Option Addr} {np cp : Nat} {sp ga li : Int} {w : World} {A : Option Addr} {N ca : Nat} {xs : List Sk} (hn6 : n ≤ 1000) (hN : xs.length = N) (hA : RowsAt 3 Sk.enc w A xs) (h10 : N ≤ 10)
    (hj : ∀ k, k < N → 0 ≤ (xs.getD k default).j ∧ (xs.getD k default).j < n) (ha : ∀ k, k < N → 0 ≤ (xs.getD k default).a ∧ (xs.getD k default).a ≤ 10000) :
    Calls Tryz.prog 50 #[.agg #[.int .i64 L, .slice J n cj, .slice K m ck], .agg #[.slice P np cp, .int .i64 sp, .int .i64 ga, .int .i64 li], .slice A N ca] w fun e w' => e = .returned (.int .i64 (errIf (fullB li xs n) 16)) ∧ Ext w w' := by
  have HS := Lib.hid (fun W (e : Ext w W) => sums_any (L := L) (J := J) (K := K) (m := m) (cj := cj) (ck := ck) (ca := ca) (g := 79) (cp := #[]) (f := fun x => x.a) hn6 hN (hA.ext e) h10 hj (fun k hk => by have := ha k hk; omega) (fun args W => by go_simp) (fun k x W _ _ _ => amountOf_any x W))
  unfold fullB
  generalize sumL (fun x => x.a) xs n = ys at *
  clear hN hA h10 hj ha
  obtain ⟨W0, hW0⟩ : ∃ W0, W0 = (w.alloc (.cells #[.int .i64 L, .slice J n cj, .slice K m ck] 75)).alloc (.cells #[.slice P np cp, .int .i64 sp, .int .i64 ga, .int .i64 li] 27) := ⟨_, rfl⟩
  have K0 := Lib.hid (show Blk W0 (w.heap.size) 75 #[.int .i64 L, .slice J n cj, .slice K m ck] by rw [hW0]; exact (Blk.new _ _ _).alloc _)
  have K1 := Lib.hid (show Blk W0 (w.heap.size + 1) 27 #[.slice P np cp, .int .i64 sp, .int .i64 ga, .int .i64 li] by rw [hW0]; exact Blk.newAt _ _ _ (by simp))
  have E0 := Lib.hid (show Ext w W0 by rw [hW0]; exact (Ext.alloc _ _).trans (Ext.alloc _ _))
  have y0_0 : W0.cell? ⟨w.heap.size, 0, none⟩ = some (.int .i64 L) := K0.out.cell 0
  have y0_1 : W0.cell? ⟨w.heap.size, 1, none⟩ = some (.slice J n cj) := K0.out.cell 1
  have y0_2 : W0.cell? ⟨w.heap.size, 2, none⟩ = some (.slice K m ck) := K0.out.cell 2
  have y1_0 : W0.cell? ⟨w.heap.size + 1, 0, none⟩ = some (.slice P np cp) := K1.out.cell 0
  have y1_1 : W0.cell? ⟨w.heap.size + 1, 1, none⟩ = some (.int .i64 sp) := K1.out.cell 1
  have y1_2 : W0.cell? ⟨w.heap.size + 1, 2, none⟩ = some (.int .i64 ga) := K1.out.cell 2
  have y1_3 : W0.cell? ⟨w.heap.size + 1, 3, none⟩ = some (.int .i64 li) := K1.out.cell 3
  go_enter Tryz.func50, Tryz.ntmps50
  go_upto_region 1 with (fail)
  rw [← hW0]
  clear hW0
  go_wp2_with (first
    | (go_at_call 78; refine (HS.out _ E0.out).mono ?_; rintro e W1 ⟨q, rfl, hi, hs, hb, hx⟩; have X := Lib.hid (E0.out.trans hx); have IA := Lib.hid hi; replace K1 := Lib.hid (K1.out.ext hx); clear hi hs hb hx)
    | (go_at_call 64; refine (containsOver_any _ li (w.heap.size + 1) ys _ IA.out (K1.out.cell 3)).mono ?_; rintro e W2 ⟨rfl, rfl⟩)
    | (go_at_call 63; refine (errorIf_any _ _ _).mono ?_; rintro e w' ⟨rfl, rfl⟩))
  go_ret
  exact ⟨rfl, X.out⟩

end Go.Proofs.YtjdilmmpdlcimaaGreat
