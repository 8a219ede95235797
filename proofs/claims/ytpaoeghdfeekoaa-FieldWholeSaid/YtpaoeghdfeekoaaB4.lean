/- The depth for a percentage. -/
import Derived.Test.YtpaoeghdfeekoaaB3
namespace Go.Proofs.Ytpaoeghdfeekoaa
open Go.RowKit Go.Shelf Go.Mem Go.RegInv
attribute [local go_sem] Oper.semAt_some

/-- The first number of shells whose powers together are enough. -/
def IsDepth (l : List Int) (pc : Int) (d : Nat) : Prop := d ≤ l.length ∧ (∀ j, j < d → 100 * (l.take j).sum < pc * l.sum) ∧ (d < l.length → pc * l.sum ≤ 100 * (l.take d).sum)

structure StD (w : World) (q : Nat) (pc : Int) (l : List Int) (k : Nat) (W : World) : Prop where
  b3 : Blk W w.heap.size 3 #[.int .i64 pc]
  b5 : Blk W q 3 #[.int .i64 l.sum]
  b6 : Blk W (q + 1) 3 #[.int .i64 (k : Int)]
  b7 : Blk W (q + 1 + 1) 3 #[.int .i64 (l.take k).sum]
  below : Ext w W
  lt : w.heap.size < q
  less : ∀ j, j < k → 100 * (l.take j).sum < pc * l.sum

theorem StD.keep {w A B : World} {q : Nat} {pc : Int} {l : List Int} {k : Nat} (h : StD w q pc l k A) (hc : CellsKept A B) (hb : Below w.heap.size A B) : StD w q pc l k B :=
  ⟨hc.blk h.b3, hc.blk h.b5, hc.blk h.b6, hc.blk h.b7, Below.trans h.below hb, h.lt, h.less⟩

set_option maxRecDepth 100000 in
set_option maxHeartbeats 2000000 in
theorem depthOf_in (gf : FuncId) (first lb : Array Value) (eg : ∀ args w, (callFunc gf args).run Try.prog w = .ok (.enter gf args) w) (full : List Int) (n : Nat) (hn : full.length = n) (hn5 : n ≤ 1000) (pc : Int) (w : World)
    (hit : ∀ W, Ext w W → IterAt Try.prog 4 gf first lb encInt full Kp37 W)
    (ht : 1 ≤ pc ∧ pc ≤ 100) (hs : 0 < full.sum ∧ full.sum ≤ 40000000000000) (hb : ∀ k, 0 ≤ (full.take k).sum ∧ (full.take k).sum ≤ full.sum) :
    CallsIn Fence.wide 5 Try.prog 104 #[.func (.func gf) first lb, .int .i64 pc] w fun e w' => ∃ d : Nat, e = .returned (.int .i64 (d : Int)) ∧ IsDepth full pc d ∧ Ext w w' := by
  have hps : 0 ≤ pc * full.sum ∧ pc * full.sum ≤ 4000000000000000 := by
    have h3 : pc * full.sum ≤ 100 * full.sum := Int.mul_le_mul_of_nonneg_right ht.2 (by omega)
    exact ⟨Int.mul_nonneg (by omega) (by omega), by omega⟩
  have HPS := Lib.hid hps
  have HS := Lib.hid hs
  have HB := Lib.hid hb
  have HIT := Lib.hid hit
  have HEG := Lib.hid eg
  have HN := Lib.hid hn
  have HSUM := Lib.hid (sumOf_in gf first lb eg full Kp37 (w.alloc (.cells #[.int .i64 pc] 3)) (Kp37.fits _) (fun W u v b => Kp37.set b (.inl rfl) 0 v) (hit _ ((Ext.alloc _ _).trans (Ext.alloc _ _))) (fun k => by have := hb k; unfold Big; omega))
  clear ht hs hb hit eg hn hps
  refine callsIn_of_wp_marks Try.func104 rfl trivial ?_ rfl
  simp only [Try.ntmps104, List.size_toArray, List.length_cons, List.length_nil, Nat.reduceAdd, Nat.reduceSub, Array.replicate_succ, Array.replicate_zero, List.push_toArray, List.append_toArray, List.nil_append, List.cons_append]
  gi_wp2_with (refine ⟨trivial, ?_⟩; gi_at_call 98; refine (callsIn_wide.2 (callsIn_wide.1 HSUM.out)).mono ?_; rintro e Wq ⟨rfl, hx⟩)
  have hwq := hx.size
  simp only [World.size_alloc] at hwq
  have b3 := (Blk.new w 3 #[.int .i64 pc]).ext hx
  have hst : StD w Wq.heap.size pc full 0 (((Wq.alloc (.cells #[.int .i64 full.sum] 3)).alloc (.cells #[.int .i64 0] 3)).alloc (.cells #[.int .i64 0] 3)) := by
    refine ⟨((b3.alloc _).alloc _).alloc _, ((Blk.new _ _ _).alloc _).alloc _, (Blk.newAt _ _ _ (by simp)).alloc _, Blk.newAt _ _ _ (by simp), ?_, by omega, fun j hj => absurd hj (by omega)⟩
    exact (Ext.alloc _ _).trans (hx.trans ((Ext.alloc _ _).trans ((Ext.alloc _ _).trans (Ext.alloc _ _))))
  have HITW := Lib.hid (HIT.out _ hst.below)
  generalize hW0 : (((Wq.alloc (.cells #[.int .i64 full.sum] 3)).alloc (.cells #[.int .i64 0] 3)).alloc (.cells #[.int .i64 0] 3)) = W0 at hst HITW ⊢
  have hq0 : Wq.heap.size + 1 + 1 < W0.heap.size := hst.b7.lt
  clear hW0 b3 hx
  generalize Wq.heap.size = q at *
  have hw0 : w.heap.size ≤ W0.heap.size := hst.below.size
  refine rangeFunc_list (by omega) (gf := gf) (first := first) (lb := lb) rfl HEG.out (encs := encInt) (full := full) (Kp := Kp37) HITW.out (fun h k => h.t k) (fun A B hc _ => Kp37.kept hc) (fun _ => rfl)
    (fun k W => StD w q pc full k W) (fun c W => c = .exit 0 ∧ ∃ k, k < n ∧ StD w q pc full k W ∧ pc * full.sum ≤ 100 * (full.take k).sum)
    (fun k A B h hc hb => h.keep hc (hb.mono hw0)) (fun c A B ⟨h1, k, h2, h3, h4⟩ hc hb => ⟨h1, k, h2, h3.keep hc (hb.mono hw0), h4⟩) hst
    (fun x a' _ => a' =
      { tmps := #[.func (.func gf) first lb, .int .i64 pc, undef, .pointer (some ⟨w.heap.size, 0, none⟩), .int .i64 0, .pointer (some ⟨q, 0, none⟩), .pointer (some ⟨q + 1, 0, none⟩), .pointer (some ⟨q + 1 + 1, 0, none⟩),
        .int .i64 x, .func (.func gf) first lb, .int .i64 full.sum, .func (.func gf) first lb, .int .i64 x, undef, undef, undef, undef, undef, undef, undef, undef, undef, undef, undef, undef], defers := [] }) (fun _ _ _ _ h _ _ => h) ?assign ?body ?done ?stop
  case assign =>
    intro l k x W K hx hsz hI hK'
    unfold encInt
    gi_wp2
    exact hK' _ _ (KeepsOthers.refl _) (Kp37.kept (CellsKept.refl _)) hI rfl
  case body =>
    rintro l k x a' W hxk hsz hI rfl
    have hkn : k < n := by have := (List.getElem?_eq_some_iff.1 hxk).1; rw [HN.out] at this; exact this
    have HS1 := Lib.hid (take_sum full k x hxk)
    obtain ⟨r1, r2⟩ := HB.out k
    obtain ⟨r3, r4⟩ := HB.out (k + 1)
    obtain ⟨r5, r6⟩ := HS.out
    obtain ⟨r7, r8⟩ := HPS.out
    rw [HS1.out] at r3 r4
    have a0 : W.cell? ⟨w.heap.size, 0, none⟩ = some (.int .i64 pc) := hI.b3.cell 0
    have a1 : W.cell? ⟨q, 0, none⟩ = some (.int .i64 full.sum) := hI.b5.cell 0
    have a2 : W.cell? ⟨q + 1 + 1, 0, none⟩ = some (.int .i64 (full.take k).sum) := hI.b7.cell 0
    have a3 : W.cell? ⟨q + 1, 0, none⟩ = some (.int .i64 (k : Int)) := hI.b6.cell 0
    have f2 := hI.b7.free 0
    have f3 := hI.b6.free 0
    have hlt := hI.lt
    have hw1 := hI.b7.lt
    have HI := Lib.hid hI
    have HI7 := Lib.hid hI.b7
    have HL := Lib.hid hI.less
    clear hI hxk
    by_cases hc : pc * full.sum ≤ 100 * (full.take k).sum
    · generalize hz : (full.take k).sum = z at *
      generalize hsm : full.sum = sm at *
      have HZ := Lib.hid hz
      have HSM := Lib.hid hsm
      clear hz hsm
      gi_wp2
      exact ⟨KeepsOthers.refl _, rfl, k, hkn, HI.out, by rw [HZ.out]; exact hc⟩
    · generalize hz : (full.take k).sum = z at *
      generalize hsm : full.sum = sm at *
      have HZ := Lib.hid hz
      have HSM := Lib.hid hsm
      clear hz hsm
      gi_wp2
      refine ⟨(KeepsOthers.setCell W _ _).trans (KeepsOthers.setCell _ _ _), (Kp37.set HI7.out (.inl rfl) 0 _).t (Kp37.set (HI.out.b6.setOther (by dsimp only; omega) _) (.inl rfl) 0 _), ?_⟩
      refine ⟨(HI.out.b3.setOther (by dsimp only; omega) _).setOther (by dsimp only; omega) _, (HI.out.b5.setOther (by dsimp only; omega) _).setOther (by dsimp only; omega) _, ?_, ?_,
        Ext.set (Ext.set HI.out.below (by dsimp only; omega) _) (by dsimp only; omega) _, hlt, ?_⟩
      · exact (HI.out.b6.setOther (by dsimp only; omega) _).setSame 0 _
      · rw [HS1.out]
        exact (HI7.out.setSame 0 _).setOther (by dsimp only; omega) _
      · intro j hj
        rcases Nat.lt_or_ge j k with h | h
        · exact HI.out.less j h
        · obtain rfl : j = k := by omega
          rw [HZ.out, HSM.out]; omega
  case done =>
    rintro D W hD hI hK'
    rw [HN.out] at hI
    have a4 : W.cell? ⟨q + 1, 0, none⟩ = some (.int .i64 (n : Int)) := hI.b6.cell 0
    have hlt := hI.lt
    have HI := Lib.hid hI
    clear hI
    gi_wp2
    refine ⟨by simp, .inl ⟨_, _, rfl, run_takeDeferred hK', ?_⟩⟩
    exact ⟨_, results_tmp rfl _ _ _, n, rfl, ⟨by rw [HN.out]; exact Nat.le_refl _, HI.out.less, fun h => absurd h (by rw [HN.out]; omega)⟩, Below.trans HI.out.below (below_put _ hK' (by omega))⟩
  case stop =>
    rintro D c W hD ⟨rfl, k, hk, hI, hge⟩ hK'
    have a4 : W.cell? ⟨q + 1, 0, none⟩ = some (.int .i64 (k : Int)) := hI.b6.cell 0
    have hlt := hI.lt
    have HI := Lib.hid hI
    have HG := Lib.hid hge
    clear hI hge
    gi_wp2
    refine ⟨by simp, .inl ⟨_, _, rfl, run_takeDeferred hK', ?_⟩⟩
    exact ⟨_, results_tmp rfl _ _ _, k, rfl, ⟨by rw [HN.out]; omega, HI.out.less, fun _ => HG.out⟩, Below.trans HI.out.below (below_put _ hK' (by omega))⟩

end Go.Proofs.Ytpaoeghdfeekoaa
