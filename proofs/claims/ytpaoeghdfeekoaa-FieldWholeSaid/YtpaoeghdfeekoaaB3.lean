/- The watts of a total. -/
import Derived.Test.YtpaoeghdfeekoaaB2
namespace Go.Proofs.Ytpaoeghdfeekoaa
open Go.RowKit Go.Shelf Go.Mem Go.RegInv
attribute [local go_sem] Oper.semAt_some

theorem Kp37.set {W : World} {g : Nat} {t : TypeId} {cs : Array Value} (h : Blk W g t cs) (ht : t = 3 ∨ t = 37) (i : Nat) (u : Value) : Kp37 W (W.setCell ⟨g, i, none⟩ u) := fun g' t' cs' b h1 h2 =>
  b.setOther (fun e => by
    dsimp only at e
    subst e
    unfold Blk at b h
    rw [h] at b
    simp at b
    rcases ht with rfl | rfl
    · exact h1 b.2.symm
    · exact h2 b.2.symm) _
theorem Kp37.own {W W' : World} {base : Nat} {v : Value} {n size : Nat} {xs : List Value} (r : W.ownsRow base 3 size v n xs) (hg : W.grownBy W' v.ownBlock) : Kp37 W W' := fun _g _t _cs b h1 _ =>
  (hg.block _ b.lt (own_notBlk r b h1)).trans b
theorem Kp37.ext {W W' : World} (e : Ext W W') : Kp37 W W' := Kp37.kept (CellsKept.ext e)
theorem Kp37.fits (s : Nat) : Fits Kp37 s := ⟨fun h k => h.t k, fun _ _ h _ => Kp37.kept h⟩

/-- The watts up to the shell k. -/
def upTo (total : Int) (l : List Int) (k : Nat) : Int := total * (l.take k).sum / l.sum
def wattsL (total : Int) (l : List Int) (n : Nat) : List Int := (List.range n).map fun k => upTo total l (k + 1) - upTo total l k
theorem wattsL_succ (total : Int) (l : List Int) (n : Nat) : wattsL total l (n + 1) = wattsL total l n ++ [upTo total l (n + 1) - upTo total l n] := by simp [wattsL, List.range_succ]
theorem wattsL_len (total : Int) (l : List Int) (n : Nat) : (wattsL total l n).length = n := by simp [wattsL]

structure StW (w : World) (q : Nat) (total : Int) (l : List Int) (n : Nat) (k : Nat) (W : World) : Prop where
  b3 : Blk W w.heap.size 3 #[.int .i64 total]
  b5 : Blk W q 3 #[.int .i64 l.sum]
  b7 : Blk W (q + 1 + 1) 3 #[.int .i64 (l.take k).sum]
  b8 : Blk W (q + 1 + 1 + 1) 3 #[.int .i64 (upTo total l k)]
  row : ∃ u, Blk W (q + 1) 37 #[u] ∧ W.ownsRow (q + 1 + 1 + 1 + 1) 3 1 u k ((wattsL total l k).map (Value.int .i64))
  below : Ext w W
  lt : w.heap.size < q

theorem own_base {W : World} {base : Nat} {e : TypeId} {size : Nat} {v : Value} {n : Nat} {xs : List Value} (r : W.ownsRow base e size v n xs) {g : Nat} (h : v.ownBlock = some g) : base ≤ g := by
  rcases r.2 with ⟨rfl, _⟩ | ⟨g', cap, cur, rfl, h2, _⟩
  · simp [Value.ownBlock] at h
  · simp [Value.ownBlock] at h; omega
theorem own_mono {W : World} {base base' : Nat} {e : TypeId} {size : Nat} {v : Value} {n : Nat} {xs : List Value} (r : W.ownsRow base e size v n xs) (h : base' ≤ base) : W.ownsRow base' e size v n xs := by
  refine ⟨r.1, ?_⟩
  rcases r.2 with h1 | ⟨g, cap, cur, h1, h2, h3⟩
  · exact .inl h1
  · exact .inr ⟨g, cap, cur, h1, by omega, h3⟩

theorem info3 : (Try.prog.info? 3).map (fun i => (i.zero, i.size, i.bytes)) = some (some (.int .i64 0), 1, 8) := by kernel_rfl

theorem upTo_bd {total : Int} {l : List Int} (ht : 0 ≤ total ∧ total ≤ 100000) (hs : 0 < l.sum ∧ l.sum ≤ 40000000000000) (hb : ∀ k, 0 ≤ (l.take k).sum ∧ (l.take k).sum ≤ l.sum) (k : Nat) :
    (0 ≤ total * (l.take k).sum ∧ total * (l.take k).sum ≤ 4000000000000000000) ∧ 0 ≤ upTo total l k ∧ upTo total l k ≤ 100000 := by
  obtain ⟨h1, h2⟩ := hb k
  have h3 : total * (l.take k).sum ≤ total * l.sum := Int.mul_le_mul_of_nonneg_left h2 ht.1
  have h4 : total * l.sum ≤ 100000 * l.sum := Int.mul_le_mul_of_nonneg_right ht.2 (by omega)
  have h5 : 0 ≤ total * (l.take k).sum := Int.mul_nonneg ht.1 h1
  refine ⟨⟨h5, by omega⟩, Int.ediv_nonneg h5 (by omega), ?_⟩
  unfold upTo
  exact Int.ediv_le_of_le_mul hs.1 (by omega)

set_option maxRecDepth 100000 in
set_option maxHeartbeats 2000000 in
theorem wattsOf_in (gf : FuncId) (first lb : Array Value) (eg : ∀ args w, (callFunc gf args).run Try.prog w = .ok (.enter gf args) w) (full : List Int) (n : Nat) (hn : full.length = n) (hn5 : n ≤ 1000) (total : Int) (w : World)
    (hit : ∀ W, Ext w W → IterAt Try.prog 4 gf first lb encInt full Kp37 W)
    (ht : 0 ≤ total ∧ total ≤ 100000) (hs : 0 < full.sum ∧ full.sum ≤ 40000000000000) (hb : ∀ k, 0 ≤ (full.take k).sum ∧ (full.take k).sum ≤ full.sum) :
    CallsIn Fence.wide 5 Try.prog 102 #[.func (.func gf) first lb, .int .i64 total] w fun e w' => ∃ v, e = .returned v ∧ w'.ownsRow w.heap.size 3 1 v n ((wattsL total full n).map (Value.int .i64)) ∧ Ext w w' := by
  have HT := Lib.hid ht
  have HS := Lib.hid hs
  have HB := Lib.hid hb
  have HIT := Lib.hid hit
  have HEG := Lib.hid eg
  have HN := Lib.hid hn
  have HSUM := Lib.hid (sumOf_in gf first lb eg full Kp37 (w.alloc (.cells #[.int .i64 total] 3)) (Kp37.fits _) (fun W u v b => Kp37.set b (.inl rfl) 0 v) (hit _ ((Ext.alloc _ _).trans (Ext.alloc _ _))) (fun k => by have := hb k; unfold Big; omega))
  obtain ⟨i0, hi, hz0, hz1, hz2'⟩ := info_parts info3
  have HI0 := Lib.hid hz0
  clear ht hs hb hit eg hn
  refine callsIn_of_wp_marks Try.func102 rfl trivial ?_ rfl
  simp only [Try.ntmps102, List.size_toArray, List.length_cons, List.length_nil, Nat.reduceAdd, Nat.reduceSub, Array.replicate_succ, Array.replicate_zero, List.push_toArray, List.append_toArray, List.nil_append, List.cons_append]
  gi_wp2_with (refine ⟨trivial, ?_⟩; gi_at_call 98; refine (callsIn_wide.2 (callsIn_wide.1 HSUM.out)).mono ?_; rintro e Wq ⟨rfl, hx⟩)
  have hwq := hx.size
  simp only [World.size_alloc] at hwq
  have b3 := (Blk.new w 3 #[.int .i64 total]).ext hx
  have hst : StW w Wq.heap.size total full n 0 ((((Wq.alloc (.cells #[.int .i64 full.sum] 3)).alloc (.cells #[.slice none 0 0] 37)).alloc (.cells #[.int .i64 0] 3)).alloc (.cells #[.int .i64 0] 3)) := by
    refine ⟨(((b3.alloc _).alloc _).alloc _).alloc _, (((Blk.new _ _ _).alloc _).alloc _).alloc _, ?_, ?_, ⟨_, ((Blk.newAt _ _ _ (by simp)).alloc _).alloc _, World.ownsRow_nil _ _ _ _⟩, ?_, by omega⟩
    · exact (Blk.newAt _ _ _ (by simp)).alloc _
    · have : upTo total full 0 = 0 := by simp [upTo]
      rw [this]
      exact Blk.newAt _ _ _ (by simp)
    · exact (Ext.alloc _ _).trans (hx.trans ((Ext.alloc _ _).trans ((Ext.alloc _ _).trans ((Ext.alloc _ _).trans (Ext.alloc _ _)))))
  have HITW := Lib.hid (HIT.out _ hst.below)
  generalize hW0 : ((((Wq.alloc (.cells #[.int .i64 full.sum] 3)).alloc (.cells #[.slice none 0 0] 37)).alloc (.cells #[.int .i64 0] 3)).alloc (.cells #[.int .i64 0] 3)) = W0 at hst HITW ⊢
  have hq0 : Wq.heap.size + 1 + 1 + 1 < W0.heap.size := hst.b8.lt
  clear hW0 b3 hx
  generalize Wq.heap.size = q at *
  have hw0 : w.heap.size ≤ W0.heap.size := hst.below.size
  refine rangeFunc_list (by omega) (gf := gf) (first := first) (lb := lb) rfl HEG.out (encs := encInt) (full := full) (Kp := Kp37) HITW.out (fun h k => h.t k) (fun A B hc _ => Kp37.kept hc) (fun _ => rfl)
    (fun k W => StW w q total full n k W) (fun _ _ => False)
    (fun k A B h hc hb => ⟨hc.blk h.b3, hc.blk h.b5, hc.blk h.b7, hc.blk h.b8, by obtain ⟨u, h1, h2⟩ := h.row; exact ⟨u, hc.blk h1, hc.own h2⟩, Below.trans h.below (hb.mono hw0), h.lt⟩) (fun _ _ _ h _ _ => h) hst
    (fun x a' _ => a' =
      { tmps := #[.func (.func gf) first lb, .int .i64 total, undef, .pointer (some ⟨w.heap.size, 0, none⟩), .slice none 0 0, .pointer (some ⟨q, 0, none⟩), .pointer (some ⟨q + 1, 0, none⟩), .pointer (some ⟨q + 1 + 1, 0, none⟩), .pointer (some ⟨q + 1 + 1 + 1, 0, none⟩),
        .int .i64 x, undef, .func (.func gf) first lb, .int .i64 full.sum, .func (.func gf) first lb, .int .i64 x, undef, undef, undef, undef, undef, undef, undef, undef, undef, undef, undef, undef, undef, undef, undef, undef], defers := [] }) (fun _ _ _ _ h _ _ => h) ?assign ?body ?done ?stop
  case assign =>
    intro l k x W K hx hsz hI hK'
    unfold encInt
    gi_wp2
    exact hK' _ _ (KeepsOthers.refl _) (Kp37.kept (CellsKept.refl _)) hI rfl
  case body =>
    rintro l k x a' W hxk hsz hI rfl
    have hkn : k < n := by have := (List.getElem?_eq_some_iff.1 hxk).1; rw [HN.out] at this; exact this
    have HS1 := Lib.hid (take_sum full k x hxk)
    obtain ⟨⟨q1, q2⟩, q3, q4⟩ := upTo_bd HT.out HS.out HB.out k
    obtain ⟨⟨q5, q6⟩, q7, q8⟩ := upTo_bd HT.out HS.out HB.out (k + 1)
    obtain ⟨r1, r2⟩ := HB.out k
    obtain ⟨r3, r4⟩ := HB.out (k + 1)
    obtain ⟨r5, r6⟩ := HS.out
    have HU1 := Lib.hid (show upTo total full (k + 1) = total * (full.take (k + 1)).sum / full.sum from rfl)
    rw [HS1.out] at HU1 q5 q6 r3 r4
    rw [HU1.out] at q7 q8
    obtain ⟨u, hu, hrow⟩ := hI.row
    have a0 : W.cell? ⟨w.heap.size, 0, none⟩ = some (.int .i64 total) := hI.b3.cell 0
    have a1 : W.cell? ⟨q, 0, none⟩ = some (.int .i64 full.sum) := hI.b5.cell 0
    have a2 : W.cell? ⟨q + 1 + 1, 0, none⟩ = some (.int .i64 (full.take k).sum) := hI.b7.cell 0
    have a3 : W.cell? ⟨q + 1 + 1 + 1, 0, none⟩ = some (.int .i64 (upTo total full k)) := hI.b8.cell 0
    have a4 : W.cell? ⟨q + 1, 0, none⟩ = some u := hu.cell 0
    have f2 := hI.b7.free 0
    have hlt := hI.lt
    have hw1 := hI.b8.lt
    have HI := Lib.hid hI
    have HI7 := Lib.hid hI.b7
    have HI8 := Lib.hid hI.b8
    have HU := Lib.hid hu
    have HR := Lib.hid hrow
    clear hI hu hrow hxk
    generalize hz : (full.take k).sum = z at *
    generalize hsm : full.sum = sm at *
    have HZ := Lib.hid hz
    have HSM := Lib.hid hsm
    clear hz hsm
    generalize hu0 : upTo total full k = u0 at *
    have HU0 := Lib.hid hu0
    clear hu0
    have hu1 : Blk (W.setCell ⟨q + 1 + 1, 0, none⟩ (.int .i64 (z + x))) (q + 1) 37 #[u] := HU.out.setOther (by dsimp only; omega) _
    have hr1 : (W.setCell ⟨q + 1 + 1, 0, none⟩ (.int .i64 (z + x))).ownsRow (q + 1 + 1 + 1 + 1) 3 1 u k ((wattsL total full k).map (Value.int .i64)) := own_set HR.out (own_not HR.out (by dsimp only; omega)) _
    have HR2 := Lib.hid (hr1.alloc (.cells #[.int .i64 (total * (z + x) / sm - u0)] 3))
    have HU2 := Lib.hid (hu1.alloc (.cells #[.int .i64 (total * (z + x) / sm - u0)] 3))
    have hz2 : (W.setCell ⟨q + 1 + 1, 0, none⟩ (.int .i64 (z + x))).heap.size = W.heap.size := by simp [World.setCell]
    have HN2 := Lib.hid (news_of1 (Blk.newAt (W.setCell ⟨q + 1 + 1, 0, none⟩ (.int .i64 (z + x))) 3 #[.int .i64 (total * (z + x) / sm - u0)] (g := W.heap.size) hz2.symm))
    have hb2 : q + 1 + 1 + 1 + 1 ≤ (World.alloc (W.setCell ⟨q + 1 + 1, 0, none⟩ (.int .i64 (z + x))) (.cells #[.int .i64 (total * (z + x) / sm - u0)] 3)).heap.size := by rw [World.size_alloc, hz2]; omega
    clear hu1 hr1 hz2
    gi_wp2_with (gi_at_builtin; refine wpListIn_append_own _ rfl _ _ 37 rfl (q + 1 + 1 + 1 + 1) 3 i0 (.int .i64 0) 1 8 Try.underlying37 hi HI0.out hz1 hz2' rfl (by decide) _ _ _ rfl HR2.out ⟨W.heap.size, 0, none⟩ 1 1 [.int .i64 (total * (z + x) / sm - u0)] rfl rfl HN2.out (by simp [Value.oneCell']) (by unfold maxLen; omega) (by omega) hb2 ?_; intro v' w1 hown' hgrow _; obtain ⟨g', cap'', rfl⟩ := ownsRow_succ hown'; have hu3 : Blk w1 (q + 1) 37 #[u] := (hgrow.block _ HU2.out.lt (own_notBlk HR2.out HU2.out (by decide))).trans HU2.out; have y0 : w1.cell? ⟨q + 1, 0, none⟩ = some u := hu3.cell 0; have y1 := hu3.free 0; have hk3 : ∀ {gg : Nat} {cs : Array Value}, Blk (World.alloc (W.setCell ⟨q + 1 + 1, 0, none⟩ (.int .i64 (z + x))) (.cells #[.int .i64 (total * (z + x) / sm - u0)] 3)) gg 3 cs → gg < q + 1 + 1 + 1 + 1 → Blk w1 gg 3 cs := (fun b hlt => (hgrow.block _ b.lt (own_not HR2.out hlt)).trans b); have hb8 : Blk w1 (q + 1 + 1 + 1) 3 #[.int .i64 u0] := hk3 ((HI8.out.setOther (by dsimp only; omega) _).alloc _) (by omega); have y2 : w1.cell? ⟨q + 1 + 1 + 1, 0, none⟩ = some (.int .i64 u0) := hb8.cell 0; have y3 := hb8.free 0; have HH3 := Lib.hid hown'; have HG3 := Lib.hid hgrow; have HU3 := Lib.hid hu3; have HK3 := Lib.hid (fun (gg : Nat) (cs : Array Value) b h => hk3 (gg := gg) (cs := cs) b h); have HB8 := Lib.hid hb8; clear hown' hgrow hu3 hk3 hb8)
    refine ⟨(((KeepsOthers.setCell W ⟨q + 1 + 1, 0, none⟩ (.int .i64 (z + x))).trans (KeepsOthers.alloc _ (.cells #[.int .i64 (total * (z + x) / sm - u0)] 3))).trans (keepsOthers_own HR2.out HG3.out)).trans ((KeepsOthers.setCell w1 ⟨q + 1, 0, none⟩ (.slice (some ⟨g', 0, none⟩) (k + 1) cap'')).trans (KeepsOthers.setCell _ _ _)),
      (((Kp37.set HI7.out (.inl rfl) 0 (.int .i64 (z + x))).t (Kp37.ext (Ext.alloc _ (.cells #[.int .i64 (total * (z + x) / sm - u0)] 3)))).t (Kp37.own HR2.out HG3.out)).t ((Kp37.set HU3.out (.inr rfl) 0 (.slice (some ⟨g', 0, none⟩) (k + 1) cap'')).t (Kp37.set (HB8.out.setOther (by dsimp only; omega) _) (.inl rfl) 0 _)), ?_⟩
    have hrow : ((w1.setCell ⟨q + 1, 0, none⟩ (.slice (some ⟨g', 0, none⟩) (k + 1) cap'')).setCell ⟨q + 1 + 1 + 1, 0, none⟩ (.int .i64 (total * (z + x) / sm))).ownsRow (q + 1 + 1 + 1 + 1) 3 1 (.slice (some ⟨g', 0, none⟩) (k + 1) cap'') (k + 1) ((wattsL total full (k + 1)).map (Value.int .i64)) := by
      rw [wattsL_succ, HU1.out, HU0.out, List.map_append]
      have h1 := own_set HH3.out (own_notBlk HH3.out HU3.out (by decide) : some (Addr.block ⟨q + 1, 0, none⟩) ≠ _) (.slice (some ⟨g', 0, none⟩) (k + 1) cap'')
      exact own_set h1 (own_not h1 (by dsimp only; omega)) _
    refine ⟨?_, ?_, ?_, ?_, ⟨_, (HU3.out.setSame 0 _).setOther (by dsimp only; omega) _, hrow⟩, ?_, hlt⟩
    · exact ((HK3.out _ _ ((HI.out.b3.setOther (by dsimp only; omega) _).alloc _) (by omega)).setOther (by dsimp only; omega) _).setOther (by dsimp only; omega) _
    · exact ((HK3.out _ _ ((HI.out.b5.setOther (by dsimp only; omega) _).alloc _) (by omega)).setOther (by dsimp only; omega) _).setOther (by dsimp only; omega) _
    · rw [HS1.out]
      exact ((HK3.out _ _ ((HI7.out.setSame 0 _).alloc _) (by omega)).setOther (by dsimp only; omega) _).setOther (by dsimp only; omega) _
    · rw [HU1.out]
      exact (HB8.out.setOther (by dsimp only; omega) _).setSame 0 _
    · refine Below.setCell (Below.setCell (Below.grown (Below.alloc (Below.setCell HI.out.below (by dsimp only; omega) _) (by simp [World.setCell]; omega) _) HG3.out (by simp [World.setCell]; omega) (fun g hg => ?_)) (by dsimp only; omega) _) (by dsimp only; omega) _
      have := own_base HR2.out hg
      omega
  case done =>
    rintro D W hD hI hK'
    rw [HN.out] at hI
    obtain ⟨u, hu, hrow⟩ := hI.row
    have a4 : W.cell? ⟨q + 1, 0, none⟩ = some u := hu.cell 0
    have hlt := hI.lt
    gi_wp2
    refine ⟨by simp, .inl ⟨_, _, rfl, run_takeDeferred hK', ?_⟩⟩
    exact ⟨_, results_tmp rfl _ _ _, u, rfl, (CellsKept.put _ hK' rfl).own (own_mono hrow (by omega)), Below.trans hI.below (below_put _ hK' (by omega))⟩
  case stop =>
    rintro D c W _ h _
    exact h.elim

end Go.Proofs.Ytpaoeghdfeekoaa
