/- slices.Collect of a function that hands out a known list; PowersOf. -/
import Derived.Test.YtpaoeghdfeekoaaC1
namespace Go.Proofs.Ytpaoeghdfeekoaa
open Go.RowKit Go.Shelf Go.Mem Go.RegInv
attribute [local go_sem] Oper.semAt_some

structure StA (w : World) (l : List Int) (k : Nat) (W : World) : Prop where
  row : ∃ u, Blk W w.heap.size 37 #[u] ∧ W.ownsRow (w.heap.size + 1) 3 1 u k ((l.take k).map (Value.int .i64))
  below : Ext w W

theorem take_snocJ {xs : List Int} {k : Nat} {x : Int} (h : xs[k]? = some x) : (xs.take (k + 1)).map (Value.int .i64) = (xs.take k).map (Value.int .i64) ++ [.int .i64 x] := by
  rw [List.take_add_one, h]; simp

set_option maxRecDepth 100000 in
set_option maxHeartbeats 2000000 in
theorem appendSeq_in (gf : FuncId) (first lb : Array Value) (eg : ∀ args w, (callFunc gf args).run Try.prog w = .ok (.enter gf args) w) (full : List Int) (n : Nat) (hn : full.length = n) (hn5 : n ≤ 1000) (w : World)
    (hit : ∀ W, Ext w W → IterAt Try.prog 4 gf first lb encInt full Kp37 W) :
    CallsIn Fence.wide 5 Try.prog 129 #[.slice none 0 0, .func (.func gf) first lb] w fun e w' => ∃ v, e = .returned v ∧ w'.ownsRow w.heap.size 3 1 v n (full.map (Value.int .i64)) ∧ Ext w w' := by
  have HIT := Lib.hid hit
  have HEG := Lib.hid eg
  have HN := Lib.hid hn
  obtain ⟨i0, hi, hz0, hz1, hz2'⟩ := info_parts info3
  have HI0 := Lib.hid hz0
  clear hit eg hn
  refine callsIn_of_wp_marks Try.func129 rfl trivial ?_ rfl
  simp only [Try.ntmps129, List.size_toArray, List.length_cons, List.length_nil, Nat.reduceAdd, Nat.reduceSub, Array.replicate_succ, Array.replicate_zero, List.push_toArray, List.append_toArray, List.nil_append, List.cons_append]
  gi_wp2
  have hst : StA w full 0 (w.alloc (.cells #[.slice none 0 0] 37)) := ⟨⟨_, Blk.new _ _ _, World.ownsRow_nil _ _ _ _⟩, Ext.alloc _ _⟩
  have HITW := Lib.hid (HIT.out _ hst.below)
  have hlt0 : w.heap.size < (w.alloc (.cells #[.slice none 0 0] 37)).heap.size := by simp
  generalize hW0 : w.alloc (.cells #[.slice none 0 0] 37) = W0 at hst HITW hlt0 ⊢
  clear hW0
  have hw0 : w.heap.size ≤ W0.heap.size := by omega
  refine rangeFunc_list (by omega) (gf := gf) (first := first) (lb := lb) rfl HEG.out (encs := encInt) (full := full) (Kp := Kp37) HITW.out (fun h k => h.t k) (fun A B hc _ => Kp37.kept hc) (fun _ => rfl)
    (fun k W => StA w full k W) (fun _ _ => False)
    (fun k A B h hc hb => ⟨by obtain ⟨u, h1, h2⟩ := h.row; exact ⟨u, hc.blk h1, hc.own h2⟩, Below.trans h.below (hb.mono hw0)⟩) (fun _ _ _ h _ _ => h) hst
    (fun x a' _ => a' =
      { tmps := #[.slice none 0 0, .func (.func gf) first lb, .pointer (some ⟨w.heap.size, 0, none⟩), undef, .slice none 0 0, .int .i64 x, .func (.func gf) first lb, .int .i64 x, undef, undef, undef, undef, undef], defers := [] }) (fun _ _ _ _ h _ _ => h) ?assign ?body ?done ?stop
  case assign =>
    intro l k x W K hx hsz hI hK'
    unfold encInt
    gi_wp2
    exact hK' _ _ (KeepsOthers.refl _) (Kp37.kept (CellsKept.refl _)) hI rfl
  case body =>
    rintro l k x a' W hxk hsz hI rfl
    have hkn : k < n := by have := (List.getElem?_eq_some_iff.1 hxk).1; rw [HN.out] at this; exact this
    have HT := Lib.hid (take_snocJ hxk)
    obtain ⟨u, hu, hrow⟩ := hI.row
    have a4 : W.cell? ⟨w.heap.size, 0, none⟩ = some u := hu.cell 0
    have f4 := hu.free 0
    have hw1 := hu.lt
    have HI := Lib.hid hI.below
    have HU := Lib.hid hu
    have HR := Lib.hid hrow
    clear hI hu hrow hxk
    have HR2 := Lib.hid (HR.out.alloc (.cells #[.int .i64 x] 3))
    have HU2 := Lib.hid (HU.out.alloc (.cells #[.int .i64 x] 3))
    have HN2 := Lib.hid (news_of1 (Blk.new W 3 #[.int .i64 x]))
    have hb2 : w.heap.size + 1 ≤ (W.alloc (.cells #[.int .i64 x] 3)).heap.size := by rw [World.size_alloc]; omega
    gi_wp2_with (gi_at_builtin; refine wpListIn_append_own _ rfl _ _ 37 rfl (w.heap.size + 1) 3 i0 (.int .i64 0) 1 8 Try.underlying37 hi HI0.out hz1 hz2' rfl (by decide) _ _ _ rfl HR2.out ⟨W.heap.size, 0, none⟩ 1 1 [.int .i64 x] rfl rfl HN2.out (by simp [Value.oneCell']) (by unfold maxLen; omega) (by omega) hb2 ?_; intro v' w1 hown' hgrow _; obtain ⟨g', cap'', rfl⟩ := ownsRow_succ hown'; have hu3 : Blk w1 w.heap.size 37 #[u] := (hgrow.block _ HU2.out.lt (own_notBlk HR2.out HU2.out (by decide))).trans HU2.out; have y0 : w1.cell? ⟨w.heap.size, 0, none⟩ = some u := hu3.cell 0; have y1 := hu3.free 0; have HH3 := Lib.hid hown'; have HG3 := Lib.hid hgrow; have HU3 := Lib.hid hu3; clear hown' hgrow hu3)
    refine ⟨((KeepsOthers.alloc W (.cells #[.int .i64 x] 3)).trans (keepsOthers_own HR2.out HG3.out)).trans (KeepsOthers.setCell w1 ⟨w.heap.size, 0, none⟩ (.slice (some ⟨g', 0, none⟩) (k + 1) cap'')),
      ((Kp37.ext (Ext.alloc W (.cells #[.int .i64 x] 3))).t (Kp37.own HR2.out HG3.out)).t (Kp37.set HU3.out (.inr rfl) 0 (.slice (some ⟨g', 0, none⟩) (k + 1) cap'')), ?_⟩
    have hrow : (w1.setCell ⟨w.heap.size, 0, none⟩ (.slice (some ⟨g', 0, none⟩) (k + 1) cap'')).ownsRow (w.heap.size + 1) 3 1 (.slice (some ⟨g', 0, none⟩) (k + 1) cap'') (k + 1) ((full.take (k + 1)).map (Value.int .i64)) := by
      rw [HT.out]
      exact own_set HH3.out (own_not HH3.out (by dsimp only; omega)) _
    refine ⟨⟨_, HU3.out.setSame 0 _, hrow⟩, ?_⟩
    refine Below.setCell (Below.grown (Below.alloc HI.out (by omega) _) HG3.out (by rw [World.size_alloc]; omega) (fun g hg => ?_)) (by dsimp only; omega) _
    have := own_base HR2.out hg
    omega
  case done =>
    rintro D W hD hI hK'
    rw [HN.out] at hI
    obtain ⟨u, hu, hrow⟩ := hI.row
    have a4 : W.cell? ⟨w.heap.size, 0, none⟩ = some u := hu.cell 0
    gi_wp2
    refine ⟨by simp, .inl ⟨_, _, rfl, run_takeDeferred hK', ?_⟩⟩
    rw [List.take_of_length_le (by rw [HN.out]; omega)] at hrow
    exact ⟨_, results_tmp rfl _ _ _, u, rfl, (CellsKept.put _ hK' rfl).own (own_mono hrow (by omega)), Below.trans hI.below (below_put _ hK' (by omega))⟩
  case stop =>
    rintro D c W _ h _
    exact h.elim

theorem collect_any (gf : FuncId) (first lb : Array Value) (eg : ∀ args w, (callFunc gf args).run Try.prog w = .ok (.enter gf args) w) (full : List Int) (n : Nat) (hn : full.length = n) (hn5 : n ≤ 1000) (w : World)
    (hit : ∀ W, Ext w W → IterAt Try.prog 4 gf first lb encInt full Kp37 W) :
    Calls Try.prog 95 #[.func (.func gf) first lb] w fun e w' => ∃ v, e = .returned v ∧ IntsAt w' v full ∧ Ext w w' := by
  have HC := Lib.hid (callsIn_wide.1 (appendSeq_in gf first lb eg full n hn hn5 w hit))
  have HN := Lib.hid hn
  clear eg hit hn
  go_enter Try.func95, Try.ntmps95
  go_wp2_with (go_at_call 129; refine HC.out.mono ?_; rintro e W1 ⟨v, rfl, hv, hx⟩)
  go_ret
  exact ⟨v, rfl, ints_of_own HN.out (by omega) hv, hx⟩

set_option maxRecDepth 100000 in
theorem powersPub_any (t : Int) (A : Option Addr) (n cap : Nat) (l : List Sh) (hn : l.length = n) (f : Int) (B : Option Addr) (m cap' : Nat) (hot : List Bool) (hm : hot.length = m) (w : World)
    (hS : LadAt w A l) (hH : RowsAt 1 boolEnc w B hot) :
    Calls Try.prog 39 #[.agg #[.int .i64 t, .slice A n cap], .agg #[.int .i64 f, .slice B m cap']] w fun e w' => Ext w w' ∧
      ((driveE t l f m ≠ 0 ∧ e = .returned (.tuple #[.slice none 0 0, .int .i64 (driveE t l f m)])) ∨
       (driveE t l f m = 0 ∧ ∃ v, e = .returned (.tuple #[v, .int .i64 0]) ∧ IntsAt w' v (powers f hot l))) := by
  have HC := Lib.hid (fun W h => checkDrive_any t A n cap l hn f B m cap' W h)
  have e0 : Ext w ((w.alloc (.cells #[.int .i64 t, .slice A n cap] 24)).alloc (.cells #[.int .i64 f, .slice B m cap'] 27)) := (Ext.alloc _ _).trans (Ext.alloc _ _)
  have HS := Lib.hid hS
  have HH := Lib.hid hH
  have HN := Lib.hid hn
  have HM := Lib.hid hm
  clear hn hS hm hH
  have FA := Lib.hid (show ∀ W : World, Ext ((w.alloc (.cells #[.int .i64 t, .slice A n cap] 24)).alloc (.cells #[.int .i64 f, .slice B m cap'] 27)) W →
      W.cell? ⟨w.heap.size, 0, none⟩ = some (.int .i64 t) ∧ W.cell? ⟨w.heap.size, 1, none⟩ = some (.slice A n cap) ∧ W.cell? ⟨w.heap.size + 1, 0, none⟩ = some (.int .i64 f) ∧ W.cell? ⟨w.heap.size + 1, 1, none⟩ = some (.slice B m cap') from
    fun W hx => ⟨hx.cell (by go_simp), hx.cell (by go_simp), hx.cell (by go_simp), hx.cell (by go_simp)⟩)
  by_cases hq : driveE t l f m = 0
  · obtain ⟨⟨_, ⟨h1, h4⟩, hok⟩, hf, hml⟩ := (driveE_zero t l f m).1 hq
    obtain rfl : n = m := by rw [hml, ← HN.out]
    rw [HN.out] at h1 h4
    have HP := Lib.hid (fun W (e : Ext w W) => powersOf_any t A n cap l HN.out f B cap' hot HM.out W (HS.out.1.ext e) (HH.out.ext e) hok hf h1 h4)
    have HIT := Lib.hid (fun W (e : Ext w W) v => powers_at_w (cap := cap) HN.out (hot := hot) hok hf h1 h4 (HS.out.ext e) (v := v))
    have HQ := Lib.hid hq
    have HPL := Lib.hid (show (powers f hot l).length = n by rw [powers_len, HN.out])
    have hn4 : n ≤ 1000 := by omega
    clear h1 h4 hok hf hml hq
    rw [HQ.out] at HC
    go_enter Try.func39, Try.ntmps39
    go_wp2_with (first
      | (go_at_call 20; refine (HC.out _ (HS.out.1.ext e0)).mono ?_; rintro e W1 ⟨rfl, hx1⟩; obtain ⟨z0, z1, z2, z3⟩ := FA.out _ hx1)
      | (go_at_call 96; refine (HP.out _ (e0.trans hx1)).mono ?_; rintro e W4 ⟨v4, rfl, hv4, hx4⟩; obtain ⟨first, rfl, hit⟩ := HIT.out _ (e0.trans (hx1.trans hx4)) _ hv4)
      | (go_at_call 95; refine (collect_any 130 first #[] eg130 (powers f hot l) n HPL.out hn4 _ hit).mono ?_; rintro e W5 ⟨v5, rfl, hv5, hx5⟩))
    go_ret2
    exact ⟨e0.trans (hx1.trans (hx4.trans hx5)), .inr ⟨HQ.out, _, rfl, hv5⟩⟩
  · have HQ := Lib.hid hq
    have hq' : (driveE t l f m != 0) = true := by simp [hq]
    clear hq
    generalize driveE t l f m = r at HC HQ hq' ⊢
    go_enter Try.func39, Try.ntmps39
    go_wp2_with (go_at_call 20; refine (HC.out _ (HS.out.1.ext e0)).mono ?_; rintro e W1 ⟨rfl, hx1⟩)
    go_ret2
    exact ⟨e0.trans hx1, .inl ⟨HQ.out, rfl⟩⟩

end Go.Proofs.Ytpaoeghdfeekoaa
