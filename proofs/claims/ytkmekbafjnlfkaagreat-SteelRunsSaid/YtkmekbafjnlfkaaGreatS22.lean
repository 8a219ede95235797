/- A run. -/
import Derived.Test.YtkmekbafjnlfkaaGreatS21c
import Derived.Lib.BufferOwn

namespace Go.Proofs.YtkmekbafjnlfkaaGreat
open Go.RowKit Go.Shelf Go.Mem Go.RegInv
attribute [local go_sem] RelUpon_value RelUpon_skip RelUpon_enter BigFrame.eval_const BigFrame.eval_global BigFrame.eval_func

theorem step_ok {d : Deed} (h : deedOK d) {k : Pk} (hk : PkOK k) {s : St} (hs : StK s) : StK (stepD d k s) := by
  obtain ⟨hk1, hk2, hk3, hk4, hk5, hk6⟩ := hk
  obtain ⟨⟨p0, p1⟩, ⟨a0, a1⟩, ⟨b0, b1⟩, ⟨m0, m1⟩, ⟨w0, w1⟩, ⟨g0, g1⟩, ⟨t0, t1⟩, hsum⟩ := hs
  cases d with
  | h x =>
    obtain ⟨⟨h1, h2, h3⟩, h4, h5⟩ := h
    have := pick_bd h1 h2 h3 hk1 hk2
    have hg : 0 ≤ grownK s.g x.g (1000000 - max 0 (1000000 - s.a - pickK x.lo x.hi k.h)) ∧ grownK s.g x.g (1000000 - max 0 (1000000 - s.a - pickK x.lo x.hi k.h)) ≤ 100000 := by unfold grownK; split <;> omega
    exact ⟨by simp only [stepD]; omega, by simp only [stepD]; omega, by simp only [stepD]; omega, by simp only [stepD]; omega, by simp only [stepD]; omega, hg, by simp only [stepD]; omega, by simp only [stepD]; omega⟩
  | c x =>
    obtain ⟨⟨h1, h2, h3⟩, h4, h5, h6⟩ := h
    have hp := pick_bd h1 h2 h3 hk3 hk4
    have hq := pick_bd h4 h5 h6 hk3 hk4
    have hf : 0 ≤ formedK (waitedK s.wt (pickK x.wlo x.whi k.c)) (pickK x.rlo x.rhi k.c) := by unfold formedK; split <;> omega
    have hw : 0 ≤ waitedK s.wt (pickK x.wlo x.whi k.c) ∧ waitedK s.wt (pickK x.wlo x.whi k.c) ≤ 1000000 := by unfold waitedK; omega
    exact ⟨by simp only [stepD]; omega, by simp only [stepD]; omega, by simp only [stepD]; omega, by simp only [stepD]; omega, hw, by simp only [stepD]; omega, by simp only [stepD]; omega, by simp only [stepD]; omega⟩
  | d x =>
    obtain ⟨h1, h2, h3⟩ := h
    have hp := pick_bd h1 h2 h3 hk5 hk6
    have hf := frozen_bd (s := pickK x.lo x.hi k.d) a0 m0 (by omega) (by omega)
    exact ⟨by simp only [stepD]; omega, by simp only [stepD]; omega, by simp only [stepD]; omega, by simp only [stepD]; omega, by simp only [stepD]; omega, by simp only [stepD]; omega, by simp only [stepD]; omega, by simp only [stepD]; omega⟩
  | t x =>
    obtain ⟨h1, h2⟩ := h
    exact ⟨by simp only [stepD]; omega, by simp only [stepD]; omega, by simp only [stepD]; omega, by simp only [stepD]; omega, by simp only [stepD]; omega, by simp only [stepD]; omega, by simp only [stepD]; omega, by simp only [stepD]; omega⟩

/-- The boxes of a run. -/
structure RunI (w W : World) (cs : Array Value) (z : St) (k : Pk) : Prop where
  k0 : Blk W (w.heap.size) 161 cs
  k1 : Blk W (w.heap.size + 1) 30 #[.int .i64 z.p, .int .i64 z.a, .int .i64 z.b, .int .i64 z.m, .int .i64 z.wt, .int .i64 z.g, .int .i64 z.t]
  k2 : Blk W (w.heap.size + 1 + 1) 32 #[.int .i64 k.h, .int .i64 k.c, .int .i64 k.d]
  k3 : Blk W (w.heap.size + 1 + 1 + 1) 30 #[.int .i64 0, .int .i64 0, .int .i64 0, .int .i64 0, .int .i64 0, .int .i64 0, .int .i64 0]
  e : Ext w W
theorem RunI.ext {w W W' : World} {cs : Array Value} {z : St} {k : Pk} (h : RunI w W cs z k) (e : Ext W W') : RunI w W' cs z k := ⟨h.k0.ext e, h.k1.ext e, h.k2.ext e, h.k3.ext e, h.e.trans e⟩
theorem RunI.step {w W : World} {cs : Array Value} {z y : St} {k : Pk} (h : RunI w W cs z k) :
    RunI w (((((((W.setCell ⟨w.heap.size + 1, 0, none⟩ (.int .i64 y.p)).setCell ⟨w.heap.size + 1, 1, none⟩ (.int .i64 y.a)).setCell ⟨w.heap.size + 1, 2, none⟩ (.int .i64 y.b)).setCell ⟨w.heap.size + 1, 3, none⟩ (.int .i64 y.m)).setCell ⟨w.heap.size + 1, 4, none⟩ (.int .i64 y.wt)).setCell ⟨w.heap.size + 1, 5, none⟩ (.int .i64 y.g)).setCell ⟨w.heap.size + 1, 6, none⟩ (.int .i64 y.t)) cs y k := by
  have h7 := ((((((h.k1.setSame 0 (.int .i64 y.p)).setSame 1 (.int .i64 y.a)).setSame 2 (.int .i64 y.b)).setSame 3 (.int .i64 y.m)).setSame 4 (.int .i64 y.wt)).setSame 5 (.int .i64 y.g)).setSame 6 (.int .i64 y.t)
  simp only [List.setIfInBounds_toArray, List.set_cons_zero, List.set_cons_succ] at h7
  refine ⟨?_, h7, ?_, ?_, ?_⟩
  · exact ((((((h.k0.setOther (by dsimp only; omega) _).setOther (by dsimp only; omega) _).setOther (by dsimp only; omega) _).setOther (by dsimp only; omega) _).setOther (by dsimp only; omega) _).setOther (by dsimp only; omega) _).setOther (by dsimp only; omega) _
  · exact ((((((h.k2.setOther (by dsimp only; omega) _).setOther (by dsimp only; omega) _).setOther (by dsimp only; omega) _).setOther (by dsimp only; omega) _).setOther (by dsimp only; omega) _).setOther (by dsimp only; omega) _).setOther (by dsimp only; omega) _
  · exact ((((((h.k3.setOther (by dsimp only; omega) _).setOther (by dsimp only; omega) _).setOther (by dsimp only; omega) _).setOther (by dsimp only; omega) _).setOther (by dsimp only; omega) _).setOther (by dsimp only; omega) _).setOther (by dsimp only; omega) _
  · exact Ext.set (Ext.set (Ext.set (Ext.set (Ext.set (Ext.set (Ext.set h.e (by dsimp only; omega) _) (by dsimp only; omega) _) (by dsimp only; omega) _) (by dsimp only; omega) _) (by dsimp only; omega) _) (by dsimp only; omega) _) (by dsimp only; omega) _

theorem blk_grown {W W' : World} {g b : Nat} {t t' : TypeId} {cs cs' : Array Value} (h : Blk W g t cs) (hb : Blk W b t' cs') (ht : t ≠ t') (hg : W.grownBy W' (some b)) : Blk W' g t cs := by
  refine (hg.block g h.lt ?_).trans h
  intro he
  obtain rfl : g = b := by simpa using he
  have := h.symm.trans hb
  simp only [Option.some.injEq, Obj.cells.injEq] at this
  exact ht this.2.1
theorem DeedC.grown {W W' : World} {b : Nat} {cs : Array Value} (hb : Blk W b 30 cs) (hg : W.grownBy W' (some b)) : ∀ {d : Deed} {u v : Value}, DeedC W d u v → DeedC W' d u v
  | .h _, _, _, ⟨q, h1, h2, h3⟩ => ⟨q, h1, h2, blk_grown h3 hb (by decide) hg⟩
  | .c _, _, _, ⟨q, h1, h2, h3⟩ => ⟨q, h1, h2, blk_grown h3 hb (by decide) hg⟩
  | .d _, _, _, ⟨q, h1, h2, h3⟩ => ⟨q, h1, h2, blk_grown h3 hb (by decide) hg⟩
  | .t _, _, _, ⟨q, q', h1, h2, h3, h4⟩ => ⟨q, q', h1, h2, blk_grown h3 hb (by decide) hg, blk_grown h4 hb (by decide) hg⟩
theorem DeedC.fn {W : World} : ∀ {d : Deed} {u v : Value}, DeedC W d u v → ∃ f x y, u = .func f x y
  | .h _, _, _, ⟨_, h1, _, _⟩ => ⟨_, _, _, h1⟩
  | .c _, _, _, ⟨_, h1, _, _⟩ => ⟨_, _, _, h1⟩
  | .d _, _, _, ⟨_, h1, _, _⟩ => ⟨_, _, _, h1⟩
  | .t _, _, _, ⟨_, _, h1, _, _, _⟩ => ⟨_, _, _, h1⟩
theorem rows_grown {W W' : World} {b : Nat} {z : St} {A : Option Addr} {rows : List (Value × Value)} (hb : Blk W b 30 #[.int .i64 z.p, .int .i64 z.a, .int .i64 z.b, .int .i64 z.m, .int .i64 z.wt, .int .i64 z.g, .int .i64 z.t]) (hg : W.grownBy W' (some b)) (hr : RowsAt 2 prV W A rows)
    {l : Nat} {d : Deed} {p : Value × Value} (hp : rows[l]? = some p) (hd : DeedC W d p.1 p.2) : ∃ g o, A = some ⟨g, o, none⟩ ∧ W'.cell? ⟨g, o + l * 2, none⟩ = some p.1 ∧ W'.cell? ⟨g, o + l * 2 + 1, none⟩ = some p.2 := by
  obtain ⟨g, o, hA, hlt, hc⟩ := hr.2 l p hp
  have h0 : W.cell? ⟨g, o + l * 2, none⟩ = some p.1 := hc 0 _ rfl
  have h1 : W.cell? ⟨g, o + l * 2 + 1, none⟩ = some p.2 := hc 1 _ rfl
  have hne : b ≠ g := by
    rintro rfl
    obtain ⟨f, x, y, hf⟩ := hd.fn
    rw [hf, hb.cell] at h0
    rcases hi : o + l * 2 with _ | _ | _ | _ | _ | _ | _ | i <;> rw [hi] at h0 <;> simp at h0
  have hs : W'.heap[g]? = W.heap[g]? := hg.block g hlt (by simpa using Ne.symm hne)
  exact ⟨g, o, hA, (by simpa [World.cell?, hs] using h0), (by simpa [World.cell?, hs] using h1)⟩

attribute [local go_sem] store_func
set_option maxRecDepth 100000 in
set_option maxHeartbeats 8000000 in
theorem run_any {r : Ru} {u : Value} {w : World} (hR : RuV r u w) (hok : RuOK r) (s : St) (hs : StK s) (k : Pk) (hk : PkOK k) {v : Value} {xs : List Int} (hx : IntsAt w v xs) :
    Calls Tryz.prog 94 #[u, .agg #[.int .i64 s.p, .int .i64 s.a, .int .i64 s.b, .int .i64 s.m, .int .i64 s.wt, .int .i64 s.g, .int .i64 s.t], v, .agg #[.int .i64 k.h, .int .i64 k.c, .int .i64 k.d]] w fun e w' => e = .returned (.agg #[.int .i64 (runK r k s xs).p, .int .i64 (runK r k s xs).a, .int .i64 (runK r k s xs).b, .int .i64 (runK r k s xs).m, .int .i64 (runK r k s xs).wt, .int .i64 (runK r k s xs).g, .int .i64 (runK r k s xs).t]) ∧ Ext w w' := by
  obtain ⟨A, ca, rfl⟩ := ints_slice hx
  have HXS := Lib.hid hx
  have hnb : xs.length ≤ 1152921504606846976 := by
    rcases hx with ⟨ao, ca', h1, h2⟩ | ⟨b, o, ca', h1, hb, hm, hc⟩
    · rw [h2]; simp
    · exact hm
  have HR := Lib.hid hR
  have HOK := Lib.hid hok
  have HPK := Lib.hid hk
  obtain ⟨A0, A1, A2, A3, n0, n1, n2, n3, c0, c1, c2, c3, rfl, -⟩ := hR
  obtain ⟨W0, hW0⟩ : ∃ W0, W0 = (((w.alloc (.cells #[.slice A0 n0 c0, .slice A1 n1 c1, .slice A2 n2 c2, .slice A3 n3 c3, .int .i64 r.h0, .int .i64 r.h1, .int .i64 r.h2, .int .i64 r.h3] 161)).alloc (.cells #[.int .i64 s.p, .int .i64 s.a, .int .i64 s.b, .int .i64 s.m, .int .i64 s.wt, .int .i64 s.g, .int .i64 s.t] 30)).alloc (.cells #[.int .i64 k.h, .int .i64 k.c, .int .i64 k.d] 32)).alloc (.cells #[.int .i64 0, .int .i64 0, .int .i64 0, .int .i64 0, .int .i64 0, .int .i64 0, .int .i64 0] 30) := ⟨_, rfl⟩
  have HI0 := Lib.hid (show RunI w W0 #[.slice A0 n0 c0, .slice A1 n1 c1, .slice A2 n2 c2, .slice A3 n3 c3, .int .i64 r.h0, .int .i64 r.h1, .int .i64 r.h2, .int .i64 r.h3] s k by
    rw [hW0]
    exact ⟨(((Blk.new _ _ _).alloc _).alloc _).alloc _, ((Blk.newAt _ _ _ (by simp)).alloc _).alloc _, (Blk.newAt _ _ _ (by simp)).alloc _, Blk.newAt _ _ _ (by simp), (((Ext.alloc _ _).trans (Ext.alloc _ _)).trans (Ext.alloc _ _)).trans (Ext.alloc _ _)⟩)
  have HS0 := Lib.hid hs
  clear hx hok hk hs
  obtain ⟨n, hn⟩ : ∃ n, n = xs.length := ⟨_, rfl⟩
  rw [← hn] at hnb
  have HN := Lib.hid hn
  rw [← hn]
  clear hn
  have HRK := Lib.hid (show runK r k s xs = runK r k s (xs.drop 0) from rfl)
  generalize runK r k s xs = fz at HRK
  go_enter Tryz.func94, Tryz.ntmps94
  go_wp2
  rw [← hW0]
  clear hW0
  go_loopw [15] (fun i wr => ∃ (j : Nat) (z : St), j ≤ n ∧ i = .int .i64 j ∧ StK z ∧ fz = runK r k z (xs.drop j) ∧ RunI w wr #[.slice A0 n0 c0, .slice A1 n1 c1, .slice A2 n2 c2, .slice A3 n3 c3, .int .i64 r.h0, .int .i64 r.h1, .int .i64 r.h2, .int .i64 r.h3] z k) (fun i _ => n - (intOf i).toNat)
  case atStart => exact ⟨0, s, Nat.zero_le _, rfl, HS0.out, HRK.out, HI0.out⟩
  case round =>
    obtain ⟨j, z, hj, rfl, hz, hf, hI⟩ := hrel
    have HI := Lib.hid hI
    have HZ0 := Lib.hid hz
    have HF := Lib.hid hf
    clear hI hz hf HI0 HS0 HRK
    by_cases hlt : j < n
    · obtain ⟨x, hx⟩ : ∃ x, xs[j]? = some x := ⟨_, List.getElem?_eq_getElem (by rw [← HN.out]; exact hlt)⟩
      obtain ⟨b, o, hA, hc⟩ : ∃ b o, A = some ⟨b, o, none⟩ ∧ w.cell? ⟨b, o + j, none⟩ = some (.int .i64 x) := by
        rcases HXS.out with ⟨ao, ca', h1, h2⟩ | ⟨b, o, ca', h1, hb, hm, hc⟩
        · rw [h2] at hx; simp at hx
        · obtain ⟨rfl, -⟩ : A = some ⟨b, o, none⟩ ∧ ca = ca' := by simpa using h1
          have := hc j (by rw [← HN.out]; exact hlt)
          rw [List.getD_eq_getElem?_getD, hx] at this
          exact ⟨b, o, rfl, this⟩
      subst hA
      have cj : wr.cell? ⟨b, o + j, none⟩ = some (.int .i64 x) := HI.out.e.cell hc
      have hji : (j : Int) < (n : Int) := by omega
      have HD := Lib.hid (show xs.drop j = x :: xs.drop (j + 1) by
        obtain ⟨h1, h2⟩ := List.getElem?_eq_some_iff.1 hx
        rw [List.drop_eq_getElem_cons h1, h2])
      clear hc hx
      have y0 : wr.cell? ⟨w.heap.size, 0, none⟩ = some (.slice A0 n0 c0) := HI.out.k0.cell 0
      have y1 : wr.cell? ⟨w.heap.size, 1, none⟩ = some (.slice A1 n1 c1) := HI.out.k0.cell 1
      have y2 : wr.cell? ⟨w.heap.size, 2, none⟩ = some (.slice A2 n2 c2) := HI.out.k0.cell 2
      have y3 : wr.cell? ⟨w.heap.size, 3, none⟩ = some (.slice A3 n3 c3) := HI.out.k0.cell 3
      have y4 : wr.cell? ⟨w.heap.size, 4, none⟩ = some (.int .i64 (r.h0)) := HI.out.k0.cell 4
      have y5 : wr.cell? ⟨w.heap.size, 5, none⟩ = some (.int .i64 (r.h1)) := HI.out.k0.cell 5
      have y6 : wr.cell? ⟨w.heap.size, 6, none⟩ = some (.int .i64 (r.h2)) := HI.out.k0.cell 6
      have y7 : wr.cell? ⟨w.heap.size, 7, none⟩ = some (.int .i64 (r.h3)) := HI.out.k0.cell 7
      go_wp2
      refine wp_region_each [some 19, some 20, some 21, some 22, some 23, some 24, some 25] [[4], [4], [10], [20, 21], [19, 22], [23], []]
        [Is (.agg #[.slice A0 n0 c0, .slice A1 n1 c1, .slice A2 n2 c2, .slice A3 n3 c3, .int .i64 (r.h0), .int .i64 (r.h1), .int .i64 (r.h2), .int .i64 (r.h3)]), Is (.agg #[.slice A0 n0 c0, .slice A1 n1 c1, .slice A2 n2 c2, .slice A3 n3 c3, .int .i64 (r.h0), .int .i64 (r.h1), .int .i64 (r.h2), .int .i64 (r.h3)]), Is (.int .i64 (x)), Is (.agg #[.int .i64 (lastK HK.k x r.hs), .int .i64 (firstK CK.k x r.cs), .int .i64 (firstK DK.k x r.ds), .int .i64 (lastK TK.k x r.ts)]), DeedsV (tickD r x), Is (.int .i64 (((tickD r x).length : Int))), Is (.int .i64 (0))]
        (by kernel_rfl) (by kernel_rfl) (by kernel_rfl) (by kernel_rfl) (by kernel_rfl) Ext (fun W => Ext wr W)
        (fun W _ => Ext.refl W) (fun W W' h k => h.trans k) ?_ (Ext.drew _) ?_ ?_
      · repeat (refine ⟨fun _ _ _ _ k h => (by first | exact h | exact (by first | exact DeedsV.ext h k | exact IntsAt.ext h k | exact KnV.ext h k | exact NumsV.ext h k)), ?_⟩)
        exact trivial
      · refine ⟨?_, ?_, ?_, ?_, ?_, ?_, ?_, trivial⟩
        all_goals intro ρ W ⟨kc, kg, kf⟩ hF hs
        · obtain ⟨h0, -⟩ := hs
          replace h0 : ρ (.tmp 4) = .pointer (some ⟨w.heap.size, 0, none⟩) := h0
          have hc0 : W.cell? ⟨w.heap.size, 0, none⟩ = some (.slice A0 n0 c0) := hF.cell (by assumption)
          have hc1 : W.cell? ⟨w.heap.size, 1, none⟩ = some (.slice A1 n1 c1) := hF.cell (by assumption)
          have hc2 : W.cell? ⟨w.heap.size, 2, none⟩ = some (.slice A2 n2 c2) := hF.cell (by assumption)
          have hc3 : W.cell? ⟨w.heap.size, 3, none⟩ = some (.slice A3 n3 c3) := hF.cell (by assumption)
          have hc4 : W.cell? ⟨w.heap.size, 4, none⟩ = some (.int .i64 (r.h0)) := hF.cell (by assumption)
          have hc5 : W.cell? ⟨w.heap.size, 5, none⟩ = some (.int .i64 (r.h1)) := hF.cell (by assumption)
          have hc6 : W.cell? ⟨w.heap.size, 6, none⟩ = some (.int .i64 (r.h2)) := hF.cell (by assumption)
          have hc7 : W.cell? ⟨w.heap.size, 7, none⟩ = some (.int .i64 (r.h3)) := hF.cell (by assumption)
          go_simp
          exact ⟨Ext.refl _, rfl⟩
        · obtain ⟨h0, -⟩ := hs
          replace h0 : ρ (.tmp 4) = .pointer (some ⟨w.heap.size, 0, none⟩) := h0
          have hc0 : W.cell? ⟨w.heap.size, 0, none⟩ = some (.slice A0 n0 c0) := hF.cell (by assumption)
          have hc1 : W.cell? ⟨w.heap.size, 1, none⟩ = some (.slice A1 n1 c1) := hF.cell (by assumption)
          have hc2 : W.cell? ⟨w.heap.size, 2, none⟩ = some (.slice A2 n2 c2) := hF.cell (by assumption)
          have hc3 : W.cell? ⟨w.heap.size, 3, none⟩ = some (.slice A3 n3 c3) := hF.cell (by assumption)
          have hc4 : W.cell? ⟨w.heap.size, 4, none⟩ = some (.int .i64 (r.h0)) := hF.cell (by assumption)
          have hc5 : W.cell? ⟨w.heap.size, 5, none⟩ = some (.int .i64 (r.h1)) := hF.cell (by assumption)
          have hc6 : W.cell? ⟨w.heap.size, 6, none⟩ = some (.int .i64 (r.h2)) := hF.cell (by assumption)
          have hc7 : W.cell? ⟨w.heap.size, 7, none⟩ = some (.int .i64 (r.h3)) := hF.cell (by assumption)
          go_simp
          exact ⟨Ext.refl _, rfl⟩
        · obtain ⟨h0, -⟩ := hs
          replace h0 : ρ (.tmp 10) = .int .i64 (x) := h0
          go_simp
          exact ⟨Ext.refl _, rfl⟩
        · obtain ⟨h0, h1, -⟩ := hs
          replace h0 : ρ (.tmp 20) = .agg #[.slice A0 n0 c0, .slice A1 n1 c1, .slice A2 n2 c2, .slice A3 n3 c3, .int .i64 (r.h0), .int .i64 (r.h1), .int .i64 (r.h2), .int .i64 (r.h3)] := h0
          replace h1 : ρ (.tmp 21) = .int .i64 (x) := h1
          go_simp
          refine (placeAt_any (HR.out.ext (HI.out.e.trans hF)) x).mono ?_; rintro e w' ⟨rfl, hx⟩; exact ⟨_, rfl, hx, rfl⟩
        · obtain ⟨h0, h1, -⟩ := hs
          replace h0 : ρ (.tmp 19) = .agg #[.slice A0 n0 c0, .slice A1 n1 c1, .slice A2 n2 c2, .slice A3 n3 c3, .int .i64 (r.h0), .int .i64 (r.h1), .int .i64 (r.h2), .int .i64 (r.h3)] := h0
          replace h1 : ρ (.tmp 22) = .agg #[.int .i64 (lastK HK.k x r.hs), .int .i64 (firstK CK.k x r.cs), .int .i64 (firstK DK.k x r.ds), .int .i64 (lastK TK.k x r.ts)] := h1
          go_simp
          refine (deedsAt_any (HR.out.ext (HI.out.e.trans hF)) (lastK_at _ _ _) (firstK_at _ _ _) (firstK_at _ _ _) (lastK_at _ _ _)).mono ?_; rintro e w' ⟨v, rfl, hx, hv⟩; exact ⟨_, rfl, hx, hv⟩
        · obtain ⟨h0, -⟩ := hs
          replace h0 : (DeedsV (tickD r x)) (ρ (.tmp 23)) W := h0
          obtain ⟨A, nd, c, rows, he, hl, -⟩ := h0
          replace h0 : ρ (.tmp 23) = .slice A nd c := he
          rw [hl.out]
          go_simp
          exact ⟨Ext.refl _, rfl⟩
        · go_simp
          exact ⟨Ext.refl _, rfl⟩
      · intro fv W1 hF hs
        obtain ⟨-, -, -, -, h23, h24, h25, -⟩ := hs
        replace h23 : (DeedsV (tickD r x)) (fv 23) W1 := h23
        replace h24 : fv 24 = .int .i64 (((tickD r x).length : Int)) := h24
        replace h25 : fv 25 = .int .i64 (0) := h25
        simp only [fin, List.filterMap]
        go_simp
        obtain ⟨Ad, nd, cd, rows, he, hl, hr, hn3, hro, hdc⟩ := h23
        rw [hl.out] at h24
        rw [hl.out]
        rw [he]
        have HJ0 := Lib.hid (HI.out.ext hF)
        have HRO := Lib.hid hro
        have HDC := Lib.hid hdc
        have HDL := Lib.hid hl.out
        have HRL := Lib.hid hr.out
        have HTK := Lib.hid (show tickK r k z x = ((tickD r x).drop 0).foldl (fun s d => stepD d k s) z from rfl)
        have HTO := Lib.hid (tickD_ok HOK.out x)
        generalize tickD r x = ds at *
        clear hro hdc hl hr h24 h25 he hF y0 y1 y2 y3 y4 y5 y6 y7 cj
        go_wp2
        go_loopw [25] (fun i ws => ∃ (l : Nat) (y : St), l ≤ nd ∧ i = .int .i64 l ∧ StK y ∧ tickK r k z x = (ds.drop l).foldl (fun s d => stepD d k s) y ∧ RunI w ws #[.slice A0 n0 c0, .slice A1 n1 c1, .slice A2 n2 c2, .slice A3 n3 c3, .int .i64 r.h0, .int .i64 r.h1, .int .i64 r.h2, .int .i64 r.h3] y k ∧ W1.grownBy ws (some (w.heap.size + 1))) (fun i _ => nd - (intOf i).toNat)
        case atStart => exact ⟨0, z, Nat.zero_le _, rfl, HZ0.out, HTK.out, HJ0.out, ⟨rfl, rfl, rfl, Nat.le_refl _, fun _ _ _ => rfl⟩⟩
        case round =>
          obtain ⟨l, y, hl, rfl, hy, ht, hJ, hg⟩ := hrel
          rename World => ws
          have HJ := Lib.hid hJ
          have HZ := Lib.hid hy
          have HT := Lib.hid ht
          have HG := Lib.hid hg
          clear hJ hy ht hg
          by_cases hll : l < nd
          · obtain ⟨d, hdl⟩ : ∃ d, ds[l]? = some d := ⟨_, List.getElem?_eq_getElem (by rw [HDL.out]; exact hll)⟩
            obtain ⟨p, hpl⟩ : ∃ p, rows[l]? = some p := ⟨_, List.getElem?_eq_getElem (by rw [HRL.out]; exact hll)⟩
            have hok' := HTO.out d (List.mem_of_getElem? hdl)
            have hd := HDC.out l d p hdl hpl
            obtain ⟨g, og, hAg, hp0, hp1⟩ := rows_grown HJ0.out.k1 HG.out HRO.out hpl hd
            replace hd := hd.grown HJ0.out.k1 HG.out
            subst hAg
            have HL := Lib.hid (show ds.drop l = d :: ds.drop (l + 1) by
              obtain ⟨h1, h2⟩ := List.getElem?_eq_some_iff.1 hdl
              rw [List.drop_eq_getElem_cons h1, h2])
            have hli : (l : Int) < (nd : Int) := by omega
            clear hdl hpl
            obtain ⟨pf, pg⟩ := p
            dsimp only at hp0 hp1 hd
            have y10 : ∀ o, (ws.alloc o).cell? ⟨w.heap.size + 1, 0, none⟩ = some (.int .i64 y.p) := fun o => (HJ.out.k1.alloc o).cell 0
            have y11 : ∀ o, (ws.alloc o).cell? ⟨w.heap.size + 1, 1, none⟩ = some (.int .i64 y.a) := fun o => (HJ.out.k1.alloc o).cell 1
            have y12 : ∀ o, (ws.alloc o).cell? ⟨w.heap.size + 1, 2, none⟩ = some (.int .i64 y.b) := fun o => (HJ.out.k1.alloc o).cell 2
            have y13 : ∀ o, (ws.alloc o).cell? ⟨w.heap.size + 1, 3, none⟩ = some (.int .i64 y.m) := fun o => (HJ.out.k1.alloc o).cell 3
            have y14 : ∀ o, (ws.alloc o).cell? ⟨w.heap.size + 1, 4, none⟩ = some (.int .i64 y.wt) := fun o => (HJ.out.k1.alloc o).cell 4
            have y15 : ∀ o, (ws.alloc o).cell? ⟨w.heap.size + 1, 5, none⟩ = some (.int .i64 y.g) := fun o => (HJ.out.k1.alloc o).cell 5
            have y16 : ∀ o, (ws.alloc o).cell? ⟨w.heap.size + 1, 6, none⟩ = some (.int .i64 y.t) := fun o => (HJ.out.k1.alloc o).cell 6
            have y20 : ∀ o, (ws.alloc o).cell? ⟨w.heap.size + 1 + 1, 0, none⟩ = some (.int .i64 k.h) := fun o => (HJ.out.k2.alloc o).cell 0
            have y21 : ∀ o, (ws.alloc o).cell? ⟨w.heap.size + 1 + 1, 1, none⟩ = some (.int .i64 k.c) := fun o => (HJ.out.k2.alloc o).cell 1
            have y22 : ∀ o, (ws.alloc o).cell? ⟨w.heap.size + 1 + 1, 2, none⟩ = some (.int .i64 k.d) := fun o => (HJ.out.k2.alloc o).cell 2
            have ne1 : ¬ (ws.heap.size = w.heap.size + 1) := by have := HJ.out.k1.lt; omega
            have ne2 : ¬ (w.heap.size + 1 = ws.heap.size) := by have := HJ.out.k1.lt; omega
            have ne3 : ¬ (ws.heap.size = w.heap.size + 1 + 1) := by have := HJ.out.k2.lt; omega
            have ne4 : ¬ (w.heap.size + 1 + 1 = ws.heap.size) := by have := HJ.out.k2.lt; omega
            cases d with
          | h xx =>
            obtain ⟨x0, x1, x2, x3⟩ := xx
            obtain ⟨q, rfl, rfl, hb⟩ := hd
            have HD := Lib.hid hb
            have OKd := Lib.hid hok'
            clear hb hok'
            obtain ⟨y', hy'⟩ : ∃ y', y' = stepD (.h ⟨x0, x1, x2, x3⟩) ⟨k.h, k.c, k.d⟩ ⟨y.p, y.a, y.b, y.m, y.wt, y.g, y.t⟩ := ⟨_, rfl⟩
            have HY := Lib.hid hy'
            have HY2 := Lib.hid (show StK y' by rw [hy']; exact step_ok OKd.out HPK.out HZ.out)
            clear hy'
            go_wp2_with (go_at_call 164; have XM := Lib.hid (Ext.alloc ws (.cells #[.func (.func 164) #[] #[.pointer (some ⟨q, 0, none⟩)], .func (.func 167) #[] #[.pointer (some ⟨q, 0, none⟩)]] 207)); refine (heatS_any (HD.out.ext XM.out) OKd.out.1 OKd.out.2 _ _ _ _ _ _ _ _ _ _ HZ.out HPK.out).mono ?_; rintro e W2 ⟨he, hx⟩; have X2 := Lib.hid (XM.out.trans hx); rw [← HY.out] at he; replace he : e = .returned (.agg #[.int .i64 y'.p, .int .i64 y'.a, .int .i64 y'.b, .int .i64 y'.m, .int .i64 y'.wt, .int .i64 y'.g, .int .i64 y'.t]) := he; subst he; have kk := HJ.out.k1.ext X2.out; have z20 : W2.cell? ⟨w.heap.size + 1, 0, none⟩ = some (.int .i64 y.p) := kk.cell 0; have zf20 := kk.free 0; have z21 : W2.cell? ⟨w.heap.size + 1, 1, none⟩ = some (.int .i64 y.a) := kk.cell 1; have zf21 := kk.free 1; have z22 : W2.cell? ⟨w.heap.size + 1, 2, none⟩ = some (.int .i64 y.b) := kk.cell 2; have zf22 := kk.free 2; have z23 : W2.cell? ⟨w.heap.size + 1, 3, none⟩ = some (.int .i64 y.m) := kk.cell 3; have zf23 := kk.free 3; have z24 : W2.cell? ⟨w.heap.size + 1, 4, none⟩ = some (.int .i64 y.wt) := kk.cell 4; have zf24 := kk.free 4; have z25 : W2.cell? ⟨w.heap.size + 1, 5, none⟩ = some (.int .i64 y.g) := kk.cell 5; have zf25 := kk.free 5; have z26 : W2.cell? ⟨w.heap.size + 1, 6, none⟩ = some (.int .i64 y.t) := kk.cell 6; have zf26 := kk.free 6; clear kk hx)
            go_roundw
            case rel => exact ⟨l + 1, y', by omega, by go_num, HY2.out, by rw [HT.out, HL.out, HY.out]; rfl, (HJ.out.ext X2.out).step, Lib.grownBy_setB (Lib.grownBy_setB (Lib.grownBy_setB (Lib.grownBy_setB (Lib.grownBy_setB (Lib.grownBy_setB (Lib.grownBy_setB (Lib.grownBy_below HG.out X2.out) _ _) _ _) _ _) _ _) _ _) _ _) _ _⟩
            case measure => simp [intOf]; omega
          | c xx =>
            obtain ⟨x0, x1, x2, x3, x4⟩ := xx
            obtain ⟨q, rfl, rfl, hb⟩ := hd
            have HD := Lib.hid hb
            have OKd := Lib.hid hok'
            clear hb hok'
            obtain ⟨y', hy'⟩ : ∃ y', y' = stepD (.c ⟨x0, x1, x2, x3, x4⟩) ⟨k.h, k.c, k.d⟩ ⟨y.p, y.a, y.b, y.m, y.wt, y.g, y.t⟩ := ⟨_, rfl⟩
            have HY := Lib.hid hy'
            have HY2 := Lib.hid (show StK y' by rw [hy']; exact step_ok OKd.out HPK.out HZ.out)
            clear hy'
            go_wp2_with (go_at_call 168; have XM := Lib.hid (Ext.alloc ws (.cells #[.func (.func 168) #[] #[.pointer (some ⟨q, 0, none⟩)], .func (.func 171) #[] #[.pointer (some ⟨q, 0, none⟩)]] 207)); refine (coolS_any (HD.out.ext XM.out) OKd.out.1 OKd.out.2 _ _ _ _ _ _ _ _ _ _ HZ.out HPK.out).mono ?_; rintro e W2 ⟨he, hx⟩; have X2 := Lib.hid (XM.out.trans hx); rw [← HY.out] at he; replace he : e = .returned (.agg #[.int .i64 y'.p, .int .i64 y'.a, .int .i64 y'.b, .int .i64 y'.m, .int .i64 y'.wt, .int .i64 y'.g, .int .i64 y'.t]) := he; subst he; have kk := HJ.out.k1.ext X2.out; have z20 : W2.cell? ⟨w.heap.size + 1, 0, none⟩ = some (.int .i64 y.p) := kk.cell 0; have zf20 := kk.free 0; have z21 : W2.cell? ⟨w.heap.size + 1, 1, none⟩ = some (.int .i64 y.a) := kk.cell 1; have zf21 := kk.free 1; have z22 : W2.cell? ⟨w.heap.size + 1, 2, none⟩ = some (.int .i64 y.b) := kk.cell 2; have zf22 := kk.free 2; have z23 : W2.cell? ⟨w.heap.size + 1, 3, none⟩ = some (.int .i64 y.m) := kk.cell 3; have zf23 := kk.free 3; have z24 : W2.cell? ⟨w.heap.size + 1, 4, none⟩ = some (.int .i64 y.wt) := kk.cell 4; have zf24 := kk.free 4; have z25 : W2.cell? ⟨w.heap.size + 1, 5, none⟩ = some (.int .i64 y.g) := kk.cell 5; have zf25 := kk.free 5; have z26 : W2.cell? ⟨w.heap.size + 1, 6, none⟩ = some (.int .i64 y.t) := kk.cell 6; have zf26 := kk.free 6; clear kk hx)
            go_roundw
            case rel => exact ⟨l + 1, y', by omega, by go_num, HY2.out, by rw [HT.out, HL.out, HY.out]; rfl, (HJ.out.ext X2.out).step, Lib.grownBy_setB (Lib.grownBy_setB (Lib.grownBy_setB (Lib.grownBy_setB (Lib.grownBy_setB (Lib.grownBy_setB (Lib.grownBy_setB (Lib.grownBy_below HG.out X2.out) _ _) _ _) _ _) _ _) _ _) _ _) _ _⟩
            case measure => simp [intOf]; omega
          | d xx =>
            obtain ⟨x0, x1, x2⟩ := xx
            obtain ⟨q, rfl, rfl, hb⟩ := hd
            have HD := Lib.hid hb
            have OKd := Lib.hid hok'
            clear hb hok'
            obtain ⟨y', hy'⟩ : ∃ y', y' = stepD (.d ⟨x0, x1, x2⟩) ⟨k.h, k.c, k.d⟩ ⟨y.p, y.a, y.b, y.m, y.wt, y.g, y.t⟩ := ⟨_, rfl⟩
            have HY := Lib.hid hy'
            have HY2 := Lib.hid (show StK y' by rw [hy']; exact step_ok OKd.out HPK.out HZ.out)
            clear hy'
            go_wp2_with (go_at_call 172; have XM := Lib.hid (Ext.alloc ws (.cells #[.func (.func 172) #[] #[.pointer (some ⟨q, 0, none⟩)], .func (.func 174) #[] #[.pointer (some ⟨q, 0, none⟩)]] 207)); refine (coldS_any (HD.out.ext XM.out) OKd.out _ _ _ _ _ _ _ _ _ _ HZ.out HPK.out).mono ?_; rintro e W2 ⟨he, hx⟩; have X2 := Lib.hid (XM.out.trans hx); rw [← HY.out] at he; replace he : e = .returned (.agg #[.int .i64 y'.p, .int .i64 y'.a, .int .i64 y'.b, .int .i64 y'.m, .int .i64 y'.wt, .int .i64 y'.g, .int .i64 y'.t]) := he; subst he; have kk := HJ.out.k1.ext X2.out; have z20 : W2.cell? ⟨w.heap.size + 1, 0, none⟩ = some (.int .i64 y.p) := kk.cell 0; have zf20 := kk.free 0; have z21 : W2.cell? ⟨w.heap.size + 1, 1, none⟩ = some (.int .i64 y.a) := kk.cell 1; have zf21 := kk.free 1; have z22 : W2.cell? ⟨w.heap.size + 1, 2, none⟩ = some (.int .i64 y.b) := kk.cell 2; have zf22 := kk.free 2; have z23 : W2.cell? ⟨w.heap.size + 1, 3, none⟩ = some (.int .i64 y.m) := kk.cell 3; have zf23 := kk.free 3; have z24 : W2.cell? ⟨w.heap.size + 1, 4, none⟩ = some (.int .i64 y.wt) := kk.cell 4; have zf24 := kk.free 4; have z25 : W2.cell? ⟨w.heap.size + 1, 5, none⟩ = some (.int .i64 y.g) := kk.cell 5; have zf25 := kk.free 5; have z26 : W2.cell? ⟨w.heap.size + 1, 6, none⟩ = some (.int .i64 y.t) := kk.cell 6; have zf26 := kk.free 6; clear kk hx)
            go_roundw
            case rel => exact ⟨l + 1, y', by omega, by go_num, HY2.out, by rw [HT.out, HL.out, HY.out]; rfl, (HJ.out.ext X2.out).step, Lib.grownBy_setB (Lib.grownBy_setB (Lib.grownBy_setB (Lib.grownBy_setB (Lib.grownBy_setB (Lib.grownBy_setB (Lib.grownBy_setB (Lib.grownBy_below HG.out X2.out) _ _) _ _) _ _) _ _) _ _) _ _) _ _⟩
            case measure => simp [intOf]; omega
          | t xx =>
            obtain ⟨x0, x1⟩ := xx
            obtain ⟨q, q', rfl, rfl, hb, hb'⟩ := hd
            have HD := Lib.hid hb
            have HD2 := Lib.hid hb'
            have OKd := Lib.hid hok'
            clear hb hok' hb'
            obtain ⟨y', hy'⟩ : ∃ y', y' = stepD (.t ⟨x0, x1⟩) ⟨k.h, k.c, k.d⟩ ⟨y.p, y.a, y.b, y.m, y.wt, y.g, y.t⟩ := ⟨_, rfl⟩
            have HY := Lib.hid hy'
            have HY2 := Lib.hid (show StK y' by rw [hy']; exact step_ok OKd.out HPK.out HZ.out)
            clear hy'
            go_wp2_with (go_at_call 176; have XM := Lib.hid (Ext.alloc ws (.cells #[.func (.func 176) #[] #[.pointer (some ⟨q', 0, none⟩)], .func (.func 177) #[] #[.pointer (some ⟨q', 0, none⟩)]] 207)); refine (temperS_any (HD.out.ext XM.out) (HD2.out.ext XM.out) OKd.out _ _ _ _ _ _ _ _ _ _ HZ.out).mono ?_; rintro e W2 ⟨he, hx⟩; have X2 := Lib.hid (XM.out.trans hx); rw [← HY.out] at he; replace he : e = .returned (.agg #[.int .i64 y'.p, .int .i64 y'.a, .int .i64 y'.b, .int .i64 y'.m, .int .i64 y'.wt, .int .i64 y'.g, .int .i64 y'.t]) := he; subst he; have kk := HJ.out.k1.ext X2.out; have z20 : W2.cell? ⟨w.heap.size + 1, 0, none⟩ = some (.int .i64 y.p) := kk.cell 0; have zf20 := kk.free 0; have z21 : W2.cell? ⟨w.heap.size + 1, 1, none⟩ = some (.int .i64 y.a) := kk.cell 1; have zf21 := kk.free 1; have z22 : W2.cell? ⟨w.heap.size + 1, 2, none⟩ = some (.int .i64 y.b) := kk.cell 2; have zf22 := kk.free 2; have z23 : W2.cell? ⟨w.heap.size + 1, 3, none⟩ = some (.int .i64 y.m) := kk.cell 3; have zf23 := kk.free 3; have z24 : W2.cell? ⟨w.heap.size + 1, 4, none⟩ = some (.int .i64 y.wt) := kk.cell 4; have zf24 := kk.free 4; have z25 : W2.cell? ⟨w.heap.size + 1, 5, none⟩ = some (.int .i64 y.g) := kk.cell 5; have zf25 := kk.free 5; have z26 : W2.cell? ⟨w.heap.size + 1, 6, none⟩ = some (.int .i64 y.t) := kk.cell 6; have zf26 := kk.free 6; clear kk hx)
            go_roundw
            case rel => exact ⟨l + 1, y', by omega, by go_num, HY2.out, by rw [HT.out, HL.out, HY.out]; rfl, (HJ.out.ext X2.out).step, Lib.grownBy_setB (Lib.grownBy_setB (Lib.grownBy_setB (Lib.grownBy_setB (Lib.grownBy_setB (Lib.grownBy_setB (Lib.grownBy_setB (Lib.grownBy_below HG.out X2.out) _ _) _ _) _ _) _ _) _ _) _ _) _ _⟩
            case measure => simp [intOf]; omega
          · have HE := Lib.hid (show tickK r k z x = y by rw [HT.out, List.drop_eq_nil_of_le (by rw [HDL.out]; omega)]; rfl)
            go_wp2
            go_roundw
            case rel => exact ⟨j + 1, y, by omega, by go_num, HZ.out, by rw [HF.out, HD.out]; unfold runK; rw [List.foldl_cons, HE.out], HJ.out⟩
            case measure => simp [intOf]; omega
    · have HE := Lib.hid (show fz = z by rw [HF.out, List.drop_eq_nil_of_le (by rw [← HN.out]; omega)]; rfl)
      have y0 := HI.out.k1
      have y10 : wr.cell? ⟨w.heap.size + 1, 0, none⟩ = some (.int .i64 z.p) := HI.out.k1.cell 0
      have y11 : wr.cell? ⟨w.heap.size + 1, 1, none⟩ = some (.int .i64 z.a) := HI.out.k1.cell 1
      have y12 : wr.cell? ⟨w.heap.size + 1, 2, none⟩ = some (.int .i64 z.b) := HI.out.k1.cell 2
      have y13 : wr.cell? ⟨w.heap.size + 1, 3, none⟩ = some (.int .i64 z.m) := HI.out.k1.cell 3
      have y14 : wr.cell? ⟨w.heap.size + 1, 4, none⟩ = some (.int .i64 z.wt) := HI.out.k1.cell 4
      have y15 : wr.cell? ⟨w.heap.size + 1, 5, none⟩ = some (.int .i64 z.g) := HI.out.k1.cell 5
      have y16 : wr.cell? ⟨w.heap.size + 1, 6, none⟩ = some (.int .i64 z.t) := HI.out.k1.cell 6
      have z0 : wr.cell? ⟨w.heap.size + 1 + 1 + 1, 0, none⟩ = some (.int .i64 0) := HI.out.k3.cell 0
      have zf0 := HI.out.k3.free 0
      have z1 : wr.cell? ⟨w.heap.size + 1 + 1 + 1, 1, none⟩ = some (.int .i64 0) := HI.out.k3.cell 1
      have zf1 := HI.out.k3.free 1
      have z2 : wr.cell? ⟨w.heap.size + 1 + 1 + 1, 2, none⟩ = some (.int .i64 0) := HI.out.k3.cell 2
      have zf2 := HI.out.k3.free 2
      have z3 : wr.cell? ⟨w.heap.size + 1 + 1 + 1, 3, none⟩ = some (.int .i64 0) := HI.out.k3.cell 3
      have zf3 := HI.out.k3.free 3
      have z4 : wr.cell? ⟨w.heap.size + 1 + 1 + 1, 4, none⟩ = some (.int .i64 0) := HI.out.k3.cell 4
      have zf4 := HI.out.k3.free 4
      have z5 : wr.cell? ⟨w.heap.size + 1 + 1 + 1, 5, none⟩ = some (.int .i64 0) := HI.out.k3.cell 5
      have zf5 := HI.out.k3.free 5
      have z6 : wr.cell? ⟨w.heap.size + 1 + 1 + 1, 6, none⟩ = some (.int .i64 0) := HI.out.k3.cell 6
      have zf6 := HI.out.k3.free 6
      go_wp2
      rw [HE.out]
      exact bodyPost_ret (v := .agg #[.int .i64 z.p, .int .i64 z.a, .int .i64 z.b, .int .i64 z.m, .int .i64 z.wt, .int .i64 z.g, .int .i64 z.t]) (by simp [results, Tryz.f94, go_sem, z0, z1, z2, z3, z4, z5, z6]) rfl
        ⟨rfl, Ext.set (Ext.set (Ext.set (Ext.set (Ext.set (Ext.set (Ext.set HI.out.e (by dsimp only; omega) _) (by dsimp only; omega) _) (by dsimp only; omega) _) (by dsimp only; omega) _) (by dsimp only; omega) _) (by dsimp only; omega) _) (by dsimp only; omega) _⟩

end Go.Proofs.YtkmekbafjnlfkaaGreat
