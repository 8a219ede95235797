/- The powers of a ladder, as a function value. By regen.py. -/
import Derived.Test.YtpaoeghdfeekoaaA9
namespace Go.Proofs.Ytpaoeghdfeekoaa
open Go.RowKit Go.Mem Go.RegInv
attribute [local go_sem] RelUpon_value RelUpon_skip RelUpon_enter BigFrame.eval_const BigFrame.eval_global BigFrame.eval_func

/-- A value made of a block of complex numbers. -/
def Nd (mk : Nat → Nat → Value) (q o : Nat) (zs : List G) : Value → World → Prop := fun u W => ∃ g c cu, u = mk g c ∧ q ≤ c ∧ RowsAt 2 G.enc W (some ⟨g, o, none⟩) zs ∧ Blk W g 65 cu
theorem Nd.ext {mk : Nat → Nat → Value} {q o : Nat} {zs : List G} {u : Value} {W W' : World} (h : Nd mk q o zs u W) (e : Ext W W') : Nd mk q o zs u W' := by
  obtain ⟨g, c, cu, h1, h2, h3, h4⟩ := h
  exact ⟨g, c, cu, h1, h2, h3.ext e, h4.ext e⟩
theorem rows_tail {W : World} {g : Nat} {zs : List G} (h : RowsAt 2 G.enc W (some ⟨g, 0, none⟩) zs) : RowsAt 2 G.enc W (some ⟨g, 2, none⟩) zs.tail := by
  refine ⟨by have := h.1; simp; omega, fun i x hx => ?_⟩
  obtain ⟨b, o, e, hb, hc⟩ := h.2 (i + 1) x (by simpa using hx)
  obtain ⟨rfl, rfl⟩ : g = b ∧ 0 = o := by simpa using e
  refine ⟨g, 2, rfl, hb, fun j u hu => ?_⟩
  have := hc j u hu
  rw [show 0 + (i + 1) * 2 + j = 2 + i * 2 + j by omega] at this
  exact this

set_option maxRecDepth 100000 in
theorem powersOf_any (t : Int) (A : Option Addr) (m cap : Nat) (ls : List Sh) (hm : ls.length = m) (f : Int) (B : Option Addr) (cap' : Nat) (hot : List Bool) (hm' : hot.length = m) (w : World)
    (hS : RowsAt 3 Sh.enc w A ls) (hH : RowsAt 1 boolEnc w B hot) (hok : ∀ s ∈ ls, shOK s) (hf : 1 ≤ f ∧ f ≤ 8) (h1 : 1 ≤ m) (h4 : m ≤ 4) :
    Calls Try.prog 96 #[.agg #[.int .i64 t, .slice A m cap], .agg #[.int .i64 f, .slice B m cap']] w fun e w' =>
      ∃ v, e = .returned v ∧ Nd (fun g c => .func (.func 130) #[.agg #[.slice A m cap, .slice (some ⟨g, 2, none⟩) m c]] #[]) 0 2 (volts f hot ls).tail v w' ∧ Ext w w' := by
  have e0 : Ext w ((w.alloc (.cells #[.int .i64 t, .slice A m cap] 24)).alloc (.cells #[.int .i64 f, .slice B m cap'] 27)) := (Ext.alloc _ _).trans (Ext.alloc _ _)
  have HV := Lib.hid (fun W (e : Ext w W) => callsIn_wide.1 (voltagesOf_in t A m cap ls hm f B cap' hot hm' W (hS.ext e) (hH.ext e) hok hf h1 h4))
  clear hm hm' hS hH hok hf
  generalize volts f hot ls = vs at HV ⊢
  go_enter Try.func96, Try.ntmps96
  go_wp2
  refine wp_region_each [some 5, some 6, some 7, some 8, some 9, some 10, some 11, some 12, some 4] [[2], [5], [2], [3], [7, 8], [9], [6, 10], [11], [12]]
    [Is (.pointer (some ⟨w.heap.size, 1, none⟩)), Is (.slice A m cap), Is (.agg #[.int .i64 (t), .slice A m cap]), Is (.agg #[.int .i64 (f), .slice B m cap']), Nd (fun g c => .slice (some ⟨g, 0, none⟩) (m + 1) c) (m + 1) 0 vs, Nd (fun g c => .slice (some ⟨g, 2, none⟩) m c) 0 2 vs.tail, Nd (fun g c => .agg #[.slice A m cap, .slice (some ⟨g, 2, none⟩) m c]) 0 2 vs.tail, Nd (fun g c => .func (.func 130) #[.agg #[.slice A m cap, .slice (some ⟨g, 2, none⟩) m c]] #[]) 0 2 vs.tail, Nd (fun g c => .func (.func 130) #[.agg #[.slice A m cap, .slice (some ⟨g, 2, none⟩) m c]] #[]) 0 2 vs.tail]
    (by kernel_rfl) (by kernel_rfl) (by kernel_rfl) (by kernel_rfl) (by kernel_rfl) Ext (fun W => Ext ((w.alloc (.cells #[.int .i64 t, .slice A m cap] 24)).alloc (.cells #[.int .i64 f, .slice B m cap'] 27)) W)
    (fun W _ => Ext.refl W) (fun W W' h k => h.trans k) ?_ (Ext.drew _) ?_ ?_
  · repeat (refine ⟨fun _ _ _ _ k h => (by first | exact h | exact Nd.ext h k), ?_⟩)
    exact trivial
  · refine ⟨?_, ?_, ?_, ?_, ?_, ?_, ?_, ?_, ?_, trivial⟩
    all_goals intro ρ W ⟨kc, kg, kf⟩ hF hs
    · obtain ⟨h0, -⟩ := hs
      replace h0 : ρ (.tmp 2) = .pointer (some ⟨w.heap.size, 0, none⟩) := h0
      go_simp
      exact ⟨Ext.refl _, rfl⟩
    · obtain ⟨h0, -⟩ := hs
      replace h0 : ρ (.tmp 5) = .pointer (some ⟨w.heap.size, 1, none⟩) := h0
      have hc0 : W.cell? ⟨w.heap.size, 1, none⟩ = some (.slice A m cap) := hF.cell (by go_simp)
      go_simp
      exact ⟨Ext.refl _, rfl⟩
    · obtain ⟨h0, -⟩ := hs
      replace h0 : ρ (.tmp 2) = .pointer (some ⟨w.heap.size, 0, none⟩) := h0
      have hc0 : W.cell? ⟨w.heap.size, 0, none⟩ = some (.int .i64 (t)) := hF.cell (by go_simp)
      have hc1 : W.cell? ⟨w.heap.size, 1, none⟩ = some (.slice A m cap) := hF.cell (by go_simp)
      go_simp
      exact ⟨Ext.refl _, rfl⟩
    · obtain ⟨h0, -⟩ := hs
      replace h0 : ρ (.tmp 3) = .pointer (some ⟨w.heap.size + 1, 0, none⟩) := h0
      have hc0 : W.cell? ⟨w.heap.size + 1, 0, none⟩ = some (.int .i64 (f)) := hF.cell (by go_simp)
      have hc1 : W.cell? ⟨w.heap.size + 1, 1, none⟩ = some (.slice B m cap') := hF.cell (by go_simp)
      go_simp
      exact ⟨Ext.refl _, rfl⟩
    · obtain ⟨h0, h1, -⟩ := hs
      replace h0 : ρ (.tmp 7) = .agg #[.int .i64 (t), .slice A m cap] := h0
      replace h1 : ρ (.tmp 8) = .agg #[.int .i64 (f), .slice B m cap'] := h1
      go_simp
      refine (HV.out W (e0.trans hF)).mono ?_
      rintro e w' ⟨g, c, rfl, hr, hx, _, hc, cu, hb⟩
      exact ⟨_, rfl, hx, g, c, cu, rfl, hc, hr, hb⟩
    · obtain ⟨h0, -⟩ := hs
      replace h0 : (Nd (fun g c => .slice (some ⟨g, 0, none⟩) (m + 1) c) (m + 1) 0 vs) (ρ (.tmp 9)) W := h0
      obtain ⟨g, c, cu, e, hc, hr, hb⟩ := h0
      have hc1 : (c == 1) = false := by rw [beq_eq_false_iff_ne]; omega
      have hc2 : ¬ c = 1 := by omega
      have hc3 : (1 : Int) ≤ ((m : Int) + 1) := by omega
      have hc4 : ((m : Int) + 1) ≤ (c : Int) := by omega
      go_simp
      exact ⟨Ext.refl _, g, c - 1, cu, rfl, Nat.zero_le _, rows_tail hr, hb⟩
    · obtain ⟨h0, h1, -⟩ := hs
      replace h0 : ρ (.tmp 6) = .slice A m cap := h0
      replace h1 : (Nd (fun g c => .slice (some ⟨g, 2, none⟩) m c) 0 2 vs.tail) (ρ (.tmp 10)) W := h1
      obtain ⟨g, c, cu, e, hc, hr, hb⟩ := h1
      go_simp
      exact ⟨Ext.refl _, g, c, cu, rfl, hc, hr, hb⟩
    · obtain ⟨h0, -⟩ := hs
      replace h0 : (Nd (fun g c => .agg #[.slice A m cap, .slice (some ⟨g, 2, none⟩) m c]) 0 2 vs.tail) (ρ (.tmp 11)) W := h0
      obtain ⟨g, c, cu, e, hc, hr, hb⟩ := h0
      go_simp
      exact ⟨Ext.refl _, g, c, cu, rfl, hc, hr, hb⟩
    · obtain ⟨h0, -⟩ := hs
      replace h0 : (Nd (fun g c => .func (.func 130) #[.agg #[.slice A m cap, .slice (some ⟨g, 2, none⟩) m c]] #[]) 0 2 vs.tail) (ρ (.tmp 12)) W := h0
      go_simp
      exact Ext.refl _
  · intro fv W hF hs
    obtain ⟨-, -, -, -, -, -, -, -, h4, -⟩ := hs
    replace h4 : (Nd (fun g c => .func (.func 130) #[.agg #[.slice A m cap, .slice (some ⟨g, 2, none⟩) m c]] #[]) 0 2 vs.tail) (fv 4) W := h4
    simp only [fin, List.filterMap]
    go_simp
    go_wp2
    go_ret
    exact ⟨_, rfl, h4, e0.trans hF⟩

end Go.Proofs.Ytpaoeghdfeekoaa
