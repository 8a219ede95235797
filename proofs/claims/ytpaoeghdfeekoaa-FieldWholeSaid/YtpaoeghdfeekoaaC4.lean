/- Products and reduced quotients. By regen.py. -/
import Derived.Test.YtpaoeghdfeekoaaC3
namespace Go.Proofs.Ytpaoeghdfeekoaa
open Go.RowKit Go.Mem Go.RegInv
attribute [local go_sem] RelUpon_value RelUpon_skip RelUpon_enter BigFrame.eval_const BigFrame.eval_global BigFrame.eval_func

theorem ints_newAt (W : World) (xs : List Int) (T : TypeId) {g n : Nat} (hn : n = xs.length) (h : xs.length ≤ 1152921504606846976) (hg : g = W.heap.size) : IntsAt (W.alloc (.cells (xs.map (Value.int .i64)).toArray T)) (.slice (some ⟨g, 0, none⟩) n n) xs := hg ▸ hn ▸ ints_new W xs T h

theorem times_any (a b c d : Int) (h1 : Big (a * c)) (h2 : Big (b * d)) (h3 : Big (a * d)) (h4 : Big (b * c)) (w : World) :
    Calls Try.prog 110 #[.agg #[.int .i64 a, .int .i64 b], .agg #[.int .i64 c, .int .i64 d]] w fun e w' => e = .returned (.agg #[.int .i64 (a * c - b * d), .int .i64 (a * d + b * c)]) ∧ Ext w w' := by
  obtain ⟨p1, p2⟩ := h1
  obtain ⟨p3, p4⟩ := h2
  obtain ⟨p5, p6⟩ := h3
  obtain ⟨p7, p8⟩ := h4
  go_enter Try.func110, Try.ntmps110
  go_wp2
  exact bodyPost_ret (v := .agg #[.int .i64 (a * c - b * d), .int .i64 (a * d + b * c)]) (by simp [results, Try.f110, go_sem]) rfl ⟨rfl, (Ext.alloc _ _).trans ((Ext.alloc _ _).trans (Ext.alloc _ _))⟩

def redN (a b c d : Int) : Int := if c < 0 ∨ (c = 0 ∧ d < 0) then -(gcdL [a, b, c, d] : Int) else (gcdL [a, b, c, d] : Int)

theorem gcdL4 (a b c d : Int) (h : c ≠ 0 ∨ d ≠ 0) : gcdL [a, b, c, d] ≠ 0 := by
  simp only [gcdL, List.foldl_cons, List.foldl_nil]
  rw [Ne, Nat.gcd_eq_zero_iff, Nat.gcd_eq_zero_iff]
  omega

theorem gcdL4_le (a b c d : Int) (hc : Big c) (hd : Big d) (h : c ≠ 0 ∨ d ≠ 0) : (gcdL [a, b, c, d] : Int) ≤ 1000000000000000000 := by
  simp only [gcdL, List.foldl_cons, List.foldl_nil]
  unfold Big at hc hd
  by_cases h0 : d = 0
  · subst h0
    have : c ≠ 0 := by omega
    simp only [Int.natAbs_zero, Nat.gcd_zero_right]
    have := Nat.le_of_dvd (by omega) (Nat.gcd_dvd_right (Nat.gcd (Nat.gcd 0 a.natAbs) b.natAbs) c.natAbs)
    omega
  · have := Nat.le_of_dvd (by omega) (Nat.gcd_dvd_right (Nat.gcd (Nat.gcd (Nat.gcd 0 a.natAbs) b.natAbs) c.natAbs) d.natAbs)
    omega

theorem wrap_tdiv {x m : Int} (h : Big x) : IntKind.i64.wrap (x.tdiv m) = x.tdiv m := by
  have := Int.natAbs_tdiv_le_natAbs x m
  unfold Big at h
  exact IntWalk.i64_in _ (by omega)

theorem big4 {a b c d : Int} (ha : Big a) (hb : Big b) (hc : Big c) (hd : Big d) : ∀ x ∈ [a, b, c, d], Big x := by
  intro x hx
  rcases List.mem_cons.1 hx with h | hx
  · exact h ▸ ha
  rcases List.mem_cons.1 hx with h | hx
  · exact h ▸ hb
  rcases List.mem_cons.1 hx with h | hx
  · exact h ▸ hc
  rcases List.mem_cons.1 hx with h | hx
  · exact h ▸ hd
  cases hx

set_option maxRecDepth 100000 in
set_option maxHeartbeats 2000000 in
theorem reduced_any (a b c d : Int) (ha : Big a) (hb : Big b) (hc : Big c) (hd : Big d) (hne : c ≠ 0 ∨ d ≠ 0) (w : World) :
    Calls Try.prog 109 #[.agg #[.int .i64 a, .int .i64 b], .agg #[.int .i64 c, .int .i64 d]] w fun e w' =>
      e = .returned (.agg #[.int .i64 (a.tdiv (redN a b c d)), .int .i64 (b.tdiv (redN a b c d)), .int .i64 (c.tdiv (redN a b c d)), .int .i64 (d.tdiv (redN a b c d))]) ∧ Ext w w' := by
  have HD := Lib.hid (fun W v h => divisor_any v [a, b, c, d] W h (big4 ha hb hc hd))
  have hwa := Lib.hid (fun m => wrap_tdiv (m := m) ha)
  have hwb := Lib.hid (fun m => wrap_tdiv (m := m) hb)
  have hwc := Lib.hid (fun m => wrap_tdiv (m := m) hc)
  have hwd := Lib.hid (fun m => wrap_tdiv (m := m) hd)
  have hg1 : 1 ≤ (gcdL [a, b, c, d] : Int) := by have := gcdL4 a b c d hne; omega
  have hg2 := gcdL4_le a b c d hc hd hne
  have HR := Lib.hid (show redN a b c d = if c < 0 ∨ (c = 0 ∧ d < 0) then -(gcdL [a, b, c, d] : Int) else (gcdL [a, b, c, d] : Int) from rfl)
  clear ha hb hc hd
  generalize redN a b c d = m at HR ⊢
  generalize (gcdL [a, b, c, d] : Int) = g at HD HR hg1 hg2
  have hcs : (c < 0 ∧ m = -g) ∨ (decide (c < 0) = false ∧ (c == 0) = true ∧ d < 0 ∧ m = -g) ∨ (decide (c < 0) = false ∧ (c == 0) = true ∧ decide (d < 0) = false ∧ m = g) ∨ (decide (c < 0) = false ∧ (c == 0) = false ∧ m = g) := by
    simp only [decide_eq_false_iff_not, beq_iff_eq, beq_eq_false_iff_ne]
    by_cases h1 : c < 0
    · exact .inl ⟨h1, by rw [HR.out, if_pos (.inl h1)]⟩
    · by_cases h2 : c = 0
      · by_cases h3 : d < 0
        · exact .inr (.inl ⟨h1, h2, h3, by rw [HR.out, if_pos (.inr ⟨h2, h3⟩)]⟩)
        · exact .inr (.inr (.inl ⟨h1, h2, h3, by rw [HR.out, if_neg (by omega)]⟩))
      · exact .inr (.inr (.inr ⟨h1, h2, by rw [HR.out, if_neg (by omega)]⟩))
  clear HR hne
  rcases hcs with ⟨d1, hm⟩ | hcs
  · have HM := Lib.hid hm
    have HMG := Lib.hid (show -g = m from hm.symm)
    clear hm
    go_enter Try.func109, Try.ntmps109
    go_wp2_with (go_at_call 100; refine (HD.out _ _ (ints_newAt _ [a, b, c, d] _ rfl (by simp) (by simp))).mono ?_; rintro e W1 ⟨rfl, hx⟩; have z0 : W1.cell? ⟨w.heap.size, 0, none⟩ = some (.int .i64 a) := hx.cell (by go_simp); have z1 : W1.cell? ⟨w.heap.size, 1, none⟩ = some (.int .i64 b) := hx.cell (by go_simp); have z2 : W1.cell? ⟨w.heap.size + 1, 0, none⟩ = some (.int .i64 c) := hx.cell (by go_simp); have z3 : W1.cell? ⟨w.heap.size + 1, 1, none⟩ = some (.int .i64 d) := hx.cell (by go_simp); have B1 := ((Blk.newAt _ 84 #[.int .i64 0, .int .i64 0, .int .i64 0, .int .i64 0] (g := w.heap.size + 1 + 1) (by simp)).alloc _).ext hx)
    rw [HMG.out]
    have hm0 : ¬ m = 0 := by have := HM.out; omega
    have hwa1 := hwa.out m
    have hwb1 := hwb.out m
    have hwc1 := hwc.out m
    have hwd1 := hwd.out m
    clear hg1 hg2 d1
    refine wp_region_part 19 [some 31, some 32, some 33, some 34, some 35, some 36, some 37, some 38, some 39, some 40, some 41, some 42, some 43, some 44, some 45, some 46, some 47, some 48, some 49] [[2], [31], [5], [32, 33], [2], [35], [5], [36, 37], [34, 38], [3], [40], [5], [41, 42], [3], [44], [5], [45, 46], [43, 47], [39, 48]]
      [Is (.pointer (some ⟨w.heap.size, 0, none⟩)), Is (.int .i64 (a)), Is (.int .i64 (m)), Is (.int .i64 (a.tdiv m)), Is (.pointer (some ⟨w.heap.size, 1, none⟩)), Is (.int .i64 (b)), Is (.int .i64 (m)), Is (.int .i64 (b.tdiv m)), Is (.agg #[.int .i64 (a.tdiv m), .int .i64 (b.tdiv m)]), Is (.pointer (some ⟨w.heap.size + 1, 0, none⟩)), Is (.int .i64 (c)), Is (.int .i64 (m)), Is (.int .i64 (c.tdiv m)), Is (.pointer (some ⟨w.heap.size + 1, 1, none⟩)), Is (.int .i64 (d)), Is (.int .i64 (m)), Is (.int .i64 (d.tdiv m)), Is (.agg #[.int .i64 (c.tdiv m), .int .i64 (d.tdiv m)]), Is (.agg #[.int .i64 (a.tdiv m), .int .i64 (b.tdiv m), .int .i64 (c.tdiv m), .int .i64 (d.tdiv m)])]
      (by kernel_rfl) (by kernel_rfl) (by kernel_rfl) (by kernel_rfl) (by kernel_rfl) (by kernel_rfl) (by kernel_rfl) Ext (fun W => Ext W1 W)
      (fun W _ => Ext.refl W) (fun W W' h k => h.trans k) ?_ (Ext.drew _) ?_ ?_
    · repeat (refine ⟨fun _ _ _ _ k h => (by first | exact h | exact IntsAt.ext h k), ?_⟩)
      exact trivial
    · refine ⟨?_, ?_, ?_, ?_, ?_, ?_, ?_, ?_, ?_, ?_, ?_, ?_, ?_, ?_, ?_, ?_, ?_, ?_, ?_, trivial⟩
      all_goals intro ρ W ⟨kc, kg, kf⟩ hF hs
      · obtain ⟨h0, -⟩ := hs
        replace h0 : ρ (.tmp 2) = .pointer (some ⟨w.heap.size, 0, none⟩) := h0
        go_simp
        exact ⟨Ext.refl _, rfl⟩
      · obtain ⟨h0, -⟩ := hs
        replace h0 : ρ (.tmp 31) = .pointer (some ⟨w.heap.size, 0, none⟩) := h0
        have hc0 : W.cell? ⟨w.heap.size, 0, none⟩ = some (.int .i64 (a)) := hF.cell (by assumption)
        go_simp
        exact ⟨Ext.refl _, rfl⟩
      · obtain ⟨h0, -⟩ := hs
        replace h0 : ρ (.tmp 5) = .int .i64 (m) := h0
        go_simp
        exact ⟨Ext.refl _, rfl⟩
      · obtain ⟨h0, h1, -⟩ := hs
        replace h0 : ρ (.tmp 32) = .int .i64 (a) := h0
        replace h1 : ρ (.tmp 33) = .int .i64 (m) := h1
        have hq : IntKind.i64.wrap (a.tdiv m) = a.tdiv m := hwa1
        have hm2 : ¬ m = 0 := hm0
        go_simp
        exact ⟨Ext.refl _, rfl⟩
      · obtain ⟨h0, -⟩ := hs
        replace h0 : ρ (.tmp 2) = .pointer (some ⟨w.heap.size, 0, none⟩) := h0
        go_simp
        exact ⟨Ext.refl _, rfl⟩
      · obtain ⟨h0, -⟩ := hs
        replace h0 : ρ (.tmp 35) = .pointer (some ⟨w.heap.size, 1, none⟩) := h0
        have hc0 : W.cell? ⟨w.heap.size, 1, none⟩ = some (.int .i64 (b)) := hF.cell (by assumption)
        go_simp
        exact ⟨Ext.refl _, rfl⟩
      · obtain ⟨h0, -⟩ := hs
        replace h0 : ρ (.tmp 5) = .int .i64 (m) := h0
        go_simp
        exact ⟨Ext.refl _, rfl⟩
      · obtain ⟨h0, h1, -⟩ := hs
        replace h0 : ρ (.tmp 36) = .int .i64 (b) := h0
        replace h1 : ρ (.tmp 37) = .int .i64 (m) := h1
        have hq : IntKind.i64.wrap (b.tdiv m) = b.tdiv m := hwb1
        have hm2 : ¬ m = 0 := hm0
        go_simp
        exact ⟨Ext.refl _, rfl⟩
      · obtain ⟨h0, h1, -⟩ := hs
        replace h0 : ρ (.tmp 34) = .int .i64 (a.tdiv m) := h0
        replace h1 : ρ (.tmp 38) = .int .i64 (b.tdiv m) := h1
        go_simp
        exact ⟨Ext.refl _, rfl⟩
      · obtain ⟨h0, -⟩ := hs
        replace h0 : ρ (.tmp 3) = .pointer (some ⟨w.heap.size + 1, 0, none⟩) := h0
        go_simp
        exact ⟨Ext.refl _, rfl⟩
      · obtain ⟨h0, -⟩ := hs
        replace h0 : ρ (.tmp 40) = .pointer (some ⟨w.heap.size + 1, 0, none⟩) := h0
        have hc0 : W.cell? ⟨w.heap.size + 1, 0, none⟩ = some (.int .i64 (c)) := hF.cell (by assumption)
        go_simp
        exact ⟨Ext.refl _, rfl⟩
      · obtain ⟨h0, -⟩ := hs
        replace h0 : ρ (.tmp 5) = .int .i64 (m) := h0
        go_simp
        exact ⟨Ext.refl _, rfl⟩
      · obtain ⟨h0, h1, -⟩ := hs
        replace h0 : ρ (.tmp 41) = .int .i64 (c) := h0
        replace h1 : ρ (.tmp 42) = .int .i64 (m) := h1
        have hq : IntKind.i64.wrap (c.tdiv m) = c.tdiv m := hwc1
        have hm2 : ¬ m = 0 := hm0
        go_simp
        exact ⟨Ext.refl _, rfl⟩
      · obtain ⟨h0, -⟩ := hs
        replace h0 : ρ (.tmp 3) = .pointer (some ⟨w.heap.size + 1, 0, none⟩) := h0
        go_simp
        exact ⟨Ext.refl _, rfl⟩
      · obtain ⟨h0, -⟩ := hs
        replace h0 : ρ (.tmp 44) = .pointer (some ⟨w.heap.size + 1, 1, none⟩) := h0
        have hc0 : W.cell? ⟨w.heap.size + 1, 1, none⟩ = some (.int .i64 (d)) := hF.cell (by assumption)
        go_simp
        exact ⟨Ext.refl _, rfl⟩
      · obtain ⟨h0, -⟩ := hs
        replace h0 : ρ (.tmp 5) = .int .i64 (m) := h0
        go_simp
        exact ⟨Ext.refl _, rfl⟩
      · obtain ⟨h0, h1, -⟩ := hs
        replace h0 : ρ (.tmp 45) = .int .i64 (d) := h0
        replace h1 : ρ (.tmp 46) = .int .i64 (m) := h1
        have hq : IntKind.i64.wrap (d.tdiv m) = d.tdiv m := hwd1
        have hm2 : ¬ m = 0 := hm0
        go_simp
        exact ⟨Ext.refl _, rfl⟩
      · obtain ⟨h0, h1, -⟩ := hs
        replace h0 : ρ (.tmp 43) = .int .i64 (c.tdiv m) := h0
        replace h1 : ρ (.tmp 47) = .int .i64 (d.tdiv m) := h1
        go_simp
        exact ⟨Ext.refl _, rfl⟩
      · obtain ⟨h0, h1, -⟩ := hs
        replace h0 : ρ (.tmp 39) = .agg #[.int .i64 (a.tdiv m), .int .i64 (b.tdiv m)] := h0
        replace h1 : ρ (.tmp 48) = .agg #[.int .i64 (c.tdiv m), .int .i64 (d.tdiv m)] := h1
        go_simp
        exact ⟨Ext.refl _, rfl⟩
    · intro fv W hF hs
      obtain ⟨-, -, -, -, -, -, -, -, -, -, -, -, -, -, -, -, -, -, h49, -⟩ := hs
      replace h49 : fv 49 = .agg #[.int .i64 (a.tdiv m), .int .i64 (b.tdiv m), .int .i64 (c.tdiv m), .int .i64 (d.tdiv m)] := h49
      simp only [fin, List.filterMap]
      go_simp
      have B2 := B1.ext hF
      have f0 := B2.free 0
      have f1 := B2.free 1
      have f2 := B2.free 2
      have f3 := B2.free 3
      have c0 := B2.cell 0
      have c1 := B2.cell 1
      have c2 := B2.cell 2
      have c3 := B2.cell 3
      simp only [List.getElem?_toArray, List.getElem?_cons_zero, List.getElem?_cons_succ] at c0 c1 c2 c3
      go_wp2
      exact bodyPost_ret (v := .agg #[.int .i64 (a.tdiv m), .int .i64 (b.tdiv m), .int .i64 (c.tdiv m), .int .i64 (d.tdiv m)]) (by simp [results, Try.f109, go_sem, c0, c1, c2, c3]) rfl ⟨rfl, Ext.set (Ext.set (Ext.set (Ext.set ((Ext.alloc _ _).trans ((Ext.alloc _ _).trans ((Ext.alloc _ _).trans ((Ext.alloc _ _).trans (hx.trans hF))))) (by dsimp only; omega) _) (by dsimp only; omega) _) (by dsimp only; omega) _) (by dsimp only; omega) _⟩
  rcases hcs with ⟨d1, d2, d3, hm⟩ | hcs
  · have HM := Lib.hid hm
    have HMG := Lib.hid (show -g = m from hm.symm)
    clear hm
    go_enter Try.func109, Try.ntmps109
    go_wp2_with (go_at_call 100; refine (HD.out _ _ (ints_newAt _ [a, b, c, d] _ rfl (by simp) (by simp))).mono ?_; rintro e W1 ⟨rfl, hx⟩; have z0 : W1.cell? ⟨w.heap.size, 0, none⟩ = some (.int .i64 a) := hx.cell (by go_simp); have z1 : W1.cell? ⟨w.heap.size, 1, none⟩ = some (.int .i64 b) := hx.cell (by go_simp); have z2 : W1.cell? ⟨w.heap.size + 1, 0, none⟩ = some (.int .i64 c) := hx.cell (by go_simp); have z3 : W1.cell? ⟨w.heap.size + 1, 1, none⟩ = some (.int .i64 d) := hx.cell (by go_simp); have B1 := ((Blk.newAt _ 84 #[.int .i64 0, .int .i64 0, .int .i64 0, .int .i64 0] (g := w.heap.size + 1 + 1) (by simp)).alloc _).ext hx)
    rw [HMG.out]
    have hm0 : ¬ m = 0 := by have := HM.out; omega
    have hwa1 := hwa.out m
    have hwb1 := hwb.out m
    have hwc1 := hwc.out m
    have hwd1 := hwd.out m
    clear hg1 hg2 d1 d2 d3
    refine wp_region_part 19 [some 31, some 32, some 33, some 34, some 35, some 36, some 37, some 38, some 39, some 40, some 41, some 42, some 43, some 44, some 45, some 46, some 47, some 48, some 49] [[2], [31], [5], [32, 33], [2], [35], [5], [36, 37], [34, 38], [3], [40], [5], [41, 42], [3], [44], [5], [45, 46], [43, 47], [39, 48]]
      [Is (.pointer (some ⟨w.heap.size, 0, none⟩)), Is (.int .i64 (a)), Is (.int .i64 (m)), Is (.int .i64 (a.tdiv m)), Is (.pointer (some ⟨w.heap.size, 1, none⟩)), Is (.int .i64 (b)), Is (.int .i64 (m)), Is (.int .i64 (b.tdiv m)), Is (.agg #[.int .i64 (a.tdiv m), .int .i64 (b.tdiv m)]), Is (.pointer (some ⟨w.heap.size + 1, 0, none⟩)), Is (.int .i64 (c)), Is (.int .i64 (m)), Is (.int .i64 (c.tdiv m)), Is (.pointer (some ⟨w.heap.size + 1, 1, none⟩)), Is (.int .i64 (d)), Is (.int .i64 (m)), Is (.int .i64 (d.tdiv m)), Is (.agg #[.int .i64 (c.tdiv m), .int .i64 (d.tdiv m)]), Is (.agg #[.int .i64 (a.tdiv m), .int .i64 (b.tdiv m), .int .i64 (c.tdiv m), .int .i64 (d.tdiv m)])]
      (by kernel_rfl) (by kernel_rfl) (by kernel_rfl) (by kernel_rfl) (by kernel_rfl) (by kernel_rfl) (by kernel_rfl) Ext (fun W => Ext W1 W)
      (fun W _ => Ext.refl W) (fun W W' h k => h.trans k) ?_ (Ext.drew _) ?_ ?_
    · repeat (refine ⟨fun _ _ _ _ k h => (by first | exact h | exact IntsAt.ext h k), ?_⟩)
      exact trivial
    · refine ⟨?_, ?_, ?_, ?_, ?_, ?_, ?_, ?_, ?_, ?_, ?_, ?_, ?_, ?_, ?_, ?_, ?_, ?_, ?_, trivial⟩
      all_goals intro ρ W ⟨kc, kg, kf⟩ hF hs
      · obtain ⟨h0, -⟩ := hs
        replace h0 : ρ (.tmp 2) = .pointer (some ⟨w.heap.size, 0, none⟩) := h0
        go_simp
        exact ⟨Ext.refl _, rfl⟩
      · obtain ⟨h0, -⟩ := hs
        replace h0 : ρ (.tmp 31) = .pointer (some ⟨w.heap.size, 0, none⟩) := h0
        have hc0 : W.cell? ⟨w.heap.size, 0, none⟩ = some (.int .i64 (a)) := hF.cell (by assumption)
        go_simp
        exact ⟨Ext.refl _, rfl⟩
      · obtain ⟨h0, -⟩ := hs
        replace h0 : ρ (.tmp 5) = .int .i64 (m) := h0
        go_simp
        exact ⟨Ext.refl _, rfl⟩
      · obtain ⟨h0, h1, -⟩ := hs
        replace h0 : ρ (.tmp 32) = .int .i64 (a) := h0
        replace h1 : ρ (.tmp 33) = .int .i64 (m) := h1
        have hq : IntKind.i64.wrap (a.tdiv m) = a.tdiv m := hwa1
        have hm2 : ¬ m = 0 := hm0
        go_simp
        exact ⟨Ext.refl _, rfl⟩
      · obtain ⟨h0, -⟩ := hs
        replace h0 : ρ (.tmp 2) = .pointer (some ⟨w.heap.size, 0, none⟩) := h0
        go_simp
        exact ⟨Ext.refl _, rfl⟩
      · obtain ⟨h0, -⟩ := hs
        replace h0 : ρ (.tmp 35) = .pointer (some ⟨w.heap.size, 1, none⟩) := h0
        have hc0 : W.cell? ⟨w.heap.size, 1, none⟩ = some (.int .i64 (b)) := hF.cell (by assumption)
        go_simp
        exact ⟨Ext.refl _, rfl⟩
      · obtain ⟨h0, -⟩ := hs
        replace h0 : ρ (.tmp 5) = .int .i64 (m) := h0
        go_simp
        exact ⟨Ext.refl _, rfl⟩
      · obtain ⟨h0, h1, -⟩ := hs
        replace h0 : ρ (.tmp 36) = .int .i64 (b) := h0
        replace h1 : ρ (.tmp 37) = .int .i64 (m) := h1
        have hq : IntKind.i64.wrap (b.tdiv m) = b.tdiv m := hwb1
        have hm2 : ¬ m = 0 := hm0
        go_simp
        exact ⟨Ext.refl _, rfl⟩
      · obtain ⟨h0, h1, -⟩ := hs
        replace h0 : ρ (.tmp 34) = .int .i64 (a.tdiv m) := h0
        replace h1 : ρ (.tmp 38) = .int .i64 (b.tdiv m) := h1
        go_simp
        exact ⟨Ext.refl _, rfl⟩
      · obtain ⟨h0, -⟩ := hs
        replace h0 : ρ (.tmp 3) = .pointer (some ⟨w.heap.size + 1, 0, none⟩) := h0
        go_simp
        exact ⟨Ext.refl _, rfl⟩
      · obtain ⟨h0, -⟩ := hs
        replace h0 : ρ (.tmp 40) = .pointer (some ⟨w.heap.size + 1, 0, none⟩) := h0
        have hc0 : W.cell? ⟨w.heap.size + 1, 0, none⟩ = some (.int .i64 (c)) := hF.cell (by assumption)
        go_simp
        exact ⟨Ext.refl _, rfl⟩
      · obtain ⟨h0, -⟩ := hs
        replace h0 : ρ (.tmp 5) = .int .i64 (m) := h0
        go_simp
        exact ⟨Ext.refl _, rfl⟩
      · obtain ⟨h0, h1, -⟩ := hs
        replace h0 : ρ (.tmp 41) = .int .i64 (c) := h0
        replace h1 : ρ (.tmp 42) = .int .i64 (m) := h1
        have hq : IntKind.i64.wrap (c.tdiv m) = c.tdiv m := hwc1
        have hm2 : ¬ m = 0 := hm0
        go_simp
        exact ⟨Ext.refl _, rfl⟩
      · obtain ⟨h0, -⟩ := hs
        replace h0 : ρ (.tmp 3) = .pointer (some ⟨w.heap.size + 1, 0, none⟩) := h0
        go_simp
        exact ⟨Ext.refl _, rfl⟩
      · obtain ⟨h0, -⟩ := hs
        replace h0 : ρ (.tmp 44) = .pointer (some ⟨w.heap.size + 1, 1, none⟩) := h0
        have hc0 : W.cell? ⟨w.heap.size + 1, 1, none⟩ = some (.int .i64 (d)) := hF.cell (by assumption)
        go_simp
        exact ⟨Ext.refl _, rfl⟩
      · obtain ⟨h0, -⟩ := hs
        replace h0 : ρ (.tmp 5) = .int .i64 (m) := h0
        go_simp
        exact ⟨Ext.refl _, rfl⟩
      · obtain ⟨h0, h1, -⟩ := hs
        replace h0 : ρ (.tmp 45) = .int .i64 (d) := h0
        replace h1 : ρ (.tmp 46) = .int .i64 (m) := h1
        have hq : IntKind.i64.wrap (d.tdiv m) = d.tdiv m := hwd1
        have hm2 : ¬ m = 0 := hm0
        go_simp
        exact ⟨Ext.refl _, rfl⟩
      · obtain ⟨h0, h1, -⟩ := hs
        replace h0 : ρ (.tmp 43) = .int .i64 (c.tdiv m) := h0
        replace h1 : ρ (.tmp 47) = .int .i64 (d.tdiv m) := h1
        go_simp
        exact ⟨Ext.refl _, rfl⟩
      · obtain ⟨h0, h1, -⟩ := hs
        replace h0 : ρ (.tmp 39) = .agg #[.int .i64 (a.tdiv m), .int .i64 (b.tdiv m)] := h0
        replace h1 : ρ (.tmp 48) = .agg #[.int .i64 (c.tdiv m), .int .i64 (d.tdiv m)] := h1
        go_simp
        exact ⟨Ext.refl _, rfl⟩
    · intro fv W hF hs
      obtain ⟨-, -, -, -, -, -, -, -, -, -, -, -, -, -, -, -, -, -, h49, -⟩ := hs
      replace h49 : fv 49 = .agg #[.int .i64 (a.tdiv m), .int .i64 (b.tdiv m), .int .i64 (c.tdiv m), .int .i64 (d.tdiv m)] := h49
      simp only [fin, List.filterMap]
      go_simp
      have B2 := B1.ext hF
      have f0 := B2.free 0
      have f1 := B2.free 1
      have f2 := B2.free 2
      have f3 := B2.free 3
      have c0 := B2.cell 0
      have c1 := B2.cell 1
      have c2 := B2.cell 2
      have c3 := B2.cell 3
      simp only [List.getElem?_toArray, List.getElem?_cons_zero, List.getElem?_cons_succ] at c0 c1 c2 c3
      go_wp2
      exact bodyPost_ret (v := .agg #[.int .i64 (a.tdiv m), .int .i64 (b.tdiv m), .int .i64 (c.tdiv m), .int .i64 (d.tdiv m)]) (by simp [results, Try.f109, go_sem, c0, c1, c2, c3]) rfl ⟨rfl, Ext.set (Ext.set (Ext.set (Ext.set ((Ext.alloc _ _).trans ((Ext.alloc _ _).trans ((Ext.alloc _ _).trans ((Ext.alloc _ _).trans (hx.trans hF))))) (by dsimp only; omega) _) (by dsimp only; omega) _) (by dsimp only; omega) _) (by dsimp only; omega) _⟩
  rcases hcs with ⟨d1, d2, d3, hm⟩ | hcs
  · have HM := Lib.hid hm
    have HMG := Lib.hid (show g = m from hm.symm)
    clear hm
    go_enter Try.func109, Try.ntmps109
    go_wp2_with (go_at_call 100; refine (HD.out _ _ (ints_newAt _ [a, b, c, d] _ rfl (by simp) (by simp))).mono ?_; rintro e W1 ⟨rfl, hx⟩; have z0 : W1.cell? ⟨w.heap.size, 0, none⟩ = some (.int .i64 a) := hx.cell (by go_simp); have z1 : W1.cell? ⟨w.heap.size, 1, none⟩ = some (.int .i64 b) := hx.cell (by go_simp); have z2 : W1.cell? ⟨w.heap.size + 1, 0, none⟩ = some (.int .i64 c) := hx.cell (by go_simp); have z3 : W1.cell? ⟨w.heap.size + 1, 1, none⟩ = some (.int .i64 d) := hx.cell (by go_simp); have B1 := ((Blk.newAt _ 84 #[.int .i64 0, .int .i64 0, .int .i64 0, .int .i64 0] (g := w.heap.size + 1 + 1) (by simp)).alloc _).ext hx)
    rw [HMG.out]
    have hm0 : ¬ m = 0 := by have := HM.out; omega
    have hwa1 := hwa.out m
    have hwb1 := hwb.out m
    have hwc1 := hwc.out m
    have hwd1 := hwd.out m
    clear hg1 hg2 d1 d2 d3
    refine wp_region_part 19 [some 31, some 32, some 33, some 34, some 35, some 36, some 37, some 38, some 39, some 40, some 41, some 42, some 43, some 44, some 45, some 46, some 47, some 48, some 49] [[2], [31], [5], [32, 33], [2], [35], [5], [36, 37], [34, 38], [3], [40], [5], [41, 42], [3], [44], [5], [45, 46], [43, 47], [39, 48]]
      [Is (.pointer (some ⟨w.heap.size, 0, none⟩)), Is (.int .i64 (a)), Is (.int .i64 (m)), Is (.int .i64 (a.tdiv m)), Is (.pointer (some ⟨w.heap.size, 1, none⟩)), Is (.int .i64 (b)), Is (.int .i64 (m)), Is (.int .i64 (b.tdiv m)), Is (.agg #[.int .i64 (a.tdiv m), .int .i64 (b.tdiv m)]), Is (.pointer (some ⟨w.heap.size + 1, 0, none⟩)), Is (.int .i64 (c)), Is (.int .i64 (m)), Is (.int .i64 (c.tdiv m)), Is (.pointer (some ⟨w.heap.size + 1, 1, none⟩)), Is (.int .i64 (d)), Is (.int .i64 (m)), Is (.int .i64 (d.tdiv m)), Is (.agg #[.int .i64 (c.tdiv m), .int .i64 (d.tdiv m)]), Is (.agg #[.int .i64 (a.tdiv m), .int .i64 (b.tdiv m), .int .i64 (c.tdiv m), .int .i64 (d.tdiv m)])]
      (by kernel_rfl) (by kernel_rfl) (by kernel_rfl) (by kernel_rfl) (by kernel_rfl) (by kernel_rfl) (by kernel_rfl) Ext (fun W => Ext W1 W)
      (fun W _ => Ext.refl W) (fun W W' h k => h.trans k) ?_ (Ext.drew _) ?_ ?_
    · repeat (refine ⟨fun _ _ _ _ k h => (by first | exact h | exact IntsAt.ext h k), ?_⟩)
      exact trivial
    · refine ⟨?_, ?_, ?_, ?_, ?_, ?_, ?_, ?_, ?_, ?_, ?_, ?_, ?_, ?_, ?_, ?_, ?_, ?_, ?_, trivial⟩
      all_goals intro ρ W ⟨kc, kg, kf⟩ hF hs
      · obtain ⟨h0, -⟩ := hs
        replace h0 : ρ (.tmp 2) = .pointer (some ⟨w.heap.size, 0, none⟩) := h0
        go_simp
        exact ⟨Ext.refl _, rfl⟩
      · obtain ⟨h0, -⟩ := hs
        replace h0 : ρ (.tmp 31) = .pointer (some ⟨w.heap.size, 0, none⟩) := h0
        have hc0 : W.cell? ⟨w.heap.size, 0, none⟩ = some (.int .i64 (a)) := hF.cell (by assumption)
        go_simp
        exact ⟨Ext.refl _, rfl⟩
      · obtain ⟨h0, -⟩ := hs
        replace h0 : ρ (.tmp 5) = .int .i64 (m) := h0
        go_simp
        exact ⟨Ext.refl _, rfl⟩
      · obtain ⟨h0, h1, -⟩ := hs
        replace h0 : ρ (.tmp 32) = .int .i64 (a) := h0
        replace h1 : ρ (.tmp 33) = .int .i64 (m) := h1
        have hq : IntKind.i64.wrap (a.tdiv m) = a.tdiv m := hwa1
        have hm2 : ¬ m = 0 := hm0
        go_simp
        exact ⟨Ext.refl _, rfl⟩
      · obtain ⟨h0, -⟩ := hs
        replace h0 : ρ (.tmp 2) = .pointer (some ⟨w.heap.size, 0, none⟩) := h0
        go_simp
        exact ⟨Ext.refl _, rfl⟩
      · obtain ⟨h0, -⟩ := hs
        replace h0 : ρ (.tmp 35) = .pointer (some ⟨w.heap.size, 1, none⟩) := h0
        have hc0 : W.cell? ⟨w.heap.size, 1, none⟩ = some (.int .i64 (b)) := hF.cell (by assumption)
        go_simp
        exact ⟨Ext.refl _, rfl⟩
      · obtain ⟨h0, -⟩ := hs
        replace h0 : ρ (.tmp 5) = .int .i64 (m) := h0
        go_simp
        exact ⟨Ext.refl _, rfl⟩
      · obtain ⟨h0, h1, -⟩ := hs
        replace h0 : ρ (.tmp 36) = .int .i64 (b) := h0
        replace h1 : ρ (.tmp 37) = .int .i64 (m) := h1
        have hq : IntKind.i64.wrap (b.tdiv m) = b.tdiv m := hwb1
        have hm2 : ¬ m = 0 := hm0
        go_simp
        exact ⟨Ext.refl _, rfl⟩
      · obtain ⟨h0, h1, -⟩ := hs
        replace h0 : ρ (.tmp 34) = .int .i64 (a.tdiv m) := h0
        replace h1 : ρ (.tmp 38) = .int .i64 (b.tdiv m) := h1
        go_simp
        exact ⟨Ext.refl _, rfl⟩
      · obtain ⟨h0, -⟩ := hs
        replace h0 : ρ (.tmp 3) = .pointer (some ⟨w.heap.size + 1, 0, none⟩) := h0
        go_simp
        exact ⟨Ext.refl _, rfl⟩
      · obtain ⟨h0, -⟩ := hs
        replace h0 : ρ (.tmp 40) = .pointer (some ⟨w.heap.size + 1, 0, none⟩) := h0
        have hc0 : W.cell? ⟨w.heap.size + 1, 0, none⟩ = some (.int .i64 (c)) := hF.cell (by assumption)
        go_simp
        exact ⟨Ext.refl _, rfl⟩
      · obtain ⟨h0, -⟩ := hs
        replace h0 : ρ (.tmp 5) = .int .i64 (m) := h0
        go_simp
        exact ⟨Ext.refl _, rfl⟩
      · obtain ⟨h0, h1, -⟩ := hs
        replace h0 : ρ (.tmp 41) = .int .i64 (c) := h0
        replace h1 : ρ (.tmp 42) = .int .i64 (m) := h1
        have hq : IntKind.i64.wrap (c.tdiv m) = c.tdiv m := hwc1
        have hm2 : ¬ m = 0 := hm0
        go_simp
        exact ⟨Ext.refl _, rfl⟩
      · obtain ⟨h0, -⟩ := hs
        replace h0 : ρ (.tmp 3) = .pointer (some ⟨w.heap.size + 1, 0, none⟩) := h0
        go_simp
        exact ⟨Ext.refl _, rfl⟩
      · obtain ⟨h0, -⟩ := hs
        replace h0 : ρ (.tmp 44) = .pointer (some ⟨w.heap.size + 1, 1, none⟩) := h0
        have hc0 : W.cell? ⟨w.heap.size + 1, 1, none⟩ = some (.int .i64 (d)) := hF.cell (by assumption)
        go_simp
        exact ⟨Ext.refl _, rfl⟩
      · obtain ⟨h0, -⟩ := hs
        replace h0 : ρ (.tmp 5) = .int .i64 (m) := h0
        go_simp
        exact ⟨Ext.refl _, rfl⟩
      · obtain ⟨h0, h1, -⟩ := hs
        replace h0 : ρ (.tmp 45) = .int .i64 (d) := h0
        replace h1 : ρ (.tmp 46) = .int .i64 (m) := h1
        have hq : IntKind.i64.wrap (d.tdiv m) = d.tdiv m := hwd1
        have hm2 : ¬ m = 0 := hm0
        go_simp
        exact ⟨Ext.refl _, rfl⟩
      · obtain ⟨h0, h1, -⟩ := hs
        replace h0 : ρ (.tmp 43) = .int .i64 (c.tdiv m) := h0
        replace h1 : ρ (.tmp 47) = .int .i64 (d.tdiv m) := h1
        go_simp
        exact ⟨Ext.refl _, rfl⟩
      · obtain ⟨h0, h1, -⟩ := hs
        replace h0 : ρ (.tmp 39) = .agg #[.int .i64 (a.tdiv m), .int .i64 (b.tdiv m)] := h0
        replace h1 : ρ (.tmp 48) = .agg #[.int .i64 (c.tdiv m), .int .i64 (d.tdiv m)] := h1
        go_simp
        exact ⟨Ext.refl _, rfl⟩
    · intro fv W hF hs
      obtain ⟨-, -, -, -, -, -, -, -, -, -, -, -, -, -, -, -, -, -, h49, -⟩ := hs
      replace h49 : fv 49 = .agg #[.int .i64 (a.tdiv m), .int .i64 (b.tdiv m), .int .i64 (c.tdiv m), .int .i64 (d.tdiv m)] := h49
      simp only [fin, List.filterMap]
      go_simp
      have B2 := B1.ext hF
      have f0 := B2.free 0
      have f1 := B2.free 1
      have f2 := B2.free 2
      have f3 := B2.free 3
      have c0 := B2.cell 0
      have c1 := B2.cell 1
      have c2 := B2.cell 2
      have c3 := B2.cell 3
      simp only [List.getElem?_toArray, List.getElem?_cons_zero, List.getElem?_cons_succ] at c0 c1 c2 c3
      go_wp2
      exact bodyPost_ret (v := .agg #[.int .i64 (a.tdiv m), .int .i64 (b.tdiv m), .int .i64 (c.tdiv m), .int .i64 (d.tdiv m)]) (by simp [results, Try.f109, go_sem, c0, c1, c2, c3]) rfl ⟨rfl, Ext.set (Ext.set (Ext.set (Ext.set ((Ext.alloc _ _).trans ((Ext.alloc _ _).trans ((Ext.alloc _ _).trans ((Ext.alloc _ _).trans (hx.trans hF))))) (by dsimp only; omega) _) (by dsimp only; omega) _) (by dsimp only; omega) _) (by dsimp only; omega) _⟩
  obtain ⟨d1, d2, hm⟩ := hcs
  · have HM := Lib.hid hm
    have HMG := Lib.hid (show g = m from hm.symm)
    clear hm
    go_enter Try.func109, Try.ntmps109
    go_wp2_with (go_at_call 100; refine (HD.out _ _ (ints_newAt _ [a, b, c, d] _ rfl (by simp) (by simp))).mono ?_; rintro e W1 ⟨rfl, hx⟩; have z0 : W1.cell? ⟨w.heap.size, 0, none⟩ = some (.int .i64 a) := hx.cell (by go_simp); have z1 : W1.cell? ⟨w.heap.size, 1, none⟩ = some (.int .i64 b) := hx.cell (by go_simp); have z2 : W1.cell? ⟨w.heap.size + 1, 0, none⟩ = some (.int .i64 c) := hx.cell (by go_simp); have z3 : W1.cell? ⟨w.heap.size + 1, 1, none⟩ = some (.int .i64 d) := hx.cell (by go_simp); have B1 := ((Blk.newAt _ 84 #[.int .i64 0, .int .i64 0, .int .i64 0, .int .i64 0] (g := w.heap.size + 1 + 1) (by simp)).alloc _).ext hx)
    rw [HMG.out]
    have hm0 : ¬ m = 0 := by have := HM.out; omega
    have hwa1 := hwa.out m
    have hwb1 := hwb.out m
    have hwc1 := hwc.out m
    have hwd1 := hwd.out m
    clear hg1 hg2 d1 d2
    refine wp_region_part 19 [some 31, some 32, some 33, some 34, some 35, some 36, some 37, some 38, some 39, some 40, some 41, some 42, some 43, some 44, some 45, some 46, some 47, some 48, some 49] [[2], [31], [5], [32, 33], [2], [35], [5], [36, 37], [34, 38], [3], [40], [5], [41, 42], [3], [44], [5], [45, 46], [43, 47], [39, 48]]
      [Is (.pointer (some ⟨w.heap.size, 0, none⟩)), Is (.int .i64 (a)), Is (.int .i64 (m)), Is (.int .i64 (a.tdiv m)), Is (.pointer (some ⟨w.heap.size, 1, none⟩)), Is (.int .i64 (b)), Is (.int .i64 (m)), Is (.int .i64 (b.tdiv m)), Is (.agg #[.int .i64 (a.tdiv m), .int .i64 (b.tdiv m)]), Is (.pointer (some ⟨w.heap.size + 1, 0, none⟩)), Is (.int .i64 (c)), Is (.int .i64 (m)), Is (.int .i64 (c.tdiv m)), Is (.pointer (some ⟨w.heap.size + 1, 1, none⟩)), Is (.int .i64 (d)), Is (.int .i64 (m)), Is (.int .i64 (d.tdiv m)), Is (.agg #[.int .i64 (c.tdiv m), .int .i64 (d.tdiv m)]), Is (.agg #[.int .i64 (a.tdiv m), .int .i64 (b.tdiv m), .int .i64 (c.tdiv m), .int .i64 (d.tdiv m)])]
      (by kernel_rfl) (by kernel_rfl) (by kernel_rfl) (by kernel_rfl) (by kernel_rfl) (by kernel_rfl) (by kernel_rfl) Ext (fun W => Ext W1 W)
      (fun W _ => Ext.refl W) (fun W W' h k => h.trans k) ?_ (Ext.drew _) ?_ ?_
    · repeat (refine ⟨fun _ _ _ _ k h => (by first | exact h | exact IntsAt.ext h k), ?_⟩)
      exact trivial
    · refine ⟨?_, ?_, ?_, ?_, ?_, ?_, ?_, ?_, ?_, ?_, ?_, ?_, ?_, ?_, ?_, ?_, ?_, ?_, ?_, trivial⟩
      all_goals intro ρ W ⟨kc, kg, kf⟩ hF hs
      · obtain ⟨h0, -⟩ := hs
        replace h0 : ρ (.tmp 2) = .pointer (some ⟨w.heap.size, 0, none⟩) := h0
        go_simp
        exact ⟨Ext.refl _, rfl⟩
      · obtain ⟨h0, -⟩ := hs
        replace h0 : ρ (.tmp 31) = .pointer (some ⟨w.heap.size, 0, none⟩) := h0
        have hc0 : W.cell? ⟨w.heap.size, 0, none⟩ = some (.int .i64 (a)) := hF.cell (by assumption)
        go_simp
        exact ⟨Ext.refl _, rfl⟩
      · obtain ⟨h0, -⟩ := hs
        replace h0 : ρ (.tmp 5) = .int .i64 (m) := h0
        go_simp
        exact ⟨Ext.refl _, rfl⟩
      · obtain ⟨h0, h1, -⟩ := hs
        replace h0 : ρ (.tmp 32) = .int .i64 (a) := h0
        replace h1 : ρ (.tmp 33) = .int .i64 (m) := h1
        have hq : IntKind.i64.wrap (a.tdiv m) = a.tdiv m := hwa1
        have hm2 : ¬ m = 0 := hm0
        go_simp
        exact ⟨Ext.refl _, rfl⟩
      · obtain ⟨h0, -⟩ := hs
        replace h0 : ρ (.tmp 2) = .pointer (some ⟨w.heap.size, 0, none⟩) := h0
        go_simp
        exact ⟨Ext.refl _, rfl⟩
      · obtain ⟨h0, -⟩ := hs
        replace h0 : ρ (.tmp 35) = .pointer (some ⟨w.heap.size, 1, none⟩) := h0
        have hc0 : W.cell? ⟨w.heap.size, 1, none⟩ = some (.int .i64 (b)) := hF.cell (by assumption)
        go_simp
        exact ⟨Ext.refl _, rfl⟩
      · obtain ⟨h0, -⟩ := hs
        replace h0 : ρ (.tmp 5) = .int .i64 (m) := h0
        go_simp
        exact ⟨Ext.refl _, rfl⟩
      · obtain ⟨h0, h1, -⟩ := hs
        replace h0 : ρ (.tmp 36) = .int .i64 (b) := h0
        replace h1 : ρ (.tmp 37) = .int .i64 (m) := h1
        have hq : IntKind.i64.wrap (b.tdiv m) = b.tdiv m := hwb1
        have hm2 : ¬ m = 0 := hm0
        go_simp
        exact ⟨Ext.refl _, rfl⟩
      · obtain ⟨h0, h1, -⟩ := hs
        replace h0 : ρ (.tmp 34) = .int .i64 (a.tdiv m) := h0
        replace h1 : ρ (.tmp 38) = .int .i64 (b.tdiv m) := h1
        go_simp
        exact ⟨Ext.refl _, rfl⟩
      · obtain ⟨h0, -⟩ := hs
        replace h0 : ρ (.tmp 3) = .pointer (some ⟨w.heap.size + 1, 0, none⟩) := h0
        go_simp
        exact ⟨Ext.refl _, rfl⟩
      · obtain ⟨h0, -⟩ := hs
        replace h0 : ρ (.tmp 40) = .pointer (some ⟨w.heap.size + 1, 0, none⟩) := h0
        have hc0 : W.cell? ⟨w.heap.size + 1, 0, none⟩ = some (.int .i64 (c)) := hF.cell (by assumption)
        go_simp
        exact ⟨Ext.refl _, rfl⟩
      · obtain ⟨h0, -⟩ := hs
        replace h0 : ρ (.tmp 5) = .int .i64 (m) := h0
        go_simp
        exact ⟨Ext.refl _, rfl⟩
      · obtain ⟨h0, h1, -⟩ := hs
        replace h0 : ρ (.tmp 41) = .int .i64 (c) := h0
        replace h1 : ρ (.tmp 42) = .int .i64 (m) := h1
        have hq : IntKind.i64.wrap (c.tdiv m) = c.tdiv m := hwc1
        have hm2 : ¬ m = 0 := hm0
        go_simp
        exact ⟨Ext.refl _, rfl⟩
      · obtain ⟨h0, -⟩ := hs
        replace h0 : ρ (.tmp 3) = .pointer (some ⟨w.heap.size + 1, 0, none⟩) := h0
        go_simp
        exact ⟨Ext.refl _, rfl⟩
      · obtain ⟨h0, -⟩ := hs
        replace h0 : ρ (.tmp 44) = .pointer (some ⟨w.heap.size + 1, 1, none⟩) := h0
        have hc0 : W.cell? ⟨w.heap.size + 1, 1, none⟩ = some (.int .i64 (d)) := hF.cell (by assumption)
        go_simp
        exact ⟨Ext.refl _, rfl⟩
      · obtain ⟨h0, -⟩ := hs
        replace h0 : ρ (.tmp 5) = .int .i64 (m) := h0
        go_simp
        exact ⟨Ext.refl _, rfl⟩
      · obtain ⟨h0, h1, -⟩ := hs
        replace h0 : ρ (.tmp 45) = .int .i64 (d) := h0
        replace h1 : ρ (.tmp 46) = .int .i64 (m) := h1
        have hq : IntKind.i64.wrap (d.tdiv m) = d.tdiv m := hwd1
        have hm2 : ¬ m = 0 := hm0
        go_simp
        exact ⟨Ext.refl _, rfl⟩
      · obtain ⟨h0, h1, -⟩ := hs
        replace h0 : ρ (.tmp 43) = .int .i64 (c.tdiv m) := h0
        replace h1 : ρ (.tmp 47) = .int .i64 (d.tdiv m) := h1
        go_simp
        exact ⟨Ext.refl _, rfl⟩
      · obtain ⟨h0, h1, -⟩ := hs
        replace h0 : ρ (.tmp 39) = .agg #[.int .i64 (a.tdiv m), .int .i64 (b.tdiv m)] := h0
        replace h1 : ρ (.tmp 48) = .agg #[.int .i64 (c.tdiv m), .int .i64 (d.tdiv m)] := h1
        go_simp
        exact ⟨Ext.refl _, rfl⟩
    · intro fv W hF hs
      obtain ⟨-, -, -, -, -, -, -, -, -, -, -, -, -, -, -, -, -, -, h49, -⟩ := hs
      replace h49 : fv 49 = .agg #[.int .i64 (a.tdiv m), .int .i64 (b.tdiv m), .int .i64 (c.tdiv m), .int .i64 (d.tdiv m)] := h49
      simp only [fin, List.filterMap]
      go_simp
      have B2 := B1.ext hF
      have f0 := B2.free 0
      have f1 := B2.free 1
      have f2 := B2.free 2
      have f3 := B2.free 3
      have c0 := B2.cell 0
      have c1 := B2.cell 1
      have c2 := B2.cell 2
      have c3 := B2.cell 3
      simp only [List.getElem?_toArray, List.getElem?_cons_zero, List.getElem?_cons_succ] at c0 c1 c2 c3
      go_wp2
      exact bodyPost_ret (v := .agg #[.int .i64 (a.tdiv m), .int .i64 (b.tdiv m), .int .i64 (c.tdiv m), .int .i64 (d.tdiv m)]) (by simp [results, Try.f109, go_sem, c0, c1, c2, c3]) rfl ⟨rfl, Ext.set (Ext.set (Ext.set (Ext.set ((Ext.alloc _ _).trans ((Ext.alloc _ _).trans ((Ext.alloc _ _).trans ((Ext.alloc _ _).trans (hx.trans hF))))) (by dsimp only; omega) _) (by dsimp only; omega) _) (by dsimp only; omega) _) (by dsimp only; omega) _⟩

end Go.Proofs.Ytpaoeghdfeekoaa
