/- What no error means; VoltagesOf. -/
import Derived.Test.YtpaoeghdfeekoaaA6
namespace Go.Proofs.Ytpaoeghdfeekoaa
open Go.RowKit Go.Mem Go.RegInv

theorem firstE_zero : ∀ l : List Int, firstE l = 0 ↔ ∀ x ∈ l, x = 0
  | [] => by simp [firstE]
  | x :: l => by
    rw [firstE]
    by_cases h : x = 0
    · simp [h, firstE_zero l]
    · simp [h]
theorem errIf_zero {b : Bool} {n : Int} (hn : n ≠ 0) : errIf b n = 0 ↔ b = false := by
  unfold errIf; cases b <;> simp [hn]
theorem rangeE_zero (lo hi : Int) (l : List Int) : rangeE lo hi l = 0 ↔ ∀ x ∈ l, lo ≤ x ∧ x ≤ hi := by
  unfold rangeE
  rw [errIf_zero (by decide)]
  simp [outB, List.any_eq_false]
theorem shellE_zero (s : Sh) : s.e = 0 ↔ shOK s := by
  unfold Sh.e shellE shOK
  rw [firstE_zero]
  simp only [List.mem_cons, List.not_mem_nil, or_false, forall_eq_or_imp, forall_eq, rangeE_zero, errIf_zero (show (9 : Int) ≠ 0 by decide), decide_eq_false_iff_not]
  omega
theorem firstBad_zero : ∀ (l : List Sh) (i : Nat), (firstBad l i).2 = 0 ↔ ∀ s ∈ l, shOK s
  | [], _ => by simp [firstBad]
  | s :: l, i => by
    rw [firstBad]
    by_cases h : s.e = 0
    · rw [if_neg (by simp [h]), firstBad_zero l (i + 1)]
      simp [(shellE_zero s).1 h]
    · rw [if_pos h]
      simp only [h, List.mem_cons, forall_eq_or_imp, false_iff, not_and]
      intro h2
      exact absurd ((shellE_zero s).2 h2) h
theorem headE_zero (t : Int) (n : Nat) : headE t n = 0 ↔ (1 ≤ t ∧ t ≤ 20) ∧ 1 ≤ n ∧ n ≤ 4 := by
  unfold headE
  rw [firstE_zero]
  simp only [List.mem_cons, List.not_mem_nil, or_false, forall_eq_or_imp, forall_eq, rangeE_zero, errIf_zero (show (10 : Int) ≠ 0 by decide), errIf_zero (show (8 : Int) ≠ 0 by decide), decide_eq_false_iff_not, beq_eq_false_iff_ne]
  omega
theorem checkL_zero (t : Int) (l : List Sh) : (checkL t l).2 = 0 ↔ (1 ≤ t ∧ t ≤ 20) ∧ (1 ≤ l.length ∧ l.length ≤ 4) ∧ ∀ s ∈ l, shOK s := by
  unfold checkL
  by_cases h : headE t l.length = 0
  · rw [if_neg (by simp [h]), firstBad_zero]
    have := (headE_zero t l.length).1 h
    simp [this]
  · rw [if_pos h]
    simp only [h, false_iff]
    intro ⟨h1, h2, _⟩
    exact h ((headE_zero t l.length).2 ⟨h1, h2⟩)
theorem driveE_zero (t : Int) (l : List Sh) (f : Int) (m : Nat) : driveE t l f m = 0 ↔ ((1 ≤ t ∧ t ≤ 20) ∧ (1 ≤ l.length ∧ l.length ≤ 4) ∧ ∀ s ∈ l, shOK s) ∧ (1 ≤ f ∧ f ≤ 8) ∧ m = l.length := by
  unfold driveE
  rw [firstE_zero]
  simp only [List.mem_cons, List.not_mem_nil, or_false, forall_eq_or_imp, forall_eq, rangeE_zero, errIf_zero (show (10 : Int) ≠ 0 by decide), checkL_zero, bne_eq_false_iff_eq]
  constructor
  · rintro ⟨h1, h2, h3⟩; exact ⟨h1, h2, by omega⟩
  · rintro ⟨h1, h2, h3⟩; exact ⟨h1, h2, by omega⟩

/-- The voltages, or the error. -/
def VoltsOr (w : World) (er : Int) (m : Nat) (zs : List G) (e : Ending) (w' : World) : Prop :=
  Ext w w' ∧ ((er ≠ 0 ∧ e = .returned (.tuple #[.slice none 0 0, .int .i64 er])) ∨
    (er = 0 ∧ ∃ g cap, e = .returned (.tuple #[.slice (some ⟨g, 0, none⟩) (m + 1) cap, .int .i64 0]) ∧ RowsAt 2 G.enc w' (some ⟨g, 0, none⟩) zs))

set_option maxRecDepth 100000 in
theorem voltagesOf_any (t : Int) (A : Option Addr) (n cap : Nat) (l : List Sh) (hn : l.length = n) (f : Int) (B : Option Addr) (m cap' : Nat) (hot : List Bool) (hm : hot.length = m) (w : World)
    (hS : RowsAt 3 Sh.enc w A l) (hH : RowsAt 1 boolEnc w B hot) :
    Calls Try.prog 32 #[.agg #[.int .i64 t, .slice A n cap], .agg #[.int .i64 f, .slice B m cap']] w (VoltsOr w (driveE t l f m) n (volts f hot l)) := by
  have HC := Lib.hid (fun W h => checkDrive_any t A n cap l hn f B m cap' W h)
  have e0 : Ext w ((w.alloc (.cells #[.int .i64 t, .slice A n cap] 24)).alloc (.cells #[.int .i64 f, .slice B m cap'] 27)) := (Ext.alloc _ _).trans (Ext.alloc _ _)
  have HS := Lib.hid hS
  have HH := Lib.hid hH
  have HN := Lib.hid hn
  have HM := Lib.hid hm
  clear hn hS hm hH
  by_cases hq : driveE t l f m = 0
  · obtain ⟨⟨_, ⟨h1, h4⟩, hok⟩, hf, hml⟩ := (driveE_zero t l f m).1 hq
    obtain rfl : n = m := by rw [hml, ← HN.out]
    have HV := Lib.hid (fun W (h : RowsAt 3 Sh.enc W A l) (h' : RowsAt 1 boolEnc W B hot) => callsIn_wide.1 (voltagesOf_in t A n cap l HN.out f B cap' hot HM.out W h h' hok hf (by rw [HN.out] at h1; exact h1) (by rw [HN.out] at h4; exact h4)))
    have HQ := Lib.hid hq
    clear h1 h4 hok hf hml hq
    generalize driveE t l f n = q at HC HQ ⊢
    have hq' : q = 0 := HQ.out
    subst hq'
    go_enter Try.func32, Try.ntmps32
    go_wp2_with (first
      | (go_at_call 20; refine (HC.out _ (HS.out.ext e0)).mono ?_; rintro e w' ⟨rfl, hx⟩; have z0 : w'.cell? ⟨w.heap.size, 0, none⟩ = some (.int .i64 t) := hx.cell (by go_simp); have z1 : w'.cell? ⟨w.heap.size, 1, none⟩ = some (.slice A n cap) := hx.cell (by go_simp); have z2 : w'.cell? ⟨w.heap.size + 1, 0, none⟩ = some (.int .i64 f) := hx.cell (by go_simp); have z3 : w'.cell? ⟨w.heap.size + 1, 1, none⟩ = some (.slice B n cap') := hx.cell (by go_simp))
      | (go_at_call 89; refine (HV.out _ (HS.out.ext (e0.trans (by assumption))) (HH.out.ext (e0.trans (by assumption)))).mono ?_; rintro e w1 ⟨g, cp, rfl, hr, hx1, _⟩))
    go_ret2
    exact ⟨e0.trans (hx.trans hx1), .inr ⟨rfl, g, cp, rfl, hr⟩⟩
  · have HQ := Lib.hid hq
    have hq' : (driveE t l f m != 0) = true := by simp [hq]
    clear hq
    generalize driveE t l f m = q at HC HQ hq' ⊢
    go_enter Try.func32, Try.ntmps32
    go_wp2_with (go_at_call 20; refine (HC.out _ (HS.out.ext e0)).mono ?_; rintro e w' ⟨rfl, hx⟩)
    go_ret2
    exact ⟨e0.trans hx, .inl ⟨HQ.out, rfl⟩⟩

end Go.Proofs.Ytpaoeghdfeekoaa
