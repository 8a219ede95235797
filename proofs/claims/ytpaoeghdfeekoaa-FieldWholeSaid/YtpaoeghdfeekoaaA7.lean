/- slices.Reverse at complex numbers, on a row of the call's own. -/
import Derived.Test.YtpaoeghdfeekoaaS0
import Derived.Outline
import Derived.RegionTactic
namespace Go.Proofs.Ytpaoeghdfeekoaa
open Go.RowKit Go.Mem

/-- The first k and the last k exchanged. -/
def revk (n k : Nat) (z : Nat → G) (p : Nat) : G := if p < k ∨ n ≤ p + k then z (n - 1 - p) else z p
theorem revk_zero (n : Nat) (z : Nat → G) (p : Nat) (h : p < n) : revk n 0 z p = z p := by
  unfold revk; rw [if_neg (by omega)]
theorem revk_end (n k j : Nat) (z : Nat → G) (p : Nat) (h : k + j + 1 = n) (hkj : j ≤ k) (hp : p < n) : revk n k z p = z (n - 1 - p) := by
  unfold revk
  by_cases h1 : p < k ∨ n ≤ p + k
  · rw [if_pos h1]
  · rw [if_neg h1]; congr 1; omega

def Cells (n : Nat) (cu : Array Value) (z : Nat → G) : Prop := n * 2 ≤ cu.size ∧ ∀ p, p < n → cu[p * 2]? = some (.int .i64 (z p).re) ∧ cu[p * 2 + 1]? = some (.int .i64 (z p).im)

theorem grown_set {w W : World} {g : Nat} (h : w.grownBy W (some g)) (i : Nat) (u : Value) : w.grownBy (W.setCell ⟨g, i, none⟩ u) (some g) :=
  ⟨h.os, h.tape, h.output, by simpa [World.setCell] using h.size, fun k hk hne => (Below.heap_setCell W ⟨g, i, none⟩ u k (fun e => hne (by rw [e]))).trans (h.block k hk hne)⟩
theorem grown_drew {w W : World} {r : Option Nat} (h : w.grownBy W r) : w.grownBy W.drew r := ⟨h.os, h.tape, h.output, h.size, h.block⟩

theorem set_at {cu : Array Value} {i j : Nat} {v : Value} : (cu.setIfInBounds i v)[j]? = if i = j then (if i < cu.size then some v else none) else cu[j]? := by
  rw [Array.getElem?_setIfInBounds]

theorem cells_swap {n k jn : Nat} {z : Nat → G} {cw : Array Value} (h : k + jn + 1 = n) (hlt : k < jn) (hc : Cells n cw (revk n k z)) :
    Cells n ((((cw.setIfInBounds (k * 2) (.int .i64 (revk n k z jn).re)).setIfInBounds (k * 2 + 1) (.int .i64 (revk n k z jn).im)).setIfInBounds (jn * 2) (.int .i64 (revk n k z k).re)).setIfInBounds (jn * 2 + 1) (.int .i64 (revk n k z k).im)) (revk n (k + 1) z) := by
  obtain ⟨hs, hp⟩ := hc
  refine ⟨by simp only [Array.size_setIfInBounds]; exact hs, fun p hpn => ?_⟩
  have e1 : revk n (k + 1) z p = if p = k then revk n k z jn else if p = jn then revk n k z k else revk n k z p := by
    unfold revk
    by_cases h1 : p = k
    · subst h1
      rw [if_pos (by omega), if_pos rfl, if_neg (by omega)]
      congr 1; omega
    · rw [if_neg h1]
      by_cases h2 : p = jn
      · subst h2
        rw [if_pos (by omega), if_pos rfl, if_neg (by omega)]
        congr 1; omega
      · rw [if_neg h2]
        by_cases h3 : p < k ∨ n ≤ p + k
        · rw [if_pos h3, if_pos (by omega)]
        · rw [if_neg h3, if_neg (by omega)]
  rw [e1]
  simp only [set_at, Array.size_setIfInBounds]
  by_cases h1 : p = k
  · subst h1
    simp only [if_pos]
    refine ⟨?_, ?_⟩
    · rw [if_neg (by omega), if_neg (by omega), if_neg (by omega), if_pos (by omega)]
    · rw [if_neg (by omega), if_neg (by omega), if_pos (by omega)]
  · rw [if_neg h1]
    by_cases h2 : p = jn
    · subst h2
      simp only [if_pos]
      refine ⟨?_, ?_⟩
      · rw [if_neg (by omega), if_pos (by omega)]
      · rw [if_pos (by omega)]
    · rw [if_neg h2]
      refine ⟨?_, ?_⟩
      · rw [if_neg (by omega), if_neg (by omega), if_neg (by omega), if_neg (by omega)]; exact (hp p hpn).1
      · rw [if_neg (by omega), if_neg (by omega), if_neg (by omega), if_neg (by omega)]; exact (hp p hpn).2

set_option maxRecDepth 100000 in
set_option maxHeartbeats 1000000 in
theorem reverse_cells (g n cap : Nat) (z : Nat → G) (cu : Array Value) (w : World) (h1 : 1 ≤ n) (hn : n ≤ 1152921504606846976) (_hcap : n ≤ cap) (hb : Blk w g 65 cu) (hz : Cells n cu z) :
    Calls Try.prog 128 #[.slice (some ⟨g, 0, none⟩) n cap] w fun e w' => e = .returned (.tuple #[]) ∧ w.grownBy w' (some g) ∧ ∃ cu', Blk w' g 65 cu' ∧ cu'.size = cu.size ∧ Cells n cu' (fun p => z (n - 1 - p)) := by
  have HB := Lib.hid hb
  have HZ := Lib.hid hz
  clear hb hz
  go_enter Try.func128, Try.ntmps128
  go_wp2
  go_loopw [2, 3] (fun i j wr => ∃ (k jn : Nat) (cw : Array Value), i = .int .i64 k ∧ j = .int .i64 jn ∧ k + jn + 1 = n ∧ Blk wr g 65 cw ∧ cw.size = cu.size ∧ Cells n cw (revk n k z) ∧ w.grownBy wr (some g)) (fun i _ _ => n - (intOf i).toNat)
  case atStart => exact ⟨0, n - 1, cu, rfl, by go_num, by omega, HB.out, rfl, ⟨HZ.out.1, fun p hp => by rw [revk_zero n z p hp]; exact HZ.out.2 p hp⟩, World.grownBy.refl w _⟩
  case round =>
    obtain ⟨k, jn, cw, rfl, rfl, hkj, hbw, hsz, hcw, hgw⟩ := hrel
    have HKJ := Lib.hid hkj
    have h2 : k + jn + 1 ≤ n := by omega
    have h3 : n ≤ k + jn + 1 := by omega
    clear hkj
    have HBW := Lib.hid hbw
    have HSZ := Lib.hid hsz
    have HCW := Lib.hid hcw
    clear hsz
    by_cases hlt : k < jn
    · have hk := hcw.2 k (by omega)
      have hj := hcw.2 jn (by omega)
      have a0 : wr.cell? ⟨g, k * 2, none⟩ = some (.int .i64 (revk n k z k).re) := (hbw.cell _).trans hk.1
      have a1 : wr.cell? ⟨g, k * 2 + 1, none⟩ = some (.int .i64 (revk n k z k).im) := (hbw.cell _).trans hk.2
      have b0 : wr.cell? ⟨g, jn * 2, none⟩ = some (.int .i64 (revk n k z jn).re) := (hbw.cell _).trans hj.1
      have b1 : wr.cell? ⟨g, jn * 2 + 1, none⟩ = some (.int .i64 (revk n k z jn).im) := (hbw.cell _).trans hj.2
      have f0 := hbw.free (k * 2)
      have f1 := hbw.free (k * 2 + 1)
      have f2 := hbw.free (jn * 2)
      have f3 := hbw.free (jn * 2 + 1)
      have hi1 : (0 : Int) ≤ (k : Int) := by omega
      have hi2 : (k : Int) < (n : Int) := by omega
      have hi3 : (0 : Int) ≤ (jn : Int) := by omega
      have hi4 : (jn : Int) < (n : Int) := by omega
      clear hk hj hcw hbw
      go_wp2
      go_region
      go_wp2
      go_roundw
      case rel =>
        refine ⟨k + 1, jn - 1, _, by go_num, by go_num, by omega, (((((HBW.out.drew).setSame (k * 2) (.int .i64 (revk n k z jn).re)).setSame (k * 2 + 1) (.int .i64 (revk n k z jn).im)).setSame (jn * 2) (.int .i64 (revk n k z k).re)).setSame (jn * 2 + 1) (.int .i64 (revk n k z k).im)),
          by simp only [Array.size_setIfInBounds]; exact HSZ.out, cells_swap HKJ.out hlt HCW.out, ?_⟩
        exact grown_set (grown_set (grown_set (grown_set (grown_drew hgw) _ _) _ _) _ _) _ _
      case measure => simp [intOf]; omega
    · clear hcw hbw
      go_wp2
      go_end0
      exact ⟨rfl, hgw, cw, HBW.out, HSZ.out, HCW.out.1, fun p hp => by
        have := HCW.out.2 p hp
        rw [revk_end n k jn z p HKJ.out (by omega) hp] at this
        exact this⟩

theorem flat_at (xs : List G) : ∀ (p : Nat) (z : G), xs[p]? = some z → (xs.flatMap G.enc)[p * 2]? = some (.int .i64 z.re) ∧ (xs.flatMap G.enc)[p * 2 + 1]? = some (.int .i64 z.im) := by
  induction xs with
  | nil => intro p z h; simp at h
  | cons x xs ih =>
    intro p z h
    rw [List.flatMap_cons]
    cases p with
    | zero =>
      obtain rfl : x = z := by simpa using h
      exact ⟨rfl, rfl⟩
    | succ p =>
      obtain ⟨h1, h2⟩ := ih p z (by simpa using h)
      refine ⟨?_, ?_⟩
      · rw [show (p + 1) * 2 = p * 2 + 2 by omega]; exact h1
      · rw [show (p + 1) * 2 + 1 = p * 2 + 1 + 2 by omega]; exact h2
theorem flat_len (xs : List G) : (xs.flatMap G.enc).length = xs.length * 2 := by
  induction xs with
  | nil => rfl
  | cons x xs ih => rw [List.flatMap_cons, List.length_append, ih, List.length_cons]; simp [G.enc]; omega

theorem take_flat {n : Nat} {cu : Array Value} {xs : List G} (hl : xs.length = n) (hc : Cells n cu (fun p => xs.getD p ⟨0, 0⟩)) : cu.toList.take (n * 2) = xs.flatMap G.enc := by
  apply List.ext_getElem?
  intro i
  by_cases hi : i < n * 2
  · rw [List.getElem?_take, if_pos hi]
    obtain ⟨p, hp⟩ : ∃ p, i = p * 2 ∨ i = p * 2 + 1 := ⟨i / 2, by omega⟩
    have hpn : p < n := by omega
    have hx : xs[p]? = some (xs.getD p ⟨0, 0⟩) := by simp [hl, hpn]
    obtain ⟨h1, h2⟩ := flat_at xs p _ hx
    obtain ⟨h3, h4⟩ := hc.2 p hpn
    rcases hp with rfl | rfl
    · rw [h1, Array.getElem?_toList]; exact h3
    · rw [h2, Array.getElem?_toList]; exact h4
  · rw [List.getElem?_take, if_neg hi, List.getElem?_eq_none (by rw [flat_len]; omega)]

theorem reverse_any (base g n cap : Nat) (xs : List G) (w : World) (hl : xs.length = n) (h1 : 1 ≤ n) (hn : n ≤ 1152921504606846976) (hown : w.ownsRow base 65 2 (.slice (some ⟨g, 0, none⟩) n cap) n (xs.flatMap G.enc)) :
    Calls Try.prog 128 #[.slice (some ⟨g, 0, none⟩) n cap] w fun e w' => e = .returned (.tuple #[]) ∧ w.grownBy w' (some g) ∧ w'.ownsRow base 65 2 (.slice (some ⟨g, 0, none⟩) n cap) n (xs.reverse.flatMap G.enc) := by
  obtain ⟨hlen, h | ⟨g', cap', cu, hv, hbase, hh, hcap, hmax, hsz, htake⟩⟩ := hown
  · omega
  · obtain ⟨rfl, rfl⟩ : g = g' ∧ cap = cap' := by simpa using hv
    have hz : Cells n cu (fun p => xs.getD p ⟨0, 0⟩) := by
      refine ⟨by rw [hsz]; omega, fun p hp => ?_⟩
      have hx : xs[p]? = some (xs.getD p ⟨0, 0⟩) := by simp [hl, hp]
      obtain ⟨h2, h3⟩ := flat_at xs p _ hx
      rw [← htake, List.getElem?_take, if_pos (by omega), Array.getElem?_toList] at h2 h3
      exact ⟨h2, h3⟩
    refine (reverse_cells g n cap _ cu w h1 hn hcap hh hz).mono ?_
    rintro e w' ⟨he, hg, cu', hb', hs', hc'⟩
    refine ⟨he, hg, by rw [flat_len, List.length_reverse, hl], .inr ⟨g, cap, cu', rfl, hbase, hb', hcap, hmax, by rw [hs', hsz], ?_⟩⟩
    refine take_flat (by rw [List.length_reverse, hl]) ⟨hc'.1, fun p hp => ?_⟩
    have := hc'.2 p hp
    have e1 : xs.reverse.getD p ⟨0, 0⟩ = xs.getD (n - 1 - p) ⟨0, 0⟩ := by
      rw [List.getD_eq_getElem?_getD, List.getElem?_reverse (by omega), hl, List.getD_eq_getElem?_getD]
    dsimp only at this ⊢
    rw [e1]
    exact this

end Go.Proofs.Ytpaoeghdfeekoaa
