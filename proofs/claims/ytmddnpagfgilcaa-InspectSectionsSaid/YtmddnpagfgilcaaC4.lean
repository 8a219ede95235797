/- The examples. -/
import Derived.Test.YtmddnpagfgilcaaC3
import Derived.Lib.MinMax

namespace Go.Proofs.Ytmddnpagfgilcaa
open Go.RowKit Go.Shelf Go.Mem Go.RegInv
attribute [local go_sem] RelUpon_value RelUpon_skip RelUpon_enter BigFrame.eval_const BigFrame.eval_global BigFrame.eval_func


def exT : List In := [⟨50, 10, 700, 720⟩, ⟨100, 12, 600, 620⟩, ⟨150, 12, 400, 420⟩]
def exX : List Kn := [⟨400, 40, 41⟩, ⟨600, 55, 56⟩, ⟨700, 60, 61⟩]
def exP : List Pr := [⟨0, 0⟩, ⟨1, 0⟩, ⟨2, 3⟩]
theorem rows_flat {α : Type} {enc : α → List Value} {k : Nat} (hk : ∀ x, (enc x).length = k) : ∀ (xs : List α) (i : Nat) (x : α), xs[i]? = some x → ∀ j u, (enc x)[j]? = some u → (xs.flatMap enc)[i * k + j]? = some u
  | [], i, x, h, _, _, _ => by simp at h
  | y :: l, 0, x, h, j, u, hu => by
    obtain rfl : y = x := by simpa using h
    have hj := (List.getElem?_eq_some_iff.1 hu).1
    rw [hk] at hj
    rw [List.flatMap_cons, List.getElem?_append_left (by rw [hk]; omega)]
    simpa using hu
  | y :: l, i + 1, x, h, j, u, hu => by
    rw [List.flatMap_cons, List.getElem?_append_right (by rw [hk, Nat.succ_mul]; omega), hk, show (i + 1) * k + j - k = i * k + j by rw [Nat.succ_mul]; omega]
    exact rows_flat hk l i x (by simpa using h) j u hu
theorem own_rows {α : Type} {enc : α → List Value} {W : World} {g k : Nat} {T : TypeId} {cs : Array Value} {xs : List α} (h : Blk W g T cs) (hk : ∀ x, (enc x).length = k) (hc : cs.toList = xs.flatMap enc) (hl : xs.length ≤ 1000) : RowsAt k enc W (some ⟨g, 0, none⟩) xs :=
  ⟨by omega, fun i x hx => ⟨g, 0, rfl, h.lt, fun j u hu => by
    rw [Nat.zero_add, h.cell, ← Array.getElem?_toList, hc]; exact rows_flat hk xs i x hx j u hu⟩⟩
theorem traverse_any (w : World) : Calls Try.prog 70 #[] w fun e w' => ∃ g, e = .returned (.agg #[.slice (some ⟨g, 0, none⟩) 3 3]) ∧ RowsAt 4 In.enc w' (some ⟨g, 0, none⟩) exT ∧ Ext w w' := by
  go_enter Try.func70, Try.ntmps70
  go_wp2
  exact bodyPost_ret (v := .agg #[.slice (some ⟨w.heap.size + 1, 0, none⟩) 3 3]) (by simp [results, Try.f70, go_sem]) rfl ⟨_, rfl, own_rows (Blk.newAt _ _ #[.int .i64 50, .int .i64 10, .int .i64 700, .int .i64 720, .int .i64 100, .int .i64 12, .int .i64 600, .int .i64 620, .int .i64 150, .int .i64 12, .int .i64 400, .int .i64 420] (by simp)) (fun _ => rfl) rfl (by decide), (Ext.alloc _ _).trans (Ext.alloc _ _)⟩
theorem table_any (w : World) : Calls Try.prog 71 #[] w fun e w' => ∃ g, e = .returned (.agg #[.slice (some ⟨g, 0, none⟩) 3 3]) ∧ RowsAt 3 Kn.enc w' (some ⟨g, 0, none⟩) exX ∧ Ext w w' := by
  go_enter Try.func71, Try.ntmps71
  go_wp2
  exact bodyPost_ret (v := .agg #[.slice (some ⟨w.heap.size + 1, 0, none⟩) 3 3]) (by simp [results, Try.f71, go_sem]) rfl ⟨_, rfl, own_rows (Blk.newAt _ _ #[.int .i64 400, .int .i64 40, .int .i64 41, .int .i64 600, .int .i64 55, .int .i64 56, .int .i64 700, .int .i64 60, .int .i64 61] (by simp)) (fun _ => rfl) rfl (by decide), (Ext.alloc _ _).trans (Ext.alloc _ _)⟩
theorem pairs_any (w : World) : Calls Try.prog 73 #[] w fun e w' => ∃ g, e = .returned (.slice (some ⟨g, 0, none⟩) 3 3) ∧ RowsAt 2 Pr.enc w' (some ⟨g, 0, none⟩) exP ∧ Ext w w' := by
  go_enter Try.func73, Try.ntmps73
  go_wp2
  go_ret
  refine ⟨w.heap.size, rfl, own_rows (Blk.new w 162 #[.int .i64 0, .int .i64 0, .int .i64 1, .int .i64 0, .int .i64 2, .int .i64 3]) (fun _ => rfl) rfl (by decide), Ext.alloc _ _⟩
theorem whole_any (n : Int) (w : World) : Calls Try.prog 32 #[.int .i64 n] w fun e w' => e = .returned (.agg #[.int .i64 n, .int .i64 1]) ∧ Ext w w' := by
  go_enter Try.func32, Try.ntmps32
  go_wp2
  exact bodyPost_ret (v := .agg #[.int .i64 n, .int .i64 1]) (by simp [results, Try.f32, go_sem]) rfl ⟨rfl, Ext.alloc _ _⟩
theorem ex1 : caseE exT 550 = 0 ∧ ¬ (exT.getD 0 default).hi < 550 ∧ fallK (upP exT) 550 3 0 = some (235, 2) ∧ fallK (loP exT) 550 3 0 = some (225, 2) := by decide +kernel
theorem ex2 : convE exX 450 600 = 0 ∧ missE (exX.getD 0 default).f (exX.getD 2 default).f 450 600 = 0 ∧ convV exX 450 600 = (43, 56) := by decide +kernel
theorem ex3 : lowF 10 10 50 = 7 ∧ lowG 10 10 50 = 0 := by decide +kernel
theorem ex4 : accV 10 2 0 3 = (7, 15) ∧ accE 10 2 0 3 = 0 := by decide +kernel
theorem ex5 : pairsE exP = 0 ∧ zeroE exP 3 = 0 ∧ 0 < denV 3 (sumK exP 3) ∧ slopeV 3 (sumK exP 3) = (3, 2) ∧ offsV 3 (sumK exP 3) = (-1, 2) ∧ winK exP 3 = (0, 2) ∧ lowT (mostK 3 2 (-1) 2 exP 3) (2 * 2) = (1, 1) := by decide +kernel
theorem ex6 : lowT 225 2 = (225, 2) ∧ lowT 235 2 = (235, 2) ∧ lowT 3 2 = (3, 2) ∧ lowT (-1) 2 = (-1, 2) := by decide +kernel

end Go.Proofs.Ytmddnpagfgilcaa
