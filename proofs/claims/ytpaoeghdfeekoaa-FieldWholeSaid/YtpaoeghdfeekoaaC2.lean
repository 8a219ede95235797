/- The examples of the law, and equality of lists. -/
import Derived.Test.YtpaoeghdfeekoaaC1
namespace Go.Proofs.Ytpaoeghdfeekoaa
open Go.RowKit Go.Mem Go.RegInv

def intEnc (x : Int) : List Value := [.int .i64 x]

theorem ints_rows {W : World} {v : Value} {xs : List Int} (h : IntsAt W v xs) : ∃ A cap, v = .slice A xs.length cap ∧ RowsAt 1 intEnc W A xs := by
  rcases h with ⟨ao, cap, rfl, rfl⟩ | ⟨b, o, cap, rfl, hb, hl, hc⟩
  · exact ⟨ao, cap, rfl, by simp [RowsAt]⟩
  · refine ⟨_, cap, rfl, hl, fun i x hx => ⟨b, o, rfl, hb, fun j u hu => ?_⟩⟩
    obtain ⟨hi, rfl⟩ := List.getElem?_eq_some_iff.1 hx
    match j, hu with
    | 0, hu =>
      obtain rfl : Value.int .i64 xs[i] = u := by simpa [intEnc] using hu
      have := hc i hi
      rw [Nat.mul_one, Nat.add_zero, this]; simp [hi]
    | j + 1, hu => simp [intEnc] at hu

theorem flat_get {α : Type} {enc : α → List Value} {k : Nat} (hk : ∀ x, (enc x).length = k) : ∀ (xs : List α) (i j : Nat) (x : α) (u : Value), xs[i]? = some x → (enc x)[j]? = some u → (xs.flatMap enc)[i * k + j]? = some u
  | [], i, j, x, u, h, _ => by simp at h
  | y :: ys, 0, j, x, u, h, hu => by
    obtain rfl : y = x := by simpa using h
    rw [List.flatMap_cons, List.getElem?_append_left (by have := (List.getElem?_eq_some_iff.1 hu).1; omega), Nat.zero_mul, Nat.zero_add]; exact hu
  | y :: ys, i + 1, j, x, u, h, hu => by
    have := flat_get hk ys i j x u (by simpa using h) hu
    rw [List.flatMap_cons, List.getElem?_append_right (by rw [hk, Nat.succ_mul]; omega), hk, show (i + 1) * k + j - k = i * k + j by rw [Nat.succ_mul]; omega]; exact this

theorem rows_blk {α : Type} {k : Nat} {enc : α → List Value} {W : World} {g t n : Nat} {cs : Array Value} {xs : List α} (hb : Blk W g t cs) (hn : n = xs.length) (hx : cs.toList = xs.flatMap enc) (hm : n ≤ 1152921504606846976) (hk : ∀ x, (enc x).length = k) : RowsAt k enc W (some ⟨g, 0, none⟩) xs := by
  refine ⟨hn ▸ hm, fun i x h => ⟨g, 0, rfl, hb.lt, fun j u hu => ?_⟩⟩
  have := flat_get hk xs i j x u h hu
  rw [← hx, Array.getElem?_toList] at this
  rw [hb.cell, Nat.zero_add]; exact this

def exL : List Sh := [⟨1, 2, 1⟩, ⟨1, 1, 1⟩]

theorem ladder_any (w : World) : Calls Try.prog 81 #[] w fun e w' => ∃ g, e = .returned (.agg #[.int .i64 2, .slice (some ⟨g, 0, none⟩) 2 2]) ∧ LadAt w' (some ⟨g, 0, none⟩) exL ∧ Ext w w' := by
  go_enter Try.func81, Try.ntmps81
  go_wp2
  refine bodyPost_ret (v := .agg #[.int .i64 2, .slice (some ⟨w.heap.size + 1, 0, none⟩) 2 2]) (by simp [results, Try.f81, go_sem]) rfl ⟨_, rfl, ?_, ?_⟩
  · have hb := Blk.newAt (w.alloc (.cells #[.int .i64 2, .slice (some ⟨w.heap.size + 1, 0, none⟩) 2 2] 24)) 92 #[.int .i64 1, .int .i64 2, .int .i64 1, .int .i64 1, .int .i64 1, .int .i64 1] (g := w.heap.size + 1) (by simp)
    refine ⟨rows_blk hb rfl rfl (by decide) (fun x => by simp [Sh.enc]), fun b o h => ?_⟩
    obtain ⟨rfl, rfl⟩ : w.heap.size + 1 = b ∧ 0 = o := by simpa using h
    exact ⟨_, hb⟩
  · exact (Ext.alloc _ _).trans (Ext.alloc _ _)

theorem drive_any (w : World) : Calls Try.prog 82 #[] w fun e w' => ∃ g, e = .returned (.agg #[.int .i64 1, .slice (some ⟨g, 0, none⟩) 2 2]) ∧ RowsAt 1 boolEnc w' (some ⟨g, 0, none⟩) [false, false] ∧ Ext w w' := by
  go_enter Try.func82, Try.ntmps82
  go_wp2
  refine bodyPost_ret (v := .agg #[.int .i64 1, .slice (some ⟨w.heap.size + 1, 0, none⟩) 2 2]) (by simp [results, Try.f82, go_sem]) rfl ⟨_, rfl, ?_, ?_⟩
  · have hb := Blk.newAt (w.alloc (.cells #[.int .i64 1, .slice (some ⟨w.heap.size + 1, 0, none⟩) 2 2] 27)) 4 #[.bool false, .bool false] (g := w.heap.size + 1) (by simp)
    exact rows_blk hb rfl rfl (by decide) (fun x => by simp [boolEnc])
  · exact (Ext.alloc _ _).trans (Ext.alloc _ _)

theorem ints_any (u v : Value) (a b : List Int) (w : World) (ha : IntsAt w u a) (hb : IntsAt w v b) :
    Calls Try.prog 25 #[u, v] w fun e w' => e = .returned (.bool (a == b)) ∧ Ext w w' := by
  obtain ⟨A, ca, rfl, ha1⟩ := ints_rows ha
  obtain ⟨B, cb, rfl, hb1⟩ := ints_rows hb
  have HA := Lib.hid ha1
  have HB := Lib.hid hb1
  have hla := ha1.1
  have hlb := hb1.1
  clear ha hb ha1 hb1
  by_cases hl : a.length = b.length
  · obtain ⟨n, hn⟩ : ∃ n, n = a.length := ⟨_, rfl⟩
    rw [← hl, ← hn]
    rw [← hn] at hla
    have HN := Lib.hid hn
    have HL := Lib.hid hl
    clear hlb hn hl
    have HE := Lib.hid (show ∀ k, k ≤ n → (∀ j, j < k → a[j]? = b[j]?) → k = n → (a == b) = true from fun k _ h hk => by
      rw [beq_iff_eq]
      refine List.ext_getElem? fun j => ?_
      by_cases hj : j < k
      · exact h j hj
      · rw [List.getElem?_eq_none (by have := HN.out; omega), List.getElem?_eq_none (by have := HN.out; have := HL.out; omega)])
    go_enter Try.func25, Try.ntmps25
    go_wp2
    go_loopw [5] (fun i wr => ∃ k : Nat, k ≤ n ∧ i = .int .i64 k ∧ (∀ j, j < k → a[j]? = b[j]?) ∧ Ext w wr) (fun i _ => n - (intOf i).toNat)
    case atStart => exact ⟨0, Nat.zero_le _, rfl, fun j h => by omega, Ext.refl _⟩
    case round =>
      obtain ⟨k, hk, rfl, hr, hx⟩ := hrel
      have HR := Lib.hid hr
      clear hr
      by_cases hlt : k < n
      · obtain ⟨x, hax⟩ : ∃ x, a[k]? = some x := ⟨_, List.getElem?_eq_getElem (by rw [← HN.out]; exact hlt)⟩
        obtain ⟨y, hby⟩ : ∃ y, b[k]? = some y := ⟨_, List.getElem?_eq_getElem (by rw [← HL.out, ← HN.out]; exact hlt)⟩
        obtain ⟨b1, o1, hA1, _, hc⟩ := HA.out.2 k x hax
        obtain ⟨b2, o2, hB1, _, hd⟩ := HB.out.2 k y hby
        subst hA1 hB1
        have hc1 : wr.cell? ⟨b1, o1 + k, none⟩ = some (.int .i64 x) := hx.cell (by have := hc 0 _ rfl; simpa using this)
        have hd1 : wr.cell? ⟨b2, o2 + k, none⟩ = some (.int .i64 y) := hx.cell (by have := hd 0 _ rfl; simpa using this)
        have HX := Lib.hid hax
        have HY := Lib.hid hby
        have hkn : (k : Int) < (n : Int) := by omega
        clear hc hd hax hby
        by_cases hxy : x = y
        · have hxy' : (x != y) = false := by simp [hxy]
          have HXY := Lib.hid hxy
          clear hxy
          go_wp2
          go_quiet (fail)
          go_wp2
          go_roundw
          case rel => exact ⟨k + 1, by omega, by go_num, fun j hj => by
            by_cases hjk : j = k
            · rw [hjk, HX.out, HY.out, HXY.out]
            · exact HR.out j (by omega), hx.trans (Ext.drewN _ _)⟩
          case measure => simp [intOf]; omega
        · have hxy' : (x != y) = true := by simp [hxy]
          have HF := Lib.hid (show (a == b) = false by
            rw [beq_eq_false_iff_ne]; intro h
            rw [h] at HX
            have := HX.out.symm.trans HY.out
            exact hxy (by simpa using this))
          clear hxy
          go_wp2
          go_quiet (fail)
          go_wp2
          go_ret
          exact ⟨ret_bool HF.out.symm, hx.trans (Ext.drewN _ _)⟩
      · go_wp2
        go_ret
        exact ⟨ret_bool (HE.out k hk HR.out (by omega)).symm, hx⟩
  · have HF := Lib.hid (show (a == b) = false by rw [beq_eq_false_iff_ne]; intro h; exact hl (by rw [h]))
    have hl' : ((a.length : Int) != (b.length : Int)) = true := by simp; omega
    generalize a.length = n at *
    generalize b.length = m at *
    clear hl
    go_enter Try.func25, Try.ntmps25
    go_wp2
    go_ret
    exact ⟨ret_bool HF.out.symm, Ext.refl _⟩

instance : DecidableEq G := fun a b => by
  cases a; cases b; simp only [G.mk.injEq]; exact inferInstance

theorem gausses_any (A B : Option Addr) (ca cb : Nat) (a b : List G) (w : World) (ha : RowsAt 2 G.enc w A a) (hb : RowsAt 2 G.enc w B b) :
    Calls Try.prog 38 #[.slice A a.length ca, .slice B b.length cb] w fun e w' => e = .returned (.bool (a == b)) ∧ Ext w w' := by
  have ha1 := ha
  have hb1 := hb
  have HA := Lib.hid ha1
  have HB := Lib.hid hb1
  have hla := ha1.1
  have hlb := hb1.1
  clear ha hb ha1 hb1
  by_cases hl : a.length = b.length
  · obtain ⟨n, hn⟩ : ∃ n, n = a.length := ⟨_, rfl⟩
    rw [← hl, ← hn]
    rw [← hn] at hla
    have HN := Lib.hid hn
    have HL := Lib.hid hl
    clear hlb hn hl
    have HE := Lib.hid (show ∀ k, k ≤ n → (∀ j, j < k → a[j]? = b[j]?) → k = n → (a == b) = true from fun k _ h hk => by
      rw [beq_iff_eq]
      refine List.ext_getElem? fun j => ?_
      by_cases hj : j < k
      · exact h j hj
      · rw [List.getElem?_eq_none (by have := HN.out; omega), List.getElem?_eq_none (by have := HN.out; have := HL.out; omega)])
    go_enter Try.func38, Try.ntmps38
    go_wp2
    go_loopw [5] (fun i wr => ∃ k : Nat, k ≤ n ∧ i = .int .i64 k ∧ (∀ j, j < k → a[j]? = b[j]?) ∧ Ext w wr) (fun i _ => n - (intOf i).toNat)
    case atStart => exact ⟨0, Nat.zero_le _, rfl, fun j h => by omega, Ext.refl _⟩
    case round =>
      obtain ⟨k, hk, rfl, hr, hx⟩ := hrel
      have HR := Lib.hid hr
      clear hr
      by_cases hlt : k < n
      · obtain ⟨x, hax⟩ : ∃ x, a[k]? = some x := ⟨_, List.getElem?_eq_getElem (by rw [← HN.out]; exact hlt)⟩
        obtain ⟨y, hby⟩ : ∃ y, b[k]? = some y := ⟨_, List.getElem?_eq_getElem (by rw [← HL.out, ← HN.out]; exact hlt)⟩
        obtain ⟨b1, o1, hA1, _, hc⟩ := HA.out.2 k x hax
        obtain ⟨b2, o2, hB1, _, hd⟩ := HB.out.2 k y hby
        subst hA1 hB1
        obtain ⟨x1, x2⟩ := x
        obtain ⟨y1, y2⟩ := y
        have hc1 : wr.cell? ⟨b1, o1 + k * 2, none⟩ = some (.int .i64 x1) := hx.cell (by have := hc 0 _ rfl; simpa using this)
        have hc2 : wr.cell? ⟨b1, o1 + k * 2 + 1, none⟩ = some (.int .i64 x2) := hx.cell (by have := hc 1 _ rfl; simpa using this)
        have hd1 : wr.cell? ⟨b2, o2 + k * 2, none⟩ = some (.int .i64 y1) := hx.cell (by have := hd 0 _ rfl; simpa using this)
        have hd2 : wr.cell? ⟨b2, o2 + k * 2 + 1, none⟩ = some (.int .i64 y2) := hx.cell (by have := hd 1 _ rfl; simpa using this)
        have HX := Lib.hid hax
        have HY := Lib.hid hby
        have hkn : (k : Int) < (n : Int) := by omega
        clear hc hd hax hby
        by_cases hxy : x1 = y1 ∧ x2 = y2
        · obtain ⟨rfl, rfl⟩ := hxy
          go_wp2
          go_quiet (fail)
          go_wp2
          go_roundw
          case rel => exact ⟨k + 1, by omega, by go_num, fun j hj => by
            by_cases hjk : j = k
            · rw [hjk, HX.out, HY.out]
            · exact HR.out j (by omega), hx.trans (Ext.drewN _ _)⟩
          case measure => simp [intOf]; omega
        · have HF := Lib.hid (show (a == b) = false by
            rw [beq_eq_false_iff_ne]; intro h
            rw [h] at HX
            have := HX.out.symm.trans HY.out
            exact hxy (by simpa using this))
          by_cases h1 : x1 = y1
          · subst h1
            have hxy' : (x2 == y2) = false := by rw [beq_eq_false_iff_ne]; exact fun h => hxy ⟨rfl, h⟩
            clear hxy
            go_wp2
            go_quiet (fail)
            go_wp2
            go_ret
            exact ⟨ret_bool HF.out.symm, hx.trans (Ext.drewN _ _)⟩
          · have hxy' : (x1 == y1) = false := by rw [beq_eq_false_iff_ne]; exact h1
            clear hxy
            go_wp2
            go_quiet (fail)
            go_wp2
            go_ret
            exact ⟨ret_bool HF.out.symm, hx.trans (Ext.drewN _ _)⟩
      · go_wp2
        go_ret
        exact ⟨ret_bool (HE.out k hk HR.out (by omega)).symm, hx⟩
  · have HF := Lib.hid (show (a == b) = false by rw [beq_eq_false_iff_ne]; intro h; exact hl (by rw [h]))
    have hl' : ((a.length : Int) != (b.length : Int)) = true := by simp; omega
    generalize a.length = n at *
    generalize b.length = m at *
    clear hl
    go_enter Try.func38, Try.ntmps38
    go_wp2
    go_ret
    exact ⟨ret_bool HF.out.symm, Ext.refl _⟩

end Go.Proofs.Ytpaoeghdfeekoaa
