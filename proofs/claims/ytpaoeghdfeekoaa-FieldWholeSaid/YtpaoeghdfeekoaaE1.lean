/- What FieldHots calls besides the program. -/
import Derived.Test.YtpaoeghdfeekoaaD2
namespace Go.Proofs.Ytpaoeghdfeekoaa
open Go.RowKit Go.Mem Go.RegInv

theorem sameBools_any (A B : Option Addr) (ca cb : Nat) (a b : List Bool) (w : World) (ha : RowsAt 1 boolEnc w A a) (hb : RowsAt 1 boolEnc w B b) :
    Calls Try.prog 30 #[.slice A a.length ca, .slice B b.length cb] w fun e w' => e = .returned (.bool (a == b)) ∧ Ext w w' := by
  have ha1 := ha
  have hb1 := hb
  have HA := Lib.hid ha1
  have HB := Lib.hid hb1
  have hla := ha1.1
  have hlb := hb1.1
  clear ha hb ha1 hb1
  by_cases hl : a.length = b.length
  · obtain ⟨n, hn⟩ : ∃ n, n = a.length := ⟨_, rfl⟩
    rw [← hl, ← hn]
    rw [← hn] at hla
    have HN := Lib.hid hn
    have HL := Lib.hid hl
    clear hlb hn hl
    have HE := Lib.hid (show ∀ k, k ≤ n → (∀ j, j < k → a[j]? = b[j]?) → k = n → (a == b) = true from fun k _ h hk => by
      rw [beq_iff_eq]
      refine List.ext_getElem? fun j => ?_
      by_cases hj : j < k
      · exact h j hj
      · rw [List.getElem?_eq_none (by have := HN.out; omega), List.getElem?_eq_none (by have := HN.out; have := HL.out; omega)])
    go_enter Try.func30, Try.ntmps30
    go_wp2
    go_loopw [5] (fun i wr => ∃ k : Nat, k ≤ n ∧ i = .int .i64 k ∧ (∀ j, j < k → a[j]? = b[j]?) ∧ Ext w wr) (fun i _ => n - (intOf i).toNat)
    case atStart => exact ⟨0, Nat.zero_le _, rfl, fun j h => by omega, Ext.refl _⟩
    case round =>
      obtain ⟨k, hk, rfl, hr, hx⟩ := hrel
      have HR := Lib.hid hr
      clear hr
      by_cases hlt : k < n
      · obtain ⟨x, hax⟩ : ∃ x, a[k]? = some x := ⟨_, List.getElem?_eq_getElem (by rw [← HN.out]; exact hlt)⟩
        obtain ⟨y, hby⟩ : ∃ y, b[k]? = some y := ⟨_, List.getElem?_eq_getElem (by rw [← HL.out, ← HN.out]; exact hlt)⟩
        obtain ⟨b1, o1, hA1, _, hc⟩ := HA.out.2 k x hax
        obtain ⟨b2, o2, hB1, _, hd⟩ := HB.out.2 k y hby
        subst hA1 hB1
        have hc1 : wr.cell? ⟨b1, o1 + k, none⟩ = some (.bool x) := hx.cell (by have := hc 0 _ rfl; simpa using this)
        have hd1 : wr.cell? ⟨b2, o2 + k, none⟩ = some (.bool y) := hx.cell (by have := hd 0 _ rfl; simpa using this)
        have HX := Lib.hid hax
        have HY := Lib.hid hby
        have hkn : (k : Int) < (n : Int) := by omega
        clear hc hd hax hby
        cases x <;> cases y
        · go_wp2
          go_quiet (fail)
          go_wp2
          go_roundw
          case rel => exact ⟨k + 1, by omega, by go_num, fun j hj => by
            by_cases hjk : j = k
            · rw [hjk, HX.out, HY.out]
            · exact HR.out j (by omega), hx.trans (Ext.drewN _ _)⟩
          case measure => simp [intOf]; omega
        · have HF := Lib.hid (show (a == b) = false by
            rw [beq_eq_false_iff_ne]; intro h
            rw [h] at HX
            have := HX.out.symm.trans HY.out
            simp at this)
          go_wp2
          go_quiet (fail)
          go_wp2
          go_ret
          exact ⟨ret_bool HF.out.symm, hx.trans (Ext.drewN _ _)⟩
        · have HF := Lib.hid (show (a == b) = false by
            rw [beq_eq_false_iff_ne]; intro h
            rw [h] at HX
            have := HX.out.symm.trans HY.out
            simp at this)
          go_wp2
          go_quiet (fail)
          go_wp2
          go_ret
          exact ⟨ret_bool HF.out.symm, hx.trans (Ext.drewN _ _)⟩
        · go_wp2
          go_quiet (fail)
          go_wp2
          go_roundw
          case rel => exact ⟨k + 1, by omega, by go_num, fun j hj => by
            by_cases hjk : j = k
            · rw [hjk, HX.out, HY.out]
            · exact HR.out j (by omega), hx.trans (Ext.drewN _ _)⟩
          case measure => simp [intOf]; omega
      · go_wp2
        go_ret
        exact ⟨ret_bool (HE.out k hk HR.out (by omega)).symm, hx⟩
  · have HF := Lib.hid (show (a == b) = false by rw [beq_eq_false_iff_ne]; intro h; exact hl (by rw [h]))
    have hl' : ((a.length : Int) != (b.length : Int)) = true := by simp; omega
    generalize a.length = n at *
    generalize b.length = m at *
    clear hl
    go_enter Try.func30, Try.ntmps30
    go_wp2
    go_ret
    exact ⟨ret_bool HF.out.symm, Ext.refl _⟩


def inB (lo hi n : Int) : Bool := decide (lo ≤ n) && decide (n ≤ hi)

theorem within_any (n lo hi : Int) (w : World) : Calls Try.prog 40 #[.int .i64 n, .int .i64 lo, .int .i64 hi] w fun e w' => e = .returned (.bool (inB lo hi n)) ∧ w = w' := by
  by_cases h : lo ≤ n
  · have HI := Lib.hid (show inB lo hi n = decide (n ≤ hi) by simp [inB, h])
    go_enter Try.func40, Try.ntmps40
    go_wp2
    go_ret
    exact ⟨ret_bool (by rw [HI.out]), rfl⟩
  · have HI := Lib.hid (show inB lo hi n = false by simp [inB, h])
    go_enter Try.func40, Try.ntmps40
    go_wp2
    go_ret
    exact ⟨ret_bool (by rw [HI.out]), rfl⟩

def hotE (xs : List Int) (c : Int) : Int := if 4 < xs.length then 8 else if xs.all (inB 1 3000) && inB 1 3000 c then 0 else 2

theorem hotErr_any (v : Value) (xs : List Int) (c : Int) (w : World) (hx : IntsAt w v xs) :
    Calls Try.prog 29 #[v, .int .i64 c] w fun e w' => e = .returned (.int .i64 (hotE xs c)) ∧ w = w' := by
  obtain ⟨A, ca, rfl, ha⟩ := ints_rows hx
  have HA := Lib.hid ha
  clear hx ha
  obtain ⟨n, hn⟩ : ∃ n, n = xs.length := ⟨_, rfl⟩
  rw [← hn]
  have HN := Lib.hid hn
  by_cases h4 : n ≤ 4
  · have HE := Lib.hid (show hotE xs c = if xs.all (inB 1 3000) && inB 1 3000 c then 0 else 2 by unfold hotE; rw [if_neg (by omega)])
    clear hn
    generalize hotE xs c = r at HE ⊢
    go_enter Try.func29, Try.ntmps29
    go_wp2
    go_loopw [5] (fun i wr => ∃ k : Nat, k ≤ n ∧ i = .int .i64 k ∧ (∀ x ∈ xs.take k, inB 1 3000 x = true) ∧ wr = w) (fun i _ => n - (intOf i).toNat)
    case atStart => exact ⟨0, Nat.zero_le _, rfl, by simp, rfl⟩
    case round =>
      obtain ⟨k, hk, rfl, hr, rfl⟩ := hrel
      have HR := Lib.hid hr
      clear hr
      by_cases hlt : k < n
      · obtain ⟨x, hax⟩ : ∃ x, xs[k]? = some x := ⟨_, List.getElem?_eq_getElem (by rw [← HN.out]; exact hlt)⟩
        obtain ⟨b1, o1, hA1, _, hc⟩ := HA.out.2 k x hax
        subst hA1
        have hc1 := (by have := hc 0 _ rfl; simpa using this : wr.cell? ⟨b1, o1 + k, none⟩ = some (.int .i64 x))
        have HX := Lib.hid hax
        clear hc hax
        cases hb : inB 1 3000 x
        · have HB := Lib.hid hb
          clear hb
          go_wp2_with (go_at_call 40; refine (within_any _ _ _ _).mono ?_; rintro e w' ⟨rfl, rfl⟩; rw [HB.out])
          go_ret
          refine ⟨ret_int ?_, rfl⟩
          have : xs.all (inB 1 3000) = false := by
            rw [Bool.eq_false_iff]; intro h
            have := List.all_eq_true.1 h x (List.mem_of_getElem? HX.out)
            rw [HB.out] at this; cases this
          rw [HE.out, this]; rfl
        · have HB := Lib.hid hb
          clear hb
          go_wp2_with (go_at_call 40; refine (within_any _ _ _ _).mono ?_; rintro e w' ⟨rfl, rfl⟩; rw [HB.out])
          go_roundw
          case rel => exact ⟨k + 1, by omega, by go_num, by
            intro y hy
            rw [List.take_add_one, HX.out] at hy
            rcases List.mem_append.1 hy with h | h
            · exact HR.out y h
            · simp at h; rw [h]; exact HB.out, by first | rfl | trivial⟩
          case measure => simp [intOf]; omega
      · have HALL := Lib.hid (show xs.all (inB 1 3000) = true by
          rw [List.all_eq_true]; intro y hy
          exact HR.out y (by rw [List.take_of_length_le (by rw [← HN.out]; omega)]; exact hy))
        cases hb : inB 1 3000 c
        · have HB := Lib.hid hb
          clear hb
          go_wp2_with (go_at_call 40; refine (within_any _ _ _ _).mono ?_; rintro e w' ⟨rfl, rfl⟩; rw [HB.out])
          go_ret
          exact ⟨ret_int (by rw [HE.out, HALL.out, HB.out]; rfl), rfl⟩
        · have HB := Lib.hid hb
          clear hb
          go_wp2_with (go_at_call 40; refine (within_any _ _ _ _).mono ?_; rintro e w' ⟨rfl, rfl⟩; rw [HB.out])
          go_ret
          exact ⟨ret_int (by rw [HE.out, HALL.out, HB.out]; rfl), rfl⟩
  · have HE := Lib.hid (show hotE xs c = 8 by unfold hotE; rw [if_pos (by omega)])
    clear hn
    have h4' : (4 : Int) < (n : Int) := by omega
    generalize hotE xs c = r at HE ⊢
    go_enter Try.func29, Try.ntmps29
    go_wp2
    go_ret
    exact ⟨ret_int HE.out.symm, rfl⟩

end Go.Proofs.Ytpaoeghdfeekoaa
