/- Divisors and quotients. -/
import Derived.Test.YtpaoeghdfeekoaaC2
namespace Go.Proofs.Ytpaoeghdfeekoaa
open Go.RowKit Go.Mem Go.RegInv

def gcdL (xs : List Int) : Nat := xs.foldl (fun g x => Nat.gcd g x.natAbs) 0
theorem gcdL_take (xs : List Int) (k : Nat) (x : Int) (h : xs[k]? = some x) : gcdL (xs.take (k + 1)) = Nat.gcd (gcdL (xs.take k)) x.natAbs := by
  rw [List.take_add_one, h]; simp [gcdL]

theorem gcd_step (d n : Int) (_hn : n ≠ 0) : Nat.gcd n.natAbs (d.tmod n).natAbs = Nat.gcd d.natAbs n.natAbs := by
  rw [Int.natAbs_tmod, Nat.gcd_comm, ← Nat.gcd_rec, Nat.gcd_comm]

theorem tmod_bd {d n : Int} (h : Big d) (hn : n ≠ 0) : -1000000000000000000 ≤ d.tmod n ∧ d.tmod n ≤ 1000000000000000000 ∧ (d.tmod n).natAbs < n.natAbs := by
  have h1 : (d.tmod n).natAbs < n.natAbs := by rw [Int.natAbs_tmod]; exact Nat.mod_lt _ (by omega)
  have h2 : (d.tmod n).natAbs ≤ d.natAbs := by rw [Int.natAbs_tmod]; exact Nat.mod_le _ _
  unfold Big at h
  omega

theorem divisor_any (v : Value) (xs : List Int) (w : World) (hx : IntsAt w v xs) (hb : ∀ x ∈ xs, Big x) :
    Calls Try.prog 100 #[v] w fun e w' => e = .returned (.int .i64 (gcdL xs : Int)) ∧ Ext w w' := by
  obtain ⟨A, ca, rfl, ha1⟩ := ints_rows hx
  have HA := Lib.hid ha1
  have hla := ha1.1
  have HB := Lib.hid hb
  clear hx hb ha1
  obtain ⟨n, hn⟩ : ∃ n, n = xs.length := ⟨_, rfl⟩
  rw [← hn] at hla ⊢
  have HN := Lib.hid hn
  clear hn
  go_enter Try.func100, Try.ntmps100
  go_wp2
  go_loopw [8, 3, 5] (fun i d m wr => ∃ (k : Nat) (dd : Int), k ≤ n ∧ i = .int .i64 k ∧ d = .int .i64 dd ∧ dd.natAbs = gcdL (xs.take k) ∧ Big dd ∧ Ext w wr) (fun i d m _ => n - (intOf i).toNat)
  case atStart => exact ⟨0, 0, Nat.zero_le _, rfl, rfl, rfl, by unfold Big; omega, Ext.refl _⟩
  case round =>
    obtain ⟨k, dd, hk, rfl, rfl, hr, hbd, he⟩ := hrel
    have HR := Lib.hid hr
    have HBD := Lib.hid hbd
    clear hr hbd
    by_cases hlt : k < n
    · obtain ⟨x, hax⟩ : ∃ x, xs[k]? = some x := ⟨_, List.getElem?_eq_getElem (by rw [← HN.out]; exact hlt)⟩
      obtain ⟨b1, o1, hA1, _, hc⟩ := HA.out.2 k x hax
      subst hA1
      have hc1 : wr.cell? ⟨b1, o1 + k, none⟩ = some (.int .i64 x) := he.cell (by have := hc 0 _ rfl; simpa using this)
      have HX := Lib.hid hax
      have HBX := Lib.hid (HB.out x (List.mem_of_getElem? hax))
      clear hax hc
      go_wp2
      go_loopw [3, 5] (fun d m w2 => ∃ (d2 n2 : Int), d = .int .i64 d2 ∧ m = .int .i64 n2 ∧ Nat.gcd d2.natAbs n2.natAbs = Nat.gcd dd.natAbs x.natAbs ∧ Big d2 ∧ Big n2 ∧ Ext w w2) (fun d m _ => (intOf m).natAbs)
      case atStart => exact ⟨dd, x, rfl, rfl, rfl, HBD.out, HBX.out, he⟩
      case round =>
        obtain ⟨d2, n2, rfl, rfl, hg, hd2, hn2, he2⟩ := hrel
        by_cases hz : n2 = 0
        · subst hz
          have HG := Lib.hid hg
          have HD2 := Lib.hid hd2
          have hlt' : (k : Int) + 1 ≤ 1152921504606846976 := by omega
          clear hg hd2 hn2
          go_wp2
          go_roundw
          case rel => exact ⟨k + 1, d2, by omega, by go_num, rfl, by rw [gcdL_take xs k x HX.out, ← HR.out, ← HG.out]; simp, HD2.out, he2⟩
          case measure => simp [intOf]; omega
        · have HG := Lib.hid ((gcd_step d2 n2 hz).trans hg)
          have hm : -1000000000000000000 ≤ d2.tmod n2 ∧ d2.tmod n2 ≤ 1000000000000000000 ∧ (d2.tmod n2).natAbs < n2.natAbs := tmod_bd hd2 hz
          have hwr : IntKind.i64.wrap (d2.tmod n2) = d2.tmod n2 := IntWalk.i64_in _ (by omega)
          have hz' : (n2 == 0) = false := by simp [hz]
          have hz2 : (n2 != 0) = true := by simp [hz]
          have HN2 := Lib.hid hn2
          have HM := Lib.hid hm
          have HZ := Lib.hid hz
          clear hg hd2 hn2 hm
          go_wp2
          go_quiet (fail)
          go_wp2
          go_roundw
          case rel => exact ⟨n2, d2.tmod n2, rfl, rfl, HG.out, HN2.out, ⟨HM.out.1, HM.out.2.1⟩, he2.trans (Ext.drewN _ _)⟩
          case measure => exact HM.out.2.2
    · have HE := Lib.hid (show dd.natAbs = gcdL xs by rw [HR.out, List.take_of_length_le (by rw [← HN.out]; omega)])
      have hbd : -1000000000000000000 ≤ dd ∧ dd ≤ 1000000000000000000 := HBD.out
      go_wp2
      all_goals go_ret
      all_goals exact ⟨ret_int (by rw [← HE.out]; omega), he⟩

end Go.Proofs.Ytpaoeghdfeekoaa
