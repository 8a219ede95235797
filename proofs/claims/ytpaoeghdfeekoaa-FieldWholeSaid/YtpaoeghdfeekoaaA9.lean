/- The powers of shells, one after the other. -/
import Derived.Test.YtpaoeghdfeekoaaA8
namespace Go.Proofs.Ytpaoeghdfeekoaa
open Go.RowKit Go.Shelf Go.Mem Go.RegInv
attribute [local go_sem] Oper.semAt_some

def pw (s : Sh) (z : G) : Int := s.g * (z.re * z.re + z.im * z.im)
def pwr (ls : List Sh) (ns : List G) : List Int := List.zipWith pw ls ns

/-- Blocks that hold no numbers and no slices of numbers lie as they lay. -/
def Kp37 (W W' : World) : Prop := ∀ g t cs, Blk W g t cs → t ≠ 3 → t ≠ 37 → Blk W' g t cs
theorem Kp37.t {A B C : World} (h : Kp37 A B) (k : Kp37 B C) : Kp37 A C := fun g t cs b h1 h2 => k g t cs (h g t cs b h1 h2) h1 h2
theorem Kp37.kept {A B : World} (h : CellsKept A B) : Kp37 A B := fun _ _ _ b _ _ => h.blk b

def Big (x : Int) : Prop := -1000000000000000000 ≤ x ∧ x ≤ 1000000000000000000

theorem at_of_blk {W W' : World} {b : Nat} {t : TypeId} {cs : Array Value} (h : Blk W b t cs) (h' : Blk W' b t cs) {i : Nat} {v : Value} (hc : W.cell? ⟨b, i, none⟩ = some v) : W'.cell? ⟨b, i, none⟩ = some v := by
  rw [h.cell] at hc; rw [h'.cell]; exact hc

set_option maxRecDepth 100000 in
set_option maxHeartbeats 2000000 in
theorem powers_iter (n : Nat) (hn : 1 ≤ n) (b o m cap g cap' : Nat) (ls : List Sh) (ns : List G) (cs cu : Array Value) (hl : ls.length = m) (hz : ns.length = m) (W0 : World)
    (hS : RowsAt 3 Sh.enc W0 (some ⟨b, o, none⟩) ls) (hN : RowsAt 2 G.enc W0 (some ⟨g, 2, none⟩) ns) (hbs : Blk W0 b 92 cs) (hbn : Blk W0 g 65 cu)
    (hb : ∀ (k : Nat) (s : Sh) (z : G), ls[k]? = some s → ns[k]? = some z → Big (z.re * z.re) ∧ Big (z.im * z.im) ∧ Big (s.g * (z.re * z.re + z.im * z.im))) :
    IterAt Try.prog n 130 #[.agg #[.slice (some ⟨b, o, none⟩) m cap, .slice (some ⟨g, 2, none⟩) m cap']] #[] (fun p : Int => #[.int .i64 p]) (pwr ls ns) Kp37 W0 := by
  intro l J Jx W hck hbw hJ hJx hY h0
  have hmb : m ≤ 1152921504606846976 := by have := hS.1; omega
  have HS := Lib.hid hS
  have HN := Lib.hid hN
  have HB := Lib.hid hb
  have HBS := Lib.hid hbs
  have HBN := Lib.hid hbn
  have hbs1 := hck.blk hbs
  have hbn1 := hck.blk hbn
  have HL := Lib.hid hl
  have HZ := Lib.hid hz
  clear hS hN hb hbs hbn hl hz hck hbw
  show CallsIn Fence.wide n Try.prog 130 #[.agg #[.slice (some ⟨b, o, none⟩) m cap, .slice (some ⟨g, 2, none⟩) m cap'], .func (.yield l) #[] #[]] W _
  refine callsIn_of_wp Try.func130 rfl trivial ?_ rfl
  simp only [Try.ntmps130, List.size_toArray, List.length_cons, List.length_nil, Nat.reduceAdd, Nat.reduceSub, Array.replicate_succ, Array.replicate_zero, List.push_toArray, List.append_toArray, List.nil_append, List.cons_append]
  gi_wp2
  gi_loopw [10] (fun i wr => ∃ k : Nat, k ≤ m ∧ i = .int .i64 k ∧ J k wr ∧ Blk wr W.heap.size 184 #[.slice (some ⟨b, o, none⟩) m cap, .slice (some ⟨g, 2, none⟩) m cap'] ∧ Blk wr b 92 cs ∧ Blk wr g 65 cu) (fun i _ => m - (intOf i).toNat)
  case atStart => exact ⟨0, Nat.zero_le _, rfl, hJ _ _ _ h0 (Ext.alloc _ _), Blk.new _ _ _, hbs1.alloc _, hbn1.alloc _⟩
  case round =>
    obtain ⟨k, hk, rfl, hj, hh, hs1, hn1⟩ := hrel
    by_cases hlt : k < m
    · obtain ⟨s, hs⟩ : ∃ s, ls[k]? = some s := ⟨_, List.getElem?_eq_getElem (by rw [HL.out]; exact hlt)⟩
      obtain ⟨z, hzz⟩ : ∃ z, ns[k]? = some z := ⟨_, List.getElem?_eq_getElem (by rw [HZ.out]; exact hlt)⟩
      obtain ⟨⟨q1, q2⟩, ⟨q3, q4⟩, ⟨q5, q6⟩⟩ := HB.out k s z hs hzz
      obtain ⟨b', o', e1, _, hc⟩ := HS.out.2 k s hs
      obtain ⟨g', o2, e2, _, hc2⟩ := HN.out.2 k z hzz
      obtain ⟨rfl, rfl⟩ : b = b' ∧ o = o' := by simpa using e1
      obtain ⟨rfl, rfl⟩ : g = g' ∧ 2 = o2 := by simpa using e2
      have hp : (pwr ls ns)[k]? = some (pw s z) := by simp [pwr, List.getElem?_zipWith, hs, hzz]
      have c0 : wr.cell? ⟨b, o + k * 3, none⟩ = some (.int .i64 s.g) := at_of_blk HBS.out hs1 (hc 0 _ rfl)
      have c1 : wr.cell? ⟨b, o + k * 3 + 1, none⟩ = some (.int .i64 s.c) := at_of_blk HBS.out hs1 (hc 1 _ rfl)
      have c2 : wr.cell? ⟨b, o + k * 3 + 2, none⟩ = some (.int .i64 s.h) := at_of_blk HBS.out hs1 (hc 2 _ rfl)
      have d0 : wr.cell? ⟨g, 2 + k * 2, none⟩ = some (.int .i64 z.re) := at_of_blk HBN.out hn1 (hc2 0 _ rfl)
      have d1 : wr.cell? ⟨g, 2 + k * 2 + 1, none⟩ = some (.int .i64 z.im) := at_of_blk HBN.out hn1 (hc2 1 _ rfl)
      have h0' : wr.cell? ⟨W.heap.size, 0, none⟩ = some (.slice (some ⟨b, o, none⟩) m cap) := hh.cell 0
      have h1' : wr.cell? ⟨W.heap.size, 1, none⟩ = some (.slice (some ⟨g, 2, none⟩) m cap') := hh.cell 1
      have hbl := hs1.lt
      have hgl := hn1.lt
      have hhl := hh.lt
      have hx2 : Ext wr ((wr.alloc (.cells #[.int .i64 s.g, .int .i64 s.c, .int .i64 s.h] 92)).alloc (.cells #[.int .i64 z.re, .int .i64 z.im] 65)) := (Ext.alloc _ _).trans (Ext.alloc _ _)
      obtain ⟨fn, tmps, assign, body, hy, hR⟩ := hY k (pw s z) hp _ (hJ _ _ _ hj hx2)
      have HH := Lib.hid (hh.ext hx2)
      have HS1 := Lib.hid (hs1.ext hx2)
      have HN1 := Lib.hid (hn1.ext hx2)
      unfold pw at hy
      clear hc hc2 hh hs1 hn1 hs hzz hp
      gi_wp2
      refine hR.mono ?_
      rintro e W3 (⟨rfl, hJ3, hk3⟩ | ⟨rfl, hJx3⟩)
      · gi_wp2
        go_roundw
        case rel => exact ⟨k + 1, by omega, by go_num, hJ3, hk3 _ _ _ HH.out (by decide) (by decide), hk3 _ _ _ HS1.out (by decide) (by decide), hk3 _ _ _ HN1.out (by decide) (by decide)⟩
        case measure => simp [intOf]; omega
      · gi_wp2
        refine bodyPost_ret (results_none rfl _ _ _) rfl ?_
        exact ⟨⟨_, rfl⟩, .inr hJx3⟩
    · obtain rfl : k = m := by omega
      gi_wp2
      go_end0
      refine ⟨⟨_, rfl⟩, .inl ?_⟩
      have : (pwr ls ns).length = k := by simp [pwr, HL.out, HZ.out]
      rw [this]; exact hj

end Go.Proofs.Ytpaoeghdfeekoaa
