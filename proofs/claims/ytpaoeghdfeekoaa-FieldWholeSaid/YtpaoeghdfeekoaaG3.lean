/- Reactances, by the program and by the reference; few, fewHot. -/
import Derived.Test.YtpaoeghdfeekoaaG2
namespace Go.Proofs.Ytpaoeghdfeekoaa
open Go.RowKit Go.Shelf Go.Mem Go.RegInv

theorem few_yes (t : Int) (A : Option Addr) (n cap : Nat) (w : World) (h : n ≤ 6) :
    Calls Try.prog 16 #[.agg #[.int .i64 t, .slice A n cap]] w fun e w' => e = .returned (.bool true) ∧ Ext w w' := by
  have hd : decide ((n : Int) ≤ 6) = true := by simp; omega
  clear h
  go_enter Try.func16, Try.ntmps16
  go_wp2
  go_ret
  exact ⟨ret_bool (by simp), Ext.alloc _ _⟩
theorem few_no (t : Int) (A : Option Addr) (n cap : Nat) (w : World) (h : 6 < n) :
    Calls Try.prog 16 #[.agg #[.int .i64 t, .slice A n cap]] w fun e w' => e = .returned (.bool false) ∧ Ext w w' := by
  have hd : decide ((n : Int) ≤ 6) = false := by simp; omega
  clear h
  go_enter Try.func16, Try.ntmps16
  go_wp2
  go_ret
  exact ⟨ret_bool (by simp), Ext.alloc _ _⟩
theorem fewHot_yes (f : Int) (B : Option Addr) (m cap : Nat) (w : World) (h : m ≤ 6) :
    Calls Try.prog 17 #[.agg #[.int .i64 f, .slice B m cap]] w fun e w' => e = .returned (.bool true) ∧ Ext w w' := by
  have hd : decide ((m : Int) ≤ 6) = true := by simp; omega
  clear h
  go_enter Try.func17, Try.ntmps17
  go_wp2
  go_ret
  exact ⟨ret_bool (by simp), Ext.alloc _ _⟩
theorem fewHot_no (f : Int) (B : Option Addr) (m cap : Nat) (w : World) (h : 6 < m) :
    Calls Try.prog 17 #[.agg #[.int .i64 f, .slice B m cap]] w fun e w' => e = .returned (.bool false) ∧ Ext w w' := by
  have hd : decide ((m : Int) ≤ 6) = false := by simp; omega
  clear h
  go_enter Try.func17, Try.ntmps17
  go_wp2
  go_ret
  exact ⟨ret_bool (by simp), Ext.alloc _ _⟩

def reactL (f : Int) (hot : List Bool) (l : List Sh) : List Int := List.zipWith (react f) hot l
theorem reactL_len {f : Int} {hot : List Bool} {l : List Sh} (h : hot.length = l.length) : (reactL f hot l).length = l.length := by simp [reactL, h]
theorem reactL_at {f : Int} {hot : List Bool} {l : List Sh} {k : Nat} {h : Bool} {s : Sh} (hk : hot[k]? = some h) (ls : l[k]? = some s) : (reactL f hot l)[k]? = some (react f h s) := by
  simp [reactL, List.getElem?_zipWith, hk, ls]
theorem take_snocI {xs : List Int} {k : Nat} {x : Int} (h : xs[k]? = some x) : (xs.take (k + 1)).map (Value.int .i64) = (xs.take k).map (Value.int .i64) ++ [.int .i64 x] := by
  rw [List.take_add_one, h]; simp

theorem own_ext {W W' : World} {base n k : Nat} {e : TypeId} {v : Value} {xs : List Value} (h : W.ownsRow base e k v n xs) (x : Ext W W') : W'.ownsRow base e k v n xs := by
  refine ⟨h.1, ?_⟩
  rcases h.2 with h2 | ⟨g, cap, cu, hv, hg, hh, r⟩
  · exact .inl h2
  · exact .inr ⟨g, cap, cu, hv, hg, (show Blk W' g e cu from (show Blk W g e cu from hh).ext x), r⟩

theorem bd_react {f : Int} {s : Sh} (hf : 1 ≤ f ∧ f ≤ 8) (hs : shOK s) : (-1000 ≤ f * s.c ∧ f * s.c ≤ 1000) ∧ (-1000 ≤ f * s.h ∧ f * s.h ≤ 1000) := by
  obtain ⟨_, h2, h3, _⟩ := hs
  have a := mul_bd (n := f) (x := s.c) (N := 8) (B := 4) (by omega) hf.2 (by omega) (by omega)
  have b := mul_bd (n := f) (x := s.h) (N := 8) (B := 4) (by omega) hf.2 (by omega) (by omega)
  omega
theorem mid_react {f : Int} {s : Sh} (hf : 1 ≤ f ∧ f ≤ 8) (hs : shOK s) : Mid (f * s.c) ∧ Mid (f * s.h) := by
  obtain ⟨_, h2, h3, _⟩ := hs
  have a := mul_bd (n := f) (x := s.c) (N := 8) (B := 4) (by omega) hf.2 (by omega) (by omega)
  have b := mul_bd (n := f) (x := s.h) (N := 8) (B := 4) (by omega) hf.2 (by omega) (by omega)
  unfold Mid
  omega

set_option maxRecDepth 100000 in
set_option maxHeartbeats 2000000 in
theorem reactancesOf_any (t : Int) (A : Option Addr) (n cap : Nat) (l : List Sh) (hn : l.length = n) (f : Int) (B : Option Addr) (m cap' : Nat) (hot : List Bool) (hm : hot.length = m) (w : World)
    (hS : RowsAt 3 Sh.enc w A l) (hH : RowsAt 1 boolEnc w B hot) :
    Calls Try.prog 22 #[.agg #[.int .i64 t, .slice A n cap], .agg #[.int .i64 f, .slice B m cap']] w fun e w' => Ext w w' ∧
      ((driveE t l f m ≠ 0 ∧ e = .returned (.tuple #[.slice none 0 0, .int .i64 (driveE t l f m)])) ∨
       (driveE t l f m = 0 ∧ ∃ v, e = .returned (.tuple #[v, .int .i64 0]) ∧ IntsAt w' v (reactL f hot l))) := by
  have HC := Lib.hid (fun W h => checkDrive_any t A n cap l hn f B m cap' W h)
  have e0 : Ext w ((w.alloc (.cells #[.int .i64 t, .slice A n cap] 24)).alloc (.cells #[.int .i64 f, .slice B m cap'] 27)) := (Ext.alloc _ _).trans (Ext.alloc _ _)
  have FA := Lib.hid (show ∀ W : World, Ext ((w.alloc (.cells #[.int .i64 t, .slice A n cap] 24)).alloc (.cells #[.int .i64 f, .slice B m cap'] 27)) W →
      W.cell? ⟨w.heap.size, 0, none⟩ = some (.int .i64 t) ∧ W.cell? ⟨w.heap.size, 1, none⟩ = some (.slice A n cap) ∧ W.cell? ⟨w.heap.size + 1, 0, none⟩ = some (.int .i64 f) ∧ W.cell? ⟨w.heap.size + 1, 1, none⟩ = some (.slice B m cap') from
    fun W hx => ⟨hx.cell (by go_simp), hx.cell (by go_simp), hx.cell (by go_simp), hx.cell (by go_simp)⟩)
  have HS := Lib.hid hS
  have HH := Lib.hid hH
  have HN := Lib.hid hn
  have HM := Lib.hid hm
  have E0 := Lib.hid e0
  clear hn hS hm hH e0
  by_cases hq : driveE t l f m = 0
  · obtain ⟨⟨_, ⟨h1, h4⟩, hok⟩, hf, hml⟩ := (driveE_zero t l f m).1 hq
    obtain rfl : n = m := by rw [hml, ← HN.out]
    have HRE := Lib.hid (fun (k : Nat) (s : Sh) (b : Bool) (W : World) (hs : l[k]? = some s) (hb : hot[k]? = some b) (e : Ext w W) =>
      reactanceOf_any t A n cap l HN.out f B n cap' hot k s b W (HS.out.ext e) (HH.out.ext e) hs hb HM.out (mid_react hf (hok s (List.mem_of_getElem? hs))).1 (mid_react hf (hok s (List.mem_of_getElem? hs))).2)
    have HQ := Lib.hid hq
    have hn4 : n ≤ 4 := by rw [← HN.out]; exact h4
    clear h1 h4 hok hf hml hq
    obtain ⟨i0, hi, hz0, hz1, hz2⟩ := info_parts info3
    have HI0 := Lib.hid hz0
    generalize driveE t l f n = q at HC HQ ⊢
    have hq' : q = 0 := HQ.out
    subst hq'
    have HLEN := Lib.hid (show (reactL f hot l).length = n by rw [reactL_len (by rw [HM.out, HN.out]), HN.out])
    go_enter Try.func22, Try.ntmps22
    go_wp2_with (go_at_call 20; refine (HC.out _ (HS.out.ext E0.out)).mono ?_; rintro e W1 ⟨rfl, hx1⟩; obtain ⟨z0, z1, z2, z3⟩ := FA.out _ hx1; have X1 := Lib.hid hx1; clear hx1)
    clear z0 z1 z2 z3
    go_loopw [18, 7] (fun i v wr => ∃ k : Nat, k ≤ n ∧ i = .int .i64 k ∧ wr.ownsRow W1.heap.size 3 1 v k (((reactL f hot l).take k).map (Value.int .i64)) ∧ Ext W1 wr) (fun i _ _ => n - (intOf i).toNat)
    case atStart => exact ⟨0, Nat.zero_le _, rfl, World.ownsRow_nil _ _ _ _, Ext.refl _⟩
    case round =>
      obtain ⟨k, hk, rfl, hown, he⟩ := hrel
      have HO := Lib.hid hown
      have HE := Lib.hid he
      clear hown he
      by_cases hlt : k < n
      · obtain ⟨s, hs⟩ : ∃ s, l[k]? = some s := ⟨_, List.getElem?_eq_getElem (by rw [HN.out]; exact hlt)⟩
        obtain ⟨b, hb⟩ : ∃ b, hot[k]? = some b := ⟨_, List.getElem?_eq_getElem (by rw [HM.out]; exact hlt)⟩
        have HT := Lib.hid (take_snocI (reactL_at (f := f) hb hs))
        obtain ⟨z0, z1, z2, z3⟩ := FA.out _ (X1.out.trans HE.out)
        have HR := Lib.hid (HRE.out k s b wr hs hb (E0.out.trans (X1.out.trans HE.out)))
        have hwb := HE.out.size
        clear hs hb
        generalize react f b s = x at *
        go_wp2_with (first
          | (go_at_call 88; refine HR.out.mono ?_; rintro e W5 ⟨rfl, hx5⟩; have X5 := Lib.hid hx5; have hs5 := hx5.size; clear hx5)
          | (at_builtin; refine wpList_append_own _ rfl _ _ 37 rfl W1.heap.size 3 i0 (.int .i64 0) 1 8 Try.underlying37 hi HI0.out hz1 hz2 rfl (by decide) _ _ _ rfl ((own_ext HO.out X5.out).alloc _) ⟨W5.heap.size, 0, none⟩ 1 1 [.int .i64 x] rfl rfl (news_of1 (Blk.new W5 3 #[.int .i64 x])) (by simp [Value.oneCell']) (by unfold maxLen; omega) (by omega) (by simp; omega) ?_; intro v' w1 hown' hgrow _; have HO1 := Lib.hid hown'; have HE1 := Lib.hid (Ext.grownBy ((HE.out.trans X5.out).trans (Ext.alloc _ _)) hgrow (fun g hg => own_base HO.out hg)); clear hown' hgrow))
        go_roundw
        case rel => exact ⟨k + 1, by omega, by go_num, by rw [HT.out]; exact HO1.out, HE1.out⟩
        case measure => simp [intOf]; omega
      · obtain rfl : k = n := by omega
        go_wp2
        go_ret2
        exact ⟨E0.out.trans (X1.out.trans HE.out), .inr ⟨by trivial, _, rfl, ints_of_own (n := k) HLEN.out (by omega) (by have := HO.out; rw [List.take_of_length_le (by rw [HLEN.out]; omega)] at this; exact this)⟩⟩
  · have HQ := Lib.hid hq
    have hq' : (driveE t l f m != 0) = true := by simp [hq]
    clear hq
    generalize driveE t l f m = q at HC HQ hq' ⊢
    go_enter Try.func22, Try.ntmps22
    go_wp2_with (go_at_call 20; refine (HC.out _ (HS.out.ext E0.out)).mono ?_; rintro e w' ⟨rfl, hx⟩)
    go_ret2
    exact ⟨E0.out.trans hx, .inl ⟨HQ.out, rfl⟩⟩

set_option maxRecDepth 100000 in
set_option maxHeartbeats 2000000 in
theorem refReactances_any (t : Int) (A : Option Addr) (n cap : Nat) (l : List Sh) (hn : l.length = n) (f : Int) (B : Option Addr) (cap' : Nat) (hot : List Bool) (hm : hot.length = n) (w : World)
    (hS : RowsAt 3 Sh.enc w A l) (hH : RowsAt 1 boolEnc w B hot) (hok : ∀ s ∈ l, shOK s) (hf : 1 ≤ f ∧ f ≤ 8) (hn4 : n ≤ 4) :
    Calls Try.prog 26 #[.agg #[.int .i64 t, .slice A n cap], .agg #[.int .i64 f, .slice B n cap']] w fun e w' => ∃ v, e = .returned v ∧ IntsAt w' v (reactL f hot l) ∧ Ext w w' := by
  have e0 : Ext w ((w.alloc (.cells #[.int .i64 t, .slice A n cap] 24)).alloc (.cells #[.int .i64 f, .slice B n cap'] 27)) := (Ext.alloc _ _).trans (Ext.alloc _ _)
  have FA := Lib.hid (show ∀ W : World, Ext ((w.alloc (.cells #[.int .i64 t, .slice A n cap] 24)).alloc (.cells #[.int .i64 f, .slice B n cap'] 27)) W →
      W.cell? ⟨w.heap.size, 0, none⟩ = some (.int .i64 t) ∧ W.cell? ⟨w.heap.size, 1, none⟩ = some (.slice A n cap) ∧ W.cell? ⟨w.heap.size + 1, 0, none⟩ = some (.int .i64 f) ∧ W.cell? ⟨w.heap.size + 1, 1, none⟩ = some (.slice B n cap') from
    fun W hx => ⟨hx.cell (by go_simp), hx.cell (by go_simp), hx.cell (by go_simp), hx.cell (by go_simp)⟩)
  have HS := Lib.hid hS
  have HH := Lib.hid hH
  have HN := Lib.hid hn
  have HM := Lib.hid hm
  have E0 := Lib.hid e0
  have HOK := Lib.hid hok
  have HF := Lib.hid hf
  obtain ⟨i0, hi, hz0, hz1, hz2⟩ := info_parts info3
  have HI0 := Lib.hid hz0
  have HLEN := Lib.hid (show (reactL f hot l).length = n by rw [reactL_len (by rw [hm, hn]), hn])
  clear hn hS hm hH e0 hok hf
  go_enter Try.func26, Try.ntmps26
  go_wp2
  generalize hW1 : (w.alloc (.cells #[.int .i64 t, .slice A n cap] 24)).alloc (.cells #[.int .i64 f, .slice B n cap'] 27) = W1 at *
  clear hW1
  go_loopw [6, 5] (fun i v wr => ∃ k : Nat, k ≤ n ∧ i = .int .i64 k ∧ wr.ownsRow W1.heap.size 3 1 v k (((reactL f hot l).take k).map (Value.int .i64)) ∧ Ext W1 wr) (fun i _ _ => n - (intOf i).toNat)
  case atStart => exact ⟨0, Nat.zero_le _, rfl, World.ownsRow_nil _ _ _ _, Ext.refl _⟩
  case round =>
    obtain ⟨k, hk, rfl, hown, he⟩ := hrel
    have HO := Lib.hid hown
    have HE := Lib.hid he
    clear hown he
    obtain ⟨z0, z1, z2, z3⟩ := FA.out _ HE.out
    by_cases hlt : k < n
    · obtain ⟨s, hs⟩ : ∃ s, l[k]? = some s := ⟨_, List.getElem?_eq_getElem (by rw [HN.out]; exact hlt)⟩
      obtain ⟨hb, hbb⟩ : ∃ b, hot[k]? = some b := ⟨_, List.getElem?_eq_getElem (by rw [HM.out]; exact hlt)⟩
      have HT := Lib.hid (take_snocI (reactL_at (f := f) hbb hs))
      obtain ⟨b1, o1, hA1, _, hc⟩ := HS.out.2 k s hs
      subst hA1
      have hcc : wr.cell? ⟨b1, o1 + k * 3 + 1, none⟩ = some (.int .i64 s.c) := (E0.out.trans HE.out).cell (hc 1 _ rfl)
      have hch : wr.cell? ⟨b1, o1 + k * 3 + 2, none⟩ = some (.int .i64 s.h) := (E0.out.trans HE.out).cell (hc 2 _ rfl)
      obtain ⟨b2, o2, hB2, _, hd⟩ := HH.out.2 k hb hbb
      subst hB2
      have hdd : wr.cell? ⟨b2, o2 + k, none⟩ = some (.bool hb) := (E0.out.trans HE.out).cell (by have := hd 0 _ rfl; simpa using this)
      have hmm := bd_react HF.out (HOK.out s (List.mem_of_getElem? hs))
      have HBsc := Lib.hid hmm.1
      have HBsh := Lib.hid hmm.2
      have hwb := HE.out.size
      have HRX : react f hb s = f * (if hb then s.h else s.c) := rfl
      have hki : (k : Int) < (n : Int) := by omega
      clear hs hbb hc hd hmm
      generalize react f hb s = x at HT HRX
      generalize s.c = sc at *
      generalize s.h = sh at *
      cases hb
      · simp only [Bool.false_eq_true, if_false] at HRX
        subst HRX
        have hlo : -1000 ≤ f * sc := HBsc.out.1
        have hhi : f * sc ≤ 1000 := HBsc.out.2
        go_wp2_with (at_builtin; refine wpList_append_own _ rfl _ _ 37 rfl W1.heap.size 3 i0 (.int .i64 0) 1 8 Try.underlying37 hi HI0.out hz1 hz2 rfl (by decide) _ _ _ rfl (HO.out.alloc _) ⟨wr.heap.size, 0, none⟩ 1 1 [.int .i64 (f * sc)] rfl rfl (news_of1 (Blk.new wr 3 #[.int .i64 (f * sc)])) (by simp [Value.oneCell']) (by unfold maxLen; omega) (by omega) (by simp; omega) ?_; intro v' w1 hown' hgrow _; have HO1 := Lib.hid hown'; have HE1 := Lib.hid (Ext.grownBy (HE.out.trans (Ext.alloc _ _)) hgrow (fun g hg => own_base HO.out hg)); clear hown' hgrow)
        go_roundw
        case rel => exact ⟨k + 1, by omega, by go_num, by rw [HT.out]; exact HO1.out, HE1.out⟩
        case measure => simp [intOf]; omega
      · simp only [if_true] at HRX
        subst HRX
        have hlo : -1000 ≤ f * sh := HBsh.out.1
        have hhi : f * sh ≤ 1000 := HBsh.out.2
        go_wp2_with (at_builtin; refine wpList_append_own _ rfl _ _ 37 rfl W1.heap.size 3 i0 (.int .i64 0) 1 8 Try.underlying37 hi HI0.out hz1 hz2 rfl (by decide) _ _ _ rfl (HO.out.alloc _) ⟨wr.heap.size, 0, none⟩ 1 1 [.int .i64 (f * sh)] rfl rfl (news_of1 (Blk.new wr 3 #[.int .i64 (f * sh)])) (by simp [Value.oneCell']) (by unfold maxLen; omega) (by omega) (by simp; omega) ?_; intro v' w1 hown' hgrow _; have HO1 := Lib.hid hown'; have HE1 := Lib.hid (Ext.grownBy (HE.out.trans (Ext.alloc _ _)) hgrow (fun g hg => own_base HO.out hg)); clear hown' hgrow)
        go_roundw
        case rel => exact ⟨k + 1, by omega, by go_num, by rw [HT.out]; exact HO1.out, HE1.out⟩
        case measure => simp [intOf]; omega
    · obtain rfl : k = n := by omega
      go_wp2
      go_ret
      exact ⟨_, rfl, ints_of_own (n := k) HLEN.out (by omega) (by have := HO.out; rw [List.take_of_length_le (by rw [HLEN.out]; omega)] at this; exact this), E0.out.trans HE.out⟩

end Go.Proofs.Ytpaoeghdfeekoaa
