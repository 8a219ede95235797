/- The search for plans. -/
import Derived.Test.YtjdilmmpdlcimaaGreatC8
import Derived.Test.YtjdilmmpdlcimaaGreatC9
import Derived.Test.YtjdilmmpdlcimaaGreatC10
import Derived.Lib.MinMax
import Derived.Deep.DeepCutAuto

namespace Go.Proofs.YtjdilmmpdlcimaaGreat
open Go.RowKit Go.Shelf Go.Mem Go.RegInv
attribute [local go_sem] RelUpon_value RelUpon_skip RelUpon_enter BigFrame.eval_const BigFrame.eval_global BigFrame.eval_func


/-- A stroke that a press can make at a shaft's joint. -/
def StOK (n : Nat) (am : List Int) (x : Sk) : Prop := 0 ≤ x.j ∧ x.j < n ∧ hasB am x.a = true
/-- The first plan that goes on from some strokes with so many others. -/
def srch (n : Nat) (li : Int) (pf : List Sk → Bool) (os : List Sk) : Nat → List Sk → Nat → Option (List Sk)
  | 0, b, _ => if fullB li b n then none else if pf b then some b else none
  | c + 1, b, f => if fullB li b n then none else (List.range' f (os.length - f)).findSome? fun i => srch n li pf os c (b ++ [os.getD i default]) i
def srchR (n : Nat) (li : Int) (pf : List Sk → Bool) (os : List Sk) (c : Nat) (b : List Sk) (f : Nat) : Option (List Sk) := (List.range' f (os.length - f)).findSome? fun i => srch n li pf os c (b ++ [os.getD i default]) i
theorem srchR_step (n : Nat) (li : Int) (pf : List Sk → Bool) (os : List Sk) (c : Nat) (b : List Sk) {f : Nat} (h : f < os.length) : srchR n li pf os c b f = match srch n li pf os c (b ++ [os.getD f default]) f with | some p => some p | none => srchR n li pf os c b (f + 1) := by
  unfold srchR
  obtain ⟨d, hd⟩ : ∃ d, os.length - f = d + 1 := ⟨os.length - f - 1, by omega⟩
  rw [hd, List.range'_succ, List.findSome?_cons, show os.length - (f + 1) = d by omega]
  cases srch n li pf os c (b ++ [os.getD f default]) f <;> rfl
theorem srchR_end (n : Nat) (li : Int) (pf : List Sk → Bool) (os : List Sk) (c : Nat) (b : List Sk) : srchR n li pf os c b os.length = none := by
  unfold srchR
  rw [Nat.sub_self]
  rfl
def FiP (r : Option (List Sk)) (w : World) (e : Ending) (w' : World) : Prop := ∃ A' m' c', e = .returned (.tuple #[.slice A' m' c', .bool r.isSome]) ∧ (∀ p, r = some p → p.length = m' ∧ RowsAt 3 Sk.enc w' A' p ∧ (A' = none → c' = 0)) ∧ Ext w w'
def pfB (ga sp t L : Int) (js : List Int) (ks : List Rg) (l : List Sk) : Bool := proofE ga sp t L js ks l == 0
theorem getD_append_last {l : List Sk} {x : Sk} {N k : Nat} (hN : l.length = N) {p : Sk → Prop} (hl : ∀ k, k < N → p (l.getD k default)) (hx : p x) (hk : k < N + 1) : p ((l ++ [x]).getD k default) := by
  rcases (show k < N ∨ k = N by omega) with h | h
  · have : (l ++ [x]).getD k default = l.getD k default := by simp [List.getElem?_append_left (show k < l.length by omega)]
    rw [this]; exact hl k h
  · subst h
    have : (l ++ [x]).getD k default = x := by rw [← hN]; simp
    rw [this]; exact hx
set_option maxRecDepth 100000 in
set_option maxHeartbeats 1000000 in
theorem first_full {L : Int} {J K P O : Option Addr} {n cj ck np cp on co : Nat} {js : List Int} {ks : List Rg} {am : List Int} {sp ga li t : Int} {w : World} {A : Option Addr} {N ca : Nat} {l : List Sk} {f c : Int} (hs : ShOK L js ks) (hp : PrOK am sp ga li) (hn : js.length = n) (hN : l.length = N) (hA : RowsAt 3 Sk.enc w A l) (hl : ∀ k, k < N → StOK n am (l.getD k default)) (h4 : N ≤ 4) (hfb : fullB li l n = true) :
    Calls Tryz.prog 29 #[.agg #[.int .i64 L, .slice J n cj, .slice K n ck, .slice P np cp, .int .i64 sp, .int .i64 ga, .int .i64 li, .int .i64 t, .slice O on co], .slice A N ca, .int .i64 f, .int .i64 c] w (FiP none w) := by
  have HFU := Lib.hid (fun W (e : Ext w W) => fullError_any (L := L) (J := J) (K := K) (n := n) (m := n) (cj := cj) (ck := ck) (P := P) (np := np) (cp := cp) (sp := sp) (ga := ga) (li := li) (ca := ca) (by have := hs.four; omega) hN (hA.ext e) (by omega) (fun k hk => ⟨(hl k hk).1, (hl k hk).2.1⟩) (fun k hk => by
    obtain ⟨i, hi, he⟩ := hasB_ok (hl k hk).2.2
    have := hp.am1 i hi
    omega))
  rw [hfb] at HFU
  clear hn hs hp hN hA hl hfb
  obtain ⟨W0, hW0⟩ : ∃ W0, W0 = w.alloc (.cells #[.int .i64 L, .slice J n cj, .slice K n ck, .slice P np cp, .int .i64 sp, .int .i64 ga, .int .i64 li, .int .i64 t, .slice O on co] 77) := ⟨_, rfl⟩
  have K0 := Lib.hid (show Blk W0 (w.heap.size) 77 #[.int .i64 L, .slice J n cj, .slice K n ck, .slice P np cp, .int .i64 sp, .int .i64 ga, .int .i64 li, .int .i64 t, .slice O on co] by rw [hW0]; exact Blk.new _ _ _)
  have E0 := Lib.hid (show Ext w W0 by rw [hW0]; exact Ext.alloc _ _)
  have s0 : W0.cell? ⟨w.heap.size, 0, none⟩ = some (.int .i64 L) := K0.out.cell 0
  have s1 : W0.cell? ⟨w.heap.size, 1, none⟩ = some (.slice J n cj) := K0.out.cell 1
  have s2 : W0.cell? ⟨w.heap.size, 2, none⟩ = some (.slice K n ck) := K0.out.cell 2
  have s3 : W0.cell? ⟨w.heap.size, 3, none⟩ = some (.slice P np cp) := K0.out.cell 3
  have s4 : W0.cell? ⟨w.heap.size, 4, none⟩ = some (.int .i64 sp) := K0.out.cell 4
  have s5 : W0.cell? ⟨w.heap.size, 5, none⟩ = some (.int .i64 ga) := K0.out.cell 5
  have s6 : W0.cell? ⟨w.heap.size, 6, none⟩ = some (.int .i64 li) := K0.out.cell 6
  have s7 : W0.cell? ⟨w.heap.size, 7, none⟩ = some (.int .i64 t) := K0.out.cell 7
  have s8 : W0.cell? ⟨w.heap.size, 8, none⟩ = some (.slice O on co) := K0.out.cell 8
  go_enter Tryz.func29, Tryz.ntmps29
  go_upto_region 1 with (fail)
  rw [← hW0]
  clear hW0
  have e16 : errIf true 16 = 16 := rfl
  rw [e16] at HFU
  go_wp2_with (go_at_call 50; refine (HFU.out _ E0.out).mono ?_; rintro e W1 ⟨rfl, hx⟩; have X := Lib.hid (E0.out.trans hx); clear hx)
  go_ret2
  exact ⟨none, 0, 0, rfl, (fun p h => by cases h), X.out⟩
set_option maxRecDepth 100000 in
set_option maxHeartbeats 1000000 in
theorem first_zero {L : Int} {J K P O : Option Addr} {n cj ck np cp on co : Nat} {js : List Int} {ks : List Rg} {am : List Int} {sp ga li t : Int} {w : World} {f : Int} (hn : js.length = n) (hm : ks.length = n) (hjn : J = none → cj = 0) (hs : ShOK L js ks) (hp : PrOK am sp ga li) (ht : 0 ≤ t ∧ t ≤ 1000000000000) (hJ : RowsAt 1 I1 w J js) (hK : RowsAt 2 Rg.enc w K ks) {A : Option Addr} {N ca : Nat} {l : List Sk} (hN : l.length = N) (hA : RowsAt 3 Sk.enc w A l) (hnil : A = none → ca = 0) (hl : ∀ k, k < N → StOK n am (l.getD k default)) (h4 : N ≤ 4) (hfb : fullB li l n = false) :
    Calls Tryz.prog 29 #[.agg #[.int .i64 L, .slice J n cj, .slice K n ck, .slice P np cp, .int .i64 sp, .int .i64 ga, .int .i64 li, .int .i64 t, .slice O on co], .slice A N ca, .int .i64 f, .int .i64 0] w (FiP (if pfB ga sp t L js ks l then some l else none) w) := by
  have HFU := Lib.hid (fun W (e : Ext w W) => fullError_any (L := L) (J := J) (K := K) (n := n) (m := n) (cj := cj) (ck := ck) (P := P) (np := np) (cp := cp) (sp := sp) (ga := ga) (li := li) (ca := ca) (by have := hs.four; omega) hN (hA.ext e) (by omega) (fun k hk => ⟨(hl k hk).1, (hl k hk).2.1⟩) (fun k hk => by
    obtain ⟨i, hi, he⟩ := hasB_ok (hl k hk).2.2
    have := hp.am1 i hi
    omega))
  rw [hfb] at HFU
  have HPF := Lib.hid (fun W (e : Ext w W) => proofError_any (P := P) (np := np) (cp := cp) (ck := ck) (ca := ca) (t := t) hn (hJ.ext e) hm (hK.ext e) hjn hs hp hN (hA.ext e) ⟨by omega, fun k hk => hl k (by omega)⟩ ht)
  have HR := Lib.hid (fun W (e : Ext w W) => hA.ext e)
  have HN := Lib.hid hN
  have HL := Lib.hid hnil
  unfold pfB
  generalize proofE ga sp t L js ks l = pz at *
  have e16 : errIf false 16 = 0 := rfl
  rw [e16] at HFU
  clear hn hm hjn hs hp ht hN hA hnil hl hfb hJ hK e16
  generalize hRR : (if (pz == 0) = true then some l else none) = R
  have HRR := Lib.hid hRR
  clear hRR
  obtain ⟨W0, hW0⟩ : ∃ W0, W0 = w.alloc (.cells #[.int .i64 L, .slice J n cj, .slice K n ck, .slice P np cp, .int .i64 sp, .int .i64 ga, .int .i64 li, .int .i64 t, .slice O on co] 77) := ⟨_, rfl⟩
  have K0 := Lib.hid (show Blk W0 (w.heap.size) 77 #[.int .i64 L, .slice J n cj, .slice K n ck, .slice P np cp, .int .i64 sp, .int .i64 ga, .int .i64 li, .int .i64 t, .slice O on co] by rw [hW0]; exact Blk.new _ _ _)
  have E0 := Lib.hid (show Ext w W0 by rw [hW0]; exact Ext.alloc _ _)
  have s0 : W0.cell? ⟨w.heap.size, 0, none⟩ = some (.int .i64 L) := K0.out.cell 0
  have s1 : W0.cell? ⟨w.heap.size, 1, none⟩ = some (.slice J n cj) := K0.out.cell 1
  have s2 : W0.cell? ⟨w.heap.size, 2, none⟩ = some (.slice K n ck) := K0.out.cell 2
  have s3 : W0.cell? ⟨w.heap.size, 3, none⟩ = some (.slice P np cp) := K0.out.cell 3
  have s4 : W0.cell? ⟨w.heap.size, 4, none⟩ = some (.int .i64 sp) := K0.out.cell 4
  have s5 : W0.cell? ⟨w.heap.size, 5, none⟩ = some (.int .i64 ga) := K0.out.cell 5
  have s6 : W0.cell? ⟨w.heap.size, 6, none⟩ = some (.int .i64 li) := K0.out.cell 6
  have s7 : W0.cell? ⟨w.heap.size, 7, none⟩ = some (.int .i64 t) := K0.out.cell 7
  have s8 : W0.cell? ⟨w.heap.size, 8, none⟩ = some (.slice O on co) := K0.out.cell 8
  go_enter Tryz.func29, Tryz.ntmps29
  go_upto_region 1 with (fail)
  rw [← hW0]
  clear hW0
  go_wp2_with (go_at_call 50; refine (HFU.out _ E0.out).mono ?_; rintro e W1 ⟨rfl, hx⟩; have X := Lib.hid (E0.out.trans hx); replace K0 := Lib.hid (K0.out.ext hx); clear hx s0 s1 s2 s3 s4 s5 s6 s7 s8; refine Hid.out ?_)
  refine Lib.hid ?_
  have s0 : W1.cell? ⟨w.heap.size, 0, none⟩ = some (.int .i64 L) := K0.out.cell 0
  have s1 : W1.cell? ⟨w.heap.size, 1, none⟩ = some (.slice J n cj) := K0.out.cell 1
  have s2 : W1.cell? ⟨w.heap.size, 2, none⟩ = some (.slice K n ck) := K0.out.cell 2
  have s3 : W1.cell? ⟨w.heap.size, 3, none⟩ = some (.slice P np cp) := K0.out.cell 3
  have s4 : W1.cell? ⟨w.heap.size, 4, none⟩ = some (.int .i64 sp) := K0.out.cell 4
  have s5 : W1.cell? ⟨w.heap.size, 5, none⟩ = some (.int .i64 ga) := K0.out.cell 5
  have s6 : W1.cell? ⟨w.heap.size, 6, none⟩ = some (.int .i64 li) := K0.out.cell 6
  have s7 : W1.cell? ⟨w.heap.size, 7, none⟩ = some (.int .i64 t) := K0.out.cell 7
  have s8 : W1.cell? ⟨w.heap.size, 8, none⟩ = some (.slice O on co) := K0.out.cell 8
  go_wp2_with (go_at_call 51; refine (HPF.out _ X.out).mono ?_; rintro e W2 ⟨rfl, hx⟩; replace X := Lib.hid (X.out.trans hx); clear hx)
  go_ret2
  have hb : R.isSome = (pz == 0) := by rw [← HRR.out]; cases (pz == 0) <;> rfl
  refine ⟨A, N, ca, congrArg (fun b => Ending.returned (.tuple #[.slice A N ca, .bool b])) hb.symm, ?_, X.out⟩
  intro p hp
  have h2 := HRR.out
  rw [hp] at h2
  split at h2
  · obtain rfl : l = p := by simpa using h2
    exact ⟨HN.out, HR.out _ X.out, HL.out⟩
  · cases h2

theorem row_one {α : Type} {k : Nat} {enc : α → List Value} {W : World} {b o : Nat} {xs : List α} (h : RowsAt k enc W (some ⟨b, o, none⟩) xs) {i : Nat} {x : α} (hx : xs[i]? = some x) : RowsAt k enc W (some ⟨b, o + i * k, none⟩) [x] := by
  refine ⟨by simp, fun j y hy => ?_⟩
  obtain ⟨b', o', e, hb, hc⟩ := h.2 i x hx
  obtain ⟨rfl, rfl⟩ : b = b' ∧ o = o' := by simpa using e
  cases j with
  | zero =>
    obtain rfl : x = y := by simpa using hy
    exact ⟨b, o + i * k, rfl, hb, fun j u hu => by have := hc j u hu; simpa using this⟩
  | succ j => simp at hy
set_option maxRecDepth 100000 in
set_option maxHeartbeats 1000000 in
theorem first_succ {L : Int} {J K P O : Option Addr} {n cj ck np cp on co : Nat} {js : List Int} {ks : List Rg} {am : List Int} {sp ga li t : Int} {os : List Sk} {w : World} {c f : Nat} {pf : List Sk → Bool} (hs : ShOK L js ks) (hp : PrOK am sp ga li) (hn : js.length = n) (hon : os.length = on) (hoc : on ≤ co) (hob : on ≤ 1000) (hO : RowsAt 3 Sk.enc w O os) {A : Option Addr} {N ca : Nat} {l : List Sk} (hN : l.length = N) (hA : RowsAt 3 Sk.enc w A l) (hnil : A = none → ca = 0) (hl : ∀ k, k < N → StOK n am (l.getD k default)) (h4 : N + (c + 1) ≤ 4) (hf : f ≤ on) (hfb : fullB li l n = false)
    (IH : ∀ i x W A' c', i < on → os.getD i default = x → Ext w W → RowsAt 3 Sk.enc W A' (l ++ [x]) → (A' = none → c' = 0) → Calls Tryz.prog 29 #[.agg #[.int .i64 L, .slice J n cj, .slice K n ck, .slice P np cp, .int .i64 sp, .int .i64 ga, .int .i64 li, .int .i64 t, .slice O on co], .slice A' (N + 1) c', .int .i64 (i : Int), .int .i64 (c : Int)] W (FiP (srch n li pf os c (l ++ [x]) i) W)) :
    Calls Tryz.prog 29 #[.agg #[.int .i64 L, .slice J n cj, .slice K n ck, .slice P np cp, .int .i64 sp, .int .i64 ga, .int .i64 li, .int .i64 t, .slice O on co], .slice A N ca, .int .i64 (f : Int), .int .i64 ((c : Int) + 1)] w (FiP (srchR n li pf os c l f) w) := by
  have HFU := Lib.hid (fun W (e : Ext w W) => fullError_any (L := L) (J := J) (K := K) (n := n) (m := n) (cj := cj) (ck := ck) (P := P) (np := np) (cp := cp) (sp := sp) (ga := ga) (li := li) (ca := ca) (by have := hs.four; omega) hN (hA.ext e) (by omega) (fun k hk => ⟨(hl k hk).1, (hl k hk).2.1⟩) (fun k hk => by
    obtain ⟨i, hi, he⟩ := hasB_ok (hl k hk).2.2
    have := hp.am1 i hi
    omega))
  rw [hfb] at HFU
  have e16 : errIf false 16 = 0 := rfl
  rw [e16] at HFU
  have HIH := Lib.hid IH
  have HO := Lib.hid hO
  have HON := Lib.hid hon
  have HA := Lib.hid hA
  have HN := Lib.hid hN
  have HL := Lib.hid hnil
  have HST := Lib.hid (fun i (h : i < on) => srchR_step n li pf os c l (f := i) (by omega))
  have HEN := Lib.hid (show srchR n li pf os c l on = none by rw [← hon]; exact srchR_end n li pf os c l)
  have hcz : ((c : Int) + 1 == 0) = false := by simp; omega
  clear hn hs hp hon hO hN hA hnil hl hfb IH e16
  obtain ⟨W0, hW0⟩ : ∃ W0, W0 = w.alloc (.cells #[.int .i64 L, .slice J n cj, .slice K n ck, .slice P np cp, .int .i64 sp, .int .i64 ga, .int .i64 li, .int .i64 t, .slice O on co] 77) := ⟨_, rfl⟩
  have K0 := Lib.hid (show Blk W0 (w.heap.size) 77 #[.int .i64 L, .slice J n cj, .slice K n ck, .slice P np cp, .int .i64 sp, .int .i64 ga, .int .i64 li, .int .i64 t, .slice O on co] by rw [hW0]; exact Blk.new _ _ _)
  have E0 := Lib.hid (show Ext w W0 by rw [hW0]; exact Ext.alloc _ _)
  have s0 : W0.cell? ⟨w.heap.size, 0, none⟩ = some (.int .i64 L) := K0.out.cell 0
  have s1 : W0.cell? ⟨w.heap.size, 1, none⟩ = some (.slice J n cj) := K0.out.cell 1
  have s2 : W0.cell? ⟨w.heap.size, 2, none⟩ = some (.slice K n ck) := K0.out.cell 2
  have s3 : W0.cell? ⟨w.heap.size, 3, none⟩ = some (.slice P np cp) := K0.out.cell 3
  have s4 : W0.cell? ⟨w.heap.size, 4, none⟩ = some (.int .i64 sp) := K0.out.cell 4
  have s5 : W0.cell? ⟨w.heap.size, 5, none⟩ = some (.int .i64 ga) := K0.out.cell 5
  have s6 : W0.cell? ⟨w.heap.size, 6, none⟩ = some (.int .i64 li) := K0.out.cell 6
  have s7 : W0.cell? ⟨w.heap.size, 7, none⟩ = some (.int .i64 t) := K0.out.cell 7
  have s8 : W0.cell? ⟨w.heap.size, 8, none⟩ = some (.slice O on co) := K0.out.cell 8
  go_enter Tryz.func29, Tryz.ntmps29
  go_upto_region 1 with (fail)
  rw [← hW0]
  clear hW0
  go_wp2_with (go_at_call 50; refine (HFU.out _ E0.out).mono ?_; rintro e W1 ⟨rfl, hx⟩; have X := Lib.hid (E0.out.trans hx); replace K0 := Lib.hid (K0.out.ext hx); clear hx s0 s1 s2 s3 s4 s5 s6 s7 s8; refine Hid.out ?_)
  refine Lib.hid ?_
  go_wp2
  go_loopw [10] (fun i wr => ∃ k : Nat, k ≤ on ∧ i = .int .i64 (k : Int) ∧ srchR n li pf os c l f = srchR n li pf os c l k ∧ Ext w wr ∧ Blk wr w.heap.size 77 #[.int .i64 L, .slice J n cj, .slice K n ck, .slice P np cp, .int .i64 sp, .int .i64 ga, .int .i64 li, .int .i64 t, .slice O on co]) (fun i _ => on - (intOf i).toNat)
  case atStart => exact ⟨f, hf, rfl, rfl, X.out, K0.out⟩
  case round =>
    clear E0 X K0
    obtain ⟨k, hk, rfl, hr, hx, k0⟩ := hrel
    have X := Lib.hid hx
    have K0 := Lib.hid k0
    have R := Lib.hid hr
    clear hx k0 hr
    by_cases hlt : k < on
    · obtain ⟨x, hx⟩ : ∃ x, os[k]? = some x := ⟨_, List.getElem?_eq_getElem (by rw [HON.out]; exact hlt)⟩
      obtain ⟨ob, oo, rfl, -, -⟩ := row_at HO.out hx
      have hd : os.getD k default = x := by simp [hx]
      have RX := Lib.hid (fun W (e : Ext w W) => row_one (HO.out.ext e) hx)
      have HC := Lib.hid (fun W A' c' (e : Ext w W) h1 h2 => HIH.out k x W A' c' hlt hd e h1 h2)
      have HS := Lib.hid (R.out.trans (HST.out k hlt))
      rw [hd] at HS
      have hki : (k : Int) < (on : Int) := by omega
      have hkc : k < co := by omega
      clear hx hd R
      have s0 : wr.cell? ⟨w.heap.size, 0, none⟩ = some (.int .i64 L) := K0.out.cell 0
      have s1 : wr.cell? ⟨w.heap.size, 1, none⟩ = some (.slice J n cj) := K0.out.cell 1
      have s2 : wr.cell? ⟨w.heap.size, 2, none⟩ = some (.slice K n ck) := K0.out.cell 2
      have s3 : wr.cell? ⟨w.heap.size, 3, none⟩ = some (.slice P np cp) := K0.out.cell 3
      have s4 : wr.cell? ⟨w.heap.size, 4, none⟩ = some (.int .i64 sp) := K0.out.cell 4
      have s5 : wr.cell? ⟨w.heap.size, 5, none⟩ = some (.int .i64 ga) := K0.out.cell 5
      have s6 : wr.cell? ⟨w.heap.size, 6, none⟩ = some (.int .i64 li) := K0.out.cell 6
      have s7 : wr.cell? ⟨w.heap.size, 7, none⟩ = some (.int .i64 t) := K0.out.cell 7
      have s8 : wr.cell? ⟨w.heap.size, 8, none⟩ = some (.slice (some ⟨ob, oo, none⟩) on co) := K0.out.cell 8
      obtain ⟨q9, hq9⟩ : ∃ q, q = wr.heap.size := ⟨_, rfl⟩
      obtain ⟨W3, hW3⟩ : ∃ W, W = wr.alloc (.cells #[.slice A N ca, .slice (some ⟨ob, oo + k * 3, none⟩) 1 (co - k)] 32) := ⟨_, rfl⟩
      have K9 := Lib.hid (show Blk W3 q9 32 #[.slice A N ca, .slice (some ⟨ob, oo + k * 3, none⟩) 1 (co - k)] by rw [hW3, hq9]; exact Blk.new _ _ _)
      have E3 := Lib.hid (show Ext wr W3 by rw [hW3]; exact Ext.alloc _ _)
      go_upto_region 9 with (fail)
      rw [← hW3, ← hq9]
      have X3 := Lib.hid (X.out.trans E3.out)
      clear hW3 hq9 s0 s1 s2 s3 s4 s5 s6 s7 s8
      replace K0 := Lib.hid (K0.out.ext E3.out)
      refine (concat2_any HN.out (by omega) (HA.out.ext X3.out) (RX.out _ X3.out) HL.out (K9.out.cell 0) (K9.out.cell 1)).mono ?_
      rintro e W4 ⟨A', c', rfl, hr, hnil, hx⟩
      have X4 := Lib.hid (X3.out.trans hx)
      replace K0 := Lib.hid (K0.out.ext hx)
      have C1 := Lib.hid (HC.out W4 A' c' X4.out hr hnil)
      clear K9 E3 X X3 RX HC hr hnil hx
      generalize srch n li pf os c (l ++ [x]) k = r at HS C1
      refine Hid.out ?_
      refine Lib.hid ?_
      have s0 : W4.cell? ⟨w.heap.size, 0, none⟩ = some (.int .i64 L) := K0.out.cell 0
      have s1 : W4.cell? ⟨w.heap.size, 1, none⟩ = some (.slice J n cj) := K0.out.cell 1
      have s2 : W4.cell? ⟨w.heap.size, 2, none⟩ = some (.slice K n ck) := K0.out.cell 2
      have s3 : W4.cell? ⟨w.heap.size, 3, none⟩ = some (.slice P np cp) := K0.out.cell 3
      have s4 : W4.cell? ⟨w.heap.size, 4, none⟩ = some (.int .i64 sp) := K0.out.cell 4
      have s5 : W4.cell? ⟨w.heap.size, 5, none⟩ = some (.int .i64 ga) := K0.out.cell 5
      have s6 : W4.cell? ⟨w.heap.size, 6, none⟩ = some (.int .i64 li) := K0.out.cell 6
      have s7 : W4.cell? ⟨w.heap.size, 7, none⟩ = some (.int .i64 t) := K0.out.cell 7
      have s8 : W4.cell? ⟨w.heap.size, 8, none⟩ = some (.slice (some ⟨ob, oo, none⟩) on co) := K0.out.cell 8
      cases r with
      | none =>
        have HS2 := Lib.hid (show srchR n li pf os c l f = srchR n li pf os c l (k + 1) from HS.out)
        clear HS
        go_wp2_with (go_at_call 29; refine (C1.out).mono ?_; rintro e W5 ⟨A2, m2, c2, rfl, -, hx⟩; have X5 := Lib.hid (X4.out.trans hx); replace K0 := Lib.hid (K0.out.ext hx); clear hx)
        go_roundw
        case rel => exact ⟨k + 1, by omega, rfl, HS2.out, X5.out, K0.out⟩
        case measure => simp [intOf]; omega
      | some p =>
        have HS2 := Lib.hid (show srchR n li pf os c l f = some p from HS.out)
        clear HS
        go_wp2_with (go_at_call 29; refine (C1.out).mono ?_; rintro e W5 ⟨A2, m2, c2, rfl, hp, hx⟩; have X5 := Lib.hid (X4.out.trans hx); have HP := Lib.hid (hp p rfl); clear hx hp)
        go_ret2
        rw [HS2.out]
        exact ⟨A2, m2, c2, rfl, (fun p' h => by cases h; exact HP.out), X5.out⟩
    · obtain rfl : on = k := by omega
      have hkn : ¬ (on : Int) < (on : Int) := by omega
      have HR := Lib.hid (R.out.trans HEN.out)
      have s0 : wr.cell? ⟨w.heap.size, 0, none⟩ = some (.int .i64 L) := K0.out.cell 0
      have s1 : wr.cell? ⟨w.heap.size, 1, none⟩ = some (.slice J n cj) := K0.out.cell 1
      have s2 : wr.cell? ⟨w.heap.size, 2, none⟩ = some (.slice K n ck) := K0.out.cell 2
      have s3 : wr.cell? ⟨w.heap.size, 3, none⟩ = some (.slice P np cp) := K0.out.cell 3
      have s4 : wr.cell? ⟨w.heap.size, 4, none⟩ = some (.int .i64 sp) := K0.out.cell 4
      have s5 : wr.cell? ⟨w.heap.size, 5, none⟩ = some (.int .i64 ga) := K0.out.cell 5
      have s6 : wr.cell? ⟨w.heap.size, 6, none⟩ = some (.int .i64 li) := K0.out.cell 6
      have s7 : wr.cell? ⟨w.heap.size, 7, none⟩ = some (.int .i64 t) := K0.out.cell 7
      have s8 : wr.cell? ⟨w.heap.size, 8, none⟩ = some (.slice O on co) := K0.out.cell 8
      go_wp2
      go_ret2
      rw [HR.out]
      exact ⟨none, 0, 0, rfl, (fun p h => by cases h), X.out⟩
set_option maxRecDepth 100000 in
set_option maxHeartbeats 1000000 in
theorem first_any {L : Int} {J K P O : Option Addr} {n cj ck np cp on co : Nat} {js : List Int} {ks : List Rg} {am : List Int} {sp ga li t : Int} {os : List Sk} (hn : js.length = n) (hm : ks.length = n) (hjn : J = none → cj = 0) (hs : ShOK L js ks) (hp : PrOK am sp ga li) (ht : 0 ≤ t ∧ t ≤ 1000000000000) (hon : os.length = on) (hos : ∀ i, i < on → StOK n am (os.getD i default)) (hoc : on ≤ co) (hob : on ≤ 1000) (c : Nat) : ∀ {w : World} {A : Option Addr} {N ca f : Nat} {l : List Sk}, RowsAt 1 I1 w J js → RowsAt 2 Rg.enc w K ks → RowsAt 3 Sk.enc w O os → l.length = N → RowsAt 3 Sk.enc w A l → (A = none → ca = 0) → (∀ k, k < N → StOK n am (l.getD k default)) → N + c ≤ 4 → f ≤ on →
    Calls Tryz.prog 29 #[.agg #[.int .i64 L, .slice J n cj, .slice K n ck, .slice P np cp, .int .i64 sp, .int .i64 ga, .int .i64 li, .int .i64 t, .slice O on co], .slice A N ca, .int .i64 (f : Int), .int .i64 (c : Int)] w (FiP (srch n li (pfB ga sp t L js ks) os c l f) w) := by
  induction c with
  | zero =>
    intro w A N ca f l hJ hK hO hN hA hnil hl h4 hf
    by_cases hfb : fullB li l n = true
    · have : srch n li (pfB ga sp t L js ks) os 0 l f = none := by unfold srch; rw [if_pos hfb]
      rw [this]
      exact first_full hs hp hn hN hA hl (by omega) hfb
    · have : srch n li (pfB ga sp t L js ks) os 0 l f = if pfB ga sp t L js ks l then some l else none := by unfold srch; rw [if_neg hfb]
      rw [this]
      exact first_zero hn hm hjn hs hp ht hJ hK hN hA hnil hl (by omega) (by simpa using hfb)
  | succ c ih =>
    intro w A N ca f l hJ hK hO hN hA hnil hl h4 hf
    rw [show ((c + 1 : Nat) : Int) = (c : Int) + 1 by omega]
    by_cases hfb : fullB li l n = true
    · have : srch n li (pfB ga sp t L js ks) os (c + 1) l f = none := by unfold srch; rw [if_pos hfb]
      rw [this]
      exact first_full hs hp hn hN hA hl (by omega) hfb
    · have : srch n li (pfB ga sp t L js ks) os (c + 1) l f = srchR n li (pfB ga sp t L js ks) os c l f := by rw [srch, if_neg hfb]; rfl
      rw [this]
      refine first_succ hs hp hn hon hoc hob hO hN hA hnil hl (by omega) hf (by simpa using hfb) ?_
      intro i x W A' c' hi hx e hr hc
      refine ih (hJ.ext e) (hK.ext e) (hO.ext e) (by simp [hN]) hr hc ?_ (by omega) (by omega)
      intro k hk
      exact getD_append_last (p := StOK n am) hN hl (hx ▸ hos i hi) hk

end Go.Proofs.YtjdilmmpdlcimaaGreat
