/- Classes: copies of the shells of a ladder; the ladders of a class, as lists. -/
import Derived.Test.YtpaoeghdfeekoaaK26
namespace Go.Proofs.Ytpaoeghdfeekoaa
open Go.RowKit Go.Shelf Go.Mem Go.RegInv

set_option maxRecDepth 100000 in
set_option maxHeartbeats 1000000 in
theorem clone_any (A : Option Addr) (k ca : Nat) (xs : List Sh) (hk : xs.length = k) (w : World) (ha : RowsAt 3 Sh.enc w A xs) (h6 : k ≤ 6) (hnil : A = none → k = 0 ∧ ca = 0) :
    Calls Try.prog 134 #[.slice A k ca] w fun e w' => ∃ v, e = .returned v ∧ w'.ownsRow w.heap.size 92 3 v k (xs.flatMap Sh.enc) ∧ Ext w w' := by
  obtain ⟨i0, hi, hz0, hz1, hz2⟩ := info_parts info92
  have HI0 := Lib.hid hz0
  have q22 : ∀ (w : World) (a : Option Addr) (n c n' c' : Nat), (binOp .eql 22 (.slice a n c) (.slice none n' c')).run Try.prog w = .ok (.bool a.isNone) w := fun w a n c n' c' => Lib.run_eql_slice_nil w _ _ a n c n' c' Try.underlying22
  have hown : Hid ((w.alloc (.cells #[] 92)).ownsRow w.heap.size 92 3 (.slice (some ⟨w.heap.size, 0, none⟩) 0 0) 0 []) :=
    Lib.hid ⟨rfl, .inr ⟨w.heap.size, 0, #[], rfl, Nat.le_refl _, Blk.new w 92 #[], Nat.le_refl _, by decide, rfl, rfl⟩⟩
  cases A with
  | none =>
    obtain ⟨rfl, rfl⟩ := hnil rfl
    obtain rfl : xs = [] := List.eq_nil_of_length_eq_zero hk
    clear ha hk hnil hown
    go_enter Try.func134, Try.ntmps134
    go_wp2
    go_ret
    exact ⟨_, rfl, World.ownsRow_nil _ _ _ _, Ext.refl _⟩
  | some ad =>
    have hnews : Hid (∀ j u, (xs.flatMap Sh.enc)[j]? = some u → (w.alloc (.cells #[] 92)).cell? (ad.add j) = some u) := Lib.hid fun j u hu => by
      obtain ⟨s, hs, hj⟩ := sh_idx xs j u hu
      obtain ⟨b, o, e, _, hc⟩ := ha.2 _ s hs
      obtain rfl : ad = ⟨b, o, none⟩ := by simpa using e
      have := (Ext.alloc w (.cells #[] 92)).cell (hc _ _ hj)
      rw [WideShapes.add_plain, show o + j = o + j / 3 * 3 + j % 3 by omega]; exact this
    have HL := Lib.hid (show (xs.flatMap Sh.enc).length = k * 3 by rw [sh_len, hk])
    have HO := Lib.hid (sh_one xs)
    clear ha hk hnil
    go_enter Try.func134, Try.ntmps134
    go_wp2_with (at_builtin; refine wpList_append_own _ rfl _ _ 22 rfl w.heap.size 92 i0 (.agg #[.int .i64 0, .int .i64 0, .int .i64 0]) 3 24 Try.underlying22 hi HI0.out hz1 hz2 rfl (by decide) _ _ _ rfl hown.out ad k ca (xs.flatMap Sh.enc) rfl HL.out hnews.out HO.out (by unfold maxLen; omega) (by omega) (by simp) ?_; intro v' w1 hown' hgrow _; have HE1 := Lib.hid (Ext.grownBy (Ext.alloc w _) hgrow (fun g hg => own_base hown.out hg)); have HO1 := Lib.hid hown'; clear hown' hgrow)
    go_ret
    have h1 := HO1.out
    rw [Nat.zero_add, List.nil_append] at h1
    exact ⟨_, rfl, h1, HE1.out⟩

/-! The ladders of a class. -/
def irange (lo hi : Int) : List Int := (List.range (hi - lo + 1).toNat).map fun i : Nat => lo + (i : Int)
/-- The ladders of one more shell: for each of the old ones, for each conductance. -/
def grow (L : List (List Sh)) (s : Sh) (r : G) : List (List Sh) := L.flatMap fun x => (irange r.re r.im).map fun n => x ++ [{ s with g := n }]
def membersK (ls : List Sh) (rs : List G) : Nat → List (List Sh)
  | 0 => [[]]
  | k + 1 => match ls[k]?, rs[k]? with | some s, some r => grow (membersK ls rs k) s r | _, _ => membersK ls rs k
theorem membersK_succ {ls : List Sh} {rs : List G} {k : Nat} {s : Sh} {r : G} (hs : ls[k]? = some s) (hr : rs[k]? = some r) : membersK ls rs (k + 1) = grow (membersK ls rs k) s r := by
  rw [membersK, hs, hr]
theorem grow_len {L : List (List Sh)} {s : Sh} {r : G} {k : Nat} (h : ∀ x ∈ L, x.length = k) : ∀ x ∈ grow L s r, x.length = k + 1 := by
  intro x hx
  obtain ⟨y, hy, hx⟩ := List.mem_flatMap.1 hx
  obtain ⟨n, _, rfl⟩ := List.mem_map.1 hx
  simp [h y hy]
theorem membersK_len (ls : List Sh) (rs : List G) (n : Nat) (h1 : ls.length = n) (h2 : rs.length = n) : ∀ k, k ≤ n → ∀ x ∈ membersK ls rs k, x.length = k
  | 0, _ => by simp [membersK]
  | k + 1, hk => by
    have hs : ls[k]? = some ls[k] := List.getElem?_eq_getElem (by omega)
    have hr : rs[k]? = some rs[k] := List.getElem?_eq_getElem (by omega)
    rw [membersK_succ hs hr]
    exact grow_len (membersK_len ls rs n h1 h2 k (by omega))
theorem irange_len (lo hi : Int) : (irange lo hi).length = (hi - lo + 1).toNat := by simp [irange]
theorem irange_mem {lo hi n : Int} : n ∈ irange lo hi ↔ lo ≤ n ∧ n ≤ hi := by
  unfold irange
  rw [List.mem_map]
  constructor
  · rintro ⟨i, hi', rfl⟩
    rw [List.mem_range] at hi'
    omega
  · rintro ⟨h1, h2⟩
    exact ⟨(n - lo).toNat, by rw [List.mem_range]; omega, by omega⟩
/-- How the list grows, ladder by ladder and conductance by conductance. -/
def growAt (L : List (List Sh)) (s : Sh) (r : G) (i j : Nat) : List (List Sh) := grow (L.take i) s r ++ ((irange r.re r.im).take j).map fun n => (L.getD i []) ++ [{ s with g := n }]
theorem growAt_zero (L : List (List Sh)) (s : Sh) (r : G) : growAt L s r 0 0 = [] := by simp [growAt, grow]
theorem growAt_next {L : List (List Sh)} {s : Sh} {r : G} {i j : Nat} (hj : (j : Int) ≤ r.im - r.re) : growAt L s r i (j + 1) = growAt L s r i j ++ [(L.getD i []) ++ [{ s with g := r.re + (j : Int) }]] := by
  have h : (irange r.re r.im)[j]? = some (r.re + (j : Int)) := by
    unfold irange
    rw [List.getElem?_map, List.getElem?_range (by omega)]; rfl
  obtain ⟨h1, h2⟩ := List.getElem?_eq_some_iff.1 h
  unfold growAt
  rw [List.take_succ_eq_append_getElem h1, h2, List.map_append, List.append_assoc]; rfl
theorem growAt_row {L : List (List Sh)} {s : Sh} {r : G} {i : Nat} (hi : i < L.length) {j : Nat} (hj : (irange r.re r.im).length ≤ j) : growAt L s r i j = growAt L s r (i + 1) 0 := by
  unfold growAt
  rw [List.take_of_length_le hj, List.take_succ_eq_append_getElem hi]
  simp only [grow, List.flatMap_append, List.flatMap_cons, List.flatMap_nil, List.append_nil, List.take_zero, List.map_nil]
  have e : L.getD i [] = L[i] := by simp [hi]
  rw [e]
theorem growAt_end {L : List (List Sh)} {s : Sh} {r : G} {i : Nat} (hi : L.length ≤ i) : growAt L s r i 0 = grow L s r := by
  unfold growAt
  rw [List.take_of_length_le hi]; simp
theorem grow_size {L : List (List Sh)} {s : Sh} {r : G} : (grow L s r).length = L.length * (r.im - r.re + 1).toNat := by
  induction L with
  | nil => simp [grow]
  | cons x l ih =>
    have h2 : (grow (x :: l) s r).length = (irange r.re r.im).length + (grow l s r).length := by simp [grow, List.flatMap_cons]
    rw [h2, ih, irange_len, List.length_cons, Nat.succ_mul]; omega
theorem growAt_size {L : List (List Sh)} {s : Sh} {r : G} (i j : Nat) : (growAt L s r i j).length ≤ (L.length + 1) * (r.im - r.re + 1).toNat := by
  unfold growAt
  rw [List.length_append, grow_size, List.length_map, List.length_take, List.length_take, irange_len]
  have h1 : min i L.length * (r.im - r.re + 1).toNat ≤ L.length * (r.im - r.re + 1).toNat := Nat.mul_le_mul_right _ (Nat.min_le_right _ _)
  rw [Nat.succ_mul]
  omega
theorem membersK_size (ls : List Sh) (rs : List G) (n : Nat) (h1 : ls.length = n) (h2 : rs.length = n) (h4 : n ≤ 4) (hr : ∀ r ∈ rs, 1 ≤ r.re ∧ r.re ≤ r.im ∧ r.im ≤ 4) : ∀ k, k ≤ n → 1 ≤ (membersK ls rs k).length ∧ (membersK ls rs k).length ≤ 4 ^ k
  | 0, _ => by simp [membersK]
  | k + 1, hk => by
    have hs : ls[k]? = some ls[k] := List.getElem?_eq_getElem (by omega)
    have hr' : rs[k]? = some rs[k] := List.getElem?_eq_getElem (by omega)
    obtain ⟨h5, h6⟩ := membersK_size ls rs n h1 h2 h4 hr k (by omega)
    obtain ⟨h7, h8, h9⟩ := hr _ (List.mem_of_getElem? hr')
    rw [membersK_succ hs hr', grow_size]
    have a1 : 1 ≤ (rs[k].im - rs[k].re + 1).toNat := by omega
    have a2 : (rs[k].im - rs[k].re + 1).toNat ≤ 4 := by omega
    refine ⟨Nat.mul_le_mul h5 a1, ?_⟩
    rw [Nat.pow_succ]
    exact Nat.mul_le_mul h6 a2

end Go.Proofs.Ytpaoeghdfeekoaa
