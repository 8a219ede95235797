/- CheckVoltages. By lawgen.py. -/
import Derived.Test.YtpaoeghdfeekoaaK2
namespace Go.Proofs.Ytpaoeghdfeekoaa
open Go.RowKit Go.Shelf Go.Mem Go.RegInv
attribute [local go_sem] RelUpon_value RelUpon_skip RelUpon_enter BigFrame.eval_const BigFrame.eval_global BigFrame.eval_func

def zat (zs : List G) (k : Nat) : G := zs.getD k ⟨0, 0⟩
/-- The voltage that the equation asks at k. -/
def wantG (f : Int) (hot : List Bool) (ls : List Sh) (zs : List G) (k : Nat) : G := befG (zat zs (k + 1)) (react f (hot.getD k false) (ls.getD k ⟨0, 0, 0⟩)) (curAt ls zs.tail k)
def chkFrom (f : Int) (hot : List Bool) (ls : List Sh) (zs : List G) : Nat → Nat → Int × Int
  | 0, _ => (0, 0)
  | j + 1, k => if zat zs k ≠ wantG f hot ls zs k then ((k : Int), 19) else chkFrom f hot ls zs j (k + 1)
theorem chk_snd (f : Int) (hot : List Bool) (ls : List Sh) (zs : List G) : ∀ j k, (chkFrom f hot ls zs j k).2 = 0 ↔ ∀ i, k ≤ i → i < k + j → zat zs i = wantG f hot ls zs i
  | 0, k => by simp [chkFrom]; intro i h1 h2; omega
  | j + 1, k => by
    rw [chkFrom]
    by_cases h : zat zs k = wantG f hot ls zs k
    · rw [if_neg (by simp [h]), chk_snd f hot ls zs j (k + 1)]
      constructor
      · intro h' i h1 h2
        rcases Nat.eq_or_lt_of_le h1 with rfl | h3
        · exact h
        · exact h' i h3 (by omega)
      · intro h' i h1 h2
        exact h' i (by omega) (by omega)
    · rw [if_pos h]
      constructor
      · intro h'; simp at h'
      · intro h'; exact absurd (h' k (Nat.le_refl _) (by omega)) h
theorem chk_zero (f : Int) (hot : List Bool) (ls : List Sh) (zs : List G) : ∀ j k, (chkFrom f hot ls zs j k).2 = 0 → chkFrom f hot ls zs j k = (0, 0)
  | 0, k, _ => rfl
  | j + 1, k, h => by
    rw [chkFrom] at h ⊢
    by_cases h' : zat zs k = wantG f hot ls zs k
    · rw [if_neg (by simp [h'])] at h ⊢
      exact chk_zero f hot ls zs j (k + 1) h
    · rw [if_pos h'] at h; simp at h

theorem sol_unique (f : Int) (hot : List Bool) (ls : List Sh) (zs : List G) (hl : zs.length = ls.length + 1) (hend : zat zs ls.length = ⟨1, 0⟩) (h : ∀ i, i < ls.length → zat zs i = wantG f hot ls zs i) :
    ∀ j k, j + k = ls.length → zat zs k = (st f hot ls k).last ∧ curAt ls zs.tail k = (st f hot ls k).cur
  | 0, k, hk => by
    obtain rfl : k = ls.length := by omega
    rw [st_end]
    exact ⟨hend, curAt_end ls _ (by simp [hl]) _ (Nat.le_refl _)⟩
  | j + 1, k, hk => by
    obtain ⟨h1, h2⟩ := sol_unique f hot ls zs hl hend h j (k + 1) (by omega)
    have hs : ls[k]? = some (ls[k]'(by omega)) := List.getElem?_eq_getElem (by omega)
    have hz : zs.tail[k]? = some (st f hot ls (k + 1)).last := by
      rw [List.getElem?_tail, ← h1]
      simp [zat, List.getElem?_eq_getElem (show k + 1 < zs.length by omega)]
    have hc : curAt ls zs.tail k = (st f hot ls k).cur := by
      rw [curAt_step ls _ k _ _ hs hz, h2, st_step hs]; rfl
    refine ⟨?_, hc⟩
    rw [h k (by omega), wantG, hc, h1, st_step hs]
    simp [vstep, List.getD, hs]

theorem chk_volts (f : Int) (hot : List Bool) (ls : List Sh) (zs : List G) (hl : zs.length = ls.length + 1) (hend : zat zs ls.length = ⟨1, 0⟩) : (chkFrom f hot ls zs ls.length 0).2 = 0 ↔ zs = volts f hot ls := by
  rw [chk_snd]
  constructor
  · intro h
    have hu := sol_unique f hot ls zs hl hend (fun i hi => h i (Nat.zero_le _) (by omega))
    refine List.ext_getElem? fun i => ?_
    by_cases hi : i ≤ ls.length
    · rw [volts_at f hot ls i hi, ← (hu (ls.length - i) i (by omega)).1]
      simp [zat, List.getElem?_eq_getElem (show i < zs.length by omega)]
    · rw [List.getElem?_eq_none (by omega), List.getElem?_eq_none (by rw [volts_len]; omega)]
  · rintro rfl i _ hi
    have hi' : i < ls.length := by omega
    have hs : ls[i]? = some (ls[i]'hi') := List.getElem?_eq_getElem hi'
    have e1 : zat (volts f hot ls) i = (st f hot ls i).last := volt_at f hot ls i (by omega)
    have e2 : zat (volts f hot ls) (i + 1) = (st f hot ls (i + 1)).last := volt_at f hot ls (i + 1) (by omega)
    rw [wantG, e1, e2, cur_at f hot ls (ls.length - i) i (by omega), st_step hs]
    simp [vstep, List.getD, hs]

theorem volE_zero (n : Nat) (zs : List G) : volE n zs = 0 ↔ zs.length = n + 1 ∧ (∀ z ∈ zs, outG z = false) ∧ zat zs n = ⟨1, 0⟩ := by
  unfold volE
  by_cases h1 : zs.length = n + 1
  · rw [if_neg (by simp [h1])]
    by_cases h2 : zs.any outG = true
    · rw [if_pos h2]
      obtain ⟨z, hz, hz'⟩ := List.any_eq_true.1 h2
      constructor
      · intro h; simp at h
      · rintro ⟨_, h, _⟩; rw [h z hz] at hz'; cases hz'
    · rw [if_neg h2]
      have h2' : ∀ z ∈ zs, outG z = false := fun z hz => by
        have := h2
        rw [Bool.not_eq_true, List.any_eq_false] at this
        simpa using this z hz
      by_cases h3 : zs.getD n ⟨0, 0⟩ = ⟨1, 0⟩
      · rw [if_neg (fun hh => hh h3)]
        exact ⟨fun _ => ⟨h1, h2', h3⟩, fun _ => rfl⟩
      · rw [if_pos h3]
        constructor
        · intro h; simp at h
        · rintro ⟨_, _, h⟩; exact absurd h h3
  · rw [if_pos h1]
    constructor
    · intro h; simp at h
    · rintro ⟨h, _⟩; exact absurd h h1

/-- The answer of CheckVoltages for a valid ladder and drive. -/
def chkV (f : Int) (hot : List Bool) (ls : List Sh) (zs : List G) : Int × Int := if volE ls.length zs ≠ 0 then (0, volE ls.length zs) else chkFrom f hot ls zs ls.length 0
def chkA (t f : Int) (hot : List Bool) (ls : List Sh) (zs : List G) : Int × Int := if driveE t ls f hot.length ≠ 0 then (0, driveE t ls f hot.length) else chkV f hot ls zs

theorem outG_bd {z : G} (h : outG z = false) : Bd 1000000000 z := by
  simp only [outG, outB, Bool.or_eq_false_iff, decide_eq_false_iff_not] at h
  exact ⟨⟨by omega, by omega⟩, by omega, by omega⟩

set_option maxRecDepth 100000 in
set_option maxHeartbeats 4000000 in
theorem checkVoltages_any (t : Int) (A : Option Addr) (n cap : Nat) (l : List Sh) (hn : l.length = n) (f : Int) (B : Option Addr) (m cap' : Nat) (hot : List Bool) (hm : hot.length = m)
    (C : Option Addr) (M cz : Nat) (zs : List G) (hM : zs.length = M) (hC : 1 ≤ M → ∃ g, C = some ⟨g, 0, none⟩ ∧ M ≤ cz) (w : World)
    (hS : RowsAt 3 Sh.enc w A l) (hH : RowsAt 1 boolEnc w B hot) (hZ : RowsAt 2 G.enc w C zs) :
    Calls Try.prog 34 #[.agg #[.int .i64 t, .slice A n cap], .agg #[.int .i64 f, .slice B m cap'], .slice C M cz] w fun e w' =>
      e = .returned (.tuple #[.int .i64 (chkA t f hot l zs).1, .int .i64 (chkA t f hot l zs).2]) ∧ Ext w w' := by
  have HC := Lib.hid (fun W h => checkDrive_any t A n cap l hn f B m cap' W h)
  have e0 : Ext w ((w.alloc (.cells #[.int .i64 t, .slice A n cap] 24)).alloc (.cells #[.int .i64 f, .slice B m cap'] 27)) := (Ext.alloc _ _).trans (Ext.alloc _ _)
  have FA := Lib.hid (show ∀ W : World, Ext ((w.alloc (.cells #[.int .i64 t, .slice A n cap] 24)).alloc (.cells #[.int .i64 f, .slice B m cap'] 27)) W →
      W.cell? ⟨w.heap.size, 0, none⟩ = some (.int .i64 t) ∧ W.cell? ⟨w.heap.size, 1, none⟩ = some (.slice A n cap) ∧ W.cell? ⟨w.heap.size + 1, 0, none⟩ = some (.int .i64 f) ∧ W.cell? ⟨w.heap.size + 1, 1, none⟩ = some (.slice B m cap') from
    fun W hx => ⟨hx.cell (by go_simp), hx.cell (by go_simp), hx.cell (by go_simp), hx.cell (by go_simp)⟩)
  have HS := Lib.hid hS
  have HH := Lib.hid hH
  have HZ := Lib.hid hZ
  have HN := Lib.hid hn
  have HM := Lib.hid hM
  have HMM := Lib.hid hm
  have E0 := Lib.hid e0
  have HA := Lib.hid (show chkA t f hot l zs = if driveE t l f m ≠ 0 then (0, driveE t l f m) else chkV f hot l zs by unfold chkA; rw [hm])
  generalize chkA t f hot l zs = r at *
  by_cases hq : driveE t l f m = 0
  · obtain ⟨⟨_, ⟨h1, h4⟩, hok⟩, hf, hml⟩ := (driveE_zero t l f m).1 hq
    obtain rfl : n = m := by rw [hml, hn]
    rw [hn] at h1 h4
    have HA1 := Lib.hid (show r = if volE n zs ≠ 0 then (0, volE n zs) else chkFrom f hot l zs n 0 by rw [HA.out, if_neg (by simp [hq]), chkV, hn])
    have HVE := Lib.hid (fun W (e : Ext w W) => voltagesError_any t A n cap C M cz zs hM (by omega) W (hZ.ext e))
    rw [hq] at HC
    by_cases hv : volE n zs = 0
    · obtain ⟨hl, hob, hend⟩ := (volE_zero n zs).1 hv
      obtain rfl : M = n + 1 := by omega
      obtain ⟨gz, rfl, hcz⟩ := hC (by omega)
      have hbz : ∀ z ∈ zs.tail, Bd 1000000000 z := fun z hz => outG_bd (hob z (List.mem_of_mem_tail hz))
      have HCU := Lib.hid (fun W (e : Ext w W) => callsIn_wide.1 (currentsOf_in9 t A n cap l hn gz cz zs hl W (hS.ext e) (hZ.ext e) hcz hok hbz h1 h4))
      have HR1 := Lib.hid (show r = chkFrom f hot l zs n 0 by rw [HA1.out, if_neg (by simp [hv])])
      have HCL := Lib.hid (show (curr l zs.tail).length = n by rw [curr_len l _ (by simp [hl, hn]), hn])
      have HCB := Lib.hid (fun k (hk : k < n) => (curAt_bd9 (ls := l) (zs := zs.tail) (by simp [hl, hn]) hok hbz (n - k) k (by omega)))
      have HRE := Lib.hid (fun (k : Nat) (s : Sh) (b : Bool) (W : World) (hs : l[k]? = some s) (hb : hot[k]? = some b) (e : Ext w W) => show Calls Try.prog 88 #[.agg #[.int .i64 t, .slice A n cap], .agg #[.int .i64 f, .slice B n cap'], .int .i64 k] W (VPost W (Is (.int .i64 (react f b s)))) from
        (reactanceOf_any t A n cap l hn f B n cap' hot k s b W (hS.ext e) (hH.ext e) hs hb hm (mid_react hf (hok s (List.mem_of_getElem? hs))).1 (mid_react hf (hok s (List.mem_of_getElem? hs))).2).mono fun _ _ ⟨h1, h2⟩ => ⟨_, h1, h2, rfl⟩)
      have HRB := Lib.hid (fun (b : Bool) (s : Sh) (hs : s ∈ l) => react_bd (h := b) hf (hok s hs))
      have HOB := Lib.hid hob
      rw [hv] at HVE
      clear hok hf hml hv hl hob hend hbz hC hq hn hm hM hS hH hZ e0 HA HA1
      go_enter Try.func34, Try.ntmps34
      go_wp2_with (first
        | (go_at_call 20; refine (HC.out _ (HS.out.ext E0.out)).mono ?_; rintro e W1 ⟨rfl, hx1⟩; obtain ⟨z0, z1, z2, z3⟩ := FA.out _ hx1; have X1 := Lib.hid hx1; clear hx1)
        | (go_at_call 91; refine (HVE.out _ (E0.out.trans X1.out)).mono ?_; rintro e W2 ⟨rfl, hx1⟩; have X2 := Lib.hid (X1.out.trans hx1); clear hx1 z0 z1 z2 z3; obtain ⟨z0, z1, z2, z3⟩ := FA.out _ X2.out)
        | (go_at_call 90; refine (HCU.out _ (E0.out.trans X2.out)).mono ?_; rintro e W3 ⟨g', c', cu, rfl, hcr, _, hx1⟩; have X3 := Lib.hid (X2.out.trans hx1); have HCR := Lib.hid hcr; clear hx1 z0 z1 z2 z3 hcr))
      go_loopw [28] (fun i wr => ∃ k : Nat, k ≤ n ∧ i = .int .i64 k ∧ chkFrom f hot l zs n 0 = chkFrom f hot l zs (n - k) k ∧ Ext W3 wr) (fun i _ => n - (intOf i).toNat)
      case atStart => exact ⟨0, Nat.zero_le _, rfl, rfl, Ext.refl _⟩
      case round =>
        obtain ⟨k, hk, rfl, hr, hx⟩ := hrel
        have HR0 := Lib.hid hr
        have HX := Lib.hid (X3.out.trans hx)
        have HX3 := Lib.hid hx
        clear hr hx
        by_cases hlt : k < n
        · obtain ⟨s, hs⟩ : ∃ s, l[k]? = some s := ⟨_, List.getElem?_eq_getElem (by rw [HN.out]; exact hlt)⟩
          obtain ⟨b, hb⟩ : ∃ b, hot[k]? = some b := ⟨_, List.getElem?_eq_getElem (by rw [HMM.out]; exact hlt)⟩
          obtain ⟨⟨ar, ai⟩, hza⟩ : ∃ z, zs[k]? = some z := ⟨_, List.getElem?_eq_getElem (by rw [HM.out]; omega)⟩
          obtain ⟨⟨br, bi⟩, hzb⟩ : ∃ z, zs[k + 1]? = some z := ⟨_, List.getElem?_eq_getElem (by rw [HM.out]; omega)⟩
          obtain ⟨⟨cr, ci⟩, hcc⟩ : ∃ z, (curr l zs.tail)[k]? = some z := ⟨_, List.getElem?_eq_getElem (by rw [HCL.out]; exact hlt)⟩
          obtain ⟨g1, o1, hg1, _, hc1⟩ := HZ.out.2 k _ hza
          obtain ⟨g2, o2, hg2, _, hc2⟩ := HZ.out.2 (k + 1) _ hzb
          obtain ⟨g3, o3, hg3, _, hc3⟩ := HCR.out.2 k _ hcc
          obtain ⟨rfl, rfl⟩ : gz = g1 ∧ 0 = o1 := by simpa using hg1
          obtain ⟨rfl, rfl⟩ : gz = g2 ∧ 0 = o2 := by simpa using hg2
          obtain ⟨rfl, rfl⟩ : g' = g3 ∧ 0 = o3 := by simpa using hg3
          have v1 : wr.cell? ⟨gz, k * 2, none⟩ = some (.int .i64 ar) := (E0.out.trans HX.out).cell (by have := hc1 0 _ rfl; simpa using this)
          have v2 : wr.cell? ⟨gz, k * 2 + 1, none⟩ = some (.int .i64 ai) := (E0.out.trans HX.out).cell (by have := hc1 1 _ rfl; simpa using this)
          have v3 : wr.cell? ⟨gz, (k + 1) * 2, none⟩ = some (.int .i64 br) := (E0.out.trans HX.out).cell (by have := hc2 0 _ rfl; simpa using this)
          have v4 : wr.cell? ⟨gz, (k + 1) * 2 + 1, none⟩ = some (.int .i64 bi) := (E0.out.trans HX.out).cell (by have := hc2 1 _ rfl; simpa using this)
          have v5 : wr.cell? ⟨g', k * 2, none⟩ = some (.int .i64 cr) := HX3.out.cell (by have := hc3 0 _ rfl; simpa using this)
          have v6 : wr.cell? ⟨g', k * 2 + 1, none⟩ = some (.int .i64 ci) := HX3.out.cell (by have := hc3 1 _ rfl; simpa using this)
          have hbb := outG_bd (HOB.out _ (List.mem_of_getElem? hzb))
          have hcb := HCB.out k hlt
          have hca : curAt l zs.tail k = ⟨cr, ci⟩ := by simp [curAt, hcc]
          rw [hca] at hcb
          obtain ⟨x, hx⟩ : ∃ x, x = react f b s := ⟨_, rfl⟩
          have hxb := HRB.out b s (List.mem_of_getElem? hs)
          have HR := Lib.hid (fun W e => HRE.out k s b W hs hb e)
          rw [← hx] at hxb HR
          obtain ⟨⟨e1, e2⟩, he⟩ : ∃ z, z = befG ⟨br, bi⟩ x ⟨cr, ci⟩ := ⟨_, rfl⟩
          have HB := Lib.hid (fun W => show Calls Try.prog 92 #[.agg #[.int .i64 br, .int .i64 bi], .int .i64 x, .agg #[.int .i64 cr, .int .i64 ci]] W (VPost W (Is (.agg #[.int .i64 e1, .int .i64 e2]))) from by
            have hb1 : ((n - k : Nat) : Int) * 4000000000 ≤ 16000000000 := by omega
            simp only [Bd] at hbb hcb
            have m1 := mul_bd (n := x) (x := cr) (N := 32) (B := 16000000000) (by omega) hxb.2 (by omega) (by omega)
            have m2 := mul_bd (n := x) (x := -ci) (N := 32) (B := 16000000000) (by omega) hxb.2 (by omega) (by omega)
            refine (before_any br bi x cr ci (by unfold Mid; omega) (by unfold Mid; omega) (by unfold Mid; omega) (by unfold Mid; omega) (by unfold Mid; omega) W).mono fun _ _ ⟨h1, h2⟩ => ⟨_, h1, h2, ?_⟩
            show _ = _
            simp only [befG, G.mk.injEq] at he
            rw [he.1, he.2])
          have HWA := Lib.hid (show zat zs k = ⟨ar, ai⟩ by simp [zat, hza])
          have HWB := Lib.hid (show wantG f hot l zs k = ⟨e1, e2⟩ by rw [he, hx, wantG, hca]; simp [zat, hzb, List.getD, hb, hs])
          have HST := Lib.hid (show chkFrom f hot l zs (n - k) k = if zat zs k ≠ wantG f hot l zs k then ((k : Int), 19) else chkFrom f hot l zs (n - (k + 1)) (k + 1) by
            rw [show n - k = n - (k + 1) + 1 by omega]; rfl)
          have hkn : (k : Int) < (n : Int) := by omega
          have hkb : (k : Int) ≤ 4 := by omega
          clear hs hb hza hzb hcc hg1 hg2 hg3 hc1 hc2 hc3 hbb hcb hca hx hxb he
          obtain ⟨z0, z1, z2, z3⟩ := FA.out _ HX.out
          go_wp2
          have w1 := (Ext.alloc wr (.cells #[.int .i64 cr, .int .i64 ci] 65)).cell v1
          have w2 := (Ext.alloc wr (.cells #[.int .i64 cr, .int .i64 ci] 65)).cell v2
          have w3 := (Ext.alloc wr (.cells #[.int .i64 cr, .int .i64 ci] 65)).cell v3
          have w4 := (Ext.alloc wr (.cells #[.int .i64 cr, .int .i64 ci] 65)).cell v4
          have y0 := (Ext.alloc wr (.cells #[.int .i64 cr, .int .i64 ci] 65)).cell z0
          have y1 := (Ext.alloc wr (.cells #[.int .i64 cr, .int .i64 ci] 65)).cell z1
          have y2 := (Ext.alloc wr (.cells #[.int .i64 cr, .int .i64 ci] 65)).cell z2
          have y3 := (Ext.alloc wr (.cells #[.int .i64 cr, .int .i64 ci] 65)).cell z3
          have w5 : (wr.alloc (.cells #[.int .i64 cr, .int .i64 ci] 65)).cell? ⟨wr.heap.size, 0, none⟩ = some (.int .i64 cr) := (Blk.new _ _ _).cell 0
          have w6 : (wr.alloc (.cells #[.int .i64 cr, .int .i64 ci] 65)).cell? ⟨wr.heap.size, 1, none⟩ = some (.int .i64 ci) := (Blk.new _ _ _).cell 1
          have EX := Lib.hid (HX3.out.trans (Ext.alloc wr (.cells #[.int .i64 cr, .int .i64 ci] 65)))
          have E9 := Lib.hid (E0.out.trans (HX.out.trans (Ext.alloc wr (.cells #[.int .i64 cr, .int .i64 ci] 65))))
          generalize wr.alloc (.cells #[.int .i64 cr, .int .i64 ci] 65) = W9 at *
          generalize wr.heap.size = q11 at *
          clear v1 v2 v3 v4 v5 v6 z0 z1 z2 z3
          by_cases hre : ar = e1
          · by_cases him : ai = e2
            · subst hre him
              refine wp_region_each [some 33, some 34, some 35, some 36, some 37, some 38, some 39, some 40, some 41, some 42, some 43, some 44, some 45, some 46, some 47, some 48] [[2], [10], [33, 34], [35], [2], [10], [38], [37, 39], [40], [3], [4], [10], [42, 43, 44], [11], [41, 45, 46], [36, 47]]
                [Is (.slice (some ⟨gz, 0, none⟩) (n + 1) cz), Is (.int .i64 (k)), Is (.pointer (some ⟨gz, k * 2, none⟩)), Is (.agg #[.int .i64 (ar), .int .i64 (ai)]), Is (.slice (some ⟨gz, 0, none⟩) (n + 1) cz), Is (.int .i64 (k)), Is (.int .i64 ((k : Int) + 1)), Is (.pointer (some ⟨gz, (k + 1) * 2, none⟩)), Is (.agg #[.int .i64 (br), .int .i64 (bi)]), Is (.agg #[.int .i64 (t), .slice A n cap]), Is (.agg #[.int .i64 (f), .slice B n cap']), Is (.int .i64 (k)), Is (.int .i64 (x)), Is (.agg #[.int .i64 (cr), .int .i64 (ci)]), Is (.agg #[.int .i64 (ar), .int .i64 (ai)]), Is (.bool (false))]
                (by kernel_rfl) (by kernel_rfl) (by kernel_rfl) (by kernel_rfl) (by kernel_rfl) Ext (fun W => Ext W9 W)
                (fun W _ => Ext.refl W) (fun W W' h k => h.trans k) ?_ (Ext.drew _) ?_ ?_
              · repeat (refine ⟨fun _ _ _ _ k h => (by first | exact h | exact (by first | exact LadV.ext h k | exact DrvV.ext h k | exact TupV.ext (fun _ _ _ h k => by first | exact Opt.ext (fun _ _ _ h k => by first | exact IntsAt.ext h k | exact GsV.ext h k) h k | exact IntsAt.ext h k) h k | exact Opt.ext (fun _ _ _ h k => by first | exact IntsAt.ext h k | exact GsV.ext h k) h k | exact IntsAt.ext h k)), ?_⟩)
                exact trivial
              · refine ⟨?_, ?_, ?_, ?_, ?_, ?_, ?_, ?_, ?_, ?_, ?_, ?_, ?_, ?_, ?_, ?_, trivial⟩
                all_goals intro ρ W ⟨kc, kg, kf⟩ hF hs
                · obtain ⟨h0, -⟩ := hs
                  replace h0 : ρ (.tmp 2) = .slice (some ⟨gz, 0, none⟩) (n + 1) cz := h0
                  go_simp
                  exact ⟨Ext.refl _, rfl⟩
                · obtain ⟨h0, -⟩ := hs
                  replace h0 : ρ (.tmp 10) = .int .i64 (k) := h0
                  go_simp
                  exact ⟨Ext.refl _, rfl⟩
                · obtain ⟨h0, h1, -⟩ := hs
                  replace h0 : ρ (.tmp 33) = .slice (some ⟨gz, 0, none⟩) (n + 1) cz := h0
                  replace h1 : ρ (.tmp 34) = .int .i64 (k) := h1
                  have hki : (k : Int) < (n : Int) + 1 := by omega
                  go_simp
                  exact ⟨Ext.refl _, rfl⟩
                · obtain ⟨h0, -⟩ := hs
                  replace h0 : ρ (.tmp 35) = .pointer (some ⟨gz, k * 2, none⟩) := h0
                  have hc0 : W.cell? ⟨gz, k * 2, none⟩ = some (.int .i64 (ar)) := hF.cell (by assumption)
                  have hc1 : W.cell? ⟨gz, k * 2 + 1, none⟩ = some (.int .i64 (ai)) := hF.cell (by assumption)
                  go_simp
                  exact ⟨Ext.refl _, rfl⟩
                · obtain ⟨h0, -⟩ := hs
                  replace h0 : ρ (.tmp 2) = .slice (some ⟨gz, 0, none⟩) (n + 1) cz := h0
                  go_simp
                  exact ⟨Ext.refl _, rfl⟩
                · obtain ⟨h0, -⟩ := hs
                  replace h0 : ρ (.tmp 10) = .int .i64 (k) := h0
                  go_simp
                  exact ⟨Ext.refl _, rfl⟩
                · obtain ⟨h0, -⟩ := hs
                  replace h0 : ρ (.tmp 38) = .int .i64 (k) := h0
                  have hw : IntKind.i64.wrap ((k : Int) + 1) = (k : Int) + 1 := IntWalk.i64_in _ (by omega)
                  go_simp
                  exact ⟨Ext.refl _, rfl⟩
                · obtain ⟨h0, h1, -⟩ := hs
                  replace h0 : ρ (.tmp 37) = .slice (some ⟨gz, 0, none⟩) (n + 1) cz := h0
                  replace h1 : ρ (.tmp 39) = .int .i64 ((k : Int) + 1) := h1
                  have hki : (k : Int) + 1 < (n : Int) + 1 := by omega
                  have hkt : ((k : Int) + 1).toNat = k + 1 := by omega
                  have hk0 : (0 : Int) ≤ (k : Int) + 1 := by omega
                  go_simp
                  exact ⟨Ext.refl _, rfl⟩
                · obtain ⟨h0, -⟩ := hs
                  replace h0 : ρ (.tmp 40) = .pointer (some ⟨gz, (k + 1) * 2, none⟩) := h0
                  have hc0 : W.cell? ⟨gz, (k + 1) * 2, none⟩ = some (.int .i64 (br)) := hF.cell (by assumption)
                  have hc1 : W.cell? ⟨gz, (k + 1) * 2 + 1, none⟩ = some (.int .i64 (bi)) := hF.cell (by assumption)
                  go_simp
                  exact ⟨Ext.refl _, rfl⟩
                · obtain ⟨h0, -⟩ := hs
                  replace h0 : ρ (.tmp 3) = .pointer (some ⟨w.heap.size, 0, none⟩) := h0
                  have hc0 : W.cell? ⟨w.heap.size, 0, none⟩ = some (.int .i64 (t)) := hF.cell (by assumption)
                  have hc1 : W.cell? ⟨w.heap.size, 1, none⟩ = some (.slice A n cap) := hF.cell (by assumption)
                  go_simp
                  exact ⟨Ext.refl _, rfl⟩
                · obtain ⟨h0, -⟩ := hs
                  replace h0 : ρ (.tmp 4) = .pointer (some ⟨w.heap.size + 1, 0, none⟩) := h0
                  have hc0 : W.cell? ⟨w.heap.size + 1, 0, none⟩ = some (.int .i64 (f)) := hF.cell (by assumption)
                  have hc1 : W.cell? ⟨w.heap.size + 1, 1, none⟩ = some (.slice B n cap') := hF.cell (by assumption)
                  go_simp
                  exact ⟨Ext.refl _, rfl⟩
                · obtain ⟨h0, -⟩ := hs
                  replace h0 : ρ (.tmp 10) = .int .i64 (k) := h0
                  go_simp
                  exact ⟨Ext.refl _, rfl⟩
                · obtain ⟨h0, h1, h2, -⟩ := hs
                  replace h0 : ρ (.tmp 42) = .agg #[.int .i64 (t), .slice A n cap] := h0
                  replace h1 : ρ (.tmp 43) = .agg #[.int .i64 (f), .slice B n cap'] := h1
                  replace h2 : ρ (.tmp 44) = .int .i64 (k) := h2
                  go_simp
                  exact HR.out W (E9.out.trans hF)
                · obtain ⟨h0, -⟩ := hs
                  replace h0 : ρ (.tmp 11) = .pointer (some ⟨q11, 0, none⟩) := h0
                  have hc0 : W.cell? ⟨q11, 0, none⟩ = some (.int .i64 (cr)) := hF.cell (by assumption)
                  have hc1 : W.cell? ⟨q11, 1, none⟩ = some (.int .i64 (ci)) := hF.cell (by assumption)
                  go_simp
                  exact ⟨Ext.refl _, rfl⟩
                · obtain ⟨h0, h1, h2, -⟩ := hs
                  replace h0 : ρ (.tmp 41) = .agg #[.int .i64 (br), .int .i64 (bi)] := h0
                  replace h1 : ρ (.tmp 45) = .int .i64 (x) := h1
                  replace h2 : ρ (.tmp 46) = .agg #[.int .i64 (cr), .int .i64 (ci)] := h2
                  go_simp
                  exact HB.out W
                · obtain ⟨h0, h1, -⟩ := hs
                  replace h0 : ρ (.tmp 36) = .agg #[.int .i64 (ar), .int .i64 (ai)] := h0
                  replace h1 : ρ (.tmp 47) = .agg #[.int .i64 (ar), .int .i64 (ai)] := h1
                  go_simp
                  first | exact ⟨Ext.refl _, rfl⟩ | exact Ext.refl _
              · intro fv W10 hF hs
                obtain ⟨-, -, -, -, -, -, -, -, -, -, -, -, -, -, -, h48, -⟩ := hs
                replace h48 : fv 48 = .bool (false) := h48
                simp only [fin, List.filterMap]
                go_simp
                have HF := Lib.hid hF
                clear hF w1 w2 w3 w4 w5 w6 y0 y1 y2 y3
                go_wp2
                go_roundw
                case rel => exact ⟨k + 1, by omega, by go_num, by rw [HR0.out, HST.out, if_neg (by rw [HWA.out, HWB.out]; simp)], EX.out.trans HF.out⟩
                case measure => simp [intOf]; omega
            · subst hre
              have hxy' : (ai == e2) = false := by rw [beq_eq_false_iff_ne]; exact him
              have HNE := Lib.hid him
              clear him
              refine wp_region_each [some 33, some 34, some 35, some 36, some 37, some 38, some 39, some 40, some 41, some 42, some 43, some 44, some 45, some 46, some 47, some 48] [[2], [10], [33, 34], [35], [2], [10], [38], [37, 39], [40], [3], [4], [10], [42, 43, 44], [11], [41, 45, 46], [36, 47]]
                [Is (.slice (some ⟨gz, 0, none⟩) (n + 1) cz), Is (.int .i64 (k)), Is (.pointer (some ⟨gz, k * 2, none⟩)), Is (.agg #[.int .i64 (ar), .int .i64 (ai)]), Is (.slice (some ⟨gz, 0, none⟩) (n + 1) cz), Is (.int .i64 (k)), Is (.int .i64 ((k : Int) + 1)), Is (.pointer (some ⟨gz, (k + 1) * 2, none⟩)), Is (.agg #[.int .i64 (br), .int .i64 (bi)]), Is (.agg #[.int .i64 (t), .slice A n cap]), Is (.agg #[.int .i64 (f), .slice B n cap']), Is (.int .i64 (k)), Is (.int .i64 (x)), Is (.agg #[.int .i64 (cr), .int .i64 (ci)]), Is (.agg #[.int .i64 (ar), .int .i64 (e2)]), Is (.bool (true))]
                (by kernel_rfl) (by kernel_rfl) (by kernel_rfl) (by kernel_rfl) (by kernel_rfl) Ext (fun W => Ext W9 W)
                (fun W _ => Ext.refl W) (fun W W' h k => h.trans k) ?_ (Ext.drew _) ?_ ?_
              · repeat (refine ⟨fun _ _ _ _ k h => (by first | exact h | exact (by first | exact LadV.ext h k | exact DrvV.ext h k | exact TupV.ext (fun _ _ _ h k => by first | exact Opt.ext (fun _ _ _ h k => by first | exact IntsAt.ext h k | exact GsV.ext h k) h k | exact IntsAt.ext h k) h k | exact Opt.ext (fun _ _ _ h k => by first | exact IntsAt.ext h k | exact GsV.ext h k) h k | exact IntsAt.ext h k)), ?_⟩)
                exact trivial
              · refine ⟨?_, ?_, ?_, ?_, ?_, ?_, ?_, ?_, ?_, ?_, ?_, ?_, ?_, ?_, ?_, ?_, trivial⟩
                all_goals intro ρ W ⟨kc, kg, kf⟩ hF hs
                · obtain ⟨h0, -⟩ := hs
                  replace h0 : ρ (.tmp 2) = .slice (some ⟨gz, 0, none⟩) (n + 1) cz := h0
                  go_simp
                  exact ⟨Ext.refl _, rfl⟩
                · obtain ⟨h0, -⟩ := hs
                  replace h0 : ρ (.tmp 10) = .int .i64 (k) := h0
                  go_simp
                  exact ⟨Ext.refl _, rfl⟩
                · obtain ⟨h0, h1, -⟩ := hs
                  replace h0 : ρ (.tmp 33) = .slice (some ⟨gz, 0, none⟩) (n + 1) cz := h0
                  replace h1 : ρ (.tmp 34) = .int .i64 (k) := h1
                  have hki : (k : Int) < (n : Int) + 1 := by omega
                  go_simp
                  exact ⟨Ext.refl _, rfl⟩
                · obtain ⟨h0, -⟩ := hs
                  replace h0 : ρ (.tmp 35) = .pointer (some ⟨gz, k * 2, none⟩) := h0
                  have hc0 : W.cell? ⟨gz, k * 2, none⟩ = some (.int .i64 (ar)) := hF.cell (by assumption)
                  have hc1 : W.cell? ⟨gz, k * 2 + 1, none⟩ = some (.int .i64 (ai)) := hF.cell (by assumption)
                  go_simp
                  exact ⟨Ext.refl _, rfl⟩
                · obtain ⟨h0, -⟩ := hs
                  replace h0 : ρ (.tmp 2) = .slice (some ⟨gz, 0, none⟩) (n + 1) cz := h0
                  go_simp
                  exact ⟨Ext.refl _, rfl⟩
                · obtain ⟨h0, -⟩ := hs
                  replace h0 : ρ (.tmp 10) = .int .i64 (k) := h0
                  go_simp
                  exact ⟨Ext.refl _, rfl⟩
                · obtain ⟨h0, -⟩ := hs
                  replace h0 : ρ (.tmp 38) = .int .i64 (k) := h0
                  have hw : IntKind.i64.wrap ((k : Int) + 1) = (k : Int) + 1 := IntWalk.i64_in _ (by omega)
                  go_simp
                  exact ⟨Ext.refl _, rfl⟩
                · obtain ⟨h0, h1, -⟩ := hs
                  replace h0 : ρ (.tmp 37) = .slice (some ⟨gz, 0, none⟩) (n + 1) cz := h0
                  replace h1 : ρ (.tmp 39) = .int .i64 ((k : Int) + 1) := h1
                  have hki : (k : Int) + 1 < (n : Int) + 1 := by omega
                  have hkt : ((k : Int) + 1).toNat = k + 1 := by omega
                  have hk0 : (0 : Int) ≤ (k : Int) + 1 := by omega
                  go_simp
                  exact ⟨Ext.refl _, rfl⟩
                · obtain ⟨h0, -⟩ := hs
                  replace h0 : ρ (.tmp 40) = .pointer (some ⟨gz, (k + 1) * 2, none⟩) := h0
                  have hc0 : W.cell? ⟨gz, (k + 1) * 2, none⟩ = some (.int .i64 (br)) := hF.cell (by assumption)
                  have hc1 : W.cell? ⟨gz, (k + 1) * 2 + 1, none⟩ = some (.int .i64 (bi)) := hF.cell (by assumption)
                  go_simp
                  exact ⟨Ext.refl _, rfl⟩
                · obtain ⟨h0, -⟩ := hs
                  replace h0 : ρ (.tmp 3) = .pointer (some ⟨w.heap.size, 0, none⟩) := h0
                  have hc0 : W.cell? ⟨w.heap.size, 0, none⟩ = some (.int .i64 (t)) := hF.cell (by assumption)
                  have hc1 : W.cell? ⟨w.heap.size, 1, none⟩ = some (.slice A n cap) := hF.cell (by assumption)
                  go_simp
                  exact ⟨Ext.refl _, rfl⟩
                · obtain ⟨h0, -⟩ := hs
                  replace h0 : ρ (.tmp 4) = .pointer (some ⟨w.heap.size + 1, 0, none⟩) := h0
                  have hc0 : W.cell? ⟨w.heap.size + 1, 0, none⟩ = some (.int .i64 (f)) := hF.cell (by assumption)
                  have hc1 : W.cell? ⟨w.heap.size + 1, 1, none⟩ = some (.slice B n cap') := hF.cell (by assumption)
                  go_simp
                  exact ⟨Ext.refl _, rfl⟩
                · obtain ⟨h0, -⟩ := hs
                  replace h0 : ρ (.tmp 10) = .int .i64 (k) := h0
                  go_simp
                  exact ⟨Ext.refl _, rfl⟩
                · obtain ⟨h0, h1, h2, -⟩ := hs
                  replace h0 : ρ (.tmp 42) = .agg #[.int .i64 (t), .slice A n cap] := h0
                  replace h1 : ρ (.tmp 43) = .agg #[.int .i64 (f), .slice B n cap'] := h1
                  replace h2 : ρ (.tmp 44) = .int .i64 (k) := h2
                  go_simp
                  exact HR.out W (E9.out.trans hF)
                · obtain ⟨h0, -⟩ := hs
                  replace h0 : ρ (.tmp 11) = .pointer (some ⟨q11, 0, none⟩) := h0
                  have hc0 : W.cell? ⟨q11, 0, none⟩ = some (.int .i64 (cr)) := hF.cell (by assumption)
                  have hc1 : W.cell? ⟨q11, 1, none⟩ = some (.int .i64 (ci)) := hF.cell (by assumption)
                  go_simp
                  exact ⟨Ext.refl _, rfl⟩
                · obtain ⟨h0, h1, h2, -⟩ := hs
                  replace h0 : ρ (.tmp 41) = .agg #[.int .i64 (br), .int .i64 (bi)] := h0
                  replace h1 : ρ (.tmp 45) = .int .i64 (x) := h1
                  replace h2 : ρ (.tmp 46) = .agg #[.int .i64 (cr), .int .i64 (ci)] := h2
                  go_simp
                  exact HB.out W
                · obtain ⟨h0, h1, -⟩ := hs
                  replace h0 : ρ (.tmp 36) = .agg #[.int .i64 (ar), .int .i64 (ai)] := h0
                  replace h1 : ρ (.tmp 47) = .agg #[.int .i64 (ar), .int .i64 (e2)] := h1
                  go_simp
                  first | exact ⟨Ext.refl _, rfl⟩ | exact Ext.refl _
              · intro fv W10 hF hs
                obtain ⟨-, -, -, -, -, -, -, -, -, -, -, -, -, -, -, h48, -⟩ := hs
                replace h48 : fv 48 = .bool (true) := h48
                simp only [fin, List.filterMap]
                go_simp
                have HF := Lib.hid hF
                clear hF w1 w2 w3 w4 w5 w6 y0 y1 y2 y3
                go_wp2
                go_ret2
                exact ⟨ret_pair (by rw [HR1.out, HR0.out, HST.out, if_pos (by rw [HWA.out, HWB.out]; simp [HNE.out])]) (by rw [HR1.out, HR0.out, HST.out, if_pos (by rw [HWA.out, HWB.out]; simp [HNE.out])]), E0.out.trans (X3.out.trans (EX.out.trans HF.out))⟩
          · have hxy' : (ar == e1) = false := by rw [beq_eq_false_iff_ne]; exact hre
            have HNE := Lib.hid hre
            clear hre
            refine wp_region_each [some 33, some 34, some 35, some 36, some 37, some 38, some 39, some 40, some 41, some 42, some 43, some 44, some 45, some 46, some 47, some 48] [[2], [10], [33, 34], [35], [2], [10], [38], [37, 39], [40], [3], [4], [10], [42, 43, 44], [11], [41, 45, 46], [36, 47]]
              [Is (.slice (some ⟨gz, 0, none⟩) (n + 1) cz), Is (.int .i64 (k)), Is (.pointer (some ⟨gz, k * 2, none⟩)), Is (.agg #[.int .i64 (ar), .int .i64 (ai)]), Is (.slice (some ⟨gz, 0, none⟩) (n + 1) cz), Is (.int .i64 (k)), Is (.int .i64 ((k : Int) + 1)), Is (.pointer (some ⟨gz, (k + 1) * 2, none⟩)), Is (.agg #[.int .i64 (br), .int .i64 (bi)]), Is (.agg #[.int .i64 (t), .slice A n cap]), Is (.agg #[.int .i64 (f), .slice B n cap']), Is (.int .i64 (k)), Is (.int .i64 (x)), Is (.agg #[.int .i64 (cr), .int .i64 (ci)]), Is (.agg #[.int .i64 (e1), .int .i64 (e2)]), Is (.bool (true))]
              (by kernel_rfl) (by kernel_rfl) (by kernel_rfl) (by kernel_rfl) (by kernel_rfl) Ext (fun W => Ext W9 W)
              (fun W _ => Ext.refl W) (fun W W' h k => h.trans k) ?_ (Ext.drew _) ?_ ?_
            · repeat (refine ⟨fun _ _ _ _ k h => (by first | exact h | exact (by first | exact LadV.ext h k | exact DrvV.ext h k | exact TupV.ext (fun _ _ _ h k => by first | exact Opt.ext (fun _ _ _ h k => by first | exact IntsAt.ext h k | exact GsV.ext h k) h k | exact IntsAt.ext h k) h k | exact Opt.ext (fun _ _ _ h k => by first | exact IntsAt.ext h k | exact GsV.ext h k) h k | exact IntsAt.ext h k)), ?_⟩)
              exact trivial
            · refine ⟨?_, ?_, ?_, ?_, ?_, ?_, ?_, ?_, ?_, ?_, ?_, ?_, ?_, ?_, ?_, ?_, trivial⟩
              all_goals intro ρ W ⟨kc, kg, kf⟩ hF hs
              · obtain ⟨h0, -⟩ := hs
                replace h0 : ρ (.tmp 2) = .slice (some ⟨gz, 0, none⟩) (n + 1) cz := h0
                go_simp
                exact ⟨Ext.refl _, rfl⟩
              · obtain ⟨h0, -⟩ := hs
                replace h0 : ρ (.tmp 10) = .int .i64 (k) := h0
                go_simp
                exact ⟨Ext.refl _, rfl⟩
              · obtain ⟨h0, h1, -⟩ := hs
                replace h0 : ρ (.tmp 33) = .slice (some ⟨gz, 0, none⟩) (n + 1) cz := h0
                replace h1 : ρ (.tmp 34) = .int .i64 (k) := h1
                have hki : (k : Int) < (n : Int) + 1 := by omega
                go_simp
                exact ⟨Ext.refl _, rfl⟩
              · obtain ⟨h0, -⟩ := hs
                replace h0 : ρ (.tmp 35) = .pointer (some ⟨gz, k * 2, none⟩) := h0
                have hc0 : W.cell? ⟨gz, k * 2, none⟩ = some (.int .i64 (ar)) := hF.cell (by assumption)
                have hc1 : W.cell? ⟨gz, k * 2 + 1, none⟩ = some (.int .i64 (ai)) := hF.cell (by assumption)
                go_simp
                exact ⟨Ext.refl _, rfl⟩
              · obtain ⟨h0, -⟩ := hs
                replace h0 : ρ (.tmp 2) = .slice (some ⟨gz, 0, none⟩) (n + 1) cz := h0
                go_simp
                exact ⟨Ext.refl _, rfl⟩
              · obtain ⟨h0, -⟩ := hs
                replace h0 : ρ (.tmp 10) = .int .i64 (k) := h0
                go_simp
                exact ⟨Ext.refl _, rfl⟩
              · obtain ⟨h0, -⟩ := hs
                replace h0 : ρ (.tmp 38) = .int .i64 (k) := h0
                have hw : IntKind.i64.wrap ((k : Int) + 1) = (k : Int) + 1 := IntWalk.i64_in _ (by omega)
                go_simp
                exact ⟨Ext.refl _, rfl⟩
              · obtain ⟨h0, h1, -⟩ := hs
                replace h0 : ρ (.tmp 37) = .slice (some ⟨gz, 0, none⟩) (n + 1) cz := h0
                replace h1 : ρ (.tmp 39) = .int .i64 ((k : Int) + 1) := h1
                have hki : (k : Int) + 1 < (n : Int) + 1 := by omega
                have hkt : ((k : Int) + 1).toNat = k + 1 := by omega
                have hk0 : (0 : Int) ≤ (k : Int) + 1 := by omega
                go_simp
                exact ⟨Ext.refl _, rfl⟩
              · obtain ⟨h0, -⟩ := hs
                replace h0 : ρ (.tmp 40) = .pointer (some ⟨gz, (k + 1) * 2, none⟩) := h0
                have hc0 : W.cell? ⟨gz, (k + 1) * 2, none⟩ = some (.int .i64 (br)) := hF.cell (by assumption)
                have hc1 : W.cell? ⟨gz, (k + 1) * 2 + 1, none⟩ = some (.int .i64 (bi)) := hF.cell (by assumption)
                go_simp
                exact ⟨Ext.refl _, rfl⟩
              · obtain ⟨h0, -⟩ := hs
                replace h0 : ρ (.tmp 3) = .pointer (some ⟨w.heap.size, 0, none⟩) := h0
                have hc0 : W.cell? ⟨w.heap.size, 0, none⟩ = some (.int .i64 (t)) := hF.cell (by assumption)
                have hc1 : W.cell? ⟨w.heap.size, 1, none⟩ = some (.slice A n cap) := hF.cell (by assumption)
                go_simp
                exact ⟨Ext.refl _, rfl⟩
              · obtain ⟨h0, -⟩ := hs
                replace h0 : ρ (.tmp 4) = .pointer (some ⟨w.heap.size + 1, 0, none⟩) := h0
                have hc0 : W.cell? ⟨w.heap.size + 1, 0, none⟩ = some (.int .i64 (f)) := hF.cell (by assumption)
                have hc1 : W.cell? ⟨w.heap.size + 1, 1, none⟩ = some (.slice B n cap') := hF.cell (by assumption)
                go_simp
                exact ⟨Ext.refl _, rfl⟩
              · obtain ⟨h0, -⟩ := hs
                replace h0 : ρ (.tmp 10) = .int .i64 (k) := h0
                go_simp
                exact ⟨Ext.refl _, rfl⟩
              · obtain ⟨h0, h1, h2, -⟩ := hs
                replace h0 : ρ (.tmp 42) = .agg #[.int .i64 (t), .slice A n cap] := h0
                replace h1 : ρ (.tmp 43) = .agg #[.int .i64 (f), .slice B n cap'] := h1
                replace h2 : ρ (.tmp 44) = .int .i64 (k) := h2
                go_simp
                exact HR.out W (E9.out.trans hF)
              · obtain ⟨h0, -⟩ := hs
                replace h0 : ρ (.tmp 11) = .pointer (some ⟨q11, 0, none⟩) := h0
                have hc0 : W.cell? ⟨q11, 0, none⟩ = some (.int .i64 (cr)) := hF.cell (by assumption)
                have hc1 : W.cell? ⟨q11, 1, none⟩ = some (.int .i64 (ci)) := hF.cell (by assumption)
                go_simp
                exact ⟨Ext.refl _, rfl⟩
              · obtain ⟨h0, h1, h2, -⟩ := hs
                replace h0 : ρ (.tmp 41) = .agg #[.int .i64 (br), .int .i64 (bi)] := h0
                replace h1 : ρ (.tmp 45) = .int .i64 (x) := h1
                replace h2 : ρ (.tmp 46) = .agg #[.int .i64 (cr), .int .i64 (ci)] := h2
                go_simp
                exact HB.out W
              · obtain ⟨h0, h1, -⟩ := hs
                replace h0 : ρ (.tmp 36) = .agg #[.int .i64 (ar), .int .i64 (ai)] := h0
                replace h1 : ρ (.tmp 47) = .agg #[.int .i64 (e1), .int .i64 (e2)] := h1
                go_simp
                first | exact ⟨Ext.refl _, rfl⟩ | exact Ext.refl _
            · intro fv W10 hF hs
              obtain ⟨-, -, -, -, -, -, -, -, -, -, -, -, -, -, -, h48, -⟩ := hs
              replace h48 : fv 48 = .bool (true) := h48
              simp only [fin, List.filterMap]
              go_simp
              have HF := Lib.hid hF
              clear hF w1 w2 w3 w4 w5 w6 y0 y1 y2 y3
              go_wp2
              go_ret2
              exact ⟨ret_pair (by rw [HR1.out, HR0.out, HST.out, if_pos (by rw [HWA.out, HWB.out]; simp [HNE.out])]) (by rw [HR1.out, HR0.out, HST.out, if_pos (by rw [HWA.out, HWB.out]; simp [HNE.out])]), E0.out.trans (X3.out.trans (EX.out.trans HF.out))⟩
        · have HEND := Lib.hid (show chkFrom f hot l zs (n - k) k = (0, 0) by rw [show n - k = 0 by omega]; rfl)
          go_wp2
          go_ret2
          exact ⟨ret_pair (by rw [HR1.out, HR0.out, HEND.out]) (by rw [HR1.out, HR0.out, HEND.out]), E0.out.trans HX.out⟩
    · have HR1 := Lib.hid (show r = (0, volE n zs) by rw [HA1.out, if_pos hv])
      have hv' : (volE n zs != 0) = true := by simp [hv]
      clear hok hf hml hv hC hq hn hm hM hS hH hZ e0 HA HA1
      generalize volE n zs = v at *
      go_enter Try.func34, Try.ntmps34
      go_wp2_with (first
        | (go_at_call 20; refine (HC.out _ (HS.out.ext E0.out)).mono ?_; rintro e W1 ⟨rfl, hx1⟩; obtain ⟨z0, z1, z2, z3⟩ := FA.out _ hx1; have X1 := Lib.hid hx1; clear hx1)
        | (go_at_call 91; refine (HVE.out _ (E0.out.trans X1.out)).mono ?_; rintro e W2 ⟨rfl, hx1⟩; have X2 := Lib.hid (X1.out.trans hx1); clear hx1 z0 z1 z2 z3))
      go_ret2
      exact ⟨ret_pair (by rw [HR1.out]) (by rw [HR1.out]), E0.out.trans X2.out⟩
  · have HR1 := Lib.hid (show r = (0, driveE t l f m) by rw [HA.out, if_pos hq])
    have hq' : (driveE t l f m != 0) = true := by simp [hq]
    clear hq hn hm hM hS hH hZ e0 HA hC
    generalize driveE t l f m = q at *
    go_enter Try.func34, Try.ntmps34
    go_wp2_with (go_at_call 20; refine (HC.out _ (HS.out.ext E0.out)).mono ?_; rintro e W1 ⟨rfl, hx1⟩; have X1 := Lib.hid hx1; clear hx1)
    go_ret2
    exact ⟨ret_pair (by rw [HR1.out]) (by rw [HR1.out]), E0.out.trans X1.out⟩

end Go.Proofs.Ytpaoeghdfeekoaa
