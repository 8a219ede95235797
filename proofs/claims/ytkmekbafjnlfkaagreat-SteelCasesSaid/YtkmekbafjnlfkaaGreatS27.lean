/- SteelCases. -/
import Derived.Test.YtkmekbafjnlfkaaGreatS26

namespace Go.Proofs.YtkmekbafjnlfkaaGreat
open Go.RowKit Go.Shelf Go.Mem Go.RegInv
attribute [local go_sem] RelUpon_value RelUpon_skip RelUpon_enter BigFrame.eval_const BigFrame.eval_global BigFrame.eval_func

theorem idxF_low {α : Type} (p : α → Bool) : ∀ (xs : List α) (k : Nat), idxF p xs k = -1 ∨ (k : Int) ≤ idxF p xs k
  | [], k => .inl rfl
  | x :: l, k => by
    have := idxF_low p l (k + 1)
    rw [idxF]
    split
    · right; omega
    · rcases this with h | h
      · exact .inl h
      · right; omega
theorem upTo_mono {p q : Rg → Bool} : ∀ {xs : List Rg} {k : Nat}, (∀ x ∈ xs, p x = true → q x = true) → (if 0 ≤ idxF q xs k then idxF q xs k else (k : Int) + xs.length) ≤ (if 0 ≤ idxF p xs k then idxF p xs k else (k : Int) + xs.length)
  | [], k, _ => by simp [idxF]
  | x :: l, k, h => by
    have hb1 := idxF_bd p l (k + 1)
    have hb2 := idxF_bd q l (k + 1)
    have hl := idxF_low p l (k + 1)
    have ih := upTo_mono (p := p) (q := q) (xs := l) (k := k + 1) (fun x hx => h x (List.mem_cons_of_mem _ hx))
    rw [idxF, idxF]
    simp only [List.length_cons]
    by_cases h1 : p x = true
    · rw [if_pos h1, if_pos (h x (List.mem_cons_self) h1)]; exact Int.le_refl _
    · rw [if_neg h1]
      by_cases h2 : q x = true
      · rw [if_pos h2, if_pos (by omega)]
        split
        · rcases hl with hl | hl <;> omega
        · omega
      · rw [if_neg h2]
        have e : ((k + 1 : Nat) : Int) + (l.length : Int) = (k : Int) + ((l.length + 1 : Nat) : Int) := by omega
        rw [e] at ih
        exact ih
theorem upTo_le {p q : Rg → Bool} {xs : List Rg} (h : ∀ x ∈ xs, p x = true → q x = true) : upTo q xs ≤ upTo p xs := by
  have := upTo_mono (k := 0) h
  simpa [upTo] using this
theorem case_rows {xs : List Rg} {l : Int} (h : caseE xs l = 0) : (∀ x ∈ xs, x.lo ≤ x.hi) ∧ 0 ≤ l ∧ l ≤ 2000 := by
  refine ⟨fun x hx => ?_, ?_⟩
  · obtain ⟨i, hi, rfl⟩ := List.mem_iff_getElem.1 hx
    have h1 := firstAt_zero (firstE_zero h (firstAt (hrdAt xs) xs.length 0).2 (by simp)) i (by omega) (by omega)
    have h2 : hrdE xs[i] = 0 := by
      unfold hrdAt at h1
      rw [List.getD_eq_getElem?_getD, List.getElem?_eq_getElem hi] at h1
      exact h1
    exact (endsE_zero h2).2.1
  · exact rangeE_zeros (firstE_zero h (rangeE 0 2000 [l]) (by simp)) l (by simp)

set_option maxRecDepth 100000 in
set_option maxHeartbeats 4000000 in
theorem law_any {A : Option Addr} {n ca : Nat} {xs : List Rg} {w : World} (l more : Int) (hn : xs.length = n) (hA : RowsAt 2 Rg.enc w A xs) (hnil : A = none → ca = 0) :
    Calls Tryz.prog 10 #[.slice A n ca, .int .i64 l, .int .i64 more] w fun e w' => e = .returned (.bool true) ∧ Ext w w' := by
  have hnb : n ≤ 1152921504606846976 := by have := hA.1; omega
  have HA := Lib.hid hA
  have HN := Lib.hid hn
  have HNIL := Lib.hid hnil
  have HCE := Lib.hid (fun (W : World) (x : Int) (e : Ext w W) => caseErr_any (ca := ca) x hn (hA.ext e))
  clear hA hn hnil
  by_cases h14 : (14 : Int) < (n : Int)
  · clear HCE
    go_enter Tryz.func10, Tryz.ntmps10
    go_wp2_with (go_at_call 13; refine (awake_any _).mono ?_; rintro e W0 ⟨rfl, hx⟩; have X0 := Lib.hid hx; clear hx)
    go_ret
    exact ⟨rfl, X0.out⟩
  have h1000 : n ≤ 1000 := by omega
  by_cases hz : caseE xs l = 0
  · obtain ⟨hlh, hl0, hl1⟩ := case_rows hz
    have HCA := Lib.hid (fun (W : World) (e : Ext w W) => case_any (ca := ca) l HN.out (HA.out.ext e))
    have HCD := Lib.hid (fun (W : World) (A' : Option Addr) (c' : Nat) (h : RowsAt 2 Rg.enc W A' xs) => show Calls Tryz.prog 55 #[.slice A' n c', .int .i64 l] W fun e w' => e = .returned (.tuple #[.agg #[.int .i64 (upTo (softLo l) xs), .int .i64 (upTo (softHi l) xs)], .int .i64 0]) ∧ Ext W w' by
      have := caseDepth_any (ca := c') l HN.out h
      rw [hz] at this
      exact this)
    have HC1 := Lib.hid (fun (W : World) (e : Ext w W) => show Calls Tryz.prog 56 #[.slice A n ca, .int .i64 l] W fun e w' => e = .returned (.int .i64 0) ∧ Ext W w' by
      have := HCE.out W l e
      rw [hz] at this
      exact this)
    have HLE := Lib.hid (show upTo (softLo l) xs ≤ upTo (softHi l) xs from upTo_le (fun x hx h => by
      have := hlh x hx
      simp only [softHi, softLo, decide_eq_true_eq] at h ⊢
      omega))
    have HM1 := Lib.hid (fun (h : 0 ≤ more) => show upTo (softLo (l + more)) xs ≤ upTo (softLo l) xs from upTo_le (fun x _ h => by
      simp only [softLo, decide_eq_true_eq] at h ⊢
      omega))
    have HM2 := Lib.hid (fun (h : 0 ≤ more) => show upTo (softHi (l + more)) xs ≤ upTo (softHi l) xs from upTo_le (fun x _ h => by
      simp only [softHi, decide_eq_true_eq] at h ⊢
      omega))
    generalize upTo (softLo l) xs = dl at HCA HCD HLE HM1
    generalize upTo (softHi l) xs = dh at HCA HCD HLE HM2
    clear hlh hz
    have HWI := Lib.hid (fun W => within_any more 0 2000 W)
    obtain ⟨bw, hbw⟩ : ∃ b, b = withinB more 0 2000 := ⟨_, rfl⟩
    rw [← hbw] at HWI
    have HBW := Lib.hid hbw
    clear hbw
    go_enter Tryz.func10, Tryz.ntmps10
    go_wp2_with (go_at_call 13; refine (awake_any _).mono ?_; rintro e W0 ⟨rfl, hx⟩; have X0 := Lib.hid hx; clear hx; refine Hid.out ?_)
    refine Lib.hid ?_
    go_wp2_with (go_at_call 39; refine (copyRanges_any HN.out _ (HA.out.ext X0.out) (by omega) HNIL.out).mono ?_; rintro e W1 ⟨A', c', rfl, hro, hx⟩; have X1 := Lib.hid hx; have hro := Lib.hid hro; clear hx; refine Hid.out ?_)
    refine Lib.hid ?_
    go_wp2_with (go_at_call 55; refine (HCD.out _ _ _ hro.out).mono ?_; rintro e W2 ⟨rfl, hx⟩; have X2 := Lib.hid hx; clear hx hro; refine Hid.out ?_)
    refine Lib.hid ?_
    go_wp2_with (go_at_call 56; refine (HC1.out _ ((X0.out.trans X1.out).trans (X2.out.trans (Ext.alloc _ _)))).mono ?_; rintro e W3 ⟨rfl, hx⟩; have X3 := Lib.hid hx; have B1 := Lib.hid ((Blk.new W2 66 #[.int .i64 dl, .int .i64 dh]).ext hx); have Y3 := Lib.hid (((X0.out.trans X1.out).trans (X2.out.trans (Ext.alloc _ _))).trans hx); clear hx X0 X1 X2; refine Hid.out ?_)
    refine Lib.hid ?_
    have y0 : W3.cell? ⟨W2.heap.size, 0, none⟩ = some (.int .i64 dl) := B1.out.cell 0
    have y1 : W3.cell? ⟨W2.heap.size, 1, none⟩ = some (.int .i64 dh) := B1.out.cell 1
    clear HCD HC1
    go_wp2
    refine wp_region_eachG [(39, false), (39, false), (39, false), (39, false), (39, false)] [some 37, some 38, some 39, some 40, some 41, some 42, some 43, some 44, some 45] [[8], [37], [38], [7, 39], [0, 39], [1, 39], [41, 42, 39], [40, 43, 39], [39, 44]]
      [Is (.int .i64 (0)), Is (.bool (false)), Is (.bool (false)), Is (.agg #[.int .i64 (dl), .int .i64 (dh)]), Is (.slice A n ca), Is (.int .i64 (l)), Is (.agg #[.int .i64 dl, .int .i64 dh]), Is (.bool (false)), Is (.bool (false))]
      (by kernel_rfl) (by kernel_rfl) (by kernel_rfl) (by kernel_rfl) (by kernel_rfl) Ext (fun W => Ext W3 W)
      (fun W _ => Ext.refl W) (fun W W' h k => h.trans k) ?_ (by intro p hp; simp at hp; first | (subst hp; exact ⟨_, rfl, fun _ _ h => h⟩) | (rcases hp with rfl | rfl <;> exact ⟨_, rfl, fun _ _ h => h⟩) | (rcases hp with rfl | rfl | rfl <;> exact ⟨_, rfl, fun _ _ h => h⟩)) (Ext.drew _) ?_ ?_
    · repeat (refine ⟨fun _ _ _ _ k h => (by first | exact h | exact (by first | exact IntsAt.ext h k | exact KnV.ext h k | exact NumsV.ext h k)), ?_⟩)
      exact trivial
    · refine ⟨?_, ?_, ?_, ?_, ?_, ?_, ?_, ?_, ?_, trivial⟩
      all_goals intro ρ W ⟨kc, kg, kf⟩ hF hs
      · obtain ⟨h0, -⟩ := hs
        replace h0 : ρ (.tmp 8) = .int .i64 (0) := h0
        go_simp
        exact ⟨Ext.refl _, rfl⟩
      · obtain ⟨h0, -⟩ := hs
        replace h0 : ρ (.tmp 37) = .int .i64 (0) := h0
        go_simp
        exact ⟨Ext.refl _, rfl⟩
      · obtain ⟨h0, -⟩ := hs
        replace h0 : ρ (.tmp 38) = .bool (false) := h0
        go_simp
        exact ⟨Ext.refl _, rfl⟩
      · obtain ⟨h0, h1, -⟩ := hs
        replace h0 : ρ (.tmp 7) = .pointer (some ⟨W2.heap.size, 0, none⟩) := h0
        replace h1 : ρ (.tmp 39) = .bool (false) := h1
        have hc0 : W.cell? ⟨W2.heap.size, 0, none⟩ = some (.int .i64 (dl)) := hF.cell (by assumption)
        have hc1 : W.cell? ⟨W2.heap.size, 1, none⟩ = some (.int .i64 (dh)) := hF.cell (by assumption)
        go_simp
        exact ⟨Ext.refl _, rfl⟩
      · obtain ⟨h0, h1, -⟩ := hs
        replace h0 : ρ (.tmp 0) = .slice A n ca := h0
        replace h1 : ρ (.tmp 39) = .bool (false) := h1
        go_simp
        exact ⟨Ext.refl _, rfl⟩
      · obtain ⟨h0, h1, -⟩ := hs
        replace h0 : ρ (.tmp 1) = .int .i64 (l) := h0
        replace h1 : ρ (.tmp 39) = .bool (false) := h1
        go_simp
        exact ⟨Ext.refl _, rfl⟩
      · obtain ⟨h0, h1, h2, -⟩ := hs
        replace h0 : ρ (.tmp 41) = .slice A n ca := h0
        replace h1 : ρ (.tmp 42) = .int .i64 (l) := h1
        replace h2 : ρ (.tmp 39) = .bool (false) := h2
        go_simp
        refine (HCA.out _ (Y3.out.trans hF)).mono ?_; rintro e w' ⟨rfl, hx⟩; exact ⟨_, rfl, hx, rfl⟩
      · obtain ⟨h0, h1, h2, -⟩ := hs
        replace h0 : ρ (.tmp 40) = .agg #[.int .i64 (dl), .int .i64 (dh)] := h0
        replace h1 : ρ (.tmp 43) = .agg #[.int .i64 dl, .int .i64 dh] := h1
        replace h2 : ρ (.tmp 39) = .bool (false) := h2
        go_simp
        exact ⟨Ext.refl _, rfl⟩
      · obtain ⟨h0, h1, -⟩ := hs
        replace h0 : ρ (.tmp 39) = .bool (false) := h0
        replace h1 : ρ (.tmp 44) = .bool (false) := h1
        go_simp
        exact ⟨Ext.refl _, rfl⟩
    · intro fv W4 hF hs
      obtain ⟨-, -, -, -, -, -, -, -, h45, -⟩ := hs
      replace h45 : fv 45 = .bool (false) := h45
      simp only [fin, List.filterMap]
      go_simp
      have X4 := Lib.hid hF
      have Y4 := Lib.hid (Y3.out.trans hF)
      have B2 := Lib.hid (B1.out.ext hF)
      clear hF y0 y1 h45
      cases bw with
      | false =>
        go_wp2_with (go_at_call 34; refine (HWI.out _).mono ?_; rintro e W5 ⟨rfl, hx⟩; have X5 := Lib.hid hx; clear hx)
        go_ret
        exact ⟨rfl, Y4.out.trans X5.out⟩
      | true =>
        obtain ⟨m0, m1⟩ : 0 ≤ more ∧ more ≤ 2000 := by have := HBW.out; simpa [withinB] using this.symm
        have hw : IntKind.i64.wrap (l + more) = l + more := wrap_id _ (by omega) (by omega)
        by_cases hz2 : caseE xs (l + more) = 0
        · have HCD := Lib.hid (fun (W : World) (A' : Option Addr) (c' : Nat) (h : RowsAt 2 Rg.enc W A' xs) => show Calls Tryz.prog 55 #[.slice A' n c', .int .i64 (l + more)] W fun e w' => e = .returned (.tuple #[.agg #[.int .i64 (upTo (softLo (l + more)) xs), .int .i64 (upTo (softHi (l + more)) xs)], .int .i64 0]) ∧ Ext W w' by
            have := caseDepth_any (ca := c') (l + more) HN.out h
            rw [hz2] at this
            exact this)
          have HC2 := Lib.hid (fun (W : World) (e : Ext w W) => show Calls Tryz.prog 56 #[.slice A n ca, .int .i64 (l + more)] W fun e w' => e = .returned (.int .i64 0) ∧ Ext W w' by
            have := HCE.out W (l + more) e
            rw [hz2] at this
            exact this)
          have hm1 := HM1.out m0
          have hm2 := HM2.out m0
          have hm3 := HLE.out
          generalize upTo (softLo (l + more)) xs = fl at HCD hm1
          generalize upTo (softHi (l + more)) xs = fh at HCD hm2
          clear HM1 HM2 HLE hz2 m0 m1 HCE
          go_wp2_with (go_at_call 34; refine (HWI.out _).mono ?_; rintro e W5 ⟨rfl, hx⟩; have X5 := Lib.hid hx; clear hx; refine Hid.out ?_)
          refine Lib.hid ?_
          go_wp2_with (go_at_call 56; refine (HC2.out _ (Y4.out.trans X5.out)).mono ?_; rintro e W6 ⟨rfl, hx⟩; have X6 := Lib.hid hx; have Y6 := Lib.hid ((Y4.out.trans X5.out).trans hx); have B3 := Lib.hid (B2.out.ext (X5.out.trans hx)); clear hx X5 Y4 B2; refine Hid.out ?_)
          refine Lib.hid ?_
          go_wp2_with (go_at_call 39; refine (copyRanges_any HN.out _ (HA.out.ext Y6.out) h1000 HNIL.out).mono ?_; rintro e W7 ⟨A', c', rfl, hro, hx⟩; have X7 := Lib.hid hx; have hro := Lib.hid hro; clear hx; refine Hid.out ?_)
          refine Lib.hid ?_
          go_wp2_with (go_at_call 55; refine (HCD.out _ _ _ hro.out).mono ?_; rintro e W8 ⟨rfl, hx⟩; have X8 := Lib.hid hx; have Y8 := Lib.hid (Y6.out.trans (X7.out.trans hx)); have B4 := Lib.hid (B3.out.ext (X7.out.trans hx)); clear hx hro; refine Hid.out ?_)
          refine Lib.hid ?_
          have y0 : ∀ o, (W8.alloc o).cell? ⟨W2.heap.size, 0, none⟩ = some (.int .i64 dl) := fun o => (B4.out.alloc o).cell 0
          have y1 : ∀ o, (W8.alloc o).cell? ⟨W2.heap.size, 1, none⟩ = some (.int .i64 dh) := fun o => (B4.out.alloc o).cell 1
          go_wp2
          go_ret
          exact ⟨rfl, Y8.out.trans (Ext.alloc _ _)⟩
        · have HC2 := Lib.hid (fun (W : World) (e : Ext w W) => HCE.out W (l + more) e)
          have hz2' : (caseE xs (l + more) != 0) = true := by simp [hz2]
          generalize caseE xs (l + more) = z2 at HC2 hz2 hz2'
          go_wp2_with (go_at_call 34; refine (HWI.out _).mono ?_; rintro e W5 ⟨rfl, hx⟩; have X5 := Lib.hid hx; clear hx; refine Hid.out ?_)
          refine Lib.hid ?_
          go_wp2_with (go_at_call 56; refine (HC2.out _ (Y4.out.trans X5.out)).mono ?_; rintro e W6 ⟨rfl, hx⟩; have X6 := Lib.hid hx; clear hx)
          go_ret
          exact ⟨rfl, (Y4.out.trans X5.out).trans X6.out⟩
  · have HCD := Lib.hid (fun (W : World) (A' : Option Addr) (c' : Nat) (h : RowsAt 2 Rg.enc W A' xs) => show Calls Tryz.prog 55 #[.slice A' n c', .int .i64 l] W fun e w' => e = .returned (.tuple #[.agg #[.int .i64 0, .int .i64 0], .int .i64 (caseE xs l)]) ∧ Ext W w' by
      have := caseDepth_any (ca := c') l HN.out h
      rw [if_neg hz, if_neg hz] at this
      exact this)
    have HC1 := Lib.hid (fun (W : World) (e : Ext w W) => HCE.out W l e)
    have hz' : (caseE xs l != 0) = true := by simp [hz]
    generalize caseE xs l = z at HCD HC1 hz hz'
    clear HCE
    go_enter Tryz.func10, Tryz.ntmps10
    go_wp2_with (go_at_call 13; refine (awake_any _).mono ?_; rintro e W0 ⟨rfl, hx⟩; have X0 := Lib.hid hx; clear hx; refine Hid.out ?_)
    refine Lib.hid ?_
    go_wp2_with (go_at_call 39; refine (copyRanges_any HN.out _ (HA.out.ext X0.out) (by omega) HNIL.out).mono ?_; rintro e W1 ⟨A', c', rfl, hro, hx⟩; have X1 := Lib.hid hx; have hro := Lib.hid hro; clear hx; refine Hid.out ?_)
    refine Lib.hid ?_
    go_wp2_with (go_at_call 55; refine (HCD.out _ _ _ hro.out).mono ?_; rintro e W2 ⟨rfl, hx⟩; have X2 := Lib.hid hx; clear hx hro; refine Hid.out ?_)
    refine Lib.hid ?_
    go_wp2_with (go_at_call 56; refine (HC1.out _ ((X0.out.trans X1.out).trans (X2.out.trans (Ext.alloc _ _)))).mono ?_; rintro e W3 ⟨rfl, hx⟩; have X3 := Lib.hid hx; have B1 := Lib.hid ((Blk.new W2 66 #[.int .i64 0, .int .i64 0]).ext hx); have Y3 := Lib.hid (((X0.out.trans X1.out).trans (X2.out.trans (Ext.alloc _ _))).trans hx); clear hx X0 X1 X2; refine Hid.out ?_)
    refine Lib.hid ?_
    have y0 : W3.cell? ⟨W2.heap.size, 0, none⟩ = some (.int .i64 0) := B1.out.cell 0
    have y1 : W3.cell? ⟨W2.heap.size, 1, none⟩ = some (.int .i64 0) := B1.out.cell 1
    clear HCD HC1
    go_wp2
    go_ret
    exact ⟨rfl, Y3.out⟩

end Go.Proofs.YtkmekbafjnlfkaaGreat
