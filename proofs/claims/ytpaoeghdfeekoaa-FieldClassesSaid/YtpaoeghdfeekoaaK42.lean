/- FieldClasses: the reference's Ladders, its walk. -/
import Derived.Test.YtpaoeghdfeekoaaK41
namespace Go.Proofs.Ytpaoeghdfeekoaa
open Go.RowKit Go.Shelf Go.Mem Go.RegInv
attribute [local go_sem] RelUpon_value RelUpon_skip RelUpon_enter BigFrame.eval_const BigFrame.eval_global BigFrame.eval_func

set_option maxRecDepth 100000 in
set_option maxHeartbeats 8000000 in
theorem refLadders_any (t : Int) (A : Option Addr) (n ca : Nat) (ls : List Sh) (hn : ls.length = n) (R : Option Addr) (cr : Nat) (rs : List G) (hr : rs.length = n) (w : World)
    (hS : RowsAt 3 Sh.enc w A ls) (hR : RowsAt 2 G.enc w R rs) (hAn : A = none → ca = 0) (h1 : 1 ≤ n) (h4 : n ≤ 4) (hrs : ∀ r ∈ rs, 1 ≤ r.re ∧ r.re ≤ r.im ∧ r.im ≤ 4) :
    Calls Try.prog 124 #[.agg #[.int .i64 t, .slice A n ca, .slice R n cr]] w fun e w' => ∃ v, e = .returned v ∧ LadsB (fun _ => True) w' t v (membersK ls rs n) ∧ Ext w w' := by
  have HMS := Lib.hid (membersK_size ls rs n hn hr h4 hrs)
  have HML := Lib.hid (membersK_len ls rs n hn hr)
  have HN := Lib.hid hn
  have HR := Lib.hid hr
  have HRR := Lib.hid hR
  have HRS := Lib.hid hrs
  have HMK := Lib.hid (fun k s r => membersK_succ (ls := ls) (rs := rs) (k := k) (s := s) (r := r))
  have HEND := Lib.hid (show (membersK ls rs n).map (· ++ ls.drop n) = membersK ls rs n by rw [List.drop_of_length_le (by omega)]; simp)
  have HCL := Lib.hid (fun W (e : Ext w W) => copyLadder_own t A n ca ls hn W (hS.ext e) (by omega) hAn)
  obtain ⟨W0, hW0⟩ : ∃ W0, W0 = w.alloc (.cells #[.int .i64 t, .slice A n ca, .slice R n cr] 120) := ⟨_, rfl⟩
  have e0 : Ext w W0 := by rw [hW0]; exact Ext.alloc _ _
  have k0 : Blk W0 w.heap.size 120 #[.int .i64 t, .slice A n ca, .slice R n cr] := by rw [hW0]; exact Blk.new _ _ _
  have z0 : W0.cell? ⟨w.heap.size, 0, none⟩ = some (.int .i64 t) := k0.cell 0
  have z1 : W0.cell? ⟨w.heap.size, 1, none⟩ = some (.slice A n ca) := k0.cell 1
  have E0 := Lib.hid e0
  have K0 := Lib.hid k0
  clear hn hr hS hR hrs hAn e0 k0
  go_enter Try.func124, Try.ntmps124
  go_wp2_with (rw [← hW0]; clear hW0; go_at_call 19; refine (HCL.out _ E0.out).mono ?_; rintro e W5 ⟨A1, c1, rfl, ho, hx⟩; have hla := lad_own HN.out (by omega) ho; have X5 := Lib.hid hx; obtain ⟨g1, c1', cu1, hv, _, hk1, _⟩ := own_blk3 (gs := ls.map (·.g)) HN.out h1 (by omega) ho; obtain ⟨rfl, rfl⟩ : A1 = some ⟨g1, 0, none⟩ ∧ c1 = c1' := (by simpa using hv); have HLA := Lib.hid hla; clear ho hx hv hk1 hla z0 z1)
  obtain ⟨W1, hW1⟩ : ∃ W1, W1 = W5.alloc (.cells #[.int .i64 t, .slice (some ⟨g1, 0, none⟩) n c1] 24) := ⟨_, rfl⟩
  have hb1 : Blk W1 W5.heap.size 24 #[.int .i64 t, .slice (some ⟨g1, 0, none⟩) n c1] := by rw [hW1]; exact Blk.new _ _ _
  have x1 : Ext W5 W1 := by rw [hW1]; exact Ext.alloc _ _
  rw [← hW1]
  have LB0 := Lib.hid (show LadsB (fun _ => True) W1 t (.slice (some ⟨W5.heap.size, 0, none⟩) 1 1) ((membersK ls rs 0).map (· ++ ls.drop 0)) from ⟨W5.heap.size, 1, _, rfl, hb1, fun i x hx => by
    have hi := (List.getElem?_eq_some_iff.1 hx).1
    obtain rfl : i = 0 := by simpa [membersK] using hi
    obtain rfl : ls = x := by simpa [membersK] using hx
    exact ⟨rfl, some ⟨g1, 0, none⟩, c1, by rw [HN.out]; rfl, (fun h => by cases h), HLA.out.ext x1, (fun _ _ _ => trivial), (fun ad h => by simp only [Option.some.injEq] at h; rw [← h])⟩⟩)
  have E1 := Lib.hid (X5.out.trans x1)
  clear hW1 hb1 x1
  generalize W5.heap.size = b0 at *
  go_wp2
  go_loopw [4, 3] (fun i v wr => ∃ (k : Nat) (u : Value), k ≤ n ∧ i = .int .i64 k ∧ u = v ∧ LadsB (fun _ => True) wr t u ((membersK ls rs k).map (· ++ ls.drop k)) ∧ Ext W0 wr) (fun i _ _ => n - (intOf i).toNat)
  case atStart => exact ⟨0, _, Nat.zero_le _, rfl, rfl, LB0.out, E1.out⟩
  case round =>
    obtain ⟨wo, hwo⟩ : ∃ x, x = wr := ⟨_, rfl⟩
    subst hwo
    obtain ⟨k, v3, hk, rfl, rfl, hlb, he⟩ := hrel
    have HLB := Lib.hid hlb
    have HE := Lib.hid he
    have z2 : wo.cell? ⟨w.heap.size, 2, none⟩ = some (.slice R n cr) := (K0.out.ext he).cell 2
    clear hlb he
    by_cases hlt : k < n
    · obtain ⟨s, hs⟩ : ∃ s, ls[k]? = some s := ⟨_, List.getElem?_eq_getElem (by rw [HN.out]; exact hlt)⟩
      obtain ⟨r, hr⟩ : ∃ r, rs[k]? = some r := ⟨_, List.getElem?_eq_getElem (by rw [HR.out]; exact hlt)⟩
      obtain ⟨hr1, hr2, hr3⟩ := HRS.out r (List.mem_of_getElem? hr)
      have HMN := Lib.hid (HMK.out k s r hs hr)
      obtain ⟨bR, oR, eR, _, hcR⟩ := HRR.out.2 k r hr
      subst eR
      have HR0 := Lib.hid (show ∀ W, Ext wo W → W.cell? ⟨bR, oR + k * 2, none⟩ = some (.int .i64 r.re) ∧ W.cell? ⟨bR, oR + k * 2 + 1, none⟩ = some (.int .i64 r.im) ∧ W.cell? ⟨w.heap.size, 2, none⟩ = some (.slice (some ⟨bR, oR, none⟩) n cr) from
        fun W e => ⟨(E0.out.trans (HE.out.trans e)).cell (hcR 0 _ rfl), (E0.out.trans (HE.out.trans e)).cell (hcR 1 _ rfl), e.cell z2⟩)
      have HSK := Lib.hid hs
      obtain ⟨L, hL⟩ : ∃ L, L = membersK ls rs k := ⟨_, rfl⟩
      have HL := Lib.hid (show ∀ x ∈ L, x.length = k by rw [hL]; exact HML.out k hk)
      have hsz := HMS.out k hk
      rw [← hL] at HLB HMN hsz
      have hLc : L.length ≤ 256 := Nat.le_trans hsz.2 (Nat.le_trans (Nat.pow_le_pow_right (by decide) hk) (Nat.le_trans (Nat.pow_le_pow_right (by decide) h4) (by decide)))
      obtain ⟨all, hall⟩ : ∃ all, all = L.map (· ++ ls.drop k) := ⟨_, rfl⟩
      rw [← hall] at HLB
      have HAT := Lib.hid (show ∀ (i : Nat) (x : List Sh), L[i]? = some x → all[i]? = some (x ++ ls.drop k) from fun i x h => by rw [hall, List.getElem?_map, h]; rfl)
      have hml : all.length = L.length := by rw [hall, List.length_map]
      obtain ⟨m3, hm3⟩ : ∃ m, m = all.length := ⟨_, rfl⟩
      obtain ⟨b3, c3, cu3, hv3, hb3, -⟩ := HLB.out
      rw [← hm3] at hv3
      subst hv3
      have hb3b : ∀ b o n c, (.slice (some ⟨b3, 0, none⟩) m3 c3 : Value) = .slice (some ⟨b, o, none⟩) n c → b < wo.heap.size := fun b o n c e => by
        simp only [Value.slice.injEq, Option.some.injEq, Addr.mk.injEq] at e
        have := hb3.lt
        omega
      have HB3B := Lib.hid hb3b
      obtain ⟨T, hT⟩ : ∃ T, T = ls.drop (k + 1) := ⟨_, rfl⟩
      have HTD := Lib.hid hT
      have INC := Lib.hid (show InL wo t all (.slice (some ⟨b3, 0, none⟩) m3 c3) wo.heap.size ((growAt L s r 0 0).map (· ++ T)) (.slice none 0 0) wo from
        ⟨⟨[], by rw [growAt_zero]; exact World.ownsRow_nil _ _ _ _, by rw [growAt_zero]; rfl, fun i x hx => by rw [growAt_zero] at hx; simp at hx⟩, HLB.out, Ext.refl _⟩)
      have HM3 := Lib.hid (show m3 = L.length by omega)
      have hm3b : m3 ≤ 256 := by omega
      have hki : (k : Int) < (n : Int) := by omega
      have hA3 := Lib.hid hm3
      clear hs hr hL hcR hb3 hb3b hall hml hT hm3
      go_wp2
      go_loopw [6, 5] (fun i v w2 => ∃ (i' : Nat) (u : Value), i' ≤ m3 ∧ i = .int .i64 i' ∧ u = v ∧ InL wo t all (.slice (some ⟨b3, 0, none⟩) m3 c3) wo.heap.size ((growAt L s r i' 0).map (· ++ T)) u w2) (fun i _ _ => m3 - (intOf i).toNat)
      case atStart => exact ⟨0, _, Nat.zero_le _, rfl, rfl, INC.out⟩
      case round =>
        obtain ⟨w2, hwo2⟩ : ∃ x, x = wr := ⟨_, rfl⟩
        subst hwo2
        obtain ⟨i', v7, hi', rfl, rfl, hinc⟩ := hrel
        have HI := Lib.hid hinc
        clear hinc
        by_cases hlt2 : i' < m3
        · obtain ⟨x, hx⟩ : ∃ x, L[i']? = some x := ⟨_, List.getElem?_eq_getElem (by rw [← HM3.out]; exact hlt2)⟩
          have hxk := HL.out x (List.mem_of_getElem? hx)
          have HG := Lib.hid (show L.getD i' [] = x by rw [List.getD, hx]; rfl)
          have HXK := Lib.hid hxk
          have HXA := Lib.hid (HAT.out i' x hx)
          have hii : (i' : Int) < (m3 : Int) := by omega
          obtain ⟨a0, a1, a2⟩ := HR0.out w2 HI.out.below
          have HROW := Lib.hid (growAt_row (L := L) (s := s) (r := r) (i := i') (by rw [← HM3.out]; exact hlt2) (j := (r.im - r.re + 1).toNat) (by rw [irange_len]; omega))
          clear hx hxk
          go_wp2
          go_loopw [7, 5] (fun nv v w3 => ∃ (j : Nat) (u : Value), (j : Int) ≤ r.im - r.re + 1 ∧ nv = .int .i64 (r.re + (j : Int)) ∧ u = v ∧ InL wo t all (.slice (some ⟨b3, 0, none⟩) m3 c3) wo.heap.size ((growAt L s r i' j).map (· ++ T)) u w3) (fun nv _ _ => (r.im + 1 - intOf nv).toNat)
          case atStart => exact ⟨0, _, by omega, by simp, rfl, HI.out⟩
          case round =>
            obtain ⟨w3, hwo3⟩ : ∃ x, x = wr := ⟨_, rfl⟩
            subst hwo3
            obtain ⟨j, v8, hj, rfl, rfl, hi8⟩ := hrel
            obtain ⟨a0, a1, a2⟩ := HR0.out w3 hi8.below
            have HI8 := Lib.hid hi8
            clear hi8
            by_cases hlt3 : r.re + (j : Int) ≤ r.im
            · obtain ⟨X, hX⟩ : ∃ X, X = x ++ ls.drop k := ⟨_, rfl⟩
              have HXX := Lib.hid hX
              have hXn : X.length = n := by rw [hX, List.length_append, List.length_drop, HXK.out, HN.out]; omega
              have HXN := Lib.hid hXn
              have HXS := Lib.hid (show X[k]? = some s by rw [hX]; exact mid_get HXK.out HSK.out)
              obtain ⟨b', c', cu', e', hb', hp'⟩ := HI8.out.all
              obtain ⟨p1, Ai, ci, p2, p3, p4⟩ := hp' i' X (by rw [hX]; exact HXA.out)
              obtain ⟨rfl, rfl⟩ : b3 = b' ∧ c3 = c' := by simp only [Value.slice.injEq, Option.some.injEq, Addr.mk.injEq] at e'; omega
              have q0 : w3.cell? ⟨b3, i' * 2, none⟩ = some (.int .i64 t) := by rw [hb'.cell]; exact p1
              have q1 : w3.cell? ⟨b3, i' * 2 + 1, none⟩ = some (.slice Ai n ci) := by rw [hb'.cell, ← hXn]; exact p2
              have HCX := Lib.hid (fun W (e : Ext w3 W) => copyLadder_own t Ai n ci X hXn W (p4.1.1.ext e) (by omega) (fun h => (p3 h).2))
              clear hX hXn e' hb' hp' p1 p2 p3 p4
              go_upto_region 14 with (go_at_call 19; refine (HCX.out _ (Ext.refl _)).mono ?_; rintro e W4 ⟨A4, c4, rfl, ho, hx4⟩; obtain ⟨g4, c4', cu4, hv4, hb4, hk4, hm4⟩ := own_blk3 (gs := X.map (·.g)) HXN.out h1 (by omega) ho; obtain ⟨rfl, rfl⟩ : A4 = some ⟨g4, 0, none⟩ ∧ c4 = c4' := (by simpa using hv4); have SH4 := Lib.hid (shIs_of hm4); have B4 := Lib.hid hk4; have X4 := Lib.hid hx4; have l4 := hk4.lt; have hge4 : w3.heap.size ≤ g4 := hb4; have s4 : (W4.alloc (.cells #[.int .i64 t, .slice (some ⟨g4, 0, none⟩) n c4] 24)).cell? ⟨g4, k * 3, none⟩ = some (.int .i64 s.g) := (by rw [(hk4.alloc _).cell]; exact ((shIs_of hm4).2 k s HXS.out).1); have f4 := (hk4.alloc (.cells #[.int .i64 t, .slice (some ⟨g4, 0, none⟩) n c4] 24)).free (k * 3); clear ho hx4 hv4 hb4 hk4 hm4)
              obtain ⟨Wa, hWa⟩ : ∃ Wa, Wa = (W4.setCell ⟨g4, k * 3, none⟩ (.int .i64 (r.re + (j : Int)))).alloc (.cells #[.int .i64 t, .slice (some ⟨g4, 0, none⟩) n c4] 24) := ⟨_, rfl⟩
              rw [← hWa]
              have ba := show Blk Wa W4.heap.size 24 #[.int .i64 t, .slice (some ⟨g4, 0, none⟩) n c4] by rw [hWa]; exact Blk.newAt _ _ _ (by simp)
              have bl := show Blk Wa g4 92 (cu4.setIfInBounds (k * 3) (.int .i64 (r.re + (j : Int)))) by rw [hWa]; exact (B4.out.setSame (k * 3) _).alloc _
              have xa : Ext w3 Wa := by rw [hWa]; exact (Ext.set X4.out (by dsimp only; omega) _).trans (Ext.alloc _ _)
              have hyX := set_mid (s' := { s with g := r.re + (j : Int) }) HXK.out HSK.out
              rw [← HXX.out, ← HTD.out] at hyX
              have la : LadAt Wa (some ⟨g4, 0, none⟩) ((x ++ [{ s with g := r.re + (j : Int) }]) ++ T) := by
                rw [← hyX]
                exact (SH4.out.set hlt HXS.out (r.re + (j : Int))).lad bl (by rw [List.length_set, HXN.out]) (by omega)
              have hyl : ((x ++ [{ s with g := r.re + (j : Int) }]) ++ T).length = n := by rw [← hyX, List.length_set, HXN.out]
              have HYL := Lib.hid hyl
              have LP := Lib.hid (show LadP (fun _ => True) Wa (some ⟨g4, 0, none⟩) ((x ++ [{ s with g := r.re + (j : Int) }]) ++ T) from ⟨la, (fun _ _ _ => trivial), (fun ad h => by simp only [Option.some.injEq] at h; rw [← h])⟩)
              obtain ⟨xs8, o1, o2, o3⟩ := (HI8.out.ext xa).own
              have O1 := Lib.hid o1
              have O2 := Lib.hid o2
              have O3 := Lib.hid o3
              have HM8 : ((growAt L s r i' j).map (· ++ T)).length ≤ 4000 := by
                rw [List.length_map]
                have h0 := growAt_size (L := L) (s := s) (r := r) i' j
                have h1 : (L.length + 1) * (r.im - r.re + 1).toNat ≤ (L.length + 1) * 4 := Nat.mul_le_mul_left _ (by omega)
                omega
              have hlo : wo.heap.size ≤ Wa.heap.size := by have := (HI8.out.below.trans xa).size; exact this
              have HNX := Lib.hid (show (growAt L s r i' (j + 1)).map (· ++ T) = (growAt L s r i' j).map (· ++ T) ++ [(x ++ [{ s with g := r.re + (j : Int) }]) ++ T] by rw [growAt_next (by omega), List.map_append, HG.out]; rfl)
              have IA := Lib.hid (HI8.out.ext xa)
              have d0 := ba.cell 0
              have d1 := ba.cell 1
              clear hWa ba bl xa hyX la hyl o1 o2 o3 s4 f4 a0 a1 a2 q0 q1
              go_wp2_with
                (refine append_lad (own_ext O1.out (Ext.alloc _ _)) HM8 (by simp only [World.size_alloc]; omega) (Blk.new _ _ _) rfl (.tmp 53) (.tmp 55) rfl rfl rfl ?_
                 intro u' w5 hown5 hgrow5
                 have NEW := Lib.hid (show InL wo t all (.slice (some ⟨b3, 0, none⟩) m3 c3) wo.heap.size ((growAt L s r i' (j + 1)).map (· ++ T)) u' w5 by
                   rw [HNX.out]
                   exact (IA.out.ext (Ext.alloc _ _)).push HB3B.out (Nat.le_refl _) (own_ext O1.out (Ext.alloc _ _)) O2.out (O3.out.keep (fun _ _ => rfl) (fun _ _ _ b => b.ext (Ext.alloc _ _)) (fun _ _ h _ => h)) (fun h => by cases h) (LP.out.keep (fun _ _ _ b => b.ext (Ext.alloc _ _)) (fun _ _ h _ => h)) (by rw [HYL.out]; exact hown5) hgrow5)
                 clear hown5 hgrow5)
              go_roundw
              case rel => exact ⟨j + 1, _, by omega, by go_num, rfl, NEW.out⟩
              case measure => simp [intOf]; omega
            · have hjE : j = (r.im - r.re + 1).toNat := by omega
              have HI9 := Lib.hid (show InL wo t all (.slice (some ⟨b3, 0, none⟩) m3 c3) wo.heap.size ((growAt L s r (i' + 1) 0).map (· ++ T)) v8 w3 by rw [← HROW.out, ← hjE]; exact HI8.out)
              clear hjE
              go_wp2
              go_roundw
              case rel => exact ⟨i' + 1, _, by omega, by go_num, rfl, HI9.out⟩
              case measure => simp [intOf]; omega
        · obtain rfl : m3 = i' := by omega
          have HF := Lib.hid (show LadsB (fun _ => True) w2 t v7 ((membersK ls rs (k + 1)).map (· ++ ls.drop (k + 1))) by
            obtain ⟨xs, o1, o2, o3⟩ := HI.out.own
            rw [growAt_end (by rw [HM3.out]; exact Nat.le_refl _), ← HMN.out, HTD.out] at o1 o3
            exact lads_own rfl (by rw [List.length_map]; exact (HMS.out (k + 1) (by omega)).1) o1 o3)
          have HX := Lib.hid HI.out.below
          go_wp2
          go_roundw
          case rel => exact ⟨k + 1, _, by omega, by go_num, rfl, HF.out, HE.out.trans HX.out⟩
          case measure => simp [intOf]; omega
    · obtain rfl : n = k := by omega
      have HF := Lib.hid (show LadsB (fun _ => True) wo t v3 (membersK ls rs n) by rw [← HEND.out]; exact HLB.out)
      go_wp2
      go_ret
      exact ⟨_, rfl, HF.out, E0.out.trans HE.out⟩
end Go.Proofs.Ytpaoeghdfeekoaa
