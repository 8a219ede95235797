/- The reference of bows. -/
import Derived.Test.YtjdilmmpdlcimaaX3
import Derived.Lib.MinMax
import Derived.Deep.DeepCutAuto
import Derived.BigRegion
import Derived.Laws.AppendOwn
import Derived.Laws.AppendOwnNone

namespace Go.Proofs.Ytjdilmmpdlcimaa
open Go.RowKit Go.Shelf Go.Mem Go.RegInv
attribute [local go_sem] RelUpon_value RelUpon_skip RelUpon_enter BigFrame.eval_const BigFrame.eval_global BigFrame.eval_func


set_option maxRecDepth 100000 in
set_option maxHeartbeats 4000000 in
theorem refBows_any {A : Option Addr} {n ca : Nat} {xs : List Sn} {w : World} (hn : xs.length = n) (hA : RowsAt 3 Sn.enc w A xs) (hz : stnsE xs = 0) :
    Calls Try.prog 59 #[.slice A n ca] w fun e w' => ∃ B, (∃ c, e = .returned (.slice B n c)) ∧ RowsAt 4 Bw.enc w' B (bowsL xs n) ∧ Ext w w' := by
  obtain ⟨⟨h2, h20⟩, hst, -⟩ := stnsE_ok hz
  have HST := Lib.hid hst
  have HBT := Lib.hid (fun i (hi : i < xs.length) => stns_between hz hi)
  have HA := Lib.hid hA
  have HN := Lib.hid hn
  have h20n : n ≤ 20 := by omega
  obtain ⟨m, hm⟩ : ∃ m, m = n - 1 := ⟨_, rfl⟩
  have HM := Lib.hid (show n = m + 1 ∧ 1 ≤ m by omega)
  have HLN := Lib.hid (show xs.length - 1 = m by omega)
  rw [HLN.out] at HBT
  clear hn hA hz hst h2 h20 hm
  obtain ⟨b, o, hAe, hb, hc⟩ := row_at HA.out (getD_some (xs := xs) (i := 0) (by have := HN.out; have := HM.out; omega))
  subst hAe
  obtain ⟨b2, o2, he2, hb2, hc2⟩ := row_at HA.out (getD_some (xs := xs) (i := m) (by have := HN.out; have := HM.out; omega))
  obtain ⟨rfl, rfl⟩ : b = b2 ∧ o = o2 := by simpa using he2
  have c0 : w.cell? ⟨b, o, none⟩ = some (.int .i64 (xs.getD 0 default).t) := by simpa using hc 0 _ rfl
  have c1 : w.cell? ⟨b, o + 1, none⟩ = some (.int .i64 (xs.getD 0 default).x) := by simpa using hc 1 _ rfl
  have c2 : w.cell? ⟨b, o + 2, none⟩ = some (.int .i64 (xs.getD 0 default).y) := by simpa using hc 2 _ rfl
  have d0 : w.cell? ⟨b, o + m * 3, none⟩ = some (.int .i64 (xs.getD m default).t) := hc2 0 _ rfl
  have d1 : w.cell? ⟨b, o + m * 3 + 1, none⟩ = some (.int .i64 (xs.getD m default).x) := hc2 1 _ rfl
  have d2 : w.cell? ⟨b, o + m * 3 + 2, none⟩ = some (.int .i64 (xs.getD m default).y) := hc2 2 _ rfl
  have g1 : (0 : Int) < (n : Int) := by have := HM.out; omega
  have g2 : 0 < n := by omega
  have g3 : (n : Int) - 1 < (n : Int) := by omega
  have g4 : (0 : Int) ≤ (n : Int) - 1 := by omega
  have g5 : ((n : Int) - 1).toNat = m := by have := HM.out; omega
  have g6 : IntKind.i64.wrap ((n : Int) - 1) = (n : Int) - 1 := wrap_id _ (by omega) (by omega)
  have g7 : n - 1 = m := by have := HM.out; omega
  have g8 : m < n := by have := HM.out; omega
  have g9 : 1 ≤ n := by omega
  have HF := Lib.hid (HST.out 0 (by have := HN.out; omega))
  have HL := Lib.hid (HST.out m (by have := HN.out; omega))
  generalize hfe : xs.getD 0 default = f at *
  generalize hle : xs.getD m default = l at *
  have HFE := Lib.hid hfe
  have HLE := Lib.hid hle
  clear hc hc2 hb2 he2 hfe hle
  go_enter Try.func59, Try.ntmps59
  go_upto_region 1 with (fail)
  go_region
  all_goals clear c0 c1 c2 d0 d1 d2 g1 g2 g3 g4 g5 g6 g7 g8 g9 hb
  · obtain ⟨W1, hV⟩ : ∃ V, V = ((w.alloc (.cells #[.int .i64 f.t, .int .i64 f.x, .int .i64 f.y] 109)).alloc (.cells #[.int .i64 l.t, .int .i64 l.x, .int .i64 l.y] 109)).drew := ⟨_, rfl⟩
    rw [← hV]
    have E0 := Lib.hid (show Ext w W1 by rw [hV]; exact ((Ext.alloc _ _).trans (Ext.alloc _ _)).trans (Ext.drew _))
    have Ka := Lib.hid (show Blk W1 (w.heap.size) 109 #[.int .i64 f.t, .int .i64 f.x, .int .i64 f.y] by rw [hV]; exact ((Blk.new _ _ _).alloc _).drew)
    have Kb := Lib.hid (show Blk W1 (w.heap.size + 1) 109 #[.int .i64 l.t, .int .i64 l.x, .int .i64 l.y] by rw [hV]; exact (Blk.newAt _ _ _ (by simp)).drew)
    clear hV
    have K3 := Ka
    have K4 := Kb
    clear Ka Kb
    go_wp2
    go_loopw [5, 6] (fun v i wr => ∃ (k c : Nat) (R : Option Addr), k ≤ n ∧ i = .int .i64 (k : Int) ∧ v = .slice R k c ∧ wr.ownsRow W1.heap.size 107 4 (.slice R k c) k ((bowsL xs k).flatMap Bw.enc) ∧ Ext W1 wr) (fun _ i _ => n - (intOf i).toNat)
    case atStart => exact ⟨0, 0, none, Nat.zero_le _, rfl, rfl, own_none _ _ _ _, Ext.refl _⟩
    case round =>
      obtain ⟨k, c, R, hk, rfl, rfl, ho, hx⟩ := hrel
      have X := Lib.hid (E0.out.trans hx)
      have X0 := Lib.hid hx
      have O := Lib.hid ho
      have SZ := Lib.hid (show W1.heap.size ≤ wr.heap.size from hx.size)
      have K3r := Lib.hid (K3.out.ext hx)
      have K4r := Lib.hid (K4.out.ext hx)
      clear hx ho
      by_cases hlt : k < n
      · obtain ⟨b2, o2, he2, hb, hc⟩ := row_at (HA.out.ext X.out) (getD_some (xs := xs) (i := k) (by have := HN.out; omega))
        obtain ⟨rfl, rfl⟩ : b = b2 ∧ o = o2 := by simpa using he2
        have HS := Lib.hid (bowsL_succ xs k)
        rw [HLN.out] at HS
        have HBXo := Lib.hid (fun W => off_any (xs.getD k default).x f.x l.x ((xs.getD k default).t - f.t) (l.t - f.t) (HBT.out k (by have := HN.out; omega)).1 (HBT.out k (by have := HN.out; omega)).2 (HST.out k (by have := HN.out; omega)).2.1 HF.out.2.1 HL.out.2.1 W)
        have HBYo := Lib.hid (fun W => off_any (xs.getD k default).y f.y l.y ((xs.getD k default).t - f.t) (l.t - f.t) (HBT.out k (by have := HN.out; omega)).1 (HBT.out k (by have := HN.out; omega)).2 (HST.out k (by have := HN.out; omega)).2.2 HF.out.2.2 HL.out.2.2 W)
        have HWB := Lib.hid (HBT.out k (by have := HN.out; omega))
        rw [HFE.out, HLE.out] at HS
        generalize xs.getD k default = x at *
        rw [show bowS f x l = ((bowR x.x f.x l.x (x.t - f.t) (l.t - f.t)), (bowR x.y f.y l.y (x.t - f.t) (l.t - f.t))) from rfl] at HS
        have HBX := Lib.hid HBXo.out
        have HBY := Lib.hid HBYo.out
        clear HBXo HBYo
        generalize hb1 : (bowR x.x f.x l.x (x.t - f.t) (l.t - f.t)) = b1 at *
        generalize hb2' : (bowR x.y f.y l.y (x.t - f.t) (l.t - f.t)) = b2' at *
        clear hb1 hb2'
        obtain ⟨bw, hbw⟩ : ∃ bw : Bw, bw = (b1, b2') := ⟨_, rfl⟩
        have hbw1 : b1 = bw.1 := by rw [hbw]
        have hbw2 : b2' = bw.2 := by rw [hbw]
        rw [← hbw] at HS
        rw [hbw1] at HBX
        rw [hbw2] at HBY
        clear hbw hbw1 hbw2
        have hki : (k : Int) < (n : Int) := by omega
        clear he2 hb
        obtain ⟨V, hV⟩ : ∃ V, V = wr := ⟨_, rfl⟩
        rw [← hV] at X X0 O SZ K3r K4r hc ⊢
        clear hV
        have c0 : V.cell? ⟨b, o + k * 3, none⟩ = some (.int .i64 x.t) := hc 0 _ rfl
        have c1 : V.cell? ⟨b, o + k * 3 + 1, none⟩ = some (.int .i64 x.x) := hc 1 _ rfl
        have c2 : V.cell? ⟨b, o + k * 3 + 2, none⟩ = some (.int .i64 x.y) := hc 2 _ rfl
        clear hc
        have p0 : V.cell? ⟨w.heap.size, 0, none⟩ = some (.int .i64 f.t) := K3r.out.cell 0
        have p1 : V.cell? ⟨w.heap.size, 1, none⟩ = some (.int .i64 f.x) := K3r.out.cell 1
        have p2 : V.cell? ⟨w.heap.size, 2, none⟩ = some (.int .i64 f.y) := K3r.out.cell 2
        have s0 : V.cell? ⟨w.heap.size + 1, 0, none⟩ = some (.int .i64 l.t) := K4r.out.cell 0
        have s1 : V.cell? ⟨w.heap.size + 1, 1, none⟩ = some (.int .i64 l.x) := K4r.out.cell 1
        have s2 : V.cell? ⟨w.heap.size + 1, 2, none⟩ = some (.int .i64 l.y) := K4r.out.cell 2
        go_upto_region 6 with (fail)
        refine wp_region_partR 49 [some 22, some 23, some 24, some 25, some 26, some 27, some 28, some 29, some 30, some 31, some 32, some 33, some 34, some 35, some 36, some 37, some 38, some 39, some 40, some 41, some 42, some 43, some 44, some 45, some 46, some 47, some 48, some 49, some 50, some 51, some 52, some 53, some 54, some 55, some 56, some 57, some 58, some 59, some 60, some 61, some 62, some 63, some 64, some 65, some 66, some 67, some 68, some 69, some 70] [[5], [0], [6], [23, 24], [25], [26], [3], [28], [4], [30], [0], [6], [32, 33], [34], [35], [3], [37], [36, 38], [4], [40], [3], [42], [41, 43], [27, 29, 31, 39, 44], [0], [6], [46, 47], [48], [49], [3], [51], [4], [53], [0], [6], [55, 56], [57], [58], [3], [60], [59, 61], [4], [63], [3], [65], [64, 66], [50, 52, 54, 62, 67], [45, 68], [69]]
          [Is (.slice R k c), Is (.slice (some ⟨b, o, none⟩) n ca), Is (.int .i64 ((k : Int))), Is (.pointer (some ⟨b, o + k * 3, none⟩)), Is (.pointer (some ⟨b, o + k * 3 + 1, none⟩)), Is (.int .i64 (x.x)), Is (.pointer (some ⟨w.heap.size, 1, none⟩)), Is (.int .i64 (f.x)), Is (.pointer (some ⟨w.heap.size + 1, 1, none⟩)), Is (.int .i64 (l.x)), Is (.slice (some ⟨b, o, none⟩) n ca), Is (.int .i64 ((k : Int))), Is (.pointer (some ⟨b, o + k * 3, none⟩)), Is (.pointer (some ⟨b, o + k * 3, none⟩)), Is (.int .i64 (x.t)), Is (.pointer (some ⟨w.heap.size, 0, none⟩)), Is (.int .i64 (f.t)), Is (.int .i64 (x.t - f.t)), Is (.pointer (some ⟨w.heap.size + 1, 0, none⟩)), Is (.int .i64 (l.t)), Is (.pointer (some ⟨w.heap.size, 0, none⟩)), Is (.int .i64 (f.t)), Is (.int .i64 (l.t - f.t)), Is (.agg #[.int .i64 bw.1.1, .int .i64 bw.1.2]), Is (.slice (some ⟨b, o, none⟩) n ca), Is (.int .i64 ((k : Int))), Is (.pointer (some ⟨b, o + k * 3, none⟩)), Is (.pointer (some ⟨b, o + k * 3 + 2, none⟩)), Is (.int .i64 (x.y)), Is (.pointer (some ⟨w.heap.size, 2, none⟩)), Is (.int .i64 (f.y)), Is (.pointer (some ⟨w.heap.size + 1, 2, none⟩)), Is (.int .i64 (l.y)), Is (.slice (some ⟨b, o, none⟩) n ca), Is (.int .i64 ((k : Int))), Is (.pointer (some ⟨b, o + k * 3, none⟩)), Is (.pointer (some ⟨b, o + k * 3, none⟩)), Is (.int .i64 (x.t)), Is (.pointer (some ⟨w.heap.size, 0, none⟩)), Is (.int .i64 (f.t)), Is (.int .i64 (x.t - f.t)), Is (.pointer (some ⟨w.heap.size + 1, 0, none⟩)), Is (.int .i64 (l.t)), Is (.pointer (some ⟨w.heap.size, 0, none⟩)), Is (.int .i64 (f.t)), Is (.int .i64 (l.t - f.t)), Is (.agg #[.int .i64 bw.2.1, .int .i64 bw.2.2]), Is (.agg #[.int .i64 bw.1.1, .int .i64 bw.1.2, .int .i64 bw.2.1, .int .i64 bw.2.2]), SlP 107 #[.int .i64 bw.1.1, .int .i64 bw.1.2, .int .i64 bw.2.1, .int .i64 bw.2.2]]
          (by kernel_rfl) (by kernel_rfl) (by kernel_rfl) (by kernel_rfl) (by kernel_rfl) (by kernel_rfl) (by kernel_rfl) Ext (fun W => Ext V W)
          (fun W _ => Ext.refl W) (fun W W' h k => h.trans k) ?_ (Ext.drew _) ?_ ?_
        · repeat (refine ⟨fun _ _ _ _ k h => (by first | exact h | exact (by first | exact IntsAt.ext h k | exact SlP.ext h k)), ?_⟩)
          exact trivial
        · refine ⟨?_, ?_, ?_, ?_, ?_, ?_, ?_, ?_, ?_, ?_, ?_, ?_, ?_, ?_, ?_, ?_, ?_, ?_, ?_, ?_, ?_, ?_, ?_, ?_, ?_, ?_, ?_, ?_, ?_, ?_, ?_, ?_, ?_, ?_, ?_, ?_, ?_, ?_, ?_, ?_, ?_, ?_, ?_, ?_, ?_, ?_, ?_, ?_, ?_, trivial⟩
          all_goals intro ρ W ⟨kc, kg, kf⟩ hF hs
          · obtain ⟨h0, -⟩ := hs
            replace h0 : ρ (.tmp 5) = .slice R k c := h0
            go_simp
            exact ⟨Ext.refl _, rfl⟩
          · obtain ⟨h0, -⟩ := hs
            replace h0 : ρ (.tmp 0) = .slice (some ⟨b, o, none⟩) n ca := h0
            go_simp
            exact ⟨Ext.refl _, rfl⟩
          · obtain ⟨h0, -⟩ := hs
            replace h0 : ρ (.tmp 6) = .int .i64 ((k : Int)) := h0
            go_simp
            exact ⟨Ext.refl _, rfl⟩
          · obtain ⟨h0, h1, -⟩ := hs
            replace h0 : ρ (.tmp 23) = .slice (some ⟨b, o, none⟩) n ca := h0
            replace h1 : ρ (.tmp 24) = .int .i64 ((k : Int)) := h1
            have hb1 : (k : Int) < (n : Int) := by omega
            have hb3 : (0 : Int) ≤ (k : Int) := by omega
            have hb4 : ((k : Int)).toNat = k := by omega
            have hb8 : k < n := by omega
            go_simp
            exact ⟨Ext.refl _, rfl⟩
          · obtain ⟨h0, -⟩ := hs
            replace h0 : ρ (.tmp 25) = .pointer (some ⟨b, o + k * 3, none⟩) := h0
            go_simp
            exact ⟨Ext.refl _, rfl⟩
          · obtain ⟨h0, -⟩ := hs
            replace h0 : ρ (.tmp 26) = .pointer (some ⟨b, o + k * 3 + 1, none⟩) := h0
            have hc0 : W.cell? ⟨b, o + k * 3 + 1, none⟩ = some (.int .i64 (x.x)) := hF.cell (by assumption)
            go_simp
            exact ⟨Ext.refl _, rfl⟩
          · obtain ⟨h0, -⟩ := hs
            replace h0 : ρ (.tmp 3) = .pointer (some ⟨w.heap.size, 0, none⟩) := h0
            go_simp
            exact ⟨Ext.refl _, rfl⟩
          · obtain ⟨h0, -⟩ := hs
            replace h0 : ρ (.tmp 28) = .pointer (some ⟨w.heap.size, 1, none⟩) := h0
            have hc0 : W.cell? ⟨w.heap.size, 1, none⟩ = some (.int .i64 (f.x)) := hF.cell (by assumption)
            go_simp
            exact ⟨Ext.refl _, rfl⟩
          · obtain ⟨h0, -⟩ := hs
            replace h0 : ρ (.tmp 4) = .pointer (some ⟨w.heap.size + 1, 0, none⟩) := h0
            go_simp
            exact ⟨Ext.refl _, rfl⟩
          · obtain ⟨h0, -⟩ := hs
            replace h0 : ρ (.tmp 30) = .pointer (some ⟨w.heap.size + 1, 1, none⟩) := h0
            have hc0 : W.cell? ⟨w.heap.size + 1, 1, none⟩ = some (.int .i64 (l.x)) := hF.cell (by assumption)
            go_simp
            exact ⟨Ext.refl _, rfl⟩
          · obtain ⟨h0, -⟩ := hs
            replace h0 : ρ (.tmp 0) = .slice (some ⟨b, o, none⟩) n ca := h0
            go_simp
            exact ⟨Ext.refl _, rfl⟩
          · obtain ⟨h0, -⟩ := hs
            replace h0 : ρ (.tmp 6) = .int .i64 ((k : Int)) := h0
            go_simp
            exact ⟨Ext.refl _, rfl⟩
          · obtain ⟨h0, h1, -⟩ := hs
            replace h0 : ρ (.tmp 32) = .slice (some ⟨b, o, none⟩) n ca := h0
            replace h1 : ρ (.tmp 33) = .int .i64 ((k : Int)) := h1
            have hb1 : (k : Int) < (n : Int) := by omega
            have hb3 : (0 : Int) ≤ (k : Int) := by omega
            have hb4 : ((k : Int)).toNat = k := by omega
            have hb8 : k < n := by omega
            go_simp
            exact ⟨Ext.refl _, rfl⟩
          · obtain ⟨h0, -⟩ := hs
            replace h0 : ρ (.tmp 34) = .pointer (some ⟨b, o + k * 3, none⟩) := h0
            go_simp
            exact ⟨Ext.refl _, rfl⟩
          · obtain ⟨h0, -⟩ := hs
            replace h0 : ρ (.tmp 35) = .pointer (some ⟨b, o + k * 3, none⟩) := h0
            have hc0 : W.cell? ⟨b, o + k * 3, none⟩ = some (.int .i64 (x.t)) := hF.cell (by assumption)
            go_simp
            exact ⟨Ext.refl _, rfl⟩
          · obtain ⟨h0, -⟩ := hs
            replace h0 : ρ (.tmp 3) = .pointer (some ⟨w.heap.size, 0, none⟩) := h0
            go_simp
            exact ⟨Ext.refl _, rfl⟩
          · obtain ⟨h0, -⟩ := hs
            replace h0 : ρ (.tmp 37) = .pointer (some ⟨w.heap.size, 0, none⟩) := h0
            have hc0 : W.cell? ⟨w.heap.size, 0, none⟩ = some (.int .i64 (f.t)) := hF.cell (by assumption)
            go_simp
            exact ⟨Ext.refl _, rfl⟩
          · obtain ⟨h0, h1, -⟩ := hs
            replace h0 : ρ (.tmp 36) = .int .i64 (x.t) := h0
            replace h1 : ρ (.tmp 38) = .int .i64 (f.t) := h1
            have hw : IntKind.i64.wrap (x.t - f.t) = x.t - f.t := wrap_id _ (by have := HWB.out; omega) (by have := HWB.out; omega)
            go_simp
            exact ⟨Ext.refl _, rfl⟩
          · obtain ⟨h0, -⟩ := hs
            replace h0 : ρ (.tmp 4) = .pointer (some ⟨w.heap.size + 1, 0, none⟩) := h0
            go_simp
            exact ⟨Ext.refl _, rfl⟩
          · obtain ⟨h0, -⟩ := hs
            replace h0 : ρ (.tmp 40) = .pointer (some ⟨w.heap.size + 1, 0, none⟩) := h0
            have hc0 : W.cell? ⟨w.heap.size + 1, 0, none⟩ = some (.int .i64 (l.t)) := hF.cell (by assumption)
            go_simp
            exact ⟨Ext.refl _, rfl⟩
          · obtain ⟨h0, -⟩ := hs
            replace h0 : ρ (.tmp 3) = .pointer (some ⟨w.heap.size, 0, none⟩) := h0
            go_simp
            exact ⟨Ext.refl _, rfl⟩
          · obtain ⟨h0, -⟩ := hs
            replace h0 : ρ (.tmp 42) = .pointer (some ⟨w.heap.size, 0, none⟩) := h0
            have hc0 : W.cell? ⟨w.heap.size, 0, none⟩ = some (.int .i64 (f.t)) := hF.cell (by assumption)
            go_simp
            exact ⟨Ext.refl _, rfl⟩
          · obtain ⟨h0, h1, -⟩ := hs
            replace h0 : ρ (.tmp 41) = .int .i64 (l.t) := h0
            replace h1 : ρ (.tmp 43) = .int .i64 (f.t) := h1
            have hw : IntKind.i64.wrap (l.t - f.t) = l.t - f.t := wrap_id _ (by have := HWB.out; omega) (by have := HWB.out; omega)
            go_simp
            exact ⟨Ext.refl _, rfl⟩
          · obtain ⟨h0, h1, h2, h3, h4, -⟩ := hs
            replace h0 : ρ (.tmp 27) = .int .i64 (x.x) := h0
            replace h1 : ρ (.tmp 29) = .int .i64 (f.x) := h1
            replace h2 : ρ (.tmp 31) = .int .i64 (l.x) := h2
            replace h3 : ρ (.tmp 39) = .int .i64 (x.t - f.t) := h3
            replace h4 : ρ (.tmp 44) = .int .i64 (l.t - f.t) := h4
            go_simp
            refine (HBX.out _).mono ?_; rintro e w' ⟨rfl, hx⟩; exact ⟨_, rfl, hx, rfl⟩
          · obtain ⟨h0, -⟩ := hs
            replace h0 : ρ (.tmp 0) = .slice (some ⟨b, o, none⟩) n ca := h0
            go_simp
            exact ⟨Ext.refl _, rfl⟩
          · obtain ⟨h0, -⟩ := hs
            replace h0 : ρ (.tmp 6) = .int .i64 ((k : Int)) := h0
            go_simp
            exact ⟨Ext.refl _, rfl⟩
          · obtain ⟨h0, h1, -⟩ := hs
            replace h0 : ρ (.tmp 46) = .slice (some ⟨b, o, none⟩) n ca := h0
            replace h1 : ρ (.tmp 47) = .int .i64 ((k : Int)) := h1
            have hb1 : (k : Int) < (n : Int) := by omega
            have hb3 : (0 : Int) ≤ (k : Int) := by omega
            have hb4 : ((k : Int)).toNat = k := by omega
            have hb8 : k < n := by omega
            go_simp
            exact ⟨Ext.refl _, rfl⟩
          · obtain ⟨h0, -⟩ := hs
            replace h0 : ρ (.tmp 48) = .pointer (some ⟨b, o + k * 3, none⟩) := h0
            go_simp
            exact ⟨Ext.refl _, rfl⟩
          · obtain ⟨h0, -⟩ := hs
            replace h0 : ρ (.tmp 49) = .pointer (some ⟨b, o + k * 3 + 2, none⟩) := h0
            have hc0 : W.cell? ⟨b, o + k * 3 + 2, none⟩ = some (.int .i64 (x.y)) := hF.cell (by assumption)
            go_simp
            exact ⟨Ext.refl _, rfl⟩
          · obtain ⟨h0, -⟩ := hs
            replace h0 : ρ (.tmp 3) = .pointer (some ⟨w.heap.size, 0, none⟩) := h0
            go_simp
            exact ⟨Ext.refl _, rfl⟩
          · obtain ⟨h0, -⟩ := hs
            replace h0 : ρ (.tmp 51) = .pointer (some ⟨w.heap.size, 2, none⟩) := h0
            have hc0 : W.cell? ⟨w.heap.size, 2, none⟩ = some (.int .i64 (f.y)) := hF.cell (by assumption)
            go_simp
            exact ⟨Ext.refl _, rfl⟩
          · obtain ⟨h0, -⟩ := hs
            replace h0 : ρ (.tmp 4) = .pointer (some ⟨w.heap.size + 1, 0, none⟩) := h0
            go_simp
            exact ⟨Ext.refl _, rfl⟩
          · obtain ⟨h0, -⟩ := hs
            replace h0 : ρ (.tmp 53) = .pointer (some ⟨w.heap.size + 1, 2, none⟩) := h0
            have hc0 : W.cell? ⟨w.heap.size + 1, 2, none⟩ = some (.int .i64 (l.y)) := hF.cell (by assumption)
            go_simp
            exact ⟨Ext.refl _, rfl⟩
          · obtain ⟨h0, -⟩ := hs
            replace h0 : ρ (.tmp 0) = .slice (some ⟨b, o, none⟩) n ca := h0
            go_simp
            exact ⟨Ext.refl _, rfl⟩
          · obtain ⟨h0, -⟩ := hs
            replace h0 : ρ (.tmp 6) = .int .i64 ((k : Int)) := h0
            go_simp
            exact ⟨Ext.refl _, rfl⟩
          · obtain ⟨h0, h1, -⟩ := hs
            replace h0 : ρ (.tmp 55) = .slice (some ⟨b, o, none⟩) n ca := h0
            replace h1 : ρ (.tmp 56) = .int .i64 ((k : Int)) := h1
            have hb1 : (k : Int) < (n : Int) := by omega
            have hb3 : (0 : Int) ≤ (k : Int) := by omega
            have hb4 : ((k : Int)).toNat = k := by omega
            have hb8 : k < n := by omega
            go_simp
            exact ⟨Ext.refl _, rfl⟩
          · obtain ⟨h0, -⟩ := hs
            replace h0 : ρ (.tmp 57) = .pointer (some ⟨b, o + k * 3, none⟩) := h0
            go_simp
            exact ⟨Ext.refl _, rfl⟩
          · obtain ⟨h0, -⟩ := hs
            replace h0 : ρ (.tmp 58) = .pointer (some ⟨b, o + k * 3, none⟩) := h0
            have hc0 : W.cell? ⟨b, o + k * 3, none⟩ = some (.int .i64 (x.t)) := hF.cell (by assumption)
            go_simp
            exact ⟨Ext.refl _, rfl⟩
          · obtain ⟨h0, -⟩ := hs
            replace h0 : ρ (.tmp 3) = .pointer (some ⟨w.heap.size, 0, none⟩) := h0
            go_simp
            exact ⟨Ext.refl _, rfl⟩
          · obtain ⟨h0, -⟩ := hs
            replace h0 : ρ (.tmp 60) = .pointer (some ⟨w.heap.size, 0, none⟩) := h0
            have hc0 : W.cell? ⟨w.heap.size, 0, none⟩ = some (.int .i64 (f.t)) := hF.cell (by assumption)
            go_simp
            exact ⟨Ext.refl _, rfl⟩
          · obtain ⟨h0, h1, -⟩ := hs
            replace h0 : ρ (.tmp 59) = .int .i64 (x.t) := h0
            replace h1 : ρ (.tmp 61) = .int .i64 (f.t) := h1
            have hw : IntKind.i64.wrap (x.t - f.t) = x.t - f.t := wrap_id _ (by have := HWB.out; omega) (by have := HWB.out; omega)
            go_simp
            exact ⟨Ext.refl _, rfl⟩
          · obtain ⟨h0, -⟩ := hs
            replace h0 : ρ (.tmp 4) = .pointer (some ⟨w.heap.size + 1, 0, none⟩) := h0
            go_simp
            exact ⟨Ext.refl _, rfl⟩
          · obtain ⟨h0, -⟩ := hs
            replace h0 : ρ (.tmp 63) = .pointer (some ⟨w.heap.size + 1, 0, none⟩) := h0
            have hc0 : W.cell? ⟨w.heap.size + 1, 0, none⟩ = some (.int .i64 (l.t)) := hF.cell (by assumption)
            go_simp
            exact ⟨Ext.refl _, rfl⟩
          · obtain ⟨h0, -⟩ := hs
            replace h0 : ρ (.tmp 3) = .pointer (some ⟨w.heap.size, 0, none⟩) := h0
            go_simp
            exact ⟨Ext.refl _, rfl⟩
          · obtain ⟨h0, -⟩ := hs
            replace h0 : ρ (.tmp 65) = .pointer (some ⟨w.heap.size, 0, none⟩) := h0
            have hc0 : W.cell? ⟨w.heap.size, 0, none⟩ = some (.int .i64 (f.t)) := hF.cell (by assumption)
            go_simp
            exact ⟨Ext.refl _, rfl⟩
          · obtain ⟨h0, h1, -⟩ := hs
            replace h0 : ρ (.tmp 64) = .int .i64 (l.t) := h0
            replace h1 : ρ (.tmp 66) = .int .i64 (f.t) := h1
            have hw : IntKind.i64.wrap (l.t - f.t) = l.t - f.t := wrap_id _ (by have := HWB.out; omega) (by have := HWB.out; omega)
            go_simp
            exact ⟨Ext.refl _, rfl⟩
          · obtain ⟨h0, h1, h2, h3, h4, -⟩ := hs
            replace h0 : ρ (.tmp 50) = .int .i64 (x.y) := h0
            replace h1 : ρ (.tmp 52) = .int .i64 (f.y) := h1
            replace h2 : ρ (.tmp 54) = .int .i64 (l.y) := h2
            replace h3 : ρ (.tmp 62) = .int .i64 (x.t - f.t) := h3
            replace h4 : ρ (.tmp 67) = .int .i64 (l.t - f.t) := h4
            go_simp
            refine (HBY.out _).mono ?_; rintro e w' ⟨rfl, hx⟩; exact ⟨_, rfl, hx, rfl⟩
          · obtain ⟨h0, h1, -⟩ := hs
            replace h0 : ρ (.tmp 45) = .agg #[.int .i64 bw.1.1, .int .i64 bw.1.2] := h0
            replace h1 : ρ (.tmp 68) = .agg #[.int .i64 bw.2.1, .int .i64 bw.2.2] := h1
            go_simp
            exact ⟨Ext.refl _, rfl⟩
          · obtain ⟨h0, -⟩ := hs
            replace h0 : ρ (.tmp 69) = .agg #[.int .i64 bw.1.1, .int .i64 bw.1.2, .int .i64 bw.2.1, .int .i64 bw.2.2] := h0
            go_simp
            exact ⟨Ext.alloc _ _, _, rfl, Blk.new _ _ _⟩
        · intro fv V1 hF hs
          obtain ⟨h22, -, -, -, -, -, -, -, -, -, -, -, -, -, -, -, -, -, -, -, -, -, -, -, -, -, -, -, -, -, -, -, -, -, -, -, -, -, -, -, -, -, -, -, -, -, -, -, h70, -⟩ := hs
          replace h22 : fv 22 = .slice R k c := h22
          replace h70 : (SlP 107 #[.int .i64 bw.1.1, .int .i64 bw.1.2, .int .i64 bw.2.1, .int .i64 bw.2.2]) (fv 70) V1 := h70
          simp only [fin, List.filterMap]
          go_simp
          obtain ⟨q70, hq70, hQ2⟩ := h70
          rw [hq70]
          have Q2 := Lib.hid hQ2
          have hx6 := Lib.hid hF
          clear hq70 hQ2 hF c0 c1 c2 p0 p1 p2 s0 s1 s2
          go_wp2_with
            (refine append_Bw (own_ext O.out hx6.out) (by omega) (by have := SZ.out; have := hx6.out.size; omega) Q2.out rfl (.tmp 22) (.tmp 70) rfl rfl rfl rfl ?_
             intro R' c' w2 hown' hkb hxe hgs
             have O2 := Lib.hid hown'
             have X2 := Lib.hid (hxe W1 (X0.out.trans hx6.out) (Nat.le_refl _))
             clear hown' hkb hxe hgs)
          go_roundw
          case rel => exact ⟨k + 1, _, _, by omega, by go_num, rfl, by rw [HS.out]; exact O2.out, X2.out⟩
          case measure => simp [intOf]; omega
      · obtain rfl : k = n := by omega
        have hkn : ¬ (k : Int) < (k : Int) := by omega
        have H := Lib.hid (show RowsAt 4 Bw.enc wr R (bowsL xs k) from rows_own (bowsL_len _ _) (fun _ => rfl) O.out (by omega))
        go_wp2
        go_ret
        exact ⟨R, ⟨c, rfl⟩, H.out, X.out⟩
  · obtain ⟨W1, hV⟩ : ∃ V, V = ((w.alloc (.cells #[.int .i64 l.t, .int .i64 l.x, .int .i64 l.y] 109)).alloc (.cells #[.int .i64 f.t, .int .i64 f.x, .int .i64 f.y] 109)).drew := ⟨_, rfl⟩
    rw [← hV]
    have E0 := Lib.hid (show Ext w W1 by rw [hV]; exact ((Ext.alloc _ _).trans (Ext.alloc _ _)).trans (Ext.drew _))
    have Ka := Lib.hid (show Blk W1 (w.heap.size) 109 #[.int .i64 l.t, .int .i64 l.x, .int .i64 l.y] by rw [hV]; exact ((Blk.new _ _ _).alloc _).drew)
    have Kb := Lib.hid (show Blk W1 (w.heap.size + 1) 109 #[.int .i64 f.t, .int .i64 f.x, .int .i64 f.y] by rw [hV]; exact (Blk.newAt _ _ _ (by simp)).drew)
    clear hV
    have K3 := Kb
    have K4 := Ka
    clear Ka Kb
    go_wp2
    go_loopw [5, 6] (fun v i wr => ∃ (k c : Nat) (R : Option Addr), k ≤ n ∧ i = .int .i64 (k : Int) ∧ v = .slice R k c ∧ wr.ownsRow W1.heap.size 107 4 (.slice R k c) k ((bowsL xs k).flatMap Bw.enc) ∧ Ext W1 wr) (fun _ i _ => n - (intOf i).toNat)
    case atStart => exact ⟨0, 0, none, Nat.zero_le _, rfl, rfl, own_none _ _ _ _, Ext.refl _⟩
    case round =>
      obtain ⟨k, c, R, hk, rfl, rfl, ho, hx⟩ := hrel
      have X := Lib.hid (E0.out.trans hx)
      have X0 := Lib.hid hx
      have O := Lib.hid ho
      have SZ := Lib.hid (show W1.heap.size ≤ wr.heap.size from hx.size)
      have K3r := Lib.hid (K3.out.ext hx)
      have K4r := Lib.hid (K4.out.ext hx)
      clear hx ho
      by_cases hlt : k < n
      · obtain ⟨b2, o2, he2, hb, hc⟩ := row_at (HA.out.ext X.out) (getD_some (xs := xs) (i := k) (by have := HN.out; omega))
        obtain ⟨rfl, rfl⟩ : b = b2 ∧ o = o2 := by simpa using he2
        have HS := Lib.hid (bowsL_succ xs k)
        rw [HLN.out] at HS
        have HBXo := Lib.hid (fun W => off_any (xs.getD k default).x f.x l.x ((xs.getD k default).t - f.t) (l.t - f.t) (HBT.out k (by have := HN.out; omega)).1 (HBT.out k (by have := HN.out; omega)).2 (HST.out k (by have := HN.out; omega)).2.1 HF.out.2.1 HL.out.2.1 W)
        have HBYo := Lib.hid (fun W => off_any (xs.getD k default).y f.y l.y ((xs.getD k default).t - f.t) (l.t - f.t) (HBT.out k (by have := HN.out; omega)).1 (HBT.out k (by have := HN.out; omega)).2 (HST.out k (by have := HN.out; omega)).2.2 HF.out.2.2 HL.out.2.2 W)
        have HWB := Lib.hid (HBT.out k (by have := HN.out; omega))
        rw [HFE.out, HLE.out] at HS
        generalize xs.getD k default = x at *
        rw [show bowS f x l = ((bowR x.x f.x l.x (x.t - f.t) (l.t - f.t)), (bowR x.y f.y l.y (x.t - f.t) (l.t - f.t))) from rfl] at HS
        have HBX := Lib.hid HBXo.out
        have HBY := Lib.hid HBYo.out
        clear HBXo HBYo
        generalize hb1 : (bowR x.x f.x l.x (x.t - f.t) (l.t - f.t)) = b1 at *
        generalize hb2' : (bowR x.y f.y l.y (x.t - f.t) (l.t - f.t)) = b2' at *
        clear hb1 hb2'
        obtain ⟨bw, hbw⟩ : ∃ bw : Bw, bw = (b1, b2') := ⟨_, rfl⟩
        have hbw1 : b1 = bw.1 := by rw [hbw]
        have hbw2 : b2' = bw.2 := by rw [hbw]
        rw [← hbw] at HS
        rw [hbw1] at HBX
        rw [hbw2] at HBY
        clear hbw hbw1 hbw2
        have hki : (k : Int) < (n : Int) := by omega
        clear he2 hb
        obtain ⟨V, hV⟩ : ∃ V, V = wr := ⟨_, rfl⟩
        rw [← hV] at X X0 O SZ K3r K4r hc ⊢
        clear hV
        have c0 : V.cell? ⟨b, o + k * 3, none⟩ = some (.int .i64 x.t) := hc 0 _ rfl
        have c1 : V.cell? ⟨b, o + k * 3 + 1, none⟩ = some (.int .i64 x.x) := hc 1 _ rfl
        have c2 : V.cell? ⟨b, o + k * 3 + 2, none⟩ = some (.int .i64 x.y) := hc 2 _ rfl
        clear hc
        have p0 : V.cell? ⟨w.heap.size + 1, 0, none⟩ = some (.int .i64 f.t) := K3r.out.cell 0
        have p1 : V.cell? ⟨w.heap.size + 1, 1, none⟩ = some (.int .i64 f.x) := K3r.out.cell 1
        have p2 : V.cell? ⟨w.heap.size + 1, 2, none⟩ = some (.int .i64 f.y) := K3r.out.cell 2
        have s0 : V.cell? ⟨w.heap.size, 0, none⟩ = some (.int .i64 l.t) := K4r.out.cell 0
        have s1 : V.cell? ⟨w.heap.size, 1, none⟩ = some (.int .i64 l.x) := K4r.out.cell 1
        have s2 : V.cell? ⟨w.heap.size, 2, none⟩ = some (.int .i64 l.y) := K4r.out.cell 2
        go_upto_region 6 with (fail)
        refine wp_region_partR 49 [some 22, some 23, some 24, some 25, some 26, some 27, some 28, some 29, some 30, some 31, some 32, some 33, some 34, some 35, some 36, some 37, some 38, some 39, some 40, some 41, some 42, some 43, some 44, some 45, some 46, some 47, some 48, some 49, some 50, some 51, some 52, some 53, some 54, some 55, some 56, some 57, some 58, some 59, some 60, some 61, some 62, some 63, some 64, some 65, some 66, some 67, some 68, some 69, some 70] [[5], [0], [6], [23, 24], [25], [26], [3], [28], [4], [30], [0], [6], [32, 33], [34], [35], [3], [37], [36, 38], [4], [40], [3], [42], [41, 43], [27, 29, 31, 39, 44], [0], [6], [46, 47], [48], [49], [3], [51], [4], [53], [0], [6], [55, 56], [57], [58], [3], [60], [59, 61], [4], [63], [3], [65], [64, 66], [50, 52, 54, 62, 67], [45, 68], [69]]
          [Is (.slice R k c), Is (.slice (some ⟨b, o, none⟩) n ca), Is (.int .i64 ((k : Int))), Is (.pointer (some ⟨b, o + k * 3, none⟩)), Is (.pointer (some ⟨b, o + k * 3 + 1, none⟩)), Is (.int .i64 (x.x)), Is (.pointer (some ⟨w.heap.size + 1, 1, none⟩)), Is (.int .i64 (f.x)), Is (.pointer (some ⟨w.heap.size, 1, none⟩)), Is (.int .i64 (l.x)), Is (.slice (some ⟨b, o, none⟩) n ca), Is (.int .i64 ((k : Int))), Is (.pointer (some ⟨b, o + k * 3, none⟩)), Is (.pointer (some ⟨b, o + k * 3, none⟩)), Is (.int .i64 (x.t)), Is (.pointer (some ⟨w.heap.size + 1, 0, none⟩)), Is (.int .i64 (f.t)), Is (.int .i64 (x.t - f.t)), Is (.pointer (some ⟨w.heap.size, 0, none⟩)), Is (.int .i64 (l.t)), Is (.pointer (some ⟨w.heap.size + 1, 0, none⟩)), Is (.int .i64 (f.t)), Is (.int .i64 (l.t - f.t)), Is (.agg #[.int .i64 bw.1.1, .int .i64 bw.1.2]), Is (.slice (some ⟨b, o, none⟩) n ca), Is (.int .i64 ((k : Int))), Is (.pointer (some ⟨b, o + k * 3, none⟩)), Is (.pointer (some ⟨b, o + k * 3 + 2, none⟩)), Is (.int .i64 (x.y)), Is (.pointer (some ⟨w.heap.size + 1, 2, none⟩)), Is (.int .i64 (f.y)), Is (.pointer (some ⟨w.heap.size, 2, none⟩)), Is (.int .i64 (l.y)), Is (.slice (some ⟨b, o, none⟩) n ca), Is (.int .i64 ((k : Int))), Is (.pointer (some ⟨b, o + k * 3, none⟩)), Is (.pointer (some ⟨b, o + k * 3, none⟩)), Is (.int .i64 (x.t)), Is (.pointer (some ⟨w.heap.size + 1, 0, none⟩)), Is (.int .i64 (f.t)), Is (.int .i64 (x.t - f.t)), Is (.pointer (some ⟨w.heap.size, 0, none⟩)), Is (.int .i64 (l.t)), Is (.pointer (some ⟨w.heap.size + 1, 0, none⟩)), Is (.int .i64 (f.t)), Is (.int .i64 (l.t - f.t)), Is (.agg #[.int .i64 bw.2.1, .int .i64 bw.2.2]), Is (.agg #[.int .i64 bw.1.1, .int .i64 bw.1.2, .int .i64 bw.2.1, .int .i64 bw.2.2]), SlP 107 #[.int .i64 bw.1.1, .int .i64 bw.1.2, .int .i64 bw.2.1, .int .i64 bw.2.2]]
          (by kernel_rfl) (by kernel_rfl) (by kernel_rfl) (by kernel_rfl) (by kernel_rfl) (by kernel_rfl) (by kernel_rfl) Ext (fun W => Ext V W)
          (fun W _ => Ext.refl W) (fun W W' h k => h.trans k) ?_ (Ext.drew _) ?_ ?_
        · repeat (refine ⟨fun _ _ _ _ k h => (by first | exact h | exact (by first | exact IntsAt.ext h k | exact SlP.ext h k)), ?_⟩)
          exact trivial
        · refine ⟨?_, ?_, ?_, ?_, ?_, ?_, ?_, ?_, ?_, ?_, ?_, ?_, ?_, ?_, ?_, ?_, ?_, ?_, ?_, ?_, ?_, ?_, ?_, ?_, ?_, ?_, ?_, ?_, ?_, ?_, ?_, ?_, ?_, ?_, ?_, ?_, ?_, ?_, ?_, ?_, ?_, ?_, ?_, ?_, ?_, ?_, ?_, ?_, ?_, trivial⟩
          all_goals intro ρ W ⟨kc, kg, kf⟩ hF hs
          · obtain ⟨h0, -⟩ := hs
            replace h0 : ρ (.tmp 5) = .slice R k c := h0
            go_simp
            exact ⟨Ext.refl _, rfl⟩
          · obtain ⟨h0, -⟩ := hs
            replace h0 : ρ (.tmp 0) = .slice (some ⟨b, o, none⟩) n ca := h0
            go_simp
            exact ⟨Ext.refl _, rfl⟩
          · obtain ⟨h0, -⟩ := hs
            replace h0 : ρ (.tmp 6) = .int .i64 ((k : Int)) := h0
            go_simp
            exact ⟨Ext.refl _, rfl⟩
          · obtain ⟨h0, h1, -⟩ := hs
            replace h0 : ρ (.tmp 23) = .slice (some ⟨b, o, none⟩) n ca := h0
            replace h1 : ρ (.tmp 24) = .int .i64 ((k : Int)) := h1
            have hb1 : (k : Int) < (n : Int) := by omega
            have hb3 : (0 : Int) ≤ (k : Int) := by omega
            have hb4 : ((k : Int)).toNat = k := by omega
            have hb8 : k < n := by omega
            go_simp
            exact ⟨Ext.refl _, rfl⟩
          · obtain ⟨h0, -⟩ := hs
            replace h0 : ρ (.tmp 25) = .pointer (some ⟨b, o + k * 3, none⟩) := h0
            go_simp
            exact ⟨Ext.refl _, rfl⟩
          · obtain ⟨h0, -⟩ := hs
            replace h0 : ρ (.tmp 26) = .pointer (some ⟨b, o + k * 3 + 1, none⟩) := h0
            have hc0 : W.cell? ⟨b, o + k * 3 + 1, none⟩ = some (.int .i64 (x.x)) := hF.cell (by assumption)
            go_simp
            exact ⟨Ext.refl _, rfl⟩
          · obtain ⟨h0, -⟩ := hs
            replace h0 : ρ (.tmp 3) = .pointer (some ⟨w.heap.size + 1, 0, none⟩) := h0
            go_simp
            exact ⟨Ext.refl _, rfl⟩
          · obtain ⟨h0, -⟩ := hs
            replace h0 : ρ (.tmp 28) = .pointer (some ⟨w.heap.size + 1, 1, none⟩) := h0
            have hc0 : W.cell? ⟨w.heap.size + 1, 1, none⟩ = some (.int .i64 (f.x)) := hF.cell (by assumption)
            go_simp
            exact ⟨Ext.refl _, rfl⟩
          · obtain ⟨h0, -⟩ := hs
            replace h0 : ρ (.tmp 4) = .pointer (some ⟨w.heap.size, 0, none⟩) := h0
            go_simp
            exact ⟨Ext.refl _, rfl⟩
          · obtain ⟨h0, -⟩ := hs
            replace h0 : ρ (.tmp 30) = .pointer (some ⟨w.heap.size, 1, none⟩) := h0
            have hc0 : W.cell? ⟨w.heap.size, 1, none⟩ = some (.int .i64 (l.x)) := hF.cell (by assumption)
            go_simp
            exact ⟨Ext.refl _, rfl⟩
          · obtain ⟨h0, -⟩ := hs
            replace h0 : ρ (.tmp 0) = .slice (some ⟨b, o, none⟩) n ca := h0
            go_simp
            exact ⟨Ext.refl _, rfl⟩
          · obtain ⟨h0, -⟩ := hs
            replace h0 : ρ (.tmp 6) = .int .i64 ((k : Int)) := h0
            go_simp
            exact ⟨Ext.refl _, rfl⟩
          · obtain ⟨h0, h1, -⟩ := hs
            replace h0 : ρ (.tmp 32) = .slice (some ⟨b, o, none⟩) n ca := h0
            replace h1 : ρ (.tmp 33) = .int .i64 ((k : Int)) := h1
            have hb1 : (k : Int) < (n : Int) := by omega
            have hb3 : (0 : Int) ≤ (k : Int) := by omega
            have hb4 : ((k : Int)).toNat = k := by omega
            have hb8 : k < n := by omega
            go_simp
            exact ⟨Ext.refl _, rfl⟩
          · obtain ⟨h0, -⟩ := hs
            replace h0 : ρ (.tmp 34) = .pointer (some ⟨b, o + k * 3, none⟩) := h0
            go_simp
            exact ⟨Ext.refl _, rfl⟩
          · obtain ⟨h0, -⟩ := hs
            replace h0 : ρ (.tmp 35) = .pointer (some ⟨b, o + k * 3, none⟩) := h0
            have hc0 : W.cell? ⟨b, o + k * 3, none⟩ = some (.int .i64 (x.t)) := hF.cell (by assumption)
            go_simp
            exact ⟨Ext.refl _, rfl⟩
          · obtain ⟨h0, -⟩ := hs
            replace h0 : ρ (.tmp 3) = .pointer (some ⟨w.heap.size + 1, 0, none⟩) := h0
            go_simp
            exact ⟨Ext.refl _, rfl⟩
          · obtain ⟨h0, -⟩ := hs
            replace h0 : ρ (.tmp 37) = .pointer (some ⟨w.heap.size + 1, 0, none⟩) := h0
            have hc0 : W.cell? ⟨w.heap.size + 1, 0, none⟩ = some (.int .i64 (f.t)) := hF.cell (by assumption)
            go_simp
            exact ⟨Ext.refl _, rfl⟩
          · obtain ⟨h0, h1, -⟩ := hs
            replace h0 : ρ (.tmp 36) = .int .i64 (x.t) := h0
            replace h1 : ρ (.tmp 38) = .int .i64 (f.t) := h1
            have hw : IntKind.i64.wrap (x.t - f.t) = x.t - f.t := wrap_id _ (by have := HWB.out; omega) (by have := HWB.out; omega)
            go_simp
            exact ⟨Ext.refl _, rfl⟩
          · obtain ⟨h0, -⟩ := hs
            replace h0 : ρ (.tmp 4) = .pointer (some ⟨w.heap.size, 0, none⟩) := h0
            go_simp
            exact ⟨Ext.refl _, rfl⟩
          · obtain ⟨h0, -⟩ := hs
            replace h0 : ρ (.tmp 40) = .pointer (some ⟨w.heap.size, 0, none⟩) := h0
            have hc0 : W.cell? ⟨w.heap.size, 0, none⟩ = some (.int .i64 (l.t)) := hF.cell (by assumption)
            go_simp
            exact ⟨Ext.refl _, rfl⟩
          · obtain ⟨h0, -⟩ := hs
            replace h0 : ρ (.tmp 3) = .pointer (some ⟨w.heap.size + 1, 0, none⟩) := h0
            go_simp
            exact ⟨Ext.refl _, rfl⟩
          · obtain ⟨h0, -⟩ := hs
            replace h0 : ρ (.tmp 42) = .pointer (some ⟨w.heap.size + 1, 0, none⟩) := h0
            have hc0 : W.cell? ⟨w.heap.size + 1, 0, none⟩ = some (.int .i64 (f.t)) := hF.cell (by assumption)
            go_simp
            exact ⟨Ext.refl _, rfl⟩
          · obtain ⟨h0, h1, -⟩ := hs
            replace h0 : ρ (.tmp 41) = .int .i64 (l.t) := h0
            replace h1 : ρ (.tmp 43) = .int .i64 (f.t) := h1
            have hw : IntKind.i64.wrap (l.t - f.t) = l.t - f.t := wrap_id _ (by have := HWB.out; omega) (by have := HWB.out; omega)
            go_simp
            exact ⟨Ext.refl _, rfl⟩
          · obtain ⟨h0, h1, h2, h3, h4, -⟩ := hs
            replace h0 : ρ (.tmp 27) = .int .i64 (x.x) := h0
            replace h1 : ρ (.tmp 29) = .int .i64 (f.x) := h1
            replace h2 : ρ (.tmp 31) = .int .i64 (l.x) := h2
            replace h3 : ρ (.tmp 39) = .int .i64 (x.t - f.t) := h3
            replace h4 : ρ (.tmp 44) = .int .i64 (l.t - f.t) := h4
            go_simp
            refine (HBX.out _).mono ?_; rintro e w' ⟨rfl, hx⟩; exact ⟨_, rfl, hx, rfl⟩
          · obtain ⟨h0, -⟩ := hs
            replace h0 : ρ (.tmp 0) = .slice (some ⟨b, o, none⟩) n ca := h0
            go_simp
            exact ⟨Ext.refl _, rfl⟩
          · obtain ⟨h0, -⟩ := hs
            replace h0 : ρ (.tmp 6) = .int .i64 ((k : Int)) := h0
            go_simp
            exact ⟨Ext.refl _, rfl⟩
          · obtain ⟨h0, h1, -⟩ := hs
            replace h0 : ρ (.tmp 46) = .slice (some ⟨b, o, none⟩) n ca := h0
            replace h1 : ρ (.tmp 47) = .int .i64 ((k : Int)) := h1
            have hb1 : (k : Int) < (n : Int) := by omega
            have hb3 : (0 : Int) ≤ (k : Int) := by omega
            have hb4 : ((k : Int)).toNat = k := by omega
            have hb8 : k < n := by omega
            go_simp
            exact ⟨Ext.refl _, rfl⟩
          · obtain ⟨h0, -⟩ := hs
            replace h0 : ρ (.tmp 48) = .pointer (some ⟨b, o + k * 3, none⟩) := h0
            go_simp
            exact ⟨Ext.refl _, rfl⟩
          · obtain ⟨h0, -⟩ := hs
            replace h0 : ρ (.tmp 49) = .pointer (some ⟨b, o + k * 3 + 2, none⟩) := h0
            have hc0 : W.cell? ⟨b, o + k * 3 + 2, none⟩ = some (.int .i64 (x.y)) := hF.cell (by assumption)
            go_simp
            exact ⟨Ext.refl _, rfl⟩
          · obtain ⟨h0, -⟩ := hs
            replace h0 : ρ (.tmp 3) = .pointer (some ⟨w.heap.size + 1, 0, none⟩) := h0
            go_simp
            exact ⟨Ext.refl _, rfl⟩
          · obtain ⟨h0, -⟩ := hs
            replace h0 : ρ (.tmp 51) = .pointer (some ⟨w.heap.size + 1, 2, none⟩) := h0
            have hc0 : W.cell? ⟨w.heap.size + 1, 2, none⟩ = some (.int .i64 (f.y)) := hF.cell (by assumption)
            go_simp
            exact ⟨Ext.refl _, rfl⟩
          · obtain ⟨h0, -⟩ := hs
            replace h0 : ρ (.tmp 4) = .pointer (some ⟨w.heap.size, 0, none⟩) := h0
            go_simp
            exact ⟨Ext.refl _, rfl⟩
          · obtain ⟨h0, -⟩ := hs
            replace h0 : ρ (.tmp 53) = .pointer (some ⟨w.heap.size, 2, none⟩) := h0
            have hc0 : W.cell? ⟨w.heap.size, 2, none⟩ = some (.int .i64 (l.y)) := hF.cell (by assumption)
            go_simp
            exact ⟨Ext.refl _, rfl⟩
          · obtain ⟨h0, -⟩ := hs
            replace h0 : ρ (.tmp 0) = .slice (some ⟨b, o, none⟩) n ca := h0
            go_simp
            exact ⟨Ext.refl _, rfl⟩
          · obtain ⟨h0, -⟩ := hs
            replace h0 : ρ (.tmp 6) = .int .i64 ((k : Int)) := h0
            go_simp
            exact ⟨Ext.refl _, rfl⟩
          · obtain ⟨h0, h1, -⟩ := hs
            replace h0 : ρ (.tmp 55) = .slice (some ⟨b, o, none⟩) n ca := h0
            replace h1 : ρ (.tmp 56) = .int .i64 ((k : Int)) := h1
            have hb1 : (k : Int) < (n : Int) := by omega
            have hb3 : (0 : Int) ≤ (k : Int) := by omega
            have hb4 : ((k : Int)).toNat = k := by omega
            have hb8 : k < n := by omega
            go_simp
            exact ⟨Ext.refl _, rfl⟩
          · obtain ⟨h0, -⟩ := hs
            replace h0 : ρ (.tmp 57) = .pointer (some ⟨b, o + k * 3, none⟩) := h0
            go_simp
            exact ⟨Ext.refl _, rfl⟩
          · obtain ⟨h0, -⟩ := hs
            replace h0 : ρ (.tmp 58) = .pointer (some ⟨b, o + k * 3, none⟩) := h0
            have hc0 : W.cell? ⟨b, o + k * 3, none⟩ = some (.int .i64 (x.t)) := hF.cell (by assumption)
            go_simp
            exact ⟨Ext.refl _, rfl⟩
          · obtain ⟨h0, -⟩ := hs
            replace h0 : ρ (.tmp 3) = .pointer (some ⟨w.heap.size + 1, 0, none⟩) := h0
            go_simp
            exact ⟨Ext.refl _, rfl⟩
          · obtain ⟨h0, -⟩ := hs
            replace h0 : ρ (.tmp 60) = .pointer (some ⟨w.heap.size + 1, 0, none⟩) := h0
            have hc0 : W.cell? ⟨w.heap.size + 1, 0, none⟩ = some (.int .i64 (f.t)) := hF.cell (by assumption)
            go_simp
            exact ⟨Ext.refl _, rfl⟩
          · obtain ⟨h0, h1, -⟩ := hs
            replace h0 : ρ (.tmp 59) = .int .i64 (x.t) := h0
            replace h1 : ρ (.tmp 61) = .int .i64 (f.t) := h1
            have hw : IntKind.i64.wrap (x.t - f.t) = x.t - f.t := wrap_id _ (by have := HWB.out; omega) (by have := HWB.out; omega)
            go_simp
            exact ⟨Ext.refl _, rfl⟩
          · obtain ⟨h0, -⟩ := hs
            replace h0 : ρ (.tmp 4) = .pointer (some ⟨w.heap.size, 0, none⟩) := h0
            go_simp
            exact ⟨Ext.refl _, rfl⟩
          · obtain ⟨h0, -⟩ := hs
            replace h0 : ρ (.tmp 63) = .pointer (some ⟨w.heap.size, 0, none⟩) := h0
            have hc0 : W.cell? ⟨w.heap.size, 0, none⟩ = some (.int .i64 (l.t)) := hF.cell (by assumption)
            go_simp
            exact ⟨Ext.refl _, rfl⟩
          · obtain ⟨h0, -⟩ := hs
            replace h0 : ρ (.tmp 3) = .pointer (some ⟨w.heap.size + 1, 0, none⟩) := h0
            go_simp
            exact ⟨Ext.refl _, rfl⟩
          · obtain ⟨h0, -⟩ := hs
            replace h0 : ρ (.tmp 65) = .pointer (some ⟨w.heap.size + 1, 0, none⟩) := h0
            have hc0 : W.cell? ⟨w.heap.size + 1, 0, none⟩ = some (.int .i64 (f.t)) := hF.cell (by assumption)
            go_simp
            exact ⟨Ext.refl _, rfl⟩
          · obtain ⟨h0, h1, -⟩ := hs
            replace h0 : ρ (.tmp 64) = .int .i64 (l.t) := h0
            replace h1 : ρ (.tmp 66) = .int .i64 (f.t) := h1
            have hw : IntKind.i64.wrap (l.t - f.t) = l.t - f.t := wrap_id _ (by have := HWB.out; omega) (by have := HWB.out; omega)
            go_simp
            exact ⟨Ext.refl _, rfl⟩
          · obtain ⟨h0, h1, h2, h3, h4, -⟩ := hs
            replace h0 : ρ (.tmp 50) = .int .i64 (x.y) := h0
            replace h1 : ρ (.tmp 52) = .int .i64 (f.y) := h1
            replace h2 : ρ (.tmp 54) = .int .i64 (l.y) := h2
            replace h3 : ρ (.tmp 62) = .int .i64 (x.t - f.t) := h3
            replace h4 : ρ (.tmp 67) = .int .i64 (l.t - f.t) := h4
            go_simp
            refine (HBY.out _).mono ?_; rintro e w' ⟨rfl, hx⟩; exact ⟨_, rfl, hx, rfl⟩
          · obtain ⟨h0, h1, -⟩ := hs
            replace h0 : ρ (.tmp 45) = .agg #[.int .i64 bw.1.1, .int .i64 bw.1.2] := h0
            replace h1 : ρ (.tmp 68) = .agg #[.int .i64 bw.2.1, .int .i64 bw.2.2] := h1
            go_simp
            exact ⟨Ext.refl _, rfl⟩
          · obtain ⟨h0, -⟩ := hs
            replace h0 : ρ (.tmp 69) = .agg #[.int .i64 bw.1.1, .int .i64 bw.1.2, .int .i64 bw.2.1, .int .i64 bw.2.2] := h0
            go_simp
            exact ⟨Ext.alloc _ _, _, rfl, Blk.new _ _ _⟩
        · intro fv V1 hF hs
          obtain ⟨h22, -, -, -, -, -, -, -, -, -, -, -, -, -, -, -, -, -, -, -, -, -, -, -, -, -, -, -, -, -, -, -, -, -, -, -, -, -, -, -, -, -, -, -, -, -, -, -, h70, -⟩ := hs
          replace h22 : fv 22 = .slice R k c := h22
          replace h70 : (SlP 107 #[.int .i64 bw.1.1, .int .i64 bw.1.2, .int .i64 bw.2.1, .int .i64 bw.2.2]) (fv 70) V1 := h70
          simp only [fin, List.filterMap]
          go_simp
          obtain ⟨q70, hq70, hQ2⟩ := h70
          rw [hq70]
          have Q2 := Lib.hid hQ2
          have hx6 := Lib.hid hF
          clear hq70 hQ2 hF c0 c1 c2 p0 p1 p2 s0 s1 s2
          go_wp2_with
            (refine append_Bw (own_ext O.out hx6.out) (by omega) (by have := SZ.out; have := hx6.out.size; omega) Q2.out rfl (.tmp 22) (.tmp 70) rfl rfl rfl rfl ?_
             intro R' c' w2 hown' hkb hxe hgs
             have O2 := Lib.hid hown'
             have X2 := Lib.hid (hxe W1 (X0.out.trans hx6.out) (Nat.le_refl _))
             clear hown' hkb hxe hgs)
          go_roundw
          case rel => exact ⟨k + 1, _, _, by omega, by go_num, rfl, by rw [HS.out]; exact O2.out, X2.out⟩
          case measure => simp [intOf]; omega
      · obtain rfl : k = n := by omega
        have hkn : ¬ (k : Int) < (k : Int) := by omega
        have H := Lib.hid (show RowsAt 4 Bw.enc wr R (bowsL xs k) from rows_own (bowsL_len _ _) (fun _ => rfl) O.out (by omega))
        go_wp2
        go_ret
        exact ⟨R, ⟨c, rfl⟩, H.out, X.out⟩

end Go.Proofs.Ytjdilmmpdlcimaa
