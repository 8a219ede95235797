/- Knots one after the other. -/
import Derived.Test.YtkmekbafjnlfkaaGreatS3
import Derived.BigRegion
import Derived.Deep.RegionHeld3

namespace Go.Proofs.YtkmekbafjnlfkaaGreat
open Go.RowKit Go.Shelf Go.Mem Go.RegInv
attribute [local go_sem] RelUpon_value RelUpon_skip RelUpon_enter BigFrame.eval_const BigFrame.eval_global BigFrame.eval_func

def laterK (a b : Kn) : Bool := decide (a.k < b.k)
theorem later_any {a b : Kn} {u v : Value} {w : World} (ha : KnV a u w) (hb : KnV b v w) : Calls Tryz.prog 78 #[u, v] w fun e w' => e = .returned (.bool (laterK a b)) ∧ Ext w w' := by
  obtain ⟨A, n, ca, va, -, -, -, rfl, -, -⟩ := ha
  obtain ⟨B, m, cb, vb, -, -, -, rfl, -, -⟩ := hb
  go_enter Tryz.func78, Tryz.ntmps78
  go_wp2
  go_ret
  exact ⟨rfl, (Ext.alloc _ _).trans (Ext.alloc _ _)⟩

/-- No end of the first range is less. -/
def noLessK (a b : Kn) : Bool := decide ((b.rs.headD default).lo ≤ (a.rs.headD default).lo) && decide ((b.rs.headD default).hi ≤ (a.rs.headD default).hi)
theorem read0 {x : Kn} {u : Value} {w : World} (h : KnV x u w) (h1 : 1 ≤ x.rs.length) : ∃ b o n ca va, u = .agg #[.int .i64 x.k, .slice (some ⟨b, o, none⟩) n ca, va] ∧ 0 < n ∧ n ≤ 2 ∧ w.cell? ⟨b, o, none⟩ = some (.int .i64 (x.rs.headD default).lo) ∧ w.cell? ⟨b, o + 1, none⟩ = some (.int .i64 (x.rs.headD default).hi) := by
  obtain ⟨A, n, ca, va, HN, n2, _, rfl, hA, -⟩ := h
  have hn := HN.out
  obtain ⟨r, l, hr⟩ : ∃ r l, x.rs = r :: l := by
    cases hx : x.rs with
    | nil => rw [hx] at h1; simp at h1
    | cons r l => exact ⟨r, l, rfl⟩
  obtain ⟨b, o, rfl, _, hc⟩ := hA.2 0 r (by rw [hr]; rfl)
  refine ⟨b, o, n, ca, va, rfl, by omega, n2, ?_, ?_⟩
  · have := hc 0 _ rfl
    rw [hr]
    simpa using this
  · have := hc 1 _ rfl
    rw [hr]
    simpa using this

set_option maxRecDepth 100000 in
set_option maxHeartbeats 4000000 in
theorem noLess_any {a b : Kn} {u v : Value} {w : World} (ha : KnV a u w) (hb : KnV b v w) (h1 : 1 ≤ a.rs.length) (h2 : 1 ≤ b.rs.length) : Calls Tryz.prog 124 #[u, v] w fun e w' => e = .returned (.bool (noLessK a b)) ∧ Ext w w' := by
  obtain ⟨b1, o1, n, ca, va, rfl, hn, -, ca0, ca1⟩ := read0 ha h1
  obtain ⟨b2, o2, m, cb, vb, rfl, hm, -, cb0, cb1⟩ := read0 hb h2
  have HK := Lib.hid (show noLessK a b = (decide ((b.rs.headD default).lo ≤ (a.rs.headD default).lo) && decide ((b.rs.headD default).hi ≤ (a.rs.headD default).hi)) from rfl)
  clear ha hb h1 h2
  obtain ⟨W0, hW0⟩ : ∃ W0, W0 = (w.alloc (.cells #[.int .i64 a.k, .slice (some ⟨b1, o1, none⟩) n ca, va] 190)).alloc (.cells #[.int .i64 b.k, .slice (some ⟨b2, o2, none⟩) m cb, vb] 190) := ⟨_, rfl⟩
  have k0 : Blk W0 w.heap.size 190 #[.int .i64 a.k, .slice (some ⟨b1, o1, none⟩) n ca, va] := by rw [hW0]; exact (Blk.new _ _ _).alloc _
  have k1 : Blk W0 (w.heap.size + 1) 190 #[.int .i64 b.k, .slice (some ⟨b2, o2, none⟩) m cb, vb] := by rw [hW0]; exact Blk.newAt _ _ _ (by simp)
  have e0 : Ext w W0 := by rw [hW0]; exact (Ext.alloc _ _).trans (Ext.alloc _ _)
  have y0 : W0.cell? ⟨w.heap.size, 1, none⟩ = some (.slice (some ⟨b1, o1, none⟩) n ca) := k0.cell 1
  have y1 : W0.cell? ⟨w.heap.size + 1, 1, none⟩ = some (.slice (some ⟨b2, o2, none⟩) m cb) := k1.cell 1
  have x0 := e0.cell ca0
  have x1 := e0.cell ca1
  have x2 := e0.cell cb0
  have x3 := e0.cell cb1
  have E0 := Lib.hid e0
  have i0 := World.new_ne _ _ x0
  have i1 := World.new_ne _ _ x1
  have i2 := World.new_ne _ _ x2
  have i3 := World.new_ne _ _ x3
  have i4 := World.new_ne _ _ y0
  have i5 := World.new_ne _ _ y1
  generalize (a.rs.headD default).lo = al at *
  generalize (a.rs.headD default).hi = ah at *
  generalize (b.rs.headD default).lo = bl at *
  generalize (b.rs.headD default).hi = bh at *
  have hn' : (0 : Int) < (n : Int) := by omega
  have hm' : (0 : Int) < (m : Int) := by omega
  clear ca0 ca1 cb0 cb1 k0 k1 e0
  by_cases h : bl ≤ al
  all_goals
   go_enter Tryz.func124, Tryz.ntmps124
   go_wp2
   rw [← hW0]
   clear hW0
   go_region_held3 (fun w' => w'.cell? ⟨w.heap.size, 1, none⟩ = some (.slice (some ⟨b1, o1, none⟩) n ca) ∧ w'.cell? ⟨w.heap.size + 1, 1, none⟩ = some (.slice (some ⟨b2, o2, none⟩) m cb) ∧ w'.cell? ⟨b1, o1, none⟩ = some (.int .i64 al) ∧ w'.cell? ⟨b1, o1 + 1, none⟩ = some (.int .i64 ah) ∧ w'.cell? ⟨b2, o2, none⟩ = some (.int .i64 bl) ∧ w'.cell? ⟨b2, o2 + 1, none⟩ = some (.int .i64 bh)) (go_keep) (fail)
   all_goals
    go_wp2
    go_ret
    refine ⟨ret_bool (by rw [HK.out]; by_cases h2 : bl ≤ al <;> first | (simp [h2]; done) | omega), E0.out.trans ?_⟩
    first
      | exact (Ext.alloc _ _).trans (Ext.alloc _ _)
      | exact ((Ext.alloc _ _).trans (Ext.alloc _ _)).trans (Ext.drew _)

theorem knV_cells {x : Kn} {u : Value} {w : World} (h : KnV x u w) : ∃ va vb, u = .agg #[.int .i64 x.k, va, vb] := by
  obtain ⟨A, n, ca, va, -, -, -, rfl, -, -⟩ := h; exact ⟨_, _, rfl⟩

def risingK (a b : Kn) : Bool := laterK a b && noLessK b a
set_option maxRecDepth 100000 in
theorem rising_any {a b : Kn} {u v : Value} {w : World} (ha : KnV a u w) (hb : KnV b v w) (h1 : 1 ≤ a.rs.length) (h2 : 1 ≤ b.rs.length) : Calls Tryz.prog 75 #[u, v] w fun e w' => e = .returned (.bool (risingK a b)) ∧ Ext w w' := by
  have HA := Lib.hid ha
  have HB := Lib.hid hb
  obtain ⟨u1, u2, rfl⟩ := knV_cells ha
  obtain ⟨v1, v2, rfl⟩ := knV_cells hb
  have HL := Lib.hid (fun (W : World) (e : Ext w W) => later_any (ha.ext e) (hb.ext e))
  have HN := Lib.hid (fun (W : World) (e : Ext w W) => noLess_any (hb.ext e) (ha.ext e) h2 h1)
  have HK := Lib.hid (show risingK a b = (laterK a b && noLessK b a) from rfl)
  clear ha hb HA HB
  generalize hz : laterK a b = z at HL HK
  have HZ := Lib.hid hz
  clear hz
  obtain ⟨W0, hW0⟩ : ∃ W0, W0 = (w.alloc (.cells #[.int .i64 a.k, u1, u2] 190)).alloc (.cells #[.int .i64 b.k, v1, v2] 190) := ⟨_, rfl⟩
  have k0 : Blk W0 w.heap.size 190 #[.int .i64 a.k, u1, u2] := by rw [hW0]; exact (Blk.new _ _ _).alloc _
  have k1 : Blk W0 (w.heap.size + 1) 190 #[.int .i64 b.k, v1, v2] := by rw [hW0]; exact Blk.newAt _ _ _ (by simp)
  have E0 := Lib.hid (show Ext w W0 by rw [hW0]; exact (Ext.alloc _ _).trans (Ext.alloc _ _))
  have K0 := Lib.hid k0
  have K1 := Lib.hid k1
  have x0 : W0.cell? ⟨w.heap.size, 0, none⟩ = some (.int .i64 a.k) := k0.cell 0
  have x1 : W0.cell? ⟨w.heap.size, 1, none⟩ = some u1 := k0.cell 1
  have x2 : W0.cell? ⟨w.heap.size, 2, none⟩ = some u2 := k0.cell 2
  have x3 : W0.cell? ⟨w.heap.size + 1, 0, none⟩ = some (.int .i64 b.k) := k1.cell 0
  have x4 : W0.cell? ⟨w.heap.size + 1, 1, none⟩ = some v1 := k1.cell 1
  have x5 : W0.cell? ⟨w.heap.size + 1, 2, none⟩ = some v2 := k1.cell 2
  clear k0 k1
  cases z
  all_goals
    go_enter Tryz.func75, Tryz.ntmps75
    go_wp2_with (first
      | (rw [← hW0]; clear hW0; go_at_call 78; refine (HL.out _ E0.out).mono ?_; rintro e W1 ⟨rfl, hx⟩; have X1 := Lib.hid hx; have y0 := (K0.out.ext hx).cell 0; have y1 := (K0.out.ext hx).cell 1; have y2 := (K0.out.ext hx).cell 2; have y3 := (K1.out.ext hx).cell 0; have y4 := (K1.out.ext hx).cell 1; have y5 := (K1.out.ext hx).cell 2; clear hx; simp only [List.getElem?_toArray, List.getElem?_cons_zero, List.getElem?_cons_succ] at y0 y1 y2 y3 y4 y5)
      | (go_at_call 124; refine (HN.out _ (E0.out.trans X1.out)).mono ?_; rintro e W2 ⟨rfl, hx⟩; have X2 := Lib.hid hx; clear hx))
    go_ret
  · exact ⟨ret_bool (by rw [HK.out]; simp), E0.out.trans X1.out⟩
  · exact ⟨ret_bool (by rw [HK.out]; simp), E0.out.trans (X1.out.trans X2.out)⟩

def fallingK (a b : Kn) : Bool := laterK a b && noLessK a b
set_option maxRecDepth 100000 in
theorem falling_any {a b : Kn} {u v : Value} {w : World} (ha : KnV a u w) (hb : KnV b v w) (h1 : 1 ≤ a.rs.length) (h2 : 1 ≤ b.rs.length) : Calls Tryz.prog 81 #[u, v] w fun e w' => e = .returned (.bool (fallingK a b)) ∧ Ext w w' := by
  have HA := Lib.hid ha
  have HB := Lib.hid hb
  obtain ⟨u1, u2, rfl⟩ := knV_cells ha
  obtain ⟨v1, v2, rfl⟩ := knV_cells hb
  have HL := Lib.hid (fun (W : World) (e : Ext w W) => later_any (ha.ext e) (hb.ext e))
  have HN := Lib.hid (fun (W : World) (e : Ext w W) => noLess_any (ha.ext e) (hb.ext e) h1 h2)
  have HK := Lib.hid (show fallingK a b = (laterK a b && noLessK a b) from rfl)
  clear ha hb HA HB
  generalize hz : laterK a b = z at HL HK
  have HZ := Lib.hid hz
  clear hz
  obtain ⟨W0, hW0⟩ : ∃ W0, W0 = (w.alloc (.cells #[.int .i64 a.k, u1, u2] 190)).alloc (.cells #[.int .i64 b.k, v1, v2] 190) := ⟨_, rfl⟩
  have k0 : Blk W0 w.heap.size 190 #[.int .i64 a.k, u1, u2] := by rw [hW0]; exact (Blk.new _ _ _).alloc _
  have k1 : Blk W0 (w.heap.size + 1) 190 #[.int .i64 b.k, v1, v2] := by rw [hW0]; exact Blk.newAt _ _ _ (by simp)
  have E0 := Lib.hid (show Ext w W0 by rw [hW0]; exact (Ext.alloc _ _).trans (Ext.alloc _ _))
  have K0 := Lib.hid k0
  have K1 := Lib.hid k1
  have x0 : W0.cell? ⟨w.heap.size, 0, none⟩ = some (.int .i64 a.k) := k0.cell 0
  have x1 : W0.cell? ⟨w.heap.size, 1, none⟩ = some u1 := k0.cell 1
  have x2 : W0.cell? ⟨w.heap.size, 2, none⟩ = some u2 := k0.cell 2
  have x3 : W0.cell? ⟨w.heap.size + 1, 0, none⟩ = some (.int .i64 b.k) := k1.cell 0
  have x4 : W0.cell? ⟨w.heap.size + 1, 1, none⟩ = some v1 := k1.cell 1
  have x5 : W0.cell? ⟨w.heap.size + 1, 2, none⟩ = some v2 := k1.cell 2
  clear k0 k1
  cases z
  all_goals
    go_enter Tryz.func81, Tryz.ntmps81
    go_wp2_with (first
      | (rw [← hW0]; clear hW0; go_at_call 78; refine (HL.out _ E0.out).mono ?_; rintro e W1 ⟨rfl, hx⟩; have X1 := Lib.hid hx; have y0 := (K0.out.ext hx).cell 0; have y1 := (K0.out.ext hx).cell 1; have y2 := (K0.out.ext hx).cell 2; have y3 := (K1.out.ext hx).cell 0; have y4 := (K1.out.ext hx).cell 1; have y5 := (K1.out.ext hx).cell 2; clear hx; simp only [List.getElem?_toArray, List.getElem?_cons_zero, List.getElem?_cons_succ] at y0 y1 y2 y3 y4 y5)
      | (go_at_call 124; refine (HN.out _ (E0.out.trans X1.out)).mono ?_; rintro e W2 ⟨rfl, hx⟩; have X2 := Lib.hid hx; clear hx))
    go_ret
  · exact ⟨ret_bool (by rw [HK.out]; simp), E0.out.trans X1.out⟩
  · exact ⟨ret_bool (by rw [HK.out]; simp), E0.out.trans (X1.out.trans X2.out)⟩

structure HK where
  k : Int
  lo : Int
  hi : Int
  g : Int
structure CK where
  k : Int
  wlo : Int
  whi : Int
  rlo : Int
  rhi : Int
structure DK where
  k : Int
  lo : Int
  hi : Int
structure TK where
  k : Int
  r : Int
instance : Inhabited HK := ⟨⟨0, 0, 0, 0⟩⟩
instance : Inhabited CK := ⟨⟨0, 0, 0, 0, 0⟩⟩
instance : Inhabited DK := ⟨⟨0, 0, 0⟩⟩
instance : Inhabited TK := ⟨⟨0, 0⟩⟩
def HK.enc (x : HK) : List Value := [.int .i64 x.k, .int .i64 x.lo, .int .i64 x.hi, .int .i64 x.g]
def CK.enc (x : CK) : List Value := [.int .i64 x.k, .int .i64 x.wlo, .int .i64 x.whi, .int .i64 x.rlo, .int .i64 x.rhi]
def DK.enc (x : DK) : List Value := [.int .i64 x.k, .int .i64 x.lo, .int .i64 x.hi]
def TK.enc (x : TK) : List Value := [.int .i64 x.k, .int .i64 x.r]
def HK.kn (x : HK) : Kn := ⟨x.k, [⟨x.lo, x.hi⟩], [x.g]⟩
def CK.kn (x : CK) : Kn := ⟨x.k, [⟨x.wlo, x.whi⟩, ⟨x.rlo, x.rhi⟩], []⟩
def DK.kn (x : DK) : Kn := ⟨x.k, [⟨x.lo, x.hi⟩], []⟩
def TK.kn (x : TK) : Kn := ⟨x.k, [], [x.r]⟩

theorem heatKnot_any (k lo hi g : Int) (w : World) : Calls Tryz.prog 74 #[.agg #[.int .i64 k, .int .i64 lo, .int .i64 hi, .int .i64 g]] w (VPost w (KnV (HK.kn ⟨k, lo, hi, g⟩))) := by
  go_enter Tryz.func74, Tryz.ntmps74
  go_wp2
  exact bodyPost_ret (v := .agg #[.int .i64 k, .slice (some ⟨w.heap.size + 1 + 1, 0, none⟩) 1 1, .slice (some ⟨w.heap.size + 1 + 1 + 1, 0, none⟩) 1 1]) (by simp [results, Tryz.f74, go_sem]) rfl
    ⟨_, rfl, (((Ext.alloc _ _).trans (Ext.alloc _ _)).trans (Ext.alloc _ _)).trans (Ext.alloc _ _), _, 1, _, _, Lib.hid rfl, by decide, by simp [HK.kn, Kn.nums, flat], rfl, rows_blk (n := 1) (show Blk ((((w.alloc (.cells #[.int .i64 k, .int .i64 lo, .int .i64 hi, .int .i64 g] 68)).alloc (.cells #[.int .i64 k, .slice (some ⟨w.heap.size + 1 + 1, 0, none⟩) 1 1, .slice (some ⟨w.heap.size + 1 + 1 + 1, 0, none⟩) 1 1] 190)).alloc (.cells #[.int .i64 lo, .int .i64 hi] 66)).alloc (.cells #[.int .i64 g] 3)) (w.heap.size + 1 + 1) 66 _ from (Blk.newAt _ _ _ (by simp)).alloc _) (fun _ => rfl) rfl rfl (by decide), .inr ⟨w.heap.size + 1 + 1 + 1, g, rfl, rfl, Blk.newAt _ _ _ (by simp)⟩⟩
theorem coolKnot_any (k wlo whi rlo rhi : Int) (w : World) : Calls Tryz.prog 77 #[.agg #[.int .i64 k, .int .i64 wlo, .int .i64 whi, .int .i64 rlo, .int .i64 rhi]] w (VPost w (KnV (CK.kn ⟨k, wlo, whi, rlo, rhi⟩))) := by
  go_enter Tryz.func77, Tryz.ntmps77
  go_wp2
  exact bodyPost_ret (v := .agg #[.int .i64 k, .slice (some ⟨w.heap.size + 1 + 1, 0, none⟩) 2 2, .slice none 0 0]) (by simp [results, Tryz.f77, go_sem]) rfl
    ⟨_, rfl, ((Ext.alloc _ _).trans (Ext.alloc _ _)).trans (Ext.alloc _ _), _, 2, _, _, Lib.hid rfl, by decide, by simp [CK.kn, Kn.nums, flat], rfl, rows_blk (n := 2) (show Blk (((w.alloc (.cells #[.int .i64 k, .int .i64 wlo, .int .i64 whi, .int .i64 rlo, .int .i64 rhi] 137)).alloc (.cells #[.int .i64 k, .slice (some ⟨w.heap.size + 1 + 1, 0, none⟩) 2 2, .slice none 0 0] 190)).alloc (.cells #[.int .i64 wlo, .int .i64 whi, .int .i64 rlo, .int .i64 rhi] 66)) (w.heap.size + 1 + 1) 66 _ from Blk.newAt _ _ _ (by simp)) (fun _ => rfl) rfl rfl (by decide), .inl ⟨rfl, rfl⟩⟩
theorem coldKnot_any (k lo hi : Int) (w : World) : Calls Tryz.prog 80 #[.agg #[.int .i64 k, .int .i64 lo, .int .i64 hi]] w (VPost w (KnV (DK.kn ⟨k, lo, hi⟩))) := by
  go_enter Tryz.func80, Tryz.ntmps80
  go_wp2
  exact bodyPost_ret (v := .agg #[.int .i64 k, .slice (some ⟨w.heap.size + 1 + 1, 0, none⟩) 1 1, .slice none 0 0]) (by simp [results, Tryz.f80, go_sem]) rfl
    ⟨_, rfl, ((Ext.alloc _ _).trans (Ext.alloc _ _)).trans (Ext.alloc _ _), _, 1, _, _, Lib.hid rfl, by decide, by simp [DK.kn, Kn.nums, flat], rfl, rows_blk (n := 1) (show Blk (((w.alloc (.cells #[.int .i64 k, .int .i64 lo, .int .i64 hi] 141)).alloc (.cells #[.int .i64 k, .slice (some ⟨w.heap.size + 1 + 1, 0, none⟩) 1 1, .slice none 0 0] 190)).alloc (.cells #[.int .i64 lo, .int .i64 hi] 66)) (w.heap.size + 1 + 1) 66 _ from Blk.newAt _ _ _ (by simp)) (fun _ => rfl) rfl rfl (by decide), .inl ⟨rfl, rfl⟩⟩
theorem temperKnot_any (k r : Int) (w : World) : Calls Tryz.prog 83 #[.agg #[.int .i64 k, .int .i64 r]] w (VPost w (KnV (TK.kn ⟨k, r⟩))) := by
  go_enter Tryz.func83, Tryz.ntmps83
  go_wp2
  exact bodyPost_ret (v := .agg #[.int .i64 k, .slice none 0 0, .slice (some ⟨w.heap.size + 1 + 1, 0, none⟩) 1 1]) (by simp [results, Tryz.f83, go_sem]) rfl
    ⟨_, rfl, ((Ext.alloc _ _).trans (Ext.alloc _ _)).trans (Ext.alloc _ _), _, 0, _, _, Lib.hid rfl, by decide, by simp [TK.kn, Kn.nums, flat], rfl, ⟨by simp [TK.kn], fun i x hx => by simp [TK.kn] at hx⟩, .inr ⟨w.heap.size + 1 + 1, r, rfl, rfl, Blk.newAt _ _ _ (by simp)⟩⟩

end Go.Proofs.YtkmekbafjnlfkaaGreat
