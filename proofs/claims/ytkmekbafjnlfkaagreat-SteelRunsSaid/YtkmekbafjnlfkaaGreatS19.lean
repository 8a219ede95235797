/- Deeds. -/
import Derived.Test.YtkmekbafjnlfkaaGreatS13

namespace Go.Proofs.YtkmekbafjnlfkaaGreat
open Go.RowKit Go.Shelf Go.Mem Go.RegInv
attribute [local go_sem] RelUpon_value RelUpon_skip RelUpon_enter BigFrame.eval_const BigFrame.eval_global BigFrame.eval_func

theorem store_func {P : Program} {w : World} (a : Addr) (m : Mode) (fn : Fn) (first captured : Array Value) : (store a (.func fn first captured) m).run P w = stored P w a (.func fn first captured) m := run_store P w a _ m rfl
attribute [local go_sem] store_func
/-- A number of a range at a part. -/
def pickK (lo hi part : Int) : Int := lo + (hi - lo) * part / 1000
def grownK (g gr a : Int) : Int := if a = 0 then g else min 100000 (g + gr)
def waitedK (w n : Int) : Int := min 1000000 (w + n)
def formedK (w r : Int) : Int := if w < 1000000 then 0 else r
def frozenK (a m s : Int) : Int := max 0 ((a + m) * s / 1000000 - m)
theorem pick_bd {lo hi part : Int} (h0 : 0 ≤ lo) (h1 : lo ≤ hi) (h2 : hi ≤ 1000000) (h3 : 0 ≤ part) (h4 : part ≤ 1000) : lo ≤ pickK lo hi part ∧ pickK lo hi part ≤ hi := by
  obtain ⟨a, b⟩ := mul_bd (a := hi - lo) (A := hi - lo) (by omega) (Int.le_refl _) h3 h4
  unfold pickK
  omega

set_option maxRecDepth 100000 in
theorem picked_any (lo hi part : Int) (w : World) (h0 : 0 ≤ lo) (h1 : lo ≤ hi) (h2 : hi ≤ 1000000) (h3 : 0 ≤ part) (h4 : part ≤ 1000) : Calls Tryz.prog 165 #[.agg #[.int .i64 lo, .int .i64 hi], .int .i64 part] w fun e w' => e = .returned (.int .i64 (pickK lo hi part)) ∧ Ext w w' := by
  obtain ⟨a, b⟩ := mul_bd (a := hi - lo) (A := 1000000) (by omega) (by omega) h3 h4
  have h5 : 0 ≤ hi - lo := by omega
  have HP := Lib.hid (show pickK lo hi part = lo + (hi - lo) * part / 1000 from rfl)
  go_enter Tryz.func165, Tryz.ntmps165
  go_wp2
  go_ret
  exact ⟨ret_int HP.out.symm, Ext.alloc _ _⟩
theorem grown_any (g gr a : Int) (w : World) (h0 : 0 ≤ g) (h1 : g ≤ 100000) (h2 : 0 ≤ gr) (h3 : gr ≤ 1000000) : Calls Tryz.prog 166 #[.int .i64 g, .int .i64 gr, .int .i64 a] w fun e w' => e = .returned (.int .i64 (grownK g gr a)) ∧ w = w' := by
  have HP := Lib.hid (show grownK g gr a = if a = 0 then g else min 100000 (g + gr) from rfl)
  by_cases h : a = 0
  · have h' : (a == 0) = true := by simp [h]
    have HH := Lib.hid h
    clear h
    go_enter Tryz.func166, Tryz.ntmps166
    go_wp2
    go_ret
    exact ⟨ret_int (by rw [HP.out, if_pos HH.out]), rfl⟩
  · have h' : (a == 0) = false := by simp [h]
    have HH := Lib.hid h
    clear h
    go_enter Tryz.func166, Tryz.ntmps166
    go_wp2
    go_ret
    exact ⟨ret_int (by rw [HP.out, if_neg HH.out]), rfl⟩
theorem waited_any (x n : Int) (w : World) (h0 : 0 ≤ x) (h1 : x ≤ 1000000) (h2 : 0 ≤ n) (h3 : n ≤ 1000000) : Calls Tryz.prog 169 #[.int .i64 x, .int .i64 n] w fun e w' => e = .returned (.int .i64 (waitedK x n)) ∧ w = w' := by
  have HP := Lib.hid (show waitedK x n = min 1000000 (x + n) from rfl)
  go_enter Tryz.func169, Tryz.ntmps169
  go_wp2
  go_ret
  exact ⟨ret_int HP.out.symm, rfl⟩
theorem formed_any (x n : Int) (w : World) : Calls Tryz.prog 170 #[.int .i64 x, .int .i64 n] w fun e w' => e = .returned (.int .i64 (formedK x n)) ∧ w = w' := by
  have HP := Lib.hid (show formedK x n = if x < 1000000 then 0 else n from rfl)
  by_cases h : x < 1000000
  · go_enter Tryz.func170, Tryz.ntmps170
    go_wp2
    go_ret
    exact ⟨ret_int (by rw [HP.out, if_pos h]), rfl⟩
  · go_enter Tryz.func170, Tryz.ntmps170
    go_wp2
    go_ret
    exact ⟨ret_int (by rw [HP.out, if_neg (by omega)]), rfl⟩
set_option maxRecDepth 100000 in
theorem frozen_any (a m s : Int) (w : World) (h0 : 0 ≤ a) (h1 : 0 ≤ m) (h2 : a ≤ 1000000) (h5 : m ≤ 1000000) (h3 : 0 ≤ s) (h4 : s ≤ 1000000) : Calls Tryz.prog 173 #[.int .i64 a, .int .i64 m, .int .i64 s] w fun e w' => e = .returned (.int .i64 (frozenK a m s)) ∧ w = w' := by
  obtain ⟨b0, b1⟩ := mul_bd (a := a + m) (A := 2000000) (by omega) (by omega) h3 h4
  have HP := Lib.hid (show frozenK a m s = max 0 ((a + m) * s / 1000000 - m) from rfl)
  go_enter Tryz.func173, Tryz.ntmps173
  go_wp2
  go_ret
  exact ⟨ret_int HP.out.symm, rfl⟩

/-- A knot's deed. -/
inductive Deed where
  | h (x : HK)
  | c (x : CK)
  | d (x : DK)
  | t (x : TK)
/-- How a deed lies in memory: what it does to a state, and to a box. -/
def DeedC (W : World) : Deed → Value → Value → Prop
  | .h x, u, v => ∃ q, u = .func (.func 164) #[] #[.pointer (some ⟨q, 0, none⟩)] ∧ v = .func (.func 167) #[] #[.pointer (some ⟨q, 0, none⟩)] ∧ Blk W q 68 #[.int .i64 x.k, .int .i64 x.lo, .int .i64 x.hi, .int .i64 x.g]
  | .c x, u, v => ∃ q, u = .func (.func 168) #[] #[.pointer (some ⟨q, 0, none⟩)] ∧ v = .func (.func 171) #[] #[.pointer (some ⟨q, 0, none⟩)] ∧ Blk W q 137 #[.int .i64 x.k, .int .i64 x.wlo, .int .i64 x.whi, .int .i64 x.rlo, .int .i64 x.rhi]
  | .d x, u, v => ∃ q, u = .func (.func 172) #[] #[.pointer (some ⟨q, 0, none⟩)] ∧ v = .func (.func 174) #[] #[.pointer (some ⟨q, 0, none⟩)] ∧ Blk W q 141 #[.int .i64 x.k, .int .i64 x.lo, .int .i64 x.hi]
  | .t x, u, v => ∃ q q', u = .func (.func 176) #[] #[.pointer (some ⟨q', 0, none⟩)] ∧ v = .func (.func 177) #[] #[.pointer (some ⟨q', 0, none⟩)] ∧ Blk W q 145 #[.int .i64 x.k, .int .i64 x.r] ∧ Blk W q' 60 #[.func (.func 175) #[] #[.pointer (some ⟨q, 0, none⟩)]]
theorem DeedC.ext {W W' : World} : ∀ {d : Deed} {u v : Value}, DeedC W d u v → Ext W W' → DeedC W' d u v
  | .h _, _, _, ⟨q, h1, h2, h3⟩, e => ⟨q, h1, h2, h3.ext e⟩
  | .c _, _, _, ⟨q, h1, h2, h3⟩, e => ⟨q, h1, h2, h3.ext e⟩
  | .d _, _, _, ⟨q, h1, h2, h3⟩, e => ⟨q, h1, h2, h3.ext e⟩
  | .t _, _, _, ⟨q, q', h1, h2, h3, h4⟩, e => ⟨q, q', h1, h2, h3.ext e, h4.ext e⟩
def DeedV (d : Deed) : Value → World → Prop := fun u W => ∃ f g, u = .agg #[f, g] ∧ DeedC W d f g

theorem heating_any (k lo hi g : Int) (w : World) : Calls Tryz.prog 150 #[.agg #[.int .i64 k, .int .i64 lo, .int .i64 hi, .int .i64 g]] w (VPost w (DeedV (.h ⟨k, lo, hi, g⟩))) := by
  go_enter Tryz.func150, Tryz.ntmps150
  go_wp2
  exact bodyPost_ret (v := .agg #[.func (.func 164) #[] #[.pointer (some ⟨w.heap.size, 0, none⟩)], .func (.func 167) #[] #[.pointer (some ⟨w.heap.size, 0, none⟩)]]) (by simp [results, Tryz.f150, go_sem]) rfl
    ⟨_, rfl, (Ext.alloc _ _).trans (Ext.alloc _ _), _, _, rfl, _, rfl, rfl, (Blk.new _ _ _).alloc _⟩

theorem cooling_any (k wlo whi rlo rhi : Int) (w : World) : Calls Tryz.prog 151 #[.agg #[.int .i64 k, .int .i64 wlo, .int .i64 whi, .int .i64 rlo, .int .i64 rhi]] w (VPost w (DeedV (.c ⟨k, wlo, whi, rlo, rhi⟩))) := by
  go_enter Tryz.func151, Tryz.ntmps151
  go_wp2
  exact bodyPost_ret (v := .agg #[.func (.func 168) #[] #[.pointer (some ⟨w.heap.size, 0, none⟩)], .func (.func 171) #[] #[.pointer (some ⟨w.heap.size, 0, none⟩)]]) (by simp [results, Tryz.f151, go_sem]) rfl
    ⟨_, rfl, (Ext.alloc _ _).trans (Ext.alloc _ _), _, _, rfl, _, rfl, rfl, (Blk.new _ _ _).alloc _⟩

theorem chilling_any (k lo hi : Int) (w : World) : Calls Tryz.prog 152 #[.agg #[.int .i64 k, .int .i64 lo, .int .i64 hi]] w (VPost w (DeedV (.d ⟨k, lo, hi⟩))) := by
  go_enter Tryz.func152, Tryz.ntmps152
  go_wp2
  exact bodyPost_ret (v := .agg #[.func (.func 172) #[] #[.pointer (some ⟨w.heap.size, 0, none⟩)], .func (.func 174) #[] #[.pointer (some ⟨w.heap.size, 0, none⟩)]]) (by simp [results, Tryz.f152, go_sem]) rfl
    ⟨_, rfl, (Ext.alloc _ _).trans (Ext.alloc _ _), _, _, rfl, _, rfl, rfl, (Blk.new _ _ _).alloc _⟩

theorem tempering_any (k r : Int) (w : World) : Calls Tryz.prog 153 #[.agg #[.int .i64 k, .int .i64 r]] w (VPost w (DeedV (.t ⟨k, r⟩))) := by
  go_enter Tryz.func153, Tryz.ntmps153
  go_wp2
  exact bodyPost_ret (v := .agg #[.func (.func 176) #[] #[.pointer (some ⟨w.heap.size + 1 + 1, 0, none⟩)], .func (.func 177) #[] #[.pointer (some ⟨w.heap.size + 1 + 1, 0, none⟩)]]) (by simp [results, Tryz.f153, go_sem]) rfl
    ⟨_, rfl, ((Ext.alloc _ _).trans (Ext.alloc _ _)).trans (Ext.alloc _ _), _, _, rfl, w.heap.size, _, rfl, rfl, ((Blk.new _ _ _).alloc _).alloc _, Blk.newAt _ _ _ (by simp)⟩

end Go.Proofs.YtkmekbafjnlfkaaGreat
