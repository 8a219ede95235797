/- Sums of complex numbers, and reactances. By regen.py. -/
import Derived.Test.YtpaoeghdfeekoaaA3
import Derived.Outline
namespace Go.Proofs.Ytpaoeghdfeekoaa
open Go.RowKit Go.Mem Go.RegInv
attribute [local go_sem] RelUpon_value RelUpon_skip RelUpon_enter BigFrame.eval_const BigFrame.eval_global BigFrame.eval_func

def Mid (x : Int) : Prop := -1000000000000000 ≤ x ∧ x ≤ 1000000000000000

theorem wrap_mid {x : Int} (h : Mid x) : IntKind.i64.wrap x = x := IntWalk.i64_in _ (by unfold Mid at h; omega)

def gv (re im : Int) : Value := .agg #[.int .i64 re, .int .i64 im]

theorem plus_any (a b n c d : Int) (ha : Mid a) (hb : Mid b) (hc : Mid (n * c)) (hd : Mid (n * d)) (w : World) :
    Calls Try.prog 108 #[.agg #[.int .i64 a, .int .i64 b], .int .i64 n, .agg #[.int .i64 c, .int .i64 d]] w fun e w' => e = .returned (.agg #[.int .i64 (a + n * c), .int .i64 (b + n * d)]) ∧ Ext w w' := by
  obtain ⟨ha1, ha2⟩ := ha
  obtain ⟨hb1, hb2⟩ := hb
  obtain ⟨hc1, hc2⟩ := hc
  obtain ⟨hd1, hd2⟩ := hd
  go_enter Try.func108, Try.ntmps108
  go_wp2
  exact bodyPost_ret (v := .agg #[.int .i64 (a + n * c), .int .i64 (b + n * d)]) (by simp [results, Try.f108, go_sem]) rfl ⟨rfl, (Ext.alloc _ _).trans ((Ext.alloc _ _).trans (Ext.alloc _ _))⟩

theorem before_any (a b n c d : Int) (ha : Mid a) (hb : Mid b) (hc : Mid (n * c)) (hd : Mid (n * -d)) (hd' : Mid d) (w : World) :
    Calls Try.prog 92 #[.agg #[.int .i64 a, .int .i64 b], .int .i64 n, .agg #[.int .i64 c, .int .i64 d]] w fun e w' => e = .returned (.agg #[.int .i64 (a + n * -d), .int .i64 (b + n * c)]) ∧ Ext w w' := by
  have HP := Lib.hid (fun W => plus_any a b n (-d) c ha hb hd hc W)
  obtain ⟨hd1, hd2⟩ := hd'
  clear ha hb hc hd
  go_enter Try.func92, Try.ntmps92
  go_wp2_with (go_at_call 108; refine (HP.out _).mono ?_; rintro e w' ⟨rfl, hx⟩; have B := (Blk.newAt _ 65 #[.int .i64 0, .int .i64 0] (g := w.heap.size + 1 + 1) (by simp)).ext hx; have c0 := B.cell 0; have c1 := B.cell 1; have f0 := B.free 0; have f1 := B.free 1; simp only [List.getElem?_toArray, List.getElem?_cons_zero, List.getElem?_cons_succ] at c0 c1)
  exact bodyPost_ret (v := .agg #[.int .i64 (a + n * -d), .int .i64 (b + n * c)]) (by simp [results, Try.f92, go_sem, c0, c1]) rfl ⟨rfl, Ext.set (Ext.set ((Ext.alloc _ _).trans ((Ext.alloc _ _).trans ((Ext.alloc _ _).trans hx))) (by simp; omega) _) (by simp; omega) _⟩

def boolEnc (b : Bool) : List Value := [.bool b]

/-- The reactance before a shell. -/
def react (f : Int) (hot : Bool) (s : Sh) : Int := f * (if hot then s.h else s.c)

set_option maxRecDepth 100000 in
theorem reactanceOf_any (t : Int) (A : Option Addr) (n cap : Nat) (l : List Sh) (hn : l.length = n) (f : Int) (B : Option Addr) (m cap' : Nat) (hot : List Bool) (k : Nat) (s : Sh) (hk : Bool) (w : World)
    (hS : RowsAt 3 Sh.enc w A l) (hH : RowsAt 1 boolEnc w B hot) (hls : l[k]? = some s) (hhk : hot[k]? = some hk) (hm : hot.length = m) (h1 : Mid (f * s.c)) (h2 : Mid (f * s.h)) :
    Calls Try.prog 88 #[.agg #[.int .i64 t, .slice A n cap], .agg #[.int .i64 f, .slice B m cap'], .int .i64 k] w fun e w' => e = .returned (.int .i64 (react f hk s)) ∧ Ext w w' := by
  have e0 : Ext w ((w.alloc (.cells #[.int .i64 t, .slice A n cap] 24)).alloc (.cells #[.int .i64 f, .slice B m cap'] 27)) := (Ext.alloc _ _).trans (Ext.alloc _ _)
  have hkn : (k : Int) < n := by have := (List.getElem?_eq_some_iff.1 hls).1; omega
  have hkm : (k : Int) < m := by have := (List.getElem?_eq_some_iff.1 hhk).1; omega
  have hnb : n ≤ 1152921504606846976 := by have := hS.1; omega
  have hmb : m ≤ 1152921504606846976 := by have := hH.1; omega
  obtain ⟨b, o, rfl, hb, hc⟩ := hS.2 k s hls
  obtain ⟨b', o', rfl, hb', hc'⟩ := hH.2 k hk hhk
  have hcc : w.cell? ⟨b, o + k * 3 + 1, none⟩ = some (.int .i64 s.c) := hc 1 _ rfl
  have hch : w.cell? ⟨b, o + k * 3 + 2, none⟩ = some (.int .i64 s.h) := hc 2 _ rfl
  have hcb : w.cell? ⟨b', o' + k, none⟩ = some (.bool hk) := by simpa using hc' 0 _ rfl
  have HR : react f hk s = f * (if hk then s.h else s.c) := rfl
  have HR := Lib.hid HR
  clear hS hH hls hhk hc hc' hn hm
  obtain ⟨h11, h12⟩ := h1
  obtain ⟨h21, h22⟩ := h2
  generalize react f hk s = r at HR
  generalize s.c = sc at hcc h11 h12 HR
  generalize s.h = sh at hch h21 h22 HR
  have hcb1 := (Ext.trans (Ext.alloc w (.cells #[.int .i64 t, .slice (some ⟨b, o, none⟩) n cap] 24)) (Ext.alloc _ (.cells #[.int .i64 f, .slice (some ⟨b', o', none⟩) m cap'] 27))).cell hcb
  cases hk
  · go_enter Try.func88, Try.ntmps88
    go_wp2
    refine wp_region_each [some 21, some 22, some 23, some 24, some 25, some 26, some 27, some 28, some 29, some 6] [[4], [21], [3], [23], [2], [24, 25], [26], [27], [22, 28], [29]]
      [Is (.pointer (some ⟨w.heap.size + 1, 0, none⟩)), Is (.int .i64 (f)), Is (.pointer (some ⟨w.heap.size, 1, none⟩)), Is (.slice (some ⟨b, o, none⟩) n cap), Is (.int .i64 ((k : Int))), Is (.pointer (some ⟨b, o + k * 3, none⟩)), Is (.pointer (some ⟨b, o + k * 3 + 1, none⟩)), Is (.int .i64 (sc)), Is (.int .i64 (f * sc)), Is (.int .i64 (f * sc))]
      (by kernel_rfl) (by kernel_rfl) (by kernel_rfl) (by kernel_rfl) (by kernel_rfl) Ext (fun W => Ext ((w.alloc (.cells #[.int .i64 t, .slice (some ⟨b, o, none⟩) n cap] 24)).alloc (.cells #[.int .i64 f, .slice (some ⟨b', o', none⟩) m cap'] 27)) W)
      (fun W _ => Ext.refl W) (fun W W' h k => h.trans k) ?_ (Ext.drew _) ?_ ?_
    · repeat (refine ⟨fun _ _ _ _ k h => (by first | exact h | exact IntsAt.ext h k), ?_⟩)
      exact trivial
    · refine ⟨?_, ?_, ?_, ?_, ?_, ?_, ?_, ?_, ?_, ?_, trivial⟩
      all_goals intro ρ W ⟨kc, kg, kf⟩ hF hs
      · obtain ⟨h0, -⟩ := hs
        replace h0 : ρ (.tmp 4) = .pointer (some ⟨w.heap.size + 1, 0, none⟩) := h0
        go_simp
        exact ⟨Ext.refl _, rfl⟩
      · obtain ⟨h0, -⟩ := hs
        replace h0 : ρ (.tmp 21) = .pointer (some ⟨w.heap.size + 1, 0, none⟩) := h0
        have hc0 : W.cell? ⟨w.heap.size + 1, 0, none⟩ = some (.int .i64 (f)) := hF.cell (by go_simp)
        go_simp
        exact ⟨Ext.refl _, rfl⟩
      · obtain ⟨h0, -⟩ := hs
        replace h0 : ρ (.tmp 3) = .pointer (some ⟨w.heap.size, 0, none⟩) := h0
        go_simp
        exact ⟨Ext.refl _, rfl⟩
      · obtain ⟨h0, -⟩ := hs
        replace h0 : ρ (.tmp 23) = .pointer (some ⟨w.heap.size, 1, none⟩) := h0
        have hc0 : W.cell? ⟨w.heap.size, 1, none⟩ = some (.slice (some ⟨b, o, none⟩) n cap) := hF.cell (by go_simp)
        go_simp
        exact ⟨Ext.refl _, rfl⟩
      · obtain ⟨h0, -⟩ := hs
        replace h0 : ρ (.tmp 2) = .int .i64 ((k : Int)) := h0
        go_simp
        exact ⟨Ext.refl _, rfl⟩
      · obtain ⟨h0, h1, -⟩ := hs
        replace h0 : ρ (.tmp 24) = .slice (some ⟨b, o, none⟩) n cap := h0
        replace h1 : ρ (.tmp 25) = .int .i64 ((k : Int)) := h1
        go_simp
        exact ⟨Ext.refl _, rfl⟩
      · obtain ⟨h0, -⟩ := hs
        replace h0 : ρ (.tmp 26) = .pointer (some ⟨b, o + k * 3, none⟩) := h0
        go_simp
        exact ⟨Ext.refl _, rfl⟩
      · obtain ⟨h0, -⟩ := hs
        replace h0 : ρ (.tmp 27) = .pointer (some ⟨b, o + k * 3 + 1, none⟩) := h0
        have hc0 : W.cell? ⟨b, o + k * 3 + 1, none⟩ = some (.int .i64 (sc)) := (e0.trans hF).cell hcc
        go_simp
        exact ⟨Ext.refl _, rfl⟩
      · obtain ⟨h0, h1, -⟩ := hs
        replace h0 : ρ (.tmp 22) = .int .i64 (f) := h0
        replace h1 : ρ (.tmp 28) = .int .i64 (sc) := h1
        have hw : IntKind.i64.wrap (f * sc) = f * sc := wrap_mid ⟨h11, h12⟩
        go_simp
        exact ⟨Ext.refl _, rfl⟩
      · obtain ⟨h0, -⟩ := hs
        replace h0 : ρ (.tmp 29) = .int .i64 (f * sc) := h0
        go_simp
        exact ⟨Ext.refl _, rfl⟩
    · intro fv W hF hs
      obtain ⟨-, -, -, -, -, -, -, -, -, h6, -⟩ := hs
      replace h6 : fv 6 = .int .i64 (f * sc) := h6
      simp only [fin, List.filterMap]
      go_simp
      go_wp2
      go_ret
      exact ⟨ret_int (by rw [HR.out]; rfl), e0.trans hF⟩
  · go_enter Try.func88, Try.ntmps88
    go_wp2
    refine wp_region_each [some 12, some 13, some 14, some 15, some 16, some 17, some 18, some 19, some 20, some 6] [[4], [12], [3], [14], [2], [15, 16], [17], [18], [13, 19], [20]]
      [Is (.pointer (some ⟨w.heap.size + 1, 0, none⟩)), Is (.int .i64 (f)), Is (.pointer (some ⟨w.heap.size, 1, none⟩)), Is (.slice (some ⟨b, o, none⟩) n cap), Is (.int .i64 ((k : Int))), Is (.pointer (some ⟨b, o + k * 3, none⟩)), Is (.pointer (some ⟨b, o + k * 3 + 2, none⟩)), Is (.int .i64 (sh)), Is (.int .i64 (f * sh)), Is (.int .i64 (f * sh))]
      (by kernel_rfl) (by kernel_rfl) (by kernel_rfl) (by kernel_rfl) (by kernel_rfl) Ext (fun W => Ext ((w.alloc (.cells #[.int .i64 t, .slice (some ⟨b, o, none⟩) n cap] 24)).alloc (.cells #[.int .i64 f, .slice (some ⟨b', o', none⟩) m cap'] 27)) W)
      (fun W _ => Ext.refl W) (fun W W' h k => h.trans k) ?_ (Ext.drew _) ?_ ?_
    · repeat (refine ⟨fun _ _ _ _ k h => (by first | exact h | exact IntsAt.ext h k), ?_⟩)
      exact trivial
    · refine ⟨?_, ?_, ?_, ?_, ?_, ?_, ?_, ?_, ?_, ?_, trivial⟩
      all_goals intro ρ W ⟨kc, kg, kf⟩ hF hs
      · obtain ⟨h0, -⟩ := hs
        replace h0 : ρ (.tmp 4) = .pointer (some ⟨w.heap.size + 1, 0, none⟩) := h0
        go_simp
        exact ⟨Ext.refl _, rfl⟩
      · obtain ⟨h0, -⟩ := hs
        replace h0 : ρ (.tmp 12) = .pointer (some ⟨w.heap.size + 1, 0, none⟩) := h0
        have hc0 : W.cell? ⟨w.heap.size + 1, 0, none⟩ = some (.int .i64 (f)) := hF.cell (by go_simp)
        go_simp
        exact ⟨Ext.refl _, rfl⟩
      · obtain ⟨h0, -⟩ := hs
        replace h0 : ρ (.tmp 3) = .pointer (some ⟨w.heap.size, 0, none⟩) := h0
        go_simp
        exact ⟨Ext.refl _, rfl⟩
      · obtain ⟨h0, -⟩ := hs
        replace h0 : ρ (.tmp 14) = .pointer (some ⟨w.heap.size, 1, none⟩) := h0
        have hc0 : W.cell? ⟨w.heap.size, 1, none⟩ = some (.slice (some ⟨b, o, none⟩) n cap) := hF.cell (by go_simp)
        go_simp
        exact ⟨Ext.refl _, rfl⟩
      · obtain ⟨h0, -⟩ := hs
        replace h0 : ρ (.tmp 2) = .int .i64 ((k : Int)) := h0
        go_simp
        exact ⟨Ext.refl _, rfl⟩
      · obtain ⟨h0, h1, -⟩ := hs
        replace h0 : ρ (.tmp 15) = .slice (some ⟨b, o, none⟩) n cap := h0
        replace h1 : ρ (.tmp 16) = .int .i64 ((k : Int)) := h1
        go_simp
        exact ⟨Ext.refl _, rfl⟩
      · obtain ⟨h0, -⟩ := hs
        replace h0 : ρ (.tmp 17) = .pointer (some ⟨b, o + k * 3, none⟩) := h0
        go_simp
        exact ⟨Ext.refl _, rfl⟩
      · obtain ⟨h0, -⟩ := hs
        replace h0 : ρ (.tmp 18) = .pointer (some ⟨b, o + k * 3 + 2, none⟩) := h0
        have hc0 : W.cell? ⟨b, o + k * 3 + 2, none⟩ = some (.int .i64 (sh)) := (e0.trans hF).cell hch
        go_simp
        exact ⟨Ext.refl _, rfl⟩
      · obtain ⟨h0, h1, -⟩ := hs
        replace h0 : ρ (.tmp 13) = .int .i64 (f) := h0
        replace h1 : ρ (.tmp 19) = .int .i64 (sh) := h1
        have hw : IntKind.i64.wrap (f * sh) = f * sh := wrap_mid ⟨h21, h22⟩
        go_simp
        exact ⟨Ext.refl _, rfl⟩
      · obtain ⟨h0, -⟩ := hs
        replace h0 : ρ (.tmp 20) = .int .i64 (f * sh) := h0
        go_simp
        exact ⟨Ext.refl _, rfl⟩
    · intro fv W hF hs
      obtain ⟨-, -, -, -, -, -, -, -, -, h6, -⟩ := hs
      replace h6 : fv 6 = .int .i64 (f * sh) := h6
      simp only [fin, List.filterMap]
      go_simp
      go_wp2
      go_ret
      exact ⟨ret_int (by rw [HR.out]; rfl), e0.trans hF⟩

end Go.Proofs.Ytpaoeghdfeekoaa
