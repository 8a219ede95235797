/- awake: the five examples hold. -/
import Derived.Test.YtpaoeghdfeekoaaD1
namespace Go.Proofs.Ytpaoeghdfeekoaa
open Go.RowKit Go.Mem Go.RegInv

theorem ladder_hid (w : World) : Calls Try.prog 81 #[] w fun e w' => ∃ g, e = .returned (.agg #[.int .i64 2, .slice (some ⟨g, 0, none⟩) 2 2]) ∧ Hid (LadAt w' (some ⟨g, 0, none⟩) exL) ∧ Hid (Ext w w') :=
  (ladder_any w).mono fun _ _ ⟨g, h1, h2, h3⟩ => ⟨g, h1, Lib.hid h2, Lib.hid h3⟩
theorem drive_hid (w : World) : Calls Try.prog 82 #[] w fun e w' => ∃ g, e = .returned (.agg #[.int .i64 1, .slice (some ⟨g, 0, none⟩) 2 2]) ∧ Hid (RowsAt 1 boolEnc w' (some ⟨g, 0, none⟩) exH) ∧ Hid (Ext w w') :=
  (drive_any w).mono fun _ _ ⟨g, h1, h2, h3⟩ => ⟨g, h1, Lib.hid h2, Lib.hid h3⟩

theorem awG {gv cv g2 : Nat} {w : World} (h : RowsAt 2 G.enc w (some ⟨gv, 0, none⟩) [⟨-1, 5⟩, ⟨1, 1⟩, ⟨1, 0⟩]) (k : Blk w g2 65 #[.int .i64 (-1), .int .i64 5, .int .i64 1, .int .i64 1, .int .i64 1, .int .i64 0]) :
    Calls Try.prog 38 #[.slice (some ⟨gv, 0, none⟩) 3 cv, .slice (some ⟨g2, 0, none⟩) 3 3] w fun e w' => e = .returned (.bool true) ∧ Ext w w' := by
  refine (gausses_any (some ⟨gv, 0, none⟩) (some ⟨g2, 0, none⟩) cv 3 [⟨-1, 5⟩, ⟨1, 1⟩, ⟨1, 0⟩] [⟨-1, 5⟩, ⟨1, 1⟩, ⟨1, 0⟩] w h (rows_blk k rfl rfl (by decide) (fun x => by simp [G.enc]))).mono ?_
  rintro e w' ⟨rfl, hx⟩
  exact ⟨by simp, hx⟩

theorem awN {v : Value} {g2 t : Nat} {w : World} (h : IntsAt w v [66, 34]) (k : Blk w g2 t #[.int .i64 66, .int .i64 34]) :
    Calls Try.prog 25 #[v, .slice (some ⟨g2, 0, none⟩) 2 2] w fun e w' => e = .returned (.bool true) ∧ Ext w w' := by
  refine (ints_any v _ [66, 34] [66, 34] w h (ints_two k)).mono ?_
  rintro e w' ⟨rfl, hx⟩
  exact ⟨by simp, hx⟩

set_option maxRecDepth 100000 in
set_option maxHeartbeats 4000000 in
theorem awake_any (w : World) : Calls Try.prog 15 #[] w fun e w' => e = .returned (.bool true) ∧ Ext w w' := by
  have E := Lib.hid (Ext.refl w)
  go_enter Try.func15, Try.ntmps15
  go_wp2_with (first
    | (go_at_call 81; refine (ladder_hid _).mono ?_; rintro e Wl ⟨gl, rfl, hL, hxl⟩; have E := Lib.hid (by first | exact E.out.trans hxl.out | exact (E.out.trans (Ext.alloc _ _)).trans hxl.out))
    | (go_at_call 82; refine (drive_hid _).mono ?_; rintro e Wd ⟨gd, rfl, hH, hxd⟩; have E := Lib.hid (E.out.trans hxd.out))
    | (go_at_call 32; refine (awV (hL.out.ext hxd.out) hH.out).mono ?_; rintro e Wv ⟨gv, cv, rfl, hv, hx⟩; have HV := Lib.hid hv; have E := Lib.hid (E.out.trans hx); clear hv hx)
    | (go_at_call 42; refine (awW (hL.out.ext hxd.out) hH.out).mono ?_; rintro e Ww ⟨vw, rfl, hw, hx⟩; have HV := Lib.hid (HV.out.ext (hxl.out.trans (hxd.out.trans hx))); have HW := Lib.hid hw; have E := Lib.hid (E.out.trans hx); clear hw hx)
    | (go_at_call 53; refine (awI (hL.out.ext hxd.out) hH.out).mono ?_; rintro e Wi ⟨rfl, hx⟩; have HV := Lib.hid (HV.out.ext (hxl.out.trans (hxd.out.trans hx))); have HW := Lib.hid (HW.out.ext (hxl.out.trans (hxd.out.trans hx))); have E := Lib.hid (E.out.trans hx); clear hx)
    | (go_at_call 54; refine (awT (hL.out.ext hxd.out) hH.out).mono ?_; rintro e Wt ⟨rfl, hx⟩; have X := Lib.hid (hxl.out.trans (hxd.out.trans hx)); have HB5 := Lib.hid ((Blk.new Wi 84 #[.int .i64 (-4), .int .i64 20, .int .i64 2, .int .i64 1]).ext X.out); have HV := Lib.hid ((HV.out.ext (Ext.alloc _ _)).ext X.out); have HW := Lib.hid ((HW.out.ext (Ext.alloc _ _)).ext X.out); have E := Lib.hid (E.out.trans hx); clear hx)
    | (go_at_call 59; refine (awF (hL.out.ext (Ext.alloc _ _)) (rows_blk (Blk.newAt Wl 4 #[.bool false, .bool false] rfl) rfl rfl (by decide) (fun x => by simp [boolEnc]))).mono ?_; rintro e Wf ⟨rfl, hx⟩; have X := Lib.hid (hxl.out.trans ((Ext.alloc _ _).trans hx)); have HB7 := Lib.hid ((Blk.new Wt 84 #[.int .i64 0, .int .i64 (-2), .int .i64 1, .int .i64 (-5)]).ext X.out); have HB5 := Lib.hid ((HB5.out.ext (Ext.alloc _ _)).ext X.out); have HV := Lib.hid ((HV.out.ext (Ext.alloc _ _)).ext X.out); have HW := Lib.hid ((HW.out.ext (Ext.alloc _ _)).ext X.out); have E := Lib.hid (E.out.trans ((Ext.alloc _ _).trans hx)); clear hx)
    | (go_at_call 38; refine (awG (HV.out.ext (Ext.alloc _ _)) (Blk.newAt Wf 65 #[.int .i64 (-1), .int .i64 5, .int .i64 1, .int .i64 1, .int .i64 1, .int .i64 0] rfl)).mono ?_; rintro e Wg ⟨rfl, hx⟩; have hx' := (Ext.alloc Wf _).trans hx; have HW := Lib.hid (HW.out.ext hx'); have HB5 := Lib.hid (HB5.out.ext hx'); have HB7 := Lib.hid (HB7.out.ext hx'); have E := Lib.hid (E.out.trans hx'); clear hx hx')
    | (go_at_call 25; refine (awN (HW.out.ext (Ext.alloc _ _)) (Blk.newAt Wg 3 #[.int .i64 66, .int .i64 34] rfl)).mono ?_; rintro e Wn ⟨rfl, hx⟩; have hx' := (Ext.alloc Wg _).trans hx; have HB5 := Lib.hid (HB5.out.ext hx'); have HB7 := Lib.hid (HB7.out.ext hx'); have E := Lib.hid (E.out.trans hx'); have y0 := HB5.out.cell 0; have y1 := HB5.out.cell 1; have y2 := HB5.out.cell 2; have y3 := HB5.out.cell 3; have x0 := HB7.out.cell 0; have x1 := HB7.out.cell 1; have x2 := HB7.out.cell 2; have x3 := HB7.out.cell 3; simp only [List.getElem?_toArray, List.getElem?_cons_zero, List.getElem?_cons_succ] at y0 y1 y2 y3 x0 x1 x2 x3; clear hx hx'))
  go_ret
  exact ⟨rfl, E.out⟩

end Go.Proofs.Ytpaoeghdfeekoaa
