/- Deeds at a place. -/
import Derived.Test.YtkmekbafjnlfkaaGreatS21a

namespace Go.Proofs.YtkmekbafjnlfkaaGreat
open Go.RowKit Go.Shelf Go.Mem Go.RegInv
attribute [local go_sem] RelUpon_value RelUpon_skip RelUpon_enter BigFrame.eval_const BigFrame.eval_global BigFrame.eval_func

attribute [local go_sem] store_func
theorem blk_keep {W W' : World} {base n g : Nat} {v : Value} {xs : List Value} {t : TypeId} {cs : Array Value} (b : Blk W g t cs) (hg : W.grownBy W' v.ownBlock) (ho : W.ownsRow base 207 2 v n xs) (ht : t ≠ 207) : Blk W' g t cs := (hg.block _ b.lt (own_notBlk ho b ht)).trans b
theorem DeedC.keep {W W' : World} {base n : Nat} {vv : Value} {xs : List Value} : ∀ {d : Deed} {u v : Value}, DeedC W d u v → W.grownBy W' vv.ownBlock → W.ownsRow base 207 2 vv n xs → DeedC W' d u v
  | .h _, _, _, ⟨q, h1, h2, h3⟩, hg, ho => ⟨q, h1, h2, blk_keep h3 hg ho (by decide)⟩
  | .c _, _, _, ⟨q, h1, h2, h3⟩, hg, ho => ⟨q, h1, h2, blk_keep h3 hg ho (by decide)⟩
  | .d _, _, _, ⟨q, h1, h2, h3⟩, hg, ho => ⟨q, h1, h2, blk_keep h3 hg ho (by decide)⟩
  | .t _, _, _, ⟨q, q', h1, h2, h3, h4⟩, hg, ho => ⟨q, q', h1, h2, blk_keep h3 hg ho (by decide), blk_keep h4 hg ho (by decide)⟩

set_option maxRecDepth 100000 in
set_option maxHeartbeats 4000000 in
theorem deedsAt_h {r : Ru} {u : Value} {w : World} (hR : RuV r u w) (vc vd vt : Int) {jh : Nat} {xh : HK} (hgh : r.hs[jh]? = some xh) :
    Calls Tryz.prog 133 #[u, .agg #[.int .i64 (jh : Int), .int .i64 vc, .int .i64 vd, .int .i64 vt]] w (VPost w (DeedsV (deedsK r (jh : Int) vc vd vt))) := by
  obtain ⟨A0, A1, A2, A3, n0, n1, n2, n3, c0, c1, c2, c3, rfl, h⟩ := hR
  have HDS := Lib.hid (show deedsK r (jh : Int) vc vd vt = [.h xh] from by rw [deedsK, if_pos (by omega), optD_pos (f := .h) rfl hgh])
  have H := Lib.hid h
  have gh := Lib.hid hgh
  clear h hgh
  obtain ⟨W0, hW0⟩ : ∃ W0, W0 = (w.alloc (.cells #[.slice A0 n0 c0, .slice A1 n1 c1, .slice A2 n2 c2, .slice A3 n3 c3, .int .i64 r.h0, .int .i64 r.h1, .int .i64 r.h2, .int .i64 r.h3] 161)).alloc (.cells #[.int .i64 (jh : Int), .int .i64 vc, .int .i64 vd, .int .i64 vt] 202) := ⟨_, rfl⟩
  have K0 := Lib.hid (show Blk W0 w.heap.size 161 #[.slice A0 n0 c0, .slice A1 n1 c1, .slice A2 n2 c2, .slice A3 n3 c3, .int .i64 r.h0, .int .i64 r.h1, .int .i64 r.h2, .int .i64 r.h3] by rw [hW0]; exact (Blk.new _ _ _).alloc _)
  have K1 := Lib.hid (show Blk W0 (w.heap.size + 1) 202 #[.int .i64 (jh : Int), .int .i64 vc, .int .i64 vd, .int .i64 vt] by rw [hW0]; exact Blk.newAt _ _ _ (by simp))
  have E0 := Lib.hid (show Ext w W0 by rw [hW0]; exact (Ext.alloc _ _).trans (Ext.alloc _ _))
  have HW := Lib.hid hW0
  clear hW0
  obtain ⟨bh, oh, hAeh, -, hch⟩ := H.out.r0.2 jh xh gh.out
  subst hAeh
  have Ch := Lib.hid hch
  have hjh : (jh : Int) < (n0 : Int) := by have := (List.getElem?_eq_some_iff.1 gh.out).1; have := H.out.l0; omega
  clear hch
  have HO := Lib.hid (own_none W0 W0.heap.size 207 2)
  have EC := Lib.hid (Ext.refl W0)
  have ph0 : ∀ o1 o2, ((w.alloc o1).alloc o2).cell? ⟨bh, oh + jh * 4, none⟩ = some (.int .i64 xh.k) := fun o1 o2 => ((Ext.alloc w o1).trans (Ext.alloc _ o2)).cell (Ch.out 0 _ rfl)
  have ph1 : ∀ o1 o2, ((w.alloc o1).alloc o2).cell? ⟨bh, oh + jh * 4 + 1, none⟩ = some (.int .i64 xh.lo) := fun o1 o2 => ((Ext.alloc w o1).trans (Ext.alloc _ o2)).cell (Ch.out 1 _ rfl)
  have ph2 : ∀ o1 o2, ((w.alloc o1).alloc o2).cell? ⟨bh, oh + jh * 4 + 2, none⟩ = some (.int .i64 xh.hi) := fun o1 o2 => ((Ext.alloc w o1).trans (Ext.alloc _ o2)).cell (Ch.out 2 _ rfl)
  have ph3 : ∀ o1 o2, ((w.alloc o1).alloc o2).cell? ⟨bh, oh + jh * 4 + 3, none⟩ = some (.int .i64 xh.g) := fun o1 o2 => ((Ext.alloc w o1).trans (Ext.alloc _ o2)).cell (Ch.out 3 _ rfl)
  go_enter Tryz.func133, Tryz.ntmps133
  go_wp2_with (go_at_call 150; rw [← HW.out]; refine (heating_any xh.k xh.lo xh.hi xh.g _).mono ?_; rintro e Wh ⟨v, rfl, hx, hv⟩; obtain ⟨f, g, rfl, qh, rfl, rfl, hb⟩ := hv; have Dh := Lib.hid (show DeedC Wh (.h xh) _ _ from ⟨qh, rfl, rfl, hb⟩); have Xh := Lib.hid hx; clear hx hb)
  go_ret
  rw [HDS.out]
  have hb := Blk.new Wh 207 #[.func (.func 164) #[] #[.pointer (some ⟨qh, 0, none⟩)], .func (.func 167) #[] #[.pointer (some ⟨qh, 0, none⟩)]]
  exact ⟨_, rfl, (E0.out.trans Xh.out).trans (Ext.alloc _ _), _, 1, 1, [(.func (.func 164) #[] #[.pointer (some ⟨qh, 0, none⟩)], .func (.func 167) #[] #[.pointer (some ⟨qh, 0, none⟩)])], rfl, Lib.hid rfl, Lib.hid rfl, by omega, rows_blk (n := 1) hb (fun _ => rfl) rfl rfl (by decide), fun i d p hd hp => by
      match i, hd, hp with
      | 0, hd, hp => obtain rfl := Option.some.inj hd; obtain rfl := Option.some.inj hp; exact Dh.out.ext (Ext.alloc _ _)
      | i + 1, hd, hp => simp at hd⟩

set_option maxRecDepth 100000 in
set_option maxHeartbeats 4000000 in
theorem deedsAt_none {r : Ru} {u : Value} {w : World} (hR : RuV r u w) (vh vc vd vt : Int)  (hvh : vh < 0) (hvc : vc < 0) (hvd : vd < 0) (hvt : vt < 0) :
    Calls Tryz.prog 133 #[u, .agg #[.int .i64 vh, .int .i64 vc, .int .i64 vd, .int .i64 vt]] w (VPost w (DeedsV (deedsK r vh vc vd vt))) := by
  obtain ⟨A0, A1, A2, A3, n0, n1, n2, n3, c0, c1, c2, c3, rfl, h⟩ := hR
  have HDS := Lib.hid (show deedsK r vh vc vd vt = [] from by rw [deedsK, if_neg (by omega), (optD_neg (f := .c) (by omega) : optD vc r.cs .c = _), (optD_neg (f := .d) (by omega) : optD vd r.ds .d = _), (optD_neg (f := .t) (by omega) : optD vt r.ts .t = _)]; rfl)
  have H := Lib.hid h
  clear h
  obtain ⟨W0, hW0⟩ : ∃ W0, W0 = (w.alloc (.cells #[.slice A0 n0 c0, .slice A1 n1 c1, .slice A2 n2 c2, .slice A3 n3 c3, .int .i64 r.h0, .int .i64 r.h1, .int .i64 r.h2, .int .i64 r.h3] 161)).alloc (.cells #[.int .i64 vh, .int .i64 vc, .int .i64 vd, .int .i64 vt] 202) := ⟨_, rfl⟩
  have K0 := Lib.hid (show Blk W0 w.heap.size 161 #[.slice A0 n0 c0, .slice A1 n1 c1, .slice A2 n2 c2, .slice A3 n3 c3, .int .i64 r.h0, .int .i64 r.h1, .int .i64 r.h2, .int .i64 r.h3] by rw [hW0]; exact (Blk.new _ _ _).alloc _)
  have K1 := Lib.hid (show Blk W0 (w.heap.size + 1) 202 #[.int .i64 vh, .int .i64 vc, .int .i64 vd, .int .i64 vt] by rw [hW0]; exact Blk.newAt _ _ _ (by simp))
  have E0 := Lib.hid (show Ext w W0 by rw [hW0]; exact (Ext.alloc _ _).trans (Ext.alloc _ _))
  have HW := Lib.hid hW0
  clear hW0
  have HO := Lib.hid (own_none W0 W0.heap.size 207 2)
  have EC := Lib.hid (Ext.refl W0)
  go_enter Tryz.func133, Tryz.ntmps133
  go_wp2
  go_ret
  have e0 := E0.out
  rw [HW.out] at e0
  rw [HDS.out]
  exact ⟨_, rfl, e0, none, 0, 0, [], rfl, Lib.hid rfl, Lib.hid rfl, by omega, ⟨by simp, fun i x hx => by simp at hx⟩, fun i d p hd hp => by simp at hd⟩

set_option maxRecDepth 100000 in
set_option maxHeartbeats 4000000 in
theorem deedsAt_c {r : Ru} {u : Value} {w : World} (hR : RuV r u w) (vh vd vt : Int) {jc : Nat} (hvh : vh < 0) {xc : CK} (hgc : r.cs[jc]? = some xc) (hvd : vd < 0) (hvt : vt < 0) :
    Calls Tryz.prog 133 #[u, .agg #[.int .i64 vh, .int .i64 (jc : Int), .int .i64 vd, .int .i64 vt]] w (VPost w (DeedsV (deedsK r vh (jc : Int) vd vt))) := by
  obtain ⟨A0, A1, A2, A3, n0, n1, n2, n3, c0, c1, c2, c3, rfl, h⟩ := hR
  have HDS := Lib.hid (show deedsK r vh (jc : Int) vd vt = [.c xc] from by rw [deedsK, if_neg (by omega), (optD_pos (f := .c) rfl hgc : optD (jc : Int) r.cs .c = _), (optD_neg (f := .d) (by omega) : optD vd r.ds .d = _), (optD_neg (f := .t) (by omega) : optD vt r.ts .t = _)]; rfl)
  obtain ⟨i0, hi, hz0, hz1, hz2⟩ := info_parts info207
  have HI0 := Lib.hid hz0
  clear hz0
  have H := Lib.hid h
  have gc := Lib.hid hgc
  clear h hgc
  obtain ⟨W0, hW0⟩ : ∃ W0, W0 = (w.alloc (.cells #[.slice A0 n0 c0, .slice A1 n1 c1, .slice A2 n2 c2, .slice A3 n3 c3, .int .i64 r.h0, .int .i64 r.h1, .int .i64 r.h2, .int .i64 r.h3] 161)).alloc (.cells #[.int .i64 vh, .int .i64 (jc : Int), .int .i64 vd, .int .i64 vt] 202) := ⟨_, rfl⟩
  have K0 := Lib.hid (show Blk W0 w.heap.size 161 #[.slice A0 n0 c0, .slice A1 n1 c1, .slice A2 n2 c2, .slice A3 n3 c3, .int .i64 r.h0, .int .i64 r.h1, .int .i64 r.h2, .int .i64 r.h3] by rw [hW0]; exact (Blk.new _ _ _).alloc _)
  have K1 := Lib.hid (show Blk W0 (w.heap.size + 1) 202 #[.int .i64 vh, .int .i64 (jc : Int), .int .i64 vd, .int .i64 vt] by rw [hW0]; exact Blk.newAt _ _ _ (by simp))
  have E0 := Lib.hid (show Ext w W0 by rw [hW0]; exact (Ext.alloc _ _).trans (Ext.alloc _ _))
  have HW := Lib.hid hW0
  clear hW0
  obtain ⟨bc, oc, hAec, -, hcc⟩ := H.out.r1.2 jc xc gc.out
  subst hAec
  have Cc := Lib.hid hcc
  have hjc : (jc : Int) < (n1 : Int) := by have := (List.getElem?_eq_some_iff.1 gc.out).1; have := H.out.l1; omega
  clear hcc
  have HO := Lib.hid (own_none W0 W0.heap.size 207 2)
  have EC := Lib.hid (Ext.refl W0)
  have pc0 : ∀ o1 o2, ((w.alloc o1).alloc o2).cell? ⟨bc, oc + jc * 5, none⟩ = some (.int .i64 xc.k) := fun o1 o2 => ((Ext.alloc w o1).trans (Ext.alloc _ o2)).cell (Cc.out 0 _ rfl)
  have pc1 : ∀ o1 o2, ((w.alloc o1).alloc o2).cell? ⟨bc, oc + jc * 5 + 1, none⟩ = some (.int .i64 xc.wlo) := fun o1 o2 => ((Ext.alloc w o1).trans (Ext.alloc _ o2)).cell (Cc.out 1 _ rfl)
  have pc2 : ∀ o1 o2, ((w.alloc o1).alloc o2).cell? ⟨bc, oc + jc * 5 + 2, none⟩ = some (.int .i64 xc.whi) := fun o1 o2 => ((Ext.alloc w o1).trans (Ext.alloc _ o2)).cell (Cc.out 2 _ rfl)
  have pc3 : ∀ o1 o2, ((w.alloc o1).alloc o2).cell? ⟨bc, oc + jc * 5 + 3, none⟩ = some (.int .i64 xc.rlo) := fun o1 o2 => ((Ext.alloc w o1).trans (Ext.alloc _ o2)).cell (Cc.out 3 _ rfl)
  have pc4 : ∀ o1 o2, ((w.alloc o1).alloc o2).cell? ⟨bc, oc + jc * 5 + 4, none⟩ = some (.int .i64 xc.rhi) := fun o1 o2 => ((Ext.alloc w o1).trans (Ext.alloc _ o2)).cell (Cc.out 4 _ rfl)
  go_enter Tryz.func133, Tryz.ntmps133
  go_wp2_with (first
    | (go_at_call 151; rw [← HW.out]; refine (cooling_any xc.k xc.wlo xc.whi xc.rlo xc.rhi _).mono ?_; rintro e Wc ⟨v, rfl, hx, hv⟩; obtain ⟨f, g, rfl, qc, rfl, rfl, hb⟩ := hv; have Dc := Lib.hid (show DeedC Wc (.c xc) _ _ from ⟨qc, rfl, rfl, hb⟩); have Xc := Lib.hid hx; have Zc := Lib.hid (Ext.alloc Wc (.cells #[.func (.func 168) #[] #[.pointer (some ⟨qc, 0, none⟩)], .func (.func 171) #[] #[.pointer (some ⟨qc, 0, none⟩)]] 207)); have Yc := Lib.hid (Xc.out.trans Zc.out); have Nc := Lib.hid (show ∀ j u, ([.func (.func 168) #[] #[.pointer (some ⟨qc, 0, none⟩)], .func (.func 171) #[] #[.pointer (some ⟨qc, 0, none⟩)]] : List Value)[j]? = some u → (Wc.alloc (.cells #[.func (.func 168) #[] #[.pointer (some ⟨qc, 0, none⟩)], .func (.func 171) #[] #[.pointer (some ⟨qc, 0, none⟩)]] 207)).cell? (Addr.add ⟨Wc.heap.size, 0, none⟩ j) = some u from news_of (Blk.new _ _ _)); clear hx hb)
    | (at_builtin; refine wpList_append_own _ rfl _ _ 199 rfl W0.heap.size 207 i0 (.agg #[.nilFunc, .nilFunc]) 2 16 Tryz.underlying199 hi HI0.out hz1 hz2 rfl (by decide) _ _ _ rfl (own_ext HO.out Yc.out) ⟨Wc.heap.size, 0, none⟩ 1 1 [.func (.func 168) #[] #[.pointer (some ⟨qc, 0, none⟩)], .func (.func 171) #[] #[.pointer (some ⟨qc, 0, none⟩)]] rfl rfl Nc.out (by simp [Value.oneCell']) (by unfold maxLen; omega) (by omega) (EC.out.trans Yc.out).size ?_; intro v' Vc hown' hgrow _; have EVc := Lib.hid (Ext.grownBy (EC.out.trans Yc.out) hgrow (fun g hg => own_base HO.out hg)); have GRc := Lib.hid hgrow; have OBc := Lib.hid (own_ext HO.out Yc.out); have ONc := Lib.hid hown'; clear hown' hgrow; refine Hid.out ?_))
  refine Lib.hid ?_
  have Dc := Lib.hid (DeedC.keep (Dc.out.ext Zc.out) GRc.out OBc.out)
  have EC := EVc
  have HO := ONc
  clear pc0 pc1 pc2 pc3 pc4 EVc GRc OBc ONc Xc Nc Yc Zc
  have kk1 := K1.out.ext EC.out
  have q0 : Vc.cell? ⟨w.heap.size + 1, 0, none⟩ = some (.int .i64 vh) := kk1.cell 0
  have q1 : Vc.cell? ⟨w.heap.size + 1, 1, none⟩ = some (.int .i64 (jc : Int)) := kk1.cell 1
  have q2 : Vc.cell? ⟨w.heap.size + 1, 2, none⟩ = some (.int .i64 vd) := kk1.cell 2
  have q3 : Vc.cell? ⟨w.heap.size + 1, 3, none⟩ = some (.int .i64 vt) := kk1.cell 3
  clear kk1
  obtain ⟨A', c', rfl⟩ := own_slice HO.out
  go_wp2
  go_ret
  rw [HDS.out]
  refine ⟨_, rfl, E0.out.trans EC.out, A', 1, c', [(.func (.func 168) #[] #[.pointer (some ⟨qc, 0, none⟩)], .func (.func 171) #[] #[.pointer (some ⟨qc, 0, none⟩)])], rfl, Lib.hid rfl, Lib.hid rfl, by omega, rows_own (n := 1) (base := W0.heap.size) (c := c') rfl (fun _ => rfl) (by simpa [prV] using HO.out) (by decide), fun i d p hd hp => ?_⟩
  match i, hd, hp with
  | 0, hd, hp => obtain rfl := Option.some.inj hd; obtain rfl := Option.some.inj hp; exact Dc.out
  | i + 1, hd, hp => simp at hd

set_option maxRecDepth 100000 in
set_option maxHeartbeats 4000000 in
theorem deedsAt_d {r : Ru} {u : Value} {w : World} (hR : RuV r u w) (vh vc vt : Int) {jd : Nat} (hvh : vh < 0) (hvc : vc < 0) {xd : DK} (hgd : r.ds[jd]? = some xd) (hvt : vt < 0) :
    Calls Tryz.prog 133 #[u, .agg #[.int .i64 vh, .int .i64 vc, .int .i64 (jd : Int), .int .i64 vt]] w (VPost w (DeedsV (deedsK r vh vc (jd : Int) vt))) := by
  obtain ⟨A0, A1, A2, A3, n0, n1, n2, n3, c0, c1, c2, c3, rfl, h⟩ := hR
  have HDS := Lib.hid (show deedsK r vh vc (jd : Int) vt = [.d xd] from by rw [deedsK, if_neg (by omega), (optD_neg (f := .c) (by omega) : optD vc r.cs .c = _), (optD_pos (f := .d) rfl hgd : optD (jd : Int) r.ds .d = _), (optD_neg (f := .t) (by omega) : optD vt r.ts .t = _)]; rfl)
  obtain ⟨i0, hi, hz0, hz1, hz2⟩ := info_parts info207
  have HI0 := Lib.hid hz0
  clear hz0
  have H := Lib.hid h
  have gd := Lib.hid hgd
  clear h hgd
  obtain ⟨W0, hW0⟩ : ∃ W0, W0 = (w.alloc (.cells #[.slice A0 n0 c0, .slice A1 n1 c1, .slice A2 n2 c2, .slice A3 n3 c3, .int .i64 r.h0, .int .i64 r.h1, .int .i64 r.h2, .int .i64 r.h3] 161)).alloc (.cells #[.int .i64 vh, .int .i64 vc, .int .i64 (jd : Int), .int .i64 vt] 202) := ⟨_, rfl⟩
  have K0 := Lib.hid (show Blk W0 w.heap.size 161 #[.slice A0 n0 c0, .slice A1 n1 c1, .slice A2 n2 c2, .slice A3 n3 c3, .int .i64 r.h0, .int .i64 r.h1, .int .i64 r.h2, .int .i64 r.h3] by rw [hW0]; exact (Blk.new _ _ _).alloc _)
  have K1 := Lib.hid (show Blk W0 (w.heap.size + 1) 202 #[.int .i64 vh, .int .i64 vc, .int .i64 (jd : Int), .int .i64 vt] by rw [hW0]; exact Blk.newAt _ _ _ (by simp))
  have E0 := Lib.hid (show Ext w W0 by rw [hW0]; exact (Ext.alloc _ _).trans (Ext.alloc _ _))
  have HW := Lib.hid hW0
  clear hW0
  obtain ⟨bd, od, hAed, -, hcd⟩ := H.out.r2.2 jd xd gd.out
  subst hAed
  have Cd := Lib.hid hcd
  have hjd : (jd : Int) < (n2 : Int) := by have := (List.getElem?_eq_some_iff.1 gd.out).1; have := H.out.l2; omega
  clear hcd
  have HO := Lib.hid (own_none W0 W0.heap.size 207 2)
  have EC := Lib.hid (Ext.refl W0)
  have pd0 : ∀ o1 o2, ((w.alloc o1).alloc o2).cell? ⟨bd, od + jd * 3, none⟩ = some (.int .i64 xd.k) := fun o1 o2 => ((Ext.alloc w o1).trans (Ext.alloc _ o2)).cell (Cd.out 0 _ rfl)
  have pd1 : ∀ o1 o2, ((w.alloc o1).alloc o2).cell? ⟨bd, od + jd * 3 + 1, none⟩ = some (.int .i64 xd.lo) := fun o1 o2 => ((Ext.alloc w o1).trans (Ext.alloc _ o2)).cell (Cd.out 1 _ rfl)
  have pd2 : ∀ o1 o2, ((w.alloc o1).alloc o2).cell? ⟨bd, od + jd * 3 + 2, none⟩ = some (.int .i64 xd.hi) := fun o1 o2 => ((Ext.alloc w o1).trans (Ext.alloc _ o2)).cell (Cd.out 2 _ rfl)
  go_enter Tryz.func133, Tryz.ntmps133
  go_wp2_with (first
    | (go_at_call 152; rw [← HW.out]; refine (chilling_any xd.k xd.lo xd.hi _).mono ?_; rintro e Wd ⟨v, rfl, hx, hv⟩; obtain ⟨f, g, rfl, qd, rfl, rfl, hb⟩ := hv; have Dd := Lib.hid (show DeedC Wd (.d xd) _ _ from ⟨qd, rfl, rfl, hb⟩); have Xd := Lib.hid hx; have Zd := Lib.hid (Ext.alloc Wd (.cells #[.func (.func 172) #[] #[.pointer (some ⟨qd, 0, none⟩)], .func (.func 174) #[] #[.pointer (some ⟨qd, 0, none⟩)]] 207)); have Yd := Lib.hid (Xd.out.trans Zd.out); have Nd := Lib.hid (show ∀ j u, ([.func (.func 172) #[] #[.pointer (some ⟨qd, 0, none⟩)], .func (.func 174) #[] #[.pointer (some ⟨qd, 0, none⟩)]] : List Value)[j]? = some u → (Wd.alloc (.cells #[.func (.func 172) #[] #[.pointer (some ⟨qd, 0, none⟩)], .func (.func 174) #[] #[.pointer (some ⟨qd, 0, none⟩)]] 207)).cell? (Addr.add ⟨Wd.heap.size, 0, none⟩ j) = some u from news_of (Blk.new _ _ _)); clear hx hb)
    | (at_builtin; refine wpList_append_own _ rfl _ _ 199 rfl W0.heap.size 207 i0 (.agg #[.nilFunc, .nilFunc]) 2 16 Tryz.underlying199 hi HI0.out hz1 hz2 rfl (by decide) _ _ _ rfl (own_ext HO.out Yd.out) ⟨Wd.heap.size, 0, none⟩ 1 1 [.func (.func 172) #[] #[.pointer (some ⟨qd, 0, none⟩)], .func (.func 174) #[] #[.pointer (some ⟨qd, 0, none⟩)]] rfl rfl Nd.out (by simp [Value.oneCell']) (by unfold maxLen; omega) (by omega) (EC.out.trans Yd.out).size ?_; intro v' Vd hown' hgrow _; have EVd := Lib.hid (Ext.grownBy (EC.out.trans Yd.out) hgrow (fun g hg => own_base HO.out hg)); have GRd := Lib.hid hgrow; have OBd := Lib.hid (own_ext HO.out Yd.out); have ONd := Lib.hid hown'; clear hown' hgrow; refine Hid.out ?_))
  refine Lib.hid ?_
  have Dd := Lib.hid (DeedC.keep (Dd.out.ext Zd.out) GRd.out OBd.out)
  have EC := EVd
  have HO := ONd
  clear pd0 pd1 pd2 EVd GRd OBd ONd Xd Nd Yd Zd
  have kk1 := K1.out.ext EC.out
  have q0 : Vd.cell? ⟨w.heap.size + 1, 0, none⟩ = some (.int .i64 vh) := kk1.cell 0
  have q1 : Vd.cell? ⟨w.heap.size + 1, 1, none⟩ = some (.int .i64 vc) := kk1.cell 1
  have q2 : Vd.cell? ⟨w.heap.size + 1, 2, none⟩ = some (.int .i64 (jd : Int)) := kk1.cell 2
  have q3 : Vd.cell? ⟨w.heap.size + 1, 3, none⟩ = some (.int .i64 vt) := kk1.cell 3
  clear kk1
  obtain ⟨A', c', rfl⟩ := own_slice HO.out
  go_wp2
  go_ret
  rw [HDS.out]
  refine ⟨_, rfl, E0.out.trans EC.out, A', 1, c', [(.func (.func 172) #[] #[.pointer (some ⟨qd, 0, none⟩)], .func (.func 174) #[] #[.pointer (some ⟨qd, 0, none⟩)])], rfl, Lib.hid rfl, Lib.hid rfl, by omega, rows_own (n := 1) (base := W0.heap.size) (c := c') rfl (fun _ => rfl) (by simpa [prV] using HO.out) (by decide), fun i d p hd hp => ?_⟩
  match i, hd, hp with
  | 0, hd, hp => obtain rfl := Option.some.inj hd; obtain rfl := Option.some.inj hp; exact Dd.out
  | i + 1, hd, hp => simp at hd

set_option maxRecDepth 100000 in
set_option maxHeartbeats 4000000 in
theorem deedsAt_t {r : Ru} {u : Value} {w : World} (hR : RuV r u w) (vh vc vd : Int) {jt : Nat} (hvh : vh < 0) (hvc : vc < 0) (hvd : vd < 0) {xt : TK} (hgt : r.ts[jt]? = some xt) :
    Calls Tryz.prog 133 #[u, .agg #[.int .i64 vh, .int .i64 vc, .int .i64 vd, .int .i64 (jt : Int)]] w (VPost w (DeedsV (deedsK r vh vc vd (jt : Int)))) := by
  obtain ⟨A0, A1, A2, A3, n0, n1, n2, n3, c0, c1, c2, c3, rfl, h⟩ := hR
  have HDS := Lib.hid (show deedsK r vh vc vd (jt : Int) = [.t xt] from by rw [deedsK, if_neg (by omega), (optD_neg (f := .c) (by omega) : optD vc r.cs .c = _), (optD_neg (f := .d) (by omega) : optD vd r.ds .d = _), (optD_pos (f := .t) rfl hgt : optD (jt : Int) r.ts .t = _)]; rfl)
  obtain ⟨i0, hi, hz0, hz1, hz2⟩ := info_parts info207
  have HI0 := Lib.hid hz0
  clear hz0
  have H := Lib.hid h
  have gt := Lib.hid hgt
  clear h hgt
  obtain ⟨W0, hW0⟩ : ∃ W0, W0 = (w.alloc (.cells #[.slice A0 n0 c0, .slice A1 n1 c1, .slice A2 n2 c2, .slice A3 n3 c3, .int .i64 r.h0, .int .i64 r.h1, .int .i64 r.h2, .int .i64 r.h3] 161)).alloc (.cells #[.int .i64 vh, .int .i64 vc, .int .i64 vd, .int .i64 (jt : Int)] 202) := ⟨_, rfl⟩
  have K0 := Lib.hid (show Blk W0 w.heap.size 161 #[.slice A0 n0 c0, .slice A1 n1 c1, .slice A2 n2 c2, .slice A3 n3 c3, .int .i64 r.h0, .int .i64 r.h1, .int .i64 r.h2, .int .i64 r.h3] by rw [hW0]; exact (Blk.new _ _ _).alloc _)
  have K1 := Lib.hid (show Blk W0 (w.heap.size + 1) 202 #[.int .i64 vh, .int .i64 vc, .int .i64 vd, .int .i64 (jt : Int)] by rw [hW0]; exact Blk.newAt _ _ _ (by simp))
  have E0 := Lib.hid (show Ext w W0 by rw [hW0]; exact (Ext.alloc _ _).trans (Ext.alloc _ _))
  have HW := Lib.hid hW0
  clear hW0
  obtain ⟨bt, ot, hAet, -, hct⟩ := H.out.r3.2 jt xt gt.out
  subst hAet
  have Ct := Lib.hid hct
  have hjt : (jt : Int) < (n3 : Int) := by have := (List.getElem?_eq_some_iff.1 gt.out).1; have := H.out.l3; omega
  clear hct
  have HO := Lib.hid (own_none W0 W0.heap.size 207 2)
  have EC := Lib.hid (Ext.refl W0)
  have pt0 : ∀ o1 o2, ((w.alloc o1).alloc o2).cell? ⟨bt, ot + jt * 2, none⟩ = some (.int .i64 xt.k) := fun o1 o2 => ((Ext.alloc w o1).trans (Ext.alloc _ o2)).cell (Ct.out 0 _ rfl)
  have pt1 : ∀ o1 o2, ((w.alloc o1).alloc o2).cell? ⟨bt, ot + jt * 2 + 1, none⟩ = some (.int .i64 xt.r) := fun o1 o2 => ((Ext.alloc w o1).trans (Ext.alloc _ o2)).cell (Ct.out 1 _ rfl)
  go_enter Tryz.func133, Tryz.ntmps133
  go_wp2_with (first
    | (go_at_call 153; rw [← HW.out]; refine (tempering_any xt.k xt.r _).mono ?_; rintro e Wt ⟨v, rfl, hx, hv⟩; obtain ⟨f, g, rfl, qt, qt', rfl, rfl, hb, hb'⟩ := hv; have Dt := Lib.hid (show DeedC Wt (.t xt) _ _ from ⟨qt, qt', rfl, rfl, hb, hb'⟩); have Xt := Lib.hid hx; have Zt := Lib.hid (Ext.alloc Wt (.cells #[.func (.func 176) #[] #[.pointer (some ⟨qt', 0, none⟩)], .func (.func 177) #[] #[.pointer (some ⟨qt', 0, none⟩)]] 207)); have Yt := Lib.hid (Xt.out.trans Zt.out); have Nt := Lib.hid (show ∀ j u, ([.func (.func 176) #[] #[.pointer (some ⟨qt', 0, none⟩)], .func (.func 177) #[] #[.pointer (some ⟨qt', 0, none⟩)]] : List Value)[j]? = some u → (Wt.alloc (.cells #[.func (.func 176) #[] #[.pointer (some ⟨qt', 0, none⟩)], .func (.func 177) #[] #[.pointer (some ⟨qt', 0, none⟩)]] 207)).cell? (Addr.add ⟨Wt.heap.size, 0, none⟩ j) = some u from news_of (Blk.new _ _ _)); clear hx hb hb')
    | (at_builtin; refine wpList_append_own _ rfl _ _ 199 rfl W0.heap.size 207 i0 (.agg #[.nilFunc, .nilFunc]) 2 16 Tryz.underlying199 hi HI0.out hz1 hz2 rfl (by decide) _ _ _ rfl (own_ext HO.out Yt.out) ⟨Wt.heap.size, 0, none⟩ 1 1 [.func (.func 176) #[] #[.pointer (some ⟨qt', 0, none⟩)], .func (.func 177) #[] #[.pointer (some ⟨qt', 0, none⟩)]] rfl rfl Nt.out (by simp [Value.oneCell']) (by unfold maxLen; omega) (by omega) (EC.out.trans Yt.out).size ?_; intro v' Vt hown' hgrow _; have EVt := Lib.hid (Ext.grownBy (EC.out.trans Yt.out) hgrow (fun g hg => own_base HO.out hg)); have GRt := Lib.hid hgrow; have OBt := Lib.hid (own_ext HO.out Yt.out); have ONt := Lib.hid hown'; clear hown' hgrow; refine Hid.out ?_))
  refine Lib.hid ?_
  have Dt := Lib.hid (DeedC.keep (Dt.out.ext Zt.out) GRt.out OBt.out)
  have EC := EVt
  have HO := ONt
  clear pt0 pt1 EVt GRt OBt ONt Xt Nt Yt Zt
  have kk1 := K1.out.ext EC.out
  have q0 : Vt.cell? ⟨w.heap.size + 1, 0, none⟩ = some (.int .i64 vh) := kk1.cell 0
  have q1 : Vt.cell? ⟨w.heap.size + 1, 1, none⟩ = some (.int .i64 vc) := kk1.cell 1
  have q2 : Vt.cell? ⟨w.heap.size + 1, 2, none⟩ = some (.int .i64 vd) := kk1.cell 2
  have q3 : Vt.cell? ⟨w.heap.size + 1, 3, none⟩ = some (.int .i64 (jt : Int)) := kk1.cell 3
  clear kk1
  obtain ⟨A', c', rfl⟩ := own_slice HO.out
  go_wp2
  go_ret
  rw [HDS.out]
  refine ⟨_, rfl, E0.out.trans EC.out, A', 1, c', [(.func (.func 176) #[] #[.pointer (some ⟨qt', 0, none⟩)], .func (.func 177) #[] #[.pointer (some ⟨qt', 0, none⟩)])], rfl, Lib.hid rfl, Lib.hid rfl, by omega, rows_own (n := 1) (base := W0.heap.size) (c := c') rfl (fun _ => rfl) (by simpa [prV] using HO.out) (by decide), fun i d p hd hp => ?_⟩
  match i, hd, hp with
  | 0, hd, hp => obtain rfl := Option.some.inj hd; obtain rfl := Option.some.inj hp; exact Dt.out
  | i + 1, hd, hp => simp at hd

set_option maxRecDepth 100000 in
set_option maxHeartbeats 4000000 in
theorem deedsAt_cd {r : Ru} {u : Value} {w : World} (hR : RuV r u w) (vh vt : Int) {jc jd : Nat} (hvh : vh < 0) {xc : CK} (hgc : r.cs[jc]? = some xc) {xd : DK} (hgd : r.ds[jd]? = some xd) (hvt : vt < 0) :
    Calls Tryz.prog 133 #[u, .agg #[.int .i64 vh, .int .i64 (jc : Int), .int .i64 (jd : Int), .int .i64 vt]] w (VPost w (DeedsV (deedsK r vh (jc : Int) (jd : Int) vt))) := by
  obtain ⟨A0, A1, A2, A3, n0, n1, n2, n3, c0, c1, c2, c3, rfl, h⟩ := hR
  have HDS := Lib.hid (show deedsK r vh (jc : Int) (jd : Int) vt = [.c xc, .d xd] from by rw [deedsK, if_neg (by omega), (optD_pos (f := .c) rfl hgc : optD (jc : Int) r.cs .c = _), (optD_pos (f := .d) rfl hgd : optD (jd : Int) r.ds .d = _), (optD_neg (f := .t) (by omega) : optD vt r.ts .t = _)]; rfl)
  obtain ⟨i0, hi, hz0, hz1, hz2⟩ := info_parts info207
  have HI0 := Lib.hid hz0
  clear hz0
  have H := Lib.hid h
  have gc := Lib.hid hgc
  have gd := Lib.hid hgd
  clear h hgc hgd
  obtain ⟨W0, hW0⟩ : ∃ W0, W0 = (w.alloc (.cells #[.slice A0 n0 c0, .slice A1 n1 c1, .slice A2 n2 c2, .slice A3 n3 c3, .int .i64 r.h0, .int .i64 r.h1, .int .i64 r.h2, .int .i64 r.h3] 161)).alloc (.cells #[.int .i64 vh, .int .i64 (jc : Int), .int .i64 (jd : Int), .int .i64 vt] 202) := ⟨_, rfl⟩
  have K0 := Lib.hid (show Blk W0 w.heap.size 161 #[.slice A0 n0 c0, .slice A1 n1 c1, .slice A2 n2 c2, .slice A3 n3 c3, .int .i64 r.h0, .int .i64 r.h1, .int .i64 r.h2, .int .i64 r.h3] by rw [hW0]; exact (Blk.new _ _ _).alloc _)
  have K1 := Lib.hid (show Blk W0 (w.heap.size + 1) 202 #[.int .i64 vh, .int .i64 (jc : Int), .int .i64 (jd : Int), .int .i64 vt] by rw [hW0]; exact Blk.newAt _ _ _ (by simp))
  have E0 := Lib.hid (show Ext w W0 by rw [hW0]; exact (Ext.alloc _ _).trans (Ext.alloc _ _))
  have HW := Lib.hid hW0
  clear hW0
  obtain ⟨bc, oc, hAec, -, hcc⟩ := H.out.r1.2 jc xc gc.out
  subst hAec
  have Cc := Lib.hid hcc
  have hjc : (jc : Int) < (n1 : Int) := by have := (List.getElem?_eq_some_iff.1 gc.out).1; have := H.out.l1; omega
  clear hcc
  obtain ⟨bd, od, hAed, -, hcd⟩ := H.out.r2.2 jd xd gd.out
  subst hAed
  have Cd := Lib.hid hcd
  have hjd : (jd : Int) < (n2 : Int) := by have := (List.getElem?_eq_some_iff.1 gd.out).1; have := H.out.l2; omega
  clear hcd
  have HO := Lib.hid (own_none W0 W0.heap.size 207 2)
  have EC := Lib.hid (Ext.refl W0)
  have pc0 : ∀ o1 o2, ((w.alloc o1).alloc o2).cell? ⟨bc, oc + jc * 5, none⟩ = some (.int .i64 xc.k) := fun o1 o2 => ((Ext.alloc w o1).trans (Ext.alloc _ o2)).cell (Cc.out 0 _ rfl)
  have pc1 : ∀ o1 o2, ((w.alloc o1).alloc o2).cell? ⟨bc, oc + jc * 5 + 1, none⟩ = some (.int .i64 xc.wlo) := fun o1 o2 => ((Ext.alloc w o1).trans (Ext.alloc _ o2)).cell (Cc.out 1 _ rfl)
  have pc2 : ∀ o1 o2, ((w.alloc o1).alloc o2).cell? ⟨bc, oc + jc * 5 + 2, none⟩ = some (.int .i64 xc.whi) := fun o1 o2 => ((Ext.alloc w o1).trans (Ext.alloc _ o2)).cell (Cc.out 2 _ rfl)
  have pc3 : ∀ o1 o2, ((w.alloc o1).alloc o2).cell? ⟨bc, oc + jc * 5 + 3, none⟩ = some (.int .i64 xc.rlo) := fun o1 o2 => ((Ext.alloc w o1).trans (Ext.alloc _ o2)).cell (Cc.out 3 _ rfl)
  have pc4 : ∀ o1 o2, ((w.alloc o1).alloc o2).cell? ⟨bc, oc + jc * 5 + 4, none⟩ = some (.int .i64 xc.rhi) := fun o1 o2 => ((Ext.alloc w o1).trans (Ext.alloc _ o2)).cell (Cc.out 4 _ rfl)
  go_enter Tryz.func133, Tryz.ntmps133
  go_wp2_with (first
    | (go_at_call 151; rw [← HW.out]; refine (cooling_any xc.k xc.wlo xc.whi xc.rlo xc.rhi _).mono ?_; rintro e Wc ⟨v, rfl, hx, hv⟩; obtain ⟨f, g, rfl, qc, rfl, rfl, hb⟩ := hv; have Dc := Lib.hid (show DeedC Wc (.c xc) _ _ from ⟨qc, rfl, rfl, hb⟩); have Xc := Lib.hid hx; have Zc := Lib.hid (Ext.alloc Wc (.cells #[.func (.func 168) #[] #[.pointer (some ⟨qc, 0, none⟩)], .func (.func 171) #[] #[.pointer (some ⟨qc, 0, none⟩)]] 207)); have Yc := Lib.hid (Xc.out.trans Zc.out); have Nc := Lib.hid (show ∀ j u, ([.func (.func 168) #[] #[.pointer (some ⟨qc, 0, none⟩)], .func (.func 171) #[] #[.pointer (some ⟨qc, 0, none⟩)]] : List Value)[j]? = some u → (Wc.alloc (.cells #[.func (.func 168) #[] #[.pointer (some ⟨qc, 0, none⟩)], .func (.func 171) #[] #[.pointer (some ⟨qc, 0, none⟩)]] 207)).cell? (Addr.add ⟨Wc.heap.size, 0, none⟩ j) = some u from news_of (Blk.new _ _ _)); clear hx hb)
    | (at_builtin; refine wpList_append_own _ rfl _ _ 199 rfl W0.heap.size 207 i0 (.agg #[.nilFunc, .nilFunc]) 2 16 Tryz.underlying199 hi HI0.out hz1 hz2 rfl (by decide) _ _ _ rfl (own_ext HO.out Yc.out) ⟨Wc.heap.size, 0, none⟩ 1 1 [.func (.func 168) #[] #[.pointer (some ⟨qc, 0, none⟩)], .func (.func 171) #[] #[.pointer (some ⟨qc, 0, none⟩)]] rfl rfl Nc.out (by simp [Value.oneCell']) (by unfold maxLen; omega) (by omega) (EC.out.trans Yc.out).size ?_; intro v' Vc hown' hgrow _; have EVc := Lib.hid (Ext.grownBy (EC.out.trans Yc.out) hgrow (fun g hg => own_base HO.out hg)); have GRc := Lib.hid hgrow; have OBc := Lib.hid (own_ext HO.out Yc.out); have ONc := Lib.hid hown'; clear hown' hgrow; refine Hid.out ?_))
  refine Lib.hid ?_
  have Dc := Lib.hid (DeedC.keep (Dc.out.ext Zc.out) GRc.out OBc.out)
  have EC := EVc
  have HO := ONc
  clear pc0 pc1 pc2 pc3 pc4 EVc GRc OBc ONc Xc Nc Yc Zc
  have pd0 : Vc.cell? ⟨bd, od + jd * 3, none⟩ = some (.int .i64 xd.k) := (E0.out.trans EC.out).cell (Cd.out 0 _ rfl)
  have pd1 : Vc.cell? ⟨bd, od + jd * 3 + 1, none⟩ = some (.int .i64 xd.lo) := (E0.out.trans EC.out).cell (Cd.out 1 _ rfl)
  have pd2 : Vc.cell? ⟨bd, od + jd * 3 + 2, none⟩ = some (.int .i64 xd.hi) := (E0.out.trans EC.out).cell (Cd.out 2 _ rfl)
  have kk0 := K0.out.ext EC.out
  have kk1 := K1.out.ext EC.out
  have q0 : Vc.cell? ⟨w.heap.size + 1, 0, none⟩ = some (.int .i64 vh) := kk1.cell 0
  have q1 : Vc.cell? ⟨w.heap.size + 1, 1, none⟩ = some (.int .i64 (jc : Int)) := kk1.cell 1
  have q2 : Vc.cell? ⟨w.heap.size + 1, 2, none⟩ = some (.int .i64 (jd : Int)) := kk1.cell 2
  have q3 : Vc.cell? ⟨w.heap.size + 1, 3, none⟩ = some (.int .i64 vt) := kk1.cell 3
  have s0 : Vc.cell? ⟨w.heap.size, 0, none⟩ = some (.slice A0 n0 c0) := kk0.cell 0
  have s1 : Vc.cell? ⟨w.heap.size, 1, none⟩ = some (.slice (some ⟨bc, oc, none⟩) n1 c1) := kk0.cell 1
  have s2 : Vc.cell? ⟨w.heap.size, 2, none⟩ = some (.slice (some ⟨bd, od, none⟩) n2 c2) := kk0.cell 2
  have s3 : Vc.cell? ⟨w.heap.size, 3, none⟩ = some (.slice A3 n3 c3) := kk0.cell 3
  clear kk0 kk1
  go_wp2_with (first
    | (go_at_call 152; refine (chilling_any xd.k xd.lo xd.hi _).mono ?_; rintro e Wd ⟨v, rfl, hx, hv⟩; obtain ⟨f, g, rfl, qd, rfl, rfl, hb⟩ := hv; have Dd := Lib.hid (show DeedC Wd (.d xd) _ _ from ⟨qd, rfl, rfl, hb⟩); have Xd := Lib.hid hx; have Zd := Lib.hid (Ext.alloc Wd (.cells #[.func (.func 172) #[] #[.pointer (some ⟨qd, 0, none⟩)], .func (.func 174) #[] #[.pointer (some ⟨qd, 0, none⟩)]] 207)); have Yd := Lib.hid (Xd.out.trans Zd.out); have Nd := Lib.hid (show ∀ j u, ([.func (.func 172) #[] #[.pointer (some ⟨qd, 0, none⟩)], .func (.func 174) #[] #[.pointer (some ⟨qd, 0, none⟩)]] : List Value)[j]? = some u → (Wd.alloc (.cells #[.func (.func 172) #[] #[.pointer (some ⟨qd, 0, none⟩)], .func (.func 174) #[] #[.pointer (some ⟨qd, 0, none⟩)]] 207)).cell? (Addr.add ⟨Wd.heap.size, 0, none⟩ j) = some u from news_of (Blk.new _ _ _)); clear hx hb)
    | (at_builtin; refine wpList_append_own _ rfl _ _ 199 rfl W0.heap.size 207 i0 (.agg #[.nilFunc, .nilFunc]) 2 16 Tryz.underlying199 hi HI0.out hz1 hz2 rfl (by decide) _ _ _ rfl (own_ext HO.out Yd.out) ⟨Wd.heap.size, 0, none⟩ 1 1 [.func (.func 172) #[] #[.pointer (some ⟨qd, 0, none⟩)], .func (.func 174) #[] #[.pointer (some ⟨qd, 0, none⟩)]] rfl rfl Nd.out (by simp [Value.oneCell']) (by unfold maxLen; omega) (by omega) (EC.out.trans Yd.out).size ?_; intro v' Vd hown' hgrow _; have EVd := Lib.hid (Ext.grownBy (EC.out.trans Yd.out) hgrow (fun g hg => own_base HO.out hg)); have GRd := Lib.hid hgrow; have OBd := Lib.hid (own_ext HO.out Yd.out); have ONd := Lib.hid hown'; clear hown' hgrow; refine Hid.out ?_))
  refine Lib.hid ?_
  have Dc := Lib.hid (DeedC.keep (Dc.out.ext Yd.out) GRd.out OBd.out)
  have Dd := Lib.hid (DeedC.keep (Dd.out.ext Zd.out) GRd.out OBd.out)
  have EC := EVd
  have HO := ONd
  clear pd0 pd1 pd2 EVd GRd OBd ONd Xd Nd Yd Zd q0 q1 q2 q3 s0 s1 s2 s3
  have kk1 := K1.out.ext EC.out
  have q0 : Vd.cell? ⟨w.heap.size + 1, 0, none⟩ = some (.int .i64 vh) := kk1.cell 0
  have q1 : Vd.cell? ⟨w.heap.size + 1, 1, none⟩ = some (.int .i64 (jc : Int)) := kk1.cell 1
  have q2 : Vd.cell? ⟨w.heap.size + 1, 2, none⟩ = some (.int .i64 (jd : Int)) := kk1.cell 2
  have q3 : Vd.cell? ⟨w.heap.size + 1, 3, none⟩ = some (.int .i64 vt) := kk1.cell 3
  clear kk1
  obtain ⟨A', c', rfl⟩ := own_slice HO.out
  go_wp2
  go_ret
  rw [HDS.out]
  refine ⟨_, rfl, E0.out.trans EC.out, A', 2, c', [(.func (.func 168) #[] #[.pointer (some ⟨qc, 0, none⟩)], .func (.func 171) #[] #[.pointer (some ⟨qc, 0, none⟩)]), (.func (.func 172) #[] #[.pointer (some ⟨qd, 0, none⟩)], .func (.func 174) #[] #[.pointer (some ⟨qd, 0, none⟩)])], rfl, Lib.hid rfl, Lib.hid rfl, by omega, rows_own (n := 2) (base := W0.heap.size) (c := c') rfl (fun _ => rfl) (by simpa [prV] using HO.out) (by decide), fun i d p hd hp => ?_⟩
  match i, hd, hp with
  | 0, hd, hp => obtain rfl := Option.some.inj hd; obtain rfl := Option.some.inj hp; exact Dc.out
  | 1, hd, hp => obtain rfl := Option.some.inj hd; obtain rfl := Option.some.inj hp; exact Dd.out
  | i + 2, hd, hp => simp at hd

set_option maxRecDepth 100000 in
set_option maxHeartbeats 4000000 in
theorem deedsAt_ct {r : Ru} {u : Value} {w : World} (hR : RuV r u w) (vh vd : Int) {jc jt : Nat} (hvh : vh < 0) {xc : CK} (hgc : r.cs[jc]? = some xc) (hvd : vd < 0) {xt : TK} (hgt : r.ts[jt]? = some xt) :
    Calls Tryz.prog 133 #[u, .agg #[.int .i64 vh, .int .i64 (jc : Int), .int .i64 vd, .int .i64 (jt : Int)]] w (VPost w (DeedsV (deedsK r vh (jc : Int) vd (jt : Int)))) := by
  obtain ⟨A0, A1, A2, A3, n0, n1, n2, n3, c0, c1, c2, c3, rfl, h⟩ := hR
  have HDS := Lib.hid (show deedsK r vh (jc : Int) vd (jt : Int) = [.c xc, .t xt] from by rw [deedsK, if_neg (by omega), (optD_pos (f := .c) rfl hgc : optD (jc : Int) r.cs .c = _), (optD_neg (f := .d) (by omega) : optD vd r.ds .d = _), (optD_pos (f := .t) rfl hgt : optD (jt : Int) r.ts .t = _)]; rfl)
  obtain ⟨i0, hi, hz0, hz1, hz2⟩ := info_parts info207
  have HI0 := Lib.hid hz0
  clear hz0
  have H := Lib.hid h
  have gc := Lib.hid hgc
  have gt := Lib.hid hgt
  clear h hgc hgt
  obtain ⟨W0, hW0⟩ : ∃ W0, W0 = (w.alloc (.cells #[.slice A0 n0 c0, .slice A1 n1 c1, .slice A2 n2 c2, .slice A3 n3 c3, .int .i64 r.h0, .int .i64 r.h1, .int .i64 r.h2, .int .i64 r.h3] 161)).alloc (.cells #[.int .i64 vh, .int .i64 (jc : Int), .int .i64 vd, .int .i64 (jt : Int)] 202) := ⟨_, rfl⟩
  have K0 := Lib.hid (show Blk W0 w.heap.size 161 #[.slice A0 n0 c0, .slice A1 n1 c1, .slice A2 n2 c2, .slice A3 n3 c3, .int .i64 r.h0, .int .i64 r.h1, .int .i64 r.h2, .int .i64 r.h3] by rw [hW0]; exact (Blk.new _ _ _).alloc _)
  have K1 := Lib.hid (show Blk W0 (w.heap.size + 1) 202 #[.int .i64 vh, .int .i64 (jc : Int), .int .i64 vd, .int .i64 (jt : Int)] by rw [hW0]; exact Blk.newAt _ _ _ (by simp))
  have E0 := Lib.hid (show Ext w W0 by rw [hW0]; exact (Ext.alloc _ _).trans (Ext.alloc _ _))
  have HW := Lib.hid hW0
  clear hW0
  obtain ⟨bc, oc, hAec, -, hcc⟩ := H.out.r1.2 jc xc gc.out
  subst hAec
  have Cc := Lib.hid hcc
  have hjc : (jc : Int) < (n1 : Int) := by have := (List.getElem?_eq_some_iff.1 gc.out).1; have := H.out.l1; omega
  clear hcc
  obtain ⟨bt, ot, hAet, -, hct⟩ := H.out.r3.2 jt xt gt.out
  subst hAet
  have Ct := Lib.hid hct
  have hjt : (jt : Int) < (n3 : Int) := by have := (List.getElem?_eq_some_iff.1 gt.out).1; have := H.out.l3; omega
  clear hct
  have HO := Lib.hid (own_none W0 W0.heap.size 207 2)
  have EC := Lib.hid (Ext.refl W0)
  have pc0 : ∀ o1 o2, ((w.alloc o1).alloc o2).cell? ⟨bc, oc + jc * 5, none⟩ = some (.int .i64 xc.k) := fun o1 o2 => ((Ext.alloc w o1).trans (Ext.alloc _ o2)).cell (Cc.out 0 _ rfl)
  have pc1 : ∀ o1 o2, ((w.alloc o1).alloc o2).cell? ⟨bc, oc + jc * 5 + 1, none⟩ = some (.int .i64 xc.wlo) := fun o1 o2 => ((Ext.alloc w o1).trans (Ext.alloc _ o2)).cell (Cc.out 1 _ rfl)
  have pc2 : ∀ o1 o2, ((w.alloc o1).alloc o2).cell? ⟨bc, oc + jc * 5 + 2, none⟩ = some (.int .i64 xc.whi) := fun o1 o2 => ((Ext.alloc w o1).trans (Ext.alloc _ o2)).cell (Cc.out 2 _ rfl)
  have pc3 : ∀ o1 o2, ((w.alloc o1).alloc o2).cell? ⟨bc, oc + jc * 5 + 3, none⟩ = some (.int .i64 xc.rlo) := fun o1 o2 => ((Ext.alloc w o1).trans (Ext.alloc _ o2)).cell (Cc.out 3 _ rfl)
  have pc4 : ∀ o1 o2, ((w.alloc o1).alloc o2).cell? ⟨bc, oc + jc * 5 + 4, none⟩ = some (.int .i64 xc.rhi) := fun o1 o2 => ((Ext.alloc w o1).trans (Ext.alloc _ o2)).cell (Cc.out 4 _ rfl)
  go_enter Tryz.func133, Tryz.ntmps133
  go_wp2_with (first
    | (go_at_call 151; rw [← HW.out]; refine (cooling_any xc.k xc.wlo xc.whi xc.rlo xc.rhi _).mono ?_; rintro e Wc ⟨v, rfl, hx, hv⟩; obtain ⟨f, g, rfl, qc, rfl, rfl, hb⟩ := hv; have Dc := Lib.hid (show DeedC Wc (.c xc) _ _ from ⟨qc, rfl, rfl, hb⟩); have Xc := Lib.hid hx; have Zc := Lib.hid (Ext.alloc Wc (.cells #[.func (.func 168) #[] #[.pointer (some ⟨qc, 0, none⟩)], .func (.func 171) #[] #[.pointer (some ⟨qc, 0, none⟩)]] 207)); have Yc := Lib.hid (Xc.out.trans Zc.out); have Nc := Lib.hid (show ∀ j u, ([.func (.func 168) #[] #[.pointer (some ⟨qc, 0, none⟩)], .func (.func 171) #[] #[.pointer (some ⟨qc, 0, none⟩)]] : List Value)[j]? = some u → (Wc.alloc (.cells #[.func (.func 168) #[] #[.pointer (some ⟨qc, 0, none⟩)], .func (.func 171) #[] #[.pointer (some ⟨qc, 0, none⟩)]] 207)).cell? (Addr.add ⟨Wc.heap.size, 0, none⟩ j) = some u from news_of (Blk.new _ _ _)); clear hx hb)
    | (at_builtin; refine wpList_append_own _ rfl _ _ 199 rfl W0.heap.size 207 i0 (.agg #[.nilFunc, .nilFunc]) 2 16 Tryz.underlying199 hi HI0.out hz1 hz2 rfl (by decide) _ _ _ rfl (own_ext HO.out Yc.out) ⟨Wc.heap.size, 0, none⟩ 1 1 [.func (.func 168) #[] #[.pointer (some ⟨qc, 0, none⟩)], .func (.func 171) #[] #[.pointer (some ⟨qc, 0, none⟩)]] rfl rfl Nc.out (by simp [Value.oneCell']) (by unfold maxLen; omega) (by omega) (EC.out.trans Yc.out).size ?_; intro v' Vc hown' hgrow _; have EVc := Lib.hid (Ext.grownBy (EC.out.trans Yc.out) hgrow (fun g hg => own_base HO.out hg)); have GRc := Lib.hid hgrow; have OBc := Lib.hid (own_ext HO.out Yc.out); have ONc := Lib.hid hown'; clear hown' hgrow; refine Hid.out ?_))
  refine Lib.hid ?_
  have Dc := Lib.hid (DeedC.keep (Dc.out.ext Zc.out) GRc.out OBc.out)
  have EC := EVc
  have HO := ONc
  clear pc0 pc1 pc2 pc3 pc4 EVc GRc OBc ONc Xc Nc Yc Zc
  have pt0 : Vc.cell? ⟨bt, ot + jt * 2, none⟩ = some (.int .i64 xt.k) := (E0.out.trans EC.out).cell (Ct.out 0 _ rfl)
  have pt1 : Vc.cell? ⟨bt, ot + jt * 2 + 1, none⟩ = some (.int .i64 xt.r) := (E0.out.trans EC.out).cell (Ct.out 1 _ rfl)
  have kk0 := K0.out.ext EC.out
  have kk1 := K1.out.ext EC.out
  have q0 : Vc.cell? ⟨w.heap.size + 1, 0, none⟩ = some (.int .i64 vh) := kk1.cell 0
  have q1 : Vc.cell? ⟨w.heap.size + 1, 1, none⟩ = some (.int .i64 (jc : Int)) := kk1.cell 1
  have q2 : Vc.cell? ⟨w.heap.size + 1, 2, none⟩ = some (.int .i64 vd) := kk1.cell 2
  have q3 : Vc.cell? ⟨w.heap.size + 1, 3, none⟩ = some (.int .i64 (jt : Int)) := kk1.cell 3
  have s0 : Vc.cell? ⟨w.heap.size, 0, none⟩ = some (.slice A0 n0 c0) := kk0.cell 0
  have s1 : Vc.cell? ⟨w.heap.size, 1, none⟩ = some (.slice (some ⟨bc, oc, none⟩) n1 c1) := kk0.cell 1
  have s2 : Vc.cell? ⟨w.heap.size, 2, none⟩ = some (.slice A2 n2 c2) := kk0.cell 2
  have s3 : Vc.cell? ⟨w.heap.size, 3, none⟩ = some (.slice (some ⟨bt, ot, none⟩) n3 c3) := kk0.cell 3
  clear kk0 kk1
  go_wp2_with (first
    | (go_at_call 153; refine (tempering_any xt.k xt.r _).mono ?_; rintro e Wt ⟨v, rfl, hx, hv⟩; obtain ⟨f, g, rfl, qt, qt', rfl, rfl, hb, hb'⟩ := hv; have Dt := Lib.hid (show DeedC Wt (.t xt) _ _ from ⟨qt, qt', rfl, rfl, hb, hb'⟩); have Xt := Lib.hid hx; have Zt := Lib.hid (Ext.alloc Wt (.cells #[.func (.func 176) #[] #[.pointer (some ⟨qt', 0, none⟩)], .func (.func 177) #[] #[.pointer (some ⟨qt', 0, none⟩)]] 207)); have Yt := Lib.hid (Xt.out.trans Zt.out); have Nt := Lib.hid (show ∀ j u, ([.func (.func 176) #[] #[.pointer (some ⟨qt', 0, none⟩)], .func (.func 177) #[] #[.pointer (some ⟨qt', 0, none⟩)]] : List Value)[j]? = some u → (Wt.alloc (.cells #[.func (.func 176) #[] #[.pointer (some ⟨qt', 0, none⟩)], .func (.func 177) #[] #[.pointer (some ⟨qt', 0, none⟩)]] 207)).cell? (Addr.add ⟨Wt.heap.size, 0, none⟩ j) = some u from news_of (Blk.new _ _ _)); clear hx hb hb')
    | (at_builtin; refine wpList_append_own _ rfl _ _ 199 rfl W0.heap.size 207 i0 (.agg #[.nilFunc, .nilFunc]) 2 16 Tryz.underlying199 hi HI0.out hz1 hz2 rfl (by decide) _ _ _ rfl (own_ext HO.out Yt.out) ⟨Wt.heap.size, 0, none⟩ 1 1 [.func (.func 176) #[] #[.pointer (some ⟨qt', 0, none⟩)], .func (.func 177) #[] #[.pointer (some ⟨qt', 0, none⟩)]] rfl rfl Nt.out (by simp [Value.oneCell']) (by unfold maxLen; omega) (by omega) (EC.out.trans Yt.out).size ?_; intro v' Vt hown' hgrow _; have EVt := Lib.hid (Ext.grownBy (EC.out.trans Yt.out) hgrow (fun g hg => own_base HO.out hg)); have GRt := Lib.hid hgrow; have OBt := Lib.hid (own_ext HO.out Yt.out); have ONt := Lib.hid hown'; clear hown' hgrow; refine Hid.out ?_))
  refine Lib.hid ?_
  have Dc := Lib.hid (DeedC.keep (Dc.out.ext Yt.out) GRt.out OBt.out)
  have Dt := Lib.hid (DeedC.keep (Dt.out.ext Zt.out) GRt.out OBt.out)
  have EC := EVt
  have HO := ONt
  clear pt0 pt1 EVt GRt OBt ONt Xt Nt Yt Zt q0 q1 q2 q3 s0 s1 s2 s3
  have kk1 := K1.out.ext EC.out
  have q0 : Vt.cell? ⟨w.heap.size + 1, 0, none⟩ = some (.int .i64 vh) := kk1.cell 0
  have q1 : Vt.cell? ⟨w.heap.size + 1, 1, none⟩ = some (.int .i64 (jc : Int)) := kk1.cell 1
  have q2 : Vt.cell? ⟨w.heap.size + 1, 2, none⟩ = some (.int .i64 vd) := kk1.cell 2
  have q3 : Vt.cell? ⟨w.heap.size + 1, 3, none⟩ = some (.int .i64 (jt : Int)) := kk1.cell 3
  clear kk1
  obtain ⟨A', c', rfl⟩ := own_slice HO.out
  go_wp2
  go_ret
  rw [HDS.out]
  refine ⟨_, rfl, E0.out.trans EC.out, A', 2, c', [(.func (.func 168) #[] #[.pointer (some ⟨qc, 0, none⟩)], .func (.func 171) #[] #[.pointer (some ⟨qc, 0, none⟩)]), (.func (.func 176) #[] #[.pointer (some ⟨qt', 0, none⟩)], .func (.func 177) #[] #[.pointer (some ⟨qt', 0, none⟩)])], rfl, Lib.hid rfl, Lib.hid rfl, by omega, rows_own (n := 2) (base := W0.heap.size) (c := c') rfl (fun _ => rfl) (by simpa [prV] using HO.out) (by decide), fun i d p hd hp => ?_⟩
  match i, hd, hp with
  | 0, hd, hp => obtain rfl := Option.some.inj hd; obtain rfl := Option.some.inj hp; exact Dc.out
  | 1, hd, hp => obtain rfl := Option.some.inj hd; obtain rfl := Option.some.inj hp; exact Dt.out
  | i + 2, hd, hp => simp at hd

set_option maxRecDepth 100000 in
set_option maxHeartbeats 4000000 in
theorem deedsAt_dt {r : Ru} {u : Value} {w : World} (hR : RuV r u w) (vh vc : Int) {jd jt : Nat} (hvh : vh < 0) (hvc : vc < 0) {xd : DK} (hgd : r.ds[jd]? = some xd) {xt : TK} (hgt : r.ts[jt]? = some xt) :
    Calls Tryz.prog 133 #[u, .agg #[.int .i64 vh, .int .i64 vc, .int .i64 (jd : Int), .int .i64 (jt : Int)]] w (VPost w (DeedsV (deedsK r vh vc (jd : Int) (jt : Int)))) := by
  obtain ⟨A0, A1, A2, A3, n0, n1, n2, n3, c0, c1, c2, c3, rfl, h⟩ := hR
  have HDS := Lib.hid (show deedsK r vh vc (jd : Int) (jt : Int) = [.d xd, .t xt] from by rw [deedsK, if_neg (by omega), (optD_neg (f := .c) (by omega) : optD vc r.cs .c = _), (optD_pos (f := .d) rfl hgd : optD (jd : Int) r.ds .d = _), (optD_pos (f := .t) rfl hgt : optD (jt : Int) r.ts .t = _)]; rfl)
  obtain ⟨i0, hi, hz0, hz1, hz2⟩ := info_parts info207
  have HI0 := Lib.hid hz0
  clear hz0
  have H := Lib.hid h
  have gd := Lib.hid hgd
  have gt := Lib.hid hgt
  clear h hgd hgt
  obtain ⟨W0, hW0⟩ : ∃ W0, W0 = (w.alloc (.cells #[.slice A0 n0 c0, .slice A1 n1 c1, .slice A2 n2 c2, .slice A3 n3 c3, .int .i64 r.h0, .int .i64 r.h1, .int .i64 r.h2, .int .i64 r.h3] 161)).alloc (.cells #[.int .i64 vh, .int .i64 vc, .int .i64 (jd : Int), .int .i64 (jt : Int)] 202) := ⟨_, rfl⟩
  have K0 := Lib.hid (show Blk W0 w.heap.size 161 #[.slice A0 n0 c0, .slice A1 n1 c1, .slice A2 n2 c2, .slice A3 n3 c3, .int .i64 r.h0, .int .i64 r.h1, .int .i64 r.h2, .int .i64 r.h3] by rw [hW0]; exact (Blk.new _ _ _).alloc _)
  have K1 := Lib.hid (show Blk W0 (w.heap.size + 1) 202 #[.int .i64 vh, .int .i64 vc, .int .i64 (jd : Int), .int .i64 (jt : Int)] by rw [hW0]; exact Blk.newAt _ _ _ (by simp))
  have E0 := Lib.hid (show Ext w W0 by rw [hW0]; exact (Ext.alloc _ _).trans (Ext.alloc _ _))
  have HW := Lib.hid hW0
  clear hW0
  obtain ⟨bd, od, hAed, -, hcd⟩ := H.out.r2.2 jd xd gd.out
  subst hAed
  have Cd := Lib.hid hcd
  have hjd : (jd : Int) < (n2 : Int) := by have := (List.getElem?_eq_some_iff.1 gd.out).1; have := H.out.l2; omega
  clear hcd
  obtain ⟨bt, ot, hAet, -, hct⟩ := H.out.r3.2 jt xt gt.out
  subst hAet
  have Ct := Lib.hid hct
  have hjt : (jt : Int) < (n3 : Int) := by have := (List.getElem?_eq_some_iff.1 gt.out).1; have := H.out.l3; omega
  clear hct
  have HO := Lib.hid (own_none W0 W0.heap.size 207 2)
  have EC := Lib.hid (Ext.refl W0)
  have pd0 : ∀ o1 o2, ((w.alloc o1).alloc o2).cell? ⟨bd, od + jd * 3, none⟩ = some (.int .i64 xd.k) := fun o1 o2 => ((Ext.alloc w o1).trans (Ext.alloc _ o2)).cell (Cd.out 0 _ rfl)
  have pd1 : ∀ o1 o2, ((w.alloc o1).alloc o2).cell? ⟨bd, od + jd * 3 + 1, none⟩ = some (.int .i64 xd.lo) := fun o1 o2 => ((Ext.alloc w o1).trans (Ext.alloc _ o2)).cell (Cd.out 1 _ rfl)
  have pd2 : ∀ o1 o2, ((w.alloc o1).alloc o2).cell? ⟨bd, od + jd * 3 + 2, none⟩ = some (.int .i64 xd.hi) := fun o1 o2 => ((Ext.alloc w o1).trans (Ext.alloc _ o2)).cell (Cd.out 2 _ rfl)
  go_enter Tryz.func133, Tryz.ntmps133
  go_wp2_with (first
    | (go_at_call 152; rw [← HW.out]; refine (chilling_any xd.k xd.lo xd.hi _).mono ?_; rintro e Wd ⟨v, rfl, hx, hv⟩; obtain ⟨f, g, rfl, qd, rfl, rfl, hb⟩ := hv; have Dd := Lib.hid (show DeedC Wd (.d xd) _ _ from ⟨qd, rfl, rfl, hb⟩); have Xd := Lib.hid hx; have Zd := Lib.hid (Ext.alloc Wd (.cells #[.func (.func 172) #[] #[.pointer (some ⟨qd, 0, none⟩)], .func (.func 174) #[] #[.pointer (some ⟨qd, 0, none⟩)]] 207)); have Yd := Lib.hid (Xd.out.trans Zd.out); have Nd := Lib.hid (show ∀ j u, ([.func (.func 172) #[] #[.pointer (some ⟨qd, 0, none⟩)], .func (.func 174) #[] #[.pointer (some ⟨qd, 0, none⟩)]] : List Value)[j]? = some u → (Wd.alloc (.cells #[.func (.func 172) #[] #[.pointer (some ⟨qd, 0, none⟩)], .func (.func 174) #[] #[.pointer (some ⟨qd, 0, none⟩)]] 207)).cell? (Addr.add ⟨Wd.heap.size, 0, none⟩ j) = some u from news_of (Blk.new _ _ _)); clear hx hb)
    | (at_builtin; refine wpList_append_own _ rfl _ _ 199 rfl W0.heap.size 207 i0 (.agg #[.nilFunc, .nilFunc]) 2 16 Tryz.underlying199 hi HI0.out hz1 hz2 rfl (by decide) _ _ _ rfl (own_ext HO.out Yd.out) ⟨Wd.heap.size, 0, none⟩ 1 1 [.func (.func 172) #[] #[.pointer (some ⟨qd, 0, none⟩)], .func (.func 174) #[] #[.pointer (some ⟨qd, 0, none⟩)]] rfl rfl Nd.out (by simp [Value.oneCell']) (by unfold maxLen; omega) (by omega) (EC.out.trans Yd.out).size ?_; intro v' Vd hown' hgrow _; have EVd := Lib.hid (Ext.grownBy (EC.out.trans Yd.out) hgrow (fun g hg => own_base HO.out hg)); have GRd := Lib.hid hgrow; have OBd := Lib.hid (own_ext HO.out Yd.out); have ONd := Lib.hid hown'; clear hown' hgrow; refine Hid.out ?_))
  refine Lib.hid ?_
  have Dd := Lib.hid (DeedC.keep (Dd.out.ext Zd.out) GRd.out OBd.out)
  have EC := EVd
  have HO := ONd
  clear pd0 pd1 pd2 EVd GRd OBd ONd Xd Nd Yd Zd
  have pt0 : Vd.cell? ⟨bt, ot + jt * 2, none⟩ = some (.int .i64 xt.k) := (E0.out.trans EC.out).cell (Ct.out 0 _ rfl)
  have pt1 : Vd.cell? ⟨bt, ot + jt * 2 + 1, none⟩ = some (.int .i64 xt.r) := (E0.out.trans EC.out).cell (Ct.out 1 _ rfl)
  have kk0 := K0.out.ext EC.out
  have kk1 := K1.out.ext EC.out
  have q0 : Vd.cell? ⟨w.heap.size + 1, 0, none⟩ = some (.int .i64 vh) := kk1.cell 0
  have q1 : Vd.cell? ⟨w.heap.size + 1, 1, none⟩ = some (.int .i64 vc) := kk1.cell 1
  have q2 : Vd.cell? ⟨w.heap.size + 1, 2, none⟩ = some (.int .i64 (jd : Int)) := kk1.cell 2
  have q3 : Vd.cell? ⟨w.heap.size + 1, 3, none⟩ = some (.int .i64 (jt : Int)) := kk1.cell 3
  have s0 : Vd.cell? ⟨w.heap.size, 0, none⟩ = some (.slice A0 n0 c0) := kk0.cell 0
  have s1 : Vd.cell? ⟨w.heap.size, 1, none⟩ = some (.slice A1 n1 c1) := kk0.cell 1
  have s2 : Vd.cell? ⟨w.heap.size, 2, none⟩ = some (.slice (some ⟨bd, od, none⟩) n2 c2) := kk0.cell 2
  have s3 : Vd.cell? ⟨w.heap.size, 3, none⟩ = some (.slice (some ⟨bt, ot, none⟩) n3 c3) := kk0.cell 3
  clear kk0 kk1
  go_wp2_with (first
    | (go_at_call 153; refine (tempering_any xt.k xt.r _).mono ?_; rintro e Wt ⟨v, rfl, hx, hv⟩; obtain ⟨f, g, rfl, qt, qt', rfl, rfl, hb, hb'⟩ := hv; have Dt := Lib.hid (show DeedC Wt (.t xt) _ _ from ⟨qt, qt', rfl, rfl, hb, hb'⟩); have Xt := Lib.hid hx; have Zt := Lib.hid (Ext.alloc Wt (.cells #[.func (.func 176) #[] #[.pointer (some ⟨qt', 0, none⟩)], .func (.func 177) #[] #[.pointer (some ⟨qt', 0, none⟩)]] 207)); have Yt := Lib.hid (Xt.out.trans Zt.out); have Nt := Lib.hid (show ∀ j u, ([.func (.func 176) #[] #[.pointer (some ⟨qt', 0, none⟩)], .func (.func 177) #[] #[.pointer (some ⟨qt', 0, none⟩)]] : List Value)[j]? = some u → (Wt.alloc (.cells #[.func (.func 176) #[] #[.pointer (some ⟨qt', 0, none⟩)], .func (.func 177) #[] #[.pointer (some ⟨qt', 0, none⟩)]] 207)).cell? (Addr.add ⟨Wt.heap.size, 0, none⟩ j) = some u from news_of (Blk.new _ _ _)); clear hx hb hb')
    | (at_builtin; refine wpList_append_own _ rfl _ _ 199 rfl W0.heap.size 207 i0 (.agg #[.nilFunc, .nilFunc]) 2 16 Tryz.underlying199 hi HI0.out hz1 hz2 rfl (by decide) _ _ _ rfl (own_ext HO.out Yt.out) ⟨Wt.heap.size, 0, none⟩ 1 1 [.func (.func 176) #[] #[.pointer (some ⟨qt', 0, none⟩)], .func (.func 177) #[] #[.pointer (some ⟨qt', 0, none⟩)]] rfl rfl Nt.out (by simp [Value.oneCell']) (by unfold maxLen; omega) (by omega) (EC.out.trans Yt.out).size ?_; intro v' Vt hown' hgrow _; have EVt := Lib.hid (Ext.grownBy (EC.out.trans Yt.out) hgrow (fun g hg => own_base HO.out hg)); have GRt := Lib.hid hgrow; have OBt := Lib.hid (own_ext HO.out Yt.out); have ONt := Lib.hid hown'; clear hown' hgrow; refine Hid.out ?_))
  refine Lib.hid ?_
  have Dd := Lib.hid (DeedC.keep (Dd.out.ext Yt.out) GRt.out OBt.out)
  have Dt := Lib.hid (DeedC.keep (Dt.out.ext Zt.out) GRt.out OBt.out)
  have EC := EVt
  have HO := ONt
  clear pt0 pt1 EVt GRt OBt ONt Xt Nt Yt Zt q0 q1 q2 q3 s0 s1 s2 s3
  have kk1 := K1.out.ext EC.out
  have q0 : Vt.cell? ⟨w.heap.size + 1, 0, none⟩ = some (.int .i64 vh) := kk1.cell 0
  have q1 : Vt.cell? ⟨w.heap.size + 1, 1, none⟩ = some (.int .i64 vc) := kk1.cell 1
  have q2 : Vt.cell? ⟨w.heap.size + 1, 2, none⟩ = some (.int .i64 (jd : Int)) := kk1.cell 2
  have q3 : Vt.cell? ⟨w.heap.size + 1, 3, none⟩ = some (.int .i64 (jt : Int)) := kk1.cell 3
  clear kk1
  obtain ⟨A', c', rfl⟩ := own_slice HO.out
  go_wp2
  go_ret
  rw [HDS.out]
  refine ⟨_, rfl, E0.out.trans EC.out, A', 2, c', [(.func (.func 172) #[] #[.pointer (some ⟨qd, 0, none⟩)], .func (.func 174) #[] #[.pointer (some ⟨qd, 0, none⟩)]), (.func (.func 176) #[] #[.pointer (some ⟨qt', 0, none⟩)], .func (.func 177) #[] #[.pointer (some ⟨qt', 0, none⟩)])], rfl, Lib.hid rfl, Lib.hid rfl, by omega, rows_own (n := 2) (base := W0.heap.size) (c := c') rfl (fun _ => rfl) (by simpa [prV] using HO.out) (by decide), fun i d p hd hp => ?_⟩
  match i, hd, hp with
  | 0, hd, hp => obtain rfl := Option.some.inj hd; obtain rfl := Option.some.inj hp; exact Dd.out
  | 1, hd, hp => obtain rfl := Option.some.inj hd; obtain rfl := Option.some.inj hp; exact Dt.out
  | i + 2, hd, hp => simp at hd

set_option maxRecDepth 100000 in
set_option maxHeartbeats 4000000 in
theorem deedsAt_cdt {r : Ru} {u : Value} {w : World} (hR : RuV r u w) (vh : Int) {jc jd jt : Nat} (hvh : vh < 0) {xc : CK} (hgc : r.cs[jc]? = some xc) {xd : DK} (hgd : r.ds[jd]? = some xd) {xt : TK} (hgt : r.ts[jt]? = some xt) :
    Calls Tryz.prog 133 #[u, .agg #[.int .i64 vh, .int .i64 (jc : Int), .int .i64 (jd : Int), .int .i64 (jt : Int)]] w (VPost w (DeedsV (deedsK r vh (jc : Int) (jd : Int) (jt : Int)))) := by
  obtain ⟨A0, A1, A2, A3, n0, n1, n2, n3, c0, c1, c2, c3, rfl, h⟩ := hR
  have HDS := Lib.hid (show deedsK r vh (jc : Int) (jd : Int) (jt : Int) = [.c xc, .d xd, .t xt] from by rw [deedsK, if_neg (by omega), (optD_pos (f := .c) rfl hgc : optD (jc : Int) r.cs .c = _), (optD_pos (f := .d) rfl hgd : optD (jd : Int) r.ds .d = _), (optD_pos (f := .t) rfl hgt : optD (jt : Int) r.ts .t = _)]; rfl)
  obtain ⟨i0, hi, hz0, hz1, hz2⟩ := info_parts info207
  have HI0 := Lib.hid hz0
  clear hz0
  have H := Lib.hid h
  have gc := Lib.hid hgc
  have gd := Lib.hid hgd
  have gt := Lib.hid hgt
  clear h hgc hgd hgt
  obtain ⟨W0, hW0⟩ : ∃ W0, W0 = (w.alloc (.cells #[.slice A0 n0 c0, .slice A1 n1 c1, .slice A2 n2 c2, .slice A3 n3 c3, .int .i64 r.h0, .int .i64 r.h1, .int .i64 r.h2, .int .i64 r.h3] 161)).alloc (.cells #[.int .i64 vh, .int .i64 (jc : Int), .int .i64 (jd : Int), .int .i64 (jt : Int)] 202) := ⟨_, rfl⟩
  have K0 := Lib.hid (show Blk W0 w.heap.size 161 #[.slice A0 n0 c0, .slice A1 n1 c1, .slice A2 n2 c2, .slice A3 n3 c3, .int .i64 r.h0, .int .i64 r.h1, .int .i64 r.h2, .int .i64 r.h3] by rw [hW0]; exact (Blk.new _ _ _).alloc _)
  have K1 := Lib.hid (show Blk W0 (w.heap.size + 1) 202 #[.int .i64 vh, .int .i64 (jc : Int), .int .i64 (jd : Int), .int .i64 (jt : Int)] by rw [hW0]; exact Blk.newAt _ _ _ (by simp))
  have E0 := Lib.hid (show Ext w W0 by rw [hW0]; exact (Ext.alloc _ _).trans (Ext.alloc _ _))
  have HW := Lib.hid hW0
  clear hW0
  obtain ⟨bc, oc, hAec, -, hcc⟩ := H.out.r1.2 jc xc gc.out
  subst hAec
  have Cc := Lib.hid hcc
  have hjc : (jc : Int) < (n1 : Int) := by have := (List.getElem?_eq_some_iff.1 gc.out).1; have := H.out.l1; omega
  clear hcc
  obtain ⟨bd, od, hAed, -, hcd⟩ := H.out.r2.2 jd xd gd.out
  subst hAed
  have Cd := Lib.hid hcd
  have hjd : (jd : Int) < (n2 : Int) := by have := (List.getElem?_eq_some_iff.1 gd.out).1; have := H.out.l2; omega
  clear hcd
  obtain ⟨bt, ot, hAet, -, hct⟩ := H.out.r3.2 jt xt gt.out
  subst hAet
  have Ct := Lib.hid hct
  have hjt : (jt : Int) < (n3 : Int) := by have := (List.getElem?_eq_some_iff.1 gt.out).1; have := H.out.l3; omega
  clear hct
  have HO := Lib.hid (own_none W0 W0.heap.size 207 2)
  have EC := Lib.hid (Ext.refl W0)
  have pc0 : ∀ o1 o2, ((w.alloc o1).alloc o2).cell? ⟨bc, oc + jc * 5, none⟩ = some (.int .i64 xc.k) := fun o1 o2 => ((Ext.alloc w o1).trans (Ext.alloc _ o2)).cell (Cc.out 0 _ rfl)
  have pc1 : ∀ o1 o2, ((w.alloc o1).alloc o2).cell? ⟨bc, oc + jc * 5 + 1, none⟩ = some (.int .i64 xc.wlo) := fun o1 o2 => ((Ext.alloc w o1).trans (Ext.alloc _ o2)).cell (Cc.out 1 _ rfl)
  have pc2 : ∀ o1 o2, ((w.alloc o1).alloc o2).cell? ⟨bc, oc + jc * 5 + 2, none⟩ = some (.int .i64 xc.whi) := fun o1 o2 => ((Ext.alloc w o1).trans (Ext.alloc _ o2)).cell (Cc.out 2 _ rfl)
  have pc3 : ∀ o1 o2, ((w.alloc o1).alloc o2).cell? ⟨bc, oc + jc * 5 + 3, none⟩ = some (.int .i64 xc.rlo) := fun o1 o2 => ((Ext.alloc w o1).trans (Ext.alloc _ o2)).cell (Cc.out 3 _ rfl)
  have pc4 : ∀ o1 o2, ((w.alloc o1).alloc o2).cell? ⟨bc, oc + jc * 5 + 4, none⟩ = some (.int .i64 xc.rhi) := fun o1 o2 => ((Ext.alloc w o1).trans (Ext.alloc _ o2)).cell (Cc.out 4 _ rfl)
  go_enter Tryz.func133, Tryz.ntmps133
  go_wp2_with (first
    | (go_at_call 151; rw [← HW.out]; refine (cooling_any xc.k xc.wlo xc.whi xc.rlo xc.rhi _).mono ?_; rintro e Wc ⟨v, rfl, hx, hv⟩; obtain ⟨f, g, rfl, qc, rfl, rfl, hb⟩ := hv; have Dc := Lib.hid (show DeedC Wc (.c xc) _ _ from ⟨qc, rfl, rfl, hb⟩); have Xc := Lib.hid hx; have Zc := Lib.hid (Ext.alloc Wc (.cells #[.func (.func 168) #[] #[.pointer (some ⟨qc, 0, none⟩)], .func (.func 171) #[] #[.pointer (some ⟨qc, 0, none⟩)]] 207)); have Yc := Lib.hid (Xc.out.trans Zc.out); have Nc := Lib.hid (show ∀ j u, ([.func (.func 168) #[] #[.pointer (some ⟨qc, 0, none⟩)], .func (.func 171) #[] #[.pointer (some ⟨qc, 0, none⟩)]] : List Value)[j]? = some u → (Wc.alloc (.cells #[.func (.func 168) #[] #[.pointer (some ⟨qc, 0, none⟩)], .func (.func 171) #[] #[.pointer (some ⟨qc, 0, none⟩)]] 207)).cell? (Addr.add ⟨Wc.heap.size, 0, none⟩ j) = some u from news_of (Blk.new _ _ _)); clear hx hb)
    | (at_builtin; refine wpList_append_own _ rfl _ _ 199 rfl W0.heap.size 207 i0 (.agg #[.nilFunc, .nilFunc]) 2 16 Tryz.underlying199 hi HI0.out hz1 hz2 rfl (by decide) _ _ _ rfl (own_ext HO.out Yc.out) ⟨Wc.heap.size, 0, none⟩ 1 1 [.func (.func 168) #[] #[.pointer (some ⟨qc, 0, none⟩)], .func (.func 171) #[] #[.pointer (some ⟨qc, 0, none⟩)]] rfl rfl Nc.out (by simp [Value.oneCell']) (by unfold maxLen; omega) (by omega) (EC.out.trans Yc.out).size ?_; intro v' Vc hown' hgrow _; have EVc := Lib.hid (Ext.grownBy (EC.out.trans Yc.out) hgrow (fun g hg => own_base HO.out hg)); have GRc := Lib.hid hgrow; have OBc := Lib.hid (own_ext HO.out Yc.out); have ONc := Lib.hid hown'; clear hown' hgrow; refine Hid.out ?_))
  refine Lib.hid ?_
  have Dc := Lib.hid (DeedC.keep (Dc.out.ext Zc.out) GRc.out OBc.out)
  have EC := EVc
  have HO := ONc
  clear pc0 pc1 pc2 pc3 pc4 EVc GRc OBc ONc Xc Nc Yc Zc
  have pd0 : Vc.cell? ⟨bd, od + jd * 3, none⟩ = some (.int .i64 xd.k) := (E0.out.trans EC.out).cell (Cd.out 0 _ rfl)
  have pd1 : Vc.cell? ⟨bd, od + jd * 3 + 1, none⟩ = some (.int .i64 xd.lo) := (E0.out.trans EC.out).cell (Cd.out 1 _ rfl)
  have pd2 : Vc.cell? ⟨bd, od + jd * 3 + 2, none⟩ = some (.int .i64 xd.hi) := (E0.out.trans EC.out).cell (Cd.out 2 _ rfl)
  have kk0 := K0.out.ext EC.out
  have kk1 := K1.out.ext EC.out
  have q0 : Vc.cell? ⟨w.heap.size + 1, 0, none⟩ = some (.int .i64 vh) := kk1.cell 0
  have q1 : Vc.cell? ⟨w.heap.size + 1, 1, none⟩ = some (.int .i64 (jc : Int)) := kk1.cell 1
  have q2 : Vc.cell? ⟨w.heap.size + 1, 2, none⟩ = some (.int .i64 (jd : Int)) := kk1.cell 2
  have q3 : Vc.cell? ⟨w.heap.size + 1, 3, none⟩ = some (.int .i64 (jt : Int)) := kk1.cell 3
  have s0 : Vc.cell? ⟨w.heap.size, 0, none⟩ = some (.slice A0 n0 c0) := kk0.cell 0
  have s1 : Vc.cell? ⟨w.heap.size, 1, none⟩ = some (.slice (some ⟨bc, oc, none⟩) n1 c1) := kk0.cell 1
  have s2 : Vc.cell? ⟨w.heap.size, 2, none⟩ = some (.slice (some ⟨bd, od, none⟩) n2 c2) := kk0.cell 2
  have s3 : Vc.cell? ⟨w.heap.size, 3, none⟩ = some (.slice (some ⟨bt, ot, none⟩) n3 c3) := kk0.cell 3
  clear kk0 kk1
  go_wp2_with (first
    | (go_at_call 152; refine (chilling_any xd.k xd.lo xd.hi _).mono ?_; rintro e Wd ⟨v, rfl, hx, hv⟩; obtain ⟨f, g, rfl, qd, rfl, rfl, hb⟩ := hv; have Dd := Lib.hid (show DeedC Wd (.d xd) _ _ from ⟨qd, rfl, rfl, hb⟩); have Xd := Lib.hid hx; have Zd := Lib.hid (Ext.alloc Wd (.cells #[.func (.func 172) #[] #[.pointer (some ⟨qd, 0, none⟩)], .func (.func 174) #[] #[.pointer (some ⟨qd, 0, none⟩)]] 207)); have Yd := Lib.hid (Xd.out.trans Zd.out); have Nd := Lib.hid (show ∀ j u, ([.func (.func 172) #[] #[.pointer (some ⟨qd, 0, none⟩)], .func (.func 174) #[] #[.pointer (some ⟨qd, 0, none⟩)]] : List Value)[j]? = some u → (Wd.alloc (.cells #[.func (.func 172) #[] #[.pointer (some ⟨qd, 0, none⟩)], .func (.func 174) #[] #[.pointer (some ⟨qd, 0, none⟩)]] 207)).cell? (Addr.add ⟨Wd.heap.size, 0, none⟩ j) = some u from news_of (Blk.new _ _ _)); clear hx hb)
    | (at_builtin; refine wpList_append_own _ rfl _ _ 199 rfl W0.heap.size 207 i0 (.agg #[.nilFunc, .nilFunc]) 2 16 Tryz.underlying199 hi HI0.out hz1 hz2 rfl (by decide) _ _ _ rfl (own_ext HO.out Yd.out) ⟨Wd.heap.size, 0, none⟩ 1 1 [.func (.func 172) #[] #[.pointer (some ⟨qd, 0, none⟩)], .func (.func 174) #[] #[.pointer (some ⟨qd, 0, none⟩)]] rfl rfl Nd.out (by simp [Value.oneCell']) (by unfold maxLen; omega) (by omega) (EC.out.trans Yd.out).size ?_; intro v' Vd hown' hgrow _; have EVd := Lib.hid (Ext.grownBy (EC.out.trans Yd.out) hgrow (fun g hg => own_base HO.out hg)); have GRd := Lib.hid hgrow; have OBd := Lib.hid (own_ext HO.out Yd.out); have ONd := Lib.hid hown'; clear hown' hgrow; refine Hid.out ?_))
  refine Lib.hid ?_
  have Dc := Lib.hid (DeedC.keep (Dc.out.ext Yd.out) GRd.out OBd.out)
  have Dd := Lib.hid (DeedC.keep (Dd.out.ext Zd.out) GRd.out OBd.out)
  have EC := EVd
  have HO := ONd
  clear pd0 pd1 pd2 EVd GRd OBd ONd Xd Nd Yd Zd q0 q1 q2 q3 s0 s1 s2 s3
  have pt0 : Vd.cell? ⟨bt, ot + jt * 2, none⟩ = some (.int .i64 xt.k) := (E0.out.trans EC.out).cell (Ct.out 0 _ rfl)
  have pt1 : Vd.cell? ⟨bt, ot + jt * 2 + 1, none⟩ = some (.int .i64 xt.r) := (E0.out.trans EC.out).cell (Ct.out 1 _ rfl)
  have kk0 := K0.out.ext EC.out
  have kk1 := K1.out.ext EC.out
  have q0 : Vd.cell? ⟨w.heap.size + 1, 0, none⟩ = some (.int .i64 vh) := kk1.cell 0
  have q1 : Vd.cell? ⟨w.heap.size + 1, 1, none⟩ = some (.int .i64 (jc : Int)) := kk1.cell 1
  have q2 : Vd.cell? ⟨w.heap.size + 1, 2, none⟩ = some (.int .i64 (jd : Int)) := kk1.cell 2
  have q3 : Vd.cell? ⟨w.heap.size + 1, 3, none⟩ = some (.int .i64 (jt : Int)) := kk1.cell 3
  have s0 : Vd.cell? ⟨w.heap.size, 0, none⟩ = some (.slice A0 n0 c0) := kk0.cell 0
  have s1 : Vd.cell? ⟨w.heap.size, 1, none⟩ = some (.slice (some ⟨bc, oc, none⟩) n1 c1) := kk0.cell 1
  have s2 : Vd.cell? ⟨w.heap.size, 2, none⟩ = some (.slice (some ⟨bd, od, none⟩) n2 c2) := kk0.cell 2
  have s3 : Vd.cell? ⟨w.heap.size, 3, none⟩ = some (.slice (some ⟨bt, ot, none⟩) n3 c3) := kk0.cell 3
  clear kk0 kk1
  go_wp2_with (first
    | (go_at_call 153; refine (tempering_any xt.k xt.r _).mono ?_; rintro e Wt ⟨v, rfl, hx, hv⟩; obtain ⟨f, g, rfl, qt, qt', rfl, rfl, hb, hb'⟩ := hv; have Dt := Lib.hid (show DeedC Wt (.t xt) _ _ from ⟨qt, qt', rfl, rfl, hb, hb'⟩); have Xt := Lib.hid hx; have Zt := Lib.hid (Ext.alloc Wt (.cells #[.func (.func 176) #[] #[.pointer (some ⟨qt', 0, none⟩)], .func (.func 177) #[] #[.pointer (some ⟨qt', 0, none⟩)]] 207)); have Yt := Lib.hid (Xt.out.trans Zt.out); have Nt := Lib.hid (show ∀ j u, ([.func (.func 176) #[] #[.pointer (some ⟨qt', 0, none⟩)], .func (.func 177) #[] #[.pointer (some ⟨qt', 0, none⟩)]] : List Value)[j]? = some u → (Wt.alloc (.cells #[.func (.func 176) #[] #[.pointer (some ⟨qt', 0, none⟩)], .func (.func 177) #[] #[.pointer (some ⟨qt', 0, none⟩)]] 207)).cell? (Addr.add ⟨Wt.heap.size, 0, none⟩ j) = some u from news_of (Blk.new _ _ _)); clear hx hb hb')
    | (at_builtin; refine wpList_append_own _ rfl _ _ 199 rfl W0.heap.size 207 i0 (.agg #[.nilFunc, .nilFunc]) 2 16 Tryz.underlying199 hi HI0.out hz1 hz2 rfl (by decide) _ _ _ rfl (own_ext HO.out Yt.out) ⟨Wt.heap.size, 0, none⟩ 1 1 [.func (.func 176) #[] #[.pointer (some ⟨qt', 0, none⟩)], .func (.func 177) #[] #[.pointer (some ⟨qt', 0, none⟩)]] rfl rfl Nt.out (by simp [Value.oneCell']) (by unfold maxLen; omega) (by omega) (EC.out.trans Yt.out).size ?_; intro v' Vt hown' hgrow _; have EVt := Lib.hid (Ext.grownBy (EC.out.trans Yt.out) hgrow (fun g hg => own_base HO.out hg)); have GRt := Lib.hid hgrow; have OBt := Lib.hid (own_ext HO.out Yt.out); have ONt := Lib.hid hown'; clear hown' hgrow; refine Hid.out ?_))
  refine Lib.hid ?_
  have Dc := Lib.hid (DeedC.keep (Dc.out.ext Yt.out) GRt.out OBt.out)
  have Dd := Lib.hid (DeedC.keep (Dd.out.ext Yt.out) GRt.out OBt.out)
  have Dt := Lib.hid (DeedC.keep (Dt.out.ext Zt.out) GRt.out OBt.out)
  have EC := EVt
  have HO := ONt
  clear pt0 pt1 EVt GRt OBt ONt Xt Nt Yt Zt q0 q1 q2 q3 s0 s1 s2 s3
  have kk1 := K1.out.ext EC.out
  have q0 : Vt.cell? ⟨w.heap.size + 1, 0, none⟩ = some (.int .i64 vh) := kk1.cell 0
  have q1 : Vt.cell? ⟨w.heap.size + 1, 1, none⟩ = some (.int .i64 (jc : Int)) := kk1.cell 1
  have q2 : Vt.cell? ⟨w.heap.size + 1, 2, none⟩ = some (.int .i64 (jd : Int)) := kk1.cell 2
  have q3 : Vt.cell? ⟨w.heap.size + 1, 3, none⟩ = some (.int .i64 (jt : Int)) := kk1.cell 3
  clear kk1
  obtain ⟨A', c', rfl⟩ := own_slice HO.out
  go_wp2
  go_ret
  rw [HDS.out]
  refine ⟨_, rfl, E0.out.trans EC.out, A', 3, c', [(.func (.func 168) #[] #[.pointer (some ⟨qc, 0, none⟩)], .func (.func 171) #[] #[.pointer (some ⟨qc, 0, none⟩)]), (.func (.func 172) #[] #[.pointer (some ⟨qd, 0, none⟩)], .func (.func 174) #[] #[.pointer (some ⟨qd, 0, none⟩)]), (.func (.func 176) #[] #[.pointer (some ⟨qt', 0, none⟩)], .func (.func 177) #[] #[.pointer (some ⟨qt', 0, none⟩)])], rfl, Lib.hid rfl, Lib.hid rfl, by omega, rows_own (n := 3) (base := W0.heap.size) (c := c') rfl (fun _ => rfl) (by simpa [prV] using HO.out) (by decide), fun i d p hd hp => ?_⟩
  match i, hd, hp with
  | 0, hd, hp => obtain rfl := Option.some.inj hd; obtain rfl := Option.some.inj hp; exact Dc.out
  | 1, hd, hp => obtain rfl := Option.some.inj hd; obtain rfl := Option.some.inj hp; exact Dd.out
  | 2, hd, hp => obtain rfl := Option.some.inj hd; obtain rfl := Option.some.inj hp; exact Dt.out
  | i + 3, hd, hp => simp at hd

end Go.Proofs.YtkmekbafjnlfkaaGreat
