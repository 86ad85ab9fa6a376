/- RecBounds: each case, and the law. -/
import Derived.Test.YtpdkcpjofofkoaaDoorRcBoundsMath
import Derived.Test.YtpdkcpjofofkoaaDoorRcBlk
import Derived.Test.YtpdkcpjofofkoaaDoorRcRow
import Derived.Test.YtpdkcpjofofkoaaDoorRcAwake
import Derived.Test.YtpdkcpjofofkoaaDoorRcEnc2
set_option maxRecDepth 100000
namespace Go.Proofs.YtpdkcpjofofkoaaDoor
open Go.RowKit
set_option linter.unusedVariables false
theorem bounds0 (w : World) (a0 : Option Addr) (len0 cap0 : Nat) (z0 : List Int) (a1 a2 : Int) (hS : Shp w) (h0 : CameI w a0 len0 cap0 z0) (hk : bits .and .i64 a1 7 = 0) :
    Calls Tryd.prog 3 #[.slice a0 len0 cap0, .int .i64 a1, .int .i64 a2] w fun e w' => e = .returned (.bool true) ∧ Up Nul w w' := by
  have HS := hid hS
  have H0 := hid h0
  clear hS h0
  obtain ⟨y0, hy0, hy1⟩ := RcL.mask8 a2
  go_enter Tryd.func3, Tryd.ntmps3
  go_wp2_with fail
  refine (rec_any _ _ _ _ _ H0.out).mono ?_
  rintro e w1 ⟨r, sa, sc, la, lc, rfl, F1, R1, u1⟩
  have HF := hid F1
  have HR := hid R1
  have U1 := hid u1
  clear F1 R1 u1
  go_upto_region 2 with fail
  obtain ⟨W3, hW3⟩ : ∃ W, W = w1.alloc (.cells (rcellsL r (.slice sa r.sids.length sc) (.slice la r.locs.length lc)) 27) := ⟨_, rfl⟩
  have V3 : Hid (Up Nul w1 W3) := by show Up _ _ _; rw [hW3]; exact (Up.refl Nul w1).alloc _
  have B3 : Hid (RB W3 w1.heap.size r (.slice sa r.sids.length sc) (.slice la r.locs.length lc)) := by show RB _ _ _ _ _; rw [hW3]; exact RB.new _ _ _ _
  rw [← hW3]
  clear hW3
  obtain ⟨p, hpe⟩ : ∃ p, p = w1.heap.size := ⟨_, rfl⟩
  have hp := hid (Nat.le_of_eq hpe.symm)
  rw [← hpe] at B3 ⊢
  clear hpe
  have HS3 := hid (HS.out.nxt (U1.out.trans V3.out))
  have HR3 := hid (HR.out.nxt V3.out)
  obtain ⟨x0, x1, x2, x3, x4, x5, x6, x7, x8, x9, x10, x11, x12⟩ := B3.out.cells
  go_wp2_with fail
  refine (ok_any r sa la sc lc _ HS3.out HR3.out (Nat.le_trans HF.out.keyl (by decide))).mono ?_
  rintro e w4 ⟨rfl, u4⟩
  rw [okR_iff.2 HF.out]
  have V4 := hid (V3.out.trans u4)
  have B4 := hid (B3.out.nxt u4)
  clear u4 V3 HS3 HR3 B3 x0 x1 x2 x3 x4 x5 x6 x7 x8 x9 x10 x11 x12
  have x0 := B4.out.cells.1
  obtain ⟨q, hq⟩ : ∃ q : Rc, q = (⟨(8 + ((y0 : Int) + 1)), r.key, r.n, r.sid, r.sids, r.colour, r.locs, r.t⟩ : Rc) := ⟨_, rfl⟩
  have HQ : Hid (okR q = false) := by show okR q = false; rw [hq]; exact bad0 (y := (y0 : Int) + 1) HF.out (by omega)
  have HK : Hid (q.key.size ≤ 100000) := by show q.key.size ≤ 100000; rw [hq]; have := HF.out.keyl; exact Nat.le_trans this (by decide)
  have f0 := B4.out.froz 0
  go_upto_region 21 with fail
  obtain ⟨W5, hW5⟩ : ∃ W, W = w4.setCell ⟨p, 0, none⟩ (.int .i64 (8 + ((y0 : Int) + 1))) := ⟨_, rfl⟩
  obtain ⟨sb, lb, tc, mc, e1, e2, e3, e4⟩ : ∃ (sb lb : Option Addr) (tc mc : Nat), sb = sa ∧ lb = la ∧ tc = sc ∧ mc = lc := ⟨_, _, _, _, rfl, rfl, rfl, rfl⟩
  have V5 : Hid (Up Nul w1 W5) := by show Up _ _ _; rw [hW5]; exact V4.out.setCell (.inl hp.out) _
  have B5 : Hid (RB W5 p q (.slice sb q.sids.length tc) (.slice lb q.locs.length mc)) := by show RB _ _ _ _ _; rw [hW5, hq, e1, e2, e3, e4]; exact B4.out.set _ _ rfl
  have HR5 : Hid (RH W5 q sb lb) := by show RH _ _ _ _; rw [hq, e1, e2]; exact ⟨HR.out.s.nxt V5.out, HR.out.l.nxt V5.out, HR.out.ns, HR.out.nl⟩
  rw [← hW5]
  clear hW5 hq e1 e2 e3 e4 V4 B4 x0 f0
  have HS5 : Hid (Shp W5) := HS.out.nxt (U1.out.trans V5.out)
  obtain ⟨x0, x1, x2, x3, x4, x5, x6, x7, x8, x9, x10, x11, x12⟩ := B5.out.cells
  go_wp2_with fail
  refine (enc_not q sb lb tc mc _ HS5.out HR5.out HK.out HQ.out).mono ?_
  rintro e w6 ⟨rfl, u6⟩
  have B6 := hid (B5.out.nxt u6)
  have HS6 := hid (HS5.out.nxt u6)
  have HR6 := hid (HR5.out.nxt u6)
  have V6 := hid (V5.out.trans u6)
  clear u6 B5 HS5 HR5 V5 x0 x1 x2 x3 x4 x5 x6 x7 x8 x9 x10 x11 x12
  obtain ⟨x0, x1, x2, x3, x4, x5, x6, x7, x8, x9, x10, x11, x12⟩ := B6.out.cells
  go_wp2_with fail
  refine (ok_any q sb lb tc mc _ HS6.out HR6.out HK.out).mono ?_
  rintro e w7 ⟨rfl, u7⟩
  rw [HQ.out]
  have HS7 := hid (HS6.out.nxt u7)
  have V7 := hid (V6.out.trans u7)
  clear u7 B6 HS6 HR6 V6 x0 x1 x2 x3 x4 x5 x6 x7 x8 x9 x10 x11 x12
  go_wp2_with fail
  refine (rawake_any _ HS7.out).mono ?_
  rintro e w8 ⟨rfl, u8⟩
  have V8 := hid (U1.out.trans (V7.out.trans u8))
  clear u8
  go_wp2
  first | exact ⟨rfl, V8.out⟩ | (go_ret; exact V8.out) | (go_ret; exact ⟨rfl, V8.out⟩)
theorem bounds1 (w : World) (a0 : Option Addr) (len0 cap0 : Nat) (z0 : List Int) (a1 a2 : Int) (hS : Shp w) (h0 : CameI w a0 len0 cap0 z0) (hk : bits .and .i64 a1 7 = 1) :
    Calls Tryd.prog 3 #[.slice a0 len0 cap0, .int .i64 a1, .int .i64 a2] w fun e w' => e = .returned (.bool true) ∧ Up Nul w w' := by
  have HS := hid hS
  have H0 := hid h0
  clear hS h0
  obtain ⟨y0, hy0, hy1⟩ := RcL.mask8 a2
  go_enter Tryd.func3, Tryd.ntmps3
  go_wp2_with fail
  refine (rec_any _ _ _ _ _ H0.out).mono ?_
  rintro e w1 ⟨r, sa, sc, la, lc, rfl, F1, R1, u1⟩
  have HF := hid F1
  have HR := hid R1
  have U1 := hid u1
  clear F1 R1 u1
  go_upto_region 2 with fail
  obtain ⟨W3, hW3⟩ : ∃ W, W = w1.alloc (.cells (rcellsL r (.slice sa r.sids.length sc) (.slice la r.locs.length lc)) 27) := ⟨_, rfl⟩
  have V3 : Hid (Up Nul w1 W3) := by show Up _ _ _; rw [hW3]; exact (Up.refl Nul w1).alloc _
  have B3 : Hid (RB W3 w1.heap.size r (.slice sa r.sids.length sc) (.slice la r.locs.length lc)) := by show RB _ _ _ _ _; rw [hW3]; exact RB.new _ _ _ _
  rw [← hW3]
  clear hW3
  obtain ⟨p, hpe⟩ : ∃ p, p = w1.heap.size := ⟨_, rfl⟩
  have hp := hid (Nat.le_of_eq hpe.symm)
  rw [← hpe] at B3 ⊢
  clear hpe
  have HS3 := hid (HS.out.nxt (U1.out.trans V3.out))
  have HR3 := hid (HR.out.nxt V3.out)
  obtain ⟨x0, x1, x2, x3, x4, x5, x6, x7, x8, x9, x10, x11, x12⟩ := B3.out.cells
  go_wp2_with fail
  refine (ok_any r sa la sc lc _ HS3.out HR3.out (Nat.le_trans HF.out.keyl (by decide))).mono ?_
  rintro e w4 ⟨rfl, u4⟩
  rw [okR_iff.2 HF.out]
  have V4 := hid (V3.out.trans u4)
  have B4 := hid (B3.out.nxt u4)
  clear u4 V3 HS3 HR3 B3 x0 x1 x2 x3 x4 x5 x6 x7 x8 x9 x10 x11 x12
  have x5 := B4.out.cells.2.2.2.2.2.1
  obtain ⟨q, hq⟩ : ∃ q : Rc, q = (⟨r.kind, r.key, r.n, r.sid, r.sids, (2 + ((y0 : Int) + 1)), r.locs, r.t⟩ : Rc) := ⟨_, rfl⟩
  have HQ : Hid (okR q = false) := by show okR q = false; rw [hq]; exact bad1 (y := (y0 : Int) + 1) HF.out (by omega)
  have HK : Hid (q.key.size ≤ 100000) := by show q.key.size ≤ 100000; rw [hq]; have := HF.out.keyl; exact Nat.le_trans this (by decide)
  have f5 := B4.out.froz 5
  go_upto_region 21 with fail
  obtain ⟨W5, hW5⟩ : ∃ W, W = w4.setCell ⟨p, 5, none⟩ (.int .i64 (2 + ((y0 : Int) + 1))) := ⟨_, rfl⟩
  obtain ⟨sb, lb, tc, mc, e1, e2, e3, e4⟩ : ∃ (sb lb : Option Addr) (tc mc : Nat), sb = sa ∧ lb = la ∧ tc = sc ∧ mc = lc := ⟨_, _, _, _, rfl, rfl, rfl, rfl⟩
  have V5 : Hid (Up Nul w1 W5) := by show Up _ _ _; rw [hW5]; exact V4.out.setCell (.inl hp.out) _
  have B5 : Hid (RB W5 p q (.slice sb q.sids.length tc) (.slice lb q.locs.length mc)) := by show RB _ _ _ _ _; rw [hW5, hq, e1, e2, e3, e4]; exact B4.out.set _ _ rfl
  have HR5 : Hid (RH W5 q sb lb) := by show RH _ _ _ _; rw [hq, e1, e2]; exact ⟨HR.out.s.nxt V5.out, HR.out.l.nxt V5.out, HR.out.ns, HR.out.nl⟩
  rw [← hW5]
  clear hW5 hq e1 e2 e3 e4 V4 B4 x5 f5
  have HS5 : Hid (Shp W5) := HS.out.nxt (U1.out.trans V5.out)
  obtain ⟨x0, x1, x2, x3, x4, x5, x6, x7, x8, x9, x10, x11, x12⟩ := B5.out.cells
  go_wp2_with fail
  refine (enc_not q sb lb tc mc _ HS5.out HR5.out HK.out HQ.out).mono ?_
  rintro e w6 ⟨rfl, u6⟩
  have B6 := hid (B5.out.nxt u6)
  have HS6 := hid (HS5.out.nxt u6)
  have HR6 := hid (HR5.out.nxt u6)
  have V6 := hid (V5.out.trans u6)
  clear u6 B5 HS5 HR5 V5 x0 x1 x2 x3 x4 x5 x6 x7 x8 x9 x10 x11 x12
  obtain ⟨x0, x1, x2, x3, x4, x5, x6, x7, x8, x9, x10, x11, x12⟩ := B6.out.cells
  go_wp2_with fail
  refine (ok_any q sb lb tc mc _ HS6.out HR6.out HK.out).mono ?_
  rintro e w7 ⟨rfl, u7⟩
  rw [HQ.out]
  have HS7 := hid (HS6.out.nxt u7)
  have V7 := hid (V6.out.trans u7)
  clear u7 B6 HS6 HR6 V6 x0 x1 x2 x3 x4 x5 x6 x7 x8 x9 x10 x11 x12
  go_wp2_with fail
  refine (rawake_any _ HS7.out).mono ?_
  rintro e w8 ⟨rfl, u8⟩
  have V8 := hid (U1.out.trans (V7.out.trans u8))
  clear u8
  go_wp2
  first | exact ⟨rfl, V8.out⟩ | (go_ret; exact V8.out) | (go_ret; exact ⟨rfl, V8.out⟩)
theorem bounds2 (w : World) (a0 : Option Addr) (len0 cap0 : Nat) (z0 : List Int) (a1 a2 : Int) (hS : Shp w) (h0 : CameI w a0 len0 cap0 z0) (hk : bits .and .i64 a1 7 = 2) :
    Calls Tryd.prog 3 #[.slice a0 len0 cap0, .int .i64 a1, .int .i64 a2] w fun e w' => e = .returned (.bool true) ∧ Up Nul w w' := by
  have HS := hid hS
  have H0 := hid h0
  clear hS h0
  obtain ⟨y0, hy0, hy1⟩ := RcL.mask8 a2
  go_enter Tryd.func3, Tryd.ntmps3
  go_wp2_with fail
  refine (rec_any _ _ _ _ _ H0.out).mono ?_
  rintro e w1 ⟨r, sa, sc, la, lc, rfl, F1, R1, u1⟩
  have HF := hid F1
  have HR := hid R1
  have U1 := hid u1
  clear F1 R1 u1
  go_upto_region 2 with fail
  obtain ⟨W3, hW3⟩ : ∃ W, W = w1.alloc (.cells (rcellsL r (.slice sa r.sids.length sc) (.slice la r.locs.length lc)) 27) := ⟨_, rfl⟩
  have V3 : Hid (Up Nul w1 W3) := by show Up _ _ _; rw [hW3]; exact (Up.refl Nul w1).alloc _
  have B3 : Hid (RB W3 w1.heap.size r (.slice sa r.sids.length sc) (.slice la r.locs.length lc)) := by show RB _ _ _ _ _; rw [hW3]; exact RB.new _ _ _ _
  rw [← hW3]
  clear hW3
  obtain ⟨p, hpe⟩ : ∃ p, p = w1.heap.size := ⟨_, rfl⟩
  have hp := hid (Nat.le_of_eq hpe.symm)
  rw [← hpe] at B3 ⊢
  clear hpe
  have HS3 := hid (HS.out.nxt (U1.out.trans V3.out))
  have HR3 := hid (HR.out.nxt V3.out)
  obtain ⟨x0, x1, x2, x3, x4, x5, x6, x7, x8, x9, x10, x11, x12⟩ := B3.out.cells
  go_wp2_with fail
  refine (ok_any r sa la sc lc _ HS3.out HR3.out (Nat.le_trans HF.out.keyl (by decide))).mono ?_
  rintro e w4 ⟨rfl, u4⟩
  rw [okR_iff.2 HF.out]
  have V4 := hid (V3.out.trans u4)
  have B4 := hid (B3.out.nxt u4)
  clear u4 V3 HS3 HR3 B3 x0 x1 x2 x3 x4 x5 x6 x7 x8 x9 x10 x11 x12
  have x1 := B4.out.cells.2.1
  have hks := HF.out.keyl
  have hsz : ¬ 9223372036854775807 < r.key.size + 1 := by omega
  obtain ⟨q, hq⟩ : ∃ q : Rc, q = (⟨r.kind, (r.key ++ ⟨#[127]⟩), r.n, r.sid, r.sids, r.colour, r.locs, r.t⟩ : Rc) := ⟨_, rfl⟩
  have HQ : Hid (okR q = false) := by show okR q = false; rw [hq]; exact bad2 (y := (y0 : Int) + 1) HF.out (by omega)
  have HK : Hid (q.key.size ≤ 100000) := by show q.key.size ≤ 100000; rw [hq]; have := HF.out.keyl; show (r.key ++ ⟨#[127]⟩ : ByteArray).size ≤ _; rw [ByteArray.size_append]; have : (⟨#[127]⟩ : ByteArray).size = 1 := rfl; omega
  have f1 := B4.out.froz 1
  go_upto_region 21 with fail
  obtain ⟨W5, hW5⟩ : ∃ W, W = w4.setCell ⟨p, 1, none⟩ (.string (r.key ++ ⟨#[127]⟩)) := ⟨_, rfl⟩
  obtain ⟨sb, lb, tc, mc, e1, e2, e3, e4⟩ : ∃ (sb lb : Option Addr) (tc mc : Nat), sb = sa ∧ lb = la ∧ tc = sc ∧ mc = lc := ⟨_, _, _, _, rfl, rfl, rfl, rfl⟩
  have V5 : Hid (Up Nul w1 W5) := by show Up _ _ _; rw [hW5]; exact V4.out.setCell (.inl hp.out) _
  have B5 : Hid (RB W5 p q (.slice sb q.sids.length tc) (.slice lb q.locs.length mc)) := by show RB _ _ _ _ _; rw [hW5, hq, e1, e2, e3, e4]; exact B4.out.set _ _ rfl
  have HR5 : Hid (RH W5 q sb lb) := by show RH _ _ _ _; rw [hq, e1, e2]; exact ⟨HR.out.s.nxt V5.out, HR.out.l.nxt V5.out, HR.out.ns, HR.out.nl⟩
  rw [← hW5]
  clear hW5 hq e1 e2 e3 e4 V4 B4 x1 f1
  have HS5 : Hid (Shp W5) := HS.out.nxt (U1.out.trans V5.out)
  obtain ⟨x0, x1, x2, x3, x4, x5, x6, x7, x8, x9, x10, x11, x12⟩ := B5.out.cells
  go_wp2_with fail
  refine (enc_not q sb lb tc mc _ HS5.out HR5.out HK.out HQ.out).mono ?_
  rintro e w6 ⟨rfl, u6⟩
  have B6 := hid (B5.out.nxt u6)
  have HS6 := hid (HS5.out.nxt u6)
  have HR6 := hid (HR5.out.nxt u6)
  have V6 := hid (V5.out.trans u6)
  clear u6 B5 HS5 HR5 V5 x0 x1 x2 x3 x4 x5 x6 x7 x8 x9 x10 x11 x12
  obtain ⟨x0, x1, x2, x3, x4, x5, x6, x7, x8, x9, x10, x11, x12⟩ := B6.out.cells
  go_wp2_with fail
  refine (ok_any q sb lb tc mc _ HS6.out HR6.out HK.out).mono ?_
  rintro e w7 ⟨rfl, u7⟩
  rw [HQ.out]
  have HS7 := hid (HS6.out.nxt u7)
  have V7 := hid (V6.out.trans u7)
  clear u7 B6 HS6 HR6 V6 x0 x1 x2 x3 x4 x5 x6 x7 x8 x9 x10 x11 x12
  go_wp2_with fail
  refine (rawake_any _ HS7.out).mono ?_
  rintro e w8 ⟨rfl, u8⟩
  have V8 := hid (U1.out.trans (V7.out.trans u8))
  clear u8
  go_wp2
  first | exact ⟨rfl, V8.out⟩ | (go_ret; exact V8.out) | (go_ret; exact ⟨rfl, V8.out⟩)
theorem bounds3 (w : World) (a0 : Option Addr) (len0 cap0 : Nat) (z0 : List Int) (a1 a2 : Int) (hS : Shp w) (h0 : CameI w a0 len0 cap0 z0) (hk : bits .and .i64 a1 7 = 3) :
    Calls Tryd.prog 3 #[.slice a0 len0 cap0, .int .i64 a1, .int .i64 a2] w fun e w' => e = .returned (.bool true) ∧ Up Nul w w' := by
  have HS := hid hS
  have H0 := hid h0
  clear hS h0
  obtain ⟨y0, hy0, hy1⟩ := RcL.mask8 a2
  go_enter Tryd.func3, Tryd.ntmps3
  go_wp2_with fail
  refine (rec_any _ _ _ _ _ H0.out).mono ?_
  rintro e w1 ⟨r, sa, sc, la, lc, rfl, F1, R1, u1⟩
  have HF := hid F1
  have HR := hid R1
  have U1 := hid u1
  clear F1 R1 u1
  go_upto_region 2 with fail
  obtain ⟨W3, hW3⟩ : ∃ W, W = w1.alloc (.cells (rcellsL r (.slice sa r.sids.length sc) (.slice la r.locs.length lc)) 27) := ⟨_, rfl⟩
  have V3 : Hid (Up Nul w1 W3) := by show Up _ _ _; rw [hW3]; exact (Up.refl Nul w1).alloc _
  have B3 : Hid (RB W3 w1.heap.size r (.slice sa r.sids.length sc) (.slice la r.locs.length lc)) := by show RB _ _ _ _ _; rw [hW3]; exact RB.new _ _ _ _
  rw [← hW3]
  clear hW3
  obtain ⟨p, hpe⟩ : ∃ p, p = w1.heap.size := ⟨_, rfl⟩
  have hp := hid (Nat.le_of_eq hpe.symm)
  rw [← hpe] at B3 ⊢
  clear hpe
  have HS3 := hid (HS.out.nxt (U1.out.trans V3.out))
  have HR3 := hid (HR.out.nxt V3.out)
  obtain ⟨x0, x1, x2, x3, x4, x5, x6, x7, x8, x9, x10, x11, x12⟩ := B3.out.cells
  go_wp2_with fail
  refine (ok_any r sa la sc lc _ HS3.out HR3.out (Nat.le_trans HF.out.keyl (by decide))).mono ?_
  rintro e w4 ⟨rfl, u4⟩
  rw [okR_iff.2 HF.out]
  have V4 := hid (V3.out.trans u4)
  have B4 := hid (B3.out.nxt u4)
  clear u4 V3 HS3 HR3 B3 x0 x1 x2 x3 x4 x5 x6 x7 x8 x9 x10 x11 x12
  have x2 := B4.out.cells.2.2.1
  obtain ⟨q, hq⟩ : ∃ q : Rc, q = (⟨r.kind, r.key, (64 + ((y0 : Int) + 1)), r.sid, r.sids, r.colour, r.locs, r.t⟩ : Rc) := ⟨_, rfl⟩
  have HQ : Hid (okR q = false) := by show okR q = false; rw [hq]; exact bad3 (y := (y0 : Int) + 1) HF.out (by omega)
  have HK : Hid (q.key.size ≤ 100000) := by show q.key.size ≤ 100000; rw [hq]; have := HF.out.keyl; exact Nat.le_trans this (by decide)
  have f2 := B4.out.froz 2
  go_upto_region 21 with fail
  obtain ⟨W5, hW5⟩ : ∃ W, W = w4.setCell ⟨p, 2, none⟩ (.int .i64 (64 + ((y0 : Int) + 1))) := ⟨_, rfl⟩
  obtain ⟨sb, lb, tc, mc, e1, e2, e3, e4⟩ : ∃ (sb lb : Option Addr) (tc mc : Nat), sb = sa ∧ lb = la ∧ tc = sc ∧ mc = lc := ⟨_, _, _, _, rfl, rfl, rfl, rfl⟩
  have V5 : Hid (Up Nul w1 W5) := by show Up _ _ _; rw [hW5]; exact V4.out.setCell (.inl hp.out) _
  have B5 : Hid (RB W5 p q (.slice sb q.sids.length tc) (.slice lb q.locs.length mc)) := by show RB _ _ _ _ _; rw [hW5, hq, e1, e2, e3, e4]; exact B4.out.set _ _ rfl
  have HR5 : Hid (RH W5 q sb lb) := by show RH _ _ _ _; rw [hq, e1, e2]; exact ⟨HR.out.s.nxt V5.out, HR.out.l.nxt V5.out, HR.out.ns, HR.out.nl⟩
  rw [← hW5]
  clear hW5 hq e1 e2 e3 e4 V4 B4 x2 f2
  have HS5 : Hid (Shp W5) := HS.out.nxt (U1.out.trans V5.out)
  obtain ⟨x0, x1, x2, x3, x4, x5, x6, x7, x8, x9, x10, x11, x12⟩ := B5.out.cells
  go_wp2_with fail
  refine (enc_not q sb lb tc mc _ HS5.out HR5.out HK.out HQ.out).mono ?_
  rintro e w6 ⟨rfl, u6⟩
  have B6 := hid (B5.out.nxt u6)
  have HS6 := hid (HS5.out.nxt u6)
  have HR6 := hid (HR5.out.nxt u6)
  have V6 := hid (V5.out.trans u6)
  clear u6 B5 HS5 HR5 V5 x0 x1 x2 x3 x4 x5 x6 x7 x8 x9 x10 x11 x12
  obtain ⟨x0, x1, x2, x3, x4, x5, x6, x7, x8, x9, x10, x11, x12⟩ := B6.out.cells
  go_wp2_with fail
  refine (ok_any q sb lb tc mc _ HS6.out HR6.out HK.out).mono ?_
  rintro e w7 ⟨rfl, u7⟩
  rw [HQ.out]
  have HS7 := hid (HS6.out.nxt u7)
  have V7 := hid (V6.out.trans u7)
  clear u7 B6 HS6 HR6 V6 x0 x1 x2 x3 x4 x5 x6 x7 x8 x9 x10 x11 x12
  go_wp2_with fail
  refine (rawake_any _ HS7.out).mono ?_
  rintro e w8 ⟨rfl, u8⟩
  have V8 := hid (U1.out.trans (V7.out.trans u8))
  clear u8
  go_wp2
  first | exact ⟨rfl, V8.out⟩ | (go_ret; exact V8.out) | (go_ret; exact ⟨rfl, V8.out⟩)
theorem bounds4 (w : World) (a0 : Option Addr) (len0 cap0 : Nat) (z0 : List Int) (a1 a2 : Int) (hS : Shp w) (h0 : CameI w a0 len0 cap0 z0) (hk : bits .and .i64 a1 7 = 4) :
    Calls Tryd.prog 3 #[.slice a0 len0 cap0, .int .i64 a1, .int .i64 a2] w fun e w' => e = .returned (.bool true) ∧ Up Nul w w' := by
  have HS := hid hS
  have H0 := hid h0
  clear hS h0
  obtain ⟨y0, hy0, hy1⟩ := RcL.mask8 a2
  go_enter Tryd.func3, Tryd.ntmps3
  go_wp2_with fail
  refine (rec_any _ _ _ _ _ H0.out).mono ?_
  rintro e w1 ⟨r, sa, sc, la, lc, rfl, F1, R1, u1⟩
  have HF := hid F1
  have HR := hid R1
  have U1 := hid u1
  clear F1 R1 u1
  go_upto_region 2 with fail
  obtain ⟨W3, hW3⟩ : ∃ W, W = w1.alloc (.cells (rcellsL r (.slice sa r.sids.length sc) (.slice la r.locs.length lc)) 27) := ⟨_, rfl⟩
  have V3 : Hid (Up Nul w1 W3) := by show Up _ _ _; rw [hW3]; exact (Up.refl Nul w1).alloc _
  have B3 : Hid (RB W3 w1.heap.size r (.slice sa r.sids.length sc) (.slice la r.locs.length lc)) := by show RB _ _ _ _ _; rw [hW3]; exact RB.new _ _ _ _
  rw [← hW3]
  clear hW3
  obtain ⟨p, hpe⟩ : ∃ p, p = w1.heap.size := ⟨_, rfl⟩
  have hp := hid (Nat.le_of_eq hpe.symm)
  rw [← hpe] at B3 ⊢
  clear hpe
  have HS3 := hid (HS.out.nxt (U1.out.trans V3.out))
  have HR3 := hid (HR.out.nxt V3.out)
  obtain ⟨x0, x1, x2, x3, x4, x5, x6, x7, x8, x9, x10, x11, x12⟩ := B3.out.cells
  go_wp2_with fail
  refine (ok_any r sa la sc lc _ HS3.out HR3.out (Nat.le_trans HF.out.keyl (by decide))).mono ?_
  rintro e w4 ⟨rfl, u4⟩
  rw [okR_iff.2 HF.out]
  have V4 := hid (V3.out.trans u4)
  have B4 := hid (B3.out.nxt u4)
  clear u4 V3 HS3 HR3 B3 x0 x1 x2 x3 x4 x5 x6 x7 x8 x9 x10 x11 x12
  have x3 := B4.out.cells.2.2.2.1
  obtain ⟨q, hq⟩ : ∃ q : Rc, q = (⟨r.kind, r.key, r.n, (-((y0 : Int) + 1)), r.sids, r.colour, r.locs, r.t⟩ : Rc) := ⟨_, rfl⟩
  have HQ : Hid (okR q = false) := by show okR q = false; rw [hq]; exact bad4 (y := (y0 : Int) + 1) HF.out (by omega)
  have HK : Hid (q.key.size ≤ 100000) := by show q.key.size ≤ 100000; rw [hq]; have := HF.out.keyl; exact Nat.le_trans this (by decide)
  have f3 := B4.out.froz 3
  go_upto_region 21 with fail
  obtain ⟨W5, hW5⟩ : ∃ W, W = w4.setCell ⟨p, 3, none⟩ (.int .i64 (-((y0 : Int) + 1))) := ⟨_, rfl⟩
  obtain ⟨sb, lb, tc, mc, e1, e2, e3, e4⟩ : ∃ (sb lb : Option Addr) (tc mc : Nat), sb = sa ∧ lb = la ∧ tc = sc ∧ mc = lc := ⟨_, _, _, _, rfl, rfl, rfl, rfl⟩
  have V5 : Hid (Up Nul w1 W5) := by show Up _ _ _; rw [hW5]; exact V4.out.setCell (.inl hp.out) _
  have B5 : Hid (RB W5 p q (.slice sb q.sids.length tc) (.slice lb q.locs.length mc)) := by show RB _ _ _ _ _; rw [hW5, hq, e1, e2, e3, e4]; exact B4.out.set _ _ rfl
  have HR5 : Hid (RH W5 q sb lb) := by show RH _ _ _ _; rw [hq, e1, e2]; exact ⟨HR.out.s.nxt V5.out, HR.out.l.nxt V5.out, HR.out.ns, HR.out.nl⟩
  rw [← hW5]
  clear hW5 hq e1 e2 e3 e4 V4 B4 x3 f3
  have HS5 : Hid (Shp W5) := HS.out.nxt (U1.out.trans V5.out)
  obtain ⟨x0, x1, x2, x3, x4, x5, x6, x7, x8, x9, x10, x11, x12⟩ := B5.out.cells
  go_wp2_with fail
  refine (enc_not q sb lb tc mc _ HS5.out HR5.out HK.out HQ.out).mono ?_
  rintro e w6 ⟨rfl, u6⟩
  have B6 := hid (B5.out.nxt u6)
  have HS6 := hid (HS5.out.nxt u6)
  have HR6 := hid (HR5.out.nxt u6)
  have V6 := hid (V5.out.trans u6)
  clear u6 B5 HS5 HR5 V5 x0 x1 x2 x3 x4 x5 x6 x7 x8 x9 x10 x11 x12
  obtain ⟨x0, x1, x2, x3, x4, x5, x6, x7, x8, x9, x10, x11, x12⟩ := B6.out.cells
  go_wp2_with fail
  refine (ok_any q sb lb tc mc _ HS6.out HR6.out HK.out).mono ?_
  rintro e w7 ⟨rfl, u7⟩
  rw [HQ.out]
  have HS7 := hid (HS6.out.nxt u7)
  have V7 := hid (V6.out.trans u7)
  clear u7 B6 HS6 HR6 V6 x0 x1 x2 x3 x4 x5 x6 x7 x8 x9 x10 x11 x12
  go_wp2_with fail
  refine (rawake_any _ HS7.out).mono ?_
  rintro e w8 ⟨rfl, u8⟩
  have V8 := hid (U1.out.trans (V7.out.trans u8))
  clear u8
  go_wp2
  first | exact ⟨rfl, V8.out⟩ | (go_ret; exact V8.out) | (go_ret; exact ⟨rfl, V8.out⟩)
theorem bounds5 (w : World) (a0 : Option Addr) (len0 cap0 : Nat) (z0 : List Int) (a1 a2 : Int) (hS : Shp w) (h0 : CameI w a0 len0 cap0 z0) (hk : bits .and .i64 a1 7 = 5) :
    Calls Tryd.prog 3 #[.slice a0 len0 cap0, .int .i64 a1, .int .i64 a2] w fun e w' => e = .returned (.bool true) ∧ Up Nul w w' := by
  have HS := hid hS
  have H0 := hid h0
  clear hS h0
  obtain ⟨y0, hy0, hy1⟩ := RcL.mask8 a2
  go_enter Tryd.func3, Tryd.ntmps3
  go_wp2_with fail
  refine (rec_any _ _ _ _ _ H0.out).mono ?_
  rintro e w1 ⟨r, sa, sc, la, lc, rfl, F1, R1, u1⟩
  have HF := hid F1
  have HR := hid R1
  have U1 := hid u1
  clear F1 R1 u1
  go_upto_region 2 with fail
  obtain ⟨W3, hW3⟩ : ∃ W, W = w1.alloc (.cells (rcellsL r (.slice sa r.sids.length sc) (.slice la r.locs.length lc)) 27) := ⟨_, rfl⟩
  have V3 : Hid (Up Nul w1 W3) := by show Up _ _ _; rw [hW3]; exact (Up.refl Nul w1).alloc _
  have B3 : Hid (RB W3 w1.heap.size r (.slice sa r.sids.length sc) (.slice la r.locs.length lc)) := by show RB _ _ _ _ _; rw [hW3]; exact RB.new _ _ _ _
  rw [← hW3]
  clear hW3
  obtain ⟨p, hpe⟩ : ∃ p, p = w1.heap.size := ⟨_, rfl⟩
  have hp := hid (Nat.le_of_eq hpe.symm)
  rw [← hpe] at B3 ⊢
  clear hpe
  have HS3 := hid (HS.out.nxt (U1.out.trans V3.out))
  have HR3 := hid (HR.out.nxt V3.out)
  obtain ⟨x0, x1, x2, x3, x4, x5, x6, x7, x8, x9, x10, x11, x12⟩ := B3.out.cells
  go_wp2_with fail
  refine (ok_any r sa la sc lc _ HS3.out HR3.out (Nat.le_trans HF.out.keyl (by decide))).mono ?_
  rintro e w4 ⟨rfl, u4⟩
  rw [okR_iff.2 HF.out]
  have V4 := hid (V3.out.trans u4)
  have B4 := hid (B3.out.nxt u4)
  clear u4 V3 HS3 HR3 B3 x0 x1 x2 x3 x4 x5 x6 x7 x8 x9 x10 x11 x12
  have x4 := B4.out.cells.2.2.2.2.1
  obtain ⟨q, hq⟩ : ∃ q : Rc, q = (⟨r.kind, r.key, r.n, r.sid, (r.sids ++ [1]), r.colour, r.locs, r.t⟩ : Rc) := ⟨_, rfl⟩
  have HQ : Hid (okR q = false) := by show okR q = false; rw [hq]; exact bad5 (y := (y0 : Int) + 1) HF.out (by omega)
  have HK : Hid (q.key.size ≤ 100000) := by show q.key.size ≤ 100000; rw [hq]; have := HF.out.keyl; exact Nat.le_trans this (by decide)
  have hlt := B4.out.lt
  have HU : Hid (∀ W, Up Nul w4 W → RB W p r (.slice sa r.sids.length sc) (.slice la r.locs.length lc)) := fun W u => B4.out.nxt u
  have o0 : OwnI w4.heap.size (w4.alloc (.cells #[] 3)) (.slice (some ⟨w4.heap.size, 0, none⟩) 0 0) [] := ⟨rfl, .inr ⟨w4.heap.size, 0, #[], rfl, Nat.le_refl _, heap_alloc_new _ _, Nat.le_refl _, by unfold maxLen; omega, rfl, rfl⟩⟩
  have ua := (Up.refl Nul w4).alloc (.cells #[] 3)
  obtain ⟨v1, wB, hrun1, o1, g1, wh1⟩ := o0.appR sa sc r.sids (HR.out.s.nxt (V4.out.trans ua)) (by have := HF.out.nsl; simp only [List.length_nil]; omega) ua.size
  have ub : Up Nul w4 wB := ua.grown g1 o0.bs
  have uc := ub.alloc (.cells #[.int .i64 1] 3)
  have ow1 : OwnI w4.heap.size (wB.alloc (.cells #[.int .i64 1] 3)) v1 (([] : List Int) ++ r.sids) := o1.up ((Up.refl Nul wB).alloc _) fun _ _ _ h => h
  obtain ⟨v2, wD, hrun2, o2, g2⟩ := ow1.app 1 ⟨wB.heap.size, 0, none⟩ (by exact World.cell?_alloc_new _ _ _ 0) 1 (by have := HF.out.nsl; rw [List.nil_append]; omega) uc.size
  have ud : Up Nul w4 wD := uc.grown g2 ow1.bs
  rw [List.nil_append] at o2 ow1
  obtain ⟨b1, c1, rfl⟩ := ow1.shape
  obtain ⟨b2, c2, rfl, rw2⟩ := o2.row
  have x4a := (HU.out _ ua).cells.2.2.2.2.1
  have x4d := (HU.out _ ud).cells.2.2.2.2.1
  have f4d := (HU.out _ ud).froz 4
  have V5 : Hid (Up Nul w1 (wD.setCell ⟨p, 4, none⟩ (.slice b2 (r.sids ++ [(1 : Int)]).length c2))) := (V4.out.trans ud).setCell (.inl hp.out) _
  obtain ⟨W5, hW5⟩ : ∃ W, W = wD.setCell ⟨p, 4, none⟩ (.slice b2 (r.sids ++ [(1 : Int)]).length c2) := ⟨_, rfl⟩
  obtain ⟨sb, lb, tc, mc, e1, e2, e3, e4⟩ : ∃ (sb lb : Option Addr) (tc mc : Nat), sb = b2 ∧ lb = la ∧ tc = c2 ∧ mc = lc := ⟨_, _, _, _, rfl, rfl, rfl, rfl⟩
  have B5 : Hid (RB W5 p q (.slice sb q.sids.length tc) (.slice lb q.locs.length mc)) := by show RB _ _ _ _ _; rw [hW5, hq, e1, e2, e3, e4]; exact (HU.out _ ud).set _ _ rfl
  rw [← hW5] at V5
  have hrw : RowI W5 b2 (r.sids ++ [(1 : Int)]) := by
    rw [hW5]
    exact rw2.far _ _ fun g o _ e => by have := o2.bs g (by rw [e]; rfl); omega
  have HR5 : Hid (RH W5 q sb lb) := by show RH _ _ _ _; rw [hq, e1, e2]; exact ⟨hrw, HR.out.l.nxt V5.out, by rw [List.length_append]; have := HF.out.nsl; simp only [List.length_cons, List.length_nil]; omega, HR.out.nl⟩
  clear V4 B4 HU o0 o1 o2 ow1 ua ub uc ud g1 g2 wh1 hrw rw2 hlt
  go_upto_region 21 with (first | (at_builtin; refine wpList_append_eqv rfl (.tmp 52) (.tmp 54) 22 rfl _ _ _ rfl rfl hrun1 ?_) | (at_builtin; refine wpList_append_eqv rfl (.tmp 55) (.tmp 56) 22 rfl _ _ _ rfl rfl hrun2 ?_) | fail)
  rw [show (r.sids ++ [(1 : Int)]).length = r.sids.length + 1 by simp] at hW5
  rw [← hW5]
  clear hW5 hq e1 e2 e3 e4 x4
  have HS5 : Hid (Shp W5) := HS.out.nxt (U1.out.trans V5.out)
  obtain ⟨x0, x1, x2, x3, x4, x5, x6, x7, x8, x9, x10, x11, x12⟩ := B5.out.cells
  go_wp2_with fail
  refine (enc_not q sb lb tc mc _ HS5.out HR5.out HK.out HQ.out).mono ?_
  rintro e w6 ⟨rfl, u6⟩
  have B6 := hid (B5.out.nxt u6)
  have HS6 := hid (HS5.out.nxt u6)
  have HR6 := hid (HR5.out.nxt u6)
  have V6 := hid (V5.out.trans u6)
  clear u6 B5 HS5 HR5 V5 x0 x1 x2 x3 x4 x5 x6 x7 x8 x9 x10 x11 x12
  obtain ⟨x0, x1, x2, x3, x4, x5, x6, x7, x8, x9, x10, x11, x12⟩ := B6.out.cells
  go_wp2_with fail
  refine (ok_any q sb lb tc mc _ HS6.out HR6.out HK.out).mono ?_
  rintro e w7 ⟨rfl, u7⟩
  rw [HQ.out]
  have HS7 := hid (HS6.out.nxt u7)
  have V7 := hid (V6.out.trans u7)
  clear u7 B6 HS6 HR6 V6 x0 x1 x2 x3 x4 x5 x6 x7 x8 x9 x10 x11 x12
  go_wp2_with fail
  refine (rawake_any _ HS7.out).mono ?_
  rintro e w8 ⟨rfl, u8⟩
  have V8 := hid (U1.out.trans (V7.out.trans u8))
  clear u8
  go_wp2
  first | exact ⟨rfl, V8.out⟩ | (go_ret; exact V8.out) | (go_ret; exact ⟨rfl, V8.out⟩)
theorem bounds6 (w : World) (a0 : Option Addr) (len0 cap0 : Nat) (z0 : List Int) (a1 a2 : Int) (hS : Shp w) (h0 : CameI w a0 len0 cap0 z0) (hk : bits .and .i64 a1 7 = 6) :
    Calls Tryd.prog 3 #[.slice a0 len0 cap0, .int .i64 a1, .int .i64 a2] w fun e w' => e = .returned (.bool true) ∧ Up Nul w w' := by
  have HS := hid hS
  have H0 := hid h0
  clear hS h0
  obtain ⟨y0, hy0, hy1⟩ := RcL.mask8 a2
  go_enter Tryd.func3, Tryd.ntmps3
  go_wp2_with fail
  refine (rec_any _ _ _ _ _ H0.out).mono ?_
  rintro e w1 ⟨r, sa, sc, la, lc, rfl, F1, R1, u1⟩
  have HF := hid F1
  have HR := hid R1
  have U1 := hid u1
  clear F1 R1 u1
  go_upto_region 2 with fail
  obtain ⟨W3, hW3⟩ : ∃ W, W = w1.alloc (.cells (rcellsL r (.slice sa r.sids.length sc) (.slice la r.locs.length lc)) 27) := ⟨_, rfl⟩
  have V3 : Hid (Up Nul w1 W3) := by show Up _ _ _; rw [hW3]; exact (Up.refl Nul w1).alloc _
  have B3 : Hid (RB W3 w1.heap.size r (.slice sa r.sids.length sc) (.slice la r.locs.length lc)) := by show RB _ _ _ _ _; rw [hW3]; exact RB.new _ _ _ _
  rw [← hW3]
  clear hW3
  obtain ⟨p, hpe⟩ : ∃ p, p = w1.heap.size := ⟨_, rfl⟩
  have hp := hid (Nat.le_of_eq hpe.symm)
  rw [← hpe] at B3 ⊢
  clear hpe
  have HS3 := hid (HS.out.nxt (U1.out.trans V3.out))
  have HR3 := hid (HR.out.nxt V3.out)
  obtain ⟨x0, x1, x2, x3, x4, x5, x6, x7, x8, x9, x10, x11, x12⟩ := B3.out.cells
  go_wp2_with fail
  refine (ok_any r sa la sc lc _ HS3.out HR3.out (Nat.le_trans HF.out.keyl (by decide))).mono ?_
  rintro e w4 ⟨rfl, u4⟩
  rw [okR_iff.2 HF.out]
  have V4 := hid (V3.out.trans u4)
  have B4 := hid (B3.out.nxt u4)
  clear u4 V3 HS3 HR3 B3 x0 x1 x2 x3 x4 x5 x6 x7 x8 x9 x10 x11 x12
  have x6 := B4.out.cells.2.2.2.2.2.2.1
  obtain ⟨q, hq⟩ : ∃ q : Rc, q = (⟨r.kind, r.key, r.n, r.sid, r.sids, r.colour, (r.locs ++ [(⟨0, 0, 1⟩ : Lo)]), r.t⟩ : Rc) := ⟨_, rfl⟩
  have HQ : Hid (okR q = false) := by show okR q = false; rw [hq]; exact bad6 (y := (y0 : Int) + 1) HF.out (by omega)
  have HK : Hid (q.key.size ≤ 100000) := by show q.key.size ≤ 100000; rw [hq]; have := HF.out.keyl; exact Nat.le_trans this (by decide)
  have hlt := B4.out.lt
  have HU : Hid (∀ W, Up Nul w4 W → RB W p r (.slice sa r.sids.length sc) (.slice la r.locs.length lc)) := fun W u => B4.out.nxt u
  have o0 : OwnLo w4.heap.size (w4.alloc (.cells #[] 31)) (.slice (some ⟨w4.heap.size, 0, none⟩) 0 0) [] := ⟨rfl, .inr ⟨w4.heap.size, 0, #[], rfl, Nat.le_refl _, heap_alloc_new _ _, Nat.le_refl _, by unfold maxLen; omega, rfl, rfl⟩⟩
  have ua := (Up.refl Nul w4).alloc (.cells #[] 31)
  obtain ⟨v1, wB, hrun1, o1, g1, wh1⟩ := o0.appR la lc r.locs (HR.out.l.nxt (V4.out.trans ua)) (by have := HF.out.nll; simp only [List.length_nil]; omega) ua.size
  have ub : Up Nul w4 wB := ua.grown g1 o0.bs
  have uc := ub.alloc (.cells #[.int .i64 0, .int .i64 0, .int .i64 1] 31)
  have ow1 : OwnLo w4.heap.size (wB.alloc (.cells #[.int .i64 0, .int .i64 0, .int .i64 1] 31)) v1 (([] : List Lo) ++ r.locs) := o1.up ((Up.refl Nul wB).alloc _) fun _ _ _ h => h
  obtain ⟨v2, wD, hrun2, o2, g2⟩ := ow1.app ⟨0, 0, 1⟩ wB.heap.size (fun j u hj => by match j, hj with | 0, hj => (cases hj; exact World.cell?_alloc_new _ _ _ 0) | 1, hj => (cases hj; exact World.cell?_alloc_new _ _ _ 1) | 2, hj => (cases hj; exact World.cell?_alloc_new _ _ _ 2)) 1 (by have := HF.out.nll; rw [List.nil_append]; omega) uc.size
  have ud : Up Nul w4 wD := uc.grown g2 ow1.bs
  rw [List.nil_append] at o2 ow1
  obtain ⟨b1, c1, rfl⟩ := ow1.shape
  obtain ⟨b2, c2, rfl, rw2⟩ := o2.row
  have x6a := (HU.out _ ua).cells.2.2.2.2.2.2.1
  have x6d := (HU.out _ ud).cells.2.2.2.2.2.2.1
  have f6d := (HU.out _ ud).froz 6
  have V5 : Hid (Up Nul w1 (wD.setCell ⟨p, 6, none⟩ (.slice b2 (r.locs ++ [(⟨0, 0, 1⟩ : Lo)]).length c2))) := (V4.out.trans ud).setCell (.inl hp.out) _
  obtain ⟨W5, hW5⟩ : ∃ W, W = wD.setCell ⟨p, 6, none⟩ (.slice b2 (r.locs ++ [(⟨0, 0, 1⟩ : Lo)]).length c2) := ⟨_, rfl⟩
  obtain ⟨sb, lb, tc, mc, e1, e2, e3, e4⟩ : ∃ (sb lb : Option Addr) (tc mc : Nat), sb = sa ∧ lb = b2 ∧ tc = sc ∧ mc = c2 := ⟨_, _, _, _, rfl, rfl, rfl, rfl⟩
  have B5 : Hid (RB W5 p q (.slice sb q.sids.length tc) (.slice lb q.locs.length mc)) := by show RB _ _ _ _ _; rw [hW5, hq, e1, e2, e3, e4]; exact (HU.out _ ud).set _ _ rfl
  rw [← hW5] at V5
  have hrw : RowL W5 b2 (r.locs ++ [(⟨0, 0, 1⟩ : Lo)]) := by
    rw [hW5]
    exact rw2.far _ _ fun g o _ e => by have := o2.bs g (by rw [e]; rfl); omega
  have HR5 : Hid (RH W5 q sb lb) := by show RH _ _ _ _; rw [hq, e1, e2]; exact ⟨HR.out.s.nxt V5.out, hrw, HR.out.ns, by rw [List.length_append]; have := HF.out.nll; simp only [List.length_cons, List.length_nil]; omega⟩
  clear V4 B4 HU o0 o1 o2 ow1 ua ub uc ud g1 g2 wh1 hrw rw2 hlt
  go_upto_region 21 with (first | (at_builtin; refine wpList_append_eqv rfl (.tmp 61) (.tmp 63) 23 rfl _ _ _ rfl rfl hrun1 ?_) | (at_builtin; refine wpList_append_eqv rfl (.tmp 64) (.tmp 66) 23 rfl _ _ _ rfl rfl hrun2 ?_) | fail)
  rw [show (r.locs ++ [(⟨0, 0, 1⟩ : Lo)]).length = r.locs.length + 1 by simp] at hW5
  rw [← hW5]
  clear hW5 hq e1 e2 e3 e4 x6
  have HS5 : Hid (Shp W5) := HS.out.nxt (U1.out.trans V5.out)
  obtain ⟨x0, x1, x2, x3, x4, x5, x6, x7, x8, x9, x10, x11, x12⟩ := B5.out.cells
  go_wp2_with fail
  refine (enc_not q sb lb tc mc _ HS5.out HR5.out HK.out HQ.out).mono ?_
  rintro e w6 ⟨rfl, u6⟩
  have B6 := hid (B5.out.nxt u6)
  have HS6 := hid (HS5.out.nxt u6)
  have HR6 := hid (HR5.out.nxt u6)
  have V6 := hid (V5.out.trans u6)
  clear u6 B5 HS5 HR5 V5 x0 x1 x2 x3 x4 x5 x6 x7 x8 x9 x10 x11 x12
  obtain ⟨x0, x1, x2, x3, x4, x5, x6, x7, x8, x9, x10, x11, x12⟩ := B6.out.cells
  go_wp2_with fail
  refine (ok_any q sb lb tc mc _ HS6.out HR6.out HK.out).mono ?_
  rintro e w7 ⟨rfl, u7⟩
  rw [HQ.out]
  have HS7 := hid (HS6.out.nxt u7)
  have V7 := hid (V6.out.trans u7)
  clear u7 B6 HS6 HR6 V6 x0 x1 x2 x3 x4 x5 x6 x7 x8 x9 x10 x11 x12
  go_wp2_with fail
  refine (rawake_any _ HS7.out).mono ?_
  rintro e w8 ⟨rfl, u8⟩
  have V8 := hid (U1.out.trans (V7.out.trans u8))
  clear u8
  go_wp2
  first | exact ⟨rfl, V8.out⟩ | (go_ret; exact V8.out) | (go_ret; exact ⟨rfl, V8.out⟩)
theorem bounds7 (w : World) (a0 : Option Addr) (len0 cap0 : Nat) (z0 : List Int) (a1 a2 : Int) (hS : Shp w) (h0 : CameI w a0 len0 cap0 z0) (hk : bits .and .i64 a1 7 = 7) :
    Calls Tryd.prog 3 #[.slice a0 len0 cap0, .int .i64 a1, .int .i64 a2] w fun e w' => e = .returned (.bool true) ∧ Up Nul w w' := by
  have HS := hid hS
  have H0 := hid h0
  clear hS h0
  obtain ⟨y0, hy0, hy1⟩ := RcL.mask8 a2
  go_enter Tryd.func3, Tryd.ntmps3
  go_wp2_with fail
  refine (rec_any _ _ _ _ _ H0.out).mono ?_
  rintro e w1 ⟨r, sa, sc, la, lc, rfl, F1, R1, u1⟩
  have HF := hid F1
  have HR := hid R1
  have U1 := hid u1
  clear F1 R1 u1
  go_upto_region 2 with fail
  obtain ⟨W3, hW3⟩ : ∃ W, W = w1.alloc (.cells (rcellsL r (.slice sa r.sids.length sc) (.slice la r.locs.length lc)) 27) := ⟨_, rfl⟩
  have V3 : Hid (Up Nul w1 W3) := by show Up _ _ _; rw [hW3]; exact (Up.refl Nul w1).alloc _
  have B3 : Hid (RB W3 w1.heap.size r (.slice sa r.sids.length sc) (.slice la r.locs.length lc)) := by show RB _ _ _ _ _; rw [hW3]; exact RB.new _ _ _ _
  rw [← hW3]
  clear hW3
  obtain ⟨p, hpe⟩ : ∃ p, p = w1.heap.size := ⟨_, rfl⟩
  have hp := hid (Nat.le_of_eq hpe.symm)
  rw [← hpe] at B3 ⊢
  clear hpe
  have HS3 := hid (HS.out.nxt (U1.out.trans V3.out))
  have HR3 := hid (HR.out.nxt V3.out)
  obtain ⟨x0, x1, x2, x3, x4, x5, x6, x7, x8, x9, x10, x11, x12⟩ := B3.out.cells
  go_wp2_with fail
  refine (ok_any r sa la sc lc _ HS3.out HR3.out (Nat.le_trans HF.out.keyl (by decide))).mono ?_
  rintro e w4 ⟨rfl, u4⟩
  rw [okR_iff.2 HF.out]
  have V4 := hid (V3.out.trans u4)
  have B4 := hid (B3.out.nxt u4)
  clear u4 V3 HS3 HR3 B3 x0 x1 x2 x3 x4 x5 x6 x7 x8 x9 x10 x11 x12
  have x9 := B4.out.cells.2.2.2.2.2.2.2.2.2.1
  obtain ⟨q, hq⟩ : ∃ q : Rc, q = (⟨r.kind, r.key, r.n, r.sid, r.sids, r.colour, r.locs, (⟨r.t.hot, r.t.warm, -((y0 : Int) + 1), r.t.add, r.t.top, r.t.half⟩ : Tb)⟩ : Rc) := ⟨_, rfl⟩
  have HQ : Hid (okR q = false) := by show okR q = false; rw [hq]; exact bad7 (y := (y0 : Int) + 1) HF.out (by omega)
  have HK : Hid (q.key.size ≤ 100000) := by show q.key.size ≤ 100000; rw [hq]; have := HF.out.keyl; exact Nat.le_trans this (by decide)
  have f9 := B4.out.froz 9
  go_upto_region 21 with fail
  obtain ⟨W5, hW5⟩ : ∃ W, W = w4.setCell ⟨p, 9, none⟩ (.int .i64 (-((y0 : Int) + 1))) := ⟨_, rfl⟩
  obtain ⟨sb, lb, tc, mc, e1, e2, e3, e4⟩ : ∃ (sb lb : Option Addr) (tc mc : Nat), sb = sa ∧ lb = la ∧ tc = sc ∧ mc = lc := ⟨_, _, _, _, rfl, rfl, rfl, rfl⟩
  have V5 : Hid (Up Nul w1 W5) := by show Up _ _ _; rw [hW5]; exact V4.out.setCell (.inl hp.out) _
  have B5 : Hid (RB W5 p q (.slice sb q.sids.length tc) (.slice lb q.locs.length mc)) := by show RB _ _ _ _ _; rw [hW5, hq, e1, e2, e3, e4]; exact B4.out.set _ _ rfl
  have HR5 : Hid (RH W5 q sb lb) := by show RH _ _ _ _; rw [hq, e1, e2]; exact ⟨HR.out.s.nxt V5.out, HR.out.l.nxt V5.out, HR.out.ns, HR.out.nl⟩
  rw [← hW5]
  clear hW5 hq e1 e2 e3 e4 V4 B4 x9 f9
  have HS5 : Hid (Shp W5) := HS.out.nxt (U1.out.trans V5.out)
  obtain ⟨x0, x1, x2, x3, x4, x5, x6, x7, x8, x9, x10, x11, x12⟩ := B5.out.cells
  go_wp2_with fail
  refine (enc_not q sb lb tc mc _ HS5.out HR5.out HK.out HQ.out).mono ?_
  rintro e w6 ⟨rfl, u6⟩
  have B6 := hid (B5.out.nxt u6)
  have HS6 := hid (HS5.out.nxt u6)
  have HR6 := hid (HR5.out.nxt u6)
  have V6 := hid (V5.out.trans u6)
  clear u6 B5 HS5 HR5 V5 x0 x1 x2 x3 x4 x5 x6 x7 x8 x9 x10 x11 x12
  obtain ⟨x0, x1, x2, x3, x4, x5, x6, x7, x8, x9, x10, x11, x12⟩ := B6.out.cells
  go_wp2_with fail
  refine (ok_any q sb lb tc mc _ HS6.out HR6.out HK.out).mono ?_
  rintro e w7 ⟨rfl, u7⟩
  rw [HQ.out]
  have HS7 := hid (HS6.out.nxt u7)
  have V7 := hid (V6.out.trans u7)
  clear u7 B6 HS6 HR6 V6 x0 x1 x2 x3 x4 x5 x6 x7 x8 x9 x10 x11 x12
  go_wp2_with fail
  refine (rawake_any _ HS7.out).mono ?_
  rintro e w8 ⟨rfl, u8⟩
  have V8 := hid (U1.out.trans (V7.out.trans u8))
  clear u8
  go_wp2
  first | exact ⟨rfl, V8.out⟩ | (go_ret; exact V8.out) | (go_ret; exact ⟨rfl, V8.out⟩)
theorem rbounds_walk (a0 : Option Addr) (l0 c0 : Nat) (z0 : List Int) (a1 a2 : Int) (w : World) (hS : Shp w) (w0 : CameI w a0 l0 c0 z0) :
    Calls Tryd.prog 3 #[.slice a0 l0 c0, .int .i64 a1, .int .i64 a2] w fun e w' => e = .returned (.bool true) ∧ Below w.heap.size w w' := by
  obtain ⟨k, hk, hk2⟩ := RcL.mask3 a1
  suffices H : Calls Tryd.prog 3 #[.slice a0 l0 c0, .int .i64 a1, .int .i64 a2] w fun e w' => e = .returned (.bool true) ∧ Up Nul w w' from H.mono fun e w' ⟨h, u⟩ => ⟨h, u.below (Nat.le_refl _) fun _ _ h => h⟩
  match k, hk2 with
  | 0, _ => exact bounds0 w a0 l0 c0 z0 a1 a2 hS w0 hk
  | 1, _ => exact bounds1 w a0 l0 c0 z0 a1 a2 hS w0 hk
  | 2, _ => exact bounds2 w a0 l0 c0 z0 a1 a2 hS w0 hk
  | 3, _ => exact bounds3 w a0 l0 c0 z0 a1 a2 hS w0 hk
  | 4, _ => exact bounds4 w a0 l0 c0 z0 a1 a2 hS w0 hk
  | 5, _ => exact bounds5 w a0 l0 c0 z0 a1 a2 hS w0 hk
  | 6, _ => exact bounds6 w a0 l0 c0 z0 a1 a2 hS w0 hk
  | 7, _ => exact bounds7 w a0 l0 c0 z0 a1 a2 hS w0 hk
end Go.Proofs.YtpdkcpjofofkoaaDoor
