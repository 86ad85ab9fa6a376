/- Part 4 of what the walks rest on: RcRefk4, RcRefk5, RcRefk6, RcRefk7, RcRefk8, RcRefOk, RcSame. -/
import Derived.Test.YtepggchnhgpcnaaGreatDoorPkTidy
import Derived.Test.YtepggchnhgpcnaaGreatDoorPz25
namespace Go.Proofs.YtepggchnhgpcnaaGreatDoor
open Go.RowKit
set_option linter.unusedVariables false
set_option maxRecDepth 100000

set_option maxHeartbeats 8000000 in
theorem rok4 (r : Rc) (sa la : Option Addr) (sc lc : Nat) (w : World) (hR : RH w r sa la) (hK : r.key.size ≤ 100000) (hk : r.kind = 4) :
  Calls Tryz.prog 12 #[rv r (.slice sa r.sids.length sc) (.slice la r.locs.length lc)] w fun e w' => e = .returned (.bool (okR r)) ∧ Up Nul w w' := by
 obtain ⟨R, HE0⟩ : ∃ R, R = okR r := ⟨_, rfl⟩
 rw [← HE0]
 have HE := hid HE0
 have HR := hid hR
 have HK1 := hid hk
 have HKS := hid hK
 have HI := hid (okF4 hk)
 clear hR hk hK HE0
 obtain ⟨W1, hW1⟩ : ∃ W, W = w.alloc (.cells (rcellsL r (.slice sa r.sids.length sc) (.slice la r.locs.length lc)) 28) := ⟨_, rfl⟩
 have U1 : Hid (Up Nul w W1) := by show Up _ _ _; rw [hW1]; exact (Up.refl Nul w).alloc _
 have B1 : Hid (RB W1 w.heap.size r (.slice sa r.sids.length sc) (.slice la r.locs.length lc)) := by show RB _ _ _ _ _; rw [hW1]; exact RB.new _ _ _ _
 go_enter Tryz.func12, Tryz.ntmps12
 go_upto_region 1 with fail
 rw [← hW1]
 clear hW1
 obtain ⟨p, hpe⟩ : ∃ p, p = w.heap.size := ⟨_, rfl⟩
 rw [← hpe] at B1 ⊢
 clear hpe
 have x0 := B1.out.cells.1
 have hk := HK1.out
 go_wp2_with fail
 refine (in_any _ _ _ _).mono ?_
 rintro e w2 ⟨rfl, rfl⟩
 rw [show spn 1 8 4 = true from by decide]
 go_wp2_with fail
 refine (names4 _).mono ?_
 rintro e w2 ⟨rfl, u2⟩
 go_upto_region 4 with fail
 obtain ⟨W4, hW4⟩ : ∃ W, W = w2.alloc (.cells #[.bool (nmB 4 0), .bool (nmB 4 1), .bool (nmB 4 2), .bool (nmB 4 3), .bool (nmB 4 4)] 74) := ⟨_, rfl⟩
 have u4 : Up Nul w2 W4 := by rw [hW4]; exact (Up.refl Nul w2).alloc _
 have hq : W4.heap[w2.heap.size]? = some (.cells #[.bool true, .bool false, .bool true, .bool false, .bool false] 74 (0, 0)) := by rw [hW4]; exact heap_alloc_new _ _
 have HQ : Hid (∀ W, Up Nul W4 W → W.heap[w2.heap.size]? = some (.cells #[.bool true, .bool false, .bool true, .bool false, .bool false] 74 (0, 0))) := fun W u => (u.block _ (Array.getElem?_eq_some_iff.1 hq).1 id).trans hq
 have B4 := hid (B1.out.nxt (u2.trans u4))
 have U4 := hid (U1.out.trans (u2.trans u4))
 rw [← hW4]
 clear hW4 hq u2 u4 B1 U1 x0
 generalize w2.heap.size = q at HQ ⊢
 obtain ⟨n0, n1, n2, n3, n4⟩ := b5_cells (HQ.out _ (Up.refl Nul W4))
 obtain ⟨x0, x1, x2, x3, x4, x5, x6, x7, x8, x9, x10, x11, x12⟩ := B4.out.cells
 go_wp2_with fail
 refine (keyok_any _ _ HKS.out).mono ?_
 rintro e w' ⟨rfl, rfl⟩
 cases hkb : kok r.key with
 | false =>
  have HKB := hid hkb
  go_wp2_with fail
  go_ret
  refine ⟨by rw [HE.out, okR_no (fun F => by obtain ⟨i1, i2, i3, i4, i5, i6, i7, i8, i9, i10, i11, i12, i13, i14, i15⟩ := HI.out.1 F; have := kok_iff.2 ⟨⟨by omega, by omega⟩, i2⟩; rw [HKB.out] at this; cases this)]; rfl, U4.out⟩
 | true =>
 have HKB := hid (kok_iff.1 hkb)
 clear hkb
 go_wp2_with fail
 all_goals first | (go_ret; refine ⟨by rw [HE.out, okR_no (fun F => by obtain ⟨i1, i2, i3, i4, i5, i6, i7, i8, i9, i10, i11, i12, i13, i14, i15⟩ := HI.out.1 F; first | omega | (have hz : r.key.size = 0 := (by omega); exact absurd (key_nil.2 hz) (by assumption)))]; rfl, U4.out⟩) | skip
 have HKB : Hid ((1 ≤ ((r.key.size : Nat) : Int) ∧ ((r.key.size : Nat) : Int) ≤ 16) ∧ ∀ c ∈ nums r.key, 33 ≤ c ∧ c ≤ 126) := ⟨⟨by have := HKB.out.1; omega, by have := HKB.out.1; omega⟩, HKB.out.2⟩
 refine (in_any _ _ _ _).mono ?_
 rintro e w' ⟨rfl, rfl⟩
 cases hb : spn 1 2147483647 r.sid with
 | false =>
  have HB := hid (spn_no hb)
  go_wp2_with fail
  go_ret
  refine ⟨by rw [HE.out, okR_no (fun F => by obtain ⟨i1, i2, i3, i4, i5, i6, i7, i8, i9, i10, i11, i12, i13, i14, i15⟩ := HI.out.1 F; have := HB.out; omega)]; rfl, U4.out⟩
 | true =>
 have hc0 := spn_iff.1 hb
 clear hb
 go_wp2_with fail
 refine (in_any _ _ _ _).mono ?_
 rintro e w' ⟨rfl, rfl⟩
 rw [show spn 0 2 0 = true from by decide]
 go_wp2_with fail
 have HB : Hid ((0 ≤ r.n ∧ r.n ≤ 0) ∧ (1 ≤ r.sid ∧ r.sid ≤ 2147483647) ∧ (0 ≤ r.colour ∧ r.colour ≤ 0)) := ⟨⟨by omega, by omega⟩, ⟨by omega, by omega⟩, ⟨by omega, by omega⟩⟩
 have HT : Hid (r.t.hot = 0 ∧ r.t.warm = 0 ∧ r.t.gap = 0 ∧ r.t.add = 0 ∧ r.t.top = 0 ∧ r.t.half = 0) := ⟨by omega, by omega, by omega, by omega, by omega, by omega⟩
 clear hc0
 refine (sids4 _).mono ?_
 rintro e w' ⟨rfl, rfl⟩
 rw [show sdN 4 = 0 from rfl, show lcN 4 = 3 from rfl]
 cases hb : (((r.sids.length : Nat) : Int) != 0) with
 | true =>
  have HNS : Hid (¬ ((r.sids.length : Nat) : Int) = 0) := by simpa [Hid] using hb
  go_wp2_with fail
  go_ret
  refine ⟨by rw [HE.out, okR_no (fun F => by obtain ⟨i1, i2, i3, i4, i5, i6, i7, i8, i9, i10, i11, i12, i13, i14, i15⟩ := HI.out.1 F; exact HNS.out i6)]; rfl, U4.out⟩
 | false =>
 have HNS : Hid (((r.sids.length : Nat) : Int) = 0) := by simpa [Hid] using hb
 go_wp2_with fail
 clear hb
 obtain ⟨ns, hns⟩ : ∃ ns, r.sids.length = ns := ⟨_, rfl⟩
 have HNN := hid hns
 rw [hns] at x4
 have hn3 : (ns : Int) ≤ 3 := by have := HNS.out; rw [hns] at this; omega
 clear hns
 go_loopw [5, 7] (fun l i wr => ∃ t : Nat, i = .int .i64 (t : Nat) ∧ t ≤ ns ∧ l = .int .i64 3 ∧ (∀ x ∈ r.sids.take t, 1 ≤ x ∧ x ≤ 2147483647) ∧ wr = w') (fun _ i _ => ns - (intOf i).toNat)
 case atStart => exact ⟨0, rfl, Nat.zero_le _, rfl, fun x hx => by simp at hx, by trivial⟩
 case round =>
  obtain ⟨t, rfl, ht, rfl, hp, rfl⟩ := hrel
  have HP := hid hp
  clear hp
  have i0 : (0 : Int) ≤ (t : Int) := by omega
  by_cases hd : t < ns
  ·have j1 : (t : Int) < (ns : Int) := by omega
   obtain ⟨x, hx⟩ : ∃ x, r.sids[t]? = some x := ⟨_, List.getElem?_eq_getElem (by rw [HNN.out]; exact hd)⟩
   rcases HR.out.s.nxt U4.out with e0 | ⟨g, o, rfl, hg, hrow⟩
   ·rw [e0] at hx; simp at hx
   have hcx := hrow t x hx
   have HX := hid hx
   have HL := hid hd
   clear hx hrow hg hd ht
   go_wp2_with fail
   refine (in_any _ _ _ _).mono ?_
   rintro e w'' ⟨rfl, rfl⟩
   cases hb : spn 1 2147483647 x with
   | false =>
    have HB2 := hid (spn_no hb)
    go_wp2_with fail
    go_ret
    refine ⟨by rw [HE.out, okR_no (fun F => by obtain ⟨i1, i2, i3, i4, i5, i6, i7, i8, i9, i10, i11, i12, i13, i14, i15⟩ := HI.out.1 F; have := i7 x (List.mem_of_getElem? HX.out); have := HB2.out; have h0 : r.sids = [] := List.eq_nil_of_length_eq_zero (by omega); rw [h0] at HX; exact absurd HX.out (by simp))]; rfl, U4.out⟩
   | true =>
    have HB2 := hid (spn_iff.1 hb)
    clear hb
    have HP2 : Hid (∀ y ∈ r.sids.take (t + 1), 1 ≤ y ∧ y ≤ 2147483647) := fun y hy => by
     rw [List.take_add_one, HX.out, List.mem_append] at hy
     rcases hy with hy | hy
     ·exact HP.out y hy
     ·have : y = x := by simpa using hy
      rw [this]; exact HB2.out
    go_wp2_with fail
    go_roundw
    case rel => exact ⟨t + 1, by go_num, HL.out, rfl, HP2.out, by trivial⟩
    case measure => have := HL.out; simp [intOf]; omega
  ·obtain rfl : t = ns := by omega
   have HP3 : Hid (∀ y ∈ r.sids, 1 ≤ y ∧ y ≤ 2147483647) := fun y hy => HP.out y (by rw [List.take_of_length_le (by rw [HNN.out]; omega)]; exact hy)
   skip
   have j1 : ¬ (t : Int) < (t : Int) := by omega
   clear hd
   cases hb : (((r.locs.length : Nat) : Int) != 3) with
   | true =>
    have HNL : Hid (¬ ((r.locs.length : Nat) : Int) = 3) := by simpa [Hid] using hb
    go_wp2_with fail
    go_ret
    refine ⟨by rw [HE.out, okR_no (fun F => by obtain ⟨i1, i2, i3, i4, i5, i6, i7, i8, i9, i10, i11, i12, i13, i14, i15⟩ := HI.out.1 F; exact HNL.out (by rw [i8]; omega))]; rfl, U4.out⟩
   | false =>
   have HNL : Hid (((r.locs.length : Nat) : Int) = 3) := by simpa [Hid] using hb
   go_wp2_with fail
   clear hb
   obtain ⟨nl, hnl⟩ : ∃ nl, r.locs.length = nl := ⟨_, rfl⟩
   have HNM := hid hnl
   have hl12 : (nl : Int) ≤ 12 := by have := HNL.out; rw [hnl] at this; omega
   clear hnl x0 x1 x2 x3 x4 x5 x6 x7 x8 x9 x10 x11 x12 n0 n1 n2 n3 n4
   go_loopw [8] (fun i wr => ∃ t : Nat, i = .int .i64 (t : Nat) ∧ t ≤ nl ∧ Hid (∀ l ∈ r.locs.take t, (0 ≤ l.d ∧ l.d ≤ 23) ∧ (0 ≤ l.s ∧ l.s ≤ 63) ∧ 1 ≤ l.i ∧ l.i ≤ 2147483647) ∧ RB wr p r (.slice sa r.sids.length sc) (.slice la r.locs.length lc) ∧ Up Nul w wr) (fun i _ => nl - (intOf i).toNat)
   case atStart => exact ⟨0, rfl, Nat.zero_le _, hid fun x hx => by simp at hx, B4.out, U4.out⟩
   case round =>
    obtain ⟨t2, rfl, ht2, HPL, hb2, hu2⟩ := hrel
    have B5 := hid hb2
    have U5 := hid hu2
    clear hb2 hu2
    have x6 := B5.out.cells.2.2.2.2.2.2.1
    rw [HNM.out] at x6
    have i2 : (0 : Int) ≤ (t2 : Int) := by omega
    have i3 : (t2 : Int) ≤ 12 := by omega
    by_cases hd2 : t2 < nl
    ·have j2 : (t2 : Int) < (nl : Int) := by omega
     obtain ⟨l, hl⟩ : ∃ l, r.locs[t2]? = some l := ⟨_, List.getElem?_eq_getElem (by rw [HNM.out]; exact hd2)⟩
     rcases HR.out.l.nxt U5.out with e0 | ⟨g, o, rfl, hg, hrow⟩
     ·rw [e0] at hl; simp at hl
     have y0 := hrow t2 l hl 0 (.int .i64 l.d) rfl
     have y1 := hrow t2 l hl 1 (.int .i64 l.s) rfl
     have y2 := hrow t2 l hl 2 (.int .i64 l.i) rfl
     simp only [Nat.add_zero] at y0
     have HX2 := hid hl
     have HL2 := hid hd2
     clear hl hrow hd2 ht2
     go_wp2_with fail
     refine (in_any _ _ _ _).mono ?_
     rintro e w6 ⟨rfl, rfl⟩
     cases hb : spn 0 23 l.d with
     | false =>
      have HB2 := hid (spn_no hb)
      go_wp2_with fail
      go_ret
      refine ⟨by rw [HE.out, okR_no (fun F => by obtain ⟨i1, i2, i3, i4, i5, i6, i7, i8, i9, i10, i11, i12, i13, i14, i15⟩ := HI.out.1 F; exact HB2.out (i9 l (List.mem_of_getElem? HX2.out)).1)]; rfl, U5.out.alloc _⟩
     | true =>
     have HB2 := hid (spn_iff.1 hb)
     clear hb
     go_wp2_with fail
     refine (in_any _ _ _ _).mono ?_
     rintro e w6 ⟨rfl, rfl⟩
     cases hb : spn 0 63 l.s with
     | false =>
      have HB3 := hid (spn_no hb)
      go_wp2_with fail
      go_ret
      refine ⟨by rw [HE.out, okR_no (fun F => by obtain ⟨i1, i2, i3, i4, i5, i6, i7, i8, i9, i10, i11, i12, i13, i14, i15⟩ := HI.out.1 F; exact HB3.out (i9 l (List.mem_of_getElem? HX2.out)).2.1)]; rfl, U5.out.alloc _⟩
     | true =>
     have HB3 := hid (spn_iff.1 hb)
     clear hb
     go_wp2_with fail
     refine (in_any _ _ _ _).mono ?_
     rintro e w6 ⟨rfl, rfl⟩
     cases hb : spn 1 2147483647 l.i with
     | false =>
      have HB4 := hid (spn_no hb)
      go_wp2_with fail
      go_ret
      refine ⟨by rw [HE.out, okR_no (fun F => by obtain ⟨i1, i2, i3, i4, i5, i6, i7, i8, i9, i10, i11, i12, i13, i14, i15⟩ := HI.out.1 F; exact HB4.out (i9 l (List.mem_of_getElem? HX2.out)).2.2)]; rfl, U5.out.alloc _⟩
     | true =>
     have HB4 := hid (spn_iff.1 hb)
     clear hb
     have HP2 : Hid (∀ y ∈ r.locs.take (t2 + 1), (0 ≤ y.d ∧ y.d ≤ 23) ∧ (0 ≤ y.s ∧ y.s ≤ 63) ∧ 1 ≤ y.i ∧ y.i ≤ 2147483647) := fun y hy => by
      rw [List.take_add_one, HX2.out, List.mem_append] at hy
      rcases hy with hy | hy
      ·exact HPL.out y hy
      ·have : y = l := by simpa using hy
       rw [this]; exact ⟨HB2.out, HB3.out, HB4.out⟩
     go_wp2_with fail
     go_roundw
     case rel => exact ⟨t2 + 1, by go_num, HL2.out, HP2, B5.out.nxt ((Up.refl Nul _).alloc _), U5.out.alloc _⟩
     case measure => have := HL2.out; simp [intOf]; omega
    ·obtain rfl : t2 = nl := by omega
     have HPL3 : Hid (∀ y ∈ r.locs, (0 ≤ y.d ∧ y.d ≤ 23) ∧ (0 ≤ y.s ∧ y.s ≤ 63) ∧ 1 ≤ y.i ∧ y.i ≤ 2147483647) := fun y hy => HPL.out y (by rw [List.take_of_length_le (by rw [HNM.out]; omega)]; exact hy)
     have j2 : ¬ (t2 : Int) < (t2 : Int) := by omega
     clear hd2 ht2
     obtain ⟨_, _, _, _, _, _, _, x7, x8, x9, x10, x11, x12⟩ := B5.out.cells
     go_wp2_with fail
     refine (tables_any tb0 _).mono ?_
     rintro e w7 ⟨rfl, u7⟩
     go_upto_region 30 with fail
     obtain ⟨W8, hW8⟩ : ∃ W, W = w7.alloc (.cells #[.int .i64 tb0.hot, .int .i64 tb0.warm, .int .i64 tb0.gap, .int .i64 tb0.add, .int .i64 tb0.top, .int .i64 tb0.half] 79) := ⟨_, rfl⟩
     have HC8 : Hid (∀ (i : Nat) (x : Int), tb0.l[i]? = some x → W8.cell? ⟨w7.heap.size, i, none⟩ = some (.int .i64 x)) := by rw [hW8]; exact i6_cells (heap_alloc_new _ _)
     have U8 : Hid (Up Nul w W8) := by show Up _ _ _; rw [hW8]; exact (U5.out.trans u7).alloc _
     first | rw [← hW8] | (have hW9 := hW8; simp only [tb0] at hW9; rw [← hW9]; clear hW9)
     clear hW8 u7 x6 x7 x8 x9 x10 x11 x12
     generalize w7.heap.size = q6 at HC8 ⊢
     go_wp2_with fail
     go_loopw [11] (fun i wr => ∃ t : Nat, i = .int .i64 (t : Nat) ∧ t ≤ 6 ∧ Hid (∀ x ∈ tb0.l.take t, 0 ≤ x ∧ x ≤ 1000000) ∧ wr = W8) (fun i _ => 6 - (intOf i).toNat)
     case atStart => exact ⟨0, rfl, by omega, hid fun x hx => by simp at hx, by trivial⟩
     case round =>
      obtain ⟨t3, rfl, ht3, HPT, rfl⟩ := hrel
      have i4 : (0 : Int) ≤ (t3 : Int) := by omega
      by_cases hd3 : t3 < 6
      ·have j3 : (t3 : Int) < 6 := by omega
       obtain ⟨x, hx⟩ : ∃ x, tb0.l[t3]? = some x := ⟨_, List.getElem?_eq_getElem (by simpa [Tb.l] using hd3)⟩
       have hcx := HC8.out t3 x hx
       have HX3 := hid hx
       have HL3 := hid hd3
       clear hx hd3 ht3
       go_wp2_with fail
       refine (in_any _ _ _ _).mono ?_
       rintro e w9 ⟨rfl, rfl⟩
       cases hb : spn 0 1000000 x with
       | false =>
        have HB5 := hid (spn_no hb)
        go_wp2_with fail
        go_ret
        refine ⟨by rw [HE.out, okR_no (fun F => by obtain ⟨i1, i2, i3, i4, i5, i6, i7, i8, i9, i10, i11, i12, i13, i14, i15⟩ := HI.out.1 F; have hm := List.mem_of_getElem? HX3.out; exact HB5.out (t0_bounds hm))]; rfl, U8.out⟩
       | true =>
       have HB5 := hid (spn_iff.1 hb)
       clear hb
       have HP5 : Hid (∀ y ∈ tb0.l.take (t3 + 1), 0 ≤ y ∧ y ≤ 1000000) := fun y hy => by
        rw [List.take_add_one, HX3.out, List.mem_append] at hy
        rcases hy with hy | hy
        ·exact HPT.out y hy
        ·have : y = x := by simpa using hy
         rw [this]; exact HB5.out
       go_wp2_with fail
       go_roundw
       case rel => exact ⟨t3 + 1, by go_num, HL3.out, HP5, by trivial⟩
       case measure => have := HL3.out; simp [intOf]; omega
      ·obtain rfl : t3 = 6 := by omega
       have HPT6 : Hid (∀ x ∈ tb0.l, 0 ≤ x ∧ x ≤ 1000000) := fun x hx => HPT.out x (by rw [List.take_of_length_le (by simp [Tb.l])]; exact hx)
       clear hd3 ht3
       go_wp2_with fail
       go_ret
       refine ⟨by rw [HE.out, okR_iff.2 (HI.out.2 ⟨HKB.out.1, HKB.out.2, HB.out.1, HB.out.2.1, HB.out.2.2, HNS.out, (fun x hx => by have h0 : r.sids = [] := List.eq_nil_of_length_eq_zero (by have := HNS.out; omega); rw [h0] at hx; cases hx), by have := HNL.out; omega, HPL3.out, by have := HT.out; omega, by have := HT.out; omega, by have := HT.out; omega, by have := HT.out; omega, by have := HT.out; omega, by have := HT.out; omega⟩)]; rfl, U8.out⟩
set_option maxHeartbeats 8000000 in
theorem rok5 (r : Rc) (sa la : Option Addr) (sc lc : Nat) (w : World) (hR : RH w r sa la) (hK : r.key.size ≤ 100000) (hk : r.kind = 5) :
  Calls Tryz.prog 12 #[rv r (.slice sa r.sids.length sc) (.slice la r.locs.length lc)] w fun e w' => e = .returned (.bool (okR r)) ∧ Up Nul w w' := by
 obtain ⟨R, HE0⟩ : ∃ R, R = okR r := ⟨_, rfl⟩
 rw [← HE0]
 have HE := hid HE0
 have HR := hid hR
 have HK1 := hid hk
 have HKS := hid hK
 have HI := hid (okF5 hk)
 clear hR hk hK HE0
 obtain ⟨W1, hW1⟩ : ∃ W, W = w.alloc (.cells (rcellsL r (.slice sa r.sids.length sc) (.slice la r.locs.length lc)) 28) := ⟨_, rfl⟩
 have U1 : Hid (Up Nul w W1) := by show Up _ _ _; rw [hW1]; exact (Up.refl Nul w).alloc _
 have B1 : Hid (RB W1 w.heap.size r (.slice sa r.sids.length sc) (.slice la r.locs.length lc)) := by show RB _ _ _ _ _; rw [hW1]; exact RB.new _ _ _ _
 go_enter Tryz.func12, Tryz.ntmps12
 go_upto_region 1 with fail
 rw [← hW1]
 clear hW1
 obtain ⟨p, hpe⟩ : ∃ p, p = w.heap.size := ⟨_, rfl⟩
 rw [← hpe] at B1 ⊢
 clear hpe
 have x0 := B1.out.cells.1
 have hk := HK1.out
 go_wp2_with fail
 refine (in_any _ _ _ _).mono ?_
 rintro e w2 ⟨rfl, rfl⟩
 rw [show spn 1 8 5 = true from by decide]
 go_wp2_with fail
 refine (names5 _).mono ?_
 rintro e w2 ⟨rfl, u2⟩
 go_upto_region 4 with fail
 obtain ⟨W4, hW4⟩ : ∃ W, W = w2.alloc (.cells #[.bool (nmB 5 0), .bool (nmB 5 1), .bool (nmB 5 2), .bool (nmB 5 3), .bool (nmB 5 4)] 74) := ⟨_, rfl⟩
 have u4 : Up Nul w2 W4 := by rw [hW4]; exact (Up.refl Nul w2).alloc _
 have hq : W4.heap[w2.heap.size]? = some (.cells #[.bool false, .bool false, .bool true, .bool false, .bool false] 74 (0, 0)) := by rw [hW4]; exact heap_alloc_new _ _
 have HQ : Hid (∀ W, Up Nul W4 W → W.heap[w2.heap.size]? = some (.cells #[.bool false, .bool false, .bool true, .bool false, .bool false] 74 (0, 0))) := fun W u => (u.block _ (Array.getElem?_eq_some_iff.1 hq).1 id).trans hq
 have B4 := hid (B1.out.nxt (u2.trans u4))
 have U4 := hid (U1.out.trans (u2.trans u4))
 rw [← hW4]
 clear hW4 hq u2 u4 B1 U1 x0
 generalize w2.heap.size = q at HQ ⊢
 obtain ⟨n0, n1, n2, n3, n4⟩ := b5_cells (HQ.out _ (Up.refl Nul W4))
 obtain ⟨x0, x1, x2, x3, x4, x5, x6, x7, x8, x9, x10, x11, x12⟩ := B4.out.cells
 go_wp2_with fail
 all_goals first | (go_ret; refine ⟨by rw [HE.out, okR_no (fun F => by obtain ⟨i1, i2, i3, i4, i5, i6, i7, i8, i9, i10, i11, i12, i13, i14, i15⟩ := HI.out.1 F; first | omega | (have hz : r.key.size = 0 := (by omega); exact absurd (key_nil.2 hz) (by assumption)))]; rfl, U4.out⟩) | skip
 have hks : r.key.size = 0 := key_nil.1 (by assumption)
 have HKB : Hid ((0 ≤ ((r.key.size : Nat) : Int) ∧ ((r.key.size : Nat) : Int) ≤ 0) ∧ ∀ c ∈ nums r.key, 33 ≤ c ∧ c ≤ 126) := ⟨⟨by omega, by omega⟩, key_none hks⟩
 refine (in_any _ _ _ _).mono ?_
 rintro e w' ⟨rfl, rfl⟩
 cases hb : spn 1 2147483647 r.sid with
 | false =>
  have HB := hid (spn_no hb)
  go_wp2_with fail
  go_ret
  refine ⟨by rw [HE.out, okR_no (fun F => by obtain ⟨i1, i2, i3, i4, i5, i6, i7, i8, i9, i10, i11, i12, i13, i14, i15⟩ := HI.out.1 F; have := HB.out; omega)]; rfl, U4.out⟩
 | true =>
 have hc0 := spn_iff.1 hb
 clear hb
 go_wp2_with fail
 refine (in_any _ _ _ _).mono ?_
 rintro e w' ⟨rfl, rfl⟩
 rw [show spn 0 2 0 = true from by decide]
 go_wp2_with fail
 have HB : Hid ((0 ≤ r.n ∧ r.n ≤ 0) ∧ (1 ≤ r.sid ∧ r.sid ≤ 2147483647) ∧ (0 ≤ r.colour ∧ r.colour ≤ 0)) := ⟨⟨by omega, by omega⟩, ⟨by omega, by omega⟩, ⟨by omega, by omega⟩⟩
 have HT : Hid (r.t.hot = 0 ∧ r.t.warm = 0 ∧ r.t.gap = 0 ∧ r.t.add = 0 ∧ r.t.top = 0 ∧ r.t.half = 0) := ⟨by omega, by omega, by omega, by omega, by omega, by omega⟩
 clear hc0
 refine (sids5 _).mono ?_
 rintro e w' ⟨rfl, rfl⟩
 rw [show sdN 5 = 3 from rfl, show lcN 5 = 4 from rfl]
 cases hb : (((r.sids.length : Nat) : Int) != 3) with
 | true =>
  have HNS : Hid (¬ ((r.sids.length : Nat) : Int) = 3) := by simpa [Hid] using hb
  go_wp2_with fail
  go_ret
  refine ⟨by rw [HE.out, okR_no (fun F => by obtain ⟨i1, i2, i3, i4, i5, i6, i7, i8, i9, i10, i11, i12, i13, i14, i15⟩ := HI.out.1 F; exact HNS.out i6)]; rfl, U4.out⟩
 | false =>
 have HNS : Hid (((r.sids.length : Nat) : Int) = 3) := by simpa [Hid] using hb
 go_wp2_with fail
 clear hb
 obtain ⟨ns, hns⟩ : ∃ ns, r.sids.length = ns := ⟨_, rfl⟩
 have HNN := hid hns
 rw [hns] at x4
 have hn3 : (ns : Int) ≤ 3 := by have := HNS.out; rw [hns] at this; omega
 clear hns
 go_loopw [5, 7] (fun l i wr => ∃ t : Nat, i = .int .i64 (t : Nat) ∧ t ≤ ns ∧ l = .int .i64 4 ∧ (∀ x ∈ r.sids.take t, 1 ≤ x ∧ x ≤ 2147483647) ∧ wr = w') (fun _ i _ => ns - (intOf i).toNat)
 case atStart => exact ⟨0, rfl, Nat.zero_le _, rfl, fun x hx => by simp at hx, by trivial⟩
 case round =>
  obtain ⟨t, rfl, ht, rfl, hp, rfl⟩ := hrel
  have HP := hid hp
  clear hp
  have i0 : (0 : Int) ≤ (t : Int) := by omega
  by_cases hd : t < ns
  ·have j1 : (t : Int) < (ns : Int) := by omega
   obtain ⟨x, hx⟩ : ∃ x, r.sids[t]? = some x := ⟨_, List.getElem?_eq_getElem (by rw [HNN.out]; exact hd)⟩
   rcases HR.out.s.nxt U4.out with e0 | ⟨g, o, rfl, hg, hrow⟩
   ·rw [e0] at hx; simp at hx
   have hcx := hrow t x hx
   have HX := hid hx
   have HL := hid hd
   clear hx hrow hg hd ht
   go_wp2_with fail
   refine (in_any _ _ _ _).mono ?_
   rintro e w'' ⟨rfl, rfl⟩
   cases hb : spn 1 2147483647 x with
   | false =>
    have HB2 := hid (spn_no hb)
    go_wp2_with fail
    go_ret
    refine ⟨by rw [HE.out, okR_no (fun F => by obtain ⟨i1, i2, i3, i4, i5, i6, i7, i8, i9, i10, i11, i12, i13, i14, i15⟩ := HI.out.1 F; have := i7 x (List.mem_of_getElem? HX.out); have := HB2.out; omega)]; rfl, U4.out⟩
   | true =>
    have HB2 := hid (spn_iff.1 hb)
    clear hb
    have HP2 : Hid (∀ y ∈ r.sids.take (t + 1), 1 ≤ y ∧ y ≤ 2147483647) := fun y hy => by
     rw [List.take_add_one, HX.out, List.mem_append] at hy
     rcases hy with hy | hy
     ·exact HP.out y hy
     ·have : y = x := by simpa using hy
      rw [this]; exact HB2.out
    go_wp2_with fail
    go_roundw
    case rel => exact ⟨t + 1, by go_num, HL.out, rfl, HP2.out, by trivial⟩
    case measure => have := HL.out; simp [intOf]; omega
  ·obtain rfl : t = ns := by omega
   have HP3 : Hid (∀ y ∈ r.sids, 1 ≤ y ∧ y ≤ 2147483647) := fun y hy => HP.out y (by rw [List.take_of_length_le (by rw [HNN.out]; omega)]; exact hy)
   skip
   have j1 : ¬ (t : Int) < (t : Int) := by omega
   clear hd
   cases hb : (((r.locs.length : Nat) : Int) != 4) with
   | true =>
    have HNL : Hid (¬ ((r.locs.length : Nat) : Int) = 4) := by simpa [Hid] using hb
    go_wp2_with fail
    go_ret
    refine ⟨by rw [HE.out, okR_no (fun F => by obtain ⟨i1, i2, i3, i4, i5, i6, i7, i8, i9, i10, i11, i12, i13, i14, i15⟩ := HI.out.1 F; exact HNL.out (by rw [i8]; omega))]; rfl, U4.out⟩
   | false =>
   have HNL : Hid (((r.locs.length : Nat) : Int) = 4) := by simpa [Hid] using hb
   go_wp2_with fail
   clear hb
   obtain ⟨nl, hnl⟩ : ∃ nl, r.locs.length = nl := ⟨_, rfl⟩
   have HNM := hid hnl
   have hl12 : (nl : Int) ≤ 12 := by have := HNL.out; rw [hnl] at this; omega
   clear hnl x0 x1 x2 x3 x4 x5 x6 x7 x8 x9 x10 x11 x12 n0 n1 n2 n3 n4
   go_loopw [8] (fun i wr => ∃ t : Nat, i = .int .i64 (t : Nat) ∧ t ≤ nl ∧ Hid (∀ l ∈ r.locs.take t, (0 ≤ l.d ∧ l.d ≤ 23) ∧ (0 ≤ l.s ∧ l.s ≤ 63) ∧ 1 ≤ l.i ∧ l.i ≤ 2147483647) ∧ RB wr p r (.slice sa r.sids.length sc) (.slice la r.locs.length lc) ∧ Up Nul w wr) (fun i _ => nl - (intOf i).toNat)
   case atStart => exact ⟨0, rfl, Nat.zero_le _, hid fun x hx => by simp at hx, B4.out, U4.out⟩
   case round =>
    obtain ⟨t2, rfl, ht2, HPL, hb2, hu2⟩ := hrel
    have B5 := hid hb2
    have U5 := hid hu2
    clear hb2 hu2
    have x6 := B5.out.cells.2.2.2.2.2.2.1
    rw [HNM.out] at x6
    have i2 : (0 : Int) ≤ (t2 : Int) := by omega
    have i3 : (t2 : Int) ≤ 12 := by omega
    by_cases hd2 : t2 < nl
    ·have j2 : (t2 : Int) < (nl : Int) := by omega
     obtain ⟨l, hl⟩ : ∃ l, r.locs[t2]? = some l := ⟨_, List.getElem?_eq_getElem (by rw [HNM.out]; exact hd2)⟩
     rcases HR.out.l.nxt U5.out with e0 | ⟨g, o, rfl, hg, hrow⟩
     ·rw [e0] at hl; simp at hl
     have y0 := hrow t2 l hl 0 (.int .i64 l.d) rfl
     have y1 := hrow t2 l hl 1 (.int .i64 l.s) rfl
     have y2 := hrow t2 l hl 2 (.int .i64 l.i) rfl
     simp only [Nat.add_zero] at y0
     have HX2 := hid hl
     have HL2 := hid hd2
     clear hl hrow hd2 ht2
     go_wp2_with fail
     refine (in_any _ _ _ _).mono ?_
     rintro e w6 ⟨rfl, rfl⟩
     cases hb : spn 0 23 l.d with
     | false =>
      have HB2 := hid (spn_no hb)
      go_wp2_with fail
      go_ret
      refine ⟨by rw [HE.out, okR_no (fun F => by obtain ⟨i1, i2, i3, i4, i5, i6, i7, i8, i9, i10, i11, i12, i13, i14, i15⟩ := HI.out.1 F; exact HB2.out (i9 l (List.mem_of_getElem? HX2.out)).1)]; rfl, U5.out.alloc _⟩
     | true =>
     have HB2 := hid (spn_iff.1 hb)
     clear hb
     go_wp2_with fail
     refine (in_any _ _ _ _).mono ?_
     rintro e w6 ⟨rfl, rfl⟩
     cases hb : spn 0 63 l.s with
     | false =>
      have HB3 := hid (spn_no hb)
      go_wp2_with fail
      go_ret
      refine ⟨by rw [HE.out, okR_no (fun F => by obtain ⟨i1, i2, i3, i4, i5, i6, i7, i8, i9, i10, i11, i12, i13, i14, i15⟩ := HI.out.1 F; exact HB3.out (i9 l (List.mem_of_getElem? HX2.out)).2.1)]; rfl, U5.out.alloc _⟩
     | true =>
     have HB3 := hid (spn_iff.1 hb)
     clear hb
     go_wp2_with fail
     refine (in_any _ _ _ _).mono ?_
     rintro e w6 ⟨rfl, rfl⟩
     cases hb : spn 1 2147483647 l.i with
     | false =>
      have HB4 := hid (spn_no hb)
      go_wp2_with fail
      go_ret
      refine ⟨by rw [HE.out, okR_no (fun F => by obtain ⟨i1, i2, i3, i4, i5, i6, i7, i8, i9, i10, i11, i12, i13, i14, i15⟩ := HI.out.1 F; exact HB4.out (i9 l (List.mem_of_getElem? HX2.out)).2.2)]; rfl, U5.out.alloc _⟩
     | true =>
     have HB4 := hid (spn_iff.1 hb)
     clear hb
     have HP2 : Hid (∀ y ∈ r.locs.take (t2 + 1), (0 ≤ y.d ∧ y.d ≤ 23) ∧ (0 ≤ y.s ∧ y.s ≤ 63) ∧ 1 ≤ y.i ∧ y.i ≤ 2147483647) := fun y hy => by
      rw [List.take_add_one, HX2.out, List.mem_append] at hy
      rcases hy with hy | hy
      ·exact HPL.out y hy
      ·have : y = l := by simpa using hy
       rw [this]; exact ⟨HB2.out, HB3.out, HB4.out⟩
     go_wp2_with fail
     go_roundw
     case rel => exact ⟨t2 + 1, by go_num, HL2.out, HP2, B5.out.nxt ((Up.refl Nul _).alloc _), U5.out.alloc _⟩
     case measure => have := HL2.out; simp [intOf]; omega
    ·obtain rfl : t2 = nl := by omega
     have HPL3 : Hid (∀ y ∈ r.locs, (0 ≤ y.d ∧ y.d ≤ 23) ∧ (0 ≤ y.s ∧ y.s ≤ 63) ∧ 1 ≤ y.i ∧ y.i ≤ 2147483647) := fun y hy => HPL.out y (by rw [List.take_of_length_le (by rw [HNM.out]; omega)]; exact hy)
     have j2 : ¬ (t2 : Int) < (t2 : Int) := by omega
     clear hd2 ht2
     obtain ⟨_, _, _, _, _, _, _, x7, x8, x9, x10, x11, x12⟩ := B5.out.cells
     go_wp2_with fail
     refine (tables_any tb0 _).mono ?_
     rintro e w7 ⟨rfl, u7⟩
     go_upto_region 30 with fail
     obtain ⟨W8, hW8⟩ : ∃ W, W = w7.alloc (.cells #[.int .i64 tb0.hot, .int .i64 tb0.warm, .int .i64 tb0.gap, .int .i64 tb0.add, .int .i64 tb0.top, .int .i64 tb0.half] 79) := ⟨_, rfl⟩
     have HC8 : Hid (∀ (i : Nat) (x : Int), tb0.l[i]? = some x → W8.cell? ⟨w7.heap.size, i, none⟩ = some (.int .i64 x)) := by rw [hW8]; exact i6_cells (heap_alloc_new _ _)
     have U8 : Hid (Up Nul w W8) := by show Up _ _ _; rw [hW8]; exact (U5.out.trans u7).alloc _
     first | rw [← hW8] | (have hW9 := hW8; simp only [tb0] at hW9; rw [← hW9]; clear hW9)
     clear hW8 u7 x6 x7 x8 x9 x10 x11 x12
     generalize w7.heap.size = q6 at HC8 ⊢
     go_wp2_with fail
     go_loopw [11] (fun i wr => ∃ t : Nat, i = .int .i64 (t : Nat) ∧ t ≤ 6 ∧ Hid (∀ x ∈ tb0.l.take t, 0 ≤ x ∧ x ≤ 1000000) ∧ wr = W8) (fun i _ => 6 - (intOf i).toNat)
     case atStart => exact ⟨0, rfl, by omega, hid fun x hx => by simp at hx, by trivial⟩
     case round =>
      obtain ⟨t3, rfl, ht3, HPT, rfl⟩ := hrel
      have i4 : (0 : Int) ≤ (t3 : Int) := by omega
      by_cases hd3 : t3 < 6
      ·have j3 : (t3 : Int) < 6 := by omega
       obtain ⟨x, hx⟩ : ∃ x, tb0.l[t3]? = some x := ⟨_, List.getElem?_eq_getElem (by simpa [Tb.l] using hd3)⟩
       have hcx := HC8.out t3 x hx
       have HX3 := hid hx
       have HL3 := hid hd3
       clear hx hd3 ht3
       go_wp2_with fail
       refine (in_any _ _ _ _).mono ?_
       rintro e w9 ⟨rfl, rfl⟩
       cases hb : spn 0 1000000 x with
       | false =>
        have HB5 := hid (spn_no hb)
        go_wp2_with fail
        go_ret
        refine ⟨by rw [HE.out, okR_no (fun F => by obtain ⟨i1, i2, i3, i4, i5, i6, i7, i8, i9, i10, i11, i12, i13, i14, i15⟩ := HI.out.1 F; have hm := List.mem_of_getElem? HX3.out; exact HB5.out (t0_bounds hm))]; rfl, U8.out⟩
       | true =>
       have HB5 := hid (spn_iff.1 hb)
       clear hb
       have HP5 : Hid (∀ y ∈ tb0.l.take (t3 + 1), 0 ≤ y ∧ y ≤ 1000000) := fun y hy => by
        rw [List.take_add_one, HX3.out, List.mem_append] at hy
        rcases hy with hy | hy
        ·exact HPT.out y hy
        ·have : y = x := by simpa using hy
         rw [this]; exact HB5.out
       go_wp2_with fail
       go_roundw
       case rel => exact ⟨t3 + 1, by go_num, HL3.out, HP5, by trivial⟩
       case measure => have := HL3.out; simp [intOf]; omega
      ·obtain rfl : t3 = 6 := by omega
       have HPT6 : Hid (∀ x ∈ tb0.l, 0 ≤ x ∧ x ≤ 1000000) := fun x hx => HPT.out x (by rw [List.take_of_length_le (by simp [Tb.l])]; exact hx)
       clear hd3 ht3
       go_wp2_with fail
       go_ret
       refine ⟨by rw [HE.out, okR_iff.2 (HI.out.2 ⟨HKB.out.1, HKB.out.2, HB.out.1, HB.out.2.1, HB.out.2.2, HNS.out, HP3.out, by have := HNL.out; omega, HPL3.out, by have := HT.out; omega, by have := HT.out; omega, by have := HT.out; omega, by have := HT.out; omega, by have := HT.out; omega, by have := HT.out; omega⟩)]; rfl, U8.out⟩
set_option maxHeartbeats 8000000 in
theorem rok6 (r : Rc) (sa la : Option Addr) (sc lc : Nat) (w : World) (hR : RH w r sa la) (hK : r.key.size ≤ 100000) (hk : r.kind = 6) :
  Calls Tryz.prog 12 #[rv r (.slice sa r.sids.length sc) (.slice la r.locs.length lc)] w fun e w' => e = .returned (.bool (okR r)) ∧ Up Nul w w' := by
 obtain ⟨R, HE0⟩ : ∃ R, R = okR r := ⟨_, rfl⟩
 rw [← HE0]
 have HE := hid HE0
 have HR := hid hR
 have HK1 := hid hk
 have HKS := hid hK
 have HI := hid (okF6 hk)
 clear hR hk hK HE0
 obtain ⟨W1, hW1⟩ : ∃ W, W = w.alloc (.cells (rcellsL r (.slice sa r.sids.length sc) (.slice la r.locs.length lc)) 28) := ⟨_, rfl⟩
 have U1 : Hid (Up Nul w W1) := by show Up _ _ _; rw [hW1]; exact (Up.refl Nul w).alloc _
 have B1 : Hid (RB W1 w.heap.size r (.slice sa r.sids.length sc) (.slice la r.locs.length lc)) := by show RB _ _ _ _ _; rw [hW1]; exact RB.new _ _ _ _
 go_enter Tryz.func12, Tryz.ntmps12
 go_upto_region 1 with fail
 rw [← hW1]
 clear hW1
 obtain ⟨p, hpe⟩ : ∃ p, p = w.heap.size := ⟨_, rfl⟩
 rw [← hpe] at B1 ⊢
 clear hpe
 have x0 := B1.out.cells.1
 have hk := HK1.out
 go_wp2_with fail
 refine (in_any _ _ _ _).mono ?_
 rintro e w2 ⟨rfl, rfl⟩
 rw [show spn 1 8 6 = true from by decide]
 go_wp2_with fail
 refine (names6 _).mono ?_
 rintro e w2 ⟨rfl, u2⟩
 go_upto_region 4 with fail
 obtain ⟨W4, hW4⟩ : ∃ W, W = w2.alloc (.cells #[.bool (nmB 6 0), .bool (nmB 6 1), .bool (nmB 6 2), .bool (nmB 6 3), .bool (nmB 6 4)] 74) := ⟨_, rfl⟩
 have u4 : Up Nul w2 W4 := by rw [hW4]; exact (Up.refl Nul w2).alloc _
 have hq : W4.heap[w2.heap.size]? = some (.cells #[.bool false, .bool false, .bool true, .bool false, .bool false] 74 (0, 0)) := by rw [hW4]; exact heap_alloc_new _ _
 have HQ : Hid (∀ W, Up Nul W4 W → W.heap[w2.heap.size]? = some (.cells #[.bool false, .bool false, .bool true, .bool false, .bool false] 74 (0, 0))) := fun W u => (u.block _ (Array.getElem?_eq_some_iff.1 hq).1 id).trans hq
 have B4 := hid (B1.out.nxt (u2.trans u4))
 have U4 := hid (U1.out.trans (u2.trans u4))
 rw [← hW4]
 clear hW4 hq u2 u4 B1 U1 x0
 generalize w2.heap.size = q at HQ ⊢
 obtain ⟨n0, n1, n2, n3, n4⟩ := b5_cells (HQ.out _ (Up.refl Nul W4))
 obtain ⟨x0, x1, x2, x3, x4, x5, x6, x7, x8, x9, x10, x11, x12⟩ := B4.out.cells
 go_wp2_with fail
 all_goals first | (go_ret; refine ⟨by rw [HE.out, okR_no (fun F => by obtain ⟨i1, i2, i3, i4, i5, i6, i7, i8, i9, i10, i11, i12, i13, i14, i15⟩ := HI.out.1 F; first | omega | (have hz : r.key.size = 0 := (by omega); exact absurd (key_nil.2 hz) (by assumption)))]; rfl, U4.out⟩) | skip
 have hks : r.key.size = 0 := key_nil.1 (by assumption)
 have HKB : Hid ((0 ≤ ((r.key.size : Nat) : Int) ∧ ((r.key.size : Nat) : Int) ≤ 0) ∧ ∀ c ∈ nums r.key, 33 ≤ c ∧ c ≤ 126) := ⟨⟨by omega, by omega⟩, key_none hks⟩
 refine (in_any _ _ _ _).mono ?_
 rintro e w' ⟨rfl, rfl⟩
 cases hb : spn 1 2147483647 r.sid with
 | false =>
  have HB := hid (spn_no hb)
  go_wp2_with fail
  go_ret
  refine ⟨by rw [HE.out, okR_no (fun F => by obtain ⟨i1, i2, i3, i4, i5, i6, i7, i8, i9, i10, i11, i12, i13, i14, i15⟩ := HI.out.1 F; have := HB.out; omega)]; rfl, U4.out⟩
 | true =>
 have hc0 := spn_iff.1 hb
 clear hb
 go_wp2_with fail
 refine (in_any _ _ _ _).mono ?_
 rintro e w' ⟨rfl, rfl⟩
 rw [show spn 0 2 0 = true from by decide]
 go_wp2_with fail
 have HB : Hid ((0 ≤ r.n ∧ r.n ≤ 0) ∧ (1 ≤ r.sid ∧ r.sid ≤ 2147483647) ∧ (0 ≤ r.colour ∧ r.colour ≤ 0)) := ⟨⟨by omega, by omega⟩, ⟨by omega, by omega⟩, ⟨by omega, by omega⟩⟩
 have HT : Hid (r.t.hot = 0 ∧ r.t.warm = 0 ∧ r.t.gap = 0 ∧ r.t.add = 0 ∧ r.t.top = 0 ∧ r.t.half = 0) := ⟨by omega, by omega, by omega, by omega, by omega, by omega⟩
 clear hc0
 refine (sids6 _).mono ?_
 rintro e w' ⟨rfl, rfl⟩
 rw [show sdN 6 = 3 from rfl, show lcN 6 = -1 from rfl]
 cases hb : (((r.sids.length : Nat) : Int) != 3) with
 | true =>
  have HNS : Hid (¬ ((r.sids.length : Nat) : Int) = 3) := by simpa [Hid] using hb
  go_wp2_with fail
  go_ret
  refine ⟨by rw [HE.out, okR_no (fun F => by obtain ⟨i1, i2, i3, i4, i5, i6, i7, i8, i9, i10, i11, i12, i13, i14, i15⟩ := HI.out.1 F; exact HNS.out i6)]; rfl, U4.out⟩
 | false =>
 have HNS : Hid (((r.sids.length : Nat) : Int) = 3) := by simpa [Hid] using hb
 go_wp2_with fail
 clear hb
 obtain ⟨ns, hns⟩ : ∃ ns, r.sids.length = ns := ⟨_, rfl⟩
 have HNN := hid hns
 rw [hns] at x4
 have hn3 : (ns : Int) ≤ 3 := by have := HNS.out; rw [hns] at this; omega
 clear hns
 go_loopw [5, 7] (fun l i wr => ∃ t : Nat, i = .int .i64 (t : Nat) ∧ t ≤ ns ∧ l = .int .i64 ((2 * nz (r.sids.take t) : Nat) : Int) ∧ (∀ x ∈ r.sids.take t, 0 ≤ x ∧ x ≤ 2147483647) ∧ wr = w') (fun _ i _ => ns - (intOf i).toNat)
 case atStart => exact ⟨0, rfl, Nat.zero_le _, rfl, fun x hx => by simp at hx, by trivial⟩
 case round =>
  obtain ⟨t, rfl, ht, rfl, hp, rfl⟩ := hrel
  have HP := hid hp
  clear hp
  have i0 : (0 : Int) ≤ (t : Int) := by omega
  by_cases hd : t < ns
  ·have j1 : (t : Int) < (ns : Int) := by omega
   obtain ⟨x, hx⟩ : ∃ x, r.sids[t]? = some x := ⟨_, List.getElem?_eq_getElem (by rw [HNN.out]; exact hd)⟩
   rcases HR.out.s.nxt U4.out with e0 | ⟨g, o, rfl, hg, hrow⟩
   ·rw [e0] at hx; simp at hx
   have hcx := hrow t x hx
   have HX := hid hx
   have HL := hid hd
   clear hx hrow hg hd ht
   go_wp2_with fail
   refine (in_any _ _ _ _).mono ?_
   rintro e w'' ⟨rfl, rfl⟩
   cases hb : spn 0 2147483647 x with
   | false =>
    have HB2 := hid (spn_no hb)
    go_wp2_with fail
    go_ret
    refine ⟨by rw [HE.out, okR_no (fun F => by obtain ⟨i1, i2, i3, i4, i5, i6, i7, i8, i9, i10, i11, i12, i13, i14, i15⟩ := HI.out.1 F; have := i7 x (List.mem_of_getElem? HX.out); have := HB2.out; omega)]; rfl, U4.out⟩
   | true =>
    have HB2 := hid (spn_iff.1 hb)
    clear hb
    have HP2 : Hid (∀ y ∈ r.sids.take (t + 1), 0 ≤ y ∧ y ≤ 2147483647) := fun y hy => by
     rw [List.take_add_one, HX.out, List.mem_append] at hy
     rcases hy with hy | hy
     ·exact HP.out y hy
     ·have : y = x := by simpa using hy
      rw [this]; exact HB2.out
    have hnz := nz_next (zs := r.sids) (t := t) (by rw [HNN.out]; exact HL.out)
    have hget : r.sids[t]'(by rw [HNN.out]; exact HL.out) = x := by have := HX.out; rw [List.getElem?_eq_getElem (by rw [HNN.out]; exact HL.out)] at this; simpa using this
    rw [hget] at hnz
    have HNZ := hid hnz
    clear hnz hget
    have hnb : nz (r.sids.take t) ≤ 3 := Nat.le_trans (nz_le _) (by rw [List.length_take]; have := HL.out; omega)
    have i9 : (0 : Int) ≤ ((2 * nz (r.sids.take t) : Nat) : Int) := by omega
    obtain ⟨L, hL⟩ : ∃ L, L = 2 * nz (r.sids.take t) := ⟨_, rfl⟩
    have hL6 : (L : Int) ≤ 6 := by omega
    rw [← hL] at i9 ⊢
    have HLL := hid hL
    clear hL hnb
    by_cases hx0 : x = 0
    ·have HLN : Hid (((L : Nat) : Int) = ((2 * nz (r.sids.take (t + 1)) : Nat) : Int)) := by show _ = _; rw [HNZ.out, if_neg (by simp [hx0]), HLL.out]; simp
     go_wp2_with fail
     go_roundw
     case rel => exact ⟨t + 1, by go_num, HL.out, by rw [HLN.out], HP2.out, by trivial⟩
     case measure => have := HL.out; simp [intOf]; omega
    ·have HLN : Hid (((L : Nat) : Int) + 2 = ((2 * nz (r.sids.take (t + 1)) : Nat) : Int)) := by show _ = _; rw [HNZ.out, if_pos hx0, HLL.out]; omega
     go_wp2_with fail
     go_roundw
     case rel => exact ⟨t + 1, by go_num, HL.out, by rw [← HLN.out], HP2.out, by trivial⟩
     case measure => have := HL.out; simp [intOf]; omega
  ·obtain rfl : t = ns := by omega
   have HP3 : Hid (∀ y ∈ r.sids, 0 ≤ y ∧ y ≤ 2147483647) := fun y hy => HP.out y (by rw [List.take_of_length_le (by rw [HNN.out]; omega)]; exact hy)
   obtain ⟨L, hL⟩ : ∃ L, L = 2 * nz (r.sids.take t) := ⟨_, rfl⟩
   rw [← hL]
   have HLV : Hid (L = 2 * nz r.sids) := by show _ = _; rw [hL, List.take_of_length_le (by rw [HNN.out]; omega)]
   clear hL
   have j1 : ¬ (t : Int) < (t : Int) := by omega
   clear hd
   cases hb : (((r.locs.length : Nat) : Int) != ((L : Nat) : Int)) with
   | true =>
    have HNL : Hid (¬ ((r.locs.length : Nat) : Int) = ((L : Nat) : Int)) := by simpa [Hid] using hb
    go_wp2_with fail
    go_ret
    refine ⟨by rw [HE.out, okR_no (fun F => by obtain ⟨i1, i2, i3, i4, i5, i6, i7, i8, i9, i10, i11, i12, i13, i14, i15⟩ := HI.out.1 F; exact HNL.out (by rw [i8]; have := HLV.out; omega))]; rfl, U4.out⟩
   | false =>
   have HNL : Hid (((r.locs.length : Nat) : Int) = ((L : Nat) : Int)) := by simpa [Hid] using hb
   go_wp2_with fail
   clear hb
   obtain ⟨nl, hnl⟩ : ∃ nl, r.locs.length = nl := ⟨_, rfl⟩
   have HNM := hid hnl
   have hl12 : (nl : Int) ≤ 12 := by have := HNL.out; rw [hnl] at this; have := HLV.out; have := nz_le r.sids; have := HNS.out; omega
   clear hnl x0 x1 x2 x3 x4 x5 x6 x7 x8 x9 x10 x11 x12 n0 n1 n2 n3 n4
   go_loopw [8] (fun i wr => ∃ t : Nat, i = .int .i64 (t : Nat) ∧ t ≤ nl ∧ Hid (∀ l ∈ r.locs.take t, (0 ≤ l.d ∧ l.d ≤ 23) ∧ (0 ≤ l.s ∧ l.s ≤ 63) ∧ 1 ≤ l.i ∧ l.i ≤ 2147483647) ∧ RB wr p r (.slice sa r.sids.length sc) (.slice la r.locs.length lc) ∧ Up Nul w wr) (fun i _ => nl - (intOf i).toNat)
   case atStart => exact ⟨0, rfl, Nat.zero_le _, hid fun x hx => by simp at hx, B4.out, U4.out⟩
   case round =>
    obtain ⟨t2, rfl, ht2, HPL, hb2, hu2⟩ := hrel
    have B5 := hid hb2
    have U5 := hid hu2
    clear hb2 hu2
    have x6 := B5.out.cells.2.2.2.2.2.2.1
    rw [HNM.out] at x6
    have i2 : (0 : Int) ≤ (t2 : Int) := by omega
    have i3 : (t2 : Int) ≤ 12 := by omega
    by_cases hd2 : t2 < nl
    ·have j2 : (t2 : Int) < (nl : Int) := by omega
     obtain ⟨l, hl⟩ : ∃ l, r.locs[t2]? = some l := ⟨_, List.getElem?_eq_getElem (by rw [HNM.out]; exact hd2)⟩
     rcases HR.out.l.nxt U5.out with e0 | ⟨g, o, rfl, hg, hrow⟩
     ·rw [e0] at hl; simp at hl
     have y0 := hrow t2 l hl 0 (.int .i64 l.d) rfl
     have y1 := hrow t2 l hl 1 (.int .i64 l.s) rfl
     have y2 := hrow t2 l hl 2 (.int .i64 l.i) rfl
     simp only [Nat.add_zero] at y0
     have HX2 := hid hl
     have HL2 := hid hd2
     clear hl hrow hd2 ht2
     go_wp2_with fail
     refine (in_any _ _ _ _).mono ?_
     rintro e w6 ⟨rfl, rfl⟩
     cases hb : spn 0 23 l.d with
     | false =>
      have HB2 := hid (spn_no hb)
      go_wp2_with fail
      go_ret
      refine ⟨by rw [HE.out, okR_no (fun F => by obtain ⟨i1, i2, i3, i4, i5, i6, i7, i8, i9, i10, i11, i12, i13, i14, i15⟩ := HI.out.1 F; exact HB2.out (i9 l (List.mem_of_getElem? HX2.out)).1)]; rfl, U5.out.alloc _⟩
     | true =>
     have HB2 := hid (spn_iff.1 hb)
     clear hb
     go_wp2_with fail
     refine (in_any _ _ _ _).mono ?_
     rintro e w6 ⟨rfl, rfl⟩
     cases hb : spn 0 63 l.s with
     | false =>
      have HB3 := hid (spn_no hb)
      go_wp2_with fail
      go_ret
      refine ⟨by rw [HE.out, okR_no (fun F => by obtain ⟨i1, i2, i3, i4, i5, i6, i7, i8, i9, i10, i11, i12, i13, i14, i15⟩ := HI.out.1 F; exact HB3.out (i9 l (List.mem_of_getElem? HX2.out)).2.1)]; rfl, U5.out.alloc _⟩
     | true =>
     have HB3 := hid (spn_iff.1 hb)
     clear hb
     go_wp2_with fail
     refine (in_any _ _ _ _).mono ?_
     rintro e w6 ⟨rfl, rfl⟩
     cases hb : spn 1 2147483647 l.i with
     | false =>
      have HB4 := hid (spn_no hb)
      go_wp2_with fail
      go_ret
      refine ⟨by rw [HE.out, okR_no (fun F => by obtain ⟨i1, i2, i3, i4, i5, i6, i7, i8, i9, i10, i11, i12, i13, i14, i15⟩ := HI.out.1 F; exact HB4.out (i9 l (List.mem_of_getElem? HX2.out)).2.2)]; rfl, U5.out.alloc _⟩
     | true =>
     have HB4 := hid (spn_iff.1 hb)
     clear hb
     have HP2 : Hid (∀ y ∈ r.locs.take (t2 + 1), (0 ≤ y.d ∧ y.d ≤ 23) ∧ (0 ≤ y.s ∧ y.s ≤ 63) ∧ 1 ≤ y.i ∧ y.i ≤ 2147483647) := fun y hy => by
      rw [List.take_add_one, HX2.out, List.mem_append] at hy
      rcases hy with hy | hy
      ·exact HPL.out y hy
      ·have : y = l := by simpa using hy
       rw [this]; exact ⟨HB2.out, HB3.out, HB4.out⟩
     go_wp2_with fail
     go_roundw
     case rel => exact ⟨t2 + 1, by go_num, HL2.out, HP2, B5.out.nxt ((Up.refl Nul _).alloc _), U5.out.alloc _⟩
     case measure => have := HL2.out; simp [intOf]; omega
    ·obtain rfl : t2 = nl := by omega
     have HPL3 : Hid (∀ y ∈ r.locs, (0 ≤ y.d ∧ y.d ≤ 23) ∧ (0 ≤ y.s ∧ y.s ≤ 63) ∧ 1 ≤ y.i ∧ y.i ≤ 2147483647) := fun y hy => HPL.out y (by rw [List.take_of_length_le (by rw [HNM.out]; omega)]; exact hy)
     have j2 : ¬ (t2 : Int) < (t2 : Int) := by omega
     clear hd2 ht2
     obtain ⟨_, _, _, _, _, _, _, x7, x8, x9, x10, x11, x12⟩ := B5.out.cells
     go_wp2_with fail
     refine (tables_any tb0 _).mono ?_
     rintro e w7 ⟨rfl, u7⟩
     go_upto_region 30 with fail
     obtain ⟨W8, hW8⟩ : ∃ W, W = w7.alloc (.cells #[.int .i64 tb0.hot, .int .i64 tb0.warm, .int .i64 tb0.gap, .int .i64 tb0.add, .int .i64 tb0.top, .int .i64 tb0.half] 79) := ⟨_, rfl⟩
     have HC8 : Hid (∀ (i : Nat) (x : Int), tb0.l[i]? = some x → W8.cell? ⟨w7.heap.size, i, none⟩ = some (.int .i64 x)) := by rw [hW8]; exact i6_cells (heap_alloc_new _ _)
     have U8 : Hid (Up Nul w W8) := by show Up _ _ _; rw [hW8]; exact (U5.out.trans u7).alloc _
     first | rw [← hW8] | (have hW9 := hW8; simp only [tb0] at hW9; rw [← hW9]; clear hW9)
     clear hW8 u7 x6 x7 x8 x9 x10 x11 x12
     generalize w7.heap.size = q6 at HC8 ⊢
     go_wp2_with fail
     go_loopw [11] (fun i wr => ∃ t : Nat, i = .int .i64 (t : Nat) ∧ t ≤ 6 ∧ Hid (∀ x ∈ tb0.l.take t, 0 ≤ x ∧ x ≤ 1000000) ∧ wr = W8) (fun i _ => 6 - (intOf i).toNat)
     case atStart => exact ⟨0, rfl, by omega, hid fun x hx => by simp at hx, by trivial⟩
     case round =>
      obtain ⟨t3, rfl, ht3, HPT, rfl⟩ := hrel
      have i4 : (0 : Int) ≤ (t3 : Int) := by omega
      by_cases hd3 : t3 < 6
      ·have j3 : (t3 : Int) < 6 := by omega
       obtain ⟨x, hx⟩ : ∃ x, tb0.l[t3]? = some x := ⟨_, List.getElem?_eq_getElem (by simpa [Tb.l] using hd3)⟩
       have hcx := HC8.out t3 x hx
       have HX3 := hid hx
       have HL3 := hid hd3
       clear hx hd3 ht3
       go_wp2_with fail
       refine (in_any _ _ _ _).mono ?_
       rintro e w9 ⟨rfl, rfl⟩
       cases hb : spn 0 1000000 x with
       | false =>
        have HB5 := hid (spn_no hb)
        go_wp2_with fail
        go_ret
        refine ⟨by rw [HE.out, okR_no (fun F => by obtain ⟨i1, i2, i3, i4, i5, i6, i7, i8, i9, i10, i11, i12, i13, i14, i15⟩ := HI.out.1 F; have hm := List.mem_of_getElem? HX3.out; exact HB5.out (t0_bounds hm))]; rfl, U8.out⟩
       | true =>
       have HB5 := hid (spn_iff.1 hb)
       clear hb
       have HP5 : Hid (∀ y ∈ tb0.l.take (t3 + 1), 0 ≤ y ∧ y ≤ 1000000) := fun y hy => by
        rw [List.take_add_one, HX3.out, List.mem_append] at hy
        rcases hy with hy | hy
        ·exact HPT.out y hy
        ·have : y = x := by simpa using hy
         rw [this]; exact HB5.out
       go_wp2_with fail
       go_roundw
       case rel => exact ⟨t3 + 1, by go_num, HL3.out, HP5, by trivial⟩
       case measure => have := HL3.out; simp [intOf]; omega
      ·obtain rfl : t3 = 6 := by omega
       have HPT6 : Hid (∀ x ∈ tb0.l, 0 ≤ x ∧ x ≤ 1000000) := fun x hx => HPT.out x (by rw [List.take_of_length_le (by simp [Tb.l])]; exact hx)
       clear hd3 ht3
       go_wp2_with fail
       go_ret
       refine ⟨by rw [HE.out, okR_iff.2 (HI.out.2 ⟨HKB.out.1, HKB.out.2, HB.out.1, HB.out.2.1, HB.out.2.2, HNS.out, HP3.out, by have := HNL.out; have := HLV.out; omega, HPL3.out, by have := HT.out; omega, by have := HT.out; omega, by have := HT.out; omega, by have := HT.out; omega, by have := HT.out; omega, by have := HT.out; omega⟩)]; rfl, U8.out⟩
set_option maxHeartbeats 8000000 in
theorem rok7 (r : Rc) (sa la : Option Addr) (sc lc : Nat) (w : World) (hR : RH w r sa la) (hK : r.key.size ≤ 100000) (hk : r.kind = 7) :
  Calls Tryz.prog 12 #[rv r (.slice sa r.sids.length sc) (.slice la r.locs.length lc)] w fun e w' => e = .returned (.bool (okR r)) ∧ Up Nul w w' := by
 obtain ⟨R, HE0⟩ : ∃ R, R = okR r := ⟨_, rfl⟩
 rw [← HE0]
 have HE := hid HE0
 have HR := hid hR
 have HK1 := hid hk
 have HKS := hid hK
 have HI := hid (okF7 hk)
 clear hR hk hK HE0
 obtain ⟨W1, hW1⟩ : ∃ W, W = w.alloc (.cells (rcellsL r (.slice sa r.sids.length sc) (.slice la r.locs.length lc)) 28) := ⟨_, rfl⟩
 have U1 : Hid (Up Nul w W1) := by show Up _ _ _; rw [hW1]; exact (Up.refl Nul w).alloc _
 have B1 : Hid (RB W1 w.heap.size r (.slice sa r.sids.length sc) (.slice la r.locs.length lc)) := by show RB _ _ _ _ _; rw [hW1]; exact RB.new _ _ _ _
 go_enter Tryz.func12, Tryz.ntmps12
 go_upto_region 1 with fail
 rw [← hW1]
 clear hW1
 obtain ⟨p, hpe⟩ : ∃ p, p = w.heap.size := ⟨_, rfl⟩
 rw [← hpe] at B1 ⊢
 clear hpe
 have x0 := B1.out.cells.1
 have hk := HK1.out
 go_wp2_with fail
 refine (in_any _ _ _ _).mono ?_
 rintro e w2 ⟨rfl, rfl⟩
 rw [show spn 1 8 7 = true from by decide]
 go_wp2_with fail
 refine (names7 _).mono ?_
 rintro e w2 ⟨rfl, u2⟩
 go_upto_region 4 with fail
 obtain ⟨W4, hW4⟩ : ∃ W, W = w2.alloc (.cells #[.bool (nmB 7 0), .bool (nmB 7 1), .bool (nmB 7 2), .bool (nmB 7 3), .bool (nmB 7 4)] 74) := ⟨_, rfl⟩
 have u4 : Up Nul w2 W4 := by rw [hW4]; exact (Up.refl Nul w2).alloc _
 have hq : W4.heap[w2.heap.size]? = some (.cells #[.bool false, .bool true, .bool true, .bool false, .bool false] 74 (0, 0)) := by rw [hW4]; exact heap_alloc_new _ _
 have HQ : Hid (∀ W, Up Nul W4 W → W.heap[w2.heap.size]? = some (.cells #[.bool false, .bool true, .bool true, .bool false, .bool false] 74 (0, 0))) := fun W u => (u.block _ (Array.getElem?_eq_some_iff.1 hq).1 id).trans hq
 have B4 := hid (B1.out.nxt (u2.trans u4))
 have U4 := hid (U1.out.trans (u2.trans u4))
 rw [← hW4]
 clear hW4 hq u2 u4 B1 U1 x0
 generalize w2.heap.size = q at HQ ⊢
 obtain ⟨n0, n1, n2, n3, n4⟩ := b5_cells (HQ.out _ (Up.refl Nul W4))
 obtain ⟨x0, x1, x2, x3, x4, x5, x6, x7, x8, x9, x10, x11, x12⟩ := B4.out.cells
 go_wp2_with fail
 all_goals first | (go_ret; refine ⟨by rw [HE.out, okR_no (fun F => by obtain ⟨i1, i2, i3, i4, i5, i6, i7, i8, i9, i10, i11, i12, i13, i14, i15⟩ := HI.out.1 F; first | omega | (have hz : r.key.size = 0 := (by omega); exact absurd (key_nil.2 hz) (by assumption)))]; rfl, U4.out⟩) | skip
 have hks : r.key.size = 0 := key_nil.1 (by assumption)
 have HKB : Hid ((0 ≤ ((r.key.size : Nat) : Int) ∧ ((r.key.size : Nat) : Int) ≤ 0) ∧ ∀ c ∈ nums r.key, 33 ≤ c ∧ c ≤ 126) := ⟨⟨by omega, by omega⟩, key_none hks⟩
 refine (in_any _ _ _ _).mono ?_
 rintro e w' ⟨rfl, rfl⟩
 cases hb : spn 0 15 r.n with
 | false =>
  have HB := hid (spn_no hb)
  go_wp2_with fail
  go_ret
  refine ⟨by rw [HE.out, okR_no (fun F => by obtain ⟨i1, i2, i3, i4, i5, i6, i7, i8, i9, i10, i11, i12, i13, i14, i15⟩ := HI.out.1 F; have := HB.out; omega)]; rfl, U4.out⟩
 | true =>
 have hc0 := spn_iff.1 hb
 clear hb
 go_wp2_with fail
 refine (in_any _ _ _ _).mono ?_
 rintro e w' ⟨rfl, rfl⟩
 cases hb : spn 1 2147483647 r.sid with
 | false =>
  have HB := hid (spn_no hb)
  go_wp2_with fail
  go_ret
  refine ⟨by rw [HE.out, okR_no (fun F => by obtain ⟨i1, i2, i3, i4, i5, i6, i7, i8, i9, i10, i11, i12, i13, i14, i15⟩ := HI.out.1 F; have := HB.out; omega)]; rfl, U4.out⟩
 | true =>
 have hc1 := spn_iff.1 hb
 clear hb
 go_wp2_with fail
 refine (in_any _ _ _ _).mono ?_
 rintro e w' ⟨rfl, rfl⟩
 rw [show spn 0 2 0 = true from by decide]
 go_wp2_with fail
 have HB : Hid ((0 ≤ r.n ∧ r.n ≤ 15) ∧ (1 ≤ r.sid ∧ r.sid ≤ 2147483647) ∧ (0 ≤ r.colour ∧ r.colour ≤ 0)) := ⟨⟨by omega, by omega⟩, ⟨by omega, by omega⟩, ⟨by omega, by omega⟩⟩
 have HT : Hid (r.t.hot = 0 ∧ r.t.warm = 0 ∧ r.t.gap = 0 ∧ r.t.add = 0 ∧ r.t.top = 0 ∧ r.t.half = 0) := ⟨by omega, by omega, by omega, by omega, by omega, by omega⟩
 clear hc0
 clear hc1
 refine (sids7 _).mono ?_
 rintro e w' ⟨rfl, rfl⟩
 rw [show sdN 7 = 0 from rfl, show lcN 7 = 1 from rfl]
 cases hb : (((r.sids.length : Nat) : Int) != 0) with
 | true =>
  have HNS : Hid (¬ ((r.sids.length : Nat) : Int) = 0) := by simpa [Hid] using hb
  go_wp2_with fail
  go_ret
  refine ⟨by rw [HE.out, okR_no (fun F => by obtain ⟨i1, i2, i3, i4, i5, i6, i7, i8, i9, i10, i11, i12, i13, i14, i15⟩ := HI.out.1 F; exact HNS.out i6)]; rfl, U4.out⟩
 | false =>
 have HNS : Hid (((r.sids.length : Nat) : Int) = 0) := by simpa [Hid] using hb
 go_wp2_with fail
 clear hb
 obtain ⟨ns, hns⟩ : ∃ ns, r.sids.length = ns := ⟨_, rfl⟩
 have HNN := hid hns
 rw [hns] at x4
 have hn3 : (ns : Int) ≤ 3 := by have := HNS.out; rw [hns] at this; omega
 clear hns
 go_loopw [5, 7] (fun l i wr => ∃ t : Nat, i = .int .i64 (t : Nat) ∧ t ≤ ns ∧ l = .int .i64 1 ∧ (∀ x ∈ r.sids.take t, 1 ≤ x ∧ x ≤ 2147483647) ∧ wr = w') (fun _ i _ => ns - (intOf i).toNat)
 case atStart => exact ⟨0, rfl, Nat.zero_le _, rfl, fun x hx => by simp at hx, by trivial⟩
 case round =>
  obtain ⟨t, rfl, ht, rfl, hp, rfl⟩ := hrel
  have HP := hid hp
  clear hp
  have i0 : (0 : Int) ≤ (t : Int) := by omega
  by_cases hd : t < ns
  ·have j1 : (t : Int) < (ns : Int) := by omega
   obtain ⟨x, hx⟩ : ∃ x, r.sids[t]? = some x := ⟨_, List.getElem?_eq_getElem (by rw [HNN.out]; exact hd)⟩
   rcases HR.out.s.nxt U4.out with e0 | ⟨g, o, rfl, hg, hrow⟩
   ·rw [e0] at hx; simp at hx
   have hcx := hrow t x hx
   have HX := hid hx
   have HL := hid hd
   clear hx hrow hg hd ht
   go_wp2_with fail
   refine (in_any _ _ _ _).mono ?_
   rintro e w'' ⟨rfl, rfl⟩
   cases hb : spn 1 2147483647 x with
   | false =>
    have HB2 := hid (spn_no hb)
    go_wp2_with fail
    go_ret
    refine ⟨by rw [HE.out, okR_no (fun F => by obtain ⟨i1, i2, i3, i4, i5, i6, i7, i8, i9, i10, i11, i12, i13, i14, i15⟩ := HI.out.1 F; have := i7 x (List.mem_of_getElem? HX.out); have := HB2.out; have h0 : r.sids = [] := List.eq_nil_of_length_eq_zero (by omega); rw [h0] at HX; exact absurd HX.out (by simp))]; rfl, U4.out⟩
   | true =>
    have HB2 := hid (spn_iff.1 hb)
    clear hb
    have HP2 : Hid (∀ y ∈ r.sids.take (t + 1), 1 ≤ y ∧ y ≤ 2147483647) := fun y hy => by
     rw [List.take_add_one, HX.out, List.mem_append] at hy
     rcases hy with hy | hy
     ·exact HP.out y hy
     ·have : y = x := by simpa using hy
      rw [this]; exact HB2.out
    go_wp2_with fail
    go_roundw
    case rel => exact ⟨t + 1, by go_num, HL.out, rfl, HP2.out, by trivial⟩
    case measure => have := HL.out; simp [intOf]; omega
  ·obtain rfl : t = ns := by omega
   have HP3 : Hid (∀ y ∈ r.sids, 1 ≤ y ∧ y ≤ 2147483647) := fun y hy => HP.out y (by rw [List.take_of_length_le (by rw [HNN.out]; omega)]; exact hy)
   skip
   have j1 : ¬ (t : Int) < (t : Int) := by omega
   clear hd
   cases hb : (((r.locs.length : Nat) : Int) != 1) with
   | true =>
    have HNL : Hid (¬ ((r.locs.length : Nat) : Int) = 1) := by simpa [Hid] using hb
    go_wp2_with fail
    go_ret
    refine ⟨by rw [HE.out, okR_no (fun F => by obtain ⟨i1, i2, i3, i4, i5, i6, i7, i8, i9, i10, i11, i12, i13, i14, i15⟩ := HI.out.1 F; exact HNL.out (by rw [i8]; omega))]; rfl, U4.out⟩
   | false =>
   have HNL : Hid (((r.locs.length : Nat) : Int) = 1) := by simpa [Hid] using hb
   go_wp2_with fail
   clear hb
   obtain ⟨nl, hnl⟩ : ∃ nl, r.locs.length = nl := ⟨_, rfl⟩
   have HNM := hid hnl
   have hl12 : (nl : Int) ≤ 12 := by have := HNL.out; rw [hnl] at this; omega
   clear hnl x0 x1 x2 x3 x4 x5 x6 x7 x8 x9 x10 x11 x12 n0 n1 n2 n3 n4
   go_loopw [8] (fun i wr => ∃ t : Nat, i = .int .i64 (t : Nat) ∧ t ≤ nl ∧ Hid (∀ l ∈ r.locs.take t, (0 ≤ l.d ∧ l.d ≤ 23) ∧ (0 ≤ l.s ∧ l.s ≤ 63) ∧ 1 ≤ l.i ∧ l.i ≤ 2147483647) ∧ RB wr p r (.slice sa r.sids.length sc) (.slice la r.locs.length lc) ∧ Up Nul w wr) (fun i _ => nl - (intOf i).toNat)
   case atStart => exact ⟨0, rfl, Nat.zero_le _, hid fun x hx => by simp at hx, B4.out, U4.out⟩
   case round =>
    obtain ⟨t2, rfl, ht2, HPL, hb2, hu2⟩ := hrel
    have B5 := hid hb2
    have U5 := hid hu2
    clear hb2 hu2
    have x6 := B5.out.cells.2.2.2.2.2.2.1
    rw [HNM.out] at x6
    have i2 : (0 : Int) ≤ (t2 : Int) := by omega
    have i3 : (t2 : Int) ≤ 12 := by omega
    by_cases hd2 : t2 < nl
    ·have j2 : (t2 : Int) < (nl : Int) := by omega
     obtain ⟨l, hl⟩ : ∃ l, r.locs[t2]? = some l := ⟨_, List.getElem?_eq_getElem (by rw [HNM.out]; exact hd2)⟩
     rcases HR.out.l.nxt U5.out with e0 | ⟨g, o, rfl, hg, hrow⟩
     ·rw [e0] at hl; simp at hl
     have y0 := hrow t2 l hl 0 (.int .i64 l.d) rfl
     have y1 := hrow t2 l hl 1 (.int .i64 l.s) rfl
     have y2 := hrow t2 l hl 2 (.int .i64 l.i) rfl
     simp only [Nat.add_zero] at y0
     have HX2 := hid hl
     have HL2 := hid hd2
     clear hl hrow hd2 ht2
     go_wp2_with fail
     refine (in_any _ _ _ _).mono ?_
     rintro e w6 ⟨rfl, rfl⟩
     cases hb : spn 0 23 l.d with
     | false =>
      have HB2 := hid (spn_no hb)
      go_wp2_with fail
      go_ret
      refine ⟨by rw [HE.out, okR_no (fun F => by obtain ⟨i1, i2, i3, i4, i5, i6, i7, i8, i9, i10, i11, i12, i13, i14, i15⟩ := HI.out.1 F; exact HB2.out (i9 l (List.mem_of_getElem? HX2.out)).1)]; rfl, U5.out.alloc _⟩
     | true =>
     have HB2 := hid (spn_iff.1 hb)
     clear hb
     go_wp2_with fail
     refine (in_any _ _ _ _).mono ?_
     rintro e w6 ⟨rfl, rfl⟩
     cases hb : spn 0 63 l.s with
     | false =>
      have HB3 := hid (spn_no hb)
      go_wp2_with fail
      go_ret
      refine ⟨by rw [HE.out, okR_no (fun F => by obtain ⟨i1, i2, i3, i4, i5, i6, i7, i8, i9, i10, i11, i12, i13, i14, i15⟩ := HI.out.1 F; exact HB3.out (i9 l (List.mem_of_getElem? HX2.out)).2.1)]; rfl, U5.out.alloc _⟩
     | true =>
     have HB3 := hid (spn_iff.1 hb)
     clear hb
     go_wp2_with fail
     refine (in_any _ _ _ _).mono ?_
     rintro e w6 ⟨rfl, rfl⟩
     cases hb : spn 1 2147483647 l.i with
     | false =>
      have HB4 := hid (spn_no hb)
      go_wp2_with fail
      go_ret
      refine ⟨by rw [HE.out, okR_no (fun F => by obtain ⟨i1, i2, i3, i4, i5, i6, i7, i8, i9, i10, i11, i12, i13, i14, i15⟩ := HI.out.1 F; exact HB4.out (i9 l (List.mem_of_getElem? HX2.out)).2.2)]; rfl, U5.out.alloc _⟩
     | true =>
     have HB4 := hid (spn_iff.1 hb)
     clear hb
     have HP2 : Hid (∀ y ∈ r.locs.take (t2 + 1), (0 ≤ y.d ∧ y.d ≤ 23) ∧ (0 ≤ y.s ∧ y.s ≤ 63) ∧ 1 ≤ y.i ∧ y.i ≤ 2147483647) := fun y hy => by
      rw [List.take_add_one, HX2.out, List.mem_append] at hy
      rcases hy with hy | hy
      ·exact HPL.out y hy
      ·have : y = l := by simpa using hy
       rw [this]; exact ⟨HB2.out, HB3.out, HB4.out⟩
     go_wp2_with fail
     go_roundw
     case rel => exact ⟨t2 + 1, by go_num, HL2.out, HP2, B5.out.nxt ((Up.refl Nul _).alloc _), U5.out.alloc _⟩
     case measure => have := HL2.out; simp [intOf]; omega
    ·obtain rfl : t2 = nl := by omega
     have HPL3 : Hid (∀ y ∈ r.locs, (0 ≤ y.d ∧ y.d ≤ 23) ∧ (0 ≤ y.s ∧ y.s ≤ 63) ∧ 1 ≤ y.i ∧ y.i ≤ 2147483647) := fun y hy => HPL.out y (by rw [List.take_of_length_le (by rw [HNM.out]; omega)]; exact hy)
     have j2 : ¬ (t2 : Int) < (t2 : Int) := by omega
     clear hd2 ht2
     obtain ⟨_, _, _, _, _, _, _, x7, x8, x9, x10, x11, x12⟩ := B5.out.cells
     go_wp2_with fail
     refine (tables_any tb0 _).mono ?_
     rintro e w7 ⟨rfl, u7⟩
     go_upto_region 30 with fail
     obtain ⟨W8, hW8⟩ : ∃ W, W = w7.alloc (.cells #[.int .i64 tb0.hot, .int .i64 tb0.warm, .int .i64 tb0.gap, .int .i64 tb0.add, .int .i64 tb0.top, .int .i64 tb0.half] 79) := ⟨_, rfl⟩
     have HC8 : Hid (∀ (i : Nat) (x : Int), tb0.l[i]? = some x → W8.cell? ⟨w7.heap.size, i, none⟩ = some (.int .i64 x)) := by rw [hW8]; exact i6_cells (heap_alloc_new _ _)
     have U8 : Hid (Up Nul w W8) := by show Up _ _ _; rw [hW8]; exact (U5.out.trans u7).alloc _
     first | rw [← hW8] | (have hW9 := hW8; simp only [tb0] at hW9; rw [← hW9]; clear hW9)
     clear hW8 u7 x6 x7 x8 x9 x10 x11 x12
     generalize w7.heap.size = q6 at HC8 ⊢
     go_wp2_with fail
     go_loopw [11] (fun i wr => ∃ t : Nat, i = .int .i64 (t : Nat) ∧ t ≤ 6 ∧ Hid (∀ x ∈ tb0.l.take t, 0 ≤ x ∧ x ≤ 1000000) ∧ wr = W8) (fun i _ => 6 - (intOf i).toNat)
     case atStart => exact ⟨0, rfl, by omega, hid fun x hx => by simp at hx, by trivial⟩
     case round =>
      obtain ⟨t3, rfl, ht3, HPT, rfl⟩ := hrel
      have i4 : (0 : Int) ≤ (t3 : Int) := by omega
      by_cases hd3 : t3 < 6
      ·have j3 : (t3 : Int) < 6 := by omega
       obtain ⟨x, hx⟩ : ∃ x, tb0.l[t3]? = some x := ⟨_, List.getElem?_eq_getElem (by simpa [Tb.l] using hd3)⟩
       have hcx := HC8.out t3 x hx
       have HX3 := hid hx
       have HL3 := hid hd3
       clear hx hd3 ht3
       go_wp2_with fail
       refine (in_any _ _ _ _).mono ?_
       rintro e w9 ⟨rfl, rfl⟩
       cases hb : spn 0 1000000 x with
       | false =>
        have HB5 := hid (spn_no hb)
        go_wp2_with fail
        go_ret
        refine ⟨by rw [HE.out, okR_no (fun F => by obtain ⟨i1, i2, i3, i4, i5, i6, i7, i8, i9, i10, i11, i12, i13, i14, i15⟩ := HI.out.1 F; have hm := List.mem_of_getElem? HX3.out; exact HB5.out (t0_bounds hm))]; rfl, U8.out⟩
       | true =>
       have HB5 := hid (spn_iff.1 hb)
       clear hb
       have HP5 : Hid (∀ y ∈ tb0.l.take (t3 + 1), 0 ≤ y ∧ y ≤ 1000000) := fun y hy => by
        rw [List.take_add_one, HX3.out, List.mem_append] at hy
        rcases hy with hy | hy
        ·exact HPT.out y hy
        ·have : y = x := by simpa using hy
         rw [this]; exact HB5.out
       go_wp2_with fail
       go_roundw
       case rel => exact ⟨t3 + 1, by go_num, HL3.out, HP5, by trivial⟩
       case measure => have := HL3.out; simp [intOf]; omega
      ·obtain rfl : t3 = 6 := by omega
       have HPT6 : Hid (∀ x ∈ tb0.l, 0 ≤ x ∧ x ≤ 1000000) := fun x hx => HPT.out x (by rw [List.take_of_length_le (by simp [Tb.l])]; exact hx)
       clear hd3 ht3
       go_wp2_with fail
       go_ret
       refine ⟨by rw [HE.out, okR_iff.2 (HI.out.2 ⟨HKB.out.1, HKB.out.2, HB.out.1, HB.out.2.1, HB.out.2.2, HNS.out, (fun x hx => by have h0 : r.sids = [] := List.eq_nil_of_length_eq_zero (by have := HNS.out; omega); rw [h0] at hx; cases hx), by have := HNL.out; omega, HPL3.out, by have := HT.out; omega, by have := HT.out; omega, by have := HT.out; omega, by have := HT.out; omega, by have := HT.out; omega, by have := HT.out; omega⟩)]; rfl, U8.out⟩
set_option maxHeartbeats 8000000 in
theorem rok8 (r : Rc) (sa la : Option Addr) (sc lc : Nat) (w : World) (hR : RH w r sa la) (hK : r.key.size ≤ 100000) (hk : r.kind = 8) :
  Calls Tryz.prog 12 #[rv r (.slice sa r.sids.length sc) (.slice la r.locs.length lc)] w fun e w' => e = .returned (.bool (okR r)) ∧ Up Nul w w' := by
 obtain ⟨R, HE0⟩ : ∃ R, R = okR r := ⟨_, rfl⟩
 rw [← HE0]
 have HE := hid HE0
 have HR := hid hR
 have HK1 := hid hk
 have HKS := hid hK
 have HI := hid (okF8 hk)
 clear hR hk hK HE0
 obtain ⟨W1, hW1⟩ : ∃ W, W = w.alloc (.cells (rcellsL r (.slice sa r.sids.length sc) (.slice la r.locs.length lc)) 28) := ⟨_, rfl⟩
 have U1 : Hid (Up Nul w W1) := by show Up _ _ _; rw [hW1]; exact (Up.refl Nul w).alloc _
 have B1 : Hid (RB W1 w.heap.size r (.slice sa r.sids.length sc) (.slice la r.locs.length lc)) := by show RB _ _ _ _ _; rw [hW1]; exact RB.new _ _ _ _
 go_enter Tryz.func12, Tryz.ntmps12
 go_upto_region 1 with fail
 rw [← hW1]
 clear hW1
 obtain ⟨p, hpe⟩ : ∃ p, p = w.heap.size := ⟨_, rfl⟩
 rw [← hpe] at B1 ⊢
 clear hpe
 have x0 := B1.out.cells.1
 have hk := HK1.out
 go_wp2_with fail
 refine (in_any _ _ _ _).mono ?_
 rintro e w2 ⟨rfl, rfl⟩
 rw [show spn 1 8 8 = true from by decide]
 go_wp2_with fail
 refine (names8 _).mono ?_
 rintro e w2 ⟨rfl, u2⟩
 go_upto_region 4 with fail
 obtain ⟨W4, hW4⟩ : ∃ W, W = w2.alloc (.cells #[.bool (nmB 8 0), .bool (nmB 8 1), .bool (nmB 8 2), .bool (nmB 8 3), .bool (nmB 8 4)] 74) := ⟨_, rfl⟩
 have u4 : Up Nul w2 W4 := by rw [hW4]; exact (Up.refl Nul w2).alloc _
 have hq : W4.heap[w2.heap.size]? = some (.cells #[.bool false, .bool false, .bool false, .bool false, .bool true] 74 (0, 0)) := by rw [hW4]; exact heap_alloc_new _ _
 have HQ : Hid (∀ W, Up Nul W4 W → W.heap[w2.heap.size]? = some (.cells #[.bool false, .bool false, .bool false, .bool false, .bool true] 74 (0, 0))) := fun W u => (u.block _ (Array.getElem?_eq_some_iff.1 hq).1 id).trans hq
 have B4 := hid (B1.out.nxt (u2.trans u4))
 have U4 := hid (U1.out.trans (u2.trans u4))
 rw [← hW4]
 clear hW4 hq u2 u4 B1 U1 x0
 generalize w2.heap.size = q at HQ ⊢
 obtain ⟨n0, n1, n2, n3, n4⟩ := b5_cells (HQ.out _ (Up.refl Nul W4))
 obtain ⟨x0, x1, x2, x3, x4, x5, x6, x7, x8, x9, x10, x11, x12⟩ := B4.out.cells
 go_wp2_with fail
 all_goals first | (go_ret; refine ⟨by rw [HE.out, okR_no (fun F => by obtain ⟨i1, i2, i3, i4, i5, i6, i7, i8, i9, i10, i11, i12, i13, i14, i15⟩ := HI.out.1 F; first | omega | (have hz : r.key.size = 0 := (by omega); exact absurd (key_nil.2 hz) (by assumption)))]; rfl, U4.out⟩) | skip
 have hks : r.key.size = 0 := key_nil.1 (by assumption)
 have HKB : Hid ((0 ≤ ((r.key.size : Nat) : Int) ∧ ((r.key.size : Nat) : Int) ≤ 0) ∧ ∀ c ∈ nums r.key, 33 ≤ c ∧ c ≤ 126) := ⟨⟨by omega, by omega⟩, key_none hks⟩
 refine (in_any _ _ _ _).mono ?_
 rintro e w' ⟨rfl, rfl⟩
 rw [show spn 0 2 0 = true from by decide]
 go_wp2_with fail
 have HB : Hid ((0 ≤ r.n ∧ r.n ≤ 0) ∧ (0 ≤ r.sid ∧ r.sid ≤ 0) ∧ (0 ≤ r.colour ∧ r.colour ≤ 0)) := ⟨⟨by omega, by omega⟩, ⟨by omega, by omega⟩, ⟨by omega, by omega⟩⟩
 refine (sids8 _).mono ?_
 rintro e w' ⟨rfl, rfl⟩
 rw [show sdN 8 = 0 from rfl, show lcN 8 = 0 from rfl]
 cases hb : (((r.sids.length : Nat) : Int) != 0) with
 | true =>
  have HNS : Hid (¬ ((r.sids.length : Nat) : Int) = 0) := by simpa [Hid] using hb
  go_wp2_with fail
  go_ret
  refine ⟨by rw [HE.out, okR_no (fun F => by obtain ⟨i1, i2, i3, i4, i5, i6, i7, i8, i9, i10, i11, i12, i13, i14, i15⟩ := HI.out.1 F; exact HNS.out i6)]; rfl, U4.out⟩
 | false =>
 have HNS : Hid (((r.sids.length : Nat) : Int) = 0) := by simpa [Hid] using hb
 go_wp2_with fail
 clear hb
 obtain ⟨ns, hns⟩ : ∃ ns, r.sids.length = ns := ⟨_, rfl⟩
 have HNN := hid hns
 rw [hns] at x4
 have hn3 : (ns : Int) ≤ 3 := by have := HNS.out; rw [hns] at this; omega
 clear hns
 go_loopw [5, 7] (fun l i wr => ∃ t : Nat, i = .int .i64 (t : Nat) ∧ t ≤ ns ∧ l = .int .i64 0 ∧ (∀ x ∈ r.sids.take t, 1 ≤ x ∧ x ≤ 2147483647) ∧ wr = w') (fun _ i _ => ns - (intOf i).toNat)
 case atStart => exact ⟨0, rfl, Nat.zero_le _, rfl, fun x hx => by simp at hx, by trivial⟩
 case round =>
  obtain ⟨t, rfl, ht, rfl, hp, rfl⟩ := hrel
  have HP := hid hp
  clear hp
  have i0 : (0 : Int) ≤ (t : Int) := by omega
  by_cases hd : t < ns
  ·have j1 : (t : Int) < (ns : Int) := by omega
   obtain ⟨x, hx⟩ : ∃ x, r.sids[t]? = some x := ⟨_, List.getElem?_eq_getElem (by rw [HNN.out]; exact hd)⟩
   rcases HR.out.s.nxt U4.out with e0 | ⟨g, o, rfl, hg, hrow⟩
   ·rw [e0] at hx; simp at hx
   have hcx := hrow t x hx
   have HX := hid hx
   have HL := hid hd
   clear hx hrow hg hd ht
   go_wp2_with fail
   refine (in_any _ _ _ _).mono ?_
   rintro e w'' ⟨rfl, rfl⟩
   cases hb : spn 1 2147483647 x with
   | false =>
    have HB2 := hid (spn_no hb)
    go_wp2_with fail
    go_ret
    refine ⟨by rw [HE.out, okR_no (fun F => by obtain ⟨i1, i2, i3, i4, i5, i6, i7, i8, i9, i10, i11, i12, i13, i14, i15⟩ := HI.out.1 F; have := i7 x (List.mem_of_getElem? HX.out); have := HB2.out; have h0 : r.sids = [] := List.eq_nil_of_length_eq_zero (by omega); rw [h0] at HX; exact absurd HX.out (by simp))]; rfl, U4.out⟩
   | true =>
    have HB2 := hid (spn_iff.1 hb)
    clear hb
    have HP2 : Hid (∀ y ∈ r.sids.take (t + 1), 1 ≤ y ∧ y ≤ 2147483647) := fun y hy => by
     rw [List.take_add_one, HX.out, List.mem_append] at hy
     rcases hy with hy | hy
     ·exact HP.out y hy
     ·have : y = x := by simpa using hy
      rw [this]; exact HB2.out
    go_wp2_with fail
    go_roundw
    case rel => exact ⟨t + 1, by go_num, HL.out, rfl, HP2.out, by trivial⟩
    case measure => have := HL.out; simp [intOf]; omega
  ·obtain rfl : t = ns := by omega
   have HP3 : Hid (∀ y ∈ r.sids, 1 ≤ y ∧ y ≤ 2147483647) := fun y hy => HP.out y (by rw [List.take_of_length_le (by rw [HNN.out]; omega)]; exact hy)
   skip
   have j1 : ¬ (t : Int) < (t : Int) := by omega
   clear hd
   cases hb : (((r.locs.length : Nat) : Int) != 0) with
   | true =>
    have HNL : Hid (¬ ((r.locs.length : Nat) : Int) = 0) := by simpa [Hid] using hb
    go_wp2_with fail
    go_ret
    refine ⟨by rw [HE.out, okR_no (fun F => by obtain ⟨i1, i2, i3, i4, i5, i6, i7, i8, i9, i10, i11, i12, i13, i14, i15⟩ := HI.out.1 F; exact HNL.out (by rw [i8]; omega))]; rfl, U4.out⟩
   | false =>
   have HNL : Hid (((r.locs.length : Nat) : Int) = 0) := by simpa [Hid] using hb
   go_wp2_with fail
   clear hb
   obtain ⟨nl, hnl⟩ : ∃ nl, r.locs.length = nl := ⟨_, rfl⟩
   have HNM := hid hnl
   have hl12 : (nl : Int) ≤ 12 := by have := HNL.out; rw [hnl] at this; omega
   clear hnl x0 x1 x2 x3 x4 x5 x6 x7 x8 x9 x10 x11 x12 n0 n1 n2 n3 n4
   go_loopw [8] (fun i wr => ∃ t : Nat, i = .int .i64 (t : Nat) ∧ t ≤ nl ∧ Hid (∀ l ∈ r.locs.take t, (0 ≤ l.d ∧ l.d ≤ 23) ∧ (0 ≤ l.s ∧ l.s ≤ 63) ∧ 1 ≤ l.i ∧ l.i ≤ 2147483647) ∧ RB wr p r (.slice sa r.sids.length sc) (.slice la r.locs.length lc) ∧ Up Nul w wr) (fun i _ => nl - (intOf i).toNat)
   case atStart => exact ⟨0, rfl, Nat.zero_le _, hid fun x hx => by simp at hx, B4.out, U4.out⟩
   case round =>
    obtain ⟨t2, rfl, ht2, HPL, hb2, hu2⟩ := hrel
    have B5 := hid hb2
    have U5 := hid hu2
    clear hb2 hu2
    have x6 := B5.out.cells.2.2.2.2.2.2.1
    rw [HNM.out] at x6
    have i2 : (0 : Int) ≤ (t2 : Int) := by omega
    have i3 : (t2 : Int) ≤ 12 := by omega
    by_cases hd2 : t2 < nl
    ·have j2 : (t2 : Int) < (nl : Int) := by omega
     obtain ⟨l, hl⟩ : ∃ l, r.locs[t2]? = some l := ⟨_, List.getElem?_eq_getElem (by rw [HNM.out]; exact hd2)⟩
     rcases HR.out.l.nxt U5.out with e0 | ⟨g, o, rfl, hg, hrow⟩
     ·rw [e0] at hl; simp at hl
     have y0 := hrow t2 l hl 0 (.int .i64 l.d) rfl
     have y1 := hrow t2 l hl 1 (.int .i64 l.s) rfl
     have y2 := hrow t2 l hl 2 (.int .i64 l.i) rfl
     simp only [Nat.add_zero] at y0
     have HX2 := hid hl
     have HL2 := hid hd2
     clear hl hrow hd2 ht2
     go_wp2_with fail
     refine (in_any _ _ _ _).mono ?_
     rintro e w6 ⟨rfl, rfl⟩
     cases hb : spn 0 23 l.d with
     | false =>
      have HB2 := hid (spn_no hb)
      go_wp2_with fail
      go_ret
      refine ⟨by rw [HE.out, okR_no (fun F => by obtain ⟨i1, i2, i3, i4, i5, i6, i7, i8, i9, i10, i11, i12, i13, i14, i15⟩ := HI.out.1 F; exact HB2.out (i9 l (List.mem_of_getElem? HX2.out)).1)]; rfl, U5.out.alloc _⟩
     | true =>
     have HB2 := hid (spn_iff.1 hb)
     clear hb
     go_wp2_with fail
     refine (in_any _ _ _ _).mono ?_
     rintro e w6 ⟨rfl, rfl⟩
     cases hb : spn 0 63 l.s with
     | false =>
      have HB3 := hid (spn_no hb)
      go_wp2_with fail
      go_ret
      refine ⟨by rw [HE.out, okR_no (fun F => by obtain ⟨i1, i2, i3, i4, i5, i6, i7, i8, i9, i10, i11, i12, i13, i14, i15⟩ := HI.out.1 F; exact HB3.out (i9 l (List.mem_of_getElem? HX2.out)).2.1)]; rfl, U5.out.alloc _⟩
     | true =>
     have HB3 := hid (spn_iff.1 hb)
     clear hb
     go_wp2_with fail
     refine (in_any _ _ _ _).mono ?_
     rintro e w6 ⟨rfl, rfl⟩
     cases hb : spn 1 2147483647 l.i with
     | false =>
      have HB4 := hid (spn_no hb)
      go_wp2_with fail
      go_ret
      refine ⟨by rw [HE.out, okR_no (fun F => by obtain ⟨i1, i2, i3, i4, i5, i6, i7, i8, i9, i10, i11, i12, i13, i14, i15⟩ := HI.out.1 F; exact HB4.out (i9 l (List.mem_of_getElem? HX2.out)).2.2)]; rfl, U5.out.alloc _⟩
     | true =>
     have HB4 := hid (spn_iff.1 hb)
     clear hb
     have HP2 : Hid (∀ y ∈ r.locs.take (t2 + 1), (0 ≤ y.d ∧ y.d ≤ 23) ∧ (0 ≤ y.s ∧ y.s ≤ 63) ∧ 1 ≤ y.i ∧ y.i ≤ 2147483647) := fun y hy => by
      rw [List.take_add_one, HX2.out, List.mem_append] at hy
      rcases hy with hy | hy
      ·exact HPL.out y hy
      ·have : y = l := by simpa using hy
       rw [this]; exact ⟨HB2.out, HB3.out, HB4.out⟩
     go_wp2_with fail
     go_roundw
     case rel => exact ⟨t2 + 1, by go_num, HL2.out, HP2, B5.out.nxt ((Up.refl Nul _).alloc _), U5.out.alloc _⟩
     case measure => have := HL2.out; simp [intOf]; omega
    ·obtain rfl : t2 = nl := by omega
     have HPL3 : Hid (∀ y ∈ r.locs, (0 ≤ y.d ∧ y.d ≤ 23) ∧ (0 ≤ y.s ∧ y.s ≤ 63) ∧ 1 ≤ y.i ∧ y.i ≤ 2147483647) := fun y hy => HPL.out y (by rw [List.take_of_length_le (by rw [HNM.out]; omega)]; exact hy)
     have j2 : ¬ (t2 : Int) < (t2 : Int) := by omega
     clear hd2 ht2
     obtain ⟨_, _, _, _, _, _, _, x7, x8, x9, x10, x11, x12⟩ := B5.out.cells
     go_wp2_with fail
     refine (tables_any r.t _).mono ?_
     rintro e w7 ⟨rfl, u7⟩
     go_upto_region 30 with fail
     obtain ⟨W8, hW8⟩ : ∃ W, W = w7.alloc (.cells #[.int .i64 r.t.hot, .int .i64 r.t.warm, .int .i64 r.t.gap, .int .i64 r.t.add, .int .i64 r.t.top, .int .i64 r.t.half] 79) := ⟨_, rfl⟩
     have HC8 : Hid (∀ (i : Nat) (x : Int), r.t.l[i]? = some x → W8.cell? ⟨w7.heap.size, i, none⟩ = some (.int .i64 x)) := by rw [hW8]; exact i6_cells (heap_alloc_new _ _)
     have U8 : Hid (Up Nul w W8) := by show Up _ _ _; rw [hW8]; exact (U5.out.trans u7).alloc _
     first | rw [← hW8] | (have hW9 := hW8; simp only [tb0] at hW9; rw [← hW9]; clear hW9)
     clear hW8 u7 x6 x7 x8 x9 x10 x11 x12
     generalize w7.heap.size = q6 at HC8 ⊢
     go_wp2_with fail
     go_loopw [11] (fun i wr => ∃ t : Nat, i = .int .i64 (t : Nat) ∧ t ≤ 6 ∧ Hid (∀ x ∈ r.t.l.take t, 0 ≤ x ∧ x ≤ 1000000) ∧ wr = W8) (fun i _ => 6 - (intOf i).toNat)
     case atStart => exact ⟨0, rfl, by omega, hid fun x hx => by simp at hx, by trivial⟩
     case round =>
      obtain ⟨t3, rfl, ht3, HPT, rfl⟩ := hrel
      have i4 : (0 : Int) ≤ (t3 : Int) := by omega
      by_cases hd3 : t3 < 6
      ·have j3 : (t3 : Int) < 6 := by omega
       obtain ⟨x, hx⟩ : ∃ x, r.t.l[t3]? = some x := ⟨_, List.getElem?_eq_getElem (by simpa [Tb.l] using hd3)⟩
       have hcx := HC8.out t3 x hx
       have HX3 := hid hx
       have HL3 := hid hd3
       clear hx hd3 ht3
       go_wp2_with fail
       refine (in_any _ _ _ _).mono ?_
       rintro e w9 ⟨rfl, rfl⟩
       cases hb : spn 0 1000000 x with
       | false =>
        have HB5 := hid (spn_no hb)
        go_wp2_with fail
        go_ret
        refine ⟨by rw [HE.out, okR_no (fun F => by obtain ⟨i1, i2, i3, i4, i5, i6, i7, i8, i9, i10, i11, i12, i13, i14, i15⟩ := HI.out.1 F; have hm := List.mem_of_getElem? HX3.out; exact HB5.out (t_bounds hm ⟨i10, i11, i12, i13, i14, i15⟩))]; rfl, U8.out⟩
       | true =>
       have HB5 := hid (spn_iff.1 hb)
       clear hb
       have HP5 : Hid (∀ y ∈ r.t.l.take (t3 + 1), 0 ≤ y ∧ y ≤ 1000000) := fun y hy => by
        rw [List.take_add_one, HX3.out, List.mem_append] at hy
        rcases hy with hy | hy
        ·exact HPT.out y hy
        ·have : y = x := by simpa using hy
         rw [this]; exact HB5.out
       go_wp2_with fail
       go_roundw
       case rel => exact ⟨t3 + 1, by go_num, HL3.out, HP5, by trivial⟩
       case measure => have := HL3.out; simp [intOf]; omega
      ·obtain rfl : t3 = 6 := by omega
       have HPT6 : Hid (∀ x ∈ r.t.l, 0 ≤ x ∧ x ≤ 1000000) := fun x hx => HPT.out x (by rw [List.take_of_length_le (by simp [Tb.l])]; exact hx)
       clear hd3 ht3
       go_wp2_with fail
       go_ret
       refine ⟨by rw [HE.out, okR_iff.2 (HI.out.2 ⟨HKB.out.1, HKB.out.2, HB.out.1, HB.out.2.1, HB.out.2.2, HNS.out, (fun x hx => by have h0 : r.sids = [] := List.eq_nil_of_length_eq_zero (by have := HNS.out; omega); rw [h0] at hx; cases hx), by have := HNL.out; omega, HPL3.out, HPT6.out _ (by simp [Tb.l]), HPT6.out _ (by simp [Tb.l]), HPT6.out _ (by simp [Tb.l]), HPT6.out _ (by simp [Tb.l]), HPT6.out _ (by simp [Tb.l]), HPT6.out _ (by simp [Tb.l])⟩)]; rfl, U8.out⟩
theorem rok_no (r : Rc) (sv lv : Value) (w : World) (h : spn 1 8 r.kind = false) :
  Calls Tryz.prog 12 #[rv r sv lv] w fun e w' => e = .returned (.bool false) ∧ Up Nul w w' := by
 have HK := hid h
 clear h
 obtain ⟨W1, hW1⟩ : ∃ W, W = w.alloc (.cells (rcellsL r sv lv) 28) := ⟨_, rfl⟩
 have U1 : Hid (Up Nul w W1) := by show Up _ _ _; rw [hW1]; exact (Up.refl Nul w).alloc _
 have x0 : W1.cell? ⟨w.heap.size, 0, none⟩ = some (.int .i64 r.kind) := by rw [hW1]; exact World.cell?_alloc_new _ _ _ 0
 go_enter Tryz.func12, Tryz.ntmps12
 go_upto_region 1 with fail
 rw [← hW1]
 clear hW1
 go_wp2_with fail
 refine (in_any _ _ _ _).mono ?_
 rintro e w2 ⟨rfl, rfl⟩
 rw [HK.out]
 go_wp2
 go_ret
 exact ⟨rfl, U1.out⟩
theorem rok_any (r : Rc) (sa la : Option Addr) (sc lc : Nat) (w : World) (hR : RH w r sa la) (hK : r.key.size ≤ 100000) :
  Calls Tryz.prog 12 #[rv r (.slice sa r.sids.length sc) (.slice la r.locs.length lc)] w fun e w' => e = .returned (.bool (okR r)) ∧ Up Nul w w' := by
 cases hb : spn 1 8 r.kind with
 | false =>
  rw [show okR r = false from okR_no fun F => by
   have := F.k1
   have := F.k8
   have hk := F.kk
   have := spn_no hb
   omega]
  exact rok_no r _ _ w hb
 | true =>
  have h := spn_iff.1 hb
  have hk : r.kind = 1 ∨ r.kind = 2 ∨ r.kind = 3 ∨ r.kind = 4 ∨ r.kind = 5 ∨ r.kind = 6 ∨ r.kind = 7 ∨ r.kind = 8 := by omega
  rcases hk with hk | hk | hk | hk | hk | hk | hk | hk
  ·exact rok1 r sa la sc lc w hR hK hk
  ·exact rok2 r sa la sc lc w hR hK hk
  ·exact rok3 r sa la sc lc w hR hK hk
  ·exact rok4 r sa la sc lc w hR hK hk
  ·exact rok5 r sa la sc lc w hR hK hk
  ·exact rok6 r sa la sc lc w hR hK hk
  ·exact rok7 r sa la sc lc w hR hK hk
  ·exact rok8 r sa la sc lc w hR hK hk

theorem list_ne_len {α : Type} {ys zs : List α} (h : ys.length ≠ zs.length) : ys ≠ zs := fun e => h (by rw [e])
theorem list_take_all {α : Type} {ys zs : List α} {L : Nat} (h1 : ys.length = L) (h2 : zs.length = L) (h : ∀ i (a : i < ys.length) (b : i < zs.length), ys[i] = zs[i]) : ys = zs :=
 List.ext_getElem (h1.trans h2.symm) (fun i a b => h i a b)
theorem sints_any (w : World) (a1 a2 : Option Addr) (c1 c2 : Nat) (ys zs : List Int) (h1 : RowI w a1 ys) (h2 : RowI w a2 zs) (n1 : ys.length ≤ 100000) (n2 : zs.length ≤ 100000) :
  Calls Tryz.prog 40 #[.slice a1 ys.length c1, .slice a2 zs.length c2] w fun e w' => e = .returned (.bool (decide (ys = zs))) ∧ Up Nul w w' := by
 obtain ⟨R, HE⟩ : ∃ R, R = decide (ys = zs) := ⟨_, rfl⟩
 rw [← HE]
 have HE := hid HE
 by_cases hl : ys.length = zs.length
 ·obtain ⟨L, LL⟩ : ∃ L, Hid (ys.length = L) := ⟨_, rfl⟩
  have L2 : Hid (zs.length = L) := hl.symm.trans LL.out
  have HL : Hid (L ≤ 100000) := by show _ ≤ _; rw [← LL.out]; exact n1
  have HC : Hid (∀ i (y1 : i < ys.length) (y2 : i < zs.length), ∃ g1 o1 g2 o2, a1 = some ⟨g1, o1, none⟩ ∧ a2 = some ⟨g2, o2, none⟩ ∧ ∀ W, Up Nul w W → W.cell? ⟨g1, o1 + i, none⟩ = some (.int .i64 ys[i]) ∧ W.cell? ⟨g2, o2 + i, none⟩ = some (.int .i64 zs[i])) := fun i y1 y2 => by
   rcases h1 with e | ⟨g1, o1, e1, l1, r1⟩
   ·simp [e] at y1
   ·rcases h2 with e | ⟨g2, o2, e2, l2, r2⟩
    ·simp [e] at y2
    ·exact ⟨g1, o1, g2, o2, e1, e2, fun W u => ⟨(u.cell (p := ⟨g1, o1 + i, none⟩) l1 id).trans (r1 i _ (List.getElem?_eq_getElem y1)), (u.cell (p := ⟨g2, o2 + i, none⟩) l2 id).trans (r2 i _ (List.getElem?_eq_getElem y2))⟩⟩
  rw [LL.out, L2.out]
  clear h1 h2 n1 n2 hl
  have hll : ((L : Int) == (L : Int)) = true := by simp
  go_enter Tryz.func40, Tryz.ntmps40
  go_wp2_with fail
  go_loopw [5] (fun i wr => ∃ t : Nat, t ≤ L ∧ i = .int .i64 (t : Nat) ∧ Up Nul w wr ∧ Hid (∀ j (y1 : j < ys.length) (y2 : j < zs.length), j < t → ys[j] = zs[j])) (fun i _ => L - (intOf i).toNat)
  case atStart => exact ⟨0, Nat.zero_le _, rfl, Up.refl _ _, hid fun j _ _ h => absurd h (Nat.not_lt_zero _)⟩
  case round =>
   obtain ⟨t, ht, rfl, hu, HP⟩ := hrel
   have HU := hid hu
   clear hu
   have i0 : (0 : Int) ≤ (t : Int) := by omega
   have i2 : (t : Int) ≤ 100000 := by have := HL.out; omega
   by_cases hlt : t < L
   ·have i1 : (t : Int) < (L : Int) := by omega
    have y1 : Hid (t < ys.length) := by show _ < _; rw [LL.out]; exact hlt
    have y2 : Hid (t < zs.length) := by show _ < _; rw [L2.out]; exact hlt
    obtain ⟨g1, o1, g2, o2, rfl, rfl, hc⟩ := HC.out t y1.out y2.out
    obtain ⟨k1, k2⟩ := hc _ HU.out
    obtain ⟨x, HX⟩ : ∃ x, Hid (ys[t]'y1.out = x) := ⟨_, rfl⟩
    obtain ⟨y, HY⟩ : ∃ y, Hid (zs[t]'y2.out = y) := ⟨_, rfl⟩
    rw [HX.out] at k1
    rw [HY.out] at k2
    have HT := hid hlt
    clear hc hlt ht
    by_cases hxy : x = y
    ·subst hxy
     have hxx : (x == x) = true := by simp
     go_wp2_with fail
     go_quiet (fail)
     have UQ : Hid (Up Nul w (wr.drewN nq)) := HU.out.drewN nq
     generalize wr.drewN nq = w2 at UQ ⊢
     go_wp2_with fail
     go_roundw
     case rel =>
      refine ⟨t + 1, HT.out, by go_num, UQ.out, hid fun j y1' y2' hj => ?_⟩
      by_cases hjt : j < t
      ·exact HP.out j y1' y2' hjt
      ·obtain rfl : j = t := by omega
       exact HX.out.trans HY.out.symm
     case measure => have := HT.out; simp [intOf]; omega
    ·have hxx : (x == y) = false := by simpa using hxy
     have hR : R = false := by
      rw [HE.out, decide_eq_false_iff_not]
      intro e
      subst e
      exact hxy (HX.out.symm.trans HY.out)
     go_wp2_with fail
     go_quiet (fail)
     have UQ : Hid (Up Nul w (wr.drewN nq)) := HU.out.drewN nq
     generalize wr.drewN nq = w2 at UQ ⊢
     go_wp2_with fail
     go_ret
     exact ⟨by rw [hR]; rfl, UQ.out⟩
   ·obtain rfl : t = L := by omega
    have hR : R = true := by
     rw [HE.out, decide_eq_true_iff]
     exact list_take_all LL.out L2.out (fun i a b => HP.out i a b (by rw [← LL.out]; exact a))
    go_wp2_with fail
    go_ret
    exact ⟨by rw [hR]; rfl, HU.out⟩
 ·have hR : R = false := by
   rw [HE.out, decide_eq_false_iff_not]
   exact list_ne_len hl
  have hll : (((ys.length : Nat) : Int) == ((zs.length : Nat) : Int)) = false := by simp; omega
  generalize ys.length = y at n1 hll hl ⊢
  generalize zs.length = z at n2 hll hl ⊢
  go_enter Tryz.func40, Tryz.ntmps40
  go_wp2_with fail
  go_ret
  exact ⟨by rw [hR]; rfl, Up.refl _ _⟩
theorem exec_neq (o : Oper) (ev : Operand → Value) (p q : Operand) (t t2 : TypeId) (ho : o.op = .binOp .neq t p q t2) (a b : Array Value) (ha : ev p = .agg a) (hb : ev q = .agg b) (hm : Tryz.prog.eqGuardType Tryz.prog.depth t = false) (v : Value) (w : World) (h : (binOp .neq t (.agg a) (.agg b)).run Tryz.prog w = .ok v w) :
  (execOp ev o).run Tryz.prog w = .ok (.value v) w := by
 have hg := run_eqGuard_agg (P := Tryz.prog) (w := w) .neq t p q a b hm
 unfold execOp
 simp only [ho, ha, hb]
 simp [hg, h]
theorem lo_neq (W : World) (x : Lo) : (binOp .neq 64 (.agg #[.int .i64 x.d, .int .i64 x.s, .int .i64 x.i]) (.agg #[.int .i64 x.d, .int .i64 x.s, .int .i64 x.i])).run Tryz.prog W = .ok (.bool false) W := by
 rw [run_neq_struct]
 go_simp
theorem lo_neq2 (W : World) (x y : Lo) (h : ¬ x = y) : (binOp .neq 64 (.agg #[.int .i64 x.d, .int .i64 x.s, .int .i64 x.i]) (.agg #[.int .i64 y.d, .int .i64 y.s, .int .i64 y.i])).run Tryz.prog W = .ok (.bool true) W := by
 rw [run_neq_struct]
 have h3 : ¬ (x.d = y.d ∧ x.s = y.s ∧ x.i = y.i) := by
  obtain ⟨a, b, c⟩ := x
  obtain ⟨a', b', c'⟩ := y
  rintro ⟨rfl, rfl, rfl⟩
  exact h rfl
 by_cases h1 : x.d = y.d
 ·by_cases h2 : x.s = y.s
  ·have h4 : (x.i == y.i) = false := by simpa using fun e => h3 ⟨h1, h2, e⟩
   rw [h1, h2]
   go_simp
  ·have h4 : (x.s == y.s) = false := by simpa using h2
   rw [h1]
   go_simp
 ·have h4 : (x.d == y.d) = false := by simpa using h1
  go_simp
theorem Lo_dec (x y : Lo) : x = y ↔ (x.d = y.d ∧ x.s = y.s ∧ x.i = y.i) := by
 obtain ⟨a, b, c⟩ := x
 obtain ⟨a', b', c'⟩ := y
 simp
instance : DecidableEq Lo := fun x y => decidable_of_iff _ (Lo_dec x y).symm
end Go.Proofs.YtepggchnhgpcnaaGreatDoor
