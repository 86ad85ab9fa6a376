/- The document's RecBytes of Kind 4. -/
import Derived.Test.YtpdkcpjofofkoaaDoorPkTidy
import Derived.Test.YtpdkcpjofofkoaaDoorPq3
set_option maxRecDepth 100000
namespace Go.Proofs.YtpdkcpjofofkoaaDoor
open Go.RowKit
set_option linter.unusedVariables false
set_option linter.unusedSimpArgs false
set_option maxHeartbeats 8000000 in
theorem rby4 (r : Rc) (sa la : Option Addr) (sc lc : Nat) (w : World) (hR : RH w r sa la) (F : OkF r) (hk : r.kind = 4) :
  Calls Tryd.prog 12 #[rv r (.slice sa r.sids.length sc) (.slice la r.locs.length lc)] w fun e w' => e = .returned (.string (strOf (encR r))) ∧ Up Nul w w' := by
 obtain ⟨i1, i2, i3, i4, i5, i6, i7, i8, i9, i10, i11, i12, i13, i14, i15⟩ := (okF4 hk).1 F
 obtain ⟨R, HE0⟩ : ∃ R, R = strOf (encR r) := ⟨_, rfl⟩
 rw [← HE0]
 have HE : Hid (R = strOf ([4] ++ (r.key.size :: nums r.key) ++ w4 r.sid.toNat ++ wds r.sids ++ los r.locs)) := by
  show R = _
  rw [HE0]
  have e : kn r = 4 := by simp [kn, hk]
  unfold encR
  rw [e, hk]
  have w1 : wds [r.sid] = w4 r.sid.toNat := by simp [wds]
  simp [opt, sh, shT, List.append_assoc, w1]
 have HR := hid hR
 have HK1 := hid hk
 have HN := hid i3
 have HSD := hid i4
 have HCO := hid i5
 have HNS := hid i6
 have HS7 := hid i7
 have HNL := hid i8
 have HL9 := hid i9
 have HTB := hid (And.intro i10 (And.intro i11 (And.intro i12 (And.intro i13 (And.intro i14 i15)))))
 have HKZ := hid i1
 clear hR hk HE0 F i1 i2 i3 i4 i5 i6 i7 i8 i9 i10 i11 i12 i13 i14 i15
 obtain ⟨W1, hW1⟩ : ∃ W, W = w.alloc (.cells (rcellsL r (.slice sa r.sids.length sc) (.slice la r.locs.length lc)) 27) := ⟨_, rfl⟩
 have U1 : Hid (Up Nul w W1) := by show Up _ _ _; rw [hW1]; exact (Up.refl Nul w).alloc _
 have B1 : Hid (RB W1 w.heap.size r (.slice sa r.sids.length sc) (.slice la r.locs.length lc)) := by show RB _ _ _ _ _; rw [hW1]; exact RB.new _ _ _ _
 go_enter Tryd.func12, Tryd.ntmps12
 go_upto_region 1 with fail
 rw [← hW1]
 clear hW1
 obtain ⟨p, hpe⟩ : ∃ p, p = w.heap.size := ⟨_, rfl⟩
 rw [← hpe] at B1 ⊢
 clear hpe
 have x0 := B1.out.cells.1
 have hk := HK1.out
 go_wp2_with fail
 refine (names4 _).mono ?_
 rintro e w2 ⟨rfl, u2⟩
 go_upto_region 2 with fail
 obtain ⟨W4, hW4⟩ : ∃ W, W = w2.alloc (.cells #[.bool (nmB 4 0), .bool (nmB 4 1), .bool (nmB 4 2), .bool (nmB 4 3), .bool (nmB 4 4)] 63) := ⟨_, rfl⟩
 have u4 : Up Nul w2 W4 := by rw [hW4]; exact (Up.refl Nul w2).alloc _
 have hq : W4.heap[w2.heap.size]? = some (.cells #[.bool true, .bool false, .bool true, .bool false, .bool false] 63 (0, 0)) := by rw [hW4]; exact heap_alloc_new _ _
 obtain ⟨q, hqe⟩ : ∃ q, q = w2.heap.size := ⟨_, rfl⟩
 rw [← hqe] at hq ⊢
 have HQ0 : Hid (∀ W, Up Nul W4 W → W.heap[q]? = some (.cells #[.bool true, .bool false, .bool true, .bool false, .bool false] 63 (0, 0))) := fun W u => (u.block _ (Array.getElem?_eq_some_iff.1 hq).1 id).trans hq
 have HB : Hid (∀ W, Up Nul W4 W → RB W p r (.slice sa r.sids.length sc) (.slice la r.locs.length lc)) := fun W u => B1.out.nxt ((u2.trans u4).trans u)
 have HU : Hid (∀ W, Up Nul W4 W → Up Nul w W) := fun W u => (U1.out.trans (u2.trans u4)).trans u
 rw [← hW4]
 clear hW4 hq hqe u2 u4 B1 U1 x0
 have V0 := hid (Up.refl Nul W4)
 have x0 := (HB.out _ V0.out).cells.1
 go_wp2_with fail
 refine (one_s _ (by omega) (by omega) _).mono ?_
 rintro e w3 ⟨s0, rfl, hs0, u3⟩
 have HZ0 : Hid (s0 = strOf [4]) := hs0
 have hz0 : s0.size = 1 := by rw [hs0, strOf_size]; rfl
 have V1 := hid (V0.out.trans u3)
 clear V0 u3 hs0 x0

 obtain ⟨n0, n1, n2, n3, n4⟩ := b5_cells (HQ0.out _ V1.out)
 obtain ⟨x0, x1, x2, x3, x4, x5, x6, x7, x8, x9, x10, x11, x12⟩ := (HB.out _ V1.out).cells
 go_upto_region 4 with fail
 clear n0 n1 n2 n3 n4 x0 x1 x2 x3 x4 x5 x6 x7 x8 x9 x10 x11 x12
 have kz := HKZ.out
 have HX1 : Hid (∀ W, Up Nul w3 W → W.cell? ⟨p, 1, none⟩ = some (.string r.key)) := fun W u => (HB.out W (V1.out.trans u)).cells.2.1
 refine wp_region_held_drew (S := (fun W => Up Nul w3 W)) (by kernel_rfl) (by exact (Up.refl Nul w3).drew) (fun hHeld => ?_)
 refine tkl 0 (some 17) ?vy1 rfl ?yy1 ?ry1
 case yy1 => (intro w hSw; (try dsimp only at hSw); go_simp; try with_reducible rfl)
 try simp only [tdy]
 refine tkl 1 (some 18) ?vy2 rfl ?yy2 ?ry2
 case yy2 => (intro w hSw; (try dsimp only at hSw); go_simp; try with_reducible rfl)
 try simp only [tdy]
 refine tkl 2 (some 19) ?vy3 rfl ?yy3 ?ry3
 case yy3 => (intro w hSw; (try dsimp only at hSw); have a := HX1.out w hSw; go_simp; try with_reducible rfl)
 try simp only [tdy]
 refine tkl 3 (some 20) ?vy4 rfl ?yy4 ?ry4
 case yy4 => (intro w hSw; (try dsimp only at hSw); go_simp; try with_reducible rfl)
 try simp only [tdy]
 refine tkl 6 (some 23) ?vy5 rfl ?yy5 ?ry5
 case yy5 => (intro w hSw; (try dsimp only at hSw); go_simp; try with_reducible rfl)
 try simp only [tdy]
 refine tkl 7 (some 24) ?vy6 rfl ?yy6 ?ry6
 case yy6 => (intro w hSw; (try dsimp only at hSw); have a := HX1.out w hSw; go_simp; try with_reducible rfl)
 try simp only [tdy]
 refine one 4 (some 21) rfl (fun K hK => ?_)
 go_simp
 go_at_call 33
 refine (one_s _ (by omega) (by omega) _).mono ?_
 rintro e wb ⟨o0, rfl, ho, kb⟩
 have zo0 : o0.size = 1 := by rw [ho, strOf_size]; rfl
 have HO0 := hid ho
 have hsum0 : ¬ 9223372036854775807 < s0.size + o0.size := by omega
 have hsum1 : ¬ 9223372036854775807 < (s0 ++ o0).size + r.key.size := by rw [ByteArray.size_append]; omega
 have hsum2 : ¬ 9223372036854775807 < 2 + r.key.size := by omega
 clear ho
 refine hK.out _ _ ?ky7x (fun hHeld => ?_)
 case ky7x => exact (Up.trans (show Up Nul w3 _ from hHeld) kb)
 clear hK K
 try simp only [tdy]
 refine tkl 5 (some 22) ?vy8 rfl ?yy8 ?ry8
 case yy8 => (intro w hSw; (try dsimp only at hSw); go_simp; try with_reducible rfl)
 try simp only [tdy]
 refine tkl 8 (some 25) ?vy9 rfl ?yy9 ?ry9
 case yy9 => (intro w hSw; (try dsimp only at hSw); go_simp; try with_reducible rfl)
 try simp only [tdy]
 refine tkl 9 (some 4) ?vy10 rfl ?yy10 ?ry10
 case yy10 => (intro w hSw; (try dsimp only at hSw); go_simp; try with_reducible rfl)
 try simp only [tdy]
 refine wpAnyH_done (by kernel_rfl) ?_ _
 have V2 := hid (V1.out.trans (show Up Nul w3 _ from hHeld))
 clear hHeld
 repeat clear hHeld
 obtain ⟨s1, hs1⟩ : ∃ s, s = s0 ++ o0 ++ r.key := ⟨_, rfl⟩
 rw [← hs1]
 have HZ1 : Hid (s1 = strOf ([4] ++ (r.key.size :: nums r.key))) := by
  show _ = _
  have hkey : r.key = strOf (nums r.key) := (strOf_nums r.key).symm
  have h3 := cat_s hs1 (cat_s rfl HZ0.out HO0.out) hkey
  rw [Int.toNat_natCast] at h3
  simpa using h3
 have hz1 : s1.size ≤ 18 := by rw [hs1, ByteArray.size_append, ByteArray.size_append]; omega
 clear hs1 zo0 hsum0 hsum1 hsum2 kz HX1 V1
 obtain ⟨n0, n1, n2, n3, n4⟩ := b5_cells (HQ0.out _ V2.out)
 obtain ⟨x0, x1, x2, x3, x4, x5, x6, x7, x8, x9, x10, x11, x12⟩ := (HB.out _ V2.out).cells
 go_wp2_with fail
 refine (four_s _ (by have := HSD.out; omega) (by have := HSD.out; omega) _).mono ?_
 rintro e w12 ⟨o1, rfl, ho, u3⟩
 have HO1 : Hid (o1 = strOf (w4 r.sid.toNat)) := ho
 have zo1 : o1.size = 4 := by rw [ho, strOf_size]; rfl
 have hsum1 : ¬ 9223372036854775807 < s1.size + o1.size := by omega
 have V3 := hid (V2.out.trans u3)
 clear V2 u3 ho
 clear n0 n1 n2 n3 n4 x0 x1 x2 x3 x4 x5 x6 x7 x8 x9 x10 x11 x12
 obtain ⟨n0, n1, n2, n3, n4⟩ := b5_cells (HQ0.out _ V3.out)
 obtain ⟨x0, x1, x2, x3, x4, x5, x6, x7, x8, x9, x10, x11, x12⟩ := (HB.out _ V3.out).cells
 go_wp2_with fail
 obtain ⟨s2, hs2⟩ : ∃ s, s = s1 ++ o1 := ⟨_, rfl⟩
 rw [← hs2]
 have HZ2 : Hid (s2 = strOf ([4] ++ (r.key.size :: nums r.key) ++ w4 r.sid.toNat)) := cat_s hs2 HZ1.out HO1.out
 have hz2 : s2.size ≤ 22 := by rw [hs2, ByteArray.size_append]; omega
 clear hs2 zo1 hsum1
 clear n0 n1 n2 n3 n4 x0 x1 x2 x3 x4 x5 x6 x7 x8 x9 x10 x11 x12

 obtain ⟨ns, hns⟩ : ∃ ns, r.sids.length = ns := ⟨_, rfl⟩
 have HNN := hid hns
 have hn3 : (ns : Int) ≤ 3 := by have := HNS.out; rw [hns] at this; omega
 have HVB := hid (HU.out _ V3.out)
 have HBB := hid (HB.out _ V3.out)
 have HQB := hid (HQ0.out _ V3.out)
 have HSS : Hid (s2.size ≤ 22) := by show _ ≤ _; omega
 clear hns hz2 HU HB HQ0 V3
 go_loopw [4, 5] (fun s i wr => ∃ (t : Nat) (x : ByteArray), i = .int .i64 (t : Nat) ∧ t ≤ ns ∧ s = .string x ∧ Hid (x = strOf ([4] ++ (r.key.size :: nums r.key) ++ w4 r.sid.toNat ++ wds (r.sids.take t))) ∧ Hid (x.size ≤ 22 + 4 * t) ∧ Hid (Up Nul w wr) ∧ Hid (RB wr p r (.slice sa r.sids.length sc) (.slice la r.locs.length lc)) ∧ Hid (wr.heap[q]? = some (.cells #[.bool true, .bool false, .bool true, .bool false, .bool false] 63 (0, 0)))) (fun _ i _ => ns - (intOf i).toNat)
 case atStart => exact ⟨0, s2, rfl, Nat.zero_le _, rfl, by show _ = _; rw [HZ2.out]; simp [wds], by show _ ≤ _; have := HSS.out; omega, HVB, HBB, HQB⟩
 case round =>
  obtain ⟨t, x, rfl, ht, rfl, HX, HXS, HVR, HBR, HQR⟩ := hrel
  have i0 : (0 : Int) ≤ (t : Int) := by omega
  have x4 := HBR.out.cells.2.2.2.2.1
  rw [HNN.out] at x4
  by_cases hd : t < ns
  ·have j1 : (t : Int) < (ns : Int) := by omega
   obtain ⟨y, hy⟩ : ∃ y, r.sids[t]? = some y := ⟨_, List.getElem?_eq_getElem (by rw [HNN.out]; exact hd)⟩
   rcases HR.out.s.nxt HVR.out with e0 | ⟨g, o, rfl, hg, hrow⟩
   ·rw [e0] at hy; simp at hy
   have hcy := hrow t y hy
   have HY := hid hy
   have HL := hid hd
   have hy7 := HS7.out y (List.mem_of_getElem? hy)
   clear hy hrow hg hd ht
   go_wp2_with fail
   refine (four_s _ (by omega) (by omega) _).mono ?_
   rintro e w20 ⟨o20, rfl, ho, u20⟩
   have HO := hid ho
   have zo : o20.size = 4 := by rw [ho, strOf_size]; rfl
   have zx := HXS.out
   have hsum : ¬ 9223372036854775807 < x.size + o20.size := by have := HL.out; omega
   obtain ⟨x2, hx2⟩ : ∃ x2, x2 = x ++ o20 := ⟨_, rfl⟩
   have HX2 : Hid (x2 = strOf ([4] ++ (r.key.size :: nums r.key) ++ w4 r.sid.toNat ++ wds (r.sids.take (t + 1)))) := by show _ = _; rw [wds_take HY.out, ← List.append_assoc]; exact cat_s hx2 HX.out HO.out
   have HX3 : Hid (x2.size ≤ 22 + 4 * (t + 1)) := by show _ ≤ _; rw [hx2, ByteArray.size_append]; omega
   clear ho zx
   go_wp2_with fail
   rw [← hx2]
   clear hx2 hsum
   go_roundw
   case rel => exact ⟨t + 1, x2, by go_num, HL.out, rfl, HX2, HX3, hid (HVR.out.trans u20), hid (HBR.out.nxt u20), hid ((u20.block q (Array.getElem?_eq_some_iff.1 HQR.out).1 id).trans HQR.out)⟩
   case measure => have := HL.out; simp [intOf]; omega
  ·obtain rfl : t = ns := by omega
   have HZA : Hid (x = strOf ([4] ++ (r.key.size :: nums r.key) ++ w4 r.sid.toNat ++ wds r.sids)) := by show _ = _; rw [HX.out, List.take_of_length_le (by rw [HNN.out]; omega)]
   have HXL : Hid (x.size ≤ 22 + 12) := by show _ ≤ _; have := HXS.out; omega
   have j1 : ¬ (t : Int) < (t : Int) := by omega
   clear hd HX HXS ht
   have x0 := HBR.out.cells.1
   go_wp2_with fail
   clear x4 x0
   obtain ⟨nl, hnl⟩ : ∃ nl, r.locs.length = nl := ⟨_, rfl⟩
   have HNM := hid hnl
   have hl12 : (nl : Int) ≤ 12 := by have := HNL.out; rw [hnl] at this; omega
   clear hnl
   go_loopw [4, 6] (fun s i wr => ∃ (t : Nat) (x : ByteArray), i = .int .i64 (t : Nat) ∧ t ≤ nl ∧ s = .string x ∧ Hid (x = strOf ([4] ++ (r.key.size :: nums r.key) ++ w4 r.sid.toNat ++ wds r.sids ++ los (r.locs.take t))) ∧ Hid (x.size ≤ 60 + 6 * t) ∧ Hid (Up Nul w wr) ∧ Hid (RB wr p r (.slice sa r.sids.length sc) (.slice la r.locs.length lc)) ∧ Hid (wr.heap[q]? = some (.cells #[.bool true, .bool false, .bool true, .bool false, .bool false] 63 (0, 0)))) (fun _ i _ => nl - (intOf i).toNat)
   case atStart => exact ⟨0, _, rfl, Nat.zero_le _, rfl, by show _ = _; rw [HZA.out]; simp [los], by show _ ≤ _; have := HXL.out; omega, HVR, HBR, HQR⟩
   case round =>
    obtain ⟨t2, x, rfl, ht2, rfl, HX, HXS, HVR, HBR, HQR⟩ := hrel
    have i2 : (0 : Int) ≤ (t2 : Int) := by omega
    have x6 := HBR.out.cells.2.2.2.2.2.2.1
    rw [HNM.out] at x6
    by_cases hd : t2 < nl
    ·have j2 : (t2 : Int) < (nl : Int) := by omega
     obtain ⟨l, hl⟩ : ∃ l, r.locs[t2]? = some l := ⟨_, List.getElem?_eq_getElem (by rw [HNM.out]; exact hd)⟩
     rcases HR.out.l.nxt HVR.out with e0 | ⟨g, o, rfl, hg, hrow⟩
     ·rw [e0] at hl; simp at hl
     obtain ⟨⟨d1, d2⟩, ⟨d3, d4⟩, d5, d6⟩ := HL9.out l (List.mem_of_getElem? hl)
     have HY := hid hl
     have HY0 := hid (fun (W : World) (u : Up Nul wr W) => (u.cell (p := ⟨g, o + t2 * 3 + 0, none⟩) hg id).trans (hrow t2 l hl 0 (.int .i64 l.d) rfl))
     have HY1 := hid (fun (W : World) (u : Up Nul wr W) => (u.cell (p := ⟨g, o + t2 * 3 + 1, none⟩) hg id).trans (hrow t2 l hl 1 (.int .i64 l.s) rfl))
     have HY2 := hid (fun (W : World) (u : Up Nul wr W) => (u.cell (p := ⟨g, o + t2 * 3 + 2, none⟩) hg id).trans (hrow t2 l hl 2 (.int .i64 l.i) rfl))
     simp only [Nat.add_zero] at HY0
     have H6 := hid (fun (W : World) (u : Up Nul wr W) => (u.cell (p := ⟨p, 6, none⟩) HBR.out.lt id).trans x6)
     have HLT := hid hd
     have hbx : Hid (x.size ≤ 132) := by show _ ≤ _; have := HXS.out; omega
     clear hl hrow hg hd ht2
     go_upto_region 20 with fail
     clear x6
     refine wp_region_held_drew (S := (fun W => Up Nul wr W)) (by kernel_rfl) (by exact (Up.refl Nul wr).drew) (fun hHeld => ?_)
     refine tkl 0 (some 78) ?vz1 rfl ?yz1 ?rz1
     case yz1 => (intro w hSw; (try dsimp only at hSw); go_simp; try with_reducible rfl)
     try simp only [tdy]
     refine tkl 1 (some 79) ?vz2 rfl ?yz2 ?rz2
     case yz2 => (intro w hSw; (try dsimp only at hSw); go_simp; try with_reducible rfl)
     try simp only [tdy]
     refine tkl 2 (some 80) ?vz3 rfl ?yz3 ?rz3
     case yz3 => (intro w hSw; (try dsimp only at hSw); have a := H6.out w hSw; go_simp; try with_reducible rfl)
     try simp only [tdy]
     refine tkl 3 (some 81) ?vz4 rfl ?yz4 ?rz4
     case yz4 => (intro w hSw; (try dsimp only at hSw); go_simp; try with_reducible rfl)
     try simp only [tdy]
     refine tkl 4 (some 82) ?vz5 rfl ?yz5 ?rz5
     case yz5 => (intro w hSw; (try dsimp only at hSw); go_simp; try with_reducible rfl)
     try simp only [tdy]
     refine tkl 5 (some 83) ?vz6 rfl ?yz6 ?rz6
     case yz6 => (intro w hSw; (try dsimp only at hSw); go_simp; try with_reducible rfl)
     try simp only [tdy]
     refine tkl 6 (some 84) ?vz7 rfl ?yz7 ?rz7
     case yz7 => (intro w hSw; (try dsimp only at hSw); have a := HY0.out w hSw; go_simp; try with_reducible rfl)
     try simp only [tdy]
     refine tkl 9 (some 87) ?vz8 rfl ?yz8 ?rz8
     case yz8 => (intro w hSw; (try dsimp only at hSw); go_simp; try with_reducible rfl)
     try simp only [tdy]
     refine tkl 10 (some 88) ?vz9 rfl ?yz9 ?rz9
     case yz9 => (intro w hSw; (try dsimp only at hSw); have a := H6.out w hSw; go_simp; try with_reducible rfl)
     try simp only [tdy]
     refine tkl 11 (some 89) ?vz10 rfl ?yz10 ?rz10
     case yz10 => (intro w hSw; (try dsimp only at hSw); go_simp; try with_reducible rfl)
     try simp only [tdy]
     refine tkl 12 (some 90) ?vz11 rfl ?yz11 ?rz11
     case yz11 => (intro w hSw; (try dsimp only at hSw); go_simp; try with_reducible rfl)
     try simp only [tdy]
     refine tkl 13 (some 91) ?vz12 rfl ?yz12 ?rz12
     case yz12 => (intro w hSw; (try dsimp only at hSw); go_simp; try with_reducible rfl)
     try simp only [tdy]
     refine tkl 14 (some 92) ?vz13 rfl ?yz13 ?rz13
     case yz13 => (intro w hSw; (try dsimp only at hSw); have a := HY1.out w hSw; go_simp; try with_reducible rfl)
     try simp only [tdy]
     refine tkl 17 (some 95) ?vz14 rfl ?yz14 ?rz14
     case yz14 => (intro w hSw; (try dsimp only at hSw); go_simp; try with_reducible rfl)
     try simp only [tdy]
     refine tkl 18 (some 96) ?vz15 rfl ?yz15 ?rz15
     case yz15 => (intro w hSw; (try dsimp only at hSw); have a := H6.out w hSw; go_simp; try with_reducible rfl)
     try simp only [tdy]
     refine tkl 19 (some 97) ?vz16 rfl ?yz16 ?rz16
     case yz16 => (intro w hSw; (try dsimp only at hSw); go_simp; try with_reducible rfl)
     try simp only [tdy]
     refine tkl 20 (some 98) ?vz17 rfl ?yz17 ?rz17
     case yz17 => (intro w hSw; (try dsimp only at hSw); go_simp; try with_reducible rfl)
     try simp only [tdy]
     refine tkl 21 (some 99) ?vz18 rfl ?yz18 ?rz18
     case yz18 => (intro w hSw; (try dsimp only at hSw); go_simp; try with_reducible rfl)
     try simp only [tdy]
     refine tkl 22 (some 100) ?vz19 rfl ?yz19 ?rz19
     case yz19 => (intro w hSw; (try dsimp only at hSw); have a := HY2.out w hSw; go_simp; try with_reducible rfl)
     try simp only [tdy]
     refine one 7 (some 85) rfl (fun K hK => ?_)
     go_simp
     go_at_call 33
     refine (one_s _ (by omega) (by omega) _).mono ?_
     rintro e wb85 ⟨o85, rfl, ho, kb⟩
     have HO85 := hid ho
     have HZ85 : Hid (o85.size = 1) := by show _ = _; rw [ho, strOf_size]; rfl
     have hs85 : ¬ 9223372036854775807 < x.size + o85.size := by have := hbx.out; have := HZ85.out; omega
     clear ho
     refine hK.out _ _ ?kz20x (fun hHeld => ?_)
     case kz20x => exact (Up.trans (show Up Nul wr _ from hHeld) kb)
     clear hK K
     try simp only [tdy]
     refine tkl 8 (some 86) ?vz21 rfl ?yz21 ?rz21
     case yz21 => (intro w hSw; (try dsimp only at hSw); go_simp; try with_reducible rfl)
     try simp only [tdy]
     refine one 15 (some 93) rfl (fun K hK => ?_)
     go_simp
     go_at_call 33
     refine (one_s _ (by omega) (by omega) _).mono ?_
     rintro e wb93 ⟨o93, rfl, ho, kb⟩
     have HO93 := hid ho
     have HZ93 : Hid (o93.size = 1) := by show _ = _; rw [ho, strOf_size]; rfl
     have hs93 : ¬ 9223372036854775807 < x.size + o85.size + o93.size := by have := hbx.out; have := HZ85.out; have := HZ93.out; omega
     clear ho
     refine hK.out _ _ ?kz22x (fun hHeld => ?_)
     case kz22x => exact (Up.trans (show Up Nul wr _ from hHeld) kb)
     clear hK K
     try simp only [tdy]
     refine tkl 16 (some 94) ?vz23 rfl ?yz23 ?rz23
     case yz23 => (intro w hSw; (try dsimp only at hSw); go_simp; try with_reducible rfl)
     try simp only [tdy]
     refine one 23 (some 101) rfl (fun K hK => ?_)
     go_simp
     go_at_call 34
     refine (four_s _ (by omega) (by omega) _).mono ?_
     rintro e wb101 ⟨o101, rfl, ho, kb⟩
     have HO101 := hid ho
     have HZ101 : Hid (o101.size = 4) := by show _ = _; rw [ho, strOf_size]; rfl
     have hs101 : ¬ 9223372036854775807 < x.size + o85.size + o93.size + o101.size := by have := hbx.out; have := HZ85.out; have := HZ93.out; have := HZ101.out; omega
     clear ho
     refine hK.out _ _ ?kz24x (fun hHeld => ?_)
     case kz24x => exact (Up.trans (show Up Nul wr _ from hHeld) kb)
     clear hK K
     try simp only [tdy]
     refine tkl 24 (some 102) ?vz25 rfl ?yz25 ?rz25
     case yz25 => (intro w hSw; (try dsimp only at hSw); go_simp; try with_reducible rfl)
     try simp only [tdy]
     refine tkl 25 (some 4) ?vz26 rfl ?yz26 ?rz26
     case yz26 => (intro w hSw; (try dsimp only at hSw); go_simp; try with_reducible rfl)
     try simp only [tdy]
     refine wpAnyH_done (by kernel_rfl) ?_ _
     obtain ⟨x2, hx2⟩ : ∃ x2, x2 = x ++ o85 ++ o93 ++ o101 := ⟨_, rfl⟩
     rw [← hx2]
     have HX2 : Hid (x2 = strOf ([4] ++ (r.key.size :: nums r.key) ++ w4 r.sid.toNat ++ wds r.sids ++ los (r.locs.take (t2 + 1)))) := by
      show _ = _
      rw [los_take HY.out]
      have h3 := cat_s hx2 (cat_s rfl (cat_s rfl HX.out HO85.out) HO93.out) HO101.out
      rw [h3]
      simp [loB, List.append_assoc]
     have HX3 : Hid (x2.size ≤ 60 + 6 * (t2 + 1)) := by show _ ≤ _; rw [hx2, ByteArray.size_append, ByteArray.size_append, ByteArray.size_append, HZ85.out, HZ93.out, HZ101.out]; have := HXS.out; omega
     have V9 := hid (show Up Nul wr _ from hHeld)
     clear hHeld
     repeat clear hHeld
     clear hx2 hs85 hs93 hs101 d1 d2 d3 d4 d5 d6
     go_wp2_with fail
     go_roundw
     case rel => exact ⟨t2 + 1, x2, by go_num, HLT.out, rfl, HX2, HX3, hid (HVR.out.trans V9.out), hid (HBR.out.nxt V9.out), hid ((V9.out.block q (Array.getElem?_eq_some_iff.1 HQR.out).1 id).trans HQR.out)⟩
     case measure => have := HLT.out; simp [intOf]; omega
    ·obtain rfl : t2 = nl := by omega
     have HZC : Hid (x = strOf ([4] ++ (r.key.size :: nums r.key) ++ w4 r.sid.toNat ++ wds r.sids ++ los r.locs)) := by show _ = _; rw [HX.out, List.take_of_length_le (by rw [HNM.out]; omega)]
     have HXN : Hid (x.size ≤ 132) := by show _ ≤ _; have := HXS.out; omega
     have j2 : ¬ (t2 : Int) < (t2 : Int) := by omega
     obtain ⟨n0, n1, n2, n3, n4⟩ := b5_cells HQR.out
     clear hd HX HXS ht2
     go_wp2_with fail
     go_ret
     exact ⟨by rw [HE.out, HZC.out]; first | rfl | simp [List.append_assoc], HVR.out⟩

 trace_state
end Go.Proofs.YtpdkcpjofofkoaaDoor
