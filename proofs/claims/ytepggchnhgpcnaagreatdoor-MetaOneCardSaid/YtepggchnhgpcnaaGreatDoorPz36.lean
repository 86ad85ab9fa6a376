/- 'MetaOne'. -/
import Derived.Test.YtepggchnhgpcnaaGreatDoorPkTidy
import Derived.Test.YtepggchnhgpcnaaGreatDoorPz35
import Derived.Test.YtepggchnhgpcnaaGreatDoorPz32
import Derived.Deep.CutBlock
import Derived.Deep.DeepCutAuto
namespace Go.Proofs.YtepggchnhgpcnaaGreatDoor
open Go.RowKit Go.Maps Go.Sort
set_option linter.unusedVariables false

set_option maxRecDepth 10000 in
set_option maxHeartbeats 40000000 in
theorem one_any (hf : FitC) (a0 : Option Addr) (l0 c0 : Nat) (w : World) (hS : Shp w) (hc : CamR w a0 l0 c0) :
  Calls Tryz.prog 4 #[.slice a0 l0 c0] w fun e w' => e = .returned (.bool true) ∧ Up Nul w w' := by
 have HS := hid hS
 have HC := hid hc
 have HFC : Hid FitC := @hf
 clear hS hc hf
 go_enter Tryz.func4, Tryz.ntmps4
 go_wp2_with fail
 refine (new_any w).mono ?_
 rintro e w1 ⟨p, bm, bs, rfl, h1, u1⟩
 have H1 := hid h1
 have HU1 := hid u1
 clear h1 u1
 go_wp2_with fail
 refine (rnew_any w1).mono ?_
 rintro e w2 ⟨q, rfl, hq1, hq2, hr, u2⟩
 have HB := hid (BB.first H1.out HU1.out hq1 hq2 hr u2)
 clear hq1 hq2 hr u2 H1 HU1
 go_upto_block 0 with fail
 go_cut [] (fun wx => ∃ M F1 F2, BB w wx F1 F2 p bm bs q 720 M)
 case first =>
  as_aux_lemma =>
   go_wp2_with fail
   go_loopw [5] (fun i wr => ∃ (t : Nat) (M : MM) (F1 F2 : Nat → Prop), t ≤ 60 ∧ i = .int .i64 (t : Nat) ∧ BB w wr F1 F2 p bm bs q (12 * t) M) (fun i _ => 60 - (intOf i).toNat)
   case atStart => exact ⟨0, _, _, _, by omega, rfl, HB.out⟩
   case round =>
    obtain ⟨t, M, F1, F2, ht, rfl, hb⟩ := hrel
    have HBB := hid hb
    have i0 : (0 : Int) ≤ (t : Int) := by omega
    have i9 : (t : Int) ≤ 60 := by omega
    have HT := hid ht
    clear hb ht
    by_cases hlt : t < l0
    ·have i2 : (t : Int) < (l0 : Int) := by omega
     by_cases h60 : t < 60
     ·have i3 : (t : Int) < 60 := by omega
      obtain ⟨g, o, ea, el, ec, z, ha0, hcell, hci⟩ := HC.out.at_ hlt
      subst ha0
      have hcell2 := (HBB.out.up.cell (p := ⟨g, o + t, none⟩) (lt_of_cell hcell) id).trans hcell
      have HFIT := hid (BB.fit (@Hid.out FitC HFC) HBB.out (by omega) ea el ec z (came_nx hci HBB.out.up))
      have HT60 := hid h60
      clear hcell hci hlt h60
      go_wp2_with fail
      refine HFIT.out.mono ?_
      rintro e w3 ⟨r, sa, sc, la, lc, rfl, hx⟩
      have hbr := BR.of HBB.out hx
      obtain ⟨w4, hw4⟩ : ∃ W, W = w3.alloc (.cells (rcellsL r (.slice sa r.sids.length sc) (.slice la r.locs.length lc)) 28) := ⟨_, rfl⟩
      obtain ⟨pb, hpb⟩ : ∃ x, x = w3.heap.size := ⟨_, rfl⟩
      rw [← hw4, ← hpb] at hbr
      have hw5 : w4 = w3.alloc (.cells #[.int .i64 r.kind, .string r.key, .int .i64 r.n, .int .i64 r.sid, .slice sa r.sids.length sc, .int .i64 r.colour, .slice la r.locs.length lc, .int .i64 r.t.hot, .int .i64 r.t.warm, .int .i64 r.t.gap, .int .i64 r.t.add, .int .i64 r.t.top, .int .i64 r.t.half] 28) := hw4
      have HBR := hid hbr
      clear hbr hx hw4 HFIT hcell2
      go_upto_region 9 with fail
      rw [← hw5, ← hpb]
      clear hw5 hpb
      obtain ⟨x0, x1, x2, x3, x4, x5, x6, x7, x8, x9, x10, x11, x12⟩ := HBR.out.rb.cells
      go_wp2_with fail
      refine (HBR.out.mapply HS.out (by omega)).mono ?_
      rintro e w6 ⟨rfl, hba⟩
      have HBA := hid hba
      clear hba HBR x0 x1 x2 x3 x4 x5 x6 x7 x8 x9 x10 x11 x12
      obtain ⟨x0, x1, x2, x3, x4, x5, x6, x7, x8, x9, x10, x11, x12⟩ := HBA.out.rb.cells
      go_upto_region 10 with fail
      go_wp2_with fail
      refine (HBA.out.rapply (by omega)).mono ?_
      rintro e w7 ⟨x, F1', F2', rfl, hb7⟩
      have HB7 := hid hb7
      clear hb7 HBA x0 x1 x2 x3 x4 x5 x6 x7 x8 x9 x10 x11 x12
      go_wp2_with fail
      go_roundw
      case rel => exact ⟨t + 1, _, F1', F2', by have := HT60.out; omega, by go_num, HB7.out⟩
      case measure => have := HT60.out; simp [intOf]; omega
     ·have i3 : ¬ (t : Int) < 60 := by omega
      have e60 : t = 60 := by have := HT.out; omega
      have HE : Hid (∃ M F1 F2, BB w wr F1 F2 p bm bs q 720 M) := by subst e60; exact ⟨M, F1, F2, HBB.out⟩
      clear hlt h60 e60
      go_wp2_with fail
      go_meet
      exact HE.out
    ·have i2 : ¬ (t : Int) < (l0 : Int) := by omega
     clear hlt
     have HE : Hid (∃ M F1 F2, BB w wr F1 F2 p bm bs q 720 M) := ⟨M, F1, F2, HBB.out.mono (by have := HT.out; omega)⟩
     go_wp2_with fail
     go_meet
     exact HE.out
 case rest =>
  obtain ⟨M, F1, F2, hb⟩ := hcut
  have HBB := hid hb
  clear hb HB
  obtain ⟨Q, hm⟩ := HBB.out.m
  have HM := hid hm
  have HI := hid HBB.out.i
  have HU := hid HBB.out.up
  clear hm HBB
  go_wp2_with fail
  refine (keys_any HM.out (by omega)).mono ?_
  rintro e w3 ⟨vk, ks, rfl, hko, hks, hkl, u3⟩
  obtain ⟨ka, kc, rfl, _, hkr, _⟩ := ownsRow.rd (ownK hko) (kcells_one ks)
  have HM3 := hid (HM.out.nxt u3)
  have HKR0 := hid hkr
  have HKS := hid hks
  have HU3 := hid (HU.out.trans u3)
  obtain ⟨nk, NK⟩ : ∃ x, Hid (ks.length = x) := ⟨_, rfl⟩
  rw [NK.out] at HKR0 hkl ⊢
  have HNK := hid hkl
  clear hko hks hkl u3 hkr HM HU
  go_wp2_with fail
  refine (sids_any HM3.out (by omega)).mono ?_
  rintro e w4 ⟨vs, is, rfl, hio, his, hil, u4⟩
  obtain ⟨ia, ic, rfl, _, hir, _⟩ := ownsRow.rd (ownIs hio) (intV_one is)
  have HM4 := hid (HM3.out.nxt u4)
  have HKR := hid (HKR0.out.nxt u4)
  have HIS := hid his
  have HU4 := hid (HU3.out.trans u4)
  obtain ⟨ni, NI⟩ : ∃ x, Hid (is.length = x) := ⟨_, rfl⟩
  rw [NI.out] at hir hil ⊢
  have HIR := hid hir
  have HNI := hid hil
  clear hio his hil u4 hir HM3 HKR0 HU3
  go_upto_block 2 with fail
  go_cut [9] (fun s9 wx => s9 = .int .i64 (nk : Nat) ∧ Up Nul w4 wx)
  case first =>
   as_aux_lemma =>
    go_wp2_with fail
    go_loopw [9, 10] (fun nn i wr => ∃ t c : Nat, t ≤ ni ∧ i = .int .i64 (t : Nat) ∧ nn = .int .i64 (c : Nat) ∧ Hid (c = M.cntAll (is.take t)) ∧ c ≤ 3 * t ∧ Up Nul w4 wr) (fun _ i _ => ni - (intOf i).toNat)
    case atStart => exact ⟨0, 0, by omega, rfl, rfl, rfl, by omega, Up.refl _ _⟩
    case round =>
     obtain ⟨t, c, ht, rfl, rfl, hcn, hc3, hu⟩ := hrel
     have HU := hid hu
     have HT := hid ht
     have HC3 := hid hc3
     have HCN := hcn
     have i0 : (0 : Int) ≤ (t : Int) := by omega
     have i9 : (t : Int) ≤ 720 := by have := HNI.out; omega
     clear hu ht hc3 hcn
     by_cases hlt : t < ni
     ·have i2 : (t : Int) < (ni : Int) := by omega
      have htl : t < is.length := by rw [NI.out]; exact hlt
      obtain ⟨gi, oi, hia, _, hcell⟩ := HIR.out.row (by omega)
      have hcc := hcell t (.int .i64 is[t]) (by unfold intV; rw [List.getElem?_map, List.getElem?_eq_getElem htl]; rfl)
      obtain ⟨s, hs⟩ := HIS.out.st HI.out (List.getElem_mem htl)
      have hnx := M.cntAll_next htl hs
      have hprev : ∀ j, j + 1 = t → ∃ y, is[j]? = some y ∧ w4.cell? ⟨gi, oi + j, none⟩ = some (.int .i64 y) ∧ y < is[t] := fun j hj => by
       subst hj
       have hjl : j < is.length := by omega
       exact ⟨is[j], List.getElem?_eq_getElem hjl, hcell j (.int .i64 is[j]) (by unfold intV; rw [List.getElem?_map, List.getElem?_eq_getElem hjl]; rfl), HIS.out.lt htl⟩
      have hwf := HIS.out.wf _ (List.getElem_mem htl)
      generalize is[t] = z at hcc hs hprev hwf hnx
      subst hia
      obtain ⟨hz1, hso, hkeys⟩ := HI.out.s z s hs
      have hlast := HI.out.l
      have HLK : Hid (∀ t, t < 3 → s.key t ≠ noK → ∃ n, M.b (s.key t) = some ⟨n, z, (t : Int)⟩) := fun t ht hk => by
       obtain ⟨_, x, x1, x2, x3⟩ := hkeys t ht hk
       obtain ⟨xn, xs, xp⟩ := x
       dsimp only at x2 x3
       subst x2 x3
       exact ⟨xn, x1⟩
      have hll := hso.locs
      have HSO := hid hso
      have HST := hid (stripe_some (HM4.out.nxt HU.out) z hwf s hs ⟨hso.few.1, by have := hso.few.2; omega⟩)
      have HNX := hid hnx
      have HCELL := hid hcc
      have HPREV := hid hprev
      have HZ : Hid (1 ≤ z ∧ z ≤ M.last ∧ 0 ≤ M.last ∧ M.last ≤ 2147483647) := ⟨hz1.1, hz1.2, hlast.1, hlast.2⟩
      have hc2 := (HU.out.cell (p := ⟨gi, oi + t, none⟩) (lt_of_cell hcc) id).trans hcc
      have HTL := hid hlt
      obtain ⟨kd, co, k0, k1, k2, ls⟩ := s
      obtain ⟨ln, LN⟩ : ∃ x, Hid (ls.length = x) := ⟨_, rfl⟩
      dsimp only at HST
      rw [LN.out] at HST
      have HK : Hid (ln = locsOfKind kd) := by rw [← LN.out]; exact hll
      clear hcell hcc hs hnx hprev hwf hz1 hso hkeys hlast hll hlt htl
      go_wp2_with fail
      refine HST.out.mono ?_
      rintro e w5 ⟨g, sc, rfl, hg1, hg2, hol, u5⟩
      have HU5 := hid (HU.out.trans u5)
      clear hg1 hg2 hol u5 HST hc2
      go_upto_region 17 with fail
      obtain ⟨w6, hw6⟩ : ∃ W, W = w5.alloc (.cells #[.int .i64 kd, .int .i64 co, .string k0, .string k1, .string k2, .slice (some ⟨g, 0, none⟩) ln sc] 46) := ⟨_, rfl⟩
      rw [← hw6]
      obtain ⟨ps, PS⟩ : ∃ x, Hid (w5.heap.size = x) := ⟨_, rfl⟩
      rw [PS.out]
      have hps : w6.heap[ps]? = some (.cells #[.int .i64 kd, .int .i64 co, .string k0, .string k1, .string k2, .slice (some ⟨g, 0, none⟩) ln sc] 46 (0, 0)) := by rw [hw6, ← PS.out]; exact heap_alloc_new _ _
      have u6 : Up Nul w4 w6 := by rw [hw6]; exact HU5.out.trans ((Up.refl _ _).alloc _)
      have HPS := hid hps
      have HU6 := hid u6
      clear hw6 hps u6 HU5
      go_cut [98] (fun s98 wx => s98 = .bool false ∧ Up Nul w6 wx)
      case first =>
       as_aux_lemma =>
        have hkd := HSO.out.kind
        have hkd : kd = 1 ∨ kd = 2 ∨ kd = 3 := hkd
        have g1 : ¬ kd < 1 := by omega
        have g2 : ¬ 3 < kd := by omega
        have HNEX := hid (fun W (u : Up Nul w6 W) => next_any (HM4.out.nxt (HU6.out.trans u)) ⟨HZ.out.2.2.2, HZ.out.2.2.1⟩)
        have g3 : ¬ M.last + 1 ≤ z := by have := HZ.out; omega
        obtain ⟨N, NN⟩ : ∃ x, Hid (M.last + 1 = x) := ⟨_, rfl⟩
        rw [NN.out] at HNEX g3
        have HA : Hid (∀ W, Up Nul w6 W → W.cell? ⟨ps, 0, none⟩ = some (.int .i64 kd) ∧ W.cell? ⟨gi, oi + t, none⟩ = some (.int .i64 z)) := fun W u => ⟨by
         have := u.keep HPS.out id
         simp [World.cell?, this], ((HU6.out.trans u).cell (p := ⟨gi, oi + t, none⟩) (lt_of_cell HCELL.out) id).trans HCELL.out⟩
        clear hkd
        rcases Nat.eq_zero_or_pos t with h0 | h0
        ·subst h0
         have g9 : 0 < ni := by have := HTL.out; omega
         refine wp_region_held_drew (S := (fun V => Up Nul w6 V)) (by kernel_rfl) (by exact (Up.refl _ _).drew) (fun hHeld => ?_)
         refine tkv 0 (some 62) rfl ?_
         refine tkv 1 (some 63) rfl ?_
         refine tkv 2 (some 64) rfl ?_
         refine tkv 3 (some 65) rfl ?_
         refine tkl 4 (some 66) ?va5 rfl ?ya5 ?ra5
         case ya5 => (intro w hSw; (try dsimp only at hSw); obtain ⟨q1, q2⟩ := HA.out _ hSw; (try simp only [Nat.add_zero] at q2); go_simp; try with_reducible rfl)
         try simp only [tdy]
         refine tkv 5 (some 67) rfl ?_
         refine tkv 6 (some 68) rfl ?_
         refine tkv 7 (some 69) rfl ?_
         refine tkv 8 (some 70) rfl ?_
         refine tkl 9 (some 71) ?va10 rfl ?ya10 ?ra10
         case ya10 => (intro w hSw; (try dsimp only at hSw); obtain ⟨q1, q2⟩ := HA.out _ hSw; (try simp only [Nat.add_zero] at q2); go_simp; try with_reducible rfl)
         try simp only [tdy]
         refine tkv 10 (some 72) rfl ?_
         refine tkv 11 (some 73) rfl ?_
         refine tkv 12 (some 74) rfl ?_
         refine tkv 13 (some 75) rfl ?_
         refine tkv 14 (some 76) rfl ?_
         refine tkv 15 (some 77) rfl ?_
         refine tkx 16 (some 78) rfl ?_
         refine tkx 17 (some 79) rfl ?_
         refine tkx 18 (some 80) rfl ?_
         refine tkx 19 (some 81) rfl ?_
         refine tkx 20 (some 82) rfl ?_
         refine tkx 21 (some 83) rfl ?_
         refine tkx 22 (some 84) rfl ?_
         refine tkx 23 (some 85) rfl ?_
         refine tkx 24 (some 86) rfl ?_
         refine tkx 25 (some 87) rfl ?_
         refine tkv 26 (some 88) rfl ?_
         refine tkv 27 (some 89) rfl ?_
         refine tkv 28 (some 90) rfl ?_
         refine tkv 29 (some 91) rfl ?_
         refine tkv 30 (some 92) rfl ?_
         refine tkv 31 (some 93) rfl ?_
         refine tkl 32 (some 94) ?va33 rfl ?ya33 ?ra33
         case ya33 => (intro w hSw; (try dsimp only at hSw); obtain ⟨q1, q2⟩ := HA.out _ hSw; (try simp only [Nat.add_zero] at q2); go_simp; try with_reducible rfl)
         try simp only [tdy]
         refine tkv 33 (some 95) rfl ?_
         refine one 34 (some 96) rfl (fun K hK => ?_)
         go_simp
         go_at_call 17
         refine (HNEX.out _ hHeld).mono ?_
         rintro e wb ⟨rfl, rfl⟩
         refine hK.out _ _ (hHeld) (fun hHeld => ?_)
         clear hK K
         try simp only [tdy]
         refine tkv 35 (some 97) rfl ?_
         refine tkv 36 (some 98) rfl ?_
         refine wpAnyH_done (by kernel_rfl) ?_ _
         go_wp2_with fail
         go_meet
         exact ⟨rfl, (Up.refl _ _).drew⟩
        ·obtain ⟨j, hj⟩ : ∃ j, j + 1 = t := ⟨t - 1, by omega⟩
         obtain ⟨y, _, hyc, hyz⟩ := HPREV.out j hj
         have HB : Hid (∀ W, Up Nul w6 W → W.cell? ⟨gi, oi + j, none⟩ = some (.int .i64 y)) := fun W u => ((HU6.out.trans u).cell (p := ⟨gi, oi + j, none⟩) (lt_of_cell hyc) id).trans hyc
         have g4 : ¬ z ≤ y := by omega
         have g5 : wrap64 ((t : Int) - 1) = (j : Int) := by
          have e : (t : Int) - 1 = (j : Int) := by omega
          rw [e, ← IntWalk.i64_left]
          exact IntWalk.i64_in _ (by omega)
         have g5b : IntKind.i64.wrap ((t : Int) - 1) = (j : Int) := by rw [IntWalk.i64_left]; exact g5
         have g6 : (0 : Int) < (t : Int) := by omega
         have g7 : (0 : Int) ≤ (j : Int) := by omega
         have g8 : (j : Int) < (ni : Int) := by have := HTL.out; omega
         have HJ := hid hj
         have g9 : t < ni := HTL.out
         have g10 : j < ni := by omega
         clear hj hyc hyz
         refine wp_region_held_drew (S := (fun V => Up Nul w6 V)) (by kernel_rfl) (by exact (Up.refl _ _).drew) (fun hHeld => ?_)
         refine tkv 0 (some 62) rfl ?_
         refine tkv 1 (some 63) rfl ?_
         refine tkv 2 (some 64) rfl ?_
         refine tkv 3 (some 65) rfl ?_
         refine tkl 4 (some 66) ?vb5 rfl ?yb5 ?rb5
         case yb5 => (intro w hSw; (try dsimp only at hSw); obtain ⟨q1, q2⟩ := HA.out _ hSw; have q3 := HB.out _ hSw; go_simp; try with_reducible rfl)
         try simp only [tdy]
         refine tkv 5 (some 67) rfl ?_
         refine tkv 6 (some 68) rfl ?_
         refine tkv 7 (some 69) rfl ?_
         refine tkv 8 (some 70) rfl ?_
         refine tkl 9 (some 71) ?vb10 rfl ?yb10 ?rb10
         case yb10 => (intro w hSw; (try dsimp only at hSw); obtain ⟨q1, q2⟩ := HA.out _ hSw; have q3 := HB.out _ hSw; go_simp; try with_reducible rfl)
         try simp only [tdy]
         refine tkv 10 (some 72) rfl ?_
         refine tkv 11 (some 73) rfl ?_
         refine tkv 12 (some 74) rfl ?_
         refine tkv 13 (some 75) rfl ?_
         refine tkv 14 (some 76) rfl ?_
         refine tkv 15 (some 77) rfl ?_
         refine tkv 16 (some 78) rfl ?_
         refine tkv 17 (some 79) rfl ?_
         refine tkv 18 (some 80) rfl ?_
         refine tkv 19 (some 81) rfl ?_
         refine tkl 20 (some 82) ?vb21 rfl ?yb21 ?rb21
         case yb21 => (intro w hSw; (try dsimp only at hSw); obtain ⟨q1, q2⟩ := HA.out _ hSw; have q3 := HB.out _ hSw; go_simp; try with_reducible rfl)
         try simp only [tdy]
         refine tkv 21 (some 83) rfl ?_
         refine tkv 22 (some 84) rfl ?_
         refine tkv 23 (some 85) rfl ?_
         refine tkl 24 (some 86) ?vb25 rfl ?yb25 ?rb25
         case yb25 => (intro w hSw; (try dsimp only at hSw); obtain ⟨q1, q2⟩ := HA.out _ hSw; have q3 := HB.out _ hSw; go_simp; try with_reducible rfl)
         try simp only [tdy]
         refine tkv 25 (some 87) rfl ?_
         refine tkv 26 (some 88) rfl ?_
         refine tkv 27 (some 89) rfl ?_
         refine tkv 28 (some 90) rfl ?_
         refine tkv 29 (some 91) rfl ?_
         refine tkv 30 (some 92) rfl ?_
         refine tkv 31 (some 93) rfl ?_
         refine tkl 32 (some 94) ?vb33 rfl ?yb33 ?rb33
         case yb33 => (intro w hSw; (try dsimp only at hSw); obtain ⟨q1, q2⟩ := HA.out _ hSw; have q3 := HB.out _ hSw; go_simp; try with_reducible rfl)
         try simp only [tdy]
         refine tkv 33 (some 95) rfl ?_
         refine one 34 (some 96) rfl (fun K hK => ?_)
         go_simp
         go_at_call 17
         refine (HNEX.out _ hHeld).mono ?_
         rintro e wb ⟨rfl, rfl⟩
         refine hK.out _ _ (hHeld) (fun hHeld => ?_)
         clear hK K
         try simp only [tdy]
         refine tkv 35 (some 97) rfl ?_
         refine tkv 36 (some 98) rfl ?_
         refine wpAnyH_done (by kernel_rfl) ?_ _
         go_wp2_with fail
         go_meet
         exact ⟨rfl, (Up.refl _ _).drew⟩
      case rest =>
       obtain ⟨rfl, hu7⟩ := hcut
       have HU7 := hid (HU6.out.trans hu7)
       have HPS7 := hid (hu7.keep HPS.out id)
       clear hu7
       go_upto_block 4 with fail
       obtain ⟨c3, CC⟩ : ∃ x, Hid (c + (⟨kd, co, k0, k1, k2, ls⟩ : St).cnt 3 = x) := ⟨_, rfl⟩
       have HC3L : Hid (c3 ≤ 3 * t + 3) := by have h1 := CC.out; have h2 := HC3.out; have h3 := St.cnt_le (⟨kd, co, k0, k1, k2, ls⟩ : St) 3; show c3 ≤ 3 * t + 3; omega
       go_cut [9] (fun s9 wx => s9 = .int .i64 (c3 : Nat) ∧ Up Nul wc wx)
       case first =>
        as_aux_lemma =>
         go_wp2_with fail
         go_loopw [9, 13] (fun nn i wr => ∃ u d : Nat, u ≤ 3 ∧ i = .int .i64 (u : Nat) ∧ nn = .int .i64 (d : Nat) ∧ Hid (d = c + (⟨kd, co, k0, k1, k2, ls⟩ : St).cnt u) ∧ d ≤ 3 * t + u ∧ Up Nul wc wr) (fun _ i _ => 3 - (intOf i).toNat)
         case atStart => exact ⟨0, c, by omega, rfl, rfl, rfl, by have := HC3.out; omega, Up.refl _ _⟩
         case round =>
          obtain ⟨u, d, hu, rfl, rfl, hdn, hd3, huq⟩ := hrel
          have HUQ := hid (HU7.out.trans huq)
          have HUC := hid huq
          have HPQ := hid (huq.keep HPS7.out id)
          have HDN := hdn
          have HD3 := hid hd3
          have HUU := hid hu
          have j0 : (0 : Int) ≤ (u : Int) := by omega
          have j3 : (u : Int) ≤ 3 := by omega
          have j4 : (d : Int) + 1 ≤ 9223372036854775807 := by have := HC3.out; have := HNI.out; have := HT.out; omega
          have j5 : (0 : Int) ≤ (d : Int) := by omega
          clear huq hdn hd3 hu
          by_cases hlu : u < 3
          ·have j2 : (u : Int) < 3 := by omega
           have hku : wr.cell? ⟨ps, 2 + u, none⟩ = some (.string ((⟨kd, co, k0, k1, k2, ls⟩ : St).key u)) := by
            have h3 : u = 0 ∨ u = 1 ∨ u = 2 := by omega
            rcases h3 with rfl | rfl | rfl <;> (simp only [World.cell?, HPQ.out]; rfl)
           have hcs : (⟨kd, co, k0, k1, k2, ls⟩ : St).cnt (u + 1) = (⟨kd, co, k0, k1, k2, ls⟩ : St).cnt u + if (⟨kd, co, k0, k1, k2, ls⟩ : St).key u = noK then 0 else 1 := rfl
           have hlk := HLK.out u hlu
           have hon := HSO.out.one
           have HON : Hid ((⟨kd, co, k0, k1, k2, ls⟩ : St).key u ≠ noK → kd ≠ 3 → u = 0) := fun h1 h2 => by
            obtain ⟨o1, o2⟩ := hon h2
            have h3 : u = 0 ∨ u = 1 ∨ u = 2 := by omega
            rcases h3 with rfl | rfl | rfl
            ·rfl
            ·exact absurd o1 h1
            ·exact absurd o2 h1
           have HCS := hid hcs
           have HLKU := hid hlk
           have HLU := hid hlu
           generalize (⟨kd, co, k0, k1, k2, ls⟩ : St).key u = ku at hku HCS HLKU HON
           clear hcs hlk hon hlu
           by_cases hz : ku = noK
           ·have b0 : ku.toList.isEmpty = true := by rw [hz, ByteArray.toList_eq]; rfl
            have HZ0 := hid hz
            clear hz
            go_wp2_with fail
            go_roundw
            case rel => exact ⟨u + 1, d, by have := HLU.out; omega, by go_num, rfl, hid (by have h1 := HDN.out; have h2 := HCS.out; rw [if_pos HZ0.out] at h2; omega), by have := HD3.out; omega, HUC.out⟩
            case measure => have := HLU.out; simp [intOf]; omega
           ·have b0 : ku.toList.isEmpty = false := by
             rw [List.isEmpty_eq_false_iff]
             exact str_some hz
            have HZ0 := hid hz
            obtain ⟨bn, hbn⟩ := HLKU.out hz
            have HBL := hid (blob_is (HM4.out.nxt HUQ.out) hbn (by have := (HI.out.b _ _ hbn).1.2; unfold maxLen; omega))
            clear hz hbn
            go_wp2_with fail
            refine HBL.out.mono ?_
            rintro e w8 ⟨rfl, u8⟩
            have HU8 := hid u8
            clear u8 HBL hku
            go_upto_region 24 with fail
            obtain ⟨w9, hw9⟩ : ∃ W, W = w8.alloc (.cells #[.int .i64 bn, .int .i64 z, .int .i64 (u : Int)] 51) := ⟨_, rfl⟩
            rw [← hw9]
            obtain ⟨pb, PB⟩ : ∃ x, Hid (w8.heap.size = x) := ⟨_, rfl⟩
            rw [PB.out]
            have hpb : w9.heap[pb]? = some (.cells #[.int .i64 bn, .int .i64 z, .int .i64 (u : Int)] 51 (0, 0)) := by rw [hw9, ← PB.out]; exact heap_alloc_new _ _
            have u9 : Up Nul wr w9 := by rw [hw9]; exact HU8.out.trans ((Up.refl _ _).alloc _)
            have hps9 := u9.keep HPQ.out id
            have y0 : w9.cell? ⟨ps, 0, none⟩ = some (.int .i64 kd) := by simp [World.cell?, hps9]
            have y1 : w9.cell? ⟨pb, 0, none⟩ = some (.int .i64 bn) := by simp [World.cell?, hpb]
            have y2 : w9.cell? ⟨pb, 1, none⟩ = some (.int .i64 z) := by simp [World.cell?, hpb]
            have y3 : w9.cell? ⟨pb, 2, none⟩ = some (.int .i64 (u : Int)) := by simp [World.cell?, hpb]
            have y4 : w9.cell? ⟨gi, oi + t, none⟩ = some (.int .i64 z) := ((HUQ.out.trans u9).cell (p := ⟨gi, oi + t, none⟩) (lt_of_cell HCELL.out) id).trans HCELL.out
            have HU9 := hid (HUC.out.trans u9)
            obtain ⟨bf, hbf⟩ : ∃ b, b = false := ⟨_, rfl⟩
            have hne : ∀ W : World, (binOp .neq 51 (.agg #[.int .i64 bn, .int .i64 z, .int .i64 (u : Int)]) (.agg #[.int .i64 bn, .int .i64 z, .int .i64 (u : Int)])).run Tryz.prog W = .ok (.bool false) W := fun W => bl_neq W _ _ _
            have HONE := HON
            clear hw9 hpb u9 hps9
            by_cases h3 : kd = 3
            ·have b3 : (kd != 3) = false := by rw [h3]; rfl
             clear h3
             go_wp2_with fail
             go_quiet (fail)
             go_wp2_with fail
             go_roundw
             case rel => exact ⟨u + 1, d + 1, by have := HLU.out; omega, by go_num, by go_num, hid (by have h1 := HDN.out; have h2 := HCS.out; rw [if_neg HZ0.out] at h2; omega), by have := HD3.out; omega, HU9.out.drewN _⟩
             case measure => have := HLU.out; simp [intOf]; omega
            ·have b3 : (kd != 3) = true := by simpa using h3
             have b4 : u = 0 := HON.out HZ0.out h3
             have b5 : ¬ (0 : Int) < (u : Int) := by omega
             have b6 : ¬ 0 < u := by omega
             clear h3
             go_wp2_with fail
             go_quiet (fail)
             go_wp2_with fail
             go_roundw
             case rel => exact ⟨u + 1, d + 1, by have := HLU.out; omega, by go_num, by go_num, hid (by have h1 := HDN.out; have h2 := HCS.out; rw [if_neg HZ0.out] at h2; omega), by have := HD3.out; omega, HU9.out.drewN _⟩
             case measure => have := HLU.out; simp [intOf]; omega
          ·have j2 : ¬ (u : Int) < 3 := by omega
           have e3 : u = 3 := by have := HUU.out; omega
           have HE : Hid (d = c3) := by have h1 := HDN.out; have h2 := CC.out; rw [e3] at h1; show d = c3; omega
           clear hlu e3
           go_wp2_with fail
           go_meet
           exact ⟨by rw [HE.out], HUC.out⟩
       case rest =>
        obtain ⟨rfl, hu8⟩ := hcut
        have HU8 := hid (HU7.out.trans hu8)
        have HPS8 := hid (hu8.keep HPS7.out id)
        clear hu8
        go_upto_region 27 with fail
        rcases HSO.out.kind with h | h | h
        ·have h : kd = 1 := h
         subst h
         have e : ln = 3 := HK.out
         subst e
         refine wp_region_held_drew (S := (fun V : World => V.cell? ⟨ps, 5, none⟩ = some (.slice (some ⟨g, 0, none⟩) 3 sc) ∧ V.cell? ⟨ps, 0, none⟩ = some (.int .i64 1))) (by kernel_rfl) (by exact ⟨by show wc.cell? _ = _; simp [World.cell?, HPS8.out], by show wc.cell? _ = _; simp [World.cell?, HPS8.out]⟩) (fun hHeld => ?_)
         refine tkv 0 (some 142) rfl ?_
         refine tkv 1 (some 143) rfl ?_
         refine tkv 2 (some 144) rfl ?_
         refine tkv 4 (some 146) rfl ?_
         refine tkv 5 (some 147) rfl ?_
         refine one 3 (some 145) rfl (fun K hK => ?_)
         go_simp
         have hn : (wc.drew.alloc (.cells #[.int .i64 0, .int .i64 3, .int .i64 6, .int .i64 16] 3)).heap[wc.heap.size]? = _ := heap_alloc_new wc.drew (.cells #[.int .i64 0, .int .i64 3, .int .i64 6, .int .i64 16] 3); have hq : (wc.drew.alloc (.cells #[.int .i64 0, .int .i64 3, .int .i64 6, .int .i64 16] 3)).heap[ps]? = _ := (((Up.refl Nul wc).drew).alloc _).keep HPS8.out id; have HCX : Hid ((fun V : World => V.cell? ⟨ps, 5, none⟩ = some (.slice (some ⟨g, 0, none⟩) 3 sc) ∧ V.cell? ⟨ps, 0, none⟩ = some (.int .i64 1) ∧ V.cell? ⟨wc.heap.size, 1, none⟩ = some (.int .i64 3)) (wc.drew.alloc (.cells #[.int .i64 0, .int .i64 3, .int .i64 6, .int .i64 16] 3))) := ⟨by simp only [World.cell?, hq]; rfl, by simp only [World.cell?, hq]; rfl, by simp only [World.cell?, hn]; rfl⟩; have HUX : Hid (Up Nul w4 (wc.drew.alloc (.cells #[.int .i64 0, .int .i64 3, .int .i64 6, .int .i64 16] 3))) := (HU8.out.drew).alloc _; clear hn hq
         refine hK.out _ _ (⟨HCX.out.1, HCX.out.2.1⟩) (fun hHeld => ?_)
         clear hK K
         try simp only [tdy]
         have hHeldp7 : ((fun V : World => V.cell? ⟨ps, 5, none⟩ = some (.slice (some ⟨g, 0, none⟩) 3 sc) ∧ V.cell? ⟨ps, 0, none⟩ = some (.int .i64 1) ∧ V.cell? ⟨wc.heap.size, 1, none⟩ = some (.int .i64 3))) _ := HCX.out
         refine wpAnyH_sub (S := (fun V : World => V.cell? ⟨ps, 5, none⟩ = some (.slice (some ⟨g, 0, none⟩) 3 sc) ∧ V.cell? ⟨ps, 0, none⟩ = some (.int .i64 1) ∧ V.cell? ⟨wc.heap.size, 1, none⟩ = some (.int .i64 3))) (fun V h => ⟨h.1, h.2.1⟩) ?_
         refine tkv 6 (some 148) rfl ?_
         refine tkv 7 (some 149) rfl ?_
         refine tkv 8 (some 150) rfl ?_
         refine wpAnyH_done (by kernel_rfl) ?_ _
         go_wp2_with fail
         go_roundw
         case rel => exact ⟨t + 1, c3, by have := HTL.out; omega, by go_num, rfl, hid (by have h1 := HNX.out; have h2 := CC.out; have h3 := HCN.out; omega), by have := HC3L.out; omega, HUX.out⟩
         case measure => have := HTL.out; simp [intOf]; omega
        ·have h : kd = 2 := h
         subst h
         have e : ln = 6 := HK.out
         subst e
         refine wp_region_held_drew (S := (fun V : World => V.cell? ⟨ps, 5, none⟩ = some (.slice (some ⟨g, 0, none⟩) 6 sc) ∧ V.cell? ⟨ps, 0, none⟩ = some (.int .i64 2))) (by kernel_rfl) (by exact ⟨by show wc.cell? _ = _; simp [World.cell?, HPS8.out], by show wc.cell? _ = _; simp [World.cell?, HPS8.out]⟩) (fun hHeld => ?_)
         refine tkv 0 (some 142) rfl ?_
         refine tkv 1 (some 143) rfl ?_
         refine tkv 2 (some 144) rfl ?_
         refine tkv 4 (some 146) rfl ?_
         refine tkv 5 (some 147) rfl ?_
         refine one 3 (some 145) rfl (fun K hK => ?_)
         go_simp
         have hn : (wc.drew.alloc (.cells #[.int .i64 0, .int .i64 3, .int .i64 6, .int .i64 16] 3)).heap[wc.heap.size]? = _ := heap_alloc_new wc.drew (.cells #[.int .i64 0, .int .i64 3, .int .i64 6, .int .i64 16] 3); have hq : (wc.drew.alloc (.cells #[.int .i64 0, .int .i64 3, .int .i64 6, .int .i64 16] 3)).heap[ps]? = _ := (((Up.refl Nul wc).drew).alloc _).keep HPS8.out id; have HCX : Hid ((fun V : World => V.cell? ⟨ps, 5, none⟩ = some (.slice (some ⟨g, 0, none⟩) 6 sc) ∧ V.cell? ⟨ps, 0, none⟩ = some (.int .i64 2) ∧ V.cell? ⟨wc.heap.size, 2, none⟩ = some (.int .i64 6)) (wc.drew.alloc (.cells #[.int .i64 0, .int .i64 3, .int .i64 6, .int .i64 16] 3))) := ⟨by simp only [World.cell?, hq]; rfl, by simp only [World.cell?, hq]; rfl, by simp only [World.cell?, hn]; rfl⟩; have HUX : Hid (Up Nul w4 (wc.drew.alloc (.cells #[.int .i64 0, .int .i64 3, .int .i64 6, .int .i64 16] 3))) := (HU8.out.drew).alloc _; clear hn hq
         refine hK.out _ _ (⟨HCX.out.1, HCX.out.2.1⟩) (fun hHeld => ?_)
         clear hK K
         try simp only [tdy]
         have hHeldq7 : ((fun V : World => V.cell? ⟨ps, 5, none⟩ = some (.slice (some ⟨g, 0, none⟩) 6 sc) ∧ V.cell? ⟨ps, 0, none⟩ = some (.int .i64 2) ∧ V.cell? ⟨wc.heap.size, 2, none⟩ = some (.int .i64 6))) _ := HCX.out
         refine wpAnyH_sub (S := (fun V : World => V.cell? ⟨ps, 5, none⟩ = some (.slice (some ⟨g, 0, none⟩) 6 sc) ∧ V.cell? ⟨ps, 0, none⟩ = some (.int .i64 2) ∧ V.cell? ⟨wc.heap.size, 2, none⟩ = some (.int .i64 6))) (fun V h => ⟨h.1, h.2.1⟩) ?_
         refine tkv 6 (some 148) rfl ?_
         refine tkv 7 (some 149) rfl ?_
         refine tkv 8 (some 150) rfl ?_
         refine wpAnyH_done (by kernel_rfl) ?_ _
         go_wp2_with fail
         go_roundw
         case rel => exact ⟨t + 1, c3, by have := HTL.out; omega, by go_num, rfl, hid (by have h1 := HNX.out; have h2 := CC.out; have h3 := HCN.out; omega), by have := HC3L.out; omega, HUX.out⟩
         case measure => have := HTL.out; simp [intOf]; omega
        ·have h : kd = 3 := h
         subst h
         have e : ln = 16 := HK.out
         subst e
         refine wp_region_held_drew (S := (fun V : World => V.cell? ⟨ps, 5, none⟩ = some (.slice (some ⟨g, 0, none⟩) 16 sc) ∧ V.cell? ⟨ps, 0, none⟩ = some (.int .i64 3))) (by kernel_rfl) (by exact ⟨by show wc.cell? _ = _; simp [World.cell?, HPS8.out], by show wc.cell? _ = _; simp [World.cell?, HPS8.out]⟩) (fun hHeld => ?_)
         refine tkv 0 (some 142) rfl ?_
         refine tkv 1 (some 143) rfl ?_
         refine tkv 2 (some 144) rfl ?_
         refine tkv 4 (some 146) rfl ?_
         refine tkv 5 (some 147) rfl ?_
         refine one 3 (some 145) rfl (fun K hK => ?_)
         go_simp
         have hn : (wc.drew.alloc (.cells #[.int .i64 0, .int .i64 3, .int .i64 6, .int .i64 16] 3)).heap[wc.heap.size]? = _ := heap_alloc_new wc.drew (.cells #[.int .i64 0, .int .i64 3, .int .i64 6, .int .i64 16] 3); have hq : (wc.drew.alloc (.cells #[.int .i64 0, .int .i64 3, .int .i64 6, .int .i64 16] 3)).heap[ps]? = _ := (((Up.refl Nul wc).drew).alloc _).keep HPS8.out id; have HCX : Hid ((fun V : World => V.cell? ⟨ps, 5, none⟩ = some (.slice (some ⟨g, 0, none⟩) 16 sc) ∧ V.cell? ⟨ps, 0, none⟩ = some (.int .i64 3) ∧ V.cell? ⟨wc.heap.size, 3, none⟩ = some (.int .i64 16)) (wc.drew.alloc (.cells #[.int .i64 0, .int .i64 3, .int .i64 6, .int .i64 16] 3))) := ⟨by simp only [World.cell?, hq]; rfl, by simp only [World.cell?, hq]; rfl, by simp only [World.cell?, hn]; rfl⟩; have HUX : Hid (Up Nul w4 (wc.drew.alloc (.cells #[.int .i64 0, .int .i64 3, .int .i64 6, .int .i64 16] 3))) := (HU8.out.drew).alloc _; clear hn hq
         refine hK.out _ _ (⟨HCX.out.1, HCX.out.2.1⟩) (fun hHeld => ?_)
         clear hK K
         try simp only [tdy]
         have hHeldr7 : ((fun V : World => V.cell? ⟨ps, 5, none⟩ = some (.slice (some ⟨g, 0, none⟩) 16 sc) ∧ V.cell? ⟨ps, 0, none⟩ = some (.int .i64 3) ∧ V.cell? ⟨wc.heap.size, 3, none⟩ = some (.int .i64 16))) _ := HCX.out
         refine wpAnyH_sub (S := (fun V : World => V.cell? ⟨ps, 5, none⟩ = some (.slice (some ⟨g, 0, none⟩) 16 sc) ∧ V.cell? ⟨ps, 0, none⟩ = some (.int .i64 3) ∧ V.cell? ⟨wc.heap.size, 3, none⟩ = some (.int .i64 16))) (fun V h => ⟨h.1, h.2.1⟩) ?_
         refine tkv 6 (some 148) rfl ?_
         refine tkv 7 (some 149) rfl ?_
         refine tkv 8 (some 150) rfl ?_
         refine wpAnyH_done (by kernel_rfl) ?_ _
         go_wp2_with fail
         go_roundw
         case rel => exact ⟨t + 1, c3, by have := HTL.out; omega, by go_num, rfl, hid (by have h1 := HNX.out; have h2 := CC.out; have h3 := HCN.out; omega), by have := HC3L.out; omega, HUX.out⟩
         case measure => have := HTL.out; simp [intOf]; omega
     ·have i2 : ¬ (t : Int) < (ni : Int) := by omega
      have HE : Hid (c = nk) := by
       have h1 := HCN.out
       have h2 := cnt_keys HI.out HIS.out HKS.out
       rw [List.take_of_length_le (by rw [NI.out]; omega)] at h1
       have h3 := NK.out
       show c = nk
       omega
      clear hlt
      go_wp2_with fail
      go_meet
      exact ⟨by rw [HE.out], HU.out⟩
  case rest =>
   obtain ⟨rfl, hu⟩ := hcut
   have HU := hid hu
   clear hu
   go_wp2_with fail
   go_loopw [16] (fun i wr => ∃ t : Nat, 1 ≤ t ∧ i = .int .i64 (t : Nat) ∧ Up Nul w4 wr) (fun i _ => nk - (intOf i).toNat)
   case atStart => exact ⟨1, by omega, rfl, HU.out⟩
   case round =>
    obtain ⟨t, ht1, rfl, hu⟩ := hrel
    have HUr := hid hu
    have HT1 := hid ht1
    clear ht1
    by_cases hlt : t < nk
    ·obtain ⟨j, hj⟩ : ∃ j, j + 1 = t := ⟨t - 1, by have := HT1.out; omega⟩
     obtain ⟨gk, ok, hka, _, hcell⟩ := (HKR.out.nxt hu).row (by omega)
     subst hka
     have hjl : j + 1 < ks.length := by have := NK.out; omega
     have x1 := hcell j (.string ks[j]) (by unfold kcells; rw [List.getElem?_map, List.getElem?_eq_getElem (by omega)]; rfl)
     have x2 := hcell (j + 1) (.string ks[j + 1]) (by unfold kcells; rw [List.getElem?_map, List.getElem?_eq_getElem hjl]; rfl)
     have hlt2 := HKS.out.lt hjl
     generalize ks[j] = sa at x1 hlt2
     generalize ks[j + 1] = sb at x2 hlt2
     rw [hj] at x2
     have hbl : Op.bytesLess sa.toList sb.toList = true := (kl_iff sa sb).2 hlt2
     have i0 : (0 : Int) ≤ (t : Int) := by omega
     have i2 : (t : Int) < (nk : Int) := by omega
     have i9 : (t : Int) ≤ 720 := by have := HNK.out; omega
     have g5 : wrap64 ((t : Int) - 1) = (j : Int) := by
      have e : (t : Int) - 1 = (j : Int) := by omega
      rw [e, ← IntWalk.i64_left]
      exact IntWalk.i64_in _ (by omega)
     have g5b : IntKind.i64.wrap ((t : Int) - 1) = (j : Int) := by rw [IntWalk.i64_left]; exact g5
     have g7 : (0 : Int) ≤ (j : Int) := by omega
     have g8 : (j : Int) < (nk : Int) := by omega
     have hge : ∀ W : World, (binOp .geq 9 (.string sa) (.string sb)).run Tryz.prog W = .ok (.bool false) W := fun W => str_geq W sa sb hbl
     have g9 : t < nk := hlt
     have g10 : j < nk := by omega
     have HLT := hid hlt
     clear hj hjl hlt2 hcell hu hlt
     go_wp2_with fail
     go_quiet (fail)
     go_wp2_with fail
     go_roundw
     case rel => exact ⟨t + 1, by omega, by go_num, HUr.out.drewN _⟩
     case measure => have := HLT.out; simp [intOf]; omega
    ·have i2 : ¬ (t : Int) < (nk : Int) := by omega
     clear hlt hu
     go_wp2_with fail
     refine (awake_any wr (HS.out.nxt (HU4.out.trans HUr.out))).mono ?_
     rintro e w9 ⟨rfl, u9⟩
     have HUe := hid ((HU4.out.trans HUr.out).trans u9)
     go_wp2
     go_ret
     exact ⟨rfl, HUe.out⟩
theorem one_walk (hf : FitC) (a0 : Option Addr) (l0 c0 : Nat) (w : World) (hS : Shp w) (w0 : CamR w a0 l0 c0) :
  Calls Tryz.prog 4 #[.slice a0 l0 c0] w fun e w' => e = .returned (.bool true) ∧ Below w.heap.size w w' :=
 (one_any @hf a0 l0 c0 w hS w0).mono fun e w' ⟨h, u⟩ => ⟨h, u.below (Nat.le_refl _) fun _ _ h => h⟩
end Go.Proofs.YtepggchnhgpcnaaGreatDoor
