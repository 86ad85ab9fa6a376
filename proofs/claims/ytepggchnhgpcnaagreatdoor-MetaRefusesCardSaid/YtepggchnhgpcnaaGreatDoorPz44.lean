/- 'MetaRefuses'. -/
import Derived.Test.YtepggchnhgpcnaaGreatDoorPkTidy
import Derived.Test.YtepggchnhgpcnaaGreatDoorPz35
import Derived.Test.YtepggchnhgpcnaaGreatDoorPz43
import Derived.Test.YtepggchnhgpcnaaGreatDoorPz34
import Derived.Deep.CutBlock
import Derived.Deep.DeepCutAuto
namespace Go.Proofs.YtepggchnhgpcnaaGreatDoor
open Go.RowKit Go.Maps Go.Sort
set_option linter.unusedVariables false

abbrev RawCaps (r : Rc) (sc lc : Nat) : Prop := r.sids.length ≤ sc ∧ sc ≤ maxLen ∧ r.locs.length ≤ lc ∧ lc ≤ maxLen
set_option maxRecDepth 100000 in
set_option maxHeartbeats 40000000 in
theorem refuses_any (hf : FitC) (a0 : Option Addr) (l0 c0 : Nat) (r : Rc) (sa la : Option Addr) (sc lc : Nat) (w : World) (hS : Shp w) (hc : CamR w a0 l0 c0) (hs : RowI w sa r.sids) (hl : RowL w la r.locs) (hcap : RawCaps r sc lc) :
  Calls Tryz.prog 3 #[.slice a0 l0 c0, rv r (.slice sa r.sids.length sc) (.slice la r.locs.length lc)] w fun e w' => e = .returned (.bool true) ∧ Up Nul w w' := by
 obtain ⟨wB, hwB⟩ : ∃ W, W = w.alloc (.cells (rcellsL r (.slice sa r.sids.length sc) (.slice la r.locs.length lc)) 28) := ⟨_, rfl⟩
 have uB : Up Nul w wB := by rw [hwB]; exact (Up.refl _ _).alloc _
 have bB : RB wB w.heap.size r (.slice sa r.sids.length sc) (.slice la r.locs.length lc) := by rw [hwB]; exact RB.new _ _ _ _
 have hwB2 : wB = w.alloc (.cells #[.int .i64 r.kind, .string r.key, .int .i64 r.n, .int .i64 r.sid, .slice sa r.sids.length sc, .int .i64 r.colour, .slice la r.locs.length lc, .int .i64 r.t.hot, .int .i64 r.t.warm, .int .i64 r.t.gap, .int .i64 r.t.add, .int .i64 r.t.top, .int .i64 r.t.half] 28) := hwB
 obtain ⟨px, PX⟩ : ∃ x, Hid (w.heap.size = x) := ⟨_, rfl⟩
 have hpx : w.heap.size = px := PX.out
 rw [hpx] at bB
 have HUB := hid uB
 have HBB := hid bB
 have HS := hid (hS.nxt uB)
 have HSW := hid hS
 have HC := hid hc
 have HRS := hid hs
 have HRL := hid hl
 have HCAP := hid hcap
 have HFC : Hid FitC := @hf
 clear hS hc hs hl hcap hwB uB bB hf
 show Calls Tryz.prog 3 #[.slice a0 l0 c0, .agg #[.int .i64 r.kind, .string r.key, .int .i64 r.n, .int .i64 r.sid, .slice sa r.sids.length sc, .int .i64 r.colour, .slice la r.locs.length lc, .int .i64 r.t.hot, .int .i64 r.t.warm, .int .i64 r.t.gap, .int .i64 r.t.add, .int .i64 r.t.top, .int .i64 r.t.half]] w _
 go_enter Tryz.func3, Tryz.ntmps3
 go_upto_region 1 with fail
 rw [← hwB2]
 try rw [hpx]
 clear hwB2 hpx
 go_wp2_with fail
 refine (new_any wB).mono ?_
 rintro e w1 ⟨p, bm, bs, rfl, h1, u1⟩
 have H1 := hid h1
 have HU1 := hid u1
 clear h1 u1
 go_wp2_with fail
 refine (rnew_any w1).mono ?_
 rintro e w2 ⟨q, rfl, hq1, hq2, hr, u2⟩
 have HB := hid (BB.first H1.out HU1.out hq1 hq2 hr u2)
 clear hq1 hq2 hr u2 H1 HU1
 obtain ⟨x0, x1, x2, x3, x4, x5, x6, x7, x8, x9, x10, x11, x12⟩ := (HBB.out.nxt HB.out.up).cells
 obtain ⟨lk, LK⟩ : ∃ x, Hid (r.key.size = x) := ⟨_, rfl⟩
 obtain ⟨ls, LS⟩ : ∃ x, Hid (r.sids.length = x) := ⟨_, rfl⟩
 obtain ⟨ll, LL⟩ : ∃ x, Hid (r.locs.length = x) := ⟨_, rfl⟩
 have hkz : ((r.key.size : Nat) : Int) = (lk : Int) := by rw [LK.out]
 go_upto_region 3 with fail
 rw [LS.out] at x4
 rw [LL.out] at x6
 try rw [LS.out]
 try rw [LL.out]
 go_cut [32] (fun s32 wx => ∃ b : Bool, s32 = .bool b ∧ (b = false → ll ≤ 30 ∧ ls ≤ 20 ∧ lk ≤ 50) ∧ wx = w2)
 case first =>
  as_aux_lemma =>
   by_cases h1 : 30 < ll
   ·have g1 : (30 : Int) < (ll : Int) := by omega
    go_wp2_with fail
    go_meet
    exact ⟨true, rfl, (fun e => by cases e), rfl⟩
   ·have g1 : ¬ (30 : Int) < (ll : Int) := by omega
    by_cases h2 : 20 < ls
    ·have g2 : (20 : Int) < (ls : Int) := by omega
     go_wp2_with fail
     go_meet
     exact ⟨true, rfl, (fun e => by cases e), rfl⟩
    ·have g2 : ¬ (20 : Int) < (ls : Int) := by omega
     by_cases h3 : 50 < lk
     ·have g3 : (50 : Int) < (lk : Int) := by omega
      go_wp2_with fail
      go_meet
      exact ⟨true, rfl, (fun e => by cases e), rfl⟩
     ·have g3 : ¬ (50 : Int) < (lk : Int) := by omega
      have HE : Hid (ll ≤ 30 ∧ ls ≤ 20 ∧ lk ≤ 50) := ⟨by omega, by omega, by omega⟩
      go_wp2_with fail
      go_meet
      exact ⟨false, rfl, (fun _ => HE.out), rfl⟩
 case rest =>
  obtain ⟨b, rfl, hb, rfl⟩ := hcut
  have HBD := hid hb
  clear hb x0 x1 x2 x3 x4 x5 x6 x7 x8 x9 x10 x11 x12 hkz
  cases b with
  | true =>
   go_wp2_with fail
   refine (awake_any _ (HS.out.nxt HB.out.up)).mono ?_
   rintro e w9 ⟨rfl, u9⟩
   have HUe := hid ((HUB.out.trans HB.out.up).trans u9)
   go_wp2
   go_ret
   exact ⟨rfl, HUe.out⟩
  | false =>
   have HLIM := hid (HBD.out rfl)
   clear HBD
   go_upto_block 0 with fail
   go_cut [] (fun wx => ∃ M F1 F2, BB wB wx F1 F2 p bm bs q 480 M)
   case first =>
    as_aux_lemma =>
     go_wp2_with fail
     go_loopw [7] (fun i wr => ∃ (t : Nat) (M : MM) (F1 F2 : Nat → Prop), t ≤ 40 ∧ i = .int .i64 (t : Nat) ∧ BB wB wr F1 F2 p bm bs q (12 * t) M) (fun i _ => 40 - (intOf i).toNat)
     case atStart => exact ⟨0, _, _, _, by omega, rfl, HB.out⟩
     case round =>
     obtain ⟨t, M, F1, F2, ht, rfl, hb⟩ := hrel
     have HBM := hid hb
     have i0 : (0 : Int) ≤ (t : Int) := by omega
     have i9 : (t : Int) ≤ 40 := by omega
     have HT := hid ht
     clear hb ht
     by_cases hlt : t < l0
     ·have i2 : (t : Int) < (l0 : Int) := by omega
      by_cases h40 : t < 40
      ·have i3 : (t : Int) < 40 := by omega
       obtain ⟨g, o, ea, el, ec, z, ha0, hcell, hci⟩ := HC.out.at_ hlt
       subst ha0
       have hcell2 := ((HUB.out.trans HBM.out.up).cell (p := ⟨g, o + t, none⟩) (lt_of_cell hcell) id).trans hcell
       have HFIT := hid (BB.fit (@Hid.out FitC HFC) HBM.out (by omega) ea el ec z (came_nx hci (HUB.out.trans HBM.out.up)))
       have HT40 := hid h40
       clear hcell hci hlt h40
       go_wp2_with fail
       refine HFIT.out.mono ?_
       rintro e w3 ⟨rq, sq, cq, lq, dq, rfl, hx⟩
       have hbr := BR.of HBM.out hx
       obtain ⟨w4, hw4⟩ : ∃ W, W = w3.alloc (.cells (rcellsL rq (.slice sq rq.sids.length cq) (.slice lq rq.locs.length dq)) 28) := ⟨_, rfl⟩
       obtain ⟨pb, hpb⟩ : ∃ x, x = w3.heap.size := ⟨_, rfl⟩
       rw [← hw4, ← hpb] at hbr
       have hw5 : w4 = w3.alloc (.cells #[.int .i64 rq.kind, .string rq.key, .int .i64 rq.n, .int .i64 rq.sid, .slice sq rq.sids.length cq, .int .i64 rq.colour, .slice lq rq.locs.length dq, .int .i64 rq.t.hot, .int .i64 rq.t.warm, .int .i64 rq.t.gap, .int .i64 rq.t.add, .int .i64 rq.t.top, .int .i64 rq.t.half] 28) := hw4
       have HBR := hid hbr
       clear hbr hx hw4 HFIT hcell2
       go_upto_region 9 with fail
       rw [← hw5, ← hpb]
       clear hw5 hpb
       obtain ⟨x0, x1, x2, x3, x4, x5, x6, x7, x8, x9, x10, x11, x12⟩ := HBR.out.rb.cells
       go_wp2_with fail
       refine (HBR.out.mapply HS.out (by omega)).mono ?_
       rintro e w6 ⟨rfl, hba⟩
       have HBA := hid hba
       clear hba HBR x0 x1 x2 x3 x4 x5 x6 x7 x8 x9 x10 x11 x12
       obtain ⟨x0, x1, x2, x3, x4, x5, x6, x7, x8, x9, x10, x11, x12⟩ := HBA.out.rb.cells
       go_upto_region 10 with fail
       go_wp2_with fail
       refine (HBA.out.rapply (by omega)).mono ?_
       rintro e w7 ⟨x, F1', F2', rfl, hb7⟩
       have HB7 := hid hb7
       clear hb7 HBA x0 x1 x2 x3 x4 x5 x6 x7 x8 x9 x10 x11 x12
       go_wp2_with fail
       go_roundw
       case rel => exact ⟨t + 1, _, F1', F2', by have := HT40.out; omega, by go_num, HB7.out⟩
       case measure => have := HT40.out; simp [intOf]; omega
      ·have i3 : ¬ (t : Int) < 40 := by omega
       have e40 : t = 40 := by have := HT.out; omega
       have HE : Hid (∃ M F1 F2, BB wB wr F1 F2 p bm bs q 480 M) := by subst e40; exact ⟨M, F1, F2, HBM.out⟩
       clear hlt h40 e40
       go_wp2_with fail
       go_meet
       exact HE.out
     ·have i2 : ¬ (t : Int) < (l0 : Int) := by omega
      clear hlt
      have HE : Hid (∃ M F1 F2, BB wB wr F1 F2 p bm bs q 480 M) := ⟨M, F1, F2, HBM.out.mono (by have := HT.out; omega)⟩
      go_wp2_with fail
      go_meet
      exact HE.out
   case rest =>
    obtain ⟨M, F1, F2, hb⟩ := hcut
    have HBM := hid hb
    clear hb HB
    obtain ⟨Q, hm⟩ := HBM.out.m
    have HM := hid hm
    have HI := hid HBM.out.i
    clear hm
    go_wp2_with fail
    refine (copy_any HM.out (fun k hk => (HBM.out.l1 k hk).2) HI.out (by omega)).mono ?_
    rintro e w3 ⟨p2, bm2, bs2, Q2, rfl, hm2, u3⟩
    have HB3 := hid (HBM.out.nxt u3)
    have HM2 := hid hm2
    have HU3 := hid u3
    have HM3 := hid (HM.out.nxt u3)
    clear hm2 u3
    obtain ⟨x0, x1, x2, x3, x4, x5, x6, x7, x8, x9, x10, x11, x12⟩ := (HBB.out.nxt HB3.out.up).cells
    have HRH : Hid (RH w3 r sa la) := ⟨HRS.out.nxt (HUB.out.trans HB3.out.up), HRL.out.nxt (HUB.out.trans HB3.out.up), by have h1 := HLIM.out; have h2 := LS.out; omega, by have h1 := HLIM.out; have h2 := LL.out; omega⟩
    go_upto_region 14 with fail
    go_wp2_with fail
    refine (apply_any HM3.out (fun k hk => (HB3.out.l1 k hk).2) HI.out (HS.out.nxt HB3.out.up) r sa la sc lc HRH.out (by have h1 := HLIM.out; have h2 := LK.out; omega) ⟨HCAP.out.1, by have := HCAP.out.2.1; unfold maxLen at this; omega⟩ ⟨HCAP.out.2.2.1, by have := HCAP.out.2.2.2; unfold maxLen at this; omega⟩ (by omega)).mono ?_
    rintro e w4 ⟨rfl, ⟨Q4, hm4⟩, u4⟩
    have HM4 := hid hm4
    have HUP4 : Hid (Up Nul wB w4) := HB3.out.up.thn u4 fun j e => .inr (HB3.out.l1 j e).1
    have HR4 := hid (HB3.out.r.up u4 fun k hk h1k => HB3.out.d k h1k hk)
    have HMC4 := hid (HM2.out.up u4 fun k hk h1k => by have h1 := hk.1; have h2 := (HBM.out.l1 k h1k).2; omega)
    have HRB4 := hid (HBB.out.nxt HUP4.out)
    have HRH4 : Hid (RH w4 r sa la) := ⟨HRS.out.nxt (HUB.out.trans HUP4.out), HRL.out.nxt (HUB.out.trans HUP4.out), HRH.out.ns, HRH.out.nl⟩
    have HSAME := hid (fun h => step_same (M := M) (r := r) h)
    have HOK := hid (fun h => step_ok (M := M) (r := r) h)
    clear hm4 u4 x0 x1 x2 x3 x4 x5 x6 x7 x8 x9 x10 x11 x12
    generalize M.step r = Z at HM4 HSAME HOK
    obtain ⟨z1, M1⟩ := Z
    dsimp only at HM4 HSAME HOK
    obtain ⟨x0, x1, x2, x3, x4, x5, x6, x7, x8, x9, x10, x11, x12⟩ := HRB4.out.cells
    by_cases hz : z1 = 0
    ·have b0 : (z1 == 0) = true := by rw [hz]; rfl
     have hok := HOK.out hz
     have HROK := hid (rok_any r sa la sc lc w4 HRH4.out (by have h1 := HLIM.out; have h2 := LK.out; omega))
     rw [hok] at HROK
     clear hz hok
     go_wp2_with fail
     refine HROK.out.mono ?_
     rintro e w5 ⟨rfl, u5⟩
     have HU5 := hid u5
     clear u5
     go_wp2_with fail
     refine (awake_any w5 (HS.out.nxt (HUP4.out.trans HU5.out))).mono ?_
     rintro e w6 ⟨rfl, u6⟩
     have HUe := hid ((HUB.out.trans (HUP4.out.trans HU5.out)).trans u6)
     go_wp2
     go_ret
     exact ⟨rfl, HUe.out⟩
    ·have b0 : (z1 == 0) = false := by rw [beq_eq_false_iff_ne]; exact hz
     have hsm := HSAME.out hz
     subst hsm
     obtain ⟨Qr, ks, is, kv, bv, iv, sv, hrm⟩ := HR4.out
     have HRM := hid hrm
     have HSM1 := hid (lsame_any HM4.out hrm HI.out (by omega) (by omega))
     clear hz hrm x0 x1 x2 x3 x4 x5 x6 x7 x8 x9 x10 x11 x12
     go_wp2_with fail
     refine HSM1.out.mono ?_
     rintro e w5 ⟨rfl, u5⟩
     have HU5 := hid u5
     have HSM2 := hid (lsame_any (HMC4.out.nxt u5) (HRM.out.nxt u5) HI.out (by omega) (by omega))
     clear u5
     go_wp2_with fail
     refine HSM2.out.mono ?_
     rintro e w6 ⟨rfl, u6⟩
     have HU6 := hid (HU5.out.trans u6)
     clear u6
     go_wp2_with fail
     refine (awake_any w6 (HS.out.nxt (HUP4.out.trans HU6.out))).mono ?_
     rintro e w7 ⟨rfl, u7⟩
     have HUe := hid ((HUB.out.trans (HUP4.out.trans HU6.out)).trans u7)
     go_wp2
     go_ret
     exact ⟨rfl, HUe.out⟩
theorem refuses_walk (hf : FitC) (a0 : Option Addr) (l0 c0 : Nat) (r1 : Rc) (sa1 la1 : Option Addr) (sc1 lc1 : Nat) (w : World) (hS : Shp w) (w0 : CamR w a0 l0 c0) (s1 : RowI w sa1 r1.sids) (t1 : RowL w la1 r1.locs) (u1 : RawCaps r1 sc1 lc1) :
  Calls Tryz.prog 3 #[.slice a0 l0 c0, rv r1 (.slice sa1 r1.sids.length sc1) (.slice la1 r1.locs.length lc1)] w fun e w' => e = .returned (.bool true) ∧ Below w.heap.size w w' :=
 (refuses_any @hf a0 l0 c0 r1 sa1 la1 sc1 lc1 w hS w0 s1 t1 u1).mono fun e w' ⟨h, u⟩ => ⟨h, u.below (Nat.le_refl _) fun _ _ h => h⟩
end Go.Proofs.YtepggchnhgpcnaaGreatDoor
