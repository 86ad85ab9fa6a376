/- The law DiskPlays, walked. -/
import Derived.Test.YtmnkhdhohjceoaaPlaysLoad
import Derived.Test.YtmnkhdhohjceoaaHand
import Derived.Deep.CutBlock
import Derived.Deep.CutRange
import Derived.BigQuiet
import Derived.Deep.QuietTactic
namespace Go.Proofs.Ytmnkhdhohjceoaa
open Go.RowKit
set_option linter.unusedVariables false

set_option maxRecDepth 100000 in
set_option maxHeartbeats 6400000 in
theorem plays_walk (a0 a1 : Int) (a2 : Option Addr) (len2 cap2 : Nat) (F : Nat → OpV) (w : World) (w0 : (Lit.int .i64 a0).wf = true) (w1 : (Lit.int .i64 a1).wf = true) (w2 : CameO w a2 len2 F) :
    Calls Try.prog 3 #[.int .i64 a0, .int .i64 a1, .slice a2 len2 cap2] w fun e w' => e = .returned (.bool true) ∧ Below w.heap.size w w' := by
  have HA0 : Hid (a0 ≤ 9223372036854775807) := by have := bounds_i64 w0; show _ ≤ _; omega
  have HA1 : Hid (a1 ≤ 9223372036854775807) := by have := bounds_i64 w1; show _ ≤ _; omega
  have HF := hid w2
  have l2 : (len2 : Int) ≤ 9223372036854775807 := by have := w2.2; omega
  clear w0 w1 w2
  go_enter Try.func3, Try.ntmps3
  go_wp2_with fail
  go_loopw [0, 7] (fun sl k wr => ∃ (t : Nat) (X : Int), t ≤ 2 ∧ k = .int .i64 (t : Nat) ∧ sl = .int .i64 X ∧ X ≤ 9223372036854775807 ∧ Up Nul w wr) (fun _ k _ => 2 - (intOf k).toNat)
  case atStart => exact ⟨0, a0, by omega, rfl, rfl, HA0.out, Up.refl _ _⟩
  case round =>
    obtain ⟨t, X, ht, rfl, rfl, hX, hu⟩ := hrel
    have HU := hid hu
    have HX := hid hX
    clear hu hX
    have i0 : (0 : Int) ≤ (t : Int) := by omega
    by_cases hlt : t < 2
    · have i1 : (t : Int) < 2 := by omega
      have HT : Hid (t + 1 ≤ 2) := hlt
      go_wp2_with fail
      refine (fuseH HU.out a1 HA1.out).mono ?_
      rintro e w3 ⟨f, rfl, f1, f2, f3⟩
      have HFZ := hid (And.intro f1 f2)
      have U3 := hid (HU.out.trans f3)
      clear f1 f2 f3
      go_wp2_with fail
      refine (rnewFuse_any a1 w3 HA1.out).mono ?_
      rintro e w4 ⟨g, rfl, g1, g2, g3⟩
      have HG : Hid (RFz w4 g (ofk a1) ∧ w.heap.size ≤ g) := ⟨g1, Nat.le_trans U3.out.size g3⟩
      have HFZ4 : Hid (FzO w4 (some f) (ofk a1)) := HFZ.out.1.up g2 fun _ _ => id
      have U4 := hid (U3.out.trans g2)
      clear g1 g2 g3
      obtain ⟨n, N⟩ : ∃ n, cnt X = n := ⟨_, rfl⟩
      have HN : Hid (n ≤ 64) := by show _ ≤ _; rw [← N]; unfold cnt; omega
      go_wp2_with fail
      refine (newH U4.out X (some f) (ofk a1) HFZ4.out HFZ.out.2 n N).mono ?_
      rintro e w5 ⟨b, rfl, h1, h2⟩
      have HH := hid h1
      have U5 := hid (U4.out.trans h2)
      have HG5 : Hid (RFz w5 g (ofk a1)) := HG.out.1.up h2 id
      clear h1 h2
      go_wp2_with fail
      refine (rnewDisk_any X g w5 HX.out).mono ?_
      rintro e w6 ⟨r, rfl, r1, r2, r3, r4, r5, r6, r7, r8⟩
      have U6 := hid (U5.out.trans r8)
      have HPX : Hid (PX w6 w w6 b n f r.m g 0) := px_new (HH.out.nxt r8) r1 (by rw [r5]; exact HG5.out.up r8 id) (r2.trans N) r3 r4 r6 (fun q hq => Nat.le_trans U5.out.size (r7 q hq)) (by rw [r5]; exact HG.out.2) U6.out rfl r5
      have c0 := r1.c0
      rw [r2.trans N] at c0
      generalize r.m = mm at HPX c0 ⊢
      generalize r.sa = sa at c0
      generalize r.sc = sc at c0
      clear r1 r2 r3 r4 r5 r6 r7 r8 HH HG5 HG HFZ HFZ4 U3 U4 U5 N
      have HC : Hid (∀ W, Up Nul w6 W → W.cell? ⟨mm, 0, none⟩ = some (.slice sa n sc)) := fun W u => (u.cell (p := ⟨mm, 0, none⟩) (lt_of_cell c0) id).trans c0
      have HSL : Hid (∀ W, Up Nul w6 W → Calls Try.prog 12 #[.pointer (some ⟨b, 0, none⟩)] W fun e w' => e = .returned (.int .i64 (n : Nat)) ∧ w' = W) := fun W u => by
        obtain ⟨k, live, R, ps, r, h1, _⟩ := HPX.out.nxt u
        exact slotsH h1.pm.hd
      have HR0 : Hid (Up Nul w6 w6) := Up.refl _ _
      go_upto_region 6 with fail
      go_cut [54] from 21 to 265 (fun c wx => c = .bool false ∧ Up Nul w6 wx)
      case first =>
        as_aux_lemma =>
          go_region_held3 (fun W => Up Nul w6 W ∧ W.cell? ⟨mm, 0, none⟩ = some (.slice sa n sc))
            (first | exact ⟨by assumption, HC.out _ (by assumption)⟩ | exact ⟨HR0.out.drew, HC.out _ HR0.out.drew⟩)
            (first
              | (go_at_call 12; (with_reducible refine (HSL.out _ (by first | exact HR0.out.drew | assumption)).mono ?_); rintro e wb ⟨rfl, rfl⟩)
              | (go_at_call 13; (with_reducible refine (awake_any _).mono ?_); rintro e wb ⟨rfl, kb⟩; have ob : Up Nul w6 wb := (by first | exact HR0.out.drew.trans kb | exact Up.trans (by assumption) kb); clear kb))
          have OB := hid ob
          clear ob
          go_wp2_with fail
          go_meet
          exact ⟨rfl, OB.out⟩
      obtain ⟨rfl, hu6⟩ := hcut
      have HPY := hid (HPX.out.nxt hu6).now
      clear HPX HC HSL HR0 c0 U6 hu6
      go_wp2_with fail
      go_loopw [12] (fun i wr => ∃ j : Nat, j ≤ 60 ∧ j ≤ len2 ∧ i = .int .i64 (j : Nat) ∧ PX wr w wr b n f mm g j) (fun i _ => 60 - (intOf i).toNat)
      case atStart => exact ⟨0, by omega, by omega, rfl, HPY.out⟩
      case round =>
        as_aux_lemma =>
          obtain ⟨j, hj, hjl, rfl, hp⟩ := hrel
          have HP := hid hp
          clear hp HPY
          have j0 : (0 : Int) ≤ (j : Int) := by omega
          by_cases hlj : j < len2
          · have j1 : (j : Int) < (len2 : Int) := by omega
            by_cases h60 : j < 60
            · have j2 : (j : Int) < 60 := by omega
              obtain ⟨ob, oo, ha, hbl, hop⟩ : ∃ gb o, a2 = some ⟨gb, o, none⟩ ∧ gb < w.heap.size ∧ ∀ i, i < len2 → OpAt w gb (o + i * 6) (F i) := by
                rcases HF.out.1 with e | e
                · omega
                · exact e
              subst ha
              have hop := hop j hlj
              have HOP := hid hop
              generalize F j = v at hop HOP
              obtain ⟨z, hz1, hz2⟩ := hop.bytes
              have HZ := hid (And.intro hz1 hz2)
              have h8 := bounds_u8 hop.wf
              have hn := bounds_i64 hop.wn
              have HRG : Hid (wr.rangeAt ob (oo + j * 6) (opcs v)) := fun m u hm => by
                have hc : ∀ p, p.block = ob → wr.cell? p = w.cell? p := fun p hp => HP.out.up.cell (by rw [hp]; exact hbl) id
                match m, hm with
                | 0, hm => cases hm; exact (hc _ rfl).trans hop.c0
                | 1, hm => cases hm; exact (hc _ rfl).trans hop.c1
                | 2, hm => cases hm; exact (hc _ rfl).trans hop.c2
                | 3, hm => cases hm; exact (hc _ rfl).trans hop.c3
                | 4, hm => cases hm; exact (hc _ rfl).trans hop.c4
                | 5, hm => cases hm; exact (hc _ rfl).trans hop.c5
              obtain ⟨kd, sl, at_, nn, fi, ba, bl, bc, zs⟩ := v
              dsimp only at HZ h8 hn
              obtain ⟨c, rfl⟩ : ∃ c : Nat, fi = c := ⟨fi.toNat, by omega⟩
              have HC8 : Hid (c < 256) := by show _ < _; omega
              have HNN : Hid (nn ≤ 9223372036854775807) := by show _ ≤ _; omega
              have HJ : Hid (j < 1000) := by show _ < _; omega
              have HB := hid (OpB.new wr ⟨kd, sl, at_, nn, c, ba, bl, bc, zs⟩)
              have UA := hid ((Up.refl Nul wr).alloc (.cells (opcs ⟨kd, sl, at_, nn, c, ba, bl, bc, zs⟩).toArray 39))
              obtain ⟨Z, hZ1, hZ2⟩ := zero_op
              have HI : Hid ((Try.prog.info? 39).map (·.size) = some (opcs ⟨kd, sl, at_, nn, c, ba, bl, bc, zs⟩).length) := info_op
              have HI2 : Hid ((Try.prog.info? 39).map (·.size) = some (opcs ⟨kd, sl, at_, nn, c, ba, bl, bc, zs⟩).toArray.size) := info_op
              have HZS : Hid (Z.size = (opcs ⟨kd, sl, at_, nn, c, ba, bl, bc, zs⟩).toArray.size) := hZ1
              have HON : Hid ((opcs ⟨kd, sl, at_, nn, c, ba, bl, bc, zs⟩).toArray.all (·.oneCell') = true) := Array.all_eq_true_iff_forall_mem.2 fun x hx => one_opcs _ x (by simpa using hx)
              have y0 := HB.out.c0
              have y5 := HB.out.c5
              dsimp only at y0 y5
              generalize opcs ⟨kd, sl, at_, nn, c, ba, bl, bc, zs⟩ = cs at HRG HI HI2 HZS HON UA y0 y5 HB
              clear hop hz1 hz2 h8 hn hZ1 HOP
              by_cases h200 : 200 < bl
              · have i2 : (200 : Int) < (bl : Int) := by omega
                as_aux_lemma =>
                  go_wp2_with (first
                    | (refine wpList_load_mid rfl 39 (.tmp 67) rfl ob (oo + j * 6) rfl cs _ HRG.out Try.underlying39 rfl HI.out ?_)
                    | (refine wpList_store_new rfl 39 (.tmp 13) (.tmp 68) rfl Z cs.toArray rfl rfl HI2.out HZS.out HON.out ?_))
                  go_ret
                  exact ⟨rfl, (HP.out.up.trans UA.out).below (Nat.le_refl _) fun _ _ => id⟩
              · have i2 : ¬ (200 : Int) < (bl : Int) := by omega
                go_upto_block 4 with (first
                  | (refine wpList_load_mid rfl 39 (.tmp 67) rfl ob (oo + j * 6) rfl cs _ HRG.out Try.underlying39 rfl HI.out ?_)
                  | (refine wpList_store_new rfl 39 (.tmp 13) (.tmp 68) rfl Z cs.toArray rfl rfl HI2.out HZS.out HON.out ?_))
                have HP1 := hid (HP.out.nxt UA.out).now
                clear y0 y5 HP UA HRG HI HI2 HZS HON hZ2
                generalize wr.alloc (.cells cs.toArray 39) = w1 at HP1 HB ⊢
                generalize wr.heap.size = q at HB ⊢
                have HC : Hid (∀ W, Ks DR w1 W → W.cell? ⟨q, 1, none⟩ = some (.int .i64 sl) ∧ W.cell? ⟨q, 2, none⟩ = some (.int .i64 at_) ∧ W.cell? ⟨q, 3, none⟩ = some (.int .i64 nn) ∧ W.cell? ⟨q, 4, none⟩ = some (.int .u8 c) ∧ W.cell? ⟨q, 5, none⟩ = some (.slice ba bl bc)) := fun W k => ⟨(HB.out.ks k).c1, (HB.out.ks k).c2, (HB.out.ks k).c3, (HB.out.ks k).c4, (HB.out.ks k).c5⟩
                have UR : Hid (Up Nul w1 w1.drew) := (Up.refl _ _).drew
                have HR0 : Hid (Ks DR w1 w1.drew) := Ks.nul UR.out
                clear HB h200 i2 hbl
                go_cut [] from 55 to 262 (fun wx => PX wx w wx b n f mm g (j + 1))
                case first =>
                  as_aux_lemma =>
                    rcases (by omega : kd = 0 ∨ kd = 1 ∨ kd = 2 ∨ kd = 3 ∨ kd = 4 ∨ kd = 5 ∨ kd = 6 ∨ kd = 7 ∨ (¬ kd = 0 ∧ ¬ kd = 1 ∧ ¬ kd = 2 ∧ ¬ kd = 3 ∧ ¬ kd = 4 ∧ ¬ kd = 5 ∧ ¬ kd = 6 ∧ ¬ kd = 7)) with rfl | rfl | rfl | rfl | rfl | rfl | rfl | rfl | ⟨k0, k1, k2, k3, k4, k5, k6, k7⟩
                    · as_aux_lemma =>
                        go_upto_region 18 with fail
                        have HKK : Hid (∀ W, Ks DR w1 W → Ks DR w1 W ∧ W.cell? ⟨q, 1, none⟩ = some (.int .i64 sl) ∧ W.cell? ⟨q, 4, none⟩ = some (.int .u8 c)) := fun W k => ⟨k, (HC.out W k).1, (HC.out W k).2.2.2.1⟩
                        refine wp_region_held_drew (S := (fun W => Ks DR w1 W ∧ W.cell? ⟨q, 1, none⟩ = some (.int .i64 sl) ∧ W.cell? ⟨q, 4, none⟩ = some (.int .u8 c))) (by kernel_rfl) (by exact HKK.out _ HR0.out) (fun hHeld => ?_)
                        refine wpAnyH_take (i := 0) (oi := ⟨some 91, _, _, _, _, _⟩) (v := ?va1) rfl (by kernel_rfl) (by kernel_rfl) (by kernel_rfl) (fun _ _ _ h => h) (Or.inl ⟨by rfl, ?ya1⟩) (by assumption) ?ra1
                        case ya1 => (intro w hSw; (try dsimp only at hSw); go_simp; try with_reducible rfl)
                        try simp only [Act.put, List.setIfInBounds_toArray, List.set_cons_zero, List.set_cons_succ]
                        refine wpAnyH_take (i := 1) (oi := ⟨some 92, _, _, _, _, _⟩) (v := ?va2) rfl (by kernel_rfl) (by kernel_rfl) (by kernel_rfl) (fun _ _ _ h => h) (Or.inl ⟨by rfl, ?ya2⟩) (by assumption) ?ra2
                        case ya2 => (intro w hSw; (try dsimp only at hSw); go_simp; try with_reducible rfl)
                        try simp only [Act.put, List.setIfInBounds_toArray, List.set_cons_zero, List.set_cons_succ]
                        refine wpAnyH_take (i := 2) (oi := ⟨some 93, _, _, _, _, _⟩) (v := ?va3) rfl (by kernel_rfl) (by kernel_rfl) (by kernel_rfl) (fun _ _ _ h => h) (Or.inl ⟨by rfl, ?ya3⟩) (by assumption) ?ra3
                        case ya3 => (intro w hSw; (try dsimp only at hSw); go_simp; try with_reducible rfl)
                        try simp only [Act.put, List.setIfInBounds_toArray, List.set_cons_zero, List.set_cons_succ]
                        refine wpAnyH_take (i := 3) (oi := ⟨some 94, _, _, _, _, _⟩) (v := ?va4) rfl (by kernel_rfl) (by kernel_rfl) (by kernel_rfl) (fun _ _ _ h => h) (Or.inl ⟨by rfl, ?ya4⟩) (by assumption) ?ra4
                        case ya4 => (intro w hSw; (try dsimp only at hSw); go_simp; try with_reducible rfl)
                        try simp only [Act.put, List.setIfInBounds_toArray, List.set_cons_zero, List.set_cons_succ]
                        refine wpAnyH_take (i := 4) (oi := ⟨some 95, _, _, _, _, _⟩) (v := ?va5) rfl (by kernel_rfl) (by kernel_rfl) (by kernel_rfl) (fun _ _ _ h => h) (Or.inl ⟨by rfl, ?ya5⟩) (by assumption) ?ra5
                        case ya5 => (intro w hSw; (try dsimp only at hSw); go_simp; try with_reducible rfl)
                        try simp only [Act.put, List.setIfInBounds_toArray, List.set_cons_zero, List.set_cons_succ]
                        refine wpAnyH_take (i := 7) (oi := ⟨some 98, _, _, _, _, _⟩) (v := ?va6) rfl (by kernel_rfl) (by kernel_rfl) (by kernel_rfl) (fun _ _ _ h => h) (Or.inl ⟨by rfl, ?ya6⟩) (by assumption) ?ra6
                        case ya6 => (intro w hSw; (try dsimp only at hSw); go_simp; try with_reducible rfl)
                        try simp only [Act.put, List.setIfInBounds_toArray, List.set_cons_zero, List.set_cons_succ]
                        refine wpAnyH_take (i := 8) (oi := ⟨some 99, _, _, _, _, _⟩) (v := ?va7) rfl (by kernel_rfl) (by kernel_rfl) (by kernel_rfl) (fun _ _ _ h => h) (Or.inl ⟨by rfl, ?ya7⟩) (by assumption) ?ra7
                        case ya7 => (intro w hSw; (try dsimp only at hSw); go_simp; try with_reducible rfl)
                        try simp only [Act.put, List.setIfInBounds_toArray, List.set_cons_zero, List.set_cons_succ]
                        refine wpAnyH_take (i := 9) (oi := ⟨some 100, _, _, _, _, _⟩) (v := ?va8) rfl (by kernel_rfl) (by kernel_rfl) (by kernel_rfl) (fun _ _ _ h => h) (Or.inl ⟨by rfl, ?ya8⟩) (by assumption) ?ra8
                        case ya8 => (intro w hSw; (try dsimp only at hSw); go_simp; try with_reducible rfl)
                        try simp only [Act.put, List.setIfInBounds_toArray, List.set_cons_zero, List.set_cons_succ]
                        refine wpAnyH_take (i := 10) (oi := ⟨some 101, _, _, _, _, _⟩) (v := ?va9) rfl (by kernel_rfl) (by kernel_rfl) (by kernel_rfl) (fun _ _ _ h => h) (Or.inl ⟨by rfl, ?ya9⟩) (by assumption) ?ra9
                        case ya9 => (intro w hSw; (try dsimp only at hSw); go_simp; try with_reducible rfl)
                        try simp only [Act.put, List.setIfInBounds_toArray, List.set_cons_zero, List.set_cons_succ]
                        refine wpAnyH_take (i := 11) (oi := ⟨some 102, _, _, _, _, _⟩) (v := ?va10) rfl (by kernel_rfl) (by kernel_rfl) (by kernel_rfl) (fun _ _ _ h => h) (Or.inl ⟨by rfl, ?ya10⟩) (by assumption) ?ra10
                        case ya10 => (intro w hSw; (try dsimp only at hSw); go_simp; try with_reducible rfl)
                        try simp only [Act.put, List.setIfInBounds_toArray, List.set_cons_zero, List.set_cons_succ]
                        refine wpAnyH_ready (rs := [5]) (by kernel_rfl) (by simp) ?_
                        refine AllReadyH.cons (o := ⟨some 96, _, _, _, _, _⟩) rfl (fun K hK => ?_) AllReadyH.nil
                        go_simp
                        refine (fullH c _ HC8.out).mono ?_; rintro e wb ⟨q1, rfl, kb1, kb2⟩; have KB : Hid (Ks DR w1 wb) := HR0.out.trans (Ks.nul kb2)
                        refine hK.out _ _ ?ka11 (fun hHeld => ?_)
                        case ka11 => exact HKK.out _ KB.out
                        clear hK K
                        try simp only [Act.put, List.setIfInBounds_toArray, List.set_cons_zero, List.set_cons_succ]
                        refine wpAnyH_ready (rs := [6]) (by kernel_rfl) (by simp) ?_
                        refine AllReadyH.cons (o := ⟨some 97, _, _, _, _, _⟩) rfl (fun K hK => ?_) AllReadyH.nil
                        go_simp
                        obtain ⟨cd, hcall⟩ := px_write (HP1.out.nxt (UR.out.trans kb2)) HJ.out sl (some ⟨q1, 0, none⟩) 96 96 (ful c) ⟨ful_length c, .inr ⟨q1, 0, rfl, kb1.lt, kb1.whole⟩, by omega⟩ (fun _ q hq => .inr ⟨_, by cases hq; exact kb1.heap⟩); refine hcall.mono ?_; rintro e wd ⟨rfl, ud, kd1, hdoc⟩; have HDOC := hid hdoc; clear hdoc hcall
                        refine hK.out _ _ ?ka12 (fun hHeld => ?_)
                        case ka12 => exact HKK.out _ kd1
                        clear hK K
                        try simp only [Act.put, List.setIfInBounds_toArray, List.set_cons_zero, List.set_cons_succ]
                        refine wpAnyH_ready (rs := [12]) (by kernel_rfl) (by simp) ?_
                        refine AllReadyH.cons (o := ⟨some 103, _, _, _, _, _⟩) rfl (fun K hK => ?_) AllReadyH.nil
                        go_simp
                        refine (fullH c _ HC8.out).mono ?_; rintro e we ⟨q2, rfl, ke1, ke2⟩; have KE : Hid (Ks DR w1 we) := kd1.trans (Ks.nul ke2); have hdoc := hid (HDOC.out we ke2); have hconv := SlN.conv (n := 96) (w := we) (a := some ⟨q2, 0, none⟩) ⟨ful_length c, .inr ⟨q2, 0, rfl, ke1.lt, ke1.whole⟩, by omega⟩ 96; generalize strOf (ful c) = tx at hconv hdoc
                        refine hK.out _ _ ?ka13 (fun hHeld => ?_)
                        case ka13 => exact HKK.out _ KE.out
                        clear hK K
                        try simp only [Act.put, List.setIfInBounds_toArray, List.set_cons_zero, List.set_cons_succ]
                        refine wpAnyH_ready (rs := [13]) (by kernel_rfl) (by simp) ?_
                        refine AllReadyH.cons (o := ⟨some 104, _, _, _, _, _⟩) rfl (fun K hK => ?_) AllReadyH.nil
                        go_simp
                        skip
                        refine hK.out _ _ ?ka14 (fun hHeld => ?_)
                        case ka14 => exact HKK.out _ KE.out
                        clear hK K
                        try simp only [Act.put, List.setIfInBounds_toArray, List.set_cons_zero, List.set_cons_succ]
                        refine wpAnyH_ready (rs := [14]) (by kernel_rfl) (by simp) ?_
                        refine AllReadyH.cons (o := ⟨some 105, _, _, _, _, _⟩) rfl (fun K hK => ?_) AllReadyH.nil
                        go_simp
                        refine hdoc.out.mono ?_; rintro e wf ⟨rfl, hpf⟩; have HPF := hid hpf; clear hpf
                        refine hK.out _ _ ?ka15 (fun hHeld => ?_)
                        case ka15 => exact HKK.out _ HPF.out.ks
                        clear hK K
                        try simp only [Act.put, List.setIfInBounds_toArray, List.set_cons_zero, List.set_cons_succ]
                        refine wpAnyH_ready (rs := [15]) (by kernel_rfl) (by simp) ?_
                        refine AllReadyH.cons (o := ⟨some 106, _, _, _, _, _⟩) rfl (fun K hK => ?_) AllReadyH.nil
                        go_simp
                        skip
                        refine hK.out _ _ ?ka16 (fun hHeld => ?_)
                        case ka16 => exact HKK.out _ HPF.out.ks
                        clear hK K
                        try simp only [Act.put, List.setIfInBounds_toArray, List.set_cons_zero, List.set_cons_succ]
                        refine wpAnyH_done (by kernel_rfl) ?_ _
                        go_wp2_with fail
                        go_meet
                        exact HPF.out.now
                    · as_aux_lemma =>
                        obtain ⟨cd, z, l, hcall⟩ := px_read HP1.out sl
                        obtain ⟨c1, c2, c3, c4, c5⟩ := HC.out _ (Ks.refl _ _)
                        go_wp2_with fail
                        refine hcall.mono ?_
                        rintro e w2 ⟨a, cc, rfl, hs, hp, hdoc⟩
                        have HP2 := hid hp
                        have HD := hid hdoc
                        clear c1 c2 c3 c4 c5 hcall
                        obtain ⟨c1, c2, c3, c4, c5⟩ := HC.out _ hp.ks
                        have hcv := hs.conv cc
                        clear hp hdoc hs
                        obtain ⟨tx, TX⟩ : ∃ tx, Hid (strOf z = tx) := ⟨_, rfl⟩
                        rw [TX.out] at hcv HD
                        have hqq : (tx.toList == tx.toList) = true := by simp
                        go_wp2_with fail
                        refine HD.out.mono ?_
                        rintro e w3 ⟨rfl, rfl⟩
                        go_wp2_with fail
                        go_meet
                        exact HP2.out.now.more (Nat.le_succ j)
                    · as_aux_lemma =>
                        obtain ⟨cd, hcall⟩ := px_sync HP1.out
                        go_wp2_with fail
                        refine hcall.mono ?_
                        rintro e w2 ⟨rfl, hdoc⟩
                        have HD := hid hdoc
                        clear hdoc hcall
                        go_wp2_with fail
                        refine HD.out.mono ?_
                        rintro e w3 ⟨rfl, hp⟩
                        have HP2 := hid hp
                        clear hp
                        go_wp2_with fail
                        go_meet
                        exact HP2.out.now.more (Nat.le_succ j)
                    · as_aux_lemma =>
                        go_wp2_with fail
                        refine (px_fail HP1.out).mono ?_
                        rintro e w2 ⟨rfl, ⟨l, e1⟩, e2, hp⟩
                        have HP2 := hid hp
                        clear hp
                        go_wp2_with fail
                        go_meet
                        exact HP2.out.now.more (Nat.le_succ j)
                    · as_aux_lemma =>
                        go_wp2_with fail
                        refine (px_replace HP1.out).mono ?_
                        rintro e w2 ⟨rfl, hdoc⟩
                        have HD := hid hdoc
                        clear hdoc
                        go_wp2_with fail
                        refine HD.out.mono ?_
                        rintro e w3 ⟨rfl, hp⟩
                        have HP2 := hid hp
                        clear hp
                        go_wp2_with fail
                        go_meet
                        exact HP2.out.now.more (Nat.le_succ j)
                    · as_aux_lemma =>
                        go_upto_region 35 with fail
                        have HKK : Hid (∀ W, Ks DR w1 W → Ks DR w1 W ∧ W.cell? ⟨q, 1, none⟩ = some (.int .i64 sl) ∧ W.cell? ⟨q, 2, none⟩ = some (.int .i64 at_) ∧ W.cell? ⟨q, 4, none⟩ = some (.int .u8 c)) := fun W k => ⟨k, (HC.out W k).1, (HC.out W k).2.1, (HC.out W k).2.2.2.1⟩
                        refine wp_region_held_drew (S := (fun W => Ks DR w1 W ∧ W.cell? ⟨q, 1, none⟩ = some (.int .i64 sl) ∧ W.cell? ⟨q, 2, none⟩ = some (.int .i64 at_) ∧ W.cell? ⟨q, 4, none⟩ = some (.int .u8 c))) (by kernel_rfl) (by exact HKK.out _ HR0.out) (fun hHeld => ?_)
                        refine wpAnyH_take (i := 0) (oi := ⟨some 154, _, _, _, _, _⟩) (v := ?vb1) rfl (by kernel_rfl) (by kernel_rfl) (by kernel_rfl) (fun _ _ _ h => h) (Or.inl ⟨by rfl, ?yb1⟩) (by assumption) ?rb1
                        case yb1 => (intro w hSw; (try dsimp only at hSw); go_simp; try with_reducible rfl)
                        try simp only [Act.put, List.setIfInBounds_toArray, List.set_cons_zero, List.set_cons_succ]
                        refine wpAnyH_take (i := 1) (oi := ⟨some 155, _, _, _, _, _⟩) (v := ?vb2) rfl (by kernel_rfl) (by kernel_rfl) (by kernel_rfl) (fun _ _ _ h => h) (Or.inl ⟨by rfl, ?yb2⟩) (by assumption) ?rb2
                        case yb2 => (intro w hSw; (try dsimp only at hSw); go_simp; try with_reducible rfl)
                        try simp only [Act.put, List.setIfInBounds_toArray, List.set_cons_zero, List.set_cons_succ]
                        refine wpAnyH_take (i := 2) (oi := ⟨some 156, _, _, _, _, _⟩) (v := ?vb3) rfl (by kernel_rfl) (by kernel_rfl) (by kernel_rfl) (fun _ _ _ h => h) (Or.inl ⟨by rfl, ?yb3⟩) (by assumption) ?rb3
                        case yb3 => (intro w hSw; (try dsimp only at hSw); go_simp; try with_reducible rfl)
                        try simp only [Act.put, List.setIfInBounds_toArray, List.set_cons_zero, List.set_cons_succ]
                        refine wpAnyH_take (i := 3) (oi := ⟨some 157, _, _, _, _, _⟩) (v := ?vb4) rfl (by kernel_rfl) (by kernel_rfl) (by kernel_rfl) (fun _ _ _ h => h) (Or.inl ⟨by rfl, ?yb4⟩) (by assumption) ?rb4
                        case yb4 => (intro w hSw; (try dsimp only at hSw); go_simp; try with_reducible rfl)
                        try simp only [Act.put, List.setIfInBounds_toArray, List.set_cons_zero, List.set_cons_succ]
                        refine wpAnyH_take (i := 4) (oi := ⟨some 158, _, _, _, _, _⟩) (v := ?vb5) rfl (by kernel_rfl) (by kernel_rfl) (by kernel_rfl) (fun _ _ _ h => h) (Or.inl ⟨by rfl, ?yb5⟩) (by assumption) ?rb5
                        case yb5 => (intro w hSw; (try dsimp only at hSw); go_simp; try with_reducible rfl)
                        try simp only [Act.put, List.setIfInBounds_toArray, List.set_cons_zero, List.set_cons_succ]
                        refine wpAnyH_take (i := 5) (oi := ⟨some 159, _, _, _, _, _⟩) (v := ?vb6) rfl (by kernel_rfl) (by kernel_rfl) (by kernel_rfl) (fun _ _ _ h => h) (Or.inl ⟨by rfl, ?yb6⟩) (by assumption) ?rb6
                        case yb6 => (intro w hSw; (try dsimp only at hSw); go_simp; try with_reducible rfl)
                        try simp only [Act.put, List.setIfInBounds_toArray, List.set_cons_zero, List.set_cons_succ]
                        refine wpAnyH_take (i := 6) (oi := ⟨some 160, _, _, _, _, _⟩) (v := ?vb7) rfl (by kernel_rfl) (by kernel_rfl) (by kernel_rfl) (fun _ _ _ h => h) (Or.inl ⟨by rfl, ?yb7⟩) (by assumption) ?rb7
                        case yb7 => (intro w hSw; (try dsimp only at hSw); go_simp; try with_reducible rfl)
                        try simp only [Act.put, List.setIfInBounds_toArray, List.set_cons_zero, List.set_cons_succ]
                        refine wpAnyH_take (i := 8) (oi := ⟨some 162, _, _, _, _, _⟩) (v := ?vb8) rfl (by kernel_rfl) (by kernel_rfl) (by kernel_rfl) (fun _ _ _ h => h) (Or.inl ⟨by rfl, ?yb8⟩) (by assumption) ?rb8
                        case yb8 => (intro w hSw; (try dsimp only at hSw); go_simp; try with_reducible rfl)
                        try simp only [Act.put, List.setIfInBounds_toArray, List.set_cons_zero, List.set_cons_succ]
                        refine wpAnyH_take (i := 9) (oi := ⟨some 163, _, _, _, _, _⟩) (v := ?vb9) rfl (by kernel_rfl) (by kernel_rfl) (by kernel_rfl) (fun _ _ _ h => h) (Or.inl ⟨by rfl, ?yb9⟩) (by assumption) ?rb9
                        case yb9 => (intro w hSw; (try dsimp only at hSw); go_simp; try with_reducible rfl)
                        try simp only [Act.put, List.setIfInBounds_toArray, List.set_cons_zero, List.set_cons_succ]
                        refine wpAnyH_take (i := 10) (oi := ⟨some 164, _, _, _, _, _⟩) (v := ?vb10) rfl (by kernel_rfl) (by kernel_rfl) (by kernel_rfl) (fun _ _ _ h => h) (Or.inl ⟨by rfl, ?yb10⟩) (by assumption) ?rb10
                        case yb10 => (intro w hSw; (try dsimp only at hSw); go_simp; try with_reducible rfl)
                        try simp only [Act.put, List.setIfInBounds_toArray, List.set_cons_zero, List.set_cons_succ]
                        refine wpAnyH_take (i := 11) (oi := ⟨some 165, _, _, _, _, _⟩) (v := ?vb11) rfl (by kernel_rfl) (by kernel_rfl) (by kernel_rfl) (fun _ _ _ h => h) (Or.inl ⟨by rfl, ?yb11⟩) (by assumption) ?rb11
                        case yb11 => (intro w hSw; (try dsimp only at hSw); go_simp; try with_reducible rfl)
                        try simp only [Act.put, List.setIfInBounds_toArray, List.set_cons_zero, List.set_cons_succ]
                        refine wpAnyH_take (i := 12) (oi := ⟨some 166, _, _, _, _, _⟩) (v := ?vb12) rfl (by kernel_rfl) (by kernel_rfl) (by kernel_rfl) (fun _ _ _ h => h) (Or.inl ⟨by rfl, ?yb12⟩) (by assumption) ?rb12
                        case yb12 => (intro w hSw; (try dsimp only at hSw); go_simp; try with_reducible rfl)
                        try simp only [Act.put, List.setIfInBounds_toArray, List.set_cons_zero, List.set_cons_succ]
                        refine wpAnyH_take (i := 13) (oi := ⟨some 167, _, _, _, _, _⟩) (v := ?vb13) rfl (by kernel_rfl) (by kernel_rfl) (by kernel_rfl) (fun _ _ _ h => h) (Or.inl ⟨by rfl, ?yb13⟩) (by assumption) ?rb13
                        case yb13 => (intro w hSw; (try dsimp only at hSw); go_simp; try with_reducible rfl)
                        try simp only [Act.put, List.setIfInBounds_toArray, List.set_cons_zero, List.set_cons_succ]
                        refine wpAnyH_take (i := 14) (oi := ⟨some 168, _, _, _, _, _⟩) (v := ?vb14) rfl (by kernel_rfl) (by kernel_rfl) (by kernel_rfl) (fun _ _ _ h => h) (Or.inl ⟨by rfl, ?yb14⟩) (by assumption) ?rb14
                        case yb14 => (intro w hSw; (try dsimp only at hSw); go_simp; try with_reducible rfl)
                        try simp only [Act.put, List.setIfInBounds_toArray, List.set_cons_zero, List.set_cons_succ]
                        refine wpAnyH_ready (rs := [7]) (by kernel_rfl) (by simp) ?_
                        refine AllReadyH.cons (o := ⟨some 161, _, _, _, _, _⟩) rfl (fun K hK => ?_) AllReadyH.nil
                        go_simp
                        obtain ⟨cd, hcall⟩ := px_rot (HP1.out.nxt UR.out) sl at_ c HC8.out; refine hcall.mono ?_; rintro e wd ⟨rfl, kd1, hdoc⟩; have HDOC := hid hdoc; clear hdoc hcall
                        refine hK.out _ _ ?kb15 (fun hHeld => ?_)
                        case kb15 => exact HKK.out _ kd1
                        clear hK K
                        try simp only [Act.put, List.setIfInBounds_toArray, List.set_cons_zero, List.set_cons_succ]
                        refine wpAnyH_ready (rs := [15]) (by kernel_rfl) (by simp) ?_
                        refine AllReadyH.cons (o := ⟨some 169, _, _, _, _, _⟩) rfl (fun K hK => ?_) AllReadyH.nil
                        go_simp
                        refine HDOC.out.mono ?_; rintro e wf ⟨rfl, hpf⟩; have HPF := hid hpf; clear hpf; have hcc : (cd == cd) = true := by simp
                        refine hK.out _ _ ?kb16 (fun hHeld => ?_)
                        case kb16 => exact HKK.out _ HPF.out.ks
                        clear hK K
                        try simp only [Act.put, List.setIfInBounds_toArray, List.set_cons_zero, List.set_cons_succ]
                        refine wpAnyH_ready (rs := [16]) (by kernel_rfl) (by simp) ?_
                        refine AllReadyH.cons (o := ⟨some 170, _, _, _, _, _⟩) rfl (fun K hK => ?_) AllReadyH.nil
                        go_simp
                        skip
                        refine hK.out _ _ ?kb17 (fun hHeld => ?_)
                        case kb17 => exact HKK.out _ HPF.out.ks
                        clear hK K
                        try simp only [Act.put, List.setIfInBounds_toArray, List.set_cons_zero, List.set_cons_succ]
                        refine wpAnyH_done (by kernel_rfl) ?_ _
                        go_wp2_with fail
                        go_meet
                        exact HPF.out.now.more (Nat.le_succ j)
                    · as_aux_lemma =>
                        obtain ⟨c1, c2, c3, c4, c5⟩ := HC.out _ (Ks.refl _ _)
                        go_wp2_with fail
                        refine (px_crash HP1.out nn at_).mono ?_
                        rintro e w2 ⟨rfl, k2, hdoc⟩
                        have HD := hid hdoc
                        clear c1 c2 c3 c4 c5 hdoc
                        obtain ⟨c1, c2, c3, c4, c5⟩ := HC.out _ k2
                        clear k2
                        go_wp2_with fail
                        refine HD.out.mono ?_
                        rintro e w3 ⟨rfl, hp⟩
                        have HP2 := hid hp
                        clear hp
                        go_wp2_with fail
                        go_meet
                        exact HP2.out.now.more (Nat.le_succ j)
                    · as_aux_lemma =>
                        obtain ⟨c1, c2, c3, c4, c5⟩ := HC.out _ (Ks.refl _ _)
                        go_wp2_with fail
                        refine (px_set HP1.out nn HNN.out).mono ?_
                        rintro e w2 ⟨rfl, k2, hdoc⟩
                        have HD := hid hdoc
                        clear c1 c2 c3 c4 c5 hdoc
                        obtain ⟨c1, c2, c3, c4, c5⟩ := HC.out _ k2
                        clear k2
                        go_wp2_with fail
                        refine HD.out.mono ?_
                        rintro e w3 ⟨q2, b0, z1, rfl, d0, d1, ⟨v0, g0⟩, ⟨v1, g1⟩, gf, hp⟩
                        have HP2 := hid hp
                        have gf0 := gf 0
                        have gf1 := gf 1
                        clear hp gf
                        go_wp2_with fail
                        go_meet
                        exact HP2.out.now.more (Nat.le_succ j)
                    · as_aux_lemma =>
                        go_upto_region 15 with fail
                        have HKK : Hid (∀ W, Ks DR w1 W → Up Nul w W → Ks DR w1 W ∧ W.cell? ⟨q, 1, none⟩ = some (.int .i64 sl) ∧ W.cell? ⟨q, 5, none⟩ = some (.slice ba bl bc) ∧ (convert 37 9 (.slice ba bl bc)).run Try.prog W = .ok (.string (strOf z)) W) := fun W k u => ⟨k, (HC.out W k).1, (HC.out W k).2.2.2.2, (HZ.out.1.nxt u).conv bc⟩
                        refine wp_region_held_drew (S := (fun W => Ks DR w1 W ∧ W.cell? ⟨q, 1, none⟩ = some (.int .i64 sl) ∧ W.cell? ⟨q, 5, none⟩ = some (.slice ba bl bc) ∧ (convert 37 9 (.slice ba bl bc)).run Try.prog W = .ok (.string (strOf z)) W)) (by kernel_rfl) (by exact HKK.out _ HR0.out (HP1.out.up.trans UR.out)) (fun hHeld => ?_)
                        refine wpAnyH_take (i := 0) (oi := ⟨some 75, _, _, _, _, _⟩) (v := ?vc1) rfl (by kernel_rfl) (by kernel_rfl) (by kernel_rfl) (fun _ _ _ h => h) (Or.inl ⟨by rfl, ?yc1⟩) (by assumption) ?rc1
                        case yc1 => (intro w hSw; (try dsimp only at hSw); go_simp; try with_reducible rfl)
                        try simp only [Act.put, List.setIfInBounds_toArray, List.set_cons_zero, List.set_cons_succ]
                        refine wpAnyH_take (i := 1) (oi := ⟨some 76, _, _, _, _, _⟩) (v := ?vc2) rfl (by kernel_rfl) (by kernel_rfl) (by kernel_rfl) (fun _ _ _ h => h) (Or.inl ⟨by rfl, ?yc2⟩) (by assumption) ?rc2
                        case yc2 => (intro w hSw; (try dsimp only at hSw); go_simp; try with_reducible rfl)
                        try simp only [Act.put, List.setIfInBounds_toArray, List.set_cons_zero, List.set_cons_succ]
                        refine wpAnyH_take (i := 2) (oi := ⟨some 77, _, _, _, _, _⟩) (v := ?vc3) rfl (by kernel_rfl) (by kernel_rfl) (by kernel_rfl) (fun _ _ _ h => h) (Or.inl ⟨by rfl, ?yc3⟩) (by assumption) ?rc3
                        case yc3 => (intro w hSw; (try dsimp only at hSw); go_simp; try with_reducible rfl)
                        try simp only [Act.put, List.setIfInBounds_toArray, List.set_cons_zero, List.set_cons_succ]
                        refine wpAnyH_take (i := 3) (oi := ⟨some 78, _, _, _, _, _⟩) (v := ?vc4) rfl (by kernel_rfl) (by kernel_rfl) (by kernel_rfl) (fun _ _ _ h => h) (Or.inl ⟨by rfl, ?yc4⟩) (by assumption) ?rc4
                        case yc4 => (intro w hSw; (try dsimp only at hSw); go_simp; try with_reducible rfl)
                        try simp only [Act.put, List.setIfInBounds_toArray, List.set_cons_zero, List.set_cons_succ]
                        refine wpAnyH_take (i := 4) (oi := ⟨some 79, _, _, _, _, _⟩) (v := ?vc5) rfl (by kernel_rfl) (by kernel_rfl) (by kernel_rfl) (fun _ _ _ h => h) (Or.inl ⟨by rfl, ?yc5⟩) (by assumption) ?rc5
                        case yc5 => (intro w hSw; (try dsimp only at hSw); go_simp; try with_reducible rfl)
                        try simp only [Act.put, List.setIfInBounds_toArray, List.set_cons_zero, List.set_cons_succ]
                        refine wpAnyH_take (i := 6) (oi := ⟨some 81, _, _, _, _, _⟩) (v := ?vc6) rfl (by kernel_rfl) (by kernel_rfl) (by kernel_rfl) (fun _ _ _ h => h) (Or.inl ⟨by rfl, ?yc6⟩) (by assumption) ?rc6
                        case yc6 => (intro w hSw; (try dsimp only at hSw); go_simp; try with_reducible rfl)
                        try simp only [Act.put, List.setIfInBounds_toArray, List.set_cons_zero, List.set_cons_succ]
                        refine wpAnyH_take (i := 7) (oi := ⟨some 82, _, _, _, _, _⟩) (v := ?vc7) rfl (by kernel_rfl) (by kernel_rfl) (by kernel_rfl) (fun _ _ _ h => h) (Or.inl ⟨by rfl, ?yc7⟩) (by assumption) ?rc7
                        case yc7 => (intro w hSw; (try dsimp only at hSw); go_simp; try with_reducible rfl)
                        try simp only [Act.put, List.setIfInBounds_toArray, List.set_cons_zero, List.set_cons_succ]
                        refine wpAnyH_take (i := 8) (oi := ⟨some 83, _, _, _, _, _⟩) (v := ?vc8) rfl (by kernel_rfl) (by kernel_rfl) (by kernel_rfl) (fun _ _ _ h => h) (Or.inl ⟨by rfl, ?yc8⟩) (by assumption) ?rc8
                        case yc8 => (intro w hSw; (try dsimp only at hSw); go_simp; try with_reducible rfl)
                        try simp only [Act.put, List.setIfInBounds_toArray, List.set_cons_zero, List.set_cons_succ]
                        refine wpAnyH_take (i := 9) (oi := ⟨some 84, _, _, _, _, _⟩) (v := ?vc9) rfl (by kernel_rfl) (by kernel_rfl) (by kernel_rfl) (fun _ _ _ h => h) (Or.inl ⟨by rfl, ?yc9⟩) (by assumption) ?rc9
                        case yc9 => (intro w hSw; (try dsimp only at hSw); go_simp; try with_reducible rfl)
                        try simp only [Act.put, List.setIfInBounds_toArray, List.set_cons_zero, List.set_cons_succ]
                        refine wpAnyH_take (i := 10) (oi := ⟨some 85, _, _, _, _, _⟩) (v := ?vc10) rfl (by kernel_rfl) (by kernel_rfl) (by kernel_rfl) (fun _ _ _ h => h) (Or.inl ⟨by rfl, ?yc10⟩) (by assumption) ?rc10
                        case yc10 => (intro w hSw; (try dsimp only at hSw); go_simp; try with_reducible rfl)
                        try simp only [Act.put, List.setIfInBounds_toArray, List.set_cons_zero, List.set_cons_succ]
                        refine wpAnyH_take (i := 11) (oi := ⟨some 86, _, _, _, _, _⟩) (v := ?vc11) rfl (by kernel_rfl) (by kernel_rfl) (by kernel_rfl) (fun _ _ _ h => h) (Or.inl ⟨by rfl, ?yc11⟩) (by assumption) ?rc11
                        case yc11 => (intro w hSw; (try dsimp only at hSw); go_simp; try with_reducible rfl)
                        try simp only [Act.put, List.setIfInBounds_toArray, List.set_cons_zero, List.set_cons_succ]
                        refine wpAnyH_ready (rs := [5]) (by kernel_rfl) (by simp) ?_
                        refine AllReadyH.cons (o := ⟨some 80, _, _, _, _, _⟩) rfl (fun K hK => ?_) AllReadyH.nil
                        go_simp
                        obtain ⟨cd, hcall⟩ := px_write (HP1.out.nxt UR.out) HJ.out sl ba bl bc z (HZ.out.1.nxt (HP1.out.up.trans UR.out)) (fun e q hq => .inl (HZ.out.2 e q hq)); refine hcall.mono ?_; rintro e wd ⟨rfl, ud, kd1, hdoc⟩; have HDOC := hid hdoc; clear hdoc hcall
                        refine hK.out _ _ ?kc12 (fun hHeld => ?_)
                        case kc12 => exact HKK.out _ kd1 ud
                        clear hK K
                        try simp only [Act.put, List.setIfInBounds_toArray, List.set_cons_zero, List.set_cons_succ]
                        refine wpAnyH_ready (rs := [12]) (by kernel_rfl) (by simp) ?_
                        refine AllReadyH.cons (o := ⟨some 87, _, _, _, _, _⟩) rfl (fun K hK => ?_) AllReadyH.nil
                        go_simp
                        refine (HDOC.out _ (Up.refl _ _)).mono ?_; rintro e wf ⟨rfl, hpf⟩; have HPF := hid hpf; clear hpf
                        refine hK.out _ _ ?kc13 (fun hHeld => ?_)
                        case kc13 => exact HKK.out _ HPF.out.ks HPF.out.up
                        clear hK K
                        try simp only [Act.put, List.setIfInBounds_toArray, List.set_cons_zero, List.set_cons_succ]
                        refine wpAnyH_ready (rs := [13]) (by kernel_rfl) (by simp) ?_
                        refine AllReadyH.cons (o := ⟨some 88, _, _, _, _, _⟩) rfl (fun K hK => ?_) AllReadyH.nil
                        go_simp
                        skip
                        refine hK.out _ _ ?kc14 (fun hHeld => ?_)
                        case kc14 => exact HKK.out _ HPF.out.ks HPF.out.up
                        clear hK K
                        try simp only [Act.put, List.setIfInBounds_toArray, List.set_cons_zero, List.set_cons_succ]
                        refine wpAnyH_done (by kernel_rfl) ?_ _
                        go_wp2_with fail
                        go_meet
                        exact HPF.out.now
                as_aux_lemma =>
                  obtain ⟨wy, rfl⟩ : ∃ wy, wy = wc := ⟨_, rfl⟩
                  obtain ⟨live, d, L, sa2, sc2, wa, wc2, r1, r2, r3, r4, r5, r6⟩ := px_rest hcut
                  have HP2 := hid hcut
                  have R1 := hid r1
                  have R2 := hid r2
                  have R3 := hid r3
                  have R4 := hid r4
                  have R5 := hid r5
                  have R6 := hid r6
                  clear hcut r1 r2 r3 r4 r5 r6 HC UR HR0 HP1 HZ
                  have HW0 : Hid (Up Nul wy wy) := Up.refl _ _
                  have hdd : (d == d) = true := by simp
                  have hll : (live == live) = true := by simp
                  go_upto_region 43 with fail
                  go_cut [227] from 55 to 262 (fun c wx => c = .bool false ∧ Up Nul wy wx)
                  case first =>
                    as_aux_lemma =>
                      obtain ⟨m0, m1, m2⟩ := R5.out _ HW0.out
                      have HD : Hid (∀ k, Up Nul wy (wy.drewN k)) := fun k => (Up.refl _ _).drewN k
                      cases live
                      all_goals
                        cases d
                      all_goals
                        go_quiet ((first
                          | (go_at_call 29; exact Calls.quiet_of_same (R1.out _ (HD.out _)))
                          | (go_at_call 30; exact Calls.quiet_of_same (R2.out _ (HD.out _)))
                          | (go_at_call 31; exact Calls.quiet_of_same (R3.out _ (HD.out _)))
                          | (go_at_call 32; exact Calls.quiet_of_same (R4.out _ (HD.out _)))))
                        go_wp2_with fail
                        go_meet
                        exact ⟨rfl, HD.out _⟩
                  obtain ⟨rfl, hu⟩ := hcut
                  have HU := hid hu
                  clear hu R1 R2 R3 R4 HW0 hdd hll
                  go_wp2_with fail
                  go_loopw [18] (fun i wr => ∃ s : Nat, s ≤ n ∧ i = .int .i64 (s : Nat) ∧ Up Nul wy wr) (fun i _ => n - (intOf i).toNat)
                  case atStart => exact ⟨0, Nat.zero_le _, rfl, HU.out⟩
                  case round =>
                    obtain ⟨s, hs, rfl, hu⟩ := hrel
                    have HV := hid hu
                    clear hu HU
                    obtain ⟨m0, m1, m2⟩ := R5.out _ HV.out
                    have s0 : (0 : Int) ≤ (s : Int) := by omega
                    by_cases hsn : s < n
                    · have s1 : (s : Int) < (n : Int) := by omega
                      have s2 : (s : Int) ≤ 64 := by have := HN.out; omega
                      cases live with
                      | false =>
                        go_wp2_with fail
                        go_round
                        case rel => exact ⟨j + 1, h60, hlj, by go_num, (HP2.out.nxt HV.out).now⟩
                        case measure => simp [intOf]; omega
                      | true =>
                        as_aux_lemma =>
                          obtain ⟨q2, z2, rfl, hz⟩ := R6.out rfl s hsn
                          have HZ2 := hid hz
                          obtain ⟨x0, hrd⟩ := hz _ HV.out
                          clear hz
                          go_wp2_with fail
                          refine hrd.mono ?_
                          rintro e w4 ⟨a4, c4, rfl, hg⟩
                          have U4 := hid (HV.out.trans hg.up)
                          have HS4 := hid hg.sl
                          clear hg m0 m1 m2 x0 hrd
                          have HK4 : Hid (∀ W, Up Nul w4 W → W.cell? ⟨mm, 0, none⟩ = some (.slice (some ⟨q2, 0, none⟩) n sc2) ∧ W.cell? ⟨q2, s, none⟩ = some (.string (strOf z2)) ∧ (convert 37 9 (.slice a4 96 c4)).run Try.prog W = .ok (.string (strOf z2)) W) := fun W u => ⟨(R5.out W (U4.out.trans u)).1, (HZ2.out W (U4.out.trans u)).1, (HS4.out.nxt u).conv c4⟩
                          obtain ⟨tx, TX⟩ : ∃ tx, Hid (strOf z2 = tx) := ⟨_, rfl⟩
                          rw [TX.out] at HK4
                          have hqq : (tx.toList == tx.toList) = true := by simp
                          have HV4 : Hid (Up Nul w4 w4) := Up.refl _ _
                          clear HZ2 HS4 TX
                          go_wp2_with fail
                          go_region_held3 (fun W => Up Nul w4 W ∧ W.cell? ⟨mm, 0, none⟩ = some (.slice (some ⟨q2, 0, none⟩) n sc2) ∧ W.cell? ⟨q2, s, none⟩ = some (.string tx) ∧ (convert 37 9 (.slice a4 96 c4)).run Try.prog W = .ok (.string tx) W)
                            (first | exact ⟨by assumption, HK4.out _ (by assumption)⟩ | exact ⟨HV4.out.drew, HK4.out _ HV4.out.drew⟩)
                            (fail)
                          go_wp2_with fail
                          go_round
                          case rel => exact ⟨s + 1, hsn, by go_num, U4.out.trans HV4.out.drew⟩
                          case measure => simp [intOf]; omega
                    · obtain rfl : s = n := by omega
                      go_wp2_with fail
                      go_round
                      case rel => exact ⟨j + 1, h60, hlj, by go_num, (HP2.out.nxt HV.out).now⟩
                      case measure => simp [intOf]; omega
            · obtain rfl : j = 60 := by omega
              as_aux_lemma =>
                obtain ⟨k3, hk3, hk4⟩ := i64_mask2 X
                have k5 : (k3 : Int) < 4 := by omega
                have k6 : (0 : Int) ≤ (k3 : Int) := by omega
                go_wp2_with fail
                go_round
                case rel => exact ⟨t + 1, (k3 : Int) + 1, HT.out, by go_num, by first | rfl | go_num, by omega, HP.out.up⟩
                case measure => simp [intOf]; omega
          · obtain rfl : j = len2 := by omega
            as_aux_lemma =>
              obtain ⟨k3, hk3, hk4⟩ := i64_mask2 X
              have k5 : (k3 : Int) < 4 := by omega
              have k6 : (0 : Int) ≤ (k3 : Int) := by omega
              go_wp2_with fail
              go_round
              case rel => exact ⟨t + 1, (k3 : Int) + 1, HT.out, by go_num, by first | rfl | go_num, by omega, HP.out.up⟩
              case measure => simp [intOf]; omega
    · obtain rfl : t = 2 := by omega
      as_aux_lemma =>
        go_wp2_with fail
        go_ret
        exact ⟨rfl, HU.out.below (Nat.le_refl _) fun _ _ => id⟩
end Go.Proofs.Ytmnkhdhohjceoaa
