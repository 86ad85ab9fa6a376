/- The law TrioPlays, walked, whatever the program's Trio is. -/
import Derived.Test.YtencinajieicpaaTrBegin
import Derived.Test.YtencinajieicpaaTrWide
import Derived.Deep.CutBlock
import Derived.Deep.DeepCutAuto
import Derived.Deep.RegionHeld3
namespace Go.Proofs.Ytencinajieicpaa
open Go.RowKit
set_option linter.unusedVariables false

set_option maxRecDepth 100000 in
set_option maxHeartbeats 6400000 in
theorem trplays_walk (O : TrioOps) (a0 : Int) (a1 : Option Addr) (l1 c1 : Nat) (F : Nat → QOp) (w : World) (h0 : a0 ≤ 9223372036854775807) (w1 : CameQ w a1 l1 F) :
    Calls Try.prog 7 #[.int .i64 a0, .slice a1 l1 c1] w fun e w' => e = .returned (.bool true) ∧ Below w.heap.size w w' := by
  have HF := hid w1
  have l2 : (l1 : Int) ≤ 9223372036854775807 := by have := w1.2; omega
  clear w1
  go_enter Try.func7, Try.ntmps7
  go_wp2_with fail
  refine (newFuse_any a0 w h0).mono ?_
  rintro e w1 ⟨f, rfl, g1, g2, g3⟩
  have G := hid (And.intro g1 (And.intro g2 g3))
  clear g1 g2 g3
  go_wp2_with fail
  refine (rnewFuse_any a0 w1 h0).mono ?_
  rintro e w2 ⟨v, rfl, d1, d2, d3⟩
  have D : Hid (Fz w2 f (ofk a0) ∧ RFz w2 v (ofk a0) ∧ Up Nul w w2 ∧ w.heap.size ≤ f ∧ w.heap.size ≤ v ∧ f ≠ v ∧ v < w2.heap.size) := ⟨Fz.up G.out.1 d2 fun h => h, d1, G.out.2.1.trans d2, G.out.2.2, Nat.le_trans G.out.2.1.size d3, fun e => by have := Fz.lt G.out.1; omega, d1.lt⟩
  clear d1 d2 d3 G
  go_wp2_with fail
  refine (O.new (fu := some f) (k := ofk a0) D.out.1).mono ?_
  rintro e w3 ⟨t, q, TT, rfl, p1, p2, p3⟩
  have P1 := hid p1
  have P2 := hid p2
  have P3 := hid p3
  have HB4 : Hid (FB w3 (w3.alloc (.cells #[.pointer none, .pointer none, .pointer none, .int .i64 0] 58)) w3.heap.size v (ofk a0) (fun _ => 0) 0) := ⟨by rw [heap_alloc_new]; rfl, fun _ h => absurd h (Nat.not_lt_zero _), fun _ _ h => absurd h (Nat.not_lt_zero _), (D.out.2.1.up (S := Nul) p2 fun h => h).up (S := Nul) ((Up.refl _ _).alloc _) fun h => h, ⟨Nat.le_refl _, fun _ h => absurd h (Nat.not_lt_zero _)⟩, (Up.refl _ _).alloc _⟩
  clear p1 p2 p3
  go_upto_block 0 with fail
  generalize w3.alloc _ = w4 at HB4 ⊢
  generalize w3.heap.size = m at HB4 ⊢
  go_cut [] (fun wx => ∃ qm, FB w3 wx m v (ofk a0) qm 3)
  case first =>
    as_aux_lemma =>
      go_wp2_with fail
      go_loopw [9] (fun i wr => ∃ (j : Nat) (qm : Nat → Nat), j ≤ 3 ∧ i = .int .i64 (j : Nat) ∧ FB w3 wr m v (ofk a0) qm j) (fun i _ => 3 - (intOf i).toNat)
      case atStart => exact ⟨0, _, by omega, rfl, HB4.out⟩
      case round =>
        obtain ⟨j, qm, hj, rfl, hf⟩ := hrel
        have HFB := hid hf
        have HJ := hid hj
        clear hf HB4
        have j0 : (0 : Int) ≤ (j : Int) := by omega
        by_cases hlt : j < 3
        · have j1 : (j : Int) < 3 := by omega
          have HNEW : Hid (∀ W, Up Nul wr W → Calls Try.prog 27 #[.pointer (some ⟨v, 0, none⟩)] W fun e w' => ∃ q', e = .returned (.pointer (some ⟨q', 0, none⟩)) ∧ Up Nul wr w' ∧ (∃ y, w'.cell? ⟨m, j, none⟩ = some y) ∧ w'.frozen? ⟨m, j, none⟩ = false ∧ ∃ qm', FB w3 (w'.setCell ⟨m, j, none⟩ (.pointer (some ⟨q', 0, none⟩))) m v (ofk a0) qm' (j + 1)) := fun W u => by
            refine (rt_new v W).mono ?_
            rintro e w' ⟨q', rfl, r, u2, hq⟩
            have hn := HFB.out.nxt (u.trans u2)
            obtain ⟨⟨y, hy⟩, hfr⟩ := hn.cell hlt
            refine ⟨q', rfl, u.trans u2, ⟨y, hy⟩, hfr, _, hn.next hlt r (by have := (HFB.out.up.trans u).size; omega) fun i hi e => ?_⟩
            have := (HFB.out.t i hi).lt
            have := u.size
            omega
          go_upto_region 7 with fail
          refine wp_region_held_drew (S := (fun _ => True)) (by kernel_rfl) (by exact trivial) (fun hHeld => ?_)
          refine wpAnyH_take (i := 0) (oi := ⟨some 36, _, _, _, _, _⟩) (v := ?vg1) rfl (by kernel_rfl) (by kernel_rfl) (by kernel_rfl) (fun _ _ _ h => h) (Or.inl ⟨by rfl, ?yg1⟩) (by assumption) ?rg1
          case yg1 => (intro w hSw; (try dsimp only at hSw); go_simp; try with_reducible rfl)
          try simp only [Act.put, List.setIfInBounds_toArray, List.set_cons_zero, List.set_cons_succ]
          refine wpAnyH_take (i := 1) (oi := ⟨some 37, _, _, _, _, _⟩) (v := ?vg2) rfl (by kernel_rfl) (by kernel_rfl) (by kernel_rfl) (fun _ _ _ h => h) (Or.inl ⟨by rfl, ?yg2⟩) (by assumption) ?rg2
          case yg2 => (intro w hSw; (try dsimp only at hSw); go_simp; try with_reducible rfl)
          try simp only [Act.put, List.setIfInBounds_toArray, List.set_cons_zero, List.set_cons_succ]
          refine wpAnyH_take (i := 2) (oi := ⟨some 38, _, _, _, _, _⟩) (v := ?vg3) rfl (by kernel_rfl) (by kernel_rfl) (by kernel_rfl) (fun _ _ _ h => h) (Or.inl ⟨by rfl, ?yg3⟩) (by assumption) ?rg3
          case yg3 => (intro w hSw; (try dsimp only at hSw); go_simp; try with_reducible rfl)
          try simp only [Act.put, List.setIfInBounds_toArray, List.set_cons_zero, List.set_cons_succ]
          refine wpAnyH_take (i := 4) (oi := ⟨some 40, _, _, _, _, _⟩) (v := ?vg4) rfl (by kernel_rfl) (by kernel_rfl) (by kernel_rfl) (fun _ _ _ h => h) (Or.inl ⟨by rfl, ?yg4⟩) (by assumption) ?rg4
          case yg4 => (intro w hSw; (try dsimp only at hSw); go_simp; try with_reducible rfl)
          try simp only [Act.put, List.setIfInBounds_toArray, List.set_cons_zero, List.set_cons_succ]
          refine wpAnyH_take (i := 5) (oi := ⟨some 41, _, _, _, _, _⟩) (v := ?vg5) rfl (by kernel_rfl) (by kernel_rfl) (by kernel_rfl) (fun _ _ _ h => h) (Or.inl ⟨by rfl, ?yg5⟩) (by assumption) ?rg5
          case yg5 => (intro w hSw; (try dsimp only at hSw); go_simp; try with_reducible rfl)
          try simp only [Act.put, List.setIfInBounds_toArray, List.set_cons_zero, List.set_cons_succ]
          refine wpAnyH_ready (rs := [3]) (by kernel_rfl) (by simp) ?_
          refine AllReadyH.cons (o := ⟨some 39, _, _, _, _, _⟩) rfl (fun K hK => ?_) AllReadyH.nil
          go_simp
          refine (HNEW.out _ (Up.refl _ _).drew).mono ?_; rintro e w5 ⟨q', rfl, u5, ⟨y5, hc5⟩, hf5, qm', hfb⟩; have HF2 := hid hfb; clear hfb u5
          refine hK.out _ _ ?kg6 (fun hHeld => ?_)
          case kg6 => exact trivial
          clear hK K
          try simp only [Act.put, List.setIfInBounds_toArray, List.set_cons_zero, List.set_cons_succ]
          refine wpAnyH_take (i := 6) (oi := ⟨some 42, _, _, _, _, _⟩) (v := ?vg7) rfl (by kernel_rfl) (by kernel_rfl) (by kernel_rfl) (fun _ _ _ h => h) (Or.inl ⟨by rfl, ?yg7⟩) (by assumption) ?rg7
          case yg7 => (intro w hSw; (try dsimp only at hSw); go_simp; try with_reducible rfl)
          try simp only [Act.put, List.setIfInBounds_toArray, List.set_cons_zero, List.set_cons_succ]
          refine wpAnyH_ready (rs := [7]) (by kernel_rfl) (by simp) ?_
          refine (AllReadyH.cons (o := ⟨none, _, _, _, _, _⟩) rfl (fun K hK => ?_) AllReadyH.nil)
          · go_simp
            refine hK.out _ _ ?kg8x (fun hHeld => ?_)
            case kg8x => exact trivial
            clear hK K
            try simp only [Act.put, List.setIfInBounds_toArray, List.set_cons_zero, List.set_cons_succ]
            refine wpAnyH_done (by kernel_rfl) ?_ _
            go_wp2_with fail
            go_roundw
            case rel => exact ⟨j + 1, qm', hlt, by go_num, HF2.out⟩
            case measure => simp [intOf]; omega
        · obtain rfl : j = 3 := by omega
          go_wp2_with fail
          go_meet
          exact ⟨qm, HFB.out⟩
  obtain ⟨qm, hfb⟩ := hcut
  have HX : Hid (TQ O 0 Nul w wc t q f m qm v) := tq_first D.out.2.2.1 D.out.1 D.out.2.2.2.1 D.out.2.2.2.2.1 D.out.2.2.2.2.2.1 D.out.2.2.2.2.2.2 P1.out P2.out P3.out hfb
  clear hfb HB4 P1 P2 P3 D
  go_wp2_with fail
  refine (qawake_any O _).mono ?_
  rintro e w5 ⟨rfl, k5⟩
  have HX5 := hid (HX.out.nxt k5)
  clear k5 HX
  go_wp2_with fail
  go_loopw [7, 8, 10] (fun t7 w8 i wr => ∃ (j t m : Nat), j ≤ 50 ∧ j ≤ l1 ∧ i = .int .i64 (j : Nat) ∧ t7 = .pointer (some ⟨t, 0, none⟩) ∧ w8 = .pointer (some ⟨m, 0, none⟩) ∧ TQ O (65536 + j) Nul w wr t q f m qm v) (fun _ _ i _ => 50 - (intOf i).toNat)
  case atStart => exact ⟨0, t, m, by omega, by omega, rfl, rfl, rfl, HX5.out.more (by omega)⟩
  case round =>
    as_aux_lemma =>
      obtain ⟨j, t, m, hj, hjl, rfl, rfl, rfl, hp⟩ := hrel
      have HP := hid hp
      clear hp HX5
      have j0 : (0 : Int) ≤ (j : Int) := by omega
      by_cases hlj : j < l1
      · have j1 : (j : Int) < (l1 : Int) := by omega
        by_cases h60 : j < 50
        · have j2 : (j : Int) < 50 := by omega
          obtain ⟨ob, oo, rfl, hbl, hop⟩ : ∃ gb o, a1 = some ⟨gb, o, none⟩ ∧ gb < w.heap.size ∧ ∀ i, i < l1 → QAt w gb (o + i * 6) (F i) := by
            rcases HF.out.1 with e | e
            · omega
            · exact e
          have hop := hop j hlj
          generalize F j = x at hop
          obtain ⟨z, hz⟩ := SlN.of hop.wb
          have HZ := hid hz
          have HBC := hid (came_cap hop.wb)
          have HOF := hid (came_off Nul hop.wb)
          have HRG : Hid (wr.rangeAt ob (oo + j * 6) (qcs x)) := fun i u hi => (HP.out.up.cell (p := ⟨ob, oo + j * 6 + i, none⟩) hbl id).trans (hop.c i u hi)
          obtain ⟨kd, nn, ba, bl, bc, zs, x⟩ := x
          dsimp only at HZ HBC HOF
          have HB := hid (QpB.new wr ⟨kd, nn, ba, bl, bc, zs, x⟩)
          have HX0 : Hid (TQ O (65536 + j) (One wr.heap.size) w (wr.alloc (.cells (qcs ⟨kd, nn, ba, bl, bc, zs, x⟩).toArray 62)) t q f m qm v) := HP.out.lay ((Up.refl _ _).alloc _) fun x hx => .inr ⟨Nat.le_of_eq (Eq.symm hx), by rw [show x = wr.heap.size from hx]; simp⟩
          obtain ⟨Z, hZ1, hZ2⟩ := zero_qop
          have HI : Hid ((Try.prog.info? 62).map (·.size) = some (qcs ⟨kd, nn, ba, bl, bc, zs, x⟩).length) := info_qop
          have HI2 : Hid ((Try.prog.info? 62).map (·.size) = some (qcs ⟨kd, nn, ba, bl, bc, zs, x⟩).toArray.size) := info_qop
          have HZS : Hid (Z.size = (qcs ⟨kd, nn, ba, bl, bc, zs, x⟩).toArray.size) := hZ1
          have HON : Hid ((qcs ⟨kd, nn, ba, bl, bc, zs, x⟩).toArray.all (·.oneCell') = true) := Array.all_eq_true_iff_forall_mem.2 fun y hy => one_qcs _ y (by simpa using hy)
          have y2 := HB.out.c2
          dsimp only at y2
          generalize qcs ⟨kd, nn, ba, bl, bc, zs, x⟩ = cs at HRG HI HI2 HZS HON y2 HB HX0
          clear hop hz hZ1
          by_cases h300 : 300 < bl
          · have i2 : (300 : Int) < (bl : Int) := by omega
            as_aux_lemma =>
              go_wp2_with (first
                | (refine wpList_load_mid rfl 62 (.tmp 65) rfl ob (oo + j * 6) rfl cs _ HRG.out Try.underlying62 rfl HI.out ?_)
                | (refine wpList_store_new rfl 62 (.tmp 11) (.tmp 66) rfl Z cs.toArray rfl rfl HI2.out HZS.out HON.out ?_))
              go_ret
              exact ⟨rfl, HX0.out.up.below (Nat.le_refl _) fun _ _ => id⟩
          · have i2 : ¬ (300 : Int) < (bl : Int) := by omega
            have HBL : Hid (bl ≤ 300) := by show _ ≤ _; omega
            go_upto_region 16 with (first
              | (refine wpList_load_mid rfl 62 (.tmp 65) rfl ob (oo + j * 6) rfl cs _ HRG.out Try.underlying62 rfl HI.out ?_)
              | (refine wpList_store_new rfl 62 (.tmp 11) (.tmp 66) rfl Z cs.toArray rfl rfl HI2.out HZS.out HON.out ?_))
            have HOB : Hid (w.heap.size ≤ wr.heap.size) := HP.out.up.size
            clear y2 HP HRG HI HI2 HZS HON hZ2
            generalize wr.alloc (.cells cs.toArray 62) = wa at HX0 HB ⊢
            generalize wr.heap.size = ob1 at HB HX0 HOB ⊢
            go_wp2_with fail
            refine (tq_tapes HX0.out).mono ?_
            rintro e w3 ⟨rfl, h3, u3⟩
            unfold tri
            have HL4 := hid (L4.new w3 q)
            have HB4 := hid (HB.out.nxt (u3.trans ((Up.refl _ _).alloc (.cells #[.pointer (some ⟨q 0, 0, none⟩), .pointer (some ⟨q 1, 0, none⟩), .pointer (some ⟨q 2, 0, none⟩)] 27))))
            have HX4 : Hid (TQ O (65536 + j) (Q2 ob1 w3.heap.size) w (w3.alloc (.cells #[.pointer (some ⟨q 0, 0, none⟩), .pointer (some ⟨q 1, 0, none⟩), .pointer (some ⟨q 2, 0, none⟩)] 27)) t q f m qm v) := h3.lay ((Up.refl _ _).alloc _) fun x hx => hx.imp id fun hx => ⟨Nat.le_of_eq (Eq.symm hx), by rw [hx]; simp⟩
            have HTB : Hid (w.heap.size ≤ w3.heap.size) := h3.up.size
            clear h3 u3 HB HX0
            go_upto_region 17 with fail
            generalize World.alloc w3 _ = w1 at HL4 HB4 HX4 ⊢
            generalize w3.heap.size = tb at HL4 HB4 HX4 HTB ⊢
            have HX1 := HX4
            clear HX4
            have HC : Hid (∀ W, Tp (Q2 ob1 tb) w1 W → QpB W ob1 ⟨kd, nn, ba, bl, bc, zs, x⟩ ∧ L4 W tb q) := fun W k => ⟨HB4.out.of k (.inl rfl), HL4.out.of k (.inr rfl)⟩
            have ct0 := HL4.out.cell 0 (by omega)
            have ct1 := HL4.out.cell 1 (by omega)
            have ct2 := HL4.out.cell 2 (by omega)
            have HJ := hid h60
            go_upto_region 19 with fail
            clear ct0 ct1 ct2 HL4
            go_cut [13] (fun b wx => ∃ bi : Bool, b = .bool bi ∧ (bi = true ↔ 0 ≤ nn ∧ nn < 3) ∧ w1 = wx)
            case first =>
              as_aux_lemma =>
                have c1 := HB4.out.c1
                dsimp only at c1
                by_cases n0 : (0 : Int) ≤ nn
                · by_cases n1 : nn < 3
                  · go_wp2_with fail
                    go_meet
                    exact ⟨true, rfl, ⟨fun _ => ⟨n0, n1⟩, fun _ => rfl⟩, rfl⟩
                  · go_wp2_with fail
                    go_meet
                    exact ⟨false, rfl, ⟨fun h => by simp at h, fun h => by omega⟩, rfl⟩
                · go_wp2_with fail
                  go_meet
                  exact ⟨false, rfl, ⟨fun h => by simp at h, fun h => by omega⟩, rfl⟩
            obtain ⟨bi, rfl, hin, rfl⟩ := hcut
            have HIN := hid hin
            clear hin
            have HOF : Hid (Off (Q2 ob1 tb) w ba bl) := HOF.out.imp (fun e => e) fun g y hy => (g y hy).imp (fun e => e.elim) fun e => e
            have c0 := HB4.out.c0
            dsimp only at c0
            go_upto_block 4 with fail
            clear c0 HB4 h300 i2 hbl
            have UR : Hid (Up Nul w1 w1.drew) := (Up.refl _ _).drew
            have TD : Hid (Tp (Q2 ob1 tb) w1 w1.drew) := ⟨Nat.le_refl _, fun y hy => rfl⟩
            go_cut [7, 8] (fun t7 w8 wx => ∃ t' m' : Nat, t7 = .pointer (some ⟨t', 0, none⟩) ∧ w8 = .pointer (some ⟨m', 0, none⟩) ∧ TQ O (65536 + j + 1) (Q2 ob1 tb) w wx t' q f m' qm v ∧ Tp (Q2 ob1 tb) w1 wx)
            case first =>
              as_aux_lemma =>
                clear HTB HOB
                rcases (by omega : kd = 0 ∨ kd = 1 ∨ kd = 2 ∨ kd = 3 ∨ kd = 4 ∨ (¬ kd = 0 ∧ ¬ kd = 1 ∧ ¬ kd = 2 ∧ ¬ kd = 3 ∧ ¬ kd = 4)) with rfl | rfl | rfl | rfl | rfl | ⟨k0, k1, k2, k3, k4⟩
                · go_upto_region 24 with fail
                  have HKK : Hid (∀ W, Tp (Q2 ob1 tb) w1 W → Up Nul w W → (fun W => Tp (Q2 ob1 tb) w1 W ∧ W.cell? ⟨ob1, 2, none⟩ = some (.slice ba bl bc) ∧ (convert 30 9 (.slice ba bl bc)).run Try.prog W = .ok (.string (strOf z)) W) W) := fun W k u => ⟨k, (HC.out W k).1.c2, (HZ.out.nxt u).conv bc⟩
                  refine wp_region_held_drew (S := (fun W => Tp (Q2 ob1 tb) w1 W ∧ W.cell? ⟨ob1, 2, none⟩ = some (.slice ba bl bc) ∧ (convert 30 9 (.slice ba bl bc)).run Try.prog W = .ok (.string (strOf z)) W)) (by kernel_rfl) (by exact HKK.out _ TD.out (HX1.out.up.trans UR.out)) (fun hHeld => ?_)
                  refine wpAnyH_take (i := 0) (oi := ⟨some 111, _, _, _, _, _⟩) (v := ?va1) rfl (by kernel_rfl) (by kernel_rfl) (by kernel_rfl) (fun _ _ _ h => h) (Or.inl ⟨by rfl, ?ya1⟩) (by assumption) ?ra1
                  case ya1 => (intro w hSw; (try dsimp only at hSw); go_simp; try with_reducible rfl)
                  try simp only [Act.put, List.setIfInBounds_toArray, List.set_cons_zero, List.set_cons_succ]
                  refine wpAnyH_take (i := 1) (oi := ⟨some 112, _, _, _, _, _⟩) (v := ?va2) rfl (by kernel_rfl) (by kernel_rfl) (by kernel_rfl) (fun _ _ _ h => h) (Or.inl ⟨by rfl, ?ya2⟩) (by assumption) ?ra2
                  case ya2 => (intro w hSw; (try dsimp only at hSw); go_simp; try with_reducible rfl)
                  try simp only [Act.put, List.setIfInBounds_toArray, List.set_cons_zero, List.set_cons_succ]
                  refine wpAnyH_take (i := 2) (oi := ⟨some 113, _, _, _, _, _⟩) (v := ?va3) rfl (by kernel_rfl) (by kernel_rfl) (by kernel_rfl) (fun _ _ _ h => h) (Or.inl ⟨by rfl, ?ya3⟩) (by assumption) ?ra3
                  case ya3 => (intro w hSw; (try dsimp only at hSw); go_simp; try with_reducible rfl)
                  try simp only [Act.put, List.setIfInBounds_toArray, List.set_cons_zero, List.set_cons_succ]
                  refine wpAnyH_take (i := 4) (oi := ⟨some 115, _, _, _, _, _⟩) (v := ?va4) rfl (by kernel_rfl) (by kernel_rfl) (by kernel_rfl) (fun _ _ _ h => h) (Or.inl ⟨by rfl, ?ya4⟩) (by assumption) ?ra4
                  case ya4 => (intro w hSw; (try dsimp only at hSw); go_simp; try with_reducible rfl)
                  try simp only [Act.put, List.setIfInBounds_toArray, List.set_cons_zero, List.set_cons_succ]
                  refine wpAnyH_take (i := 5) (oi := ⟨some 116, _, _, _, _, _⟩) (v := ?va5) rfl (by kernel_rfl) (by kernel_rfl) (by kernel_rfl) (fun _ _ _ h => h) (Or.inl ⟨by rfl, ?ya5⟩) (by assumption) ?ra5
                  case ya5 => (intro w hSw; (try dsimp only at hSw); go_simp; try with_reducible rfl)
                  try simp only [Act.put, List.setIfInBounds_toArray, List.set_cons_zero, List.set_cons_succ]
                  refine wpAnyH_take (i := 6) (oi := ⟨some 117, _, _, _, _, _⟩) (v := ?va6) rfl (by kernel_rfl) (by kernel_rfl) (by kernel_rfl) (fun _ _ _ h => h) (Or.inl ⟨by rfl, ?ya6⟩) (by assumption) ?ra6
                  case ya6 => (intro w hSw; (try dsimp only at hSw); go_simp; try with_reducible rfl)
                  try simp only [Act.put, List.setIfInBounds_toArray, List.set_cons_zero, List.set_cons_succ]
                  refine wpAnyH_take (i := 7) (oi := ⟨some 118, _, _, _, _, _⟩) (v := ?va7) rfl (by kernel_rfl) (by kernel_rfl) (by kernel_rfl) (fun _ _ _ h => h) (Or.inl ⟨by rfl, ?ya7⟩) (by assumption) ?ra7
                  case ya7 => (intro w hSw; (try dsimp only at hSw); go_simp; try with_reducible rfl)
                  try simp only [Act.put, List.setIfInBounds_toArray, List.set_cons_zero, List.set_cons_succ]
                  refine wpAnyH_ready (rs := [3]) (by kernel_rfl) (by simp) ?_
                  refine AllReadyH.cons (o := ⟨some 114, _, _, _, _, _⟩) rfl (fun K hK => ?_) AllReadyH.nil
                  go_simp
                  obtain ⟨r, hcall⟩ := tq_append (HX1.out.nxt UR.out) (by have := HJ.out; omega) bc (HZ.out.nxt (HX1.out.up.trans UR.out)) HBC.out (by have := HBL.out; omega) HOF.out; have hrr : (r == r) = true := (by simp); refine hcall.mono ?_; rintro e wd ⟨rfl, kd1, ku, hdoc⟩; have UD := hid ku; have HDOC := hid hdoc; have KD := hid (TD.out.trans kd1); clear hdoc hcall kd1 ku
                  refine hK.out _ _ ?ka8 (fun hHeld => ?_)
                  case ka8 => exact HKK.out _ KD.out UD.out
                  clear hK K
                  try simp only [Act.put, List.setIfInBounds_toArray, List.set_cons_zero, List.set_cons_succ]
                  refine wpAnyH_ready (rs := [8]) (by kernel_rfl) (by simp) ?_
                  refine AllReadyH.cons (o := ⟨some 119, _, _, _, _, _⟩) rfl (fun K hK => ?_) AllReadyH.nil
                  go_simp
                  refine HDOC.out.mono ?_; rintro e wf ⟨rfl, kf1, kf2⟩; have HPF := hid kf1; have KF : Hid (Tp (Q2 ob1 tb) w1 wf) := hid (TD.out.trans kf2); clear kf1 kf2
                  refine hK.out _ _ ?ka9 (fun hHeld => ?_)
                  case ka9 => exact HKK.out _ KF.out HPF.out.up
                  clear hK K
                  try simp only [Act.put, List.setIfInBounds_toArray, List.set_cons_zero, List.set_cons_succ]
                  refine wpAnyH_ready (rs := [9]) (by kernel_rfl) (by simp) ?_
                  refine AllReadyH.cons (o := ⟨some 120, _, _, _, _, _⟩) rfl (fun K hK => ?_) AllReadyH.nil
                  go_simp
                  skip
                  refine hK.out _ _ ?ka10 (fun hHeld => ?_)
                  case ka10 => exact HKK.out _ KF.out HPF.out.up
                  clear hK K
                  try simp only [Act.put, List.setIfInBounds_toArray, List.set_cons_zero, List.set_cons_succ]
                  refine wpAnyH_done (by kernel_rfl) ?_ _
                  go_wp2_with fail
                  go_meet
                  exact ⟨_, _, rfl, rfl, HPF.out.more (by omega), KF.out⟩
                · cases bi with
                  | false =>
                    go_wp2_with fail
                    go_meet
                    exact ⟨_, _, rfl, rfl, HX1.out.more (by omega), Tp.id _ _⟩
                  | true =>
                    obtain ⟨ni, hni, rfl⟩ : ∃ ni : Nat, ni < 3 ∧ nn = (ni : Int) := by
                      have := HIN.out.1 rfl
                      exact ⟨nn.toNat, by omega, by omega⟩
                    have n0 : (0 : Int) ≤ (ni : Int) := by omega
                    have n1 : (ni : Int) < 3 := by omega
                    have c1 := (HC.out _ (Tp.id _ w1)).1.c1
                    have ct := (HC.out _ (Tp.id _ w1)).2.cell ni hni
                    dsimp only at c1
                    go_wp2_with fail
                    refine (tq_fail HX1.out hni).mono ?_
                    rintro e w2 ⟨rfl, k2, ⟨lv, c3⟩, f3, hp, k3⟩
                    have HD2 := tq_heads HX1.out w2 k2
                    have H2 : Hid ((fun W => W.cell? ⟨ob1, 1, none⟩ = some (.int .i64 (ni : Nat)) ∧ W.cell? ⟨m, ni, none⟩ = some (.pointer (some ⟨qm ni, 0, none⟩))) w2.drew) := ⟨(HC.out _ ((k2.less fun x hx => .inr hx).trans ⟨Nat.le_refl _, fun _ _ => rfl⟩)).1.c1, (HD2.1 ni hni)⟩
                    have HPF : Hid (TQ O (65536 + j) (Q2 ob1 tb) w (w2.drew.setCell ⟨qm ni, 2, none⟩ (.bool false)) t q f m qm v) := hp.nxt (Up.refl _ _).drew
                    have KF : Hid (Tp (Q2 ob1 tb) w1 (w2.drew.setCell ⟨qm ni, 2, none⟩ (.bool false))) := k3.trans ⟨Nat.le_refl _, fun _ _ => rfl⟩
                    clear c1 ct hp k2 k3 HD2
                    go_upto_region 29 with fail
                    refine wp_region_held_drew (S := (fun W => W.cell? ⟨ob1, 1, none⟩ = some (.int .i64 (ni : Nat)) ∧ W.cell? ⟨m, ni, none⟩ = some (.pointer (some ⟨qm ni, 0, none⟩)))) (by kernel_rfl) (by exact H2.out) (fun hHeld => ?_)
                    refine wpAnyH_take (i := 0) (oi := ⟨some 129, _, _, _, _, _⟩) (v := ?vu1) rfl (by kernel_rfl) (by kernel_rfl) (by kernel_rfl) (fun _ _ _ h => h) (Or.inl ⟨by rfl, ?yu1⟩) (by assumption) ?ru1
                    case yu1 => (intro w hSw; (try dsimp only at hSw); go_simp; try with_reducible rfl)
                    try simp only [Act.put, List.setIfInBounds_toArray, List.set_cons_zero, List.set_cons_succ]
                    refine wpAnyH_take (i := 1) (oi := ⟨some 130, _, _, _, _, _⟩) (v := ?vu2) rfl (by kernel_rfl) (by kernel_rfl) (by kernel_rfl) (fun _ _ _ h => h) (Or.inl ⟨by rfl, ?yu2⟩) (by assumption) ?ru2
                    case yu2 => (intro w hSw; (try dsimp only at hSw); go_simp; try with_reducible rfl)
                    try simp only [Act.put, List.setIfInBounds_toArray, List.set_cons_zero, List.set_cons_succ]
                    refine wpAnyH_take (i := 2) (oi := ⟨some 131, _, _, _, _, _⟩) (v := ?vu3) rfl (by kernel_rfl) (by kernel_rfl) (by kernel_rfl) (fun _ _ _ h => h) (Or.inl ⟨by rfl, ?yu3⟩) (by assumption) ?ru3
                    case yu3 => (intro w hSw; (try dsimp only at hSw); go_simp; try with_reducible rfl)
                    try simp only [Act.put, List.setIfInBounds_toArray, List.set_cons_zero, List.set_cons_succ]
                    refine wpAnyH_take (i := 3) (oi := ⟨some 132, _, _, _, _, _⟩) (v := ?vu4) rfl (by kernel_rfl) (by kernel_rfl) (by kernel_rfl) (fun _ _ _ h => h) (Or.inl ⟨by rfl, ?yu4⟩) (by assumption) ?ru4
                    case yu4 => (intro w hSw; (try dsimp only at hSw); go_simp; try with_reducible rfl)
                    try simp only [Act.put, List.setIfInBounds_toArray, List.set_cons_zero, List.set_cons_succ]
                    refine wpAnyH_take (i := 4) (oi := ⟨some 133, _, _, _, _, _⟩) (v := ?vu5) rfl (by kernel_rfl) (by kernel_rfl) (by kernel_rfl) (fun _ _ _ h => h) (Or.inl ⟨by rfl, ?yu5⟩) (by assumption) ?ru5
                    case yu5 => (intro w hSw; (try dsimp only at hSw); go_simp; try with_reducible rfl)
                    try simp only [Act.put, List.setIfInBounds_toArray, List.set_cons_zero, List.set_cons_succ]
                    refine wpAnyH_take (i := 5) (oi := ⟨some 134, _, _, _, _, _⟩) (v := ?vu6) rfl (by kernel_rfl) (by kernel_rfl) (by kernel_rfl) (fun _ _ _ h => h) (Or.inl ⟨by rfl, ?yu6⟩) (by assumption) ?ru6
                    case yu6 => (intro w hSw; (try dsimp only at hSw); go_simp; try with_reducible rfl)
                    try simp only [Act.put, List.setIfInBounds_toArray, List.set_cons_zero, List.set_cons_succ]
                    refine wpAnyH_take (i := 6) (oi := ⟨some 135, _, _, _, _, _⟩) (v := ?vu7) rfl (by kernel_rfl) (by kernel_rfl) (by kernel_rfl) (fun _ _ _ h => h) (Or.inl ⟨by rfl, ?yu7⟩) (by assumption) ?ru7
                    case yu7 => (intro w hSw; (try dsimp only at hSw); go_simp; try with_reducible rfl)
                    try simp only [Act.put, List.setIfInBounds_toArray, List.set_cons_zero, List.set_cons_succ]
                    refine wpAnyH_take (i := 7) (oi := ⟨some 136, _, _, _, _, _⟩) (v := ?vu8) rfl (by kernel_rfl) (by kernel_rfl) (by kernel_rfl) (fun _ _ _ h => h) (Or.inl ⟨by rfl, ?yu8⟩) (by assumption) ?ru8
                    case yu8 => (intro w hSw; (try dsimp only at hSw); go_simp; try with_reducible rfl)
                    try simp only [Act.put, List.setIfInBounds_toArray, List.set_cons_zero, List.set_cons_succ]
                    refine wpAnyH_take (i := 8) (oi := ⟨some 137, _, _, _, _, _⟩) (v := ?vu9) rfl (by kernel_rfl) (by kernel_rfl) (by kernel_rfl) (fun _ _ _ h => h) (Or.inl ⟨by rfl, ?yu9⟩) (by assumption) ?ru9
                    case yu9 => (intro w hSw; (try dsimp only at hSw); go_simp; try with_reducible rfl)
                    try simp only [Act.put, List.setIfInBounds_toArray, List.set_cons_zero, List.set_cons_succ]
                    refine wpAnyH_ready (rs := [9]) (by kernel_rfl) (by simp) ?_
                    refine (AllReadyH.cons (o := ⟨none, _, _, _, _, _⟩) rfl (fun K hK => ?_) AllReadyH.nil)
                    · go_simp
                      refine hK.out _ _ ?ku10x (fun hHeld => ?_)
                      case ku10x => exact ⟨(HC.out _ KF.out).1.c1, (tq_heads HPF.out _ (Tp.id _ _)).1 ni hni⟩
                      clear hK K
                      try simp only [Act.put, List.setIfInBounds_toArray, List.set_cons_zero, List.set_cons_succ]
                      refine wpAnyH_done (by kernel_rfl) ?_ _
                      go_wp2_with fail
                      go_meet
                      exact ⟨_, _, rfl, rfl, HPF.out.more (by omega), KF.out⟩
                · cases bi with
                  | false =>
                    go_wp2_with fail
                    go_meet
                    exact ⟨_, _, rfl, rfl, HX1.out.more (by omega), Tp.id _ _⟩
                  | true =>
                    obtain ⟨ni, hni, rfl⟩ : ∃ ni : Nat, ni < 3 ∧ nn = (ni : Int) := by
                      have := HIN.out.1 rfl
                      exact ⟨nn.toNat, by omega, by omega⟩
                    have n0 : (0 : Int) ≤ (ni : Int) := by omega
                    have n1 : (ni : Int) < 3 := by omega
                    have c1 := (HC.out _ (Tp.id _ w1)).1.c1
                    have ct := (HC.out _ (Tp.id _ w1)).2.cell ni hni
                    dsimp only at c1
                    go_wp2_with fail
                    refine (tq_replace HX1.out hni).mono ?_
                    rintro e w2 ⟨rfl, k2, hdoc⟩
                    have HDOC := hid hdoc
                    have HKK : Hid (∀ W, Tp (Pq m qm v (Q2 ob1 tb)) w1 W → (fun W => W.cell? ⟨ob1, 1, none⟩ = some (.int .i64 (ni : Nat)) ∧ W.cell? ⟨m, ni, none⟩ = some (.pointer (some ⟨qm ni, 0, none⟩))) W) := fun W k => ⟨(HC.out _ (k.less fun x hx => .inr hx)).1.c1, (tq_heads HX1.out W k).1 ni hni⟩
                    have K2 := hid k2
                    clear c1 ct k2 hdoc
                    go_upto_region 33 with fail
                    refine wp_region_held_drew (S := (fun W => W.cell? ⟨ob1, 1, none⟩ = some (.int .i64 (ni : Nat)) ∧ W.cell? ⟨m, ni, none⟩ = some (.pointer (some ⟨qm ni, 0, none⟩)))) (by kernel_rfl) (by exact HKK.out _ (K2.out.trans ⟨Nat.le_refl _, fun _ _ => rfl⟩)) (fun hHeld => ?_)
                    refine wpAnyH_take (i := 0) (oi := ⟨some 146, _, _, _, _, _⟩) (v := ?vr1) rfl (by kernel_rfl) (by kernel_rfl) (by kernel_rfl) (fun _ _ _ h => h) (Or.inl ⟨by rfl, ?yr1⟩) (by assumption) ?rr1
                    case yr1 => (intro w hSw; (try dsimp only at hSw); go_simp; try with_reducible rfl)
                    try simp only [Act.put, List.setIfInBounds_toArray, List.set_cons_zero, List.set_cons_succ]
                    refine wpAnyH_take (i := 1) (oi := ⟨some 147, _, _, _, _, _⟩) (v := ?vr2) rfl (by kernel_rfl) (by kernel_rfl) (by kernel_rfl) (fun _ _ _ h => h) (Or.inl ⟨by rfl, ?yr2⟩) (by assumption) ?rr2
                    case yr2 => (intro w hSw; (try dsimp only at hSw); go_simp; try with_reducible rfl)
                    try simp only [Act.put, List.setIfInBounds_toArray, List.set_cons_zero, List.set_cons_succ]
                    refine wpAnyH_take (i := 2) (oi := ⟨some 148, _, _, _, _, _⟩) (v := ?vr3) rfl (by kernel_rfl) (by kernel_rfl) (by kernel_rfl) (fun _ _ _ h => h) (Or.inl ⟨by rfl, ?yr3⟩) (by assumption) ?rr3
                    case yr3 => (intro w hSw; (try dsimp only at hSw); go_simp; try with_reducible rfl)
                    try simp only [Act.put, List.setIfInBounds_toArray, List.set_cons_zero, List.set_cons_succ]
                    refine wpAnyH_take (i := 3) (oi := ⟨some 149, _, _, _, _, _⟩) (v := ?vr4) rfl (by kernel_rfl) (by kernel_rfl) (by kernel_rfl) (fun _ _ _ h => h) (Or.inl ⟨by rfl, ?yr4⟩) (by assumption) ?rr4
                    case yr4 => (intro w hSw; (try dsimp only at hSw); go_simp; try with_reducible rfl)
                    try simp only [Act.put, List.setIfInBounds_toArray, List.set_cons_zero, List.set_cons_succ]
                    refine wpAnyH_take (i := 4) (oi := ⟨some 150, _, _, _, _, _⟩) (v := ?vr5) rfl (by kernel_rfl) (by kernel_rfl) (by kernel_rfl) (fun _ _ _ h => h) (Or.inl ⟨by rfl, ?yr5⟩) (by assumption) ?rr5
                    case yr5 => (intro w hSw; (try dsimp only at hSw); go_simp; try with_reducible rfl)
                    try simp only [Act.put, List.setIfInBounds_toArray, List.set_cons_zero, List.set_cons_succ]
                    refine wpAnyH_take (i := 5) (oi := ⟨some 151, _, _, _, _, _⟩) (v := ?vr6) rfl (by kernel_rfl) (by kernel_rfl) (by kernel_rfl) (fun _ _ _ h => h) (Or.inl ⟨by rfl, ?yr6⟩) (by assumption) ?rr6
                    case yr6 => (intro w hSw; (try dsimp only at hSw); go_simp; try with_reducible rfl)
                    try simp only [Act.put, List.setIfInBounds_toArray, List.set_cons_zero, List.set_cons_succ]
                    refine wpAnyH_take (i := 6) (oi := ⟨some 152, _, _, _, _, _⟩) (v := ?vr7) rfl (by kernel_rfl) (by kernel_rfl) (by kernel_rfl) (fun _ _ _ h => h) (Or.inl ⟨by rfl, ?yr7⟩) (by assumption) ?rr7
                    case yr7 => (intro w hSw; (try dsimp only at hSw); go_simp; try with_reducible rfl)
                    try simp only [Act.put, List.setIfInBounds_toArray, List.set_cons_zero, List.set_cons_succ]
                    refine wpAnyH_ready (rs := [7]) (by kernel_rfl) (by simp) ?_
                    refine AllReadyH.cons (o := ⟨some 153, _, _, _, _, _⟩) rfl (fun K hK => ?_) AllReadyH.nil
                    go_simp
                    refine (HDOC.out _ (Up.refl _ _).drew).mono ?_; rintro e wf ⟨rfl, kf1, kf2⟩; have HPF := hid kf1; have KF := hid kf2; clear kf1 kf2
                    refine hK.out _ _ ?kr8 (fun hHeld => ?_)
                    case kr8 => exact ⟨(HC.out _ KF.out).1.c1, (tq_heads HPF.out _ (Tp.id _ _)).1 ni hni⟩
                    clear hK K
                    try simp only [Act.put, List.setIfInBounds_toArray, List.set_cons_zero, List.set_cons_succ]
                    refine wpAnyH_done (by kernel_rfl) ?_ _
                    go_wp2_with fail
                    go_meet
                    exact ⟨_, _, rfl, rfl, HPF.out.more (by omega), KF.out⟩
                · go_upto_region 35 with fail
                  have HKK : Hid (∀ W, Tp (Q2 ob1 tb) w1 W → (fun W => Tp (Q2 ob1 tb) w1 W ∧ W.cell? ⟨ob1, 1, none⟩ = some (.int .i64 nn)) W) := fun W k => ⟨k, (HC.out W k).1.c1⟩
                  refine wp_region_held_drew (S := (fun W => Tp (Q2 ob1 tb) w1 W ∧ W.cell? ⟨ob1, 1, none⟩ = some (.int .i64 nn))) (by kernel_rfl) (by exact HKK.out _ TD.out) (fun hHeld => ?_)
                  refine wpAnyH_take (i := 0) (oi := ⟨some 156, _, _, _, _, _⟩) (v := ?vn1) rfl (by kernel_rfl) (by kernel_rfl) (by kernel_rfl) (fun _ _ _ h => h) (Or.inl ⟨by rfl, ?yn1⟩) (by assumption) ?rn1
                  case yn1 => (intro w hSw; (try dsimp only at hSw); go_simp; try with_reducible rfl)
                  try simp only [Act.put, List.setIfInBounds_toArray, List.set_cons_zero, List.set_cons_succ]
                  refine wpAnyH_take (i := 1) (oi := ⟨some 157, _, _, _, _, _⟩) (v := ?vn2) rfl (by kernel_rfl) (by kernel_rfl) (by kernel_rfl) (fun _ _ _ h => h) (Or.inl ⟨by rfl, ?yn2⟩) (by assumption) ?rn2
                  case yn2 => (intro w hSw; (try dsimp only at hSw); go_simp; try with_reducible rfl)
                  try simp only [Act.put, List.setIfInBounds_toArray, List.set_cons_zero, List.set_cons_succ]
                  refine wpAnyH_take (i := 2) (oi := ⟨some 158, _, _, _, _, _⟩) (v := ?vn3) rfl (by kernel_rfl) (by kernel_rfl) (by kernel_rfl) (fun _ _ _ h => h) (Or.inl ⟨by rfl, ?yn3⟩) (by assumption) ?rn3
                  case yn3 => (intro w hSw; (try dsimp only at hSw); go_simp; try with_reducible rfl)
                  try simp only [Act.put, List.setIfInBounds_toArray, List.set_cons_zero, List.set_cons_succ]
                  refine wpAnyH_take (i := 4) (oi := ⟨some 160, _, _, _, _, _⟩) (v := ?vn4) rfl (by kernel_rfl) (by kernel_rfl) (by kernel_rfl) (fun _ _ _ h => h) (Or.inl ⟨by rfl, ?yn4⟩) (by assumption) ?rn4
                  case yn4 => (intro w hSw; (try dsimp only at hSw); go_simp; try with_reducible rfl)
                  try simp only [Act.put, List.setIfInBounds_toArray, List.set_cons_zero, List.set_cons_succ]
                  refine wpAnyH_take (i := 5) (oi := ⟨some 161, _, _, _, _, _⟩) (v := ?vn5) rfl (by kernel_rfl) (by kernel_rfl) (by kernel_rfl) (fun _ _ _ h => h) (Or.inl ⟨by rfl, ?yn5⟩) (by assumption) ?rn5
                  case yn5 => (intro w hSw; (try dsimp only at hSw); go_simp; try with_reducible rfl)
                  try simp only [Act.put, List.setIfInBounds_toArray, List.set_cons_zero, List.set_cons_succ]
                  refine wpAnyH_take (i := 6) (oi := ⟨some 162, _, _, _, _, _⟩) (v := ?vn6) rfl (by kernel_rfl) (by kernel_rfl) (by kernel_rfl) (fun _ _ _ h => h) (Or.inl ⟨by rfl, ?yn6⟩) (by assumption) ?rn6
                  case yn6 => (intro w hSw; (try dsimp only at hSw); go_simp; try with_reducible rfl)
                  try simp only [Act.put, List.setIfInBounds_toArray, List.set_cons_zero, List.set_cons_succ]
                  refine wpAnyH_ready (rs := [3]) (by kernel_rfl) (by simp) ?_
                  refine AllReadyH.cons (o := ⟨some 159, _, _, _, _, _⟩) rfl (fun K hK => ?_) AllReadyH.nil
                  go_simp
                  obtain ⟨r, hcall⟩ := tq_mend (HX1.out.nxt UR.out) nn; have hrr : (r == r) = true := (by simp); refine hcall.mono ?_; rintro e wd ⟨rfl, kd1, ku, hdoc⟩; have HDOC := hid hdoc; have KD := hid (TD.out.trans kd1); clear hdoc hcall kd1 ku
                  refine hK.out _ _ ?kn7 (fun hHeld => ?_)
                  case kn7 => exact HKK.out _ KD.out
                  clear hK K
                  try simp only [Act.put, List.setIfInBounds_toArray, List.set_cons_zero, List.set_cons_succ]
                  refine wpAnyH_ready (rs := [7]) (by kernel_rfl) (by simp) ?_
                  refine AllReadyH.cons (o := ⟨some 163, _, _, _, _, _⟩) rfl (fun K hK => ?_) AllReadyH.nil
                  go_simp
                  refine HDOC.out.mono ?_; rintro e wf ⟨rfl, kf1, kf2⟩; have HPF := hid kf1; have KF : Hid (Tp (Q2 ob1 tb) w1 wf) := hid (TD.out.trans kf2); clear kf1 kf2
                  refine hK.out _ _ ?kn8 (fun hHeld => ?_)
                  case kn8 => exact HKK.out _ KF.out
                  clear hK K
                  try simp only [Act.put, List.setIfInBounds_toArray, List.set_cons_zero, List.set_cons_succ]
                  refine wpAnyH_ready (rs := [8]) (by kernel_rfl) (by simp) ?_
                  refine AllReadyH.cons (o := ⟨some 164, _, _, _, _, _⟩) rfl (fun K hK => ?_) AllReadyH.nil
                  go_simp
                  skip
                  refine hK.out _ _ ?kn9 (fun hHeld => ?_)
                  case kn9 => exact HKK.out _ KF.out
                  clear hK K
                  try simp only [Act.put, List.setIfInBounds_toArray, List.set_cons_zero, List.set_cons_succ]
                  refine wpAnyH_done (by kernel_rfl) ?_ _
                  go_wp2_with fail
                  go_meet
                  exact ⟨_, _, rfl, rfl, HPF.out.more (by omega), KF.out⟩
                · go_upto_block 5 with fail
                  go_cut [] (fun wx => TQ O (65536 + j) (Q2 ob1 tb) w wx t q f m qm v ∧ Tp (Q2 ob1 tb) w1 wx)
                  case first =>
                    as_aux_lemma =>
                      go_wp2_with fail
                      go_loopw [14] (fun i wr => ∃ n : Nat, n ≤ 3 ∧ i = .int .i64 (n : Nat) ∧ TQ O (65536 + j) (Q2 ob1 tb) w wr t q f m qm v ∧ Tp (Q2 ob1 tb) w1 wr) (fun i _ => 3 - (intOf i).toNat)
                      case atStart => exact ⟨0, by omega, rfl, HX1.out, Tp.id _ _⟩
                      case round =>
                        obtain ⟨n, hn, rfl, hx, hk⟩ := hrel
                        have HX := hid hx
                        have HK := hid hk
                        have HN := hid hn
                        clear hx hk
                        have n0 : (0 : Int) ≤ (n : Int) := by omega
                        by_cases hlt : n < 3
                        · have n1 : (n : Int) < 3 := by omega
                          have HKK : Hid (∀ W, Tp (Pq m qm v (Q2 ob1 tb)) wr W → (fun W => W.cell? ⟨ob1, 3 + n, none⟩ = some (.int .i64 (x n)) ∧ W.cell? ⟨tb, n, none⟩ = some (.pointer (some ⟨q n, 0, none⟩)) ∧ W.cell? ⟨m, n, none⟩ = some (.pointer (some ⟨qm n, 0, none⟩))) W) := fun W k =>
                            have kq : Tp (Q2 ob1 tb) w1 W := HK.out.trans (k.less fun x hx => .inr hx)
                            ⟨(HC.out _ kq).1.cx hlt, (HC.out _ kq).2.cell n hlt, (tq_heads HX.out W k).1 n hlt⟩
                          have TDR : Hid (Tp (Pq m qm v (Q2 ob1 tb)) wr wr.drew) := ⟨Nat.le_refl _, fun _ _ => rfl⟩
                          have HXD := hid (HX.out.nxt (Up.refl _ wr).drew)
                          go_upto_region 41 with fail
                          refine wp_region_held_drew (S := (fun W => W.cell? ⟨ob1, 3 + n, none⟩ = some (.int .i64 (x n)) ∧ W.cell? ⟨tb, n, none⟩ = some (.pointer (some ⟨q n, 0, none⟩)) ∧ W.cell? ⟨m, n, none⟩ = some (.pointer (some ⟨qm n, 0, none⟩)))) (by kernel_rfl) (by exact HKK.out _ TDR.out) (fun hHeld => ?_)
                          refine wpAnyH_take (i := 0) (oi := ⟨some 171, _, _, _, _, _⟩) (v := ?vc1) rfl (by kernel_rfl) (by kernel_rfl) (by kernel_rfl) (fun _ _ _ h => h) (Or.inl ⟨by rfl, ?yc1⟩) (by assumption) ?rc1
                          case yc1 => (intro w hSw; (try dsimp only at hSw); go_simp; try with_reducible rfl)
                          try simp only [Act.put, List.setIfInBounds_toArray, List.set_cons_zero, List.set_cons_succ]
                          refine wpAnyH_take (i := 1) (oi := ⟨some 172, _, _, _, _, _⟩) (v := ?vc2) rfl (by kernel_rfl) (by kernel_rfl) (by kernel_rfl) (fun _ _ _ h => h) (Or.inl ⟨by rfl, ?yc2⟩) (by assumption) ?rc2
                          case yc2 => (intro w hSw; (try dsimp only at hSw); go_simp; try with_reducible rfl)
                          try simp only [Act.put, List.setIfInBounds_toArray, List.set_cons_zero, List.set_cons_succ]
                          refine wpAnyH_take (i := 2) (oi := ⟨some 173, _, _, _, _, _⟩) (v := ?vc3) rfl (by kernel_rfl) (by kernel_rfl) (by kernel_rfl) (fun _ _ _ h => h) (Or.inl ⟨by rfl, ?yc3⟩) (by assumption) ?rc3
                          case yc3 => (intro w hSw; (try dsimp only at hSw); go_simp; try with_reducible rfl)
                          try simp only [Act.put, List.setIfInBounds_toArray, List.set_cons_zero, List.set_cons_succ]
                          refine wpAnyH_take (i := 3) (oi := ⟨some 174, _, _, _, _, _⟩) (v := ?vc4) rfl (by kernel_rfl) (by kernel_rfl) (by kernel_rfl) (fun _ _ _ h => h) (Or.inl ⟨by rfl, ?yc4⟩) (by assumption) ?rc4
                          case yc4 => (intro w hSw; (try dsimp only at hSw); go_simp; try with_reducible rfl)
                          try simp only [Act.put, List.setIfInBounds_toArray, List.set_cons_zero, List.set_cons_succ]
                          refine wpAnyH_take (i := 4) (oi := ⟨some 175, _, _, _, _, _⟩) (v := ?vc5) rfl (by kernel_rfl) (by kernel_rfl) (by kernel_rfl) (fun _ _ _ h => h) (Or.inl ⟨by rfl, ?yc5⟩) (by assumption) ?rc5
                          case yc5 => (intro w hSw; (try dsimp only at hSw); go_simp; try with_reducible rfl)
                          try simp only [Act.put, List.setIfInBounds_toArray, List.set_cons_zero, List.set_cons_succ]
                          refine wpAnyH_take (i := 5) (oi := ⟨some 176, _, _, _, _, _⟩) (v := ?vc6) rfl (by kernel_rfl) (by kernel_rfl) (by kernel_rfl) (fun _ _ _ h => h) (Or.inl ⟨by rfl, ?yc6⟩) (by assumption) ?rc6
                          case yc6 => (intro w hSw; (try dsimp only at hSw); go_simp; try with_reducible rfl)
                          try simp only [Act.put, List.setIfInBounds_toArray, List.set_cons_zero, List.set_cons_succ]
                          refine wpAnyH_take (i := 6) (oi := ⟨some 177, _, _, _, _, _⟩) (v := ?vc7) rfl (by kernel_rfl) (by kernel_rfl) (by kernel_rfl) (fun _ _ _ h => h) (Or.inl ⟨by rfl, ?yc7⟩) (by assumption) ?rc7
                          case yc7 => (intro w hSw; (try dsimp only at hSw); go_simp; try with_reducible rfl)
                          try simp only [Act.put, List.setIfInBounds_toArray, List.set_cons_zero, List.set_cons_succ]
                          refine wpAnyH_ready (rs := [7]) (by kernel_rfl) (by simp) ?_
                          refine AllReadyH.cons (o := ⟨some 178, _, _, _, _, _⟩) rfl (fun K hK => ?_) AllReadyH.nil
                          go_simp
                          refine (tq_crash HXD.out hlt (x n)).mono ?_; rintro e w2 ⟨rfl, k2, hdoc⟩; have HDOC := hid hdoc; have K2 := hid (TDR.out.trans k2); clear k2 hdoc
                          refine hK.out _ _ ?kc8 (fun hHeld => ?_)
                          case kc8 => exact HKK.out _ K2.out
                          clear hK K
                          try simp only [Act.put, List.setIfInBounds_toArray, List.set_cons_zero, List.set_cons_succ]
                          refine wpAnyH_done (by kernel_rfl) ?_ _
                          go_upto_region 42 with fail
                          refine wp_region_held_drew (S := (fun W => W.cell? ⟨ob1, 3 + n, none⟩ = some (.int .i64 (x n)) ∧ W.cell? ⟨tb, n, none⟩ = some (.pointer (some ⟨q n, 0, none⟩)) ∧ W.cell? ⟨m, n, none⟩ = some (.pointer (some ⟨qm n, 0, none⟩)))) (by kernel_rfl) (by exact HKK.out _ (K2.out.trans ⟨Nat.le_refl _, fun _ _ => rfl⟩)) (fun hHeld => ?_)
                          refine wpAnyH_take (i := 0) (oi := ⟨some 179, _, _, _, _, _⟩) (v := ?vd1) rfl (by kernel_rfl) (by kernel_rfl) (by kernel_rfl) (fun _ _ _ h => h) (Or.inl ⟨by rfl, ?yd1⟩) (by assumption) ?rd1
                          case yd1 => (intro w hSw; (try dsimp only at hSw); go_simp; try with_reducible rfl)
                          try simp only [Act.put, List.setIfInBounds_toArray, List.set_cons_zero, List.set_cons_succ]
                          refine wpAnyH_take (i := 1) (oi := ⟨some 180, _, _, _, _, _⟩) (v := ?vd2) rfl (by kernel_rfl) (by kernel_rfl) (by kernel_rfl) (fun _ _ _ h => h) (Or.inl ⟨by rfl, ?yd2⟩) (by assumption) ?rd2
                          case yd2 => (intro w hSw; (try dsimp only at hSw); go_simp; try with_reducible rfl)
                          try simp only [Act.put, List.setIfInBounds_toArray, List.set_cons_zero, List.set_cons_succ]
                          refine wpAnyH_take (i := 2) (oi := ⟨some 181, _, _, _, _, _⟩) (v := ?vd3) rfl (by kernel_rfl) (by kernel_rfl) (by kernel_rfl) (fun _ _ _ h => h) (Or.inl ⟨by rfl, ?yd3⟩) (by assumption) ?rd3
                          case yd3 => (intro w hSw; (try dsimp only at hSw); go_simp; try with_reducible rfl)
                          try simp only [Act.put, List.setIfInBounds_toArray, List.set_cons_zero, List.set_cons_succ]
                          refine wpAnyH_take (i := 3) (oi := ⟨some 182, _, _, _, _, _⟩) (v := ?vd4) rfl (by kernel_rfl) (by kernel_rfl) (by kernel_rfl) (fun _ _ _ h => h) (Or.inl ⟨by rfl, ?yd4⟩) (by assumption) ?rd4
                          case yd4 => (intro w hSw; (try dsimp only at hSw); go_simp; try with_reducible rfl)
                          try simp only [Act.put, List.setIfInBounds_toArray, List.set_cons_zero, List.set_cons_succ]
                          refine wpAnyH_take (i := 4) (oi := ⟨some 183, _, _, _, _, _⟩) (v := ?vd5) rfl (by kernel_rfl) (by kernel_rfl) (by kernel_rfl) (fun _ _ _ h => h) (Or.inl ⟨by rfl, ?yd5⟩) (by assumption) ?rd5
                          case yd5 => (intro w hSw; (try dsimp only at hSw); go_simp; try with_reducible rfl)
                          try simp only [Act.put, List.setIfInBounds_toArray, List.set_cons_zero, List.set_cons_succ]
                          refine wpAnyH_take (i := 5) (oi := ⟨some 184, _, _, _, _, _⟩) (v := ?vd6) rfl (by kernel_rfl) (by kernel_rfl) (by kernel_rfl) (fun _ _ _ h => h) (Or.inl ⟨by rfl, ?yd6⟩) (by assumption) ?rd6
                          case yd6 => (intro w hSw; (try dsimp only at hSw); go_simp; try with_reducible rfl)
                          try simp only [Act.put, List.setIfInBounds_toArray, List.set_cons_zero, List.set_cons_succ]
                          refine wpAnyH_take (i := 6) (oi := ⟨some 185, _, _, _, _, _⟩) (v := ?vd7) rfl (by kernel_rfl) (by kernel_rfl) (by kernel_rfl) (fun _ _ _ h => h) (Or.inl ⟨by rfl, ?yd7⟩) (by assumption) ?rd7
                          case yd7 => (intro w hSw; (try dsimp only at hSw); go_simp; try with_reducible rfl)
                          try simp only [Act.put, List.setIfInBounds_toArray, List.set_cons_zero, List.set_cons_succ]
                          refine wpAnyH_take (i := 7) (oi := ⟨some 186, _, _, _, _, _⟩) (v := ?vd8) rfl (by kernel_rfl) (by kernel_rfl) (by kernel_rfl) (fun _ _ _ h => h) (Or.inl ⟨by rfl, ?yd8⟩) (by assumption) ?rd8
                          case yd8 => (intro w hSw; (try dsimp only at hSw); go_simp; try with_reducible rfl)
                          try simp only [Act.put, List.setIfInBounds_toArray, List.set_cons_zero, List.set_cons_succ]
                          refine wpAnyH_take (i := 8) (oi := ⟨some 187, _, _, _, _, _⟩) (v := ?vd9) rfl (by kernel_rfl) (by kernel_rfl) (by kernel_rfl) (fun _ _ _ h => h) (Or.inl ⟨by rfl, ?yd9⟩) (by assumption) ?rd9
                          case yd9 => (intro w hSw; (try dsimp only at hSw); go_simp; try with_reducible rfl)
                          try simp only [Act.put, List.setIfInBounds_toArray, List.set_cons_zero, List.set_cons_succ]
                          refine wpAnyH_take (i := 9) (oi := ⟨some 188, _, _, _, _, _⟩) (v := ?vd10) rfl (by kernel_rfl) (by kernel_rfl) (by kernel_rfl) (fun _ _ _ h => h) (Or.inl ⟨by rfl, ?yd10⟩) (by assumption) ?rd10
                          case yd10 => (intro w hSw; (try dsimp only at hSw); go_simp; try with_reducible rfl)
                          try simp only [Act.put, List.setIfInBounds_toArray, List.set_cons_zero, List.set_cons_succ]
                          refine wpAnyH_ready (rs := [10]) (by kernel_rfl) (by simp) ?_
                          refine AllReadyH.cons (o := ⟨some 189, _, _, _, _, _⟩) rfl (fun K hK => ?_) AllReadyH.nil
                          go_simp
                          refine (HDOC.out _ (Up.refl _ _).drew).mono ?_; rintro e w3 ⟨rfl, kf1, kf2⟩; have HPF := hid kf1; have KF : Hid (Tp (Q2 ob1 tb) w1 w3) := hid (HK.out.trans ((TDR.out.less fun x hx => .inr hx).trans kf2)); clear kf1 kf2
                          refine hK.out _ _ ?kd11 (fun hHeld => ?_)
                          case kd11 => exact ⟨(HC.out _ KF.out).1.cx hlt, (HC.out _ KF.out).2.cell n hlt, (tq_heads HPF.out _ (Tp.id _ _)).1 n hlt⟩
                          clear hK K
                          try simp only [Act.put, List.setIfInBounds_toArray, List.set_cons_zero, List.set_cons_succ]
                          refine wpAnyH_done (by kernel_rfl) ?_ _
                          go_wp2_with fail
                          go_roundw
                          case rel => exact ⟨n + 1, hlt, by go_num, HPF.out, KF.out⟩
                          case measure => simp [intOf]; omega
                        · obtain rfl : n = 3 := by omega
                          go_wp2_with fail
                          go_meet
                          exact ⟨HX.out, HK.out⟩
                  as_aux_lemma =>
                    have HX2 := hid hcut.1
                    have K2 := hid hcut.2
                    clear hcut
                    have a0 := (HC.out _ K2.out).2.cell 0 (by omega)
                    have a1 := (HC.out _ K2.out).2.cell 1 (by omega)
                    have a2 := (HC.out _ K2.out).2.cell 2 (by omega)
                    go_wp2_with fail
                    refine (tq_open HX2.out).mono ?_
                    clear a0 a1 a2
                    rintro e w3 (⟨t', xx, L, rfl, hr, hl, hb, tp, hdoc⟩ | ⟨xa, xc, r, hr0, rfl, tp, hdoc⟩)
                    · have HR := hid hr
                      have HL := hid hl
                      have HBY := hid hb
                      have HDOC := hid hdoc
                      have hh := (tq_heads HX2.out w3 tp).1
                      have b0 := hh 0 (by omega)
                      have b1 := hh 1 (by omega)
                      have b2 := hh 2 (by omega)
                      obtain ⟨ra, rc, rfl, _⟩ := hr
                      clear hl hb hdoc hh tp
                      generalize HLN : L.length = ln at *
                      go_wp2_with fail
                      refine (HDOC.out _ (Up.refl _ _)).mono ?_
                      rintro e w4 ⟨m', y, rfl, hr2, hy, hq, ht⟩
                      have HPF := hid hq
                      have KF := hid (K2.out.trans ht)
                      have HST := hid (strings_wide hr2 (by rw [HLN]; have := HL.out; omega))
                      have HY := hid hy
                      obtain ⟨ya, yc, rfl, _⟩ := hy
                      rw [HLN]
                      clear hr2 hq ht b0 b1 b2 HDOC
                      go_wp2_with fail
                      refine HST.out.mono ?_
                      rintro e w5 ⟨v5, rfl, ho5, u5⟩
                      have U5 := hid u5
                      have HSA := hid (same_wide ho5.rowS (HY.out.nxt u5) ⟨by rw [HLN]; have := HL.out; omega, by rw [HLN]; have := HL.out; omega⟩ HBY.out HBY.out)
                      rw [decide_eq_true rfl, HLN] at HSA
                      obtain ⟨ta, tc, rfl⟩ := ho5.shape
                      clear u5 ho5 HST
                      go_wp2_with fail
                      refine HSA.out.mono ?_
                      rintro e w6 ⟨rfl, u6⟩
                      have U6 := hid (U5.out.trans u6)
                      clear u6 HSA
                      go_wp2_with fail
                      go_meet
                      exact ⟨_, _, rfl, rfl, (HPF.out.nxt U6.out).more (by omega), KF.out.trans (Tp.nul U6.out HPF.out.own)⟩
                    · have HDOC := hid hdoc
                      have hh := (tq_heads HX2.out w3 tp).1
                      have b0 := hh 0 (by omega)
                      have b1 := hh 1 (by omega)
                      have b2 := hh 2 (by omega)
                      have hrr : (r == r) = true := by simp
                      have hr1 : (r == 0) = false := by simpa using hr0
                      clear hdoc hh tp
                      go_wp2_with fail
                      refine (HDOC.out _ (Up.refl _ _)).mono ?_
                      rintro e w4 ⟨rfl, hq, ht⟩
                      have HPF := hid hq
                      have KF := hid (K2.out.trans ht)
                      clear hq ht b0 b1 b2 HDOC
                      have HST := hid (strings_wide (w := w4) (v := .slice xa 0 xc) (l := []) ⟨xa, xc, rfl, .inl rfl⟩ (Nat.zero_le _))
                      go_wp2_with fail
                      refine HST.out.mono ?_
                      rintro e w5 ⟨v5, rfl, ho5, u5⟩
                      have U5 := hid u5
                      have HSA := hid (same_wide ho5.rowS (l2 := []) (v2 := .slice none 0 0) ⟨none, 0, rfl, .inl rfl⟩ ⟨Nat.zero_le _, Nat.zero_le _⟩ (fun z hz => by cases hz) (fun z hz => by cases hz))
                      rw [decide_eq_true rfl] at HSA
                      obtain ⟨ta, tc, rfl⟩ := ho5.shape
                      clear u5 ho5 HST
                      go_wp2_with fail
                      refine HSA.out.mono ?_
                      rintro e w6 ⟨rfl, u6⟩
                      have U6 := hid (U5.out.trans u6)
                      clear u6 HSA
                      go_wp2_with fail
                      go_meet
                      exact ⟨_, _, rfl, rfl, (HPF.out.nxt U6.out).more (by omega), KF.out.trans (Tp.nul U6.out HPF.out.own)⟩
                · have c1 := (HC.out _ (Tp.id _ w1)).1.c1
                  obtain ⟨y, hy, hy2⟩ := FrL.i64_mask 5 (by omega) nn
                  dsimp only at c1 hy
                  go_wp2_with fail
                  rw [show bits .and .i64 nn 31 = (y : Int) from hy]
                  refine (tq_set HX1.out (y : Int) (by omega)).mono ?_
                  rintro e w2 ⟨rfl, k2, hdoc⟩
                  have HDOC := hid hdoc
                  clear c1
                  have c1 := (HC.out _ k2).1.c1
                  dsimp only at c1
                  clear hdoc
                  go_wp2_with fail
                  rw [show bits .and .i64 nn 31 = (y : Int) from hy]
                  refine HDOC.out.mono ?_
                  rintro e w3 ⟨p, b0, z1, rfl, q0, q1, ⟨y0, v0⟩, ⟨y1, v1⟩, fv, _, hp, kf⟩
                  have HPF := hid hp
                  have KF := hid kf
                  have f0 := fv 0
                  have f1 := fv 1
                  clear hp kf k2 c1 fv
                  go_wp2_with fail
                  go_meet
                  exact ⟨_, _, rfl, rfl, HPF.out.more (by omega), KF.out⟩
            as_aux_lemma =>
              obtain ⟨t, m, rfl, rfl, hx2, k2⟩ := hcut
              have HX2 := hid hx2
              have HL2 := hid ((HC.out _ k2).2)
              clear hx2 k2 HX1 HC UR TD
              obtain ⟨N, hc, hcall⟩ := tq_records HX2.out
              have HC3 := hid hc
              have UD : Hid (Up Nul wc wc.drew) := (Up.refl Nul wc).drew
              have HRC := hid (hcall _ UD.out)
              have hNN : ((N : Int) == (N : Int)) = true := by simp
              clear hc hcall
              go_upto_region 49 with fail
              refine wp_region_held_drew (S := (fun W => W.cell? ⟨m, 3, none⟩ = some (.int .i64 (N : Nat)))) (by kernel_rfl) (by exact HC3.out _ UD.out) (fun hHeld => ?_)
              refine wpAnyH_take (i := 0) (oi := ⟨some 226, _, _, _, _, _⟩) (v := ?vs1) rfl (by kernel_rfl) (by kernel_rfl) (by kernel_rfl) (fun _ _ _ h => h) (Or.inl ⟨by rfl, ?ys1⟩) (by assumption) ?rs1
              case ys1 => (intro w hSw; (try dsimp only at hSw); go_simp; try with_reducible rfl)
              try simp only [Act.put, List.setIfInBounds_toArray, List.set_cons_zero, List.set_cons_succ]
              refine wpAnyH_take (i := 2) (oi := ⟨some 228, _, _, _, _, _⟩) (v := ?vs2) rfl (by kernel_rfl) (by kernel_rfl) (by kernel_rfl) (fun _ _ _ h => h) (Or.inl ⟨by rfl, ?ys2⟩) (by assumption) ?rs2
              case ys2 => (intro w hSw; (try dsimp only at hSw); go_simp; try with_reducible rfl)
              try simp only [Act.put, List.setIfInBounds_toArray, List.set_cons_zero, List.set_cons_succ]
              refine wpAnyH_take (i := 3) (oi := ⟨some 229, _, _, _, _, _⟩) (v := ?vs3) rfl (by kernel_rfl) (by kernel_rfl) (by kernel_rfl) (fun _ _ _ h => h) (Or.inl ⟨by rfl, ?ys3⟩) (by assumption) ?rs3
              case ys3 => (intro w hSw; (try dsimp only at hSw); go_simp; try with_reducible rfl)
              try simp only [Act.put, List.setIfInBounds_toArray, List.set_cons_zero, List.set_cons_succ]
              refine wpAnyH_take (i := 4) (oi := ⟨some 230, _, _, _, _, _⟩) (v := ?vs4) rfl (by kernel_rfl) (by kernel_rfl) (by kernel_rfl) (fun _ _ _ h => h) (Or.inl ⟨by rfl, ?ys4⟩) (by assumption) ?rs4
              case ys4 => (intro w hSw; (try dsimp only at hSw); go_simp; try with_reducible rfl)
              try simp only [Act.put, List.setIfInBounds_toArray, List.set_cons_zero, List.set_cons_succ]
              refine wpAnyH_take (i := 5) (oi := ⟨some 231, _, _, _, _, _⟩) (v := ?vs5) rfl (by kernel_rfl) (by kernel_rfl) (by kernel_rfl) (fun _ _ _ h => h) (Or.inl ⟨by rfl, ?ys5⟩) (by assumption) ?rs5
              case ys5 => (intro w hSw; (try dsimp only at hSw); go_simp; try with_reducible rfl)
              try simp only [Act.put, List.setIfInBounds_toArray, List.set_cons_zero, List.set_cons_succ]
              refine wpAnyH_ready (rs := [1]) (by kernel_rfl) (by simp) ?_
              refine AllReadyH.cons (o := ⟨some 227, _, _, _, _, _⟩) rfl (fun K hK => ?_) AllReadyH.nil
              go_simp
              refine HRC.out.mono ?_; rintro e w5 ⟨rfl, k5⟩; have U5 := hid (UD.out.trans k5); clear k5
              refine hK.out _ _ ?ks6 (fun hHeld => ?_)
              case ks6 => exact HC3.out _ U5.out
              clear hK K
              try simp only [Act.put, List.setIfInBounds_toArray, List.set_cons_zero, List.set_cons_succ]
              refine wpAnyH_take (i := 6) (oi := ⟨some 232, _, _, _, _, _⟩) (v := ?vs7) rfl (by kernel_rfl) (by kernel_rfl) (by kernel_rfl) (fun _ _ _ h => h) (Or.inl ⟨by rfl, ?ys7⟩) (by assumption) ?rs7
              case ys7 => (intro w hSw; (try dsimp only at hSw); go_simp; try with_reducible rfl)
              try simp only [Act.put, List.setIfInBounds_toArray, List.set_cons_zero, List.set_cons_succ]
              refine wpAnyH_done (by kernel_rfl) ?_ _
              have HX5 := hid (HX2.out.nxt U5.out)
              have HL5 := hid (HL2.out.nxt U5.out)
              clear HX2 HL2 HRC HC3 hNN
              have HTP := hid (tq_tapes HX5.out)
              have d0 := HL5.out.cell 0 (by omega)
              go_wp2_with fail
              refine HTP.out.mono ?_
              rintro e w7 ⟨rfl, h7, u7⟩
              unfold tri
              have HX7 := hid h7
              have HL7 := hid (HL5.out.nxt u7)
              clear h7 u7 HTP HX5 HL5 d0
              have e0 := HL7.out.cell 0 (by omega)
              have e1 := HL7.out.cell 1 (by omega)
              have e2 := HL7.out.cell 2 (by omega)
              have f0 := HL7.out.fr 0
              have f1 := HL7.out.fr 1
              have f2 := HL7.out.fr 2
              have HL6 := hid HL7.out.put
              have HX6 := hid (HX7.out.putTb HTB.out)
              go_upto_region 52 with fail
              clear e0 e1 e2 f0 f1 f2 HX7 HL7
              generalize World.setCell _ ⟨tb, 2, none⟩ _ = w6 at HX6 HL6 ⊢
              go_wp2_with fail
              go_loopw [21] (fun i wr => ∃ n : Nat, n ≤ 3 ∧ i = .int .i64 (n : Nat) ∧ Up Nul w6 wr) (fun i _ => 3 - (intOf i).toNat)
              case atStart => exact ⟨0, by omega, rfl, Up.refl _ _⟩
              case round =>
                as_aux_lemma =>
                  obtain ⟨n, hn, rfl, hu⟩ := hrel
                  have UR := hid hu
                  have HN := hid hn
                  clear hu
                  have n0 : (0 : Int) ≤ (n : Int) := by omega
                  by_cases hlt : n < 3
                  · have n1 : (n : Int) < 3 := by omega
                    obtain ⟨live, zz, hlk⟩ := tq_look HX6.out hlt
                    have HLK := hid hlk
                    clear hlk
                    have HKK : Hid (∀ W, Up Nul w6 W → (fun W => Up Nul w6 W ∧ W.cell? ⟨tb, n, none⟩ = some (.pointer (some ⟨q n, 0, none⟩)) ∧ W.cell? ⟨m, n, none⟩ = some (.pointer (some ⟨qm n, 0, none⟩)) ∧ W.cell? ⟨qm n, 2, none⟩ = some (.bool live)) W) := fun W k => ⟨k, (HL6.out.nxt k).cell n hlt, (tq_heads (HX6.out.nxt k) W (Tp.id _ _)).1 n hlt, HLK.out.c2 W k⟩
                    have UD := hid (UR.out.drew)
                    have hlv : (live == live) = true := by simp
                    go_upto_region 55 with fail
                    refine wp_region_held_drew (S := (fun W => Up Nul w6 W ∧ W.cell? ⟨tb, n, none⟩ = some (.pointer (some ⟨q n, 0, none⟩)) ∧ W.cell? ⟨m, n, none⟩ = some (.pointer (some ⟨qm n, 0, none⟩)) ∧ W.cell? ⟨qm n, 2, none⟩ = some (.bool live))) (by kernel_rfl) (by exact HKK.out _ UD.out) (fun hHeld => ?_)
                    refine wpAnyH_take (i := 0) (oi := ⟨some 239, _, _, _, _, _⟩) (v := ?vt1) rfl (by kernel_rfl) (by kernel_rfl) (by kernel_rfl) (fun _ _ _ h => h) (Or.inl ⟨by rfl, ?yt1⟩) (by assumption) ?rt1
                    case yt1 => (intro w hSw; (try dsimp only at hSw); go_simp; try with_reducible rfl)
                    try simp only [Act.put, List.setIfInBounds_toArray, List.set_cons_zero, List.set_cons_succ]
                    refine wpAnyH_take (i := 1) (oi := ⟨some 240, _, _, _, _, _⟩) (v := ?vt2) rfl (by kernel_rfl) (by kernel_rfl) (by kernel_rfl) (fun _ _ _ h => h) (Or.inl ⟨by rfl, ?yt2⟩) (by assumption) ?rt2
                    case yt2 => (intro w hSw; (try dsimp only at hSw); go_simp; try with_reducible rfl)
                    try simp only [Act.put, List.setIfInBounds_toArray, List.set_cons_zero, List.set_cons_succ]
                    refine wpAnyH_take (i := 2) (oi := ⟨some 241, _, _, _, _, _⟩) (v := ?vt3) rfl (by kernel_rfl) (by kernel_rfl) (by kernel_rfl) (fun _ _ _ h => h) (Or.inl ⟨by rfl, ?yt3⟩) (by assumption) ?rt3
                    case yt3 => (intro w hSw; (try dsimp only at hSw); go_simp; try with_reducible rfl)
                    try simp only [Act.put, List.setIfInBounds_toArray, List.set_cons_zero, List.set_cons_succ]
                    refine wpAnyH_take (i := 3) (oi := ⟨some 242, _, _, _, _, _⟩) (v := ?vt4) rfl (by kernel_rfl) (by kernel_rfl) (by kernel_rfl) (fun _ _ _ h => h) (Or.inl ⟨by rfl, ?yt4⟩) (by assumption) ?rt4
                    case yt4 => (intro w hSw; (try dsimp only at hSw); go_simp; try with_reducible rfl)
                    try simp only [Act.put, List.setIfInBounds_toArray, List.set_cons_zero, List.set_cons_succ]
                    refine wpAnyH_take (i := 4) (oi := ⟨some 243, _, _, _, _, _⟩) (v := ?vt5) rfl (by kernel_rfl) (by kernel_rfl) (by kernel_rfl) (fun _ _ _ h => h) (Or.inl ⟨by rfl, ?yt5⟩) (by assumption) ?rt5
                    case yt5 => (intro w hSw; (try dsimp only at hSw); go_simp; try with_reducible rfl)
                    try simp only [Act.put, List.setIfInBounds_toArray, List.set_cons_zero, List.set_cons_succ]
                    refine wpAnyH_take (i := 5) (oi := ⟨some 244, _, _, _, _, _⟩) (v := ?vt6) rfl (by kernel_rfl) (by kernel_rfl) (by kernel_rfl) (fun _ _ _ h => h) (Or.inl ⟨by rfl, ?yt6⟩) (by assumption) ?rt6
                    case yt6 => (intro w hSw; (try dsimp only at hSw); go_simp; try with_reducible rfl)
                    try simp only [Act.put, List.setIfInBounds_toArray, List.set_cons_zero, List.set_cons_succ]
                    refine wpAnyH_take (i := 6) (oi := ⟨some 245, _, _, _, _, _⟩) (v := ?vt7) rfl (by kernel_rfl) (by kernel_rfl) (by kernel_rfl) (fun _ _ _ h => h) (Or.inl ⟨by rfl, ?yt7⟩) (by assumption) ?rt7
                    case yt7 => (intro w hSw; (try dsimp only at hSw); go_simp; try with_reducible rfl)
                    try simp only [Act.put, List.setIfInBounds_toArray, List.set_cons_zero, List.set_cons_succ]
                    refine wpAnyH_take (i := 7) (oi := ⟨some 246, _, _, _, _, _⟩) (v := ?vt8) rfl (by kernel_rfl) (by kernel_rfl) (by kernel_rfl) (fun _ _ _ h => h) (Or.inl ⟨by rfl, ?yt8⟩) (by assumption) ?rt8
                    case yt8 => (intro w hSw; (try dsimp only at hSw); go_simp; try with_reducible rfl)
                    try simp only [Act.put, List.setIfInBounds_toArray, List.set_cons_zero, List.set_cons_succ]
                    refine wpAnyH_take (i := 9) (oi := ⟨some 248, _, _, _, _, _⟩) (v := ?vt9) rfl (by kernel_rfl) (by kernel_rfl) (by kernel_rfl) (fun _ _ _ h => h) (Or.inl ⟨by rfl, ?yt9⟩) (by assumption) ?rt9
                    case yt9 => (intro w hSw; (try dsimp only at hSw); go_simp; try with_reducible rfl)
                    try simp only [Act.put, List.setIfInBounds_toArray, List.set_cons_zero, List.set_cons_succ]
                    refine wpAnyH_take (i := 10) (oi := ⟨some 249, _, _, _, _, _⟩) (v := ?vt10) rfl (by kernel_rfl) (by kernel_rfl) (by kernel_rfl) (fun _ _ _ h => h) (Or.inl ⟨by rfl, ?yt10⟩) (by assumption) ?rt10
                    case yt10 => (intro w hSw; (try dsimp only at hSw); go_simp; try with_reducible rfl)
                    try simp only [Act.put, List.setIfInBounds_toArray, List.set_cons_zero, List.set_cons_succ]
                    refine wpAnyH_take (i := 11) (oi := ⟨some 250, _, _, _, _, _⟩) (v := ?vt11) rfl (by kernel_rfl) (by kernel_rfl) (by kernel_rfl) (fun _ _ _ h => h) (Or.inl ⟨by rfl, ?yt11⟩) (by assumption) ?rt11
                    case yt11 => (intro w hSw; (try dsimp only at hSw); go_simp; try with_reducible rfl)
                    try simp only [Act.put, List.setIfInBounds_toArray, List.set_cons_zero, List.set_cons_succ]
                    refine wpAnyH_take (i := 12) (oi := ⟨some 251, _, _, _, _, _⟩) (v := ?vt12) rfl (by kernel_rfl) (by kernel_rfl) (by kernel_rfl) (fun _ _ _ h => h) (Or.inl ⟨by rfl, ?yt12⟩) (by assumption) ?rt12
                    case yt12 => (intro w hSw; (try dsimp only at hSw); go_simp; try with_reducible rfl)
                    try simp only [Act.put, List.setIfInBounds_toArray, List.set_cons_zero, List.set_cons_succ]
                    refine wpAnyH_take (i := 13) (oi := ⟨some 252, _, _, _, _, _⟩) (v := ?vt13) rfl (by kernel_rfl) (by kernel_rfl) (by kernel_rfl) (fun _ _ _ h => h) (Or.inl ⟨by rfl, ?yt13⟩) (by assumption) ?rt13
                    case yt13 => (intro w hSw; (try dsimp only at hSw); go_simp; try with_reducible rfl)
                    try simp only [Act.put, List.setIfInBounds_toArray, List.set_cons_zero, List.set_cons_succ]
                    refine wpAnyH_take (i := 14) (oi := ⟨some 253, _, _, _, _, _⟩) (v := ?vt14) rfl (by kernel_rfl) (by kernel_rfl) (by kernel_rfl) (fun _ _ _ h => h) (Or.inl ⟨by rfl, ?yt14⟩) (by assumption) ?rt14
                    case yt14 => (intro w hSw; (try dsimp only at hSw); go_simp; try with_reducible rfl)
                    try simp only [Act.put, List.setIfInBounds_toArray, List.set_cons_zero, List.set_cons_succ]
                    refine wpAnyH_take (i := 15) (oi := ⟨some 254, _, _, _, _, _⟩) (v := ?vt15) rfl (by kernel_rfl) (by kernel_rfl) (by kernel_rfl) (fun _ _ _ h => h) (Or.inl ⟨by rfl, ?yt15⟩) (by assumption) ?rt15
                    case yt15 => (intro w hSw; (try dsimp only at hSw); go_simp; try with_reducible rfl)
                    try simp only [Act.put, List.setIfInBounds_toArray, List.set_cons_zero, List.set_cons_succ]
                    refine wpAnyH_take (i := 16) (oi := ⟨some 255, _, _, _, _, _⟩) (v := ?vt16) rfl (by kernel_rfl) (by kernel_rfl) (by kernel_rfl) (fun _ _ _ h => h) (Or.inl ⟨by rfl, ?yt16⟩) (by assumption) ?rt16
                    case yt16 => (intro w hSw; (try dsimp only at hSw); go_simp; try with_reducible rfl)
                    try simp only [Act.put, List.setIfInBounds_toArray, List.set_cons_zero, List.set_cons_succ]
                    refine wpAnyH_take (i := 17) (oi := ⟨some 256, _, _, _, _, _⟩) (v := ?vt17) rfl (by kernel_rfl) (by kernel_rfl) (by kernel_rfl) (fun _ _ _ h => h) (Or.inl ⟨by rfl, ?yt17⟩) (by assumption) ?rt17
                    case yt17 => (intro w hSw; (try dsimp only at hSw); go_simp; try with_reducible rfl)
                    try simp only [Act.put, List.setIfInBounds_toArray, List.set_cons_zero, List.set_cons_succ]
                    refine wpAnyH_ready (rs := [8]) (by kernel_rfl) (by simp) ?_
                    refine AllReadyH.cons (o := ⟨some 247, _, _, _, _, _⟩) rfl (fun K hK => ?_) AllReadyH.nil
                    go_simp
                    refine (HLK.out.lives _ UD.out).mono ?_; rintro e wd ⟨rfl, kd⟩; have KD := hid (UD.out.trans kd); clear kd
                    refine hK.out _ _ ?kt18 (fun hHeld => ?_)
                    case kt18 => exact HKK.out _ KD.out
                    clear hK K
                    try simp only [Act.put, List.setIfInBounds_toArray, List.set_cons_zero, List.set_cons_succ]
                    refine wpAnyH_take (i := 18) (oi := ⟨some 257, _, _, _, _, _⟩) (v := ?vt19) rfl (by kernel_rfl) (by kernel_rfl) (by kernel_rfl) (fun _ _ _ h => h) (Or.inl ⟨by rfl, ?yt19⟩) (by assumption) ?rt19
                    case yt19 => (intro w hSw; (try dsimp only at hSw); go_simp; try with_reducible rfl)
                    try simp only [Act.put, List.setIfInBounds_toArray, List.set_cons_zero, List.set_cons_succ]
                    refine wpAnyH_take (i := 19) (oi := ⟨some 258, _, _, _, _, _⟩) (v := ?vt20) rfl (by kernel_rfl) (by kernel_rfl) (by kernel_rfl) (fun _ _ _ h => h) (Or.inl ⟨by rfl, ?yt20⟩) (by assumption) ?rt20
                    case yt20 => (intro w hSw; (try dsimp only at hSw); go_simp; try with_reducible rfl)
                    try simp only [Act.put, List.setIfInBounds_toArray, List.set_cons_zero, List.set_cons_succ]
                    refine wpAnyH_done (by kernel_rfl) ?_ _
                    have ct := (HKK.out _ KD.out).2.1
                    go_wp2_with fail
                    refine (HLK.out.bytes _ KD.out).mono ?_
                    rintro e w8 ⟨xa, xl, xc, r, rfl, hr, u8, hcv⟩
                    have U8 := hid (KD.out.trans u8)
                    have HCV := hid hcv
                    clear ct u8 hcv hlv
                    cases live with
                    | true =>
                      obtain rfl : r = 0 := hr
                      have hzz : ((strOf zz).toList == (strOf zz).toList) = true := by simp
                      have H8 : Hid ((fun W => Up Nul w6 W ∧ W.cell? ⟨m, n, none⟩ = some (.pointer (some ⟨qm n, 0, none⟩)) ∧ W.cell? ⟨qm n, 2, none⟩ = some (.bool true) ∧ W.cell? ⟨qm n, 0, none⟩ = some (.string (strOf zz)) ∧ (convert 30 9 (.slice xa xl xc)).run Try.prog W = .ok (.string (strOf zz)) W) w8.drew) := ⟨U8.out.drew, (tq_heads (HX6.out.nxt U8.out.drew) _ (Tp.id _ _)).1 n hlt, HLK.out.c2 _ U8.out.drew, HLK.out.c0 _ U8.out.drew rfl, HCV.out rfl _ (Up.refl _ _).drew⟩
                      go_upto_region 58 with fail
                      refine wp_region_held_drew (S := (fun W => Up Nul w6 W ∧ W.cell? ⟨m, n, none⟩ = some (.pointer (some ⟨qm n, 0, none⟩)) ∧ W.cell? ⟨qm n, 2, none⟩ = some (.bool true) ∧ W.cell? ⟨qm n, 0, none⟩ = some (.string (strOf zz)) ∧ (convert 30 9 (.slice xa xl xc)).run Try.prog W = .ok (.string (strOf zz)) W)) (by kernel_rfl) (by exact H8.out) (fun hHeld => ?_)
                      refine wpAnyH_take (i := 0) (oi := ⟨some 266, _, _, _, _, _⟩) (v := ?vl1) rfl (by kernel_rfl) (by kernel_rfl) (by kernel_rfl) (fun _ _ _ h => h) (Or.inl ⟨by rfl, ?yl1⟩) (by assumption) ?rl1
                      case yl1 => (intro w hSw; (try dsimp only at hSw); go_simp; try with_reducible rfl)
                      try simp only [Act.put, List.setIfInBounds_toArray, List.set_cons_zero, List.set_cons_succ]
                      refine wpAnyH_take (i := 1) (oi := ⟨some 267, _, _, _, _, _⟩) (v := ?vl2) rfl (by kernel_rfl) (by kernel_rfl) (by kernel_rfl) (fun _ _ _ h => h) (Or.inl ⟨by rfl, ?yl2⟩) (by assumption) ?rl2
                      case yl2 => (intro w hSw; (try dsimp only at hSw); go_simp; try with_reducible rfl)
                      try simp only [Act.put, List.setIfInBounds_toArray, List.set_cons_zero, List.set_cons_succ]
                      refine wpAnyH_take (i := 2) (oi := ⟨some 268, _, _, _, _, _⟩) (v := ?vl3) rfl (by kernel_rfl) (by kernel_rfl) (by kernel_rfl) (fun _ _ _ h => h) (Or.inl ⟨by rfl, ?yl3⟩) (by assumption) ?rl3
                      case yl3 => (intro w hSw; (try dsimp only at hSw); go_simp; try with_reducible rfl)
                      try simp only [Act.put, List.setIfInBounds_toArray, List.set_cons_zero, List.set_cons_succ]
                      refine wpAnyH_take (i := 3) (oi := ⟨some 269, _, _, _, _, _⟩) (v := ?vl4) rfl (by kernel_rfl) (by kernel_rfl) (by kernel_rfl) (fun _ _ _ h => h) (Or.inl ⟨by rfl, ?yl4⟩) (by assumption) ?rl4
                      case yl4 => (intro w hSw; (try dsimp only at hSw); go_simp; try with_reducible rfl)
                      try simp only [Act.put, List.setIfInBounds_toArray, List.set_cons_zero, List.set_cons_succ]
                      refine wpAnyH_take (i := 4) (oi := ⟨some 270, _, _, _, _, _⟩) (v := ?vl5) rfl (by kernel_rfl) (by kernel_rfl) (by kernel_rfl) (fun _ _ _ h => h) (Or.inl ⟨by rfl, ?yl5⟩) (by assumption) ?rl5
                      case yl5 => (intro w hSw; (try dsimp only at hSw); go_simp; try with_reducible rfl)
                      try simp only [Act.put, List.setIfInBounds_toArray, List.set_cons_zero, List.set_cons_succ]
                      refine wpAnyH_take (i := 5) (oi := ⟨some 271, _, _, _, _, _⟩) (v := ?vl6) rfl (by kernel_rfl) (by kernel_rfl) (by kernel_rfl) (fun _ _ _ h => h) (Or.inl ⟨by rfl, ?yl6⟩) (by assumption) ?rl6
                      case yl6 => (intro w hSw; (try dsimp only at hSw); go_simp; try with_reducible rfl)
                      try simp only [Act.put, List.setIfInBounds_toArray, List.set_cons_zero, List.set_cons_succ]
                      refine wpAnyH_take (i := 6) (oi := ⟨some 272, _, _, _, _, _⟩) (v := ?vl7) rfl (by kernel_rfl) (by kernel_rfl) (by kernel_rfl) (fun _ _ _ h => h) (Or.inl ⟨by rfl, ?yl7⟩) (by assumption) ?rl7
                      case yl7 => (intro w hSw; (try dsimp only at hSw); go_simp; try with_reducible rfl)
                      try simp only [Act.put, List.setIfInBounds_toArray, List.set_cons_zero, List.set_cons_succ]
                      refine wpAnyH_take (i := 7) (oi := ⟨some 273, _, _, _, _, _⟩) (v := ?vl8) rfl (by kernel_rfl) (by kernel_rfl) (by kernel_rfl) (fun _ _ _ h => h) (Or.inl ⟨by rfl, ?yl8⟩) (by assumption) ?rl8
                      case yl8 => (intro w hSw; (try dsimp only at hSw); go_simp; try with_reducible rfl)
                      try simp only [Act.put, List.setIfInBounds_toArray, List.set_cons_zero, List.set_cons_succ]
                      refine wpAnyH_take (i := 8) (oi := ⟨some 274, _, _, _, _, _⟩) (v := ?vl9) rfl (by kernel_rfl) (by kernel_rfl) (by kernel_rfl) (fun _ _ _ h => h) (Or.inl ⟨by rfl, ?yl9⟩) (by assumption) ?rl9
                      case yl9 => (intro w hSw; (try dsimp only at hSw); go_simp; try with_reducible rfl)
                      try simp only [Act.put, List.setIfInBounds_toArray, List.set_cons_zero, List.set_cons_succ]
                      refine wpAnyH_take (i := 9) (oi := ⟨some 275, _, _, _, _, _⟩) (v := ?vl10) rfl (by kernel_rfl) (by kernel_rfl) (by kernel_rfl) (fun _ _ _ h => h) (Or.inl ⟨by rfl, ?yl10⟩) (by assumption) ?rl10
                      case yl10 => (intro w hSw; (try dsimp only at hSw); go_simp; try with_reducible rfl)
                      try simp only [Act.put, List.setIfInBounds_toArray, List.set_cons_zero, List.set_cons_succ]
                      refine wpAnyH_take (i := 10) (oi := ⟨some 276, _, _, _, _, _⟩) (v := ?vl11) rfl (by kernel_rfl) (by kernel_rfl) (by kernel_rfl) (fun _ _ _ h => h) (Or.inl ⟨by rfl, ?yl11⟩) (by assumption) ?rl11
                      case yl11 => (intro w hSw; (try dsimp only at hSw); go_simp; try with_reducible rfl)
                      try simp only [Act.put, List.setIfInBounds_toArray, List.set_cons_zero, List.set_cons_succ]
                      refine wpAnyH_take (i := 11) (oi := ⟨some 277, _, _, _, _, _⟩) (v := ?vl12) rfl (by kernel_rfl) (by kernel_rfl) (by kernel_rfl) (fun _ _ _ h => h) (Or.inl ⟨by rfl, ?yl12⟩) (by assumption) ?rl12
                      case yl12 => (intro w hSw; (try dsimp only at hSw); go_simp; try with_reducible rfl)
                      try simp only [Act.put, List.setIfInBounds_toArray, List.set_cons_zero, List.set_cons_succ]
                      refine wpAnyH_take (i := 12) (oi := ⟨some 278, _, _, _, _, _⟩) (v := ?vl13) rfl (by kernel_rfl) (by kernel_rfl) (by kernel_rfl) (fun _ _ _ h => h) (Or.inl ⟨by rfl, ?yl13⟩) (by assumption) ?rl13
                      case yl13 => (intro w hSw; (try dsimp only at hSw); go_simp; try with_reducible rfl)
                      try simp only [Act.put, List.setIfInBounds_toArray, List.set_cons_zero, List.set_cons_succ]
                      refine wpAnyH_take (i := 13) (oi := ⟨some 279, _, _, _, _, _⟩) (v := ?vl14) rfl (by kernel_rfl) (by kernel_rfl) (by kernel_rfl) (fun _ _ _ h => h) (Or.inl ⟨by rfl, ?yl14⟩) (by assumption) ?rl14
                      case yl14 => (intro w hSw; (try dsimp only at hSw); go_simp; try with_reducible rfl)
                      try simp only [Act.put, List.setIfInBounds_toArray, List.set_cons_zero, List.set_cons_succ]
                      refine wpAnyH_take (i := 14) (oi := ⟨some 280, _, _, _, _, _⟩) (v := ?vl15) rfl (by kernel_rfl) (by kernel_rfl) (by kernel_rfl) (fun _ _ _ h => h) (Or.inl ⟨by rfl, ?yl15⟩) (by assumption) ?rl15
                      case yl15 => (intro w hSw; (try dsimp only at hSw); go_simp; try with_reducible rfl)
                      try simp only [Act.put, List.setIfInBounds_toArray, List.set_cons_zero, List.set_cons_succ]
                      refine wpAnyH_take (i := 15) (oi := ⟨some 281, _, _, _, _, _⟩) (v := ?vl16) rfl (by kernel_rfl) (by kernel_rfl) (by kernel_rfl) (fun _ _ _ h => h) (Or.inl ⟨by rfl, ?yl16⟩) (by assumption) ?rl16
                      case yl16 => (intro w hSw; (try dsimp only at hSw); go_simp; try with_reducible rfl)
                      try simp only [Act.put, List.setIfInBounds_toArray, List.set_cons_zero, List.set_cons_succ]
                      refine wpAnyH_take (i := 16) (oi := ⟨some 282, _, _, _, _, _⟩) (v := ?vl17) rfl (by kernel_rfl) (by kernel_rfl) (by kernel_rfl) (fun _ _ _ h => h) (Or.inl ⟨by rfl, ?yl17⟩) (by assumption) ?rl17
                      case yl17 => (intro w hSw; (try dsimp only at hSw); go_simp; try with_reducible rfl)
                      try simp only [Act.put, List.setIfInBounds_toArray, List.set_cons_zero, List.set_cons_succ]
                      refine wpAnyH_take (i := 17) (oi := ⟨some 283, _, _, _, _, _⟩) (v := ?vl18) rfl (by kernel_rfl) (by kernel_rfl) (by kernel_rfl) (fun _ _ _ h => h) (Or.inl ⟨by rfl, ?yl18⟩) (by assumption) ?rl18
                      case yl18 => (intro w hSw; (try dsimp only at hSw); go_simp; try with_reducible rfl)
                      try simp only [Act.put, List.setIfInBounds_toArray, List.set_cons_zero, List.set_cons_succ]
                      refine wpAnyH_take (i := 18) (oi := ⟨some 284, _, _, _, _, _⟩) (v := ?vl19) rfl (by kernel_rfl) (by kernel_rfl) (by kernel_rfl) (fun _ _ _ h => h) (Or.inl ⟨by rfl, ?yl19⟩) (by assumption) ?rl19
                      case yl19 => (intro w hSw; (try dsimp only at hSw); go_simp; try with_reducible rfl)
                      try simp only [Act.put, List.setIfInBounds_toArray, List.set_cons_zero, List.set_cons_succ]
                      refine wpAnyH_take (i := 19) (oi := ⟨some 285, _, _, _, _, _⟩) (v := ?vl20) rfl (by kernel_rfl) (by kernel_rfl) (by kernel_rfl) (fun _ _ _ h => h) (Or.inl ⟨by rfl, ?yl20⟩) (by assumption) ?rl20
                      case yl20 => (intro w hSw; (try dsimp only at hSw); go_simp; try with_reducible rfl)
                      try simp only [Act.put, List.setIfInBounds_toArray, List.set_cons_zero, List.set_cons_succ]
                      refine wpAnyH_take (i := 20) (oi := ⟨some 286, _, _, _, _, _⟩) (v := ?vl21) rfl (by kernel_rfl) (by kernel_rfl) (by kernel_rfl) (fun _ _ _ h => h) (Or.inl ⟨by rfl, ?yl21⟩) (by assumption) ?rl21
                      case yl21 => (intro w hSw; (try dsimp only at hSw); go_simp; try with_reducible rfl)
                      try simp only [Act.put, List.setIfInBounds_toArray, List.set_cons_zero, List.set_cons_succ]
                      refine wpAnyH_take (i := 21) (oi := ⟨some 287, _, _, _, _, _⟩) (v := ?vl22) rfl (by kernel_rfl) (by kernel_rfl) (by kernel_rfl) (fun _ _ _ h => h) (Or.inl ⟨by rfl, ?yl22⟩) (by assumption) ?rl22
                      case yl22 => (intro w hSw; (try dsimp only at hSw); go_simp; try with_reducible rfl)
                      try simp only [Act.put, List.setIfInBounds_toArray, List.set_cons_zero, List.set_cons_succ]
                      refine wpAnyH_take (i := 22) (oi := ⟨some 288, _, _, _, _, _⟩) (v := ?vl23) rfl (by kernel_rfl) (by kernel_rfl) (by kernel_rfl) (fun _ _ _ h => h) (Or.inl ⟨by rfl, ?yl23⟩) (by assumption) ?rl23
                      case yl23 => (intro w hSw; (try dsimp only at hSw); go_simp; try with_reducible rfl)
                      try simp only [Act.put, List.setIfInBounds_toArray, List.set_cons_zero, List.set_cons_succ]
                      refine wpAnyH_take (i := 23) (oi := ⟨some 289, _, _, _, _, _⟩) (v := ?vl24) rfl (by kernel_rfl) (by kernel_rfl) (by kernel_rfl) (fun _ _ _ h => h) (Or.inl ⟨by rfl, ?yl24⟩) (by assumption) ?rl24
                      case yl24 => (intro w hSw; (try dsimp only at hSw); go_simp; try with_reducible rfl)
                      try simp only [Act.put, List.setIfInBounds_toArray, List.set_cons_zero, List.set_cons_succ]
                      refine wpAnyH_take (i := 24) (oi := ⟨some 290, _, _, _, _, _⟩) (v := ?vl25) rfl (by kernel_rfl) (by kernel_rfl) (by kernel_rfl) (fun _ _ _ h => h) (Or.inl ⟨by rfl, ?yl25⟩) (by assumption) ?rl25
                      case yl25 => (intro w hSw; (try dsimp only at hSw); go_simp; try with_reducible rfl)
                      try simp only [Act.put, List.setIfInBounds_toArray, List.set_cons_zero, List.set_cons_succ]
                      refine wpAnyH_take (i := 25) (oi := ⟨some 291, _, _, _, _, _⟩) (v := ?vl26) rfl (by kernel_rfl) (by kernel_rfl) (by kernel_rfl) (fun _ _ _ h => h) (Or.inl ⟨by rfl, ?yl26⟩) (by assumption) ?rl26
                      case yl26 => (intro w hSw; (try dsimp only at hSw); go_simp; try with_reducible rfl)
                      try simp only [Act.put, List.setIfInBounds_toArray, List.set_cons_zero, List.set_cons_succ]
                      refine wpAnyH_take (i := 26) (oi := ⟨some 292, _, _, _, _, _⟩) (v := ?vl27) rfl (by kernel_rfl) (by kernel_rfl) (by kernel_rfl) (fun _ _ _ h => h) (Or.inl ⟨by rfl, ?yl27⟩) (by assumption) ?rl27
                      case yl27 => (intro w hSw; (try dsimp only at hSw); go_simp; try with_reducible rfl)
                      try simp only [Act.put, List.setIfInBounds_toArray, List.set_cons_zero, List.set_cons_succ]
                      refine wpAnyH_done (by kernel_rfl) ?_ _
                      go_wp2_with fail
                      go_roundw
                      case rel => exact ⟨n + 1, hlt, by go_num, U8.out.drew⟩
                      case measure => simp [intOf]; omega
                    | false =>
                      obtain rfl : r = 5 := hr
                      have H8 : Hid ((fun W => Up Nul w6 W ∧ W.cell? ⟨m, n, none⟩ = some (.pointer (some ⟨qm n, 0, none⟩)) ∧ W.cell? ⟨qm n, 2, none⟩ = some (.bool false)) w8.drew) := ⟨U8.out.drew, (tq_heads (HX6.out.nxt U8.out.drew) _ (Tp.id _ _)).1 n hlt, HLK.out.c2 _ U8.out.drew⟩
                      go_upto_region 58 with fail
                      refine wp_region_held_drew (S := (fun W => Up Nul w6 W ∧ W.cell? ⟨m, n, none⟩ = some (.pointer (some ⟨qm n, 0, none⟩)) ∧ W.cell? ⟨qm n, 2, none⟩ = some (.bool false))) (by kernel_rfl) (by exact H8.out) (fun hHeld => ?_)
                      refine wpAnyH_take (i := 0) (oi := ⟨some 266, _, _, _, _, _⟩) (v := ?vf1) rfl (by kernel_rfl) (by kernel_rfl) (by kernel_rfl) (fun _ _ _ h => h) (Or.inl ⟨by rfl, ?yf1⟩) (by assumption) ?rf1
                      case yf1 => (intro w hSw; (try dsimp only at hSw); go_simp; try with_reducible rfl)
                      try simp only [Act.put, List.setIfInBounds_toArray, List.set_cons_zero, List.set_cons_succ]
                      refine wpAnyH_take (i := 1) (oi := ⟨some 267, _, _, _, _, _⟩) (v := ?vf2) rfl (by kernel_rfl) (by kernel_rfl) (by kernel_rfl) (fun _ _ _ h => h) (Or.inl ⟨by rfl, ?yf2⟩) (by assumption) ?rf2
                      case yf2 => (intro w hSw; (try dsimp only at hSw); go_simp; try with_reducible rfl)
                      try simp only [Act.put, List.setIfInBounds_toArray, List.set_cons_zero, List.set_cons_succ]
                      refine wpAnyH_take (i := 2) (oi := ⟨some 268, _, _, _, _, _⟩) (v := ?vf3) rfl (by kernel_rfl) (by kernel_rfl) (by kernel_rfl) (fun _ _ _ h => h) (Or.inl ⟨by rfl, ?yf3⟩) (by assumption) ?rf3
                      case yf3 => (intro w hSw; (try dsimp only at hSw); go_simp; try with_reducible rfl)
                      try simp only [Act.put, List.setIfInBounds_toArray, List.set_cons_zero, List.set_cons_succ]
                      refine wpAnyH_take (i := 3) (oi := ⟨some 269, _, _, _, _, _⟩) (v := ?vf4) rfl (by kernel_rfl) (by kernel_rfl) (by kernel_rfl) (fun _ _ _ h => h) (Or.inl ⟨by rfl, ?yf4⟩) (by assumption) ?rf4
                      case yf4 => (intro w hSw; (try dsimp only at hSw); go_simp; try with_reducible rfl)
                      try simp only [Act.put, List.setIfInBounds_toArray, List.set_cons_zero, List.set_cons_succ]
                      refine wpAnyH_take (i := 4) (oi := ⟨some 270, _, _, _, _, _⟩) (v := ?vf5) rfl (by kernel_rfl) (by kernel_rfl) (by kernel_rfl) (fun _ _ _ h => h) (Or.inl ⟨by rfl, ?yf5⟩) (by assumption) ?rf5
                      case yf5 => (intro w hSw; (try dsimp only at hSw); go_simp; try with_reducible rfl)
                      try simp only [Act.put, List.setIfInBounds_toArray, List.set_cons_zero, List.set_cons_succ]
                      refine wpAnyH_take (i := 5) (oi := ⟨some 271, _, _, _, _, _⟩) (v := ?vf6) rfl (by kernel_rfl) (by kernel_rfl) (by kernel_rfl) (fun _ _ _ h => h) (Or.inl ⟨by rfl, ?yf6⟩) (by assumption) ?rf6
                      case yf6 => (intro w hSw; (try dsimp only at hSw); go_simp; try with_reducible rfl)
                      try simp only [Act.put, List.setIfInBounds_toArray, List.set_cons_zero, List.set_cons_succ]
                      refine wpAnyH_take (i := 6) (oi := ⟨some 272, _, _, _, _, _⟩) (v := ?vf7) rfl (by kernel_rfl) (by kernel_rfl) (by kernel_rfl) (fun _ _ _ h => h) (Or.inl ⟨by rfl, ?yf7⟩) (by assumption) ?rf7
                      case yf7 => (intro w hSw; (try dsimp only at hSw); go_simp; try with_reducible rfl)
                      try simp only [Act.put, List.setIfInBounds_toArray, List.set_cons_zero, List.set_cons_succ]
                      refine wpAnyH_take (i := 7) (oi := ⟨some 273, _, _, _, _, _⟩) (v := ?vf8) rfl (by kernel_rfl) (by kernel_rfl) (by kernel_rfl) (fun _ _ _ h => h) (Or.inl ⟨by rfl, ?yf8⟩) (by assumption) ?rf8
                      case yf8 => (intro w hSw; (try dsimp only at hSw); go_simp; try with_reducible rfl)
                      try simp only [Act.put, List.setIfInBounds_toArray, List.set_cons_zero, List.set_cons_succ]
                      refine wpAnyH_take (i := 8) (oi := ⟨some 274, _, _, _, _, _⟩) (v := ?vf9) rfl (by kernel_rfl) (by kernel_rfl) (by kernel_rfl) (fun _ _ _ h => h) (Or.inl ⟨by rfl, ?yf9⟩) (by assumption) ?rf9
                      case yf9 => (intro w hSw; (try dsimp only at hSw); go_simp; try with_reducible rfl)
                      try simp only [Act.put, List.setIfInBounds_toArray, List.set_cons_zero, List.set_cons_succ]
                      refine wpAnyH_take (i := 9) (oi := ⟨some 275, _, _, _, _, _⟩) (v := ?vf10) rfl (by kernel_rfl) (by kernel_rfl) (by kernel_rfl) (fun _ _ _ h => h) (Or.inl ⟨by rfl, ?yf10⟩) (by assumption) ?rf10
                      case yf10 => (intro w hSw; (try dsimp only at hSw); go_simp; try with_reducible rfl)
                      try simp only [Act.put, List.setIfInBounds_toArray, List.set_cons_zero, List.set_cons_succ]
                      refine wpAnyH_take (i := 10) (oi := ⟨some 276, _, _, _, _, _⟩) (v := undef) rfl (by kernel_rfl) (by kernel_rfl) (by kernel_rfl) (fun _ _ _ h => h) (Or.inr ⟨by rfl, rfl⟩) (by assumption) ?rf11
                      try simp only [Act.put, List.setIfInBounds_toArray, List.set_cons_zero, List.set_cons_succ]
                      refine wpAnyH_take (i := 11) (oi := ⟨some 277, _, _, _, _, _⟩) (v := undef) rfl (by kernel_rfl) (by kernel_rfl) (by kernel_rfl) (fun _ _ _ h => h) (Or.inr ⟨by rfl, rfl⟩) (by assumption) ?rf12
                      try simp only [Act.put, List.setIfInBounds_toArray, List.set_cons_zero, List.set_cons_succ]
                      refine wpAnyH_take (i := 12) (oi := ⟨some 278, _, _, _, _, _⟩) (v := undef) rfl (by kernel_rfl) (by kernel_rfl) (by kernel_rfl) (fun _ _ _ h => h) (Or.inr ⟨by rfl, rfl⟩) (by assumption) ?rf13
                      try simp only [Act.put, List.setIfInBounds_toArray, List.set_cons_zero, List.set_cons_succ]
                      refine wpAnyH_take (i := 13) (oi := ⟨some 279, _, _, _, _, _⟩) (v := undef) rfl (by kernel_rfl) (by kernel_rfl) (by kernel_rfl) (fun _ _ _ h => h) (Or.inr ⟨by rfl, rfl⟩) (by assumption) ?rf14
                      try simp only [Act.put, List.setIfInBounds_toArray, List.set_cons_zero, List.set_cons_succ]
                      refine wpAnyH_take (i := 14) (oi := ⟨some 280, _, _, _, _, _⟩) (v := undef) rfl (by kernel_rfl) (by kernel_rfl) (by kernel_rfl) (fun _ _ _ h => h) (Or.inr ⟨by rfl, rfl⟩) (by assumption) ?rf15
                      try simp only [Act.put, List.setIfInBounds_toArray, List.set_cons_zero, List.set_cons_succ]
                      refine wpAnyH_take (i := 15) (oi := ⟨some 281, _, _, _, _, _⟩) (v := undef) rfl (by kernel_rfl) (by kernel_rfl) (by kernel_rfl) (fun _ _ _ h => h) (Or.inr ⟨by rfl, rfl⟩) (by assumption) ?rf16
                      try simp only [Act.put, List.setIfInBounds_toArray, List.set_cons_zero, List.set_cons_succ]
                      refine wpAnyH_take (i := 16) (oi := ⟨some 282, _, _, _, _, _⟩) (v := undef) rfl (by kernel_rfl) (by kernel_rfl) (by kernel_rfl) (fun _ _ _ h => h) (Or.inr ⟨by rfl, rfl⟩) (by assumption) ?rf17
                      try simp only [Act.put, List.setIfInBounds_toArray, List.set_cons_zero, List.set_cons_succ]
                      refine wpAnyH_take (i := 17) (oi := ⟨some 283, _, _, _, _, _⟩) (v := undef) rfl (by kernel_rfl) (by kernel_rfl) (by kernel_rfl) (fun _ _ _ h => h) (Or.inr ⟨by rfl, rfl⟩) (by assumption) ?rf18
                      try simp only [Act.put, List.setIfInBounds_toArray, List.set_cons_zero, List.set_cons_succ]
                      refine wpAnyH_take (i := 18) (oi := ⟨some 284, _, _, _, _, _⟩) (v := undef) rfl (by kernel_rfl) (by kernel_rfl) (by kernel_rfl) (fun _ _ _ h => h) (Or.inr ⟨by rfl, rfl⟩) (by assumption) ?rf19
                      try simp only [Act.put, List.setIfInBounds_toArray, List.set_cons_zero, List.set_cons_succ]
                      refine wpAnyH_take (i := 19) (oi := ⟨some 285, _, _, _, _, _⟩) (v := undef) rfl (by kernel_rfl) (by kernel_rfl) (by kernel_rfl) (fun _ _ _ h => h) (Or.inr ⟨by rfl, rfl⟩) (by assumption) ?rf20
                      try simp only [Act.put, List.setIfInBounds_toArray, List.set_cons_zero, List.set_cons_succ]
                      refine wpAnyH_take (i := 20) (oi := ⟨some 286, _, _, _, _, _⟩) (v := undef) rfl (by kernel_rfl) (by kernel_rfl) (by kernel_rfl) (fun _ _ _ h => h) (Or.inr ⟨by rfl, rfl⟩) (by assumption) ?rf21
                      try simp only [Act.put, List.setIfInBounds_toArray, List.set_cons_zero, List.set_cons_succ]
                      refine wpAnyH_take (i := 21) (oi := ⟨some 287, _, _, _, _, _⟩) (v := undef) rfl (by kernel_rfl) (by kernel_rfl) (by kernel_rfl) (fun _ _ _ h => h) (Or.inr ⟨by rfl, rfl⟩) (by assumption) ?rf22
                      try simp only [Act.put, List.setIfInBounds_toArray, List.set_cons_zero, List.set_cons_succ]
                      refine wpAnyH_take (i := 22) (oi := ⟨some 288, _, _, _, _, _⟩) (v := undef) rfl (by kernel_rfl) (by kernel_rfl) (by kernel_rfl) (fun _ _ _ h => h) (Or.inr ⟨by rfl, rfl⟩) (by assumption) ?rf23
                      try simp only [Act.put, List.setIfInBounds_toArray, List.set_cons_zero, List.set_cons_succ]
                      refine wpAnyH_take (i := 23) (oi := ⟨some 289, _, _, _, _, _⟩) (v := undef) rfl (by kernel_rfl) (by kernel_rfl) (by kernel_rfl) (fun _ _ _ h => h) (Or.inr ⟨by rfl, rfl⟩) (by assumption) ?rf24
                      try simp only [Act.put, List.setIfInBounds_toArray, List.set_cons_zero, List.set_cons_succ]
                      refine wpAnyH_take (i := 24) (oi := ⟨some 290, _, _, _, _, _⟩) (v := undef) rfl (by kernel_rfl) (by kernel_rfl) (by kernel_rfl) (fun _ _ _ h => h) (Or.inr ⟨by rfl, rfl⟩) (by assumption) ?rf25
                      try simp only [Act.put, List.setIfInBounds_toArray, List.set_cons_zero, List.set_cons_succ]
                      refine wpAnyH_take (i := 25) (oi := ⟨some 291, _, _, _, _, _⟩) (v := undef) rfl (by kernel_rfl) (by kernel_rfl) (by kernel_rfl) (fun _ _ _ h => h) (Or.inr ⟨by rfl, rfl⟩) (by assumption) ?rf26
                      try simp only [Act.put, List.setIfInBounds_toArray, List.set_cons_zero, List.set_cons_succ]
                      refine wpAnyH_take (i := 26) (oi := ⟨some 292, _, _, _, _, _⟩) (v := ?vf27) rfl (by kernel_rfl) (by kernel_rfl) (by kernel_rfl) (fun _ _ _ h => h) (Or.inl ⟨by rfl, ?yf27⟩) (by assumption) ?rf27
                      case yf27 => (intro w hSw; (try dsimp only at hSw); go_simp; try with_reducible rfl)
                      try simp only [Act.put, List.setIfInBounds_toArray, List.set_cons_zero, List.set_cons_succ]
                      refine wpAnyH_done (by kernel_rfl) ?_ _
                      go_wp2_with fail
                      go_roundw
                      case rel => exact ⟨n + 1, hlt, by go_num, U8.out.drew⟩
                      case measure => simp [intOf]; omega
                  · obtain rfl : n = 3 := by omega
                    go_wp2_with fail
                    go_roundw
                    case rel => exact ⟨j + 1, _, _, h60, hlj, by go_num, rfl, rfl, (HX6.out.nxt UR.out).less fun x hx => hx.elim⟩
                    case measure => simp [intOf]; omega
        · obtain rfl : j = 50 := by omega
          as_aux_lemma =>
            go_wp2_with fail
            go_ret
            exact ⟨rfl, HP.out.up.below (Nat.le_refl _) fun _ _ => id⟩
      · obtain rfl : j = l1 := by omega
        as_aux_lemma =>
          go_wp2_with fail
          go_ret
          exact ⟨rfl, HP.out.up.below (Nat.le_refl _) fun _ _ => id⟩
end Go.Proofs.Ytencinajieicpaa
