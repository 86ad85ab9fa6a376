/- The law TapeBegins, walked, whatever the program's Tape is. -/
import Derived.Test.YtgncdikikcifpaaTpArg
import Derived.Deep.CutBlock
import Derived.Deep.DeepCutAuto
namespace Go.Proofs.Ytgncdikikcifpaa
open Go.RowKit
set_option linter.unusedVariables false

theorem wrap64_small (n : Nat) (h : n ≤ 4000) : wrap64 (n : Int) = (n : Int) := by unfold wrap64; omega
set_option maxRecDepth 100000 in
set_option maxHeartbeats 3200000 in
theorem tbegins_walk (O : TapeOps) (a0 : Option Addr) (l0 c0 : Nat) (F : Nat → TOp) (a1 : Int) (w : World) (w0 : CameT w a0 l0 F) :
    Calls Try.prog 6 #[.slice a0 l0 c0, .int .i64 a1] w fun e w' => e = .returned (.bool true) ∧ Below w.heap.size w w' := by
  have HF := hid w0
  have l2 : (l0 : Int) ≤ 9223372036854775807 := by have := w0.2; omega
  clear w0
  go_enter Try.func6, Try.ntmps6
  go_wp2_with fail
  refine (th_new (fu := none) (k := none) O (Up.refl Nul w) rfl (fun f e => by cases e)).mono ?_
  rintro e w1 ⟨t, rfl, h1, _⟩
  have H1 := hid h1
  clear h1
  go_wp2_with fail
  go_loopw [6, 7, 8] (fun s6 s7 i wr => ∃ j : Nat, j ≤ 40 ∧ j ≤ l0 ∧ i = .int .i64 (j : Nat) ∧ ∃ (A : List Nat) (s : Nat), s6 = .string (strOf A) ∧ s7 = .int .i64 (s : Nat) ∧ A.length ≤ 100 * j ∧ s ≤ A.length ∧ TH O Nul w wr t none none ⟨A, A.length - s, true⟩) (fun _ _ i _ => 40 - (intOf i).toNat)
  case atStart => exact ⟨0, by omega, by omega, rfl, [], 0, rfl, rfl, by simp, by simp, H1.out⟩
  case round =>
    obtain ⟨j, hj, hjl, rfl, A, s, rfl, rfl, hA, hs, hr⟩ := hrel
    have HA := hid (And.intro hA hs)
    have HR := hid hr
    clear hA hs hr H1
    have j0 : (0 : Int) ≤ (j : Int) := by omega
    by_cases hlj : j < l0 ∧ j < 40
    · have j1 : (j : Int) < (l0 : Int) := by omega
      have j2 : (j : Int) < 40 := by omega
      have HJ := hid hlj
      obtain ⟨ob, oo, rfl, hbl, hop⟩ : ∃ gb o, a0 = some ⟨gb, o, none⟩ ∧ gb < w.heap.size ∧ ∀ i, i < l0 → TAt w gb (o + i * 3) (F i) := by
        rcases HF.out.1 with e | e
        · omega
        · exact e
      have hop := hop j hlj.1
      generalize F j = v at hop
      obtain ⟨kd, nn, ba, bl, bc, zs⟩ := v
      have HOP := hid hop
      have HAT := hid fun (W : World) (u : Up Nul w W) => (And.intro ((u.cell (p := ⟨ob, oo + j * 3, none⟩) hbl (fun h => h)).trans hop.c0) ((u.cell (p := ⟨ob, oo + j * 3 + 2, none⟩) hbl (fun h => h)).trans hop.c2))
      obtain ⟨z, hz⟩ := SlN.of hop.wb
      have HZ := hid hz
      have HCP := hid (came_cap hop.wb)
      have HOF := hid (came_off Nul hop.wb)
      obtain ⟨y0, y2⟩ := HAT.out _ HR.out.up
      dsimp only at y0 y2
      clear hop hz hj hjl hlj hbl
      by_cases hb : 100 < bl
      · have i1 : (100 : Int) < (bl : Int) := by omega
        clear hb
        go_wp2_with fail
        refine (tawake_any O _).mono ?_
        rintro e w2 ⟨rfl, k2⟩
        have H2 := hid (HR.out.up.trans k2)
        clear k2
        go_wp2
        go_ret
        exact ⟨rfl, H2.out.below (Nat.le_refl _) fun _ _ h => h⟩
      · have i1 : ¬ (100 : Int) < (bl : Int) := by omega
        have HBL : Hid (bl ≤ 100) := by show _ ≤ _; omega
        have HZL := hid HZ.out.len
        dsimp only at HZL
        obtain ⟨m, hm, hm2⟩ := FrL.i64_mask 1 (by omega) kd
        have hm : bits .and .i64 kd 1 = (m : Int) := hm
        have hm2 : m < 2 := hm2
        clear hb
        by_cases h0 : m = 0
        · have m0 : (m : Int) = 0 := by omega
          subst h0
          have hm : bits .and .i64 kd 1 = 0 := hm
          clear hm2 m0
          go_wp2_with fail
          refine (th_put HR.out bc (HZ.out.nxt HR.out.up) HCP.out (by have := HA.out; have := HBL.out; have := HJ.out; show A.length + bl ≤ 65536; omega) HOF.out rfl).mono ?_
          rintro e w2 ⟨rfl, h2, _⟩
          have HR2 : Hid (TH O Nul w w2 t none none ⟨A ++ z, (A ++ z).length - s, true⟩) := by
            have e1 : A.length - s + bl = (A ++ z).length - s := by rw [List.length_append]; have := HA.out; have := HZL.out; omega
            have h2 : TH O Nul w w2 t none none ⟨A ++ z, A.length - s + bl, true⟩ := h2
            rw [e1] at h2
            exact h2
          have HA2 : Hid ((A ++ z).length ≤ 100 * (j + 1) ∧ s ≤ (A ++ z).length) := by
            show _ ∧ _
            rw [List.length_append]
            have := HA.out; have := HBL.out; have := HZL.out
            omega
          obtain ⟨x0, x2⟩ := HAT.out _ HR2.out.up
          have e5 := (HZ.out.nxt HR2.out.up).conv bc
          have e6 := strOf_append A z
          have e7 : ¬ 9223372036854775807 < (strOf A).size + (strOf z).size := by rw [strOf_size, strOf_size]; have := HA.out; have := HBL.out; have := HZL.out; have := HJ.out; omega
          clear h2 HR y0 y2
          go_wp2_with fail
          go_roundw
          case rel => exact ⟨j + 1, HJ.out.2, HJ.out.1, by go_num, A ++ z, s, rfl, rfl, HA2.out.1, HA2.out.2, HR2.out⟩
          case measure => have := HJ.out; simp [intOf]; omega
        · obtain rfl : m = 1 := by omega
          have hm : bits .and .i64 kd 1 = 1 := hm
          have hsz : ((strOf A).size : Int) = (A.length : Int) := by rw [strOf_size]
          clear h0 hm2
          go_wp2_with fail
          refine (th_sync HR.out).mono ?_
          rintro e w2 (⟨q1, _⟩ | ⟨_, q2, _⟩ | ⟨_, _, rfl, h2, _⟩)
          · cases q1
          · cases q2
          · have HR2 : Hid (TH O Nul w w2 t none none ⟨A, A.length - A.length, true⟩) := by rw [Nat.sub_self]; exact h2
            clear h2 HR y0 y2
            go_wp2_with fail
            go_roundw
            case rel => exact ⟨j + 1, HJ.out.2, HJ.out.1, by go_num, A, A.length, rfl, rfl, by have := HA.out; omega, Nat.le_refl _, HR2.out⟩
            case measure => have := HJ.out; simp [intOf]; omega
    · have HJ40 : Hid (A.length ≤ 4000 ∧ s ≤ A.length) := ⟨by have := HA.out; omega, HA.out.2⟩
      have hsz : ((strOf A).size : Int) = (A.length : Int) := by rw [strOf_size]
      obtain ⟨lo, LO⟩ : ∃ lo, A.length - s = lo := ⟨_, rfl⟩
      have HLO : Hid (lo + s = A.length) := by show _ = _; have := HA.out; omega
      rw [LO] at HR
      have i1 : IntKind.i64.wrap ((A.length : Int) - (s : Int)) = (lo : Int) := by rw [IntWalk.i64_in _ (by have := HJ40.out; omega)]; have := HLO.out; omega
      have i2 : (A.length : Int) - (s : Int) = (lo : Int) := by have := HLO.out; omega
      have hll : ((lo : Int) == (lo : Int)) = true := by simp
      obtain ⟨q, hq, hql⟩ : ∃ q : Nat, min (max a1 0) (lo : Int) = (q : Int) ∧ Hid (min (max a1 0).toNat lo = q) := ⟨min (max a1 0).toNat lo, by omega, rfl⟩
      obtain ⟨n, N⟩ : ∃ n, Hid (s + q = n) := ⟨_, rfl⟩
      have HQ : Hid (q ≤ lo ∧ n ≤ A.length) := by have := hql.out; have := N.out; have := HLO.out; exact ⟨by omega, by omega⟩
      have i3 : IntKind.i64.wrap ((s : Int) + (q : Int)) = (n : Int) := by rw [IntWalk.i64_in _ (by have := HJ40.out; have := HQ.out; omega)]; have := N.out; omega
      have i4 : (s : Int) + (q : Int) = (n : Int) := by have := N.out; omega
      have HCR : Hid (TS.crash ⟨A, lo, true⟩ a1 = ⟨A.take n, 0, true⟩) := by
        show _ = _
        unfold TS.crash
        dsimp only
        have e1 : A.length - lo + min (max a1 0).toNat lo = n := by rw [hql.out]; have := HLO.out; have := N.out; omega
        rw [e1]
      have HE : Hid (∀ {K : Prop}, (¬ (j : Int) < (l0 : Int) → K) → ((j : Int) < (l0 : Int) → ¬ (j : Int) < 40 → K) → K) := fun f g => by
        by_cases e : (j : Int) < (l0 : Int)
        · exact g e (by omega)
        · exact f e
      clear hlj hj hjl LO
      have i5 : wrap64 (lo : Int) = (lo : Int) := wrap64_small lo (by have := HJ40.out.1; have := HLO.out; clear hq i1 i2 i3 i4 hll l2 j0; omega)
      have i6 : wrap64 (n : Int) = (n : Int) := wrap64_small n (by have := HJ40.out.1; have := HQ.out.2; clear hq i1 i2 i3 i4 hll l2 j0; omega)
      refine HE.out (fun g1 => ?_) (fun g1 g2 => ?_)
      all_goals
        go_wp2_with fail
        refine (th_loose HR.out rfl).mono ?_
        rintro e w2 ⟨rfl, h2, _⟩
        have H2 := hid h2
        clear h2 HR
        go_wp2_with fail
        refine (th_crash H2.out a1 rfl).mono ?_
        rintro e w3 ⟨rfl, h3, _⟩
        rw [HCR.out] at h3
        have H3 := hid h3
        clear h3 H2
        go_wp2_with fail
        refine (th_bytes H3.out rfl).mono ?_
        rintro e w4 ⟨xa, xl, xc, rfl, hs, h4, _⟩
        have HS := hid hs
        have H4 := hid h4
        clear hs h4 H3
        have VC := hid fun W (u : Up Nul w4 W) => (HS.out.nxt u).conv xc
        have VS : Hid (∀ W, (Instr.slice 9 (.string (strOf A)) none (some (.int .i64 (n : Int))) none).run Try.prog W = .ok (.string (strOf (A.take n))) W) := by
          intro W
          have h := slice_to (strOf A) n (by rw [strOf_size]; exact HQ.out.2) W
          have e : (strOf A).extract 0 n = strOf (A.take n) := by rw [strOf_extract]; simp
          rw [e] at h
          exact h
        have v7 : ((strOf (A.take n)).toList == (strOf (A.take n)).toList) = true := by simp
        have U4 : Hid (Up Nul w4 w4.drew) := (Up.refl _ _).drew
        go_upto_region 22 with fail
        have v1 := VC.out w4.drew U4.out
        have v2 := VS.out w4.drew
        go_still_tail 11, (by kernel_rfl)
        change wpList _ _ _ _ _ w4.drew
        clear v1 v2 v7
        have UF : Hid (Up Nul w w4.drew) := H4.out.up.trans U4.out
        generalize w4.drew = w5 at UF ⊢
        go_wp2_with fail
        refine (tawake_any O _).mono ?_
        rintro e w6 ⟨rfl, k6⟩
        have H6 := hid (UF.out.trans k6)
        clear k6
        go_wp2
        go_ret
        exact ⟨rfl, H6.out.below (Nat.le_refl _) fun _ _ h => h⟩
end Go.Proofs.Ytgncdikikcifpaa
