/- The document's 'Decode' where it answers. -/
import Derived.Test.YtkenfabnbmkhbaaGreatDecParts
import Derived.Deep.RegionLaw
namespace Go.Proofs.YtkenfabnbmkhbaaGreat
open Go.RowKit
set_option linter.unusedVariables false

def DecE (k r L : Nat) (Z : List Nat) (S : Nat → Option (List Nat)) (M : GfM.Mx) (n : Nat) (w : World) (e : Ending) (w' : World) : Prop :=
  ∃ v, e = .returned (.tuple #[v, .int .i64 0]) ∧ OwnV 9 w.heap.size w' v (strV n (decZ k r L Z S M)) ∧ Up Nul w w'
set_option maxRecDepth 100000 in
set_option maxHeartbeats 12800000 in
theorem refDec_good (FS : List Nat) (w0 w : World) (g cap gx cx gy cy k r n L : Nat) (X Y : List Nat) (S : Nat → Option (List Nat)) (M : GfM.Mx) (hs : LS w0 FS w) (rX : LR FS w gx 0 X) (rY : LR FS w gy 0 Y) (lX : X.length = k) (lY : Y.length = r)
    (hS : Two w g n S) (hn : n = k + r) (k1 : 1 ≤ k) (k14 : k ≤ 14) (r1 : 1 ≤ r) (r4 : r ≤ 4) (hf : Fine S n L) (hL : L ≤ 64) (sS : ∀ t z, S t = some z → ∀ u, z.getD u 0 < 256) (hl : ∀ i z, S i = some z → z.length ≤ 1000) (hT : k ≤ (Tl S n).length)
    (hM : GfM.run k (GfM.beside k (cz k (pickZ k k (unitZ k ++ coefZ k r X Y) fun i => (Tl S n).getD i 0))) k = some M) :
    Calls Tryz.prog 14 #[.agg #[.slice (some ⟨gx, 0, none⟩) k cx, .slice (some ⟨gy, 0, none⟩) r cy], .slice (some ⟨g, 0, none⟩) n cap] w
      (DecE k r L (coefZ k r X Y) S M n w) := by
  have c0 : (w.alloc (.cells #[.slice (some ⟨gx, 0, none⟩) k cx, .slice (some ⟨gy, 0, none⟩) r cy] 26)).cell? ⟨w.heap.size, 0, none⟩ = some (.slice (some ⟨gx, 0, none⟩) k cx) := World.cell?_alloc_new w _ _ 0
  have c1 : (w.alloc (.cells #[.slice (some ⟨gx, 0, none⟩) k cx, .slice (some ⟨gy, 0, none⟩) r cy] 26)).cell? ⟨w.heap.size, 1, none⟩ = some (.slice (some ⟨gy, 0, none⟩) r cy) := World.cell?_alloc_new w _ _ 1
  have U := (Up.refl Nul w).alloc (.cells #[.slice (some ⟨gx, 0, none⟩) k cx, .slice (some ⟨gy, 0, none⟩) r cy] 26)
  have HV : Hid (w.heap.size < (w.alloc (.cells #[.slice (some ⟨gx, 0, none⟩) k cx, .slice (some ⟨gy, 0, none⟩) r cy] 26)).heap.size) := by show _ < _; simp
  have HC := hid (And.intro c0 c1)
  have HS := hid (And.intro (hS.up U) (And.intro hl U))
  have HQ := hid (And.intro hs (And.intro (And.intro rX rY) (And.intro lX lY)))
  have HF := hid (And.intro hf (And.intro sS hM))
  have HN := hid hn
  have hnn : ((k : Int) + (r : Int)) = (n : Int) := by omega
  have hn60 : n ≤ 18 := by omega
  clear hS hl U hn hs rX rY lX lY hf sS hM
  go_enter Tryz.func14, Tryz.ntmps14
  go_wp2_with fail
  generalize w.alloc (.cells #[.slice (some ⟨gx, 0, none⟩) k cx, .slice (some ⟨gy, 0, none⟩) r cy] 26) = W0 at *
  obtain ⟨V, HVV⟩ : ∃ q, Hid (w.heap.size = q) := ⟨_, rfl⟩
  rw [HVV.out] at HV HC
  try rw [HVV.out]
  clear c0 c1
  go_loopw [7, 8] (fun v i wr => ∃ t : Nat, t ≤ n ∧ i = .int .i64 t ∧ v = .int .i64 ((Tl S t).length : Nat) ∧ Up Nul W0 wr) (fun _ i _ => n - (intOf i).toNat)
  case atStart => exact ⟨0, by omega, rfl, rfl, Up.refl _ _⟩
  case round =>
    obtain ⟨t, ht, rfl, rfl, hu⟩ := hrel
    have HU := hid hu
    clear hu
    by_cases hlt : t < n
    · have i0 : (0 : Int) ≤ (t : Int) := by omega
      have i1 : (t : Int) < (n : Int) := by omega
      have hi := (HS.out.1.up HU.out).is t hlt
      have htl := Tl_len S t
      rcases hz : S t with _ | z
      · rw [hz] at hi
        simp only [Option.isSome_none] at hi
        have HT := hid (Tl_none hz)
        clear hz
        go_wp2
        go_roundw
        case rel => exact ⟨t + 1, by omega, by go_num, by rw [HT.out], HU.out⟩
        case measure => simp [intOf]; omega
      · rw [hz] at hi
        simp only [Option.isSome_some] at hi
        have HT := hid (Tl_some hz)
        clear hz
        go_wp2
        go_roundw
        case rel => exact ⟨t + 1, by omega, by go_num, by rw [HT.out, List.length_append]; go_num, HU.out⟩
        case measure => simp [intOf]; omega
    · obtain rfl : n = t := by omega
      have HL := hid (refLen_any g n cap S wr (HS.out.1.up HU.out) (by omega) HS.out.2.1)
      have htl := Tl_len S n
      have hpos : 0 < (Tl S n).length := by omega
      have HSE : Hid (seen S n = L) := seen_len HF.out.1 hpos
      have HNO := hid (fine_not_odd HF.out.1 hL)
      go_wp2_with fail
      refine HL.out.mono ?_
      rintro e w1 ⟨m, ok, rfl, u1, hp⟩
      obtain ⟨rfl, rfl⟩ : m = (L : Int) ∧ ok = true := by
        rcases hp with ⟨i, hi, h, _⟩ | ⟨_, h2, h3⟩
        · exact absurd h (HNO.out i hi)
        · rw [HSE.out] at h2 h3
          exact ⟨h2, by rw [h3]; simp⟩
      have HU1 := hid (HU.out.trans u1)
      clear u1 HL hp HSE HNO HU
      have hk2 : ¬ (((Tl S n).length : Nat) : Int) < (k : Int) := by omega
      have HTK : Hid (k ≤ (Tl S n).length) := hT
      generalize HTL : (Tl S n).length = T at hk2 hpos
      clear hT htl hpos
      have hdk : decide (T < k) = false := by simp; omega
      go_upto_block 2 with fail
      have HDI := hid (DI.start (k := k) HU1.out)
      obtain ⟨P, PP⟩ : ∃ q, Hid (w1.heap.size = q) := ⟨_, rfl⟩
      rw [PP.out] at HDI
      try rw [PP.out]
      generalize w1.alloc (.cells #[.int .i64 k, .int .i64 k, .slice none 0 0] 100) = w2 at *
      obtain ⟨f, HFF⟩ : ∃ f : Nat → Nat, Hid ((fun i => (Tl S n).getD i 0) = f) := ⟨_, rfl⟩
      obtain ⟨K2, HK2⟩ : ∃ q, Hid (k * k = q) := ⟨_, rfl⟩
      have hk196 : K2 ≤ 196 := by rw [← HK2.out]; exact Nat.mul_le_mul k14 k14
      have hkk : (k : Int) * (k : Int) = (K2 : Int) := by rw [← Int.natCast_mul, HK2.out]
      clear HU1
      go_cut [12] (fun s12 wx => ∃ vm, DI W0 P k (pickZ k k (stk k r X Y) f) (strV k (fromZ S n)) vm s12 wx)
      case first =>
        as_aux_lemma =>
          go_wp2_with fail
          go_loopw [12, 13] (fun v i wx => ∃ (t : Nat) (vm : Value), t ≤ n ∧ i = .int .i64 t ∧ (Tl S t).length ≤ k ∧ DI W0 P k (pickZ (Tl S t).length k (stk k r X Y) f) (strV (Tl S t).length (fromZ S n)) vm v wx) (fun _ i _ => n - (intOf i).toNat)
          case atStart => exact ⟨0, _, by omega, rfl, Nat.zero_le _, by show DI W0 P k (pickZ 0 k _ f) _ _ _ _; rw [pickZ_none]; exact HDI.out⟩
          case round =>
            clear HDI
            obtain ⟨t, vm, ht, rfl, hJ, hd⟩ := hrel
            have HD := hid hd
            clear hd
            obtain ⟨J, HJ⟩ : ∃ q, Hid ((Tl S t).length = q) := ⟨_, rfl⟩
            rw [HJ.out] at hJ HD
            have d0 := HD.out.c0
            have d1 := HD.out.c1
            have d2 := HD.out.c2
            obtain ⟨am, cm, EM⟩ : ∃ a c, Hid (vm = .slice a (J * k) c) := by
              obtain ⟨a, c, e⟩ := HD.out.own.shp
              exact ⟨a, c, by show _ = _; rw [e, pickZ_len]⟩
            have em := EM.out
            subst em
            obtain ⟨N1, HN1⟩ : ∃ q, Hid (J * k = q) := ⟨_, rfl⟩
            rw [HN1.out] at d2 HD
            have hN1 : N1 ≤ K2 := by rw [← HN1.out, ← HK2.out]; exact Nat.mul_le_mul_right k hJ
            by_cases hlt : t < n ∧ J < k
            · have h1 := hlt.1
              have h2 := hlt.2
              have hN2 : N1 < K2 := by rw [← HN1.out, ← HK2.out]; exact Nat.mul_lt_mul_of_pos_right h2 k1
              have i0 : (0 : Int) ≤ (t : Int) := by omega
              have i1 : (t : Int) < (n : Int) := by omega
              have i2 : (N1 : Int) < (K2 : Int) := by omega
              have hTw := hid (HS.out.1.up HD.out.up)
              have hi := hTw.out.is t h1
              rcases hz : S t with _ | z
              · rw [hz] at hi
                simp only [Option.isSome_none] at hi
                have HTN : Hid ((Tl S (t + 1)).length = J) := by show _ = _; rw [Tl_none hz]; exact HJ.out
                clear hz hlt
                go_wp2
                go_roundw
                case rel => exact ⟨t + 1, _, by omega, by go_num, by rw [HTN.out]; omega, by rw [HTN.out]; exact HD.out⟩
                case measure => simp [intOf]; omega
              · rw [hz] at hi
                simp only [Option.isSome_some] at hi
                have hb := hTw.out.b t h1
                rw [hz] at hb
                simp only [Option.getD_some] at hb
                have HTN : Hid ((Tl S (t + 1)).length = J + 1) := by show _ = _; rw [Tl_some hz, List.length_append]; simp [HJ.out]
                have HAT : Hid (f J = t) := by show _ = _; rw [← HFF.out, ← HJ.out]; exact (Tl_at hz n h1).1
                have HZ : Hid (fromZ S n J = z) := by show _ = _; unfold fromZ; have := (Tl_at hz n h1).1; rw [HJ.out] at this; rw [this, hz]; rfl
                have HZS := hid hz
                have HNV : Hid (strV (J + 1) (fromZ S n) = strV J (fromZ S n) ++ [.string (strOf z)]) := by show _ = _; rw [strV_next, HZ.out]
                have HL1 : Hid ((strV J (fromZ S n)).length + 1 ≤ 1000000) := by show _ ≤ _; rw [strV_length]; omega
                clear hlt hz
                have HUD : Hid (Up Nul w wr.drew) := (HS.out.2.2.trans HD.out.up).drew
                have htn : t < k + r := by have := HN.out; omega
                have HRW := hid (refRow_any FS w0 wr.drew gx cx gy cy k r X Y (HQ.out.1.nxt (HQ.out.1.nul HUD.out)) (HQ.out.2.1.1.nxt (HQ.out.1.nul HUD.out)) (HQ.out.2.1.2.nxt (HQ.out.1.nul HUD.out)) HQ.out.2.2.1 HQ.out.2.2.2 k1 k14 r4 t htn)
                have HDD : Hid (DI W0 P k (pickZ J k (stk k r X Y) f) (strV J (fromZ S n)) (.slice am N1 cm) u12 wr.drew) := HD.out.nxt (Up.refl _ _).drew
                have HV0 : Hid (∀ W, Up Nul W0 W → W.cell? ⟨V, 0, none⟩ = some (.slice (some ⟨gx, 0, none⟩) k cx) ∧ W.cell? ⟨V, 1, none⟩ = some (.slice (some ⟨gy, 0, none⟩) r cy)) := fun W u => ⟨(u.cell (p := ⟨V, 0, none⟩) HV.out id).trans HC.out.1, (u.cell (p := ⟨V, 1, none⟩) HV.out id).trans HC.out.2⟩
                clear htn
                go_wp2_with fail
                obtain ⟨q0, q1⟩ := HV0.out _ HDD.out.up
                have q2 := HDD.out.c2
                clear d0 d1 d2 hb hi
                go_region_law (first
                  | (refine step_append_bytes (by rfl) (.tmp 88) (.tmp 91) (by rfl) (P + 1) _ (pickZ J k (stk k r X Y) f) (by rfl) HD5.out.own q 0 k k y (by rfl) (blk_row HB5.out.1) HB5.out.2.1 (by rw [pickZ_len, HN1.out]; omega) (by have := HD5.out.lt; omega) ?_; intro v6 w6 G1 G2; obtain ⟨a6, n6, c6, rfl⟩ := G1.out.shape2; have HDR := hid (HD5.out.row (by rw [← rows_next k1 (by have := HN.out; omega) HAT.out HB5.out.2.1 HB5.out.2.2] at G1; exact G1.out) G2.out); have q4 : w6.cell? ⟨P, 2, none⟩ = some (.slice am N1 cm) := (by simp only [World.cell?, HDR.out.1]; rfl); have q5 : w6.frozen? ⟨P, 2, none⟩ = false := (by simp [World.frozen?, HDR.out.1]))
                  | (go_simp; go_at_call 36; (with_reducible refine HRW.out.mono ?_); rintro e w5 ⟨q, y, rfl, hb5, hl5, hy5, _, u5⟩; have HB5 := hid (And.intro hb5 (And.intro hl5 hy5)); have HD5 := hid (HDD.out.nxt u5); have q2 := HD5.out.c2; have q3 := HD5.out.fr 2; clear hb5 hl5 hy5 u5))
                all_goals
                  have HD7 := hid HDR.out.2
                  have hb := (HS.out.1.up HD7.out.up).b t h1
                  rw [HZS.out] at hb
                  simp only [Option.getD_some] at hb
                  generalize strOf z = sr at hb HNV
                  generalize w6.setCell ⟨P, 2, none⟩ (.slice a6 n6 c6) = w7 at *
                  clear q0 q1 q2 q3 q4 q5 HB5 HD5 HDR G1 G2
                  go_wp2_with (first
                    | (at_builtin; refine wpList_append_vals Tryz.underlying36 info_str rfl (by omega) rfl (.tmp 94) (.tmp 100) rfl (P + 1) u12 (strV J (fromZ S n)) rfl (OwnV.alloc HD7.out.frm _) ⟨w7.heap.size, 0, none⟩ 1 1 [.string sr] rfl (fun j u hj => by
                        match j, hj with
                        | 0, hj => cases hj; exact World.cell?_alloc_new w7 _ _ 0) (fun u hu => by cases hu with | head => rfl | tail _ h => cases h) rfl HL1.out (by have := HD7.out.lt; simp; omega) ?_; intro v8 w8 G3 G4)
                    | go_in)
                  go_roundw
                  case rel => exact ⟨t + 1, _, by omega, by go_num, by rw [HTN.out]; omega, by rw [HTN.out, HNV.out]; exact HD7.out.str G3.out G4.out⟩
                  case measure => simp [intOf]; omega
            · obtain rfl : J = k := by
                by_cases e : t < n
                · omega
                · have e2 : t = n := by omega
                  have h3 := HJ.out
                  rw [e2, HTL] at h3
                  have := HTK.out
                  omega
              have hNK : N1 = K2 := by rw [← HN1.out, ← HK2.out]
              subst hNK
              have i2 : ¬ (N1 : Int) < (N1 : Int) := by omega
              clear hlt
              go_wp2_with fail
              all_goals
                go_meet
                case rel => exact ⟨_, HD.out⟩
      case rest =>
          clear HDI
          obtain ⟨vm, hd⟩ := hcut
          have HD := hid hd
          clear hd
          have hN0 : 0 < K2 := by rw [← HK2.out]; exact Nat.mul_pos k1 k1
          obtain ⟨gm, cm, rfl, gm1, gm2, rm, _, _⟩ := HD.out.own.row (by rw [pickZ_len, HK2.out]; exact hN0)
          rw [pickZ_len, HK2.out] at HD
          have d0 := HD.out.c0
          have d1 := HD.out.c1
          have d2 := HD.out.c2
          try rw [pickZ_len, HK2.out]
          have HSM : Hid (∀ x ∈ pickZ k k (stk k r X Y) f, x < 256) := fun x hx => HD.out.own.small x hx
          have HIN := hid (refInvert_any k gm K2 cm (pickZ k k (stk k r X Y) f) wc k1 (by omega) rm gm2 HK2.out.symm (by rw [pickZ_len]; exact HK2.out) HSM.out)
          have hTW := hid (HS.out.1.up HD.out.up)
          obtain ⟨gf, cf, eqf, gf1, gf2, cfs, _, _⟩ := OwnV.row HD.out.frm (by rw [strV_length]; omega)
          rw [strV_length] at eqf
          subst eqf
          have HFR : Hid (∀ s, s < k → wc.cell? ⟨gf, s, none⟩ = some (.string (strOf (fromZ S n s)))) := fun s hs => cfs s _ (strV_at hs)
          have HGF : Hid (gf < wc.heap.size) := gf2
          have HUW := hid HD.out.up
          clear rm gm1 gm2 gf1 gf2 cfs
          go_wp2_with fail
          refine HIN.out.mono ?_
          rintro e w3 ⟨u3, ⟨hno, _⟩ | ⟨M', gb, hM', rfl, _, gb2, rgb⟩⟩
          · exfalso
            have := HF.out.2.2
            rw [HFF.out] at this
            rw [show (unitZ k ++ coefZ k r X Y) = stk k r X Y from rfl, hno] at this
            cases this
          obtain rfl : M' = M := by
            have := HF.out.2.2
            rw [HFF.out, show (unitZ k ++ coefZ k r X Y) = stk k r X Y from rfl, hM'] at this
            exact Option.some.inj this
          have HU3 := hid (HUW.out.trans u3)
          have HT3 := hid (hTW.out.up u3)
          have HF3 : Hid (∀ s, s < k → w3.cell? ⟨gf, s, none⟩ = some (.string (strOf (fromZ S n s)))) := fun s hs => (u3.cell (p := ⟨gf, s, none⟩) HGF.out id).trans (HFR.out s hs)
          have HG3 : Hid (gf < w3.heap.size) := Nat.lt_of_lt_of_le HGF.out u3.size
          have HI3 : Hid (Row w3 gb 0 (invZ k M') ∧ gb < w3.heap.size) := ⟨rgb, gb2⟩
          rw [HK2.out]
          clear d0 d1 d2 hM' u3 gb2 rgb HIN hTW HFR HGF HUW HD HSM
          have HTK2 := HTK.out
          have HLF : Hid (∀ s, s < k → (fromZ S n s).length = L) := fun s hs => HF.out.1.len (by rw [HTL]; rw [HTL] at HTK2; omega)
          have HSF : Hid (∀ s u, (fromZ S n s).getD u 0 < 256) := fun s u => by
            unfold fromZ
            rcases e : S ((Tl S n).getD s 0) with _ | y
            · simp
            · exact HF.out.2.1 _ y e u
          clear HTK2
          go_upto_block 4 with fail
          have c2v : (w3.alloc (.cells #[.int .i64 k, .int .i64 k, .slice (some ⟨gb, 0, none⟩) K2 K2] 100)).cell? ⟨w3.heap.size, 2, none⟩ = some (.slice (some ⟨gb, 0, none⟩) K2 K2) := World.cell?_alloc_new w3 _ _ 2
          have HPV : Hid (w3.heap.size < (w3.alloc (.cells #[.int .i64 k, .int .i64 k, .slice (some ⟨gb, 0, none⟩) K2 K2] 100)).heap.size) := by show _ < _; simp
          have HU34 := hid ((Up.refl Nul w3).alloc (.cells #[.int .i64 k, .int .i64 k, .slice (some ⟨gb, 0, none⟩) K2 K2] 100))
          generalize w3.alloc (.cells #[.int .i64 k, .int .i64 k, .slice (some ⟨gb, 0, none⟩) K2 K2] 100) = W4 at *
          obtain ⟨PV, HPE⟩ : ∃ q, Hid (w3.heap.size = q) := ⟨_, rfl⟩
          rw [HPE.out] at c2v HPV
          try rw [HPE.out]
          have HCV := hid c2v
          have HU4 := hid (HU3.out.trans HU34.out)
          have HT4 := hid (HT3.out.up HU34.out)
          have HF4 : Hid (∀ s, s < k → W4.cell? ⟨gf, s, none⟩ = some (.string (strOf (fromZ S n s)))) := fun s hs => (HU34.out.cell (p := ⟨gf, s, none⟩) HG3.out id).trans (HF3.out s hs)
          have HG4 : Hid (gf < W4.heap.size) := Nat.lt_of_lt_of_le HG3.out HU34.out.size
          have HI4 : Hid (Row W4 gb 0 (invZ k M') ∧ gb < W4.heap.size) := ⟨HI3.out.1.up HU34.out HI3.out.2 id, Nat.lt_of_lt_of_le HI3.out.2 HU34.out.size⟩
          clear c2v HU3 HT3 HF3 HG3 HI3 HU34
          go_cut [16] (fun s16 wx => OwnV 9 W4.heap.size wx s16 (strV k (datR k r L S M')) ∧ Up Nul W4 wx)
          case first =>
            as_aux_lemma =>
              go_wp2_with fail
              go_loopw [16, 17] (fun v i wx => ∃ t : Nat, t ≤ k ∧ i = .int .i64 t ∧ OwnV 9 W4.heap.size wx v (strV t (datR k r L S M')) ∧ Up Nul W4 wx) (fun _ i _ => k - (intOf i).toNat)
              case atStart => exact ⟨0, by omega, rfl, OwnV.nil _ _ _, Up.refl _ _⟩
              case round =>
                obtain ⟨t, ht, rfl, ho, hu⟩ := hrel
                have HO := hid (And.intro ho hu)
                clear ho hu
                by_cases hlt : t < k
                · have i1 : (t : Int) < (k : Int) := by omega
                  have i0 : (0 : Int) ≤ (t : Int) := by omega
                  have htn : t < n := by have := HN.out; omega
                  have i3 : (t : Int) < (n : Int) := by omega
                  have hmk := make_bytes wr L (by omega)
                  go_upto_block 6 with fail
                  have HB := hid (And.intro (And.intro (HO.out.1.alloc (.cells (bys (zer L)) 5)) (HO.out.2.alloc (.cells (bys (zer L)) 5))) (Blk.new wr _ (zer_small L)))
                  have HQW : Hid (W4.heap.size ≤ wr.heap.size) := HO.out.2.size
                  clear hmk HO
                  generalize wr.alloc (.cells (bys (zer L)) 5) = wa at *
                  generalize wr.heap.size = q at *
                  go_cut [18] (fun s18 wx => s18 = .slice (some ⟨q, 0, none⟩) L L ∧ (∃ y, Blk wx q y ∧ y.length = L ∧ (S t = none → y = acrZ k L (invZ k M') (fromZ S n) t)) ∧ OwnV 9 W4.heap.size wx u16 (strV t (datR k r L S M')) ∧ Up Nul W4 wx)
                  case first =>
                    as_aux_lemma =>
                      rcases hz : S t with _ | z
                      · have HZS := hid hz
                        have HENC : Hid (∀ y : List Nat, y.length = L → (∀ u, u < L → y.getD u 0 = encP k L (invZ k M') (fromZ S n) t k u) → y = acrZ k L (invZ k M') (fromZ S n) t) := fun y hl hy => eq_tab hl fun u hu => by rw [hy u hu]; rfl
                        clear hz
                        go_wp2_with fail
                        go_loopw [19] (fun i wx => ∃ s : Nat, s ≤ k ∧ i = .int .i64 s ∧ OwnV 9 W4.heap.size wx u16 (strV t (datR k r L S M')) ∧ Up Nul W4 wx ∧ ∃ y, Blk wx q y ∧ y.length = L ∧ ∀ u, u < L → y.getD u 0 = encP k L (invZ k M') (fromZ S n) t s u) (fun i _ => k - (intOf i).toNat)
                        case atStart => exact ⟨0, by omega, rfl, HB.out.1.1, HB.out.1.2, _, HB.out.2, zer_length _, fun u hu => by
                          show (zer L).getD u 0 = 0
                          simp [zer, List.getD_eq_getElem?_getD, hu]⟩
                        case round =>
                          clear HB
                          obtain ⟨s, hsk, rfl, ho, hu, y, hb, hl, hy⟩ := hrel
                          have HB := hid (And.intro (And.intro ho hu) (And.intro hb (And.intro hl hy)))
                          clear ho hu hb hl hy
                          by_cases hlt2 : s < k
                          · have hi := (HT4.out.up HB.out.1.2).is t htn
                            rw [HZS.out] at hi
                            simp only [Option.isSome_none] at hi
                            have i2 : (s : Int) < (k : Int) := by omega
                            have k0 : (0 : Int) ≤ (s : Int) := by omega
                            have cv := (HB.out.1.2.cell (p := ⟨PV, 2, none⟩) HPV.out id).trans HCV.out
                            have lq : t * k + s < K2 := by have := idx_lt hlt hlt2; have := HK2.out; omega
                            have ci := (HI4.out.1.up HB.out.1.2 HI4.out.2 id).cells (t * k + s) (by rw [invZ_length, HK2.out]; exact lq)
                            rw [Nat.zero_add] at ci
                            have v8 : (invZ k M').getD (t * k + s) 0 < 256 := HI4.out.1.small _
                            obtain ⟨v, VV⟩ : ∃ v, Hid ((invZ k M').getD (t * k + s) 0 = v) := ⟨_, rfl⟩
                            rw [VV.out] at ci v8
                            obtain ⟨tk, TK⟩ : ∃ x, Hid (t * k = x) := ⟨_, rfl⟩
                            have eq1 : (t : Int) * (k : Int) = (tk : Int) := by rw [← Int.natCast_mul, TK.out]
                            rw [TK.out] at lq ci
                            have s1 := fun (W : World) (h : Up Nul W4 W) => hid ((h.cell (p := ⟨gf, s, none⟩) HG4.out id).trans (HF4.out s hlt2))
                            have z1 : (strOf (fromZ S n s)).size = L := by rw [strOf_size]; exact HLF.out s hlt2
                            have HNA : Hid (∀ u (h : u < (strOf (fromZ S n s)).size), (strOf (fromZ S n s))[u].toNat = (fromZ S n s).getD u 0) := fun u h => by rw [← nums_at, nums_strOf (HSF.out s)]
                            generalize strOf (fromZ S n s) = str at s1 z1 HNA
                            have HS1 := hid s1
                            clear s1
                            go_wp2_with fail
                            clear hi cv ci lq eq1
                            go_loopw [21] (fun i wx => ∃ d : Nat, d ≤ L ∧ i = .int .i64 d ∧ OwnV 9 W4.heap.size wx u16 (strV t (datR k r L S M')) ∧ Up Nul W4 wx ∧ ∃ y2, Blk wx q y2 ∧ y2.length = L ∧ ∀ u, u < L → y2.getD u 0 = if u < d then encP k L (invZ k M') (fromZ S n) t (s + 1) u else encP k L (invZ k M') (fromZ S n) t s u) (fun i _ => L - (intOf i).toNat)
                            case atStart => exact ⟨0, by omega, rfl, HB.out.1.1, HB.out.1.2, y, HB.out.2.1, HB.out.2.2.1, fun u hu => by rw [if_neg (Nat.not_lt_zero _)]; exact HB.out.2.2.2 u hu⟩
                            case round =>
                              clear HB
                              obtain ⟨d, hd, rfl, ho, hu, y2, hb, hl, hy⟩ := hrel
                              have HB := hid (And.intro (And.intro ho hu) (And.intro hb (And.intro hl hy)))
                              clear ho hu hb hl hy
                              by_cases hlt3 : d < L
                              · have x0 := HB.out.2.1.cell d (by rw [HB.out.2.2.1]; exact hlt3)
                                have f0 := HB.out.2.1.froz d
                                have s1 := (HS1.out _ HB.out.1.2).out
                                have HV1 := hid (HB.out.2.2.2 d hlt3)
                                rw [if_neg (Nat.lt_irrefl _)] at HV1
                                have x8 : y2.getD d 0 < 256 := by rw [HV1.out]; exact GfM.xs_lt fun _ _ => GfM.mul_lt _ _
                                obtain ⟨xx, XX⟩ : ∃ x, Hid (y2.getD d 0 = x) := ⟨_, rfl⟩
                                rw [XX.out] at x0 x8
                                have hlt4 : d < str.size := by omega
                                have q2 := HNA.out d hlt4
                                have p8 := HSF.out s d
                                obtain ⟨p, PPP⟩ : ∃ x, Hid ((fromZ S n s).getD d 0 = x) := ⟨_, rfl⟩
                                rw [PPP.out] at q2 p8
                                obtain ⟨mv, MV⟩ : ∃ x, Hid (GfM.mul v p = x) := ⟨_, rfl⟩
                                have m8 : mv < 256 := by rw [← MV.out]; exact GfM.mul_lt _ _
                                have hxx := u8_xor_nat xx mv x8 m8
                                have HST : Hid (xx ^^^ mv = encP k L (invZ k M') (fromZ S n) t (s + 1) d) := by
                                  show _ = _
                                  have e1 : encP k L (invZ k M') (fromZ S n) t (s + 1) d = encP k L (invZ k M') (fromZ S n) t s d ^^^ GfM.mul ((invZ k M').getD (t * k + s) 0) ((fromZ S n s).getD d 0) := rfl
                                  rw [e1, VV.out, PPP.out, MV.out, ← HV1.out, XX.out]
                                have j1 : (0 : Int) ≤ (d : Int) := by omega
                                have j2 : (d : Int) < (L : Int) := by omega
                                have j3 : (d : Int) < (str.size : Int) := by omega
                                have v9 := v8
                                have hu2 : Up (One q) wr (wr.setCell ⟨q, d, none⟩ (.int .u8 (xx ^^^ mv : Nat))).drew := ((Up.refl _ _).setCell (p := ⟨q, d, none⟩) (.inr (show One q q from rfl)) _).drew
                                have HNX : Hid (OwnV 9 W4.heap.size (wr.setCell ⟨q, d, none⟩ (.int .u8 (xx ^^^ mv : Nat))).drew u16 (strV t (datR k r L S M')) ∧ Up Nul W4 (wr.setCell ⟨q, d, none⟩ (.int .u8 (xx ^^^ mv : Nat))).drew ∧ Blk (wr.setCell ⟨q, d, none⟩ (.int .u8 (xx ^^^ mv : Nat))).drew q (y2.set d (xx ^^^ mv))) :=
                                  ⟨OwnV.apart HB.out.1.1 hu2 (fun g hg e => own_ne2 (by decide) HB.out.1.1 HB.out.2.1 (by rw [hg]; exact congrArg some e)), (HB.out.1.2.setCell (p := ⟨q, d, none⟩) (.inl HQW.out) _).drew, (HB.out.2.1.set d _ (GfM.xor_lt x8 m8)).drew⟩
                                clear hu2
                                go_wp2_with fail
                                have s2 : wr.drew.cell? ⟨gf, s, none⟩ = some (.string str) := s1
                                have HSK : Hid ((wr.drew.setCell ⟨q, d, none⟩ (.int .u8 (xx ^^^ mv : Nat))).cell? ⟨gf, s, none⟩ = some (.string str)) := by
                                  show _ = _
                                  rw [World.cell?_setCell_other _ _ _ _ (by intro e; have := congrArg Addr.block e; have h1 := HG4.out; have h2 := HQW.out; simp at this; omega)]
                                  exact s2
                                have HST2 : Hid (∀ u, u < L → (y2.set d (xx ^^^ mv)).getD u 0 = if u < d + 1 then encP k L (invZ k M') (fromZ S n) t (s + 1) u else encP k L (invZ k M') (fromZ S n) t s u) := fun u hu => by
                                  rw [getD_set _ _ _ _ (by rw [HB.out.2.2.1]; exact hlt3)]
                                  by_cases e : u = d
                                  · rw [if_pos e, if_pos (by omega), e]; exact HST.out
                                  · rw [if_neg e, HB.out.2.2.2 u hu]
                                    by_cases e2 : u < d
                                    · rw [if_pos e2, if_pos (by omega)]
                                    · rw [if_neg e2, if_neg (by omega)]
                                refine wp_region_held_drew (S := (fun w' => w'.cell? ⟨gf, s, none⟩ = some (.string str))) (by kernel_rfl) (by exact s2) (fun hHeld => ?_)
                                refine wpAnyH_take (i := 0) (oi := ⟨some 141, _, _, _, _, _⟩) (v := ?vr1) rfl (by kernel_rfl) (by kernel_rfl) (by kernel_rfl) (fun _ _ _ h => h) (Or.inl ⟨by rfl, ?yr1⟩) (by assumption) ?rr1
                                case yr1 => (intro w hSw; (try dsimp only at hSw); go_simp; try with_reducible rfl)
                                try simp only [Act.put, List.setIfInBounds_toArray, List.set_cons_zero, List.set_cons_succ]
                                refine wpAnyH_take (i := 1) (oi := ⟨some 142, _, _, _, _, _⟩) (v := ?vr2) rfl (by kernel_rfl) (by kernel_rfl) (by kernel_rfl) (fun _ _ _ h => h) (Or.inl ⟨by rfl, ?yr2⟩) (by assumption) ?rr2
                                case yr2 => (intro w hSw; (try dsimp only at hSw); go_simp; try with_reducible rfl)
                                try simp only [Act.put, List.setIfInBounds_toArray, List.set_cons_zero, List.set_cons_succ]
                                refine wpAnyH_take (i := 2) (oi := ⟨some 143, _, _, _, _, _⟩) (v := ?vr3) rfl (by kernel_rfl) (by kernel_rfl) (by kernel_rfl) (fun _ _ _ h => h) (Or.inl ⟨by rfl, ?yr3⟩) (by assumption) ?rr3
                                case yr3 => (intro w hSw; (try dsimp only at hSw); go_simp; try with_reducible rfl)
                                try simp only [Act.put, List.setIfInBounds_toArray, List.set_cons_zero, List.set_cons_succ]
                                refine wpAnyH_take (i := 3) (oi := ⟨some 144, _, _, _, _, _⟩) (v := ?vr4) rfl (by kernel_rfl) (by kernel_rfl) (by kernel_rfl) (fun _ _ _ h => h) (Or.inl ⟨by rfl, ?yr4⟩) (by assumption) ?rr4
                                case yr4 => (intro w hSw; (try dsimp only at hSw); go_simp; try with_reducible rfl)
                                try simp only [Act.put, List.setIfInBounds_toArray, List.set_cons_zero, List.set_cons_succ]
                                refine wpAnyH_take (i := 4) (oi := ⟨some 145, _, _, _, _, _⟩) (v := ?vr5) rfl (by kernel_rfl) (by kernel_rfl) (by kernel_rfl) (fun _ _ _ h => h) (Or.inl ⟨by rfl, ?yr5⟩) (by assumption) ?rr5
                                case yr5 => (intro w hSw; (try dsimp only at hSw); go_simp; try with_reducible rfl)
                                try simp only [Act.put, List.setIfInBounds_toArray, List.set_cons_zero, List.set_cons_succ]
                                refine wpAnyH_take (i := 6) (oi := ⟨some 147, _, _, _, _, _⟩) (v := ?vr6) rfl (by kernel_rfl) (by kernel_rfl) (by kernel_rfl) (fun _ _ _ h => h) (Or.inl ⟨by rfl, ?yr6⟩) (by assumption) ?rr6
                                case yr6 => (intro w hSw; (try dsimp only at hSw); go_simp; try with_reducible rfl)
                                try simp only [Act.put, List.setIfInBounds_toArray, List.set_cons_zero, List.set_cons_succ]
                                refine wpAnyH_take (i := 7) (oi := ⟨some 148, _, _, _, _, _⟩) (v := ?vr7) rfl (by kernel_rfl) (by kernel_rfl) (by kernel_rfl) (fun _ _ _ h => h) (Or.inl ⟨by rfl, ?yr7⟩) (by assumption) ?rr7
                                case yr7 => (intro w hSw; (try dsimp only at hSw); go_simp; try with_reducible rfl)
                                try simp only [Act.put, List.setIfInBounds_toArray, List.set_cons_zero, List.set_cons_succ]
                                refine wpAnyH_take (i := 8) (oi := ⟨some 149, _, _, _, _, _⟩) (v := ?vr8) rfl (by kernel_rfl) (by kernel_rfl) (by kernel_rfl) (fun _ _ _ h => h) (Or.inl ⟨by rfl, ?yr8⟩) (by assumption) ?rr8
                                case yr8 => (intro w hSw; (try dsimp only at hSw); go_simp; try with_reducible rfl)
                                try simp only [Act.put, List.setIfInBounds_toArray, List.set_cons_zero, List.set_cons_succ]
                                refine wpAnyH_take (i := 9) (oi := ⟨some 150, _, _, _, _, _⟩) (v := ?vr9) rfl (by kernel_rfl) (by kernel_rfl) (by kernel_rfl) (fun _ _ _ h => h) (Or.inl ⟨by rfl, ?yr9⟩) (by assumption) ?rr9
                                case yr9 => (intro w hSw; (try dsimp only at hSw); go_simp; try with_reducible rfl)
                                try simp only [Act.put, List.setIfInBounds_toArray, List.set_cons_zero, List.set_cons_succ]
                                refine wpAnyH_take (i := 10) (oi := ⟨some 151, _, _, _, _, _⟩) (v := ?vr10) rfl (by kernel_rfl) (by kernel_rfl) (by kernel_rfl) (fun _ _ _ h => h) (Or.inl ⟨by rfl, ?yr10⟩) (by assumption) ?rr10
                                case yr10 => (intro w hSw; (try dsimp only at hSw); go_simp; try with_reducible rfl)
                                try simp only [Act.put, List.setIfInBounds_toArray, List.set_cons_zero, List.set_cons_succ]
                                refine wpAnyH_take (i := 11) (oi := ⟨some 152, _, _, _, _, _⟩) (v := ?vr11) rfl (by kernel_rfl) (by kernel_rfl) (by kernel_rfl) (fun _ _ _ h => h) (Or.inl ⟨by rfl, ?yr11⟩) (by assumption) ?rr11
                                case yr11 => (intro w hSw; (try dsimp only at hSw); go_simp; try with_reducible rfl)
                                try simp only [Act.put, List.setIfInBounds_toArray, List.set_cons_zero, List.set_cons_succ]
                                refine wpAnyH_take (i := 12) (oi := ⟨some 153, _, _, _, _, _⟩) (v := ?vr12) rfl (by kernel_rfl) (by kernel_rfl) (by kernel_rfl) (fun _ _ _ h => h) (Or.inl ⟨by rfl, ?yr12⟩) (by assumption) ?rr12
                                case yr12 => (intro w hSw; (try dsimp only at hSw); go_simp; try with_reducible rfl)
                                try simp only [Act.put, List.setIfInBounds_toArray, List.set_cons_zero, List.set_cons_succ]
                                refine wpAnyH_ready (rs := [5, 13]) (by kernel_rfl) (by simp) ?_
                                refine (AllReadyH.cons (o := ⟨some 146, _, _, _, _, _⟩) rfl (fun K hK => ?_) (AllReadyH.cons (o := ⟨some 154, _, _, _, _, _⟩) rfl (fun K hK => ?_) AllReadyH.nil))
                                · go_simp
                                  refine hK.out _ _ ?kr13x (fun hHeld => ?_)
                                  case kr13x => exact s2
                                  clear hK K
                                  try simp only [Act.put, List.setIfInBounds_toArray, List.set_cons_zero, List.set_cons_succ]
                                  refine wpAnyH_ready (rs := [13]) (by kernel_rfl) (by simp) ?_
                                  refine (AllReadyH.cons (o := ⟨some 154, _, _, _, _, _⟩) rfl (fun K hK => ?_) AllReadyH.nil)
                                  · go_simp
                                    ((go_at_call 30; (with_reducible refine (refMul_any v p _ v9 p8).mono ?_); rintro e w5 ⟨rfl, rfl⟩; rw [MV.out]))
                                    refine hK.out _ _ ?kr13x1x (fun hHeld => ?_)
                                    case kr13x1x => exact s2
                                    clear hK K
                                    try simp only [Act.put, List.setIfInBounds_toArray, List.set_cons_zero, List.set_cons_succ]
                                    refine wpAnyH_take (i := 14) (oi := ⟨some 155, _, _, _, _, _⟩) (v := ?vr13x1x1) rfl (by kernel_rfl) (by kernel_rfl) (by kernel_rfl) (fun _ _ _ h => h) (Or.inl ⟨by rfl, ?yr13x1x1⟩) (by assumption) ?rr13x1x1
                                    case yr13x1x1 => (intro w hSw; (try dsimp only at hSw); go_simp; try with_reducible rfl)
                                    try simp only [Act.put, List.setIfInBounds_toArray, List.set_cons_zero, List.set_cons_succ]
                                    refine wpAnyH_take (i := 15) (oi := ⟨some 156, _, _, _, _, _⟩) (v := ?vr13x1x2) rfl (by kernel_rfl) (by kernel_rfl) (by kernel_rfl) (fun _ _ _ h => h) (Or.inl ⟨by rfl, ?yr13x1x2⟩) (by assumption) ?rr13x1x2
                                    case yr13x1x2 => (intro w hSw; (try dsimp only at hSw); go_simp; try with_reducible rfl)
                                    try simp only [Act.put, List.setIfInBounds_toArray, List.set_cons_zero, List.set_cons_succ]
                                    refine wpAnyH_ready (rs := [16]) (by kernel_rfl) (by simp) ?_
                                    refine (AllReadyH.cons (o := ⟨none, _, _, _, _, _⟩) rfl (fun K hK => ?_) AllReadyH.nil)
                                    · go_simp
                                      refine hK.out _ _ ?kr13x1x3x (fun hHeld => ?_)
                                      case kr13x1x3x => exact HSK.out
                                      clear hK K
                                      try simp only [Act.put, List.setIfInBounds_toArray, List.set_cons_zero, List.set_cons_succ]
                                      refine wpAnyH_done (by kernel_rfl) ?_ _
                                      go_wp2
                                      go_roundw
                                      case rel => exact ⟨d + 1, by omega, by go_num, HNX.out.1, HNX.out.2.1, y2.set d (xx ^^^ mv), HNX.out.2.2, by rw [List.length_set]; exact HB.out.2.2.1, HST2.out⟩
                                      case measure => simp [intOf]; omega
                                · go_simp
                                  ((go_at_call 30; (with_reducible refine (refMul_any v p _ v9 p8).mono ?_); rintro e w5 ⟨rfl, rfl⟩; rw [MV.out]))
                                  refine hK.out _ _ ?kr13y (fun hHeld => ?_)
                                  case kr13y => exact s2
                                  clear hK K
                                  try simp only [Act.put, List.setIfInBounds_toArray, List.set_cons_zero, List.set_cons_succ]
                                  refine wpAnyH_ready (rs := [5]) (by kernel_rfl) (by simp) ?_
                                  refine (AllReadyH.cons (o := ⟨some 146, _, _, _, _, _⟩) rfl (fun K hK => ?_) AllReadyH.nil)
                                  · go_simp
                                    refine hK.out _ _ ?kr13y1x (fun hHeld => ?_)
                                    case kr13y1x => exact s2
                                    clear hK K
                                    try simp only [Act.put, List.setIfInBounds_toArray, List.set_cons_zero, List.set_cons_succ]
                                    refine wpAnyH_take (i := 14) (oi := ⟨some 155, _, _, _, _, _⟩) (v := ?vr13y1x1) rfl (by kernel_rfl) (by kernel_rfl) (by kernel_rfl) (fun _ _ _ h => h) (Or.inl ⟨by rfl, ?yr13y1x1⟩) (by assumption) ?rr13y1x1
                                    case yr13y1x1 => (intro w hSw; (try dsimp only at hSw); go_simp; try with_reducible rfl)
                                    try simp only [Act.put, List.setIfInBounds_toArray, List.set_cons_zero, List.set_cons_succ]
                                    refine wpAnyH_take (i := 15) (oi := ⟨some 156, _, _, _, _, _⟩) (v := ?vr13y1x2) rfl (by kernel_rfl) (by kernel_rfl) (by kernel_rfl) (fun _ _ _ h => h) (Or.inl ⟨by rfl, ?yr13y1x2⟩) (by assumption) ?rr13y1x2
                                    case yr13y1x2 => (intro w hSw; (try dsimp only at hSw); go_simp; try with_reducible rfl)
                                    try simp only [Act.put, List.setIfInBounds_toArray, List.set_cons_zero, List.set_cons_succ]
                                    refine wpAnyH_ready (rs := [16]) (by kernel_rfl) (by simp) ?_
                                    refine (AllReadyH.cons (o := ⟨none, _, _, _, _, _⟩) rfl (fun K hK => ?_) AllReadyH.nil)
                                    · go_simp
                                      refine hK.out _ _ ?kr13y1x3x (fun hHeld => ?_)
                                      case kr13y1x3x => exact HSK.out
                                      clear hK K
                                      try simp only [Act.put, List.setIfInBounds_toArray, List.set_cons_zero, List.set_cons_succ]
                                      refine wpAnyH_done (by kernel_rfl) ?_ _
                                      go_wp2
                                      go_roundw
                                      case rel => exact ⟨d + 1, by omega, by go_num, HNX.out.1, HNX.out.2.1, y2.set d (xx ^^^ mv), HNX.out.2.2, by rw [List.length_set]; exact HB.out.2.2.1, HST2.out⟩
                                      case measure => simp [intOf]; omega
                              · obtain rfl : L = d := by omega
                                go_wp2
                                go_roundw
                                case rel => exact ⟨s + 1, by omega, by go_num, HB.out.1.1, HB.out.1.2, y2, HB.out.2.1, HB.out.2.2.1, fun u hu => by rw [HB.out.2.2.2 u hu, if_pos hu]⟩
                                case measure => simp [intOf]; omega
                          · obtain rfl : k = s := by omega
                            go_wp2_with fail
                            go_meet
                            case rel => exact ⟨rfl, ⟨y, HB.out.2.1, HB.out.2.2.1, fun _ => HENC.out y HB.out.2.2.1 HB.out.2.2.2⟩, HB.out.1⟩
                      · have hi := (HT4.out.up HB.out.1.2).is t htn
                        rw [hz] at hi
                        simp only [Option.isSome_some] at hi
                        have HZS := hid hz
                        clear hz
                        go_wp2_with fail
                        go_loopw [19] (fun i wx => i = .int .i64 0 ∧ wx = wa) (fun i _ => 0)
                        case atStart => exact ⟨rfl, rfl⟩
                        case round =>
                          obtain ⟨rfl, rfl⟩ := hrel
                          go_wp2_with fail
                          go_meet
                          case rel => exact ⟨rfl, ⟨_, HB.out.2, zer_length _, fun h => by rw [HZS.out] at h; cases h⟩, HB.out.1⟩
                  case rest =>
                    as_aux_lemma =>
                      clear HB
                      obtain ⟨rfl, ⟨y, hb, hl, hy⟩, ho, hu⟩ := hcut
                      have HB := hid (And.intro (And.intro ho hu) (And.intro hb (And.intro hl hy)))
                      clear ho hu hb hl hy
                      have hi := (HT4.out.up HB.out.1.2).is t htn
                      have HL1 : Hid ((strV t (datR k r L S M')).length + 1 ≤ 1000000) := by show _ ≤ _; rw [strV_length]; omega
                      rcases hz : S t with _ | z
                      · rw [hz] at hi
                        simp only [Option.isSome_none] at hi
                        have HDT : Hid (datR k r L S M' t = y) := by show _ = _; unfold datR; rw [hz]; have h := (HB.out.2.2.2 hz).symm; rw [HN.out] at h; exact h
                        have z1 := conv_row (cap := L) (blk_row HB.out.2.1) HB.out.2.2.1
                        have HNV : Hid (strV (t + 1) (datR k r L S M') = strV t (datR k r L S M') ++ [.string (strOf y)]) := by show _ = _; rw [strV_next, HDT.out]
                        generalize strOf y = sr at z1 HNV
                        have HU1 := hid HB.out.1
                        clear HB hz HDT
                        go_wp2_with (first
                          | (at_builtin; refine wpList_append_vals Tryz.underlying36 info_str rfl (by omega) rfl (.tmp 168) (.tmp 171) rfl W4.heap.size u16 _ rfl (OwnV.alloc HU1.out.1 _) ⟨wc.heap.size, 0, none⟩ 1 1 [.string sr] rfl (fun j u hj => by
                              match j, hj with
                              | 0, hj => cases hj; exact World.cell?_alloc_new wc _ _ 0) (fun u hu => by cases hu with | head => rfl | tail _ h => cases h) rfl HL1.out (by have := HU1.out.2.size; simp; omega) ?_; intro v2 w2 G1 G2)
                          | go_in)
                        go_roundw
                        case rel => exact ⟨t + 1, by omega, by go_num, by rw [HNV.out]; exact G1.out, (HU1.out.2.alloc _).grown G2.out fun q hq => OwnV.base HU1.out.1 q hq⟩
                        case measure => simp [intOf]; omega
                      · rw [hz] at hi
                        simp only [Option.isSome_some] at hi
                        have hbb := (HT4.out.up HB.out.1.2).b t htn
                        rw [hz] at hbb
                        simp only [Option.getD_some] at hbb
                        have HDT : Hid (datR k r L S M' t = z) := by show _ = _; unfold datR; rw [hz]
                        have HNV : Hid (strV (t + 1) (datR k r L S M') = strV t (datR k r L S M') ++ [.string (strOf z)]) := by show _ = _; rw [strV_next, HDT.out]
                        have hcv := Lib.run_convert_string_bytes (P := Tryz.prog) wc 9 22 5 (strOf z) Tryz.underlying9 Tryz.underlying22 Tryz.underlying5
                        have hsz : (strOf z).size = L := by rw [strOf_size]; exact HF.out.1 t htn z hz
                        rw [hsz] at hcv
                        have HRW : Hid (Row (Lib.bytesWorld wc 5 (strOf z)) wc.heap.size 0 z) := by
                          have hr := (Trn.start wc (strOf z)).row
                          rwa [nums_strOf (HF.out.2.1 t z hz)] at hr
                        have z1 := conv_row (cap := grownCap wc L 0 5) HRW.out (HF.out.1 t htn z hz)
                        have UC := hid (bytes_below wc 5 (strOf z))
                        have HU1 : Hid (OwnV 9 W4.heap.size (Lib.bytesWorld wc 5 (strOf z)) u16 (strV t (datR k r L S M')) ∧ Up Nul W4 (Lib.bytesWorld wc 5 (strOf z))) := ⟨OwnV.up HB.out.1.1 UC.out fun _ _ _ => id, HB.out.1.2.trans UC.out⟩
                        generalize strOf z = sz at hcv hbb hsz z1 UC HU1 HNV
                        clear HB hz HDT HRW hsz
                        obtain ⟨cc, CC⟩ : ∃ x, Hid (grownCap wc L 0 5 = x) := ⟨_, rfl⟩
                        rw [CC.out] at hcv z1
                        generalize Lib.bytesWorld wc 5 sz = wb at *
                        go_wp2_with (first
                          | (at_builtin; refine wpList_append_vals Tryz.underlying36 info_str rfl (by omega) rfl (.tmp 168) (.tmp 171) rfl W4.heap.size u16 _ rfl (OwnV.alloc HU1.out.1 _) ⟨wb.heap.size, 0, none⟩ 1 1 [.string sz] rfl (fun j u hj => by
                              match j, hj with
                              | 0, hj => cases hj; exact World.cell?_alloc_new wb _ _ 0) (fun u hu => by cases hu with | head => rfl | tail _ h => cases h) rfl HL1.out (by have := HU1.out.2.size; simp; omega) ?_; intro v2 w2 G1 G2)
                          | go_in)
                        go_roundw
                        case rel => exact ⟨t + 1, by omega, by go_num, by rw [HNV.out]; exact G1.out, (HU1.out.2.alloc _).grown G2.out fun q hq => OwnV.base HU1.out.1 q hq⟩
                        case measure => simp [intOf]; omega
                · obtain rfl : k = t := by omega
                  go_wp2_with fail
                  go_meet
                  case rel => exact HO.out
          case rest =>
            as_aux_lemma =>
              obtain ⟨ho, hu⟩ := hcut
              obtain ⟨gd, cd, rfl, gd1, gd2, cds, _, _⟩ := OwnV.row ho (by rw [strV_length]; omega)
              have HD := hid (And.intro ho (And.intro hu (And.intro gd1 gd2)))
              have HDS : Hid (St2 wc gd k (datR k r L S M')) := ⟨fun i hi => cds i _ (strV_at hi), gd2⟩
              have HUW := hid (HS.out.2.2.trans (HU4.out.trans hu))
              have q0 := ((HU4.out.trans hu).cell (p := ⟨V, 0, none⟩) HV.out id).trans HC.out.1
              have q1 := ((HU4.out.trans hu).cell (p := ⟨V, 1, none⟩) HV.out id).trans HC.out.2
              have HEN := hid (refEnc_any FS w0 wc gx cx gy cy gd cd k r L X Y (datR k r L S M') (HQ.out.1.nxt (HQ.out.1.nul HUW.out)) (HQ.out.2.1.1.nxt (HQ.out.1.nul HUW.out)) (HQ.out.2.1.2.nxt (HQ.out.1.nul HUW.out)) HQ.out.2.2.1 HQ.out.2.2.2 k1 k14 r4 HDS.out (fun i hi => datR_len (by have := HF.out.1; rwa [HN.out] at this) hi) (fun i u => datR_small HF.out.2.1 i u) (by omega))
              rw [strV_length] at HD ⊢
              clear ho hu gd1 gd2 cds
              go_wp2_with fail
              refine HEN.out.mono ?_
              rintro e w6 ⟨v6, rfl, ho6, u6⟩
              clear q0 q1 HEN
              obtain ⟨gp, cp, rfl, gp1, gp2, cps, cfr, cpc⟩ := OwnV.row ho6 (by rw [strV_length]; omega)
              have HP6 : Hid (∀ t, t < r → w6.cell? ⟨gp, t, none⟩ = some (.string (strOf (acrZ k L (coefZ k r X Y) (datR k r L S M') t)))) := fun t ht => cps t _ (strV_at ht)
              have HG6 := hid (And.intro gp1 (And.intro gp2 cfr))
              have HU6 := hid u6
              rw [strV_length] at cpc ⊢
              have HCP := hid cpc
              clear ho6 u6 gp1 gp2 cps cfr cpc
              go_wp2_with fail
              go_loopw [23] (fun i wx => ∃ j : Nat, j ≤ r ∧ i = .int .i64 j ∧ (∀ t, t < r → wx.cell? ⟨gp, t, none⟩ = some (.string (strOf (if t < j then parR k r L (coefZ k r X Y) S M' t else acrZ k L (coefZ k r X Y) (datR k r L S M') t)))) ∧ (∀ t, wx.frozen? ⟨gp, t, none⟩ = false) ∧ Up (One gp) w6 wx) (fun i _ => r - (intOf i).toNat)
              case atStart => exact ⟨0, by omega, rfl, fun t ht => by rw [if_neg (Nat.not_lt_zero _)]; exact HP6.out t ht, HG6.out.2.2, Up.refl _ _⟩
              case round =>
                clear HP6
                obtain ⟨j, hj, rfl, hc, hfz, hu⟩ := hrel
                have HR := hid (And.intro hc (And.intro hfz hu))
                clear hc hfz hu
                have HWR : Hid (Up Nul wc wr) := HU6.out.fresh1 HR.out.2.2 HG6.out.1
                by_cases hlt : j < r
                · obtain ⟨kj, hkj⟩ : ∃ x, k + j = x := ⟨_, rfl⟩
                  have ekj : (k : Int) + (j : Int) = (kj : Int) := by omega
                  have hkn : kj < n := by have := HN.out; omega
                  have HKJ := hid hkj
                  have j0 : (0 : Int) ≤ (kj : Int) := by omega
                  have j1 : (kj : Int) < (n : Int) := by omega
                  have j2 : (j : Int) < (r : Int) := by omega
                  have j3 : (0 : Int) ≤ (j : Int) := by omega
                  have HT6 := hid (HT4.out.up (HD.out.2.1.trans HWR.out))
                  have hi := HT6.out.is kj hkn
                  clear hkj
                  rcases hz : S kj with _ | z
                  · rw [hz] at hi
                    simp only [Option.isSome_none] at hi
                    have HPA : Hid (parR k r L (coefZ k r X Y) S M' j = acrZ k L (coefZ k r X Y) (datR k r L S M') j) := by show _ = _; unfold parR; rw [HKJ.out, hz]
                    clear hz
                    go_wp2
                    go_roundw
                    case rel => exact ⟨j + 1, by omega, by go_num, fun t ht => by
                      rw [HR.out.1 t ht]
                      by_cases e : t = j
                      · subst e; rw [if_neg (Nat.lt_irrefl _), if_pos (by omega), HPA.out]
                      · by_cases e2 : t < j
                        · rw [if_pos e2, if_pos (by omega)]
                        · rw [if_neg e2, if_neg (by omega)], HR.out.2.1, HR.out.2.2⟩
                    case measure => simp [intOf]; omega
                  · rw [hz] at hi
                    simp only [Option.isSome_some] at hi
                    have hb := HT6.out.b kj hkn
                    rw [hz] at hb
                    simp only [Option.getD_some] at hb
                    have HPA : Hid (strOf (parR k r L (coefZ k r X Y) S M' j) = strOf z) := by show _ = _; unfold parR; rw [HKJ.out, hz]
                    have p0 := HR.out.1 j hlt
                    have p1 := HR.out.2.1 j
                    rw [if_neg (Nat.lt_irrefl _)] at p0
                    generalize strOf z = sz at hb HPA
                    generalize strOf (acrZ k L (coefZ k r X Y) (datR k r L S M') j) = sp at p0
                    have HP0 := hid p0
                    clear hz
                    go_wp2
                    go_roundw
                    case rel => exact ⟨j + 1, by omega, by go_num, fun t ht => by
                      by_cases e : t = j
                      · subst e
                        rw [World.cell?_setCell_same _ _ _ HP0.out, if_pos (by omega), HPA.out]
                      · rw [World.cell?_setCell_other _ _ _ _ (by intro e2; have := congrArg Addr.off e2; simp at this; omega), HR.out.1 t ht]
                        by_cases e2 : t < j
                        · rw [if_pos e2, if_pos (by omega)]
                        · rw [if_neg e2, if_neg (by omega)], fun t => by rw [World.frozen?_setCell]; exact HR.out.2.1 t, HR.out.2.2.setCell (p := ⟨gp, j, none⟩) (.inr (show One gp gp from rfl)) _⟩
                    case measure => simp [intOf]; omega
                · obtain rfl : r = j := by omega
                  have HOW : Hid (OwnV 9 W4.heap.size wr (.slice (some ⟨gd, 0, none⟩) k cd) (strV k (datR k r L S M'))) := OwnV.up HD.out.1 HWR.out fun _ _ _ => id
                  have HVS : Hid (∀ i u, (strV r (parR k r L (coefZ k r X Y) S M'))[i]? = some u → wr.cell? ((⟨gp, 0, none⟩ : Addr).add i) = some u) := fun i u hiu => by
                    have hi : i < r := by
                      rcases Nat.lt_or_ge i r with h | h
                      · exact h
                      · rw [List.getElem?_eq_none (by rw [strV_length]; exact h)] at hiu; cases hiu
                    rw [strV_at hi] at hiu
                    cases hiu
                    have := HR.out.1 i hi
                    rw [if_pos hi] at this
                    rw [add_zero_at]
                    exact this
                  have HFIN : Hid (strV n (decZ k r L (coefZ k r X Y) S M') = strV k (datR k r L S M') ++ strV r (parR k r L (coefZ k r X Y) S M')) := by
                    show _ = _
                    rw [← strV_two, HN.out]
                    have hff := HF.out.1
                    have hmm := HF.out.2.2
                    rw [HN.out] at hff hmm
                    exact strV_congr fun t ht => dec_ref stack_small hff HF.out.2.1 hmm ht
                  have HBS : Hid (W4.heap.size ≤ wr.heap.size) := Nat.le_trans HD.out.2.1.size HWR.out.size
                  have HBW : Hid (w.heap.size ≤ W4.heap.size) := (HS.out.2.2.trans HU4.out).size
                  have HUE : Hid (Up Nul w wr) := HUW.out.trans HWR.out
                  have HLN : Hid ((strV k (datR k r L S M')).length + r ≤ 1000000) := by show _ ≤ _; rw [strV_length]; omega
                  have HLR : Hid ((strV r (parR k r L (coefZ k r X Y) S M')).length = r) := strV_length _ _
                  clear HR HWR
                  go_wp2_with (first
                    | (at_builtin; refine wpList_append_vals Tryz.underlying36 info_str rfl (by omega) rfl (.tmp 199) (.tmp 200) rfl W4.heap.size _ (strV k (datR k r L S M')) rfl HOW.out ⟨gp, 0, none⟩ r cp (strV r (parR k r L (coefZ k r X Y) S M')) rfl HVS.out (strV_one _ _) HLR.out HLN.out HBS.out ?_; intro v8 w8 G5 G6)
                    | go_in)
                  have HE : Hid (DecE k r L (coefZ k r X Y) S M' n w (.returned (.tuple #[v8, .int .i64 0])) w8) := ⟨v8, rfl, by rw [HFIN.out]; exact OwnV.weak G5.out HBW.out, HUE.out.grown G6.out fun q hq => by have := OwnV.base HOW.out q hq; have := HBW.out; omega⟩
                  go_ret2
                  exact HE.out
end Go.Proofs.YtkenfabnbmkhbaaGreat
