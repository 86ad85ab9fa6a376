/- The law ConvFour, walked. -/
import Derived.Test.YtmaffnadmfphpaaGreatConvFourParts
namespace Go.Proofs.YtmaffnadmfphpaaGreat
open Go.RowKit
set_option linter.unusedVariables false

theorem bit_zero {x t : Nat} (hx : x < 18446744073709551616) : (bits .and .u64 ((x : Int) / 2 ^ t) 1 == 0) = !x.testBit t := by
  have e : (x : Int) / 2 ^ t = ((x / 2 ^ t : Nat) : Int) := by simp
  have hlt : x / 2 ^ t ≤ x := Nat.div_le_self _ _
  rw [e, Nat.testBit_eq_decide_div_mod_eq]
  clear e
  generalize x / 2 ^ t = d at hlt ⊢
  rw [and_one_u64 _ (by omega) (by omega), show ((d : Nat) : Int) % 2 = ((d % 2 : Nat) : Int) by omega]
  have h2 : d % 2 = 0 ∨ d % 2 = 1 := by omega
  rcases h2 with h | h <;> rw [h] <;> rfl
theorem i64_and15 (n : Int) : ∃ k : Nat, bits .and .i64 n 15 = (k : Int) ∧ k < 16 := by
  rw [i64_mask 4 (by omega) n 15 (by decide)]
  exact ⟨(n % 16).toNat, by show n % 16 = _; omega, by omega⟩
theorem St2.nF {w0 w : World} {FS : List Nat} {g n : Nat} {R : Nat → List Nat} (hs : LS w0 FS w) (h : St2 w g n R) (n1 : 0 < n) : g ∉ FS := fun hm => by
  have c := h.cells 0 n1
  rcases hs.fld g hm with h1 | h1
  · rw [h1.done] at c; cases c
  · rw [h1.done] at c; cases c
set_option maxRecDepth 100000 in
set_option maxHeartbeats 6400000 in
theorem four_short (a b : Option Addr) (n cap m capb : Nat) (z : List Nat) (f : Nat → Int) (w : World) (hn : n ≤ 400) (hz : SlN w a n z) (hf : SlI w b m f) :
    Calls Tryz.prog 4 #[.slice a n cap, .slice b m capb] w fun e w' => e = .returned (.bool true) ∧ Below w.heap.size w w' := by
  have HZ := hid (And.intro hz hf)
  have HSD : Hid (∀ i u, (dat 16 z i).getD u 0 < 256) := dat_small fun i => hz.small i
  clear hz hf
  go_enter Tryz.func4, Tryz.ntmps4
  go_wp2_with fail
  refine (gfNewF _).mono ?_
  rintro e w2 ⟨F, rfl, k2⟩
  have H2 := hid ((LS.start w).newF k2)
  have HFM : Hid (F ∈ [F]) := List.mem_cons_self ..
  clear k2
  go_wp2_with fail
  refine (stripesL (L := 16) H2.out HZ.out.1 (by omega) (by omega)).mono ?_
  rintro e w3 ⟨go, co, gs, cs, G, C, rfl, _, _, ss, st, u3⟩
  have n3 := H2.out.nul u3
  have H3 := hid (And.intro (H2.out.nxt n3) (And.intro ss st))
  clear ss st n3 u3
  go_wp2_with fail
  refine (cmergeL [F] w w3 F go co 16 G (fun _ => 0) C (stp 16 z) H3.out.1 HFM.out H3.out.2.1.lt H3.out.2.1.b (fun i hi => H3.out.2.1.cell i hi) (fun i hi => H3.out.2.1.ll i hi) (fun _ _ _ _ => stp_length _ _ _ _) (by omega) (by omega) (fun i hi => by have := H3.out.2.1.cap i hi; omega)).mono ?_
  rintro e w4 ⟨gp, rfl, lp, n4⟩
  have HNF : Hid (gs ∉ [F]) := H3.out.2.2.nF H3.out.1 (by omega)
  have H4 : Hid (LS w [F] w4 ∧ (LL [F] w4 gp 0 4 fun j => some (wst 16 z (14 + j))) ∧ St2 w4 gs 12 (dat 16 z)) := ⟨H3.out.1.nxt n4, lp.congr fun j _ => by rw [merged_wide], ⟨fun i hi => (n4.up.cell (p := ⟨gs, i, none⟩) H3.out.2.2.lt HNF.out).trans (H3.out.2.2.cells i hi), Nat.lt_of_lt_of_le H3.out.2.2.lt n4.up.size⟩⟩
  clear lp n4
  go_wp2_with fail
  refine (wideL H4.out.1 HFM.out).mono ?_
  rintro e w5 ⟨c, pp, pq, sp, sq, rfl, hc, n5⟩
  have H5 : Hid (LS w [F] w5 ∧ CD [F] w5 c F 14 4 pp pq sp sq widZ ∧ (LL [F] w5 gp 0 4 fun j => some (wst 16 z (14 + j))) ∧ St2 w5 gs 12 (dat 16 z)) := ⟨H4.out.1.nxt n5, hc, H4.out.2.1.nxt n5, ⟨fun i hi => (n5.up.cell (p := ⟨gs, i, none⟩) H4.out.2.2.lt HNF.out).trans (H4.out.2.2.cells i hi), Nat.lt_of_lt_of_le H4.out.2.2.lt n5.up.size⟩⟩
  clear hc n5 H4 H3 H2
  obtain ⟨D, HD⟩ : ∃ D, Hid (D = dat 16 z) := ⟨_, rfl⟩
  rw [← HD.out] at H5 HSD
  have HDL : Hid (∀ i, (D i).length = 16) := fun i => by rw [HD.out]; exact dat_length _ _ _
  go_wp2_with fail
  go_loopw [12, 13] (fun v i wr => ∃ k : Nat, k ≤ 12 ∧ i = .int .i64 k ∧ ∃ q c, Wrq w5 k v q c D wr) (fun _ i _ => 12 - (intOf i).toNat)
  case atStart => exact ⟨0, by omega, rfl, id, id, OwnV.nil _ _ _, fun _ h => absurd h (Nat.not_lt_zero _), Up.refl _ _⟩
  case round =>
    obtain ⟨k, hk, rfl, q, cq, hw⟩ := hrel
    have HW := hid hw
    clear hw
    by_cases hlt : k < 12
    · have s0 := (HW.out.up.cell (p := ⟨gs, k, none⟩) H5.out.2.2.2.lt id).trans (H5.out.2.2.2.cells k hlt)
      have hcv := Lib.run_convert_string_bytes (P := Tryz.prog) wr 9 22 5 (strOf (D k)) Tryz.underlying9 Tryz.underlying22 Tryz.underlying5
      have hsz : (strOf (D k)).size = 16 := by rw [strOf_size]; exact HDL.out k
      rw [hsz] at hcv
      obtain ⟨sk, SK⟩ : ∃ x, Hid (strOf (D k) = x) := ⟨_, rfl⟩
      rw [SK.out] at hcv s0 hsz
      have UC := hid ((Up.refl Nul wr).conv 5 sk)
      have HCV := hid (cnv (HSD.out k) SK.out (Up.refl Nul wr) (Up.refl Nul (Lib.bytesWorld wr 5 sk)))
      have i1 : (0 : Int) ≤ (k : Int) := by omega
      have i2 : (k : Int) < 12 := by omega
      have HKL : Hid ((wrV k q cq).length + 1 ≤ 1000000) := by show _ ≤ _; rw [wrV_length]; omega
      go_wp2_with (at_builtin; refine wpList_append_vals Tryz.underlying30 info_sl rfl (by omega) rfl (.tmp 63) (.tmp 69) rfl w5.heap.size u12 (wrV k q cq) rfl (OwnV.alloc (OwnV.apart (S := Nul) HW.out.own UC.out (fun _ _ => id)) _) _ 1 1 [.slice (some ⟨wr.heap.size, 0, none⟩) 16 (grownCap wr 16 0 5)] rfl (alloc_one _ _ _) (one_one rfl) rfl HKL.out (Nat.le_trans HW.out.up.size (UC.out.alloc _).size) ?_; intro v2 w6 G1 G2)
      go_roundw
      case rel => exact ⟨k + 1, by omega, by go_num, _, _, HW.out.next UC.out (Nat.le_refl _) HCV.out.2.1 HCV.out.2.2 G1.out G2.out⟩
      case measure => simp [intOf]; omega
    · obtain rfl : k = 12 := by omega
      obtain ⟨gd, cd, rfl, _, _, _, _, _⟩ := HW.out.own.row (by rw [wrV_length]; omega)
      rw [wrV_length] at HW ⊢
      have hmk : ∀ w : World, (Instr.makeSlice 22 (.int .i64 16) (.int .i64 16)).run Tryz.prog w = .ok (.slice (some ⟨w.heap.size, 0, none⟩) 16 16) (w.alloc (.cells (bys (zer 16)) 5)) := fun w => make_bytes w 16 (by omega)
      have HK2 : Hid ((wrV 12 q cq).length + 2 ≤ 1000000) := by show _ ≤ _; rw [wrV_length]; omega
      have HZ1 := hid (Blk.new wr _ (zer_small 16))
      have HZ2 : Hid (Blk ((wr.alloc (.cells (bys (zer 16)) 5)).alloc (.cells (bys (zer 16)) 5)) (wr.heap.size + 1) (zer 16)) := by
        have h1 := Blk.new (wr.alloc (.cells (bys (zer 16)) 5)) _ (zer_small 16)
        rwa [show (wr.alloc (.cells (bys (zer 16)) 5)).heap.size = wr.heap.size + 1 by simp] at h1
      have HWS : Hid (∀ i, i < 14 → (if i < 12 then D i else zer 16) = wst 16 z i) := fun i hi => by
        unfold wst
        rw [full_low hi, dat14_stp, HD.out]
      have HWL : Hid (∀ i, i < 14 + 4 → (wst 16 z i).length = 16) := fun i _ => full_len fun j _ => by
        rw [dat14_stp]
        split
        · exact dat_length _ _ _
        · exact zer_length _
      have HSZ : Hid (w5.heap.size ≤ wr.heap.size) := HW.out.up.size
      go_upto_region 14 with fail
      go_cut [14] (fun s14 wx => ∃ h c', s14 = .slice (some ⟨h, 0, none⟩) 18 c' ∧ (LL [F] wx h 0 18 fun i => some (wst 16 z i)) ∧ Up Nul w5 wx)
      case first =>
        as_aux_lemma =>
        go_wp2_with fail
        go_region_held3 (fun _ => True) (first | trivial | go_keep)
          ((first
            | (go_at_call 17; (refine (cstoredL [F] w _ g6 0 14 c6 gp 0 4 4 16 (wst 16 z) H6.out.2.1 H6.out.2.2.1 H6.out.2.2.2 HWL.out (by omega) (by omega) (by omega) (by omega) (by omega) (by omega)).mono ?_); rintro e w7 ⟨h7, c7, rfl, l7, u7⟩; have H7 := hid (And.intro l7 (H6.out.1.trans u7)); clear l7 u7)
            | (refine step_append_vals Tryz.underlying30 info_sl rfl (by omega) (by rfl) (.tmp 71) (.tmp 74) (by rfl) w5.heap.size _ (wrV 12 q cq) (by rfl) (OwnV.apart (S := Nul) HW.out.own (by repeat (first | exact Up.refl Nul wr | refine Up.alloc ?_ _ | refine Up.drew ?_)) (fun _ _ => id)) _ 2 _ [_, _] (by rfl) (by first | exact alloc_two3 _ _ _ _ _ _ | exact alloc_two3d _ _ _ _ _ _) (one_two (by rfl) (by rfl)) (by rfl) HK2.out (Nat.le_trans HSZ.out (Up.size (S := Nul) (w := wr) (by repeat (first | exact Up.refl Nul wr | refine Up.alloc ?_ _ | refine Up.drew ?_)))) ?_; intro v2 w6 G1 G2; have MR := hid (Wrq.more H5.out.1 HW.out (by repeat (first | exact Up.refl Nul wr | refine Up.alloc ?_ _ | refine Up.drew ?_)) (fun i _ => HDL.out i) (by first | exact (HZ1.out.alloc _).alloc _ | exact ((HZ1.out.alloc _).alloc _).drew | exact HZ2.out.alloc _ | exact (HZ2.out.alloc _).drew) (by first | exact (HZ1.out.alloc _).alloc _ | exact ((HZ1.out.alloc _).alloc _).drew | exact HZ2.out.alloc _ | exact (HZ2.out.alloc _).drew) (by first | exact HSZ.out | exact Nat.le_succ_of_le HSZ.out) (by first | exact HSZ.out | exact Nat.le_succ_of_le HSZ.out) G1.out G2.out); obtain ⟨⟨g6, c6, rfl, lg⟩, ug⟩ := MR.out; have n6 := H5.out.1.nul ug; have H6 := hid (And.intro ug (And.intro (H5.out.1.nxt n6) (And.intro (lg.congr fun i hi => congrArg some (HWS.out i hi)) (H5.out.2.2.1.nxt n6)))); clear lg ug n6 MR G1 G2)))
        all_goals
          go_wp2_with fail
          go_meet
          case rel => exact ⟨h7, c7, rfl, H7.out⟩
      case rest =>
        as_aux_lemma =>
        obtain ⟨hA, cA, rfl, la, ua⟩ := hcut
        have na := H5.out.1.nul ua
        have H7 : Hid (LS w [F] wc ∧ CD [F] wc c F 14 4 pp pq sp sq widZ ∧ LL [F] wc hA 0 18 fun i => some (wst 16 z i)) := ⟨H5.out.1.nxt na, H5.out.2.1.nxt na, la⟩
        obtain ⟨R, HR⟩ : ∃ R, Hid (R = wst 16 z) := ⟨_, rfl⟩
        have HD14 : Hid ((∀ i, (dat14 16 (stp 16 z) i).length = 16) ∧ ∀ i u, (dat14 16 (stp 16 z) i).getD u 0 < 256) := ⟨fun i => by
          rw [dat14_stp]
          split
          · exact dat_length _ _ _
          · exact zer_length _, fun i u => by
          rw [dat14_stp]
          split
          · rw [← HD.out]; exact HSD.out i u
          · rw [zer_at]; omega⟩
        have HRL : Hid (∀ t, (R t).length = 16) := fun t => by rw [HR.out]; exact full_len fun i _ => HD14.out.1 i
        rw [← HR.out] at H7
        clear la ua na hmk HZ1 HZ2 HK2 HWS HWL HSZ
        go_wp2_with fail
        go_loopw [15, 16, 17] (fun v l i wr => ∃ x q t : Nat, v = .int .u64 x ∧ l = .int .i64 q ∧ i = .int .i64 t ∧ t ≤ 16 ∧ q ≤ 4 ∧ (x < 18446744073709551616 ∧ (Tl (outS x.testBit R) 18).length + q = 18) ∧ wr = wc) (fun _ _ i _ => 16 - (intOf i).toNat)
        case atStart => exact ⟨0, 0, 0, rfl, rfl, rfl, by omega, by omega, ⟨by omega, by rw [outS_zero, Tl_all fun _ _ => rfl, List.length_range]⟩, rfl⟩
        case round =>
          obtain ⟨x, q, t, rfl, rfl, rfl, ht, hq, hT, hwr⟩ := hrel
          have hww := hwr.symm
          subst hww
          have HT : Hid (x < 18446744073709551616 ∧ (Tl (outS x.testBit R) 18).length + q = 18 ∧ q ≤ 4) := ⟨hT.1, hT.2, hq⟩
          clear hT
          by_cases hlt : t < 16
          · by_cases hlq : q < 4
            · have hlt' : (t : Int) < 16 := by omega
              have hlq' : (q : Int) < 4 := by omega
              go_upto_if 93 with fail
              go_cut [18] (fun s18 wx => ∃ u : Nat, s18 = .int .i64 u ∧ u ≤ 15 ∧ wx = wc)
              case first =>
                as_aux_lemma =>
                by_cases hlm : t < m
                · have HF := HZ.out.2.nxt H7.out.1.up
                  obtain ⟨gi, oi, rfl, hgi, hri⟩ : ∃ g o, b = some ⟨g, o, none⟩ ∧ g < wc.heap.size ∧ RowI wc g o m f := by
                    rcases HF.row with e | h
                    · omega
                    · exact h
                  have c1 := hri t hlm
                  obtain ⟨yy, hy, hy16⟩ := i64_and15 (f t)
                  have hm' := HF.le
                  have i1 : (0 : Int) ≤ (t : Int) := by omega
                  have i2 : (t : Int) < (m : Int) := by omega
                  generalize f t = ft at c1 hy
                  clear HF hri
                  go_wp2_with fail
                  go_meet
                  case rel => exact ⟨yy, rfl, by omega, rfl⟩
                · have i2 : ¬ (t : Int) < (m : Int) := by omega
                  go_wp2_with fail
                  go_meet
                  case rel => exact ⟨t, rfl, by omega, rfl⟩
              case rest =>
                as_aux_lemma =>
                obtain ⟨u, rfl, hu15, hwx⟩ := hcut
                subst hwx
                go_upto_if 100 with fail
                go_cut [18] (fun s18 wx => ∃ u' : Nat, s18 = .int .i64 u' ∧ u' < 18 ∧ wx = wc)
                case first =>
                  as_aux_lemma =>
                  by_cases h12 : 12 ≤ u
                  · have i2 : (12 : Int) ≤ (u : Int) := by omega
                    go_wp2_with fail
                    go_meet
                    case rel => exact ⟨u + 2, by go_num, by omega, rfl⟩
                  · have i2 : ¬ (12 : Int) ≤ (u : Int) := by omega
                    go_wp2_with fail
                    go_meet
                    case rel => exact ⟨u, rfl, by omega, rfl⟩
                case rest =>
                  as_aux_lemma =>
                  obtain ⟨i0, rfl, hi0, hwx⟩ := hcut
                  subst hwx
                  have j0 : (0 : Int) ≤ (i0 : Int) := by omega
                  cases hb : x.testBit i0 with
                  | true =>
                    have hb' : (bits .and .u64 ((x : Int) / 2 ^ i0) 1 == 0) = false := by rw [bit_zero HT.out.1, hb]; rfl
                    go_wp2_with fail
                    go_roundw
                    case rel => exact ⟨x, q, t + 1, rfl, rfl, by go_num, by omega, hq, ⟨HT.out.1, HT.out.2.1⟩, trivial⟩
                    case measure => simp [intOf]; omega
                  | false =>
                    have hb' : (bits .and .u64 ((x : Int) / 2 ^ i0) 1 == 0) = true := by rw [bit_zero HT.out.1, hb]; rfl
                    have hS0 : ((outS x.testBit R) i0).isSome = true := by unfold outS; rw [if_neg (by rw [hb]; exact Bool.false_ne_true)]; rfl
                    have hTL := Tl_less hS0 18
                    rw [if_pos hi0] at hTL
                    have hor := or_at HT.out.1 (show i0 < 60 by omega)
                    have hxl := or_lt HT.out.1 (show i0 < 60 by omega)
                    have hp60 : 2 ^ i0 < 2 ^ 60 := Nat.pow_lt_pow_right (by omega) (by omega)
                    have hs0 : (2 : Int) ^ i0 = ((2 ^ i0 : Nat) : Int) := by simp
                    rw [← outS_or (x := x) (q := i0) (R := R)] at hTL
                    obtain ⟨x', X'⟩ : ∃ y : Nat, Hid (x ||| 2 ^ i0 = y) := ⟨_, rfl⟩
                    rw [X'.out] at hor hxl hTL
                    obtain ⟨p, P⟩ : ∃ y : Nat, Hid (2 ^ i0 = y) := ⟨_, rfl⟩
                    rw [P.out] at hor hp60 hs0
                    have hs2 : (p : Int) % 18446744073709551616 = (p : Int) := by omega
                    have hs3 : IntKind.u64.wrap (p : Int) = (p : Int) := by simp [IntKind.wrap, IntKind.bits, IntKind.signed]; omega
                    have HX : Hid (x' < 18446744073709551616 ∧ (Tl (outS x'.testBit R) 18).length + (q + 1) = 18) := ⟨hxl, by have := HT.out.2.1; omega⟩
                    have HS3 := hid (And.intro hs0 (And.intro hs2 (And.intro hs3 hor)))
                    clear hp60 hTL hxl hS0 hs0 hs2 hs3 hor
                    go_upto_region 28 with fail
                    have hs0 := HS3.out.1
                    have hs2 := HS3.out.2.1
                    have hs3 := HS3.out.2.2.1
                    have hor := HS3.out.2.2.2
                    clear hb'
                    go_wp2_with fail
                    go_roundw
                    case rel => exact ⟨x', q + 1, t + 1, rfl, by go_num, by go_num, by omega, by omega, HX.out, trivial⟩
                    case measure => simp [intOf]; omega
            · have hlt' : (t : Int) < 16 := by omega
              have hlq' : ¬ (q : Int) < 4 := by omega
              go_wp2_with fail
              refine (shardsL H7.out.1 H7.out.2.2 (fun i => by rw [HRL.out]; omega) (by omega) (by omega) HT.out.1).mono ?_
              rintro e wA ⟨h10, c10, v10, rfl, l10, _, n10⟩
              have HA := hid (And.intro (H7.out.1.nxt n10) (And.intro (H7.out.2.1.nxt n10) (And.intro (H7.out.2.2.nxt n10) l10)))
              have HK2 : Hid (14 ≤ (Tl (outS x.testBit R) (14 + 4)).length) := by show _ ≤ _; have h1 := HT.out.2.1; have h2 := HT.out.2.2; show 14 ≤ (Tl (outS x.testBit R) 18).length; omega
              have HSR : Hid (∀ t, t < 14 + 4 → ∀ v, outS x.testBit R t = some v → v = full 14 16 widZ (dat14 16 (stp 16 z)) t) := fun t ht v e => by
                unfold outS at e
                split at e
                · cases e
                · cases e
                  rw [HR.out]
                  rfl
              obtain ⟨M, hM⟩ := Tl_regular (k := 14) (r := 4) (X := ris 0 14) (Y := ris 14 4) (outS x.testBit R) (ris_length _ _) (ris_length _ _) (ris_dst (by omega)) (ris_small (by omega)) (ris_small (by omega)) HK2.out
              have hdec : ∀ t, t < 14 + 4 → decZ 14 4 16 widZ (outS x.testBit R) M t = R t := fun t ht => by
                rw [dec_right (D := dat14 16 (stp 16 z)) stack_small (fun i _ => HD14.out.1 i) HD14.out.2 HK2.out HSR.out hM ht, HR.out]
                rfl
              clear n10 l10
              go_wp2_with fail
              refine (decode_good [F] w wA c F 14 4 pp pq sp sq _ h10 0 18 c10 16 _ M HA.out.1 HA.out.2.1 HA.out.2.2.2 rfl (fine_outS HRL.out) (by omega) HK2.out hM).mono ?_
              rintro e wB ⟨gl, cl, bl, rfl, le, lf⟩
              have nB := HA.out.1.one HFM.out le.up lf
              have HB := hid (And.intro (HA.out.1.nxt nB) (And.intro (HA.out.2.2.1.nxt nB) ((le.congr hdec).ll HA.out.1)))
              clear nB le lf hdec hM
              go_wp2_with fail
              refine (stringsL HB.out.1 HB.out.2.2 (by omega) (by omega)).mono ?_
              rintro e wC ⟨gC, cC, rfl, stC, uC⟩
              have nC := HB.out.1.nul uC
              have HC := hid (And.intro (HB.out.1.nxt nC) (And.intro (HB.out.2.1.nxt nC) stC))
              clear nC uC stC
              go_wp2_with fail
              refine (stringsL HC.out.1 HC.out.2.1 (by omega) (by omega)).mono ?_
              rintro e wD ⟨gD, cD, rfl, stD, uD⟩
              have HDD := hid (And.intro (HC.out.1.nxt (HC.out.1.nul uD)) (And.intro (HC.out.2.2.up uD) stD))
              clear uD stD
              go_wp2_with fail
              refine (same_yes _ _ _ _ _ _ _ HDD.out.2.1 HDD.out.2.2 (by omega)).mono ?_
              rintro e wE ⟨rfl, uE⟩
              have HE := hid (HDD.out.1.nxt (HDD.out.1.nul uE))
              clear uE
              go_wp2_with fail
              refine (cawakeL HE.out).mono ?_
              rintro e wG ⟨rfl, nG⟩
              have HG := hid (HE.out.nxt nG)
              clear nG
              go_wp2
              go_ret
              exact ⟨rfl, HG.out.below⟩
          · have hlt' : ¬ (t : Int) < 16 := by omega
            go_wp2_with fail
            refine (shardsL H7.out.1 H7.out.2.2 (fun i => by rw [HRL.out]; omega) (by omega) (by omega) HT.out.1).mono ?_
            rintro e wA ⟨h10, c10, v10, rfl, l10, _, n10⟩
            have HA := hid (And.intro (H7.out.1.nxt n10) (And.intro (H7.out.2.1.nxt n10) (And.intro (H7.out.2.2.nxt n10) l10)))
            have HK2 : Hid (14 ≤ (Tl (outS x.testBit R) (14 + 4)).length) := by show _ ≤ _; have h1 := HT.out.2.1; have h2 := HT.out.2.2; show 14 ≤ (Tl (outS x.testBit R) 18).length; omega
            have HSR : Hid (∀ t, t < 14 + 4 → ∀ v, outS x.testBit R t = some v → v = full 14 16 widZ (dat14 16 (stp 16 z)) t) := fun t ht v e => by
              unfold outS at e
              split at e
              · cases e
              · cases e
                rw [HR.out]
                rfl
            obtain ⟨M, hM⟩ := Tl_regular (k := 14) (r := 4) (X := ris 0 14) (Y := ris 14 4) (outS x.testBit R) (ris_length _ _) (ris_length _ _) (ris_dst (by omega)) (ris_small (by omega)) (ris_small (by omega)) HK2.out
            have hdec : ∀ t, t < 14 + 4 → decZ 14 4 16 widZ (outS x.testBit R) M t = R t := fun t ht => by
              rw [dec_right (D := dat14 16 (stp 16 z)) stack_small (fun i _ => HD14.out.1 i) HD14.out.2 HK2.out HSR.out hM ht, HR.out]
              rfl
            clear n10 l10
            go_wp2_with fail
            refine (decode_good [F] w wA c F 14 4 pp pq sp sq _ h10 0 18 c10 16 _ M HA.out.1 HA.out.2.1 HA.out.2.2.2 rfl (fine_outS HRL.out) (by omega) HK2.out hM).mono ?_
            rintro e wB ⟨gl, cl, bl, rfl, le, lf⟩
            have nB := HA.out.1.one HFM.out le.up lf
            have HB := hid (And.intro (HA.out.1.nxt nB) (And.intro (HA.out.2.2.1.nxt nB) ((le.congr hdec).ll HA.out.1)))
            clear nB le lf hdec hM
            go_wp2_with fail
            refine (stringsL HB.out.1 HB.out.2.2 (by omega) (by omega)).mono ?_
            rintro e wC ⟨gC, cC, rfl, stC, uC⟩
            have nC := HB.out.1.nul uC
            have HC := hid (And.intro (HB.out.1.nxt nC) (And.intro (HB.out.2.1.nxt nC) stC))
            clear nC uC stC
            go_wp2_with fail
            refine (stringsL HC.out.1 HC.out.2.1 (by omega) (by omega)).mono ?_
            rintro e wD ⟨gD, cD, rfl, stD, uD⟩
            have HDD := hid (And.intro (HC.out.1.nxt (HC.out.1.nul uD)) (And.intro (HC.out.2.2.up uD) stD))
            clear uD stD
            go_wp2_with fail
            refine (same_yes _ _ _ _ _ _ _ HDD.out.2.1 HDD.out.2.2 (by omega)).mono ?_
            rintro e wE ⟨rfl, uE⟩
            have HE := hid (HDD.out.1.nxt (HDD.out.1.nul uE))
            clear uE
            go_wp2_with fail
            refine (cawakeL HE.out).mono ?_
            rintro e wG ⟨rfl, nG⟩
            have HG := hid (HE.out.nxt nG)
            clear nG
            go_wp2
            go_ret
            exact ⟨rfl, HG.out.below⟩
theorem four_walk (a0 : Option Addr) (len0 cap0 : Nat) (z0 : List Int) (a1 : Option Addr) (len1 cap1 : Nat) (z1 : List Int) (w : World) (w0 : CameIn w a0 len0 cap0 z0) (w1 : CameI w a1 len1 cap1 z1) :
    Calls Tryz.prog 4 #[.slice a0 len0 cap0, .slice a1 len1 cap1] w fun e w' => e = .returned (.bool true) ∧ Below w.heap.size w w' := by
  by_cases h : 400 < len0
  · exact four_long a0 a1 len0 cap0 len1 cap1 w h
  · obtain ⟨za, hza⟩ := SlN.of w0
    obtain ⟨f, hf⟩ := SlI.of w1
    exact four_short a0 a1 len0 cap0 len1 cap1 za f w (by omega) hza hf
end Go.Proofs.YtmaffnadmfphpaaGreat
