/- The law RackHolds, walked, whatever the program's Rack is. -/
import Derived.Test.YtcejdobmgbielaaRkHoldMath
import Derived.Deep.CutBlock
import Derived.Deep.DeepCutAuto
namespace Go.Proofs.Ytcejdobmgbielaa
open Go.RowKit
set_option linter.unusedVariables false

theorem sm_le {F : Nat → Nat} {b : Nat} (h : ∀ d, F d ≤ b) : ∀ n, sm F n ≤ b * n := by
  intro n
  induction n with
  | zero => exact Nat.zero_le _
  | succ n ih => rw [sm, Nat.mul_succ]; have := h n; omega
set_option maxRecDepth 100000 in
set_option maxHeartbeats 3200000 in
theorem rholds_nat (O : RackOps) (a0 : Option Addr) (l0 c0 : Nat) (f : Nat → Int) (w : World) (hf : SlI w a0 l0 f) :
    Calls Try.prog 3 #[.slice a0 l0 c0] w fun e w' => e = .returned (.bool true) ∧ Below w.heap.size w w' := by
  have HF := hid hf
  have l2 : (l0 : Int) ≤ 9223372036854775807 := by have := hf.le; omega
  clear hf
  go_enter Try.func3, Try.ntmps3
  go_wp2_with fail
  refine (rh_new (n := 9) (m := 6) (fu := none) (k := none) O (Up.refl Nul w) rfl (fun f e => by cases e) (by omega) (by omega) (by omega) (by omega)).mono ?_
  rintro e w1 ⟨r, D, rfl, h1, hD, _⟩
  have H1 : Hid (RH O (fun x => Value.ownBlock (.slice none 0 0) = some x) w w1 r 9 6 none none D 1) := h1.less fun x hx => by cases hx
  have HH1 : Hid (Hld 9 6 [] D 1) := Hld.new hD
  clear h1 hD
  go_upto_block 0 with fail
  go_cut [5] (fun s5 wx => ∃ l D nx, RH O (fun x => s5.ownBlock = some x) w wx r 9 6 none none D nx ∧ OwnL w.heap.size wx s5 l ∧ Hld 9 6 l D nx ∧ l.length ≤ 400)
  case first =>
    as_aux_lemma =>
      go_wp2_with fail
      go_loopw [5, 6] (fun s5 i wr => ∃ j : Nat, j ≤ 15 ∧ j ≤ l0 ∧ i = .int .i64 (j : Nat) ∧ ∃ l D nx, RH O (fun x => s5.ownBlock = some x) w wr r 9 6 none none D nx ∧ OwnL w.heap.size wr s5 l ∧ Hld 9 6 l D nx ∧ l.length ≤ 24 * j) (fun _ i _ => 15 - (intOf i).toNat)
      case atStart => exact ⟨0, by omega, by omega, rfl, [], D, 1, H1.out, OwnL.nil _ _, HH1.out, by simp⟩
      case round =>
        obtain ⟨j, hj, hjl, rfl, l, D, nx, hr, ho, hh, hll⟩ := hrel
        have HR := hid hr
        have HO := hid ho
        have HH := hid hh
        have HLL := hid hll
        clear hr ho hh hll H1 HH1
        obtain ⟨va, vc, rfl⟩ := HO.out.shape
        have j0 : (0 : Int) ≤ (j : Int) := by omega
        by_cases hlj : j < l0
        · have j1 : (j : Int) < (l0 : Int) := by omega
          by_cases h15 : j < 15
          · have j2 : (j : Int) < 15 := by omega
            have HJ := hid (And.intro h15 hlj)
            obtain ⟨lg, lo, rfl, hlg, hcl⟩ : ∃ g o, a0 = some ⟨g, o, none⟩ ∧ g < w.heap.size ∧ ∀ W, Up Nul w W → W.cell? ⟨g, o + j, none⟩ = some (.int .i64 (f j)) := by
              rcases HF.out.row with e | ⟨g, o, e, hg, hc⟩
              · omega
              · exact ⟨g, o, e, hg, fun W u => (u.cell (p := ⟨g, o + j, none⟩) hg (fun h => h)).trans (hc j hlj)⟩
            have y0 := hcl _ HR.out.up
            obtain ⟨mm, hm, hm4⟩ := FrL.i64_mask 2 (by omega) (f j)
            have hm : bits .and .i64 (f j) 3 = (mm : Int) := hm
            have hm4 : mm < 4 := hm4
            obtain ⟨k, K⟩ : ∃ k : Nat, k = mm + 1 := ⟨_, rfl⟩
            have hk : (mm : Int) + 1 = (k : Int) := by omega
            have HK : Hid (1 ≤ k ∧ k ≤ 4) := by show _ ∧ _; omega
            obtain ⟨L, LE⟩ : ∃ L, Hid (l.length = L) := ⟨_, rfl⟩
            have HLI : Hid (L ≤ 360) := by show _ ≤ _; rw [← LE.out]; have := HLL.out; omega
            rw [LE.out] at HO HR ⊢
            clear hcl hlg hj hjl h15 hlj K hm4
            go_wp2_with fail
            refine (rh_place HR.out (k : Nat) (-1) 0 (slInil wr fun _ => 0) (by omega) (by have := HK.out; omega)).mono ?_
            rintro e w3 (⟨_, p, a, c, ht, rfl, hp, h3, u3⟩ | ⟨hno, ⟨b, c, rfl⟩, h3, u3⟩)
            · have HPC := hid ht.plc
              have HP24 := hid (ht.le (by omega))
              have H3 := hid h3
              have HP := hid hp
              have HO3 := hid (HO.out.nxt u3)
              have HPL : Hid (p.length = k) := by have := ht.plc.len; rw [Int.toNat_natCast] at this; exact this
              clear h3 ht hp u3 HR HO
              go_wp2_with fail
              refine (rh_take H3.out c HP.out HPC.out.nodup (fun d hd => ⟨(HPC.out.all d hd).1, (HPC.out.all d hd).2.2.1⟩) (by have := HH.out.nx; rw [LE.out] at this; have := HLI.out; omega)).mono ?_
              rintro e w4 ⟨v, D', rfl, hv, hy, hn, h4, sp, sz⟩
              obtain ⟨xa, xc, rfl⟩ := hv.shape
              have HH4 : Hid (Hld 9 6 (l ++ locs 6 nx D p) D' (nx + p.length)) := HH.out.take HPC.out.nodup (fun d hd => ⟨(HPC.out.all d hd).1, (HPC.out.all d hd).2.2.1⟩) hy hn
              have hlk : (locs 6 nx D p).length = k := by rw [locs_length, HPL.out]
              have HO4 := hid (HO3.out.keep (w' := w4) fun x hx => sp x (.inl hx))
              obtain ⟨xg, rfl⟩ : ∃ xg, xa = some ⟨xg, 0, none⟩ := by
                obtain ⟨g, cap, e, _⟩ := hv.at (s := 0) (by rw [hlk]; have := HK.out; omega)
                injection e with e
                exact ⟨g, e⟩
              have HXC : Hid (∀ i u, (lcV (locs 6 nx D p))[i]? = some u → w4.cell? (Addr.add ⟨xg, 0, none⟩ i) = some u) := hv.cells (g := xg) rfl
              have H4 := hid h4
              obtain ⟨ls, LS⟩ : ∃ ls, Hid (locs 6 nx D p = ls) := ⟨_, rfl⟩
              rw [LS.out] at HH4 HXC hlk H4 ⊢
              have HLS : Hid (0 < ls.length ∧ ls.length ≤ 4 ∧ ls.length = k) := ⟨by rw [hlk]; exact HK.out.1, by rw [hlk]; exact HK.out.2, hlk⟩
              have HSZ : Hid (w.heap.size ≤ w4.heap.size) := h4.up.size
              clear hy hn h4 sp sz hv hlk H3 HP HO3
              go_wp2_with (first
                | (at_builtin; refine wpList_append_lcs rfl (.tmp 57) (.tmp 58) rfl w.heap.size (.slice va L vc) l rfl HO4.out ⟨xg, 0, none⟩ xc ls HLS.out.1 rfl HXC.out (by rw [LE.out]; have := HLI.out; have := HLS.out; omega) HSZ.out ?_; intro v5 w5 H5 K5 W5)
                | fail)
              have HR5 : Hid (RH O (fun x => v5.ownBlock = some x) w w5 r 9 6 none none D' (nx + p.length)) := H4.out.grow K5.out (fun x hx => ⟨.inl (.inl hx), (HO4.out.lt x hx).1⟩) fun x hx => by
                rcases W5.out with e | e
                · exact .inl (.inl (.inl (by rw [← e]; exact hx)))
                · rw [hx] at e
                  injection e with e
                  exact .inr ⟨by omega, (H5.out.lt x hx).2⟩
              have HL5 : Hid ((l ++ ls).length ≤ 24 * (j + 1)) := by show _ ≤ _; rw [List.length_append]; have := HLL.out; have := HLS.out; omega
              clear K5 W5
              go_wp2_with fail
              go_roundw
              case rel => exact ⟨j + 1, HJ.out.1, HJ.out.2, by go_num, l ++ ls, D', _, HR5.out, H5.out, HH4.out, HL5.out⟩
              case measure => have := HJ.out; simp [intOf]; omega
            · have H3 := hid h3
              have HO3 := hid (HO.out.nxt u3)
              clear h3 u3 hno HR HO
              go_wp2_with fail
              go_roundw
              case rel => exact ⟨j + 1, HJ.out.1, HJ.out.2, by go_num, l, D, nx, H3.out, HO3.out, HH.out, by have := HLL.out; omega⟩
              case measure => have := HJ.out; simp [intOf]; omega
          · have j2 : ¬ (j : Int) < 15 := by omega
            have HL4 : Hid (l.length ≤ 400) := by show _ ≤ _; have := HLL.out; omega
            clear h15 hj hjl hlj
            go_wp2_with fail
            go_meet
            case rel => exact ⟨l, D, nx, HR.out, HO.out, HH.out, HL4.out⟩
        · have j1 : ¬ (j : Int) < (l0 : Int) := by omega
          have HL4 : Hid (l.length ≤ 400) := by show _ ≤ _; have := HLL.out; omega
          clear hj hjl hlj
          go_wp2_with fail
          go_meet
          case rel => exact ⟨l, D, nx, HR.out, HO.out, HH.out, HL4.out⟩
  case rest =>
    obtain ⟨l, D2, nx, hr, ho, hh, hll⟩ := hcut
    have HR := hid hr
    have HO := hid ho
    have HH := hid hh
    have HLL := hid hll
    clear hr ho hh hll H1 HH1
    obtain ⟨va, vc, rfl⟩ := HO.out.shape
    obtain ⟨L, LE⟩ : ∃ L, Hid (l.length = L) := ⟨_, rfl⟩
    have HLI : Hid (L ≤ 400) := by show _ ≤ _; rw [← LE.out]; exact HLL.out
    have HNX : Hid (nx = L + 1) := by show _ = _; rw [HH.out.nx, LE.out]
    rw [LE.out] at HO HR ⊢
    rw [HNX.out] at HR
    obtain ⟨N, NE⟩ : ∃ N, Hid (L + 1 = N) := ⟨_, rfl⟩
    rw [NE.out] at HR
    go_wp2_with fail
    refine (rh_next HR.out).mono ?_
    rintro e w3 ⟨rfl, h3, u3⟩
    have H3 := hid h3
    have HO3 := hid (HO.out.nxt u3)
    clear h3 u3 HR HO
    go_wp2_with fail
    refine (rh_reset H3.out 1 (by omega) (by omega)).mono ?_
    rintro e w4 ⟨D4, rfl, hu4, h4, sp4⟩
    have HA4 : Hid (Anew 9 6 l L D4 1) := ⟨fun d hd s hs => by rw [hu4 d hd, ← LE.out, List.drop_length]; rfl, by rw [LE.out, if_pos rfl]⟩
    have H4 := hid h4
    have HO4 := hid (HO3.out.keep (w' := w4) fun x hx => sp4 x hx)
    clear hu4 h4 sp4 H3 HO3
    go_wp2_with fail
    refine (rh_next H4.out).mono ?_
    rintro e w5 ⟨rfl, h5, u5⟩
    have H5 := hid h5
    have HO5 := hid (HO4.out.nxt u5)
    clear h5 u5 H4 HO4
    obtain ⟨z0, hz0, Z0⟩ : ∃ z0 : Int, IntKind.i64.wrap ((L : Int) - 1) = z0 ∧ Hid (z0 = (L : Int) - 1) := ⟨_, IntWalk.i64_in _ (by have := HLI.out; omega), hid rfl⟩
    have hz1 : (L : Int) - 1 = z0 := Z0.out.symm
    have l400 : (L : Int) ≤ 400 := by have := HLI.out; omega
    go_upto_block 2 with fail
    clear hz0 hz1
    go_cut [] (fun wx => ∃ D, RH O (fun x => Value.ownBlock (.slice va L vc) = some x) w wx r 9 6 none none D N ∧ Anew 9 6 l 0 D N)
    case first =>
      as_aux_lemma =>
        go_wp2_with fail
        go_loopw [12] (fun s12 wr => ∃ i : Nat, i ≤ L ∧ ∃ z : Int, s12 = .int .i64 z ∧ z = (i : Int) - 1 ∧ ∃ D nx, RH O (fun x => Value.ownBlock (.slice va L vc) = some x) w wr r 9 6 none none D nx ∧ Anew 9 6 l i D nx ∧ OwnL w.heap.size wr (.slice va L vc) l) (fun s _ => (intOf s + 1).toNat)
        case atStart => exact ⟨L, Nat.le_refl _, z0, rfl, Z0.out, D4, 1, H5.out, HA4.out, HO5.out⟩
        case round =>
          obtain ⟨i, hi, z, rfl, hz, D, nx, hr, ha, ho⟩ := hrel
          have HR := hid hr
          have HA := hid ha
          have HO := hid ho
          clear hr ha ho H5 HA4 HO5
          cases i with
          | zero =>
            have hz2 : ¬ (0 : Int) ≤ z := by omega
            have HE : Hid (nx = N) := by show _ = _; rw [HA.out.last, LE.out, NE.out]
            clear hz hi
            go_wp2_with fail
            go_meet
            case rel =>
              have := HR.out
              rw [HE.out] at this
              have h2 := HA.out
              rw [HE.out] at h2
              exact ⟨D, this, h2⟩
          | succ j =>
            obtain rfl : z = (j : Int) := by omega
            have j0 : (0 : Int) ≤ (j : Int) := by omega
            have j1 : (j : Int) < (L : Int) := by omega
            have HJ : Hid (j < L) := hi
            obtain ⟨z2, hz2, Z2⟩ : ∃ z2 : Int, IntKind.i64.wrap ((j : Int) - 1) = z2 ∧ Hid (z2 = (j : Int) - 1) := ⟨_, IntWalk.i64_in _ (by omega), hid rfl⟩
            have hz3 : (j : Int) - 1 = z2 := Z2.out.symm
            have hjl : j < l.length := by rw [LE.out]; exact hi
            obtain ⟨c, CE⟩ : ∃ c, Hid (l[j] = c) := ⟨l[j], hid rfl⟩
            have HC : Hid (l[j]? = some c) := by show _ = _; rw [List.getElem?_eq_getElem hjl, CE.out]
            have hin := HH.out.inr _ (List.getElem_mem hjl)
            have hid1 := HH.out.id j _ HC.out
            have hfr := HA.out.free HH.out.apart HH.out.inr hjl
            have HA2 := hid (HA.out.hold hjl (by rw [CE.out]; exact hid1))
            have hhe := HA2.out.held HH.out.inr hjl
            rw [CE.out] at hin hfr HA2 hhe
            obtain ⟨d, s, y⟩ := c
            dsimp only at hin hid1 hfr hhe
            dsimp only at HA2
            obtain ⟨lg, rfl⟩ : ∃ lg, va = some ⟨lg, 0, none⟩ := by
              obtain ⟨g, cap, e, _⟩ := HO.out.at hjl
              injection e with e
              exact ⟨g, e⟩
            obtain ⟨x0, x1, x2⟩ := HO.out.rng HC.out
            dsimp only at x0 x1 x2
            have HF1 := hid (And.intro hin (And.intro hfr (And.intro hid1 hhe)))
            clear hz hi hin hfr hid1 hhe CE hjl
            go_wp2_with fail
            refine (rh_hold HR.out (i := d) (j := s) (y := y) HF1.out.1.1 HF1.out.1.2 HF1.out.2.1 (by have := HF1.out.2.2.1; have := HJ.out; have := HLI.out; omega)).mono ?_
            rintro e w6 ⟨rfl, h6, sp6⟩
            have H6 := hid h6
            have HO6 := hid (HO.out.keep (w' := w6) fun x hx => sp6 x hx)
            obtain ⟨y0, y1, y2⟩ := HO6.out.rng HC.out
            dsimp only at y0 y1 y2
            clear h6 sp6
            go_wp2_with fail
            refine (rh_holdBad H6.out (x := (d : Nat)) (y := (s : Nat)) (z := (y : Nat)) (.inr (.inr (.inr (.inr (by rw [Int.toNat_natCast, Int.toNat_natCast]; exact HF1.out.2.2.2)))))).mono ?_
            rintro e w7 ⟨rfl, h7, u7⟩
            have H7 := hid h7
            have HO7 := hid (HO6.out.nxt u7)
            clear h7 u7
            go_wp2_with fail
            go_roundw
            case rel => exact ⟨j, Nat.le_of_lt HJ.out, z2, rfl, Z2.out, _, _, H7.out, HA2.out, HO7.out⟩
            case measure => have := Z2.out; simp [intOf]; omega
    case rest =>
      obtain ⟨D6, hr, ha⟩ := hcut
      have HR := hid hr
      have HA := hid ha
      clear hr ha H5 HA4 HO5 Z0
      have HSM : Hid (sm (fun d => (us (D6 d).U 6).length) 9 = L) := by show _ = _; rw [HA.out.sum HH.out.apart HH.out.inr, LE.out]
      have HLE : Hid (∀ d, (us (D6 d).U 6).length ≤ 6) := fun d => us_length _ 6
      obtain ⟨F, FE⟩ : ∃ F : Nat → Nat, Hid (∀ d, (us (D6 d).U 6).length = F d) := ⟨_, fun _ => rfl⟩
      have HSF : Hid (sm F 9 = L) := by show _ = _; rw [← HSM.out]; exact sm_congr 9 fun d _ => (FE.out d).symm
      have HF6 : Hid (∀ d, F d ≤ 6) := fun d => by rw [← FE.out d]; exact HLE.out d
      clear HSM HLE
      go_upto_block 4 with fail
      go_cut [13] (fun s13 wx => s13 = .int .i64 (L : Nat) ∧ RH O (fun x => Value.ownBlock (.slice va L vc) = some x) w wx r 9 6 none none D6 N)
      case first =>
        as_aux_lemma =>
          go_wp2_with fail
          go_loopw [13, 14] (fun s13 s14 wr => ∃ t : Nat, t ≤ 9 ∧ s14 = .int .i64 (t : Nat) ∧ ∃ b : Nat, s13 = .int .i64 (b : Nat) ∧ b = sm F t ∧ RH O (fun x => Value.ownBlock (.slice va L vc) = some x) w wr r 9 6 none none D6 N) (fun _ i _ => 9 - (intOf i).toNat)
          case atStart => exact ⟨0, by omega, rfl, 0, rfl, rfl, HR.out⟩
          case round =>
            obtain ⟨t, ht, rfl, b, rfl, hb, hr⟩ := hrel
            have HR1 := hid hr
            have HB := hid hb
            have b60 : b ≤ 60 := by rw [hb]; have := sm_le HF6.out t; omega
            clear hr hb HR
            have t0 : (0 : Int) ≤ (t : Int) := by omega
            by_cases hlt : t < 9
            · have t1 : (t : Int) < 9 := by omega
              have HT := hid hlt
              obtain ⟨v, VE⟩ : ∃ v, Hid (F t = v) := ⟨_, rfl⟩
              have v6 : v ≤ 6 := by rw [← VE.out]; exact HF6.out t
              obtain ⟨b2, hb2, B2⟩ : ∃ b2 : Nat, (b : Int) + (v : Int) = (b2 : Int) ∧ Hid (b2 = sm F (t + 1)) := ⟨b + v, by omega, by show _ = _; rw [sm, ← HB.out, VE.out]⟩
              clear hlt ht
              go_wp2_with fail
              refine (rh_bay HR1.out HT.out).mono ?_
              rintro e w6 ⟨rfl, h6, u6⟩
              have H6 := hid h6
              clear h6 u6
              go_wp2_with fail
              refine (rh_used H6.out HT.out).mono ?_
              rintro e w7 ⟨ua, uc, he, h7, u7⟩
              rw [FE.out t, VE.out] at he
              subst he
              have H7 := hid h7
              clear h7 u7
              go_wp2_with fail
              go_roundw
              case rel => exact ⟨t + 1, HT.out, by go_num, b2, rfl, B2.out, H7.out⟩
              case measure => have := HT.out; simp [intOf]; omega
            · have t1 : ¬ (t : Int) < 9 := by omega
              have HBL : Hid (b = L) := by show _ = _; rw [HB.out, show t = 9 by omega]; exact HSF.out
              clear hlt ht
              go_wp2_with fail
              go_meet
              case rel => exact ⟨by rw [HBL.out], HR1.out⟩
      case rest =>
        obtain ⟨rfl, hr⟩ := hcut
        have HR1 := hid hr
        clear hr HR
        have hLL : ((L : Int) == (L : Int)) = true := by simp
        have hNN : ((N : Int) == (N : Int)) = true := by simp
        go_wp2_with fail
        refine (rh_next HR1.out).mono ?_
        rintro e w6 ⟨rfl, h6, _⟩
        have H6 := hid h6
        clear h6 HR1
        go_wp2_with fail
        refine (rh_holdBad H6.out (x := 9) (y := 0) (z := 0) (.inr (.inl (by omega)))).mono ?_
        rintro e w7 ⟨rfl, h7, _⟩
        have H7 := hid h7
        clear h7 H6
        go_wp2_with fail
        refine (rh_giveBad H7.out (x := -1) (y := 0) (z := 0) (.inl (by omega))).mono ?_
        rintro e w8 ⟨rfl, h8, _⟩
        have H8 := hid h8
        clear h8 H7
        go_wp2_with fail
        refine (rh_bayNil H8.out (x := 9) (.inr (by omega))).mono ?_
        rintro e w9 ⟨rfl, h9, _⟩
        have H9 : Hid (RH O (fun x => Value.ownBlock (.slice va L vc) = some x) w (w9.alloc (.cells #[.int .i64 9] 3)) r 9 6 none none D6 N) := h9.nxt ((Up.refl _ _).alloc _)
        have hc9 : (w9.alloc (.cells #[.int .i64 9] 3)).cell? ⟨w9.heap.size, 0, none⟩ = some (.int .i64 9) := World.cell?_alloc_new _ _ _ 0
        have HC9 := hid hc9
        have HZ9 : Hid (w9.heap.size < (w9.alloc (.cells #[.int .i64 9] 3)).heap.size) := by show _ < _; simp
        clear h9 H8 hc9
        go_wp2_with fail
        refine (rh_size H9.out).mono ?_
        rintro e w10 ⟨rfl, h10, u10⟩
        have H10 := hid h10
        have HC10 := hid ((u10.cell (p := ⟨w9.heap.size, 0, none⟩) HZ9.out (fun h => h)).trans HC9.out)
        clear h10 u10 H9 HC9 HZ9
        go_wp2_with fail
        refine (in_one _ _ 9 w10 HC10.out).mono ?_
        rintro e w11 ⟨rfl, u11⟩
        have H11 : Hid (Up Nul w w11) := H10.out.up.trans u11
        clear u11
        go_wp2_with fail
        refine (kawake_any O _).mono ?_
        rintro e w12 ⟨rfl, k12⟩
        have H12 := hid (H11.out.trans k12)
        clear k12
        go_wp2
        go_ret
        exact ⟨rfl, H12.out.below (Nat.le_refl _) fun _ _ h => h⟩
theorem rholds_walk (O : RackOps) (a0 : Option Addr) (l0 c0 : Nat) (z0 : List Int) (w : World) (w0 : CameI w a0 l0 c0 z0) :
    Calls Try.prog 3 #[.slice a0 l0 c0] w fun e w' => e = .returned (.bool true) ∧ Below w.heap.size w w' := by
  obtain ⟨f, hf⟩ := SlI.of w0
  exact rholds_nat O a0 l0 c0 f w hf
end Go.Proofs.Ytcejdobmgbielaa
