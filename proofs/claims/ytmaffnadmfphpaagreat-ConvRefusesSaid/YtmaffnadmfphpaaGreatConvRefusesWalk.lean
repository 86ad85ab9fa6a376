/- The law ConvRefuses, walked. -/
import Derived.Test.YtmaffnadmfphpaaGreatConvBads
import Derived.Test.YtmaffnadmfphpaaGreatConvTwoWalk
namespace Go.Proofs.YtmaffnadmfphpaaGreat
open Go.RowKit
set_option linter.unusedVariables false

theorem wide_nil {w0 w : World} {FS : List Nat} (hs : LS w0 FS w) :
    Calls Tryz.prog 11 #[.pointer none] w fun e w' => e = .returned (.tuple #[.pointer none, .int .i64 1]) ∧ Nxt FS w w' := by
  have HS := hid hs
  clear hs
  go_enter Tryz.func11, Tryz.ntmps11
  go_wp2_with fail
  refine (risingL HS.out 0 14 (by omega) (by omega)).mono ?_
  rintro e w2 ⟨g2, rfl, r2, n2⟩
  have H2 := hid n2
  clear n2 r2
  go_wp2_with fail
  refine (risingL (HS.out.nxt H2.out) 14 4 (by omega) (by omega)).mono ?_
  rintro e w3 ⟨g3, rfl, r3, n3⟩
  have H3 := hid (H2.out.trans n3)
  clear n3 r3
  go_wp2_with fail
  refine (new_nil2 _ _ w3).mono ?_
  rintro e w4 ⟨rfl, rfl⟩
  go_wp2
  go_ret2
  exact ⟨rfl, H3.out⟩
theorem refuses_long (a0 a2 : Int) (a : Option Addr) (n cap : Nat) (w : World) (h : 400 < n) :
    Calls Tryz.prog 6 #[.int .i64 a0, .slice a n cap, .int .i64 a2] w fun e w' => e = .returned (.bool true) ∧ Below w.heap.size w w' := by
  go_enter Tryz.func6, Tryz.ntmps6
  go_wp2_with ((go_at_call 7; (with_reducible refine (cawakeL (LS.start w)).mono ?_); rintro e w1 ⟨rfl, k1⟩; have K := hid ((LS.start w).nxt k1); clear k1))
  go_ret
  exact ⟨rfl, K.out.below⟩
theorem i64_and3m (n : Int) : ∃ k : Nat, bits .and .i64 n 3 = (k : Int) ∧ k < 4 := by
  rw [i64_mask 2 (by omega) n 3 (by decide)]
  exact ⟨(n % 4).toNat, by show n % 4 = _; omega, by omega⟩
/-- The row w, k of it made. -/
structure Wrs (W : World) (k : Nat) (v : Value) (q c : Nat → Nat) (R : Nat → List Nat) (wr : World) : Prop where
  own : OwnV 22 W.heap.size wr v ((List.range k).map fun i => Value.slice (some ⟨q i, 0, none⟩) (R i).length (c i))
  at_ : ∀ i, i < k → W.heap.size ≤ q i ∧ Row wr (q i) 0 (R i) ∧ Typ 5 wr (q i)
  up : Up Nul W wr
  cap : ∀ i, i < k → 16 ≤ c i
set_option maxRecDepth 100000 in
set_option maxHeartbeats 6400000 in
theorem refuses_short (a0 a2 : Int) (a : Option Addr) (n cap : Nat) (z : List Nat) (w : World) (hn : n ≤ 400) (hz : SlN w a n z) :
    Calls Tryz.prog 6 #[.int .i64 a0, .slice a n cap, .int .i64 a2] w fun e w' => e = .returned (.bool true) ∧ Below w.heap.size w w' := by
  have HZ := hid hz
  have HSD : Hid (∀ i u, (dat 16 z i).getD u 0 < 256) := dat_small fun i => hz.small i
  obtain ⟨m, hm, hm4⟩ := i64_and3m a2
  have HM := hid hm4
  clear hz hm4
  go_enter Tryz.func6, Tryz.ntmps6
  go_wp2_with fail
  refine (gfNewF _).mono ?_
  rintro e w2 ⟨F, rfl, k2⟩
  have H2 := hid ((LS.start w).newF k2)
  have HWF : Hid (w.heap.size ≤ w2.heap.size ∧ F < w2.heap.size) := ⟨H2.out.up.size, (H2.out.fld F (List.mem_cons_self ..)).lt⟩
  clear k2
  go_wp2_with fail
  refine (stripesL (L := 16) H2.out HZ.out (by omega) (by omega)).mono ?_
  rintro e w3 ⟨go, co, gs, cs, G, C, rfl, ho, _, ss, st, u3⟩
  obtain ⟨_, _, ego, gob, _, _, gof, goc⟩ := ho.row (by rw [strp_length]; omega)
  cases ego
  rw [strp_length] at goc
  have n3 := H2.out.nul u3
  have H3 := hid (And.intro (H2.out.nxt n3) (And.intro ss st))
  have HGO := hid (And.intro gob (And.intro gof (And.intro goc (Nat.lt_of_lt_of_le HWF.out.2 u3.size))))
  clear ho ss st n3 u3 gob gof goc
  go_wp2_with fail
  refine (refMergeL H3.out.1 H3.out.2.2 (fun i _ => dat_length _ _ _) HSD.out (by omega)).mono ?_
  rintro e w4 ⟨gp, cp, rfl, st4, u4⟩
  have n4 := H3.out.1.nul u4
  have H4 := hid (And.intro (H3.out.1.nxt n4) (And.intro (H3.out.2.1.nxt n4) st4))
  have HGF : Hid (∀ j, w4.frozen? ⟨go, j, none⟩ = false) := fun j => (u4.froz (p := ⟨go, j, none⟩) H3.out.2.1.lt id).trans (HGO.out.2.1 j)
  have HF4 := hid (Nat.lt_of_lt_of_le HGO.out.2.2.2 u4.size)
  clear st4 u4 n4 H3
  obtain ⟨R, HR⟩ : ∃ R, Hid (R = acrZ 14 16 widZ (dz 16 (dat 16 z))) := ⟨_, rfl⟩
  rw [← HR.out] at H4
  have HRL : Hid (∀ i, (R i).length = 16 ∧ ∀ u, (R i).getD u 0 < 256) := fun i => by rw [HR.out]; exact ⟨acrZ_length _ _ _ _ _, acrZ_small _ _ _ _ _⟩
  go_wp2_with fail
  go_loopw [11, 12] (fun v i wr => ∃ k : Nat, k ≤ 4 ∧ i = .int .i64 k ∧ ∃ q c, Wrs w4 k v q c R wr) (fun _ i _ => 4 - (intOf i).toNat)
  case atStart => exact ⟨0, by omega, rfl, id, id, OwnV.nil _ _ _, fun _ h => absurd h (Nat.not_lt_zero _), Up.refl _ _, fun _ h => absurd h (Nat.not_lt_zero _)⟩
  case round =>
    obtain ⟨k, hk, rfl, q, c, hw⟩ := hrel
    have HW := hid hw
    clear hw
    by_cases hlt : k < 4
    · have s0 := (HW.out.up.cell (p := ⟨gp, k, none⟩) H4.out.2.2.lt id).trans (H4.out.2.2.cells k hlt)
      have hcv := Lib.run_convert_string_bytes (P := Tryz.prog) wr 9 22 5 (strOf (R k)) Tryz.underlying9 Tryz.underlying22 Tryz.underlying5
      have hsz : (strOf (R k)).size = 16 := by rw [strOf_size]; exact (HRL.out k).1
      rw [hsz] at hcv
      obtain ⟨sk, SK⟩ : ∃ x, Hid (strOf (R k) = x) := ⟨_, rfl⟩
      rw [SK.out] at hcv s0 hsz
      have UC := hid ((Up.refl Nul wr).conv 5 sk)
      have HCV := hid (cnv (HRL.out k).2 SK.out (Up.refl Nul wr) (Up.refl Nul (Lib.bytesWorld wr 5 sk)))
      have HGC : Hid (16 ≤ grownCap wr 16 0 5) := grownCap_ge wr 16 0 5
      have i1 : (0 : Int) ≤ (k : Int) := by omega
      have i2 : (k : Int) < 4 := by omega
      have HKL : Hid (((List.range k).map fun i => Value.slice (some ⟨q i, 0, none⟩) (R i).length (c i)).length + 1 ≤ 1000000) := by show _ ≤ _; rw [List.length_map, List.length_range]; omega
      go_wp2_with (at_builtin; refine wpList_append_vals Tryz.underlying30 info_sl rfl (by omega) rfl (.tmp 40) (.tmp 46) rfl w4.heap.size u11 _ rfl (OwnV.alloc (OwnV.apart (S := Nul) HW.out.own UC.out (fun _ _ => id)) _) _ 1 1 [.slice (some ⟨wr.heap.size, 0, none⟩) 16 (grownCap wr 16 0 5)] rfl (alloc_one _ _ _) (one_one rfl) rfl HKL.out (Nat.le_trans HW.out.up.size (UC.out.alloc _).size) ?_; intro v2 w5 G1 G2)
      go_roundw
      case rel => exact ⟨k + 1, by omega, by go_num, (fun i => if i = k then wr.heap.size else q i), (fun i => if i = k then grownCap wr 16 0 5 else c i), by
        have ho := OwnV.alloc (OwnV.apart (S := Nul) HW.out.own UC.out (fun _ _ => id)) (.cells #[.slice (some ⟨wr.heap.size, 0, none⟩) 16 (grownCap wr 16 0 5)] 22)
        have hne : ∀ x, Typ 5 ((Lib.bytesWorld wr 5 sk).alloc (.cells #[.slice (some ⟨wr.heap.size, 0, none⟩) 16 (grownCap wr 16 0 5)] 22)) x → ¬ some x = u11.ownBlock := fun x hx e => (ho.typ e.symm).ne hx (by decide) rfl
        have hu := Up.ofg G2.out
        have ha := (Up.refl Nul (Lib.bytesWorld wr 5 sk)).alloc (.cells #[.slice (some ⟨wr.heap.size, 0, none⟩) 16 (grownCap wr 16 0 5)] 22)
        refine ⟨?_, fun i hi => ?_, ((HW.out.up.trans UC.out).alloc _).grown G2.out fun x hx => HW.out.own.base x hx, fun i hi => by
          by_cases e : i = k
          · simp only [if_pos e]; exact HGC.out
          · simp only [if_neg e]; exact HW.out.cap i (by omega)⟩
        · have e : ((List.range (k + 1)).map fun i => Value.slice (some ⟨if i = k then wr.heap.size else q i, 0, none⟩) (R i).length (if i = k then grownCap wr 16 0 5 else c i)) = ((List.range k).map fun i => Value.slice (some ⟨q i, 0, none⟩) (R i).length (c i)) ++ [.slice (some ⟨wr.heap.size, 0, none⟩) 16 (grownCap wr 16 0 5)] := by
            rw [List.range_succ, List.map_append]
            congr 1
            · exact List.map_congr_left fun t ht => by
                have := List.mem_range.1 ht
                simp only [if_neg (show ¬ t = k by omega)]
            · simp [(HRL.out k).1]
          rw [e]
          exact G1.out
        · by_cases e : i = k
          · subst e
            simp only [if_true]
            have ht := HCV.out.2.2.up ha id
            exact ⟨HW.out.up.size, (HCV.out.2.1.up ha HCV.out.2.2.lt id).up hu ht.lt (hne _ ht), ht.up hu (hne _ ht)⟩
          · simp only [if_neg e]
            obtain ⟨h1, h2, h3⟩ := HW.out.at_ i (by omega)
            have u1 := UC.out.trans ha
            have ht := h3.up u1 id
            exact ⟨h1, (h2.up u1 h3.lt id).up hu ht.lt (hne _ ht), ht.up hu (hne _ ht)⟩⟩
      case measure => simp [intOf]; omega
    · obtain rfl : k = 4 := by omega
      obtain ⟨gw, cw, rfl, gwb, gwl, gwc, gwf, gww⟩ := HW.out.own.row (by simp)
      rw [List.length_map, List.length_range] at gww ⊢
      have hcell : ∀ i, i < 4 → wr.cell? ⟨gw, i, none⟩ = some (.slice (some ⟨q i, 0, none⟩) (R i).length (c i)) := fun i hi => gwc i _ (by rw [List.getElem?_map, List.getElem?_range hi]; rfl)
      have n5 := H4.out.1.nul HW.out.up
      have HLL : Hid (LL [F] wr gw 0 4 fun i => some (R i)) := ⟨fun i hi => by
        obtain ⟨h1, h2, h3⟩ := HW.out.at_ i hi
        rw [Nat.zero_add]
        exact ⟨_, hcell i hi, q i, 0, c i, rfl, h2, h3.lt, H4.out.1.lt h1⟩, gwl, H4.out.1.lt gwb⟩
      have H5 := hid (And.intro n5 (And.intro (H4.out.1.nxt n5) (H4.out.2.1.nxt n5)))
      have HGW := hid (And.intro gwb (And.intro gwl (And.intro gwf (And.intro gww (And.intro hcell HW.out.cap)))))
      clear n5 hcell gwb gwl gwc gwf gww
      by_cases hin : 0 ≤ a0 ∧ a0 ≤ 2
      · obtain ⟨t, rfl⟩ := Int.eq_ofNat_of_zero_le hin.1
        have HT : Hid (t < 3) := by show t < 3; omega
        have j1 : (0 : Int) ≤ (t : Int) := by omega
        have j2 : (t : Int) ≤ 2 := by omega
        clear hin
        go_wp2_with fail
        refine (narrowL H5.out.2.1 (List.mem_cons_self ..) t HT.out).mono ?_
        rintro e w6 ⟨cc, pp, pq, sp, sq, rfl, _, n6⟩
        have H6 := hid n6
        have x0 := (H5.out.2.2.nxt n6).cell 0 (by omega)
        have c4 : (4 : Int) ≤ (C 0 : Int) := by have := H5.out.2.2.cap 0 (by omega); omega
        clear n6
        go_wp2_with fail
        refine (splitL (L := 16) (D := stp 16 z 0) (H5.out.2.1.nxt H6.out) (List.mem_cons_self ..) t HT.out ((((H5.out.2.2.nxt H6.out).ll 0 (by omega)).sub 0 4 (by omega)).congr fun i hi => by rw [Nat.zero_add]) (fun i _ => stp_length _ _ _ _) (by omega)).mono ?_
        rintro e w7 ⟨gl, rfl, _, n7⟩
        have H7 := hid (H6.out.trans n7)
        clear n7 x0 c4
        go_wp2_with fail
        refine (peelL [F] w w7 ⟨F, 0, none⟩ t gw 0 cw go co 16 G (fun _ => 0) C (stp 16 z) R (H5.out.2.1.nxt H7.out) HT.out HGO.out.2.2.1 ⟨fun s h1 _ => (H5.out.2.2.nxt H7.out).cell s h1, (H5.out.2.2.nxt H7.out).lt, fun s h1 _ => (H5.out.2.2.nxt H7.out).ll s h1, fun _ _ _ _ _ => stp_length _ _ _ _⟩ (HLL.out.nxt H7.out) (fun i _ => (HRL.out i).1) (by omega) (by omega)).mono ?_
        rintro e w8 ⟨S, b, rfl, _, u8⟩
        have H8 := hid (H7.out.trans ((H5.out.2.1.nxt H7.out).nul u8))
        clear u8 H7 H6 j1 j2
        have j1 : (0 : Int) ≤ (t : Int) := by omega
        have j2 : (t : Int) ≤ 2 := by have := HT.out; omega
        obtain rfl | rfl | rfl | rfl : m = 0 ∨ m = 1 ∨ m = 2 ∨ m = 3 := by have := HM.out; omega
        · have c3 : (3 : Int) ≤ (cw : Int) := by have := HGW.out.2.2.2.1; omega
          go_wp2_with fail
          refine (peel_len ⟨F, 0, none⟩ _ 3 _ _ w8 (by omega)).mono ?_
          rintro e w9 ⟨rfl, u9⟩
          have HE := hid ((H5.out.2.1.nxt H8.out).nxt ((H5.out.2.1.nxt H8.out).nul u9))
          clear u9
          go_wp2_with fail
          refine (wide_nil HE.out).mono ?_
          rintro e wA ⟨rfl, nA⟩
          have HA := hid (HE.out.nxt nA)
          clear nA
          go_wp2_with fail
          refine (cawakeL HA.out).mono ?_
          rintro e wB ⟨rfl, nB⟩
          have HB2 := hid (HA.out.nxt nB)
          clear nB
          go_wp2
          go_ret
          exact ⟨rfl, HB2.out.below⟩
        · have y0 := (H8.out.up.cell (p := ⟨gw, 2, none⟩) HGW.out.2.1 HLL.out.b).trans (HGW.out.2.2.2.2.1 2 (by omega))
          have y1 := (H8.out.up.froz (p := ⟨gw, 2, none⟩) HGW.out.2.1 HLL.out.b).trans (HGW.out.2.2.1 2)
          rw [(HRL.out 2).1] at y0
          have HC2 : Hid (16 ≤ c 2) := HGW.out.2.2.2.2.2 2 (by omega)
          have c15 : (15 : Int) ≤ (c 2 : Int) := by have := HC2.out; omega
          generalize q 2 = q2 at y0
          generalize c 2 = c2 at y0 c15 HC2
          have HNS : Hid (Nxt [F] w4 (w8.setCell ⟨gw, 2, none⟩ (.slice (some ⟨q2, 0, none⟩) 15 c2))) := by
            have h1 := H5.out.1.trans H8.out
            refine ⟨h1.up.setCell (p := ⟨gw, 2, none⟩) (.inl HGW.out.1) _, fun F' hF' => (h1.fld F' hF').up (S := One gw) ((Up.refl _ _).setCell (p := ⟨gw, 2, none⟩) (.inr (show One gw gw from rfl)) _) fun e => ?_⟩
            have e1 : F' = F := by simpa using hF'
            have e2 : F' = gw := e
            have h2 := HF4.out
            have h3 := HGW.out.1
            omega
          have HRW : Hid (RowL (w8.setCell ⟨gw, 2, none⟩ (.slice (some ⟨q2, 0, none⟩) 15 c2)) gw 0 4 fun i => if i = 2 then 15 else 16) := fun i hi => by
            by_cases e : i = 2
            · subst e
              exact ⟨_, _, World.cell?_setCell_same _ _ _ y0⟩
            · have h1 := (H8.out.up.cell (p := ⟨gw, i, none⟩) HGW.out.2.1 HLL.out.b).trans (HGW.out.2.2.2.2.1 i hi)
              rw [(HRL.out i).1] at h1
              refine ⟨some ⟨q i, 0, none⟩, c i, ?_⟩
              simp only [if_neg e]
              rw [Nat.zero_add, World.cell?_setCell_other _ _ _ _ (by intro e2; have := congrArg Addr.off e2; simp at this; omega)]
              exact h1
          go_wp2_with fail
          generalize w8.setCell ⟨gw, 2, none⟩ (.slice (some ⟨q2, 0, none⟩) 15 c2) = wS at *
          have HSS := hid (H4.out.2.1.nxt HNS.out)
          have HLS := hid (H4.out.1.nxt HNS.out)
          refine (peel0_bad wS ⟨F, 0, none⟩ gw 0 cw go co (fun s => .slice (some ⟨G s, 0, none⟩) 6 (C s)) HSS.out.lt (fun s h1 _ => HSS.out.cell s h1) (fun _ => rfl) HGO.out.2.2.1 fun h c' wc hc hl hu => ?_).mono ?_
          · have hr : RowL wc gw 0 4 fun i => if i = 2 then 15 else 16 := HRW.out.up hu (lt_of_cell (HRW.out 0 (by omega)).choose_spec.choose_spec) id
            refine calike_odd [F] h 0 2 c' 4 cw 16 (fun i => G (oth 0 i)) (fun _ => 0) (fun i => C (oth 0 i)) (fun i => stp 16 z (oth 0 i)) _ (rowV wc gw 0 4) wc (by omega) (by omega) hl (fun i hi => by rw [Nat.zero_add]; exact hc i hi) (fun i hi => (HSS.out.ll _ (oth_lt (by omega) hi)).nxt (HLS.out.nul hu)) (fun _ _ _ _ => stp_length _ _ _ _) (by omega) (rowV_srow (lt_of_cell (hr 0 (by omega)).choose_spec.choose_spec) hr) ?_ (by omega)
            obtain ⟨a', c'', e'⟩ := hr 2 (by omega)
            exact ⟨_, List.mem_of_getElem? (rowV_at (by omega) e'), by show (15 : Nat) ≠ 16; omega⟩
          rintro e w9 ⟨rfl, u9⟩
          have HE := hid (HLS.out.nxt (HLS.out.nul u9))
          clear u9 y0 y1 c15
          go_wp2_with fail
          refine (wide_nil HE.out).mono ?_
          rintro e wA ⟨rfl, nA⟩
          have HA := hid (HE.out.nxt nA)
          clear nA
          go_wp2_with fail
          refine (cawakeL HA.out).mono ?_
          rintro e wB ⟨rfl, nB⟩
          have HB2 := hid (HA.out.nxt nB)
          clear nB
          go_wp2
          go_ret
          exact ⟨rfl, HB2.out.below⟩
        · have y0 := ((H5.out.2.2.nxt H8.out).cell 1 (by omega))
          have y1 : w8.frozen? ⟨go, 1, none⟩ = false := (H8.out.up.froz (p := ⟨go, 1, none⟩) H5.out.2.2.lt H5.out.2.2.b).trans ((H5.out.1.up.froz (p := ⟨go, 1, none⟩) H4.out.2.1.lt H4.out.2.1.b).trans (HGF.out 1))
          have y2 := ((H5.out.2.2.nxt H8.out).cell 2 (by omega))
          have c1' : ¬ C 1 = 1 := by have := H5.out.2.2.cap 1 (by omega); omega
          have HGL := hid (H5.out.2.2.nxt H8.out).lt
          generalize G 1 = g1 at y0
          generalize C 1 = cc1 at y0 c1'
          have HLS : Hid (LS w [F] (w8.setCell ⟨go, 1, none⟩ (.slice (some ⟨g1, 1, none⟩) 5 (cc1 - 1)))) := by
            have h1 := H5.out.2.1.nxt H8.out
            refine ⟨h1.up.setCell (p := ⟨go, 1, none⟩) (.inl (by have := HGO.out.1; have := HWF.out.1; show w.heap.size ≤ go; omega)) _, fun F' hF' => (h1.fld F' hF').up (S := One go) ((Up.refl _ _).setCell (p := ⟨go, 1, none⟩) (.inr (show One go go from rfl)) _) fun e => ?_, h1.own⟩
            exact H5.out.2.2.b (by have e2 : F' = go := e; rw [← e2]; exact hF')
          have HV : Hid (∀ s, s < 3 → s ≠ 0 → (w8.setCell ⟨go, 1, none⟩ (.slice (some ⟨g1, 1, none⟩) 5 (cc1 - 1))).cell? ⟨go, s, none⟩ = some (if s = 1 then .slice (some ⟨g1, 1, none⟩) 5 (cc1 - 1) else .slice (some ⟨G 2, 0, none⟩) 6 (C 2))) := fun s h1 h2 => by
            by_cases e : s = 1
            · subst e
              rw [if_pos rfl]
              exact World.cell?_setCell_same _ _ _ y0
            · obtain rfl : s = 2 := by omega
              rw [if_neg e, World.cell?_setCell_other _ _ _ _ (by intro e2; have := congrArg Addr.off e2; simp at this)]
              exact y2
          have HGL2 : Hid (go < (w8.setCell ⟨go, 1, none⟩ (.slice (some ⟨g1, 1, none⟩) 5 (cc1 - 1))).heap.size) := by show _ < _; simp; exact HGL.out
          go_wp2_with fail
          generalize w8.setCell ⟨go, 1, none⟩ (.slice (some ⟨g1, 1, none⟩) 5 (cc1 - 1)) = wS at *
          refine (peel0_bad wS ⟨F, 0, none⟩ gw 0 cw go co (fun s => if s = 1 then .slice (some ⟨g1, 1, none⟩) 5 (cc1 - 1) else .slice (some ⟨G 2, 0, none⟩) 6 (C 2)) HGL2.out HV.out (fun s => by split <;> rfl) HGO.out.2.2.1 fun h c' wc hc hl hu => ?_).mono ?_
          · refine (calike_torn h 0 2 c' (fun i => if i = 0 then 5 else 6) _ wc (fun i hi => ?_) (by omega) ⟨0, by omega, by show (5 : Nat) ≠ 6; omega⟩).mono ?_
            · have h1 := hc i hi
              rw [Nat.zero_add]
              match i, hi with
              | 0, _ => exact ⟨_, _, h1⟩
              | 1, _ => exact ⟨_, _, h1⟩
            · rintro e w' ⟨rfl, rfl⟩
              exact ⟨rfl, Up.refl _ _⟩
          rintro e w9 ⟨rfl, u9⟩
          have HE := hid (HLS.out.nxt (HLS.out.nul u9))
          clear u9 y0 y1 y2 c1'
          go_wp2_with fail
          refine (wide_nil HE.out).mono ?_
          rintro e wA ⟨rfl, nA⟩
          have HA := hid (HE.out.nxt nA)
          clear nA
          go_wp2_with fail
          refine (cawakeL HA.out).mono ?_
          rintro e wB ⟨rfl, nB⟩
          have HB2 := hid (HA.out.nxt nB)
          clear nB
          go_wp2
          go_ret
          exact ⟨rfl, HB2.out.below⟩
        · go_wp2_with fail
          refine (peel_nil 0 _ _ w8).mono ?_
          rintro e w9 ⟨rfl, u9⟩
          have HE := hid ((H5.out.2.1.nxt H8.out).nxt ((H5.out.2.1.nxt H8.out).nul u9))
          clear u9
          go_wp2_with fail
          refine (wide_nil HE.out).mono ?_
          rintro e wA ⟨rfl, nA⟩
          have HA := hid (HE.out.nxt nA)
          clear nA
          go_wp2_with fail
          refine (cawakeL HA.out).mono ?_
          rintro e wB ⟨rfl, nB⟩
          have HB2 := hid (HA.out.nxt nB)
          clear nB
          go_wp2
          go_ret
          exact ⟨rfl, HB2.out.below⟩
      · have HT : Hid (a0 < 0 ∨ 3 ≤ a0) := by show _ ∨ _; omega
        by_cases j1 : (0 : Int) ≤ a0
        · have j2 : ¬ a0 ≤ 2 := by omega
          go_wp2_with fail
          refine (narrow_bad H5.out.2.1 _ a0 HT.out).mono ?_
          rintro e w6 ⟨rfl, n6⟩
          have H6 := hid n6
          have x0 := (H5.out.2.2.nxt n6).cell 0 (by omega)
          have c4 : (4 : Int) ≤ (C 0 : Int) := by have := H5.out.2.2.cap 0 (by omega); omega
          clear n6
          go_wp2_with fail
          refine (split_bad (H5.out.2.1.nxt H6.out) _ _ a0 HT.out).mono ?_
          rintro e w7 ⟨rfl, n7⟩
          have H7 := hid (H6.out.trans n7)
          clear n7 x0 c4
          go_wp2_with fail
          refine (peel_colour ⟨F, 0, none⟩ a0 _ _ w7 HT.out).mono ?_
          rintro e w8 ⟨rfl, u8⟩
          have H8 := hid (H7.out.trans ((H5.out.2.1.nxt H7.out).nul u8))
          clear u8 H7 H6
          obtain rfl | rfl | rfl | rfl : m = 0 ∨ m = 1 ∨ m = 2 ∨ m = 3 := by have := HM.out; omega
          · have c3 : (3 : Int) ≤ (cw : Int) := by have := HGW.out.2.2.2.1; omega
            go_wp2_with fail
            refine (peel_len ⟨F, 0, none⟩ _ 3 _ _ w8 (by omega)).mono ?_
            rintro e w9 ⟨rfl, u9⟩
            have HE := hid ((H5.out.2.1.nxt H8.out).nxt ((H5.out.2.1.nxt H8.out).nul u9))
            clear u9
            go_wp2_with fail
            refine (wide_nil HE.out).mono ?_
            rintro e wA ⟨rfl, nA⟩
            have HA := hid (HE.out.nxt nA)
            clear nA
            go_wp2_with fail
            refine (cawakeL HA.out).mono ?_
            rintro e wB ⟨rfl, nB⟩
            have HB2 := hid (HA.out.nxt nB)
            clear nB
            go_wp2
            go_ret
            exact ⟨rfl, HB2.out.below⟩
          · have y0 := (H8.out.up.cell (p := ⟨gw, 2, none⟩) HGW.out.2.1 HLL.out.b).trans (HGW.out.2.2.2.2.1 2 (by omega))
            have y1 := (H8.out.up.froz (p := ⟨gw, 2, none⟩) HGW.out.2.1 HLL.out.b).trans (HGW.out.2.2.1 2)
            rw [(HRL.out 2).1] at y0
            have HC2 : Hid (16 ≤ c 2) := HGW.out.2.2.2.2.2 2 (by omega)
            have c15 : (15 : Int) ≤ (c 2 : Int) := by have := HC2.out; omega
            generalize q 2 = q2 at y0
            generalize c 2 = c2 at y0 c15 HC2
            have HNS : Hid (Nxt [F] w4 (w8.setCell ⟨gw, 2, none⟩ (.slice (some ⟨q2, 0, none⟩) 15 c2))) := by
              have h1 := H5.out.1.trans H8.out
              refine ⟨h1.up.setCell (p := ⟨gw, 2, none⟩) (.inl HGW.out.1) _, fun F' hF' => (h1.fld F' hF').up (S := One gw) ((Up.refl _ _).setCell (p := ⟨gw, 2, none⟩) (.inr (show One gw gw from rfl)) _) fun e => ?_⟩
              have e1 : F' = F := by simpa using hF'
              have e2 : F' = gw := e
              have h2 := HF4.out
              have h3 := HGW.out.1
              omega
            have HRW : Hid (RowL (w8.setCell ⟨gw, 2, none⟩ (.slice (some ⟨q2, 0, none⟩) 15 c2)) gw 0 4 fun i => if i = 2 then 15 else 16) := fun i hi => by
              by_cases e : i = 2
              · subst e
                exact ⟨_, _, World.cell?_setCell_same _ _ _ y0⟩
              · have h1 := (H8.out.up.cell (p := ⟨gw, i, none⟩) HGW.out.2.1 HLL.out.b).trans (HGW.out.2.2.2.2.1 i hi)
                rw [(HRL.out i).1] at h1
                refine ⟨some ⟨q i, 0, none⟩, c i, ?_⟩
                simp only [if_neg e]
                rw [Nat.zero_add, World.cell?_setCell_other _ _ _ _ (by intro e2; have := congrArg Addr.off e2; simp at this; omega)]
                exact h1
            go_wp2_with fail
            generalize w8.setCell ⟨gw, 2, none⟩ (.slice (some ⟨q2, 0, none⟩) 15 c2) = wS at *
            have HSS := hid (H4.out.2.1.nxt HNS.out)
            have HLS := hid (H4.out.1.nxt HNS.out)
            refine (peel0_bad wS ⟨F, 0, none⟩ gw 0 cw go co (fun s => .slice (some ⟨G s, 0, none⟩) 6 (C s)) HSS.out.lt (fun s h1 _ => HSS.out.cell s h1) (fun _ => rfl) HGO.out.2.2.1 fun h c' wc hc hl hu => ?_).mono ?_
            · have hr : RowL wc gw 0 4 fun i => if i = 2 then 15 else 16 := HRW.out.up hu (lt_of_cell (HRW.out 0 (by omega)).choose_spec.choose_spec) id
              refine calike_odd [F] h 0 2 c' 4 cw 16 (fun i => G (oth 0 i)) (fun _ => 0) (fun i => C (oth 0 i)) (fun i => stp 16 z (oth 0 i)) _ (rowV wc gw 0 4) wc (by omega) (by omega) hl (fun i hi => by rw [Nat.zero_add]; exact hc i hi) (fun i hi => (HSS.out.ll _ (oth_lt (by omega) hi)).nxt (HLS.out.nul hu)) (fun _ _ _ _ => stp_length _ _ _ _) (by omega) (rowV_srow (lt_of_cell (hr 0 (by omega)).choose_spec.choose_spec) hr) ?_ (by omega)
              obtain ⟨a', c'', e'⟩ := hr 2 (by omega)
              exact ⟨_, List.mem_of_getElem? (rowV_at (by omega) e'), by show (15 : Nat) ≠ 16; omega⟩
            rintro e w9 ⟨rfl, u9⟩
            have HE := hid (HLS.out.nxt (HLS.out.nul u9))
            clear u9 y0 y1 c15
            go_wp2_with fail
            refine (wide_nil HE.out).mono ?_
            rintro e wA ⟨rfl, nA⟩
            have HA := hid (HE.out.nxt nA)
            clear nA
            go_wp2_with fail
            refine (cawakeL HA.out).mono ?_
            rintro e wB ⟨rfl, nB⟩
            have HB2 := hid (HA.out.nxt nB)
            clear nB
            go_wp2
            go_ret
            exact ⟨rfl, HB2.out.below⟩
          · have y0 := ((H5.out.2.2.nxt H8.out).cell 1 (by omega))
            have y1 : w8.frozen? ⟨go, 1, none⟩ = false := (H8.out.up.froz (p := ⟨go, 1, none⟩) H5.out.2.2.lt H5.out.2.2.b).trans ((H5.out.1.up.froz (p := ⟨go, 1, none⟩) H4.out.2.1.lt H4.out.2.1.b).trans (HGF.out 1))
            have y2 := ((H5.out.2.2.nxt H8.out).cell 2 (by omega))
            have c1' : ¬ C 1 = 1 := by have := H5.out.2.2.cap 1 (by omega); omega
            have HGL := hid (H5.out.2.2.nxt H8.out).lt
            generalize G 1 = g1 at y0
            generalize C 1 = cc1 at y0 c1'
            have HLS : Hid (LS w [F] (w8.setCell ⟨go, 1, none⟩ (.slice (some ⟨g1, 1, none⟩) 5 (cc1 - 1)))) := by
              have h1 := H5.out.2.1.nxt H8.out
              refine ⟨h1.up.setCell (p := ⟨go, 1, none⟩) (.inl (by have := HGO.out.1; have := HWF.out.1; show w.heap.size ≤ go; omega)) _, fun F' hF' => (h1.fld F' hF').up (S := One go) ((Up.refl _ _).setCell (p := ⟨go, 1, none⟩) (.inr (show One go go from rfl)) _) fun e => ?_, h1.own⟩
              exact H5.out.2.2.b (by have e2 : F' = go := e; rw [← e2]; exact hF')
            have HV : Hid (∀ s, s < 3 → s ≠ 0 → (w8.setCell ⟨go, 1, none⟩ (.slice (some ⟨g1, 1, none⟩) 5 (cc1 - 1))).cell? ⟨go, s, none⟩ = some (if s = 1 then .slice (some ⟨g1, 1, none⟩) 5 (cc1 - 1) else .slice (some ⟨G 2, 0, none⟩) 6 (C 2))) := fun s h1 h2 => by
              by_cases e : s = 1
              · subst e
                rw [if_pos rfl]
                exact World.cell?_setCell_same _ _ _ y0
              · obtain rfl : s = 2 := by omega
                rw [if_neg e, World.cell?_setCell_other _ _ _ _ (by intro e2; have := congrArg Addr.off e2; simp at this)]
                exact y2
            have HGL2 : Hid (go < (w8.setCell ⟨go, 1, none⟩ (.slice (some ⟨g1, 1, none⟩) 5 (cc1 - 1))).heap.size) := by show _ < _; simp; exact HGL.out
            go_wp2_with fail
            generalize w8.setCell ⟨go, 1, none⟩ (.slice (some ⟨g1, 1, none⟩) 5 (cc1 - 1)) = wS at *
            refine (peel0_bad wS ⟨F, 0, none⟩ gw 0 cw go co (fun s => if s = 1 then .slice (some ⟨g1, 1, none⟩) 5 (cc1 - 1) else .slice (some ⟨G 2, 0, none⟩) 6 (C 2)) HGL2.out HV.out (fun s => by split <;> rfl) HGO.out.2.2.1 fun h c' wc hc hl hu => ?_).mono ?_
            · refine (calike_torn h 0 2 c' (fun i => if i = 0 then 5 else 6) _ wc (fun i hi => ?_) (by omega) ⟨0, by omega, by show (5 : Nat) ≠ 6; omega⟩).mono ?_
              · have h1 := hc i hi
                rw [Nat.zero_add]
                match i, hi with
                | 0, _ => exact ⟨_, _, h1⟩
                | 1, _ => exact ⟨_, _, h1⟩
              · rintro e w' ⟨rfl, rfl⟩
                exact ⟨rfl, Up.refl _ _⟩
            rintro e w9 ⟨rfl, u9⟩
            have HE := hid (HLS.out.nxt (HLS.out.nul u9))
            clear u9 y0 y1 y2 c1'
            go_wp2_with fail
            refine (wide_nil HE.out).mono ?_
            rintro e wA ⟨rfl, nA⟩
            have HA := hid (HE.out.nxt nA)
            clear nA
            go_wp2_with fail
            refine (cawakeL HA.out).mono ?_
            rintro e wB ⟨rfl, nB⟩
            have HB2 := hid (HA.out.nxt nB)
            clear nB
            go_wp2
            go_ret
            exact ⟨rfl, HB2.out.below⟩
          · go_wp2_with fail
            refine (peel_nil 0 _ _ w8).mono ?_
            rintro e w9 ⟨rfl, u9⟩
            have HE := hid ((H5.out.2.1.nxt H8.out).nxt ((H5.out.2.1.nxt H8.out).nul u9))
            clear u9
            go_wp2_with fail
            refine (wide_nil HE.out).mono ?_
            rintro e wA ⟨rfl, nA⟩
            have HA := hid (HE.out.nxt nA)
            clear nA
            go_wp2_with fail
            refine (cawakeL HA.out).mono ?_
            rintro e wB ⟨rfl, nB⟩
            have HB2 := hid (HA.out.nxt nB)
            clear nB
            go_wp2
            go_ret
            exact ⟨rfl, HB2.out.below⟩
        · skip
          go_wp2_with fail
          refine (narrow_bad H5.out.2.1 _ a0 HT.out).mono ?_
          rintro e w6 ⟨rfl, n6⟩
          have H6 := hid n6
          have x0 := (H5.out.2.2.nxt n6).cell 0 (by omega)
          have c4 : (4 : Int) ≤ (C 0 : Int) := by have := H5.out.2.2.cap 0 (by omega); omega
          clear n6
          go_wp2_with fail
          refine (split_bad (H5.out.2.1.nxt H6.out) _ _ a0 HT.out).mono ?_
          rintro e w7 ⟨rfl, n7⟩
          have H7 := hid (H6.out.trans n7)
          clear n7 x0 c4
          go_wp2_with fail
          refine (peel_colour ⟨F, 0, none⟩ a0 _ _ w7 HT.out).mono ?_
          rintro e w8 ⟨rfl, u8⟩
          have H8 := hid (H7.out.trans ((H5.out.2.1.nxt H7.out).nul u8))
          clear u8 H7 H6
          obtain rfl | rfl | rfl | rfl : m = 0 ∨ m = 1 ∨ m = 2 ∨ m = 3 := by have := HM.out; omega
          · have c3 : (3 : Int) ≤ (cw : Int) := by have := HGW.out.2.2.2.1; omega
            go_wp2_with fail
            refine (peel_len ⟨F, 0, none⟩ _ 3 _ _ w8 (by omega)).mono ?_
            rintro e w9 ⟨rfl, u9⟩
            have HE := hid ((H5.out.2.1.nxt H8.out).nxt ((H5.out.2.1.nxt H8.out).nul u9))
            clear u9
            go_wp2_with fail
            refine (wide_nil HE.out).mono ?_
            rintro e wA ⟨rfl, nA⟩
            have HA := hid (HE.out.nxt nA)
            clear nA
            go_wp2_with fail
            refine (cawakeL HA.out).mono ?_
            rintro e wB ⟨rfl, nB⟩
            have HB2 := hid (HA.out.nxt nB)
            clear nB
            go_wp2
            go_ret
            exact ⟨rfl, HB2.out.below⟩
          · have y0 := (H8.out.up.cell (p := ⟨gw, 2, none⟩) HGW.out.2.1 HLL.out.b).trans (HGW.out.2.2.2.2.1 2 (by omega))
            have y1 := (H8.out.up.froz (p := ⟨gw, 2, none⟩) HGW.out.2.1 HLL.out.b).trans (HGW.out.2.2.1 2)
            rw [(HRL.out 2).1] at y0
            have HC2 : Hid (16 ≤ c 2) := HGW.out.2.2.2.2.2 2 (by omega)
            have c15 : (15 : Int) ≤ (c 2 : Int) := by have := HC2.out; omega
            generalize q 2 = q2 at y0
            generalize c 2 = c2 at y0 c15 HC2
            have HNS : Hid (Nxt [F] w4 (w8.setCell ⟨gw, 2, none⟩ (.slice (some ⟨q2, 0, none⟩) 15 c2))) := by
              have h1 := H5.out.1.trans H8.out
              refine ⟨h1.up.setCell (p := ⟨gw, 2, none⟩) (.inl HGW.out.1) _, fun F' hF' => (h1.fld F' hF').up (S := One gw) ((Up.refl _ _).setCell (p := ⟨gw, 2, none⟩) (.inr (show One gw gw from rfl)) _) fun e => ?_⟩
              have e1 : F' = F := by simpa using hF'
              have e2 : F' = gw := e
              have h2 := HF4.out
              have h3 := HGW.out.1
              omega
            have HRW : Hid (RowL (w8.setCell ⟨gw, 2, none⟩ (.slice (some ⟨q2, 0, none⟩) 15 c2)) gw 0 4 fun i => if i = 2 then 15 else 16) := fun i hi => by
              by_cases e : i = 2
              · subst e
                exact ⟨_, _, World.cell?_setCell_same _ _ _ y0⟩
              · have h1 := (H8.out.up.cell (p := ⟨gw, i, none⟩) HGW.out.2.1 HLL.out.b).trans (HGW.out.2.2.2.2.1 i hi)
                rw [(HRL.out i).1] at h1
                refine ⟨some ⟨q i, 0, none⟩, c i, ?_⟩
                simp only [if_neg e]
                rw [Nat.zero_add, World.cell?_setCell_other _ _ _ _ (by intro e2; have := congrArg Addr.off e2; simp at this; omega)]
                exact h1
            go_wp2_with fail
            generalize w8.setCell ⟨gw, 2, none⟩ (.slice (some ⟨q2, 0, none⟩) 15 c2) = wS at *
            have HSS := hid (H4.out.2.1.nxt HNS.out)
            have HLS := hid (H4.out.1.nxt HNS.out)
            refine (peel0_bad wS ⟨F, 0, none⟩ gw 0 cw go co (fun s => .slice (some ⟨G s, 0, none⟩) 6 (C s)) HSS.out.lt (fun s h1 _ => HSS.out.cell s h1) (fun _ => rfl) HGO.out.2.2.1 fun h c' wc hc hl hu => ?_).mono ?_
            · have hr : RowL wc gw 0 4 fun i => if i = 2 then 15 else 16 := HRW.out.up hu (lt_of_cell (HRW.out 0 (by omega)).choose_spec.choose_spec) id
              refine calike_odd [F] h 0 2 c' 4 cw 16 (fun i => G (oth 0 i)) (fun _ => 0) (fun i => C (oth 0 i)) (fun i => stp 16 z (oth 0 i)) _ (rowV wc gw 0 4) wc (by omega) (by omega) hl (fun i hi => by rw [Nat.zero_add]; exact hc i hi) (fun i hi => (HSS.out.ll _ (oth_lt (by omega) hi)).nxt (HLS.out.nul hu)) (fun _ _ _ _ => stp_length _ _ _ _) (by omega) (rowV_srow (lt_of_cell (hr 0 (by omega)).choose_spec.choose_spec) hr) ?_ (by omega)
              obtain ⟨a', c'', e'⟩ := hr 2 (by omega)
              exact ⟨_, List.mem_of_getElem? (rowV_at (by omega) e'), by show (15 : Nat) ≠ 16; omega⟩
            rintro e w9 ⟨rfl, u9⟩
            have HE := hid (HLS.out.nxt (HLS.out.nul u9))
            clear u9 y0 y1 c15
            go_wp2_with fail
            refine (wide_nil HE.out).mono ?_
            rintro e wA ⟨rfl, nA⟩
            have HA := hid (HE.out.nxt nA)
            clear nA
            go_wp2_with fail
            refine (cawakeL HA.out).mono ?_
            rintro e wB ⟨rfl, nB⟩
            have HB2 := hid (HA.out.nxt nB)
            clear nB
            go_wp2
            go_ret
            exact ⟨rfl, HB2.out.below⟩
          · have y0 := ((H5.out.2.2.nxt H8.out).cell 1 (by omega))
            have y1 : w8.frozen? ⟨go, 1, none⟩ = false := (H8.out.up.froz (p := ⟨go, 1, none⟩) H5.out.2.2.lt H5.out.2.2.b).trans ((H5.out.1.up.froz (p := ⟨go, 1, none⟩) H4.out.2.1.lt H4.out.2.1.b).trans (HGF.out 1))
            have y2 := ((H5.out.2.2.nxt H8.out).cell 2 (by omega))
            have c1' : ¬ C 1 = 1 := by have := H5.out.2.2.cap 1 (by omega); omega
            have HGL := hid (H5.out.2.2.nxt H8.out).lt
            generalize G 1 = g1 at y0
            generalize C 1 = cc1 at y0 c1'
            have HLS : Hid (LS w [F] (w8.setCell ⟨go, 1, none⟩ (.slice (some ⟨g1, 1, none⟩) 5 (cc1 - 1)))) := by
              have h1 := H5.out.2.1.nxt H8.out
              refine ⟨h1.up.setCell (p := ⟨go, 1, none⟩) (.inl (by have := HGO.out.1; have := HWF.out.1; show w.heap.size ≤ go; omega)) _, fun F' hF' => (h1.fld F' hF').up (S := One go) ((Up.refl _ _).setCell (p := ⟨go, 1, none⟩) (.inr (show One go go from rfl)) _) fun e => ?_, h1.own⟩
              exact H5.out.2.2.b (by have e2 : F' = go := e; rw [← e2]; exact hF')
            have HV : Hid (∀ s, s < 3 → s ≠ 0 → (w8.setCell ⟨go, 1, none⟩ (.slice (some ⟨g1, 1, none⟩) 5 (cc1 - 1))).cell? ⟨go, s, none⟩ = some (if s = 1 then .slice (some ⟨g1, 1, none⟩) 5 (cc1 - 1) else .slice (some ⟨G 2, 0, none⟩) 6 (C 2))) := fun s h1 h2 => by
              by_cases e : s = 1
              · subst e
                rw [if_pos rfl]
                exact World.cell?_setCell_same _ _ _ y0
              · obtain rfl : s = 2 := by omega
                rw [if_neg e, World.cell?_setCell_other _ _ _ _ (by intro e2; have := congrArg Addr.off e2; simp at this)]
                exact y2
            have HGL2 : Hid (go < (w8.setCell ⟨go, 1, none⟩ (.slice (some ⟨g1, 1, none⟩) 5 (cc1 - 1))).heap.size) := by show _ < _; simp; exact HGL.out
            go_wp2_with fail
            generalize w8.setCell ⟨go, 1, none⟩ (.slice (some ⟨g1, 1, none⟩) 5 (cc1 - 1)) = wS at *
            refine (peel0_bad wS ⟨F, 0, none⟩ gw 0 cw go co (fun s => if s = 1 then .slice (some ⟨g1, 1, none⟩) 5 (cc1 - 1) else .slice (some ⟨G 2, 0, none⟩) 6 (C 2)) HGL2.out HV.out (fun s => by split <;> rfl) HGO.out.2.2.1 fun h c' wc hc hl hu => ?_).mono ?_
            · refine (calike_torn h 0 2 c' (fun i => if i = 0 then 5 else 6) _ wc (fun i hi => ?_) (by omega) ⟨0, by omega, by show (5 : Nat) ≠ 6; omega⟩).mono ?_
              · have h1 := hc i hi
                rw [Nat.zero_add]
                match i, hi with
                | 0, _ => exact ⟨_, _, h1⟩
                | 1, _ => exact ⟨_, _, h1⟩
              · rintro e w' ⟨rfl, rfl⟩
                exact ⟨rfl, Up.refl _ _⟩
            rintro e w9 ⟨rfl, u9⟩
            have HE := hid (HLS.out.nxt (HLS.out.nul u9))
            clear u9 y0 y1 y2 c1'
            go_wp2_with fail
            refine (wide_nil HE.out).mono ?_
            rintro e wA ⟨rfl, nA⟩
            have HA := hid (HE.out.nxt nA)
            clear nA
            go_wp2_with fail
            refine (cawakeL HA.out).mono ?_
            rintro e wB ⟨rfl, nB⟩
            have HB2 := hid (HA.out.nxt nB)
            clear nB
            go_wp2
            go_ret
            exact ⟨rfl, HB2.out.below⟩
          · go_wp2_with fail
            refine (peel_nil 0 _ _ w8).mono ?_
            rintro e w9 ⟨rfl, u9⟩
            have HE := hid ((H5.out.2.1.nxt H8.out).nxt ((H5.out.2.1.nxt H8.out).nul u9))
            clear u9
            go_wp2_with fail
            refine (wide_nil HE.out).mono ?_
            rintro e wA ⟨rfl, nA⟩
            have HA := hid (HE.out.nxt nA)
            clear nA
            go_wp2_with fail
            refine (cawakeL HA.out).mono ?_
            rintro e wB ⟨rfl, nB⟩
            have HB2 := hid (HA.out.nxt nB)
            clear nB
            go_wp2
            go_ret
            exact ⟨rfl, HB2.out.below⟩
theorem refuses_walk (a0 : Int) (a1 : Option Addr) (len1 cap1 : Nat) (z1 : List Int) (a2 : Int) (w : World) (w1 : CameIn w a1 len1 cap1 z1) :
    Calls Tryz.prog 6 #[.int .i64 a0, .slice a1 len1 cap1, .int .i64 a2] w fun e w' => e = .returned (.bool true) ∧ Below w.heap.size w w' := by
  by_cases h : 400 < len1
  · exact refuses_long a0 a2 a1 len1 cap1 w h
  · obtain ⟨za, hza⟩ := SlN.of w1
    exact refuses_short a0 a2 a1 len1 cap1 za w (by omega) hza
end Go.Proofs.YtmaffnadmfphpaaGreat
