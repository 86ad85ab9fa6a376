/- The document's 'Check' where all are there. -/
import Derived.Test.YtkenfabnbmkhbaaGreatDecGood
namespace Go.Proofs.YtkenfabnbmkhbaaGreat
open Go.RowKit
set_option linter.unusedVariables false

def ChkE (k r L : Nat) (Z : List Nat) (R : Nat → List Nat) (w : World) (e : Ending) (w' : World) : Prop :=
  ((e = .returned (.tuple #[.bool true, .int .i64 0]) ∧ ∀ j, j < r → acrZ k L Z R j = R (k + j)) ∨ (e = .returned (.tuple #[.bool false, .int .i64 0]) ∧ ∃ j, j < r ∧ acrZ k L Z R j ≠ R (k + j))) ∧ Up Nul w w'
set_option maxRecDepth 100000 in
set_option maxHeartbeats 3200000 in
theorem refChk_good (FS : List Nat) (w0 w : World) (g cap gx cx gy cy k r n L : Nat) (X Y : List Nat) (S : Nat → Option (List Nat)) (R : Nat → List Nat) (hs : LS w0 FS w) (rX : LR FS w gx 0 X) (rY : LR FS w gy 0 Y) (lX : X.length = k) (lY : Y.length = r)
    (hS : Two w g n S) (hn : n = k + r) (k1 : 1 ≤ k) (k14 : k ≤ 14) (r1 : 1 ≤ r) (r4 : r ≤ 4) (hf : Fine S n L) (hL : L ≤ 64) (sS : ∀ t u, (R t).getD u 0 < 256) (hl : ∀ i z, S i = some z → z.length ≤ 1000) (hA : ∀ t, t < n → S t = some (R t)) :
    Calls Tryz.prog 17 #[.agg #[.slice (some ⟨gx, 0, none⟩) k cx, .slice (some ⟨gy, 0, none⟩) r cy], .slice (some ⟨g, 0, none⟩) n cap] w
      (ChkE k r L (coefZ k r X Y) R w) := by
  have c0 : (w.alloc (.cells #[.slice (some ⟨gx, 0, none⟩) k cx, .slice (some ⟨gy, 0, none⟩) r cy] 26)).cell? ⟨w.heap.size, 0, none⟩ = some (.slice (some ⟨gx, 0, none⟩) k cx) := World.cell?_alloc_new w _ _ 0
  have c1 : (w.alloc (.cells #[.slice (some ⟨gx, 0, none⟩) k cx, .slice (some ⟨gy, 0, none⟩) r cy] 26)).cell? ⟨w.heap.size, 1, none⟩ = some (.slice (some ⟨gy, 0, none⟩) r cy) := World.cell?_alloc_new w _ _ 1
  have U := (Up.refl Nul w).alloc (.cells #[.slice (some ⟨gx, 0, none⟩) k cx, .slice (some ⟨gy, 0, none⟩) r cy] 26)
  have HV : Hid (w.heap.size < (w.alloc (.cells #[.slice (some ⟨gx, 0, none⟩) k cx, .slice (some ⟨gy, 0, none⟩) r cy] 26)).heap.size) := by show _ < _; simp
  have HC := hid (And.intro c0 c1)
  have HS := hid (And.intro (hS.up U) (And.intro hl U))
  have HQ := hid (And.intro hs (And.intro (And.intro rX rY) (And.intro lX lY)))
  have HF := hid (And.intro hf (And.intro sS hA))
  have HN := hid hn
  have hnn : ((k : Int) + (r : Int)) = (n : Int) := by omega
  have hn60 : n ≤ 18 := by omega
  clear hS hl U hn hs rX rY lX lY hf sS hA
  go_enter Tryz.func17, Tryz.ntmps17
  go_wp2_with fail
  generalize w.alloc (.cells #[.slice (some ⟨gx, 0, none⟩) k cx, .slice (some ⟨gy, 0, none⟩) r cy] 26) = W0 at *
  obtain ⟨V, HVV⟩ : ∃ q, Hid (w.heap.size = q) := ⟨_, rfl⟩
  rw [HVV.out] at HV HC
  try rw [HVV.out]
  clear c0 c1
  go_loopw [6, 7] (fun v i wr => ∃ t : Nat, t ≤ n ∧ i = .int .i64 t ∧ v = .int .i64 ((Tl S t).length : Nat) ∧ Up Nul W0 wr) (fun _ i _ => n - (intOf i).toNat)
  case atStart => exact ⟨0, by omega, rfl, rfl, Up.refl _ _⟩
  case round =>
    obtain ⟨t, ht, rfl, rfl, hu⟩ := hrel
    have HU := hid hu
    clear hu
    by_cases hlt : t < n
    · have i0 : (0 : Int) ≤ (t : Int) := by omega
      have i1 : (t : Int) < (n : Int) := by omega
      have hi := (HS.out.1.up HU.out).is t hlt
      have htl := Tl_len S t
      rcases hz : S t with _ | z
      · rw [hz] at hi
        simp only [Option.isSome_none] at hi
        have HT := hid (Tl_none hz)
        clear hz
        go_wp2
        go_roundw
        case rel => exact ⟨t + 1, by omega, by go_num, by rw [HT.out], HU.out⟩
        case measure => simp [intOf]; omega
      · rw [hz] at hi
        simp only [Option.isSome_some] at hi
        have HT := hid (Tl_some hz)
        clear hz
        go_wp2
        go_roundw
        case rel => exact ⟨t + 1, by omega, by go_num, by rw [HT.out, List.length_append]; go_num, HU.out⟩
        case measure => simp [intOf]; omega
    · obtain rfl : n = t := by omega
      have HL := hid (refLen_any g n cap S wr (HS.out.1.up HU.out) (by omega) HS.out.2.1)
      have htl := Tl_len S n
      have HTA : Hid ((Tl S n).length = n) := by show _ = _; rw [Tl_all fun t ht => by rw [HF.out.2.2 t ht]; rfl, List.length_range]
      have hpos : 0 < (Tl S n).length := by have := HTA.out; have := HN.out; omega
      have HSE : Hid (seen S n = L) := seen_len HF.out.1 hpos
      have HNO := hid (fine_not_odd HF.out.1 hL)
      go_wp2_with fail
      refine HL.out.mono ?_
      rintro e w1 ⟨m, ok, rfl, u1, hp⟩
      obtain ⟨rfl, rfl⟩ : m = (L : Int) ∧ ok = true := by
        rcases hp with ⟨i, hi, h, _⟩ | ⟨_, h2, h3⟩
        · exact absurd h (HNO.out i hi)
        · rw [HSE.out] at h2 h3
          exact ⟨h2, by rw [h3]; simp⟩
      have HU1 := hid (HU.out.trans u1)
      clear u1 HL hp HSE HNO HU
      have hk2 : ¬ (((Tl S n).length : Nat) : Int) < (n : Int) := by have := HTA.out; omega
      rw [HTA.out] at hk2 hpos ⊢
      have HLR : Hid (∀ t, t < n → (R t).length = L) := fun t ht => HF.out.1 t ht _ (HF.out.2.2 t ht)
      have hdk : decide (n < n) = false := by simp
      have HT1 := hid (HS.out.1.up HU1.out)
      have hkn : k ≤ n := by have := HN.out; omega
      clear htl hpos HTA
      go_wp2_with fail
      go_loopw [10, 11] (fun v i wx => ∃ t : Nat, t ≤ k ∧ i = .int .i64 t ∧ OwnV 9 w1.heap.size wx v (strV t R) ∧ Up Nul w1 wx) (fun _ i _ => k - (intOf i).toNat)
      case atStart => exact ⟨0, by omega, rfl, OwnV.nil _ _ _, Up.refl _ _⟩
      case round =>
        obtain ⟨t, ht, rfl, ho, hu⟩ := hrel
        have HO := hid (And.intro ho hu)
        clear ho hu
        have q0 := ((HU1.out.trans HO.out.2).cell (p := ⟨V, 0, none⟩) HV.out id).trans HC.out.1
        have q1 := ((HU1.out.trans HO.out.2).cell (p := ⟨V, 1, none⟩) HV.out id).trans HC.out.2
        by_cases hlt : t < k
        · have i0 : (0 : Int) ≤ (t : Int) := by omega
          have i1 : (t : Int) < (k : Int) := by omega
          have i2 : (t : Int) < (n : Int) := by omega
          have hb := (HT1.out.up HO.out.2).b t (by omega)
          rw [HF.out.2.2 t (by omega)] at hb
          simp only [Option.getD_some] at hb
          have HNV : Hid (strV (t + 1) R = strV t R ++ [.string (strOf (R t))]) := strV_next _ _
          have HL1 : Hid ((strV t R).length + 1 ≤ 1000000) := by show _ ≤ _; rw [strV_length]; omega
          generalize strOf (R t) = sr at hb HNV
          go_wp2_with (first
            | (at_builtin; refine wpList_append_vals Tryz.underlying36 info_str rfl (by omega) rfl (.tmp 59) (.tmp 65) rfl w1.heap.size u10 _ rfl (OwnV.alloc HO.out.1 _) ⟨wr.heap.size, 0, none⟩ 1 1 [.string sr] rfl (fun j u hj => by
                match j, hj with
                | 0, hj => cases hj; exact World.cell?_alloc_new wr _ _ 0) (fun u hu => by cases hu with | head => rfl | tail _ h => cases h) rfl HL1.out (by have := HO.out.2.size; simp; omega) ?_; intro v2 w2 G1 G2)
            | go_in)
          go_roundw
          case rel => exact ⟨t + 1, by omega, by go_num, by rw [HNV.out]; exact G1.out, (HO.out.2.alloc _).grown G2.out fun q hq => OwnV.base HO.out.1 q hq⟩
          case measure => simp [intOf]; omega
        · obtain rfl : k = t := by omega
          obtain ⟨gd, cd, rfl, gd1, gd2, cds, _, _⟩ := OwnV.row HO.out.1 (by rw [strV_length]; omega)
          have HDS : Hid (St2 wr gd k R) := ⟨fun i hi => cds i _ (strV_at hi), gd2⟩
          have HUW := hid (HS.out.2.2.trans (HU1.out.trans HO.out.2))
          have HEN := hid (refEnc_any FS w0 wr gx cx gy cy gd cd k r L X Y R (HQ.out.1.nxt (HQ.out.1.nul HUW.out)) (HQ.out.2.1.1.nxt (HQ.out.1.nul HUW.out)) (HQ.out.2.1.2.nxt (HQ.out.1.nul HUW.out)) HQ.out.2.2.1 HQ.out.2.2.2 k1 k14 r4 HDS.out (fun i hi => HLR.out i (by omega)) HF.out.2.1 (by omega))
          have HO2 := hid HO.out.2
          rw [strV_length]
          clear HO gd1 gd2 cds
          go_wp2_with fail
          refine HEN.out.mono ?_
          rintro e w6 ⟨v6, rfl, ho6, u6⟩
          obtain ⟨gp, cp, rfl, gp1, gp2, cps, cfr, cpc⟩ := OwnV.row ho6 (by rw [strV_length]; omega)
          have HP6 : Hid (∀ t, t < r → w6.cell? ⟨gp, t, none⟩ = some (.string (strOf (acrZ k L (coefZ k r X Y) R t)))) := fun t ht => cps t _ (strV_at ht)
          have HG6 := hid gp2
          have HUE := hid (HUW.out.trans u6)
          have HT6 := hid (HT1.out.up (HO2.out.trans u6))
          have s0 := (u6.cell (p := ⟨V, 0, none⟩) (Nat.lt_of_lt_of_le HV.out (HU1.out.trans HO2.out).size) id).trans q0
          have HQ0 := hid s0
          have HV6 : Hid (V < w6.heap.size) := Nat.lt_of_lt_of_le HV.out ((HU1.out.trans HO2.out).trans u6).size
          rw [strV_length]
          clear ho6 u6 gp1 gp2 cps cfr cpc q0 q1 HEN s0
          go_wp2_with fail
          go_loopw [13] (fun i wx => ∃ j : Nat, j ≤ r ∧ i = .int .i64 j ∧ (∀ t, t < j → acrZ k L (coefZ k r X Y) R t = R (k + t)) ∧ Up Nul w6 wx) (fun i _ => r - (intOf i).toNat)
          case atStart => exact ⟨0, by omega, rfl, fun _ h => absurd h (Nat.not_lt_zero _), Up.refl _ _⟩
          case round =>
            obtain ⟨j, hj, rfl, hh, hu⟩ := hrel
            have HH := hid (And.intro hh hu)
            clear hh hu
            by_cases hlt2 : j < r
            · obtain ⟨kj, hkj⟩ : ∃ x, k + j = x := ⟨_, rfl⟩
              have ekj : (k : Int) + (j : Int) = (kj : Int) := by omega
              have hkn2 : kj < n := by have := HN.out; omega
              have HKJ := hid hkj
              have j0 : (0 : Int) ≤ (kj : Int) := by omega
              have j1 : (kj : Int) < (n : Int) := by omega
              have j2 : (j : Int) < (r : Int) := by omega
              have j3 : (0 : Int) ≤ (j : Int) := by omega
              have j4 : IntKind.i64.wrap ((k : Int) + (j : Int)) = (kj : Int) := by rw [IntWalk.i64_in _ (by omega)]; exact ekj
              have hb := (HT6.out.up HH.out.2).b kj hkn2
              rw [HF.out.2.2 kj hkn2] at hb
              simp only [Option.getD_some] at hb
              have p0 := (HH.out.2.cell (p := ⟨gp, j, none⟩) HG6.out id).trans (HP6.out j hlt2)
              have q0 := (HH.out.2.cell (p := ⟨V, 0, none⟩) HV6.out id).trans HQ0.out
              clear hkj
              by_cases he : acrZ k L (coefZ k r X Y) R j = R kj
              · have HE := hid he
                rw [he] at p0
                have hqq : ((strOf (R kj)).toList == (strOf (R kj)).toList) = true := by simp
                have hq2 : ((strOf (R kj)).toList != (strOf (R kj)).toList) = false := by simp
                generalize strOf (R kj) = sr at p0 hb hqq hq2
                clear he
                go_wp2_with fail
                go_region
                go_wp2
                go_roundw
                case rel => exact ⟨j + 1, by omega, by go_num, fun t ht => by
                  by_cases e : t = j
                  · rw [e, HE.out, HKJ.out]
                  · exact HH.out.1 t (by omega), HH.out.2.drewN _⟩
                case measure => simp [intOf]; omega
              · have HE := hid he
                have hqq := str_ne (acrZ_small k L (coefZ k r X Y) R j) (HF.out.2.1 kj) he
                have hq2 : ((strOf (acrZ k L (coefZ k r X Y) R j)).toList != (strOf (R kj)).toList) = true := by simp only [bne, hqq]; rfl
                have HPOST : Hid (∀ w', Up Nul w w' → ChkE k r L (coefZ k r X Y) R w (.returned (.tuple #[.bool false, .int .i64 0])) w') := fun w' u => ⟨.inr ⟨rfl, j, hlt2, by rw [HKJ.out]; exact HE.out⟩, u⟩
                generalize strOf (R kj) = sr at hb hqq hq2
                generalize strOf (acrZ k L (coefZ k r X Y) R j) = sp at p0 hqq hq2
                clear he
                have HUU := hid (HUE.out.trans HH.out.2)
                go_wp2_with fail
                go_region
                go_wp2
                go_ret2
                exact HPOST.out _ (HUU.out.drewN _)
            · obtain rfl : r = j := by omega
              have HPOST : Hid (∀ w', Up Nul w w' → ChkE k r L (coefZ k r X Y) R w (.returned (.tuple #[.bool true, .int .i64 0])) w') := fun w' u => ⟨.inl ⟨rfl, HH.out.1⟩, u⟩
              have HUU := hid (HUE.out.trans HH.out.2)
              go_wp2
              go_ret2
              exact HPOST.out _ HUU.out
end Go.Proofs.YtkenfabnbmkhbaaGreat
