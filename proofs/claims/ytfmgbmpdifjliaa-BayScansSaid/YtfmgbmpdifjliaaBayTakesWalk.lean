/- The law BayTakes, walked, whatever the program's Bay is. -/
import Derived.Test.YtfmgbmpdifjliaaBayReadsWalk
import Derived.Test.YtfmgbmpdifjliaaInts
import Derived.Test.YtfmgbmpdifjliaaHand
namespace Go.Proofs.Ytfmgbmpdifjliaa
open Go.RowKit
set_option linter.unusedVariables false

theorem fst0_is {U : Nat → Bool} : ∀ (k i t : Nat), i ≤ t → t < i + k → (∀ s, i ≤ s → s < t → U s = true) → U t = false → fst0 U k i = some t := by
  intro k
  induction k with
  | zero => intro i t h1 h2; omega
  | succ k ih =>
    intro i t h1 h2 h3 h4
    by_cases e : i = t
    · subst e; exact fst0_no k h4
    · rw [fst0_yes k (h3 i (Nat.le_refl _) (by omega))]
      exact ih (i + 1) t (by omega) (by omega) (fun s a b => h3 s (by omega) b) h4
theorem fst0_none {U : Nat → Bool} : ∀ (k i : Nat), (∀ s, i ≤ s → s < i + k → U s = true) → fst0 U k i = none := by
  intro k
  induction k with
  | zero => intro i _; rfl
  | succ k ih =>
    intro i h
    rw [fst0_yes k (h i (Nat.le_refl _) (by omega))]
    exact ih (i + 1) fun s a b => h s (by omega) (by omega)
theorem us_count {U : Nat → Bool} {i : Nat} : ∀ n, (∀ s, s < n → U s = decide (s < i)) → (us U n).length = min i n := by
  intro n
  induction n with
  | zero => intro _; simp [us]
  | succ n ih =>
    intro h
    have h0 := h n (Nat.lt_succ_self n)
    have hn := ih fun s hs => h s (by omega)
    by_cases e : n < i
    · rw [us_yes (by rw [h0]; simpa using e), List.length_append, hn]
      simp
      omega
    · rw [us_no (by rw [h0]; simpa using e), hn]
      omega
theorem us_all {U : Nat → Bool} (n : Nat) (h : ∀ s, s < n → U s = true) : (us U n).length = n := by
  rw [us_count (i := n) n fun s hs => by rw [h s hs]; simp [hs], Nat.min_self]
set_option maxRecDepth 100000 in
set_option maxHeartbeats 3200000 in
theorem btakes_nat (O : BayOps) (a0 : Int) (a1 : Option Addr) (l1 c1 : Nat) (f : Nat → Int) (w : World) (hf : SlI w a1 l1 f) :
    Calls Try.prog 6 #[.int .i64 a0, .slice a1 l1 c1] w fun e w' => e = .returned (.bool true) ∧ Below w.heap.size w w' := by
  have HF := hid hf
  have l2 : (l1 : Int) ≤ 9223372036854775807 := by have := hf.le; omega
  obtain ⟨m0, hm0, _⟩ := FrL.mask8 a0
  obtain ⟨k0, hk0, hk40⟩ := FrL.rem_lit m0 40 (by omega)
  have hk0 : (m0 : Int) % 40 = (k0 : Int) := hk0
  obtain ⟨n, N⟩ : ∃ n : Nat, n = k0 + 1 := ⟨_, rfl⟩
  have hn1 : (k0 : Int) + 1 = (n : Int) := by omega
  have HN : Hid (1 ≤ n ∧ n ≤ 40) := by show _ ∧ _; omega
  have HCN : Hid (cnt (n : Nat) = n) := by show _ = _; unfold cnt; rw [Int.toNat_natCast]; omega
  have n0 : (n : Int) ≤ 40 := by omega
  have n9 : (1 : Int) ≤ (n : Int) := by omega
  clear hf N hk40
  go_enter Try.func6, Try.ntmps6
  go_wp2_with fail
  refine (bh_new (O := O) (Up.refl Nul w) (n : Nat) n HCN.out).mono ?_
  rintro e w1 ⟨b, rfl, u1, hn⟩
  have HNW := hid hn
  clear hn u1
  go_wp2_with fail
  refine HNW.out.mono ?_
  rintro e w2 ⟨q, rfl, h2⟩
  have G2 := hid h2
  clear h2 HNW
  go_wp2_with fail
  go_loopw [6] (fun i wr => ∃ t : Nat, t ≤ n ∧ i = .int .i64 (t : Nat) ∧ ∃ U, BH O Nul w wr q b n U (fun _ => zer 96) 0 ∧ ∀ s, s < n → U s = decide (s < t)) (fun i _ => n - (intOf i).toNat)
  case atStart => exact ⟨0, Nat.zero_le _, rfl, _, G2.out, fun s _ => by simp⟩
  case round =>
    obtain ⟨t, ht, rfl, U, hb, hu⟩ := hrel
    have HB := hid hb
    have HU := hid hu
    clear hb hu G2
    have t0 : (0 : Int) ≤ (t : Int) := by omega
    by_cases hlt : t < n
    · have t1 : (t : Int) < (n : Int) := by omega
      have HT := hid hlt
      have HFS : Hid (fst0 U n 0 = some t) := fst0_is n 0 t (Nat.zero_le _) (by omega) (fun s _ hs => by rw [HU.out s (by omega)]; simpa using hs) (by rw [HU.out t hlt]; simp)
      have HU2 : Hid (∀ s, s < n → updB U t true s = decide (s < t + 1)) := fun s hs => by
        unfold updB
        by_cases e : s = t
        · subst e; simp
        · rw [if_neg e, HU.out s hs]
          by_cases e2 : s < t
          · simp [e2]; omega
          · simp [e2]; omega
      have HFR : Hid ((n : Int) - ((us (updB U t true) n).length : Nat) = (n : Int) - 1 - (t : Int)) := by
        show _ = _
        rw [us_count (i := t + 1) n HU2.out]
        omega
      have tt : ((t : Int) == (t : Int)) = true := by simp
      have ff : (((n : Int) - 1 - (t : Int)) == ((n : Int) - 1 - (t : Int))) = true := by simp
      go_wp2_with fail
      refine (bh_take HB.out HFS.out).mono ?_
      rintro e w3 ⟨rfl, h3, _⟩
      have G3 := hid h3
      clear h3 hlt ht
      go_wp2_with fail
      refine (bh_free G3.out).mono ?_
      rintro e w4 ⟨rfl, h4, _⟩
      have G4 := hid h4
      rw [HFR.out]
      clear h4 G3
      go_wp2_with fail
      go_round
      case rel => exact ⟨t + 1, HT.out, by go_num, _, G4.out, HU2.out⟩
      case measure => have := HT.out; simp [intOf]; omega
    · obtain rfl : t = n := by omega
      have HFS : Hid (fst0 U t 0 = none) := fst0_none t 0 fun s _ hs => by rw [HU.out s (by omega)]; simp; omega
      go_wp2_with fail
      refine (bh_takeNone HB.out HFS.out).mono ?_
      rintro e w3 ⟨rfl, h3, _⟩
      have G3 := hid h3
      have hmk := make_bools w3 t (by omega)
      have HBR0 := hid (BR.mk (w := w3.alloc (.cells (bls t fun _ => false) 4)) (q := w3.heap.size) (n := t) (U := fun _ => false) (heap_alloc_new _ _))
      have UA := hid ((Up.refl Nul w3).alloc (.cells (bls t fun _ => false) 4))
      have HSZ : Hid (w3.heap.size < (w3.alloc (.cells (bls t fun _ => false) 4)).heap.size) := by show _ < _; simp
      have G4 := hid (h3.own UA.out (Nat.le_refl _) HSZ.out)
      have HW3 : Hid (w.heap.size ≤ w3.heap.size) := h3.up.size
      generalize w3.alloc (.cells (bls t fun _ => false) 4) = w4 at hmk HBR0 UA HSZ G4
      obtain ⟨fb, FB⟩ : ∃ fb, w3.heap.size = fb := ⟨_, rfl⟩
      rw [FB] at hmk HBR0 G4 HW3
      have HUT : Hid (∀ s, s < t → U s = !(fun _ => false : Nat → Bool) s) := fun s hs => by rw [HU.out s hs]; simp [hs]
      clear h3 HB G3 UA HSZ FB
      have HN1 : Hid (1 ≤ t ∧ t ≤ 40) := HN.out
      have HG4 : Hid (∃ U V, BH O (fun y => Nul y ∨ y = fb) w w4 q b t U (fun _ => zer 96) 0 ∧ BR w4 fb t V ∧ ∀ s, s < t → U s = !(V s)) := ⟨U, fun _ => false, G4.out, HBR0.out, HUT.out⟩
      clear HBR0 HUT HU HFS HCN
      go_upto_block 2 with fail
      clear hmk G4
      go_cut [] from 60 to 87 (fun wx => ∃ U V, BH O (fun y => Nul y ∨ y = fb) w wx q b t U (fun _ => zer 96) 0 ∧ BR wx fb t V ∧ ∀ s, s < t → U s = !(V s))
      case first =>
        as_aux_lemma =>
          go_wp2_with fail
          go_loopw [12] (fun i wr => ∃ j : Nat, j ≤ 30 ∧ j ≤ l1 ∧ i = .int .i64 (j : Nat) ∧ ∃ U V, BH O (fun y => Nul y ∨ y = fb) w wr q b t U (fun _ => zer 96) 0 ∧ BR wr fb t V ∧ ∀ s, s < t → U s = !(V s)) (fun i _ => 30 - (intOf i).toNat)
          case atStart => exact ⟨0, by omega, by omega, rfl, HG4.out⟩
          case round =>
            obtain ⟨j, hj, hjl, rfl, U, V, hb, hv, huv⟩ := hrel
            have HB := hid hb
            have HV := hid hv
            have HUV := hid huv
            clear hb hv huv HG4
            have j0 : (0 : Int) ≤ (j : Int) := by omega
            by_cases hlj : j < l1
            · have j1 : (j : Int) < (l1 : Int) := by omega
              by_cases h30 : j < 30
              · have j2 : (j : Int) < 30 := by omega
                have HJ := hid (And.intro h30 hlj)
                obtain ⟨lg, lo, rfl, hlg, hcl⟩ : ∃ g o, a1 = some ⟨g, o, none⟩ ∧ g < w.heap.size ∧ ∀ W, Up Nul w W → W.cell? ⟨g, o + j, none⟩ = some (.int .i64 (f j)) := by
                  rcases HF.out.row with e | ⟨g, o, e, hg, hc⟩
                  · omega
                  · exact ⟨g, o, e, hg, fun W u => (u.cell (p := ⟨g, o + j, none⟩) hg id).trans (hc j hlj)⟩
                have y0 := hcl _ HB.out.up
                obtain ⟨m, hm, _⟩ := FrL.mask16 (f j)
                obtain ⟨k, hk, hkn⟩ := FrL.rem_lit m t (by have := HN1.out; omega)
                have HKN := hid hkn
                have k1 : (0 : Int) ≤ (k : Int) := by omega
                have k2 : (k : Int) < (t : Int) := by omega
                clear hcl hlg hkn hj hjl h30 hlj
                have UR : Hid (Up Nul wr wr.drew) := (Up.refl _ _).drew
                have VC : Hid (wr.drew.cell? ⟨fb, k, none⟩ = some (.bool (V k))) := (HV.out.up UR.out (fun h => h)).cell HKN.out
                have HBR := HB
                have GIVE : Hid (∀ (e : Ending) (w2 : World), (((0 ≤ (k : Int) ∧ (k : Int) < (t : Int) ∧ U (k : Int).toNat = true) ∧ e = .returned (.bool true) ∧ BH O (fun y => Nul y ∨ y = fb) w w2 q b t (updB U (k : Int).toNat false) (fun _ => zer 96) 0 ∧ Sv (fun y => Nul y ∨ y = fb) wr.drew w2) ∨ (¬ (0 ≤ (k : Int) ∧ (k : Int) < (t : Int) ∧ U (k : Int).toNat = true) ∧ e = .returned (.bool false) ∧ BH O (fun y => Nul y ∨ y = fb) w w2 q b t U (fun _ => zer 96) 0 ∧ Sv (fun y => Nul y ∨ y = fb) wr.drew w2)) →
                    ∃ gv, e = .returned (.bool gv) ∧ ((gv == V k) = false ∧ ∃ U', BH O (fun y => Nul y ∨ y = fb) w w2 q b t U' (fun _ => zer 96) 0 ∧ ∀ s, s < t → U' s = !(updB V k true s)) ∧ BR w2 fb t V) := fun e w2 h => by
                  have huk := HUV.out k HKN.out
                  have hbr : Sv (fun y => Nul y ∨ y = fb) wr.drew w2 → BR w2 fb t V := fun sv => ⟨sv fb (.inr rfl) _ _ _ (HV.out.up UR.out (fun h => h)).heap row_dr⟩
                  rcases h with ⟨⟨_, _, h3⟩, rfl, hb, sv⟩ | ⟨h3, rfl, hb, sv⟩
                  · rw [Int.toNat_natCast] at h3 hb
                    refine ⟨true, rfl, ⟨?_, _, hb, fun s hs => ?_⟩, hbr sv⟩
                    · rw [h3] at huk
                      cases hvk : V k
                      · rfl
                      · rw [hvk] at huk; cases huk
                    · unfold updB
                      by_cases e : s = k
                      · rw [if_pos e, if_pos e]; rfl
                      · rw [if_neg e, if_neg e]; exact HUV.out s hs
                  · have h3 : U k = false := by
                      cases hq : U k
                      · rfl
                      · exact absurd ⟨k1, k2, by rw [Int.toNat_natCast]; exact hq⟩ h3
                    refine ⟨false, rfl, ⟨?_, _, hb, fun s hs => ?_⟩, hbr sv⟩
                    · rw [h3] at huk
                      cases hvk : V k
                      · rw [hvk] at huk; cases huk
                      · rfl
                    · unfold updB
                      by_cases e : s = k
                      · subst e; rw [if_pos rfl, h3]; rfl
                      · rw [if_neg e]; exact HUV.out s hs
                go_upto_region 19 with fail
                refine wp_region_held_drew (S := (fun W => W.cell? ⟨fb, k, none⟩ = some (.bool (V k)))) (by kernel_rfl) (by exact VC.out) (fun hHeld => ?_)
                refine wpAnyH_take (i := 0) (oi := ⟨some 77, _, _, _, _, _⟩) (v := ?vg1) rfl (by kernel_rfl) (by kernel_rfl) (by kernel_rfl) (fun _ _ _ h => h) (Or.inl ⟨by rfl, ?yg1⟩) (by assumption) ?rg1
                case yg1 => (intro w hSw; (try dsimp only at hSw); go_simp; try with_reducible rfl)
                try simp only [Act.put, List.setIfInBounds_toArray, List.set_cons_zero, List.set_cons_succ]
                refine wpAnyH_take (i := 1) (oi := ⟨some 78, _, _, _, _, _⟩) (v := ?vg2) rfl (by kernel_rfl) (by kernel_rfl) (by kernel_rfl) (fun _ _ _ h => h) (Or.inl ⟨by rfl, ?yg2⟩) (by assumption) ?rg2
                case yg2 => (intro w hSw; (try dsimp only at hSw); go_simp; try with_reducible rfl)
                try simp only [Act.put, List.setIfInBounds_toArray, List.set_cons_zero, List.set_cons_succ]
                refine wpAnyH_take (i := 3) (oi := ⟨some 80, _, _, _, _, _⟩) (v := ?vg3) rfl (by kernel_rfl) (by kernel_rfl) (by kernel_rfl) (fun _ _ _ h => h) (Or.inl ⟨by rfl, ?yg3⟩) (by assumption) ?rg3
                case yg3 => (intro w hSw; (try dsimp only at hSw); go_simp; try with_reducible rfl)
                try simp only [Act.put, List.setIfInBounds_toArray, List.set_cons_zero, List.set_cons_succ]
                refine wpAnyH_take (i := 4) (oi := ⟨some 81, _, _, _, _, _⟩) (v := ?vg4) rfl (by kernel_rfl) (by kernel_rfl) (by kernel_rfl) (fun _ _ _ h => h) (Or.inl ⟨by rfl, ?yg4⟩) (by assumption) ?rg4
                case yg4 => (intro w hSw; (try dsimp only at hSw); go_simp; try with_reducible rfl)
                try simp only [Act.put, List.setIfInBounds_toArray, List.set_cons_zero, List.set_cons_succ]
                refine wpAnyH_take (i := 5) (oi := ⟨some 82, _, _, _, _, _⟩) (v := ?vg5) rfl (by kernel_rfl) (by kernel_rfl) (by kernel_rfl) (fun _ _ _ h => h) (Or.inl ⟨by rfl, ?yg5⟩) (by assumption) ?rg5
                case yg5 => (intro w hSw; (try dsimp only at hSw); go_simp; try with_reducible rfl)
                try simp only [Act.put, List.setIfInBounds_toArray, List.set_cons_zero, List.set_cons_succ]
                refine wpAnyH_take (i := 6) (oi := ⟨some 83, _, _, _, _, _⟩) (v := ?vg6) rfl (by kernel_rfl) (by kernel_rfl) (by kernel_rfl) (fun _ _ _ h => h) (Or.inl ⟨by rfl, ?yg6⟩) (by assumption) ?rg6
                case yg6 => (intro w hSw; (try dsimp only at hSw); go_simp; try with_reducible rfl)
                try simp only [Act.put, List.setIfInBounds_toArray, List.set_cons_zero, List.set_cons_succ]
                refine wpAnyH_ready (rs := [2]) (by kernel_rfl) (by simp) ?_
                refine AllReadyH.cons (o := ⟨some 79, _, _, _, _, _⟩) rfl (fun K hK => ?_) AllReadyH.nil
                go_simp
                refine (bh_give (HBR.out.nxt UR.out) (k : Nat)).mono ?_; intro e w2 hor; obtain ⟨gv, rfl, hgb, hgs⟩ := GIVE.out e w2 hor; have HGB := hid hgb; have HGS := hid hgs; clear hor hgb hgs
                refine hK.out _ _ ?kg7 (fun hHeld => ?_)
                case kg7 => exact (HGS.out.cell HKN.out)
                clear hK K
                try simp only [Act.put, List.setIfInBounds_toArray, List.set_cons_zero, List.set_cons_succ]
                refine wpAnyH_ready (rs := [7]) (by kernel_rfl) (by simp) ?_
                refine AllReadyH.cons (o := ⟨some 84, _, _, _, _, _⟩) rfl (fun K hK => ?_) AllReadyH.nil
                go_simp
                skip
                refine hK.out _ _ ?kg8 (fun hHeld => ?_)
                case kg8 => exact (HGS.out.cell HKN.out)
                clear hK K
                try simp only [Act.put, List.setIfInBounds_toArray, List.set_cons_zero, List.set_cons_succ]
                refine wpAnyH_done (by kernel_rfl) ?_ _
                obtain ⟨hgf, U', hb2, hu2⟩ := HGB.out
                have HB2 := hid hb2
                have HU2 := hid hu2
                have z1 := HGS.out.cell HKN.out
                have z2 := HGS.out.froz k
                have HV3 := hid (HGS.out.set HKN.out true)
                have HB3 : Hid (BH O (fun y => Nul y ∨ y = fb) w (w2.setCell ⟨fb, k, none⟩ (.bool true)) q b t U' (fun _ => zer 96) 0) := HB2.out.mine ((Up.refl (One fb) w2).put rfl k (.bool true)) (fun x hx => .inr hx) (fun x hx => by unfold One at hx; rw [hx]; exact ⟨_, _, HGS.out.heap, by unfold DD; decide⟩) (fun x hx => by unfold One at hx; rw [hx]; exact HW3.out)
                clear hb2 hu2 HGB y0
                rw [hgf]
                go_wp2_with fail
                go_round
                case rel => exact ⟨j + 1, HJ.out.1, HJ.out.2, by go_num, _, _, HB3.out, HV3.out, HU2.out⟩
                case measure => have := HJ.out.1; simp [intOf]; omega
              · obtain rfl : j = 30 := by omega
                go_wp2_with fail
                go_meet
                exact ⟨U, V, HB.out, HV.out, HUV.out⟩
            · obtain rfl : j = l1 := by omega
              go_wp2_with fail
              go_meet
              exact ⟨U, V, HB.out, HV.out, HUV.out⟩
      obtain ⟨U2, V, hb, hv, huv⟩ := hcut
      have HST : Hid (∃ U, BH O (fun y => Nul y ∨ y = fb) w wc q b t U (fun _ => zer 96) 0 ∧ BR wc fb t V ∧ ∀ s, s < t → U s = (decide (s < 0) || !(V s))) := ⟨U2, hb, hv, fun s hs => by rw [huv s hs]; simp⟩
      clear hb hv huv HG4
      go_wp2_with fail
      go_loopw [14] (fun i wr => ∃ s : Nat, s ≤ t ∧ i = .int .i64 (s : Nat) ∧ ∃ U, BH O (fun y => Nul y ∨ y = fb) w wr q b t U (fun _ => zer 96) 0 ∧ BR wr fb t V ∧ ∀ x, x < t → U x = (decide (x < s) || !(V x))) (fun i _ => t - (intOf i).toNat)
      case atStart => exact ⟨0, Nat.zero_le _, rfl, HST.out⟩
      case round =>
        obtain ⟨s, hs, rfl, U, hb, hv, hu⟩ := hrel
        have HB := hid hb
        have HV := hid hv
        have HU := hid hu
        clear hb hv hu HST
        have s0 : (0 : Int) ≤ (s : Int) := by omega
        by_cases hlt : s < t
        · have s1 : (s : Int) < (t : Int) := by omega
          have HS := hid hlt
          have z1 := HV.out.cell hlt
          cases hvs : V s with
          | false =>
            rw [hvs] at z1
            have HU2 : Hid (∀ x, x < t → U x = (decide (x < s + 1) || !(V x))) := fun x hx => by
              rw [HU.out x hx]
              by_cases e : x = s
              · subst e; simp [hvs]
              · by_cases e2 : x < s
                · have : x < s + 1 := by omega
                  simp [e2, this]
                · have : ¬ x < s + 1 := by omega
                  simp [e2, this]
            clear hlt hs hvs
            go_wp2_with fail
            go_round
            case rel => exact ⟨s + 1, HS.out, by go_num, U, HB.out, HV.out, HU2.out⟩
            case measure => have := HS.out; simp [intOf]; omega
          | true =>
            rw [hvs] at z1
            have HFS : Hid (fst0 U t 0 = some s) := fst0_is t 0 s (Nat.zero_le _) (by omega) (fun x _ hx => by rw [HU.out x (by omega)]; simp [hx]) (by rw [HU.out s hlt]; simp [hvs])
            have HU2 : Hid (∀ x, x < t → updB U s true x = (decide (x < s + 1) || !(V x))) := fun x hx => by
              unfold updB
              by_cases e : x = s
              · subst e; simp
              · rw [if_neg e, HU.out x hx]
                by_cases e2 : x < s
                · have : x < s + 1 := by omega
                  simp [e2, this]
                · have : ¬ x < s + 1 := by omega
                  simp [e2, this]
            have ss : ((s : Int) == (s : Int)) = true := by simp
            clear hlt hs hvs
            go_wp2_with fail
            refine (bh_take HB.out HFS.out).mono ?_
            rintro e w5 ⟨rfl, h5, sv⟩
            have G5 := hid h5
            have HV5 : Hid (BR w5 fb t V) := ⟨sv fb (.inr rfl) _ _ _ HV.out.heap row_dr⟩
            clear h5 sv z1
            go_wp2_with fail
            go_round
            case rel => exact ⟨s + 1, HS.out, by go_num, _, G5.out, HV5.out, HU2.out⟩
            case measure => have := HS.out; simp [intOf]; omega
        · obtain rfl : s = t := by omega
          have HL : Hid ((us U s).length = s) := us_all s fun x hx => by rw [HU.out x hx]; simp [hx]
          have h0 : (s : Int) - (s : Nat) = 0 := by omega
          have ss : ((s : Int) == (s : Int)) = true := by simp
          go_wp2_with fail
          refine (bh_free HB.out).mono ?_
          rintro e w5 ⟨rfl, h5, _⟩
          rw [HL.out]
          try rw [h0]
          have G5 := hid h5
          clear h5 h0
          go_wp2_with fail
          refine (bh_used G5.out).mono ?_
          rintro e w6 ⟨ua, uc, rfl, h6, _⟩
          rw [HL.out]
          have U6 : Hid (Up Nul w w6) := h6.up
          clear h6 G5
          go_wp2_with fail
          refine (bawake_any O _).mono ?_
          rintro e w7 ⟨rfl, k7⟩
          have H7 := hid (U6.out.trans k7)
          clear k7
          go_wp2
          go_ret
          exact ⟨rfl, H7.out.below (Nat.le_refl _) fun _ _ => fun h => h⟩
theorem btakes_walk (O : BayOps) (a0 : Int) (a1 : Option Addr) (l1 c1 : Nat) (z1 : List Int) (w : World) (w1 : CameI w a1 l1 c1 z1) :
    Calls Try.prog 6 #[.int .i64 a0, .slice a1 l1 c1] w fun e w' => e = .returned (.bool true) ∧ Below w.heap.size w w' := by
  obtain ⟨f, hf⟩ := SlI.of w1
  exact btakes_nat O a0 a1 l1 c1 f w hf
end Go.Proofs.Ytfmgbmpdifjliaa
