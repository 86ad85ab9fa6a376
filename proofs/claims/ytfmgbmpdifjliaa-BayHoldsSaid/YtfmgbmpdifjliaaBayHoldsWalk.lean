/- The law BayHolds, walked, whatever the program's Bay is. -/
import Derived.Test.YtfmgbmpdifjliaaBayTakesWalk
namespace Go.Proofs.Ytfmgbmpdifjliaa
open Go.RowKit
set_option linter.unusedVariables false

/-- A row of twelve Booleans: an array's block. -/
structure HR (w : World) (q : Nat) (U : Nat → Bool) : Prop where
  heap : w.heap[q]? = some (.cells (bls 12 U) 41 (0, 0))
section
variable {w w' : World} {q : Nat} {U : Nat → Bool}
theorem HR.lt (h : HR w q U) : q < w.heap.size := (Array.getElem?_eq_some_iff.1 h.heap).1
theorem HR.cell (h : HR w q U) {i : Nat} (hi : i < 12) : w.cell? ⟨q, i, none⟩ = some (.bool (U i)) := by
  simp only [World.cell?, h.heap]
  exact bls_at U hi
theorem HR.froz (h : HR w q U) (i : Nat) : w.frozen? ⟨q, i, none⟩ = false := by simp [World.frozen?, h.heap]
theorem HR.up {S : Nat → Prop} (h : HR w q U) (u : Up S w w') (hs : ¬ S q) : HR w' q U := ⟨(u.block q h.lt hs).trans h.heap⟩
theorem HR.set (h : HR w q U) {i : Nat} (hi : i < 12) (b : Bool) : HR (w.setCell ⟨q, i, none⟩ (.bool b)) q (updB U i b) :=
  ⟨by rw [heap_setCell_same w q i _ _ _ h.heap, bls_set U b hi]⟩
end
theorem arr_dr : ¬ DR 41 := by unfold DR DD RT; decide
theorem us_put {U : Nat → Bool} {k : Nat} (hk : U k = false) : ∀ n, (us (updB U k true) n).length = (us U n).length + if k < n then 1 else 0 := by
  intro n
  induction n with
  | zero => rfl
  | succ n ih =>
    by_cases e : n = k
    · subst e
      rw [us_yes (by unfold updB; rw [if_pos rfl]), us_no hk, List.length_append, ih, if_neg (Nat.lt_irrefl _), if_pos (Nat.lt_succ_self _)]
      rfl
    · have h2 : updB U k true n = U n := by unfold updB; rw [if_neg e]
      have h3 : (if k < n + 1 then 1 else 0) = (if k < n then 1 else 0) := by
        by_cases e2 : k < n
        · rw [if_pos e2, if_pos (by omega)]
        · rw [if_neg e2, if_neg (by omega)]
      rw [h3]
      cases e2 : U n with
      | true => rw [us_yes (by rw [h2, e2]), us_yes e2, List.length_append, List.length_append, ih]; omega
      | false => rw [us_no (by rw [h2, e2]), us_no e2, ih]
theorem updB_same {U : Nat → Bool} {k : Nat} {b : Bool} (h : U k = b) (s : Nat) : updB U k b s = U s := by
  unfold updB
  by_cases e : s = k
  · rw [if_pos e, e, h]
  · rw [if_neg e]
theorem us_congr {U V : Nat → Bool} : ∀ n, (∀ s, s < n → U s = V s) → us U n = us V n := by
  intro n
  induction n with
  | zero => intro _; rfl
  | succ n ih =>
    intro h
    rw [us, us, h n (Nat.lt_succ_self n), ih fun s hs => h s (by omega)]
set_option maxRecDepth 100000 in
set_option maxHeartbeats 3200000 in
theorem bholds_nat (O : BayOps) (a1 : Option Addr) (l1 c1 : Nat) (f : Nat → Int) (w : World) (hf : SlI w a1 l1 f) :
    Calls Try.prog 4 #[.slice a1 l1 c1] w fun e w' => e = .returned (.bool true) ∧ Below w.heap.size w w' := by
  have HF := hid hf
  have l2 : (l1 : Int) ≤ 9223372036854775807 := by have := hf.le; omega
  clear hf
  go_enter Try.func4, Try.ntmps4
  go_wp2_with fail
  refine (bh_new (O := O) (Up.refl Nul w) 12 12 rfl).mono ?_
  rintro e w1 ⟨b, rfl, u1, hn⟩
  have HNW := hid hn
  clear hn u1
  go_wp2_with fail
  refine HNW.out.mono ?_
  rintro e w2 ⟨q, rfl, h2⟩
  have G2 := hid h2
  clear h2 HNW
  go_upto_block 0 with fail
  have HBR0 : Hid (HR (w2.alloc (.cells #[.bool false, .bool false, .bool false, .bool false, .bool false, .bool false, .bool false, .bool false, .bool false, .bool false, .bool false, .bool false] 41)) w2.heap.size (fun _ => false)) := HR.mk (heap_alloc_new _ _)
  have UA := hid ((Up.refl Nul w2).alloc (.cells #[.bool false, .bool false, .bool false, .bool false, .bool false, .bool false, .bool false, .bool false, .bool false, .bool false, .bool false, .bool false] 41))
  have HSZ : Hid (w2.heap.size < (w2.alloc (.cells #[.bool false, .bool false, .bool false, .bool false, .bool false, .bool false, .bool false, .bool false, .bool false, .bool false, .bool false, .bool false] 41)).heap.size) := by show _ < _; simp
  have G4 := hid (G2.out.own UA.out (Nat.le_refl _) HSZ.out)
  have HW3 : Hid (w.heap.size ≤ w2.heap.size) := G2.out.up.size
  generalize w2.alloc (.cells #[.bool false, .bool false, .bool false, .bool false, .bool false, .bool false, .bool false, .bool false, .bool false, .bool false, .bool false, .bool false] 41) = w4 at HBR0 UA HSZ G4 ⊢
  obtain ⟨fb, FB⟩ : ∃ fb, w2.heap.size = fb := ⟨_, rfl⟩
  rw [FB] at HBR0 G4 HW3
  have HG4 : Hid (∃ U V, BH O (fun y => Nul y ∨ y = fb) w w4 q b 12 U (fun _ => zer 96) 0 ∧ HR w4 fb V ∧ (∀ s, s < 12 → U s = V s) ∧ (us V 12).length = 0) := ⟨_, fun _ => false, G4.out, HBR0.out, fun _ _ => rfl, by decide⟩
  rw [FB]
  clear UA HSZ FB HBR0 G4 G2
  go_cut [5] from 15 to 44 (fun s5 wx => ∃ m : Nat, s5 = .int .i64 m ∧ m ≤ 12 ∧ ∃ U V, BH O (fun y => Nul y ∨ y = fb) w wx q b 12 U (fun _ => zer 96) 0 ∧ HR wx fb V ∧ (∀ s, s < 12 → U s = V s))
  case first =>
    as_aux_lemma =>
      go_wp2_with fail
      go_loopw [5, 6] (fun s5 i wr => ∃ m : Nat, s5 = .int .i64 m ∧ ∃ j : Nat, j ≤ 20 ∧ j ≤ l1 ∧ i = .int .i64 (j : Nat) ∧ ∃ U V, BH O (fun y => Nul y ∨ y = fb) w wr q b 12 U (fun _ => zer 96) 0 ∧ HR wr fb V ∧ (∀ s, s < 12 → U s = V s) ∧ (us V 12).length = m) (fun _ i _ => 20 - (intOf i).toNat)
      case atStart => obtain ⟨U, V, h1, h2, h3, h4⟩ := HG4.out; exact ⟨0, rfl, 0, by omega, by omega, rfl, U, V, h1, h2, h3, h4⟩
      case round =>
        obtain ⟨m, rfl, j, hj, hjl, rfl, U, V, hb, hv, huv, hm⟩ := hrel
        have HB := hid hb
        have HV := hid hv
        have HUV := hid huv
        have HM := hid hm
        have m12 : m ≤ 12 := by rw [← hm]; exact us_length V 12
        have m12 : (m : Int) ≤ 12 := by omega
        have m0 : (0 : Int) ≤ (m : Int) := by omega
        clear hb hv huv hm HG4
        have j0 : (0 : Int) ≤ (j : Int) := by omega
        by_cases hlj : j < l1
        · have j1 : (j : Int) < (l1 : Int) := by omega
          by_cases h30 : j < 20
          · have j2 : (j : Int) < 20 := by omega
            have HJ := hid (And.intro h30 hlj)
            obtain ⟨lg, lo, rfl, hlg, hcl⟩ : ∃ g o, a1 = some ⟨g, o, none⟩ ∧ g < w.heap.size ∧ ∀ W, Up Nul w W → W.cell? ⟨g, o + j, none⟩ = some (.int .i64 (f j)) := by
              rcases HF.out.row with e | ⟨g, o, e, hg, hc⟩
              · omega
              · exact ⟨g, o, e, hg, fun W u => (u.cell (p := ⟨g, o + j, none⟩) hg id).trans (hc j hlj)⟩
            have y0 := hcl _ HB.out.up
            obtain ⟨mm, hm, _⟩ := FrL.mask8 (f j)
            obtain ⟨k, hk, hkn⟩ := FrL.rem_lit mm 12 (by omega)
            have hk : (mm : Int) % 12 = (k : Int) := hk
            have HKN := hid hkn
            have k1 : (0 : Int) ≤ (k : Int) := by omega
            have k2 : (k : Int) < 12 := by omega
            clear hcl hlg hkn hj hjl h30 hlj
            have UR : Hid (Up Nul wr wr.drew) := (Up.refl _ _).drew
            have VC : Hid (wr.drew.cell? ⟨fb, k, none⟩ = some (.bool (V k))) := (HV.out.up UR.out (fun h => h)).cell HKN.out
            have HBR := HB
            have HOLD : Hid (∀ (e : Ending) (w2 : World), (((0 ≤ (k : Int) ∧ (k : Int) < ((12 : Nat) : Int) ∧ U (k : Int).toNat = false) ∧ e = .returned (.bool true) ∧ BH O (fun y => Nul y ∨ y = fb) w w2 q b 12 (updB U (k : Int).toNat true) (fun _ => zer 96) 0 ∧ Sv (fun y => Nul y ∨ y = fb) wr.drew w2) ∨ (¬ (0 ≤ (k : Int) ∧ (k : Int) < ((12 : Nat) : Int) ∧ U (k : Int).toNat = false) ∧ e = .returned (.bool false) ∧ BH O (fun y => Nul y ∨ y = fb) w w2 q b 12 U (fun _ => zer 96) 0 ∧ Sv (fun y => Nul y ∨ y = fb) wr.drew w2)) →
                ∃ gv, e = .returned (.bool gv) ∧ ((gv == V k) = false ∧ ∃ U', BH O (fun y => Nul y ∨ y = fb) w w2 q b 12 U' (fun _ => zer 96) 0 ∧ ∀ s, s < 12 → U' s = updB V k true s) ∧ HR w2 fb V) := fun e w2 h => by
              have huk := HUV.out k HKN.out
              have hbr : Sv (fun y => Nul y ∨ y = fb) wr.drew w2 → HR w2 fb V := fun sv => ⟨sv fb (.inr rfl) _ _ _ (HV.out.up UR.out (fun h => h)).heap arr_dr⟩
              rcases h with ⟨⟨_, _, h3⟩, rfl, hb, sv⟩ | ⟨h3, rfl, hb, sv⟩
              · rw [Int.toNat_natCast] at h3 hb
                refine ⟨true, rfl, ⟨?_, _, hb, fun s hs => ?_⟩, hbr sv⟩
                · rw [← huk, h3]; rfl
                · unfold updB
                  by_cases e : s = k
                  · rw [if_pos e, if_pos e]
                  · rw [if_neg e, if_neg e]; exact HUV.out s hs
              · have h3 : U k = true := by
                  cases hq : U k
                  · exact absurd ⟨k1, by omega, by rw [Int.toNat_natCast]; exact hq⟩ h3
                  · rfl
                refine ⟨false, rfl, ⟨?_, _, hb, fun s hs => ?_⟩, hbr sv⟩
                · rw [← huk, h3]; rfl
                · rw [updB_same (by rw [← huk, h3])]; exact HUV.out s hs
            go_upto_region 10 with fail
            refine wp_region_held_drew (S := (fun W => W.cell? ⟨fb, k, none⟩ = some (.bool (V k)))) (by kernel_rfl) (by exact VC.out) (fun hHeld => ?_)
            refine wpAnyH_take (i := 0) (oi := ⟨some 31, _, _, _, _, _⟩) (v := ?vg1) rfl (by kernel_rfl) (by kernel_rfl) (by kernel_rfl) (fun _ _ _ h => h) (Or.inl ⟨by rfl, ?yg1⟩) (by assumption) ?rg1
            case yg1 => (intro w hSw; (try dsimp only at hSw); go_simp; try with_reducible rfl)
            try simp only [Act.put, List.setIfInBounds_toArray, List.set_cons_zero, List.set_cons_succ]
            refine wpAnyH_take (i := 1) (oi := ⟨some 32, _, _, _, _, _⟩) (v := ?vg2) rfl (by kernel_rfl) (by kernel_rfl) (by kernel_rfl) (fun _ _ _ h => h) (Or.inl ⟨by rfl, ?yg2⟩) (by assumption) ?rg2
            case yg2 => (intro w hSw; (try dsimp only at hSw); go_simp; try with_reducible rfl)
            try simp only [Act.put, List.setIfInBounds_toArray, List.set_cons_zero, List.set_cons_succ]
            refine wpAnyH_take (i := 3) (oi := ⟨some 34, _, _, _, _, _⟩) (v := ?vg3) rfl (by kernel_rfl) (by kernel_rfl) (by kernel_rfl) (fun _ _ _ h => h) (Or.inl ⟨by rfl, ?yg3⟩) (by assumption) ?rg3
            case yg3 => (intro w hSw; (try dsimp only at hSw); go_simp; try with_reducible rfl)
            try simp only [Act.put, List.setIfInBounds_toArray, List.set_cons_zero, List.set_cons_succ]
            refine wpAnyH_take (i := 4) (oi := ⟨some 35, _, _, _, _, _⟩) (v := ?vg4) rfl (by kernel_rfl) (by kernel_rfl) (by kernel_rfl) (fun _ _ _ h => h) (Or.inl ⟨by rfl, ?yg4⟩) (by assumption) ?rg4
            case yg4 => (intro w hSw; (try dsimp only at hSw); go_simp; try with_reducible rfl)
            try simp only [Act.put, List.setIfInBounds_toArray, List.set_cons_zero, List.set_cons_succ]
            refine wpAnyH_take (i := 5) (oi := ⟨some 36, _, _, _, _, _⟩) (v := ?vg5) rfl (by kernel_rfl) (by kernel_rfl) (by kernel_rfl) (fun _ _ _ h => h) (Or.inl ⟨by rfl, ?yg5⟩) (by assumption) ?rg5
            case yg5 => (intro w hSw; (try dsimp only at hSw); go_simp; try with_reducible rfl)
            try simp only [Act.put, List.setIfInBounds_toArray, List.set_cons_zero, List.set_cons_succ]
            refine wpAnyH_ready (rs := [2]) (by kernel_rfl) (by simp) ?_
            refine AllReadyH.cons (o := ⟨some 33, _, _, _, _, _⟩) rfl (fun K hK => ?_) AllReadyH.nil
            go_simp
            refine (bh_hold (HBR.out.nxt UR.out) (k : Nat)).mono ?_; intro e w2 hor; obtain ⟨gv, rfl, hgb, hgs⟩ := HOLD.out e w2 hor; have HGB := hid hgb; have HGS := hid hgs; clear hor hgb hgs
            refine hK.out _ _ ?kg6 (fun hHeld => ?_)
            case kg6 => exact (HGS.out.cell HKN.out)
            clear hK K
            try simp only [Act.put, List.setIfInBounds_toArray, List.set_cons_zero, List.set_cons_succ]
            refine wpAnyH_ready (rs := [6]) (by kernel_rfl) (by simp) ?_
            refine AllReadyH.cons (o := ⟨some 37, _, _, _, _, _⟩) rfl (fun K hK => ?_) AllReadyH.nil
            go_simp
            skip
            refine hK.out _ _ ?kg7 (fun hHeld => ?_)
            case kg7 => exact (HGS.out.cell HKN.out)
            clear hK K
            try simp only [Act.put, List.setIfInBounds_toArray, List.set_cons_zero, List.set_cons_succ]
            refine wpAnyH_done (by kernel_rfl) ?_ _
            obtain ⟨hgf, U', hb2, hu2⟩ := HGB.out
            have HB2 := hid hb2
            have HU2 := hid hu2
            have z1 := HGS.out.cell HKN.out
            have z2 := HGS.out.froz k
            have HV3 := hid (HGS.out.set HKN.out true)
            have HB3 : Hid (BH O (fun y => Nul y ∨ y = fb) w (w2.setCell ⟨fb, k, none⟩ (.bool true)) q b 12 U' (fun _ => zer 96) 0) := HB2.out.mine ((Up.refl (One fb) w2).put rfl k (.bool true)) (fun x hx => .inr hx) (fun x hx => by unfold One at hx; rw [hx]; exact ⟨_, _, HGS.out.heap, by unfold DD; decide⟩) (fun x hx => by unfold One at hx; rw [hx]; exact HW3.out)
            clear hb2 hu2 HGB y0
            repeat clear hHeld
            rw [hgf]
            cases hvk : V k with
            | false =>
              have HM2 : Hid ((us (updB V k true) 12).length = m + 1) := by
                have := us_put hvk 12
                rw [if_pos HKN.out, HM.out] at this
                exact this
              rw [hvk] at z1
              clear hvk hgf
              go_wp2_with fail
              go_round
              case rel => exact ⟨m + 1, by go_num, j + 1, HJ.out.1, HJ.out.2, by go_num, _, _, HB3.out, HV3.out, HU2.out, HM2.out⟩
              case measure => have := HJ.out.1; simp [intOf]; omega
            | true =>
              have HM2 : Hid ((us (updB V k true) 12).length = m) := by
                rw [us_congr 12 fun s _ => updB_same hvk s]
                exact HM.out
              rw [hvk] at z1
              clear hvk hgf
              go_wp2_with fail
              go_round
              case rel => exact ⟨m, rfl, j + 1, HJ.out.1, HJ.out.2, by go_num, _, _, HB3.out, HV3.out, HU2.out, HM2.out⟩
              case measure => have := HJ.out.1; simp [intOf]; omega
          · obtain rfl : j = 20 := by omega
            go_wp2_with fail
            go_meet
            exact ⟨m, rfl, by omega, U, V, HB.out, HV.out, HUV.out⟩
        · obtain rfl : j = l1 := by omega
          go_wp2_with fail
          go_meet
          exact ⟨m, rfl, by omega, U, V, HB.out, HV.out, HUV.out⟩
  obtain ⟨m, rfl, hm, U2, V, hb, hv, huv⟩ := hcut
  have m12 : (m : Int) ≤ 12 := by omega
  have HST : Hid (∃ U, BH O (fun y => Nul y ∨ y = fb) w wc q b 12 U (fun _ => zer 96) 0 ∧ HR wc fb V ∧ ∀ s, s < 12 → U s = (decide (s < 0) || V s)) := ⟨U2, hb, hv, fun s hs => by rw [huv s hs]; simp⟩
  clear hb hv huv HG4 hm
  go_wp2_with fail
  go_loopw [8] (fun i wr => ∃ s : Nat, s ≤ 12 ∧ i = .int .i64 (s : Nat) ∧ ∃ U, BH O (fun y => Nul y ∨ y = fb) w wr q b 12 U (fun _ => zer 96) 0 ∧ HR wr fb V ∧ ∀ x, x < 12 → U x = (decide (x < s) || V x)) (fun i _ => 12 - (intOf i).toNat)
  case atStart => exact ⟨0, Nat.zero_le _, rfl, HST.out⟩
  case round =>
    obtain ⟨s, hs, rfl, U, hb, hv, hu⟩ := hrel
    have HB := hid hb
    have HV := hid hv
    have HU := hid hu
    clear hb hv hu HST
    have s0 : (0 : Int) ≤ (s : Int) := by omega
    by_cases hlt : s < 12
    · have s1 : (s : Int) < 12 := by omega
      have HS := hid hlt
      have z1 := HV.out.cell hlt
      cases hvs : V s with
      | true =>
        rw [hvs] at z1
        have HU2 : Hid (∀ x, x < 12 → U x = (decide (x < s + 1) || V x)) := fun x hx => by
          rw [HU.out x hx]
          by_cases e : x = s
          · subst e; simp [hvs]
          · by_cases e2 : x < s
            · have : x < s + 1 := by omega
              simp [e2, this]
            · have : ¬ x < s + 1 := by omega
              simp [e2, this]
        clear hlt hs hvs
        go_wp2_with fail
        go_round
        case rel => exact ⟨s + 1, HS.out, by go_num, U, HB.out, HV.out, HU2.out⟩
        case measure => have := HS.out; simp [intOf]; omega
      | false =>
        rw [hvs] at z1
        have HFS : Hid (fst0 U 12 0 = some s) := fst0_is 12 0 s (Nat.zero_le _) (by omega) (fun x _ hx => by rw [HU.out x (by omega)]; simp [hx]) (by rw [HU.out s hlt]; simp [hvs])
        have HU2 : Hid (∀ x, x < 12 → updB U s true x = (decide (x < s + 1) || V x)) := fun x hx => by
          unfold updB
          by_cases e : x = s
          · subst e; simp
          · rw [if_neg e, HU.out x hx]
            by_cases e2 : x < s
            · have : x < s + 1 := by omega
              simp [e2, this]
            · have : ¬ x < s + 1 := by omega
              simp [e2, this]
        have ss : ((s : Int) == (s : Int)) = true := by simp
        clear hlt hs hvs
        go_wp2_with fail
        refine (bh_take HB.out HFS.out).mono ?_
        rintro e w5 ⟨rfl, h5, sv⟩
        have G5 := hid h5
        have HV5 : Hid (HR w5 fb V) := ⟨sv fb (.inr rfl) _ _ _ HV.out.heap arr_dr⟩
        clear h5 sv z1
        go_wp2_with fail
        go_round
        case rel => exact ⟨s + 1, HS.out, by go_num, _, G5.out, HV5.out, HU2.out⟩
        case measure => have := HS.out; simp [intOf]; omega
    · obtain rfl : s = 12 := by omega
      have HA : Hid (∀ x, x < 12 → U x = true) := fun x hx => by rw [HU.out x hx]; simp [hx]
      have HL : Hid ((us U 12).length = 12) := us_all 12 HA.out
      have h0 : ((12 : Nat) : Int) - (12 : Nat) = 0 := by omega
      go_wp2_with fail
      refine (bh_free HB.out).mono ?_
      rintro e w5 ⟨rfl, h5, _⟩
      rw [HL.out]
      try rw [h0]
      have G5 := hid h5
      clear h5 h0
      go_wp2_with fail
      refine (bh_used G5.out).mono ?_
      rintro e w6 ⟨ua, uc, rfl, h6, _⟩
      rw [HL.out]
      have G6 := hid h6
      clear h6 G5
      go_wp2_with fail
      refine (bh_hold G6.out 12).mono ?_
      rintro e w7 (⟨⟨_, hx, _⟩, _⟩ | ⟨_, rfl, h7, _⟩)
      · exact absurd hx (by decide)
      have G7 := hid h7
      clear h7 G6
      go_wp2_with fail
      refine (bh_hold G7.out (-1)).mono ?_
      rintro e w8 (⟨⟨hx, _, _⟩, _⟩ | ⟨_, rfl, h8, _⟩)
      · exact absurd hx (by decide)
      have G8 := hid h8
      clear h8 G7
      go_wp2_with fail
      refine (bh_give G8.out 12).mono ?_
      rintro e w9 (⟨⟨_, hx, _⟩, _⟩ | ⟨_, rfl, h9, _⟩)
      · exact absurd hx (by decide)
      have G9 := hid h9
      clear h9 G8
      go_wp2_with fail
      refine (bh_give G9.out 3).mono ?_
      rintro e w10 (⟨_, rfl, h10, _⟩ | ⟨hx, _⟩)
      rotate_left
      · exact absurd ⟨by decide, by decide, HA.out 3 (by omega)⟩ hx
      have G10 := hid h10
      clear h10 G9
      go_wp2_with fail
      refine (bh_give G10.out 3).mono ?_
      rintro e w11 (⟨⟨_, _, hx⟩, _⟩ | ⟨_, rfl, h11, _⟩)
      · unfold updB at hx; rw [if_pos rfl] at hx; cases hx
      have U11 : Hid (Up Nul w w11) := h11.up
      clear h11 G10
      go_wp2_with fail
      refine (bawake_any O _).mono ?_
      rintro e w12 ⟨rfl, k12⟩
      have H12 := hid (U11.out.trans k12)
      clear k12
      go_wp2
      go_ret
      exact ⟨rfl, H12.out.below (Nat.le_refl _) fun _ _ => fun h => h⟩
theorem bholds_walk (O : BayOps) (a1 : Option Addr) (l1 c1 : Nat) (z1 : List Int) (w : World) (w1 : CameI w a1 l1 c1 z1) :
    Calls Try.prog 4 #[.slice a1 l1 c1] w fun e w' => e = .returned (.bool true) ∧ Below w.heap.size w w' := by
  obtain ⟨f, hf⟩ := SlI.of w1
  exact bholds_nat O a1 l1 c1 f w hf
end Go.Proofs.Ytfmgbmpdifjliaa
