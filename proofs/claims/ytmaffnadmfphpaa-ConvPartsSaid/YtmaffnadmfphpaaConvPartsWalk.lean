/- The law ConvParts, walked. -/
import Derived.Test.YtmaffnadmfphpaaConvAwake
namespace Go.Proofs.Ytmaffnadmfphpaa
open Go.RowKit
set_option linter.unusedVariables false

theorem i64_and1 (n : Int) : ∃ k : Nat, bits .and .i64 n 1 = (k : Int) ∧ k < 2 := by
  rw [i64_mask 1 (by omega) n 1 (by decide)]
  exact ⟨(n % 2).toNat, by show n % 2 = _; omega, by omega⟩
theorem i64_and3n (n : Int) : ∃ k : Nat, bits .and .i64 n 3 = (k : Int) ∧ k < 4 := by
  rw [i64_mask 2 (by omega) n 3 (by decide)]
  exact ⟨(n % 4).toNat, by show n % 4 = _; omega, by omega⟩
theorem beq_nat (x v : Nat) : ((x : Int) == (v : Int)) = decide (x = v) := by
  by_cases e : x = v
  · subst e
    simp
  · rw [decide_eq_false e]
    exact beq_eq_false_iff_ne.2 (by omega)
set_option maxRecDepth 100000 in
set_option maxHeartbeats 3200000 in
theorem parts_walk (a0 a1 a2 : Int) (w : World) :
    Calls Try.prog 3 #[.int .i64 a0, .int .i64 a1, .int .i64 a2] w fun e w' => e = .returned (.bool true) ∧ Below w.heap.size w w' := by
  obtain ⟨y, hy, hy8⟩ := i64_and255 a0
  obtain ⟨i, hi, hi4⟩ := i64_and3n a1
  obtain ⟨j, hj, hj2⟩ := i64_and1 a2
  have et : (y : Int).tmod 3 = ((y % 3 : Nat) : Int) := by rw [Int.tmod_eq_emod_of_nonneg (by omega)]; simp
  have em : (y : Int) % 3 = ((y % 3 : Nat) : Int) := by simp
  have ht3 : y % 3 < 3 := Nat.mod_lt _ (by omega)
  obtain ⟨t, T⟩ : ∃ t, Hid (y % 3 = t) := ⟨_, rfl⟩
  rw [T.out] at et em ht3
  have HI := hid (And.intro hi4 (And.intro hj2 ht3))
  have w2 : wrap64 (4 * (t : Int) + (i : Int)) = ((4 * t + i : Nat) : Int) := by unfold wrap64; omega
  obtain ⟨p, P⟩ : ∃ p, Hid (4 * t + i = p) := ⟨_, rfl⟩
  rw [P.out] at w2
  clear hi4 hj2 ht3
  go_enter Try.func3, Try.ntmps3
  go_wp2_with fail
  refine (gfNewF _).mono ?_
  rintro e wa ⟨F, rfl, k1⟩
  have H1 := hid ((LS.start w).newF k1)
  clear k1
  go_wp2_with fail
  refine (narrowL H1.out (List.mem_cons_self ..) t HI.out.2.2).mono ?_
  rintro e wb ⟨c, pp, pq, sp, sq, rfl, hc, n1⟩
  have H2 := hid (And.intro (H1.out.nxt n1) hc)
  clear hc n1
  go_wp2_with fail
  refine (wideL H2.out.1 (List.mem_cons_self ..)).mono ?_
  rintro e wc ⟨d, qp, qq, tp, tq, rfl, hd, n2⟩
  have H3 := hid (And.intro (H2.out.1.nxt n2) (And.intro (H2.out.2.nxt n2) hd))
  clear hd n2
  go_wp2_with fail
  go_loopw [12] (fun s wr => ∃ a : Nat, a ≤ 14 ∧ s = .int .i64 a ∧ Up Nul wc wr) (fun s _ => 14 - (intOf s).toNat)
  case atStart => exact ⟨0, by omega, rfl, Up.refl _ _⟩
  case round =>
    obtain ⟨a, ha, rfl, hu⟩ := hrel
    have nn := H3.out.1.nul hu
    have H4 := hid (And.intro (H3.out.1.nxt nn) (And.intro (H3.out.2.1.nxt nn) (H3.out.2.2.nxt nn)))
    have HU := hid hu
    clear hu nn
    by_cases hlt : a < 14
    · have HE : Hid ((cfo 14 4 (ris 0 14) (ris 14 4) (j : Int) (a : Int) = cfo 4 2 (ris (4 * t) 4) (ris 14 2) (j : Int) (i : Int)) ↔ a = p) := by
        have := share_iff HI.out.2.2 HI.out.1 HI.out.2.1 hlt
        rw [← P.out]
        exact this
      obtain ⟨x, X⟩ : ∃ x, Hid (cfo 14 4 (ris 0 14) (ris 14 4) (j : Int) (a : Int) = x) := ⟨_, rfl⟩
      obtain ⟨v, V⟩ : ∃ v, Hid (cfo 4 2 (ris (4 * t) 4) (ris 14 2) (j : Int) (i : Int) = v) := ⟨_, rfl⟩
      rw [X.out, V.out] at HE
      have b1 : ((x : Int) == (v : Int)) = decide (a = p) := (beq_nat x v).trans (decide_eq_decide.2 HE.out)
      have b2 : ((a : Int) == (p : Int)) = decide (a = p) := beq_nat a p
      generalize decide (a = p) = bb at b1 b2
      cases bb
      all_goals
        go_wp2_with fail
        refine (coefL H4.out.2.2 j a).mono ?_
        rintro e wA ⟨rfl, uA⟩
        have nA := H4.out.1.nul uA
        have HA := hid (And.intro (HU.out.trans uA) (And.intro (H4.out.1.nxt nA) (H4.out.2.1.nxt nA)))
        clear nA uA
        rw [X.out]
        go_wp2_with fail
        refine (coefL HA.out.2.2 j i).mono ?_
        rintro e wB ⟨rfl, uB⟩
        have HB := hid (HA.out.1.trans uB)
        clear uB
        rw [V.out]
        go_wp2
        go_roundw
        case rel => exact ⟨a + 1, by omega, by go_num, HB.out⟩
        case measure => simp [intOf]; omega
    · obtain rfl : a = 14 := by omega
      have HC1 : Hid (cfo 4 2 (ris (4 * t) 4) (ris 14 2) 2 0 = 0) := by show _ = _; unfold cfo; rw [if_neg (by omega)]
      have HC2 : Hid (cfo 4 2 (ris (4 * t) 4) (ris 14 2) 0 4 = 0) := by show _ = _; unfold cfo; rw [if_neg (by omega)]
      obtain ⟨x, X⟩ : ∃ x, Hid (cfo 14 4 (ris 0 14) (ris 14 4) 3 13 = x) := ⟨_, rfl⟩
      have hx0 : ¬ (x : Int) = 0 := by
        have : x ≠ 0 := by
          rw [← X.out]
          have := cfo_ris (k := 14) (r := 4) (a := 0) (b := 14) (j := 3) (i := 13) (by omega) (by omega)
          rw [show ((3 : Nat) : Int) = 3 from rfl, show ((13 : Nat) : Int) = 13 from rfl] at this
          rw [this]
          exact GfM.inv_pos (by decide)
        omega
      have hx1 : ((x : Int) == 0) = false := beq_eq_false_iff_ne.2 hx0
      have hx2 : ((x : Int) != 0) = true := by rw [bne, hx1]; rfl
      go_wp2_with fail
      refine (coefL H4.out.2.1 2 0).mono ?_
      rintro e wA ⟨rfl, uA⟩
      have nA := H4.out.1.nul uA
      have HA := hid (And.intro (H4.out.1.nxt nA) (And.intro (H4.out.2.1.nxt nA) (H4.out.2.2.nxt nA)))
      clear nA uA
      rw [HC1.out]
      go_wp2_with fail
      refine (coefL HA.out.2.1 0 4).mono ?_
      rintro e wB ⟨rfl, uB⟩
      have nB := HA.out.1.nul uB
      have HB := hid (And.intro (HA.out.1.nxt nB) (HA.out.2.2.nxt nB))
      clear nB uB
      rw [HC2.out]
      go_wp2_with fail
      refine (coefL HB.out.2 3 13).mono ?_
      rintro e wC ⟨rfl, uC⟩
      have HC := hid (HB.out.1.nxt (HB.out.1.nul uC))
      clear uC
      rw [X.out]
      go_wp2_with fail
      refine (cawakeL HC.out).mono ?_
      rintro e wE ⟨rfl, nE⟩
      have HE := hid (HC.out.nxt nE)
      clear nE
      go_wp2
      go_ret
      exact ⟨rfl, HE.out.below⟩
end Go.Proofs.Ytmaffnadmfphpaa
