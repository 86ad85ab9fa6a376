/- The law PadTells, walked. -/
import Derived.Test.YtcigmbjipnchaaaPadStr
import Derived.Test.YtcigmbjipnchaaaPadFit
namespace Go.Proofs.Ytcigmbjipnchaaa
open Go.RowKit
set_option linter.unusedVariables false

/-- Nothing, as a string. -/
theorem conv_nil (w : World) : (convert 22 9 (.slice none 0 0)).run Try.prog w = .ok (.string ⟨#[]⟩) w := conv_zero none 0 w
theorem flatB_quart (z : List Nat) (h : z.length ≤ 64) : flatB (quart z) 4 = ful z := by
  have hl := ful_length h
  have e : flatB (quart z) 4 = quart z 0 ++ (quart z 1 ++ (quart z 2 ++ quart z 3)) := by
    simp [flatB, List.range_succ]
  rw [e]
  unfold quart
  have t : ∀ k, (ful z).drop k = ((ful z).drop k).take 16 ++ (ful z).drop (k + 16) := fun k => by
    rw [← List.drop_drop]
    exact (List.take_append_drop 16 _).symm
  have t0 := t 0
  have t1 := t 16
  have t2 := t 32
  have t3 := t 48
  rw [List.drop_eq_nil_of_le (show (ful z).length ≤ 48 + 16 by omega), List.append_nil] at t3
  rw [List.drop_zero] at t0
  show (ful z).take 16 ++ (((ful z).drop 16).take 16 ++ (((ful z).drop 32).take 16 ++ ((ful z).drop 48).take 16)) = ful z
  rw [← t3, ← t2, ← t1, List.take_append_drop]
theorem tells_long (a : Option Addr) (n cap : Nat) (m : Int) (w : World) (h : 300 < n) :
    Calls Try.prog 4 #[.slice a n cap, .int .i64 m] w fun e w' => e = .returned (.bool true) ∧ Below w.heap.size w w' := by
  have i1 : (300 : Int) < (n : Int) := by omega
  go_enter Try.func4, Try.ntmps4
  go_wp2_with fail
  refine (awake_any _).mono ?_
  rintro e w2 ⟨rfl, k2⟩
  go_wp2
  go_ret
  exact ⟨rfl, k2.below (Nat.le_refl _) fun _ _ => id⟩
theorem tells_mid (a : Option Addr) (n cap : Nat) (m : Int) (w : World) (h : n ≤ 300) (h2 : 64 < n) :
    Calls Try.prog 4 #[.slice a n cap, .int .i64 m] w fun e w' => e = .returned (.bool true) ∧ Below w.heap.size w w' := by
  have i1 : ¬ (300 : Int) < (n : Int) := by omega
  have i2 : ¬ (n : Int) ≤ 64 := by omega
  have i3 : decide ((n : Int) ≤ 64) = false := by simp; omega
  go_enter Try.func4, Try.ntmps4
  go_wp2_with fail
  refine (full_bad a n cap w h2).mono ?_
  rintro e w1 ⟨rfl, rfl⟩
  go_wp2_with fail
  refine (cut_bad a n cap w h2).mono ?_
  rintro e w1 ⟨rfl, rfl⟩
  go_wp2_with fail
  refine (awake_any _).mono ?_
  rintro e w2 ⟨rfl, k2⟩
  go_wp2
  go_ret
  exact ⟨rfl, k2.below (Nat.le_refl _) fun _ _ => id⟩
set_option maxRecDepth 100000 in
set_option maxHeartbeats 3200000 in
theorem tells_short (a : Option Addr) (n cap : Nat) (z : List Nat) (m : Int) (w : World) (h : n ≤ 64) (hz : SlN w a n z) :
    Calls Try.prog 4 #[.slice a n cap, .int .i64 m] w fun e w' => e = .returned (.bool true) ∧ Below w.heap.size w w' := by
  have HZ := hid hz
  have HL : Hid (z.length ≤ 64) := by show _ ≤ _; rw [hz.len]; exact h
  have HZL := hid hz.len
  have i1 : ¬ (300 : Int) < (n : Int) := by omega
  have i2 : (n : Int) ≤ 64 := by omega
  clear hz
  go_enter Try.func4, Try.ntmps4
  go_wp2_with fail
  refine (full_some a n cap z w HZ.out h).mono ?_
  rintro e w1 ⟨q, rfl, f1, f2⟩
  have H1 := hid f2
  have HB := hid f1
  clear f1 f2
  go_wp2_with fail
  refine (cut_good a n cap z w1 (HZ.out.nxt H1.out) h).mono ?_
  rintro e w2 ⟨g, rfl, sr, _, u2⟩
  have H2 := hid (H1.out.trans u2)
  have HSR := hid sr
  have HQ : Hid (SlN w2 (some ⟨q, 0, none⟩) 64 (ful z)) := by
    have b := (HB.out.up u2 id)
    have r := b.row 0 64 (by rw [ful_length HL.out]; omega)
    rw [List.drop_zero, List.take_of_length_le (by rw [ful_length HL.out]; omega)] at r
    exact ⟨ful_length HL.out, .inr ⟨q, 0, rfl, b.lt, r⟩, by omega⟩
  have HZ2 := hid (HZ.out.nxt H2.out)
  clear sr u2 H1 HB
  have C1 : Hid (∀ W, Up Nul w2 W → (convert 22 9 (.slice (some ⟨q, 0, none⟩) 64 64)).run Try.prog W = .ok (.string (strOf (ful z))) W) := fun W u => (HQ.out.nxt u).conv 64
  have C2 : Hid (∀ W, Up Nul w2 W → (convert 22 9 (.slice a n cap)).run Try.prog W = .ok (.string (strOf z)) W) := fun W u => (HZ2.out.nxt u).conv cap
  have HF : Hid (∀ W, Calls Try.prog 12 #[.string (strOf z)] W fun e w' => e = .returned (.string (strOf (ful z))) ∧ Up Nul W w') := fun W => refFull_any z W HL.out
  have HC : Hid (∀ W, Calls Try.prog 15 #[.string (strOf z)] W fun e w' => ∃ g, e = .returned (.slice (some ⟨g, 0, none⟩) 4 4) ∧ St2 w' g 4 (quart z) ∧ Up Nul W w') := fun W => refCut_any z W HL.out
  have hqq : ((strOf (ful z)).toList == (strOf (ful z)).toList) = true := by simp
  have HZT : Hid (strOf ((ful z).take n) = strOf z) := by show _ = _; rw [← HZL.out, ful_take HL.out]
  have hzz : ((strOf z).toList == (strOf z).toList) = true := by simp
  have HSF : Hid (∀ k : Nat, k ≤ 64 → ∀ W, (Instr.slice 9 (.string (strOf (ful z))) none (some (.int .i64 (k : Int))) none).run Try.prog W = .ok (.string (strOf ((ful z).take k))) W) := fun k hk W => by
    have := slice_to (strOf (ful z)) k (by rw [quart_le z HL.out]; exact hk) W
    rw [strOf_extract] at this
    simpa using this
  obtain ⟨sf, SF⟩ : ∃ t, Hid (strOf (ful z) = t) := ⟨_, rfl⟩
  obtain ⟨sz, SZ⟩ : ∃ t, Hid (strOf z = t) := ⟨_, rfl⟩
  rw [SF.out] at C1 HF hqq HSF
  rw [SZ.out] at C2 HF HC hzz HZT
  go_wp2_with fail
  have HR0 : Hid (Up Nul w2 w2) := Up.refl _ _
  go_region_held3 (fun w' => Up Nul w2 w' ∧ (convert 22 9 (.slice (some ⟨q, 0, none⟩) 64 64)).run Try.prog w' = .ok (.string sf) w' ∧ (convert 22 9 (.slice a n cap)).run Try.prog w' = .ok (.string sz) w')
    (first | exact ⟨by assumption, C1.out _ (by assumption), C2.out _ (by assumption)⟩ | exact ⟨HR0.out.drew, C1.out _ HR0.out.drew, C2.out _ HR0.out.drew⟩)
    ((first
      | (go_at_call 12; (with_reducible refine (HF.out _).mono ?_); rintro e w4 ⟨rfl, k4⟩; have oi : Up Nul w2 w4 := (by first | exact HR0.out.drew.trans k4 | exact Up.trans (by assumption) k4); clear k4)
      | (go_at_call 14; (with_reducible refine (stringsL (HSR.out.nxt ?_) (by omega) (by omega)).mono ?_); (focus (first | exact HR0.out.drew | assumption)); rintro e w4 ⟨g1, c1, rfl, s1, us⟩; have oi : Up Nul w2 w4 := (by first | exact HR0.out.drew.trans us | exact Up.trans (by assumption) us))
      | (go_at_call 15; (with_reducible refine (HC.out _).mono ?_); rintro e w4 ⟨g2, rfl, s2, uc⟩; have oi : Up Nul w2 w4 := (by first | exact HR0.out.drew.trans uc | exact Up.trans (by assumption) uc))
      | (go_at_call 13; (with_reducible refine (same_yes g1 g2 4 c1 4 (quart z) _ ?_ ?_ (by omega)).mono ?_); (focus (first | exact s1 | exact s1.up uc)); (focus (first | exact s2 | exact s2.up us)); rintro e w4 ⟨rfl, k4⟩; have oi : Up Nul w2 w4 := (by first | exact HR0.out.drew.trans k4 | exact Up.trans (by assumption) k4); clear k4)))
  all_goals
    have H3 := hid oi
    have HJ : Hid (∀ W, Up Nul w2 W → ∀ x : Int, Calls Try.prog 9 #[.slice (some ⟨g, 0, none⟩) 4 4, .int .i64 x] W (JoinP (quart z) 4 x W)) := fun W u x => join_any (some ⟨g, 0, none⟩) 4 4 (quart z) x W (.inr ⟨g, 0, rfl, HSR.out.nxt u⟩)
    clear oi
    go_wp2_with fail
    refine (HJ.out _ H3.out m).mono ?_
    rintro e w5 (⟨hf, k, hm, hk, a5, c5, rfl, k5⟩ | ⟨hf, rfl, k5⟩)
    · subst hm
      have H5 := hid (H3.out.trans k5.up)
      have j1 : (0 : Int) ≤ (k : Int) := by omega
      have j2 : (k : Int) ≤ 64 := by omega
      have c5' := (SlN.conv · c5) k5.sl
      have HK5 := hid k5.sl
      have c2 := C2.out _ H5.out
      have hsl := HSF.out k hk
      clear c5' k5 hf
      go_wp2_with fail
      refine (HF.out _).mono ?_
      rintro e w6 ⟨rfl, k6⟩
      have H6 := hid (H5.out.trans k6)
      have HK6 := hid (HK5.out.nxt k6)
      clear k6 HK5 c2
      go_wp2_with fail
      refine (HJ.out _ H6.out n).mono ?_
      rintro e w7 (⟨hf, k', hm, hk', a7, c7, rfl, k7⟩ | ⟨hf, rfl, k7⟩)
      · obtain rfl : n = k' := by omega
        have H7 := hid (H6.out.trans k7.up)
        have d1 := (HK6.out.nxt k7.up).conv c5
        have d2 := k7.sl.conv c7
        have d3 := C2.out _ H7.out
        rw [flatB_quart z HL.out] at d1 d2
        rw [HZT.out] at d2
        have hkk : ((strOf ((ful z).take k)).toList == (strOf ((ful z).take k)).toList) = true := by simp
        generalize strOf ((ful z).take k) = sk at d1 hkk hsl ⊢
        clear hf hm hk' k7 HK6 hsl
        go_wp2_with fail
        refine (awake_any _).mono ?_
        rintro e w8 ⟨rfl, k8⟩
        have H8 := hid (H2.out.trans (H7.out.trans k8))
        clear k8
        go_wp2
        go_ret
        exact ⟨rfl, H8.out.below (Nat.le_refl _) fun _ _ => id⟩
      · exact absurd ⟨rfl, by omega, by omega, fun i hi => quart_length HL.out hi⟩ hf
    · have H5 := hid (H3.out.trans k5)
      have key : m < 0 ∨ (0 ≤ m ∧ 64 < m) := by
        have : ¬ (0 ≤ m ∧ m ≤ 64) := fun h => hf ⟨rfl, h.1, h.2, fun i hi => quart_length HL.out hi⟩
        omega
      clear hf k5
      rcases key with j1 | ⟨j1, j2⟩
      all_goals
        first
          | (have j3 : decide (m ≤ 64) = false := by simp; omega)
          | skip
        go_wp2_with fail
        refine (HJ.out _ H5.out n).mono ?_
        rintro e w7 (⟨hf, k', hm, hk', a7, c7, rfl, k7⟩ | ⟨hf, rfl, k7⟩)
        · obtain rfl : n = k' := by omega
          have H7 := hid (H5.out.trans k7.up)
          have d1 := conv_nil w7
          have d2 := k7.sl.conv c7
          have d3 := C2.out _ H7.out
          rw [flatB_quart z HL.out] at d2
          rw [HZT.out] at d2
          have hkk : ((⟨#[]⟩ : ByteArray).toList == (⟨#[]⟩ : ByteArray).toList) = true := by simp
          clear hf hm hk' k7
          go_wp2_with fail
          refine (awake_any _).mono ?_
          rintro e w8 ⟨rfl, k8⟩
          have H8 := hid (H2.out.trans (H7.out.trans k8))
          clear k8
          go_wp2
          go_ret
          exact ⟨rfl, H8.out.below (Nat.le_refl _) fun _ _ => id⟩
        · exact absurd ⟨rfl, by omega, by omega, fun i hi => quart_length HL.out hi⟩ hf
theorem tells_walk (a : Option Addr) (n cap : Nat) (zs : List Int) (m : Int) (w : World) (h : CameIn w a n cap zs) :
    Calls Try.prog 4 #[.slice a n cap, .int .i64 m] w fun e w' => e = .returned (.bool true) ∧ Below w.heap.size w w' := by
  by_cases hn : n ≤ 300
  · by_cases h64 : n ≤ 64
    · obtain ⟨z, hz⟩ := SlN.of h
      exact tells_short a n cap z m w h64 hz
    · exact tells_mid a n cap m w hn (by omega)
  · exact tells_long a n cap m w (by omega)
end Go.Proofs.Ytcigmbjipnchaaa
