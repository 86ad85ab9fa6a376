/- The law DiskLost, walked. -/
import Derived.Test.YtcehphnpffedhaaDiskLaw
namespace Go.Proofs.Ytcehphnpffedhaa
open Go.RowKit
set_option linter.unusedVariables false

set_option maxRecDepth 100000 in
set_option maxHeartbeats 3200000 in
theorem lost_any (a : Option Addr) (n cap : Nat) (z : List Nat) (w : World) (hz : SlN w a n z) :
    Calls Try.prog 8 #[.slice a n cap] w fun e w' => e = .returned (.bool true) ∧ Below w.heap.size w w' := by
  have HZ := hid hz
  have HN : Hid (n ≤ 9223372036854775807) := hz.le
  clear hz
  go_enter Try.func8, Try.ntmps8
  go_wp2_with fail
  refine (newH_nil (Up.refl Nul w) 5 5 rfl).mono ?_
  rintro e w1 ⟨b, rfl, h1, h2⟩
  have H1 := hid h1
  have U1 := hid h2
  clear h1 h2
  go_wp2_with fail
  go_loopw [4] (fun i wr => ∃ k, k ≤ 20 ∧ k ≤ n ∧ i = .int .i64 (k : Nat) ∧ ∃ R ps, H w wr b 5 none none true R ps ∧ ps.length = k ∧ Up Nul w wr) (fun i _ => 20 - (intOf i).toNat)
  case atStart => exact ⟨0, by omega, by omega, rfl, _, _, H1.out, rfl, U1.out⟩
  case round =>
    obtain ⟨k, hk, hkn, rfl, R, ps, hh, hl, hu⟩ := hrel
    have H2 := hid hh
    have U2 := hid hu
    have HL := hid hl
    clear hh hl hu H1 U1
    have i0 : (0 : Int) ≤ (k : Int) := by omega
    by_cases hlt : k < n
    · have i1 : (k : Int) < (n : Int) := by omega
      by_cases h20 : k < 20
      · have i2 : (k : Int) < 20 := by omega
        obtain ⟨bb, o, rfl, hbl, hrow⟩ : ∃ bb o, a = some ⟨bb, o, none⟩ ∧ bb < w.heap.size ∧ Row w bb o z := by
          rcases HZ.out.row with e | e
          · omega
          · exact e
        have x1 := (hrow.up U2.out hbl id).cells k (by rw [HZ.out.len]; exact hlt)
        have hv := hrow.small k
        generalize z.getD k 0 = v at x1 hv
        have HV := hid hv
        obtain ⟨s, hs, hs5⟩ := rem_lit k 5 (by omega)
        have hs : (k : Int) % 5 = (s : Int) := hs
        have HS := hid hs5
        clear hrow hbl hv hs5
        go_wp2_with fail
        refine (fullH v wr HV.out).mono ?_
        rintro e w2 ⟨q, rfl, k1, k2⟩
        have U3 := hid (U2.out.trans k2)
        go_wp2_with fail
        refine (writeH (s := s) (H2.out.nxt k2) U3.out HS.out (by decide) (by have := HL.out; omega) k1 (ful_length v)).mono ?_
        rintro e w3 ⟨rfl, h1, h2, _⟩
        have H4 := hid h1
        have U4 := hid h2
        have HL2 : Hid ((ps ++ [(s, R s)]).length = k + 1) := by show _ = _; rw [List.length_append, HL.out]; rfl
        clear h1 h2 k1 k2 H2 U2 U3
        go_wp2
        go_roundw
        case rel => exact ⟨k + 1, by omega, by omega, by go_num, _, _, H4.out, HL2.out, U4.out⟩
        case measure => simp [intOf]; omega
      · have i2 : ¬ (k : Int) < 20 := by omega
        clear HZ
        go_wp2_with fail
        refine (syncH H2.out U2.out (by decide)).mono ?_
        rintro e w2 ⟨rfl, h1, h2, _⟩
        clear H2 U2
        have H2 := hid h1
        have U2 := hid h2
        clear h1 h2
        go_wp2_with fail
        refine (failH H2.out U2.out).mono ?_
        rintro e w3 ⟨rfl, h1, h2, _⟩
        clear H2 U2
        have H2 := hid h1
        have U2 := hid h2
        clear h1 h2
        go_wp2_with fail
        refine (readH_gone (s := 0) H2.out (by omega)).mono ?_
        rintro e w4 ⟨rfl, rfl⟩
        go_wp2_with fail
        refine (fullH 1 _ (by omega)).mono ?_
        rintro e w5 ⟨q, rfl, k1, k2⟩
        have H3 := hid (H2.out.nxt k2)
        have U3 := hid (U2.out.trans k2)
        clear k1 k2 H2 U2
        go_wp2_with fail
        refine (writeH_gone (s := 0) H3.out (by omega) _ _).mono ?_
        rintro e w6 ⟨rfl, rfl⟩
        go_wp2_with fail
        refine (syncH_gone H3.out).mono ?_
        rintro e w7 ⟨rfl, rfl⟩
        go_wp2_with fail
        refine (rotH_gone (s := 0) (t := 0) H3.out (by omega) (by omega) _).mono ?_
        rintro e w8 ⟨rfl, rfl⟩
        go_wp2_with fail
        refine (liveH H3.out).mono ?_
        rintro e w9 ⟨rfl, rfl⟩
        go_wp2_with fail
        refine (replaceH H3.out U3.out).mono ?_
        rintro e w10 ⟨rfl, h1, h2, _⟩
        clear H3 U3
        have H2 := hid h1
        have U2 := hid h2
        clear h1 h2
        go_wp2_with fail
        go_loopw [7, 8, 9] (fun i _ _ wr => ∃ k : Nat, k ≤ 5 ∧ i = .int .i64 (k : Nat) ∧ H w wr b 5 none none true (fun _ => zer 96) [] ∧ Up Nul w wr) (fun i _ _ _ => 5 - (intOf i).toNat)
        case atStart => exact ⟨0, by omega, rfl, H2.out, U2.out⟩
        case round =>
          obtain ⟨k, hk5, rfl, hh, hu⟩ := hrel
          have H3 := hid hh
          have U3 := hid hu
          clear hh hu H2 U2
          by_cases hk5 : k < 5
          · have j1 : (k : Int) < 5 := by omega
            go_wp2_with fail
            refine (readH (s := k) H3.out hk5).mono ?_
            rintro e wa ⟨a9, c9, rfl, k1⟩
            have C1 : Hid (∀ W, Up Nul wa W → (convert 26 9 (.slice a9 96 c9)).run Try.prog W = .ok (.string (strOf (zer 96))) W) := fun W u => (k1.sl.nxt u).conv c9
            have HBL : Hid (∀ W, Calls Try.prog 16 #[] W fun e w' => e = .returned (.string (strOf (zer 96))) ∧ Up Nul W w') := blank_any
            generalize strOf (zer 96) = t1 at C1 HBL
            have q1 : (t1.toList == t1.toList) = true := by simp
            have H4 := hid (H3.out.nxt k1.up)
            have U4 := hid (U3.out.trans k1.up)
            clear k1 H3 U3
            go_wp2_with fail
            have HR0 : Hid (Up Nul wa wa) := Up.refl _ _
            go_region_held3 (fun w' => Up Nul wa w' ∧ (convert 26 9 (.slice a9 96 c9)).run Try.prog w' = .ok (.string t1) w')
              (first | exact ⟨by assumption, C1.out _ (by assumption)⟩ | exact ⟨HR0.out.drew, C1.out _ HR0.out.drew⟩)
              ((go_at_call 16; (with_reducible refine (HBL.out _).mono ?_); rintro e wb ⟨rfl, kb⟩; have ob : Up Nul wa wb := (by first | exact HR0.out.drew.trans kb | exact Up.trans (by assumption) kb); clear kb))
            have HE : Hid (Up Nul wa wb) := ob
            have H5 := hid (H4.out.nxt HE.out)
            have U5 := hid (U4.out.trans HE.out)
            clear ob HE H4 U4
            go_wp2
            go_roundw
            case rel => exact ⟨k + 1, by omega, by go_num, H5.out, U5.out⟩
            case measure => simp [intOf]; omega
          · obtain rfl : k = 5 := by omega
            go_wp2_with fail
            refine (liveH H3.out).mono ?_
            rintro e wa ⟨rfl, rfl⟩
            go_wp2_with fail
            refine (awake_any _).mono ?_
            rintro e wb ⟨rfl, kb⟩
            have U4 := hid (U3.out.trans kb)
            clear kb
            go_wp2
            go_ret
            exact ⟨rfl, U4.out.below (Nat.le_refl _) fun _ _ => id⟩
    · have i1 : ¬ (k : Int) < (n : Int) := by omega
      clear HZ
      go_wp2_with fail
      refine (syncH H2.out U2.out (by decide)).mono ?_
      rintro e w2 ⟨rfl, h1, h2, _⟩
      clear H2 U2
      have H2 := hid h1
      have U2 := hid h2
      clear h1 h2
      go_wp2_with fail
      refine (failH H2.out U2.out).mono ?_
      rintro e w3 ⟨rfl, h1, h2, _⟩
      clear H2 U2
      have H2 := hid h1
      have U2 := hid h2
      clear h1 h2
      go_wp2_with fail
      refine (readH_gone (s := 0) H2.out (by omega)).mono ?_
      rintro e w4 ⟨rfl, rfl⟩
      go_wp2_with fail
      refine (fullH 1 _ (by omega)).mono ?_
      rintro e w5 ⟨q, rfl, k1, k2⟩
      have H3 := hid (H2.out.nxt k2)
      have U3 := hid (U2.out.trans k2)
      clear k1 k2 H2 U2
      go_wp2_with fail
      refine (writeH_gone (s := 0) H3.out (by omega) _ _).mono ?_
      rintro e w6 ⟨rfl, rfl⟩
      go_wp2_with fail
      refine (syncH_gone H3.out).mono ?_
      rintro e w7 ⟨rfl, rfl⟩
      go_wp2_with fail
      refine (rotH_gone (s := 0) (t := 0) H3.out (by omega) (by omega) _).mono ?_
      rintro e w8 ⟨rfl, rfl⟩
      go_wp2_with fail
      refine (liveH H3.out).mono ?_
      rintro e w9 ⟨rfl, rfl⟩
      go_wp2_with fail
      refine (replaceH H3.out U3.out).mono ?_
      rintro e w10 ⟨rfl, h1, h2, _⟩
      clear H3 U3
      have H2 := hid h1
      have U2 := hid h2
      clear h1 h2
      go_wp2_with fail
      go_loopw [7, 8, 9] (fun i _ _ wr => ∃ k : Nat, k ≤ 5 ∧ i = .int .i64 (k : Nat) ∧ H w wr b 5 none none true (fun _ => zer 96) [] ∧ Up Nul w wr) (fun i _ _ _ => 5 - (intOf i).toNat)
      case atStart => exact ⟨0, by omega, rfl, H2.out, U2.out⟩
      case round =>
        obtain ⟨k, hk5, rfl, hh, hu⟩ := hrel
        have H3 := hid hh
        have U3 := hid hu
        clear hh hu H2 U2
        by_cases hk5 : k < 5
        · have j1 : (k : Int) < 5 := by omega
          go_wp2_with fail
          refine (readH (s := k) H3.out hk5).mono ?_
          rintro e wa ⟨a9, c9, rfl, k1⟩
          have C1 : Hid (∀ W, Up Nul wa W → (convert 26 9 (.slice a9 96 c9)).run Try.prog W = .ok (.string (strOf (zer 96))) W) := fun W u => (k1.sl.nxt u).conv c9
          have HBL : Hid (∀ W, Calls Try.prog 16 #[] W fun e w' => e = .returned (.string (strOf (zer 96))) ∧ Up Nul W w') := blank_any
          generalize strOf (zer 96) = t1 at C1 HBL
          have q1 : (t1.toList == t1.toList) = true := by simp
          have H4 := hid (H3.out.nxt k1.up)
          have U4 := hid (U3.out.trans k1.up)
          clear k1 H3 U3
          go_wp2_with fail
          have HR0 : Hid (Up Nul wa wa) := Up.refl _ _
          go_region_held3 (fun w' => Up Nul wa w' ∧ (convert 26 9 (.slice a9 96 c9)).run Try.prog w' = .ok (.string t1) w')
            (first | exact ⟨by assumption, C1.out _ (by assumption)⟩ | exact ⟨HR0.out.drew, C1.out _ HR0.out.drew⟩)
            ((go_at_call 16; (with_reducible refine (HBL.out _).mono ?_); rintro e wb ⟨rfl, kb⟩; have ob : Up Nul wa wb := (by first | exact HR0.out.drew.trans kb | exact Up.trans (by assumption) kb); clear kb))
          have HE : Hid (Up Nul wa wb) := ob
          have H5 := hid (H4.out.nxt HE.out)
          have U5 := hid (U4.out.trans HE.out)
          clear ob HE H4 U4
          go_wp2
          go_roundw
          case rel => exact ⟨k + 1, by omega, by go_num, H5.out, U5.out⟩
          case measure => simp [intOf]; omega
        · obtain rfl : k = 5 := by omega
          go_wp2_with fail
          refine (liveH H3.out).mono ?_
          rintro e wa ⟨rfl, rfl⟩
          go_wp2_with fail
          refine (awake_any _).mono ?_
          rintro e wb ⟨rfl, kb⟩
          have U4 := hid (U3.out.trans kb)
          clear kb
          go_wp2
          go_ret
          exact ⟨rfl, U4.out.below (Nat.le_refl _) fun _ _ => id⟩
theorem lost_walk (a : Option Addr) (n cap : Nat) (zs : List Int) (w : World) (h : CameIn w a n cap zs) :
    Calls Try.prog 8 #[.slice a n cap] w fun e w' => e = .returned (.bool true) ∧ Below w.heap.size w w' := by
  obtain ⟨z, hz⟩ := SlN.of h
  exact lost_any a n cap z w hz
end Go.Proofs.Ytcehphnpffedhaa
