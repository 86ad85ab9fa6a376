/- The law PadJoins, walked. -/
import Derived.Test.YtcigmbjipnchaaaPadFit
import Derived.Test.YtcigmbjipnchaaaHand
namespace Go.Proofs.Ytcigmbjipnchaaa
open Go.RowKit
set_option linter.unusedVariables false

theorem joins_long (a : Option Addr) (n cap : Nat) (m : Int) (w : World) (h : 20 < n) :
    Calls Try.prog 6 #[.slice a n cap, .int .i64 m] w fun e w' => e = .returned (.bool true) ∧ Below w.heap.size w w' := by
  have i1 : (20 : Int) < (n : Int) := by omega
  go_enter Try.func6, Try.ntmps6
  go_wp2_with fail
  refine (awake_any _).mono ?_
  rintro e w2 ⟨rfl, k2⟩
  go_wp2
  go_ret
  exact ⟨rfl, k2.below (Nat.le_refl _) fun _ _ => id⟩
theorem flatB_congr_len {R : Nat → List Nat} {k : Nat} : ∀ {m : Nat}, (∀ i, i < m → (R i).length ≤ k) → (flatB R m).length ≤ m * k
  | 0, _ => by simp [flatB]
  | m + 1, h => by
    have := flatB_congr_len (m := m) fun i hi => h i (by omega)
    have := h m (by omega)
    rw [flatB_next, List.length_append, Nat.add_mul]
    omega
set_option maxRecDepth 100000 in
set_option maxHeartbeats 3200000 in
theorem joins_short (a : Option Addr) (n cap : Nat) (R : Nat → List Nat) (m : Int) (w : World) (h : n ≤ 20) (hR : InR w a n R) :
    Calls Try.prog 6 #[.slice a n cap, .int .i64 m] w fun e w' => e = .returned (.bool true) ∧ Below w.heap.size w w' := by
  have HR := hid hR
  have i0 : ¬ (20 : Int) < (n : Int) := by omega
  obtain ⟨B0, hB⟩ : ∃ B0 : Bool, Hid (B0 = true ↔ (n = 4 ∧ 0 ≤ m ∧ m ≤ 64)) := ⟨decide (n = 4 ∧ 0 ≤ m ∧ m ≤ 64), by show _ ↔ _; simp⟩
  clear hR
  have key : (n = 4 ∧ 0 ≤ m ∧ m ≤ 64) ∨ n ≠ 4 ∨ (n = 4 ∧ m < 0) ∨ (n = 4 ∧ 0 ≤ m ∧ 64 < m) := by omega
  rcases key with ⟨h1, h2, h3⟩ | h1 | ⟨h1, h2⟩ | ⟨h1, h2, h3⟩
  · have HB0 : Hid (B0 = true) := hB.out.2 ⟨h1, h2, h3⟩
    have e1 : ((n : Int) == 4) = true := by simp; omega
    have HX0 := hid h1
    clear h1
    clear HX0
    go_enter Try.func6, Try.ntmps6
    go_wp2_with fail
    go_loopw [5, 6, 7] (fun g s i wr => ∃ (k : Nat) (b : Bool), k ≤ n ∧ i = .int .i64 k ∧ g = .bool b ∧ Hid (b = true ↔ B0 = true ∧ ∀ i, i < k → (R i).length = 16) ∧ s = .string (strOf (flatB R k)) ∧ Hid (∀ i, i < k → (R i).length ≤ 40) ∧ Up Nul w wr) (fun _ _ i _ => n - (intOf i).toNat)
    case atStart => exact ⟨0, _, by omega, rfl, rfl, by (show _ ↔ _; rw [HB0.out]; first | (simp; done) | (simp; omega)), rfl, fun _ h => absurd h (Nat.not_lt_zero _), Up.refl _ _⟩
    case round =>
      obtain ⟨k, b, hk, rfl, rfl, HG, rfl, HL, hu⟩ := hrel
      have HU := hid hu
      clear hu
      by_cases hlt : k < n
      · obtain ⟨g, o, rfl, hsr⟩ := (HR.out.nxt HU.out).resolve_left (by omega)
        obtain ⟨ak, ck, x0, hsl, hcl, _⟩ := hsr.cells k hlt
        have c1 := hsl.conv ck
        have HN := hid (flatB_next R k)
        have HAP : Hid (strOf (flatB R k) ++ strOf (R k) = strOf (flatB R (k + 1))) := by show _ = _; rw [HN.out]; exact strOf_append _ _
        have HZ1 : Hid ((flatB R k).length ≤ k * 40) := flatB_congr_len HL.out
        have hz1 : (strOf (flatB R k)).size ≤ 800 := by rw [strOf_size]; have := HZ1.out; omega
        obtain ⟨x, X⟩ : ∃ x, Hid ((R k).length = x) := ⟨_, rfl⟩
        have hz2 : (strOf (R k)).size = x := by rw [strOf_size]; exact X.out
        rw [X.out] at x0 c1
        have HZ2 := hid hz2
        obtain ⟨s1, S1⟩ : ∃ t, Hid (strOf (flatB R k) = t) := ⟨_, rfl⟩
        obtain ⟨s2, S2⟩ : ∃ t, Hid (strOf (R k) = t) := ⟨_, rfl⟩
        rw [S1.out] at hz1 HAP
        rw [S1.out]
        rw [S2.out] at c1 HAP HZ2
        have i1 : (0 : Int) ≤ (k : Int) := by omega
        have i2 : (k : Int) < (n : Int) := by omega
        clear hsr hsl hcl hz2
        by_cases hx : 40 < x
        · have i3 : (40 : Int) < (x : Int) := by omega
          go_wp2_with fail
          refine (awake_any _).mono ?_
          rintro e w2 ⟨rfl, k2⟩
          have H2 := hid (HU.out.trans k2)
          clear k2
          go_wp2
          go_ret
          exact ⟨rfl, H2.out.below (Nat.le_refl _) fun _ _ => id⟩
        · have i3 : ¬ (40 : Int) < (x : Int) := by omega
          have hsz : s2.size ≤ 40 := by have := HZ2.out; omega
          have HL2 : Hid (∀ i, i < k + 1 → (R i).length ≤ 40) := fun i hi => by
            by_cases e : i = k
            · rw [e, X.out]; omega
            · exact HL.out i (by omega)
          have HXK : Hid (x = 16 ↔ (R k).length = 16) := by show _ ↔ _; rw [X.out]
          cases b with
          | false =>
            have HG2 : Hid (false = true ↔ B0 = true ∧ ∀ i, i < k + 1 → (R i).length = 16) := ⟨(fun h => by cases h), fun h => HG.out.2 ⟨h.1, fun i hi => h.2 i (by omega)⟩⟩
            go_wp2
            go_roundw
            case rel => exact ⟨k + 1, false, by omega, by go_num, rfl, HG2, by rw [HAP.out], HL2, HU.out⟩
            case measure => simp [intOf]; omega
          | true =>
            by_cases h16 : x = 16
            · have e16 : ((x : Int) == 16) = true := by simp; omega
              have HG2 : Hid (true = true ↔ B0 = true ∧ ∀ i, i < k + 1 → (R i).length = 16) := ⟨fun h => ⟨(HG.out.1 h).1, fun i hi => by
                by_cases e : i = k
                · rw [e]; exact HXK.out.1 h16
                · exact (HG.out.1 h).2 i (by omega)⟩, fun _ => rfl⟩
              clear h16
              go_wp2
              go_roundw
              case rel => exact ⟨k + 1, true, by omega, by go_num, rfl, HG2, by rw [HAP.out], HL2, HU.out⟩
              case measure => simp [intOf]; omega
            · have e16 : ((x : Int) == 16) = false := by simp; omega
              have HG2 : Hid (false = true ↔ B0 = true ∧ ∀ i, i < k + 1 → (R i).length = 16) := ⟨(fun h => by cases h), fun h => absurd (HXK.out.2 (h.2 k (by omega))) h16⟩
              clear h16
              go_wp2
              go_roundw
              case rel => exact ⟨k + 1, false, by omega, by go_num, rfl, HG2, by rw [HAP.out], HL2, HU.out⟩
              case measure => simp [intOf]; omega
      · obtain rfl : n = k := by omega
        have HF : Hid (b = true ↔ Fits R n m) := ⟨fun h => ⟨(hB.out.1 (HG.out.1 h).1).1, (hB.out.1 (HG.out.1 h).1).2.1, (hB.out.1 (HG.out.1 h).1).2.2, (HG.out.1 h).2⟩, fun h => HG.out.2 ⟨hB.out.2 ⟨h.1, h.2.1, h.2.2.1⟩, h.2.2.2⟩⟩
        go_wp2_with fail
        refine (join_any a n cap R m _ (HR.out.nxt HU.out)).mono ?_
        rintro e w2 (⟨hf, kk, hm, hkk, a2, c2, rfl, k1⟩ | ⟨hf, rfl, k1⟩)
        · obtain rfl : b = true := HF.out.2 hf
          have HI := hid (HU.out.trans k1.up)
          have HN4 : Hid (n = 4) := hf.1
          have HFL := hid (flatB_16 (hf.1 ▸ hf.2.2.2))
          have C1 : Hid (∀ W, Up Nul w2 W → (convert 22 9 (.slice a2 kk c2)).run Try.prog W = .ok (.string (strOf ((flatB R 4).take kk))) W) := fun W u => (k1.sl.nxt u).conv c2
          have HSL : Hid (∀ W, (Instr.slice 9 (.string (strOf (flatB R n))) none (some (.int .i64 m)) none).run Try.prog W = .ok (.string (strOf ((flatB R 4).take kk))) W) := fun W => by
            rw [HN4.out, hm, run_slice_string_h (P := Try.prog) W 9 _ Try.underlying9 .i64 kk (by omega) (by rw [strOf_size, HFL.out]; omega), strOf_extract]
            simp
          have hsl := HSL.out
          have hqq : ((strOf ((flatB R 4).take kk)).toList == (strOf ((flatB R 4).take kk)).toList) = true := by simp
          generalize strOf ((flatB R 4).take kk) = sk at C1 hsl hqq
          generalize strOf (flatB R n) = sn at hsl ⊢
          clear hf hm hkk k1 HSL HFL
          go_wp2_with fail
          have HR0 : Hid (Up Nul w2 w2) := Up.refl _ _
          refine wp_region_held_drew (S := (fun w' => Up Nul w2 w' ∧ (convert 22 9 (.slice a2 kk c2)).run Try.prog w' = .ok (.string sk) w')) (by kernel_rfl) (by exact ⟨HR0.out.drew, C1.out _ HR0.out.drew⟩) (fun hHeld => ?_)
          refine wpAnyH_take (i := 0) (oi := ⟨some 60, _, _, _, _, _⟩) (v := ?vqa1) rfl (by kernel_rfl) (by kernel_rfl) (by kernel_rfl) (fun _ _ _ h => h) (Or.inl ⟨by rfl, ?yqa1⟩) (by assumption) ?rqa1
          case yqa1 => (intro w hSw; (try dsimp only at hSw); go_simp; try with_reducible rfl)
          try simp only [Act.put, List.setIfInBounds_toArray, List.set_cons_zero, List.set_cons_succ]
          refine wpAnyH_take (i := 1) (oi := ⟨some 61, _, _, _, _, _⟩) (v := ?vqa2) rfl (by kernel_rfl) (by kernel_rfl) (by kernel_rfl) (fun _ _ _ h => h) (Or.inl ⟨by rfl, ?yqa2⟩) (by assumption) ?rqa2
          case yqa2 => (intro w hSw; (try dsimp only at hSw); go_simp; try with_reducible rfl)
          try simp only [Act.put, List.setIfInBounds_toArray, List.set_cons_zero, List.set_cons_succ]
          refine wpAnyH_take (i := 2) (oi := ⟨some 62, _, _, _, _, _⟩) (v := ?vqa3) rfl (by kernel_rfl) (by kernel_rfl) (by kernel_rfl) (fun _ _ _ h => h) (Or.inl ⟨by rfl, ?yqa3⟩) (by assumption) ?rqa3
          case yqa3 => (intro w hSw; (try dsimp only at hSw); go_simp; try with_reducible rfl)
          try simp only [Act.put, List.setIfInBounds_toArray, List.set_cons_zero, List.set_cons_succ]
          refine wpAnyH_take (i := 3) (oi := ⟨some 63, _, _, _, _, _⟩) (v := ?vqa4) rfl (by kernel_rfl) (by kernel_rfl) (by kernel_rfl) (fun _ _ _ h => h) (Or.inl ⟨by rfl, ?yqa4⟩) (by assumption) ?rqa4
          case yqa4 => (intro w hSw; (try dsimp only at hSw); go_simp; try with_reducible rfl)
          try simp only [Act.put, List.setIfInBounds_toArray, List.set_cons_zero, List.set_cons_succ]
          refine wpAnyH_take (i := 4) (oi := ⟨some 64, _, _, _, _, _⟩) (v := ?vqa5) rfl (by kernel_rfl) (by kernel_rfl) (by kernel_rfl) (fun _ _ _ h => h) (Or.inl ⟨by rfl, ?yqa5⟩) (by assumption) ?rqa5
          case yqa5 => (intro w hSw; (try dsimp only at hSw); go_simp; try with_reducible rfl)
          try simp only [Act.put, List.setIfInBounds_toArray, List.set_cons_zero, List.set_cons_succ]
          refine wpAnyH_take (i := 5) (oi := ⟨some 65, _, _, _, _, _⟩) (v := ?vqa6) rfl (by kernel_rfl) (by kernel_rfl) (by kernel_rfl) (fun _ _ _ h => h) (Or.inl ⟨by rfl, ?yqa6⟩) (by assumption) ?rqa6
          case yqa6 => (intro w hSw; (try dsimp only at hSw); go_simp; try with_reducible rfl)
          try simp only [Act.put, List.setIfInBounds_toArray, List.set_cons_zero, List.set_cons_succ]
          refine wpAnyH_take (i := 6) (oi := ⟨some 66, _, _, _, _, _⟩) (v := ?vqa7) rfl (by kernel_rfl) (by kernel_rfl) (by kernel_rfl) (fun _ _ _ h => h) (Or.inl ⟨by rfl, ?yqa7⟩) (by assumption) ?rqa7
          case yqa7 => (intro w hSw; (try dsimp only at hSw); go_simp; try with_reducible rfl)
          try simp only [Act.put, List.setIfInBounds_toArray, List.set_cons_zero, List.set_cons_succ]
          refine wpAnyH_take (i := 7) (oi := ⟨some 67, _, _, _, _, _⟩) (v := ?vqa8) rfl (by kernel_rfl) (by kernel_rfl) (by kernel_rfl) (fun _ _ _ h => h) (Or.inl ⟨by rfl, ?yqa8⟩) (by assumption) ?rqa8
          case yqa8 => (intro w hSw; (try dsimp only at hSw); go_simp; try with_reducible rfl)
          try simp only [Act.put, List.setIfInBounds_toArray, List.set_cons_zero, List.set_cons_succ]
          refine wpAnyH_take (i := 8) (oi := ⟨some 68, _, _, _, _, _⟩) (v := ?vqa9) rfl (by kernel_rfl) (by kernel_rfl) (by kernel_rfl) (fun _ _ _ h => h) (Or.inl ⟨by rfl, ?yqa9⟩) (by assumption) ?rqa9
          case yqa9 => (intro w hSw; (try dsimp only at hSw); go_simp; try with_reducible rfl)
          try simp only [Act.put, List.setIfInBounds_toArray, List.set_cons_zero, List.set_cons_succ]
          refine wpAnyH_take (i := 9) (oi := ⟨some 69, _, _, _, _, _⟩) (v := ?vqa10) rfl (by kernel_rfl) (by kernel_rfl) (by kernel_rfl) (fun _ _ _ h => h) (Or.inl ⟨by rfl, ?yqa10⟩) (by assumption) ?rqa10
          case yqa10 => (intro w hSw; (try dsimp only at hSw); go_simp; try with_reducible rfl)
          try simp only [Act.put, List.setIfInBounds_toArray, List.set_cons_zero, List.set_cons_succ]
          refine wpAnyH_take (i := 10) (oi := ⟨some 70, _, _, _, _, _⟩) (v := ?vqa11) rfl (by kernel_rfl) (by kernel_rfl) (by kernel_rfl) (fun _ _ _ h => h) (Or.inl ⟨by rfl, ?yqa11⟩) (by assumption) ?rqa11
          case yqa11 => (intro w hSw; (try dsimp only at hSw); go_simp; try with_reducible rfl)
          try simp only [Act.put, List.setIfInBounds_toArray, List.set_cons_zero, List.set_cons_succ]
          refine wpAnyH_take (i := 11) (oi := ⟨some 71, _, _, _, _, _⟩) (v := ?vqa12) rfl (by kernel_rfl) (by kernel_rfl) (by kernel_rfl) (fun _ _ _ h => h) (Or.inl ⟨by rfl, ?yqa12⟩) (by assumption) ?rqa12
          case yqa12 => (intro w hSw; (try dsimp only at hSw); go_simp; try with_reducible rfl)
          try simp only [Act.put, List.setIfInBounds_toArray, List.set_cons_zero, List.set_cons_succ]
          refine wpAnyH_take (i := 12) (oi := ⟨some 72, _, _, _, _, _⟩) (v := ?vqa13) rfl (by kernel_rfl) (by kernel_rfl) (by kernel_rfl) (fun _ _ _ h => h) (Or.inl ⟨by rfl, ?yqa13⟩) (by assumption) ?rqa13
          case yqa13 => (intro w hSw; (try dsimp only at hSw); go_simp; try with_reducible rfl)
          try simp only [Act.put, List.setIfInBounds_toArray, List.set_cons_zero, List.set_cons_succ]
          refine wpAnyH_take (i := 13) (oi := ⟨some 73, _, _, _, _, _⟩) (v := ?vqa14) rfl (by kernel_rfl) (by kernel_rfl) (by kernel_rfl) (fun _ _ _ h => h) (Or.inl ⟨by rfl, ?yqa14⟩) (by assumption) ?rqa14
          case yqa14 => (intro w hSw; (try dsimp only at hSw); go_simp; try with_reducible rfl)
          try simp only [Act.put, List.setIfInBounds_toArray, List.set_cons_zero, List.set_cons_succ]
          refine wpAnyH_take (i := 14) (oi := ⟨some 74, _, _, _, _, _⟩) (v := undef) rfl (by kernel_rfl) (by kernel_rfl) (by kernel_rfl) (fun _ _ _ h => h) (Or.inr ⟨by rfl, rfl⟩) (by assumption) ?rqa15
          try simp only [Act.put, List.setIfInBounds_toArray, List.set_cons_zero, List.set_cons_succ]
          refine wpAnyH_take (i := 15) (oi := ⟨some 75, _, _, _, _, _⟩) (v := undef) rfl (by kernel_rfl) (by kernel_rfl) (by kernel_rfl) (fun _ _ _ h => h) (Or.inr ⟨by rfl, rfl⟩) (by assumption) ?rqa16
          try simp only [Act.put, List.setIfInBounds_toArray, List.set_cons_zero, List.set_cons_succ]
          refine wpAnyH_take (i := 16) (oi := ⟨some 76, _, _, _, _, _⟩) (v := undef) rfl (by kernel_rfl) (by kernel_rfl) (by kernel_rfl) (fun _ _ _ h => h) (Or.inr ⟨by rfl, rfl⟩) (by assumption) ?rqa17
          try simp only [Act.put, List.setIfInBounds_toArray, List.set_cons_zero, List.set_cons_succ]
          refine wpAnyH_take (i := 17) (oi := ⟨some 77, _, _, _, _, _⟩) (v := undef) rfl (by kernel_rfl) (by kernel_rfl) (by kernel_rfl) (fun _ _ _ h => h) (Or.inr ⟨by rfl, rfl⟩) (by assumption) ?rqa18
          try simp only [Act.put, List.setIfInBounds_toArray, List.set_cons_zero, List.set_cons_succ]
          refine wpAnyH_take (i := 18) (oi := ⟨some 78, _, _, _, _, _⟩) (v := undef) rfl (by kernel_rfl) (by kernel_rfl) (by kernel_rfl) (fun _ _ _ h => h) (Or.inr ⟨by rfl, rfl⟩) (by assumption) ?rqa19
          try simp only [Act.put, List.setIfInBounds_toArray, List.set_cons_zero, List.set_cons_succ]
          refine wpAnyH_take (i := 19) (oi := ⟨some 79, _, _, _, _, _⟩) (v := undef) rfl (by kernel_rfl) (by kernel_rfl) (by kernel_rfl) (fun _ _ _ h => h) (Or.inr ⟨by rfl, rfl⟩) (by assumption) ?rqa20
          try simp only [Act.put, List.setIfInBounds_toArray, List.set_cons_zero, List.set_cons_succ]
          refine wpAnyH_take (i := 20) (oi := ⟨some 80, _, _, _, _, _⟩) (v := undef) rfl (by kernel_rfl) (by kernel_rfl) (by kernel_rfl) (fun _ _ _ h => h) (Or.inr ⟨by rfl, rfl⟩) (by assumption) ?rqa21
          try simp only [Act.put, List.setIfInBounds_toArray, List.set_cons_zero, List.set_cons_succ]
          refine wpAnyH_take (i := 21) (oi := ⟨some 81, _, _, _, _, _⟩) (v := ?vqa22) rfl (by kernel_rfl) (by kernel_rfl) (by kernel_rfl) (fun _ _ _ h => h) (Or.inl ⟨by rfl, ?yqa22⟩) (by assumption) ?rqa22
          case yqa22 => (intro w hSw; (try dsimp only at hSw); go_simp; try with_reducible rfl)
          try simp only [Act.put, List.setIfInBounds_toArray, List.set_cons_zero, List.set_cons_succ]
          refine wpAnyH_take (i := 22) (oi := ⟨some 82, _, _, _, _, _⟩) (v := ?vqa23) rfl (by kernel_rfl) (by kernel_rfl) (by kernel_rfl) (fun _ _ _ h => h) (Or.inl ⟨by rfl, ?yqa23⟩) (by assumption) ?rqa23
          case yqa23 => (intro w hSw; (try dsimp only at hSw); go_simp; try with_reducible rfl)
          try simp only [Act.put, List.setIfInBounds_toArray, List.set_cons_zero, List.set_cons_succ]
          refine wpAnyH_take (i := 23) (oi := ⟨some 83, _, _, _, _, _⟩) (v := ?vqa24) rfl (by kernel_rfl) (by kernel_rfl) (by kernel_rfl) (fun _ _ _ h => h) (Or.inl ⟨by rfl, ?yqa24⟩) (by assumption) ?rqa24
          case yqa24 => (intro w hSw; (try dsimp only at hSw); go_simp; try with_reducible rfl)
          try simp only [Act.put, List.setIfInBounds_toArray, List.set_cons_zero, List.set_cons_succ]
          refine wpAnyH_ready (rs := [24]) (by kernel_rfl) (by simp) ?_
          refine AllReadyH.cons (o := ⟨some 84, _, _, _, _, _⟩) rfl (fun K hK => ?_) AllReadyH.nil
          go_simp
          ((go_at_call 7; (with_reducible refine (awake_any _).mono ?_); rintro e w4 ⟨rfl, k4⟩; have oi : Up Nul w2 w4 := (by first | exact HR0.out.drew.trans k4 | exact Up.trans (by assumption) k4); clear k4))
          refine hK.out _ _ ?kqa25 (fun hHeld => ?_)
          case kqa25 => exact ⟨oi, C1.out _ oi⟩
          clear hK K
          try simp only [Act.put, List.setIfInBounds_toArray, List.set_cons_zero, List.set_cons_succ]
          refine wpAnyH_take (i := 25) (oi := ⟨some 85, _, _, _, _, _⟩) (v := ?vqa26) rfl (by kernel_rfl) (by kernel_rfl) (by kernel_rfl) (fun _ _ _ h => h) (Or.inl ⟨by rfl, ?yqa26⟩) (by assumption) ?rqa26
          case yqa26 => (intro w hSw; (try dsimp only at hSw); go_simp; try with_reducible rfl)
          try simp only [Act.put, List.setIfInBounds_toArray, List.set_cons_zero, List.set_cons_succ]
          refine wpAnyH_take (i := 26) (oi := ⟨some 4, _, _, _, _, _⟩) (v := ?vqa27) rfl (by kernel_rfl) (by kernel_rfl) (by kernel_rfl) (fun _ _ _ h => h) (Or.inl ⟨by rfl, ?yqa27⟩) (by assumption) ?rqa27
          case yqa27 => (intro w hSw; (try dsimp only at hSw); go_simp; try with_reducible rfl)
          try simp only [Act.put, List.setIfInBounds_toArray, List.set_cons_zero, List.set_cons_succ]
          refine wpAnyH_done (by kernel_rfl) ?_ _
          have H3 := hid (HI.out.trans oi)
          go_wp2
          go_ret
          exact ⟨rfl, H3.out.below (Nat.le_refl _) fun _ _ => id⟩
        · obtain rfl : b = false := by
            cases b with
            | false => rfl
            | true => exact absurd (HF.out.1 rfl) hf
          have HI := hid (HU.out.trans k1)
          clear hf k1
          go_wp2_with fail
          have HR0 : Hid (Up Nul w2 w2) := Up.refl _ _
          refine wp_region_held_drew (S := (fun w' => Up Nul w2 w')) (by kernel_rfl) (by exact HR0.out.drew) (fun hHeld => ?_)
          refine wpAnyH_take (i := 0) (oi := ⟨some 60, _, _, _, _, _⟩) (v := ?vpa1) rfl (by kernel_rfl) (by kernel_rfl) (by kernel_rfl) (fun _ _ _ h => h) (Or.inl ⟨by rfl, ?ypa1⟩) (by assumption) ?rpa1
          case ypa1 => (intro w hSw; (try dsimp only at hSw); go_simp; try with_reducible rfl)
          try simp only [Act.put, List.setIfInBounds_toArray, List.set_cons_zero, List.set_cons_succ]
          refine wpAnyH_take (i := 1) (oi := ⟨some 61, _, _, _, _, _⟩) (v := ?vpa2) rfl (by kernel_rfl) (by kernel_rfl) (by kernel_rfl) (fun _ _ _ h => h) (Or.inl ⟨by rfl, ?ypa2⟩) (by assumption) ?rpa2
          case ypa2 => (intro w hSw; (try dsimp only at hSw); go_simp; try with_reducible rfl)
          try simp only [Act.put, List.setIfInBounds_toArray, List.set_cons_zero, List.set_cons_succ]
          refine wpAnyH_take (i := 2) (oi := ⟨some 62, _, _, _, _, _⟩) (v := ?vpa3) rfl (by kernel_rfl) (by kernel_rfl) (by kernel_rfl) (fun _ _ _ h => h) (Or.inl ⟨by rfl, ?ypa3⟩) (by assumption) ?rpa3
          case ypa3 => (intro w hSw; (try dsimp only at hSw); go_simp; try with_reducible rfl)
          try simp only [Act.put, List.setIfInBounds_toArray, List.set_cons_zero, List.set_cons_succ]
          refine wpAnyH_take (i := 3) (oi := ⟨some 63, _, _, _, _, _⟩) (v := ?vpa4) rfl (by kernel_rfl) (by kernel_rfl) (by kernel_rfl) (fun _ _ _ h => h) (Or.inl ⟨by rfl, ?ypa4⟩) (by assumption) ?rpa4
          case ypa4 => (intro w hSw; (try dsimp only at hSw); go_simp; try with_reducible rfl)
          try simp only [Act.put, List.setIfInBounds_toArray, List.set_cons_zero, List.set_cons_succ]
          refine wpAnyH_take (i := 4) (oi := ⟨some 64, _, _, _, _, _⟩) (v := ?vpa5) rfl (by kernel_rfl) (by kernel_rfl) (by kernel_rfl) (fun _ _ _ h => h) (Or.inl ⟨by rfl, ?ypa5⟩) (by assumption) ?rpa5
          case ypa5 => (intro w hSw; (try dsimp only at hSw); go_simp; try with_reducible rfl)
          try simp only [Act.put, List.setIfInBounds_toArray, List.set_cons_zero, List.set_cons_succ]
          refine wpAnyH_take (i := 5) (oi := ⟨some 65, _, _, _, _, _⟩) (v := ?vpa6) rfl (by kernel_rfl) (by kernel_rfl) (by kernel_rfl) (fun _ _ _ h => h) (Or.inl ⟨by rfl, ?ypa6⟩) (by assumption) ?rpa6
          case ypa6 => (intro w hSw; (try dsimp only at hSw); go_simp; try with_reducible rfl)
          try simp only [Act.put, List.setIfInBounds_toArray, List.set_cons_zero, List.set_cons_succ]
          refine wpAnyH_take (i := 6) (oi := ⟨some 66, _, _, _, _, _⟩) (v := undef) rfl (by kernel_rfl) (by kernel_rfl) (by kernel_rfl) (fun _ _ _ h => h) (Or.inr ⟨by rfl, rfl⟩) (by assumption) ?rpa7
          try simp only [Act.put, List.setIfInBounds_toArray, List.set_cons_zero, List.set_cons_succ]
          refine wpAnyH_take (i := 7) (oi := ⟨some 67, _, _, _, _, _⟩) (v := undef) rfl (by kernel_rfl) (by kernel_rfl) (by kernel_rfl) (fun _ _ _ h => h) (Or.inr ⟨by rfl, rfl⟩) (by assumption) ?rpa8
          try simp only [Act.put, List.setIfInBounds_toArray, List.set_cons_zero, List.set_cons_succ]
          refine wpAnyH_take (i := 8) (oi := ⟨some 68, _, _, _, _, _⟩) (v := undef) rfl (by kernel_rfl) (by kernel_rfl) (by kernel_rfl) (fun _ _ _ h => h) (Or.inr ⟨by rfl, rfl⟩) (by assumption) ?rpa9
          try simp only [Act.put, List.setIfInBounds_toArray, List.set_cons_zero, List.set_cons_succ]
          refine wpAnyH_take (i := 9) (oi := ⟨some 69, _, _, _, _, _⟩) (v := undef) rfl (by kernel_rfl) (by kernel_rfl) (by kernel_rfl) (fun _ _ _ h => h) (Or.inr ⟨by rfl, rfl⟩) (by assumption) ?rpa10
          try simp only [Act.put, List.setIfInBounds_toArray, List.set_cons_zero, List.set_cons_succ]
          refine wpAnyH_take (i := 10) (oi := ⟨some 70, _, _, _, _, _⟩) (v := undef) rfl (by kernel_rfl) (by kernel_rfl) (by kernel_rfl) (fun _ _ _ h => h) (Or.inr ⟨by rfl, rfl⟩) (by assumption) ?rpa11
          try simp only [Act.put, List.setIfInBounds_toArray, List.set_cons_zero, List.set_cons_succ]
          refine wpAnyH_take (i := 11) (oi := ⟨some 71, _, _, _, _, _⟩) (v := undef) rfl (by kernel_rfl) (by kernel_rfl) (by kernel_rfl) (fun _ _ _ h => h) (Or.inr ⟨by rfl, rfl⟩) (by assumption) ?rpa12
          try simp only [Act.put, List.setIfInBounds_toArray, List.set_cons_zero, List.set_cons_succ]
          refine wpAnyH_take (i := 12) (oi := ⟨some 72, _, _, _, _, _⟩) (v := ?vpa13) rfl (by kernel_rfl) (by kernel_rfl) (by kernel_rfl) (fun _ _ _ h => h) (Or.inl ⟨by rfl, ?ypa13⟩) (by assumption) ?rpa13
          case ypa13 => (intro w hSw; (try dsimp only at hSw); go_simp; try with_reducible rfl)
          try simp only [Act.put, List.setIfInBounds_toArray, List.set_cons_zero, List.set_cons_succ]
          refine wpAnyH_take (i := 13) (oi := ⟨some 73, _, _, _, _, _⟩) (v := ?vpa14) rfl (by kernel_rfl) (by kernel_rfl) (by kernel_rfl) (fun _ _ _ h => h) (Or.inl ⟨by rfl, ?ypa14⟩) (by assumption) ?rpa14
          case ypa14 => (intro w hSw; (try dsimp only at hSw); go_simp; try with_reducible rfl)
          try simp only [Act.put, List.setIfInBounds_toArray, List.set_cons_zero, List.set_cons_succ]
          refine wpAnyH_take (i := 14) (oi := ⟨some 74, _, _, _, _, _⟩) (v := ?vpa15) rfl (by kernel_rfl) (by kernel_rfl) (by kernel_rfl) (fun _ _ _ h => h) (Or.inl ⟨by rfl, ?ypa15⟩) (by assumption) ?rpa15
          case ypa15 => (intro w hSw; (try dsimp only at hSw); go_simp; try with_reducible rfl)
          try simp only [Act.put, List.setIfInBounds_toArray, List.set_cons_zero, List.set_cons_succ]
          refine wpAnyH_take (i := 15) (oi := ⟨some 75, _, _, _, _, _⟩) (v := ?vpa16) rfl (by kernel_rfl) (by kernel_rfl) (by kernel_rfl) (fun _ _ _ h => h) (Or.inl ⟨by rfl, ?ypa16⟩) (by assumption) ?rpa16
          case ypa16 => (intro w hSw; (try dsimp only at hSw); go_simp; try with_reducible rfl)
          try simp only [Act.put, List.setIfInBounds_toArray, List.set_cons_zero, List.set_cons_succ]
          refine wpAnyH_take (i := 16) (oi := ⟨some 76, _, _, _, _, _⟩) (v := ?vpa17) rfl (by kernel_rfl) (by kernel_rfl) (by kernel_rfl) (fun _ _ _ h => h) (Or.inl ⟨by rfl, ?ypa17⟩) (by assumption) ?rpa17
          case ypa17 => (intro w hSw; (try dsimp only at hSw); go_simp; try with_reducible rfl)
          try simp only [Act.put, List.setIfInBounds_toArray, List.set_cons_zero, List.set_cons_succ]
          refine wpAnyH_take (i := 17) (oi := ⟨some 77, _, _, _, _, _⟩) (v := ?vpa18) rfl (by kernel_rfl) (by kernel_rfl) (by kernel_rfl) (fun _ _ _ h => h) (Or.inl ⟨by rfl, ?ypa18⟩) (by assumption) ?rpa18
          case ypa18 => (intro w hSw; (try dsimp only at hSw); go_simp; try with_reducible rfl)
          try simp only [Act.put, List.setIfInBounds_toArray, List.set_cons_zero, List.set_cons_succ]
          refine wpAnyH_take (i := 18) (oi := ⟨some 78, _, _, _, _, _⟩) (v := ?vpa19) rfl (by kernel_rfl) (by kernel_rfl) (by kernel_rfl) (fun _ _ _ h => h) (Or.inl ⟨by rfl, ?ypa19⟩) (by assumption) ?rpa19
          case ypa19 => (intro w hSw; (try dsimp only at hSw); go_simp; try with_reducible rfl)
          try simp only [Act.put, List.setIfInBounds_toArray, List.set_cons_zero, List.set_cons_succ]
          refine wpAnyH_take (i := 19) (oi := ⟨some 79, _, _, _, _, _⟩) (v := ?vpa20) rfl (by kernel_rfl) (by kernel_rfl) (by kernel_rfl) (fun _ _ _ h => h) (Or.inl ⟨by rfl, ?ypa20⟩) (by assumption) ?rpa20
          case ypa20 => (intro w hSw; (try dsimp only at hSw); go_simp; try with_reducible rfl)
          try simp only [Act.put, List.setIfInBounds_toArray, List.set_cons_zero, List.set_cons_succ]
          refine wpAnyH_take (i := 20) (oi := ⟨some 80, _, _, _, _, _⟩) (v := ?vpa21) rfl (by kernel_rfl) (by kernel_rfl) (by kernel_rfl) (fun _ _ _ h => h) (Or.inl ⟨by rfl, ?ypa21⟩) (by assumption) ?rpa21
          case ypa21 => (intro w hSw; (try dsimp only at hSw); go_simp; try with_reducible rfl)
          try simp only [Act.put, List.setIfInBounds_toArray, List.set_cons_zero, List.set_cons_succ]
          refine wpAnyH_take (i := 21) (oi := ⟨some 81, _, _, _, _, _⟩) (v := ?vpa22) rfl (by kernel_rfl) (by kernel_rfl) (by kernel_rfl) (fun _ _ _ h => h) (Or.inl ⟨by rfl, ?ypa22⟩) (by assumption) ?rpa22
          case ypa22 => (intro w hSw; (try dsimp only at hSw); go_simp; try with_reducible rfl)
          try simp only [Act.put, List.setIfInBounds_toArray, List.set_cons_zero, List.set_cons_succ]
          refine wpAnyH_take (i := 22) (oi := ⟨some 82, _, _, _, _, _⟩) (v := ?vpa23) rfl (by kernel_rfl) (by kernel_rfl) (by kernel_rfl) (fun _ _ _ h => h) (Or.inl ⟨by rfl, ?ypa23⟩) (by assumption) ?rpa23
          case ypa23 => (intro w hSw; (try dsimp only at hSw); go_simp; try with_reducible rfl)
          try simp only [Act.put, List.setIfInBounds_toArray, List.set_cons_zero, List.set_cons_succ]
          refine wpAnyH_take (i := 23) (oi := ⟨some 83, _, _, _, _, _⟩) (v := ?vpa24) rfl (by kernel_rfl) (by kernel_rfl) (by kernel_rfl) (fun _ _ _ h => h) (Or.inl ⟨by rfl, ?ypa24⟩) (by assumption) ?rpa24
          case ypa24 => (intro w hSw; (try dsimp only at hSw); go_simp; try with_reducible rfl)
          try simp only [Act.put, List.setIfInBounds_toArray, List.set_cons_zero, List.set_cons_succ]
          refine wpAnyH_ready (rs := [24]) (by kernel_rfl) (by simp) ?_
          refine AllReadyH.cons (o := ⟨some 84, _, _, _, _, _⟩) rfl (fun K hK => ?_) AllReadyH.nil
          go_simp
          ((go_at_call 7; (with_reducible refine (awake_any _).mono ?_); rintro e w4 ⟨rfl, k4⟩; have oi : Up Nul w2 w4 := (by first | exact HR0.out.drew.trans k4 | exact Up.trans (by assumption) k4); clear k4))
          refine hK.out _ _ ?kpa25 (fun hHeld => ?_)
          case kpa25 => exact oi
          clear hK K
          try simp only [Act.put, List.setIfInBounds_toArray, List.set_cons_zero, List.set_cons_succ]
          refine wpAnyH_take (i := 25) (oi := ⟨some 85, _, _, _, _, _⟩) (v := ?vpa26) rfl (by kernel_rfl) (by kernel_rfl) (by kernel_rfl) (fun _ _ _ h => h) (Or.inl ⟨by rfl, ?ypa26⟩) (by assumption) ?rpa26
          case ypa26 => (intro w hSw; (try dsimp only at hSw); go_simp; try with_reducible rfl)
          try simp only [Act.put, List.setIfInBounds_toArray, List.set_cons_zero, List.set_cons_succ]
          refine wpAnyH_take (i := 26) (oi := ⟨some 4, _, _, _, _, _⟩) (v := ?vpa27) rfl (by kernel_rfl) (by kernel_rfl) (by kernel_rfl) (fun _ _ _ h => h) (Or.inl ⟨by rfl, ?ypa27⟩) (by assumption) ?rpa27
          case ypa27 => (intro w hSw; (try dsimp only at hSw); go_simp; try with_reducible rfl)
          try simp only [Act.put, List.setIfInBounds_toArray, List.set_cons_zero, List.set_cons_succ]
          refine wpAnyH_done (by kernel_rfl) ?_ _
          have H3 := hid (HI.out.trans oi)
          go_wp2
          go_ret
          exact ⟨rfl, H3.out.below (Nat.le_refl _) fun _ _ => id⟩
  · have HB0 : Hid (B0 = false) := by
      show _ = _
      cases B0 with
      | false => rfl
      | true => have := hB.out.1 rfl; omega
    have e1 : ((n : Int) == 4) = false := by simp; omega
    have HX0 := hid h1
    clear h1
    clear HX0
    go_enter Try.func6, Try.ntmps6
    go_wp2_with fail
    go_loopw [5, 6, 7] (fun g s i wr => ∃ (k : Nat) (b : Bool), k ≤ n ∧ i = .int .i64 k ∧ g = .bool b ∧ Hid (b = true ↔ B0 = true ∧ ∀ i, i < k → (R i).length = 16) ∧ s = .string (strOf (flatB R k)) ∧ Hid (∀ i, i < k → (R i).length ≤ 40) ∧ Up Nul w wr) (fun _ _ i _ => n - (intOf i).toNat)
    case atStart => exact ⟨0, _, by omega, rfl, rfl, by (show _ ↔ _; rw [HB0.out]; first | (simp; done) | (simp; omega)), rfl, fun _ h => absurd h (Nat.not_lt_zero _), Up.refl _ _⟩
    case round =>
      obtain ⟨k, b, hk, rfl, rfl, HG, rfl, HL, hu⟩ := hrel
      have HU := hid hu
      clear hu
      by_cases hlt : k < n
      · obtain ⟨g, o, rfl, hsr⟩ := (HR.out.nxt HU.out).resolve_left (by omega)
        obtain ⟨ak, ck, x0, hsl, hcl, _⟩ := hsr.cells k hlt
        have c1 := hsl.conv ck
        have HN := hid (flatB_next R k)
        have HAP : Hid (strOf (flatB R k) ++ strOf (R k) = strOf (flatB R (k + 1))) := by show _ = _; rw [HN.out]; exact strOf_append _ _
        have HZ1 : Hid ((flatB R k).length ≤ k * 40) := flatB_congr_len HL.out
        have hz1 : (strOf (flatB R k)).size ≤ 800 := by rw [strOf_size]; have := HZ1.out; omega
        obtain ⟨x, X⟩ : ∃ x, Hid ((R k).length = x) := ⟨_, rfl⟩
        have hz2 : (strOf (R k)).size = x := by rw [strOf_size]; exact X.out
        rw [X.out] at x0 c1
        have HZ2 := hid hz2
        obtain ⟨s1, S1⟩ : ∃ t, Hid (strOf (flatB R k) = t) := ⟨_, rfl⟩
        obtain ⟨s2, S2⟩ : ∃ t, Hid (strOf (R k) = t) := ⟨_, rfl⟩
        rw [S1.out] at hz1 HAP
        rw [S1.out]
        rw [S2.out] at c1 HAP HZ2
        have i1 : (0 : Int) ≤ (k : Int) := by omega
        have i2 : (k : Int) < (n : Int) := by omega
        clear hsr hsl hcl hz2
        by_cases hx : 40 < x
        · have i3 : (40 : Int) < (x : Int) := by omega
          go_wp2_with fail
          refine (awake_any _).mono ?_
          rintro e w2 ⟨rfl, k2⟩
          have H2 := hid (HU.out.trans k2)
          clear k2
          go_wp2
          go_ret
          exact ⟨rfl, H2.out.below (Nat.le_refl _) fun _ _ => id⟩
        · have i3 : ¬ (40 : Int) < (x : Int) := by omega
          have hsz : s2.size ≤ 40 := by have := HZ2.out; omega
          have HL2 : Hid (∀ i, i < k + 1 → (R i).length ≤ 40) := fun i hi => by
            by_cases e : i = k
            · rw [e, X.out]; omega
            · exact HL.out i (by omega)
          have HXK : Hid (x = 16 ↔ (R k).length = 16) := by show _ ↔ _; rw [X.out]
          cases b with
          | false =>
            have HG2 : Hid (false = true ↔ B0 = true ∧ ∀ i, i < k + 1 → (R i).length = 16) := ⟨(fun h => by cases h), fun h => HG.out.2 ⟨h.1, fun i hi => h.2 i (by omega)⟩⟩
            go_wp2
            go_roundw
            case rel => exact ⟨k + 1, false, by omega, by go_num, rfl, HG2, by rw [HAP.out], HL2, HU.out⟩
            case measure => simp [intOf]; omega
          | true =>
            by_cases h16 : x = 16
            · have e16 : ((x : Int) == 16) = true := by simp; omega
              have HG2 : Hid (true = true ↔ B0 = true ∧ ∀ i, i < k + 1 → (R i).length = 16) := ⟨fun h => ⟨(HG.out.1 h).1, fun i hi => by
                by_cases e : i = k
                · rw [e]; exact HXK.out.1 h16
                · exact (HG.out.1 h).2 i (by omega)⟩, fun _ => rfl⟩
              clear h16
              go_wp2
              go_roundw
              case rel => exact ⟨k + 1, true, by omega, by go_num, rfl, HG2, by rw [HAP.out], HL2, HU.out⟩
              case measure => simp [intOf]; omega
            · have e16 : ((x : Int) == 16) = false := by simp; omega
              have HG2 : Hid (false = true ↔ B0 = true ∧ ∀ i, i < k + 1 → (R i).length = 16) := ⟨(fun h => by cases h), fun h => absurd (HXK.out.2 (h.2 k (by omega))) h16⟩
              clear h16
              go_wp2
              go_roundw
              case rel => exact ⟨k + 1, false, by omega, by go_num, rfl, HG2, by rw [HAP.out], HL2, HU.out⟩
              case measure => simp [intOf]; omega
      · obtain rfl : n = k := by omega
        have HF : Hid (b = true ↔ Fits R n m) := ⟨fun h => ⟨(hB.out.1 (HG.out.1 h).1).1, (hB.out.1 (HG.out.1 h).1).2.1, (hB.out.1 (HG.out.1 h).1).2.2, (HG.out.1 h).2⟩, fun h => HG.out.2 ⟨hB.out.2 ⟨h.1, h.2.1, h.2.2.1⟩, h.2.2.2⟩⟩
        go_wp2_with fail
        refine (join_any a n cap R m _ (HR.out.nxt HU.out)).mono ?_
        rintro e w2 (⟨hf, kk, hm, hkk, a2, c2, rfl, k1⟩ | ⟨hf, rfl, k1⟩)
        · obtain rfl : b = true := HF.out.2 hf
          have HI := hid (HU.out.trans k1.up)
          have HN4 : Hid (n = 4) := hf.1
          have HFL := hid (flatB_16 (hf.1 ▸ hf.2.2.2))
          have C1 : Hid (∀ W, Up Nul w2 W → (convert 22 9 (.slice a2 kk c2)).run Try.prog W = .ok (.string (strOf ((flatB R 4).take kk))) W) := fun W u => (k1.sl.nxt u).conv c2
          have HSL : Hid (∀ W, (Instr.slice 9 (.string (strOf (flatB R n))) none (some (.int .i64 m)) none).run Try.prog W = .ok (.string (strOf ((flatB R 4).take kk))) W) := fun W => by
            rw [HN4.out, hm, run_slice_string_h (P := Try.prog) W 9 _ Try.underlying9 .i64 kk (by omega) (by rw [strOf_size, HFL.out]; omega), strOf_extract]
            simp
          have hsl := HSL.out
          have hqq : ((strOf ((flatB R 4).take kk)).toList == (strOf ((flatB R 4).take kk)).toList) = true := by simp
          generalize strOf ((flatB R 4).take kk) = sk at C1 hsl hqq
          generalize strOf (flatB R n) = sn at hsl ⊢
          clear hf hm hkk k1 HSL HFL
          go_wp2_with fail
          have HR0 : Hid (Up Nul w2 w2) := Up.refl _ _
          refine wp_region_held_drew (S := (fun w' => Up Nul w2 w' ∧ (convert 22 9 (.slice a2 kk c2)).run Try.prog w' = .ok (.string sk) w')) (by kernel_rfl) (by exact ⟨HR0.out.drew, C1.out _ HR0.out.drew⟩) (fun hHeld => ?_)
          refine wpAnyH_take (i := 0) (oi := ⟨some 60, _, _, _, _, _⟩) (v := ?vqb1) rfl (by kernel_rfl) (by kernel_rfl) (by kernel_rfl) (fun _ _ _ h => h) (Or.inl ⟨by rfl, ?yqb1⟩) (by assumption) ?rqb1
          case yqb1 => (intro w hSw; (try dsimp only at hSw); go_simp; try with_reducible rfl)
          try simp only [Act.put, List.setIfInBounds_toArray, List.set_cons_zero, List.set_cons_succ]
          refine wpAnyH_take (i := 1) (oi := ⟨some 61, _, _, _, _, _⟩) (v := ?vqb2) rfl (by kernel_rfl) (by kernel_rfl) (by kernel_rfl) (fun _ _ _ h => h) (Or.inl ⟨by rfl, ?yqb2⟩) (by assumption) ?rqb2
          case yqb2 => (intro w hSw; (try dsimp only at hSw); go_simp; try with_reducible rfl)
          try simp only [Act.put, List.setIfInBounds_toArray, List.set_cons_zero, List.set_cons_succ]
          refine wpAnyH_take (i := 2) (oi := ⟨some 62, _, _, _, _, _⟩) (v := ?vqb3) rfl (by kernel_rfl) (by kernel_rfl) (by kernel_rfl) (fun _ _ _ h => h) (Or.inl ⟨by rfl, ?yqb3⟩) (by assumption) ?rqb3
          case yqb3 => (intro w hSw; (try dsimp only at hSw); go_simp; try with_reducible rfl)
          try simp only [Act.put, List.setIfInBounds_toArray, List.set_cons_zero, List.set_cons_succ]
          refine wpAnyH_take (i := 3) (oi := ⟨some 63, _, _, _, _, _⟩) (v := ?vqb4) rfl (by kernel_rfl) (by kernel_rfl) (by kernel_rfl) (fun _ _ _ h => h) (Or.inl ⟨by rfl, ?yqb4⟩) (by assumption) ?rqb4
          case yqb4 => (intro w hSw; (try dsimp only at hSw); go_simp; try with_reducible rfl)
          try simp only [Act.put, List.setIfInBounds_toArray, List.set_cons_zero, List.set_cons_succ]
          refine wpAnyH_take (i := 4) (oi := ⟨some 64, _, _, _, _, _⟩) (v := ?vqb5) rfl (by kernel_rfl) (by kernel_rfl) (by kernel_rfl) (fun _ _ _ h => h) (Or.inl ⟨by rfl, ?yqb5⟩) (by assumption) ?rqb5
          case yqb5 => (intro w hSw; (try dsimp only at hSw); go_simp; try with_reducible rfl)
          try simp only [Act.put, List.setIfInBounds_toArray, List.set_cons_zero, List.set_cons_succ]
          refine wpAnyH_take (i := 5) (oi := ⟨some 65, _, _, _, _, _⟩) (v := ?vqb6) rfl (by kernel_rfl) (by kernel_rfl) (by kernel_rfl) (fun _ _ _ h => h) (Or.inl ⟨by rfl, ?yqb6⟩) (by assumption) ?rqb6
          case yqb6 => (intro w hSw; (try dsimp only at hSw); go_simp; try with_reducible rfl)
          try simp only [Act.put, List.setIfInBounds_toArray, List.set_cons_zero, List.set_cons_succ]
          refine wpAnyH_take (i := 6) (oi := ⟨some 66, _, _, _, _, _⟩) (v := ?vqb7) rfl (by kernel_rfl) (by kernel_rfl) (by kernel_rfl) (fun _ _ _ h => h) (Or.inl ⟨by rfl, ?yqb7⟩) (by assumption) ?rqb7
          case yqb7 => (intro w hSw; (try dsimp only at hSw); go_simp; try with_reducible rfl)
          try simp only [Act.put, List.setIfInBounds_toArray, List.set_cons_zero, List.set_cons_succ]
          refine wpAnyH_take (i := 7) (oi := ⟨some 67, _, _, _, _, _⟩) (v := ?vqb8) rfl (by kernel_rfl) (by kernel_rfl) (by kernel_rfl) (fun _ _ _ h => h) (Or.inl ⟨by rfl, ?yqb8⟩) (by assumption) ?rqb8
          case yqb8 => (intro w hSw; (try dsimp only at hSw); go_simp; try with_reducible rfl)
          try simp only [Act.put, List.setIfInBounds_toArray, List.set_cons_zero, List.set_cons_succ]
          refine wpAnyH_take (i := 8) (oi := ⟨some 68, _, _, _, _, _⟩) (v := ?vqb9) rfl (by kernel_rfl) (by kernel_rfl) (by kernel_rfl) (fun _ _ _ h => h) (Or.inl ⟨by rfl, ?yqb9⟩) (by assumption) ?rqb9
          case yqb9 => (intro w hSw; (try dsimp only at hSw); go_simp; try with_reducible rfl)
          try simp only [Act.put, List.setIfInBounds_toArray, List.set_cons_zero, List.set_cons_succ]
          refine wpAnyH_take (i := 9) (oi := ⟨some 69, _, _, _, _, _⟩) (v := ?vqb10) rfl (by kernel_rfl) (by kernel_rfl) (by kernel_rfl) (fun _ _ _ h => h) (Or.inl ⟨by rfl, ?yqb10⟩) (by assumption) ?rqb10
          case yqb10 => (intro w hSw; (try dsimp only at hSw); go_simp; try with_reducible rfl)
          try simp only [Act.put, List.setIfInBounds_toArray, List.set_cons_zero, List.set_cons_succ]
          refine wpAnyH_take (i := 10) (oi := ⟨some 70, _, _, _, _, _⟩) (v := ?vqb11) rfl (by kernel_rfl) (by kernel_rfl) (by kernel_rfl) (fun _ _ _ h => h) (Or.inl ⟨by rfl, ?yqb11⟩) (by assumption) ?rqb11
          case yqb11 => (intro w hSw; (try dsimp only at hSw); go_simp; try with_reducible rfl)
          try simp only [Act.put, List.setIfInBounds_toArray, List.set_cons_zero, List.set_cons_succ]
          refine wpAnyH_take (i := 11) (oi := ⟨some 71, _, _, _, _, _⟩) (v := ?vqb12) rfl (by kernel_rfl) (by kernel_rfl) (by kernel_rfl) (fun _ _ _ h => h) (Or.inl ⟨by rfl, ?yqb12⟩) (by assumption) ?rqb12
          case yqb12 => (intro w hSw; (try dsimp only at hSw); go_simp; try with_reducible rfl)
          try simp only [Act.put, List.setIfInBounds_toArray, List.set_cons_zero, List.set_cons_succ]
          refine wpAnyH_take (i := 12) (oi := ⟨some 72, _, _, _, _, _⟩) (v := ?vqb13) rfl (by kernel_rfl) (by kernel_rfl) (by kernel_rfl) (fun _ _ _ h => h) (Or.inl ⟨by rfl, ?yqb13⟩) (by assumption) ?rqb13
          case yqb13 => (intro w hSw; (try dsimp only at hSw); go_simp; try with_reducible rfl)
          try simp only [Act.put, List.setIfInBounds_toArray, List.set_cons_zero, List.set_cons_succ]
          refine wpAnyH_take (i := 13) (oi := ⟨some 73, _, _, _, _, _⟩) (v := ?vqb14) rfl (by kernel_rfl) (by kernel_rfl) (by kernel_rfl) (fun _ _ _ h => h) (Or.inl ⟨by rfl, ?yqb14⟩) (by assumption) ?rqb14
          case yqb14 => (intro w hSw; (try dsimp only at hSw); go_simp; try with_reducible rfl)
          try simp only [Act.put, List.setIfInBounds_toArray, List.set_cons_zero, List.set_cons_succ]
          refine wpAnyH_take (i := 14) (oi := ⟨some 74, _, _, _, _, _⟩) (v := undef) rfl (by kernel_rfl) (by kernel_rfl) (by kernel_rfl) (fun _ _ _ h => h) (Or.inr ⟨by rfl, rfl⟩) (by assumption) ?rqb15
          try simp only [Act.put, List.setIfInBounds_toArray, List.set_cons_zero, List.set_cons_succ]
          refine wpAnyH_take (i := 15) (oi := ⟨some 75, _, _, _, _, _⟩) (v := undef) rfl (by kernel_rfl) (by kernel_rfl) (by kernel_rfl) (fun _ _ _ h => h) (Or.inr ⟨by rfl, rfl⟩) (by assumption) ?rqb16
          try simp only [Act.put, List.setIfInBounds_toArray, List.set_cons_zero, List.set_cons_succ]
          refine wpAnyH_take (i := 16) (oi := ⟨some 76, _, _, _, _, _⟩) (v := undef) rfl (by kernel_rfl) (by kernel_rfl) (by kernel_rfl) (fun _ _ _ h => h) (Or.inr ⟨by rfl, rfl⟩) (by assumption) ?rqb17
          try simp only [Act.put, List.setIfInBounds_toArray, List.set_cons_zero, List.set_cons_succ]
          refine wpAnyH_take (i := 17) (oi := ⟨some 77, _, _, _, _, _⟩) (v := undef) rfl (by kernel_rfl) (by kernel_rfl) (by kernel_rfl) (fun _ _ _ h => h) (Or.inr ⟨by rfl, rfl⟩) (by assumption) ?rqb18
          try simp only [Act.put, List.setIfInBounds_toArray, List.set_cons_zero, List.set_cons_succ]
          refine wpAnyH_take (i := 18) (oi := ⟨some 78, _, _, _, _, _⟩) (v := undef) rfl (by kernel_rfl) (by kernel_rfl) (by kernel_rfl) (fun _ _ _ h => h) (Or.inr ⟨by rfl, rfl⟩) (by assumption) ?rqb19
          try simp only [Act.put, List.setIfInBounds_toArray, List.set_cons_zero, List.set_cons_succ]
          refine wpAnyH_take (i := 19) (oi := ⟨some 79, _, _, _, _, _⟩) (v := undef) rfl (by kernel_rfl) (by kernel_rfl) (by kernel_rfl) (fun _ _ _ h => h) (Or.inr ⟨by rfl, rfl⟩) (by assumption) ?rqb20
          try simp only [Act.put, List.setIfInBounds_toArray, List.set_cons_zero, List.set_cons_succ]
          refine wpAnyH_take (i := 20) (oi := ⟨some 80, _, _, _, _, _⟩) (v := undef) rfl (by kernel_rfl) (by kernel_rfl) (by kernel_rfl) (fun _ _ _ h => h) (Or.inr ⟨by rfl, rfl⟩) (by assumption) ?rqb21
          try simp only [Act.put, List.setIfInBounds_toArray, List.set_cons_zero, List.set_cons_succ]
          refine wpAnyH_take (i := 21) (oi := ⟨some 81, _, _, _, _, _⟩) (v := ?vqb22) rfl (by kernel_rfl) (by kernel_rfl) (by kernel_rfl) (fun _ _ _ h => h) (Or.inl ⟨by rfl, ?yqb22⟩) (by assumption) ?rqb22
          case yqb22 => (intro w hSw; (try dsimp only at hSw); go_simp; try with_reducible rfl)
          try simp only [Act.put, List.setIfInBounds_toArray, List.set_cons_zero, List.set_cons_succ]
          refine wpAnyH_take (i := 22) (oi := ⟨some 82, _, _, _, _, _⟩) (v := ?vqb23) rfl (by kernel_rfl) (by kernel_rfl) (by kernel_rfl) (fun _ _ _ h => h) (Or.inl ⟨by rfl, ?yqb23⟩) (by assumption) ?rqb23
          case yqb23 => (intro w hSw; (try dsimp only at hSw); go_simp; try with_reducible rfl)
          try simp only [Act.put, List.setIfInBounds_toArray, List.set_cons_zero, List.set_cons_succ]
          refine wpAnyH_take (i := 23) (oi := ⟨some 83, _, _, _, _, _⟩) (v := ?vqb24) rfl (by kernel_rfl) (by kernel_rfl) (by kernel_rfl) (fun _ _ _ h => h) (Or.inl ⟨by rfl, ?yqb24⟩) (by assumption) ?rqb24
          case yqb24 => (intro w hSw; (try dsimp only at hSw); go_simp; try with_reducible rfl)
          try simp only [Act.put, List.setIfInBounds_toArray, List.set_cons_zero, List.set_cons_succ]
          refine wpAnyH_ready (rs := [24]) (by kernel_rfl) (by simp) ?_
          refine AllReadyH.cons (o := ⟨some 84, _, _, _, _, _⟩) rfl (fun K hK => ?_) AllReadyH.nil
          go_simp
          ((go_at_call 7; (with_reducible refine (awake_any _).mono ?_); rintro e w4 ⟨rfl, k4⟩; have oi : Up Nul w2 w4 := (by first | exact HR0.out.drew.trans k4 | exact Up.trans (by assumption) k4); clear k4))
          refine hK.out _ _ ?kqb25 (fun hHeld => ?_)
          case kqb25 => exact ⟨oi, C1.out _ oi⟩
          clear hK K
          try simp only [Act.put, List.setIfInBounds_toArray, List.set_cons_zero, List.set_cons_succ]
          refine wpAnyH_take (i := 25) (oi := ⟨some 85, _, _, _, _, _⟩) (v := ?vqb26) rfl (by kernel_rfl) (by kernel_rfl) (by kernel_rfl) (fun _ _ _ h => h) (Or.inl ⟨by rfl, ?yqb26⟩) (by assumption) ?rqb26
          case yqb26 => (intro w hSw; (try dsimp only at hSw); go_simp; try with_reducible rfl)
          try simp only [Act.put, List.setIfInBounds_toArray, List.set_cons_zero, List.set_cons_succ]
          refine wpAnyH_take (i := 26) (oi := ⟨some 4, _, _, _, _, _⟩) (v := ?vqb27) rfl (by kernel_rfl) (by kernel_rfl) (by kernel_rfl) (fun _ _ _ h => h) (Or.inl ⟨by rfl, ?yqb27⟩) (by assumption) ?rqb27
          case yqb27 => (intro w hSw; (try dsimp only at hSw); go_simp; try with_reducible rfl)
          try simp only [Act.put, List.setIfInBounds_toArray, List.set_cons_zero, List.set_cons_succ]
          refine wpAnyH_done (by kernel_rfl) ?_ _
          have H3 := hid (HI.out.trans oi)
          go_wp2
          go_ret
          exact ⟨rfl, H3.out.below (Nat.le_refl _) fun _ _ => id⟩
        · obtain rfl : b = false := by
            cases b with
            | false => rfl
            | true => exact absurd (HF.out.1 rfl) hf
          have HI := hid (HU.out.trans k1)
          clear hf k1
          go_wp2_with fail
          have HR0 : Hid (Up Nul w2 w2) := Up.refl _ _
          refine wp_region_held_drew (S := (fun w' => Up Nul w2 w')) (by kernel_rfl) (by exact HR0.out.drew) (fun hHeld => ?_)
          refine wpAnyH_take (i := 0) (oi := ⟨some 60, _, _, _, _, _⟩) (v := ?vpb1) rfl (by kernel_rfl) (by kernel_rfl) (by kernel_rfl) (fun _ _ _ h => h) (Or.inl ⟨by rfl, ?ypb1⟩) (by assumption) ?rpb1
          case ypb1 => (intro w hSw; (try dsimp only at hSw); go_simp; try with_reducible rfl)
          try simp only [Act.put, List.setIfInBounds_toArray, List.set_cons_zero, List.set_cons_succ]
          refine wpAnyH_take (i := 1) (oi := ⟨some 61, _, _, _, _, _⟩) (v := ?vpb2) rfl (by kernel_rfl) (by kernel_rfl) (by kernel_rfl) (fun _ _ _ h => h) (Or.inl ⟨by rfl, ?ypb2⟩) (by assumption) ?rpb2
          case ypb2 => (intro w hSw; (try dsimp only at hSw); go_simp; try with_reducible rfl)
          try simp only [Act.put, List.setIfInBounds_toArray, List.set_cons_zero, List.set_cons_succ]
          refine wpAnyH_take (i := 2) (oi := ⟨some 62, _, _, _, _, _⟩) (v := ?vpb3) rfl (by kernel_rfl) (by kernel_rfl) (by kernel_rfl) (fun _ _ _ h => h) (Or.inl ⟨by rfl, ?ypb3⟩) (by assumption) ?rpb3
          case ypb3 => (intro w hSw; (try dsimp only at hSw); go_simp; try with_reducible rfl)
          try simp only [Act.put, List.setIfInBounds_toArray, List.set_cons_zero, List.set_cons_succ]
          refine wpAnyH_take (i := 3) (oi := ⟨some 63, _, _, _, _, _⟩) (v := ?vpb4) rfl (by kernel_rfl) (by kernel_rfl) (by kernel_rfl) (fun _ _ _ h => h) (Or.inl ⟨by rfl, ?ypb4⟩) (by assumption) ?rpb4
          case ypb4 => (intro w hSw; (try dsimp only at hSw); go_simp; try with_reducible rfl)
          try simp only [Act.put, List.setIfInBounds_toArray, List.set_cons_zero, List.set_cons_succ]
          refine wpAnyH_take (i := 4) (oi := ⟨some 64, _, _, _, _, _⟩) (v := ?vpb5) rfl (by kernel_rfl) (by kernel_rfl) (by kernel_rfl) (fun _ _ _ h => h) (Or.inl ⟨by rfl, ?ypb5⟩) (by assumption) ?rpb5
          case ypb5 => (intro w hSw; (try dsimp only at hSw); go_simp; try with_reducible rfl)
          try simp only [Act.put, List.setIfInBounds_toArray, List.set_cons_zero, List.set_cons_succ]
          refine wpAnyH_take (i := 5) (oi := ⟨some 65, _, _, _, _, _⟩) (v := ?vpb6) rfl (by kernel_rfl) (by kernel_rfl) (by kernel_rfl) (fun _ _ _ h => h) (Or.inl ⟨by rfl, ?ypb6⟩) (by assumption) ?rpb6
          case ypb6 => (intro w hSw; (try dsimp only at hSw); go_simp; try with_reducible rfl)
          try simp only [Act.put, List.setIfInBounds_toArray, List.set_cons_zero, List.set_cons_succ]
          refine wpAnyH_take (i := 6) (oi := ⟨some 66, _, _, _, _, _⟩) (v := undef) rfl (by kernel_rfl) (by kernel_rfl) (by kernel_rfl) (fun _ _ _ h => h) (Or.inr ⟨by rfl, rfl⟩) (by assumption) ?rpb7
          try simp only [Act.put, List.setIfInBounds_toArray, List.set_cons_zero, List.set_cons_succ]
          refine wpAnyH_take (i := 7) (oi := ⟨some 67, _, _, _, _, _⟩) (v := undef) rfl (by kernel_rfl) (by kernel_rfl) (by kernel_rfl) (fun _ _ _ h => h) (Or.inr ⟨by rfl, rfl⟩) (by assumption) ?rpb8
          try simp only [Act.put, List.setIfInBounds_toArray, List.set_cons_zero, List.set_cons_succ]
          refine wpAnyH_take (i := 8) (oi := ⟨some 68, _, _, _, _, _⟩) (v := undef) rfl (by kernel_rfl) (by kernel_rfl) (by kernel_rfl) (fun _ _ _ h => h) (Or.inr ⟨by rfl, rfl⟩) (by assumption) ?rpb9
          try simp only [Act.put, List.setIfInBounds_toArray, List.set_cons_zero, List.set_cons_succ]
          refine wpAnyH_take (i := 9) (oi := ⟨some 69, _, _, _, _, _⟩) (v := undef) rfl (by kernel_rfl) (by kernel_rfl) (by kernel_rfl) (fun _ _ _ h => h) (Or.inr ⟨by rfl, rfl⟩) (by assumption) ?rpb10
          try simp only [Act.put, List.setIfInBounds_toArray, List.set_cons_zero, List.set_cons_succ]
          refine wpAnyH_take (i := 10) (oi := ⟨some 70, _, _, _, _, _⟩) (v := undef) rfl (by kernel_rfl) (by kernel_rfl) (by kernel_rfl) (fun _ _ _ h => h) (Or.inr ⟨by rfl, rfl⟩) (by assumption) ?rpb11
          try simp only [Act.put, List.setIfInBounds_toArray, List.set_cons_zero, List.set_cons_succ]
          refine wpAnyH_take (i := 11) (oi := ⟨some 71, _, _, _, _, _⟩) (v := undef) rfl (by kernel_rfl) (by kernel_rfl) (by kernel_rfl) (fun _ _ _ h => h) (Or.inr ⟨by rfl, rfl⟩) (by assumption) ?rpb12
          try simp only [Act.put, List.setIfInBounds_toArray, List.set_cons_zero, List.set_cons_succ]
          refine wpAnyH_take (i := 12) (oi := ⟨some 72, _, _, _, _, _⟩) (v := ?vpb13) rfl (by kernel_rfl) (by kernel_rfl) (by kernel_rfl) (fun _ _ _ h => h) (Or.inl ⟨by rfl, ?ypb13⟩) (by assumption) ?rpb13
          case ypb13 => (intro w hSw; (try dsimp only at hSw); go_simp; try with_reducible rfl)
          try simp only [Act.put, List.setIfInBounds_toArray, List.set_cons_zero, List.set_cons_succ]
          refine wpAnyH_take (i := 13) (oi := ⟨some 73, _, _, _, _, _⟩) (v := ?vpb14) rfl (by kernel_rfl) (by kernel_rfl) (by kernel_rfl) (fun _ _ _ h => h) (Or.inl ⟨by rfl, ?ypb14⟩) (by assumption) ?rpb14
          case ypb14 => (intro w hSw; (try dsimp only at hSw); go_simp; try with_reducible rfl)
          try simp only [Act.put, List.setIfInBounds_toArray, List.set_cons_zero, List.set_cons_succ]
          refine wpAnyH_take (i := 14) (oi := ⟨some 74, _, _, _, _, _⟩) (v := ?vpb15) rfl (by kernel_rfl) (by kernel_rfl) (by kernel_rfl) (fun _ _ _ h => h) (Or.inl ⟨by rfl, ?ypb15⟩) (by assumption) ?rpb15
          case ypb15 => (intro w hSw; (try dsimp only at hSw); go_simp; try with_reducible rfl)
          try simp only [Act.put, List.setIfInBounds_toArray, List.set_cons_zero, List.set_cons_succ]
          refine wpAnyH_take (i := 15) (oi := ⟨some 75, _, _, _, _, _⟩) (v := ?vpb16) rfl (by kernel_rfl) (by kernel_rfl) (by kernel_rfl) (fun _ _ _ h => h) (Or.inl ⟨by rfl, ?ypb16⟩) (by assumption) ?rpb16
          case ypb16 => (intro w hSw; (try dsimp only at hSw); go_simp; try with_reducible rfl)
          try simp only [Act.put, List.setIfInBounds_toArray, List.set_cons_zero, List.set_cons_succ]
          refine wpAnyH_take (i := 16) (oi := ⟨some 76, _, _, _, _, _⟩) (v := ?vpb17) rfl (by kernel_rfl) (by kernel_rfl) (by kernel_rfl) (fun _ _ _ h => h) (Or.inl ⟨by rfl, ?ypb17⟩) (by assumption) ?rpb17
          case ypb17 => (intro w hSw; (try dsimp only at hSw); go_simp; try with_reducible rfl)
          try simp only [Act.put, List.setIfInBounds_toArray, List.set_cons_zero, List.set_cons_succ]
          refine wpAnyH_take (i := 17) (oi := ⟨some 77, _, _, _, _, _⟩) (v := ?vpb18) rfl (by kernel_rfl) (by kernel_rfl) (by kernel_rfl) (fun _ _ _ h => h) (Or.inl ⟨by rfl, ?ypb18⟩) (by assumption) ?rpb18
          case ypb18 => (intro w hSw; (try dsimp only at hSw); go_simp; try with_reducible rfl)
          try simp only [Act.put, List.setIfInBounds_toArray, List.set_cons_zero, List.set_cons_succ]
          refine wpAnyH_take (i := 18) (oi := ⟨some 78, _, _, _, _, _⟩) (v := ?vpb19) rfl (by kernel_rfl) (by kernel_rfl) (by kernel_rfl) (fun _ _ _ h => h) (Or.inl ⟨by rfl, ?ypb19⟩) (by assumption) ?rpb19
          case ypb19 => (intro w hSw; (try dsimp only at hSw); go_simp; try with_reducible rfl)
          try simp only [Act.put, List.setIfInBounds_toArray, List.set_cons_zero, List.set_cons_succ]
          refine wpAnyH_take (i := 19) (oi := ⟨some 79, _, _, _, _, _⟩) (v := ?vpb20) rfl (by kernel_rfl) (by kernel_rfl) (by kernel_rfl) (fun _ _ _ h => h) (Or.inl ⟨by rfl, ?ypb20⟩) (by assumption) ?rpb20
          case ypb20 => (intro w hSw; (try dsimp only at hSw); go_simp; try with_reducible rfl)
          try simp only [Act.put, List.setIfInBounds_toArray, List.set_cons_zero, List.set_cons_succ]
          refine wpAnyH_take (i := 20) (oi := ⟨some 80, _, _, _, _, _⟩) (v := ?vpb21) rfl (by kernel_rfl) (by kernel_rfl) (by kernel_rfl) (fun _ _ _ h => h) (Or.inl ⟨by rfl, ?ypb21⟩) (by assumption) ?rpb21
          case ypb21 => (intro w hSw; (try dsimp only at hSw); go_simp; try with_reducible rfl)
          try simp only [Act.put, List.setIfInBounds_toArray, List.set_cons_zero, List.set_cons_succ]
          refine wpAnyH_take (i := 21) (oi := ⟨some 81, _, _, _, _, _⟩) (v := ?vpb22) rfl (by kernel_rfl) (by kernel_rfl) (by kernel_rfl) (fun _ _ _ h => h) (Or.inl ⟨by rfl, ?ypb22⟩) (by assumption) ?rpb22
          case ypb22 => (intro w hSw; (try dsimp only at hSw); go_simp; try with_reducible rfl)
          try simp only [Act.put, List.setIfInBounds_toArray, List.set_cons_zero, List.set_cons_succ]
          refine wpAnyH_take (i := 22) (oi := ⟨some 82, _, _, _, _, _⟩) (v := ?vpb23) rfl (by kernel_rfl) (by kernel_rfl) (by kernel_rfl) (fun _ _ _ h => h) (Or.inl ⟨by rfl, ?ypb23⟩) (by assumption) ?rpb23
          case ypb23 => (intro w hSw; (try dsimp only at hSw); go_simp; try with_reducible rfl)
          try simp only [Act.put, List.setIfInBounds_toArray, List.set_cons_zero, List.set_cons_succ]
          refine wpAnyH_take (i := 23) (oi := ⟨some 83, _, _, _, _, _⟩) (v := ?vpb24) rfl (by kernel_rfl) (by kernel_rfl) (by kernel_rfl) (fun _ _ _ h => h) (Or.inl ⟨by rfl, ?ypb24⟩) (by assumption) ?rpb24
          case ypb24 => (intro w hSw; (try dsimp only at hSw); go_simp; try with_reducible rfl)
          try simp only [Act.put, List.setIfInBounds_toArray, List.set_cons_zero, List.set_cons_succ]
          refine wpAnyH_ready (rs := [24]) (by kernel_rfl) (by simp) ?_
          refine AllReadyH.cons (o := ⟨some 84, _, _, _, _, _⟩) rfl (fun K hK => ?_) AllReadyH.nil
          go_simp
          ((go_at_call 7; (with_reducible refine (awake_any _).mono ?_); rintro e w4 ⟨rfl, k4⟩; have oi : Up Nul w2 w4 := (by first | exact HR0.out.drew.trans k4 | exact Up.trans (by assumption) k4); clear k4))
          refine hK.out _ _ ?kpb25 (fun hHeld => ?_)
          case kpb25 => exact oi
          clear hK K
          try simp only [Act.put, List.setIfInBounds_toArray, List.set_cons_zero, List.set_cons_succ]
          refine wpAnyH_take (i := 25) (oi := ⟨some 85, _, _, _, _, _⟩) (v := ?vpb26) rfl (by kernel_rfl) (by kernel_rfl) (by kernel_rfl) (fun _ _ _ h => h) (Or.inl ⟨by rfl, ?ypb26⟩) (by assumption) ?rpb26
          case ypb26 => (intro w hSw; (try dsimp only at hSw); go_simp; try with_reducible rfl)
          try simp only [Act.put, List.setIfInBounds_toArray, List.set_cons_zero, List.set_cons_succ]
          refine wpAnyH_take (i := 26) (oi := ⟨some 4, _, _, _, _, _⟩) (v := ?vpb27) rfl (by kernel_rfl) (by kernel_rfl) (by kernel_rfl) (fun _ _ _ h => h) (Or.inl ⟨by rfl, ?ypb27⟩) (by assumption) ?rpb27
          case ypb27 => (intro w hSw; (try dsimp only at hSw); go_simp; try with_reducible rfl)
          try simp only [Act.put, List.setIfInBounds_toArray, List.set_cons_zero, List.set_cons_succ]
          refine wpAnyH_done (by kernel_rfl) ?_ _
          have H3 := hid (HI.out.trans oi)
          go_wp2
          go_ret
          exact ⟨rfl, H3.out.below (Nat.le_refl _) fun _ _ => id⟩
  · have HB0 : Hid (B0 = false) := by
      show _ = _
      cases B0 with
      | false => rfl
      | true => have := hB.out.1 rfl; omega
    have e1 : ((n : Int) == 4) = true := by simp; omega
    have HX0 := hid h1
    clear h1
    clear HX0
    go_enter Try.func6, Try.ntmps6
    go_wp2_with fail
    go_loopw [5, 6, 7] (fun g s i wr => ∃ (k : Nat) (b : Bool), k ≤ n ∧ i = .int .i64 k ∧ g = .bool b ∧ Hid (b = true ↔ B0 = true ∧ ∀ i, i < k → (R i).length = 16) ∧ s = .string (strOf (flatB R k)) ∧ Hid (∀ i, i < k → (R i).length ≤ 40) ∧ Up Nul w wr) (fun _ _ i _ => n - (intOf i).toNat)
    case atStart => exact ⟨0, _, by omega, rfl, rfl, by (show _ ↔ _; rw [HB0.out]; first | (simp; done) | (simp; omega)), rfl, fun _ h => absurd h (Nat.not_lt_zero _), Up.refl _ _⟩
    case round =>
      obtain ⟨k, b, hk, rfl, rfl, HG, rfl, HL, hu⟩ := hrel
      have HU := hid hu
      clear hu
      by_cases hlt : k < n
      · obtain ⟨g, o, rfl, hsr⟩ := (HR.out.nxt HU.out).resolve_left (by omega)
        obtain ⟨ak, ck, x0, hsl, hcl, _⟩ := hsr.cells k hlt
        have c1 := hsl.conv ck
        have HN := hid (flatB_next R k)
        have HAP : Hid (strOf (flatB R k) ++ strOf (R k) = strOf (flatB R (k + 1))) := by show _ = _; rw [HN.out]; exact strOf_append _ _
        have HZ1 : Hid ((flatB R k).length ≤ k * 40) := flatB_congr_len HL.out
        have hz1 : (strOf (flatB R k)).size ≤ 800 := by rw [strOf_size]; have := HZ1.out; omega
        obtain ⟨x, X⟩ : ∃ x, Hid ((R k).length = x) := ⟨_, rfl⟩
        have hz2 : (strOf (R k)).size = x := by rw [strOf_size]; exact X.out
        rw [X.out] at x0 c1
        have HZ2 := hid hz2
        obtain ⟨s1, S1⟩ : ∃ t, Hid (strOf (flatB R k) = t) := ⟨_, rfl⟩
        obtain ⟨s2, S2⟩ : ∃ t, Hid (strOf (R k) = t) := ⟨_, rfl⟩
        rw [S1.out] at hz1 HAP
        rw [S1.out]
        rw [S2.out] at c1 HAP HZ2
        have i1 : (0 : Int) ≤ (k : Int) := by omega
        have i2 : (k : Int) < (n : Int) := by omega
        clear hsr hsl hcl hz2
        by_cases hx : 40 < x
        · have i3 : (40 : Int) < (x : Int) := by omega
          go_wp2_with fail
          refine (awake_any _).mono ?_
          rintro e w2 ⟨rfl, k2⟩
          have H2 := hid (HU.out.trans k2)
          clear k2
          go_wp2
          go_ret
          exact ⟨rfl, H2.out.below (Nat.le_refl _) fun _ _ => id⟩
        · have i3 : ¬ (40 : Int) < (x : Int) := by omega
          have hsz : s2.size ≤ 40 := by have := HZ2.out; omega
          have HL2 : Hid (∀ i, i < k + 1 → (R i).length ≤ 40) := fun i hi => by
            by_cases e : i = k
            · rw [e, X.out]; omega
            · exact HL.out i (by omega)
          have HXK : Hid (x = 16 ↔ (R k).length = 16) := by show _ ↔ _; rw [X.out]
          cases b with
          | false =>
            have HG2 : Hid (false = true ↔ B0 = true ∧ ∀ i, i < k + 1 → (R i).length = 16) := ⟨(fun h => by cases h), fun h => HG.out.2 ⟨h.1, fun i hi => h.2 i (by omega)⟩⟩
            go_wp2
            go_roundw
            case rel => exact ⟨k + 1, false, by omega, by go_num, rfl, HG2, by rw [HAP.out], HL2, HU.out⟩
            case measure => simp [intOf]; omega
          | true =>
            by_cases h16 : x = 16
            · have e16 : ((x : Int) == 16) = true := by simp; omega
              have HG2 : Hid (true = true ↔ B0 = true ∧ ∀ i, i < k + 1 → (R i).length = 16) := ⟨fun h => ⟨(HG.out.1 h).1, fun i hi => by
                by_cases e : i = k
                · rw [e]; exact HXK.out.1 h16
                · exact (HG.out.1 h).2 i (by omega)⟩, fun _ => rfl⟩
              clear h16
              go_wp2
              go_roundw
              case rel => exact ⟨k + 1, true, by omega, by go_num, rfl, HG2, by rw [HAP.out], HL2, HU.out⟩
              case measure => simp [intOf]; omega
            · have e16 : ((x : Int) == 16) = false := by simp; omega
              have HG2 : Hid (false = true ↔ B0 = true ∧ ∀ i, i < k + 1 → (R i).length = 16) := ⟨(fun h => by cases h), fun h => absurd (HXK.out.2 (h.2 k (by omega))) h16⟩
              clear h16
              go_wp2
              go_roundw
              case rel => exact ⟨k + 1, false, by omega, by go_num, rfl, HG2, by rw [HAP.out], HL2, HU.out⟩
              case measure => simp [intOf]; omega
      · obtain rfl : n = k := by omega
        have HF : Hid (b = true ↔ Fits R n m) := ⟨fun h => ⟨(hB.out.1 (HG.out.1 h).1).1, (hB.out.1 (HG.out.1 h).1).2.1, (hB.out.1 (HG.out.1 h).1).2.2, (HG.out.1 h).2⟩, fun h => HG.out.2 ⟨hB.out.2 ⟨h.1, h.2.1, h.2.2.1⟩, h.2.2.2⟩⟩
        go_wp2_with fail
        refine (join_any a n cap R m _ (HR.out.nxt HU.out)).mono ?_
        rintro e w2 (⟨hf, kk, hm, hkk, a2, c2, rfl, k1⟩ | ⟨hf, rfl, k1⟩)
        · obtain rfl : b = true := HF.out.2 hf
          have HI := hid (HU.out.trans k1.up)
          have HN4 : Hid (n = 4) := hf.1
          have HFL := hid (flatB_16 (hf.1 ▸ hf.2.2.2))
          have C1 : Hid (∀ W, Up Nul w2 W → (convert 22 9 (.slice a2 kk c2)).run Try.prog W = .ok (.string (strOf ((flatB R 4).take kk))) W) := fun W u => (k1.sl.nxt u).conv c2
          have HSL : Hid (∀ W, (Instr.slice 9 (.string (strOf (flatB R n))) none (some (.int .i64 m)) none).run Try.prog W = .ok (.string (strOf ((flatB R 4).take kk))) W) := fun W => by
            rw [HN4.out, hm, run_slice_string_h (P := Try.prog) W 9 _ Try.underlying9 .i64 kk (by omega) (by rw [strOf_size, HFL.out]; omega), strOf_extract]
            simp
          have hsl := HSL.out
          have hqq : ((strOf ((flatB R 4).take kk)).toList == (strOf ((flatB R 4).take kk)).toList) = true := by simp
          generalize strOf ((flatB R 4).take kk) = sk at C1 hsl hqq
          generalize strOf (flatB R n) = sn at hsl ⊢
          clear hf hm hkk k1 HSL HFL
          go_wp2_with fail
          have HR0 : Hid (Up Nul w2 w2) := Up.refl _ _
          refine wp_region_held_drew (S := (fun w' => Up Nul w2 w' ∧ (convert 22 9 (.slice a2 kk c2)).run Try.prog w' = .ok (.string sk) w')) (by kernel_rfl) (by exact ⟨HR0.out.drew, C1.out _ HR0.out.drew⟩) (fun hHeld => ?_)
          refine wpAnyH_take (i := 0) (oi := ⟨some 60, _, _, _, _, _⟩) (v := ?vqc1) rfl (by kernel_rfl) (by kernel_rfl) (by kernel_rfl) (fun _ _ _ h => h) (Or.inl ⟨by rfl, ?yqc1⟩) (by assumption) ?rqc1
          case yqc1 => (intro w hSw; (try dsimp only at hSw); go_simp; try with_reducible rfl)
          try simp only [Act.put, List.setIfInBounds_toArray, List.set_cons_zero, List.set_cons_succ]
          refine wpAnyH_take (i := 1) (oi := ⟨some 61, _, _, _, _, _⟩) (v := ?vqc2) rfl (by kernel_rfl) (by kernel_rfl) (by kernel_rfl) (fun _ _ _ h => h) (Or.inl ⟨by rfl, ?yqc2⟩) (by assumption) ?rqc2
          case yqc2 => (intro w hSw; (try dsimp only at hSw); go_simp; try with_reducible rfl)
          try simp only [Act.put, List.setIfInBounds_toArray, List.set_cons_zero, List.set_cons_succ]
          refine wpAnyH_take (i := 2) (oi := ⟨some 62, _, _, _, _, _⟩) (v := ?vqc3) rfl (by kernel_rfl) (by kernel_rfl) (by kernel_rfl) (fun _ _ _ h => h) (Or.inl ⟨by rfl, ?yqc3⟩) (by assumption) ?rqc3
          case yqc3 => (intro w hSw; (try dsimp only at hSw); go_simp; try with_reducible rfl)
          try simp only [Act.put, List.setIfInBounds_toArray, List.set_cons_zero, List.set_cons_succ]
          refine wpAnyH_take (i := 3) (oi := ⟨some 63, _, _, _, _, _⟩) (v := ?vqc4) rfl (by kernel_rfl) (by kernel_rfl) (by kernel_rfl) (fun _ _ _ h => h) (Or.inl ⟨by rfl, ?yqc4⟩) (by assumption) ?rqc4
          case yqc4 => (intro w hSw; (try dsimp only at hSw); go_simp; try with_reducible rfl)
          try simp only [Act.put, List.setIfInBounds_toArray, List.set_cons_zero, List.set_cons_succ]
          refine wpAnyH_take (i := 4) (oi := ⟨some 64, _, _, _, _, _⟩) (v := ?vqc5) rfl (by kernel_rfl) (by kernel_rfl) (by kernel_rfl) (fun _ _ _ h => h) (Or.inl ⟨by rfl, ?yqc5⟩) (by assumption) ?rqc5
          case yqc5 => (intro w hSw; (try dsimp only at hSw); go_simp; try with_reducible rfl)
          try simp only [Act.put, List.setIfInBounds_toArray, List.set_cons_zero, List.set_cons_succ]
          refine wpAnyH_take (i := 5) (oi := ⟨some 65, _, _, _, _, _⟩) (v := ?vqc6) rfl (by kernel_rfl) (by kernel_rfl) (by kernel_rfl) (fun _ _ _ h => h) (Or.inl ⟨by rfl, ?yqc6⟩) (by assumption) ?rqc6
          case yqc6 => (intro w hSw; (try dsimp only at hSw); go_simp; try with_reducible rfl)
          try simp only [Act.put, List.setIfInBounds_toArray, List.set_cons_zero, List.set_cons_succ]
          refine wpAnyH_take (i := 6) (oi := ⟨some 66, _, _, _, _, _⟩) (v := ?vqc7) rfl (by kernel_rfl) (by kernel_rfl) (by kernel_rfl) (fun _ _ _ h => h) (Or.inl ⟨by rfl, ?yqc7⟩) (by assumption) ?rqc7
          case yqc7 => (intro w hSw; (try dsimp only at hSw); go_simp; try with_reducible rfl)
          try simp only [Act.put, List.setIfInBounds_toArray, List.set_cons_zero, List.set_cons_succ]
          refine wpAnyH_take (i := 7) (oi := ⟨some 67, _, _, _, _, _⟩) (v := ?vqc8) rfl (by kernel_rfl) (by kernel_rfl) (by kernel_rfl) (fun _ _ _ h => h) (Or.inl ⟨by rfl, ?yqc8⟩) (by assumption) ?rqc8
          case yqc8 => (intro w hSw; (try dsimp only at hSw); go_simp; try with_reducible rfl)
          try simp only [Act.put, List.setIfInBounds_toArray, List.set_cons_zero, List.set_cons_succ]
          refine wpAnyH_take (i := 8) (oi := ⟨some 68, _, _, _, _, _⟩) (v := ?vqc9) rfl (by kernel_rfl) (by kernel_rfl) (by kernel_rfl) (fun _ _ _ h => h) (Or.inl ⟨by rfl, ?yqc9⟩) (by assumption) ?rqc9
          case yqc9 => (intro w hSw; (try dsimp only at hSw); go_simp; try with_reducible rfl)
          try simp only [Act.put, List.setIfInBounds_toArray, List.set_cons_zero, List.set_cons_succ]
          refine wpAnyH_take (i := 9) (oi := ⟨some 69, _, _, _, _, _⟩) (v := ?vqc10) rfl (by kernel_rfl) (by kernel_rfl) (by kernel_rfl) (fun _ _ _ h => h) (Or.inl ⟨by rfl, ?yqc10⟩) (by assumption) ?rqc10
          case yqc10 => (intro w hSw; (try dsimp only at hSw); go_simp; try with_reducible rfl)
          try simp only [Act.put, List.setIfInBounds_toArray, List.set_cons_zero, List.set_cons_succ]
          refine wpAnyH_take (i := 10) (oi := ⟨some 70, _, _, _, _, _⟩) (v := ?vqc11) rfl (by kernel_rfl) (by kernel_rfl) (by kernel_rfl) (fun _ _ _ h => h) (Or.inl ⟨by rfl, ?yqc11⟩) (by assumption) ?rqc11
          case yqc11 => (intro w hSw; (try dsimp only at hSw); go_simp; try with_reducible rfl)
          try simp only [Act.put, List.setIfInBounds_toArray, List.set_cons_zero, List.set_cons_succ]
          refine wpAnyH_take (i := 11) (oi := ⟨some 71, _, _, _, _, _⟩) (v := ?vqc12) rfl (by kernel_rfl) (by kernel_rfl) (by kernel_rfl) (fun _ _ _ h => h) (Or.inl ⟨by rfl, ?yqc12⟩) (by assumption) ?rqc12
          case yqc12 => (intro w hSw; (try dsimp only at hSw); go_simp; try with_reducible rfl)
          try simp only [Act.put, List.setIfInBounds_toArray, List.set_cons_zero, List.set_cons_succ]
          refine wpAnyH_take (i := 12) (oi := ⟨some 72, _, _, _, _, _⟩) (v := ?vqc13) rfl (by kernel_rfl) (by kernel_rfl) (by kernel_rfl) (fun _ _ _ h => h) (Or.inl ⟨by rfl, ?yqc13⟩) (by assumption) ?rqc13
          case yqc13 => (intro w hSw; (try dsimp only at hSw); go_simp; try with_reducible rfl)
          try simp only [Act.put, List.setIfInBounds_toArray, List.set_cons_zero, List.set_cons_succ]
          refine wpAnyH_take (i := 13) (oi := ⟨some 73, _, _, _, _, _⟩) (v := ?vqc14) rfl (by kernel_rfl) (by kernel_rfl) (by kernel_rfl) (fun _ _ _ h => h) (Or.inl ⟨by rfl, ?yqc14⟩) (by assumption) ?rqc14
          case yqc14 => (intro w hSw; (try dsimp only at hSw); go_simp; try with_reducible rfl)
          try simp only [Act.put, List.setIfInBounds_toArray, List.set_cons_zero, List.set_cons_succ]
          refine wpAnyH_take (i := 14) (oi := ⟨some 74, _, _, _, _, _⟩) (v := undef) rfl (by kernel_rfl) (by kernel_rfl) (by kernel_rfl) (fun _ _ _ h => h) (Or.inr ⟨by rfl, rfl⟩) (by assumption) ?rqc15
          try simp only [Act.put, List.setIfInBounds_toArray, List.set_cons_zero, List.set_cons_succ]
          refine wpAnyH_take (i := 15) (oi := ⟨some 75, _, _, _, _, _⟩) (v := undef) rfl (by kernel_rfl) (by kernel_rfl) (by kernel_rfl) (fun _ _ _ h => h) (Or.inr ⟨by rfl, rfl⟩) (by assumption) ?rqc16
          try simp only [Act.put, List.setIfInBounds_toArray, List.set_cons_zero, List.set_cons_succ]
          refine wpAnyH_take (i := 16) (oi := ⟨some 76, _, _, _, _, _⟩) (v := undef) rfl (by kernel_rfl) (by kernel_rfl) (by kernel_rfl) (fun _ _ _ h => h) (Or.inr ⟨by rfl, rfl⟩) (by assumption) ?rqc17
          try simp only [Act.put, List.setIfInBounds_toArray, List.set_cons_zero, List.set_cons_succ]
          refine wpAnyH_take (i := 17) (oi := ⟨some 77, _, _, _, _, _⟩) (v := undef) rfl (by kernel_rfl) (by kernel_rfl) (by kernel_rfl) (fun _ _ _ h => h) (Or.inr ⟨by rfl, rfl⟩) (by assumption) ?rqc18
          try simp only [Act.put, List.setIfInBounds_toArray, List.set_cons_zero, List.set_cons_succ]
          refine wpAnyH_take (i := 18) (oi := ⟨some 78, _, _, _, _, _⟩) (v := undef) rfl (by kernel_rfl) (by kernel_rfl) (by kernel_rfl) (fun _ _ _ h => h) (Or.inr ⟨by rfl, rfl⟩) (by assumption) ?rqc19
          try simp only [Act.put, List.setIfInBounds_toArray, List.set_cons_zero, List.set_cons_succ]
          refine wpAnyH_take (i := 19) (oi := ⟨some 79, _, _, _, _, _⟩) (v := undef) rfl (by kernel_rfl) (by kernel_rfl) (by kernel_rfl) (fun _ _ _ h => h) (Or.inr ⟨by rfl, rfl⟩) (by assumption) ?rqc20
          try simp only [Act.put, List.setIfInBounds_toArray, List.set_cons_zero, List.set_cons_succ]
          refine wpAnyH_take (i := 20) (oi := ⟨some 80, _, _, _, _, _⟩) (v := undef) rfl (by kernel_rfl) (by kernel_rfl) (by kernel_rfl) (fun _ _ _ h => h) (Or.inr ⟨by rfl, rfl⟩) (by assumption) ?rqc21
          try simp only [Act.put, List.setIfInBounds_toArray, List.set_cons_zero, List.set_cons_succ]
          refine wpAnyH_take (i := 21) (oi := ⟨some 81, _, _, _, _, _⟩) (v := ?vqc22) rfl (by kernel_rfl) (by kernel_rfl) (by kernel_rfl) (fun _ _ _ h => h) (Or.inl ⟨by rfl, ?yqc22⟩) (by assumption) ?rqc22
          case yqc22 => (intro w hSw; (try dsimp only at hSw); go_simp; try with_reducible rfl)
          try simp only [Act.put, List.setIfInBounds_toArray, List.set_cons_zero, List.set_cons_succ]
          refine wpAnyH_take (i := 22) (oi := ⟨some 82, _, _, _, _, _⟩) (v := ?vqc23) rfl (by kernel_rfl) (by kernel_rfl) (by kernel_rfl) (fun _ _ _ h => h) (Or.inl ⟨by rfl, ?yqc23⟩) (by assumption) ?rqc23
          case yqc23 => (intro w hSw; (try dsimp only at hSw); go_simp; try with_reducible rfl)
          try simp only [Act.put, List.setIfInBounds_toArray, List.set_cons_zero, List.set_cons_succ]
          refine wpAnyH_take (i := 23) (oi := ⟨some 83, _, _, _, _, _⟩) (v := ?vqc24) rfl (by kernel_rfl) (by kernel_rfl) (by kernel_rfl) (fun _ _ _ h => h) (Or.inl ⟨by rfl, ?yqc24⟩) (by assumption) ?rqc24
          case yqc24 => (intro w hSw; (try dsimp only at hSw); go_simp; try with_reducible rfl)
          try simp only [Act.put, List.setIfInBounds_toArray, List.set_cons_zero, List.set_cons_succ]
          refine wpAnyH_ready (rs := [24]) (by kernel_rfl) (by simp) ?_
          refine AllReadyH.cons (o := ⟨some 84, _, _, _, _, _⟩) rfl (fun K hK => ?_) AllReadyH.nil
          go_simp
          ((go_at_call 7; (with_reducible refine (awake_any _).mono ?_); rintro e w4 ⟨rfl, k4⟩; have oi : Up Nul w2 w4 := (by first | exact HR0.out.drew.trans k4 | exact Up.trans (by assumption) k4); clear k4))
          refine hK.out _ _ ?kqc25 (fun hHeld => ?_)
          case kqc25 => exact ⟨oi, C1.out _ oi⟩
          clear hK K
          try simp only [Act.put, List.setIfInBounds_toArray, List.set_cons_zero, List.set_cons_succ]
          refine wpAnyH_take (i := 25) (oi := ⟨some 85, _, _, _, _, _⟩) (v := ?vqc26) rfl (by kernel_rfl) (by kernel_rfl) (by kernel_rfl) (fun _ _ _ h => h) (Or.inl ⟨by rfl, ?yqc26⟩) (by assumption) ?rqc26
          case yqc26 => (intro w hSw; (try dsimp only at hSw); go_simp; try with_reducible rfl)
          try simp only [Act.put, List.setIfInBounds_toArray, List.set_cons_zero, List.set_cons_succ]
          refine wpAnyH_take (i := 26) (oi := ⟨some 4, _, _, _, _, _⟩) (v := ?vqc27) rfl (by kernel_rfl) (by kernel_rfl) (by kernel_rfl) (fun _ _ _ h => h) (Or.inl ⟨by rfl, ?yqc27⟩) (by assumption) ?rqc27
          case yqc27 => (intro w hSw; (try dsimp only at hSw); go_simp; try with_reducible rfl)
          try simp only [Act.put, List.setIfInBounds_toArray, List.set_cons_zero, List.set_cons_succ]
          refine wpAnyH_done (by kernel_rfl) ?_ _
          have H3 := hid (HI.out.trans oi)
          go_wp2
          go_ret
          exact ⟨rfl, H3.out.below (Nat.le_refl _) fun _ _ => id⟩
        · obtain rfl : b = false := by
            cases b with
            | false => rfl
            | true => exact absurd (HF.out.1 rfl) hf
          have HI := hid (HU.out.trans k1)
          clear hf k1
          go_wp2_with fail
          have HR0 : Hid (Up Nul w2 w2) := Up.refl _ _
          refine wp_region_held_drew (S := (fun w' => Up Nul w2 w')) (by kernel_rfl) (by exact HR0.out.drew) (fun hHeld => ?_)
          refine wpAnyH_take (i := 0) (oi := ⟨some 60, _, _, _, _, _⟩) (v := ?vpc1) rfl (by kernel_rfl) (by kernel_rfl) (by kernel_rfl) (fun _ _ _ h => h) (Or.inl ⟨by rfl, ?ypc1⟩) (by assumption) ?rpc1
          case ypc1 => (intro w hSw; (try dsimp only at hSw); go_simp; try with_reducible rfl)
          try simp only [Act.put, List.setIfInBounds_toArray, List.set_cons_zero, List.set_cons_succ]
          refine wpAnyH_take (i := 1) (oi := ⟨some 61, _, _, _, _, _⟩) (v := ?vpc2) rfl (by kernel_rfl) (by kernel_rfl) (by kernel_rfl) (fun _ _ _ h => h) (Or.inl ⟨by rfl, ?ypc2⟩) (by assumption) ?rpc2
          case ypc2 => (intro w hSw; (try dsimp only at hSw); go_simp; try with_reducible rfl)
          try simp only [Act.put, List.setIfInBounds_toArray, List.set_cons_zero, List.set_cons_succ]
          refine wpAnyH_take (i := 2) (oi := ⟨some 62, _, _, _, _, _⟩) (v := ?vpc3) rfl (by kernel_rfl) (by kernel_rfl) (by kernel_rfl) (fun _ _ _ h => h) (Or.inl ⟨by rfl, ?ypc3⟩) (by assumption) ?rpc3
          case ypc3 => (intro w hSw; (try dsimp only at hSw); go_simp; try with_reducible rfl)
          try simp only [Act.put, List.setIfInBounds_toArray, List.set_cons_zero, List.set_cons_succ]
          refine wpAnyH_take (i := 3) (oi := ⟨some 63, _, _, _, _, _⟩) (v := ?vpc4) rfl (by kernel_rfl) (by kernel_rfl) (by kernel_rfl) (fun _ _ _ h => h) (Or.inl ⟨by rfl, ?ypc4⟩) (by assumption) ?rpc4
          case ypc4 => (intro w hSw; (try dsimp only at hSw); go_simp; try with_reducible rfl)
          try simp only [Act.put, List.setIfInBounds_toArray, List.set_cons_zero, List.set_cons_succ]
          refine wpAnyH_take (i := 4) (oi := ⟨some 64, _, _, _, _, _⟩) (v := ?vpc5) rfl (by kernel_rfl) (by kernel_rfl) (by kernel_rfl) (fun _ _ _ h => h) (Or.inl ⟨by rfl, ?ypc5⟩) (by assumption) ?rpc5
          case ypc5 => (intro w hSw; (try dsimp only at hSw); go_simp; try with_reducible rfl)
          try simp only [Act.put, List.setIfInBounds_toArray, List.set_cons_zero, List.set_cons_succ]
          refine wpAnyH_take (i := 5) (oi := ⟨some 65, _, _, _, _, _⟩) (v := ?vpc6) rfl (by kernel_rfl) (by kernel_rfl) (by kernel_rfl) (fun _ _ _ h => h) (Or.inl ⟨by rfl, ?ypc6⟩) (by assumption) ?rpc6
          case ypc6 => (intro w hSw; (try dsimp only at hSw); go_simp; try with_reducible rfl)
          try simp only [Act.put, List.setIfInBounds_toArray, List.set_cons_zero, List.set_cons_succ]
          refine wpAnyH_take (i := 6) (oi := ⟨some 66, _, _, _, _, _⟩) (v := undef) rfl (by kernel_rfl) (by kernel_rfl) (by kernel_rfl) (fun _ _ _ h => h) (Or.inr ⟨by rfl, rfl⟩) (by assumption) ?rpc7
          try simp only [Act.put, List.setIfInBounds_toArray, List.set_cons_zero, List.set_cons_succ]
          refine wpAnyH_take (i := 7) (oi := ⟨some 67, _, _, _, _, _⟩) (v := undef) rfl (by kernel_rfl) (by kernel_rfl) (by kernel_rfl) (fun _ _ _ h => h) (Or.inr ⟨by rfl, rfl⟩) (by assumption) ?rpc8
          try simp only [Act.put, List.setIfInBounds_toArray, List.set_cons_zero, List.set_cons_succ]
          refine wpAnyH_take (i := 8) (oi := ⟨some 68, _, _, _, _, _⟩) (v := undef) rfl (by kernel_rfl) (by kernel_rfl) (by kernel_rfl) (fun _ _ _ h => h) (Or.inr ⟨by rfl, rfl⟩) (by assumption) ?rpc9
          try simp only [Act.put, List.setIfInBounds_toArray, List.set_cons_zero, List.set_cons_succ]
          refine wpAnyH_take (i := 9) (oi := ⟨some 69, _, _, _, _, _⟩) (v := undef) rfl (by kernel_rfl) (by kernel_rfl) (by kernel_rfl) (fun _ _ _ h => h) (Or.inr ⟨by rfl, rfl⟩) (by assumption) ?rpc10
          try simp only [Act.put, List.setIfInBounds_toArray, List.set_cons_zero, List.set_cons_succ]
          refine wpAnyH_take (i := 10) (oi := ⟨some 70, _, _, _, _, _⟩) (v := undef) rfl (by kernel_rfl) (by kernel_rfl) (by kernel_rfl) (fun _ _ _ h => h) (Or.inr ⟨by rfl, rfl⟩) (by assumption) ?rpc11
          try simp only [Act.put, List.setIfInBounds_toArray, List.set_cons_zero, List.set_cons_succ]
          refine wpAnyH_take (i := 11) (oi := ⟨some 71, _, _, _, _, _⟩) (v := undef) rfl (by kernel_rfl) (by kernel_rfl) (by kernel_rfl) (fun _ _ _ h => h) (Or.inr ⟨by rfl, rfl⟩) (by assumption) ?rpc12
          try simp only [Act.put, List.setIfInBounds_toArray, List.set_cons_zero, List.set_cons_succ]
          refine wpAnyH_take (i := 12) (oi := ⟨some 72, _, _, _, _, _⟩) (v := ?vpc13) rfl (by kernel_rfl) (by kernel_rfl) (by kernel_rfl) (fun _ _ _ h => h) (Or.inl ⟨by rfl, ?ypc13⟩) (by assumption) ?rpc13
          case ypc13 => (intro w hSw; (try dsimp only at hSw); go_simp; try with_reducible rfl)
          try simp only [Act.put, List.setIfInBounds_toArray, List.set_cons_zero, List.set_cons_succ]
          refine wpAnyH_take (i := 13) (oi := ⟨some 73, _, _, _, _, _⟩) (v := ?vpc14) rfl (by kernel_rfl) (by kernel_rfl) (by kernel_rfl) (fun _ _ _ h => h) (Or.inl ⟨by rfl, ?ypc14⟩) (by assumption) ?rpc14
          case ypc14 => (intro w hSw; (try dsimp only at hSw); go_simp; try with_reducible rfl)
          try simp only [Act.put, List.setIfInBounds_toArray, List.set_cons_zero, List.set_cons_succ]
          refine wpAnyH_take (i := 14) (oi := ⟨some 74, _, _, _, _, _⟩) (v := ?vpc15) rfl (by kernel_rfl) (by kernel_rfl) (by kernel_rfl) (fun _ _ _ h => h) (Or.inl ⟨by rfl, ?ypc15⟩) (by assumption) ?rpc15
          case ypc15 => (intro w hSw; (try dsimp only at hSw); go_simp; try with_reducible rfl)
          try simp only [Act.put, List.setIfInBounds_toArray, List.set_cons_zero, List.set_cons_succ]
          refine wpAnyH_take (i := 15) (oi := ⟨some 75, _, _, _, _, _⟩) (v := ?vpc16) rfl (by kernel_rfl) (by kernel_rfl) (by kernel_rfl) (fun _ _ _ h => h) (Or.inl ⟨by rfl, ?ypc16⟩) (by assumption) ?rpc16
          case ypc16 => (intro w hSw; (try dsimp only at hSw); go_simp; try with_reducible rfl)
          try simp only [Act.put, List.setIfInBounds_toArray, List.set_cons_zero, List.set_cons_succ]
          refine wpAnyH_take (i := 16) (oi := ⟨some 76, _, _, _, _, _⟩) (v := ?vpc17) rfl (by kernel_rfl) (by kernel_rfl) (by kernel_rfl) (fun _ _ _ h => h) (Or.inl ⟨by rfl, ?ypc17⟩) (by assumption) ?rpc17
          case ypc17 => (intro w hSw; (try dsimp only at hSw); go_simp; try with_reducible rfl)
          try simp only [Act.put, List.setIfInBounds_toArray, List.set_cons_zero, List.set_cons_succ]
          refine wpAnyH_take (i := 17) (oi := ⟨some 77, _, _, _, _, _⟩) (v := ?vpc18) rfl (by kernel_rfl) (by kernel_rfl) (by kernel_rfl) (fun _ _ _ h => h) (Or.inl ⟨by rfl, ?ypc18⟩) (by assumption) ?rpc18
          case ypc18 => (intro w hSw; (try dsimp only at hSw); go_simp; try with_reducible rfl)
          try simp only [Act.put, List.setIfInBounds_toArray, List.set_cons_zero, List.set_cons_succ]
          refine wpAnyH_take (i := 18) (oi := ⟨some 78, _, _, _, _, _⟩) (v := ?vpc19) rfl (by kernel_rfl) (by kernel_rfl) (by kernel_rfl) (fun _ _ _ h => h) (Or.inl ⟨by rfl, ?ypc19⟩) (by assumption) ?rpc19
          case ypc19 => (intro w hSw; (try dsimp only at hSw); go_simp; try with_reducible rfl)
          try simp only [Act.put, List.setIfInBounds_toArray, List.set_cons_zero, List.set_cons_succ]
          refine wpAnyH_take (i := 19) (oi := ⟨some 79, _, _, _, _, _⟩) (v := ?vpc20) rfl (by kernel_rfl) (by kernel_rfl) (by kernel_rfl) (fun _ _ _ h => h) (Or.inl ⟨by rfl, ?ypc20⟩) (by assumption) ?rpc20
          case ypc20 => (intro w hSw; (try dsimp only at hSw); go_simp; try with_reducible rfl)
          try simp only [Act.put, List.setIfInBounds_toArray, List.set_cons_zero, List.set_cons_succ]
          refine wpAnyH_take (i := 20) (oi := ⟨some 80, _, _, _, _, _⟩) (v := ?vpc21) rfl (by kernel_rfl) (by kernel_rfl) (by kernel_rfl) (fun _ _ _ h => h) (Or.inl ⟨by rfl, ?ypc21⟩) (by assumption) ?rpc21
          case ypc21 => (intro w hSw; (try dsimp only at hSw); go_simp; try with_reducible rfl)
          try simp only [Act.put, List.setIfInBounds_toArray, List.set_cons_zero, List.set_cons_succ]
          refine wpAnyH_take (i := 21) (oi := ⟨some 81, _, _, _, _, _⟩) (v := ?vpc22) rfl (by kernel_rfl) (by kernel_rfl) (by kernel_rfl) (fun _ _ _ h => h) (Or.inl ⟨by rfl, ?ypc22⟩) (by assumption) ?rpc22
          case ypc22 => (intro w hSw; (try dsimp only at hSw); go_simp; try with_reducible rfl)
          try simp only [Act.put, List.setIfInBounds_toArray, List.set_cons_zero, List.set_cons_succ]
          refine wpAnyH_take (i := 22) (oi := ⟨some 82, _, _, _, _, _⟩) (v := ?vpc23) rfl (by kernel_rfl) (by kernel_rfl) (by kernel_rfl) (fun _ _ _ h => h) (Or.inl ⟨by rfl, ?ypc23⟩) (by assumption) ?rpc23
          case ypc23 => (intro w hSw; (try dsimp only at hSw); go_simp; try with_reducible rfl)
          try simp only [Act.put, List.setIfInBounds_toArray, List.set_cons_zero, List.set_cons_succ]
          refine wpAnyH_take (i := 23) (oi := ⟨some 83, _, _, _, _, _⟩) (v := ?vpc24) rfl (by kernel_rfl) (by kernel_rfl) (by kernel_rfl) (fun _ _ _ h => h) (Or.inl ⟨by rfl, ?ypc24⟩) (by assumption) ?rpc24
          case ypc24 => (intro w hSw; (try dsimp only at hSw); go_simp; try with_reducible rfl)
          try simp only [Act.put, List.setIfInBounds_toArray, List.set_cons_zero, List.set_cons_succ]
          refine wpAnyH_ready (rs := [24]) (by kernel_rfl) (by simp) ?_
          refine AllReadyH.cons (o := ⟨some 84, _, _, _, _, _⟩) rfl (fun K hK => ?_) AllReadyH.nil
          go_simp
          ((go_at_call 7; (with_reducible refine (awake_any _).mono ?_); rintro e w4 ⟨rfl, k4⟩; have oi : Up Nul w2 w4 := (by first | exact HR0.out.drew.trans k4 | exact Up.trans (by assumption) k4); clear k4))
          refine hK.out _ _ ?kpc25 (fun hHeld => ?_)
          case kpc25 => exact oi
          clear hK K
          try simp only [Act.put, List.setIfInBounds_toArray, List.set_cons_zero, List.set_cons_succ]
          refine wpAnyH_take (i := 25) (oi := ⟨some 85, _, _, _, _, _⟩) (v := ?vpc26) rfl (by kernel_rfl) (by kernel_rfl) (by kernel_rfl) (fun _ _ _ h => h) (Or.inl ⟨by rfl, ?ypc26⟩) (by assumption) ?rpc26
          case ypc26 => (intro w hSw; (try dsimp only at hSw); go_simp; try with_reducible rfl)
          try simp only [Act.put, List.setIfInBounds_toArray, List.set_cons_zero, List.set_cons_succ]
          refine wpAnyH_take (i := 26) (oi := ⟨some 4, _, _, _, _, _⟩) (v := ?vpc27) rfl (by kernel_rfl) (by kernel_rfl) (by kernel_rfl) (fun _ _ _ h => h) (Or.inl ⟨by rfl, ?ypc27⟩) (by assumption) ?rpc27
          case ypc27 => (intro w hSw; (try dsimp only at hSw); go_simp; try with_reducible rfl)
          try simp only [Act.put, List.setIfInBounds_toArray, List.set_cons_zero, List.set_cons_succ]
          refine wpAnyH_done (by kernel_rfl) ?_ _
          have H3 := hid (HI.out.trans oi)
          go_wp2
          go_ret
          exact ⟨rfl, H3.out.below (Nat.le_refl _) fun _ _ => id⟩
  · have HB0 : Hid (B0 = false) := by
      show _ = _
      cases B0 with
      | false => rfl
      | true => have := hB.out.1 rfl; omega
    have e1 : ((n : Int) == 4) = true := by simp; omega
    have HX0 := hid h1
    clear h1
    clear HX0
    go_enter Try.func6, Try.ntmps6
    go_wp2_with fail
    go_loopw [5, 6, 7] (fun g s i wr => ∃ (k : Nat) (b : Bool), k ≤ n ∧ i = .int .i64 k ∧ g = .bool b ∧ Hid (b = true ↔ B0 = true ∧ ∀ i, i < k → (R i).length = 16) ∧ s = .string (strOf (flatB R k)) ∧ Hid (∀ i, i < k → (R i).length ≤ 40) ∧ Up Nul w wr) (fun _ _ i _ => n - (intOf i).toNat)
    case atStart => exact ⟨0, _, by omega, rfl, rfl, by (show _ ↔ _; rw [HB0.out]; first | (simp; done) | (simp; omega)), rfl, fun _ h => absurd h (Nat.not_lt_zero _), Up.refl _ _⟩
    case round =>
      obtain ⟨k, b, hk, rfl, rfl, HG, rfl, HL, hu⟩ := hrel
      have HU := hid hu
      clear hu
      by_cases hlt : k < n
      · obtain ⟨g, o, rfl, hsr⟩ := (HR.out.nxt HU.out).resolve_left (by omega)
        obtain ⟨ak, ck, x0, hsl, hcl, _⟩ := hsr.cells k hlt
        have c1 := hsl.conv ck
        have HN := hid (flatB_next R k)
        have HAP : Hid (strOf (flatB R k) ++ strOf (R k) = strOf (flatB R (k + 1))) := by show _ = _; rw [HN.out]; exact strOf_append _ _
        have HZ1 : Hid ((flatB R k).length ≤ k * 40) := flatB_congr_len HL.out
        have hz1 : (strOf (flatB R k)).size ≤ 800 := by rw [strOf_size]; have := HZ1.out; omega
        obtain ⟨x, X⟩ : ∃ x, Hid ((R k).length = x) := ⟨_, rfl⟩
        have hz2 : (strOf (R k)).size = x := by rw [strOf_size]; exact X.out
        rw [X.out] at x0 c1
        have HZ2 := hid hz2
        obtain ⟨s1, S1⟩ : ∃ t, Hid (strOf (flatB R k) = t) := ⟨_, rfl⟩
        obtain ⟨s2, S2⟩ : ∃ t, Hid (strOf (R k) = t) := ⟨_, rfl⟩
        rw [S1.out] at hz1 HAP
        rw [S1.out]
        rw [S2.out] at c1 HAP HZ2
        have i1 : (0 : Int) ≤ (k : Int) := by omega
        have i2 : (k : Int) < (n : Int) := by omega
        clear hsr hsl hcl hz2
        by_cases hx : 40 < x
        · have i3 : (40 : Int) < (x : Int) := by omega
          go_wp2_with fail
          refine (awake_any _).mono ?_
          rintro e w2 ⟨rfl, k2⟩
          have H2 := hid (HU.out.trans k2)
          clear k2
          go_wp2
          go_ret
          exact ⟨rfl, H2.out.below (Nat.le_refl _) fun _ _ => id⟩
        · have i3 : ¬ (40 : Int) < (x : Int) := by omega
          have hsz : s2.size ≤ 40 := by have := HZ2.out; omega
          have HL2 : Hid (∀ i, i < k + 1 → (R i).length ≤ 40) := fun i hi => by
            by_cases e : i = k
            · rw [e, X.out]; omega
            · exact HL.out i (by omega)
          have HXK : Hid (x = 16 ↔ (R k).length = 16) := by show _ ↔ _; rw [X.out]
          cases b with
          | false =>
            have HG2 : Hid (false = true ↔ B0 = true ∧ ∀ i, i < k + 1 → (R i).length = 16) := ⟨(fun h => by cases h), fun h => HG.out.2 ⟨h.1, fun i hi => h.2 i (by omega)⟩⟩
            go_wp2
            go_roundw
            case rel => exact ⟨k + 1, false, by omega, by go_num, rfl, HG2, by rw [HAP.out], HL2, HU.out⟩
            case measure => simp [intOf]; omega
          | true =>
            by_cases h16 : x = 16
            · have e16 : ((x : Int) == 16) = true := by simp; omega
              have HG2 : Hid (true = true ↔ B0 = true ∧ ∀ i, i < k + 1 → (R i).length = 16) := ⟨fun h => ⟨(HG.out.1 h).1, fun i hi => by
                by_cases e : i = k
                · rw [e]; exact HXK.out.1 h16
                · exact (HG.out.1 h).2 i (by omega)⟩, fun _ => rfl⟩
              clear h16
              go_wp2
              go_roundw
              case rel => exact ⟨k + 1, true, by omega, by go_num, rfl, HG2, by rw [HAP.out], HL2, HU.out⟩
              case measure => simp [intOf]; omega
            · have e16 : ((x : Int) == 16) = false := by simp; omega
              have HG2 : Hid (false = true ↔ B0 = true ∧ ∀ i, i < k + 1 → (R i).length = 16) := ⟨(fun h => by cases h), fun h => absurd (HXK.out.2 (h.2 k (by omega))) h16⟩
              clear h16
              go_wp2
              go_roundw
              case rel => exact ⟨k + 1, false, by omega, by go_num, rfl, HG2, by rw [HAP.out], HL2, HU.out⟩
              case measure => simp [intOf]; omega
      · obtain rfl : n = k := by omega
        have HF : Hid (b = true ↔ Fits R n m) := ⟨fun h => ⟨(hB.out.1 (HG.out.1 h).1).1, (hB.out.1 (HG.out.1 h).1).2.1, (hB.out.1 (HG.out.1 h).1).2.2, (HG.out.1 h).2⟩, fun h => HG.out.2 ⟨hB.out.2 ⟨h.1, h.2.1, h.2.2.1⟩, h.2.2.2⟩⟩
        go_wp2_with fail
        refine (join_any a n cap R m _ (HR.out.nxt HU.out)).mono ?_
        rintro e w2 (⟨hf, kk, hm, hkk, a2, c2, rfl, k1⟩ | ⟨hf, rfl, k1⟩)
        · obtain rfl : b = true := HF.out.2 hf
          have HI := hid (HU.out.trans k1.up)
          have HN4 : Hid (n = 4) := hf.1
          have HFL := hid (flatB_16 (hf.1 ▸ hf.2.2.2))
          have C1 : Hid (∀ W, Up Nul w2 W → (convert 22 9 (.slice a2 kk c2)).run Try.prog W = .ok (.string (strOf ((flatB R 4).take kk))) W) := fun W u => (k1.sl.nxt u).conv c2
          have HSL : Hid (∀ W, (Instr.slice 9 (.string (strOf (flatB R n))) none (some (.int .i64 m)) none).run Try.prog W = .ok (.string (strOf ((flatB R 4).take kk))) W) := fun W => by
            rw [HN4.out, hm, run_slice_string_h (P := Try.prog) W 9 _ Try.underlying9 .i64 kk (by omega) (by rw [strOf_size, HFL.out]; omega), strOf_extract]
            simp
          have hsl := HSL.out
          have hqq : ((strOf ((flatB R 4).take kk)).toList == (strOf ((flatB R 4).take kk)).toList) = true := by simp
          generalize strOf ((flatB R 4).take kk) = sk at C1 hsl hqq
          generalize strOf (flatB R n) = sn at hsl ⊢
          clear hf hm hkk k1 HSL HFL
          go_wp2_with fail
          have HR0 : Hid (Up Nul w2 w2) := Up.refl _ _
          refine wp_region_held_drew (S := (fun w' => Up Nul w2 w' ∧ (convert 22 9 (.slice a2 kk c2)).run Try.prog w' = .ok (.string sk) w')) (by kernel_rfl) (by exact ⟨HR0.out.drew, C1.out _ HR0.out.drew⟩) (fun hHeld => ?_)
          refine wpAnyH_take (i := 0) (oi := ⟨some 60, _, _, _, _, _⟩) (v := ?vqd1) rfl (by kernel_rfl) (by kernel_rfl) (by kernel_rfl) (fun _ _ _ h => h) (Or.inl ⟨by rfl, ?yqd1⟩) (by assumption) ?rqd1
          case yqd1 => (intro w hSw; (try dsimp only at hSw); go_simp; try with_reducible rfl)
          try simp only [Act.put, List.setIfInBounds_toArray, List.set_cons_zero, List.set_cons_succ]
          refine wpAnyH_take (i := 1) (oi := ⟨some 61, _, _, _, _, _⟩) (v := ?vqd2) rfl (by kernel_rfl) (by kernel_rfl) (by kernel_rfl) (fun _ _ _ h => h) (Or.inl ⟨by rfl, ?yqd2⟩) (by assumption) ?rqd2
          case yqd2 => (intro w hSw; (try dsimp only at hSw); go_simp; try with_reducible rfl)
          try simp only [Act.put, List.setIfInBounds_toArray, List.set_cons_zero, List.set_cons_succ]
          refine wpAnyH_take (i := 2) (oi := ⟨some 62, _, _, _, _, _⟩) (v := ?vqd3) rfl (by kernel_rfl) (by kernel_rfl) (by kernel_rfl) (fun _ _ _ h => h) (Or.inl ⟨by rfl, ?yqd3⟩) (by assumption) ?rqd3
          case yqd3 => (intro w hSw; (try dsimp only at hSw); go_simp; try with_reducible rfl)
          try simp only [Act.put, List.setIfInBounds_toArray, List.set_cons_zero, List.set_cons_succ]
          refine wpAnyH_take (i := 3) (oi := ⟨some 63, _, _, _, _, _⟩) (v := ?vqd4) rfl (by kernel_rfl) (by kernel_rfl) (by kernel_rfl) (fun _ _ _ h => h) (Or.inl ⟨by rfl, ?yqd4⟩) (by assumption) ?rqd4
          case yqd4 => (intro w hSw; (try dsimp only at hSw); go_simp; try with_reducible rfl)
          try simp only [Act.put, List.setIfInBounds_toArray, List.set_cons_zero, List.set_cons_succ]
          refine wpAnyH_take (i := 4) (oi := ⟨some 64, _, _, _, _, _⟩) (v := ?vqd5) rfl (by kernel_rfl) (by kernel_rfl) (by kernel_rfl) (fun _ _ _ h => h) (Or.inl ⟨by rfl, ?yqd5⟩) (by assumption) ?rqd5
          case yqd5 => (intro w hSw; (try dsimp only at hSw); go_simp; try with_reducible rfl)
          try simp only [Act.put, List.setIfInBounds_toArray, List.set_cons_zero, List.set_cons_succ]
          refine wpAnyH_take (i := 5) (oi := ⟨some 65, _, _, _, _, _⟩) (v := ?vqd6) rfl (by kernel_rfl) (by kernel_rfl) (by kernel_rfl) (fun _ _ _ h => h) (Or.inl ⟨by rfl, ?yqd6⟩) (by assumption) ?rqd6
          case yqd6 => (intro w hSw; (try dsimp only at hSw); go_simp; try with_reducible rfl)
          try simp only [Act.put, List.setIfInBounds_toArray, List.set_cons_zero, List.set_cons_succ]
          refine wpAnyH_take (i := 6) (oi := ⟨some 66, _, _, _, _, _⟩) (v := ?vqd7) rfl (by kernel_rfl) (by kernel_rfl) (by kernel_rfl) (fun _ _ _ h => h) (Or.inl ⟨by rfl, ?yqd7⟩) (by assumption) ?rqd7
          case yqd7 => (intro w hSw; (try dsimp only at hSw); go_simp; try with_reducible rfl)
          try simp only [Act.put, List.setIfInBounds_toArray, List.set_cons_zero, List.set_cons_succ]
          refine wpAnyH_take (i := 7) (oi := ⟨some 67, _, _, _, _, _⟩) (v := ?vqd8) rfl (by kernel_rfl) (by kernel_rfl) (by kernel_rfl) (fun _ _ _ h => h) (Or.inl ⟨by rfl, ?yqd8⟩) (by assumption) ?rqd8
          case yqd8 => (intro w hSw; (try dsimp only at hSw); go_simp; try with_reducible rfl)
          try simp only [Act.put, List.setIfInBounds_toArray, List.set_cons_zero, List.set_cons_succ]
          refine wpAnyH_take (i := 8) (oi := ⟨some 68, _, _, _, _, _⟩) (v := ?vqd9) rfl (by kernel_rfl) (by kernel_rfl) (by kernel_rfl) (fun _ _ _ h => h) (Or.inl ⟨by rfl, ?yqd9⟩) (by assumption) ?rqd9
          case yqd9 => (intro w hSw; (try dsimp only at hSw); go_simp; try with_reducible rfl)
          try simp only [Act.put, List.setIfInBounds_toArray, List.set_cons_zero, List.set_cons_succ]
          refine wpAnyH_take (i := 9) (oi := ⟨some 69, _, _, _, _, _⟩) (v := ?vqd10) rfl (by kernel_rfl) (by kernel_rfl) (by kernel_rfl) (fun _ _ _ h => h) (Or.inl ⟨by rfl, ?yqd10⟩) (by assumption) ?rqd10
          case yqd10 => (intro w hSw; (try dsimp only at hSw); go_simp; try with_reducible rfl)
          try simp only [Act.put, List.setIfInBounds_toArray, List.set_cons_zero, List.set_cons_succ]
          refine wpAnyH_take (i := 10) (oi := ⟨some 70, _, _, _, _, _⟩) (v := ?vqd11) rfl (by kernel_rfl) (by kernel_rfl) (by kernel_rfl) (fun _ _ _ h => h) (Or.inl ⟨by rfl, ?yqd11⟩) (by assumption) ?rqd11
          case yqd11 => (intro w hSw; (try dsimp only at hSw); go_simp; try with_reducible rfl)
          try simp only [Act.put, List.setIfInBounds_toArray, List.set_cons_zero, List.set_cons_succ]
          refine wpAnyH_take (i := 11) (oi := ⟨some 71, _, _, _, _, _⟩) (v := ?vqd12) rfl (by kernel_rfl) (by kernel_rfl) (by kernel_rfl) (fun _ _ _ h => h) (Or.inl ⟨by rfl, ?yqd12⟩) (by assumption) ?rqd12
          case yqd12 => (intro w hSw; (try dsimp only at hSw); go_simp; try with_reducible rfl)
          try simp only [Act.put, List.setIfInBounds_toArray, List.set_cons_zero, List.set_cons_succ]
          refine wpAnyH_take (i := 12) (oi := ⟨some 72, _, _, _, _, _⟩) (v := ?vqd13) rfl (by kernel_rfl) (by kernel_rfl) (by kernel_rfl) (fun _ _ _ h => h) (Or.inl ⟨by rfl, ?yqd13⟩) (by assumption) ?rqd13
          case yqd13 => (intro w hSw; (try dsimp only at hSw); go_simp; try with_reducible rfl)
          try simp only [Act.put, List.setIfInBounds_toArray, List.set_cons_zero, List.set_cons_succ]
          refine wpAnyH_take (i := 13) (oi := ⟨some 73, _, _, _, _, _⟩) (v := ?vqd14) rfl (by kernel_rfl) (by kernel_rfl) (by kernel_rfl) (fun _ _ _ h => h) (Or.inl ⟨by rfl, ?yqd14⟩) (by assumption) ?rqd14
          case yqd14 => (intro w hSw; (try dsimp only at hSw); go_simp; try with_reducible rfl)
          try simp only [Act.put, List.setIfInBounds_toArray, List.set_cons_zero, List.set_cons_succ]
          refine wpAnyH_take (i := 14) (oi := ⟨some 74, _, _, _, _, _⟩) (v := undef) rfl (by kernel_rfl) (by kernel_rfl) (by kernel_rfl) (fun _ _ _ h => h) (Or.inr ⟨by rfl, rfl⟩) (by assumption) ?rqd15
          try simp only [Act.put, List.setIfInBounds_toArray, List.set_cons_zero, List.set_cons_succ]
          refine wpAnyH_take (i := 15) (oi := ⟨some 75, _, _, _, _, _⟩) (v := undef) rfl (by kernel_rfl) (by kernel_rfl) (by kernel_rfl) (fun _ _ _ h => h) (Or.inr ⟨by rfl, rfl⟩) (by assumption) ?rqd16
          try simp only [Act.put, List.setIfInBounds_toArray, List.set_cons_zero, List.set_cons_succ]
          refine wpAnyH_take (i := 16) (oi := ⟨some 76, _, _, _, _, _⟩) (v := undef) rfl (by kernel_rfl) (by kernel_rfl) (by kernel_rfl) (fun _ _ _ h => h) (Or.inr ⟨by rfl, rfl⟩) (by assumption) ?rqd17
          try simp only [Act.put, List.setIfInBounds_toArray, List.set_cons_zero, List.set_cons_succ]
          refine wpAnyH_take (i := 17) (oi := ⟨some 77, _, _, _, _, _⟩) (v := undef) rfl (by kernel_rfl) (by kernel_rfl) (by kernel_rfl) (fun _ _ _ h => h) (Or.inr ⟨by rfl, rfl⟩) (by assumption) ?rqd18
          try simp only [Act.put, List.setIfInBounds_toArray, List.set_cons_zero, List.set_cons_succ]
          refine wpAnyH_take (i := 18) (oi := ⟨some 78, _, _, _, _, _⟩) (v := undef) rfl (by kernel_rfl) (by kernel_rfl) (by kernel_rfl) (fun _ _ _ h => h) (Or.inr ⟨by rfl, rfl⟩) (by assumption) ?rqd19
          try simp only [Act.put, List.setIfInBounds_toArray, List.set_cons_zero, List.set_cons_succ]
          refine wpAnyH_take (i := 19) (oi := ⟨some 79, _, _, _, _, _⟩) (v := undef) rfl (by kernel_rfl) (by kernel_rfl) (by kernel_rfl) (fun _ _ _ h => h) (Or.inr ⟨by rfl, rfl⟩) (by assumption) ?rqd20
          try simp only [Act.put, List.setIfInBounds_toArray, List.set_cons_zero, List.set_cons_succ]
          refine wpAnyH_take (i := 20) (oi := ⟨some 80, _, _, _, _, _⟩) (v := undef) rfl (by kernel_rfl) (by kernel_rfl) (by kernel_rfl) (fun _ _ _ h => h) (Or.inr ⟨by rfl, rfl⟩) (by assumption) ?rqd21
          try simp only [Act.put, List.setIfInBounds_toArray, List.set_cons_zero, List.set_cons_succ]
          refine wpAnyH_take (i := 21) (oi := ⟨some 81, _, _, _, _, _⟩) (v := ?vqd22) rfl (by kernel_rfl) (by kernel_rfl) (by kernel_rfl) (fun _ _ _ h => h) (Or.inl ⟨by rfl, ?yqd22⟩) (by assumption) ?rqd22
          case yqd22 => (intro w hSw; (try dsimp only at hSw); go_simp; try with_reducible rfl)
          try simp only [Act.put, List.setIfInBounds_toArray, List.set_cons_zero, List.set_cons_succ]
          refine wpAnyH_take (i := 22) (oi := ⟨some 82, _, _, _, _, _⟩) (v := ?vqd23) rfl (by kernel_rfl) (by kernel_rfl) (by kernel_rfl) (fun _ _ _ h => h) (Or.inl ⟨by rfl, ?yqd23⟩) (by assumption) ?rqd23
          case yqd23 => (intro w hSw; (try dsimp only at hSw); go_simp; try with_reducible rfl)
          try simp only [Act.put, List.setIfInBounds_toArray, List.set_cons_zero, List.set_cons_succ]
          refine wpAnyH_take (i := 23) (oi := ⟨some 83, _, _, _, _, _⟩) (v := ?vqd24) rfl (by kernel_rfl) (by kernel_rfl) (by kernel_rfl) (fun _ _ _ h => h) (Or.inl ⟨by rfl, ?yqd24⟩) (by assumption) ?rqd24
          case yqd24 => (intro w hSw; (try dsimp only at hSw); go_simp; try with_reducible rfl)
          try simp only [Act.put, List.setIfInBounds_toArray, List.set_cons_zero, List.set_cons_succ]
          refine wpAnyH_ready (rs := [24]) (by kernel_rfl) (by simp) ?_
          refine AllReadyH.cons (o := ⟨some 84, _, _, _, _, _⟩) rfl (fun K hK => ?_) AllReadyH.nil
          go_simp
          ((go_at_call 7; (with_reducible refine (awake_any _).mono ?_); rintro e w4 ⟨rfl, k4⟩; have oi : Up Nul w2 w4 := (by first | exact HR0.out.drew.trans k4 | exact Up.trans (by assumption) k4); clear k4))
          refine hK.out _ _ ?kqd25 (fun hHeld => ?_)
          case kqd25 => exact ⟨oi, C1.out _ oi⟩
          clear hK K
          try simp only [Act.put, List.setIfInBounds_toArray, List.set_cons_zero, List.set_cons_succ]
          refine wpAnyH_take (i := 25) (oi := ⟨some 85, _, _, _, _, _⟩) (v := ?vqd26) rfl (by kernel_rfl) (by kernel_rfl) (by kernel_rfl) (fun _ _ _ h => h) (Or.inl ⟨by rfl, ?yqd26⟩) (by assumption) ?rqd26
          case yqd26 => (intro w hSw; (try dsimp only at hSw); go_simp; try with_reducible rfl)
          try simp only [Act.put, List.setIfInBounds_toArray, List.set_cons_zero, List.set_cons_succ]
          refine wpAnyH_take (i := 26) (oi := ⟨some 4, _, _, _, _, _⟩) (v := ?vqd27) rfl (by kernel_rfl) (by kernel_rfl) (by kernel_rfl) (fun _ _ _ h => h) (Or.inl ⟨by rfl, ?yqd27⟩) (by assumption) ?rqd27
          case yqd27 => (intro w hSw; (try dsimp only at hSw); go_simp; try with_reducible rfl)
          try simp only [Act.put, List.setIfInBounds_toArray, List.set_cons_zero, List.set_cons_succ]
          refine wpAnyH_done (by kernel_rfl) ?_ _
          have H3 := hid (HI.out.trans oi)
          go_wp2
          go_ret
          exact ⟨rfl, H3.out.below (Nat.le_refl _) fun _ _ => id⟩
        · obtain rfl : b = false := by
            cases b with
            | false => rfl
            | true => exact absurd (HF.out.1 rfl) hf
          have HI := hid (HU.out.trans k1)
          clear hf k1
          go_wp2_with fail
          have HR0 : Hid (Up Nul w2 w2) := Up.refl _ _
          refine wp_region_held_drew (S := (fun w' => Up Nul w2 w')) (by kernel_rfl) (by exact HR0.out.drew) (fun hHeld => ?_)
          refine wpAnyH_take (i := 0) (oi := ⟨some 60, _, _, _, _, _⟩) (v := ?vpd1) rfl (by kernel_rfl) (by kernel_rfl) (by kernel_rfl) (fun _ _ _ h => h) (Or.inl ⟨by rfl, ?ypd1⟩) (by assumption) ?rpd1
          case ypd1 => (intro w hSw; (try dsimp only at hSw); go_simp; try with_reducible rfl)
          try simp only [Act.put, List.setIfInBounds_toArray, List.set_cons_zero, List.set_cons_succ]
          refine wpAnyH_take (i := 1) (oi := ⟨some 61, _, _, _, _, _⟩) (v := ?vpd2) rfl (by kernel_rfl) (by kernel_rfl) (by kernel_rfl) (fun _ _ _ h => h) (Or.inl ⟨by rfl, ?ypd2⟩) (by assumption) ?rpd2
          case ypd2 => (intro w hSw; (try dsimp only at hSw); go_simp; try with_reducible rfl)
          try simp only [Act.put, List.setIfInBounds_toArray, List.set_cons_zero, List.set_cons_succ]
          refine wpAnyH_take (i := 2) (oi := ⟨some 62, _, _, _, _, _⟩) (v := ?vpd3) rfl (by kernel_rfl) (by kernel_rfl) (by kernel_rfl) (fun _ _ _ h => h) (Or.inl ⟨by rfl, ?ypd3⟩) (by assumption) ?rpd3
          case ypd3 => (intro w hSw; (try dsimp only at hSw); go_simp; try with_reducible rfl)
          try simp only [Act.put, List.setIfInBounds_toArray, List.set_cons_zero, List.set_cons_succ]
          refine wpAnyH_take (i := 3) (oi := ⟨some 63, _, _, _, _, _⟩) (v := ?vpd4) rfl (by kernel_rfl) (by kernel_rfl) (by kernel_rfl) (fun _ _ _ h => h) (Or.inl ⟨by rfl, ?ypd4⟩) (by assumption) ?rpd4
          case ypd4 => (intro w hSw; (try dsimp only at hSw); go_simp; try with_reducible rfl)
          try simp only [Act.put, List.setIfInBounds_toArray, List.set_cons_zero, List.set_cons_succ]
          refine wpAnyH_take (i := 4) (oi := ⟨some 64, _, _, _, _, _⟩) (v := ?vpd5) rfl (by kernel_rfl) (by kernel_rfl) (by kernel_rfl) (fun _ _ _ h => h) (Or.inl ⟨by rfl, ?ypd5⟩) (by assumption) ?rpd5
          case ypd5 => (intro w hSw; (try dsimp only at hSw); go_simp; try with_reducible rfl)
          try simp only [Act.put, List.setIfInBounds_toArray, List.set_cons_zero, List.set_cons_succ]
          refine wpAnyH_take (i := 5) (oi := ⟨some 65, _, _, _, _, _⟩) (v := ?vpd6) rfl (by kernel_rfl) (by kernel_rfl) (by kernel_rfl) (fun _ _ _ h => h) (Or.inl ⟨by rfl, ?ypd6⟩) (by assumption) ?rpd6
          case ypd6 => (intro w hSw; (try dsimp only at hSw); go_simp; try with_reducible rfl)
          try simp only [Act.put, List.setIfInBounds_toArray, List.set_cons_zero, List.set_cons_succ]
          refine wpAnyH_take (i := 6) (oi := ⟨some 66, _, _, _, _, _⟩) (v := undef) rfl (by kernel_rfl) (by kernel_rfl) (by kernel_rfl) (fun _ _ _ h => h) (Or.inr ⟨by rfl, rfl⟩) (by assumption) ?rpd7
          try simp only [Act.put, List.setIfInBounds_toArray, List.set_cons_zero, List.set_cons_succ]
          refine wpAnyH_take (i := 7) (oi := ⟨some 67, _, _, _, _, _⟩) (v := undef) rfl (by kernel_rfl) (by kernel_rfl) (by kernel_rfl) (fun _ _ _ h => h) (Or.inr ⟨by rfl, rfl⟩) (by assumption) ?rpd8
          try simp only [Act.put, List.setIfInBounds_toArray, List.set_cons_zero, List.set_cons_succ]
          refine wpAnyH_take (i := 8) (oi := ⟨some 68, _, _, _, _, _⟩) (v := undef) rfl (by kernel_rfl) (by kernel_rfl) (by kernel_rfl) (fun _ _ _ h => h) (Or.inr ⟨by rfl, rfl⟩) (by assumption) ?rpd9
          try simp only [Act.put, List.setIfInBounds_toArray, List.set_cons_zero, List.set_cons_succ]
          refine wpAnyH_take (i := 9) (oi := ⟨some 69, _, _, _, _, _⟩) (v := undef) rfl (by kernel_rfl) (by kernel_rfl) (by kernel_rfl) (fun _ _ _ h => h) (Or.inr ⟨by rfl, rfl⟩) (by assumption) ?rpd10
          try simp only [Act.put, List.setIfInBounds_toArray, List.set_cons_zero, List.set_cons_succ]
          refine wpAnyH_take (i := 10) (oi := ⟨some 70, _, _, _, _, _⟩) (v := undef) rfl (by kernel_rfl) (by kernel_rfl) (by kernel_rfl) (fun _ _ _ h => h) (Or.inr ⟨by rfl, rfl⟩) (by assumption) ?rpd11
          try simp only [Act.put, List.setIfInBounds_toArray, List.set_cons_zero, List.set_cons_succ]
          refine wpAnyH_take (i := 11) (oi := ⟨some 71, _, _, _, _, _⟩) (v := undef) rfl (by kernel_rfl) (by kernel_rfl) (by kernel_rfl) (fun _ _ _ h => h) (Or.inr ⟨by rfl, rfl⟩) (by assumption) ?rpd12
          try simp only [Act.put, List.setIfInBounds_toArray, List.set_cons_zero, List.set_cons_succ]
          refine wpAnyH_take (i := 12) (oi := ⟨some 72, _, _, _, _, _⟩) (v := ?vpd13) rfl (by kernel_rfl) (by kernel_rfl) (by kernel_rfl) (fun _ _ _ h => h) (Or.inl ⟨by rfl, ?ypd13⟩) (by assumption) ?rpd13
          case ypd13 => (intro w hSw; (try dsimp only at hSw); go_simp; try with_reducible rfl)
          try simp only [Act.put, List.setIfInBounds_toArray, List.set_cons_zero, List.set_cons_succ]
          refine wpAnyH_take (i := 13) (oi := ⟨some 73, _, _, _, _, _⟩) (v := ?vpd14) rfl (by kernel_rfl) (by kernel_rfl) (by kernel_rfl) (fun _ _ _ h => h) (Or.inl ⟨by rfl, ?ypd14⟩) (by assumption) ?rpd14
          case ypd14 => (intro w hSw; (try dsimp only at hSw); go_simp; try with_reducible rfl)
          try simp only [Act.put, List.setIfInBounds_toArray, List.set_cons_zero, List.set_cons_succ]
          refine wpAnyH_take (i := 14) (oi := ⟨some 74, _, _, _, _, _⟩) (v := ?vpd15) rfl (by kernel_rfl) (by kernel_rfl) (by kernel_rfl) (fun _ _ _ h => h) (Or.inl ⟨by rfl, ?ypd15⟩) (by assumption) ?rpd15
          case ypd15 => (intro w hSw; (try dsimp only at hSw); go_simp; try with_reducible rfl)
          try simp only [Act.put, List.setIfInBounds_toArray, List.set_cons_zero, List.set_cons_succ]
          refine wpAnyH_take (i := 15) (oi := ⟨some 75, _, _, _, _, _⟩) (v := ?vpd16) rfl (by kernel_rfl) (by kernel_rfl) (by kernel_rfl) (fun _ _ _ h => h) (Or.inl ⟨by rfl, ?ypd16⟩) (by assumption) ?rpd16
          case ypd16 => (intro w hSw; (try dsimp only at hSw); go_simp; try with_reducible rfl)
          try simp only [Act.put, List.setIfInBounds_toArray, List.set_cons_zero, List.set_cons_succ]
          refine wpAnyH_take (i := 16) (oi := ⟨some 76, _, _, _, _, _⟩) (v := ?vpd17) rfl (by kernel_rfl) (by kernel_rfl) (by kernel_rfl) (fun _ _ _ h => h) (Or.inl ⟨by rfl, ?ypd17⟩) (by assumption) ?rpd17
          case ypd17 => (intro w hSw; (try dsimp only at hSw); go_simp; try with_reducible rfl)
          try simp only [Act.put, List.setIfInBounds_toArray, List.set_cons_zero, List.set_cons_succ]
          refine wpAnyH_take (i := 17) (oi := ⟨some 77, _, _, _, _, _⟩) (v := ?vpd18) rfl (by kernel_rfl) (by kernel_rfl) (by kernel_rfl) (fun _ _ _ h => h) (Or.inl ⟨by rfl, ?ypd18⟩) (by assumption) ?rpd18
          case ypd18 => (intro w hSw; (try dsimp only at hSw); go_simp; try with_reducible rfl)
          try simp only [Act.put, List.setIfInBounds_toArray, List.set_cons_zero, List.set_cons_succ]
          refine wpAnyH_take (i := 18) (oi := ⟨some 78, _, _, _, _, _⟩) (v := ?vpd19) rfl (by kernel_rfl) (by kernel_rfl) (by kernel_rfl) (fun _ _ _ h => h) (Or.inl ⟨by rfl, ?ypd19⟩) (by assumption) ?rpd19
          case ypd19 => (intro w hSw; (try dsimp only at hSw); go_simp; try with_reducible rfl)
          try simp only [Act.put, List.setIfInBounds_toArray, List.set_cons_zero, List.set_cons_succ]
          refine wpAnyH_take (i := 19) (oi := ⟨some 79, _, _, _, _, _⟩) (v := ?vpd20) rfl (by kernel_rfl) (by kernel_rfl) (by kernel_rfl) (fun _ _ _ h => h) (Or.inl ⟨by rfl, ?ypd20⟩) (by assumption) ?rpd20
          case ypd20 => (intro w hSw; (try dsimp only at hSw); go_simp; try with_reducible rfl)
          try simp only [Act.put, List.setIfInBounds_toArray, List.set_cons_zero, List.set_cons_succ]
          refine wpAnyH_take (i := 20) (oi := ⟨some 80, _, _, _, _, _⟩) (v := ?vpd21) rfl (by kernel_rfl) (by kernel_rfl) (by kernel_rfl) (fun _ _ _ h => h) (Or.inl ⟨by rfl, ?ypd21⟩) (by assumption) ?rpd21
          case ypd21 => (intro w hSw; (try dsimp only at hSw); go_simp; try with_reducible rfl)
          try simp only [Act.put, List.setIfInBounds_toArray, List.set_cons_zero, List.set_cons_succ]
          refine wpAnyH_take (i := 21) (oi := ⟨some 81, _, _, _, _, _⟩) (v := ?vpd22) rfl (by kernel_rfl) (by kernel_rfl) (by kernel_rfl) (fun _ _ _ h => h) (Or.inl ⟨by rfl, ?ypd22⟩) (by assumption) ?rpd22
          case ypd22 => (intro w hSw; (try dsimp only at hSw); go_simp; try with_reducible rfl)
          try simp only [Act.put, List.setIfInBounds_toArray, List.set_cons_zero, List.set_cons_succ]
          refine wpAnyH_take (i := 22) (oi := ⟨some 82, _, _, _, _, _⟩) (v := ?vpd23) rfl (by kernel_rfl) (by kernel_rfl) (by kernel_rfl) (fun _ _ _ h => h) (Or.inl ⟨by rfl, ?ypd23⟩) (by assumption) ?rpd23
          case ypd23 => (intro w hSw; (try dsimp only at hSw); go_simp; try with_reducible rfl)
          try simp only [Act.put, List.setIfInBounds_toArray, List.set_cons_zero, List.set_cons_succ]
          refine wpAnyH_take (i := 23) (oi := ⟨some 83, _, _, _, _, _⟩) (v := ?vpd24) rfl (by kernel_rfl) (by kernel_rfl) (by kernel_rfl) (fun _ _ _ h => h) (Or.inl ⟨by rfl, ?ypd24⟩) (by assumption) ?rpd24
          case ypd24 => (intro w hSw; (try dsimp only at hSw); go_simp; try with_reducible rfl)
          try simp only [Act.put, List.setIfInBounds_toArray, List.set_cons_zero, List.set_cons_succ]
          refine wpAnyH_ready (rs := [24]) (by kernel_rfl) (by simp) ?_
          refine AllReadyH.cons (o := ⟨some 84, _, _, _, _, _⟩) rfl (fun K hK => ?_) AllReadyH.nil
          go_simp
          ((go_at_call 7; (with_reducible refine (awake_any _).mono ?_); rintro e w4 ⟨rfl, k4⟩; have oi : Up Nul w2 w4 := (by first | exact HR0.out.drew.trans k4 | exact Up.trans (by assumption) k4); clear k4))
          refine hK.out _ _ ?kpd25 (fun hHeld => ?_)
          case kpd25 => exact oi
          clear hK K
          try simp only [Act.put, List.setIfInBounds_toArray, List.set_cons_zero, List.set_cons_succ]
          refine wpAnyH_take (i := 25) (oi := ⟨some 85, _, _, _, _, _⟩) (v := ?vpd26) rfl (by kernel_rfl) (by kernel_rfl) (by kernel_rfl) (fun _ _ _ h => h) (Or.inl ⟨by rfl, ?ypd26⟩) (by assumption) ?rpd26
          case ypd26 => (intro w hSw; (try dsimp only at hSw); go_simp; try with_reducible rfl)
          try simp only [Act.put, List.setIfInBounds_toArray, List.set_cons_zero, List.set_cons_succ]
          refine wpAnyH_take (i := 26) (oi := ⟨some 4, _, _, _, _, _⟩) (v := ?vpd27) rfl (by kernel_rfl) (by kernel_rfl) (by kernel_rfl) (fun _ _ _ h => h) (Or.inl ⟨by rfl, ?ypd27⟩) (by assumption) ?rpd27
          case ypd27 => (intro w hSw; (try dsimp only at hSw); go_simp; try with_reducible rfl)
          try simp only [Act.put, List.setIfInBounds_toArray, List.set_cons_zero, List.set_cons_succ]
          refine wpAnyH_done (by kernel_rfl) ?_ _
          have H3 := hid (HI.out.trans oi)
          go_wp2
          go_ret
          exact ⟨rfl, H3.out.below (Nat.le_refl _) fun _ _ => id⟩
/-- What the row's step knows of a slice of slices of bytes. -/
def CameR (w : World) (a : Option Addr) (n cap : Nat) : Prop :=
  (a = none ∧ n = 0 ∧ cap = 0) ∨ ∃ x, a = some x ∧ ∃ (A : Nat → Option Addr) (L C : Nat → Nat) (Z : Nat → List Int), n ≤ cap ∧ cap ≤ maxLen ∧ ∀ r, r < cap → w.cell? (x.add r) = some (.slice (A r) (L r) (C r)) ∧ CameIn w (A r) (L r) (C r) (Z r)
theorem CameR.inr {w : World} {a : Option Addr} {n cap : Nat} (h : CameR w a n cap) : ∃ R, InR w a n R := by
  rcases h with ⟨_, h, _⟩ | ⟨x, rfl, A, L, C, Z, hl, hm, hr⟩
  · exact ⟨fun _ => [], .inl h⟩
  · rcases Nat.eq_zero_or_pos n with e | e
    · exact ⟨fun _ => [], .inl e⟩
    · have hz : ∀ r, ∃ z, r < cap → SlN w (A r) (L r) z := fun r => by
        by_cases hr' : r < cap
        · obtain ⟨z, hz⟩ := SlN.of (hr r hr').2
          exact ⟨z, fun _ => hz⟩
        · exact ⟨[], fun h => absurd h hr'⟩
      have hch : ∀ r, r < cap → SlN w (A r) (L r) ((hz r).choose) := fun r h => (hz r).choose_spec h
      obtain ⟨g, o, spot⟩ := x
      have h0 := (hr 0 (by omega)).1
      have hs : spot = none := by simpa [Addr.add] using World.cell?_spot h0
      subst hs
      refine ⟨fun r => (hz r).choose, .inr ⟨g, o, rfl, fun i hi => ?_, fun _ => lt_of_cell h0⟩⟩
      have hs := hch i (by omega)
      obtain ⟨h1, h2⟩ := hr i (by omega)
      rw [add_off] at h1
      rw [hs.len]
      exact ⟨_, _, h1, hs, came_cap h2, fun e => by
        rcases h2 with ⟨_, h, _⟩ | ⟨_, h, _⟩
        · exact h
        · rw [e] at h; cases h⟩
theorem joins_walk (a : Option Addr) (n cap : Nat) (m : Int) (w : World) (h : CameR w a n cap) :
    Calls Try.prog 6 #[.slice a n cap, .int .i64 m] w fun e w' => e = .returned (.bool true) ∧ Below w.heap.size w w' := by
  by_cases hn : n ≤ 20
  · obtain ⟨R, hR⟩ := h.inr
    exact joins_short a n cap R m w hn hR
  · exact joins_long a n cap m w (by omega)
end Go.Proofs.Ytcigmbjipnchaaa
