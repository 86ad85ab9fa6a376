/- The law FrameEnds, walked. -/
import Derived.Test.YtmnkhdhohjceoaaFrameLaw
namespace Go.Proofs.Ytmnkhdhohjceoaa
open Go.RowKit
set_option linter.unusedVariables false

theorem len_none {z : List Nat} {n : Nat} (h : z.length = n) (hn : ¬ n = 96) : FrM.tk z = none := tk_len (by omega)
set_option maxRecDepth 100000 in
set_option maxHeartbeats 3200000 in
theorem ends_walk (a0 a1 : Int) (w : World) :
    Calls Try.prog 4 #[.int .i64 a0, .int .i64 a1] w fun e w' => e = .returned (.bool true) ∧ Below w.heap.size w w' := by
  obtain ⟨k, hk, k8⟩ := FrL.mask3 a0
  obtain ⟨i, hi, i2⟩ := FrL.mask1 a1
  obtain ⟨m, hm⟩ : ∃ m : Nat, m = k + 61 := ⟨_, rfl⟩
  have hm2 : (k : Int) + 61 = (m : Int) := by omega
  have hmk : ∀ w, (Instr.makeSlice 37 (.int .i64 m) (.int .i64 m)).run Try.prog w = .ok (.slice (some ⟨w.heap.size, 0, none⟩) m m) (w.alloc (.cells (bys (zer m)) 5)) := fun w => make_bytes w m (by omega)
  have HM := hid hm
  have HK := hid k8
  have HI := hid i2
  have u64w : IntKind.i64.wrap (m : Int) = (m : Int) := IntWalk.i64_in _ (by omega)
  clear hm
  go_enter Try.func4, Try.ntmps4
  go_wp2_with fail
  have HZ := hid (zer_sln w m (by have := HM.out; have := HK.out; omega))
  have U0 := hid ((Up.refl Nul w).alloc (.cells (bys (zer m)) 5))
  by_cases h64 : m ≤ 64
  · have HC := hid h64
    have j1 : (m : Int) ≤ 64 := by omega
    have j2 : decide ((m : Int) ≤ 64) = true := by simp; omega
    clear h64
    refine (put_some i _ m m (zer m) _ (by have := HI.out; omega) HC.out HZ.out).mono ?_
    rintro e w1 ⟨g, rfl, g1, g2, g3⟩
    have HB := hid g2
    have H1 := hid (U0.out.trans g3)
    clear g1 g2 g3
    go_wp2_with fail
    refine (put_some 4294967295 none 0 0 [] _ (by omega) (by omega) ⟨rfl, .inl rfl, by omega⟩).mono ?_
    rintro e w2 ⟨g2, rfl, _, _, u2⟩
    have HB2 := hid (HB.out.up u2 (fun h => h))
    have H2 := hid (H1.out.trans u2)
    clear u2 HB H1
    go_wp2_with fail
    refine (put_bad 4294967296 none 0 0 _ (by omega) (by omega) (.inr (.inl (by omega)))).mono ?_
    rintro e w3 ⟨rfl, rfl⟩
    go_wp2_with fail
    refine (put_bad (-1) none 0 0 _ (by omega) (by omega) (.inl (by omega))).mono ?_
    rintro e w3 ⟨rfl, rfl⟩
    have HL : Hid ((zer m).length = m) := zer_length m
    have HF := hid (fr_sln HB2.out (by rw [zer_length]; exact HC.out))
    go_wp2_with fail
    refine (take_yes (some ⟨g, 0, none⟩) 96 96 i (zer m) w2 (by have := HI.out; omega) (by rw [HL.out]; exact HC.out) HF.out (by omega)).mono ?_
    rintro e w3 ⟨a', c, rfl, kt⟩
    rw [HL.out]
    have H3 := hid (H2.out.trans kt.up)
    have HF3 := hid (HF.out.nxt kt.up)
    clear kt HF H2
    have hs95 := run_upto (some ⟨g, 0, none⟩) 96 96 95 (by omega) w3
    have HS : Hid (SlN w3 (some ⟨g, 0, none⟩) 95 ((FrM.fr i (zer m)).take 95)) := by
      have := HF3.out.mid 0 95 96 (by omega) (by omega)
      rw [atOff, if_neg (by omega), List.drop_zero] at this
      have this : SlN w3 (some (Addr.add ⟨g, 0, none⟩ 0)) 95 ((FrM.fr i (zer m)).take 95) := this
      rw [add_off] at this
      exact this
    go_wp2_with fail
    refine (take_no (some ⟨g, 0, none⟩) 95 96 _ w3 (len_none HS.out.len (by omega)) HS.out (by omega)).mono ?_
    rintro e w4 ⟨rfl, u4⟩
    have H4 := hid (H3.out.trans u4)
    have HF4 := hid (HF3.out.nxt u4)
    clear u4 H3 HF3 hs95 HS
    have HA : Hid (OwnB w4.heap.size (w4.alloc (.cells #[] 5)) (.slice (some ⟨w4.heap.size, 0, none⟩) 0 0) []) := ⟨World.ownsRow_made w4 #[] 0 (Nat.le_refl _) (by unfold maxLen; omega) rfl, fun _ h => by cases h⟩
    have UA := hid ((Up.refl Nul w4).alloc (.cells #[] 5))
    have HFA := hid (HF4.out.nxt UA.out)
    have HLF : Hid ((FrM.fr i (zer m)).length = 96) := FrM.fr_length (by rw [HL.out]; exact HC.out)
    go_wp2_with (first
      | (at_builtin; refine wpList_append_sl rfl (.tmp 81) (.tmp 82) rfl w4.heap.size _ [] rfl HA.out (some ⟨g, 0, none⟩) 96 96 _ rfl HFA.out (fun e => by cases e) (by show 0 + 96 ≤ _; omega) UA.out.size ?_; intro v5 w5 H5 K5)
      | (at_builtin; refine wpList_append_sl rfl (.tmp 83) (.tmp 84) rfl w4.heap.size _ _ rfl (H5.out.alloc _) (some ⟨w5.heap.size, 0, none⟩) 1 1 [0] rfl (slm_mark w5 [0] _ (by decide) (by decide) _ rfl) (fun e => by cases e) (by rw [List.nil_append, HLF.out]; omega) ((UA.out.grown K5.out fun q hq => HA.out.base q hq).alloc _).size ?_; intro v6 w6 H6 K6)
      | fail)
    have U5 := hid (UA.out.grown K5.out fun q hq => HA.out.base q hq)
    have U6 : Hid (Up Nul w4 w6) := (U5.out.alloc _).grown K6.out fun q hq => H5.out.base q hq
    have HL6 : Hid (([] ++ FrM.fr i (zer m) ++ [0]).length = 97) := by show _ = _; rw [List.nil_append, List.length_append, HLF.out]; rfl
    obtain ⟨a6, c6, rfl, q1, q2, _, _⟩ := H6.out.sln (by rw [HL6.out]; omega)
    rw [HL6.out] at q1 q2 ⊢
    have Q2 := hid q2
    have Q1 := hid q1
    clear q1 q2
    go_wp2_with fail
    refine (take_no a6 97 c6 _ w6 (len_none HL6.out (by omega)) Q2.out Q1.out).mono ?_
    rintro e w7 ⟨rfl, u7⟩
    have H7 := hid ((H4.out.trans U6.out).trans u7)
    clear u7 H4 U6 U5 H5 K5 H6 K6 HA UA
    go_wp2_with fail
    refine (fawake_any _).mono ?_
    rintro e w8 ⟨rfl, k8⟩
    have H8 := hid (H7.out.trans k8)
    clear k8
    go_wp2
    go_ret
    exact ⟨rfl, H8.out.below (Nat.le_refl _) fun _ _ => id⟩
  · have HC := hid h64
    have j1 : ¬ (m : Int) ≤ 64 := by omega
    have j2 : decide ((m : Int) ≤ 64) = false := by simp; omega
    refine (put_bad i _ m m _ (by have := HI.out; omega) (by have := HM.out; have := HK.out; omega) (.inr (.inr (by omega)))).mono ?_
    rintro e w1 ⟨rfl, rfl⟩
    clear h64
    go_wp2_with fail
    refine (put_some 4294967295 none 0 0 [] _ (by omega) (by omega) ⟨rfl, .inl rfl, by omega⟩).mono ?_
    rintro e w2 ⟨g2, rfl, _, _, u2⟩
    have H2 := hid (U0.out.trans u2)
    clear u2
    go_wp2_with fail
    refine (put_bad 4294967296 none 0 0 _ (by omega) (by omega) (.inr (.inl (by omega)))).mono ?_
    rintro e w3 ⟨rfl, rfl⟩
    go_wp2_with fail
    refine (put_bad (-1) none 0 0 _ (by omega) (by omega) (.inl (by omega))).mono ?_
    rintro e w3 ⟨rfl, rfl⟩
    go_wp2_with fail
    refine (fawake_any _).mono ?_
    rintro e w8 ⟨rfl, k8⟩
    have H8 := hid (H2.out.trans k8)
    clear k8
    go_wp2
    go_ret
    exact ⟨rfl, H8.out.below (Nat.le_refl _) fun _ _ => id⟩
end Go.Proofs.Ytmnkhdhohjceoaa
