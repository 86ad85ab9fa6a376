/- The law TapeFull, walked, whatever the program's Tape is. -/
import Derived.Test.YtgncdikikcifpaaTpAwake
namespace Go.Proofs.Ytgncdikikcifpaa
open Go.RowKit
set_option linter.unusedVariables false

theorem make_full : ∃ K : Nat, K = 65536 ∧ ∀ W : World, (Instr.makeSlice 22 (.int .i64 65536) (.int .i64 65536)).run Try.prog W = .ok (.slice (some ⟨W.heap.size, 0, none⟩) K K) (W.alloc (.cells (bys (zer K)) 5)) := by
  obtain ⟨K, hK⟩ : ∃ K : Nat, K = 65536 := ⟨_, rfl⟩
  refine ⟨K, hK, fun W => ?_⟩
  have h := make_bytes W K (by omega)
  have e : (K : Int) = 65536 := by omega
  rw [e] at h
  exact h
theorem zer_len (n : Nat) : (zer n).length = n := by simp [zer]
theorem sln_zer (k : Nat) (hk : k ≤ 65600) (W : World) : SlN (W.alloc (.cells (bys (zer k)) 5)) (some ⟨W.heap.size, 0, none⟩) k (zer k) := by
  have := slm_mark W (zer k) (0, 0) (zer_small k) (by rw [zer_len]; omega) _ rfl
  rw [zer_len] at this
  exact this
set_option maxRecDepth 100000 in
set_option maxHeartbeats 1600000 in
theorem tfull_walk (O : TapeOps) (a0 : Int) (w : World) :
    Calls Try.prog 5 #[.int .i64 a0] w fun e w' => e = .returned (.bool true) ∧ Below w.heap.size w w' := by
  go_enter Try.func5, Try.ntmps5
  go_wp2_with fail
  refine (th_new (fu := none) (k := none) O (Up.refl Nul w) rfl (fun f e => by cases e)).mono ?_
  rintro e w1 ⟨t, rfl, h1, _⟩
  have H1 : Hid (∀ c, TH O (fun x => x = w1.heap.size) w (w1.alloc c) t none none ⟨[], 0, true⟩) := fun c => h1.owns ((Up.refl _ _).alloc _) fun x hx => .inr ⟨by omega, by rw [hx]; simp⟩
  clear h1
  obtain ⟨m, hm, hm2⟩ := FrL.i64_mask 4 (by omega) a0
  have hm : bits .and .i64 a0 15 = (m : Int) := hm
  have hm2 : m < 16 := hm2
  obtain ⟨n, N⟩ : ∃ n : Nat, m + 65530 = n := ⟨_, rfl⟩
  have HN : Hid (n ≤ 65545) := by show _ ≤ _; omega
  have i1 : IntKind.i64.wrap ((m : Int) + 65530) = (n : Int) := by rw [IntWalk.i64_in _ (by omega)]; omega
  have i2 : (m : Int) + 65530 = (n : Int) := by omega
  have hmk := fun W => make_bytes W n (by omega)
  have HZ := hid (sln_zer n (by omega))
  by_cases hn : n ≤ 65536
  · obtain ⟨k, K⟩ : ∃ k : Nat, n + k = 65536 := ⟨65536 - n, by omega⟩
    have HK := hid K
    have i3 : IntKind.i64.wrap (65536 - (n : Int)) = (k : Int) := by rw [IntWalk.i64_in _ (by omega)]; omega
    have i4 : 65536 - (n : Int) = (k : Int) := by omega
    have i5 : (n : Int) ≤ 65536 := by omega
    have hmk2 := fun W => make_bytes W k (by omega)
    clear hm2 N hn K
    go_wp2_with fail
    refine (th_put (H1.out _) n (HZ.out _) (Nat.le_refl _) (by have := HK.out; show 0 + n ≤ 65536; omega) (.inr fun x hx => by cases hx; exact .inl rfl) rfl).mono ?_
    rintro e w2 ⟨rfl, h2, _⟩
    obtain ⟨B, lo, HB, H2⟩ : ∃ B lo, Hid (B.length + k = 65536) ∧ Hid (∀ c, TH O (fun x => x = w2.heap.size) w (w2.alloc c) t none none ⟨B, lo, true⟩) := ⟨_, _, by show _ = _; rw [List.length_append, zer_len]; have := HK.out; show 0 + n + k = _; omega, fun c => h2.owns ((Up.refl _ _).alloc _) fun x hx => .inr ⟨by omega, by rw [hx]; simp⟩⟩
    clear h2 HZ H1 hmk
    have HZ2 := hid (sln_zer k (by have := HB.out; omega))
    go_wp2_with fail
    refine (th_put (H2.out _) k (HZ2.out _) (Nat.le_refl _) (by have := HB.out; show B.length + k ≤ 65536; omega) (.inr fun x hx => by cases hx; exact .inl rfl) rfl).mono ?_
    rintro e w3 ⟨rfl, h3, _⟩
    obtain ⟨B2, lo2, HB2, H3⟩ : ∃ B2 lo2, Hid (B2.length = 65536) ∧ Hid (∀ c, TH O (fun x => x = w3.heap.size) w (w3.alloc c) t none none ⟨B2, lo2, true⟩) := ⟨_, _, by show _ = _; rw [List.length_append, zer_len]; exact HB.out, fun c => h3.owns ((Up.refl _ _).alloc _) fun x hx => .inr ⟨by omega, by rw [hx]; simp⟩⟩
    have HS : Hid (SlN (w3.alloc (.cells #[.int .u8 1] 5)) (some ⟨w3.heap.size, 0, none⟩) 1 [1]) := slm_mark w3 [1] _ (by decide) (by decide) _ rfl
    clear h3 H2 HZ2 hmk2
    go_wp2_with fail
    refine (th_append (H3.out _) 1 HS.out (Nat.le_refl _) (by omega) (.inr fun x hx => by cases hx; exact .inl rfl)).mono ?_
    rintro e w4 (⟨q1, _⟩ | ⟨_, _, rfl, h4, _⟩ | ⟨_, _, q3, _⟩ | ⟨_, q2, _⟩)
    · cases q1
    · have H4 := hid h4
      clear h4 H3 HS
      go_wp2_with fail
      refine (th_bytes H4.out rfl).mono ?_
      rintro e w5 ⟨xa, xl, xc, rfl, hs, h5, _⟩
      have il : (xl : Int) = 65536 := by have := hs.len; have := HB2.out; dsimp only at *; omega
      have H5 := hid h5
      clear hs h5 H4
      go_wp2_with fail
      refine (th_cut H5.out 65537).mono ?_
      rintro e w6 (⟨q1, _⟩ | ⟨_, _, rfl, h6, _⟩ | ⟨_, _, q3, _⟩ | ⟨_, q2, _⟩)
      · cases q1
      · have H6 := hid h6
        clear h6 H5
        go_wp2_with fail
        refine (th_cut H6.out 5).mono ?_
        rintro e w7 (⟨q1, _⟩ | ⟨_, q2, _⟩ | ⟨_, _, q3, _⟩ | ⟨_, _, _, rfl, h7, _⟩)
        · cases q1
        · exfalso
          have q2 : (5 : Int) < 0 ∨ (B2.length : Int) < 5 := q2
          have := HB2.out
          omega
        · cases q3
        · have H7 := hid h7.up
          clear h7 H6
          go_wp2_with fail
          refine (tawake_any O _).mono ?_
          rintro e w8 ⟨rfl, k8⟩
          have H8 := hid (H7.out.trans k8)
          clear k8
          go_wp2
          go_ret
          exact ⟨rfl, H8.out.below (Nat.le_refl _) fun _ _ h => h⟩
      · cases q3
      · exfalso
        have q2 : (0 : Int) ≤ 65537 ∧ (65537 : Int) ≤ (B2.length : Int) := q2
        have := HB2.out
        omega
    · cases q3
    · exfalso
      have q2 : B2.length + 1 ≤ 65536 := q2
      have := HB2.out
      omega
  · have i5 : ¬ (n : Int) ≤ 65536 := by omega
    have HK := hid hn
    obtain ⟨k, K, hmk2⟩ := make_full
    have HKK := hid K
    clear hm2 N hn K
    go_wp2_with fail
    refine (th_append (H1.out _) n (HZ.out _) (Nat.le_refl _) (by have := HN.out; omega) (.inr fun x hx => by cases hx; exact .inl rfl)).mono ?_
    rintro e w2 (⟨q1, _⟩ | ⟨_, _, rfl, h2, _⟩ | ⟨_, _, q3, _⟩ | ⟨_, q2, _⟩)
    · cases q1
    · obtain ⟨B, lo, HB, H2⟩ : ∃ B lo, Hid (B.length + k = 65536) ∧ Hid (∀ c, TH O (fun x => x = w2.heap.size) w (w2.alloc c) t none none ⟨B, lo, true⟩) := ⟨_, _, by show 0 + k = _; have := HKK.out; omega, fun c => h2.owns ((Up.refl _ _).alloc _) fun x hx => .inr ⟨by omega, by rw [hx]; simp⟩⟩
      clear h2 HZ H1 hmk
      have HZ2 := hid (sln_zer k (by have := HB.out; omega))
      go_wp2_with fail
      refine (th_put (H2.out _) k (HZ2.out _) (Nat.le_refl _) (by have := HB.out; show B.length + k ≤ 65536; omega) (.inr fun x hx => by cases hx; exact .inl rfl) rfl).mono ?_
      rintro e w3 ⟨rfl, h3, _⟩
      obtain ⟨B2, lo2, HB2, H3⟩ : ∃ B2 lo2, Hid (B2.length = 65536) ∧ Hid (∀ c, TH O (fun x => x = w3.heap.size) w (w3.alloc c) t none none ⟨B2, lo2, true⟩) := ⟨_, _, by show _ = _; rw [List.length_append, zer_len]; exact HB.out, fun c => h3.owns ((Up.refl _ _).alloc _) fun x hx => .inr ⟨by omega, by rw [hx]; simp⟩⟩
      have HS : Hid (SlN (w3.alloc (.cells #[.int .u8 1] 5)) (some ⟨w3.heap.size, 0, none⟩) 1 [1]) := slm_mark w3 [1] _ (by decide) (by decide) _ rfl
      clear h3 H2 HZ2 hmk2
      go_wp2_with fail
      refine (th_append (H3.out _) 1 HS.out (Nat.le_refl _) (by omega) (.inr fun x hx => by cases hx; exact .inl rfl)).mono ?_
      rintro e w4 (⟨q1, _⟩ | ⟨_, _, rfl, h4, _⟩ | ⟨_, _, q3, _⟩ | ⟨_, q2, _⟩)
      · cases q1
      · have H4 := hid h4
        clear h4 H3 HS
        go_wp2_with fail
        refine (th_bytes H4.out rfl).mono ?_
        rintro e w5 ⟨xa, xl, xc, rfl, hs, h5, _⟩
        have il : (xl : Int) = 65536 := by have := hs.len; have := HB2.out; dsimp only at *; omega
        have H5 := hid h5
        clear hs h5 H4
        go_wp2_with fail
        refine (th_cut H5.out 65537).mono ?_
        rintro e w6 (⟨q1, _⟩ | ⟨_, _, rfl, h6, _⟩ | ⟨_, _, q3, _⟩ | ⟨_, q2, _⟩)
        · cases q1
        · have H6 := hid h6
          clear h6 H5
          go_wp2_with fail
          refine (th_cut H6.out 5).mono ?_
          rintro e w7 (⟨q1, _⟩ | ⟨_, q2, _⟩ | ⟨_, _, q3, _⟩ | ⟨_, _, _, rfl, h7, _⟩)
          · cases q1
          · exfalso
            have q2 : (5 : Int) < 0 ∨ (B2.length : Int) < 5 := q2
            have := HB2.out
            omega
          · cases q3
          · have H7 := hid h7.up
            clear h7 H6
            go_wp2_with fail
            refine (tawake_any O _).mono ?_
            rintro e w8 ⟨rfl, k8⟩
            have H8 := hid (H7.out.trans k8)
            clear k8
            go_wp2
            go_ret
            exact ⟨rfl, H8.out.below (Nat.le_refl _) fun _ _ h => h⟩
        · cases q3
        · exfalso
          have q2 : (0 : Int) ≤ 65537 ∧ (65537 : Int) ≤ (B2.length : Int) := q2
          have := HB2.out
          omega
      · cases q3
      · exfalso
        have q2 : B2.length + 1 ≤ 65536 := q2
        have := HB2.out
        omega
    · cases q3
    · have q2 : 0 + n ≤ 65536 := q2
      have := HK.out
      omega
end Go.Proofs.Ytgncdikikcifpaa
