/- The document's 'Check' where it refuses. -/
import Derived.Test.YtkenfabnbmkhbaaGreatDecBad
namespace Go.Proofs.YtkenfabnbmkhbaaGreat
open Go.RowKit
set_option linter.unusedVariables false

set_option maxRecDepth 100000 in
set_option maxHeartbeats 1600000 in
theorem refChk_bad (g cap gx cx gy cy k r n c : Nat) (S : Nat → Option (List Nat)) (w : World) (hS : Two w g n S) (hn : n = k + r) (k1 : 1 ≤ k) (k14 : k ≤ 14) (r4 : r ≤ 4) (hl : ∀ i z, S i = some z → z.length ≤ 1000)
    (hc : ((∃ i, i < n ∧ Odd1 S i) ∧ c = 1) ∨ (∀ i, i < n → ¬ Odd1 S i) ∧ (Tl S n).length < n ∧ c = 3) :
    Calls Tryz.prog 17 #[.agg #[.slice (some ⟨gx, 0, none⟩) k cx, .slice (some ⟨gy, 0, none⟩) r cy], .slice (some ⟨g, 0, none⟩) n cap] w
      fun e w' => e = .returned (.tuple #[.bool false, .int .i64 c]) ∧ Up Nul w w' := by
  have c0 : (w.alloc (.cells #[.slice (some ⟨gx, 0, none⟩) k cx, .slice (some ⟨gy, 0, none⟩) r cy] 26)).cell? ⟨w.heap.size, 0, none⟩ = some (.slice (some ⟨gx, 0, none⟩) k cx) := World.cell?_alloc_new w _ _ 0
  have c1 : (w.alloc (.cells #[.slice (some ⟨gx, 0, none⟩) k cx, .slice (some ⟨gy, 0, none⟩) r cy] 26)).cell? ⟨w.heap.size, 1, none⟩ = some (.slice (some ⟨gy, 0, none⟩) r cy) := World.cell?_alloc_new w _ _ 1
  have U := (Up.refl Nul w).alloc (.cells #[.slice (some ⟨gx, 0, none⟩) k cx, .slice (some ⟨gy, 0, none⟩) r cy] 26)
  have HS := hid (And.intro (hS.up U) (And.intro hl (And.intro hc U)))
  have hnn : ((k : Int) + (r : Int)) = (n : Int) := by omega
  have hn60 : n ≤ 18 := by omega
  have hle : n ≤ 18 := hn60
  clear hS hl hc U hn
  go_enter Tryz.func17, Tryz.ntmps17
  go_wp2_with fail
  generalize w.alloc (.cells #[.slice (some ⟨gx, 0, none⟩) k cx, .slice (some ⟨gy, 0, none⟩) r cy] 26) = W0 at *
  clear c0 c1
  go_loopw [6, 7] (fun v i wr => ∃ t : Nat, t ≤ n ∧ i = .int .i64 t ∧ v = .int .i64 ((Tl S t).length : Nat) ∧ Up Nul W0 wr) (fun _ i _ => n - (intOf i).toNat)
  case atStart => exact ⟨0, by omega, rfl, rfl, Up.refl _ _⟩
  case round =>
    obtain ⟨t, ht, rfl, rfl, hu⟩ := hrel
    have HU := hid hu
    clear hu
    by_cases hlt : t < n
    · have i0 : (0 : Int) ≤ (t : Int) := by omega
      have i1 : (t : Int) < (n : Int) := by omega
      have hi := (HS.out.1.up HU.out).is t hlt
      have htl := Tl_len S t
      rcases hz : S t with _ | z
      · rw [hz] at hi
        simp only [Option.isSome_none] at hi
        have HT := hid (Tl_none hz)
        clear hz
        go_wp2
        go_roundw
        case rel => exact ⟨t + 1, by omega, by go_num, by rw [HT.out], HU.out⟩
        case measure => simp [intOf]; omega
      · rw [hz] at hi
        simp only [Option.isSome_some] at hi
        have HT := hid (Tl_some hz)
        clear hz
        go_wp2
        go_roundw
        case rel => exact ⟨t + 1, by omega, by go_num, by rw [HT.out, List.length_append]; go_num, HU.out⟩
        case measure => simp [intOf]; omega
    · obtain rfl : n = t := by omega
      have HL := hid (refLen_any g n cap S wr (HS.out.1.up HU.out) (by omega) HS.out.2.1)
      have HT : Hid ((∃ i, i < n ∧ Odd1 S i) → 0 < (Tl S n).length) := fun ⟨i, hi, z, hz, _⟩ => by
        have : i ∈ Tl S n := by simp [Tl, hi, hz]
        exact List.length_pos_of_mem this
      have htl := Tl_len S n
      go_wp2_with fail
      refine HL.out.mono ?_
      rintro e w1 ⟨m, ok, rfl, u1, hp⟩
      have HE := hid (HS.out.2.2.2.trans (HU.out.trans u1))
      have HP := hid hp
      clear u1 hp HL
      rcases HS.out.2.2.1 with ⟨ho, rfl⟩ | ⟨ho, hk, rfl⟩
      · have hpos := HT.out ho
        obtain rfl : ok = false := by
          rcases HP.out with ⟨_, _, _, _, h⟩ | ⟨h, _⟩
          · exact h
          · obtain ⟨i, hi, h2⟩ := ho
            exact absurd h2 (h i hi)
        generalize (Tl S n).length = T at *
        have hp2 : (0 : Int) < (T : Int) := by omega
        clear HT ho
        go_wp2
        go_ret2
        exact ⟨rfl, HE.out⟩
      · have hk2 : (((Tl S n).length : Nat) : Int) < (n : Int) := by omega
        have hx : ok = true ∨ (Tl S n).length = 0 := by
          rcases HP.out with ⟨i, hi, h2, _⟩ | ⟨_, _, h3⟩
          · exact absurd h2 (ho i hi)
          · by_cases e : 0 ≤ seen S n
            · exact .inl (by rw [h3]; simp [e])
            · exact .inr (seen_tl S n e)
        generalize (Tl S n).length = T at *
        clear HT ho
        rcases hx with rfl | rfl
        · go_wp2
          all_goals
            go_ret2
            exact ⟨rfl, HE.out⟩
        · go_wp2
          all_goals
            go_ret2
            exact ⟨rfl, HE.out⟩
end Go.Proofs.YtkenfabnbmkhbaaGreat
