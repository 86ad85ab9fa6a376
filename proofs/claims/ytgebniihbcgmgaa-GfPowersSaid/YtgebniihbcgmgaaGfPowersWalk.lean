/- The law GfPowers, walked. -/
import Derived.Test.YtgebniihbcgmgaaGfInversesWalk
namespace Go.Proofs.Ytgebniihbcgmgaa
open Go.RowKit
set_option linter.unusedVariables false

theorem and_2047 (n : Int) : ∃ m : Int, bits .and .i64 n 2047 = m ∧ 0 ≤ m ∧ m ≤ 2047 := by
  refine ⟨_, rfl, ?_⟩
  have h1 : (BitVec.ofInt 64 n &&& BitVec.ofInt 64 2047).toNat ≤ 2047 := by
    rw [BitVec.toNat_and]
    exact Nat.le_trans Nat.and_le_right (by decide)
  show 0 ≤ IntKind.i64.wrap ((BitVec.ofInt 64 n &&& BitVec.ofInt 64 2047).toNat : Int) ∧ IntKind.i64.wrap ((BitVec.ofInt 64 n &&& BitVec.ofInt 64 2047).toNat : Int) ≤ 2047
  rw [IntWalk.i64_in _ (by omega)]
  omega

set_option maxRecDepth 100000 in
set_option maxHeartbeats 1600000 in
theorem powers_1 (a : Nat) (n k : Int) (w : World) (ha : a < 256) (h0 : a = 0) :
    Calls Try.prog 7 #[.int .u8 a, .int .i64 n, .int .i64 k] w fun e w' => e = .returned (.bool true) ∧ Below w.heap.size w w' := by
  have hd : ((a : Int) == 0) = true := by simpa using h0
  have H0 : Hid (1 ≠ 0) := by show 1 ≠ 0; omega
  have HA : Hid (1 < 256) := by show 1 < 256; omega
  clear h0
  have hmk := make_seen
  obtain ⟨N, hN, hN1, hN2⟩ := and_2047 n
  obtain ⟨M, hM, hM1, hM2⟩ := and_2047 k
  go_enter Try.func7, Try.ntmps7
  go_wp2_with fail
  refine (new_any _).mono ?_
  rintro e w1 ⟨rfl, k1⟩
  have hs := k1.size
  go_wp2
  go_loopw [9, 10] (fun x i wr => ∃ j : Nat, j ≤ 255 ∧ i = .int .i64 j ∧ x = .int .u8 (GfM.gexp j) ∧ SeenInv w (GfM.met j) wr) (fun _ i _ => 255 - (intOf i).toNat)
  case atStart => exact ⟨0, by omega, rfl, rfl, SeenInv.start k1 _ GfM.met_zero⟩
  case round =>
    obtain ⟨j, hj, rfl, rfl, hinv⟩ := hrel
    have hg := GfM.gexp_le j
    by_cases hlt : j < 255
    · have hc : wr.cell? ⟨w.heap.size + 1, GfM.gexp j, none⟩ = some (.bool false) := by
        rw [hinv.cells _ (by omega), GfM.met_new hlt]
      have hz := hinv.fr (GfM.gexp j)
      have i2 := hinv.store (g := GfM.met (j + 1)) (GfM.gexp j) (by omega) (GfM.met_succ j)
      have I2 : Hid _ := i2
      clear i2 hinv
      go_wp2_with fail
      refine (mul_any w.heap.size (GfM.gexp j) 2 _ I2.out.fld (by omega) (by omega)).mono ?_
      rintro e w2 ⟨he, k2⟩
      rw [GfM.gexp_two] at he
      subst he
      have I3 : Hid _ := I2.out.kept k2
      clear k2
      go_wp2
      go_roundw
      case rel => exact ⟨j + 1, by omega, by go_num, rfl, I3.out⟩
      case measure => simp [intOf]; omega
    · obtain rfl : j = 255 := by omega
      have E1 : Hid _ := GfM.gexp_255
      have E2 : Hid _ := GfM.pow_add H0.out (N - 1000) (M - 1000)
      have E3 : Hid _ := GfM.pow_255 H0.out
      rw [E1.out]
      have I2 : Hid _ := hinv
      have hfl := hinv.fld
      clear hinv hg
      go_wp2_with fail
      refine (pow_any w.heap.size 1 (N - 1000) _ hfl HA.out).mono ?_
      rintro e w2 ⟨rfl, k2⟩
      go_wp2_with fail
      refine (pow_any w.heap.size 1 (M - 1000) _ k2.2 HA.out).mono ?_
      rintro e w3 ⟨rfl, k3⟩
      go_wp2_with fail
      refine (mul_any w.heap.size _ _ _ k3.2 (GfM.pow_lt _ _) (GfM.pow_lt _ _)).mono ?_
      rintro e w4 ⟨he, k4⟩
      rw [E2.out] at he
      subst he
      go_wp2_with fail
      refine (pow_any w.heap.size 1 (N - 1000 + (M - 1000)) _ k4.2 HA.out).mono ?_
      rintro e w5 ⟨rfl, k5⟩
      go_wp2_with fail
      refine (pow_any w.heap.size 1 255 _ k5.2 HA.out).mono ?_
      rintro e w6 ⟨he, k6⟩
      rw [E3.out] at he
      subst he
      go_wp2_with fail
      refine (awake_any _).mono ?_
      rintro e w7 ⟨rfl, hb9⟩
      go_wp2
      go_ret
      have hk := I2.out.below.trans (((((k2.trans k3).trans k4).trans k5).trans k6).below (Nat.le_refl _))
      exact ⟨rfl, hk.trans (hb9.mono hk.size)⟩

set_option maxRecDepth 100000 in
set_option maxHeartbeats 1600000 in
theorem powers_0 (a : Nat) (n k : Int) (w : World) (ha : a < 256) (h0 : a ≠ 0) :
    Calls Try.prog 7 #[.int .u8 a, .int .i64 n, .int .i64 k] w fun e w' => e = .returned (.bool true) ∧ Below w.heap.size w w' := by
  have hd : ((a : Int) == 0) = false := by simpa using h0
  have H0 : Hid (a ≠ 0) := h0
  have HA : Hid (a < 256) := ha
  clear h0
  have hmk := make_seen
  obtain ⟨N, hN, hN1, hN2⟩ := and_2047 n
  obtain ⟨M, hM, hM1, hM2⟩ := and_2047 k
  go_enter Try.func7, Try.ntmps7
  go_wp2_with fail
  refine (new_any _).mono ?_
  rintro e w1 ⟨rfl, k1⟩
  have hs := k1.size
  go_wp2
  go_loopw [9, 10] (fun x i wr => ∃ j : Nat, j ≤ 255 ∧ i = .int .i64 j ∧ x = .int .u8 (GfM.gexp j) ∧ SeenInv w (GfM.met j) wr) (fun _ i _ => 255 - (intOf i).toNat)
  case atStart => exact ⟨0, by omega, rfl, rfl, SeenInv.start k1 _ GfM.met_zero⟩
  case round =>
    obtain ⟨j, hj, rfl, rfl, hinv⟩ := hrel
    have hg := GfM.gexp_le j
    by_cases hlt : j < 255
    · have hc : wr.cell? ⟨w.heap.size + 1, GfM.gexp j, none⟩ = some (.bool false) := by
        rw [hinv.cells _ (by omega), GfM.met_new hlt]
      have hz := hinv.fr (GfM.gexp j)
      have i2 := hinv.store (g := GfM.met (j + 1)) (GfM.gexp j) (by omega) (GfM.met_succ j)
      have I2 : Hid _ := i2
      clear i2 hinv
      go_wp2_with fail
      refine (mul_any w.heap.size (GfM.gexp j) 2 _ I2.out.fld (by omega) (by omega)).mono ?_
      rintro e w2 ⟨he, k2⟩
      rw [GfM.gexp_two] at he
      subst he
      have I3 : Hid _ := I2.out.kept k2
      clear k2
      go_wp2
      go_roundw
      case rel => exact ⟨j + 1, by omega, by go_num, rfl, I3.out⟩
      case measure => simp [intOf]; omega
    · obtain rfl : j = 255 := by omega
      have E1 : Hid _ := GfM.gexp_255
      have E2 : Hid _ := GfM.pow_add H0.out (N - 1000) (M - 1000)
      have E3 : Hid _ := GfM.pow_255 H0.out
      rw [E1.out]
      have I2 : Hid _ := hinv
      have hfl := hinv.fld
      clear hinv hg
      go_wp2_with fail
      refine (pow_any w.heap.size a (N - 1000) _ hfl HA.out).mono ?_
      rintro e w2 ⟨rfl, k2⟩
      go_wp2_with fail
      refine (pow_any w.heap.size a (M - 1000) _ k2.2 HA.out).mono ?_
      rintro e w3 ⟨rfl, k3⟩
      go_wp2_with fail
      refine (mul_any w.heap.size _ _ _ k3.2 (GfM.pow_lt _ _) (GfM.pow_lt _ _)).mono ?_
      rintro e w4 ⟨he, k4⟩
      rw [E2.out] at he
      subst he
      go_wp2_with fail
      refine (pow_any w.heap.size a (N - 1000 + (M - 1000)) _ k4.2 HA.out).mono ?_
      rintro e w5 ⟨rfl, k5⟩
      go_wp2_with fail
      refine (pow_any w.heap.size a 255 _ k5.2 HA.out).mono ?_
      rintro e w6 ⟨he, k6⟩
      rw [E3.out] at he
      subst he
      go_wp2_with fail
      refine (awake_any _).mono ?_
      rintro e w7 ⟨rfl, hb9⟩
      go_wp2
      go_ret
      have hk := I2.out.below.trans (((((k2.trans k3).trans k4).trans k5).trans k6).below (Nat.le_refl _))
      exact ⟨rfl, hk.trans (hb9.mono hk.size)⟩

theorem powers_walk (a0 n k : Int) (w0 : (Lit.int .u8 a0).wf = true) (w : World) :
    Calls Try.prog 7 #[.int .u8 a0, .int .i64 n, .int .i64 k] w fun e w' => e = .returned (.bool true) ∧ Below w.heap.size w w' := by
  obtain ⟨a, rfl, ha⟩ := u8_nat w0
  by_cases h0 : a = 0
  · exact powers_1 a n k w ha h0
  · exact powers_0 a n k w ha h0
end Go.Proofs.Ytgebniihbcgmgaa
