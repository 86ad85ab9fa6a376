/- The check's calls and the document's own, walked. -/
import Derived.Test.YtfmgbmpdifjliaaCrcMath
import Derived.Test.YtfmgbmpdifjliaaBase
import Derived.LoopTactic
namespace Go.Proofs.Ytfmgbmpdifjliaa
open Go.RowKit
set_option linter.unusedVariables false

theorem ret_u32 {a b : Int} (h : a = b) : Ending.returned (.int .u32 a) = .returned (.int .u32 b) := by rw [h]
/-- The Nat of a register's round. -/
theorem bit_odd {r : Nat} (h : r % 2 = 1) : CrcM.bit r = (r / 2) ^^^ 2197175160 := by rw [CrcM.bit, if_pos h]
theorem bit_even {r : Nat} (h : ¬ r % 2 = 1) : CrcM.bit r = r / 2 := by rw [CrcM.bit, if_neg h]
theorem and_odd {r : Nat} (hr : r < 4294967296) (h : r % 2 = 1) : bits .and .u32 (r : Int) 1 = 1 := by
  have e := u32_and_nat r 1 hr (by omega)
  rw [nat_mask1, h] at e
  exact e
theorem and_even {r : Nat} (hr : r < 4294967296) (h : ¬ r % 2 = 1) : bits .and .u32 (r : Int) 1 = 0 := by
  have e := u32_and_nat r 1 hr (by omega)
  rw [nat_mask1, show r % 2 = 0 by omega] at e
  exact e
theorem xor_taps {r : Nat} (hr : r < 4294967296) : bits .xor .u32 ((r : Int) / 2) 2197175160 = ((r / 2 ^^^ 2197175160 : Nat) : Int) := u32_xor_nat (r / 2) 2197175160 (by omega) (by omega)
theorem not_u32 {r : Nat} (hr : r < 4294967296) : bits .xor .u32 IntKind.u32.max (r : Int) = ((r ^^^ 4294967295 : Nat) : Int) := by
  rw [Nat.xor_comm, show IntKind.u32.max = 4294967295 from rfl]
  exact u32_xor_nat 4294967295 r (by omega) hr

set_option maxHeartbeats 400000 in
theorem step_any (r c : Nat) (w : World) (hr : r < 4294967296) (hc : c < 256) :
    Calls Try.prog 66 #[.int .u32 r, .int .u8 c] w fun e w' => e = .returned (.int .u32 (CrcM.stp r c)) ∧ w = w' := by
  have hx := u32_xor_nat r c hr (by omega)
  have hl := CrcM.xor_lt hr (show c < 4294967296 by omega)
  obtain ⟨x, X⟩ : ∃ x, Hid (r ^^^ c = x) := ⟨_, rfl⟩
  rw [X.out] at hx hl
  have HR : Hid (CrcM.stp r c = CrcM.bits x 8) := by show _ = _; rw [← X.out]; rfl
  go_enter Try.func66, Try.ntmps66
  go_wp2
  go_loop [0, 10] (fun s i => ∃ k y : Nat, k ≤ 8 ∧ i = .int .i64 k ∧ s = .int .u32 y ∧ y < 4294967296 ∧ Hid (CrcM.bits x k = y)) (fun _ i => 8 - (intOf i).toNat)
  case atStart => exact ⟨0, x, by omega, rfl, rfl, hl, rfl⟩
  case round =>
    obtain ⟨k, y, hk, rfl, rfl, hy, HY⟩ := hrel
    clear hx
    by_cases hlt : k < 8
    · by_cases ho : y % 2 = 1
      · have ha := and_odd hy ho
        have hb := xor_taps hy
        have HO := hid (bit_odd ho)
        have hl2 := CrcM.bit_lt hy
        rw [HO.out] at hl2
        obtain ⟨z, Z⟩ : ∃ z, Hid (y / 2 ^^^ 2197175160 = z) := ⟨_, rfl⟩
        rw [Z.out] at hb hl2
        clear ho
        go_wp2
        go_round
        case rel => exact ⟨k + 1, z, by omega, by go_num, rfl, hl2, by show CrcM.bit (CrcM.bits x k) = z; rw [HY.out, HO.out, Z.out]⟩
        case measure => simp [intOf]; omega
      · have ha := and_even hy ho
        have HO := hid (bit_even ho)
        clear ho
        go_wp2
        go_round
        case rel => exact ⟨k + 1, y / 2, by omega, by go_num, by first | rfl | go_num, by omega, by show CrcM.bit (CrcM.bits x k) = y / 2; rw [HY.out, HO.out]⟩
        case measure => simp [intOf]; omega
    · obtain rfl : k = 8 := by omega
      go_wp2
      go_ret
      exact ⟨ret_u32 (by rw [HR.out, HY.out]), rfl⟩

set_option maxHeartbeats 400000 in
theorem refStep_any (r c : Nat) (w : World) (hr : r < 4294967296) (hc : c < 256) :
    Calls Try.prog 67 #[.int .u32 r, .int .u8 c] w fun e w' => e = .returned (.int .u32 (CrcM.stp r c)) ∧ w = w' := by
  have hx := u32_xor_nat r c hr (by omega)
  have hl := CrcM.xor_lt hr (show c < 4294967296 by omega)
  obtain ⟨x, X⟩ : ∃ x, Hid (r ^^^ c = x) := ⟨_, rfl⟩
  rw [X.out] at hx hl
  have HR : Hid (CrcM.stp r c = CrcM.bits x 8) := by show _ = _; rw [← X.out]; rfl
  go_enter Try.func67, Try.ntmps67
  go_wp2
  go_loop [0, 5] (fun s i => ∃ k y : Nat, k ≤ 8 ∧ i = .int .i64 k ∧ s = .int .u32 y ∧ y < 4294967296 ∧ Hid (CrcM.bits x k = y)) (fun _ i => 8 - (intOf i).toNat)
  case atStart => exact ⟨0, x, by omega, rfl, rfl, hl, rfl⟩
  case round =>
    obtain ⟨k, y, hk, rfl, rfl, hy, HY⟩ := hrel
    clear hx
    by_cases hlt : k < 8
    · by_cases ho : y % 2 = 1
      · have ha := and_odd hy ho
        have hb := xor_taps hy
        have HO := hid (bit_odd ho)
        have hl2 := CrcM.bit_lt hy
        rw [HO.out] at hl2
        obtain ⟨z, Z⟩ : ∃ z, Hid (y / 2 ^^^ 2197175160 = z) := ⟨_, rfl⟩
        rw [Z.out] at hb hl2
        clear ho
        go_wp2
        go_round
        case rel => exact ⟨k + 1, z, by omega, by go_num, rfl, hl2, by show CrcM.bit (CrcM.bits x k) = z; rw [HY.out, HO.out, Z.out]⟩
        case measure => simp [intOf]; omega
      · have ha := and_even hy ho
        have HO := hid (bit_even ho)
        clear ho
        go_wp2
        go_round
        case rel => exact ⟨k + 1, y / 2, by omega, by go_num, by first | rfl | go_num, by omega, by show CrcM.bit (CrcM.bits x k) = y / 2; rw [HY.out, HO.out]⟩
        case measure => simp [intOf]; omega
    · obtain rfl : k = 8 := by omega
      go_wp2
      go_ret
      exact ⟨ret_u32 (by rw [HR.out, HY.out]), rfl⟩
end Go.Proofs.Ytfmgbmpdifjliaa
