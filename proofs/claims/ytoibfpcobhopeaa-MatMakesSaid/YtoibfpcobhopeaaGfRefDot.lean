/- The document's own sum of products over two strings, walked. -/
import Derived.Test.YtoibfpcobhopeaaGfDot
import Derived.Deep.QuietTactic
import Derived.BigQuiet
import Derived.Lib.SlBytesRow
namespace Go.Proofs.Ytoibfpcobhopeaa
open Go.RowKit
set_option linter.unusedVariables false

/-- A string's bytes as numbers. -/
def nums (s : ByteArray) : List Nat := s.data.toList.map UInt8.toNat
theorem nums_length (s : ByteArray) : (nums s).length = s.size := by simp [nums]
theorem nums_at (s : ByteArray) (k : Nat) (h : k < s.size) : (nums s).getD k 0 = s[k].toNat := by
  have : k < s.data.toList.length := by simpa using h
  simp [nums, List.getD_eq_getElem?_getD, List.getElem?_map, List.getElem?_eq_getElem this]
  rfl
theorem nums_small (s : ByteArray) (k : Nat) : (nums s).getD k 0 < 256 := by
  rcases Nat.lt_or_ge k s.size with h | h
  · rw [nums_at s k h]; exact UInt8.toNat_lt _
  · rw [List.getD_eq_getElem?_getD, List.getElem?_eq_none (by rw [nums_length]; exact h)]; decide

theorem refMul_same (a b : Nat) (w : World) (ha : a < 256) (hb : b < 256) :
    Calls Try.prog 38 #[.int .u8 a, .int .u8 b] w fun e w' => e = .returned (.int .u8 (GfM.mul a b)) ∧ w' = w :=
  (refMul_any a b w ha hb).mono fun _ _ ⟨h1, h2⟩ => ⟨h1, h2.symm⟩
theorem drewN_add (w : World) (m n : Nat) : (w.drewN m).drewN n = w.drewN (m + n) := by simp

set_option maxRecDepth 100000 in
set_option maxHeartbeats 400000 in
theorem refDot_any (s1 s2 : ByteArray) (w : World) (h1 : s1.size ≤ 9223372036854775807) (h2 : s2.size ≤ 9223372036854775807) :
    Calls Try.prog 23 #[.string s1, .string s2] w fun e w' => e = .returned (.int .u8 (dotk (nums s1) (nums s2) (min s1.size s2.size))) ∧ ∃ n, w' = w.drewN n := by
  go_enter Try.func23, Try.ntmps23
  go_wp2
  go_loopw [5, 6] (fun p i wr => ∃ k n : Nat, k ≤ min s1.size s2.size ∧ i = .int .i64 k ∧ p = .int .u8 (dotk (nums s1) (nums s2) k) ∧ wr = w.drewN n) (fun _ i _ => min s1.size s2.size - (intOf i).toNat)
  case atStart => exact ⟨0, 0, by omega, rfl, rfl, rfl⟩
  case round =>
    obtain ⟨k, n, hk, rfl, rfl, hw⟩ := hrel
    have HW : Hid _ := hw
    clear hw
    have hs := dotk_lt (nums s1) (nums s2) k
    by_cases hlt : k < s1.size
    · by_cases hlt2 : k < s2.size
      · obtain ⟨x1, X1⟩ : ∃ x, Hid ((nums s1).getD k 0 = x) := ⟨_, rfl⟩
        obtain ⟨x2, X2⟩ : ∃ x, Hid ((nums s2).getD k 0 = x) := ⟨_, rfl⟩
        have g1 : x1 < 256 := by rw [← X1.out]; exact nums_small s1 k
        have g2 : x2 < 256 := by rw [← X2.out]; exact nums_small s2 k
        have q1 : s1[k].toNat = x1 := by rw [← X1.out, nums_at s1 k hlt]
        have q2 : s2[k].toNat = x2 := by rw [← X2.out, nums_at s2 k hlt2]
        have HN : Hid _ := dotk_next X1.out X2.out
        obtain ⟨t1, T1⟩ : ∃ x, Hid (dotk (nums s1) (nums s2) k = x) := ⟨_, rfl⟩
        rw [T1.out]
        rw [T1.out] at hs
        have hx := u8_xor_nat t1 (GfM.mul x1 x2) hs (GfM.mul_lt _ _)
        have i1 : (0 : Int) ≤ (k : Int) := by omega
        have i2 : (k : Int) < (s1.size : Int) := by omega
        have i3 : (k : Int) < (s2.size : Int) := by omega
        go_wp2
        go_quiet ((go_at_call 38; exact Calls.quiet_of_same (refMul_same x1 x2 _ g1 g2)))
        go_wp2
        go_roundw
        case rel => exact ⟨k + 1, _, by omega, by go_num, by rw [HN.out, T1.out], by rw [HW.out]; exact drewN_add _ _ _⟩
        case measure => simp [intOf]; omega
      · have e : Hid (k = min s1.size s2.size) := by show k = _; omega
        go_wp2
        go_ret
        exact ⟨ret_u8 (by rw [e.out]), _, HW.out⟩
    · have e : Hid (k = min s1.size s2.size) := by show k = _; omega
      go_wp2
      go_ret
      exact ⟨ret_u8 (by rw [e.out]), _, HW.out⟩
end Go.Proofs.Ytoibfpcobhopeaa
