/- The law GfTells, walked. -/
import Derived.Test.YtgebniihbcgmgaaGfRef
namespace Go.Proofs.Ytgebniihbcgmgaa
open Go.RowKit

theorem inv_none (b x : Nat) (w : World) (hf : Fld b w) (h0 : x = 0) :
    Calls Try.prog 11 #[.pointer (some ⟨b, 0, none⟩), .int .u8 x] w fun e w' => e = .returned (.tuple #[.int .u8 (GfM.inv x), .bool false]) ∧ Kept b w w' := by
  subst h0
  exact inv_zero b w hf
theorem div_none (b x y : Nat) (w : World) (hf : Fld b w) (h0 : y = 0) :
    Calls Try.prog 14 #[.pointer (some ⟨b, 0, none⟩), .int .u8 x, .int .u8 y] w fun e w' => e = .returned (.tuple #[.int .u8 (GfM.mul x (GfM.inv y)), .bool false]) ∧ Kept b w w' := by
  subst h0
  have e : GfM.mul x (GfM.inv 0) = 0 := GfM.mul_zero x
  rw [e]
  exact div_zero b x w hf

set_option maxRecDepth 100000 in
set_option maxHeartbeats 1600000 in
theorem tells_11 (a b : Nat) (n : Int) (w : World) (ha : a < 256) (hb : b < 256) (h0 : a = 0) (h1 : b = 0) :
    Calls Try.prog 4 #[.int .u8 a, .int .u8 b, .int .i64 n] w fun e w' => e = .returned (.bool true) ∧ Below w.heap.size w w' := by
  have ta : ((a : Int) != 0) = false := by simpa using h0
  have tb : ((b : Int) != 0) = false := by simpa using h1
  have H0 : Hid _ := h0
  have H1 : Hid _ := h1
  clear h0 h1
  have hl := GfM.inv_lt b
  go_enter Try.func4, Try.ntmps4
  go_wp2_with fail
  refine (new_any _).mono ?_
  rintro e w1 ⟨rfl, k1⟩
  go_wp2_with fail
  refine (inv_none w.heap.size a _ k1.fld H0.out).mono ?_
  rintro e w2 ⟨rfl, k2⟩
  go_wp2_with fail
  refine (div_none w.heap.size a b _ k2.2 H1.out).mono ?_
  rintro e w3 ⟨rfl, k3⟩
  go_wp2_with fail
  refine (mul_any w.heap.size a b _ k3.2 ha hb).mono ?_
  rintro e w4 ⟨rfl, k4⟩
  go_wp2_with fail
  refine (refMul_any a b _ ha hb).mono ?_
  rintro e w5 ⟨rfl, rfl⟩
  go_wp2_with fail
  refine (refInv_any a _ ha).mono ?_
  rintro e w5 ⟨rfl, rfl⟩
  go_wp2_with fail
  refine (refInv_any b _ hb).mono ?_
  rintro e w5 ⟨rfl, rfl⟩
  go_wp2_with fail
  refine (refMul_any a _ _ ha hl).mono ?_
  rintro e w5 ⟨rfl, rfl⟩
  go_wp2_with fail
  refine (pow_any w.heap.size a n _ k4.2 ha).mono ?_
  rintro e w5 ⟨rfl, k5⟩
  go_wp2_with fail
  refine (refPow_any a n _ ha).mono ?_
  rintro e w6 ⟨rfl, rfl⟩
  go_wp2_with fail
  refine (awake_any _).mono ?_
  rintro e w7 ⟨rfl, hb9⟩
  go_wp2
  go_ret
  have hk := k1.below.trans ((((k2.trans k3).trans k4).trans k5).below (Nat.le_refl _))
  exact ⟨rfl, hk.trans (hb9.mono hk.size)⟩

set_option maxRecDepth 100000 in
set_option maxHeartbeats 1600000 in
theorem tells_10 (a b : Nat) (n : Int) (w : World) (ha : a < 256) (hb : b < 256) (h0 : a = 0) (h1 : b ≠ 0) :
    Calls Try.prog 4 #[.int .u8 a, .int .u8 b, .int .i64 n] w fun e w' => e = .returned (.bool true) ∧ Below w.heap.size w w' := by
  have ta : ((a : Int) != 0) = false := by simpa using h0
  have tb : ((b : Int) != 0) = true := by simpa using h1
  have H0 : Hid _ := h0
  have H1 : Hid _ := h1
  clear h0 h1
  have hl := GfM.inv_lt b
  go_enter Try.func4, Try.ntmps4
  go_wp2_with fail
  refine (new_any _).mono ?_
  rintro e w1 ⟨rfl, k1⟩
  go_wp2_with fail
  refine (inv_none w.heap.size a _ k1.fld H0.out).mono ?_
  rintro e w2 ⟨rfl, k2⟩
  go_wp2_with fail
  refine (div_any w.heap.size a b _ k2.2 ha H1.out hb).mono ?_
  rintro e w3 ⟨rfl, k3⟩
  go_wp2_with fail
  refine (mul_any w.heap.size a b _ k3.2 ha hb).mono ?_
  rintro e w4 ⟨rfl, k4⟩
  go_wp2_with fail
  refine (refMul_any a b _ ha hb).mono ?_
  rintro e w5 ⟨rfl, rfl⟩
  go_wp2_with fail
  refine (refInv_any a _ ha).mono ?_
  rintro e w5 ⟨rfl, rfl⟩
  go_wp2_with fail
  refine (refInv_any b _ hb).mono ?_
  rintro e w5 ⟨rfl, rfl⟩
  go_wp2_with fail
  refine (refMul_any a _ _ ha hl).mono ?_
  rintro e w5 ⟨rfl, rfl⟩
  go_wp2_with fail
  refine (pow_any w.heap.size a n _ k4.2 ha).mono ?_
  rintro e w5 ⟨rfl, k5⟩
  go_wp2_with fail
  refine (refPow_any a n _ ha).mono ?_
  rintro e w6 ⟨rfl, rfl⟩
  go_wp2_with fail
  refine (awake_any _).mono ?_
  rintro e w7 ⟨rfl, hb9⟩
  go_wp2
  go_ret
  have hk := k1.below.trans ((((k2.trans k3).trans k4).trans k5).below (Nat.le_refl _))
  exact ⟨rfl, hk.trans (hb9.mono hk.size)⟩

set_option maxRecDepth 100000 in
set_option maxHeartbeats 1600000 in
theorem tells_01 (a b : Nat) (n : Int) (w : World) (ha : a < 256) (hb : b < 256) (h0 : a ≠ 0) (h1 : b = 0) :
    Calls Try.prog 4 #[.int .u8 a, .int .u8 b, .int .i64 n] w fun e w' => e = .returned (.bool true) ∧ Below w.heap.size w w' := by
  have ta : ((a : Int) != 0) = true := by simpa using h0
  have tb : ((b : Int) != 0) = false := by simpa using h1
  have H0 : Hid _ := h0
  have H1 : Hid _ := h1
  clear h0 h1
  have hl := GfM.inv_lt b
  go_enter Try.func4, Try.ntmps4
  go_wp2_with fail
  refine (new_any _).mono ?_
  rintro e w1 ⟨rfl, k1⟩
  go_wp2_with fail
  refine (inv_any w.heap.size a _ k1.fld H0.out ha).mono ?_
  rintro e w2 ⟨rfl, k2⟩
  go_wp2_with fail
  refine (div_none w.heap.size a b _ k2.2 H1.out).mono ?_
  rintro e w3 ⟨rfl, k3⟩
  go_wp2_with fail
  refine (mul_any w.heap.size a b _ k3.2 ha hb).mono ?_
  rintro e w4 ⟨rfl, k4⟩
  go_wp2_with fail
  refine (refMul_any a b _ ha hb).mono ?_
  rintro e w5 ⟨rfl, rfl⟩
  go_wp2_with fail
  refine (refInv_any a _ ha).mono ?_
  rintro e w5 ⟨rfl, rfl⟩
  go_wp2_with fail
  refine (refInv_any b _ hb).mono ?_
  rintro e w5 ⟨rfl, rfl⟩
  go_wp2_with fail
  refine (refMul_any a _ _ ha hl).mono ?_
  rintro e w5 ⟨rfl, rfl⟩
  go_wp2_with fail
  refine (pow_any w.heap.size a n _ k4.2 ha).mono ?_
  rintro e w5 ⟨rfl, k5⟩
  go_wp2_with fail
  refine (refPow_any a n _ ha).mono ?_
  rintro e w6 ⟨rfl, rfl⟩
  go_wp2_with fail
  refine (awake_any _).mono ?_
  rintro e w7 ⟨rfl, hb9⟩
  go_wp2
  go_ret
  have hk := k1.below.trans ((((k2.trans k3).trans k4).trans k5).below (Nat.le_refl _))
  exact ⟨rfl, hk.trans (hb9.mono hk.size)⟩

set_option maxRecDepth 100000 in
set_option maxHeartbeats 1600000 in
theorem tells_00 (a b : Nat) (n : Int) (w : World) (ha : a < 256) (hb : b < 256) (h0 : a ≠ 0) (h1 : b ≠ 0) :
    Calls Try.prog 4 #[.int .u8 a, .int .u8 b, .int .i64 n] w fun e w' => e = .returned (.bool true) ∧ Below w.heap.size w w' := by
  have ta : ((a : Int) != 0) = true := by simpa using h0
  have tb : ((b : Int) != 0) = true := by simpa using h1
  have H0 : Hid _ := h0
  have H1 : Hid _ := h1
  clear h0 h1
  have hl := GfM.inv_lt b
  go_enter Try.func4, Try.ntmps4
  go_wp2_with fail
  refine (new_any _).mono ?_
  rintro e w1 ⟨rfl, k1⟩
  go_wp2_with fail
  refine (inv_any w.heap.size a _ k1.fld H0.out ha).mono ?_
  rintro e w2 ⟨rfl, k2⟩
  go_wp2_with fail
  refine (div_any w.heap.size a b _ k2.2 ha H1.out hb).mono ?_
  rintro e w3 ⟨rfl, k3⟩
  go_wp2_with fail
  refine (mul_any w.heap.size a b _ k3.2 ha hb).mono ?_
  rintro e w4 ⟨rfl, k4⟩
  go_wp2_with fail
  refine (refMul_any a b _ ha hb).mono ?_
  rintro e w5 ⟨rfl, rfl⟩
  go_wp2_with fail
  refine (refInv_any a _ ha).mono ?_
  rintro e w5 ⟨rfl, rfl⟩
  go_wp2_with fail
  refine (refInv_any b _ hb).mono ?_
  rintro e w5 ⟨rfl, rfl⟩
  go_wp2_with fail
  refine (refMul_any a _ _ ha hl).mono ?_
  rintro e w5 ⟨rfl, rfl⟩
  go_wp2_with fail
  refine (pow_any w.heap.size a n _ k4.2 ha).mono ?_
  rintro e w5 ⟨rfl, k5⟩
  go_wp2_with fail
  refine (refPow_any a n _ ha).mono ?_
  rintro e w6 ⟨rfl, rfl⟩
  go_wp2_with fail
  refine (awake_any _).mono ?_
  rintro e w7 ⟨rfl, hb9⟩
  go_wp2
  go_ret
  have hk := k1.below.trans ((((k2.trans k3).trans k4).trans k5).below (Nat.le_refl _))
  exact ⟨rfl, hk.trans (hb9.mono hk.size)⟩

theorem tells_walk (a0 a1 a2 : Int) (w0 : (Lit.int .u8 a0).wf = true) (w1 : (Lit.int .u8 a1).wf = true) (w : World) :
    Calls Try.prog 4 #[.int .u8 a0, .int .u8 a1, .int .i64 a2] w fun e w' => e = .returned (.bool true) ∧ Below w.heap.size w w' := by
  obtain ⟨a, rfl, ha⟩ := u8_nat w0
  obtain ⟨b, rfl, hb⟩ := u8_nat w1
  by_cases h0 : a = 0
  · by_cases h1 : b = 0
    · exact tells_11 a b a2 w ha hb h0 h1
    · exact tells_10 a b a2 w ha hb h0 h1
  · by_cases h1 : b = 0
    · exact tells_01 a b a2 w ha hb h0 h1
    · exact tells_00 a b a2 w ha hb h0 h1
end Go.Proofs.Ytgebniihbcgmgaa
