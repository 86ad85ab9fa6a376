/- The document's own sum of products over two strings, walked. -/
import Derived.Test.YtebglmfdchfplaaGfDot
import Derived.Deep.QuietTactic
import Derived.BigQuiet
import Derived.Lib.SlBytesRow
namespace Go.Proofs.Ytebglmfdchfplaa
open Go.RowKit
set_option linter.unusedVariables false

/-- A string's bytes as numbers. -/
def nums (s : ByteArray) : List Nat := s.data.toList.map UInt8.toNat
theorem nums_length (s : ByteArray) : (nums s).length = s.size := by simp [nums]
theorem nums_at (s : ByteArray) (k : Nat) (h : k < s.size) : (nums s).getD k 0 = s[k].toNat := by
  have : k < s.data.toList.length := by simpa using h
  simp [nums, List.getD_eq_getElem?_getD, List.getElem?_map, List.getElem?_eq_getElem this]
  rfl
theorem nums_small (s : ByteArray) (k : Nat) : (nums s).getD k 0 < 256 := by
  rcases Nat.lt_or_ge k s.size with h | h
  · rw [nums_at s k h]; exact UInt8.toNat_lt _
  · rw [List.getD_eq_getElem?_getD, List.getElem?_eq_none (by rw [nums_length]; exact h)]; decide

theorem refMul_same (a b : Nat) (w : World) (ha : a < 256) (hb : b < 256) :
    Calls Try.prog 45 #[.int .u8 a, .int .u8 b] w fun e w' => e = .returned (.int .u8 (GfM.mul a b)) ∧ w' = w :=
  (refMul_any a b w ha hb).mono fun _ _ ⟨h1, h2⟩ => ⟨h1, h2.symm⟩
theorem drewN_add (w : World) (m n : Nat) : (w.drewN m).drewN n = w.drewN (m + n) := by simp
end Go.Proofs.Ytebglmfdchfplaa
