/- 'row', 'Size', 'At' of a Matrix. -/
import Derived.Test.YtebglmfdchfplaaMatNew
namespace Go.Proofs.Ytebglmfdchfplaa
open Go.RowKit
set_option linter.unusedVariables false

set_option maxHeartbeats 400000 in
theorem row_any (p q F r c i : Nat) (z : List Nat) (w : World) (hm : Mat w p q F r c z) (hi : i < r) :
    Calls Try.prog 52 #[.pointer (some ⟨p, 0, none⟩), .int .i64 i] w
      fun e w' => e = .returned (.slice (some ⟨q, i * c, none⟩) c (r * c - i * c)) ∧ ∃ n, w' = w.drewN n := by
  have h2 := hm.cols
  have h3 := hm.cells
  have b1 := hm.most
  have b2 : (i + 1) * c ≤ r * c := Nat.mul_le_mul_right c hi
  have b3 : (i + 1) * c = i * c + c := by rw [Nat.add_mul, Nat.one_mul]
  have c1 := hm.c1
  have b4 : i < 32 := Nat.lt_of_lt_of_le hi hm.r32
  have e1 : (i : Int) * (c : Int) = ((i * c : Nat) : Int) := by simp
  have e2 : ((i : Int) + 1) * (c : Int) = ((i * c + c : Nat) : Int) := by rw [← b3]; simp
  generalize hk : i * c = k at *
  generalize hn : r * c = n at *
  clear hm
  have l1 : k < n := by omega
  have l2 : k + c ≤ n := by omega
  clear b2 b3
  go_enter Try.func52, Try.ntmps52
  go_wp2
  go_quiet (fail)
  go_wp2
  go_ret
  exact ⟨congrArg (fun m => Ending.returned (.slice (some ⟨q, k, none⟩) m (n - k))) (show k + c - k = c by omega), _, rfl⟩

set_option maxHeartbeats 400000 in
theorem size_any (p q F r c : Nat) (z : List Nat) (w : World) (hm : Mat w p q F r c z) :
    Calls Try.prog 57 #[.pointer (some ⟨p, 0, none⟩)] w
      fun e w' => e = .returned (.tuple #[.int .i64 r, .int .i64 c]) ∧ ∃ n, w' = w.drewN n := by
  have h1 := hm.rows
  have h2 := hm.cols
  clear hm
  go_enter Try.func57, Try.ntmps57
  go_wp2
  go_quiet (fail)
  go_wp2
  go_ret2
  exact ⟨rfl, _, rfl⟩
end Go.Proofs.Ytebglmfdchfplaa
