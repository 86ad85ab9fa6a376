/- 'Made', 'Dot', and the statements' own 'awake'. -/
import Derived.Test.YtgebniihbcgmgaaGfNew
import Derived.OpenShut
namespace Go.Proofs.Ytgebniihbcgmgaa
open Go.RowKit

/-- A byte that came in is a number below 256. -/
theorem u8_nat {a : Int} (h : (Lit.int .u8 a).wf = true) : ∃ n : Nat, a = (n : Int) ∧ n < 256 := by
  have := bounds_u8 h
  exact ⟨a.toNat, by omega, by omega⟩
theorem Newed.fld {w w' : World} (h : Newed w w') : Fld w.heap.size w' := .inl h.fresh
theorem Kept.below {b B : Nat} {w w' : World} (h : Kept b w w') (hB : B ≤ b) : Below B w w' := h.1.below hB

set_option maxRecDepth 100000 in
set_option maxHeartbeats 800000 in
/-- 'awake': true, whatever the world; nothing that was there turns. -/
theorem awake_any (w : World) :
    Calls Try.prog 13 #[] w fun e w' => e = .returned (.bool true) ∧ Below w.heap.size w w' := by
  have e29 : GfM.mul 2 128 = 29 := by decide +kernel
  have e142 : GfM.inv 2 = 142 := by decide +kernel
  have e1 : GfM.pow 0 0 = 1 := by decide +kernel
  have E29 : Hid _ := e29
  have E142 : Hid _ := e142
  have E1 : Hid _ := e1
  clear e29 e142 e1
  go_enter Try.func13, Try.ntmps13
  go_wp2_with fail
  refine (new_any _).mono ?_
  rintro e w1 ⟨rfl, k1⟩
  go_wp2_with fail
  refine (inv_any w.heap.size 2 _ k1.fld (by omega) (by omega)).mono ?_
  rintro e w2 ⟨he, k2⟩
  rw [E142.out] at he
  subst he
  go_wp2_with fail
  refine (inv_zero w.heap.size _ k2.2).mono ?_
  rintro e w3 ⟨rfl, k3⟩
  go_wp2_with fail
  refine (mul_any w.heap.size 2 128 _ k3.2 (by omega) (by omega)).mono ?_
  rintro e w4 ⟨he, k4⟩
  rw [E29.out] at he
  subst he
  go_wp2_with fail
  refine (pow_any w.heap.size 0 0 _ k4.2 (by omega)).mono ?_
  rintro e w5 ⟨he, k5⟩
  rw [E1.out] at he
  subst he
  go_wp2
  go_ret
  exact ⟨rfl, k1.below.trans ((k2.trans (k3.trans (k4.trans k5))).below (Nat.le_refl _))⟩

/-- 'Made': none, or one. -/
theorem made_fresh (b : Nat) (w : World) (hf : Fresh b w) :
    Calls Try.prog 20 #[.pointer (some ⟨b, 0, none⟩)] w fun e w' => e = .returned (.int .i64 0) ∧ w = w' := by
  have hl := run_call_load (P := Try.prog) Try.func26 (by kernel_rfl) (by kernel_rfl) (by kernel_rfl) .i32 (by kernel_rfl) hf.made
  go_enter Try.func20, Try.ntmps20
  go_wp2
  go_ret
  exact ⟨rfl, rfl⟩
theorem made_full (b : Nat) (w : World) (hf : Full b w) :
    Calls Try.prog 20 #[.pointer (some ⟨b, 0, none⟩)] w fun e w' => e = .returned (.int .i64 1) ∧ w = w' := by
  have hl := run_call_load (P := Try.prog) Try.func26 (by kernel_rfl) (by kernel_rfl) (by kernel_rfl) .i32 (by kernel_rfl) hf.made
  go_enter Try.func20, Try.ntmps20
  go_wp2
  go_ret
  exact ⟨rfl, rfl⟩
end Go.Proofs.Ytgebniihbcgmgaa
