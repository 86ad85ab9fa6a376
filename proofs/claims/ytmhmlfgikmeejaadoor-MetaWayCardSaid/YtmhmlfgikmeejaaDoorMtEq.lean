/- Three keys compared with none. -/
import Derived.Test.YtmhmlfgikmeejaaDoorMtNew
import Derived.ChangeKeysEq
namespace Go.Proofs.YtmhmlfgikmeejaaDoor
open Go.RowKit Go.Maps
set_option linter.unusedVariables false
theorem str_none (a : ByteArray) : (a.toList == (noK).toList) = decide (a = noK) := by
  rw [Bool.eq_iff_iff]
  simp only [beq_iff_eq, decide_eq_true_eq, ByteArray.toList_eq]
  constructor
  · intro h; exact ByteArray.ext (Array.toList_inj.1 h)
  · intro h; rw [h]
theorem str_some {a : ByteArray} (h : ¬ a = noK) : ¬ a.toList = [] := fun e => h (ByteArray.ext (Array.toList_inj.1 (by rw [← ByteArray.toList_eq]; exact e)))
theorem eqi (d : Nat) (a b c : ByteArray) (w : World) : (Op.equalIn (d + 1 + 1) 41 (.agg #[.string a, .string b, .string c]) (.agg #[.string ⟨#[]⟩, .string ⟨#[]⟩, .string ⟨#[]⟩])).run Tryd.prog w = .ok (decide (a = noK ∧ b = noK ∧ c = noK)) w := by
  obtain ⟨i, hi⟩ : ∃ i, Tryd.prog.info? 9 = some i := by
    have h : (Tryd.prog.info? 9).isSome = true := by kernel_rfl
    exact Option.isSome_iff_exists.1 h
  have hc : Tryd.prog.cellsOf 9 = 1 := by kernel_rfl
  rw [run_equalIn_array w (d + 1) _ _ Tryd.underlying41 hi, hc]
  have p0 : ∀ x y z : ByteArray, (part 9 #[.string x, .string y, .string z] 0).run Tryd.prog w = .ok (.string x) w := fun _ _ _ => by kernel_rfl
  have p1 : ∀ x y z : ByteArray, (part 9 #[.string x, .string y, .string z] 1).run Tryd.prog w = .ok (.string y) w := fun _ _ _ => by kernel_rfl
  have p2 : ∀ x y z : ByteArray, (part 9 #[.string x, .string y, .string z] 2).run Tryd.prog w = .ok (.string z) w := fun _ _ _ => by kernel_rfl
  have hs : ∀ x y : ByteArray, (Op.equalIn (d + 1) 9 (.string x) (.string y)).run Tryd.prog w = .ok (x.toList == y.toList) w := fun x y => run_equalIn_string w d _ x y Tryd.underlying9
  have hr : List.range 3 = [0, 1, 2] := rfl
  rw [hr]
  simp only [Op.eqItems, Sem.run_bind, Nat.reduceMul, p0, hs, Result.andThen_ok, str_none]
  by_cases ha : a = noK
  · by_cases hb : b = noK
    · by_cases hc : c = noK
      · simp [ha, hb, hc, p1, p2, hs]
      · have := str_some hc
        simp [ha, hb, hc, p1, p2, hs, this]
    · have := str_some hb
      simp [ha, hb, p1, hs, this]
  · simp [ha]
theorem eq3 (a b c : ByteArray) (w : World) : (binOp .eql 41 (.agg #[.string a, .string b, .string c]) (.agg #[.string ⟨#[]⟩, .string ⟨#[]⟩, .string ⟨#[]⟩])).run Tryd.prog w = .ok (.bool (decide (a = noK ∧ b = noK ∧ c = noK))) w := by
  have h := eqi 9998 a b c w
  go_simp

end Go.Proofs.YtmhmlfgikmeejaaDoor
