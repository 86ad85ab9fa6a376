/- 'Made', 'Dot', and the statements' own 'awake'. -/
import Derived.Test.YtebglmfdchfplaaGfNew
import Derived.OpenShut
namespace Go.Proofs.Ytebglmfdchfplaa
open Go.RowKit

/-- A byte that came in is a number below 256. -/
theorem u8_nat {a : Int} (h : (Lit.int .u8 a).wf = true) : ∃ n : Nat, a = (n : Int) ∧ n < 256 := by
  have := bounds_u8 h
  exact ⟨a.toNat, by omega, by omega⟩
theorem Newed.fld {w w' : World} (h : Newed w w') : Fld w.heap.size w' := .inl h.fresh
theorem Kept.below {b B : Nat} {w w' : World} (h : Kept b w w') (hB : B ≤ b) : Below B w w' := h.1.below hB

end Go.Proofs.Ytebglmfdchfplaa
