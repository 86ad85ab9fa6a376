/- The law CodeDecodes, whole. -/
import Derived.Test.YtkenfabnbmkhbaaGreatDecWalk
import Derived.OpenShut
namespace Go.Proofs.YtkenfabnbmkhbaaGreat
open Go.RowKit
set_option linter.unusedVariables false
theorem decodes_walk (a0 a1 a2 : Int) (a3 : Option Addr) (len3 cap3 : Nat) (z3 : List Int) (a4 a5 a6 a7 a8 a9 : Int) (w : World) (w3 : CameIn w a3 len3 cap3 z3) (w7 : (Lit.int .u8 a7).wf = true) :
    Calls Tryz.prog 3 #[.int .i64 a0, .int .i64 a1, .int .i64 a2, .slice a3 len3 cap3, .int .i64 a4, .int .u64 a5, .int .i64 a6, .int .u8 a7, .int .i64 a8, .int .i64 a9] w fun e w' => e = .returned (.bool true) ∧ Below w.heap.size w w' := by
  by_cases h : 1000 < len3
  · exact decodes_long a0 a1 a2 a4 a5 a6 a7 a8 a9 a3 len3 cap3 w h
  · obtain ⟨za, hza⟩ := SlN.of w3
    have hb : 0 ≤ a7 ∧ a7 ≤ 255 := bounds_u8 w7
    obtain ⟨b, rfl⟩ : ∃ t : Nat, a7 = t := ⟨a7.toNat, by omega⟩
    exact decodes_short a0 a1 a2 a4 a5 a6 a8 a9 b a3 len3 cap3 za w (by omega) hza (by omega)
end Go.Proofs.YtkenfabnbmkhbaaGreat
