/- The document's 'Decode' and 'Check' of a list of a wrong length. -/
import Derived.Test.YtkenfabnbmkhbaaGreatDecChk
namespace Go.Proofs.YtkenfabnbmkhbaaGreat
open Go.RowKit
set_option linter.unusedVariables false

set_option maxRecDepth 100000 in
theorem refDec_off (a : Option Addr) (cap gx cx gy cy k r n : Nat) (w : World) (hn : (k : Int) + (r : Int) ≠ (n : Int)) (k14 : k ≤ 14) (r4 : r ≤ 4) (hn64 : n ≤ 64) :
    Calls Tryz.prog 14 #[.agg #[.slice (some ⟨gx, 0, none⟩) k cx, .slice (some ⟨gy, 0, none⟩) r cy], .slice a n cap] w
      fun e w' => e = .returned (.tuple #[.slice none 0 0, .int .i64 1]) ∧ Up Nul w w' := by
  have c0 : (w.alloc (.cells #[.slice (some ⟨gx, 0, none⟩) k cx, .slice (some ⟨gy, 0, none⟩) r cy] 26)).cell? ⟨w.heap.size, 0, none⟩ = some (.slice (some ⟨gx, 0, none⟩) k cx) := World.cell?_alloc_new w _ _ 0
  have c1 : (w.alloc (.cells #[.slice (some ⟨gx, 0, none⟩) k cx, .slice (some ⟨gy, 0, none⟩) r cy] 26)).cell? ⟨w.heap.size, 1, none⟩ = some (.slice (some ⟨gy, 0, none⟩) r cy) := World.cell?_alloc_new w _ _ 1
  have HU := hid ((Up.refl Nul w).alloc (.cells #[.slice (some ⟨gx, 0, none⟩) k cx, .slice (some ⟨gy, 0, none⟩) r cy] 26))
  have h1 : ¬ (n : Int) = (k : Int) + (r : Int) := fun e => hn e.symm
  go_enter Tryz.func14, Tryz.ntmps14
  go_wp2
  go_ret2
  exact ⟨rfl, HU.out⟩
set_option maxRecDepth 100000 in
theorem refChk_off (a : Option Addr) (cap gx cx gy cy k r n : Nat) (w : World) (hn : (k : Int) + (r : Int) ≠ (n : Int)) (k14 : k ≤ 14) (r4 : r ≤ 4) (hn64 : n ≤ 64) :
    Calls Tryz.prog 17 #[.agg #[.slice (some ⟨gx, 0, none⟩) k cx, .slice (some ⟨gy, 0, none⟩) r cy], .slice a n cap] w
      fun e w' => e = .returned (.tuple #[.bool false, .int .i64 1]) ∧ Up Nul w w' := by
  have c0 : (w.alloc (.cells #[.slice (some ⟨gx, 0, none⟩) k cx, .slice (some ⟨gy, 0, none⟩) r cy] 26)).cell? ⟨w.heap.size, 0, none⟩ = some (.slice (some ⟨gx, 0, none⟩) k cx) := World.cell?_alloc_new w _ _ 0
  have c1 : (w.alloc (.cells #[.slice (some ⟨gx, 0, none⟩) k cx, .slice (some ⟨gy, 0, none⟩) r cy] 26)).cell? ⟨w.heap.size, 1, none⟩ = some (.slice (some ⟨gy, 0, none⟩) r cy) := World.cell?_alloc_new w _ _ 1
  have HU := hid ((Up.refl Nul w).alloc (.cells #[.slice (some ⟨gx, 0, none⟩) k cx, .slice (some ⟨gy, 0, none⟩) r cy] 26))
  have h1 : ¬ (n : Int) = (k : Int) + (r : Int) := fun e => hn e.symm
  go_enter Tryz.func17, Tryz.ntmps17
  go_wp2
  go_ret2
  exact ⟨rfl, HU.out⟩
end Go.Proofs.YtkenfabnbmkhbaaGreat
