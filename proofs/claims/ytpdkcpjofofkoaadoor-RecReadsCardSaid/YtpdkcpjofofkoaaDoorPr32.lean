/- The document's RecOf: what it reads out of bytes. -/
import Derived.Test.YtpdkcpjofofkoaaDoorPkTidy
import Derived.Test.YtpdkcpjofofkoaaDoorPq23
import Derived.Test.YtpdkcpjofofkoaaDoorPq24
import Derived.Test.YtpdkcpjofofkoaaDoorPq25
import Derived.Test.YtpdkcpjofofkoaaDoorPq26
import Derived.Test.YtpdkcpjofofkoaaDoorPq27
import Derived.Test.YtpdkcpjofofkoaaDoorPq28
import Derived.Test.YtpdkcpjofofkoaaDoorPq29
import Derived.Test.YtpdkcpjofofkoaaDoorPq30
import Derived.Test.YtpdkcpjofofkoaaDoorPq31
set_option maxRecDepth 100000
namespace Go.Proofs.YtpdkcpjofofkoaaDoor
open Go.RowKit
set_option linter.unusedVariables false
theorem rof_any (z : List Nat) (w : World) (hz : ∀ x ∈ z, x < 256) (hl : z.length ≤ 100000) :
  Calls Tryd.prog 15 #[.string (strOf z)] w fun e w' => RofP w (decO z) (decR z).isSome e w' := by
 cases hb : spn 1 8 ((fold8 (tk 1 z) : Nat) : Int) with
 | false => exact rof_none z w hz hl hb
 | true =>
  have h := spn_iff.1 hb
  have hk : fold8 (tk 1 z) = 1 ∨ fold8 (tk 1 z) = 2 ∨ fold8 (tk 1 z) = 3 ∨ fold8 (tk 1 z) = 4 ∨ fold8 (tk 1 z) = 5 ∨ fold8 (tk 1 z) = 6 ∨ fold8 (tk 1 z) = 7 ∨ fold8 (tk 1 z) = 8 := by omega
  rcases hk with hk | hk | hk | hk | hk | hk | hk | hk
  ·exact rof1 z w hz hl hk
  ·exact rof2 z w hz hl hk
  ·exact rof3 z w hz hl hk
  ·exact rof4 z w hz hl hk
  ·exact rof5 z w hz hl hk
  ·exact rof6 z w hz hl hk
  ·exact rof7 z w hz hl hk
  ·exact rof8 z w hz hl hk
end Go.Proofs.YtpdkcpjofofkoaaDoor
