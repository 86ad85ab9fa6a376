/- 'holds', 'isPlain', 'isNowhere', 'named', 'locsOf', 'tableNumbers', 'isKind'. -/
import Derived.Test.YtmhmlfgikmeejaaDoorRcBase
namespace Go.Proofs.YtmhmlfgikmeejaaDoor
open Go.RowKit
set_option linter.unusedVariables false

def spn (lo hi x : Int) : Bool := decide (lo ≤ x) && decide (x ≤ hi)
theorem holds1_any (p : Nat) (lo hi x : Int) (w : World) (h0 : w.cell? ⟨p, 0, none⟩ = some (.int .i64 lo)) (h1 : w.cell? ⟨p, 1, none⟩ = some (.int .i64 hi)) :
    Calls Tryd.prog 46 #[.int .i64 x, .pointer (some ⟨p, 0, none⟩)] w fun e w' => e = .returned (.bool (! spn lo hi x)) ∧ Up Nul w w' := by
  by_cases a : x < lo
  · have E : Hid ((! spn lo hi x) = true) := by show _ = _; unfold spn; rw [decide_eq_false (by omega : ¬ lo ≤ x)]; rfl
    rw [E.out]
    clear E
    go_enter Tryd.func46, Tryd.ntmps46
    go_wp2
    go_ret
    exact ⟨rfl, Up.refl _ _⟩
  · by_cases b : hi < x
    · have E : Hid ((! spn lo hi x) = true) := by show _ = _; unfold spn; rw [decide_eq_false (by omega : ¬ x ≤ hi)]; simp
      rw [E.out]
      clear E
      go_enter Tryd.func46, Tryd.ntmps46
      go_wp2
      go_ret
      exact ⟨rfl, Up.refl _ _⟩
    · have E : Hid ((! spn lo hi x) = false) := by show _ = _; unfold spn; rw [decide_eq_true (by omega : lo ≤ x), decide_eq_true (by omega : x ≤ hi)]; rfl
      have F := hid (decide_eq_false b)
      rw [E.out]
      clear E
      go_enter Tryd.func46, Tryd.ntmps46
      go_wp2
      go_ret
      exact ⟨by first | rfl | exact congrArg (fun b => Ending.returned (.bool b)) F.out, Up.refl _ _⟩
end Go.Proofs.YtmhmlfgikmeejaaDoor
