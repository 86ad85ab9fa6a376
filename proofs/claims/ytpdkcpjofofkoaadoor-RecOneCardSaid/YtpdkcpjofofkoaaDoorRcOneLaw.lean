/- RecOne, as its row asks it. -/
import Derived.Test.YtpdkcpjofofkoaaDoorRcOneWalk
namespace Go.Proofs.YtpdkcpjofofkoaaDoor
open Go.RowKit
theorem rone_walk (a0 : Option Addr) (l0 c0 : Nat) (z0 : List Int) (a1 : Option Addr) (l1 c1 : Nat) (z1 : List Int) (a2 : Option Addr) (l2 c2 : Nat) (z2 : List Int) (w : World) (hS : Shp w) (w0 : CameI w a0 l0 c0 z0) (w1 : CameI w a1 l1 c1 z1) (w2 : CameIn w a2 l2 c2 z2) :
    Calls Tryd.prog 6 #[.slice a0 l0 c0, .slice a1 l1 c1, .slice a2 l2 c2] w fun e w' => e = .returned (.bool true) ∧ Below w.heap.size w w' := by
  obtain ⟨z, hz⟩ := SlN.of w2
  exact (one_any w a0 a1 a2 l0 c0 l1 c1 l2 c2 z0 z1 z hS w0 w1 hz (came_cap w2)).mono fun e w' ⟨h, u⟩ => ⟨h, u.below (Nat.le_refl _) fun _ _ h => h⟩
end Go.Proofs.YtpdkcpjofofkoaaDoor
