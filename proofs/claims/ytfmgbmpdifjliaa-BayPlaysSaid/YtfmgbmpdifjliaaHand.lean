/- A region that draws its order, walked by hand: the condition on the world may be turned on the way. -/
import Derived.Deep.RegionHeld3
namespace Go.Proofs.Ytfmgbmpdifjliaa


theorem wpAnyH_sub {P : Program} {ops : Array Oper} {Q : Exit → Act → World → Prop} {md : Region.Mode} {S T : World → Prop} (hST : ∀ w, S w → T w) :
    ∀ {fuel : Nat} {listed : Array Bool} {a : Act} {w : World}, wpAnyH P md ops Q S fuel listed a w → wpAnyH P md ops Q T fuel listed a w
  | 0, _, _, _, h => h
  | _ + 1, _, _, _, h => ⟨h.1, fun i hi => wpOp_mono (fun _ _ h' => ⟨hST _ h'.1, wpAnyH_sub hST h'.2⟩) (h.2 i hi)⟩
end Go.Proofs.Ytfmgbmpdifjliaa
