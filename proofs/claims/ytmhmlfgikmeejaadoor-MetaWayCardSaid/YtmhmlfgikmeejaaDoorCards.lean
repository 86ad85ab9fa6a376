/-
  DERIVED. GIVEN WITH THE SEED: THE CARDS: each row of YtmhmlfgikmeejaaDoorRows.lean that lists a variable, with what it lists TIED to the program's text (the seventh form; the later family's looks); each row that meets fmt, with fmt's text TOLD by the authors' own Lean function (tested against real Go, not proved from fmt's source: count such statements apart). THE CARD IS WHAT COUNTS. Prove the row's statement (the work); the ties are given (YtmhmlfgikmeejaaDoorTie.lean); close each card by the builder's one call (the guide's Derived/Test/ToyasCard.lean, 'card_holds'). Laid BY PROGRAM, IN A SANDBOX (cutbox-door.mjs). By AI agents, Wed Nov 11 2026. No macro, syntax, notation, axiom, sorry.
-/
import Derived.Test.YtmhmlfgikmeejaaDoorRows
import GoSem.ClaimSeven
namespace Go.Proofs.YtmhmlfgikmeejaaDoor
namespace Rows

/-- THE TIED CARD OF 'hypocaustlaw14.MetaNext'. -/
def metaNextCard : Claim7 := { stood := { row := metaNextRow, standIns := [], harness := (true, "0c22c6f2b298e232b40f1533fcee1a5da0cf5f0947e108cfd5ade4b0dcf777b6"), looks := false }, kinds := [], alts := [], laidByText := true, laidKinds := [.data], laidTests := true, laidLooks := .later }
def MetaNextCardSaid : Prop := Claim7.holds Tryd.pinned (.plain (OpenSpec.ofChange metaNextSpec)) metaNextCard

/-- THE TIED CARD OF 'hypocaustlaw14.MetaWay'. -/
def metaWayCard : Claim7 := { stood := { row := metaWayRow, standIns := [], harness := (true, "0c22c6f2b298e232b40f1533fcee1a5da0cf5f0947e108cfd5ade4b0dcf777b6"), looks := false }, kinds := [], alts := [], laidByText := true, laidKinds := [.data], laidTests := true, laidLooks := .later }
def MetaWayCardSaid : Prop := Claim7.holds Tryd.pinned (.plain (OpenSpec.ofChange metaWaySpec)) metaWayCard

/-- THE SECOND FORM's CARD OF 'hypocaustlaw14.MetaNext'. -/
def metaNextUptoCard : Claim7 := { stood := { row := metaNextUptoRow, standIns := [], harness := (true, "0c22c6f2b298e232b40f1533fcee1a5da0cf5f0947e108cfd5ade4b0dcf777b6"), looks := false }, kinds := [], alts := [], laidByText := true, laidKinds := [.data], laidTests := true, laidLooks := .later }
def MetaNextUptoCardSaid : Prop := Claim7.holds Tryd.pinned (.plain (OpenSpec.upto metaNextSpec)) metaNextUptoCard

/-- THE SECOND FORM's CARD OF 'hypocaustlaw14.MetaWay'. -/
def metaWayUptoCard : Claim7 := { stood := { row := metaWayUptoRow, standIns := [], harness := (true, "0c22c6f2b298e232b40f1533fcee1a5da0cf5f0947e108cfd5ade4b0dcf777b6"), looks := false }, kinds := [], alts := [], laidByText := true, laidKinds := [.data], laidTests := true, laidLooks := .later }
def MetaWayUptoCardSaid : Prop := Claim7.holds Tryd.pinned (.plain (OpenSpec.upto metaWaySpec)) metaWayUptoCard
end Rows
end Go.Proofs.YtmhmlfgikmeejaaDoor
