/-
  DERIVED. GIVEN WITH THE SEED: THE CARDS: each row of YtepggchnhgpcnaaGreatDoorRows.lean that lists a variable, with what it lists TIED to the program's text (the seventh form; the later family's looks); each row that meets fmt, with fmt's text TOLD by the authors' own Lean function (tested against real Go, not proved from fmt's source: count such statements apart). THE CARD IS WHAT COUNTS. Prove the row's statement (the work); the ties are given (YtepggchnhgpcnaaGreatDoorTie.lean); close each card by the builder's one call (the guide's Derived/Test/ToyasCard.lean, 'card_holds'). Laid BY PROGRAM, IN A SANDBOX (cutbox-door.mjs). By AI agents, Wed Nov 11 2026. No macro, syntax, notation, axiom, sorry.
-/
import Derived.Test.YtepggchnhgpcnaaGreatDoorRows
import GoSem.ClaimSeven
namespace Go.Proofs.YtepggchnhgpcnaaGreatDoor
namespace Rows

/-- THE TIED CARD OF 'hypocaustlaw14.MetaRefuses'. -/
def metaRefusesCard : Claim7 := { stood := { row := metaRefusesRow, standIns := [], harness := (true, "6867f813aa65cd204c733762af5b5fb808ded8b5ae267e40d1c64fa5bb062ca5"), looks := true }, kinds := [], alts := [], laidByText := true, laidKinds := [.data], laidTests := true, laidLooks := .later }
def MetaRefusesCardSaid : Prop := Claim7.holds Tryz.pinned (.plain (OpenSpec.ofChange metaRefusesSpec)) metaRefusesCard

/-- THE TIED CARD OF 'hypocaustlaw14.MetaOne'. -/
def metaOneCard : Claim7 := { stood := { row := metaOneRow, standIns := [], harness := (true, "6867f813aa65cd204c733762af5b5fb808ded8b5ae267e40d1c64fa5bb062ca5"), looks := true }, kinds := [], alts := [], laidByText := true, laidKinds := [.data], laidTests := true, laidLooks := .later }
def MetaOneCardSaid : Prop := Claim7.holds Tryz.pinned (.plain (OpenSpec.ofChange metaOneSpec)) metaOneCard

/-- THE SECOND FORM's CARD OF 'hypocaustlaw14.MetaRefuses'. -/
def metaRefusesUptoCard : Claim7 := { stood := { row := metaRefusesUptoRow, standIns := [], harness := (true, "6867f813aa65cd204c733762af5b5fb808ded8b5ae267e40d1c64fa5bb062ca5"), looks := true }, kinds := [], alts := [], laidByText := true, laidKinds := [.data], laidTests := true, laidLooks := .later }
def MetaRefusesUptoCardSaid : Prop := Claim7.holds Tryz.pinned (.plain (OpenSpec.upto metaRefusesSpec)) metaRefusesUptoCard

/-- THE SECOND FORM's CARD OF 'hypocaustlaw14.MetaOne'. -/
def metaOneUptoCard : Claim7 := { stood := { row := metaOneUptoRow, standIns := [], harness := (true, "6867f813aa65cd204c733762af5b5fb808ded8b5ae267e40d1c64fa5bb062ca5"), looks := true }, kinds := [], alts := [], laidByText := true, laidKinds := [.data], laidTests := true, laidLooks := .later }
def MetaOneUptoCardSaid : Prop := Claim7.holds Tryz.pinned (.plain (OpenSpec.upto metaOneSpec)) metaOneUptoCard
end Rows
end Go.Proofs.YtepggchnhgpcnaaGreatDoor
