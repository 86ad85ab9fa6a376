/-
  DERIVED. GIVEN WITH THE SEED: THE CARDS: each row of YtpdkcpjofofkoaaDoorRows.lean that lists a variable, with what it lists TIED to the program's text (the seventh form; the later family's looks); each row that meets fmt, with fmt's text TOLD by the authors' own Lean function (tested against real Go, not proved from fmt's source: count such statements apart). THE CARD IS WHAT COUNTS. Prove the row's statement (the work); the ties are given (YtpdkcpjofofkoaaDoorTie.lean); close each card by the builder's one call (the guide's Derived/Test/ToyasCard.lean, 'card_holds'). Laid BY PROGRAM, IN A SANDBOX (cutbox-door.mjs). By AI agents, Wed Nov 11 2026. No macro, syntax, notation, axiom, sorry.
-/
import Derived.Test.YtpdkcpjofofkoaaDoorRows
import GoSem.ClaimSeven
namespace Go.Proofs.YtpdkcpjofofkoaaDoor
namespace Rows

/-- THE TIED CARD OF 'hypocaustlaw13.RecBounds'. -/
def recBoundsCard : Claim7 := { stood := { row := recBoundsRow, standIns := [], harness := (true, "1ac98262404b846003cf1dfe677235dc9e2d02dd61d73c01999bd447d67127fb"), looks := false }, kinds := [], alts := [], laidByText := true, laidKinds := [.data], laidTests := true, laidLooks := .later }
def RecBoundsCardSaid : Prop := Claim7.holds Tryd.pinned (.plain (OpenSpec.ofChange recBoundsSpec)) recBoundsCard

/-- THE TIED CARD OF 'hypocaustlaw13.RecCodes'. -/
def recCodesCard : Claim7 := { stood := { row := recCodesRow, standIns := [], harness := (true, "1ac98262404b846003cf1dfe677235dc9e2d02dd61d73c01999bd447d67127fb"), looks := false }, kinds := [], alts := [], laidByText := true, laidKinds := [.data], laidTests := true, laidLooks := .later }
def RecCodesCardSaid : Prop := Claim7.holds Tryd.pinned (.plain (OpenSpec.ofChange recCodesSpec)) recCodesCard

/-- THE TIED CARD OF 'hypocaustlaw13.RecReads'. -/
def recReadsCard : Claim7 := { stood := { row := recReadsRow, standIns := [], harness := (true, "1ac98262404b846003cf1dfe677235dc9e2d02dd61d73c01999bd447d67127fb"), looks := false }, kinds := [], alts := [], laidByText := true, laidKinds := [.data], laidTests := true, laidLooks := .later }
def RecReadsCardSaid : Prop := Claim7.holds Tryd.pinned (.plain (OpenSpec.ofChange recReadsSpec)) recReadsCard

/-- THE TIED CARD OF 'hypocaustlaw13.RecOne'. -/
def recOneCard : Claim7 := { stood := { row := recOneRow, standIns := [], harness := (true, "1ac98262404b846003cf1dfe677235dc9e2d02dd61d73c01999bd447d67127fb"), looks := false }, kinds := [], alts := [], laidByText := true, laidKinds := [.data], laidTests := true, laidLooks := .later }
def RecOneCardSaid : Prop := Claim7.holds Tryd.pinned (.plain (OpenSpec.ofChange recOneSpec)) recOneCard

/-- THE SECOND FORM's CARD OF 'hypocaustlaw13.RecBounds'. -/
def recBoundsUptoCard : Claim7 := { stood := { row := recBoundsUptoRow, standIns := [], harness := (true, "1ac98262404b846003cf1dfe677235dc9e2d02dd61d73c01999bd447d67127fb"), looks := false }, kinds := [], alts := [], laidByText := true, laidKinds := [.data], laidTests := true, laidLooks := .later }
def RecBoundsUptoCardSaid : Prop := Claim7.holds Tryd.pinned (.plain (OpenSpec.upto recBoundsSpec)) recBoundsUptoCard

/-- THE SECOND FORM's CARD OF 'hypocaustlaw13.RecCodes'. -/
def recCodesUptoCard : Claim7 := { stood := { row := recCodesUptoRow, standIns := [], harness := (true, "1ac98262404b846003cf1dfe677235dc9e2d02dd61d73c01999bd447d67127fb"), looks := false }, kinds := [], alts := [], laidByText := true, laidKinds := [.data], laidTests := true, laidLooks := .later }
def RecCodesUptoCardSaid : Prop := Claim7.holds Tryd.pinned (.plain (OpenSpec.upto recCodesSpec)) recCodesUptoCard

/-- THE SECOND FORM's CARD OF 'hypocaustlaw13.RecReads'. -/
def recReadsUptoCard : Claim7 := { stood := { row := recReadsUptoRow, standIns := [], harness := (true, "1ac98262404b846003cf1dfe677235dc9e2d02dd61d73c01999bd447d67127fb"), looks := false }, kinds := [], alts := [], laidByText := true, laidKinds := [.data], laidTests := true, laidLooks := .later }
def RecReadsUptoCardSaid : Prop := Claim7.holds Tryd.pinned (.plain (OpenSpec.upto recReadsSpec)) recReadsUptoCard

/-- THE SECOND FORM's CARD OF 'hypocaustlaw13.RecOne'. -/
def recOneUptoCard : Claim7 := { stood := { row := recOneUptoRow, standIns := [], harness := (true, "1ac98262404b846003cf1dfe677235dc9e2d02dd61d73c01999bd447d67127fb"), looks := false }, kinds := [], alts := [], laidByText := true, laidKinds := [.data], laidTests := true, laidLooks := .later }
def RecOneUptoCardSaid : Prop := Claim7.holds Tryd.pinned (.plain (OpenSpec.upto recOneSpec)) recOneUptoCard
end Rows
end Go.Proofs.YtpdkcpjofofkoaaDoor
