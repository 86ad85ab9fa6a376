/-
  NARROWER THAN 'FOR EVERY INPUT', by the rows' own cells (each row's printed sentence says how): RecBounds: laid · RecCodes: laid · RecReads: laid · RecOne: laid.
  DERIVED. THE GIVEN ROWS OF THIS SEAT. 4 by the template 'for every input the law returns true; each argument reads behind the call as it read before'; 0 by the template 'total and deterministic' (their statements: YtpdkcpjofofkoaaDoorTotals.lean).
  GIVEN WITH THE SEED: the statements are not yours to turn. If you find one false, say at which input.
  Laid BY PROGRAM, IN A SANDBOX (cutbox-rows.mjs): the forced cells as the released guide's own fill.sh prints them over the translation 3a1115d55ae78684… (all of the seat's roots in one cut). By AI agents, Wed Nov 11 2026. No macro, syntax, notation, axiom, sorry.
-/
import Derived.Test.YtpdkcpjofofkoaaDoorChecked
import GoSem.Claim
import GoSem.ClaimJoined
import GoSem.ClaimMapViews
import Derived.JoinedTies
import Derived.KernelRfl
namespace Go.Proofs.YtpdkcpjofofkoaaDoor
/- THE CELL 'sum', in the pinned program and in every row, IS THE sha256 OF THE DUMP (.gsa) THAT YtpdkcpjofofkoaaDoorProg.lean LOADS. Nothing in Lean hashes anything: it is a label: what it is worth is what the hold of that sum in a sandbox is worth. -/
noncomputable def Tryd.pinned : Pinned := { name := "ytpdkcpjofofkoaadoor", sum := "3a1115d55ae78684272a0c83709b54990f954a12bcfc9e7504b7a9c7de47183b", checked := Tryd.checked }
namespace Rows
def none {H : Type} : Left H := { results := [], args := [] }

/- WHAT THE LISTED PACKAGE-LEVEL VARIABLES READ AS WHEN THE CALL BEGINS. Each datum BY PROGRAM (the guide's laid-datum.mjs) off the statement by which the dump's own 'gosem.cut.vars' lays the variable. In a bare row this is a premise. The card (YtpdkcpjofofkoaaDoorCards.lean) ties it to the program's text. -/
def laid_hypocaust_rec_shapes {H : Type} : DataW H := .agg [.agg [.agg [.lit (.int .i64 0), .lit (.int .i64 0)], .agg [.lit (.int .i64 0), .lit (.int .i64 0)], .agg [.lit (.int .i64 0), .lit (.int .i64 0)], .agg [.lit (.int .i64 0), .lit (.int .i64 0)], .lit (.int .i64 0), .agg [.lit (.int .i64 0), .lit (.int .i64 0)], .lit (.int .i64 0), .lit (.int .i64 0), .agg [.lit (.int .i64 0), .lit (.int .i64 0)]], .agg [.agg [.lit (.int .i64 1), .lit (.int .i64 16)], .agg [.lit (.int .i64 0), .lit (.int .i64 64)], .agg [.lit (.int .i64 1), .lit (.int .i64 2147483647)], .agg [.lit (.int .i64 0), .lit (.int .i64 0)], .lit (.int .i64 0), .agg [.lit (.int .i64 0), .lit (.int .i64 0)], .lit (.int .i64 3), .lit (.int .i64 0), .agg [.lit (.int .i64 0), .lit (.int .i64 0)]], .agg [.agg [.lit (.int .i64 1), .lit (.int .i64 16)], .agg [.lit (.int .i64 0), .lit (.int .i64 0)], .agg [.lit (.int .i64 0), .lit (.int .i64 0)], .agg [.lit (.int .i64 0), .lit (.int .i64 0)], .lit (.int .i64 0), .agg [.lit (.int .i64 0), .lit (.int .i64 0)], .lit (.int .i64 0), .lit (.int .i64 0), .agg [.lit (.int .i64 0), .lit (.int .i64 0)]], .agg [.agg [.lit (.int .i64 1), .lit (.int .i64 16)], .agg [.lit (.int .i64 0), .lit (.int .i64 0)], .agg [.lit (.int .i64 1), .lit (.int .i64 2147483647)], .agg [.lit (.int .i64 0), .lit (.int .i64 2)], .lit (.int .i64 0), .agg [.lit (.int .i64 0), .lit (.int .i64 0)], .lit (.int .i64 6), .lit (.int .i64 0), .agg [.lit (.int .i64 0), .lit (.int .i64 0)]], .agg [.agg [.lit (.int .i64 1), .lit (.int .i64 16)], .agg [.lit (.int .i64 0), .lit (.int .i64 0)], .agg [.lit (.int .i64 1), .lit (.int .i64 2147483647)], .agg [.lit (.int .i64 0), .lit (.int .i64 0)], .lit (.int .i64 0), .agg [.lit (.int .i64 0), .lit (.int .i64 0)], .lit (.int .i64 3), .lit (.int .i64 0), .agg [.lit (.int .i64 0), .lit (.int .i64 0)]], .agg [.agg [.lit (.int .i64 0), .lit (.int .i64 0)], .agg [.lit (.int .i64 0), .lit (.int .i64 0)], .agg [.lit (.int .i64 1), .lit (.int .i64 2147483647)], .agg [.lit (.int .i64 0), .lit (.int .i64 0)], .lit (.int .i64 3), .agg [.lit (.int .i64 1), .lit (.int .i64 2147483647)], .lit (.int .i64 4), .lit (.int .i64 0), .agg [.lit (.int .i64 0), .lit (.int .i64 0)]], .agg [.agg [.lit (.int .i64 0), .lit (.int .i64 0)], .agg [.lit (.int .i64 0), .lit (.int .i64 0)], .agg [.lit (.int .i64 1), .lit (.int .i64 2147483647)], .agg [.lit (.int .i64 0), .lit (.int .i64 0)], .lit (.int .i64 3), .agg [.lit (.int .i64 0), .lit (.int .i64 2147483647)], .lit (.int .i64 0), .lit (.int .i64 2), .agg [.lit (.int .i64 0), .lit (.int .i64 0)]], .agg [.agg [.lit (.int .i64 0), .lit (.int .i64 0)], .agg [.lit (.int .i64 0), .lit (.int .i64 15)], .agg [.lit (.int .i64 1), .lit (.int .i64 2147483647)], .agg [.lit (.int .i64 0), .lit (.int .i64 0)], .lit (.int .i64 0), .agg [.lit (.int .i64 0), .lit (.int .i64 0)], .lit (.int .i64 1), .lit (.int .i64 0), .agg [.lit (.int .i64 0), .lit (.int .i64 0)]], .agg [.agg [.lit (.int .i64 0), .lit (.int .i64 0)], .agg [.lit (.int .i64 0), .lit (.int .i64 0)], .agg [.lit (.int .i64 0), .lit (.int .i64 0)], .agg [.lit (.int .i64 0), .lit (.int .i64 0)], .lit (.int .i64 0), .agg [.lit (.int .i64 0), .lit (.int .i64 0)], .lit (.int .i64 0), .lit (.int .i64 0), .agg [.lit (.int .i64 0), .lit (.int .i64 1000000)]]]

/-- 'hypocaustlaw13.RecBounds': WHATEVER THE INPUT: true; the input reads as it did. -/
def recBoundsSpec : ChangeSpec := { name := "recBounds", fn := fun _ => fun
  | [d1, d2, d3] => { results := [.lit (.bool true)], args := [d1, d2, d3] }
  | _ => none }
def recBoundsRow : OpenClaim := { program := "ytpdkcpjofofkoaadoor", sum := "3a1115d55ae78684272a0c83709b54990f954a12bcfc9e7504b7a9c7de47183b", func := "hypocaust/hypocaustlaw13.RecBounds", spec := "recBounds", unfollowed := true, recurses := true, named := ["hypocaust/rec.shapes"], apart := false, laid := [("hypocaust/rec.shapes", laid_hypocaust_rec_shapes)] }
def RecBoundsSaid : Prop := recBoundsRow.holds Tryd.pinned (OpenSpec.ofChange recBoundsSpec)

/-- ITS FALSE NEIGHBOUR: 'it returns false'. Refute it at one input. -/
def recBoundsWrong : ChangeSpec := { name := "recBounds", fn := fun _ => fun
  | [d1, d2, d3] => { results := [.lit (.bool false)], args := [d1, d2, d3] }
  | _ => none }
def RecBoundsWrongFalsely : Prop := recBoundsRow.holds Tryd.pinned (OpenSpec.ofChange recBoundsWrong)

/-- 'hypocaustlaw13.RecCodes': WHATEVER THE INPUT: true; the input reads as it did. -/
def recCodesSpec : ChangeSpec := { name := "recCodes", fn := fun _ => fun
  | [d1, d2] => { results := [.lit (.bool true)], args := [d1, d2] }
  | _ => none }
def recCodesRow : OpenClaim := { program := "ytpdkcpjofofkoaadoor", sum := "3a1115d55ae78684272a0c83709b54990f954a12bcfc9e7504b7a9c7de47183b", func := "hypocaust/hypocaustlaw13.RecCodes", spec := "recCodes", unfollowed := true, recurses := true, named := ["hypocaust/rec.shapes"], apart := false, laid := [("hypocaust/rec.shapes", laid_hypocaust_rec_shapes)] }
def RecCodesSaid : Prop := recCodesRow.holds Tryd.pinned (OpenSpec.ofChange recCodesSpec)

/-- ITS FALSE NEIGHBOUR: 'it returns false'. Refute it at one input. -/
def recCodesWrong : ChangeSpec := { name := "recCodes", fn := fun _ => fun
  | [d1, d2] => { results := [.lit (.bool false)], args := [d1, d2] }
  | _ => none }
def RecCodesWrongFalsely : Prop := recCodesRow.holds Tryd.pinned (OpenSpec.ofChange recCodesWrong)

/-- 'hypocaustlaw13.RecReads': WHATEVER THE INPUT: true; the input reads as it did. -/
def recReadsSpec : ChangeSpec := { name := "recReads", fn := fun _ => fun
  | [d1, d2, d3, d4, d5] => { results := [.lit (.bool true)], args := [d1, d2, d3, d4, d5] }
  | _ => none }
def recReadsRow : OpenClaim := { program := "ytpdkcpjofofkoaadoor", sum := "3a1115d55ae78684272a0c83709b54990f954a12bcfc9e7504b7a9c7de47183b", func := "hypocaust/hypocaustlaw13.RecReads", spec := "recReads", unfollowed := true, recurses := true, named := ["hypocaust/rec.shapes"], apart := false, laid := [("hypocaust/rec.shapes", laid_hypocaust_rec_shapes)] }
def RecReadsSaid : Prop := recReadsRow.holds Tryd.pinned (OpenSpec.ofChange recReadsSpec)

/-- ITS FALSE NEIGHBOUR: 'it returns false'. Refute it at one input. -/
def recReadsWrong : ChangeSpec := { name := "recReads", fn := fun _ => fun
  | [d1, d2, d3, d4, d5] => { results := [.lit (.bool false)], args := [d1, d2, d3, d4, d5] }
  | _ => none }
def RecReadsWrongFalsely : Prop := recReadsRow.holds Tryd.pinned (OpenSpec.ofChange recReadsWrong)

/-- 'hypocaustlaw13.RecOne': WHATEVER THE INPUT: true; the input reads as it did. -/
def recOneSpec : ChangeSpec := { name := "recOne", fn := fun _ => fun
  | [d1, d2, d3] => { results := [.lit (.bool true)], args := [d1, d2, d3] }
  | _ => none }
def recOneRow : OpenClaim := { program := "ytpdkcpjofofkoaadoor", sum := "3a1115d55ae78684272a0c83709b54990f954a12bcfc9e7504b7a9c7de47183b", func := "hypocaust/hypocaustlaw13.RecOne", spec := "recOne", unfollowed := true, recurses := true, named := ["hypocaust/rec.shapes"], apart := false, laid := [("hypocaust/rec.shapes", laid_hypocaust_rec_shapes)] }
def RecOneSaid : Prop := recOneRow.holds Tryd.pinned (OpenSpec.ofChange recOneSpec)

/-- ITS FALSE NEIGHBOUR: 'it returns false'. Refute it at one input. -/
def recOneWrong : ChangeSpec := { name := "recOne", fn := fun _ => fun
  | [d1, d2, d3] => { results := [.lit (.bool false)], args := [d1, d2, d3] }
  | _ => none }
def RecOneWrongFalsely : Prop := recOneRow.holds Tryd.pinned (OpenSpec.ofChange recOneWrong)

/- THE SECOND FORM. 'bulk': how many values and letters a reading holds, each counted each time it is reached (what is shared counts as often as it is met; a slice's spare places count too). A statement '..UptoSaid' is the law's where the arguments, and the package variables that the reading takes, are together of bulk at most 1048576: NARROWER than '..Said'. Prove '..Said' where nothing that the law and all that it calls make is longer than what came in: it says more and counts as full. Else prove '..UptoSaid'. A law counts once. -/
mutual
def uptoBulk {H : Type} : DataW H → Nat
  | .lit (.string bytes) => bytes.length + 1
  | .lit _ => 1
  | .nil => 1
  | .ptr d => uptoBulk d + 1
  | .slice elems spare => uptoBulkAll elems + uptoBulkAll spare + 1
  | .agg parts => uptoBulkAll parts + 1
  | .iface _ d => uptoBulk d + 1
  | .map entries => uptoBulkEntries entries + 1
  | .held _ => 1
def uptoBulkAll {H : Type} : List (DataW H) → Nat
  | [] => 0
  | d :: r => uptoBulk d + uptoBulkAll r
def uptoBulkEntries {H : Type} : List (Lit × DataW H) → Nat
  | [] => 0
  | x :: r => uptoBulkEntry x + uptoBulkEntries r
def uptoBulkEntry {H : Type} : Lit × DataW H → Nat
  | (.string bytes, d) => bytes.length + uptoBulk d + 1
  | (_, d) => uptoBulk d + 1
 end
def uptoSmall : (H : Type) → List (DataW H) → Bool := fun _ ds => decide (uptoBulkAll ds ≤ 1048576)
def OpenSpec.upto (s : _root_.Go.ChangeSpec) : _root_.Go.OpenSpec := { _root_.Go.OpenSpec.ofChange s with cond := some uptoSmall }

/-- 'hypocaustlaw13.RecBounds', WHERE WHAT IT READS IS OF BULK AT MOST 1048576: true; the input reads as it did. -/
def recBoundsUptoRow : OpenClaim := { program := "ytpdkcpjofofkoaadoor", sum := "3a1115d55ae78684272a0c83709b54990f954a12bcfc9e7504b7a9c7de47183b", func := "hypocaust/hypocaustlaw13.RecBounds", spec := "recBounds", unfollowed := true, recurses := true, named := ["hypocaust/rec.shapes"], apart := false, laid := [("hypocaust/rec.shapes", laid_hypocaust_rec_shapes)], narrowed := true }
def RecBoundsUptoSaid : Prop := recBoundsUptoRow.holds Tryd.pinned (OpenSpec.upto recBoundsSpec)

/-- 'hypocaustlaw13.RecCodes', WHERE WHAT IT READS IS OF BULK AT MOST 1048576: true; the input reads as it did. -/
def recCodesUptoRow : OpenClaim := { program := "ytpdkcpjofofkoaadoor", sum := "3a1115d55ae78684272a0c83709b54990f954a12bcfc9e7504b7a9c7de47183b", func := "hypocaust/hypocaustlaw13.RecCodes", spec := "recCodes", unfollowed := true, recurses := true, named := ["hypocaust/rec.shapes"], apart := false, laid := [("hypocaust/rec.shapes", laid_hypocaust_rec_shapes)], narrowed := true }
def RecCodesUptoSaid : Prop := recCodesUptoRow.holds Tryd.pinned (OpenSpec.upto recCodesSpec)

/-- 'hypocaustlaw13.RecReads', WHERE WHAT IT READS IS OF BULK AT MOST 1048576: true; the input reads as it did. -/
def recReadsUptoRow : OpenClaim := { program := "ytpdkcpjofofkoaadoor", sum := "3a1115d55ae78684272a0c83709b54990f954a12bcfc9e7504b7a9c7de47183b", func := "hypocaust/hypocaustlaw13.RecReads", spec := "recReads", unfollowed := true, recurses := true, named := ["hypocaust/rec.shapes"], apart := false, laid := [("hypocaust/rec.shapes", laid_hypocaust_rec_shapes)], narrowed := true }
def RecReadsUptoSaid : Prop := recReadsUptoRow.holds Tryd.pinned (OpenSpec.upto recReadsSpec)

/-- 'hypocaustlaw13.RecOne', WHERE WHAT IT READS IS OF BULK AT MOST 1048576: true; the input reads as it did. -/
def recOneUptoRow : OpenClaim := { program := "ytpdkcpjofofkoaadoor", sum := "3a1115d55ae78684272a0c83709b54990f954a12bcfc9e7504b7a9c7de47183b", func := "hypocaust/hypocaustlaw13.RecOne", spec := "recOne", unfollowed := true, recurses := true, named := ["hypocaust/rec.shapes"], apart := false, laid := [("hypocaust/rec.shapes", laid_hypocaust_rec_shapes)], narrowed := true }
def RecOneUptoSaid : Prop := recOneUptoRow.holds Tryd.pinned (OpenSpec.upto recOneSpec)

end Rows
end Go.Proofs.YtpdkcpjofofkoaaDoor
