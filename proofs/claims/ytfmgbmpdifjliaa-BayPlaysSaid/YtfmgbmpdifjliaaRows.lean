/-
  No cell of these rows narrows 'for every input' (looked for: loops, veiled, ifaces, maps, wideKeys, modest, calm, conditions, laid).
  DERIVED. THE GIVEN ROWS OF THIS SEAT. 5 by the template 'for every input the law returns true; each argument reads behind the call as it read before'; 0 by the template 'total and deterministic' (their statements: YtfmgbmpdifjliaaTotals.lean).
  GIVEN WITH THE SEED: the statements are not yours to turn. If you find one false, say at which input.
  Laid BY PROGRAM, IN A SANDBOX (cutbox-rows.mjs): the forced cells as the released guide's own fill.sh prints them over the translation 0247b42f26a94bd3… (all of the seat's roots in one cut). By AI agents, Wed Nov 11 2026. No macro, syntax, notation, axiom, sorry.
-/
import Derived.Test.YtfmgbmpdifjliaaChecked
import GoSem.Claim
import GoSem.ClaimJoined
import GoSem.ClaimMapViews
import Derived.JoinedTies
import Derived.KernelRfl
namespace Go.Proofs.Ytfmgbmpdifjliaa
/- THE CELL 'sum', in the pinned program and in every row, IS THE sha256 OF THE DUMP (.gsa) THAT YtfmgbmpdifjliaaProg.lean LOADS. Nothing in Lean hashes anything: it is a label: what it is worth is what the hold of that sum in a sandbox is worth. -/
noncomputable def Try.pinned : Pinned := { name := "ytfmgbmpdifjliaa", sum := "0247b42f26a94bd3e8c37fef35b6ecfa167d6307b0746896c59e17dfdae26703", checked := Try.checked }
namespace Rows
def none {H : Type} : Left H := { results := [], args := [] }

/-- 'hypocaustlaw9.BayScans': WHATEVER THE INPUT: true; the input reads as it did. -/
def bayScansSpec : ChangeSpec := { name := "bayScans", fn := fun _ => fun
  | [d1, d2, d3] => { results := [.lit (.bool true)], args := [d1, d2, d3] }
  | _ => none }
def bayScansRow : OpenClaim := { program := "ytfmgbmpdifjliaa", sum := "0247b42f26a94bd3e8c37fef35b6ecfa167d6307b0746896c59e17dfdae26703", func := "hypocaust/hypocaustlaw9.BayScans", spec := "bayScans", apart := false }
def BayScansSaid : Prop := bayScansRow.holds Try.pinned (OpenSpec.ofChange bayScansSpec)

/-- ITS FALSE NEIGHBOUR: 'it returns false'. Refute it at one input. -/
def bayScansWrong : ChangeSpec := { name := "bayScans", fn := fun _ => fun
  | [d1, d2, d3] => { results := [.lit (.bool false)], args := [d1, d2, d3] }
  | _ => none }
def BayScansWrongFalsely : Prop := bayScansRow.holds Try.pinned (OpenSpec.ofChange bayScansWrong)

/-- 'hypocaustlaw9.BayHolds': WHATEVER THE INPUT: true; the input reads as it did. -/
def bayHoldsSpec : ChangeSpec := { name := "bayHolds", fn := fun _ => fun
  | [d] => { results := [.lit (.bool true)], args := [d] }
  | _ => none }
def bayHoldsRow : OpenClaim := { program := "ytfmgbmpdifjliaa", sum := "0247b42f26a94bd3e8c37fef35b6ecfa167d6307b0746896c59e17dfdae26703", func := "hypocaust/hypocaustlaw9.BayHolds", spec := "bayHolds", apart := false }
def BayHoldsSaid : Prop := bayHoldsRow.holds Try.pinned (OpenSpec.ofChange bayHoldsSpec)

/-- ITS FALSE NEIGHBOUR: 'it returns false'. Refute it at one input. -/
def bayHoldsWrong : ChangeSpec := { name := "bayHolds", fn := fun _ => fun
  | [d] => { results := [.lit (.bool false)], args := [d] }
  | _ => none }
def BayHoldsWrongFalsely : Prop := bayHoldsRow.holds Try.pinned (OpenSpec.ofChange bayHoldsWrong)

/-- 'hypocaustlaw9.BayPlays': WHATEVER THE INPUT: true; the input reads as it did. -/
def bayPlaysSpec : ChangeSpec := { name := "bayPlays", fn := fun _ => fun
  | [d1, d2] => { results := [.lit (.bool true)], args := [d1, d2] }
  | _ => none }
def bayPlaysRow : OpenClaim := { program := "ytfmgbmpdifjliaa", sum := "0247b42f26a94bd3e8c37fef35b6ecfa167d6307b0746896c59e17dfdae26703", func := "hypocaust/hypocaustlaw9.BayPlays", spec := "bayPlays", apart := false }
def BayPlaysSaid : Prop := bayPlaysRow.holds Try.pinned (OpenSpec.ofChange bayPlaysSpec)

/-- ITS FALSE NEIGHBOUR: 'it returns false'. Refute it at one input. -/
def bayPlaysWrong : ChangeSpec := { name := "bayPlays", fn := fun _ => fun
  | [d1, d2] => { results := [.lit (.bool false)], args := [d1, d2] }
  | _ => none }
def BayPlaysWrongFalsely : Prop := bayPlaysRow.holds Try.pinned (OpenSpec.ofChange bayPlaysWrong)

/-- 'hypocaustlaw9.BayTakes': WHATEVER THE INPUT: true; the input reads as it did. -/
def bayTakesSpec : ChangeSpec := { name := "bayTakes", fn := fun _ => fun
  | [d1, d2] => { results := [.lit (.bool true)], args := [d1, d2] }
  | _ => none }
def bayTakesRow : OpenClaim := { program := "ytfmgbmpdifjliaa", sum := "0247b42f26a94bd3e8c37fef35b6ecfa167d6307b0746896c59e17dfdae26703", func := "hypocaust/hypocaustlaw9.BayTakes", spec := "bayTakes", apart := false }
def BayTakesSaid : Prop := bayTakesRow.holds Try.pinned (OpenSpec.ofChange bayTakesSpec)

/-- ITS FALSE NEIGHBOUR: 'it returns false'. Refute it at one input. -/
def bayTakesWrong : ChangeSpec := { name := "bayTakes", fn := fun _ => fun
  | [d1, d2] => { results := [.lit (.bool false)], args := [d1, d2] }
  | _ => none }
def BayTakesWrongFalsely : Prop := bayTakesRow.holds Try.pinned (OpenSpec.ofChange bayTakesWrong)

/-- 'hypocaustlaw9.BayReads': WHATEVER THE INPUT: true; the input reads as it did. -/
def bayReadsSpec : ChangeSpec := { name := "bayReads", fn := fun _ => fun
  | [d1, d2, d3, d4, d5] => { results := [.lit (.bool true)], args := [d1, d2, d3, d4, d5] }
  | _ => none }
def bayReadsRow : OpenClaim := { program := "ytfmgbmpdifjliaa", sum := "0247b42f26a94bd3e8c37fef35b6ecfa167d6307b0746896c59e17dfdae26703", func := "hypocaust/hypocaustlaw9.BayReads", spec := "bayReads", apart := false }
def BayReadsSaid : Prop := bayReadsRow.holds Try.pinned (OpenSpec.ofChange bayReadsSpec)

/-- ITS FALSE NEIGHBOUR: 'it returns false'. Refute it at one input. -/
def bayReadsWrong : ChangeSpec := { name := "bayReads", fn := fun _ => fun
  | [d1, d2, d3, d4, d5] => { results := [.lit (.bool false)], args := [d1, d2, d3, d4, d5] }
  | _ => none }
def BayReadsWrongFalsely : Prop := bayReadsRow.holds Try.pinned (OpenSpec.ofChange bayReadsWrong)

/- THE SECOND FORM. 'bulk': how many values and letters a reading holds, each counted each time it is reached (what is shared counts as often as it is met; a slice's spare places count too). A statement '..UptoSaid' is the law's where the arguments, and the package variables that the reading takes, are together of bulk at most 1048576: NARROWER than '..Said'. Prove '..Said' where nothing that the law and all that it calls make is longer than what came in: it says more and counts as full. Else prove '..UptoSaid'. A law counts once. -/
mutual
def uptoBulk {H : Type} : DataW H → Nat
  | .lit (.string bytes) => bytes.length + 1
  | .lit _ => 1
  | .nil => 1
  | .ptr d => uptoBulk d + 1
  | .slice elems spare => uptoBulkAll elems + uptoBulkAll spare + 1
  | .agg parts => uptoBulkAll parts + 1
  | .iface _ d => uptoBulk d + 1
  | .map entries => uptoBulkEntries entries + 1
  | .held _ => 1
def uptoBulkAll {H : Type} : List (DataW H) → Nat
  | [] => 0
  | d :: r => uptoBulk d + uptoBulkAll r
def uptoBulkEntries {H : Type} : List (Lit × DataW H) → Nat
  | [] => 0
  | x :: r => uptoBulkEntry x + uptoBulkEntries r
def uptoBulkEntry {H : Type} : Lit × DataW H → Nat
  | (.string bytes, d) => bytes.length + uptoBulk d + 1
  | (_, d) => uptoBulk d + 1
 end
def uptoSmall : (H : Type) → List (DataW H) → Bool := fun _ ds => decide (uptoBulkAll ds ≤ 1048576)
def OpenSpec.upto (s : _root_.Go.ChangeSpec) : _root_.Go.OpenSpec := { _root_.Go.OpenSpec.ofChange s with cond := some uptoSmall }

/-- 'hypocaustlaw9.BayScans', WHERE WHAT IT READS IS OF BULK AT MOST 1048576: true; the input reads as it did. -/
def bayScansUptoRow : OpenClaim := { program := "ytfmgbmpdifjliaa", sum := "0247b42f26a94bd3e8c37fef35b6ecfa167d6307b0746896c59e17dfdae26703", func := "hypocaust/hypocaustlaw9.BayScans", spec := "bayScans", apart := false, narrowed := true }
def BayScansUptoSaid : Prop := bayScansUptoRow.holds Try.pinned (OpenSpec.upto bayScansSpec)

/-- 'hypocaustlaw9.BayHolds', WHERE WHAT IT READS IS OF BULK AT MOST 1048576: true; the input reads as it did. -/
def bayHoldsUptoRow : OpenClaim := { program := "ytfmgbmpdifjliaa", sum := "0247b42f26a94bd3e8c37fef35b6ecfa167d6307b0746896c59e17dfdae26703", func := "hypocaust/hypocaustlaw9.BayHolds", spec := "bayHolds", apart := false, narrowed := true }
def BayHoldsUptoSaid : Prop := bayHoldsUptoRow.holds Try.pinned (OpenSpec.upto bayHoldsSpec)

/-- 'hypocaustlaw9.BayPlays', WHERE WHAT IT READS IS OF BULK AT MOST 1048576: true; the input reads as it did. -/
def bayPlaysUptoRow : OpenClaim := { program := "ytfmgbmpdifjliaa", sum := "0247b42f26a94bd3e8c37fef35b6ecfa167d6307b0746896c59e17dfdae26703", func := "hypocaust/hypocaustlaw9.BayPlays", spec := "bayPlays", apart := false, narrowed := true }
def BayPlaysUptoSaid : Prop := bayPlaysUptoRow.holds Try.pinned (OpenSpec.upto bayPlaysSpec)

/-- 'hypocaustlaw9.BayTakes', WHERE WHAT IT READS IS OF BULK AT MOST 1048576: true; the input reads as it did. -/
def bayTakesUptoRow : OpenClaim := { program := "ytfmgbmpdifjliaa", sum := "0247b42f26a94bd3e8c37fef35b6ecfa167d6307b0746896c59e17dfdae26703", func := "hypocaust/hypocaustlaw9.BayTakes", spec := "bayTakes", apart := false, narrowed := true }
def BayTakesUptoSaid : Prop := bayTakesUptoRow.holds Try.pinned (OpenSpec.upto bayTakesSpec)

/-- 'hypocaustlaw9.BayReads', WHERE WHAT IT READS IS OF BULK AT MOST 1048576: true; the input reads as it did. -/
def bayReadsUptoRow : OpenClaim := { program := "ytfmgbmpdifjliaa", sum := "0247b42f26a94bd3e8c37fef35b6ecfa167d6307b0746896c59e17dfdae26703", func := "hypocaust/hypocaustlaw9.BayReads", spec := "bayReads", apart := false, narrowed := true }
def BayReadsUptoSaid : Prop := bayReadsUptoRow.holds Try.pinned (OpenSpec.upto bayReadsSpec)

end Rows
end Go.Proofs.Ytfmgbmpdifjliaa
