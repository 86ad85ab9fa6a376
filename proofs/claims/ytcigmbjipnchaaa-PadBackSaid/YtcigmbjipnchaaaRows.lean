/-
  No cell of these rows narrows 'for every input' (looked for: loops, veiled, ifaces, maps, wideKeys, modest, calm, conditions, laid).
  DERIVED. THE GIVEN ROWS OF THIS SEAT. 4 by the template 'for every input the law returns true; each argument reads behind the call as it read before'; 0 by the template 'total and deterministic' (their statements: YtcigmbjipnchaaaTotals.lean).
  GIVEN WITH THE SEED: the statements are not yours to turn. If you find one false, say at which input.
  Laid BY PROGRAM, IN A SANDBOX (cutbox-rows.mjs): the forced cells as the released guide's own fill.sh prints them over the translation 99c10afa658acaa9… (all of the seat's roots in one cut). By AI agents, Wed Nov 11 2026. No macro, syntax, notation, axiom, sorry.
-/
import Derived.Test.YtcigmbjipnchaaaChecked
import GoSem.Claim
import GoSem.ClaimJoined
import GoSem.ClaimMapViews
import Derived.JoinedTies
import Derived.KernelRfl
namespace Go.Proofs.Ytcigmbjipnchaaa
/- THE CELL 'sum', in the pinned program and in every row, IS THE sha256 OF THE DUMP (.gsa) THAT YtcigmbjipnchaaaProg.lean LOADS. Nothing in Lean hashes anything: it is a label: what it is worth is what the hold of that sum in a sandbox is worth. -/
noncomputable def Try.pinned : Pinned := { name := "ytcigmbjipnchaaa", sum := "99c10afa658acaa91e1adb2c2083c865572cd75dde5e1d4b8aed50a161d1bb30", checked := Try.checked }
namespace Rows
def none {H : Type} : Left H := { results := [], args := [] }

/-- 'hypocaustlaw6.PadBack': WHATEVER THE INPUT: true; the input reads as it did. -/
def padBackSpec : ChangeSpec := { name := "padBack", fn := fun _ => fun
  | [d1, d2, d3, d4, d5] => { results := [.lit (.bool true)], args := [d1, d2, d3, d4, d5] }
  | _ => none }
def padBackRow : OpenClaim := { program := "ytcigmbjipnchaaa", sum := "99c10afa658acaa91e1adb2c2083c865572cd75dde5e1d4b8aed50a161d1bb30", func := "hypocaust/hypocaustlaw6.PadBack", spec := "padBack", unfollowed := true, recurses := true, apart := false }
def PadBackSaid : Prop := padBackRow.holds Try.pinned (OpenSpec.ofChange padBackSpec)

/-- ITS FALSE NEIGHBOUR: 'it returns false'. Refute it at one input. -/
def padBackWrong : ChangeSpec := { name := "padBack", fn := fun _ => fun
  | [d1, d2, d3, d4, d5] => { results := [.lit (.bool false)], args := [d1, d2, d3, d4, d5] }
  | _ => none }
def PadBackWrongFalsely : Prop := padBackRow.holds Try.pinned (OpenSpec.ofChange padBackWrong)

/-- 'hypocaustlaw6.PadTells': WHATEVER THE INPUT: true; the input reads as it did. -/
def padTellsSpec : ChangeSpec := { name := "padTells", fn := fun _ => fun
  | [d1, d2] => { results := [.lit (.bool true)], args := [d1, d2] }
  | _ => none }
def padTellsRow : OpenClaim := { program := "ytcigmbjipnchaaa", sum := "99c10afa658acaa91e1adb2c2083c865572cd75dde5e1d4b8aed50a161d1bb30", func := "hypocaust/hypocaustlaw6.PadTells", spec := "padTells", unfollowed := true, recurses := true, apart := false }
def PadTellsSaid : Prop := padTellsRow.holds Try.pinned (OpenSpec.ofChange padTellsSpec)

/-- ITS FALSE NEIGHBOUR: 'it returns false'. Refute it at one input. -/
def padTellsWrong : ChangeSpec := { name := "padTells", fn := fun _ => fun
  | [d1, d2] => { results := [.lit (.bool false)], args := [d1, d2] }
  | _ => none }
def PadTellsWrongFalsely : Prop := padTellsRow.holds Try.pinned (OpenSpec.ofChange padTellsWrong)

/-- 'hypocaustlaw6.PadParts': WHATEVER THE INPUT: true; the input reads as it did. -/
def padPartsSpec : ChangeSpec := { name := "padParts", fn := fun _ => fun
  | [d1, d2, d3] => { results := [.lit (.bool true)], args := [d1, d2, d3] }
  | _ => none }
def padPartsRow : OpenClaim := { program := "ytcigmbjipnchaaa", sum := "99c10afa658acaa91e1adb2c2083c865572cd75dde5e1d4b8aed50a161d1bb30", func := "hypocaust/hypocaustlaw6.PadParts", spec := "padParts", unfollowed := true, recurses := true, apart := false }
def PadPartsSaid : Prop := padPartsRow.holds Try.pinned (OpenSpec.ofChange padPartsSpec)

/-- ITS FALSE NEIGHBOUR: 'it returns false'. Refute it at one input. -/
def padPartsWrong : ChangeSpec := { name := "padParts", fn := fun _ => fun
  | [d1, d2, d3] => { results := [.lit (.bool false)], args := [d1, d2, d3] }
  | _ => none }
def PadPartsWrongFalsely : Prop := padPartsRow.holds Try.pinned (OpenSpec.ofChange padPartsWrong)

/-- 'hypocaustlaw6.PadJoins': WHATEVER THE INPUT: true; the input reads as it did. -/
def padJoinsSpec : ChangeSpec := { name := "padJoins", fn := fun _ => fun
  | [d1, d2] => { results := [.lit (.bool true)], args := [d1, d2] }
  | _ => none }
def padJoinsRow : OpenClaim := { program := "ytcigmbjipnchaaa", sum := "99c10afa658acaa91e1adb2c2083c865572cd75dde5e1d4b8aed50a161d1bb30", func := "hypocaust/hypocaustlaw6.PadJoins", spec := "padJoins", unfollowed := true, recurses := true, apart := false }
def PadJoinsSaid : Prop := padJoinsRow.holds Try.pinned (OpenSpec.ofChange padJoinsSpec)

/-- ITS FALSE NEIGHBOUR: 'it returns false'. Refute it at one input. -/
def padJoinsWrong : ChangeSpec := { name := "padJoins", fn := fun _ => fun
  | [d1, d2] => { results := [.lit (.bool false)], args := [d1, d2] }
  | _ => none }
def PadJoinsWrongFalsely : Prop := padJoinsRow.holds Try.pinned (OpenSpec.ofChange padJoinsWrong)

/- THE SECOND FORM. 'bulk': how many values and letters a reading holds, each counted each time it is reached (what is shared counts as often as it is met; a slice's spare places count too). A statement '..UptoSaid' is the law's where the arguments, and the package variables that the reading takes, are together of bulk at most 1048576: NARROWER than '..Said'. Prove '..Said' where nothing that the law and all that it calls make is longer than what came in: it says more and counts as full. Else prove '..UptoSaid'. A law counts once. -/
mutual
def uptoBulk {H : Type} : DataW H → Nat
  | .lit (.string bytes) => bytes.length + 1
  | .lit _ => 1
  | .nil => 1
  | .ptr d => uptoBulk d + 1
  | .slice elems spare => uptoBulkAll elems + uptoBulkAll spare + 1
  | .agg parts => uptoBulkAll parts + 1
  | .iface _ d => uptoBulk d + 1
  | .map entries => uptoBulkEntries entries + 1
  | .held _ => 1
def uptoBulkAll {H : Type} : List (DataW H) → Nat
  | [] => 0
  | d :: r => uptoBulk d + uptoBulkAll r
def uptoBulkEntries {H : Type} : List (Lit × DataW H) → Nat
  | [] => 0
  | x :: r => uptoBulkEntry x + uptoBulkEntries r
def uptoBulkEntry {H : Type} : Lit × DataW H → Nat
  | (.string bytes, d) => bytes.length + uptoBulk d + 1
  | (_, d) => uptoBulk d + 1
 end
def uptoSmall : (H : Type) → List (DataW H) → Bool := fun _ ds => decide (uptoBulkAll ds ≤ 1048576)
def OpenSpec.upto (s : _root_.Go.ChangeSpec) : _root_.Go.OpenSpec := { _root_.Go.OpenSpec.ofChange s with cond := some uptoSmall }

/-- 'hypocaustlaw6.PadBack', WHERE WHAT IT READS IS OF BULK AT MOST 1048576: true; the input reads as it did. -/
def padBackUptoRow : OpenClaim := { program := "ytcigmbjipnchaaa", sum := "99c10afa658acaa91e1adb2c2083c865572cd75dde5e1d4b8aed50a161d1bb30", func := "hypocaust/hypocaustlaw6.PadBack", spec := "padBack", unfollowed := true, recurses := true, apart := false, narrowed := true }
def PadBackUptoSaid : Prop := padBackUptoRow.holds Try.pinned (OpenSpec.upto padBackSpec)

/-- 'hypocaustlaw6.PadTells', WHERE WHAT IT READS IS OF BULK AT MOST 1048576: true; the input reads as it did. -/
def padTellsUptoRow : OpenClaim := { program := "ytcigmbjipnchaaa", sum := "99c10afa658acaa91e1adb2c2083c865572cd75dde5e1d4b8aed50a161d1bb30", func := "hypocaust/hypocaustlaw6.PadTells", spec := "padTells", unfollowed := true, recurses := true, apart := false, narrowed := true }
def PadTellsUptoSaid : Prop := padTellsUptoRow.holds Try.pinned (OpenSpec.upto padTellsSpec)

/-- 'hypocaustlaw6.PadParts', WHERE WHAT IT READS IS OF BULK AT MOST 1048576: true; the input reads as it did. -/
def padPartsUptoRow : OpenClaim := { program := "ytcigmbjipnchaaa", sum := "99c10afa658acaa91e1adb2c2083c865572cd75dde5e1d4b8aed50a161d1bb30", func := "hypocaust/hypocaustlaw6.PadParts", spec := "padParts", unfollowed := true, recurses := true, apart := false, narrowed := true }
def PadPartsUptoSaid : Prop := padPartsUptoRow.holds Try.pinned (OpenSpec.upto padPartsSpec)

/-- 'hypocaustlaw6.PadJoins', WHERE WHAT IT READS IS OF BULK AT MOST 1048576: true; the input reads as it did. -/
def padJoinsUptoRow : OpenClaim := { program := "ytcigmbjipnchaaa", sum := "99c10afa658acaa91e1adb2c2083c865572cd75dde5e1d4b8aed50a161d1bb30", func := "hypocaust/hypocaustlaw6.PadJoins", spec := "padJoins", unfollowed := true, recurses := true, apart := false, narrowed := true }
def PadJoinsUptoSaid : Prop := padJoinsUptoRow.holds Try.pinned (OpenSpec.upto padJoinsSpec)

end Rows
end Go.Proofs.Ytcigmbjipnchaaa
