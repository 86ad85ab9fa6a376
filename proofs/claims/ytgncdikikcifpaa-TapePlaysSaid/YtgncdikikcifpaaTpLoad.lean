/- One call of a script of stage 11, copied out. -/
import Derived.Test.YtgncdikikcifpaaTpArg
import Derived.Test.YtgncdikikcifpaaTpBoth
namespace Go.Proofs.Ytgncdikikcifpaa
open Go.RowKit
set_option linter.unusedVariables false

/-- The three cells of a call. -/
def tcs (v : TOp) : List Value := [.int .i64 v.kind, .int .i64 v.n, .slice v.ba v.bl v.bc]
/-- A call in a block of its own. -/
structure TpB (W : World) (q : Nat) (v : TOp) : Prop where
  heap : W.heap[q]? = some (.cells (tcs v).toArray 42 (0, 0))
section
variable {W W' : World} {q : Nat} {v : TOp}
theorem TpB.c0 (h : TpB W q v) : W.cell? ⟨q, 0, none⟩ = some (.int .i64 v.kind) := by simp [World.cell?, h.heap, tcs]
theorem TpB.c1 (h : TpB W q v) : W.cell? ⟨q, 1, none⟩ = some (.int .i64 v.n) := by simp [World.cell?, h.heap, tcs]
theorem TpB.c2 (h : TpB W q v) : W.cell? ⟨q, 2, none⟩ = some (.slice v.ba v.bl v.bc) := by simp [World.cell?, h.heap, tcs]
theorem TpB.tp (h : TpB W q v) (k : Tp (One q) W W') : TpB W' q v := ⟨(k.2 q rfl).trans h.heap⟩
theorem TpB.new (W : World) (v : TOp) : TpB (W.alloc (.cells (tcs v).toArray 42)) W.heap.size v := ⟨heap_alloc_new _ _⟩
end
theorem tcs_length (v : TOp) : (tcs v).length = 3 := rfl
theorem one_tcs (v : TOp) : ∀ x ∈ tcs v, x.oneCell' = true := by
  intro x hx
  simp only [tcs, List.mem_cons, List.not_mem_nil, or_false] at hx
  rcases hx with rfl | rfl | rfl <;> rfl
theorem info_top : (Try.prog.info? 42).map (·.size) = some 3 := by kernel_rfl
theorem zero_top : ∃ Z : Array Value, Z.size = 3 ∧ ∀ W, (zeroValue 42).run Try.prog W = .ok (.agg Z) W := by
  have h : (Try.prog.info? 42).map (fun i => i.zero.map fun z => match z with | .agg Z => some Z.size | _ => none) = some (some (some 3)) := by kernel_rfl
  cases e : Try.prog.info? 42 with
  | none => rw [e] at h; cases h
  | some i =>
    rw [e] at h
    simp only [Option.map_some, Option.some.injEq, Option.map_eq_some_iff] at h
    obtain ⟨z, h1, h2⟩ := h
    cases z with
    | agg Z => exact ⟨Z, by simpa using h2, fun W => by simp [zeroValue, typeInfo, e, h1]⟩
    | _ => simp at h2
end Go.Proofs.Ytgncdikikcifpaa
