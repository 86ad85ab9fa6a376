/- A record in a block of its own. -/
import Derived.Test.YtpdkcpjofofkoaaDoorRcRs
import Derived.Test.YtpdkcpjofofkoaaDoorRcRead1
set_option maxRecDepth 100000
namespace Go.Proofs.YtpdkcpjofofkoaaDoor
open Go.RowKit
/-- A record in a block of its own. -/
def RB (w : World) (p : Nat) (r : Rc) (sv lv : Value) : Prop := w.heap[p]? = some (.cells (rcellsL r sv lv) 27 (0, 0))
section
variable {w w' : World} {p : Nat} {r : Rc} {sv lv : Value}
theorem RB.lt (h : RB w p r sv lv) : p < w.heap.size := (Array.getElem?_eq_some_iff.1 h).1
theorem RB.up {S : Nat → Prop} (h : RB w p r sv lv) (u : Up S w w') (hs : ¬ S p) : RB w' p r sv lv := (u.block p h.lt hs).trans h
theorem RB.nxt (h : RB w p r sv lv) (u : Up Nul w w') : RB w' p r sv lv := h.up u id
theorem RB.new (w : World) (r : Rc) (sv lv : Value) : RB (w.alloc (.cells (rcellsL r sv lv) 27)) w.heap.size r sv lv := heap_alloc_new _ _
theorem RB.cells (h : RB w p r sv lv) : w.cell? ⟨p, 0, none⟩ = some (.int .i64 r.kind) ∧ w.cell? ⟨p, 1, none⟩ = some (.string r.key) ∧ w.cell? ⟨p, 2, none⟩ = some (.int .i64 r.n) ∧ w.cell? ⟨p, 3, none⟩ = some (.int .i64 r.sid) ∧ w.cell? ⟨p, 4, none⟩ = some (sv) ∧ w.cell? ⟨p, 5, none⟩ = some (.int .i64 r.colour) ∧ w.cell? ⟨p, 6, none⟩ = some (lv) ∧ w.cell? ⟨p, 7, none⟩ = some (.int .i64 r.t.hot) ∧ w.cell? ⟨p, 8, none⟩ = some (.int .i64 r.t.warm) ∧ w.cell? ⟨p, 9, none⟩ = some (.int .i64 r.t.gap) ∧ w.cell? ⟨p, 10, none⟩ = some (.int .i64 r.t.add) ∧ w.cell? ⟨p, 11, none⟩ = some (.int .i64 r.t.top) ∧ w.cell? ⟨p, 12, none⟩ = some (.int .i64 r.t.half) := by
  have a : w.heap[p]? = _ := h
  simp only [World.cell?, a]
  exact ⟨rfl, rfl, rfl, rfl, rfl, rfl, rfl, rfl, rfl, rfl, rfl, rfl, rfl⟩
theorem RB.froz (h : RB w p r sv lv) (i : Nat) : w.frozen? ⟨p, i, none⟩ = false := by
  have a : w.heap[p]? = _ := h
  simp [World.frozen?, a]
theorem RB.set (h : RB w p r sv lv) (i : Nat) (v : Value) {r' : Rc} {sv' lv' : Value} (e : (rcellsL r sv lv).setIfInBounds i v = rcellsL r' sv' lv') : RB (w.setCell ⟨p, i, none⟩ v) p r' sv' lv' := by
  have := heap_set_same h i v
  rw [e] at this
  exact this
end
end Go.Proofs.YtpdkcpjofofkoaaDoor
