/- A Field in memory: block b has its 515 cells; what may turn while tables are made, and what stays. -/
import Derived.Test.YtebglmfdchfplaaGfMath
import Derived.WalkKit
import Derived.WalkSpells
namespace Go.Proofs.Ytebglmfdchfplaa
open Go.RowKit

/-- Outside block b the world is as it was. -/
structure Out (b : Nat) (w w' : World) : Prop where
  os : w'.os = w.os
  tape : w'.tape = w.tape
  output : w'.output = w.output
  size : w'.heap.size = w.heap.size
  block : ∀ k, k ≠ b → w'.heap[k]? = w.heap[k]?
  frozen : ∀ j, w'.frozen? ⟨b, j, none⟩ = w.frozen? ⟨b, j, none⟩

theorem Out.refl (b : Nat) (w : World) : Out b w w := ⟨rfl, rfl, rfl, rfl, fun _ _ => rfl, fun _ => rfl⟩
theorem Out.trans {b : Nat} {u v w : World} (h : Out b u v) (k : Out b v w) : Out b u w :=
  ⟨k.os.trans h.os, k.tape.trans h.tape, k.output.trans h.output, k.size.trans h.size, fun i hi => (k.block i hi).trans (h.block i hi), fun j => (k.frozen j).trans (h.frozen j)⟩
theorem Out.drew {b : Nat} {u w : World} (h : Out b u w) : Out b u w.drew := ⟨h.os, h.tape, h.output, h.size, h.block, h.frozen⟩
theorem Out.setCell {b : Nat} {u w : World} (h : Out b u w) (j : Nat) (v : Value) : Out b u (w.setCell ⟨b, j, none⟩ v) :=
  h.trans ⟨rfl, rfl, rfl, by simp [World.setCell], fun k hk => Below.heap_setCell _ _ _ _ hk, fun _ => by simp⟩
theorem Out.cell {b : Nat} {w w' : World} (h : Out b w w') {p : Addr} (hp : p.block ≠ b) : w'.cell? p = w.cell? p := World.cell?_of_block (w := w) (h.block p.block hp)
theorem Out.froz {b : Nat} {w w' : World} (h : Out b w w') {p : Addr} (hp : p.block ≠ b) : w'.frozen? p = w.frozen? p := World.frozen?_of_block (w := w) (h.block p.block hp)
theorem Out.below {b B : Nat} {w w' : World} (h : Out b w w') (hB : B ≤ b) : Below B w w' :=
  ⟨h.os, h.tape, h.output, by rw [h.size]; exact Nat.le_refl _, fun k hk => h.block k (by omega)⟩

/-- All cells of a Field are there, none is frozen. -/
structure Raw (b : Nat) (w : World) : Prop where
  lt : b < w.heap.size
  cells : ∀ j, j < 515 → ∃ v, w.cell? ⟨b, j, none⟩ = some v
  fr : ∀ j, w.frozen? ⟨b, j, none⟩ = false
theorem Raw.setCell {b : Nat} {w : World} (h : Raw b w) (j : Nat) (v : Value) : Raw b (w.setCell ⟨b, j, none⟩ v) :=
  ⟨by simpa [World.setCell] using h.lt, fun i hi => by
    obtain ⟨u, hu⟩ := h.cells i hi
    exact cell?_setCell_some hu, fun i => by simp [h.fr i]⟩
theorem Raw.drew {b : Nat} {w : World} (h : Raw b w) : Raw b w.drew := ⟨h.lt, h.cells, h.fr⟩

/-- The tables are there: the powers, and the logarithms. -/
structure Tabs (b : Nat) (w : World) : Prop where
  ex : ∀ j, j < 255 → w.cell? ⟨b, 4 + j, none⟩ = some (.int .u8 (GfM.gexp j))
  lg : ∀ j, j < 255 → w.cell? ⟨b, 259 + GfM.gexp j, none⟩ = some (.int .u8 j)

/-- A Field that is new. -/
structure Fresh (b : Nat) (w : World) : Prop where
  raw : Raw b w
  lock : w.cell? ⟨b, 1, none⟩ = some (.int .i32 0)
  done : w.cell? ⟨b, 0, none⟩ = some (.int .u32 0)
  made : w.cell? ⟨b, 3, none⟩ = some (.int .i32 0)
/-- A Field with its tables. -/
structure Full (b : Nat) (w : World) : Prop where
  raw : Raw b w
  lock : w.cell? ⟨b, 1, none⟩ = some (.int .i32 0)
  done : w.cell? ⟨b, 0, none⟩ = some (.int .u32 1)
  made : w.cell? ⟨b, 3, none⟩ = some (.int .i32 1)
  tabs : Tabs b w
/-- A Field as it is between two calls: new, or with its tables. -/
def Fld (b : Nat) (w : World) : Prop := Fresh b w ∨ Full b w

theorem Raw.of_out {b c : Nat} {w w' : World} (h : Raw b w) (o : Out c w w') (hn : b ≠ c) : Raw b w' :=
  ⟨by rw [o.size]; exact h.lt, fun j hj => by rw [o.cell hn]; exact h.cells j hj, fun j => by rw [o.froz hn]; exact h.fr j⟩
theorem Tabs.of_out {b c : Nat} {w w' : World} (h : Tabs b w) (o : Out c w w') (hn : b ≠ c) : Tabs b w' :=
  ⟨fun j hj => by rw [o.cell hn]; exact h.ex j hj, fun j hj => by rw [o.cell hn]; exact h.lg j hj⟩
theorem Fld.of_out {b c : Nat} {w w' : World} (h : Fld b w) (o : Out c w w') (hn : b ≠ c) : Fld b w' := by
  rcases h with h | h
  · exact .inl ⟨h.raw.of_out o hn, by rw [o.cell hn]; exact h.lock, by rw [o.cell hn]; exact h.done, by rw [o.cell hn]; exact h.made⟩
  · exact .inr ⟨h.raw.of_out o hn, by rw [o.cell hn]; exact h.lock, by rw [o.cell hn]; exact h.done, by rw [o.cell hn]; exact h.made, h.tabs.of_out o hn⟩
/-- A new block leaves what was there. -/
theorem Raw.alloc {b : Nat} {w : World} (h : Raw b w) (o : Obj) : Raw b (w.alloc o) :=
  ⟨by have := h.lt; simp; omega, fun j hj => by rw [World.cell?_alloc_past _ _ _ h.lt]; exact h.cells j hj, fun j => by rw [World.frozen?_alloc_past _ _ _ h.lt]; exact h.fr j⟩
theorem Fld.alloc {b : Nat} {w : World} (h : Fld b w) (o : Obj) : Fld b (w.alloc o) := by
  rcases h with h | h
  · have hl := h.raw.lt
    exact .inl ⟨h.raw.alloc o, by rw [World.cell?_alloc_past _ _ _ hl]; exact h.lock, by rw [World.cell?_alloc_past _ _ _ hl]; exact h.done, by rw [World.cell?_alloc_past _ _ _ hl]; exact h.made⟩
  · have hl := h.raw.lt
    exact .inr ⟨h.raw.alloc o, by rw [World.cell?_alloc_past _ _ _ hl]; exact h.lock, by rw [World.cell?_alloc_past _ _ _ hl]; exact h.done, by rw [World.cell?_alloc_past _ _ _ hl]; exact h.made,
      ⟨fun j hj => by rw [World.cell?_alloc_past _ _ _ hl]; exact h.tabs.ex j hj, fun j hj => by rw [World.cell?_alloc_past _ _ _ hl]; exact h.tabs.lg j hj⟩⟩
theorem Fld.drew {b : Nat} {w : World} (h : Fld b w) : Fld b w.drew := by
  rcases h with h | h
  · exact .inl ⟨h.raw.drew, h.lock, h.done, h.made⟩
  · exact .inr ⟨h.raw.drew, h.lock, h.done, h.made, ⟨h.tabs.ex, h.tabs.lg⟩⟩
theorem Fld.lt {b : Nat} {w : World} (h : Fld b w) : b < w.heap.size := by
  rcases h with h | h
  · exact h.raw.lt
  · exact h.raw.lt
end Go.Proofs.Ytebglmfdchfplaa
