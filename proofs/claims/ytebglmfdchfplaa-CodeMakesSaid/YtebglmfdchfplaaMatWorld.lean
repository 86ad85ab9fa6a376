/- Rows of bytes that fill a block, a Matrix in memory, and what a call leaves as it was. -/
import Derived.Test.YtebglmfdchfplaaGfIn
import Derived.Laws.CopyRow
import Derived.Laws.OwnMore
import Derived.OwnWalk
import Derived.Laws.Rows
namespace Go.Proofs.Ytebglmfdchfplaa
open Go.RowKit
set_option linter.unusedVariables false

/-- Hidden as it is typed. -/
theorem hid {p : Prop} (h : p) : Hid p := h
/-- All that was there, but for what S names, is as it was. -/
structure Up (S : Nat → Prop) (w w' : World) : Prop where
  os : w'.os = w.os
  tape : w'.tape = w.tape
  output : w'.output = w.output
  size : w.heap.size ≤ w'.heap.size
  block : ∀ k, k < w.heap.size → ¬ S k → w'.heap[k]? = w.heap[k]?
/-- Nothing that was there turns. -/
def Nul (k : Nat) : Prop := False
def One (b k : Nat) : Prop := k = b

theorem Up.refl (S : Nat → Prop) (w : World) : Up S w w := ⟨rfl, rfl, rfl, Nat.le_refl _, fun _ _ _ => rfl⟩
theorem Up.trans {S : Nat → Prop} {u v w : World} (h : Up S u v) (k : Up S v w) : Up S u w :=
  ⟨k.os.trans h.os, k.tape.trans h.tape, k.output.trans h.output, Nat.le_trans h.size k.size, fun i hi hs => (k.block i (Nat.lt_of_lt_of_le hi h.size) hs).trans (h.block i hi hs)⟩
theorem Up.mono {S T : Nat → Prop} {w w' : World} (h : Up S w w') (hst : ∀ k, k < w.heap.size → S k → T k) : Up T w w' :=
  ⟨h.os, h.tape, h.output, h.size, fun k hk ht => h.block k hk fun hs => ht (hst k hk hs)⟩
theorem Up.nul {S : Nat → Prop} {w w' : World} (h : Up Nul w w') : Up S w w' := h.mono fun _ _ => False.elim
theorem Up.alloc {S : Nat → Prop} {u w : World} (h : Up S u w) (o : Obj) : Up S u (w.alloc o) :=
  h.trans ⟨rfl, rfl, rfl, by simp, fun k hk _ => Below.heap_alloc w o k hk⟩
theorem Up.drew {S : Nat → Prop} {u w : World} (h : Up S u w) : Up S u w.drew := ⟨h.os, h.tape, h.output, h.size, h.block⟩
theorem Up.drewN {S : Nat → Prop} {u w : World} (h : Up S u w) (n : Nat) : Up S u (w.drewN n) := ⟨h.os, h.tape, h.output, h.size, h.block⟩
theorem Up.setCell {S : Nat → Prop} {u w : World} (h : Up S u w) {p : Addr} (hp : u.heap.size ≤ p.block ∨ S p.block) (v : Value) : Up S u (w.setCell p v) :=
  ⟨h.os, h.tape, h.output, by simpa using h.size, fun k hk hs => by
    rw [Below.heap_setCell _ _ _ _ (by rintro rfl; rcases hp with hp | hp; omega; exact hs hp)]
    exact h.block k hk hs⟩
theorem Up.of_out {b : Nat} {w w' : World} (h : Out b w w') : Up (One b) w w' := ⟨h.os, h.tape, h.output, by rw [h.size]; exact Nat.le_refl _, fun k _ hs => h.block k hs⟩
theorem Up.of_below {w w' : World} (h : Below w.heap.size w w') (S : Nat → Prop) : Up S w w' := ⟨h.os, h.tape, h.output, h.size, fun k hk _ => h.block k hk⟩
theorem Up.below {S : Nat → Prop} {B : Nat} {w w' : World} (h : Up S w w') (hB : B ≤ w.heap.size) (hs : ∀ k, k < B → ¬ S k) : Below B w w' :=
  ⟨h.os, h.tape, h.output, h.size, fun k hk => h.block k (by omega) (hs k hk)⟩
theorem Up.cell {S : Nat → Prop} {w w' : World} (h : Up S w w') {p : Addr} (hp : p.block < w.heap.size) (hs : ¬ S p.block) : w'.cell? p = w.cell? p := World.cell?_of_block (w := w) (h.block p.block hp hs)
theorem Up.froz {S : Nat → Prop} {w w' : World} (h : Up S w w') {p : Addr} (hp : p.block < w.heap.size) (hs : ¬ S p.block) : w'.frozen? p = w.frozen? p := World.frozen?_of_block (w := w) (h.block p.block hp hs)

theorem Fld.up {S : Nat → Prop} {b : Nat} {w w' : World} (h : Fld b w) (u : Up S w w') (hs : ¬ S b) : Fld b w' := by
  have hl := h.lt
  have hc : ∀ j, w'.cell? ⟨b, j, none⟩ = w.cell? ⟨b, j, none⟩ := fun j => u.cell (p := ⟨b, j, none⟩) hl hs
  have hr : Raw b w → Raw b w' := fun r => ⟨Nat.lt_of_lt_of_le hl u.size, fun j hj => by rw [hc]; exact r.cells j hj, fun j => by rw [u.froz (p := ⟨b, j, none⟩) hl hs]; exact r.fr j⟩
  rcases h with h | h
  · exact .inl ⟨hr h.raw, by rw [hc]; exact h.lock, by rw [hc]; exact h.done, by rw [hc]; exact h.made⟩
  · exact .inr ⟨hr h.raw, by rw [hc]; exact h.lock, by rw [hc]; exact h.done, by rw [hc]; exact h.made, ⟨fun j hj => by rw [hc]; exact h.tabs.ex j hj, fun j hj => by rw [hc]; exact h.tabs.lg j hj⟩⟩

/-- Bytes as cells. -/
def bys (z : List Nat) : Array Value := (z.map fun (n : Nat) => Value.int .u8 (n : Int)).toArray
/-- Block q is a row of bytes, all of it. -/
structure Blk (w : World) (q : Nat) (z : List Nat) : Prop where
  heap : w.heap[q]? = some (.cells (bys z) 5 (0, 0))
  small : ∀ x ∈ z, x < 256

theorem bys_size (z : List Nat) : (bys z).size = z.length := by simp [bys]
theorem bys_at (z : List Nat) (i : Nat) (hi : i < z.length) : (bys z)[i]? = some (.int .u8 (z.getD i 0)) := by
  simp [bys, List.getD_eq_getElem?_getD, List.getElem?_eq_getElem hi]
theorem bys_set (z : List Nat) (i v : Nat) : (bys z).setIfInBounds i (.int .u8 v) = bys (z.set i v) := by
  simp [bys, List.map_set]
theorem small_getD {z : List Nat} (h : ∀ x ∈ z, x < 256) (i : Nat) : z.getD i 0 < 256 := by
  rcases Nat.lt_or_ge i z.length with hi | hi
  · simp only [List.getD_eq_getElem?_getD, List.getElem?_eq_getElem hi, Option.getD_some]
    exact h _ (List.getElem_mem hi)
  · simp [List.getD_eq_getElem?_getD, List.getElem?_eq_none hi]
theorem Blk.lt {w : World} {q : Nat} {z : List Nat} (h : Blk w q z) : q < w.heap.size := (Array.getElem?_eq_some_iff.1 h.heap).1
theorem Blk.cell {w : World} {q : Nat} {z : List Nat} (h : Blk w q z) (i : Nat) (hi : i < z.length) : w.cell? ⟨q, i, none⟩ = some (.int .u8 (z.getD i 0)) := by
  simp only [World.cell?, h.heap]
  simpa using bys_at z i hi
theorem Blk.froz {w : World} {q : Nat} {z : List Nat} (h : Blk w q z) (i : Nat) : w.frozen? ⟨q, i, none⟩ = false := by
  simp [World.frozen?, h.heap]
theorem Blk.up {S : Nat → Prop} {w w' : World} {q : Nat} {z : List Nat} (h : Blk w q z) (u : Up S w w') (hs : ¬ S q) : Blk w' q z := ⟨(u.block q h.lt hs).trans h.heap, h.small⟩
theorem Blk.other {w : World} {q : Nat} {z : List Nat} (h : Blk w q z) {p : Addr} (hp : q ≠ p.block) (v : Value) : Blk (w.setCell p v) q z := ⟨(Below.heap_setCell _ _ _ _ hp).trans h.heap, h.small⟩
theorem Blk.alloc {w : World} {q : Nat} {z : List Nat} (h : Blk w q z) (o : Obj) : Blk (w.alloc o) q z := ⟨(Below.heap_alloc _ _ _ h.lt).trans h.heap, h.small⟩
theorem Blk.drew {w : World} {q : Nat} {z : List Nat} (h : Blk w q z) : Blk w.drew q z := ⟨h.heap, h.small⟩
theorem Blk.drewN {w : World} {q : Nat} {z : List Nat} (h : Blk w q z) (n : Nat) : Blk (w.drewN n) q z := ⟨h.heap, h.small⟩
theorem heap_set_same {w : World} {q : Nat} {c : Array Value} {t : TypeId} {fr : Nat × Nat} (h : w.heap[q]? = some (.cells c t fr)) (i : Nat) (v : Value) :
    (w.setCell ⟨q, i, none⟩ v).heap[q]? = some (.cells (c.setIfInBounds i v) t fr) := by
  have hlt := (Array.getElem?_eq_some_iff.1 h).1
  have hv := (Array.getElem?_eq_some_iff.1 h).2
  unfold World.setCell
  rw [Array.getElem?_eq_getElem (by simpa using hlt), Array.getElem_modify]
  simp [hv]
theorem Blk.set {w : World} {q : Nat} {z : List Nat} (h : Blk w q z) (i v : Nat) (hv : v < 256) : Blk (w.setCell ⟨q, i, none⟩ (.int .u8 v)) q (z.set i v) :=
  ⟨by rw [heap_set_same h.heap, bys_set], fun x hx => by
    rcases List.mem_or_eq_of_mem_set hx with hx | rfl
    · exact h.small x hx
    · exact hv⟩
theorem Blk.new (w : World) (z : List Nat) (hz : ∀ x ∈ z, x < 256) : Blk (w.alloc (.cells (bys z) 5)) w.heap.size z := ⟨heap_alloc_new _ _, hz⟩
theorem Blk.row {w : World} {q : Nat} {z : List Nat} (h : Blk w q z) (o n : Nat) (ho : o + n ≤ z.length) : Row w q o ((z.drop o).take n) := by
  have hl : ((z.drop o).take n).length = n := by simp; omega
  have hg : ∀ i, i < n → ((z.drop o).take n).getD i 0 = z.getD (o + i) 0 := fun i hi => by
    simp [List.getD_eq_getElem?_getD, hi, List.getElem?_drop]
  refine ⟨fun i hi => ?_, fun i => ?_⟩
  · rw [hl] at hi
    rw [hg i hi]
    exact h.cell (o + i) (by omega)
  · rcases Nat.lt_or_ge i n with hi | hi
    · rw [hg i hi]
      exact small_getD h.small _
    · simp [List.getD_eq_getElem?_getD, List.getElem?_eq_none (show ((z.drop o).take n).length ≤ i by omega)]
theorem Row.up {S : Nat → Prop} {w w' : World} {b o : Nat} {z : List Nat} (h : Row w b o z) (u : Up S w w') (hb : b < w.heap.size) (hs : ¬ S b) : Row w' b o z :=
  ⟨fun i hi => by rw [u.cell (p := ⟨b, o + i, none⟩) hb hs]; exact h.cells i hi, h.small⟩

/-- n noughts. -/
def zer (n : Nat) : List Nat := List.replicate n 0
theorem zer_small (n : Nat) : ∀ x ∈ zer n, x < 256 := by
  intro x hx
  rw [List.eq_of_mem_replicate hx]
  omega
theorem zer_length (n : Nat) : (zer n).length = n := by simp [zer]
theorem zer_at (n i : Nat) : (zer n).getD i 0 = 0 := by
  simp only [zer, List.getD_eq_getElem?_getD, List.getElem?_replicate]
  split <;> rfl
theorem made_zer (n : Nat) : madeCells (Value.int IntKind.u8 0).cells (n * 1) = bys (zer n) := by
  apply Array.ext
  · simp [bys, zer, size_madeCells]
  · intro i h1 h2
    have h0 : i % 1 = 0 := Nat.mod_one i
    simp [bys, zer, madeCells, Value.cells, h0]
theorem info_u8 : (Try.prog.info? 5).map (fun i => (i.zero, i.size, i.bytes)) = some (some (.int .u8 0), 1, 1) := by kernel_rfl
/-- 'make([]byte, n)'. -/
theorem make_bytes (w : World) (n : Nat) (hn : n ≤ 140737488355328) :
    (Instr.makeSlice 22 (.int .i64 n) (.int .i64 n)).run Try.prog w = .ok (.slice (some ⟨w.heap.size, 0, none⟩) n n) (w.alloc (.cells (bys (zer n)) 5)) := by
  obtain ⟨i0, hi, hz0, hz1, hz2⟩ := info_parts info_u8
  have := run_make (P := Try.prog) (w := w) 22 5 i0 (.int .u8 0) Try.underlying22 hi hz0 .i64 .i64 n n (by omega) (Int.le_refl _) (by rw [hz2]; omega) (by omega)
  rw [this, hz1, Int.toNat_natCast, made_zer]

/-- A Matrix at block p, its cells in block q, over the Field at block F: r rows, c columns. -/
structure Mat (w : World) (p q F r c : Nat) (z : List Nat) : Prop where
  f : w.cell? ⟨p, 0, none⟩ = some (.pointer (some ⟨F, 0, none⟩))
  rows : w.cell? ⟨p, 1, none⟩ = some (.int .i64 r)
  cols : w.cell? ⟨p, 2, none⟩ = some (.int .i64 c)
  cells : w.cell? ⟨p, 3, none⟩ = some (.slice (some ⟨q, 0, none⟩) (r * c) (r * c))
  blk : Blk w q z
  len : z.length = r * c
  pl : p < w.heap.size
  pF : p ≠ F
  qF : q ≠ F
  pq : p ≠ q
  r1 : 1 ≤ r
  r32 : r ≤ 32
  c1 : 1 ≤ c
  c32 : c ≤ 32
theorem Mat.up {S : Nat → Prop} {w w' : World} {p q F r c : Nat} {z : List Nat} (h : Mat w p q F r c z) (u : Up S w w') (hp : ¬ S p) (hq : ¬ S q) : Mat w' p q F r c z :=
  { h with
    f := (u.cell (p := ⟨p, 0, none⟩) h.pl hp).trans h.f, rows := (u.cell (p := ⟨p, 1, none⟩) h.pl hp).trans h.rows
    cols := (u.cell (p := ⟨p, 2, none⟩) h.pl hp).trans h.cols, cells := (u.cell (p := ⟨p, 3, none⟩) h.pl hp).trans h.cells
    blk := h.blk.up u hq, pl := Nat.lt_of_lt_of_le h.pl u.size }
theorem Mat.drew {w : World} {p q F r c : Nat} {z : List Nat} (h : Mat w p q F r c z) : Mat w.drew p q F r c z := { h with f := h.f, rows := h.rows, cols := h.cols, cells := h.cells, blk := h.blk.drew, pl := h.pl }
theorem Mat.drewN {w : World} {p q F r c : Nat} {z : List Nat} (h : Mat w p q F r c z) (n : Nat) : Mat (w.drewN n) p q F r c z := { h with f := h.f, rows := h.rows, cols := h.cols, cells := h.cells, blk := h.blk.drewN n, pl := h.pl }
theorem Mat.alloc {w : World} {p q F r c : Nat} {z : List Nat} (h : Mat w p q F r c z) (o : Obj) : Mat (w.alloc o) p q F r c z := h.up ((Up.refl Nul w).alloc o) id id
/-- A call over the Field at block F. -/
theorem Mat.kept {w w' : World} {p q F r c : Nat} {z : List Nat} (h : Mat w p q F r c z) (k : Kept F w w') : Mat w' p q F r c z := h.up (Up.of_out k.1) h.pF h.qF
theorem Mat.set {w : World} {p q F r c : Nat} {z : List Nat} (h : Mat w p q F r c z) (i v : Nat) (hv : v < 256) : Mat (w.setCell ⟨q, i, none⟩ (.int .u8 v)) p q F r c (z.set i v) :=
  have hc : ∀ j, (w.setCell ⟨q, i, none⟩ (.int .u8 v)).cell? ⟨p, j, none⟩ = w.cell? ⟨p, j, none⟩ := fun j => World.cell?_of_block (w := w) (a := ⟨p, j, none⟩) (Below.heap_setCell _ _ _ _ h.pq)
  { h with f := (hc 0).trans h.f, rows := (hc 1).trans h.rows, cols := (hc 2).trans h.cols, cells := (hc 3).trans h.cells, blk := h.blk.set i v hv, len := by rw [List.length_set]; exact h.len, pl := by simpa using h.pl }
theorem Mat.other {w : World} {p q F r c : Nat} {z : List Nat} (h : Mat w p q F r c z) {a : Addr} (hp : p ≠ a.block) (hq : q ≠ a.block) (v : Value) : Mat (w.setCell a v) p q F r c z :=
  have hc : ∀ j, (w.setCell a v).cell? ⟨p, j, none⟩ = w.cell? ⟨p, j, none⟩ := fun j => World.cell?_of_block (w := w) (a := ⟨p, j, none⟩) (Below.heap_setCell _ _ _ _ hp)
  { h with f := (hc 0).trans h.f, rows := (hc 1).trans h.rows, cols := (hc 2).trans h.cols, cells := (hc 3).trans h.cells, blk := h.blk.other hq v, pl := by simpa using h.pl }
theorem Mat.ql {w : World} {p q F r c : Nat} {z : List Nat} (h : Mat w p q F r c z) : q < w.heap.size := h.blk.lt
theorem Mat.at {w : World} {p q F r c : Nat} {z : List Nat} (h : Mat w p q F r c z) {i j : Nat} (hi : i < r) (hj : j < c) : i * c + j < z.length := by
  rw [h.len]
  have := Nat.mul_le_mul_right c (show i + 1 ≤ r from hi)
  rw [Nat.add_mul] at this
  omega
theorem Mat.most {w : World} {p q F r c : Nat} {z : List Nat} (h : Mat w p q F r c z) : r * c ≤ 1024 := Nat.mul_le_mul h.r32 h.c32
theorem prod_most {r c : Nat} (hr : r ≤ 32) (hc : c ≤ 32) : r * c ≤ 1024 := Nat.mul_le_mul hr hc
end Go.Proofs.Ytebglmfdchfplaa
