/- Records: their data, where they lie, what each Kind names. -/
import Derived.Test.YtmhmlfgikmeejaaDoorRC
import Derived.StillTailTactics
import Derived.IntWalk
import Derived.Deep.DeepCutAuto
import Derived.Deep.CutBlock
namespace Go.Proofs.YtmhmlfgikmeejaaDoor
open Go.RowKit
set_option linter.unusedVariables false

/-! ### Data -/
structure Lo where
  d : Int
  s : Int
  i : Int
structure Tb where
  hot : Int
  warm : Int
  gap : Int
  add : Int
  top : Int
  half : Int
structure Rc where
  kind : Int
  key : ByteArray
  n : Int
  sid : Int
  sids : List Int
  colour : Int
  locs : List Lo
  t : Tb
def tb0 : Tb := ⟨0, 0, 0, 0, 0, 0⟩
def Tb.l (t : Tb) : List Int := [t.hot, t.warm, t.gap, t.add, t.top, t.half]
/-- A record as a value. -/
abbrev rv (r : Rc) (sv lv : Value) : Value := .agg #[.int .i64 r.kind, .string r.key, .int .i64 r.n, .int .i64 r.sid, sv, .int .i64 r.colour, lv,
  .int .i64 r.t.hot, .int .i64 r.t.warm, .int .i64 r.t.gap, .int .i64 r.t.add, .int .i64 r.t.top, .int .i64 r.t.half]
abbrev lov (l : Lo) : Value := .agg #[.int .i64 l.d, .int .i64 l.s, .int .i64 l.i]
/-! ### Memory -/
/-- A slice of ints that can be read. -/
def RowI (w : World) (a : Option Addr) (zs : List Int) : Prop := zs = [] ∨ ∃ g o, a = some ⟨g, o, none⟩ ∧ g < w.heap.size ∧ ∀ i x, zs[i]? = some x → w.cell? ⟨g, o + i, none⟩ = some (.int .i64 x)
def Lo.cells (l : Lo) : List Value := [.int .i64 l.d, .int .i64 l.s, .int .i64 l.i]
/-- A slice of Locs that can be read. -/
def RowL (w : World) (a : Option Addr) (ls : List Lo) : Prop := ls = [] ∨ ∃ g o, a = some ⟨g, o, none⟩ ∧ g < w.heap.size ∧ ∀ i l, ls[i]? = some l → ∀ j v, l.cells[j]? = some v → w.cell? ⟨g, o + i * 3 + j, none⟩ = some v
theorem RowI.nxt {w w' : World} {a : Option Addr} {zs : List Int} (h : RowI w a zs) (u : Up Nul w w') : RowI w' a zs := by
  rcases h with e | ⟨g, o, e, hg, h⟩
  · exact .inl e
  · exact .inr ⟨g, o, e, Nat.lt_of_lt_of_le hg u.size, fun i x hi => (u.cell (p := ⟨g, o + i, none⟩) hg id).trans (h i x hi)⟩
theorem RowL.nxt {w w' : World} {a : Option Addr} {ls : List Lo} (h : RowL w a ls) (u : Up Nul w w') : RowL w' a ls := by
  rcases h with e | ⟨g, o, e, hg, h⟩
  · exact .inl e
  · exact .inr ⟨g, o, e, Nat.lt_of_lt_of_le hg u.size, fun i l hi j v hj => (u.cell (p := ⟨g, o + i * 3 + j, none⟩) hg id).trans (h i l hi j v hj)⟩
theorem RowI.nil (w : World) (a : Option Addr) : RowI w a [] := .inl rfl
theorem RowL.nil (w : World) (a : Option Addr) : RowL w a [] := .inl rfl
/-- A slice of bytes that can be read. -/
def RowB (w : World) (a : Option Addr) (zs : List Nat) : Prop := zs = [] ∨ ∃ g o, a = some ⟨g, o, none⟩ ∧ g < w.heap.size ∧ ∀ i (x : Nat), zs[i]? = some x → w.cell? ⟨g, o + i, none⟩ = some (.int .u8 (x : Nat))
theorem RowB.nxt {w w' : World} {a : Option Addr} {zs : List Nat} (h : RowB w a zs) (u : Up Nul w w') : RowB w' a zs := by
  rcases h with e | ⟨g, o, e, hg, h⟩
  · exact .inl e
  · exact .inr ⟨g, o, e, Nat.lt_of_lt_of_le hg u.size, fun i x hi => (u.cell (p := ⟨g, o + i, none⟩) hg id).trans (h i x hi)⟩
/-- The rows of a record. -/
structure RH (w : World) (r : Rc) (sa la : Option Addr) : Prop where
  s : RowI w sa r.sids
  l : RowL w la r.locs
  ns : r.sids.length ≤ 100000
  nl : r.locs.length ≤ 100000
theorem RH.nxt {w w' : World} {r : Rc} {sa la : Option Addr} (h : RH w r sa la) (u : Up Nul w w') : RH w' r sa la := ⟨h.s.nxt u, h.l.nxt u, h.ns, h.nl⟩
/-- What each Kind names, as the program has it. -/
def shT : Nat → List Int
  | 1 => [1, 16, 0, 64, 1, 2147483647, 0, 0, 0, 0, 0, 3, 0, 0, 0]
  | 2 => [1, 16, 0, 0, 0, 0, 0, 0, 0, 0, 0, 0, 0, 0, 0]
  | 3 => [1, 16, 0, 0, 1, 2147483647, 0, 2, 0, 0, 0, 6, 0, 0, 0]
  | 4 => [1, 16, 0, 0, 1, 2147483647, 0, 0, 0, 0, 0, 3, 0, 0, 0]
  | 5 => [0, 0, 0, 0, 1, 2147483647, 0, 0, 3, 1, 2147483647, 4, 0, 0, 0]
  | 6 => [0, 0, 0, 0, 1, 2147483647, 0, 0, 3, 0, 2147483647, 0, 2, 0, 0]
  | 7 => [0, 0, 0, 15, 1, 2147483647, 0, 0, 0, 0, 0, 1, 0, 0, 0]
  | 8 => [0, 0, 0, 0, 0, 0, 0, 0, 0, 0, 0, 0, 0, 0, 1000000]
  | _ => [0, 0, 0, 0, 0, 0, 0, 0, 0, 0, 0, 0, 0, 0, 0]
def sh (k j : Nat) : Int := (shT k).getD j 0
abbrev shv (k : Nat) : Value := .agg #[.int .i64 (sh k 0), .int .i64 (sh k 1), .int .i64 (sh k 2), .int .i64 (sh k 3), .int .i64 (sh k 4), .int .i64 (sh k 5), .int .i64 (sh k 6), .int .i64 (sh k 7), .int .i64 (sh k 8),
  .int .i64 (sh k 9), .int .i64 (sh k 10), .int .i64 (sh k 11), .int .i64 (sh k 12), .int .i64 (sh k 13), .int .i64 (sh k 14)]
abbrev tbv (t : Tb) : Value := .agg #[.int .i64 t.hot, .int .i64 t.warm, .int .i64 t.gap, .int .i64 t.add, .int .i64 t.top, .int .i64 t.half]
structure Shp (w : World) : Prop where
  c : ∀ k j, k < 9 → j < 15 → w.cell? ⟨0, k * 15 + j, none⟩ = some (.int .i64 (sh k j))
theorem Shp.lt {w : World} (h : Shp w) : 0 < w.heap.size := lt_of_cell (h.c 0 0 (by omega) (by omega))
theorem Shp.nxt {w w' : World} (h : Shp w) (u : Up Nul w w') : Shp w' := ⟨fun k j hk hj => (u.cell (p := ⟨0, k * 15 + j, none⟩) h.lt id).trans (h.c k j hk hj)⟩
end Go.Proofs.YtmhmlfgikmeejaaDoor
