/- What 'read' tells; a record that is being read. -/
import Derived.Test.YtpdkcpjofofkoaaDoorRcTab
import Derived.Test.YtpdkcpjofofkoaaDoorRcMath
namespace Go.Proofs.YtpdkcpjofofkoaaDoor
open Go.RowKit
set_option linter.unusedVariables false

def rdKey (k : Nat) (b : List Nat) : ByteArray := if 0 < sh k 1 then strOf (nx (num 1 b) (b.drop 1)) else ⟨#[]⟩
def rsKey (k : Nat) (b : List Nat) : List Nat := if 0 < sh k 1 then (b.drop 1).drop (num 1 b) else b
def rdNum (h : Int) (m : Nat) (b : List Nat) : Nat := if 0 < h then num m b else 0
def rsNum (h : Int) (m : Nat) (b : List Nat) : List Nat := if 0 < h then b.drop m else b
def rdInts (c : Nat) (b : List Nat) : List Int := (List.range c).map fun i => ((num 4 (b.drop (4 * i)) : Nat) : Int)
def rdLocs (c : Nat) (b : List Nat) : List Lo := (List.range c).map fun i => locOf (b.drop (6 * i))
def rdCnt (k : Nat) (b : List Nat) : Nat := if 0 < sh k 12 then num 1 b else (sh k 11).toNat
def rdTab (h : Int) (b : List Nat) : Tb := if 0 < h then tabOf b else tb0
def rc0 : Rc := ⟨0, ⟨#[]⟩, 0, 0, [], 0, [], tb0⟩
/-- The rests, one behind the other. -/
def b2 (k : Nat) (b : List Nat) := rsKey k b
def b3 (k : Nat) (b : List Nat) := rsNum (sh k 3) 1 (b2 k b)
def b4 (k : Nat) (b : List Nat) := rsNum (sh k 5) 4 (b3 k b)
def b5 (k : Nat) (b : List Nat) := rsNum (sh k 7) 1 (b4 k b)
def b6 (k : Nat) (b : List Nat) := (b5 k b).drop (4 * (sh k 8).toNat)
def b7 (k : Nat) (b : List Nat) := rsNum (sh k 12) 1 (b6 k b)
def b8 (k : Nat) (b : List Nat) := (b7 k b).drop (6 * rdCnt k (b6 k b))
/-- The record of a Kind k that the bytes behind it are. -/
def readK (k : Nat) (b : List Nat) : Rc :=
  { kind := (k : Nat), key := rdKey k b, n := (rdNum (sh k 3) 1 (b2 k b) : Nat), sid := (rdNum (sh k 5) 4 (b3 k b) : Nat), sids := rdInts (sh k 8).toNat (b5 k b), colour := (rdNum (sh k 7) 1 (b4 k b) : Nat),
    locs := rdLocs (rdCnt k (b6 k b)) (b7 k b), t := rdTab (sh k 14) (b8 k b) }
def readR (b : List Nat) : Rc := if 1 ≤ num 1 b ∧ num 1 b ≤ 8 then readK (num 1 b) (b.drop 1) else rc0
theorem rdInts_next (c : Nat) (b : List Nat) : rdInts (c + 1) b = rdInts c b ++ [((num 4 (b.drop (4 * c)) : Nat) : Int)] := by simp [rdInts, List.range_succ]
theorem rdLocs_next (c : Nat) (b : List Nat) : rdLocs (c + 1) b = rdLocs c b ++ [locOf (b.drop (6 * c))] := by simp [rdLocs, List.range_succ]
theorem rdInts_length (c : Nat) (b : List Nat) : (rdInts c b).length = c := by simp [rdInts]
theorem rdLocs_length (c : Nat) (b : List Nat) : (rdLocs c b).length = c := by simp [rdLocs]
/-- A record at block p that is being read from the source at block q. -/
structure RS (B : Nat) (W2 : World) (q p : Nat) (wx : World) (b : List Nat) (C : Array Value) : Prop where
  so : So B wx q b
  pc : wx.heap[p]? = some (.cells C 27 (0, 0))
  up : Up (fun j => j = p ∨ j = q) W2 wx
  pq : p ≠ q
  bp : B ≤ p
  pl : p < W2.heap.size
  ql : q < W2.heap.size
  s8 : ∀ x ∈ b, x < 256
section
variable {B q p : Nat} {W2 wx wy : World} {b b' : List Nat} {C : Array Value}
theorem RS.nxt (h : RS B W2 q p wx b C) (u : Up Nul wx wy) : RS B W2 q p wy b C :=
  ⟨h.so.nxt u, (u.block p (Array.getElem?_eq_some_iff.1 h.pc).1 id).trans h.pc, h.up.trans u.nul, h.pq, h.bp, h.pl, h.ql, h.s8⟩
theorem RS.src (h : RS B W2 q p wx b C) (s : So B wy q b') (u : Up (One q) wx wy) (h8 : ∀ x ∈ b', x < 256) : RS B W2 q p wy b' C :=
  ⟨s, (u.block p (Array.getElem?_eq_some_iff.1 h.pc).1 h.pq).trans h.pc, h.up.trans (u.mono fun k _ e => .inr e), h.pq, h.bp, h.pl, h.ql, h8⟩
theorem RS.set (h : RS B W2 q p wx b C) (i : Nat) (v : Value) : RS B W2 q p (wx.setCell ⟨p, i, none⟩ v) b (C.setIfInBounds i v) :=
  ⟨h.so.keep ((Up.refl (One p) wx).put rfl i v) (fun k _ e => by have e : k = p := e; subst e; exact ⟨h.bp, h.pq⟩), heap_set_same h.pc i v, h.up.put (.inl rfl) i v, h.pq, h.bp, h.pl, h.ql, h.s8⟩
theorem RS.cell (h : RS B W2 q p wx b C) {i : Nat} {v : Value} (hv : C[i]? = some v) : wx.cell? ⟨p, i, none⟩ = some v := by simp [World.cell?, h.pc, hv]
theorem RS.froz (h : RS B W2 q p wx b C) (i : Nat) : wx.frozen? ⟨p, i, none⟩ = false := by simp [World.frozen?, h.pc]
/-- Other blocks that were there. -/
theorem RS.old (h : RS B W2 q p wx b C) {g : Nat} (hg : g < W2.heap.size) (h1 : g ≠ p) (h2 : g ≠ q) : wx.heap[g]? = W2.heap[g]? := h.up.block g hg (fun e => e.elim h1 h2)
end
end Go.Proofs.YtpdkcpjofofkoaaDoor
