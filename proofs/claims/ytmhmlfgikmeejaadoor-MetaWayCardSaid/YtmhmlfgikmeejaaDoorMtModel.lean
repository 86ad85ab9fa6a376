/- What is known of blobs, as a function: blobs by their keys, Stripes by their Sids. -/
import Derived.Test.YtmhmlfgikmeejaaDoorMtMap
namespace Go.Proofs.YtmhmlfgikmeejaaDoor
open Go.RowKit Go.Maps
set_option linter.unusedVariables false

structure Bl where
  n : Int
  sid : Int
  part : Int
structure St where
  kind : Int
  colour : Int
  k0 : ByteArray
  k1 : ByteArray
  k2 : ByteArray
  locs : List Lo
structure MM where
  b : ByteArray → Option Bl
  s : Int → Option St
  last : Int
  t : Tb
abbrev noK : ByteArray := ⟨#[]⟩
abbrev blv (b : Bl) : Value := .agg #[.int .i64 b.n, .int .i64 b.sid, .int .i64 b.part]
abbrev stv (s : St) (v : Value) : Value := .agg #[.int .i64 s.kind, .int .i64 s.colour, .string s.k0, .string s.k1, .string s.k2, v]
def MM.new : MM := ⟨fun _ => none, fun _ => none, 0, tb0⟩
def St.off (s : St) (t : Int) : St := if t = 0 then { s with k0 := noK } else if t = 1 then { s with k1 := noK } else { s with k2 := noK }
def St.dead (s : St) : Bool := decide (s.k0 = noK ∧ s.k1 = noK ∧ s.k2 = noK)
def lay1 (b : ByteArray → Option Bl) (k : ByteArray) (sid part : Int) : ByteArray → Option Bl := match b k with | none => b | some x => upd b k (some ⟨x.n, sid, part⟩)
def MM.lay (M : MM) (sid : Int) (s : St) : MM := { M with s := upd M.s sid (some s), b := lay1 (lay1 (lay1 M.b s.k0 sid 0) s.k1 sid 1) s.k2 sid 2 }
def MM.drop (M : MM) (k : ByteArray) : Int × MM :=
  match M.b k with
  | none => (9, M)
  | some b => match M.s b.sid with
    | none => (0, { M with b := upd M.b k none })
    | some s => (0, { M with b := upd M.b k none, s := upd M.s b.sid (if (s.off b.part).dead then none else some (s.off b.part)) })
def MM.put (M : MM) (r : Rc) : Int × MM := (0, ({ (M.drop r.key).2 with b := upd (M.drop r.key).2.b r.key (some ⟨r.n, 0, 0⟩) }).lay r.sid ⟨1, 0, r.key, noK, noK, r.locs⟩)
/-- The Sids of the Stripes that r makes. -/
def newS (r : Rc) : List Int := if r.kind = 1 ∨ r.kind = 3 ∨ r.kind = 4 ∨ r.kind = 5 then [r.sid] else if r.kind = 6 then r.sids.filter (fun x => decide (x ≠ 0)) else []
/-- The greatest one, if they rise. -/
def rise (last : Int) : List Int → Option Int
  | [] => some last
  | x :: l => if x ≤ last then none else rise x l
/-- What Apply tells, by what the change tells. -/
def MM.app (M : MM) (r : Rc) (c : Int × MM) : Int × MM :=
  if okR r = false then (1, M) else
  match rise M.last (newS r) with
  | none => (11, M)
  | some last => (c.1, if c.1 = 0 then { c.2 with last := last } else c.2)
/-- Each blob has its Stripe: what the memory asks. -/
structure MM.Inv (M : MM) : Prop where
  b : ∀ k x, M.b k = some x → (0 ≤ x.part ∧ x.part ≤ 2) ∧ ∃ s, M.s x.sid = some s
  s : ∀ i s, M.s i = some s → (1 ≤ i ∧ i ≤ M.last) ∧ (s.kind = 1 ∨ s.kind = 2 ∧ s.locs.length = 6 ∨ s.kind = 3 ∧ s.locs.length = 16)
  l : 0 ≤ M.last ∧ M.last ≤ 2147483647
end Go.Proofs.YtmhmlfgikmeejaaDoor
