/- The law's own record: what is known while it is made. -/
import Derived.Test.YtpdkcpjofofkoaaDoorRcNx
import Derived.Test.YtpdkcpjofofkoaaDoorRcMath
namespace Go.Proofs.YtpdkcpjofofkoaaDoor
open Go.RowKit
set_option linter.unusedVariables false

/-- 'next' of any bound. -/
theorem nxt_int (W : World) (A Lb k : Nat) (n : Int) (zs : List Int) (h : Nx W A Lb k zs) (hn : 1 ≤ n) (hn2 : n ≤ 100000) (hk : k + 1 ≤ 1000) :
    Calls Tryd.prog 16 #[.int .i64 n, .pointer (some ⟨A, 0, none⟩), .pointer (some ⟨Lb, 0, none⟩)] W fun e w' => ∃ x : Nat, e = .returned (.int .i64 (x : Nat)) ∧ (x : Int) < n ∧ Nx w' A Lb (k + 1) zs ∧ Up (One A) W w' := by
  obtain ⟨m, rfl⟩ := Int.eq_ofNat_of_zero_le (show 0 ≤ n by omega)
  refine (nxt_any W A Lb k m zs h (by omega) (by omega) hk).mono ?_
  rintro e w' ⟨x, rfl, hx, hnx, u⟩
  exact ⟨x, rfl, by omega, hnx, u⟩
abbrev nextV (A Lb : Nat) : Value := .func (.func 16) #[] #[.pointer (some ⟨A, 0, none⟩), .pointer (some ⟨Lb, 0, none⟩)]
abbrev rcellsL (r : Rc) (sv lv : Value) : Array Value := #[.int .i64 r.kind, .string r.key, .int .i64 r.n, .int .i64 r.sid, sv, .int .i64 r.colour, lv, .int .i64 r.t.hot, .int .i64 r.t.warm, .int .i64 r.t.gap, .int .i64 r.t.add, .int .i64 r.t.top, .int .i64 r.t.half]
/-- While the record is made: its cells C at block p; a row of three numbers G. -/
structure Rs (w0 : World) (W : World) (A Lb F p k : Nat) (zs : List Int) (C : Array Value) (G : Option (Nat × Array Value)) : Prop where
  nx : Nx W A Lb k zs
  cl : W.heap[F]? = some (.cells #[nextV A Lb] 46 (0, 0))
  pc : W.heap[p]? = some (.cells C 27 (0, 0))
  gc : ∀ g cs, G = some (g, cs) → W.heap[g]? = some (.cells cs 3 (0, 0)) ∧ g ≠ A ∧ g ≠ p ∧ w0.heap.size ≤ g
  up : Up Nul w0 W
  a : w0.heap.size ≤ A ∧ w0.heap.size ≤ p
  ne : A ≠ F ∧ A ≠ p ∧ F ≠ p ∧ p ≠ Lb ∧ A ≤ p
section
variable {w0 W W' : World} {A Lb F p k k' : Nat} {zs : List Int} {C : Array Value} {G : Option (Nat × Array Value)}
theorem Rs.clc (h : Rs w0 W A Lb F p k zs C G) : W.cell? ⟨F, 0, none⟩ = some (nextV A Lb) := by simp [World.cell?, h.cl]
theorem Rs.cell (h : Rs w0 W A Lb F p k zs C G) {i : Nat} {v : Value} (hv : C[i]? = some v) : W.cell? ⟨p, i, none⟩ = some v := by simp [World.cell?, h.pc, hv]
theorem Rs.froz (h : Rs w0 W A Lb F p k zs C G) (i : Nat) : W.frozen? ⟨p, i, none⟩ = false := by simp [World.frozen?, h.pc]
theorem Rs.nxt (h : Rs w0 W A Lb F p k zs C G) (u : Up Nul W W') : Rs w0 W' A Lb F p k zs C G :=
  ⟨h.nx.nxt u, (u.block F (Array.getElem?_eq_some_iff.1 h.cl).1 id).trans h.cl, (u.block p (Array.getElem?_eq_some_iff.1 h.pc).1 id).trans h.pc, fun g cs e => ⟨(u.block g (Array.getElem?_eq_some_iff.1 (h.gc g cs e).1).1 id).trans (h.gc g cs e).1, (h.gc g cs e).2⟩, h.up.trans u, h.a, h.ne⟩
theorem Rs.call (h : Rs w0 W A Lb F p k zs C G) (n : Nx W' A Lb k' zs) (u : Up (One A) W W') : Rs w0 W' A Lb F p k' zs C G :=
  ⟨n, (u.block F (Array.getElem?_eq_some_iff.1 h.cl).1 fun e => h.ne.1 e.symm).trans h.cl, (u.block p (Array.getElem?_eq_some_iff.1 h.pc).1 fun e => h.ne.2.1 e.symm).trans h.pc,
    fun g cs e => ⟨(u.block g (Array.getElem?_eq_some_iff.1 (h.gc g cs e).1).1 fun e2 => (h.gc g cs e).2.1 e2).trans (h.gc g cs e).1, (h.gc g cs e).2⟩,
    ⟨u.os.trans h.up.os, u.tape.trans h.up.tape, u.output.trans h.up.output, Nat.le_trans h.up.size u.size, fun j hj _ => (u.block j (Nat.lt_of_lt_of_le hj h.up.size) (fun e => by have e : j = A := e; have := h.a.1; omega)).trans (h.up.block j hj id)⟩, h.a, h.ne⟩
theorem Rs.set (h : Rs w0 W A Lb F p k zs C G) (i : Nat) (v : Value) : Rs w0 (W.setCell ⟨p, i, none⟩ v) A Lb F p k zs (C.setIfInBounds i v) G := by
  have u : Up (One p) W (W.setCell ⟨p, i, none⟩ v) := (Up.refl (One p) W).put rfl i v
  exact ⟨h.nx.keep h.nx.le u ((u.block A (Array.getElem?_eq_some_iff.1 h.nx.at_).1 h.ne.2.1).trans h.nx.at_) (fun j e => by have e : j = p := e; subst e; exact ⟨h.ne.2.2.2.2, h.ne.2.2.2.1⟩),
    (u.block F (Array.getElem?_eq_some_iff.1 h.cl).1 h.ne.2.2.1).trans h.cl, heap_set_same h.pc i v,
    fun g cs e => ⟨(u.block g (Array.getElem?_eq_some_iff.1 (h.gc g cs e).1).1 (h.gc g cs e).2.2.1).trans (h.gc g cs e).1, (h.gc g cs e).2⟩, h.up.setCell (.inl h.a.2) v, h.a, h.ne⟩
/-- A row of three numbers, made. -/
theorem Rs.row3 (h : Rs w0 W A Lb F p k zs C none) (cs : Array Value) : Rs w0 (W.alloc (.cells cs 3)) A Lb F p k zs C (some (W.heap.size, cs)) := by
  have h2 := h.nxt ((Up.refl Nul W).alloc (.cells cs 3))
  refine ⟨h2.nx, h2.cl, h2.pc, fun g cs' e => ?_, h2.up, h2.a, h2.ne⟩
  cases e
  refine ⟨heap_alloc_new _ _, ?_, ?_, h.up.size⟩
  · have := (Array.getElem?_eq_some_iff.1 h.nx.at_).1; omega
  · have := (Array.getElem?_eq_some_iff.1 h.pc).1; omega
end
/-- A record that may be, its L Locs to come. -/
structure OkP (r : Rc) (L : Nat) : Prop where
  k1 : 1 ≤ kn r
  k8 : kn r ≤ 8
  kk : r.kind = (kn r : Int)
  key : sh (kn r) 0 ≤ (r.key.size : Nat) ∧ ((r.key.size : Nat) : Int) ≤ sh (kn r) 1
  pl : ∀ c ∈ nums r.key, 33 ≤ c ∧ c ≤ 126
  n : sh (kn r) 2 ≤ r.n ∧ r.n ≤ sh (kn r) 3
  sid : sh (kn r) 4 ≤ r.sid ∧ r.sid ≤ sh (kn r) 5
  co : sh (kn r) 6 ≤ r.colour ∧ r.colour ≤ sh (kn r) 7
  ns : ((r.sids.length : Nat) : Int) = sh (kn r) 8
  sids : ∀ x ∈ r.sids, sh (kn r) 9 ≤ x ∧ x ≤ sh (kn r) 10
  nl : ((L : Nat) : Int) = sh (kn r) 11 + sh (kn r) 12 * ((nz r.sids : Nat) : Int)
  t : ∀ x ∈ r.t.l, sh (kn r) 13 ≤ x ∧ x ≤ sh (kn r) 14
  l6 : L ≤ 6
theorem OkP.done {r : Rc} {L : Nat} (h : OkP r L) (ls : List Lo) (hl : ls.length = L) (hs : ∀ l ∈ ls, (0 ≤ l.d ∧ l.d ≤ 23) ∧ (0 ≤ l.s ∧ l.s ≤ 63) ∧ 1 ≤ l.i ∧ l.i ≤ 2147483647) : OkF { r with locs := ls } :=
  ⟨h.k1, h.k8, h.kk, h.key, h.pl, h.n, h.sid, h.co, h.ns, h.sids, by show ((ls.length : Nat) : Int) = _; rw [hl]; exact h.nl, hs, h.t⟩
abbrev rcells (r : Rc) (sv : Value) : Array Value := #[.int .i64 r.kind, .string r.key, .int .i64 r.n, .int .i64 r.sid, sv, .int .i64 r.colour, .slice none 0 0, .int .i64 r.t.hot, .int .i64 r.t.warm, .int .i64 r.t.gap, .int .i64 r.t.add, .int .i64 r.t.top, .int .i64 r.t.half]
/-- The Sids' slice. -/
def Svs (r : Rc) (sv : Value) (G : Option (Nat × Array Value)) : Prop := (r.sids = [] ∧ sv = .slice none 0 0) ∨ ∃ g a b c, G = some (g, #[.int .i64 a, .int .i64 b, .int .i64 c]) ∧ r.sids = [a, b, c] ∧ sv = .slice (some ⟨g, 0, none⟩) 3 3
/-- Behind the switch. -/
def Rq (w0 : World) (A Lb F p : Nat) (zs : List Int) (s7 : Value) (wx : World) : Prop := ∃ (r : Rc) (sv : Value) (L k : Nat) (G : Option (Nat × Array Value)), s7 = .int .i64 ((L : Nat) : Int) ∧ Rs w0 wx A Lb F p k zs (rcells r sv) G ∧ Svs r sv G ∧ OkP r L ∧ k ≤ 20
end Go.Proofs.YtpdkcpjofofkoaaDoor
