/- The scripts of TrioPlays that come in: slices of calls; one call copied out. -/
import Derived.Test.YtencinajieicpaaTrAwake
import Derived.ProofKit
import Derived.OpenShut
import Derived.Deep.Slices
namespace Go.Proofs.Ytencinajieicpaa
open Go.RowKit
open Go.ChangeShapes Go.WideShapes Go.ChangeAt
set_option linter.unusedVariables false

/-- One call of the script. -/
structure QOp where
  kind : Int
  n : Int
  ba : Option Addr
  bl : Nat
  bc : Nat
  zs : List Int
  x : Nat → Int
/-- The six cells of a call. -/
def qcs (v : QOp) : List Value := [.int .i64 v.kind, .int .i64 v.n, .slice v.ba v.bl v.bc, .int .i64 (v.x 0), .int .i64 (v.x 1), .int .i64 (v.x 2)]
structure QAt (w : World) (g o : Nat) (v : QOp) : Prop where
  c : ∀ j u, (qcs v)[j]? = some u → w.cell? ⟨g, o + j, none⟩ = some u
  wb : CameIn w v.ba v.bl v.bc v.zs
/-- What is known of a script that came in. -/
def CameQ (w : World) (a : Option Addr) (len : Nat) (F : Nat → QOp) : Prop :=
  (len = 0 ∨ ∃ g o, a = some ⟨g, o, none⟩ ∧ g < w.heap.size ∧ ∀ i, i < len → QAt w g (o + i * 6) (F i)) ∧ len ≤ 9223372036854775807
theorem three_ys {α : Type} : ∀ (l : List α), l.length = 3 → ∃ a b c, l = [a, b, c]
  | [a, b, c], _ => ⟨a, b, c, rfl⟩
theorem four_ys {α : Type} : ∀ (l : List α), l.length = 4 → ∃ a b c d, l = [a, b, c, d]
  | [a, b, c, d], _ => ⟨a, b, c, d, rfl⟩
theorem six_ys {α : Type} : ∀ (l : List α), l.length = 6 → ∃ a b c d e f, l = [a, b, c, d, e, f]
  | [a, b, c, d, e, f], _ => ⟨a, b, c, d, e, f, rfl⟩
set_option maxRecDepth 100000 in
theorem open_qop {H : Type} {enc : TypeId × Value → H} {w : World} {held : Bool} {n : Nat} {cs : List Value} {y : DataW H × List MemPlace} {g o : Nat} (hc : ∀ j v, cs[j]? = some v → w.cell? ⟨g, o + j, none⟩ = some v)
    (h : DataW.trod enc Try.prog w 0 (fun _ => true) held n 62 cs = some y) : ∃ v, QAt w g o v := by
  obtain ⟨xs, k, _, _, hl, hxl, hf⟩ := DataW.trod_struct Try.underlying62 h
  have hl6 : cs.length = 6 := hl.trans (by kernel_rfl)
  obtain ⟨v0, v1, v2, v3, v4, v5, rfl⟩ := six_ys cs hl6
  have hx4 : xs.length = 4 := hxl
  obtain ⟨y0, y1, y2, y3, rfl⟩ := four_ys xs hx4
  have ci : Try.prog.cellsOf 3 = 1 := by kernel_rfl
  have cb : Try.prog.cellsOf 5 = 1 := by kernel_rfl
  have cl : Try.prog.cellsOf 30 = 1 := by kernel_rfl
  have ca : Try.prog.cellsOf 60 = 3 := by kernel_rfl
  have g0 := hf 0 _ rfl
  have g1 := hf 1 _ rfl
  have g2 := hf 2 _ rfl
  have g3 := hf 3 _ rfl
  simp [ci, cl, ca] at g0 g1 g2 g3
  obtain ⟨z0, q0, _, _⟩ := DataW.trod_int Try.underlying3 g0
  obtain ⟨z1, q1, _, _⟩ := DataW.trod_int Try.underlying3 g1
  obtain ⟨ba, bl, bc, zs, q2, hb⟩ : ∃ ba bl bc zs, v2 = .slice ba bl bc ∧ CameIn w ba bl bc zs := by
    rcases open_ints Try.underlying30 Try.underlying5 cb g2 with ⟨e, _⟩ | ⟨a, l, c, zs, e, _, hl, hm, hz, _, hcell, hwz⟩
    · exact ⟨none, 0, 0, [], by simpa using e, .inl ⟨rfl, rfl, rfl, rfl⟩⟩
    · exact ⟨some a, l, c, zs, by simpa using e, .inr ⟨a, rfl, hl, hm, by simpa using hz, hcell, hwz⟩⟩
  obtain ⟨xs2, m2, _, _, hl2, hx2, hi2⟩ := DataW.trod_array Try.underlying60 g3
  obtain ⟨u0, u1, u2, rfl⟩ := three_ys xs2 hx2
  have a0 := hi2 0 (by omega)
  have a1 := hi2 1 (by omega)
  have a2 := hi2 2 (by omega)
  simp [ci] at a0 a1 a2
  obtain ⟨z3, q3, _, _⟩ := DataW.trod_int Try.underlying3 a0
  obtain ⟨z4, q4, _, _⟩ := DataW.trod_int Try.underlying3 a1
  obtain ⟨z5, q5, _, _⟩ := DataW.trod_int Try.underlying3 a2
  simp only [List.cons.injEq, and_true] at q0 q1 q3 q4 q5
  subst q0 q1 q2 q3 q4 q5
  exact ⟨⟨z0, z1, ba, bl, bc, zs, fun i => if i = 0 then z3 else if i = 1 then z4 else z5⟩, hc, hb⟩
theorem open_qops {H : Type} {enc : TypeId × Value → H} {w : World} {held : Bool} {fuel : Nat} {a : Option Addr} {len cap : Nat} {x : DataW H × List MemPlace}
    (h : DataW.trod enc Try.prog w 0 (fun _ => true) held fuel 49 [.slice a len cap] = some x) : ∃ F, CameQ w a len F := by
  have c6 : Try.prog.cellsOf 62 = 6 := by kernel_rfl
  rcases Go.Deep.open_slice Try.underlying49 h with ⟨e, _⟩ | ⟨ad, l, c, m, n, D, Pl, e, _, hl, hm, hmm, _, hx⟩
  · simp at e
    obtain ⟨rfl, rfl, rfl⟩ := e
    exact ⟨fun _ => ⟨0, 0, none, 0, 0, [], fun _ => 0⟩, .inl rfl, by omega⟩
  · simp at e
    obtain ⟨rfl, rfl, rfl⟩ := e
    simp only [if_true] at hmm
    unfold maxLen at hm
    by_cases h0 : len = 0
    · exact ⟨fun _ => ⟨0, 0, none, 0, 0, [], fun _ => 0⟩, .inl h0, by omega⟩
    · obtain ⟨g, o, spot⟩ := ad
      have first : ∃ v, w.cell? ⟨g, o, spot⟩ = some v := by
        obtain ⟨cs', h1, _⟩ := hx 0 (by omega)
        obtain ⟨_, hln, hcell⟩ := World.cells?_some h1
        rw [c6] at hln
        have := hcell 0 (by rw [c6]; omega)
        match cs', hln with
        | v :: _, _ => exact ⟨v, by simpa [Addr.add] using this⟩
      obtain ⟨v0, hv0⟩ := first
      have hs : spot = none := by simpa using World.cell?_spot hv0
      subst hs
      have each : ∀ i, i < len → ∃ v, QAt w g (o + i * 6) v := fun i hi => by
        obtain ⟨cs', h1, h2⟩ := hx i (by omega)
        obtain ⟨_, hln, hcell⟩ := World.cells?_some h1
        rw [c6] at hln hcell
        refine open_qop (fun j v hv => ?_) h2
        have hj : j < 6 := by
          rw [← hln]
          rcases Nat.lt_or_ge j cs'.length with h | h
          · exact h
          · rw [List.getElem?_eq_none h] at hv; cases hv
        have := hcell j hj
        rw [add_off, add_off] at this
        rw [this, hv]
      obtain ⟨F, hF⟩ : ∃ F : Nat → QOp, ∀ i, i < len → QAt w g (o + i * 6) (F i) := by
        refine ⟨fun i => if h : i < len then (each i h).choose else ⟨0, 0, none, 0, 0, [], fun _ => 0⟩, fun i hi => ?_⟩
        simp only [hi, dif_pos]
        exact (each i hi).choose_spec
      exact ⟨F, .inr ⟨g, o, rfl, lt_of_cell hv0, hF⟩, by omega⟩
/-- A call in a block of its own. -/
structure QpB (W : World) (q : Nat) (v : QOp) : Prop where
  heap : W.heap[q]? = some (.cells (qcs v).toArray 62 (0, 0))
section
variable {W W' : World} {q : Nat} {v : QOp}
theorem QpB.c0 (h : QpB W q v) : W.cell? ⟨q, 0, none⟩ = some (.int .i64 v.kind) := by simp [World.cell?, h.heap, qcs]
theorem QpB.c1 (h : QpB W q v) : W.cell? ⟨q, 1, none⟩ = some (.int .i64 v.n) := by simp [World.cell?, h.heap, qcs]
theorem QpB.c2 (h : QpB W q v) : W.cell? ⟨q, 2, none⟩ = some (.slice v.ba v.bl v.bc) := by simp [World.cell?, h.heap, qcs]
theorem QpB.cx (h : QpB W q v) {i : Nat} (hi : i < 3) : W.cell? ⟨q, 3 + i, none⟩ = some (.int .i64 (v.x i)) := by
  match i, hi with
  | 0, _ => simp [World.cell?, h.heap, qcs]
  | 1, _ => simp [World.cell?, h.heap, qcs]
  | 2, _ => simp [World.cell?, h.heap, qcs]
theorem QpB.of {P : Nat → Prop} (h : QpB W q v) (k : Tp P W W') (hp : P q) : QpB W' q v := ⟨(k.2 q hp).trans h.heap⟩
theorem QpB.new (W : World) (v : QOp) : QpB (W.alloc (.cells (qcs v).toArray 62)) W.heap.size v := ⟨heap_alloc_new _ _⟩
end
end Go.Proofs.Ytencinajieicpaa
