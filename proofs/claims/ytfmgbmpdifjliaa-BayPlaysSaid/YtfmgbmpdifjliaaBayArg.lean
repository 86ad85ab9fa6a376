/- The script of the law BayPlays that comes in: a slice of calls. -/
import Derived.Test.YtfmgbmpdifjliaaBayBoth
import Derived.ProofKit
import Derived.OpenShut
import Derived.Deep.Slices
namespace Go.Proofs.Ytfmgbmpdifjliaa
open Go.RowKit
open Go.ChangeShapes Go.WideShapes Go.ChangeAt
set_option linter.unusedVariables false

/-- One call of the script. -/
structure OpV where
  kind : Int
  slot : Int
  at_ : Int
  n : Int
  fill : Int
  ba : Option Addr
  bl : Nat
  bc : Nat
  zs : List Int
structure OpAt (w : World) (g o : Nat) (v : OpV) : Prop where
  c0 : w.cell? ⟨g, o, none⟩ = some (.int .i64 v.kind)
  c1 : w.cell? ⟨g, o + 1, none⟩ = some (.int .i64 v.slot)
  c2 : w.cell? ⟨g, o + 2, none⟩ = some (.int .i64 v.at_)
  c3 : w.cell? ⟨g, o + 3, none⟩ = some (.int .i64 v.n)
  c4 : w.cell? ⟨g, o + 4, none⟩ = some (.int .u8 v.fill)
  c5 : w.cell? ⟨g, o + 5, none⟩ = some (.slice v.ba v.bl v.bc)
  wa : (Lit.int .i64 v.at_).wf = true
  wn : (Lit.int .i64 v.n).wf = true
  wf : (Lit.int .u8 v.fill).wf = true
  wb : CameIn w v.ba v.bl v.bc v.zs
/-- What is known of a script that came in. -/
def CameO (w : World) (a : Option Addr) (len : Nat) (F : Nat → OpV) : Prop :=
  (len = 0 ∨ ∃ g o, a = some ⟨g, o, none⟩ ∧ g < w.heap.size ∧ ∀ i, i < len → OpAt w g (o + i * 6) (F i)) ∧ len ≤ 9223372036854775807
set_option maxRecDepth 100000 in
theorem open_op {H : Type} {enc : TypeId × Value → H} {w : World} {held : Bool} {n : Nat} {cs : List Value} {y : DataW H × List MemPlace} {g o : Nat} (hc : ∀ j v, cs[j]? = some v → w.cell? ⟨g, o + j, none⟩ = some v)
    (h : DataW.trod enc Try.prog w 0 (fun _ => true) held n 52 cs = some y) : ∃ v, OpAt w g o v := by
  obtain ⟨xs, k, _, _, hl, hxl, hf⟩ := DataW.trod_struct Try.underlying52 h
  have hl6 : cs.length = 6 := hl.trans (by kernel_rfl)
  match cs, hl6 with
  | [v0, v1, v2, v3, v4, v5], _ =>
    have hx6 : xs.length = 6 := hxl
    match xs, hx6 with
    | [y0, y1, y2, y3, y4, y5], _ =>
      have ci : Try.prog.cellsOf 3 = 1 := by kernel_rfl
      have cb : Try.prog.cellsOf 5 = 1 := by kernel_rfl
      have cl : Try.prog.cellsOf 32 = 1 := by kernel_rfl
      have g0 := hf 0 _ rfl
      have g1 := hf 1 _ rfl
      have g2 := hf 2 _ rfl
      have g3 := hf 3 _ rfl
      have g4 := hf 4 _ rfl
      have g5 := hf 5 _ rfl
      simp [ci, cb, cl] at g0 g1 g2 g3 g4 g5
      obtain ⟨z0, q0, _, _⟩ := DataW.trod_int Try.underlying3 g0
      obtain ⟨z1, q1, _, _⟩ := DataW.trod_int Try.underlying3 g1
      obtain ⟨z2, q2, _, w2⟩ := DataW.trod_int Try.underlying3 g2
      obtain ⟨z3, q3, _, w3⟩ := DataW.trod_int Try.underlying3 g3
      obtain ⟨z4, q4, _, w4⟩ := DataW.trod_int Try.underlying5 g4
      obtain ⟨ba, bl, bc, zs, q5, hb⟩ : ∃ ba bl bc zs, v5 = .slice ba bl bc ∧ CameIn w ba bl bc zs := by
        rcases open_ints Try.underlying32 Try.underlying5 cb g5 with ⟨e, _⟩ | ⟨a, l, c, zs, e, _, hl, hm, hz, _, hcell, hwz⟩
        · exact ⟨none, 0, 0, [], by simpa using e, .inl ⟨rfl, rfl, rfl, rfl⟩⟩
        · exact ⟨some a, l, c, zs, by simpa using e, .inr ⟨a, rfl, hl, hm, by simpa using hz, hcell, hwz⟩⟩
      simp only [List.cons.injEq, and_true] at q0 q1 q2 q3 q4
      subst q0 q1 q2 q3 q4 q5
      exact ⟨⟨z0, z1, z2, z3, z4, ba, bl, bc, zs⟩, hc 0 _ rfl, hc 1 _ rfl, hc 2 _ rfl, hc 3 _ rfl, hc 4 _ rfl, hc 5 _ rfl, w2, w3, w4, hb⟩
theorem open_ops {H : Type} {enc : TypeId × Value → H} {w : World} {held : Bool} {fuel : Nat} {a : Option Addr} {len cap : Nat} {x : DataW H × List MemPlace}
    (h : DataW.trod enc Try.prog w 0 (fun _ => true) held fuel 45 [.slice a len cap] = some x) : ∃ F, CameO w a len F := by
  have c6 : Try.prog.cellsOf 52 = 6 := by kernel_rfl
  rcases Go.Deep.open_slice Try.underlying45 h with ⟨e, _⟩ | ⟨ad, l, c, m, n, D, Pl, e, _, hl, hm, hmm, _, hx⟩
  · simp at e
    obtain ⟨rfl, rfl, rfl⟩ := e
    exact ⟨fun _ => ⟨0, 0, 0, 0, 0, none, 0, 0, []⟩, .inl rfl, by omega⟩
  · simp at e
    obtain ⟨rfl, rfl, rfl⟩ := e
    simp only [if_true] at hmm
    unfold maxLen at hm
    by_cases h0 : len = 0
    · exact ⟨fun _ => ⟨0, 0, 0, 0, 0, none, 0, 0, []⟩, .inl h0, by omega⟩
    · obtain ⟨g, o, spot⟩ := ad
      have first : ∃ v, w.cell? ⟨g, o, spot⟩ = some v := by
        obtain ⟨cs', h1, _⟩ := hx 0 (by omega)
        obtain ⟨_, hln, hcell⟩ := World.cells?_some h1
        rw [c6] at hln
        have := hcell 0 (by rw [c6]; omega)
        match cs', hln with
        | v :: _, _ => exact ⟨v, by simpa [Addr.add] using this⟩
      obtain ⟨v0, hv0⟩ := first
      have hs : spot = none := by simpa using World.cell?_spot hv0
      subst hs
      have each : ∀ i, i < len → ∃ v, OpAt w g (o + i * 6) v := fun i hi => by
        obtain ⟨cs', h1, h2⟩ := hx i (by omega)
        obtain ⟨_, hln, hcell⟩ := World.cells?_some h1
        rw [c6] at hln hcell
        refine open_op (fun j v hv => ?_) h2
        have hj : j < 6 := by
          rw [← hln]
          rcases Nat.lt_or_ge j cs'.length with h | h
          · exact h
          · rw [List.getElem?_eq_none h] at hv; cases hv
        have := hcell j hj
        rw [add_off, add_off] at this
        rw [this, hv]
      obtain ⟨F, hF⟩ : ∃ F : Nat → OpV, ∀ i, i < len → OpAt w g (o + i * 6) (F i) := by
        refine ⟨fun i => if h : i < len then (each i h).choose else ⟨0, 0, 0, 0, 0, none, 0, 0, []⟩, fun i hi => ?_⟩
        simp only [hi, dif_pos]
        exact (each i hi).choose_spec
      exact ⟨F, .inr ⟨g, o, rfl, lt_of_cell hv0, hF⟩, by omega⟩
end Go.Proofs.Ytfmgbmpdifjliaa
