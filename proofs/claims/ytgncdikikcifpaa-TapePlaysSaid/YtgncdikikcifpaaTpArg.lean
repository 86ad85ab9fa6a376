/- The scripts of stage 11's laws that come in: slices of calls. -/
import Derived.Test.YtgncdikikcifpaaTpAwake
import Derived.ProofKit
import Derived.OpenShut
import Derived.Deep.Slices
namespace Go.Proofs.Ytgncdikikcifpaa
open Go.RowKit
open Go.ChangeShapes Go.WideShapes Go.ChangeAt
set_option linter.unusedVariables false

/-- One call of the script. -/
structure TOp where
  kind : Int
  n : Int
  ba : Option Addr
  bl : Nat
  bc : Nat
  zs : List Int
structure TAt (w : World) (g o : Nat) (v : TOp) : Prop where
  c0 : w.cell? ⟨g, o, none⟩ = some (.int .i64 v.kind)
  c1 : w.cell? ⟨g, o + 1, none⟩ = some (.int .i64 v.n)
  c2 : w.cell? ⟨g, o + 2, none⟩ = some (.slice v.ba v.bl v.bc)
  wn : (Lit.int .i64 v.n).wf = true
  wb : CameIn w v.ba v.bl v.bc v.zs
/-- What is known of a script that came in. -/
def CameT (w : World) (a : Option Addr) (len : Nat) (F : Nat → TOp) : Prop :=
  (len = 0 ∨ ∃ g o, a = some ⟨g, o, none⟩ ∧ g < w.heap.size ∧ ∀ i, i < len → TAt w g (o + i * 3) (F i)) ∧ len ≤ 9223372036854775807
set_option maxRecDepth 100000 in
theorem open_top {H : Type} {enc : TypeId × Value → H} {w : World} {held : Bool} {n : Nat} {cs : List Value} {y : DataW H × List MemPlace} {g o : Nat} (hc : ∀ j v, cs[j]? = some v → w.cell? ⟨g, o + j, none⟩ = some v)
    (h : DataW.trod enc Try.prog w 0 (fun _ => true) held n 42 cs = some y) : ∃ v, TAt w g o v := by
  obtain ⟨xs, k, _, _, hl, hxl, hf⟩ := DataW.trod_struct Try.underlying42 h
  have hl3 : cs.length = 3 := hl.trans (by kernel_rfl)
  match cs, hl3 with
  | [v0, v1, v2], _ =>
    have hx3 : xs.length = 3 := hxl
    match xs, hx3 with
    | [y0, y1, y2], _ =>
      have ci : Try.prog.cellsOf 3 = 1 := by kernel_rfl
      have cb : Try.prog.cellsOf 5 = 1 := by kernel_rfl
      have cl : Try.prog.cellsOf 22 = 1 := by kernel_rfl
      have g0 := hf 0 _ rfl
      have g1 := hf 1 _ rfl
      have g2 := hf 2 _ rfl
      simp [ci, cl] at g0 g1 g2
      obtain ⟨z0, q0, _, _⟩ := DataW.trod_int Try.underlying3 g0
      obtain ⟨z1, q1, _, w1⟩ := DataW.trod_int Try.underlying3 g1
      obtain ⟨ba, bl, bc, zs, q2, hb⟩ : ∃ ba bl bc zs, v2 = .slice ba bl bc ∧ CameIn w ba bl bc zs := by
        rcases open_ints Try.underlying22 Try.underlying5 cb g2 with ⟨e, _⟩ | ⟨a, l, c, zs, e, _, hl, hm, hz, _, hcell, hwz⟩
        · exact ⟨none, 0, 0, [], by simpa using e, .inl ⟨rfl, rfl, rfl, rfl⟩⟩
        · exact ⟨some a, l, c, zs, by simpa using e, .inr ⟨a, rfl, hl, hm, by simpa using hz, hcell, hwz⟩⟩
      simp only [List.cons.injEq, and_true] at q0 q1
      subst q0 q1 q2
      exact ⟨⟨z0, z1, ba, bl, bc, zs⟩, hc 0 _ rfl, hc 1 _ rfl, hc 2 _ rfl, w1, hb⟩
theorem open_tops {H : Type} {enc : TypeId × Value → H} {w : World} {held : Bool} {fuel : Nat} {a : Option Addr} {len cap : Nat} {x : DataW H × List MemPlace}
    (h : DataW.trod enc Try.prog w 0 (fun _ => true) held fuel 34 [.slice a len cap] = some x) : ∃ F, CameT w a len F := by
  have c3 : Try.prog.cellsOf 42 = 3 := by kernel_rfl
  rcases Go.Deep.open_slice Try.underlying34 h with ⟨e, _⟩ | ⟨ad, l, c, m, n, D, Pl, e, _, hl, hm, hmm, _, hx⟩
  · simp at e
    obtain ⟨rfl, rfl, rfl⟩ := e
    exact ⟨fun _ => ⟨0, 0, none, 0, 0, []⟩, .inl rfl, by omega⟩
  · simp at e
    obtain ⟨rfl, rfl, rfl⟩ := e
    simp only [if_true] at hmm
    unfold maxLen at hm
    by_cases h0 : len = 0
    · exact ⟨fun _ => ⟨0, 0, none, 0, 0, []⟩, .inl h0, by omega⟩
    · obtain ⟨g, o, spot⟩ := ad
      have first : ∃ v, w.cell? ⟨g, o, spot⟩ = some v := by
        obtain ⟨cs', h1, _⟩ := hx 0 (by omega)
        obtain ⟨_, hln, hcell⟩ := World.cells?_some h1
        rw [c3] at hln
        have := hcell 0 (by rw [c3]; omega)
        match cs', hln with
        | v :: _, _ => exact ⟨v, by simpa [Addr.add] using this⟩
      obtain ⟨v0, hv0⟩ := first
      have hs : spot = none := by simpa using World.cell?_spot hv0
      subst hs
      have each : ∀ i, i < len → ∃ v, TAt w g (o + i * 3) v := fun i hi => by
        obtain ⟨cs', h1, h2⟩ := hx i (by omega)
        obtain ⟨_, hln, hcell⟩ := World.cells?_some h1
        rw [c3] at hln hcell
        refine open_top (fun j v hv => ?_) h2
        have hj : j < 3 := by
          rw [← hln]
          rcases Nat.lt_or_ge j cs'.length with h | h
          · exact h
          · rw [List.getElem?_eq_none h] at hv; cases hv
        have := hcell j hj
        rw [add_off, add_off] at this
        rw [this, hv]
      obtain ⟨F, hF⟩ : ∃ F : Nat → TOp, ∀ i, i < len → TAt w g (o + i * 3) (F i) := by
        refine ⟨fun i => if h : i < len then (each i h).choose else ⟨0, 0, none, 0, 0, []⟩, fun i hi => ?_⟩
        simp only [hi, dif_pos]
        exact (each i hi).choose_spec
      exact ⟨F, .inr ⟨g, o, rfl, lt_of_cell hv0, hF⟩, by omega⟩
end Go.Proofs.Ytgncdikikcifpaa
