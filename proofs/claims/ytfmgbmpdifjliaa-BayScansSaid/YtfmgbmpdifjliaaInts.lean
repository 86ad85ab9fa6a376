/- Slices of ints that came in. -/
import Derived.Test.YtfmgbmpdifjliaaPadBase
namespace Go.Proofs.Ytfmgbmpdifjliaa
open Go.RowKit
set_option linter.unusedVariables false

/-- A slice of ints that came in: each of its cells holds f there, in every world that is as w was. -/
structure SlI (w : World) (a : Option Addr) (n : Nat) (f : Nat → Int) : Prop where
  row : n = 0 ∨ ∃ g o, a = some ⟨g, o, none⟩ ∧ g < w.heap.size ∧ ∀ i, i < n → w.cell? ⟨g, o + i, none⟩ = some (.int .i64 (f i))
  le : n ≤ 9223372036854775807
theorem SlI.nxt {w w' : World} {a : Option Addr} {n : Nat} {f : Nat → Int} (h : SlI w a n f) (u : Up Nul w w') : SlI w' a n f := by
  refine ⟨?_, h.le⟩
  rcases h.row with e | ⟨g, o, e, l, r⟩
  · exact .inl e
  · exact .inr ⟨g, o, e, Nat.lt_of_lt_of_le l u.size, fun i hi => (u.cell (p := ⟨g, o + i, none⟩) l id).trans (r i hi)⟩
/-- What the row's step knows of a slice of ints. -/
abbrev CameI (w : World) (a : Option Addr) (len cap : Nat) (zs : List Int) : Prop :=
  (a = none ∧ len = 0 ∧ cap = 0 ∧ zs = []) ∨
  ∃ x, a = some x ∧ len ≤ cap ∧ cap ≤ maxLen ∧ zs.length = cap ∧ (∀ i, i < zs.length → w.cell? (x.add i) = some (.int .i64 (zs.getD i 0))) ∧ ∀ n ∈ zs, (Lit.int .i64 n).wf = true
theorem SlI.of {w : World} {a : Option Addr} {len cap : Nat} {zs : List Int} (h : CameI w a len cap zs) : ∃ f, SlI w a len f := by
  rcases h with ⟨_, h, _⟩ | ⟨x, rfl, hl, hm, hz, hc, hw⟩
  · exact ⟨fun _ => 0, .inl h, by omega⟩
  · unfold maxLen at hm
    by_cases h0 : len = 0
    · exact ⟨fun _ => 0, .inl h0, by omega⟩
    · obtain ⟨b, o, spot⟩ := x
      have hc0 := hc 0 (by omega)
      have hs : spot = none := by simpa [Addr.add] using World.cell?_spot hc0
      subst hs
      refine ⟨fun i => zs.getD i 0, .inr ⟨b, o, rfl, lt_of_cell hc0, fun i hi => ?_⟩, by omega⟩
      have := hc i (by omega)
      rw [add_off] at this
      exact this
end Go.Proofs.Ytfmgbmpdifjliaa
