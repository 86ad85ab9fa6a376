/- The law MatMakes: rows of ints that came in. -/
import Derived.Test.YtoibfpcobhopeaaMatMakesWalk
namespace Go.Proofs.Ytoibfpcobhopeaa
open Go.RowKit
set_option linter.unusedVariables false

/-- What the row's step knows of a slice of ints. -/
abbrev CameI (w : World) (a : Option Addr) (len cap : Nat) (zs : List Int) : Prop :=
  (a = none ∧ len = 0 ∧ cap = 0 ∧ zs = []) ∨
  ∃ x, a = some x ∧ len ≤ cap ∧ cap ≤ maxLen ∧ zs.length = cap ∧ (∀ i, i < zs.length → w.cell? (x.add i) = some (.int .i64 (zs.getD i 0))) ∧ ∀ n ∈ zs, (Lit.int .i64 n).wf = true
theorem SlI.of {w : World} {a : Option Addr} {len cap : Nat} {zs : List Int} (h : CameI w a len cap zs) : ∃ f, SlI w a len f := by
  rcases h with ⟨_, h, _⟩ | ⟨x, rfl, hl, hm, hz, hc, hw⟩
  · exact ⟨fun _ => 0, .inl h, by omega⟩
  · unfold maxLen at hm
    by_cases h0 : len = 0
    · exact ⟨fun _ => 0, .inl h0, by omega⟩
    · obtain ⟨b, o, spot⟩ := x
      have hc0 := hc 0 (by omega)
      have hs : spot = none := by simpa [Addr.add] using World.cell?_spot hc0
      subst hs
      refine ⟨fun i => zs.getD i 0, .inr ⟨b, o, rfl, lt_of_cell hc0, fun i hi => ?_⟩, by omega⟩
      have := hc i (by omega)
      have ea : Addr.add ⟨b, o, none⟩ i = ⟨b, o + i, none⟩ := by
        by_cases h0 : i = 0
        · subst h0; simp [Addr.add]
        · simp [Addr.add, h0]
      rw [ea] at this
      exact this
theorem makes_walk (a0 a1 : Int) (a2 : Option Addr) (len2 cap2 : Nat) (z2 : List Int) (a3 a4 : Int) (a5 : Option Addr) (len5 cap5 : Nat) (z5 : List Int) (w : World) (w2 : CameIn w a2 len2 cap2 z2) (w5 : CameI w a5 len5 cap5 z5) :
    Calls Try.prog 5 #[.int .i64 a0, .int .i64 a1, .slice a2 len2 cap2, .int .i64 a3, .int .i64 a4, .slice a5 len5 cap5] w fun e w' => e = .returned (.bool true) ∧ Below w.heap.size w w' := by
  by_cases h : 1100 < len2 ∨ 40 < len5
  · exact makes_long a0 a1 a3 a4 a2 a5 len2 cap2 len5 cap5 w h
  · obtain ⟨z, hz⟩ := SlN.of w2
    obtain ⟨f, hf⟩ := SlI.of w5
    exact makes_short a0 a1 a3 a4 a2 a5 len2 cap2 len5 cap5 z w (by omega) (by omega) hz f hf
end Go.Proofs.Ytoibfpcobhopeaa
