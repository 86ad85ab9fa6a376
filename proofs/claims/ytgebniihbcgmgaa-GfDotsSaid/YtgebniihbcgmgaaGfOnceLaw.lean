/- A row of bytes that came in, as the walks ask for it; the law GfOnce. -/
import Derived.Test.YtgebniihbcgmgaaGfOnceWalk
namespace Go.Proofs.Ytgebniihbcgmgaa
open Go.RowKit
set_option linter.unusedVariables false

/-- What the row's step knows of a slice of bytes. -/
abbrev CameIn (w : World) (a : Option Addr) (len cap : Nat) (zs : List Int) : Prop :=
  (a = none ∧ len = 0 ∧ cap = 0 ∧ zs = []) ∨
  ∃ x, a = some x ∧ len ≤ cap ∧ cap ≤ maxLen ∧ zs.length = cap ∧ (∀ i, i < zs.length → w.cell? (x.add i) = some (.int .u8 (zs.getD i 0))) ∧ ∀ n ∈ zs, (Lit.int .u8 n).wf = true

theorem lt_of_cell {w : World} {a : Addr} {v : Value} (h : w.cell? a = some v) : a.block < w.heap.size := by
  unfold World.cell? at h
  rcases Nat.lt_or_ge a.block w.heap.size with h' | h'
  · exact h'
  · rw [Array.getElem?_eq_none h'] at h
    cases h

theorem came_in {w : World} {a : Option Addr} {len cap : Nat} {zs : List Int} (h : CameIn w a len cap zs) :
    len = 0 ∨ ∃ (b o : Nat) (z : List Nat), a = some ⟨b, o, none⟩ ∧ z.length = len ∧ Row w b o z ∧ b < w.heap.size ∧ len ≤ 9223372036854775807 := by
  rcases h with ⟨_, h, _⟩ | ⟨x, rfl, hl, hm, hz, hc, hw⟩
  · exact .inl h
  · by_cases h0 : len = 0
    · exact .inl h0
    · obtain ⟨b, o, spot⟩ := x
      have hc0 := hc 0 (by omega)
      have hs : spot = none := by simpa [Addr.add] using World.cell?_spot hc0
      subst hs
      unfold maxLen at hm
      have hlen : ((zs.take len).map Int.toNat).length = len := by simp; omega
      have hget : ∀ i, i < len → ((((zs.take len).map Int.toNat).getD i 0 : Nat) : Int) = zs.getD i 0 := fun i hi => by
        have hz' : i < zs.length := by omega
        have hwi := bounds_u8 (hw (zs[i]) (List.getElem_mem hz'))
        simp [List.getD_eq_getElem?_getD, hi, List.getElem?_eq_getElem hz']
        omega
      refine .inr ⟨b, o, (zs.take len).map Int.toNat, rfl, hlen, ⟨fun i hi => ?_, fun i => ?_⟩, lt_of_cell hc0, by omega⟩
      · rw [hlen] at hi
        have := hc i (by omega)
        rw [hget i hi]
        have ea : Addr.add ⟨b, o, none⟩ i = ⟨b, o + i, none⟩ := by
          by_cases h0 : i = 0
          · subst h0; simp [Addr.add]
          · simp [Addr.add, h0]
        rw [ea] at this
        exact this
      · rcases Nat.lt_or_ge i len with hi | hi
        · have hz' : i < zs.length := by omega
          have hwi := bounds_u8 (hw (zs[i]) (List.getElem_mem hz'))
          have := hget i hi
          simp [List.getD_eq_getElem?_getD, List.getElem?_eq_getElem hz'] at this
          simp [List.getD_eq_getElem?_getD]
          omega
        · have : ((zs.take len).map Int.toNat)[i]? = none := List.getElem?_eq_none (by omega)
          simp only [List.getD_eq_getElem?_getD, this]
          decide

theorem once_walk (a : Option Addr) (len cap : Nat) (zs : List Int) (w : World) (h : CameIn w a len cap zs) :
    Calls Try.prog 8 #[.slice a len cap] w fun e w' => e = .returned (.bool true) ∧ Below w.heap.size w w' := by
  rcases came_in h with rfl | ⟨b, o, z, rfl, rfl, r, hb, hm⟩
  · exact once_none a cap w
  · exact once_row b o cap z w r hb hm
end Go.Proofs.Ytgebniihbcgmgaa
