/- Shards of one length: what 'Length' sees. -/
import Derived.Test.YtkenfabnbmkhbaaGreatDecMath
namespace Go.Proofs.YtkenfabnbmkhbaaGreat
open Go.RowKit
set_option linter.unusedVariables false

theorem seen_fine {S : Nat → Option (List Nat)} {n L : Nat} (hf : Fine S n L) : ∀ t, t ≤ n → (seen S t = -1 ∧ (Tl S t).length = 0) ∨ seen S t = L
  | 0, _ => .inl ⟨rfl, rfl⟩
  | t + 1, h => by
    rcases hz : S t with _ | z
    · rw [seen, hz, Tl_none hz]
      exact seen_fine hf t (by omega)
    · rw [seen, hz]
      exact .inr (congrArg Int.ofNat (hf t (by omega) z hz))
theorem fine_not_odd {S : Nat → Option (List Nat)} {n L : Nat} (hf : Fine S n L) (hL : L ≤ 64) : ∀ i, i < n → ¬ Odd1 S i := by
  rintro i hi ⟨z, hz, h⟩
  have hl := hf i hi z hz
  rcases h with ⟨h1, h2⟩ | h
  · rcases seen_fine hf i (by omega) with ⟨h3, _⟩ | h3
    · omega
    · rw [h3, hl] at h2; exact h2 rfl
  · omega
theorem seen_len {S : Nat → Option (List Nat)} {n L : Nat} (hf : Fine S n L) (h : 0 < (Tl S n).length) : seen S n = L := by
  rcases seen_fine hf n (Nat.le_refl _) with ⟨_, h2⟩ | h2
  · omega
  · exact h2
/-- Where no shard is odd, all have one length. -/
theorem fine_of {S : Nat → Option (List Nat)} : ∀ n, (∀ i, i < n → ¬ Odd1 S i) → ∃ L, L ≤ 64 ∧ Fine S n L ∧ (seen S n = -1 ∧ (Tl S n).length = 0 ∨ seen S n = L)
  | 0, _ => ⟨0, by omega, fun t ht => absurd ht (Nat.not_lt_zero _), .inl ⟨rfl, rfl⟩⟩
  | n + 1, h => by
    obtain ⟨L, hL, hf, hs⟩ := fine_of n fun i hi => h i (by omega)
    have hn := h n (by omega)
    rcases hz : S n with _ | z
    · refine ⟨L, hL, fun t ht y hy => ?_, ?_⟩
      · by_cases e : t = n
        · subst e; rw [hz] at hy; cases hy
        · exact hf t (by omega) y hy
      · rw [seen, hz, Tl_none hz]; exact hs
    · have h64 : z.length ≤ 64 := by
        have : ¬ 64 < z.length := fun h => hn ⟨z, hz, .inr h⟩
        omega
      refine ⟨z.length, h64, fun t ht y hy => ?_, .inr (by rw [seen, hz])⟩
      by_cases e : t = n
      · subst e; rw [hz] at hy; cases hy; rfl
      · have hl := hf t (by omega) y hy
        have hm : t ∈ Tl S n := Tl_iff.2 ⟨by omega, by rw [hy]; rfl⟩
        have hpos := List.length_pos_of_mem hm
        rcases hs with ⟨_, h2⟩ | h2
        · omega
        · have : seen S n = z.length := by
            by_cases e2 : seen S n = z.length
            · exact e2
            · exact absurd ⟨z, hz, .inl ⟨by omega, e2⟩⟩ hn
          omega
/-- Where one is odd, the program's test tells it. -/
theorem odd_ul {S : Nat → Option (List Nat)} {n : Nat} (h : ∃ i, i < n ∧ Odd1 S i) : ∃ i, i < (Tl S n).length ∧ UL (lenT S n) i := by
  refine Classical.byContradiction fun hno => ?_
  have hall : ∀ i, i < (Tl S n).length → lenT S n i ≤ 64 ∧ lenT S n i = lenT S n 0 := fun i hi => by
    have : ¬ UL (lenT S n) i := fun hu => hno ⟨i, hi, hu⟩
    unfold UL at this
    omega
  have hat : ∀ t, t < n → ∀ z, S t = some z → z.length ≤ 64 ∧ z.length = lenT S n 0 := fun t ht z hz => by
    obtain ⟨h1, h2⟩ := Tl_at hz n ht
    have := hall _ h2
    unfold lenT at this ⊢
    rw [h1, hz] at this
    exact this
  obtain ⟨i, hi, z, hz, ho⟩ := h
  have hf : Fine S n (lenT S n 0) := fun t ht z hz => (hat t ht z hz).2
  have hzz := hat i hi z hz
  exact fine_not_odd hf (by omega) i hi ⟨z, hz, ho⟩
end Go.Proofs.YtkenfabnbmkhbaaGreat
