/- What is known of a record that may be, a Kind at a time, in plain numbers. -/
import Derived.Test.YtpdkcpjofofkoaaDoorRcRef1
import Derived.Test.YtpdkcpjofofkoaaDoorRcBlk
import Derived.Test.YtpdkcpjofofkoaaDoorRcBoundsMath
set_option maxRecDepth 100000
namespace Go.Proofs.YtpdkcpjofofkoaaDoor
open Go.RowKit
set_option linter.unusedVariables false

theorem okF1 {r : Rc} (hk : r.kind = 1) : OkF r ↔ (1 ≤ ((r.key.size : Nat) : Int) ∧ ((r.key.size : Nat) : Int) ≤ 16) ∧ (∀ c ∈ nums r.key, 33 ≤ c ∧ c ≤ 126) ∧ (0 ≤ r.n ∧ r.n ≤ 64) ∧ (1 ≤ r.sid ∧ r.sid ≤ 2147483647) ∧ (0 ≤ r.colour ∧ r.colour ≤ 0) ∧ ((r.sids.length : Nat) : Int) = 0 ∧ (∀ x ∈ r.sids, 0 ≤ x ∧ x ≤ 0) ∧ ((r.locs.length : Nat) : Int) = 3 + 0 * ((nz r.sids : Nat) : Int) ∧ (∀ l ∈ r.locs, (0 ≤ l.d ∧ l.d ≤ 23) ∧ (0 ≤ l.s ∧ l.s ≤ 63) ∧ 1 ≤ l.i ∧ l.i ≤ 2147483647) ∧ (0 ≤ r.t.hot ∧ r.t.hot ≤ 0) ∧ (0 ≤ r.t.warm ∧ r.t.warm ≤ 0) ∧ (0 ≤ r.t.gap ∧ r.t.gap ≤ 0) ∧ (0 ≤ r.t.add ∧ r.t.add ≤ 0) ∧ (0 ≤ r.t.top ∧ r.t.top ≤ 0) ∧ (0 ≤ r.t.half ∧ r.t.half ≤ 0) := by
  have e : kn r = 1 := by simp [kn, hk]
  constructor
  · intro F
    obtain ⟨_, _, _, h1, h2, h3, h4, h5, h6, h7, h8, h9, h10⟩ := F
    rw [e] at h1 h3 h4 h5 h6 h7 h8 h10
    exact ⟨h1, h2, h3, h4, h5, h6, h7, h8, h9, h10 _ (by simp [Tb.l]), h10 _ (by simp [Tb.l]), h10 _ (by simp [Tb.l]), h10 _ (by simp [Tb.l]), h10 _ (by simp [Tb.l]), h10 _ (by simp [Tb.l])⟩
  · rintro ⟨h1, h2, h3, h4, h5, h6, h7, h8, h9, t0, t1, t2, t3, t4, t5⟩
    refine ⟨by rw [e]; decide, by rw [e]; decide, by rw [e, hk]; rfl, ?_, h2, ?_, ?_, ?_, ?_, ?_, ?_, h9, ?_⟩ <;> rw [e]
    · exact h1
    · exact h3
    · exact h4
    · exact h5
    · exact h6
    · exact h7
    · exact h8
    · intro x hx
      have hx : x = r.t.hot ∨ x = r.t.warm ∨ x = r.t.gap ∨ x = r.t.add ∨ x = r.t.top ∨ x = r.t.half := by simpa [Tb.l] using hx
      rcases hx with rfl | rfl | rfl | rfl | rfl | rfl <;> assumption
theorem okF2 {r : Rc} (hk : r.kind = 2) : OkF r ↔ (1 ≤ ((r.key.size : Nat) : Int) ∧ ((r.key.size : Nat) : Int) ≤ 16) ∧ (∀ c ∈ nums r.key, 33 ≤ c ∧ c ≤ 126) ∧ (0 ≤ r.n ∧ r.n ≤ 0) ∧ (0 ≤ r.sid ∧ r.sid ≤ 0) ∧ (0 ≤ r.colour ∧ r.colour ≤ 0) ∧ ((r.sids.length : Nat) : Int) = 0 ∧ (∀ x ∈ r.sids, 0 ≤ x ∧ x ≤ 0) ∧ ((r.locs.length : Nat) : Int) = 0 + 0 * ((nz r.sids : Nat) : Int) ∧ (∀ l ∈ r.locs, (0 ≤ l.d ∧ l.d ≤ 23) ∧ (0 ≤ l.s ∧ l.s ≤ 63) ∧ 1 ≤ l.i ∧ l.i ≤ 2147483647) ∧ (0 ≤ r.t.hot ∧ r.t.hot ≤ 0) ∧ (0 ≤ r.t.warm ∧ r.t.warm ≤ 0) ∧ (0 ≤ r.t.gap ∧ r.t.gap ≤ 0) ∧ (0 ≤ r.t.add ∧ r.t.add ≤ 0) ∧ (0 ≤ r.t.top ∧ r.t.top ≤ 0) ∧ (0 ≤ r.t.half ∧ r.t.half ≤ 0) := by
  have e : kn r = 2 := by simp [kn, hk]
  constructor
  · intro F
    obtain ⟨_, _, _, h1, h2, h3, h4, h5, h6, h7, h8, h9, h10⟩ := F
    rw [e] at h1 h3 h4 h5 h6 h7 h8 h10
    exact ⟨h1, h2, h3, h4, h5, h6, h7, h8, h9, h10 _ (by simp [Tb.l]), h10 _ (by simp [Tb.l]), h10 _ (by simp [Tb.l]), h10 _ (by simp [Tb.l]), h10 _ (by simp [Tb.l]), h10 _ (by simp [Tb.l])⟩
  · rintro ⟨h1, h2, h3, h4, h5, h6, h7, h8, h9, t0, t1, t2, t3, t4, t5⟩
    refine ⟨by rw [e]; decide, by rw [e]; decide, by rw [e, hk]; rfl, ?_, h2, ?_, ?_, ?_, ?_, ?_, ?_, h9, ?_⟩ <;> rw [e]
    · exact h1
    · exact h3
    · exact h4
    · exact h5
    · exact h6
    · exact h7
    · exact h8
    · intro x hx
      have hx : x = r.t.hot ∨ x = r.t.warm ∨ x = r.t.gap ∨ x = r.t.add ∨ x = r.t.top ∨ x = r.t.half := by simpa [Tb.l] using hx
      rcases hx with rfl | rfl | rfl | rfl | rfl | rfl <;> assumption
theorem okF3 {r : Rc} (hk : r.kind = 3) : OkF r ↔ (1 ≤ ((r.key.size : Nat) : Int) ∧ ((r.key.size : Nat) : Int) ≤ 16) ∧ (∀ c ∈ nums r.key, 33 ≤ c ∧ c ≤ 126) ∧ (0 ≤ r.n ∧ r.n ≤ 0) ∧ (1 ≤ r.sid ∧ r.sid ≤ 2147483647) ∧ (0 ≤ r.colour ∧ r.colour ≤ 2) ∧ ((r.sids.length : Nat) : Int) = 0 ∧ (∀ x ∈ r.sids, 0 ≤ x ∧ x ≤ 0) ∧ ((r.locs.length : Nat) : Int) = 6 + 0 * ((nz r.sids : Nat) : Int) ∧ (∀ l ∈ r.locs, (0 ≤ l.d ∧ l.d ≤ 23) ∧ (0 ≤ l.s ∧ l.s ≤ 63) ∧ 1 ≤ l.i ∧ l.i ≤ 2147483647) ∧ (0 ≤ r.t.hot ∧ r.t.hot ≤ 0) ∧ (0 ≤ r.t.warm ∧ r.t.warm ≤ 0) ∧ (0 ≤ r.t.gap ∧ r.t.gap ≤ 0) ∧ (0 ≤ r.t.add ∧ r.t.add ≤ 0) ∧ (0 ≤ r.t.top ∧ r.t.top ≤ 0) ∧ (0 ≤ r.t.half ∧ r.t.half ≤ 0) := by
  have e : kn r = 3 := by simp [kn, hk]
  constructor
  · intro F
    obtain ⟨_, _, _, h1, h2, h3, h4, h5, h6, h7, h8, h9, h10⟩ := F
    rw [e] at h1 h3 h4 h5 h6 h7 h8 h10
    exact ⟨h1, h2, h3, h4, h5, h6, h7, h8, h9, h10 _ (by simp [Tb.l]), h10 _ (by simp [Tb.l]), h10 _ (by simp [Tb.l]), h10 _ (by simp [Tb.l]), h10 _ (by simp [Tb.l]), h10 _ (by simp [Tb.l])⟩
  · rintro ⟨h1, h2, h3, h4, h5, h6, h7, h8, h9, t0, t1, t2, t3, t4, t5⟩
    refine ⟨by rw [e]; decide, by rw [e]; decide, by rw [e, hk]; rfl, ?_, h2, ?_, ?_, ?_, ?_, ?_, ?_, h9, ?_⟩ <;> rw [e]
    · exact h1
    · exact h3
    · exact h4
    · exact h5
    · exact h6
    · exact h7
    · exact h8
    · intro x hx
      have hx : x = r.t.hot ∨ x = r.t.warm ∨ x = r.t.gap ∨ x = r.t.add ∨ x = r.t.top ∨ x = r.t.half := by simpa [Tb.l] using hx
      rcases hx with rfl | rfl | rfl | rfl | rfl | rfl <;> assumption
theorem okF4 {r : Rc} (hk : r.kind = 4) : OkF r ↔ (1 ≤ ((r.key.size : Nat) : Int) ∧ ((r.key.size : Nat) : Int) ≤ 16) ∧ (∀ c ∈ nums r.key, 33 ≤ c ∧ c ≤ 126) ∧ (0 ≤ r.n ∧ r.n ≤ 0) ∧ (1 ≤ r.sid ∧ r.sid ≤ 2147483647) ∧ (0 ≤ r.colour ∧ r.colour ≤ 0) ∧ ((r.sids.length : Nat) : Int) = 0 ∧ (∀ x ∈ r.sids, 0 ≤ x ∧ x ≤ 0) ∧ ((r.locs.length : Nat) : Int) = 3 + 0 * ((nz r.sids : Nat) : Int) ∧ (∀ l ∈ r.locs, (0 ≤ l.d ∧ l.d ≤ 23) ∧ (0 ≤ l.s ∧ l.s ≤ 63) ∧ 1 ≤ l.i ∧ l.i ≤ 2147483647) ∧ (0 ≤ r.t.hot ∧ r.t.hot ≤ 0) ∧ (0 ≤ r.t.warm ∧ r.t.warm ≤ 0) ∧ (0 ≤ r.t.gap ∧ r.t.gap ≤ 0) ∧ (0 ≤ r.t.add ∧ r.t.add ≤ 0) ∧ (0 ≤ r.t.top ∧ r.t.top ≤ 0) ∧ (0 ≤ r.t.half ∧ r.t.half ≤ 0) := by
  have e : kn r = 4 := by simp [kn, hk]
  constructor
  · intro F
    obtain ⟨_, _, _, h1, h2, h3, h4, h5, h6, h7, h8, h9, h10⟩ := F
    rw [e] at h1 h3 h4 h5 h6 h7 h8 h10
    exact ⟨h1, h2, h3, h4, h5, h6, h7, h8, h9, h10 _ (by simp [Tb.l]), h10 _ (by simp [Tb.l]), h10 _ (by simp [Tb.l]), h10 _ (by simp [Tb.l]), h10 _ (by simp [Tb.l]), h10 _ (by simp [Tb.l])⟩
  · rintro ⟨h1, h2, h3, h4, h5, h6, h7, h8, h9, t0, t1, t2, t3, t4, t5⟩
    refine ⟨by rw [e]; decide, by rw [e]; decide, by rw [e, hk]; rfl, ?_, h2, ?_, ?_, ?_, ?_, ?_, ?_, h9, ?_⟩ <;> rw [e]
    · exact h1
    · exact h3
    · exact h4
    · exact h5
    · exact h6
    · exact h7
    · exact h8
    · intro x hx
      have hx : x = r.t.hot ∨ x = r.t.warm ∨ x = r.t.gap ∨ x = r.t.add ∨ x = r.t.top ∨ x = r.t.half := by simpa [Tb.l] using hx
      rcases hx with rfl | rfl | rfl | rfl | rfl | rfl <;> assumption
theorem okF5 {r : Rc} (hk : r.kind = 5) : OkF r ↔ (0 ≤ ((r.key.size : Nat) : Int) ∧ ((r.key.size : Nat) : Int) ≤ 0) ∧ (∀ c ∈ nums r.key, 33 ≤ c ∧ c ≤ 126) ∧ (0 ≤ r.n ∧ r.n ≤ 0) ∧ (1 ≤ r.sid ∧ r.sid ≤ 2147483647) ∧ (0 ≤ r.colour ∧ r.colour ≤ 0) ∧ ((r.sids.length : Nat) : Int) = 3 ∧ (∀ x ∈ r.sids, 1 ≤ x ∧ x ≤ 2147483647) ∧ ((r.locs.length : Nat) : Int) = 4 + 0 * ((nz r.sids : Nat) : Int) ∧ (∀ l ∈ r.locs, (0 ≤ l.d ∧ l.d ≤ 23) ∧ (0 ≤ l.s ∧ l.s ≤ 63) ∧ 1 ≤ l.i ∧ l.i ≤ 2147483647) ∧ (0 ≤ r.t.hot ∧ r.t.hot ≤ 0) ∧ (0 ≤ r.t.warm ∧ r.t.warm ≤ 0) ∧ (0 ≤ r.t.gap ∧ r.t.gap ≤ 0) ∧ (0 ≤ r.t.add ∧ r.t.add ≤ 0) ∧ (0 ≤ r.t.top ∧ r.t.top ≤ 0) ∧ (0 ≤ r.t.half ∧ r.t.half ≤ 0) := by
  have e : kn r = 5 := by simp [kn, hk]
  constructor
  · intro F
    obtain ⟨_, _, _, h1, h2, h3, h4, h5, h6, h7, h8, h9, h10⟩ := F
    rw [e] at h1 h3 h4 h5 h6 h7 h8 h10
    exact ⟨h1, h2, h3, h4, h5, h6, h7, h8, h9, h10 _ (by simp [Tb.l]), h10 _ (by simp [Tb.l]), h10 _ (by simp [Tb.l]), h10 _ (by simp [Tb.l]), h10 _ (by simp [Tb.l]), h10 _ (by simp [Tb.l])⟩
  · rintro ⟨h1, h2, h3, h4, h5, h6, h7, h8, h9, t0, t1, t2, t3, t4, t5⟩
    refine ⟨by rw [e]; decide, by rw [e]; decide, by rw [e, hk]; rfl, ?_, h2, ?_, ?_, ?_, ?_, ?_, ?_, h9, ?_⟩ <;> rw [e]
    · exact h1
    · exact h3
    · exact h4
    · exact h5
    · exact h6
    · exact h7
    · exact h8
    · intro x hx
      have hx : x = r.t.hot ∨ x = r.t.warm ∨ x = r.t.gap ∨ x = r.t.add ∨ x = r.t.top ∨ x = r.t.half := by simpa [Tb.l] using hx
      rcases hx with rfl | rfl | rfl | rfl | rfl | rfl <;> assumption
theorem okF6 {r : Rc} (hk : r.kind = 6) : OkF r ↔ (0 ≤ ((r.key.size : Nat) : Int) ∧ ((r.key.size : Nat) : Int) ≤ 0) ∧ (∀ c ∈ nums r.key, 33 ≤ c ∧ c ≤ 126) ∧ (0 ≤ r.n ∧ r.n ≤ 0) ∧ (1 ≤ r.sid ∧ r.sid ≤ 2147483647) ∧ (0 ≤ r.colour ∧ r.colour ≤ 0) ∧ ((r.sids.length : Nat) : Int) = 3 ∧ (∀ x ∈ r.sids, 0 ≤ x ∧ x ≤ 2147483647) ∧ ((r.locs.length : Nat) : Int) = 0 + 2 * ((nz r.sids : Nat) : Int) ∧ (∀ l ∈ r.locs, (0 ≤ l.d ∧ l.d ≤ 23) ∧ (0 ≤ l.s ∧ l.s ≤ 63) ∧ 1 ≤ l.i ∧ l.i ≤ 2147483647) ∧ (0 ≤ r.t.hot ∧ r.t.hot ≤ 0) ∧ (0 ≤ r.t.warm ∧ r.t.warm ≤ 0) ∧ (0 ≤ r.t.gap ∧ r.t.gap ≤ 0) ∧ (0 ≤ r.t.add ∧ r.t.add ≤ 0) ∧ (0 ≤ r.t.top ∧ r.t.top ≤ 0) ∧ (0 ≤ r.t.half ∧ r.t.half ≤ 0) := by
  have e : kn r = 6 := by simp [kn, hk]
  constructor
  · intro F
    obtain ⟨_, _, _, h1, h2, h3, h4, h5, h6, h7, h8, h9, h10⟩ := F
    rw [e] at h1 h3 h4 h5 h6 h7 h8 h10
    exact ⟨h1, h2, h3, h4, h5, h6, h7, h8, h9, h10 _ (by simp [Tb.l]), h10 _ (by simp [Tb.l]), h10 _ (by simp [Tb.l]), h10 _ (by simp [Tb.l]), h10 _ (by simp [Tb.l]), h10 _ (by simp [Tb.l])⟩
  · rintro ⟨h1, h2, h3, h4, h5, h6, h7, h8, h9, t0, t1, t2, t3, t4, t5⟩
    refine ⟨by rw [e]; decide, by rw [e]; decide, by rw [e, hk]; rfl, ?_, h2, ?_, ?_, ?_, ?_, ?_, ?_, h9, ?_⟩ <;> rw [e]
    · exact h1
    · exact h3
    · exact h4
    · exact h5
    · exact h6
    · exact h7
    · exact h8
    · intro x hx
      have hx : x = r.t.hot ∨ x = r.t.warm ∨ x = r.t.gap ∨ x = r.t.add ∨ x = r.t.top ∨ x = r.t.half := by simpa [Tb.l] using hx
      rcases hx with rfl | rfl | rfl | rfl | rfl | rfl <;> assumption
theorem okF7 {r : Rc} (hk : r.kind = 7) : OkF r ↔ (0 ≤ ((r.key.size : Nat) : Int) ∧ ((r.key.size : Nat) : Int) ≤ 0) ∧ (∀ c ∈ nums r.key, 33 ≤ c ∧ c ≤ 126) ∧ (0 ≤ r.n ∧ r.n ≤ 15) ∧ (1 ≤ r.sid ∧ r.sid ≤ 2147483647) ∧ (0 ≤ r.colour ∧ r.colour ≤ 0) ∧ ((r.sids.length : Nat) : Int) = 0 ∧ (∀ x ∈ r.sids, 0 ≤ x ∧ x ≤ 0) ∧ ((r.locs.length : Nat) : Int) = 1 + 0 * ((nz r.sids : Nat) : Int) ∧ (∀ l ∈ r.locs, (0 ≤ l.d ∧ l.d ≤ 23) ∧ (0 ≤ l.s ∧ l.s ≤ 63) ∧ 1 ≤ l.i ∧ l.i ≤ 2147483647) ∧ (0 ≤ r.t.hot ∧ r.t.hot ≤ 0) ∧ (0 ≤ r.t.warm ∧ r.t.warm ≤ 0) ∧ (0 ≤ r.t.gap ∧ r.t.gap ≤ 0) ∧ (0 ≤ r.t.add ∧ r.t.add ≤ 0) ∧ (0 ≤ r.t.top ∧ r.t.top ≤ 0) ∧ (0 ≤ r.t.half ∧ r.t.half ≤ 0) := by
  have e : kn r = 7 := by simp [kn, hk]
  constructor
  · intro F
    obtain ⟨_, _, _, h1, h2, h3, h4, h5, h6, h7, h8, h9, h10⟩ := F
    rw [e] at h1 h3 h4 h5 h6 h7 h8 h10
    exact ⟨h1, h2, h3, h4, h5, h6, h7, h8, h9, h10 _ (by simp [Tb.l]), h10 _ (by simp [Tb.l]), h10 _ (by simp [Tb.l]), h10 _ (by simp [Tb.l]), h10 _ (by simp [Tb.l]), h10 _ (by simp [Tb.l])⟩
  · rintro ⟨h1, h2, h3, h4, h5, h6, h7, h8, h9, t0, t1, t2, t3, t4, t5⟩
    refine ⟨by rw [e]; decide, by rw [e]; decide, by rw [e, hk]; rfl, ?_, h2, ?_, ?_, ?_, ?_, ?_, ?_, h9, ?_⟩ <;> rw [e]
    · exact h1
    · exact h3
    · exact h4
    · exact h5
    · exact h6
    · exact h7
    · exact h8
    · intro x hx
      have hx : x = r.t.hot ∨ x = r.t.warm ∨ x = r.t.gap ∨ x = r.t.add ∨ x = r.t.top ∨ x = r.t.half := by simpa [Tb.l] using hx
      rcases hx with rfl | rfl | rfl | rfl | rfl | rfl <;> assumption
theorem okF8 {r : Rc} (hk : r.kind = 8) : OkF r ↔ (0 ≤ ((r.key.size : Nat) : Int) ∧ ((r.key.size : Nat) : Int) ≤ 0) ∧ (∀ c ∈ nums r.key, 33 ≤ c ∧ c ≤ 126) ∧ (0 ≤ r.n ∧ r.n ≤ 0) ∧ (0 ≤ r.sid ∧ r.sid ≤ 0) ∧ (0 ≤ r.colour ∧ r.colour ≤ 0) ∧ ((r.sids.length : Nat) : Int) = 0 ∧ (∀ x ∈ r.sids, 0 ≤ x ∧ x ≤ 0) ∧ ((r.locs.length : Nat) : Int) = 0 + 0 * ((nz r.sids : Nat) : Int) ∧ (∀ l ∈ r.locs, (0 ≤ l.d ∧ l.d ≤ 23) ∧ (0 ≤ l.s ∧ l.s ≤ 63) ∧ 1 ≤ l.i ∧ l.i ≤ 2147483647) ∧ (0 ≤ r.t.hot ∧ r.t.hot ≤ 1000000) ∧ (0 ≤ r.t.warm ∧ r.t.warm ≤ 1000000) ∧ (0 ≤ r.t.gap ∧ r.t.gap ≤ 1000000) ∧ (0 ≤ r.t.add ∧ r.t.add ≤ 1000000) ∧ (0 ≤ r.t.top ∧ r.t.top ≤ 1000000) ∧ (0 ≤ r.t.half ∧ r.t.half ≤ 1000000) := by
  have e : kn r = 8 := by simp [kn, hk]
  constructor
  · intro F
    obtain ⟨_, _, _, h1, h2, h3, h4, h5, h6, h7, h8, h9, h10⟩ := F
    rw [e] at h1 h3 h4 h5 h6 h7 h8 h10
    exact ⟨h1, h2, h3, h4, h5, h6, h7, h8, h9, h10 _ (by simp [Tb.l]), h10 _ (by simp [Tb.l]), h10 _ (by simp [Tb.l]), h10 _ (by simp [Tb.l]), h10 _ (by simp [Tb.l]), h10 _ (by simp [Tb.l])⟩
  · rintro ⟨h1, h2, h3, h4, h5, h6, h7, h8, h9, t0, t1, t2, t3, t4, t5⟩
    refine ⟨by rw [e]; decide, by rw [e]; decide, by rw [e, hk]; rfl, ?_, h2, ?_, ?_, ?_, ?_, ?_, ?_, h9, ?_⟩ <;> rw [e]
    · exact h1
    · exact h3
    · exact h4
    · exact h5
    · exact h6
    · exact h7
    · exact h8
    · intro x hx
      have hx : x = r.t.hot ∨ x = r.t.warm ∨ x = r.t.gap ∨ x = r.t.add ∨ x = r.t.top ∨ x = r.t.half := by simpa [Tb.l] using hx
      rcases hx with rfl | rfl | rfl | rfl | rfl | rfl <;> assumption
theorem kok_iff {s : ByteArray} : kok s = true ↔ (1 ≤ s.size ∧ s.size ≤ 16) ∧ ∀ c ∈ nums s, 33 ≤ c ∧ c ≤ 126 := by
  unfold kok
  simp only [Bool.and_eq_true, decide_eq_true_eq, List.all_eq_true]
  have hl : (nums s).length = s.size := nums_length s
  constructor
  · rintro ⟨⟨h1, h2⟩, h3⟩
    rw [List.take_of_length_le (by omega)] at h1
    exact ⟨⟨h2, h3⟩, fun c hc => by have := h1 c hc; simpa [pch] using this⟩
  · rintro ⟨⟨h2, h3⟩, h1⟩
    refine ⟨⟨fun c hc => ?_, h2⟩, h3⟩
    have := h1 c (List.mem_of_mem_take hc)
    simpa [pch] using this
theorem spn_no {lo hi x : Int} (h : spn lo hi x = false) : ¬ (lo ≤ x ∧ x ≤ hi) := fun a => by rw [spn_iff.2 a] at h; cases h
theorem key_nil {s : ByteArray} : s.toList = [] ↔ s.size = 0 := by
  have e0 : (⟨#[]⟩ : ByteArray).toList = [] := by
    unfold ByteArray.toList
    unfold ByteArray.toList.loop
    simp
    exact fun h => absurd h (Nat.not_lt_zero 0)
  constructor
  · intro h
    have : s = ⟨#[]⟩ := bytes_inj (h.trans e0.symm)
    rw [this]
    rfl
  · intro h
    have : s = ⟨#[]⟩ := ByteArray.ext (Array.eq_empty_of_size_eq_zero h)
    rw [this, e0]
theorem key_none {s : ByteArray} (h : s.size = 0) : ∀ c ∈ nums s, 33 ≤ c ∧ c ≤ 126 := fun c hc => by
  have : nums s = [] := List.eq_nil_of_length_eq_zero ((nums_length s).trans h)
  rw [this] at hc
  cases hc
theorem i6_cells {w : World} {q : Nat} {t : Tb} (h : w.heap[q]? = some (.cells #[.int .i64 t.hot, .int .i64 t.warm, .int .i64 t.gap, .int .i64 t.add, .int .i64 t.top, .int .i64 t.half] 67 (0, 0))) (i : Nat) (x : Int) (hx : t.l[i]? = some x) : w.cell? ⟨q, i, none⟩ = some (.int .i64 x) := by
  simp only [World.cell?, h]
  match i, hx with
  | 0, hx => cases hx; rfl
  | 1, hx => cases hx; rfl
  | 2, hx => cases hx; rfl
  | 3, hx => cases hx; rfl
  | 4, hx => cases hx; rfl
  | 5, hx => cases hx; rfl
theorem t_bounds {t : Tb} {x lo hi : Int} (h : x ∈ t.l) (b : (lo ≤ t.hot ∧ t.hot ≤ hi) ∧ (lo ≤ t.warm ∧ t.warm ≤ hi) ∧ (lo ≤ t.gap ∧ t.gap ≤ hi) ∧ (lo ≤ t.add ∧ t.add ≤ hi) ∧ (lo ≤ t.top ∧ t.top ≤ hi) ∧ (lo ≤ t.half ∧ t.half ≤ hi)) : lo ≤ x ∧ x ≤ hi := by
  have hx : x = t.hot ∨ x = t.warm ∨ x = t.gap ∨ x = t.add ∨ x = t.top ∨ x = t.half := by simpa [Tb.l] using h
  obtain ⟨b0, b1, b2, b3, b4, b5⟩ := b
  rcases hx with rfl | rfl | rfl | rfl | rfl | rfl <;> assumption
theorem t0_bounds {x : Int} (h : x ∈ tb0.l) : 0 ≤ x ∧ x ≤ 1000000 := t_bounds h ⟨by decide, by decide, by decide, by decide, by decide, by decide⟩
theorem b5_cells {w : World} {q : Nat} {a b c d e : Bool} (h : w.heap[q]? = some (.cells #[.bool a, .bool b, .bool c, .bool d, .bool e] 63 (0, 0))) : w.cell? ⟨q, 0, none⟩ = some (.bool a) ∧ w.cell? ⟨q, 1, none⟩ = some (.bool b) ∧ w.cell? ⟨q, 2, none⟩ = some (.bool c) ∧ w.cell? ⟨q, 3, none⟩ = some (.bool d) ∧ w.cell? ⟨q, 4, none⟩ = some (.bool e) := by
  simp only [World.cell?, h]
  exact ⟨rfl, rfl, rfl, rfl, rfl⟩
end Go.Proofs.YtpdkcpjofofkoaaDoor
