/- 'Join' of any rows. -/
import Derived.Test.YtcigmbjipnchaaaPadAwake
namespace Go.Proofs.Ytcigmbjipnchaaa
open Go.RowKit
set_option linter.unusedVariables false

/-- Rows that came in. -/
def InR (w : World) (a : Option Addr) (n : Nat) (R : Nat → List Nat) : Prop := n = 0 ∨ ∃ g o, a = some ⟨g, o, none⟩ ∧ SR w g o n R
theorem InR.nxt {w w' : World} {a : Option Addr} {n : Nat} {R : Nat → List Nat} (h : InR w a n R) (u : Up Nul w w') : InR w' a n R := by
  rcases h with h | ⟨g, o, e, h⟩
  · exact .inl h
  · exact .inr ⟨g, o, e, h.nxt u⟩
/-- Four rows of sixteen, and a number that may be. -/
def Fits (R : Nat → List Nat) (n : Nat) (m : Int) : Prop := n = 4 ∧ 0 ≤ m ∧ m ≤ 64 ∧ ∀ i, i < n → (R i).length = 16
def JoinP (R : Nat → List Nat) (n : Nat) (m : Int) (w : World) (e : Ending) (w' : World) : Prop :=
  (Fits R n m ∧ ∃ k : Nat, m = k ∧ k ≤ 64 ∧ ∃ a c, e = .returned (.tuple #[.slice a k c, .bool true]) ∧ Got w w' a k c ((flatB R 4).take k)) ∨
  (¬ Fits R n m ∧ e = .returned (.tuple #[.slice none 0 0, .bool false]) ∧ Up Nul w w')
theorem join_any (a : Option Addr) (n cap : Nat) (R : Nat → List Nat) (m : Int) (w : World) (h : InR w a n R) :
    Calls Try.prog 9 #[.slice a n cap, .int .i64 m] w (JoinP R n m w) := by
  by_cases h4 : n = 4
  · subst h4
    rcases h with h | ⟨g, o, rfl, h⟩
    · omega
    · refine (join_four g o cap R m w h).mono ?_
      rintro e w' (⟨⟨i, hi, hne⟩, h1, h2⟩ | ⟨hl, hm, h1, h2⟩ | ⟨hl, k, hm, hk, h1⟩)
      · exact .inr ⟨fun f => hne (f.2.2.2 i hi), h1, h2⟩
      · exact .inr ⟨fun f => by have := f.2.1; have := f.2.2.1; omega, h1, h2⟩
      · exact .inl ⟨⟨rfl, by omega, by omega, hl⟩, k, hm, hk, h1⟩
  · refine (join_len a n cap m w h4).mono ?_
    rintro e w' ⟨h1, rfl⟩
    exact .inr ⟨fun f => h4 f.1, h1, Up.refl _ _⟩
end Go.Proofs.Ytcigmbjipnchaaa
