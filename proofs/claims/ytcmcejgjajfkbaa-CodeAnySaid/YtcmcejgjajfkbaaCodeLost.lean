/- Shards that are lost one by one, by the bits of a number. -/
import Derived.Test.YtcmcejgjajfkbaaCodeShardsWalk
import Derived.WalkSmall
import Derived.Laws.Bits64b
namespace Go.Proofs.Ytcmcejgjajfkbaa
open Go.RowKit
set_option linter.unusedVariables false

theorem bit_at {x t : Nat} (hx : x < 18446744073709551616) : (bits .and .u64 ((x : Int) / 2 ^ t) 1 == 1) = x.testBit t := by
  have e : (x : Int) / 2 ^ t = ((x / 2 ^ t : Nat) : Int) := by simp
  have hlt : x / 2 ^ t ≤ x := Nat.div_le_self _ _
  rw [e, Nat.testBit_eq_decide_div_mod_eq]
  clear e
  generalize x / 2 ^ t = d at hlt ⊢
  rw [and_one_u64 _ (by omega) (by omega), show ((d : Nat) : Int) % 2 = ((d % 2 : Nat) : Int) by omega]
  have h2 : d % 2 = 0 ∨ d % 2 = 1 := by omega
  rcases h2 with h | h <;> rw [h] <;> rfl
theorem or_at {x q : Nat} (hx : x < 18446744073709551616) (hq : q < 60) : bits .or .u64 (x : Int) ((2 ^ q : Nat) : Int) = ((x ||| 2 ^ q : Nat) : Int) :=
  bits_or_u64_nat x (2 ^ q) hx (Nat.lt_of_lt_of_le (Nat.pow_lt_pow_right (by omega) hq) (by decide))
theorem or_lt {x q : Nat} (hx : x < 18446744073709551616) (hq : q < 60) : x ||| 2 ^ q < 18446744073709551616 :=
  Nat.or_lt_two_pow (n := 64) hx (Nat.lt_of_lt_of_le (Nat.pow_lt_pow_right (by omega) hq) (by decide))
theorem or_bit (x q t : Nat) : (x ||| 2 ^ q).testBit t = (x.testBit t || decide (q = t)) := by rw [Nat.testBit_or, Nat.testBit_two_pow]
theorem outS_or {x q : Nat} {R : Nat → List Nat} : outS (x ||| 2 ^ q).testBit R = out1 (outS x.testBit R) q := by
  funext t
  unfold out1 outS
  rw [or_bit]
  by_cases e : q = t
  · subst e
    simp
  · simp [e, show ¬ t = q from fun h => e h.symm]
theorem Tl_less {S : Nat → Option (List Nat)} {q : Nat} (hS : (S q).isSome = true) : ∀ n, (Tl (out1 S q) n).length + (if q < n then 1 else 0) = (Tl S n).length
  | 0 => by simp [Tl]
  | n + 1 => by
    have ih := Tl_less hS n
    by_cases e : n = q
    · subst e
      have h : out1 S n n = none := by unfold out1; rw [if_pos rfl]
      obtain ⟨z, hz⟩ := Option.isSome_iff_exists.1 hS
      rw [Tl_none h, Tl_some hz, List.length_append]
      rw [if_neg (by omega)] at ih
      rw [if_pos (by omega)]
      simp only [List.length_singleton]
      omega
    · have h : out1 S q n = S n := by unfold out1; rw [if_neg e]
      have hi : (if q < n + 1 then 1 else 0) = (if q < n then 1 else 0) := by
        by_cases h1 : q < n
        · rw [if_pos h1, if_pos (by omega)]
        · rw [if_neg h1, if_neg (by omega)]
      rw [hi]
      cases hn : S n with
      | none => rw [Tl_none (by rw [h]; exact hn), Tl_none hn]; exact ih
      | some z => rw [Tl_some (z := z) (by rw [h]; exact hn), Tl_some hn, List.length_append, List.length_append]; simp only [List.length_singleton]; omega
theorem fine_outS {X : Nat → Bool} {R : Nat → List Nat} {n L : Nat} (h : ∀ t, (R t).length = L) : Fine (outS X R) n L := fun t ht z e => by
  unfold outS at e
  split at e
  · cases e
  · cases e; exact h t
theorem outS_zero {R : Nat → List Nat} : outS (0 : Nat).testBit R = fun t => some (R t) := by
  funext t
  unfold outS
  rw [Nat.zero_testBit]
  simp
theorem i64_and31 (n : Int) : ∃ k : Nat, bits .and .i64 n 31 = (k : Int) - 1 ∧ 1 ≤ k ∧ k ≤ 32 := by
  rw [i64_mask 5 (by omega) n 31 (by decide)]
  exact ⟨(n % 32).toNat + 1, by show n % 32 = _; omega, by omega, by omega⟩
/-- What 'Shards' made, as shards. -/
theorem Mds.ll {W w w0 : World} {FS : List Nat} {x : Nat → Bool} {t : Nat} {R : Nat → List Nat} {v1 v2 : Value} {xs : List Value} (h : Mds W x t R v1 v2 xs w) (hs : LS w0 FS W) (ht : 0 < t) :
    ∃ g cap, v1 = .slice (some ⟨g, 0, none⟩) t cap ∧ LL FS w g 0 t (outS x R) ∧ t ≤ cap := by
  obtain ⟨g, cap, e, e1, e2, e3, e4, e5⟩ := OwnV.row h.own (by rw [h.len]; exact ht)
  rw [h.len] at e e5
  refine ⟨g, cap, e, ⟨fun i hi => ?_, e2, hs.lt e1⟩, e5⟩
  obtain ⟨v, hv, hp⟩ := h.is i hi
  rw [Nat.zero_add]
  refine ⟨v, e3 i v hv, ?_⟩
  cases hx : outS x R i with
  | none => rw [hx] at hp; exact hp
  | some z =>
    rw [hx] at hp
    obtain ⟨b, cp, ev, p, hb⟩ := hp
    exact ⟨b, 0, cp, ev, p.row, p.lt, hs.lt hb⟩
theorem shardsL {w0 w : World} {FS : List Nat} {g o n cap x : Nat} {R : Nat → List Nat} (hs : LS w0 FS w) (hR : LL FS w g o n fun i => some (R i)) (hl : ∀ i, (R i).length ≤ 64) (n1 : 1 ≤ n) (hn : n ≤ 60) (hx : x < 18446744073709551616) :
    Calls Try.prog 24 #[.slice (some ⟨g, o, none⟩) n cap, .int .u64 x] w
      fun e w' => ∃ h c v2, e = .returned (.tuple #[.slice (some ⟨h, 0, none⟩) n c, v2]) ∧ LL FS w' h 0 n (outS x.testBit R) ∧ n ≤ c ∧ Nxt FS w w' := by
  refine (shards_any FS w0 w g o n cap x x.testBit R hs hR hl hn fun t _ => bit_at hx).mono ?_
  rintro e w' ⟨v1, v2, xs, rfl, m⟩
  obtain ⟨h, c, rfl, hll, hc⟩ := m.ll hs n1
  exact ⟨h, c, v2, rfl, hll, hc, hs.nul m.up⟩
end Go.Proofs.Ytcmcejgjajfkbaa
