/- What the laws of frames share. -/
import Derived.Test.YtfmgbmpdifjliaaRefTake
namespace Go.Proofs.Ytfmgbmpdifjliaa
open Go.RowKit
set_option linter.unusedVariables false

namespace FrL
theorem i64_mask (m : Nat) (hm : m < 63) (n : Int) : ∃ k : Nat, bits .and .i64 n ((2 ^ m - 1 : Nat) : Int) = (k : Int) ∧ k < 2 ^ m := by
  have hp : 2 ^ m ≤ 2 ^ 62 := Nat.pow_le_pow_right (by omega) (by omega)
  have key : (BitVec.ofInt 64 n &&& BitVec.ofInt 64 ((2 ^ m - 1 : Nat) : Int)).toNat = (n % ((2 ^ 64 : Nat) : Int)).toNat % 2 ^ m := by
    have e : (BitVec.ofInt 64 ((2 ^ m - 1 : Nat) : Int)).toNat = 2 ^ m - 1 := by
      rw [BitVec.toNat_ofInt]
      have : (((2 ^ m - 1 : Nat) : Int) % ((2 ^ 64 : Nat) : Int)) = ((2 ^ m - 1 : Nat) : Int) := Int.emod_eq_of_lt (by omega) (by omega)
      rw [this]
      omega
    rw [BitVec.toNat_and, BitVec.toNat_ofInt, e, Nat.and_two_pow_sub_one_eq_mod]
  refine ⟨(n % ((2 ^ 64 : Nat) : Int)).toNat % 2 ^ m, ?_, Nat.mod_lt _ (Nat.two_pow_pos m)⟩
  show IntKind.i64.wrap ((BitVec.ofInt 64 n &&& BitVec.ofInt 64 ((2 ^ m - 1 : Nat) : Int)).toNat : Nat) = _
  rw [key, IntKind.wrap_i64]
  have := Nat.mod_lt (n % ((2 ^ 64 : Nat) : Int)).toNat (Nat.two_pow_pos m)
  generalize (n % ((2 ^ 64 : Nat) : Int)).toNat % 2 ^ m = x at this ⊢
  omega
theorem mask32 (n : Int) : ∃ k : Nat, bits .and .i64 n 4294967295 = (k : Int) ∧ k < 4294967296 := i64_mask 32 (by omega) n
theorem mask16 (n : Int) : ∃ k : Nat, bits .and .i64 n 65535 = (k : Int) ∧ k < 65536 := i64_mask 16 (by omega) n
theorem mask8 (n : Int) : ∃ k : Nat, bits .and .i64 n 255 = (k : Int) ∧ k < 256 := i64_mask 8 (by omega) n
theorem mask3 (n : Int) : ∃ k : Nat, bits .and .i64 n 7 = (k : Int) ∧ k < 8 := i64_mask 3 (by omega) n
theorem mask1 (n : Int) : ∃ k : Nat, bits .and .i64 n 1 = (k : Int) ∧ k < 2 := i64_mask 1 (by omega) n
theorem rem_lit (a n : Nat) (hn : 0 < n) : ∃ b : Nat, (a : Int) % (n : Int) = (b : Int) ∧ b < n := ⟨a % n, by rw [Int.natCast_emod], Nat.mod_lt a hn⟩
end FrL
/-- A slice of bytes told, as a string. -/
theorem conv_nil (w : World) : (convert 32 9 (.slice none 0 0)).run Try.prog w = .ok (.string ⟨#[]⟩) w := conv_zero none 0 w
/-- Put, as a law meets it. -/
theorem put_some (id : Nat) (a : Option Addr) (n cap : Nat) (z : List Nat) (w : World) (hi : id < 4294967296) (hn : n ≤ 64) (hz : SlN w a n z) :
    Calls Try.prog 43 #[.int .i64 id, .slice a n cap] w fun e w' => ∃ g, e = .returned (.tuple #[.slice (some ⟨g, 0, none⟩) 96 96, .bool true]) ∧ w.heap.size ≤ g ∧ Blk w' g (FrM.fr id z) ∧ Up Nul w w' :=
  (put_good id a n cap z w hi hn hz).mono fun e w' ⟨h1, h2, h3⟩ => ⟨_, h1, Nat.le_refl _, h2, h3⟩
theorem fr_sln {w : World} {g id : Nat} {z : List Nat} (h : Blk w g (FrM.fr id z)) (hz : z.length ≤ 64) : SlN w (some ⟨g, 0, none⟩) 96 (FrM.fr id z) :=
  blk_sln h (by rw [FrM.fr_length hz]; omega) (by rw [List.drop_zero, List.take_of_length_le (by rw [FrM.fr_length hz]; omega)]) (by omega)
/-- Take of what is a frame, and of what is none. -/
theorem take_yes (a : Option Addr) (n cap id : Nat) (d : List Nat) (w : World) (hi : id < 4294967296) (hd : d.length ≤ 64) (h : SlN w a n (FrM.fr id d)) (hc : n ≤ cap) :
    Calls Try.prog 47 #[.slice a n cap] w fun e w' => ∃ a' c, e = .returned (.tuple #[.int .i64 id, .slice a' d.length c, .bool true]) ∧ Got w w' a' d.length c d := by
  refine (take_any a n cap _ w h hc).mono ?_
  rintro e w' (⟨a', c, h1, rfl, g⟩ | ⟨h1, _⟩)
  · rw [FrM.fr_id hi, FrM.fr_len, FrM.fr_dat] at *
    exact ⟨a', c, rfl, g⟩
  · rw [FrM.tk_fr hi hd] at h1
    cases h1
theorem take_no (a : Option Addr) (n cap : Nat) (z : List Nat) (w : World) (ht : FrM.tk z = none) (h : SlN w a n z) (hc : n ≤ cap) :
    Calls Try.prog 47 #[.slice a n cap] w fun e w' => e = .returned (.tuple #[.int .i64 0, .slice none 0 0, .bool false]) ∧ Up Nul w w' := by
  refine (take_any a n cap _ w h hc).mono ?_
  rintro e w' (⟨a', c, h1, _⟩ | ⟨_, rfl, u⟩)
  · rw [ht] at h1
    cases h1
  · exact ⟨rfl, u⟩
theorem holds_yes (a : Option Addr) (n cap id : Nat) (d : List Nat) (w : World) (hi : id < 4294967296) (hd : d.length ≤ 64) (h : SlN w a n (FrM.fr id d)) (hc : n ≤ cap) :
    Calls Try.prog 51 #[.slice a n cap, .int .i64 id] w fun e w' => ∃ a' c, e = .returned (.tuple #[.slice a' d.length c, .bool true]) ∧ Got w w' a' d.length c d := by
  refine (holds_any a n cap _ _ w h hc).mono ?_
  rintro e w' (⟨a', c, h1, _, rfl, g⟩ | ⟨h1, _⟩)
  · rw [FrM.fr_len, FrM.fr_dat] at *
    exact ⟨a', c, rfl, g⟩
  · rw [FrM.tk_fr hi hd, FrM.fr_id hi] at h1
    rcases h1 with h1 | h1
    · cases h1
    · exact absurd rfl h1
theorem holds_no (a : Option Addr) (n cap id : Nat) (d : List Nat) (x : Int) (w : World) (hi : id < 4294967296) (hx : ¬ (id : Int) = x) (h : SlN w a n (FrM.fr id d)) (hc : n ≤ cap) :
    Calls Try.prog 51 #[.slice a n cap, .int .i64 x] w fun e w' => e = .returned (.tuple #[.slice none 0 0, .bool false]) ∧ Up Nul w w' := by
  refine (holds_any a n cap _ _ w h hc).mono ?_
  rintro e w' (⟨a', c, _, h1, _⟩ | ⟨_, rfl, u⟩)
  · rw [FrM.fr_id hi] at h1
    exact absurd h1 hx
  · exact ⟨rfl, u⟩
theorem tk_head {z : List Nat} (h : ¬ z.getD 0 0 = 183) : FrM.tk z = none := by
  unfold FrM.tk
  rw [if_neg]
  rintro ⟨_, _, e⟩
  rw [e, FrM.fr_head] at h
  exact h rfl
theorem zer_sln (w : World) (n : Nat) (hn : n ≤ 1000) : SlN (w.alloc (.cells (bys (zer n)) 5)) (some ⟨w.heap.size, 0, none⟩) n (zer n) := by
  have := slm_mark w (zer n) (0, 0) (zer_small n) (by rw [zer_length]; omega) _ rfl
  rwa [zer_length] at this

end Go.Proofs.Ytfmgbmpdifjliaa
