/- What the laws of the Disk share. -/
import Derived.Test.YtfmgbmpdifjliaaDiskAwake
namespace Go.Proofs.Ytfmgbmpdifjliaa
open Go.RowKit
set_option linter.unusedVariables false

theorem i64_mask (m : Nat) (hm : m < 63) (n : Int) : ∃ k : Nat, bits .and .i64 n ((2 ^ m - 1 : Nat) : Int) = (k : Int) ∧ k < 2 ^ m := by
  have hp : 2 ^ m ≤ 2 ^ 62 := Nat.pow_le_pow_right (by omega) (by omega)
  have key : (BitVec.ofInt 64 n &&& BitVec.ofInt 64 ((2 ^ m - 1 : Nat) : Int)).toNat = (n % ((2 ^ 64 : Nat) : Int)).toNat % 2 ^ m := by
    have e : (BitVec.ofInt 64 ((2 ^ m - 1 : Nat) : Int)).toNat = 2 ^ m - 1 := by
      rw [BitVec.toNat_ofInt]
      have : (((2 ^ m - 1 : Nat) : Int) % ((2 ^ 64 : Nat) : Int)) = ((2 ^ m - 1 : Nat) : Int) := Int.emod_eq_of_lt (by omega) (by omega)
      rw [this]
      omega
    rw [BitVec.toNat_and, BitVec.toNat_ofInt, e, Nat.and_two_pow_sub_one_eq_mod]
  refine ⟨(n % ((2 ^ 64 : Nat) : Int)).toNat % 2 ^ m, ?_, Nat.mod_lt _ (Nat.two_pow_pos m)⟩
  show IntKind.i64.wrap ((BitVec.ofInt 64 n &&& BitVec.ofInt 64 ((2 ^ m - 1 : Nat) : Int)).toNat : Nat) = _
  rw [key, IntKind.wrap_i64]
  have := Nat.mod_lt (n % ((2 ^ 64 : Nat) : Int)).toNat (Nat.two_pow_pos m)
  generalize (n % ((2 ^ 64 : Nat) : Int)).toNat % 2 ^ m = x at this ⊢
  omega
theorem i64_mask8 (n : Int) : ∃ k : Nat, bits .and .i64 n 255 = (k : Int) ∧ k < 256 := i64_mask 8 (by omega) n
theorem i64_mask3 (n : Int) : ∃ k : Nat, bits .and .i64 n 7 = (k : Int) ∧ k < 8 := i64_mask 3 (by omega) n
theorem i64_mask2 (n : Int) : ∃ k : Nat, bits .and .i64 n 3 = (k : Int) ∧ k < 4 := i64_mask 2 (by omega) n
theorem i64_mask5 (n : Int) : ∃ k : Nat, bits .and .i64 n 31 = (k : Int) ∧ k < 32 := i64_mask 5 (by omega) n
theorem rem_lit (a n : Nat) (hn : 0 < n) : ∃ b : Nat, (a : Int) % (n : Int) = (b : Int) ∧ b < n := ⟨a % n, by rw [Int.natCast_emod], Nat.mod_lt a hn⟩
theorem rem_nat (a n : Nat) : ∃ b : Nat, (a : Int) % ((n : Int) + 1) = (b : Int) ∧ b ≤ n := ⟨a % (n + 1), by rw [Int.natCast_emod]; rfl, by have := Nat.mod_lt a (show 0 < n + 1 by omega); omega⟩
theorem run_from (a : Option Addr) (n cap k : Nat) (hk : k ≤ n) (hn : n ≤ cap) (w : World) :
    (Instr.slice 32 (.slice a n cap) (some (.int .i64 k)) none none).run Try.prog w = .ok (.slice (atOff a k cap) (n - k) (cap - k)) w := by
  rw [run_slice_l (P := Try.prog) (w := w) 32 a n cap (by kernel_rfl) .i64 k (by omega) (by omega), size_byte]
  simp only [Result.andThen, sliced, Int.toNat_natCast, Nat.mul_one, atOff]
theorem newH_nil {w0 w : World} (h0 : Up Nul w0 w) (x : Int) (n : Nat) (hx : cnt x = n) :
    Calls Try.prog 8 #[.int .i64 x, .pointer none] w fun e w' => ∃ b, e = .returned (.pointer (some ⟨b, 0, none⟩)) ∧ H w0 w' b n none none true (fun _ => zer 96) [] ∧ Up Nul w0 w' := by
  refine (newH h0 x none none rfl (fun f h => by cases h) n hx).mono ?_
  rintro e w' ⟨b, rfl, h1, h2⟩
  exact ⟨b, rfl, h1, h0.trans h2⟩
theorem cutB {w : World} {q n k : Nat} {z : List Nat} (h : Blk w q z) (hn : z.length = n) (hk : k ≤ n) (hl : n ≤ 1000) (cap : Nat) : (convert 32 9 (.slice (some ⟨q, 0, none⟩) k cap)).run Try.prog w = .ok (.string (strOf (z.take k))) w :=
  SlN.conv (n := k) ⟨by rw [List.length_take]; omega, .inr ⟨q, 0, rfl, h.lt, by have := h.row 0 k (by omega); simpa using this⟩, by omega⟩ cap
theorem restB {w : World} {q n k : Nat} {z : List Nat} (h : Blk w q z) (hn : z.length = n) (hk : k ≤ n) (hl : n ≤ 1000) (c2 : Nat) : (convert 32 9 (.slice (atOff (some ⟨q, 0, none⟩) k n) (n - k) c2)).run Try.prog w = .ok (.string (strOf (z.drop k))) w := by
  refine SlN.conv (n := n - k) ⟨by rw [List.length_drop]; omega, ?_, by omega⟩ c2
  rcases Nat.lt_or_ge k n with e | e
  · refine .inr ⟨q, k, by rw [atOff, if_neg (by omega)]; show some (Addr.add _ _) = _; rw [add_off, Nat.zero_add], h.lt, ?_⟩
    have := h.row k (n - k) (by omega)
    rwa [List.take_of_length_le (by rw [List.length_drop]; omega)] at this
  · exact .inl (by omega)
end Go.Proofs.Ytfmgbmpdifjliaa
