/- The law PadParts, walked. -/
import Derived.Test.YtcigmbjipnchaaaPadAwake
namespace Go.Proofs.Ytcigmbjipnchaaa
open Go.RowKit
set_option linter.unusedVariables false

theorem i64_mask16 (n : Int) : ∃ k : Nat, bits .and .i64 n 65535 = (k : Int) ∧ k < 65536 := by
  have key : (BitVec.ofInt 64 n &&& BitVec.ofInt 64 65535).toNat = (n % ((2 ^ 64 : Nat) : Int)).toNat % 2 ^ 16 := by
    rw [BitVec.toNat_and, BitVec.toNat_ofInt, show (BitVec.ofInt 64 65535).toNat = 2 ^ 16 - 1 by decide, Nat.and_two_pow_sub_one_eq_mod]
  refine ⟨(n % ((2 ^ 64 : Nat) : Int)).toNat % 2 ^ 16, ?_, by omega⟩
  show IntKind.i64.wrap ((BitVec.ofInt 64 n &&& BitVec.ofInt 64 65535).toNat : Nat) = _
  rw [key, IntKind.wrap_i64]
  omega
theorem rem_nat (a n : Nat) : ∃ b : Nat, (a : Int) % ((n : Int) + 1) = (b : Int) ∧ b ≤ n := ⟨a % (n + 1), by rw [Int.natCast_emod]; rfl, by have := Nat.mod_lt a (show 0 < n + 1 by omega); omega⟩
theorem rem_sub (a n b : Nat) (h : b ≤ n) : ∃ c : Nat, (a : Int) % ((n : Int) - (b : Int) + 1) = (c : Int) ∧ b + c ≤ n := by
  obtain ⟨c, hc, hl⟩ := rem_nat a (n - b)
  exact ⟨c, by rw [← hc]; congr 1; omega, by omega⟩
/-- Nothing, as a string. -/
theorem conv_nil (w : World) : (convert 22 9 (.slice none 0 0)).run Try.prog w = .ok (.string ⟨#[]⟩) w := conv_zero none 0 w

theorem parts_long (a : Option Addr) (n cap : Nat) (x m : Int) (w : World) (h : 300 < n) :
    Calls Try.prog 5 #[.slice a n cap, .int .i64 x, .int .i64 m] w fun e w' => e = .returned (.bool true) ∧ Below w.heap.size w w' := by
  have i1 : (300 : Int) < (n : Int) := by omega
  go_enter Try.func5, Try.ntmps5
  go_wp2_with fail
  refine (awake_any _).mono ?_
  rintro e w2 ⟨rfl, k2⟩
  go_wp2
  go_ret
  exact ⟨rfl, k2.below (Nat.le_refl _) fun _ _ => id⟩
set_option maxRecDepth 100000 in
set_option maxHeartbeats 1600000 in
theorem parts_short (a : Option Addr) (n cap : Nat) (z : List Nat) (x m : Int) (w : World) (h : n ≤ 300) (hc : n ≤ cap) (ha : a = none → n = 0) (hz : SlN w a n z) :
    Calls Try.prog 5 #[.slice a n cap, .int .i64 x, .int .i64 m] w fun e w' => e = .returned (.bool true) ∧ Below w.heap.size w w' := by
  have HZ := hid hz
  have HA := hid ha
  have i1 : ¬ (300 : Int) < (n : Int) := by omega
  have i0 : (0 : Int) ≤ (n : Int) := by omega
  clear hz ha
  go_enter Try.func5, Try.ntmps5
  go_wp2_with fail
  go_loopw [1, 2, 7] (fun p q i wr => ∃ (k : Nat) (X M : Int), k ≤ 2 ∧ i = .int .i64 k ∧ p = .int .i64 X ∧ q = .int .i64 M ∧ Up Nul w wr) (fun _ _ i _ => 2 - (intOf i).toNat)
  case atStart => exact ⟨0, x, m, by omega, rfl, rfl, rfl, Up.refl _ _⟩
  case round =>
    obtain ⟨k, X, M, hk, rfl, rfl, rfl, hu⟩ := hrel
    have HU := hid hu
    clear hu
    by_cases hlt : k < 2
    · have hkk : (k : Int) < 2 := by omega
      obtain ⟨a1, ha1, b1⟩ := i64_mask16 X
      obtain ⟨a2, ha2, b2⟩ := i64_mask16 M
      obtain ⟨r1, hr1, l1⟩ := rem_nat a1 n
      obtain ⟨r2, hr2, l2⟩ := rem_sub a2 n r1 l1
      have l3 : (r1 : Int) ≤ (n : Int) := by omega
      have key : (0 ≤ X ∧ 0 ≤ M ∧ X ≤ n ∧ M ≤ n - X) ∨ X < 0 ∨ (0 ≤ X ∧ M < 0) ∨ (0 ≤ X ∧ 0 ≤ M ∧ (n : Int) < X) ∨ (0 ≤ X ∧ 0 ≤ M ∧ X ≤ n ∧ (n : Int) - X < M) := by omega
      rcases key with ⟨h1, h2, h3, h4⟩ | h1 | ⟨h1, h2⟩ | ⟨h1, h2, h3⟩ | ⟨h1, h2, h3, h4⟩
      · obtain ⟨kx, rfl⟩ : ∃ t : Nat, X = t := ⟨X.toNat, by omega⟩
        obtain ⟨km, rfl⟩ : ∃ t : Nat, M = t := ⟨M.toNat, by omega⟩
        have HS := (HZ.out.nxt HU.out)
        have HP := hid (part_good a n cap kx km z wr HS hc HA.out (by omega) (by omega))
        have hs : ∀ W, (Instr.slice 22 (.slice a n cap) (some (.int .i64 (kx : Int))) (some (.int .i64 ((kx : Int) + (km : Int)))) none).run Try.prog W = .ok (.slice (atOff a kx cap) km (cap - kx)) W := fun W => by
          have := run_part a n cap kx (kx + km) km rfl (by omega) W
          rwa [Int.natCast_add] at this
        have HM := hid (HS.mid kx km cap (by omega) hc)
        obtain ⟨z2, Z2⟩ : ∃ t, Hid ((z.drop kx).take km = t) := ⟨_, rfl⟩
        rw [Z2.out] at HP HM
        have hqq : ((strOf z2).toList == (strOf z2).toList) = true := by simp
        generalize atOff a kx cap = a3 at hs HM
        generalize cap - kx = c3 at hs
        have i5 : (kx : Int) + (km : Int) ≤ (n : Int) := by omega
        clear HS
        go_wp2_with fail
        refine HP.out.mono ?_
        rintro e w2 ⟨a', c, rfl, k1⟩
        have H2 : Hid (Up Nul w w2) := HU.out.trans k1.up
        have c1 := k1.sl.conv c
        have c2 := (HM.out.nxt k1.up).conv c3
        generalize strOf z2 = s2 at c1 c2 hqq
        clear k1 HP
        go_wp2
        go_roundw
        case rel => exact ⟨k + 1, r1, r2, by omega, by go_num, by first | rfl | rw [hr1], by first | rfl | rw [hr2], H2.out⟩
        case measure => simp [intOf]; omega
      all_goals
        have HP := hid (part_bad a n cap X M wr (by omega) (by omega))
        have c1 := conv_nil wr
        have hqq : ((⟨#[]⟩ : ByteArray).toList == (⟨#[]⟩ : ByteArray).toList) = true := by simp
        go_wp2_with fail
        refine HP.out.mono ?_
        rintro e w2 ⟨rfl, rfl⟩
        go_wp2
        go_roundw
        case rel => exact ⟨k + 1, r1, r2, by omega, by go_num, by first | rfl | rw [hr1], by first | rfl | rw [hr2], HU.out⟩
        case measure => simp [intOf]; omega
    · obtain rfl : k = 2 := by omega
      go_wp2_with fail
      refine (awake_any _).mono ?_
      rintro e w2 ⟨rfl, k2⟩
      have H2 := hid (HU.out.trans k2)
      clear k2
      go_wp2
      go_ret
      exact ⟨rfl, H2.out.below (Nat.le_refl _) fun _ _ => id⟩
theorem parts_walk (a : Option Addr) (n cap : Nat) (zs : List Int) (x m : Int) (w : World) (h : CameIn w a n cap zs) :
    Calls Try.prog 5 #[.slice a n cap, .int .i64 x, .int .i64 m] w fun e w' => e = .returned (.bool true) ∧ Below w.heap.size w w' := by
  by_cases hn : n ≤ 300
  · obtain ⟨z, hz⟩ := SlN.of h
    exact parts_short a n cap z x m w hn (came_cap h) (fun e => by
      rcases h with ⟨_, h2, _⟩ | ⟨_, h1, _⟩
      · exact h2
      · rw [e] at h1; cases h1) hz
  · exact parts_long a n cap x m w (by omega)
end Go.Proofs.Ytcigmbjipnchaaa
