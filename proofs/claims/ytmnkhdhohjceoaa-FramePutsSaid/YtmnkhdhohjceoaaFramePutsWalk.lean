/- The law FramePuts, walked. -/
import Derived.Test.YtmnkhdhohjceoaaFrameLaw
namespace Go.Proofs.Ytmnkhdhohjceoaa
open Go.RowKit
set_option linter.unusedVariables false

theorem i64_xor_nat (a b : Nat) (ha : a < 4294967296) (hb : b < 4294967296) : bits .xor .i64 (a : Int) (b : Int) = ((a ^^^ b : Nat) : Int) := by
  have hx : a ^^^ b < 2 ^ 32 := Nat.xor_lt_two_pow (by omega) (by omega)
  have e : ∀ x : Nat, x < 4294967296 → (BitVec.ofInt 64 (x : Int)).toNat = x := fun x h => by
    rw [BitVec.toNat_ofInt]
    omega
  show IntKind.i64.wrap ((BitVec.ofInt 64 (a : Int) ^^^ BitVec.ofInt 64 (b : Int)).toNat : Int) = _
  rw [BitVec.toNat_xor, e a ha, e b hb]
  exact IntWalk.i64_in _ (by omega)
theorem xor_one {x : Nat} (h : x < 4294967296) : ∃ y : Nat, bits .xor .i64 (x : Int) 1 = (y : Int) ∧ ¬ x = y := by
  refine ⟨x ^^^ 1, i64_xor_nat x 1 (by omega) (by omega), fun e => ?_⟩
  have := congrArg (x ^^^ ·) e
  simp only [Nat.xor_self, ← Nat.xor_assoc, Nat.zero_xor] at this
  omega
theorem puts_long (a0 : Int) (a1 : Option Addr) (n cap : Nat) (w : World) (h : 300 < n) :
    Calls Try.prog 5 #[.int .i64 a0, .slice a1 n cap] w fun e w' => e = .returned (.bool true) ∧ Below w.heap.size w w' := by
  have i1 : (300 : Int) < (n : Int) := by omega
  go_enter Try.func5, Try.ntmps5
  go_wp2_with fail
  refine (fawake_any _).mono ?_
  rintro e w2 ⟨rfl, k2⟩
  go_wp2
  go_ret
  exact ⟨rfl, k2.below (Nat.le_refl _) fun _ _ => id⟩
set_option maxRecDepth 100000 in
set_option maxHeartbeats 3200000 in
theorem puts_short (a0 : Int) (a1 : Option Addr) (n cap : Nat) (z : List Nat) (w : World) (h0 : -9223372036854775808 ≤ a0 ∧ a0 ≤ 9223372036854775807) (hn : n ≤ 300) (hc : n ≤ cap) (hz : SlN w a1 n z) :
    Calls Try.prog 5 #[.int .i64 a0, .slice a1 n cap] w fun e w' => e = .returned (.bool true) ∧ Below w.heap.size w w' := by
  have HZ := hid hz
  have HL : Hid (z.length = n) := hz.len
  have H8 : Hid (∀ x ∈ z, x < 256) := hz.small
  have H0 := hid h0
  have HN := hid hn
  have i1 : ¬ (300 : Int) < (n : Int) := by omega
  clear hz h0 hn
  go_enter Try.func5, Try.ntmps5
  go_wp2_with fail
  go_loopw [0, 5] (fun x k wr => ∃ (t : Nat) (X : Int), t ≤ 2 ∧ k = .int .i64 (t : Nat) ∧ x = .int .i64 X ∧ (-9223372036854775808 ≤ X ∧ X ≤ 9223372036854775807) ∧ Up Nul w wr) (fun _ k _ => 2 - (intOf k).toNat)
  case atStart => exact ⟨0, a0, by omega, rfl, rfl, H0.out, Up.refl _ _⟩
  case round =>
    obtain ⟨t, X, ht, rfl, rfl, hX, hu⟩ := hrel
    have HU := hid hu
    have HX := hid hX
    clear hu hX
    have t0 : (0 : Int) ≤ (t : Int) := by omega
    by_cases hlt : t < 2
    · have t1 : (t : Int) < 2 := by omega
      obtain ⟨k3, hk3, hk4⟩ := FrL.mask32 X
      have HK4 := hid hk4
      clear hk4
      have HZ1 := hid (HZ.out.nxt HU.out)
      by_cases hg : 0 ≤ X ∧ X ≤ 4294967295 ∧ n ≤ 64
      · obtain ⟨x, rfl⟩ : ∃ x : Nat, X = x := ⟨X.toNat, by omega⟩
        have HI : Hid (x < 4294967296) := by show _ < _; omega
        have HM := hid hg.2.2
        obtain ⟨y, hy, hxy⟩ := xor_one HI.out
        have HXY : Hid (¬ (x : Int) = (y : Int)) := by show ¬ _; omega
        clear hg hxy
        go_wp2_with fail
        refine (put_some x a1 n cap z wr HI.out HM.out HZ1.out).mono ?_
        rintro e w1 ⟨g, rfl, g1, g2, g3⟩
        have U1 := hid (HU.out.trans g3)
        have HB := hid g2
        have HZ2 := hid (HZ1.out.nxt g3)
        clear g1 g2 g3
        have HF := hid (fr_sln HB.out (by rw [HL.out]; exact HM.out))
        have c2 := HZ2.out.conv cap
        have HRF := hid (fun W => refFrame_good x z W HI.out H8.out (by rw [HL.out]; exact HM.out))
        obtain ⟨sz, SZ⟩ : ∃ s, Hid (strOf z = s) := ⟨_, rfl⟩
        obtain ⟨sf, SF⟩ : ∃ s, Hid (strOf (FrM.fr x z) = s) := ⟨_, rfl⟩
        rw [SZ.out] at c2 HRF
        rw [SF.out] at HRF
        go_wp2_with fail
        refine (HRF.out _).mono ?_
        rintro e w2 ⟨rfl, u2⟩
        have U2 := hid (U1.out.trans u2)
        have HF2 := hid (HF.out.nxt u2)
        have HZ3 := hid (HZ2.out.nxt u2)
        clear u2 c2 HF HB
        have c3 := HF2.out.conv 96
        rw [SF.out] at c3
        have hqf : (sf.toList == sf.toList) = true := by simp
        go_wp2_with fail
        refine (take_yes (some ⟨g, 0, none⟩) 96 96 x z w2 HI.out (by rw [HL.out]; exact HM.out) HF2.out (by omega)).mono ?_
        rintro e w3 ⟨a3, c3', rfl, kt⟩
        rw [HL.out] at kt ⊢
        have U3 := hid (U2.out.trans kt.up)
        have HF3 := hid (HF2.out.nxt kt.up)
        have HK3 := hid kt.sl
        clear kt c3
        go_wp2_with fail
        refine (holds_yes (some ⟨g, 0, none⟩) 96 96 x z w3 HI.out (by rw [HL.out]; exact HM.out) HF3.out (by omega)).mono ?_
        rintro e w4 ⟨a4, c4, rfl, kh⟩
        rw [HL.out] at kh ⊢
        have U4 := hid (U3.out.trans kh.up)
        have HF4 := hid (HF3.out.nxt kh.up)
        have HK4' := hid (HK3.out.nxt kh.up)
        have HH4 := hid kh.sl
        clear kh HK3
        go_wp2_with fail
        refine (holds_no (some ⟨g, 0, none⟩) 96 96 x z y w4 HI.out HXY.out HF4.out (by omega)).mono ?_
        rintro e w5 ⟨rfl, u5⟩
        have U5 := hid (U4.out.trans u5)
        have c5 := (HK4'.out.nxt u5).conv c3'
        have c6 := (HH4.out.nxt u5).conv c4
        have c7 := (HZ.out.nxt U5.out).conv cap
        rw [SZ.out] at c5 c6 c7
        have hqz : (sz.toList == sz.toList) = true := by simp
        clear u5
        go_wp2_with fail
        go_round
        case rel => exact ⟨t + 1, k3, hlt, by go_num, rfl, by have := HK4.out; omega, U5.out⟩
        case measure => simp [intOf]; omega
      · have HG : Hid (X < 0 ∨ 4294967295 < X ∨ 64 < n) := by show _ ∨ _ ∨ _; omega
        clear hg
        have HSZ : Hid ((strOf z).size = n) := by show _ = _; rw [strOf_size, HL.out]
        have c2 := HZ1.out.conv cap
        have c3 := conv_nil wr
        obtain ⟨sz, SZ⟩ : ∃ s, Hid (strOf z = s) := ⟨_, rfl⟩
        rw [SZ.out] at c2 HSZ
        have hqz : ((⟨#[]⟩ : ByteArray).toList == (⟨#[]⟩ : ByteArray).toList) = true := by simp
        go_wp2_with fail
        refine (put_bad X a1 n cap wr HX.out (by have := HN.out; omega) HG.out).mono ?_
        rintro e w1 ⟨rfl, rfl⟩
        go_wp2_with fail
        refine (refFrame_bad X sz wr (by rw [HSZ.out]; have := HN.out; omega) (by rw [HSZ.out]; exact HG.out)).mono ?_
        rintro e w1 ⟨rfl, rfl⟩
        go_wp2_with fail
        go_round
        case rel => exact ⟨t + 1, k3, hlt, by go_num, rfl, by have := HK4.out; omega, HU.out⟩
        case measure => simp [intOf]; omega
    · obtain rfl : t = 2 := by omega
      go_wp2_with fail
      refine (fawake_any _).mono ?_
      rintro e w2 ⟨rfl, k2⟩
      have U2 := hid (HU.out.trans k2)
      clear k2
      go_wp2
      go_ret
      exact ⟨rfl, U2.out.below (Nat.le_refl _) fun _ _ => id⟩
theorem puts_walk (a0 : Int) (a1 : Option Addr) (len1 cap1 : Nat) (z1 : List Int) (w : World) (w0 : (Lit.int .i64 a0).wf = true) (w1 : CameIn w a1 len1 cap1 z1) :
    Calls Try.prog 5 #[.int .i64 a0, .slice a1 len1 cap1] w fun e w' => e = .returned (.bool true) ∧ Below w.heap.size w w' := by
  by_cases hn : len1 ≤ 300
  · obtain ⟨z, hz⟩ := SlN.of w1
    exact puts_short a0 a1 len1 cap1 z w (bounds_i64 w0) hn (came_cap w1) hz
  · exact puts_long a0 a1 len1 cap1 w (by omega)
end Go.Proofs.Ytmnkhdhohjceoaa
