/- The law CrcBits, walked. -/
import Derived.Test.YtdkncehgaollcaaCrcOwn
import Derived.RegionTactic
import Derived.ChangeAlike
import Derived.WalkLawsBesides
import Derived.IntWalk
namespace Go.Proofs.Ytdkncehgaollcaa
open Go.RowKit
set_option linter.unusedVariables false

theorem bits_long (a : Option Addr) (n cap : Nat) (x y : Int) (w : World) (h : n = 0 ∨ 80 < n) :
    Calls Try.prog 5 #[.slice a n cap, .int .i64 x, .int .i64 y] w fun e w' => e = .returned (.bool true) ∧ Below w.heap.size w w' := by
  rcases h with h | h
  · subst h
    go_enter Try.func5, Try.ntmps5
    go_wp2_with fail
    refine (awake_any _).mono ?_
    rintro e w2 ⟨rfl, k2⟩
    go_wp2
    go_ret
    exact ⟨rfl, k2.below (Nat.le_refl _) fun _ _ => id⟩
  · have h0 : ((n : Int) == 0) = false := by simp; omega
    go_enter Try.func5, Try.ntmps5
    go_wp2_with fail
    refine (awake_any _).mono ?_
    rintro e w2 ⟨rfl, k2⟩
    go_wp2
    go_ret
    exact ⟨rfl, k2.below (Nat.le_refl _) fun _ _ => id⟩

/-- One bit of a byte turned. -/
theorem turn_bit {u j : Nat} (hu : u < 256) (hj : j < 8) : ∃ v : Nat, bits .xor .u8 (u : Int) ((2 : Int) ^ j % 256) = (v : Int) ∧ v < 256 ∧ v = u ^^^ 2 ^ j := by
  have hp : 2 ^ j < 256 := Nat.pow_lt_pow_right (by omega) (show j < 8 from hj)
  have e : (2 : Int) ^ j % 256 = ((2 ^ j : Nat) : Int) := by
    rw [Int.natCast_pow]
    exact Int.emod_eq_of_lt (by have := Int.pow_pos (n := 2) (m := j) (by decide); omega) (by
      have : (((2 ^ j : Nat)) : Int) < 256 := by omega
      rwa [Int.natCast_pow] at this)
  rw [e]
  exact ⟨u ^^^ 2 ^ j, u8_xor_nat u (2 ^ j) hu hp, Nat.xor_lt_two_pow (n := 8) hu hp, rfl⟩
set_option maxRecDepth 100000 in
set_option maxHeartbeats 1600000 in
theorem bits_short (a : Option Addr) (n cap : Nat) (z : List Nat) (x y : Int) (w : World) (h : 0 < n) (h80 : n ≤ 80) (ha : a = none → n = 0 ∧ cap = 0) (hb : SlN w a n z) :
    Calls Try.prog 5 #[.slice a n cap, .int .i64 x, .int .i64 y] w fun e w' => e = .returned (.bool true) ∧ Below w.heap.size w w' := by
  obtain ⟨i0, hi0, _⟩ := i64_mask16 x
  obtain ⟨k0, hk0, _⟩ := i64_mask16 y
  obtain ⟨i, hi, hin⟩ : ∃ i : Nat, (i0 : Int) % (8 * (n : Int)) = (i : Int) ∧ i < 8 * n := ⟨i0 % (8 * n), by rw [Int.natCast_emod]; rfl, Nat.mod_lt _ (by omega)⟩
  obtain ⟨k, hk, hkn⟩ : ∃ i : Nat, (k0 : Int) % (8 * (n : Int)) = (i : Int) ∧ i < 8 * n := ⟨k0 % (8 * n), by rw [Int.natCast_emod]; rfl, Nat.mod_lt _ (by omega)⟩
  obtain ⟨b, o, rfl, hbw, hrow⟩ : ∃ b o, a = some ⟨b, o, none⟩ ∧ b < w.heap.size ∧ Row w b o z := by
    rcases hb.row with e | h
    · omega
    · exact h
  have hlen := hb.len
  have HL := hid hlen
  have HB := hid hb
  have HR := hid hrow
  have h0 : ((n : Int) == 0) = false := by simp; omega
  obtain ⟨qi, QI⟩ : ∃ q, Hid (i / 8 = q) := ⟨_, rfl⟩
  obtain ⟨ji, JI⟩ : ∃ q, Hid (i % 8 = q) := ⟨_, rfl⟩
  have qi1 : (i : Int) / 8 = (qi : Int) := by rw [← QI.out]; rfl
  have ji1 : (i : Int) % 8 = (ji : Int) := by rw [← JI.out]; rfl
  have qi2 : qi < n := by rw [← QI.out]; omega
  have ji2 : ji < 8 := by rw [← JI.out]; omega
  clear ha hb hlen hrow
  go_enter Try.func5, Try.ntmps5
  go_wp2
  go_region
  have HM := hid (OwnB.fresh w.heap.size w.drew (Nat.le_refl _))
  have HU := hid (((Up.refl Nul w).drew).alloc (.cells #[] 5))
  have HR2 := hid (HR.out.up HU.out hbw id)
  go_wp2_with (at_builtin; refine wpList_append_bytes rfl _ _ rfl w.heap.size _ [] rfl HM.out b o n cap z rfl HR2.out HL.out (by simp; omega) (by simp) ?_; intro v' w1 hown hgrow)
  rw [List.nil_append] at hown
  obtain ⟨g1, cp1, rfl, hg1, hcp1, hm1⟩ := Mine.of hown.out (by rw [HL.out]; exact h)
  have HI := hid (HU.out.grown hgrow.out fun k hk => HM.out.base k hk)
  rw [HL.out] at hcp1 ⊢
  have cc1 := hm1.row.cells qi (by rw [HL.out]; exact qi2)
  have cf1 := hm1.fr qi
  have c81 := hm1.row.small qi
  rw [Nat.zero_add] at cc1
  obtain ⟨u, U⟩ : ∃ u, Hid (z.getD qi 0 = u) := ⟨_, rfl⟩
  rw [U.out] at cc1 c81
  have i1 : (0 : Int) ≤ (qi : Int) := by omega
  have i2 : (qi : Int) < (n : Int) := by omega
  obtain ⟨v, hv, v8, ev⟩ := turn_bit c81 ji2
  have HF1 : Hid (z.set qi v = CrcM.flip z i) := by show _ = _; rw [CrcM.flip, QI.out, JI.out, U.out, ev]
  clear ev hown hgrow HM HU HR2
  have HM1 := hid ((hm1.set qi v (by rw [HL.out]; exact qi2) v8).drewN 1)
  rw [HF1.out] at HM1
  have HI2 : Hid (Up Nul w (w1.setCell ⟨g1, qi, none⟩ (.int .u8 v)).drew) := (HI.out.setCell (.inl hg1) _).drew
  have hgs := hm1.lt
  clear hm1
  go_wp2
  go_region
  clear hv v8 i1 i2 qi1 ji1 cc1 cf1 c81
  have HM1' : Hid (Mine (w1.setCell ⟨g1, qi, none⟩ (.int .u8 v)).drew g1 (CrcM.flip z i)) := HM1.out
  clear HM1
  have hgs2 : g1 < (w1.setCell ⟨g1, qi, none⟩ (.int .u8 v)).drew.heap.size := HM1'.out.lt
  generalize (w1.setCell ⟨g1, qi, none⟩ (.int .u8 v)).drew = w2 at *
  have HL2 : Hid ((CrcM.flip z i).length = n) := (CrcM.flip_length z i).trans HL.out
  obtain ⟨qk, QK⟩ : ∃ q, Hid (k / 8 = q) := ⟨_, rfl⟩
  obtain ⟨jk, JK⟩ : ∃ q, Hid (k % 8 = q) := ⟨_, rfl⟩
  have qk1 : (k : Int) / 8 = (qk : Int) := by rw [← QK.out]; rfl
  have jk1 : (k : Int) % 8 = (jk : Int) := by rw [← JK.out]; rfl
  have qk2 : qk < n := by rw [← QK.out]; omega
  have jk2 : jk < 8 := by rw [← JK.out]; omega
  have HM := hid (OwnB.fresh w2.heap.size w2 (Nat.le_refl _))
  have HU := hid ((Up.refl Nul w2).alloc (.cells #[] 5))
  have HR2 := hid (HM1'.out.row.up HU.out hgs2 id)
  go_wp2_with (at_builtin; refine wpList_append_bytes rfl _ _ rfl w2.heap.size _ [] rfl HM.out g1 0 n cp1 (CrcM.flip z i) rfl HR2.out HL2.out (by simp; omega) (by simp) ?_; intro v' w3 hown hgrow)
  rw [List.nil_append] at hown
  obtain ⟨g2, cp2, rfl, hg2, hcp2, hm2⟩ := Mine.of hown.out (by rw [HL2.out]; exact h)
  have HI3 := hid (HU.out.grown hgrow.out fun k hk => HM.out.base k hk)
  have HM3 := hid (HM1'.out.up HI3.out id)
  rw [HL2.out] at hcp2 ⊢
  have cc2 := hm2.row.cells qk (by rw [HL2.out]; exact qk2)
  have cf2 := hm2.fr qk
  have c82 := hm2.row.small qk
  rw [Nat.zero_add] at cc2
  obtain ⟨u2, U2⟩ : ∃ u, Hid ((CrcM.flip z i).getD qk 0 = u) := ⟨_, rfl⟩
  rw [U2.out] at cc2 c82
  have i1 : (0 : Int) ≤ (qk : Int) := by omega
  have i2 : (qk : Int) < (n : Int) := by omega
  obtain ⟨v2, hv, v8, ev⟩ := turn_bit c82 jk2
  have HF2 : Hid ((CrcM.flip z i).set qk v2 = CrcM.flip (CrcM.flip z i) k) := by show _ = (CrcM.flip z i).set (k / 8) ((CrcM.flip z i).getD (k / 8) 0 ^^^ 2 ^ (k % 8)); rw [QK.out, JK.out, U2.out, ev]
  have HM4 := hid ((hm2.set qk v2 (by rw [HL2.out]; exact qk2) v8).drewN 1)
  rw [HF2.out] at HM4
  have hne : g1 ≠ g2 := by omega
  have HM5 : Hid (Mine (w3.setCell ⟨g2, qk, none⟩ (.int .u8 v2)).drew g1 (CrcM.flip z i)) := HM3.out.up (S := One g2) (((Up.refl (One g2) w3).setCell (p := ⟨g2, qk, none⟩) (.inr (show One g2 g2 from rfl)) _).drew) (fun e => hne e)
  have HI4 : Hid (Up Nul w2 (w3.setCell ⟨g2, qk, none⟩ (.int .u8 v2)).drew) := (HI3.out.setCell (.inl hg2) _).drew
  have HM4' : Hid (Mine (w3.setCell ⟨g2, qk, none⟩ (.int .u8 v2)).drew g2 (CrcM.flip (CrcM.flip z i) k)) := HM4.out
  clear HM4 hne ev hown hgrow HM HU HR2 hm2 HM3 HI3 hgs hgs2
  go_wp2
  go_region
  clear hv v8 i1 i2 qk1 jk1 cc2 cf2 c82
  generalize (w3.setCell ⟨g2, qk, none⟩ (.int .u8 v2)).drew = w4 at *
  have HL3 : Hid ((CrcM.flip (CrcM.flip z i) k).length = n) := (CrcM.flip_length _ k).trans HL2.out
  have HI5 : Hid (Up Nul w w4) := HI2.out.trans HI4.out
  have HS0 := hid (HB.out.next HI5.out)
  have HS1 := hid (HM5.out.sl (by rw [HL2.out]; omega))
  have HS2 := hid (HM4'.out.sl (by rw [HL3.out]; omega))
  rw [HL2.out] at HS1
  rw [HL3.out] at HS2
  have hs1 := CrcM.sum_one (z := z) (p := i) (by rw [HL.out]; exact hin)
  have hs2 := CrcM.sum_two (z := z) (p := i) (q := k) (by rw [HL.out]; exact h80) (by rw [HL.out]; exact hin) (by rw [HL.out]; exact hkn)
  obtain ⟨s0, S0⟩ : ∃ x, Hid (CrcM.sum z = x) := ⟨_, rfl⟩
  obtain ⟨s1, S1⟩ : ∃ x, Hid (CrcM.sum (CrcM.flip z i) = x) := ⟨_, rfl⟩
  obtain ⟨s2, S2⟩ : ∃ x, Hid (CrcM.sum (CrcM.flip (CrcM.flip z i) k) = x) := ⟨_, rfl⟩
  rw [S0.out, S1.out] at hs1
  rw [S0.out, S2.out] at hs2
  have t1 : ((s1 : Int) == (s0 : Int)) = false := by simp; omega
  have t2 : ((s1 : Int) != (s0 : Int)) = true := by simp; omega
  have HS3 := hid hs2
  clear hs1 hs2
  go_wp2_with fail
  refine (sum_any _ _ _ z _ HS0.out).mono ?_
  rintro e w5 ⟨rfl, k5⟩
  rw [S0.out]
  have H5 := hid k5
  clear k5
  go_wp2_with fail
  refine (sum_any _ _ _ _ _ (HS1.out.next H5.out)).mono ?_
  rintro e w6 ⟨rfl, k6⟩
  rw [S1.out]
  have H6 := hid (H5.out.trans k6)
  clear k6
  go_wp2_with fail
  refine (sum_any _ _ _ _ _ (HS2.out.next H6.out)).mono ?_
  rintro e w7 ⟨rfl, k7⟩
  rw [S2.out]
  have H7 := hid (H6.out.trans k7)
  clear k7
  by_cases hik : i = k
  · have e0 : s2 = s0 := HS3.out.2 hik
    subst e0
    subst hik
    clear t1 t2
    go_wp2_with fail
    refine (awake_any _).mono ?_
    rintro e w8 ⟨rfl, k8⟩
    go_wp2
    go_ret
    exact ⟨rfl, (HI5.out.trans (H7.out.trans k8)).below (Nat.le_refl _) fun _ _ => id⟩
  · have e0 : s2 ≠ s0 := fun e => hik (HS3.out.1 e)
    have t3 : ((s2 : Int) == (s0 : Int)) = false := by simp; omega
    have t4 : ((i : Int) == (k : Int)) = false := by simp; omega
    clear e0 hik
    go_wp2_with fail
    refine (awake_any _).mono ?_
    rintro e w8 ⟨rfl, k8⟩
    go_wp2
    go_ret
    exact ⟨rfl, (HI5.out.trans (H7.out.trans k8)).below (Nat.le_refl _) fun _ _ => id⟩
theorem bits_walk (a0 : Option Addr) (len0 cap0 : Nat) (z0 : List Int) (a1 a2 : Int) (w : World) (w0 : CameIn w a0 len0 cap0 z0) :
    Calls Try.prog 5 #[.slice a0 len0 cap0, .int .i64 a1, .int .i64 a2] w fun e w' => e = .returned (.bool true) ∧ Below w.heap.size w w' := by
  by_cases h : len0 = 0 ∨ 80 < len0
  · exact bits_long a0 len0 cap0 a1 a2 w h
  · obtain ⟨y0, h0⟩ := SlN.of w0
    exact bits_short a0 len0 cap0 y0 a1 a2 w (by omega) (by omega) (came_nil w0) h0
end Go.Proofs.Ytdkncehgaollcaa
