/- The law FrameBits, walked. -/
import Derived.Test.YtmnkhdhohjceoaaFrameLaw
import Derived.RegionTactic
import Derived.ChangeAlike
import Derived.WalkLawsBesides
import Derived.IntWalk
namespace Go.Proofs.Ytmnkhdhohjceoaa
open Go.RowKit
set_option linter.unusedVariables false

namespace FrL
/-- One bit of a byte turned. -/
theorem turn_bit {u j : Nat} (hu : u < 256) (hj : j < 8) : ∃ v : Nat, bits .xor .u8 (u : Int) ((2 : Int) ^ j % 256) = (v : Int) ∧ v < 256 ∧ v = u ^^^ 2 ^ j := by
  have hp : 2 ^ j < 256 := Nat.pow_lt_pow_right (by omega) (show j < 8 from hj)
  have e : (2 : Int) ^ j % 256 = ((2 ^ j : Nat) : Int) := by
    rw [Int.natCast_pow]
    exact Int.emod_eq_of_lt (by have := Int.pow_pos (n := 2) (m := j) (by decide); omega) (by
      have : (((2 ^ j : Nat)) : Int) < 256 := by omega
      rwa [Int.natCast_pow] at this)
  rw [e]
  exact ⟨u ^^^ 2 ^ j, u8_xor_nat u (2 ^ j) hu hp, Nat.xor_lt_two_pow (n := 8) hu hp, rfl⟩
end FrL
theorem bits_long (a0 : Int) (a1 : Option Addr) (l1 c1 : Nat) (a2 a3 : Int) (a4 : Option Addr) (l4 c4 : Nat) (w : World) (h : 64 < l1 ∨ 64 < l4) :
    Calls Try.prog 7 #[.int .i64 a0, .slice a1 l1 c1, .int .i64 a2, .int .i64 a3, .slice a4 l4 c4] w fun e w' => e = .returned (.bool true) ∧ Below w.heap.size w w' := by
  by_cases h1 : 64 < l1
  · have i1 : (64 : Int) < (l1 : Int) := by omega
    clear h
    go_enter Try.func7, Try.ntmps7
    go_wp2_with fail
    refine (fawake_any _).mono ?_
    rintro e w2 ⟨rfl, k2⟩
    go_wp2
    go_ret
    exact ⟨rfl, k2.below (Nat.le_refl _) fun _ _ => id⟩
  · have i1 : ¬ (64 : Int) < (l1 : Int) := by omega
    have i2 : (64 : Int) < (l4 : Int) := by omega
    clear h
    go_enter Try.func7, Try.ntmps7
    go_wp2_with fail
    refine (fawake_any _).mono ?_
    rintro e w2 ⟨rfl, k2⟩
    go_wp2
    go_ret
    exact ⟨rfl, k2.below (Nat.le_refl _) fun _ _ => id⟩
set_option maxRecDepth 100000 in
set_option maxHeartbeats 3200000 in
theorem bits_short (a0 : Int) (a1 : Option Addr) (l1 c1 : Nat) (z1 : List Nat) (a2 a3 : Int) (a4 : Option Addr) (l4 c4 : Nat) (z4 : List Nat) (w : World) (h1 : l1 ≤ 64) (h4 : l4 ≤ 64) (hz1 : SlN w a1 l1 z1) (hz4 : SlN w a4 l4 z4) :
    Calls Try.prog 7 #[.int .i64 a0, .slice a1 l1 c1, .int .i64 a2, .int .i64 a3, .slice a4 l4 c4] w fun e w' => e = .returned (.bool true) ∧ Below w.heap.size w w' := by
  obtain ⟨x, hx, hx2⟩ := FrL.mask32 a0
  obtain ⟨y, hy, hy2⟩ := FrL.mask32 a3
  obtain ⟨m, hm, _⟩ := FrL.mask16 a2
  obtain ⟨p, hp, hp2⟩ := FrL.rem_lit m 768 (by omega)
  have hp : (m : Int) % 768 = (p : Int) := hp
  obtain ⟨qi, QI⟩ : ∃ q, Hid (p / 8 = q) := ⟨_, rfl⟩
  obtain ⟨ji, JI⟩ : ∃ q, Hid (p % 8 = q) := ⟨_, rfl⟩
  have qi1 : (p : Int) / 8 = (qi : Int) := by rw [← QI.out]; rfl
  have ji1 : (p : Int) % 8 = (ji : Int) := by rw [← JI.out]; rfl
  have qi2 : qi < 96 := by rw [← QI.out]; omega
  have ji2 : ji < 8 := by rw [← JI.out]; omega
  have HX := hid hx2
  have HY := hid hy2
  have H1 := hid h1
  have H4 := hid h4
  have HZ1 := hid hz1
  have HZ4 := hid hz4
  have HL1 : Hid (z1.length ≤ 64) := by show _ ≤ _; rw [hz1.len]; exact h1
  have HL4 : Hid (z4.length ≤ 64) := by show _ ≤ _; rw [hz4.len]; exact h4
  have i1 : ¬ (64 : Int) < (l1 : Int) := by omega
  have i2 : ¬ (64 : Int) < (l4 : Int) := by omega
  have HQ := hid (And.intro qi2 ji2)
  clear hx2 hy2 h1 h4 hz1 hz4 hp2
  go_enter Try.func7, Try.ntmps7
  go_wp2_with fail
  refine (put_some x a1 l1 c1 z1 w HX.out H1.out HZ1.out).mono ?_
  rintro e w1 ⟨g1, rfl, n1, b1, u1⟩
  have HB1 := hid b1
  have HN1 := hid n1
  have U1 := hid u1
  clear b1 n1 u1
  go_wp2_with fail
  refine (put_some y a4 l4 c4 z4 w1 HY.out H4.out (HZ4.out.nxt U1.out)).mono ?_
  rintro e w2 ⟨g2, rfl, _, b2, u2⟩
  have HB2 := hid b2
  have HB := hid (HB1.out.up u2 fun h => h)
  have U2 := hid (U1.out.trans u2)
  clear b2 u2 HB1
  have k1 := (fr_sln HB.out HL1.out).conv 96
  have k2 := (fr_sln HB2.out HL4.out).conv 96
  have k3 := (HZ1.out.nxt U2.out).conv c1
  have k4 := (HZ4.out.nxt U2.out).conv c4
  have hf1 := small_getD (FrM.fr_small (id := x) HL1.out HZ1.out.small)
  have hf4 := small_getD (FrM.fr_small (id := y) HL4.out HZ4.out.small)
  have HE1 := hid (str_beq hf1 hf4)
  have HE2 := hid (str_beq (small_getD HZ1.out.small) (small_getD HZ4.out.small))
  have HINJ : Hid (FrM.fr x z1 = FrM.fr y z4 ↔ x = y ∧ z1 = z4) := ⟨fun h => FrM.fr_inj HX.out HY.out h, fun h => by rw [h.1, h.2]⟩
  have HFL : Hid ((FrM.fr x z1).length = 96) := FrM.fr_length HL1.out
  have HNO : Hid (∀ i j, i < 96 → j < 8 → FrM.tk ((FrM.fr x z1).set i ((FrM.fr x z1).getD i 0 ^^^ 2 ^ j)) = none) := fun i j hi hj => FrM.tk_one HL1.out HZ1.out.small hi hj
  have HF8 := hid hf1
  clear hf1 hf4
  generalize FrM.fr x z1 = f1 at HB k1 HE1 HINJ HFL HNO HF8
  generalize FrM.fr y z4 = f4 at HB2 k2 HE1 HINJ
  go_upto_region 6 with fail
  go_cut [71] from 43 to 71 (fun c wx => c = .bool false ∧ wx = w2)
  case first =>
    generalize strOf f1 = s1 at k1 HE1
    generalize strOf f4 = s4 at k2 HE1
    generalize strOf z1 = t1 at k3 HE2
    generalize strOf z4 = t4 at k4 HE2
    by_cases e1 : x = y
    · have j1 : ((x : Int) == (y : Int)) = true := by simp [e1]
      by_cases e2 : z1 = z4
      · have j2 : (t1.toList == t4.toList) = true := by rw [HE2.out]; exact decide_eq_true e2
        have j3 : (s1.toList == s4.toList) = true := by rw [HE1.out]; exact decide_eq_true (HINJ.out.2 ⟨e1, e2⟩)
        clear e1 e2
        go_wp2_with fail
        go_meet
        exact ⟨rfl, rfl⟩
      · have j2 : (t1.toList == t4.toList) = false := by rw [HE2.out]; exact decide_eq_false e2
        have j3 : (s1.toList == s4.toList) = false := by rw [HE1.out]; exact decide_eq_false fun h => e2 (HINJ.out.1 h).2
        clear e1 e2
        go_wp2_with fail
        go_meet
        exact ⟨rfl, rfl⟩
    · have j1 : ((x : Int) == (y : Int)) = false := by simp; omega
      have j3 : (s1.toList == s4.toList) = false := by rw [HE1.out]; exact decide_eq_false fun h => e1 (HINJ.out.1 h).1
      clear e1
      go_wp2_with fail
      go_meet
      exact ⟨rfl, rfl⟩
  obtain ⟨rfl, rfl⟩ := hcut
  clear k1 k2 k3 k4
  have v1 := HB.out.cell qi (by rw [HFL.out]; exact HQ.out.1)
  have v2 := HB.out.froz qi
  have h8 := HF8.out qi
  obtain ⟨v, hv, v8, ev⟩ := FrL.turn_bit h8 HQ.out.2
  have HT : Hid (FrM.tk (f1.set qi v) = none) := by show _ = _; rw [ev]; exact HNO.out qi ji HQ.out.1 HQ.out.2
  have HBW := hid (HB.out.set qi v v8)
  have UW : Hid (Up Nul w (wc.setCell ⟨g1, qi, none⟩ (.int .u8 (v : Nat)))) := U2.out.setCell (p := ⟨g1, qi, none⟩) (.inl HN1.out) _
  have HLW : Hid ((f1.set qi v).length = 96) := by show _ = _; rw [List.length_set, HFL.out]
  generalize f1.getD qi 0 = u at v1 h8 hv ev
  have q1 : (0 : Int) ≤ (qi : Int) := by omega
  have q2 : (qi : Int) < 96 := by omega
  clear ev HNO HINJ
  go_wp2_with fail
  go_region
  have W' : Hid (Up Nul w (wc.setCell ⟨g1, qi, none⟩ (.int .u8 (v : Nat))).drew) := UW.out.drew
  have HBW' : Hid (Blk (wc.setCell ⟨g1, qi, none⟩ (.int .u8 (v : Nat))).drew g1 (f1.set qi v)) := HBW.out.drew
  clear hv v8 v1 v2 h8 q1 q2 qi1 ji1 UW HBW
  generalize (wc.setCell ⟨g1, qi, none⟩ (.int .u8 (v : Nat))).drew = w4 at W' HBW' ⊢
  go_wp2_with fail
  refine (take_no (some ⟨g1, 0, none⟩) 96 96 (f1.set qi v) w4 HT.out (blk_sln HBW'.out (by rw [HLW.out]; omega) (by rw [List.drop_zero, List.take_of_length_le (by rw [HLW.out]; omega)]) (by omega)) (by omega)).mono ?_
  rintro e w5 ⟨rfl, u5⟩
  have H5 := hid (W'.out.trans u5)
  clear u5
  go_wp2_with fail
  refine (fawake_any _).mono ?_
  rintro e w6 ⟨rfl, k6⟩
  have H6 := hid (H5.out.trans k6)
  clear k6
  go_wp2
  go_ret
  exact ⟨rfl, H6.out.below (Nat.le_refl _) fun _ _ => fun h => h⟩
theorem bits_walk (a0 : Int) (a1 : Option Addr) (l1 c1 : Nat) (z1 : List Int) (a2 a3 : Int) (a4 : Option Addr) (l4 c4 : Nat) (z4 : List Int) (w : World) (w1 : CameIn w a1 l1 c1 z1) (w4 : CameIn w a4 l4 c4 z4) :
    Calls Try.prog 7 #[.int .i64 a0, .slice a1 l1 c1, .int .i64 a2, .int .i64 a3, .slice a4 l4 c4] w fun e w' => e = .returned (.bool true) ∧ Below w.heap.size w w' := by
  by_cases h : 64 < l1 ∨ 64 < l4
  · exact bits_long a0 a1 l1 c1 a2 a3 a4 l4 c4 w h
  · obtain ⟨z1, h1⟩ := SlN.of w1
    obtain ⟨z4, h4⟩ := SlN.of w4
    exact bits_short a0 a1 l1 c1 z1 a2 a3 a4 l4 c4 z4 w (by omega) (by omega) h1 h4
end Go.Proofs.Ytmnkhdhohjceoaa
