/- The document's own product, inverse and power, walked. -/
import Derived.Test.YtebglmfdchfplaaGfMade
import Derived.Test.YtebglmfdchfplaaGfAlg
import Derived.Laws.BitsAllLaws
namespace Go.Proofs.Ytebglmfdchfplaa
open Go.RowKit

/-- One doubling, as a loop over ints writes it. -/
theorem dbl_hi (p : Nat) (h : (255 : Int) < (p : Int) * 2) (hg : p < 256) : Value.int IntKind.i64 (bits .xor .i64 ((p : Int) * 2) 285) = .int .i64 (GfM.dbl p) := by
  have e := i64_xor_nat (p * 2) 285 (by omega) (by omega)
  have e2 : ((p * 2 : Nat) : Int) = (p : Int) * 2 := by omega
  rw [e2] at e
  have e3 : ((285 : Nat) : Int) = 285 := rfl
  rw [e3] at e
  rw [e, GfM.dbl, if_pos (by omega)]
theorem dbl_lo (p : Nat) (h : (p : Int) * 2 ≤ 255) : Value.int IntKind.i64 ((p : Int) * 2) = .int .i64 (GfM.dbl p) := by
  have e2 : ((p * 2 : Nat) : Int) = (p : Int) * 2 := by omega
  rw [GfM.dbl, if_neg (by omega), e2]

/-- A byte's bit, as Go asks for it. -/
theorem u8_bit (b k : Nat) (hb : b < 256) : (bits .and .u8 ((b : Int) / 2 ^ k) 1 == 1) = decide (b / 2 ^ k % 2 = 1) := by
  have hd : b / 2 ^ k < 256 := Nat.lt_of_le_of_lt (Nat.div_le_self _ _) hb
  have e : ((b : Int) / 2 ^ k) = ((b / 2 ^ k : Nat) : Int) := by simp
  have h := u8_and_nat (b / 2 ^ k) 1 hd (by omega)
  rw [e]
  have e1 : ((1 : Nat) : Int) = 1 := rfl
  rw [e1] at h
  rw [h, nat_mask1, Bool.eq_iff_iff]
  simp only [beq_iff_eq, decide_eq_true_eq]
  omega
theorem racc_yes {a b k : Nat} (hb : b < 256) (h : (bits .and .u8 ((b : Int) / 2 ^ k) 1 == 1) = true) (h1 : GfM.pw k a < 256) (h2 : GfM.racc a b k < 256) :
    Value.int IntKind.i64 (bits .xor .i64 (GfM.racc a b k : Int) (GfM.pw k a)) = .int .i64 (GfM.racc a b (k + 1)) := by
  rw [u8_bit b k hb, decide_eq_true_eq] at h
  rw [i64_xor_nat _ _ (by omega) (by omega), GfM.racc, if_pos h]
theorem racc_no {a b k : Nat} (hb : b < 256) (h : (bits .and .u8 ((b : Int) / 2 ^ k) 1 == 1) = false) : Value.int IntKind.i64 (GfM.racc a b k : Int) = .int .i64 (GfM.racc a b (k + 1)) := by
  rw [u8_bit b k hb, decide_eq_false_iff_not] at h
  rw [GfM.racc, if_neg h]

set_option maxHeartbeats 800000 in
theorem refMul_any (a b : Nat) (w : World) (ha : a < 256) (hb : b < 256) :
    Calls Try.prog 45 #[.int .u8 a, .int .u8 b] w fun e w' => e = .returned (.int .u8 (GfM.mul a b)) ∧ w = w' := by
  have HE : Hid _ := GfM.racc_all a b ha hb
  go_enter Try.func45, Try.ntmps45
  go_wp2
  go_loop [5, 6, 7] (fun p x i => ∃ k : Nat, k ≤ 8 ∧ i = .int .i64 k ∧ x = .int .i64 (GfM.pw k a) ∧ p = .int .i64 (GfM.racc a b k)) (fun _ _ i => 8 - (intOf i).toNat)
  case atStart => exact ⟨0, by omega, rfl, rfl, rfl⟩
  case round =>
    obtain ⟨k, hk, rfl, rfl, rfl⟩ := hrel
    have h1 := GfM.pw_lt ha k
    have h2 := GfM.racc_lt ha b k
    by_cases hlt : k < 8
    · go_wp2
      · exact ⟨⟨k + 1, by omega, by go_num, dbl_hi _ (by assumption) h1, racc_yes hb (by assumption) h1 h2⟩, by simp [intOf]; omega⟩
      · exact ⟨⟨k + 1, by omega, by go_num, dbl_lo _ (by assumption), racc_yes hb (by assumption) h1 h2⟩, by simp [intOf]; omega⟩
      · exact ⟨⟨k + 1, by omega, by go_num, dbl_hi _ (by assumption) h1, racc_no hb (by assumption)⟩, by simp [intOf]; omega⟩
      · exact ⟨⟨k + 1, by omega, by go_num, dbl_lo _ (by assumption), racc_no hb (by assumption)⟩, by simp [intOf]; omega⟩
    · obtain rfl : k = 8 := by omega
      go_wp2
      go_ret
      exact ⟨ret_u8 (by rw [HE.out]), rfl⟩

theorem rinv_end (k q y : Nat) : GfM.rinv k 0 q y = q := by
  induction k generalizing y with
  | zero => rfl
  | succ k ih => unfold GfM.rinv; simpa using ih _
theorem rinv_half {k j m : Nat} (h : Hid (m < 2 ^ k)) (e : Hid (k = j + 1)) : m / 2 < 2 ^ j := by
  have h := h.out
  rw [e.out, Nat.pow_succ] at h
  omega
theorem rinv_odd {k j m q y v : Nat} (h : Hid (GfM.rinv k m q y = v)) (e : Hid (k = j + 1)) (o : Hid (m % 2 = 1)) : GfM.rinv j (m / 2) (GfM.mul q y) (GfM.mul y y) = v := by
  have h := h.out
  rw [e.out, GfM.rinv, if_pos o.out] at h
  exact h
theorem rinv_even {k j m q y v : Nat} (h : Hid (GfM.rinv k m q y = v)) (e : Hid (k = j + 1)) (o : Hid (¬ m % 2 = 1)) : GfM.rinv j (m / 2) q (GfM.mul y y) = v := by
  have h := h.out
  rw [e.out, GfM.rinv, if_neg o.out] at h
  exact h

set_option maxHeartbeats 800000 in
theorem refInv_any (a : Nat) (w : World) (ha : a < 256) :
    Calls Try.prog 44 #[.int .u8 a] w fun e w' => e = .returned (.int .u8 (GfM.inv a)) ∧ w = w' := by
  have HE : Hid _ := GfM.rinv_inv ha
  go_enter Try.func44, Try.ntmps44
  go_wp2
  go_loop [0, 3, 4] (fun x p n => ∃ k y q m : Nat, n = .int .i64 m ∧ x = .int .u8 y ∧ p = .int .u8 q ∧ m < 2 ^ k ∧ m ≤ 254 ∧ y < 256 ∧ q < 256 ∧ Hid (GfM.rinv k m q y = GfM.inv a)) (fun _ _ n => (intOf n).toNat)
  case atStart => exact ⟨8, a, 1, 254, rfl, rfl, rfl, by omega, by omega, ha, by omega, HE.out⟩
  case round =>
    obtain ⟨k, y, q, m, rfl, rfl, rfl, hk, hm, hy, hq, hr⟩ := hrel
    have HK : Hid _ := hk
    clear hk
    by_cases hpos : 0 < m
    · obtain ⟨j, HJ⟩ : ∃ j, Hid (k = j + 1) := by
        have hk := HK.out
        cases k with
        | zero => simp at hk; omega
        | succ j => exact ⟨j, rfl⟩
      by_cases hodd : m % 2 = 1
      · have ho : ((m : Int) % 2 == 1) = true := by simp; omega
        have HO : Hid _ := hodd
        clear hodd
        go_wp2_with fail
        refine (refMul_any _ _ _ hq hy).mono ?_
        rintro e w1 ⟨rfl, rfl⟩
        go_wp2_with fail
        refine (refMul_any _ _ _ hy hy).mono ?_
        rintro e w1 ⟨rfl, rfl⟩
        go_wp2
        go_round
        case rel => exact ⟨j, GfM.mul y y, GfM.mul q y, m / 2, by go_num, rfl, rfl, rinv_half HK HJ, by omega, GfM.mul_lt _ _, GfM.mul_lt _ _, rinv_odd hr HJ HO⟩
        case measure => simp [intOf]; omega
      · have ho : ((m : Int) % 2 == 1) = false := by simp; omega
        have HO : Hid _ := hodd
        clear hodd
        go_wp2_with fail
        refine (refMul_any _ _ _ hy hy).mono ?_
        rintro e w1 ⟨rfl, rfl⟩
        go_wp2
        go_round
        case rel => exact ⟨j, GfM.mul y y, q, m / 2, by go_num, rfl, rfl, rinv_half HK HJ, by omega, GfM.mul_lt _ _, hq, rinv_even hr HJ HO⟩
        case measure => simp [intOf]; omega
    · obtain rfl : m = 0 := by omega
      go_wp2
      go_ret
      exact ⟨ret_u8 (by rw [← hr.out, rinv_end]), rfl⟩

end Go.Proofs.Ytebglmfdchfplaa
