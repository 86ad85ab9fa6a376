/- The field's laws, in plain numbers: products may be turned and grouped, go over sums, and have inverses. -/
import Derived.Test.YtebglmfdchfplaaGfMath
namespace Go.Proofs.Ytebglmfdchfplaa
namespace GfM

theorem gexp_add (j k : Nat) : gexp (j + k) = pw j (gexp k) := pw_add j k 1
theorem mul_ne {a b : Nat} (ha : a ≠ 0) (hb : b ≠ 0) : mul a b = gexp (glog a + glog b) := by
  unfold mul
  rw [if_neg (by intro h; rcases h with h | h; exact ha h; exact hb h), gexp_mod]
theorem zero_mul (b : Nat) : mul 0 b = 0 := by simp [mul]
theorem mul_zero (a : Nat) : mul a 0 = 0 := by simp [mul]
theorem mul_comm (a b : Nat) : mul a b = mul b a := by
  unfold mul
  by_cases h : a = 0 ∨ b = 0
  · rw [if_pos h, if_pos h.symm]
  · rw [if_neg h, if_neg (fun k => h k.symm), Nat.add_comm]
theorem mul_pos {a b : Nat} (ha : a ≠ 0) (hb : b ≠ 0) : mul a b ≠ 0 := by
  rw [mul_ne ha hb]
  have := gexp_le (glog a + glog b)
  omega
theorem glog_mul {a b : Nat} (ha : a ≠ 0) (hb : b ≠ 0) : glog (mul a b) = (glog a + glog b) % 255 := by
  rw [mul_ne ha hb, ← gexp_mod, glog_gexp (Nat.mod_lt _ (by omega))]
theorem mul_assoc (a b c : Nat) : mul (mul a b) c = mul a (mul b c) := by
  by_cases ha : a = 0
  · subst ha; simp [zero_mul]
  by_cases hb : b = 0
  · subst hb; simp [zero_mul, mul_zero]
  by_cases hc : c = 0
  · subst hc; simp [mul_zero]
  rw [mul_ne (mul_pos ha hb) hc, mul_ne ha (mul_pos hb hc), glog_mul ha hb, glog_mul hb hc, ← gexp_mod, ← gexp_mod (glog a + _)]
  congr 1
  omega
theorem glog_one : glog 1 = 0 := by decide +kernel
theorem mul_one {a : Nat} (h : a < 256) : mul a 1 = a := by
  by_cases ha : a = 0
  · subst ha; rfl
  · rw [mul_ne ha (by omega), glog_one, Nat.add_zero, gexp_glog ha h]
theorem one_mul {a : Nat} (h : a < 256) : mul 1 a = a := by rw [mul_comm, mul_one h]
theorem inv_ne {a : Nat} (ha : a ≠ 0) : inv a = gexp (255 - glog a) := by
  unfold inv
  rw [if_neg ha, gexp_mod]
theorem inv_pos {a : Nat} (ha : a ≠ 0) : inv a ≠ 0 := by
  rw [inv_ne ha]
  have := gexp_le (255 - glog a)
  omega
theorem glog_inv {a : Nat} (ha : a ≠ 0) : glog (inv a) = (255 - glog a) % 255 := by
  rw [inv_ne ha, ← gexp_mod, glog_gexp (Nat.mod_lt _ (by omega))]
theorem mul_inv {a : Nat} (ha : a ≠ 0) (h : a < 256) : mul a (inv a) = 1 := by
  have hl := glog_lt ha h
  rw [mul_ne ha (inv_pos ha), glog_inv ha, ← gexp_mod]
  have : (glog a + (255 - glog a) % 255) % 255 = 0 := by omega
  rw [this]; rfl
theorem mul_div {a b : Nat} (hb : b ≠ 0) (ha : a < 256) (h : b < 256) : mul (mul a b) (inv b) = a := by
  rw [mul_assoc, mul_inv hb h, mul_one ha]
theorem inv_inv {a : Nat} (ha : a ≠ 0) (h : a < 256) : inv (inv a) = a := by
  have hl := glog_lt ha h
  rw [inv_ne (inv_pos ha), glog_inv ha, ← gexp_mod]
  have : (255 - (255 - glog a) % 255) % 255 = glog a := by omega
  rw [this, gexp_glog ha h]
theorem mul_cancel {a x y : Nat} (ha : a ≠ 0) (h : a < 256) (hx : x < 256) (hy : y < 256) (e : mul a x = mul a y) : x = y := by
  have e1 : mul (mul a x) (inv a) = mul (mul a y) (inv a) := by rw [e]
  rw [mul_comm a x, mul_comm a y, mul_div ha hx h, mul_div ha hy h] at e1
  exact e1

/-! Sums. -/
theorem dbl_pairs : (List.range 256).all (fun a => (List.range 256).all (fun b => Nat.beq (dbl (a ^^^ b)) (dbl a ^^^ dbl b))) = true := by decide +kernel
theorem dbl_xor {a b : Nat} (ha : a < 256) (hb : b < 256) : dbl (a ^^^ b) = dbl a ^^^ dbl b := by
  have h1 := all_range 256 _ dbl_pairs a ha
  have h2 := all_range 256 _ h1 b hb
  exact Nat.eq_of_beq_eq_true h2
theorem dbl_lt {a : Nat} (ha : a < 256) : dbl a < 256 := by
  have := all_range 256 _ dbl_facts a ha
  simp only [decide_eq_true_eq] at this
  omega
theorem pw_lt {a : Nat} (ha : a < 256) (k : Nat) : pw k a < 256 := by
  induction k with
  | zero => exact ha
  | succ k ih => exact dbl_lt ih
theorem pw_zero (k : Nat) : pw k 0 = 0 := by
  induction k with
  | zero => rfl
  | succ k ih => show dbl (pw k 0) = 0; rw [ih]; rfl
theorem pw_xor {a b : Nat} (ha : a < 256) (hb : b < 256) (k : Nat) : pw k (a ^^^ b) = pw k a ^^^ pw k b := by
  induction k with
  | zero => rfl
  | succ k ih => show dbl (pw k (a ^^^ b)) = dbl (pw k a) ^^^ dbl (pw k b); rw [ih, dbl_xor (pw_lt ha k) (pw_lt hb k)]
theorem mul_pw {a x : Nat} (ha : a ≠ 0) (hx : x < 256) : mul a x = pw (glog a) x := by
  by_cases h : x = 0
  · subst h; rw [mul_zero, pw_zero]
  · rw [mul_ne ha h, gexp_add, gexp_glog h hx]
theorem mul_xor (a : Nat) {x y : Nat} (hx : x < 256) (hy : y < 256) : mul a (x ^^^ y) = mul a x ^^^ mul a y := by
  by_cases ha : a = 0
  · subst ha; simp [zero_mul]
  · have hxy : x ^^^ y < 256 := Nat.xor_lt_two_pow (n := 8) hx hy
    rw [mul_pw ha hxy, mul_pw ha hx, mul_pw ha hy, pw_xor hx hy]
theorem xor_lt {x y : Nat} (hx : x < 256) (hy : y < 256) : x ^^^ y < 256 := Nat.xor_lt_two_pow (n := 8) hx hy
theorem mul_lt (a b : Nat) : mul a b < 256 := by have := mul_le a b; omega
theorem inv_lt (a : Nat) : inv a < 256 := by have := inv_le a; omega
/-! The document's own product, bit by bit. -/
def racc (a b : Nat) : Nat → Nat
  | 0 => 0
  | i + 1 => if b / 2 ^ i % 2 = 1 then racc a b i ^^^ pw i a else racc a b i
theorem racc_lt {a : Nat} (ha : a < 256) (b i : Nat) : racc a b i < 256 := by
  induction i with
  | zero => simp [racc]
  | succ i ih => unfold racc; split; exact xor_lt ih (pw_lt ha i); exact ih
theorem glog_two : (List.range 8).all (fun i => Nat.beq (glog (2 ^ i)) i) = true := by decide +kernel
theorem mul_two_pow (a i : Nat) (ha : a < 256) (hi : i < 8) : mul a (2 ^ i) = pw i a := by
  have h := Nat.eq_of_beq_eq_true (all_range 8 _ glog_two i hi)
  have hp : 2 ^ i ≠ 0 := Nat.pos_iff_ne_zero.1 (Nat.two_pow_pos i)
  rw [mul_comm, mul_pw hp ha, h]
theorem racc_mul (a b i : Nat) (ha : a < 256) (hi : i ≤ 8) : racc a b i = mul a (b % 2 ^ i) := by
  induction i with
  | zero => simp [racc, Nat.mod_one, mul_zero]
  | succ i ih =>
    have h1 := ih (by omega)
    have hlt : b % 2 ^ i < 2 ^ i := Nat.mod_lt _ (Nat.two_pow_pos i)
    have hle : 2 ^ i < 2 ^ 8 := Nat.pow_lt_pow_right (by omega) (by omega)
    have hm : b % 2 ^ (i + 1) = b % 2 ^ i + 2 ^ i * (b / 2 ^ i % 2) := by rw [Nat.pow_succ, Nat.mod_mul]
    unfold racc
    split
    · rename_i hb
      rw [hm, hb, Nat.mul_one]
      have hx : b % 2 ^ i + 2 ^ i = (b % 2 ^ i) ^^^ (2 ^ i) := by
        rw [Nat.add_comm]
        have := Nat.two_pow_add_eq_or_of_lt hlt 1
        rw [Nat.mul_one] at this
        rw [this]
        apply Nat.eq_of_testBit_eq
        intro j
        rw [Nat.testBit_or, Nat.testBit_xor, Nat.testBit_two_pow]
        by_cases hj : i = j
        · subst hj
          have : (b % 2 ^ i).testBit i = false := Nat.testBit_lt_two_pow hlt
          simp [this]
        · simp [hj]
      rw [hx, mul_xor a (by omega) (by omega), mul_two_pow a i ha (by omega), h1]
    · rename_i hb
      have : b / 2 ^ i % 2 = 0 := by omega
      rw [hm, this, Nat.mul_zero, Nat.add_zero, h1]
theorem racc_all (a b : Nat) (ha : a < 256) (hb : b < 256) : racc a b 8 = mul a b := by
  rw [racc_mul a b 8 ha (by omega), Nat.mod_eq_of_lt (by simpa using hb)]

/-! The document's own inverse: by squares. -/
def rinv : Nat → Nat → Nat → Nat → Nat
  | 0, _, p, _ => p
  | f + 1, n, p, a => rinv f (n / 2) (if n % 2 = 1 then mul p a else p) (mul a a)
/-! The document's own powers: one product behind the other. -/
def rpow (a : Nat) : Nat → Nat
  | 0 => 1
  | k + 1 => mul (rpow a k) a
theorem rpow_ne {a : Nat} (ha : a ≠ 0) (k : Nat) : rpow a k = gexp (glog a * k) := by
  induction k with
  | zero => rfl
  | succ k ih =>
    have hp := gexp_le (glog a * k)
    unfold rpow
    rw [ih, mul_ne (by omega) ha, ← gexp_mod (glog a * (k + 1)), ← gexp_mod (glog a * k), glog_gexp (Nat.mod_lt _ (by omega)), ← gexp_mod]
    congr 1
    rw [Nat.mul_succ]
    omega
theorem rpow_lt (a k : Nat) : rpow a k < 256 := by
  cases k with
  | zero => simp [rpow]
  | succ k => exact mul_lt _ _
theorem pow_lt (a : Nat) (n : Int) : pow a n < 256 := by
  unfold pow
  split
  · omega
  · split
    · omega
    · have := gexp_le (((glog a : Int) * n.tmod 255 % 255).toNat); omega
theorem pow_rpow {a : Nat} (ha : a ≠ 0) (n : Int) (hn : n ≠ 0) : rpow a (n % 255).toNat = pow a n := by
  rw [rpow_ne ha, pow, if_neg hn, if_neg ha, ← gexp_mod]
  congr 1
  have h1 := Int.mul_tdiv_add_tmod n 255
  have e : (glog a : Int) * n.tmod 255 % 255 = (glog a : Int) * (n % 255) % 255 := by
    have : n % 255 = n.tmod 255 % 255 := by omega
    rw [this]
    rw [Int.mul_emod, Int.mul_emod (glog a : Int) (n.tmod 255 % 255)]; simp
  have h2 : 0 ≤ n % 255 := Int.emod_nonneg _ (by omega)
  rw [e]
  obtain ⟨m, hm⟩ := Int.eq_ofNat_of_zero_le h2
  rw [hm]
  have : (glog a : Int) * (m : Int) % 255 = ((glog a * m % 255 : Nat) : Int) := by
    rw [Int.natCast_emod, Int.natCast_mul]; rfl
  rw [this]
  rfl
theorem rpow_sq {a : Nat} (m : Nat) : rpow (mul a a) m = rpow a (2 * m) := by
  induction m with
  | zero => rfl
  | succ m ih =>
    show mul (rpow (mul a a) m) (mul a a) = mul (mul (rpow a (2 * m)) a) a
    rw [ih, mul_assoc]
theorem rinv_rpow (f n p a : Nat) (hp : p < 256) : rinv f n p a = mul p (rpow a (n % 2 ^ f)) := by
  induction f generalizing n p a with
  | zero => simp [rinv, Nat.mod_one, rpow, mul_one hp]
  | succ f ih =>
    have hm : n % 2 ^ (f + 1) = n % 2 + 2 * (n / 2 % 2 ^ f) := by rw [Nat.pow_succ, Nat.mul_comm, Nat.mod_mul]
    unfold rinv
    rw [hm]
    split
    · rename_i h1
      rw [ih _ _ _ (mul_lt _ _), rpow_sq, h1, Nat.add_comm]
      show _ = mul p (mul (rpow a (2 * (n / 2 % 2 ^ f))) a)
      rw [mul_assoc, mul_comm a]
    · rename_i h1
      have h0 : n % 2 = 0 := by omega
      rw [ih _ _ _ hp, rpow_sq, h0, Nat.zero_add]
theorem rinv_inv {a : Nat} (ha : a < 256) : rinv 8 254 1 a = inv a := by
  rw [rinv_rpow _ _ _ _ (by omega), one_mul (rpow_lt _ _)]
  by_cases h : a = 0
  · subst h
    show mul (rpow 0 253) 0 = 0
    rw [mul_zero]
  · have hl := glog_lt h ha
    rw [rpow_ne h, inv_ne h, ← gexp_mod, ← gexp_mod (255 - glog a)]
    congr 1
    omega

/-! Which products of a have been met. -/
def seen (a k j : Nat) : Bool := (List.range k).any (fun i => mul a i == j)
theorem seen_zero (a j : Nat) : seen a 0 j = false := rfl
theorem seen_succ (a k j : Nat) : seen a (k + 1) j = (seen a k j || (mul a k == j)) := by
  unfold seen
  rw [List.range_succ, List.any_append]
  simp
theorem seen_new {a k : Nat} (ha : a ≠ 0) (h : a < 256) (hk : k < 256) : seen a k (mul a k) = false := by
  unfold seen
  rw [List.any_eq_false]
  intro i hi
  have hi := List.mem_range.1 hi
  intro e
  have e := eq_of_beq e
  have := mul_cancel ha h (by omega) hk e
  omega
/-- How many of the first k products are 1. -/
def ones (a k : Nat) : Nat := if inv a < k then 1 else 0
theorem ones_yes {a k : Nat} (ha : a ≠ 0) (h : a < 256) (hk : k < 256) (e : mul a k = 1) : ones a (k + 1) = ones a k + 1 := by
  have : k = inv a := mul_cancel ha h hk (inv_lt a) (by rw [e, mul_inv ha h])
  unfold ones
  rw [if_pos (by omega), if_neg (by omega)]
theorem ones_no {a k : Nat} (ha : a ≠ 0) (h : a < 256) (e : mul a k ≠ 1) : ones a (k + 1) = ones a k := by
  have : k ≠ inv a := fun x => e (by rw [x, mul_inv ha h])
  unfold ones
  by_cases hk : inv a < k
  · rw [if_pos (by omega), if_pos hk]
  · rw [if_neg (by omega), if_neg hk]
theorem ones_all (a : Nat) : ones a 256 = 1 := by
  unfold ones
  rw [if_pos (inv_lt a)]
theorem ones_le (a k : Nat) : ones a k ≤ 1 := by unfold ones; split <;> omega
theorem pow_neg_one {a : Nat} (ha : a ≠ 0) (h : a < 256) : pow a (-1) = inv a := by
  have hl := glog_lt ha h
  have e : (-1 : Int).tmod 255 = -1 := by decide +kernel
  rw [pow, if_neg (by omega), if_neg ha, inv_ne ha, e, ← gexp_mod (255 - glog a)]
  congr 1
  omega
theorem pow_254 {a : Nat} (ha : a ≠ 0) (h : a < 256) : pow a 254 = inv a := by
  have hl := glog_lt ha h
  have e : (254 : Int).tmod 255 = 254 := by decide +kernel
  rw [pow, if_neg (by omega), if_neg ha, inv_ne ha, e, ← gexp_mod (255 - glog a)]
  congr 1
  omega
theorem pow_255 {a : Nat} (ha : a ≠ 0) : pow a 255 = 1 := by
  have e : (255 : Int).tmod 255 = 0 := by decide +kernel
  rw [pow, if_neg (by omega), if_neg ha, e]
  simp [gexp_zero]
theorem pow_int {a : Nat} (ha : a ≠ 0) (n : Int) : pow a n = gexp ((glog a : Int) * n % 255).toNat := by
  by_cases hn : n = 0
  · subst hn
    simp [pow, gexp_zero]
  · rw [pow, if_neg hn, if_neg ha]
    congr 2
    have h1 := Int.mul_tdiv_add_tmod n 255
    have : n % 255 = n.tmod 255 % 255 := by omega
    rw [Int.mul_emod, Int.mul_emod (glog a : Int) n, this]
theorem pow_add {a : Nat} (ha : a ≠ 0) (n k : Int) : mul (pow a n) (pow a k) = pow a (n + k) := by
  have h1 := gexp_le ((glog a : Int) * n % 255).toNat
  have h2 := gexp_le ((glog a : Int) * k % 255).toNat
  have m1 : 0 ≤ (glog a : Int) * n % 255 := Int.emod_nonneg _ (by omega)
  have m2 : 0 ≤ (glog a : Int) * k % 255 := Int.emod_nonneg _ (by omega)
  have m3 : (glog a : Int) * n % 255 < 255 := Int.emod_lt_of_pos _ (by omega)
  have m4 : (glog a : Int) * k % 255 < 255 := Int.emod_lt_of_pos _ (by omega)
  rw [pow_int ha, pow_int ha, pow_int ha, mul_ne (by omega) (by omega), glog_gexp (by omega), glog_gexp (by omega), Int.mul_add, ← gexp_mod]
  congr 1
  omega
theorem mul_two {x : Nat} (hx : x < 256) : mul x 2 = dbl x := by
  have := mul_two_pow x 1 hx (by omega)
  exact this

/-! Which powers of 2 have been met. -/
def met (k j : Nat) : Bool := (List.range k).any (fun i => gexp i == j)
theorem met_zero (j : Nat) : met 0 j = false := rfl
theorem met_succ (k j : Nat) : met (k + 1) j = (met k j || (gexp k == j)) := by
  unfold met
  rw [List.range_succ, List.any_append]
  simp
theorem met_new {k : Nat} (hk : k < 255) : met k (gexp k) = false := by
  unfold met
  rw [List.any_eq_false]
  intro i hi
  have hi := List.mem_range.1 hi
  intro e
  have := gexp_inj (by omega) hk (eq_of_beq e)
  omega
theorem gexp_two (k : Nat) : mul (gexp k) 2 = gexp (k + 1) := by
  rw [mul_two (by have := gexp_le k; omega)]
  rfl
end GfM
end Go.Proofs.Ytebglmfdchfplaa
