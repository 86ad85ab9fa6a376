/- The field's laws, in plain numbers: products may be turned and grouped, go over sums, and have inverses. -/
import Derived.Test.YtgebniihbcgmgaaGfMath
namespace Go.Proofs.Ytgebniihbcgmgaa
namespace GfM

theorem gexp_add (j k : Nat) : gexp (j + k) = pw j (gexp k) := pw_add j k 1
theorem mul_ne {a b : Nat} (ha : a ≠ 0) (hb : b ≠ 0) : mul a b = gexp (glog a + glog b) := by
  unfold mul
  rw [if_neg (by intro h; rcases h with h | h; exact ha h; exact hb h), gexp_mod]
theorem zero_mul (b : Nat) : mul 0 b = 0 := by simp [mul]
theorem mul_zero (a : Nat) : mul a 0 = 0 := by simp [mul]
theorem mul_comm (a b : Nat) : mul a b = mul b a := by
  unfold mul
  by_cases h : a = 0 ∨ b = 0
  · rw [if_pos h, if_pos h.symm]
  · rw [if_neg h, if_neg (fun k => h k.symm), Nat.add_comm]
theorem mul_pos {a b : Nat} (ha : a ≠ 0) (hb : b ≠ 0) : mul a b ≠ 0 := by
  rw [mul_ne ha hb]
  have := gexp_le (glog a + glog b)
  omega
theorem glog_mul {a b : Nat} (ha : a ≠ 0) (hb : b ≠ 0) : glog (mul a b) = (glog a + glog b) % 255 := by
  rw [mul_ne ha hb, ← gexp_mod, glog_gexp (Nat.mod_lt _ (by omega))]
theorem mul_assoc (a b c : Nat) : mul (mul a b) c = mul a (mul b c) := by
  by_cases ha : a = 0
  · subst ha; simp [zero_mul]
  by_cases hb : b = 0
  · subst hb; simp [zero_mul, mul_zero]
  by_cases hc : c = 0
  · subst hc; simp [mul_zero]
  rw [mul_ne (mul_pos ha hb) hc, mul_ne ha (mul_pos hb hc), glog_mul ha hb, glog_mul hb hc, ← gexp_mod, ← gexp_mod (glog a + _)]
  congr 1
  omega
theorem glog_one : glog 1 = 0 := by decide +kernel
theorem mul_one {a : Nat} (h : a < 256) : mul a 1 = a := by
  by_cases ha : a = 0
  · subst ha; rfl
  · rw [mul_ne ha (by omega), glog_one, Nat.add_zero, gexp_glog ha h]
theorem one_mul {a : Nat} (h : a < 256) : mul 1 a = a := by rw [mul_comm, mul_one h]
theorem inv_ne {a : Nat} (ha : a ≠ 0) : inv a = gexp (255 - glog a) := by
  unfold inv
  rw [if_neg ha, gexp_mod]
theorem inv_pos {a : Nat} (ha : a ≠ 0) : inv a ≠ 0 := by
  rw [inv_ne ha]
  have := gexp_le (255 - glog a)
  omega
theorem glog_inv {a : Nat} (ha : a ≠ 0) : glog (inv a) = (255 - glog a) % 255 := by
  rw [inv_ne ha, ← gexp_mod, glog_gexp (Nat.mod_lt _ (by omega))]
theorem mul_inv {a : Nat} (ha : a ≠ 0) (h : a < 256) : mul a (inv a) = 1 := by
  have hl := glog_lt ha h
  rw [mul_ne ha (inv_pos ha), glog_inv ha, ← gexp_mod]
  have : (glog a + (255 - glog a) % 255) % 255 = 0 := by omega
  rw [this]; rfl
theorem mul_div {a b : Nat} (hb : b ≠ 0) (ha : a < 256) (h : b < 256) : mul (mul a b) (inv b) = a := by
  rw [mul_assoc, mul_inv hb h, mul_one ha]
theorem inv_inv {a : Nat} (ha : a ≠ 0) (h : a < 256) : inv (inv a) = a := by
  have hl := glog_lt ha h
  rw [inv_ne (inv_pos ha), glog_inv ha, ← gexp_mod]
  have : (255 - (255 - glog a) % 255) % 255 = glog a := by omega
  rw [this, gexp_glog ha h]
theorem mul_cancel {a x y : Nat} (ha : a ≠ 0) (h : a < 256) (hx : x < 256) (hy : y < 256) (e : mul a x = mul a y) : x = y := by
  have e1 : mul (mul a x) (inv a) = mul (mul a y) (inv a) := by rw [e]
  rw [mul_comm a x, mul_comm a y, mul_div ha hx h, mul_div ha hy h] at e1
  exact e1

/-! Sums. -/
theorem dbl_pairs : (List.range 256).all (fun a => (List.range 256).all (fun b => Nat.beq (dbl (a ^^^ b)) (dbl a ^^^ dbl b))) = true := by decide +kernel
theorem dbl_xor {a b : Nat} (ha : a < 256) (hb : b < 256) : dbl (a ^^^ b) = dbl a ^^^ dbl b := by
  have h1 := all_range 256 _ dbl_pairs a ha
  have h2 := all_range 256 _ h1 b hb
  exact Nat.eq_of_beq_eq_true h2
theorem dbl_lt {a : Nat} (ha : a < 256) : dbl a < 256 := by
  have := all_range 256 _ dbl_facts a ha
  simp only [decide_eq_true_eq] at this
  omega
theorem pw_lt {a : Nat} (ha : a < 256) (k : Nat) : pw k a < 256 := by
  induction k with
  | zero => exact ha
  | succ k ih => exact dbl_lt ih
theorem pw_zero (k : Nat) : pw k 0 = 0 := by
  induction k with
  | zero => rfl
  | succ k ih => show dbl (pw k 0) = 0; rw [ih]; rfl
theorem pw_xor {a b : Nat} (ha : a < 256) (hb : b < 256) (k : Nat) : pw k (a ^^^ b) = pw k a ^^^ pw k b := by
  induction k with
  | zero => rfl
  | succ k ih => show dbl (pw k (a ^^^ b)) = dbl (pw k a) ^^^ dbl (pw k b); rw [ih, dbl_xor (pw_lt ha k) (pw_lt hb k)]
theorem mul_pw {a x : Nat} (ha : a ≠ 0) (hx : x < 256) : mul a x = pw (glog a) x := by
  by_cases h : x = 0
  · subst h; rw [mul_zero, pw_zero]
  · rw [mul_ne ha h, gexp_add, gexp_glog h hx]
theorem mul_xor (a : Nat) {x y : Nat} (hx : x < 256) (hy : y < 256) : mul a (x ^^^ y) = mul a x ^^^ mul a y := by
  by_cases ha : a = 0
  · subst ha; simp [zero_mul]
  · have hxy : x ^^^ y < 256 := Nat.xor_lt_two_pow (n := 8) hx hy
    rw [mul_pw ha hxy, mul_pw ha hx, mul_pw ha hy, pw_xor hx hy]
theorem xor_lt {x y : Nat} (hx : x < 256) (hy : y < 256) : x ^^^ y < 256 := Nat.xor_lt_two_pow (n := 8) hx hy
theorem mul_lt (a b : Nat) : mul a b < 256 := by have := mul_le a b; omega
theorem inv_lt (a : Nat) : inv a < 256 := by have := inv_le a; omega
end GfM
end Go.Proofs.Ytgebniihbcgmgaa
