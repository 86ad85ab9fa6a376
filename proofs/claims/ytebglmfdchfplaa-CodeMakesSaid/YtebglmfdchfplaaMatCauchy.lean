/- A square matrix of inverses of sums of unlike bytes makes nought of nought alone. -/
import Derived.Test.YtebglmfdchfplaaMatMath
namespace Go.Proofs.Ytebglmfdchfplaa.GfM
set_option linter.unusedVariables false

instance : Std.Associative mul := ⟨mul_assoc⟩
instance : Std.Commutative mul := ⟨mul_comm⟩
theorem xor_mul {x y : Nat} (hx : x < 256) (hy : y < 256) (a : Nat) : mul (x ^^^ y) a = mul x a ^^^ mul y a := by
  rw [mul_comm, mul_xor a hx hy, mul_comm a x, mul_comm a y]
theorem xor_ne {x y : Nat} (h : x ≠ y) : x ^^^ y ≠ 0 := fun e => h (xor_eq_zero e)
theorem xor_mid (a b c : Nat) : a ^^^ c = (a ^^^ b) ^^^ (b ^^^ c) := by
  rw [Nat.xor_assoc, ← Nat.xor_assoc b b c, Nat.xor_self, Nat.zero_xor]

theorem cauchy_ker (n : Nat) : ∀ (a b x : Nat → Nat), (∀ i, a i < 256) → (∀ i, b i < 256) → (∀ i, x i < 256) → (∀ i j, i < n → j < n → a i = a j → i = j) → (∀ i j, i < n → j < n → b i = b j → i = j) →
    (∀ i j, i < n → j < n → a i ≠ b j) → (∀ i, i < n → xs n (fun j => mul (inv (a i ^^^ b j)) (x j)) = 0) → ∀ j, j < n → x j = 0 := by
  induction n with
  | zero => intro a b x _ _ _ _ _ _ _ j hj; omega
  | succ n ih =>
    intro a b x ha hb hx ia ib hab hz
    have d8 : ∀ i j, a i ^^^ b j < 256 := fun i j => xor_lt (ha i) (hb j)
    have d0 : ∀ i j, i < n + 1 → j < n + 1 → a i ^^^ b j ≠ 0 := fun i j hi hj => xor_ne (hab i j hi hj)
    -- each row, times its sum with the last column's byte
    have hT : ∀ i, i < n + 1 → xs n (fun j => mul (b n ^^^ b j) (mul (inv (a i ^^^ b j)) (x j))) = xs (n + 1) x := by
      intro i hi
      have h1 : mul (a i ^^^ b n) (xs (n + 1) fun j => mul (inv (a i ^^^ b j)) (x j)) = 0 := by rw [hz i hi, mul_zero]
      rw [mul_xs _ fun _ _ => mul_lt _ _] at h1
      have h2 : ∀ j, j < n + 1 → mul (a i ^^^ b n) (mul (inv (a i ^^^ b j)) (x j)) = x j ^^^ mul (b n ^^^ b j) (mul (inv (a i ^^^ b j)) (x j)) := by
        intro j hj
        rw [xor_mid (a i) (b j) (b n), xor_mul (d8 i j) (xor_lt (hb j) (hb n)), ← mul_assoc (a i ^^^ b j), mul_inv (d0 i j hi hj) (d8 i j), one_mul (hx j), Nat.xor_comm (b j) (b n)]
      rw [xs_congr h2, xs_xor] at h1
      have h3 := xor_eq_zero h1
      rw [h3]
      show _ = xs n _ ^^^ mul (b n ^^^ b n) _
      rw [Nat.xor_self, zero_mul, Nat.xor_zero]
    have hy : ∀ j, j < n → mul (x j) (mul (b n ^^^ b j) (inv (a n ^^^ b j))) = 0 := by
      refine ih a b (fun j => mul (x j) (mul (b n ^^^ b j) (inv (a n ^^^ b j)))) ha hb (fun _ => mul_lt _ _) (fun i j hi hj e => ia i j (by omega) (by omega) e) (fun i j hi hj e => ib i j (by omega) (by omega) e) (fun i j hi hj => hab i j (by omega) (by omega)) fun i hi => ?_
      have h1 : xs n (fun j => mul (b n ^^^ b j) (mul (inv (a i ^^^ b j)) (x j))) ^^^ xs n (fun j => mul (b n ^^^ b j) (mul (inv (a n ^^^ b j)) (x j))) = 0 := by
        rw [hT i (by omega), hT n (by omega), Nat.xor_self]
      rw [← xs_xor] at h1
      have hA : a i ^^^ a n ≠ 0 := xor_ne fun e => by have := ia i n (by omega) (by omega) e; omega
      have h2 : ∀ j, j < n → mul (b n ^^^ b j) (mul (inv (a i ^^^ b j)) (x j)) ^^^ mul (b n ^^^ b j) (mul (inv (a n ^^^ b j)) (x j)) = mul (a i ^^^ a n) (mul (inv (a i ^^^ b j)) (mul (x j) (mul (b n ^^^ b j) (inv (a n ^^^ b j))))) := by
        intro j hj
        have e1 : mul (a i ^^^ b j) (inv (a i ^^^ b j)) = 1 := mul_inv (d0 i j (by omega) (by omega)) (d8 i j)
        have e2 : mul (a n ^^^ b j) (inv (a n ^^^ b j)) = 1 := mul_inv (d0 n j (by omega) (by omega)) (d8 n j)
        rw [xor_mid (a i) (b j) (a n), xor_mul (d8 i j) (xor_lt (hb j) (ha n)), Nat.xor_comm (b j) (a n)]
        have f1 : mul (a i ^^^ b j) (mul (inv (a i ^^^ b j)) (mul (x j) (mul (b n ^^^ b j) (inv (a n ^^^ b j))))) = mul (b n ^^^ b j) (mul (inv (a n ^^^ b j)) (x j)) := by
          rw [← mul_assoc (a i ^^^ b j), e1, one_mul (mul_lt _ _)]
          ac_rfl
        have f2 : mul (a n ^^^ b j) (mul (inv (a i ^^^ b j)) (mul (x j) (mul (b n ^^^ b j) (inv (a n ^^^ b j))))) = mul (b n ^^^ b j) (mul (inv (a i ^^^ b j)) (x j)) := by
          have : mul (a n ^^^ b j) (mul (inv (a i ^^^ b j)) (mul (x j) (mul (b n ^^^ b j) (inv (a n ^^^ b j))))) = mul (mul (a n ^^^ b j) (inv (a n ^^^ b j))) (mul (b n ^^^ b j) (mul (inv (a i ^^^ b j)) (x j))) := by ac_rfl
          rw [this, e2, one_mul (mul_lt _ _)]
        rw [f1, f2, Nat.xor_comm]
      rw [xs_congr h2, ← mul_xs _ fun _ _ => mul_lt _ _] at h1
      exact mul_eq_zero hA h1
    have hx0 : ∀ j, j < n → x j = 0 := by
      intro j hj
      have h1 := hy j hj
      rw [mul_comm] at h1
      refine mul_eq_zero (mul_pos (xor_ne fun e => ?_) (inv_pos (d0 n j (by omega) (by omega)))) h1
      have := ib n j (by omega) (by omega) e
      omega
    intro j hj
    rcases Nat.lt_or_ge j n with h | h
    · exact hx0 j h
    · obtain rfl : j = n := by omega
      have h1 := hz j (by omega)
      rw [xs, xs_zero fun s hs => by rw [hx0 s hs, mul_zero], Nat.zero_xor] at h1
      exact mul_eq_zero (inv_pos (d0 j j (by omega) (by omega))) h1
/-- So it has an inverse. -/
theorem cauchy_run {n : Nat} {a b : Nat → Nat} {A : Mx} (hA : Small A) (ha : ∀ i, a i < 256) (hb : ∀ i, b i < 256) (ia : ∀ i j, i < n → j < n → a i = a j → i = j) (ib : ∀ i j, i < n → j < n → b i = b j → i = j)
    (hab : ∀ i j, i < n → j < n → a i ≠ b j) (hc : ∀ i j, i < n → j < n → A i j = inv (a i ^^^ b j)) : run n (beside n A) n ≠ none := by
  intro h
  obtain ⟨x, hx, ⟨j, hj, h0⟩, hz⟩ := run_singular hA h
  refine h0 (cauchy_ker n a b x ha hb hx ia ib hab (fun i hi => ?_) j hj)
  have := hz i hi
  unfold dt at this
  rw [xs_congr fun j hj => by rw [hc i j hi hj]] at this
  exact this
end Go.Proofs.Ytebglmfdchfplaa.GfM
