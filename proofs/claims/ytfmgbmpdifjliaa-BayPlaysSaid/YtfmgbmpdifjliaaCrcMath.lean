/- Plain numbers of the check, with no word of the program. -/
import Derived.KernelRfl
namespace Go.Proofs.Ytfmgbmpdifjliaa
namespace CrcM

/-- One bit out of the register. -/
def bit (r : Nat) : Nat := if r % 2 = 1 then (r / 2) ^^^ 2197175160 else r / 2
/-- n bits out of it. -/
def bits (r : Nat) : Nat → Nat
  | 0 => r
  | n + 1 => bit (bits r n)
def stp (r c : Nat) : Nat := bits (r ^^^ c) 8
/-- The register behind a row of bytes. -/
def regs (r : Nat) (z : List Nat) : Nat := z.foldl stp r
def sum (z : List Nat) : Nat := regs 4294967295 z ^^^ 4294967295

theorem xor_lt {a b : Nat} (ha : a < 4294967296) (hb : b < 4294967296) : a ^^^ b < 4294967296 := Nat.xor_lt_two_pow (n := 32) ha hb
theorem bit_lt {r : Nat} (h : r < 4294967296) : bit r < 4294967296 := by
  unfold bit
  split
  · exact xor_lt (by omega) (by omega)
  · omega
theorem bits_lt {r : Nat} (h : r < 4294967296) (n : Nat) : bits r n < 4294967296 := by
  induction n with
  | zero => exact h
  | succ n ih => exact bit_lt ih
theorem stp_lt {r c : Nat} (h : r < 4294967296) (hc : c < 256) : stp r c < 4294967296 := bits_lt (xor_lt h (by omega)) 8
theorem regs_lt {r : Nat} {z : List Nat} (h : r < 4294967296) (hz : ∀ x ∈ z, x < 256) : regs r z < 4294967296 := by
  induction z generalizing r with
  | nil => exact h
  | cons c z ih => exact ih (stp_lt h (hz c (List.mem_cons_self ..))) fun x hx => hz x (List.mem_cons_of_mem _ hx)
theorem sum_lt {z : List Nat} (hz : ∀ x ∈ z, x < 256) : sum z < 4294967296 := xor_lt (regs_lt (by omega) hz) (by omega)
theorem regs_snoc (r : Nat) (z : List Nat) (c : Nat) : regs r (z ++ [c]) = stp (regs r z) c := by simp [regs]
theorem regs_app (r : Nat) (y z : List Nat) : regs r (y ++ z) = regs (regs r y) z := by simp [regs]
theorem regs_take {r : Nat} {z : List Nat} {k : Nat} (h : k < z.length) : regs r (z.take (k + 1)) = stp (regs r (z.take k)) (z.getD k 0) := by
  rw [List.take_succ_eq_append_getElem h, regs_snoc]
  simp [List.getD_eq_getElem?_getD, List.getElem?_eq_getElem h]

/-! ### What is linear -/
theorem bit_xor (a b : Nat) : bit (a ^^^ b) = bit a ^^^ bit b := by
  have hd : (a ^^^ b) / 2 = a / 2 ^^^ b / 2 := Nat.xor_div_two
  have hm : (a ^^^ b) % 2 = (a % 2 + b % 2) % 2 := by
    have h := Nat.xor_mod_two_eq_one (a := a) (b := b)
    omega
  unfold bit
  rw [hd]
  rcases Nat.mod_two_eq_zero_or_one a with ha | ha <;> rcases Nat.mod_two_eq_zero_or_one b with hb | hb
  · rw [if_neg (by omega), if_neg (by omega), if_neg (by omega)]
  · rw [if_pos (by omega), if_neg (by omega), if_pos (by omega), Nat.xor_assoc]
  · rw [if_pos (by omega), if_pos (by omega), if_neg (by omega), Nat.xor_assoc, Nat.xor_assoc, Nat.xor_comm (b / 2)]
  · rw [if_neg (by omega), if_pos (by omega), if_pos (by omega), Nat.xor_assoc, Nat.xor_comm 2197175160, Nat.xor_assoc, Nat.xor_self, Nat.xor_zero]
theorem bits_xor (a b n : Nat) : bits (a ^^^ b) n = bits a n ^^^ bits b n := by
  induction n with
  | zero => rfl
  | succ n ih => simp only [bits, ih, bit_xor]
theorem xor4 (a b c d : Nat) : (a ^^^ b) ^^^ (c ^^^ d) = (a ^^^ c) ^^^ (b ^^^ d) := by
  rw [Nat.xor_assoc, Nat.xor_assoc, ← Nat.xor_assoc b, Nat.xor_comm b c, Nat.xor_assoc c]
theorem stp_xor (r s c d : Nat) : stp (r ^^^ s) (c ^^^ d) = stp r c ^^^ stp s d := by
  unfold stp
  rw [xor4, bits_xor]
/-- The sum of two rows, place by place. -/
def xr (y z : List Nat) : List Nat := List.zipWith (· ^^^ ·) y z
theorem regs_xor {y z : List Nat} (h : y.length = z.length) (r s : Nat) : regs (r ^^^ s) (xr y z) = regs r y ^^^ regs s z := by
  induction y generalizing z r s with
  | nil =>
    cases z with
    | nil => rfl
    | cons _ _ => cases h
  | cons c y ih =>
    cases z with
    | nil => cases h
    | cons d z =>
      show regs (stp (r ^^^ s) (c ^^^ d)) (xr y z) = regs (stp r c) y ^^^ regs (stp s d) z
      rw [stp_xor, ih (by simpa using h)]
theorem xr_zero (z : List Nat) : xr z (List.replicate z.length 0) = z := by
  induction z with
  | nil => rfl
  | cons c z ih =>
    show (c ^^^ 0) :: xr z (List.replicate z.length 0) = c :: z
    rw [ih, Nat.xor_zero]
theorem xr_length {y z : List Nat} (h : y.length = z.length) : (xr y z).length = y.length := by simp [xr, h]
/-- The checks sum up. -/
theorem sums {y z : List Nat} (h : y.length = z.length) : sum y ^^^ sum z ^^^ sum (List.replicate y.length 0) = sum (xr y z) := by
  have e : regs 4294967295 (xr y z) = regs 4294967295 y ^^^ regs 4294967295 z ^^^ regs 4294967295 (List.replicate y.length 0) := by
    rw [← regs_xor h, ← regs_xor (by rw [xr_length h]; simp)]
    have : xr (xr y z) (List.replicate y.length 0) = xr y z := by
      have := xr_zero (xr y z)
      rwa [xr_length h] at this
    rw [this]
    rfl
  unfold sum
  rw [e]
  generalize regs 4294967295 y = a
  generalize regs 4294967295 z = b
  generalize regs 4294967295 (List.replicate y.length 0) = c
  rw [xor4 a, Nat.xor_self, Nat.xor_zero, ← Nat.xor_assoc]

/-! ### What is told apart -/
theorem bit_zero : bit 0 = 0 := rfl
theorem xor_ne {a b : Nat} (h : a ^^^ b = 0) : a = b := by
  have e : (a ^^^ b) ^^^ b = 0 ^^^ b := by rw [h]
  rwa [Nat.xor_assoc, Nat.xor_self, Nat.xor_zero, Nat.zero_xor] at e
theorem bit_inj0 {r : Nat} (h : r < 4294967296) (h0 : bit r = 0) : r = 0 := by
  unfold bit at h0
  split at h0
  · have := xor_ne h0
    omega
  · omega
theorem bit_inj {r s : Nat} (hr : r < 4294967296) (hs : s < 4294967296) (h : bit r = bit s) : r = s := by
  refine xor_ne (bit_inj0 (xor_lt hr hs) ?_)
  rw [bit_xor, h, Nat.xor_self]
theorem bits_inj {r s : Nat} (hr : r < 4294967296) (hs : s < 4294967296) (n : Nat) (h : bits r n = bits s n) : r = s := by
  induction n with
  | zero => exact h
  | succ n ih => exact ih (bit_inj (bits_lt hr n) (bits_lt hs n) h)
theorem bits_add (r m n : Nat) : bits r (m + n) = bits (bits r m) n := by
  induction n with
  | zero => rfl
  | succ n ih => show bit (bits r (m + n)) = bit (bits (bits r m) n); rw [ih]
/-- 1 does not come again in 640 bits. -/
def away : Nat → Nat → Bool
  | 0, _ => true
  | n + 1, r => (r != 1) && away n (bit r)
theorem away_at {n : Nat} : ∀ {r : Nat}, away n r = true → ∀ k, k < n → bits r k ≠ 1 := by
  induction n with
  | zero => intro r _ k hk; omega
  | succ n ih =>
    intro r h k hk
    simp only [away, Bool.and_eq_true, bne_iff_ne] at h
    match k with
    | 0 => exact h.1
    | k + 1 =>
      have e : bits r (k + 1) = bits (bit r) k := by rw [Nat.add_comm, bits_add]; rfl
      rw [e]
      exact ih h.2 k (by omega)
theorem away_all : away 640 (bit 1) = true := by decide +kernel
theorem bits_ne {k : Nat} (h1 : 1 ≤ k) (h2 : k ≤ 640) : bits 1 k ≠ 1 := by
  obtain ⟨j, rfl⟩ : ∃ j, k = 1 + j := ⟨k - 1, by omega⟩
  rw [bits_add]
  exact away_at away_all j (by omega)
/-- Unlike distances, unlike registers. -/
theorem bits_apart {j k : Nat} (hj : j ≤ 640) (hk : k ≤ 640) (h : bits 1 j = bits 1 k) : j = k := by
  have key : ∀ j k, j ≤ k → k ≤ 640 → bits 1 j = bits 1 k → j = k := by
    intro j k h1 h2 h
    obtain ⟨d, rfl⟩ : ∃ d, k = d + j := ⟨k - j, by omega⟩
    rw [bits_add] at h
    have := bits_inj (by omega) (bits_lt (by omega) d) j h
    rcases Nat.eq_zero_or_pos d with e | e
    · omega
    · exact absurd this.symm (bits_ne e (by omega))
  rcases Nat.le_total j k with h1 | h1
  · exact key j k h1 hk h
  · exact (key k j h1 hj h.symm).symm
theorem bits_pos (k : Nat) : bits 1 k ≠ 0 := by
  intro h
  have : bits 1 k = bits 0 k := by
    rw [h]
    induction k with
    | zero => rfl
    | succ k ih =>
      show 0 = bit (bits 0 k)
      have e : ∀ n, bits 0 n = 0 := fun n => by
        induction n with
        | zero => rfl
        | succ n ih => show bit (bits 0 n) = 0; rw [ih]; rfl
      rw [e]
      rfl
  have := bits_inj (by omega) (by omega) k this
  omega

/-- A row with one bit turned is the row and another row. -/
def flip (z : List Nat) (p : Nat) : List Nat := z.set (p / 8) (z.getD (p / 8) 0 ^^^ 2 ^ (p % 8))
theorem flip_length (z : List Nat) (p : Nat) : (flip z p).length = z.length := by simp [flip]
theorem bits_pow (j : Nat) (h : j < 8) : bits (2 ^ j) 8 = bits 1 (8 - j) := by
  have : ∀ j : Fin 8, bits (2 ^ j.val) 8 = bits 1 (8 - j.val) := by decide +kernel
  exact this ⟨j, h⟩
theorem regs_zeros (r n : Nat) : regs r (List.replicate n 0) = bits r (8 * n) := by
  induction n generalizing r with
  | zero => rfl
  | succ n ih =>
    show regs (stp r 0) (List.replicate n 0) = _
    rw [ih, Nat.mul_succ, Nat.add_comm, bits_add]
    unfold stp
    rw [Nat.xor_zero]
theorem regs_xor_left {y : List Nat} (r s : Nat) : regs (r ^^^ s) y = regs r y ^^^ bits s (8 * y.length) := by
  have := regs_xor (y := y) (z := List.replicate y.length 0) (by simp) r s
  rwa [xr_zero, regs_zeros] at this
theorem regs_flip {z : List Nat} {p : Nat} (hp : p < 8 * z.length) (r : Nat) : regs r (flip z p) = regs r z ^^^ bits 1 (8 * z.length - p) := by
  induction z generalizing p r with
  | nil => simp at hp
  | cons c z ih =>
    rcases Nat.lt_or_ge p 8 with h | h
    · have e : flip (c :: z) p = (c ^^^ 2 ^ p) :: z := by
        have h0 : p / 8 = 0 := by omega
        have h1 : p % 8 = p := by omega
        unfold flip
        rw [h0, h1]
        rfl
      rw [e]
      show regs (stp r (c ^^^ 2 ^ p)) z = regs (stp r c) z ^^^ _
      have e2 : stp r (c ^^^ 2 ^ p) = stp r c ^^^ bits 1 (8 - p) := by
        unfold stp
        rw [← Nat.xor_assoc, bits_xor, bits_pow p h]
      rw [e2, regs_xor_left, ← bits_add]
      congr 2
      simp only [List.length_cons]
      omega
    · obtain ⟨q, rfl⟩ : ∃ q, p = q + 8 := ⟨p - 8, by omega⟩
      have e : flip (c :: z) (q + 8) = c :: flip z q := by
        have h0 : (q + 8) / 8 = q / 8 + 1 := by omega
        have h1 : (q + 8) % 8 = q % 8 := by omega
        unfold flip
        rw [h0, h1]
        rfl
      rw [e]
      show regs (stp r c) (flip z q) = regs (stp r c) z ^^^ _
      simp only [List.length_cons] at hp
      rw [ih (by omega)]
      congr 2
      simp only [List.length_cons]
      omega
theorem xor_right_inj {a b c : Nat} (h : a ^^^ c = b ^^^ c) : a = b := by
  have : (a ^^^ c) ^^^ c = (b ^^^ c) ^^^ c := by rw [h]
  rwa [Nat.xor_assoc, Nat.xor_assoc, Nat.xor_self, Nat.xor_zero, Nat.xor_zero] at this
theorem xor_left_inj {a b c : Nat} (h : c ^^^ a = c ^^^ b) : a = b := by
  rw [Nat.xor_comm c, Nat.xor_comm c] at h
  exact xor_right_inj h
/-- One bit turned is another check. -/
theorem sum_one {z : List Nat} {p : Nat} (hp : p < 8 * z.length) : sum (flip z p) ≠ sum z := by
  unfold sum
  rw [regs_flip hp]
  intro h
  have h2 := xor_right_inj h
  have h3 : regs 4294967295 z ^^^ bits 1 (8 * z.length - p) = regs 4294967295 z ^^^ 0 := by rw [h2, Nat.xor_zero]
  exact bits_pos _ (xor_left_inj h3)
/-- Two bits turned are another check, unless they are one. -/
theorem sum_two {z : List Nat} {p q : Nat} (hz : z.length ≤ 80) (hp : p < 8 * z.length) (hq : q < 8 * z.length) : sum (flip (flip z p) q) = sum z ↔ p = q := by
  unfold sum
  rw [regs_flip (by rw [flip_length]; exact hq), regs_flip hp, flip_length]
  constructor
  · intro h
    have h2 := xor_right_inj h
    rw [Nat.xor_assoc] at h2
    have h3 : regs 4294967295 z ^^^ (bits 1 (8 * z.length - p) ^^^ bits 1 (8 * z.length - q)) = regs 4294967295 z ^^^ 0 := by rw [h2, Nat.xor_zero]
    have h4 := bits_apart (by omega) (by omega) (xor_ne (xor_left_inj h3))
    omega
  · rintro rfl
    rw [Nat.xor_assoc (regs 4294967295 z), Nat.xor_self, Nat.xor_zero]
/-- Noughts ahead are told. -/
theorem sum_zeros {n : Nat} (h1 : 1 ≤ n) (h2 : n ≤ 32) : sum (List.replicate n 0) ≠ sum (List.replicate (n + 1) 0) := by
  have : ∀ n : Fin 33, sum (List.replicate n.val 0) ≠ sum (List.replicate (n.val + 1) 0) := by decide +kernel
  exact this ⟨n, by omega⟩
theorem sum_digits : sum [49, 50, 51, 52, 53, 54, 55, 56, 57] = 3808858755 := by decide +kernel
theorem sum_nil : sum [] = 0 := by decide +kernel
end CrcM
end Go.Proofs.Ytfmgbmpdifjliaa
