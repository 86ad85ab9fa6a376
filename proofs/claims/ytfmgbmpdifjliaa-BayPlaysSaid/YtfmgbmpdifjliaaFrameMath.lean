/- Plain numbers of a frame: its bytes, and that their bits are even. -/
import Derived.Test.YtfmgbmpdifjliaaCrcMath
namespace Go.Proofs.Ytfmgbmpdifjliaa
namespace FrM
set_option linter.unusedVariables false

/-- Whether the first n bits of r are odd. -/
def par : Nat → Nat → Bool
  | 0, _ => false
  | n + 1, r => (r % 2 == 1) ^^ par n (r / 2)
theorem par_zero (n : Nat) : par n 0 = false := by
  induction n with
  | zero => rfl
  | succ n ih => rw [par, Nat.zero_div, ih]; rfl
theorem par_xor (n : Nat) : ∀ a b : Nat, par n (a ^^^ b) = (par n a ^^ par n b) := by
  induction n with
  | zero => intro a b; rfl
  | succ n ih =>
    intro a b
    have h1 : ((a ^^^ b) % 2 == 1) = ((a % 2 == 1) ^^ (b % 2 == 1)) := by
      have e := Nat.testBit_xor a b 0
      simp only [Nat.testBit_zero] at e
      have f : ∀ x : Nat, (x % 2 == 1) = decide (x % 2 = 1) := fun x => by by_cases h : x % 2 = 1 <;> simp [h]
      rw [f, f, f, e]
    rw [par, par, par, Nat.xor_div_two, ih, h1]
    cases (a % 2 == 1) <;> cases (b % 2 == 1) <;> cases par n (a / 2) <;> cases par n (b / 2) <;> rfl
theorem par_add (m n : Nat) : ∀ r : Nat, par (m + n) r = (par m r ^^ par n (r / 2 ^ m)) := by
  induction m with
  | zero => intro r; simp [par]
  | succ m ih =>
    intro r
    rw [show m + 1 + n = (m + n) + 1 by omega, par, par, ih, Nat.div_div_eq_div_mul, show 2 * 2 ^ m = 2 ^ (m + 1) by rw [Nat.pow_succ, Nat.mul_comm], Bool.xor_assoc]
theorem par_mod (m : Nat) : ∀ r : Nat, par m (r % 2 ^ m) = par m r := by
  induction m with
  | zero => intro r; rfl
  | succ m ih =>
    intro r
    have h1 : r % 2 ^ (m + 1) % 2 = r % 2 := Nat.mod_mod_of_dvd _ ⟨2 ^ m, by rw [Nat.pow_succ, Nat.mul_comm]⟩
    have h2 : r % 2 ^ (m + 1) / 2 = r / 2 % 2 ^ m := by
      rw [Nat.pow_succ, Nat.mul_comm, Nat.mod_mul_right_div_self]
    rw [par, par, h1, h2, ih]
theorem par_more {m n r : Nat} (h : r < 2 ^ m) : par (m + n) r = par m r := by
  rw [par_add, Nat.div_eq_of_lt h, par_zero, Bool.xor_false]
theorem par_bit {r : Nat} (h : r < 4294967296) : par 32 (CrcM.bit r) = par 32 r := by
  have e : (par 32 (r / 2)) = ((r % 2 == 1) ^^ par 32 r) := by
    have e1 : par 33 r = ((r % 2 == 1) ^^ par 32 (r / 2)) := rfl
    have e2 : par (32 + 1) r = par 32 r := par_more h
    have e3 : par 33 r = par 32 r := e2
    rw [e3] at e1
    rw [e1]
    cases (r % 2 == 1) <;> cases par 32 (r / 2) <;> rfl
  unfold CrcM.bit
  by_cases ho : r % 2 = 1
  · rw [if_pos ho, par_xor, e, show par 32 2197175160 = true by decide +kernel, ho]
    cases par 32 r <;> rfl
  · rw [if_neg ho, e, show (r % 2 == 1) = false by simp; omega, Bool.false_xor]
theorem par_bits {r : Nat} (h : r < 4294967296) (n : Nat) : par 32 (CrcM.bits r n) = par 32 r := by
  induction n with
  | zero => rfl
  | succ n ih => rw [CrcM.bits, par_bit (CrcM.bits_lt h n), ih]
theorem par_byte {c : Nat} (h : c < 256) : par 32 c = par 8 c := par_more (m := 8) (n := 24) h
theorem par_stp {r c : Nat} (h : r < 4294967296) (hc : c < 256) : par 32 (CrcM.stp r c) = (par 32 r ^^ par 8 c) := by
  unfold CrcM.stp
  rw [par_bits (CrcM.xor_lt h (by omega)), par_xor, par_byte hc]
/-- Whether the bits of a row of bytes are odd. -/
def odd : List Nat → Bool
  | [] => false
  | c :: z => par 8 c ^^ odd z
theorem odd_app (y z : List Nat) : odd (y ++ z) = (odd y ^^ odd z) := by
  induction y with
  | nil => simp [odd]
  | cons c y ih => rw [List.cons_append, odd, odd, ih, Bool.xor_assoc]
theorem par_regs {z : List Nat} : ∀ {r : Nat}, r < 4294967296 → (∀ x ∈ z, x < 256) → par 32 (CrcM.regs r z) = (par 32 r ^^ odd z) := by
  induction z with
  | nil => intro r _ _; simp [CrcM.regs, odd]
  | cons c z ih =>
    intro r h hz
    have hc := hz c (List.mem_cons_self ..)
    show par 32 (CrcM.regs (CrcM.stp r c) z) = _
    rw [ih (CrcM.stp_lt h hc) fun x hx => hz x (List.mem_cons_of_mem _ hx), par_stp h hc, odd, Bool.xor_assoc]
theorem par_sum {z : List Nat} (hz : ∀ x ∈ z, x < 256) : par 32 (CrcM.sum z) = odd z := by
  unfold CrcM.sum
  rw [par_xor, par_regs (by omega) hz, show par 32 4294967295 = false by decide +kernel]
  simp

/-- A number as four bytes, the highest first. -/
def four (v : Nat) : List Nat := [v / 16777216 % 256, v / 65536 % 256, v / 256 % 256, v % 256]
theorem four_length (v : Nat) : (four v).length = 4 := rfl
theorem four_small (v : Nat) : ∀ x ∈ four v, x < 256 := by
  intro x hx
  simp only [four, List.mem_cons, List.not_mem_nil, or_false] at hx
  omega
theorem odd_four {v : Nat} (h : v < 4294967296) : odd (four v) = par 32 v := by
  have e : par 32 v = (par 8 v ^^ (par 8 (v / 256) ^^ (par 8 (v / 65536) ^^ par 8 (v / 16777216)))) := by
    have a1 : par (8 + 24) v = _ := par_add 8 24 v
    have a2 : par (8 + 16) (v / 2 ^ 8) = _ := par_add 8 16 (v / 2 ^ 8)
    have a3 : par (8 + 8) (v / 2 ^ 8 / 2 ^ 8) = _ := par_add 8 8 (v / 2 ^ 8 / 2 ^ 8)
    simp only [Nat.div_div_eq_div_mul] at a2 a3
    exact a1.trans (by rw [show (24 : Nat) = 8 + 16 from rfl, a2, show (16 : Nat) = 8 + 8 from rfl, a3])
  have m : ∀ x : Nat, par 8 (x % 256) = par 8 x := fun x => par_mod 8 x
  rw [e, four, odd, odd, odd, odd, odd, m, m, m, m]
  cases par 8 v <;> cases par 8 (v / 256) <;> cases par 8 (v / 65536) <;> cases par 8 (v / 16777216) <;> rfl
theorem odd_zeros (n : Nat) : odd (List.replicate n 0) = false := by
  induction n with
  | zero => rfl
  | succ n ih => rw [List.replicate_succ, odd, par_zero, ih]; rfl
theorem odd_set {z : List Nat} {i j : Nat} (hi : i < z.length) (hj : j < 8) : odd (z.set i (z.getD i 0 ^^^ 2 ^ j)) = !odd z := by
  induction z generalizing i with
  | nil => cases hi
  | cons c z ih =>
    have hp : par 8 (2 ^ j) = true := by
      rcases (by omega : j = 0 ∨ j = 1 ∨ j = 2 ∨ j = 3 ∨ j = 4 ∨ j = 5 ∨ j = 6 ∨ j = 7) with rfl | rfl | rfl | rfl | rfl | rfl | rfl | rfl <;> rfl
    cases i with
    | zero =>
      show odd ((c ^^^ 2 ^ j) :: z) = _
      rw [odd, odd, par_xor, hp]
      cases par 8 c <;> cases odd z <;> rfl
    | succ i =>
      show odd (c :: z.set i (z.getD i 0 ^^^ 2 ^ j)) = _
      rw [odd, odd, ih (by simpa using hi)]
      cases par 8 c <;> cases odd z <;> rfl

/-- The first eight bytes of a frame. -/
def head (id n : Nat) : List Nat := [183, n, 0, 0] ++ four id
/-- The frame of id and d: its check, and all of it. -/
def chk (id : Nat) (d : List Nat) : Nat := CrcM.sum (head id d.length ++ d)
def fr (id : Nat) (d : List Nat) : List Nat := head id d.length ++ four (chk id d) ++ d ++ List.replicate (84 - d.length) 0
theorem head_length (id n : Nat) : (head id n).length = 8 := rfl
theorem head_small {id n : Nat} (h : n < 256) : ∀ x ∈ head id n, x < 256 := by
  intro x hx
  rcases List.mem_append.1 hx with hx | hx
  · simp only [List.mem_cons, List.not_mem_nil, or_false] at hx
    omega
  · exact four_small _ x hx
theorem fr_length {id : Nat} {d : List Nat} (h : d.length ≤ 64) : (fr id d).length = 96 := by
  simp only [fr, List.length_append, head_length, four_length, List.length_replicate]
  omega
theorem chk_lt {id : Nat} {d : List Nat} (h : d.length ≤ 64) (hd : ∀ x ∈ d, x < 256) : chk id d < 4294967296 := CrcM.sum_lt fun x hx => by
  rcases List.mem_append.1 hx with hx | hx
  · exact head_small (by omega) x hx
  · exact hd x hx
theorem fr_small {id : Nat} {d : List Nat} (h : d.length ≤ 64) (hd : ∀ x ∈ d, x < 256) : ∀ x ∈ fr id d, x < 256 := by
  intro x hx
  rcases List.mem_append.1 hx with hx | hx
  · rcases List.mem_append.1 hx with hx | hx
    · rcases List.mem_append.1 hx with hx | hx
      · exact head_small (by omega) x hx
      · exact four_small _ x hx
    · exact hd x hx
  · have := (List.mem_replicate.1 hx).2
    omega
theorem fr_odd {id : Nat} {d : List Nat} (h : d.length ≤ 64) (hd : ∀ x ∈ d, x < 256) : odd (fr id d) = false := by
  have hs : ∀ x ∈ head id d.length ++ d, x < 256 := fun x hx => by
    rcases List.mem_append.1 hx with hx | hx
    · exact head_small (by omega) x hx
    · exact hd x hx
  unfold fr
  rw [odd_app, odd_app, odd_app, odd_zeros, odd_four (chk_lt h hd)]
  unfold chk
  rw [par_sum hs, odd_app]
  cases odd (head id d.length) <;> cases odd d <;> rfl
/-- Whose a row of bytes is, and what its data are. -/
def word (z : List Nat) (o : Nat) : Nat := z.getD o 0 * 16777216 + z.getD (o + 1) 0 * 65536 + z.getD (o + 2) 0 * 256 + z.getD (o + 3) 0
def idOf (z : List Nat) : Nat := word z 4
def datOf (z : List Nat) : List Nat := (z.drop 12).take (z.getD 1 0)
theorem fr_head (id : Nat) (d : List Nat) : fr id d = 183 :: d.length :: 0 :: 0 :: (id / 16777216 % 256) :: (id / 65536 % 256) :: (id / 256 % 256) :: (id % 256) :: (four (chk id d) ++ (d ++ List.replicate (84 - d.length) 0)) := by
  simp [fr, head, four]
theorem fr_len (id : Nat) (d : List Nat) : (fr id d).getD 1 0 = d.length := by rw [fr_head]; rfl
theorem fr_id {id : Nat} {d : List Nat} (h : id < 4294967296) : idOf (fr id d) = id := by
  have e : idOf (fr id d) = (id / 16777216 % 256) * 16777216 + (id / 65536 % 256) * 65536 + (id / 256 % 256) * 256 + id % 256 := by rw [fr_head]; rfl
  rw [e]
  omega
theorem fr_dat {id : Nat} {d : List Nat} : datOf (fr id d) = d := by
  unfold datOf
  rw [fr_len, fr_head]
  show ((four (chk id d) ++ (d ++ List.replicate (84 - d.length) 0)).drop 4).take d.length = d
  rw [List.drop_left' (four_length _), List.take_left' rfl]
theorem fr_inj {i j : Nat} {d e : List Nat} (hi : i < 4294967296) (hj : j < 4294967296) (h : fr i d = fr j e) : i = j ∧ d = e := by
  have h1 := congrArg idOf h
  have h2 := congrArg datOf h
  rw [fr_id hi, fr_id hj] at h1
  rw [fr_dat, fr_dat] at h2
  exact ⟨h1, h2⟩
/-- What Take tells. -/
def tk (z : List Nat) : Option (Nat × List Nat) := if z.length = 96 ∧ z.getD 1 0 ≤ 64 ∧ z = fr (idOf z) (datOf z) then some (idOf z, datOf z) else none
theorem tk_fr {id : Nat} {d : List Nat} (h : id < 4294967296) (hd : d.length ≤ 64) : tk (fr id d) = some (id, d) := by
  unfold tk
  rw [fr_id h, fr_dat, fr_len, if_pos ⟨fr_length hd, hd, rfl⟩]
theorem dat_len {z : List Nat} (h : z.length = 96) (h1 : z.getD 1 0 ≤ 64) : (datOf z).length = z.getD 1 0 := by
  unfold datOf
  rw [List.length_take, List.length_drop]
  omega
theorem dat_small {z : List Nat} (h : ∀ x ∈ z, x < 256) : ∀ x ∈ datOf z, x < 256 := fun x hx => h x (List.mem_of_mem_drop (List.mem_of_mem_take hx))
theorem tk_one {id : Nat} {d : List Nat} {i j : Nat} (h : d.length ≤ 64) (hd : ∀ x ∈ d, x < 256) (hi : i < 96) (hj : j < 8) : tk ((fr id d).set i ((fr id d).getD i 0 ^^^ 2 ^ j)) = none := by
  have hl := fr_length (id := id) h
  have ho := odd_set (z := fr id d) (i := i) (j := j) (by omega) hj
  rw [fr_odd h hd] at ho
  have hs : ∀ x ∈ (fr id d).set i ((fr id d).getD i 0 ^^^ 2 ^ j), x < 256 := fun x hx => by
    rcases List.mem_or_eq_of_mem_set hx with hx | rfl
    · exact fr_small h hd x hx
    · have e : (fr id d).getD i 0 < 256 := by
        rw [List.getD_eq_getElem?_getD, List.getElem?_eq_getElem (by omega)]
        exact fr_small h hd _ (List.getElem_mem _)
      exact Nat.xor_lt_two_pow (n := 8) e (Nat.pow_lt_pow_right (by omega) hj)
  generalize (fr id d).set i ((fr id d).getD i 0 ^^^ 2 ^ j) = z at ho hs
  unfold tk
  rw [if_neg]
  rintro ⟨h1, h2, h3⟩
  have := fr_odd (id := idOf z) (d := datOf z) (by rw [dat_len h1 h2]; exact h2) (dat_small hs)
  rw [← h3, ho] at this
  cases this
theorem word_lt {z : List Nat} (h : ∀ i, z.getD i 0 < 256) (o : Nat) : word z o < 4294967296 := by
  have h0 := h o; have h1 := h (o + 1); have h2 := h (o + 2); have h3 := h (o + 3)
  unfold word
  omega
end FrM
end Go.Proofs.Ytfmgbmpdifjliaa
