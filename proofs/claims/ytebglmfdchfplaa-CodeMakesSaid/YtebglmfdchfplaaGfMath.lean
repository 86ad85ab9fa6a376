/- Plain arithmetic of the field of 256: powers of 2, logarithms, products, with no word of the program. -/
import Derived.KernelRfl
namespace Go.Proofs.Ytebglmfdchfplaa
namespace GfM

/-- Doubling. -/
def dbl (p : Nat) : Nat := if 255 < p * 2 then (p * 2) ^^^ 285 else p * 2
/-- Doubled k times. -/
def pw : Nat → Nat → Nat
  | 0, x => x
  | k + 1, x => dbl (pw k x)
/-- The powers of 2. -/
def gexp (k : Nat) : Nat := pw k 1
/-- The list of n doublings, from p on. -/
def powers : Nat → Nat → List Nat
  | 0, _ => []
  | n + 1, p => p :: powers n (dbl p)
/-- Where x stands in the list of powers. -/
def glog (x : Nat) : Nat := (powers 255 1).idxOf x
def mul (a b : Nat) : Nat := if a = 0 ∨ b = 0 then 0 else gexp ((glog a + glog b) % 255)
def inv (a : Nat) : Nat := if a = 0 then 0 else gexp ((255 - glog a) % 255)
def pow (a : Nat) (n : Int) : Nat := if n = 0 then 1 else if a = 0 then 0 else gexp ((glog a * n.tmod 255) % 255).toNat

theorem gexp_zero : gexp 0 = 1 := rfl
theorem gexp_succ (k : Nat) : gexp (k + 1) = dbl (gexp k) := rfl
theorem pw_comm (k x : Nat) : pw k (dbl x) = dbl (pw k x) := by
  induction k with
  | zero => rfl
  | succ k ih => simp only [pw, ih]
theorem pw_add (j k x : Nat) : pw (j + k) x = pw j (pw k x) := by
  induction j with
  | zero => simp [pw]
  | succ j ih => rw [Nat.succ_add]; simp only [pw, ih]

def bytes : List Nat := List.range 256
theorem all_range (n : Nat) (p : Nat → Bool) (h : (List.range n).all p = true) (k : Nat) (hk : k < n) : p k = true := by
  rw [List.all_eq_true] at h
  exact h k (List.mem_range.2 hk)

theorem gexp_facts : (List.range 255).all (fun k => decide (1 ≤ gexp k) && decide (gexp k ≤ 255) && decide (glog (gexp k) = k)) = true := by decide +kernel
theorem glog_facts : (List.range 256).all (fun a => decide (a = 0) || (decide (glog a < 255) && decide (gexp (glog a) = a))) = true := by decide +kernel
theorem gexp_255 : gexp 255 = 1 := by decide +kernel
theorem dbl_facts : (List.range 256).all (fun a => decide (dbl a ≤ 255)) = true := by decide +kernel

theorem gexp_lt {k : Nat} (h : k < 255) : 1 ≤ gexp k ∧ gexp k ≤ 255 := by
  have := all_range 255 _ gexp_facts k h
  simp only [Bool.and_eq_true, decide_eq_true_eq] at this
  exact this.1
theorem glog_gexp {k : Nat} (h : k < 255) : glog (gexp k) = k := by
  have := all_range 255 _ gexp_facts k h
  simp only [Bool.and_eq_true, decide_eq_true_eq] at this
  exact this.2
theorem glog_lt {a : Nat} (h0 : a ≠ 0) (h : a < 256) : glog a < 255 := by
  have := all_range 256 _ glog_facts a h
  simp only [Bool.and_eq_true, Bool.or_eq_true, decide_eq_true_eq] at this
  omega
theorem gexp_glog {a : Nat} (h0 : a ≠ 0) (h : a < 256) : gexp (glog a) = a := by
  have := all_range 256 _ glog_facts a h
  simp only [Bool.and_eq_true, Bool.or_eq_true, decide_eq_true_eq] at this
  rcases this with h | h
  · exact absurd h h0
  · exact h.2
theorem gexp_inj {j k : Nat} (hj : j < 255) (hk : k < 255) (h : gexp j = gexp k) : j = k := by
  have := glog_gexp hj
  rw [h, glog_gexp hk] at this
  exact this.symm
theorem gexp_period (k : Nat) : gexp (k + 255) = gexp k := by
  unfold gexp
  rw [pw_add]
  have : pw 255 1 = 1 := gexp_255
  rw [this]
theorem gexp_mod (k : Nat) : gexp (k % 255) = gexp k := by
  have : ∀ q r : Nat, gexp (r + 255 * q) = gexp r := by
    intro q
    induction q with
    | zero => intro r; simp
    | succ q ih => intro r; rw [show r + 255 * (q + 1) = (r + 255 * q) + 255 by omega, gexp_period, ih]
  have h := this (k / 255) (k % 255)
  rw [Nat.mod_add_div] at h
  exact h.symm
theorem gexp_le (k : Nat) : 1 ≤ gexp k ∧ gexp k ≤ 255 := by
  rw [← gexp_mod]; exact gexp_lt (Nat.mod_lt _ (by omega))
theorem mul_le (a b : Nat) : mul a b ≤ 255 := by
  unfold mul; split
  · omega
  · exact (gexp_le _).2
theorem inv_le (a : Nat) : inv a ≤ 255 := by
  unfold inv; split
  · omega
  · exact (gexp_le _).2
theorem inv_zero : inv 0 = 0 := rfl
end GfM
end Go.Proofs.Ytebglmfdchfplaa
