/- 'Unit', and the document's own. -/
import Derived.Test.YtebglmfdchfplaaMatInvert
namespace Go.Proofs.Ytebglmfdchfplaa
open Go.RowKit
set_option linter.unusedVariables false

/-- The cells of the unit, the first k rows of it told. -/
def unitK (n k t : Nat) : Nat := if t / n = t % n ∧ t / n < k then 1 else 0
def unitZ (n : Nat) : List Nat := tab (n * n) fun t => if t / n = t % n then 1 else 0
theorem unitK_zero {n : Nat} (t : Nat) : (zer (n * n)).getD t 0 = unitK n 0 t := by
  rw [zer_at, unitK, if_neg (by omega)]
theorem unitK_next {n k : Nat} {y : List Nat} (hk : k < n) (hl : y.length = n * n) (h : ∀ t, t < n * n → y.getD t 0 = unitK n k t) : ∀ t, t < n * n → (y.set (k * n + k) 1).getD t 0 = unitK n (k + 1) t := by
  have hlt : k * n + k < n * n := by
    have := Nat.mul_le_mul_right n (show k + 1 ≤ n from hk)
    rw [Nat.add_mul] at this
    omega
  intro t ht
  rw [getD_set _ _ _ _ (by rw [hl]; exact hlt)]
  by_cases e : t = k * n + k
  · rw [if_pos e, e]
    unfold unitK
    rw [Nat.mul_comm k n, Nat.mul_add_mod, Nat.mod_eq_of_lt hk, Nat.mul_add_div (by omega), Nat.div_eq_of_lt hk, Nat.add_zero, if_pos ⟨rfl, Nat.lt_succ_self k⟩]
  · rw [if_neg e, h t ht]
    unfold unitK
    by_cases h1 : t / n = t % n ∧ t / n < k
    · rw [if_pos h1, if_pos ⟨h1.1, Nat.lt_succ_of_lt h1.2⟩]
    · rw [if_neg h1, if_neg]
      intro h2
      rcases Nat.lt_or_ge (t / n) k with h3 | h3
      · exact h1 ⟨h2.1, h3⟩
      · have e1 : t / n = k := Nat.le_antisymm (Nat.le_of_lt_succ h2.2) h3
        have h0 := Nat.div_add_mod t n
        rw [← h2.1, e1, Nat.mul_comm] at h0
        exact e h0.symm
theorem unitK_done {n : Nat} {y : List Nat} (hl : y.length = n * n) (hn : 0 < n) (h : ∀ t, t < n * n → y.getD t 0 = unitK n n t) : y = unitZ n := by
  refine eq_tab hl fun t ht => ?_
  rw [h t ht, unitK]
  have : t / n < n := (Nat.div_lt_iff_lt_mul hn).2 ht
  by_cases e : t / n = t % n
  · rw [if_pos ⟨e, this⟩, if_pos e]
  · rw [if_neg (fun h => e h.1), if_neg e]

theorem unit_nil (n : Int) (w : World) :
    Calls Try.prog 31 #[.pointer none, .int .i64 n] w fun e w' => e = .returned (.tuple #[.pointer none, .int .i64 1]) ∧ w' = w := by
  go_enter Try.func31, Try.ntmps31
  go_wp2_with ((go_at_call 51; (with_reducible refine (blank_nil n n _).mono ?_); rintro e w1 ⟨rfl, rfl⟩))
  go_ret2
  exact ⟨rfl, rfl⟩
theorem unit_out (F : Nat) (n : Int) (w : World) (h : ¬ (1 ≤ n ∧ n ≤ 32)) :
    Calls Try.prog 31 #[.pointer (some ⟨F, 0, none⟩), .int .i64 n] w fun e w' => e = .returned (.tuple #[.pointer none, .int .i64 1]) ∧ w' = w := by
  have H := hid (blank_out F n n w (by omega))
  clear h
  go_enter Try.func31, Try.ntmps31
  go_wp2_with ((go_at_call 51; (with_reducible refine H.out.mono ?_); rintro e w1 ⟨rfl, rfl⟩))
  go_ret2
  exact ⟨rfl, rfl⟩

set_option maxHeartbeats 800000 in
theorem unit_good (F n : Nat) (w : World) (hF : F < w.heap.size) (n1 : 1 ≤ n) (n2 : n ≤ 32) :
    Calls Try.prog 31 #[.pointer (some ⟨F, 0, none⟩), .int .i64 n] w fun e w' => e = .returned (.tuple #[.pointer (some ⟨w.heap.size + 1, 0, none⟩), .int .i64 0]) ∧ Mat w' (w.heap.size + 1) w.heap.size F n n (unitZ n) ∧ Up Nul w w' := by
  have H := hid (blank_good F n n w hF n1 n2 n1 n2)
  obtain ⟨p3, P3⟩ : ∃ x, Hid (x = w.heap.size + 1) := ⟨_, rfl⟩
  obtain ⟨q3, Q3⟩ : ∃ x, Hid (x = w.heap.size) := ⟨_, rfl⟩
  rw [← P3.out, ← Q3.out]
  go_enter Try.func31, Try.ntmps31
  go_wp2_with fail
  refine H.out.mono ?_
  rintro e w1 ⟨rfl, k1⟩
  have hm := k1.mat
  rw [← P3.out, ← Q3.out] at hm
  rw [← P3.out]
  have HM := hid (And.intro hm k1.up)
  clear k1 hm H
  go_wp2
  go_loopw [20] (fun i wr => ∃ k : Nat, k ≤ n ∧ i = .int .i64 k ∧ ∃ y, Mat wr p3 q3 F n n y ∧ Up Nul w wr ∧ ∀ t, t < n * n → y.getD t 0 = unitK n k t) (fun i _ => n - (intOf i).toNat)
  case atStart => exact ⟨0, by omega, rfl, _, HM.out.1, HM.out.2, fun t _ => unitK_zero t⟩
  case round =>
    clear HM
    obtain ⟨k, hk, rfl, y, hy, hu, ht⟩ := hrel
    by_cases hlt : k < n
    · have HR := hid (row_any p3 q3 F n n k y wr hy hlt)
      have hc := hy.blk.cell _ (hy.at hlt hlt)
      have hf := hy.blk.froz (k * n + k)
      have HY := hid (And.intro hy (And.intro hu ht))
      generalize y.getD (k * n + k) 0 = u at hc
      clear hy hu ht
      go_wp2_with fail
      refine HR.out.mono ?_
      rintro e w2 ⟨rfl, m, rfl⟩
      go_wp2
      go_roundw
      case rel => exact ⟨k + 1, by omega, by go_num, _, (HY.out.1.drewN m).set (k * n + k) 1 (by omega), (HY.out.2.1.drewN m).setCell (p := ⟨q3, k * n + k, none⟩) (.inl (by have := Q3.out; show _ ≤ q3; omega)) _, unitK_next hlt HY.out.1.len HY.out.2.2⟩
      case measure => simp [intOf]; omega
    · obtain rfl : n = k := by omega
      have HY := hid (And.intro hy (And.intro hu ht))
      clear hy hu ht
      go_wp2
      go_ret2
      refine ⟨rfl, ?_, HY.out.2.1⟩
      rw [← unitK_done HY.out.1.len (by omega) HY.out.2.2]
      exact HY.out.1

end Go.Proofs.Ytebglmfdchfplaa
