/- 'SameInts' of two rows alike. -/
import Derived.Test.YtfmgbmpdifjliaaRefScan
namespace Go.Proofs.Ytfmgbmpdifjliaa
open Go.RowKit
set_option linter.unusedVariables false

theorem usV_at {U : Nat → Bool} {n i : Nat} (h : i < (us U n).length) : (usV U n)[i]? = some (.int .i64 ((us U n).getD i 0 : Nat)) := by
  simp [usV, List.getD_eq_getElem?_getD, List.getElem?_eq_getElem h]
theorem sameInts_yes (b1 b2 : Nat) (U : Nat → Bool) (n : Nat) (v1 v2 : Value) (w : World) (hn : n ≤ 64) (h1 : OwnV 3 b1 w v1 (usV U n)) (h2 : OwnV 3 b2 w v2 (usV U n)) :
    Calls Try.prog 37 #[v1, v2] w fun e w' => e = .returned (.bool true) ∧ Up Nul w w' := by
  obtain ⟨a1, c1, rfl⟩ := h1.shape
  obtain ⟨a2, c2, rfl⟩ := h2.shape
  obtain ⟨L, LL⟩ : ∃ L, Hid ((usV U n).length = L) := ⟨_, rfl⟩
  have HL : Hid (L ≤ 64) := by show _ ≤ _; rw [← LL.out, usV_length]; have := us_length U n; omega
  have HC : Hid (∀ i, i < L → ∃ g1 g2 x, a1 = some ⟨g1, 0, none⟩ ∧ a2 = some ⟨g2, 0, none⟩ ∧ ∀ W, Up Nul w W → W.cell? ⟨g1, i, none⟩ = some (.int .i64 x) ∧ W.cell? ⟨g2, i, none⟩ = some (.int .i64 x)) := fun i hi => by
    have hi2 : i < (usV U n).length := by rw [LL.out]; exact hi
    obtain ⟨g1, k1, e1, _, l1, r1, _⟩ := h1.row (by omega)
    obtain ⟨g2, k2, e2, _, l2, r2, _⟩ := h2.row (by omega)
    injection e1 with e1
    injection e2 with e2
    have hx := usV_at (U := U) (n := n) (i := i) (by rw [← usV_length]; exact hi2)
    exact ⟨g1, g2, _, e1, e2, fun W u => ⟨(u.cell (p := ⟨g1, i, none⟩) l1 id).trans (r1 i _ hx), (u.cell (p := ⟨g2, i, none⟩) l2 id).trans (r2 i _ hx)⟩⟩
  rw [LL.out]
  clear h1 h2 hn
  have hll : ((L : Int) == (L : Int)) = true := by simp
  go_enter Try.func37, Try.ntmps37
  go_wp2_with fail
  go_loopw [5] (fun i wr => ∃ t : Nat, t ≤ L ∧ i = .int .i64 (t : Nat) ∧ Up Nul w wr) (fun i _ => L - (intOf i).toNat)
  case atStart => exact ⟨0, Nat.zero_le _, rfl, Up.refl _ _⟩
  case round =>
    obtain ⟨t, ht, rfl, hu⟩ := hrel
    have HU := hid hu
    clear hu
    have i0 : (0 : Int) ≤ (t : Int) := by omega
    have i2 : (t : Int) ≤ 64 := by have := HL.out; omega
    by_cases hlt : t < L
    · have i1 : (t : Int) < (L : Int) := by omega
      obtain ⟨g1, g2, x, rfl, rfl, hc⟩ := HC.out t hlt
      obtain ⟨k1, k2⟩ := hc _ HU.out
      have HT := hid hlt
      clear hc hlt ht
      have hxx : (x == x) = true := by simp
      go_wp2_with fail
      go_quiet (fail)
      have UQ : Hid (Up Nul w (wr.drewN nq)) := HU.out.drewN nq
      generalize wr.drewN nq = w2 at UQ ⊢
      go_wp2_with fail
      go_roundw
      case rel => exact ⟨t + 1, HT.out, by go_num, UQ.out⟩
      case measure => have := HT.out; simp [intOf]; omega
    · obtain rfl : t = L := by omega
      go_wp2_with fail
      go_ret
      exact ⟨rfl, HU.out⟩
end Go.Proofs.Ytfmgbmpdifjliaa
