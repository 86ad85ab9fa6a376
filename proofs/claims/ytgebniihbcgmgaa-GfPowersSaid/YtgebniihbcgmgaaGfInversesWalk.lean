/- The law GfInverses, walked: each byte but nought, all its products, its inverse. -/
import Derived.Test.YtgebniihbcgmgaaGfTellsWalk
namespace Go.Proofs.Ytgebniihbcgmgaa
open Go.RowKit
set_option linter.unusedVariables false

/-- The row of 256 places, all of them not met yet. -/
def seen0 : Array Value := ⟨List.replicate 256 (.bool false)⟩
theorem seen0_at (j : Nat) (h : j < 256) : seen0[j]? = some (.bool false) := by
  unfold seen0
  rw [List.getElem?_toArray, List.getElem?_replicate, if_pos h]
theorem make_seen (w : World) : (Instr.makeSlice 24 (.int .i64 256) (.int .i64 256)).run Try.prog w = .ok (.slice (some ⟨w.heap.size, 0, none⟩) 256 256) (w.alloc (.cells seen0 4)) := by kernel_rfl

/-- The world in a round: B the Field's block, B + 1 the row; which places have been met is told by f. -/
structure SeenInv (w : World) (f : Nat → Bool) (wr : World) : Prop where
  below : Below w.heap.size w wr
  size : wr.heap.size = w.heap.size + 2
  fld : Fld w.heap.size wr
  cells : ∀ j, j < 256 → wr.cell? ⟨w.heap.size + 1, j, none⟩ = some (.bool (f j))
  fr : ∀ j, wr.frozen? ⟨w.heap.size + 1, j, none⟩ = false

theorem SeenInv.start {w w1 : World} (h : Newed w w1) (f : Nat → Bool) (hf : ∀ j, f j = false) : SeenInv w f (w1.alloc (.cells seen0 4)) := by
  refine ⟨h.below.trans (((Below.refl _ _).alloc (Nat.le_refl _) _).mono (by rw [h.size]; omega)), by simp [h.size], h.fld.alloc _, fun j hj => ?_, fun j => ?_⟩
  · rw [World.cell?_alloc_at _ _ _ _ h.size.symm, seen0_at j hj, hf]
  · rw [← h.size]
    exact World.frozen?_alloc_new _ _ _ j
theorem SeenInv.kept {w w1 w2 : World} {f : Nat → Bool} (h : SeenInv w f w1) (k : Kept w.heap.size w1 w2) : SeenInv w f w2 :=
  ⟨h.below.trans (k.below (Nat.le_refl _)), k.1.size.trans h.size, k.2, fun j hj => by rw [k.1.cell (by simp)]; exact h.cells j hj, fun j => by rw [k.1.froz (by simp)]; exact h.fr j⟩
theorem SeenInv.store {w wr : World} {f g : Nat → Bool} (h : SeenInv w f wr) (i : Nat) (hi : i < 256) (hg : ∀ j, g j = (f j || (i == j))) : SeenInv w g (wr.setCell ⟨w.heap.size + 1, i, none⟩ (.bool true)) := by
  have o : Out (w.heap.size + 1) wr (wr.setCell ⟨w.heap.size + 1, i, none⟩ (.bool true)) := (Out.refl _ _).setCell _ _
  refine ⟨h.below.trans (o.below (by omega)), o.size.trans h.size, h.fld.of_out o (by omega), fun j hj => ?_, fun j => by rw [o.frozen]; exact h.fr j⟩
  rw [hg]
  by_cases e : i = j
  · subst e
    rw [World.cell?_setCell_same _ _ _ (h.cells i hi)]
    simp
  · rw [World.cell?_setCell_other _ _ _ _ (by simp), h.cells j hj]
    simp [e]

set_option maxRecDepth 100000 in
set_option maxHeartbeats 1600000 in
theorem inverses_1 (a : Nat) (w : World) (ha : a < 256) (h0 : a = 0) :
    Calls Try.prog 3 #[.int .u8 a] w fun e w' => e = .returned (.bool true) ∧ Below w.heap.size w w' := by
  have hd : ((a : Int) == 0) = true := by simpa using h0
  have H0 : Hid (7 ≠ 0) := by show 7 ≠ 0; omega
  have HA : Hid (7 < 256) := by show 7 < 256; omega
  clear h0
  have hmk := make_seen
  go_enter Try.func3, Try.ntmps3
  go_wp2_with fail
  refine (new_any _).mono ?_
  rintro e w1 ⟨rfl, k1⟩
  have hs := k1.size
  go_wp2
  go_loopw [5, 6, 7] (fun c i _ wr => ∃ k : Nat, k ≤ 256 ∧ i = .int .i64 k ∧ c = .int .i64 (GfM.ones 7 k) ∧ SeenInv w (GfM.seen 7 k) wr) (fun _ i _ _ => 256 - (intOf i).toNat)
  case atStart => exact ⟨0, by omega, rfl, rfl, SeenInv.start k1 _ (GfM.seen_zero _)⟩
  case round =>
    obtain ⟨k, hk, rfl, rfl, hinv⟩ := hrel
    by_cases hlt : k < 256
    · have ho := GfM.ones_le 7 k
      go_wp2_with fail
      refine (mul_any w.heap.size 7 k _ hinv.fld HA.out hlt).mono ?_
      rintro e w2 ⟨rfl, k2⟩
      have i2 := hinv.kept k2
      have hc : w2.cell? ⟨w.heap.size + 1, GfM.mul 7 k, none⟩ = some (.bool false) := by
        rw [i2.cells _ (GfM.mul_lt _ _), GfM.seen_new H0.out HA.out hlt]
      have hz := i2.fr (GfM.mul 7 k)
      have hml := GfM.mul_lt 7 k
      have I3 : Hid _ := i2.store (g := GfM.seen 7 (k + 1)) (GfM.mul 7 k) hml (GfM.seen_succ 7 k)
      clear i2 k2 hinv
      by_cases h1 : GfM.mul 7 k = 1
      · have ht : ((GfM.mul 7 k : Int) == 1) = true := by rw [h1]; rfl
        have HO : Hid _ := GfM.ones_yes H0.out HA.out hlt h1
        clear h1
        go_wp2
        go_roundw
        case rel => exact ⟨k + 1, by omega, by go_num, by rw [HO.out]; go_num, I3.out⟩
        case measure => simp [intOf]; omega
      · have ht : ((GfM.mul 7 k : Int) == 1) = false := by simp; omega
        have HO : Hid _ := GfM.ones_no H0.out HA.out h1
        clear h1
        go_wp2
        go_roundw
        case rel => exact ⟨k + 1, by omega, by go_num, by rw [HO.out], I3.out⟩
        case measure => simp [intOf]; omega
    · obtain rfl : k = 256 := by omega
      have E1 : Hid _ := GfM.ones_all 7
      have E2 : Hid _ := GfM.inv_inv H0.out HA.out
      have E3 : Hid _ := GfM.pow_neg_one H0.out HA.out
      have E4 : Hid _ := GfM.pow_254 H0.out HA.out
      rw [E1.out]
      have I2 : Hid _ := hinv
      have hfl := hinv.fld
      clear hinv
      go_wp2_with fail
      refine (inv_any w.heap.size 7 _ hfl H0.out HA.out).mono ?_
      rintro e w2 ⟨rfl, k2⟩
      go_wp2_with fail
      refine (inv_any w.heap.size (GfM.inv 7) _ k2.2 (GfM.inv_pos H0.out) (GfM.inv_lt _)).mono ?_
      rintro e w3 ⟨he, k3⟩
      rw [E2.out] at he
      subst he
      go_wp2_with fail
      refine (pow_any w.heap.size 7 (-1) _ k3.2 HA.out).mono ?_
      rintro e w4 ⟨he, k4⟩
      rw [E3.out] at he
      subst he
      go_wp2_with fail
      refine (pow_any w.heap.size 7 254 _ k4.2 HA.out).mono ?_
      rintro e w5 ⟨he, k5⟩
      rw [E4.out] at he
      subst he
      go_wp2_with fail
      refine (awake_any _).mono ?_
      rintro e w6 ⟨rfl, hb9⟩
      go_wp2
      go_ret
      have hk := I2.out.below.trans ((((k2.trans k3).trans k4).trans k5).below (Nat.le_refl _))
      exact ⟨rfl, hk.trans (hb9.mono hk.size)⟩

set_option maxRecDepth 100000 in
set_option maxHeartbeats 1600000 in
theorem inverses_0 (a : Nat) (w : World) (ha : a < 256) (h0 : a ≠ 0) :
    Calls Try.prog 3 #[.int .u8 a] w fun e w' => e = .returned (.bool true) ∧ Below w.heap.size w w' := by
  have hd : ((a : Int) == 0) = false := by simpa using h0
  have H0 : Hid (a ≠ 0) := h0
  have HA : Hid (a < 256) := ha
  clear h0
  have hmk := make_seen
  go_enter Try.func3, Try.ntmps3
  go_wp2_with fail
  refine (new_any _).mono ?_
  rintro e w1 ⟨rfl, k1⟩
  have hs := k1.size
  go_wp2
  go_loopw [5, 6, 7] (fun c i _ wr => ∃ k : Nat, k ≤ 256 ∧ i = .int .i64 k ∧ c = .int .i64 (GfM.ones a k) ∧ SeenInv w (GfM.seen a k) wr) (fun _ i _ _ => 256 - (intOf i).toNat)
  case atStart => exact ⟨0, by omega, rfl, rfl, SeenInv.start k1 _ (GfM.seen_zero _)⟩
  case round =>
    obtain ⟨k, hk, rfl, rfl, hinv⟩ := hrel
    by_cases hlt : k < 256
    · have ho := GfM.ones_le a k
      go_wp2_with fail
      refine (mul_any w.heap.size a k _ hinv.fld HA.out hlt).mono ?_
      rintro e w2 ⟨rfl, k2⟩
      have i2 := hinv.kept k2
      have hc : w2.cell? ⟨w.heap.size + 1, GfM.mul a k, none⟩ = some (.bool false) := by
        rw [i2.cells _ (GfM.mul_lt _ _), GfM.seen_new H0.out HA.out hlt]
      have hz := i2.fr (GfM.mul a k)
      have hml := GfM.mul_lt a k
      have I3 : Hid _ := i2.store (g := GfM.seen a (k + 1)) (GfM.mul a k) hml (GfM.seen_succ a k)
      clear i2 k2 hinv
      by_cases h1 : GfM.mul a k = 1
      · have ht : ((GfM.mul a k : Int) == 1) = true := by rw [h1]; rfl
        have HO : Hid _ := GfM.ones_yes H0.out HA.out hlt h1
        clear h1
        go_wp2
        go_roundw
        case rel => exact ⟨k + 1, by omega, by go_num, by rw [HO.out]; go_num, I3.out⟩
        case measure => simp [intOf]; omega
      · have ht : ((GfM.mul a k : Int) == 1) = false := by simp; omega
        have HO : Hid _ := GfM.ones_no H0.out HA.out h1
        clear h1
        go_wp2
        go_roundw
        case rel => exact ⟨k + 1, by omega, by go_num, by rw [HO.out], I3.out⟩
        case measure => simp [intOf]; omega
    · obtain rfl : k = 256 := by omega
      have E1 : Hid _ := GfM.ones_all a
      have E2 : Hid _ := GfM.inv_inv H0.out HA.out
      have E3 : Hid _ := GfM.pow_neg_one H0.out HA.out
      have E4 : Hid _ := GfM.pow_254 H0.out HA.out
      rw [E1.out]
      have I2 : Hid _ := hinv
      have hfl := hinv.fld
      clear hinv
      go_wp2_with fail
      refine (inv_any w.heap.size a _ hfl H0.out HA.out).mono ?_
      rintro e w2 ⟨rfl, k2⟩
      go_wp2_with fail
      refine (inv_any w.heap.size (GfM.inv a) _ k2.2 (GfM.inv_pos H0.out) (GfM.inv_lt _)).mono ?_
      rintro e w3 ⟨he, k3⟩
      rw [E2.out] at he
      subst he
      go_wp2_with fail
      refine (pow_any w.heap.size a (-1) _ k3.2 HA.out).mono ?_
      rintro e w4 ⟨he, k4⟩
      rw [E3.out] at he
      subst he
      go_wp2_with fail
      refine (pow_any w.heap.size a 254 _ k4.2 HA.out).mono ?_
      rintro e w5 ⟨he, k5⟩
      rw [E4.out] at he
      subst he
      go_wp2_with fail
      refine (awake_any _).mono ?_
      rintro e w6 ⟨rfl, hb9⟩
      go_wp2
      go_ret
      have hk := I2.out.below.trans ((((k2.trans k3).trans k4).trans k5).below (Nat.le_refl _))
      exact ⟨rfl, hk.trans (hb9.mono hk.size)⟩

theorem inverses_walk (a0 : Int) (w0 : (Lit.int .u8 a0).wf = true) (w : World) :
    Calls Try.prog 3 #[.int .u8 a0] w fun e w' => e = .returned (.bool true) ∧ Below w.heap.size w w' := by
  obtain ⟨a, rfl, ha⟩ := u8_nat w0
  by_cases h0 : a = 0
  · exact inverses_1 a w ha h0
  · exact inverses_0 a w ha h0
end Go.Proofs.Ytgebniihbcgmgaa
