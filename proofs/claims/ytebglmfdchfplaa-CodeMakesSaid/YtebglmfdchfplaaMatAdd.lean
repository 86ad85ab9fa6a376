/- 'addTo': a line, times a number, added to another. -/
import Derived.Test.YtebglmfdchfplaaMatColumn
import Derived.Test.YtebglmfdchfplaaMatMath
import Derived.Test.YtebglmfdchfplaaGfFull
import Derived.StillTailTactics
namespace Go.Proofs.Ytebglmfdchfplaa
open Go.RowKit
set_option linter.unusedVariables false

theorem Full.up {S : Nat → Prop} {b : Nat} {w w' : World} (h : Full b w) (u : Up S w w') (hs : ¬ S b) : Full b w' := by
  have hl := h.raw.lt
  have hc : ∀ j, w'.cell? ⟨b, j, none⟩ = w.cell? ⟨b, j, none⟩ := fun j => u.cell (p := ⟨b, j, none⟩) hl hs
  have hr : Raw b w → Raw b w' := fun r => ⟨Nat.lt_of_lt_of_le hl u.size, fun j hj => by rw [hc]; exact r.cells j hj, fun j => by rw [u.froz (p := ⟨b, j, none⟩) hl hs]; exact r.fr j⟩
  exact ⟨hr h.raw, by rw [hc]; exact h.lock, by rw [hc]; exact h.done, by rw [hc]; exact h.made, ⟨fun j hj => by rw [hc]; exact h.tabs.ex j hj, fun j hj => by rw [hc]; exact h.tabs.lg j hj⟩⟩

theorem Full.drew {b : Nat} {w : World} (h : Full b w) : Full b w.drew := ⟨h.raw.drew, h.lock, h.done, h.made, ⟨h.tabs.ex, h.tabs.lg⟩⟩

/-- A line in block g, of which the first k bytes have been turned. -/
structure Turn (w : World) (g n k : Nat) (x : List Nat) (f : Nat → Nat) (wr : World) (y : List Nat) : Prop where
  blk : Blk wr g y
  len : y.length = n
  told : ∀ i, i < k → y.getD i 0 = f i
  rest : ∀ i, k ≤ i → y.getD i 0 = x.getD i 0
  up : Up (One g) w wr
theorem Turn.next {w wr : World} {g n k v : Nat} {x : List Nat} {f : Nat → Nat} {y : List Nat} (h : Turn w g n k x f wr y) (hk : k < n) (hx : f k = v) (h8 : v < 256) (m : Nat) :
    Turn w g n (k + 1) x f ((wr.drewN m).setCell ⟨g, k, none⟩ (.int .u8 v)) (y.set k v) :=
  ⟨(h.blk.drewN m).set k v h8, by rw [List.length_set]; exact h.len, fun i hi => by
    rw [getD_set _ _ _ _ (by rw [h.len]; exact hk)]
    split
    · next e => rw [e, hx]
    · exact h.told i (by omega), fun i hi => by
    rw [getD_set _ _ _ _ (by rw [h.len]; exact hk), if_neg (by omega)]
    exact h.rest i (by omega), (h.up.drewN m).setCell (p := ⟨g, k, none⟩) (.inr rfl) _⟩
theorem Turn.done {w wr : World} {g n : Nat} {x : List Nat} {f : Nat → Nat} {y : List Nat} (h : Turn w g n n x f wr y) : Blk wr g (tab n f) := by
  rw [← eq_tab h.len h.told]
  exact h.blk
theorem Turn.start {w : World} {g n : Nat} {x : List Nat} (h : Blk w g x) (hl : x.length = n) (f : Nat → Nat) : Turn w g n 0 x f w x :=
  ⟨h, hl, fun _ hi => absurd hi (Nat.not_lt_zero _), fun _ _ => rfl, Up.refl _ _⟩

set_option maxRecDepth 100000 in
set_option maxHeartbeats 800000 in
/-- line ^= other times by; the tables being there, and the lines two. -/
theorem addTo_any (p q F r c g1 g2 by_ n c1 c2 : Nat) (z x y : List Nat) (w : World) (hm : Mat w p q F r c z) (hf : Full F w) (h1 : Blk w g1 x) (h2 : Blk w g2 y) (l1 : x.length = n) (l2 : y.length = n)
    (hn : n ≤ 64) (hne : g1 ≠ g2) (hp : p ≠ g1) (hF : F ≠ g1) (hb : by_ < 256) :
    Calls Try.prog 84 #[.pointer (some ⟨p, 0, none⟩), .slice (some ⟨g1, 0, none⟩) n c1, .slice (some ⟨g2, 0, none⟩) n c2, .int .u8 by_] w
      fun e w' => e = .returned (.tuple #[]) ∧ Blk w' g1 (tab n fun j => x.getD j 0 ^^^ GfM.mul (y.getD j 0) by_) ∧ Up (One g1) w w' := by
  have HS : Hid _ := Turn.start h1 l1 fun j => x.getD j 0 ^^^ GfM.mul (y.getD j 0) by_
  have H1 : Hid _ := h1
  have H2 : Hid _ := h2
  have HM : Hid (w.cell? ⟨p, 0, none⟩ = some (.pointer (some ⟨F, 0, none⟩)) ∧ p < w.heap.size) := ⟨hm.f, hm.pl⟩
  have HF : Hid _ := hf
  have L2 : Hid _ := l2
  clear h1 h2 hm hf l1 l2
  go_enter Try.func84, Try.ntmps84
  go_wp2
  go_loopw [11] (fun i wr => ∃ k : Nat, k ≤ n ∧ i = .int .i64 k ∧ ∃ u, Turn w g1 n k x (fun j => x.getD j 0 ^^^ GfM.mul (y.getD j 0) by_) wr u) (fun i _ => n - (intOf i).toNat)
  case atStart => exact ⟨0, by omega, rfl, _, HS.out⟩
  case round =>
    obtain ⟨k, hk, rfl, u, hu⟩ := hrel
    by_cases hlt : k < n
    · obtain ⟨x1, X1⟩ : ∃ v, Hid (x.getD k 0 = v) := ⟨_, rfl⟩
      obtain ⟨y1, Y1⟩ : ∃ v, Hid (y.getD k 0 = v) := ⟨_, rfl⟩
      have gx : x1 < 256 := by rw [← X1.out]; exact small_getD H1.out.small _
      have gy : y1 < 256 := by rw [← Y1.out]; exact small_getD H2.out.small _
      have hc0 : wr.cell? ⟨p, 0, none⟩ = some (.pointer (some ⟨F, 0, none⟩)) := (hu.up.cell (p := ⟨p, 0, none⟩) HM.out.2 hp).trans HM.out.1
      have hc1 : wr.cell? ⟨g1, k, none⟩ = some (.int .u8 x1) := by rw [← X1.out, ← hu.rest k (Nat.le_refl _)]; exact hu.blk.cell _ (by rw [hu.len]; exact hlt)
      have hc2 : wr.cell? ⟨g2, k, none⟩ = some (.int .u8 y1) := by rw [← Y1.out]; exact (H2.out.up hu.up fun e => hne e.symm).cell _ (by rw [L2.out]; exact hlt)
      have hf1 : wr.frozen? ⟨g1, k, none⟩ = false := hu.blk.froz _
      have hfr := HF.out.up hu.up hF
      have HFR : Hid _ := hfr
      have HU : Hid _ := hu
      have hx := u8_xor_nat x1 (GfM.mul y1 by_) gx (GfM.mul_lt _ _)
      have HV : Hid ((fun j => x.getD j 0 ^^^ GfM.mul (y.getD j 0) by_) k = x1 ^^^ GfM.mul y1 by_) := by show _ ^^^ _ = _; rw [X1.out, Y1.out]
      have g8 := GfM.xor_lt gx (GfM.mul_lt y1 by_)
      clear hfr hu
      go_wp2
      go_still_tail 16, (by kernel_rfl)
      still_call (mul_full F y1 by_ _ HFR.out.drew gy hb)
      repeat still_step
      refine wpStill_nil ?_
      change wpList _ _ _ _ _ (wr.drewN 1)
      go_wp2
      go_roundw
      case rel => exact ⟨k + 1, by omega, by go_num, _, HU.out.next hlt HV.out g8 1⟩
      case measure => simp [intOf]; omega
    · obtain rfl : k = n := by omega
      have HU : Hid _ := hu
      clear hu
      go_wp2
      go_end0
      exact ⟨rfl, HU.out.done, HU.out.up⟩
end Go.Proofs.Ytebglmfdchfplaa
