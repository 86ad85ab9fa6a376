/- 'settle's search for a line that has something in its column. -/
import Derived.Test.YtebglmfdchfplaaMatAdd
namespace Go.Proofs.Ytebglmfdchfplaa
open Go.RowKit
set_option linter.unusedVariables false

/-- The rows of an elimination: block gl holds n slices, the i-th of them row L i of m bytes at block b i; all that was there in W is as it was, but for the Field. -/
structure Elim (W : World) (F gl n m : Nat) (b : Nat → Nat) (L : Nat → List Nat) (w : World) : Prop where
  lin : ∀ i, i < n → w.cell? ⟨gl, i, none⟩ = some (.slice (some ⟨b i, 0, none⟩) m m)
  frz : ∀ i, w.frozen? ⟨gl, i, none⟩ = false
  gll : gl < w.heap.size
  glo : W.heap.size ≤ gl
  rows : ∀ i, i < n → Blk w (b i) (L i)
  lens : ∀ i, i < n → (L i).length = m
  own : ∀ i, i < n → W.heap.size ≤ b i ∧ b i ≠ gl
  inj : ∀ i j, i < n → j < n → b i = b j → i = j
  up : Up (One F) W w
/-- The cells of the lines. -/
def celL (L : Nat → List Nat) : GfM.Mx := fun i j => (L i).getD j 0
theorem Elim.lt {W w : World} {F gl n m : Nat} {b : Nat → Nat} {L : Nat → List Nat} (h : Elim W F gl n m b L w) {i : Nat} (hi : i < n) : b i < w.heap.size := (h.rows i hi).lt
theorem Elim.alloc {W w : World} {F gl n m : Nat} {b : Nat → Nat} {L : Nat → List Nat} (h : Elim W F gl n m b L w) (o : Obj) : Elim W F gl n m b L (w.alloc o) :=
  { h with
    lin := fun i hi => (World.cell?_alloc_past _ _ _ h.gll).trans (h.lin i hi), frz := fun i => (World.frozen?_alloc_past _ _ _ h.gll).trans (h.frz i)
    gll := by simpa using Nat.lt_succ_of_lt h.gll, rows := fun i hi => (h.rows i hi).alloc o, up := h.up.alloc o }
theorem Elim.drewN {W w : World} {F gl n m : Nat} {b : Nat → Nat} {L : Nat → List Nat} (h : Elim W F gl n m b L w) (k : Nat) : Elim W F gl n m b L (w.drewN k) :=
  { h with lin := h.lin, frz := h.frz, gll := h.gll, rows := fun i hi => (h.rows i hi).drewN k, up := h.up.drewN k }
/-- One line turned. -/
def updL (L : Nat → List Nat) (i : Nat) (y : List Nat) : Nat → List Nat := fun k => if k = i then y else L k
theorem Elim.turn {W w w' : World} {F gl n m : Nat} {b : Nat → Nat} {L : Nat → List Nat} (h : Elim W F gl n m b L w) {i : Nat} (hi : i < n) {y : List Nat} (hy : Blk w' (b i) y) (hl : y.length = m) (u : Up (One (b i)) w w') : Elim W F gl n m b (updL L i y) w' where
  lin := fun k hk => (u.cell (p := ⟨gl, k, none⟩) h.gll fun e => (h.own i hi).2 e.symm).trans (h.lin k hk)
  frz := fun k => (u.froz (p := ⟨gl, k, none⟩) h.gll fun e => (h.own i hi).2 e.symm).trans (h.frz k)
  gll := Nat.lt_of_lt_of_le h.gll u.size
  glo := h.glo
  rows := fun k hk => by
    unfold updL
    split
    · next e => subst e; exact hy
    · next e => exact (h.rows k hk).up u fun e2 => e (h.inj k i hk hi e2)
  lens := fun k hk => by
    unfold updL
    split
    · exact hl
    · exact h.lens k hk
  own := h.own
  inj := h.inj
  up := ⟨u.os.trans h.up.os, u.tape.trans h.up.tape, u.output.trans h.up.output, Nat.le_trans h.up.size u.size, fun k hk hs => (u.block k (Nat.lt_of_lt_of_le hk h.up.size) fun e => by
    have := (h.own i hi).1
    unfold One at e
    omega).trans (h.up.block k hk hs)⟩

theorem some_yes (g at_ m c A x : Nat) (w : World) (ha : at_ < m) (hx : x ≠ 0) (h1 : w.cell? ⟨A, 0, none⟩ = some (.int .i64 at_)) (h2 : w.cell? ⟨g, at_, none⟩ = some (.int .u8 x)) :
    Calls Try.prog 83 #[.slice (some ⟨g, 0, none⟩) m c, .pointer (some ⟨A, 0, none⟩)] w fun e w' => e = .returned (.bool true) ∧ w' = w := by
  have hd : ((x : Int) == 0) = false := by simpa using hx
  have hd2 : ((x : Int) != 0) = true := by simpa using hx
  clear hx
  go_enter Try.func83, Try.ntmps83
  go_wp2
  go_ret
  exact ⟨rfl, rfl⟩
theorem some_no (g at_ m c A : Nat) (w : World) (ha : at_ < m) (h1 : w.cell? ⟨A, 0, none⟩ = some (.int .i64 at_)) (h2 : w.cell? ⟨g, at_, none⟩ = some (.int .u8 0)) :
    Calls Try.prog 83 #[.slice (some ⟨g, 0, none⟩) m c, .pointer (some ⟨A, 0, none⟩)] w fun e w' => e = .returned (.bool false) ∧ w' = w := by
  go_enter Try.func83, Try.ntmps83
  go_wp2
  go_ret
  exact ⟨rfl, rfl⟩

set_option maxHeartbeats 400000 in
/-- The first line from 'at' on that has something in column 'at'. -/
theorem index_some (W : World) (F gl n m at_ t A c : Nat) (b : Nat → Nat) (L : Nat → List Nat) (w : World) (h : Elim W F gl n m b L w) (hA : w.cell? ⟨A, 0, none⟩ = some (.int .i64 at_)) (ha : at_ < m) (hn : n ≤ 32)
    (hp : GfM.pivot n at_ (celL L) = some (at_ + t)) :
    Calls Try.prog 71 #[.slice (some ⟨gl, at_, none⟩) (n - at_) c, .func (.func 83) #[] #[.pointer (some ⟨A, 0, none⟩)]] w
      fun e w' => e = .returned (.int .i64 t) ∧ w' = w := by
  obtain ⟨p1, p2, p3, p4⟩ := GfM.pivot_first hp
  have H : Hid _ := h
  have P3 : Hid _ := p3
  have P4 : Hid _ := p4
  clear h p3 p4 hp
  obtain ⟨d, D⟩ : ∃ d, d = n - at_ := ⟨_, rfl⟩
  have l2 : t < d := by omega
  rw [← D]
  have l3 : d ≤ 32 := by omega
  have l4 : at_ + d ≤ n := by omega
  clear D p1 p2
  go_enter Try.func71, Try.ntmps71
  go_wp2
  go_loopw [8] (fun i wr => ∃ k : Nat, k ≤ t ∧ i = .int .i64 k ∧ wr = w) (fun i _ => t - (intOf i).toNat)
  case atStart => exact ⟨0, by omega, rfl, rfl⟩
  case round =>
    obtain ⟨k, hk, rfl, rfl⟩ := hrel
    have hl : at_ + k < n := by omega
    have hc := H.out.lin _ hl
    have hkd : k < d := by omega
    have hx : wr.cell? ⟨b (at_ + k), at_, none⟩ = some (.int .u8 (celL L (at_ + k) at_)) := (H.out.rows _ hl).cell _ (by rw [H.out.lens _ hl]; exact ha)
    generalize b (at_ + k) = g at hc hx
    by_cases hlt : k < t
    · have e0 := P4.out (at_ + k) (by omega) (by omega)
      rw [e0] at hx
      have hx : wr.cell? ⟨g, at_, none⟩ = some (.int .u8 0) := hx
      go_wp2_with ((go_at_call 83; (with_reducible refine (some_no g at_ m m A _ ha hA hx).mono ?_); rintro e w1 ⟨rfl, rfl⟩))
      go_roundw
      case rel => exact ⟨k + 1, by omega, by go_num, trivial⟩
      case measure => simp [intOf]; omega
    · obtain rfl : k = t := by omega
      have e0 := P3.out
      generalize celL L (at_ + k) at_ = x at hx e0
      have E0 : Hid _ := e0
      clear e0
      go_wp2_with ((go_at_call 83; (with_reducible refine (some_yes g at_ m m A x _ ha E0.out hA hx).mono ?_); rintro e w1 ⟨rfl, rfl⟩))
      go_ret
      exact ⟨rfl, rfl⟩

set_option maxHeartbeats 400000 in
theorem index_none (W : World) (F gl n m at_ A c : Nat) (b : Nat → Nat) (L : Nat → List Nat) (w : World) (h : Elim W F gl n m b L w) (hA : w.cell? ⟨A, 0, none⟩ = some (.int .i64 at_)) (ha : at_ < m) (hn : n ≤ 32)
    (hp : GfM.pivot n at_ (celL L) = none) :
    Calls Try.prog 71 #[.slice (some ⟨gl, at_, none⟩) (n - at_) c, .func (.func 83) #[] #[.pointer (some ⟨A, 0, none⟩)]] w
      fun e w' => e = .returned (.int .i64 (-1)) ∧ w' = w := by
  have P4 : Hid _ := GfM.pivot_none hp
  have H : Hid _ := h
  clear h hp
  obtain ⟨d, D⟩ : ∃ d, d = n - at_ := ⟨_, rfl⟩
  rw [← D]
  have l3 : d ≤ 32 := by omega
  have DD : Hid _ := D
  clear D
  go_enter Try.func71, Try.ntmps71
  go_wp2
  go_loopw [8] (fun i wr => ∃ k : Nat, k ≤ d ∧ i = .int .i64 k ∧ wr = w) (fun i _ => d - (intOf i).toNat)
  case atStart => exact ⟨0, by omega, rfl, rfl⟩
  case round =>
    obtain ⟨k, hk, rfl, rfl⟩ := hrel
    by_cases hkd : k < d
    · have hl : at_ + k < n := by have := DD.out; omega
      have hc := H.out.lin _ hl
      have hx : wr.cell? ⟨b (at_ + k), at_, none⟩ = some (.int .u8 (celL L (at_ + k) at_)) := (H.out.rows _ hl).cell _ (by rw [H.out.lens _ hl]; exact ha)
      generalize b (at_ + k) = g at hc hx
      have e0 := P4.out (at_ + k) (by omega) hl
      rw [e0] at hx
      have hx : wr.cell? ⟨g, at_, none⟩ = some (.int .u8 0) := hx
      go_wp2_with ((go_at_call 83; (with_reducible refine (some_no g at_ m m A _ ha hA hx).mono ?_); rintro e w1 ⟨rfl, rfl⟩))
      go_roundw
      case rel => exact ⟨k + 1, by omega, by go_num, trivial⟩
      case measure => simp [intOf]; omega
    · obtain rfl : k = d := by omega
      go_wp2
      go_ret
      exact ⟨rfl, rfl⟩
end Go.Proofs.Ytebglmfdchfplaa
