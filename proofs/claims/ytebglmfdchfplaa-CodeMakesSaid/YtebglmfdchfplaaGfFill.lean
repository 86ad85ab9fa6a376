/- '(*gf.Field).fill': the tables are laid, the count is 1. -/
import Derived.Test.YtebglmfdchfplaaOnceParts
import Derived.Outline
import Derived.IntWalk
namespace Go.Proofs.Ytebglmfdchfplaa
open Go.RowKit

/-- Go's xor of two ints that are not negative. -/
theorem i64_xor_nat (a b : Nat) (ha : a < 4611686018427387904) (hb : b < 4611686018427387904) : bits .xor .i64 (a : Int) (b : Int) = ((a ^^^ b : Nat) : Int) := by
  have hx : a ^^^ b < 2 ^ 62 := Nat.xor_lt_two_pow (by omega) (by omega)
  have h1 : (BitVec.ofInt 64 (a : Int)).toNat = a := by
    rw [BitVec.ofInt_natCast, BitVec.toNat_ofNat]; exact Nat.mod_eq_of_lt (by omega)
  have h2 : (BitVec.ofInt 64 (b : Int)).toNat = b := by
    rw [BitVec.ofInt_natCast, BitVec.toNat_ofNat]; exact Nat.mod_eq_of_lt (by omega)
  show IntKind.i64.wrap ((BitVec.ofInt 64 (a : Int) ^^^ BitVec.ofInt 64 (b : Int)).toNat : Int) = _
  rw [BitVec.toNat_xor, h1, h2]
  exact IntWalk.i64_in _ (by omega)

/-- One doubling, as the loop writes it. -/
theorem dbl_up (k : Nat) (h : (255 : Int) < (GfM.gexp k : Int) * 2) (hg : GfM.gexp k ≤ 255) : Value.int IntKind.i64 (bits .xor .i64 ((GfM.gexp k : Int) * 2) 285) = .int .i64 (GfM.gexp (k + 1)) := by
  have e := i64_xor_nat (GfM.gexp k * 2) 285 (by omega) (by omega)
  have e2 : ((GfM.gexp k * 2 : Nat) : Int) = (GfM.gexp k : Int) * 2 := by omega
  rw [e2] at e
  have e3 : ((285 : Nat) : Int) = 285 := rfl
  rw [e3] at e
  rw [e, GfM.gexp_succ, GfM.dbl, if_pos (by omega)]
theorem dbl_down (k : Nat) (h : (GfM.gexp k : Int) * 2 ≤ 255) : Value.int IntKind.i64 ((GfM.gexp k : Int) * 2) = .int .i64 (GfM.gexp (k + 1)) := by
  have e2 : ((GfM.gexp k * 2 : Nat) : Int) = (GfM.gexp k : Int) * 2 := by omega
  rw [GfM.gexp_succ, GfM.dbl, if_neg (by omega), e2]

/-- After k rounds. -/
structure FillInv (b : Nat) (w : World) (k : Nat) (wr : World) : Prop where
  out : Out b w wr
  raw : Raw b wr
  head : ∀ j, j < 4 → wr.cell? ⟨b, j, none⟩ = w.cell? ⟨b, j, none⟩
  ex : ∀ j, j < k → wr.cell? ⟨b, 4 + j, none⟩ = some (.int .u8 (GfM.gexp j))
  lg : ∀ j, j < k → wr.cell? ⟨b, 259 + GfM.gexp j, none⟩ = some (.int .u8 j)

theorem FillInv.start {b : Nat} {w : World} (h : Raw b w) : FillInv b w 0 w :=
  ⟨Out.refl _ _, h, fun _ _ => rfl, fun j hj => absurd hj (by omega), fun j hj => absurd hj (by omega)⟩

theorem FillInv.next {b : Nat} {w wr : World} {k : Nat} (hk : k < 255) (h : FillInv b w k wr) :
    FillInv b w (k + 1) ((wr.setCell ⟨b, 4 + k, none⟩ (.int .u8 (GfM.gexp k))).setCell ⟨b, 259 + GfM.gexp k, none⟩ (.int .u8 k)) := by
  have hg := GfM.gexp_lt hk
  have r1 := h.raw.setCell (4 + k) (.int .u8 (GfM.gexp k))
  have r2 := r1.setCell (259 + GfM.gexp k) (.int .u8 k)
  obtain ⟨v1, hv1⟩ := h.raw.cells (4 + k) (by omega)
  obtain ⟨v2, hv2⟩ := r1.cells (259 + GfM.gexp k) (by omega)
  refine ⟨(h.out.setCell _ _).setCell _ _, r2, fun j hj => ?_, fun j hj => ?_, fun j hj => ?_⟩
  · rw [World.cell?_setCell_other _ _ _ _ (by simp <;> omega), World.cell?_setCell_other _ _ _ _ (by simp <;> omega)]
    exact h.head j hj
  · rw [World.cell?_setCell_other _ _ _ _ (by simp <;> omega)]
    rcases Nat.lt_or_ge j k with h1 | h1
    · rw [World.cell?_setCell_other _ _ _ _ (by simp <;> omega)]
      exact h.ex j h1
    · obtain rfl : j = k := by omega
      exact World.cell?_setCell_same _ _ _ hv1
  · rcases Nat.lt_or_ge j k with h1 | h1
    · have hj' := GfM.gexp_lt (k := j) (by omega)
      have hne : GfM.gexp j ≠ GfM.gexp k := fun e => by
        have := GfM.gexp_inj (by omega) hk e
        omega
      rw [World.cell?_setCell_other _ _ _ _ (by simp <;> omega), World.cell?_setCell_other _ _ _ _ (by simp <;> omega)]
      exact h.lg j h1
    · obtain rfl : j = k := by omega
      exact World.cell?_setCell_same _ _ _ hv2

/-- What fill leaves. -/
structure Filled (b : Nat) (w w' : World) : Prop where
  out : Out b w w'
  raw : Raw b w'
  head : ∀ j, j < 3 → w'.cell? ⟨b, j, none⟩ = w.cell? ⟨b, j, none⟩
  made : w'.cell? ⟨b, 3, none⟩ = some (.int .i32 1)
  tabs : Tabs b w'

theorem FillInv.last {b : Nat} {w wr : World} (h : FillInv b w 255 wr) : Filled b w (wr.setCell ⟨b, 3, none⟩ (.int .i32 1)) := by
  obtain ⟨v, hv⟩ := h.raw.cells 3 (by omega)
  refine ⟨h.out.setCell _ _, h.raw.setCell _ _, fun j hj => ?_, World.cell?_setCell_same _ _ _ hv, ⟨fun j hj => ?_, fun j hj => ?_⟩⟩
  · rw [World.cell?_setCell_other _ _ _ _ (by simp <;> omega)]
    exact h.head j (by omega)
  · rw [World.cell?_setCell_other _ _ _ _ (by simp <;> omega)]
    exact h.ex j hj
  · rw [World.cell?_setCell_other _ _ _ _ (by simp <;> omega)]
    exact h.lg j hj

set_option maxRecDepth 100000 in
set_option maxHeartbeats 800000 in
theorem fill_any (b : Nat) (w : World) (hraw : Raw b w) (h3 : w.cell? ⟨b, 3, none⟩ = some (.int .i32 0)) :
    Calls Try.prog 80 #[.pointer (some ⟨b, 0, none⟩)] w fun e w' => e = .returned (.tuple #[]) ∧ Filled b w w' := by
  have H3 : Hid _ := h3
  clear h3
  go_enter Try.func80, Try.ntmps80
  go_wp2
  go_loopw [2, 4] (fun p i wr => ∃ k : Nat, k ≤ 255 ∧ i = .int .i64 k ∧ p = .int .i64 (GfM.gexp k) ∧ FillInv b w k wr) (fun _ i _ => 255 - (intOf i).toNat)
  case atStart => exact ⟨0, by omega, rfl, rfl, FillInv.start hraw⟩
  case round =>
    obtain ⟨k, hk, rfl, rfl, hinv⟩ := hrel
    by_cases hlt : k < 255
    · have hg := GfM.gexp_lt hlt
      obtain ⟨v1, hv1⟩ := hinv.raw.cells (4 + k) (by omega)
      obtain ⟨v2, hv2⟩ := (hinv.raw.setCell (4 + k) (.int .u8 (GfM.gexp k))).cells (259 + GfM.gexp k) (by omega)
      have hf1 := hinv.raw.fr (4 + k)
      have hf2 := hinv.raw.fr (259 + GfM.gexp k)
      have HI : Hid _ := hinv
      clear hinv
      go_wp2
      all_goals
        refine ⟨⟨k + 1, by omega, by go_num, ?_, FillInv.next hlt HI.out⟩, by simp [intOf]; omega⟩
      · exact dbl_up k (by assumption) hg.2
      · exact dbl_down k (by assumption)
    · obtain rfl : k = 255 := by omega
      have HI : Hid _ := hinv
      have h3 : wr.cell? ⟨b, 3, none⟩ = some (.int .i32 0) := (hinv.head 3 (by omega)).trans H3.out
      have hf3 := hinv.raw.fr 3
      clear hinv
      go_wp2_with (go_at_call 87; refine (int_add ⟨b, 3, none⟩ _ h3 hf3).mono ?_; rintro e w' ⟨rfl, rfl⟩)
      go_end0
      exact ⟨rfl, FillInv.last HI.out⟩
end Go.Proofs.Ytebglmfdchfplaa
