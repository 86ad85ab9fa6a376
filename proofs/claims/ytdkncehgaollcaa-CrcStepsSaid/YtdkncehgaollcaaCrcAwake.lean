/- 'awake' of the check's statements. -/
import Derived.Test.YtdkncehgaollcaaCrcSum
import Derived.Lib.SmallJoins
namespace Go.Proofs.Ytdkncehgaollcaa
open Go.RowKit
set_option linter.unusedVariables false

theorem SlN.blk {w : World} {q : Nat} {z : List Nat} (h : Blk w q z) (hl : z.length ≤ 9223372036854775807) : SlN w (some ⟨q, 0, none⟩) z.length z := by
  have hr := h.row 0 z.length (by omega)
  rw [List.drop_zero, List.take_of_length_le (Nat.le_refl _)] at hr
  exact ⟨rfl, .inr ⟨q, 0, rfl, h.lt, hr⟩, hl⟩
theorem SlN.nil (w : World) : SlN w none 0 [] := ⟨rfl, .inl rfl, by omega⟩
/-- A new row of bytes, whatever mark it bears. -/
theorem SlN.mark (w : World) (z : List Nat) (fr : Nat × Nat) (hz : ∀ x ∈ z, x < 256) (hl : z.length ≤ 9223372036854775807) (q : Nat) (hq : q = w.heap.size) : SlN (w.alloc (.cells (bys z) 5 fr)) (some ⟨q, 0, none⟩) z.length z := by
  subst hq
  refine ⟨rfl, .inr ⟨_, 0, rfl, by simp, fun i hi => ?_, fun i => small_getD hz i⟩, hl⟩
  rw [World.cell?_alloc_mark, Nat.zero_add]
  exact bys_at z i hi
theorem SlN.next {w w' : World} {a : Option Addr} {n : Nat} {z : List Nat} (h : SlN w a n z) (u : Up Nul w w') : SlN w' a n z := h.up u fun _ _ => id

set_option maxHeartbeats 800000 in
set_option maxRecDepth 100000 in
theorem awake_any (w : World) : Calls Try.prog 7 #[] w fun e w' => e = .returned (.bool true) ∧ Up Nul w w' := by
  have kc := fun (W : World) (C : Array Value) (n c : Nat) => Lib.run_convert_bytes_const (P := Try.prog) W 22 5 C n c Try.underlying22 Try.underlying5
  go_enter Try.func7, Try.ntmps7
  go_wp2_with fail
  refine (sum_any _ 9 _ [49, 50, 51, 52, 53, 54, 55, 56, 57] _ (SlN.mark w [49, 50, 51, 52, 53, 54, 55, 56, 57] _ (by decide) (by decide) _ rfl)).mono ?_
  rintro e w1 ⟨rfl, u1⟩
  rw [CrcM.sum_digits]
  have H1 : Hid (Up Nul w w1) := ((Up.refl _ _).alloc _).trans u1
  clear u1
  go_wp2_with fail
  refine (sum_any _ _ _ [] _ (SlN.nil _)).mono ?_
  rintro e w2 ⟨rfl, u2⟩
  rw [CrcM.sum_nil]
  have H2 : Hid (Up Nul w w2) := H1.out.trans u2
  clear u2 H1
  have kd := fun (C : Array Value) (n c : Nat) => Joins.run_convert_bytes_const_at (P := Try.prog) (w2.alloc (.cells #[.int .u8 49, .int .u8 50, .int .u8 51, .int .u8 52] 5 (4, 5))) 22 5 C n c (w2.heap.size + 1) (by simp) Try.underlying22 Try.underlying5
  go_wp2_with fail
  have s4 := SlN.mark w2 [49, 50, 51, 52] (4, 5) (by decide) (by decide) _ rfl
  have s5 := SlN.mark (w2.alloc (.cells (bys [49, 50, 51, 52]) 5 (4, 5))) [53, 54, 55, 56, 57] (5, 6) (by decide) (by decide) (w2.heap.size + 1) (by simp)
  have s4' := s4.next ((Up.refl Nul _).alloc (.cells (bys [53, 54, 55, 56, 57]) 5 (5, 6)))
  refine (many_any (w2.heap.size + 2) [⟨some ⟨w2.heap.size, 0, none⟩, 4, 4, [49, 50, 51, 52]⟩, ⟨none, 0, 0, []⟩, ⟨some ⟨w2.heap.size + 1, 0, none⟩, 5, 5, [53, 54, 55, 56, 57]⟩] _ _ (show 3 ≤ 1000 by decide) ?_).mono ?_
  · intro i hi
    have hi : i < 3 := hi
    match i, hi with
    | 0, _ => exact ⟨(Joins.cell_alloc_mark_at _ _ _ _ _ 0 (by simp)).trans rfl, s4'.next ((Up.refl Nul _).alloc _)⟩
    | 1, _ => exact ⟨(Joins.cell_alloc_mark_at _ _ _ _ _ 1 (by simp)).trans rfl, SlN.nil _⟩
    | 2, _ => exact ⟨(Joins.cell_alloc_mark_at _ _ _ _ _ 2 (by simp)).trans rfl, s5.next ((Up.refl Nul _).alloc _)⟩
  rintro e w3 ⟨rfl, rfl⟩
  have e3 : CrcM.sum (List.flatMap Seg.z [⟨some ⟨w2.heap.size, 0, none⟩, 4, 4, [49, 50, 51, 52]⟩, ⟨none, 0, 0, []⟩, ⟨some ⟨w2.heap.size + 1, 0, none⟩, 5, 5, [53, 54, 55, 56, 57]⟩]) = 3808858755 := CrcM.sum_digits
  rw [e3]
  clear s4 s5 s4' e3
  go_wp2
  go_ret
  exact ⟨rfl, ((H2.out.alloc _).alloc _).alloc _⟩
end Go.Proofs.Ytdkncehgaollcaa
