/- 'New', 'Next', 'Blob'. -/
import Derived.Test.YtmhmlfgikmeejaaDoorMtMem
namespace Go.Proofs.YtmhmlfgikmeejaaDoor
open Go.RowKit Go.Maps
set_option linter.unusedVariables false

/-- One step behind another: what is new since the first world may turn. -/
theorem Up.thn {S T : Nat → Prop} {u v w : World} (h : Up S u v) (k : Up T v w) (hT : ∀ j, T j → S j ∨ u.heap.size ≤ j) : Up S u w :=
  ⟨k.os.trans h.os, k.tape.trans h.tape, k.output.trans h.output, Nat.le_trans h.size k.size, fun j hj hs => (k.block j (Nat.lt_of_lt_of_le hj h.size) (fun e => by rcases hT j e with e | e; exact hs e; omega)).trans (h.block j hj hs)⟩
/-- What is new between two worlds. -/
abbrev Fresh (w w' : World) (k : Nat) : Prop := w.heap.size ≤ k ∧ k < w'.heap.size
theorem new_any (w : World) : Calls Tryd.prog 5 #[] w fun e w' => ∃ p bm bs, e = .returned (.pointer (some ⟨p, 0, none⟩)) ∧ MT (Fresh w w') w' p bm bs 0 (fun _ => undef) MM.new ∧ Up Nul w w' := by
  have hmm := @run_makeMap Tryd.prog
  have H : Hid (∀ W, W = ((w.alloc (.map #[] 0)).alloc (.map #[] 0)).alloc (.cells (mhead w.heap.size (w.heap.size + 1) 0 tb0) 57) → MT (Fresh w W) W (w.heap.size + 2) w.heap.size (w.heap.size + 1) 0 (fun _ => undef) MM.new ∧ Up Nul w W) := by
    rintro W rfl
    have u1 : Up Nul (w.alloc (.map #[] 0)) (((w.alloc (.map #[] 0)).alloc (.map #[] 0)).alloc (.cells (mhead w.heap.size (w.heap.size + 1) 0 tb0) 57)) := ((Up.refl _ _).alloc _).alloc _
    have u2 : Up Nul ((w.alloc (.map #[] 0)).alloc (.map #[] 0)) (((w.alloc (.map #[] 0)).alloc (.map #[] 0)).alloc (.cells (mhead w.heap.size (w.heap.size + 1) 0 tb0) 57)) := (Up.refl _ _).alloc _
    have e1 : (w.alloc (.map #[] 0)).heap.size = w.heap.size + 1 := World.size_alloc _ _
    have e2 : ((w.alloc (.map #[] 0)).alloc (.map #[] 0)).heap.size = w.heap.size + 2 := by rw [World.size_alloc, e1]
    have e3 : (((w.alloc (.map #[] 0)).alloc (.map #[] 0)).alloc (.cells (mhead w.heap.size (w.heap.size + 1) 0 tb0) 57)).heap.size = w.heap.size + 3 := by rw [World.size_alloc, e2]
    refine ⟨⟨?_, (MapS.new w).up u1 id, ?_, fun i s e => (by cases e), fun i j s s' e => (by cases e), ⟨by omega, by omega⟩, ⟨by omega, by omega⟩, ⟨by omega, by omega⟩, by omega⟩, (((Up.refl _ _).alloc _).alloc _).alloc _⟩
    · have := heap_alloc_new ((w.alloc (.map #[] 0)).alloc (.map #[] 0)) (.cells (mhead w.heap.size (w.heap.size + 1) 0 tb0) 57)
      rw [e2] at this
      exact this
    · have := (MapI.new (w.alloc (.map #[] 0))).up u2 id
      rw [e1] at this
      exact this
  go_enter Tryd.func5, Tryd.ntmps5
  go_wp2
  go_ret
  exact ⟨_, _, _, rfl, H.out _ rfl⟩
section
variable {F : Nat → Prop} {w : World} {p bm bs n : Nat} {Q : Int → Value} {M : MM}
theorem MT.cells (h : MT F w p bm bs n Q M) : w.cell? ⟨p, 0, none⟩ = some (.map (some bm)) ∧ w.cell? ⟨p, 1, none⟩ = some (.map (some bs)) ∧ w.cell? ⟨p, 2, none⟩ = some (.int .i64 M.last) := by
  simp [World.cell?, h.hp]
theorem next_any (h : MT F w p bm bs n Q M) (hl : M.last ≤ 2147483647 ∧ 0 ≤ M.last) : Calls Tryd.prog 8 #[.pointer (some ⟨p, 0, none⟩)] w fun e w' => e = .returned (.int .i64 (M.last + 1)) ∧ w' = w := by
  obtain ⟨c0, c1, c2⟩ := h.cells
  clear h
  generalize M.last = l at c2 hl ⊢
  have hw : IntKind.i64.wrap (l + 1) = l + 1 := IntWalk.i64_in _ (by omega)
  have hw2 : wrap64 (l + 1) = l + 1 := by rw [← IntWalk.i64_left]; exact hw
  clear hl
  go_enter Tryd.func8, Tryd.ntmps8
  go_wp2
  go_ret
  exact ⟨rfl, rfl⟩
end
end Go.Proofs.YtmhmlfgikmeejaaDoor
