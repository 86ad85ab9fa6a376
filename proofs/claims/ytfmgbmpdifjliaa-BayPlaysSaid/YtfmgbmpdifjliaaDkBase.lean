/- A Fuse and a Disk in memory; the statements' own 'Full', the document's 'Blank'. -/
import Derived.Test.YtfmgbmpdifjliaaPadBase
import Derived.Deep.MidRow
import Derived.BigRegion
namespace Go.Proofs.Ytfmgbmpdifjliaa
open Go.RowKit
set_option linter.unusedVariables false

theorem Up.put {S : Nat → Prop} {u w : World} (h : Up S u w) {b : Nat} (hb : S b) (i : Nat) (v : Value) : Up S u (w.setCell ⟨b, i, none⟩ v) := h.setCell (.inr hb) v
/-- What turns none but new blocks. -/
theorem Up.newer {S : Nat → Prop} {u w w' : World} (h : Up Nul u w) (k : Up S w w') (hs : ∀ i, i < u.heap.size → ¬ S i) : Up Nul u w' :=
  ⟨k.os.trans h.os, k.tape.trans h.tape, k.output.trans h.output, Nat.le_trans h.size k.size, fun i hi _ => (k.block i (Nat.lt_of_lt_of_le hi h.size) (hs i hi)).trans (h.block i hi id)⟩

/-! ### A Fuse -/
/-- A Fuse in memory; 'none': of any number. -/
structure Fz (w : World) (f : Nat) (k : Option Nat) : Prop where
  heap : w.heap[f]? = some (.cells #[.bool k.isSome, .int .i64 ((k.getD 0 : Nat) : Int)] 111 (0, 0))
  le : k.getD 0 ≤ 9223372036854775807
theorem Fz.lt {w : World} {f : Nat} {k : Option Nat} (h : Fz w f k) : f < w.heap.size := (Array.getElem?_eq_some_iff.1 h.heap).1
theorem Fz.c0 {w : World} {f : Nat} {k : Option Nat} (h : Fz w f k) : w.cell? ⟨f, 0, none⟩ = some (.bool k.isSome) := by simp [World.cell?, h.heap]
theorem Fz.c1 {w : World} {f : Nat} {k : Option Nat} (h : Fz w f k) : w.cell? ⟨f, 1, none⟩ = some (.int .i64 ((k.getD 0 : Nat) : Int)) := by simp [World.cell?, h.heap]
theorem Fz.fr {w : World} {f : Nat} {k : Option Nat} (h : Fz w f k) (i : Nat) : w.frozen? ⟨f, i, none⟩ = false := by simp [World.frozen?, h.heap]
theorem Fz.up {S : Nat → Prop} {w w' : World} {f : Nat} {k : Option Nat} (h : Fz w f k) (u : Up S w w') (hs : ¬ S f) : Fz w' f k := ⟨(u.block f h.lt hs).trans h.heap, h.le⟩
/-- The Fuse of a pointer that may be nil. -/
def FzO (w : World) (fu : Option Nat) (k : Option Nat) : Prop := match fu with
  | none => k = none
  | some f => Fz w f k
/-- The pointer. -/
def fp (fu : Option Nat) : Option Addr := fu.map fun f => ⟨f, 0, none⟩
theorem FzO.up {S : Nat → Prop} {w w' : World} {fu k : Option Nat} (h : FzO w fu k) (u : Up S w w') (hs : ∀ f, fu = some f → ¬ S f) : FzO w' fu k := by
  cases fu with
  | none => exact h
  | some f => exact Fz.up h u (hs f rfl)
/-- The Fuse alone turns. -/
def FF (fu : Option Nat) (k : Nat) : Prop := fu = some k
theorem dead_any (fu k : Option Nat) (w : World) (h : FzO w fu k) :
    Calls Try.prog 55 #[.pointer (fp fu)] w fun e w' => e = .returned (.bool (k == some 0)) ∧ w' = w := by
  cases fu with
  | none =>
    obtain rfl : k = none := h
    show Calls Try.prog 55 #[.pointer none] w _
    go_enter Try.func55, Try.ntmps55
    go_wp2
    go_ret
    exact ⟨rfl, rfl⟩
  | some f =>
    show Calls Try.prog 55 #[.pointer (some ⟨f, 0, none⟩)] w _
    rcases k with _ | _ | n
    · have c0 : w.cell? ⟨f, 0, none⟩ = some (.bool false) := Fz.c0 h
      clear h
      go_enter Try.func55, Try.ntmps55
      go_wp2
      go_ret
      exact ⟨rfl, rfl⟩
    · have c0 : w.cell? ⟨f, 0, none⟩ = some (.bool true) := Fz.c0 h
      have c1 : w.cell? ⟨f, 1, none⟩ = some (.int .i64 0) := Fz.c1 h
      clear h
      go_enter Try.func55, Try.ntmps55
      go_wp2
      go_ret
      exact ⟨rfl, rfl⟩
    · have c0 : w.cell? ⟨f, 0, none⟩ = some (.bool true) := Fz.c0 h
      have c1 : w.cell? ⟨f, 1, none⟩ = some (.int .i64 ((n + 1 : Nat) : Int)) := Fz.c1 h
      have e : (some (n + 1) == some 0) = false := by simp
      rw [e]
      clear h
      generalize hm : n + 1 = m at c1
      have i1 : ¬ (m : Int) = 0 := by omega
      clear hm e
      go_enter Try.func55, Try.ntmps55
      go_wp2
      go_ret
      exact ⟨by simp; omega, rfl⟩
theorem spend_dead (fu : Option Nat) (w : World) (h : FzO w fu (some 0)) :
    Calls Try.prog 59 #[.pointer (fp fu)] w fun e w' => e = .returned (.bool false) ∧ w' = w := by
  have HD := hid (dead_any fu (some 0) w h)
  generalize fp fu = p at HD ⊢
  clear h
  go_enter Try.func59, Try.ntmps59
  go_wp2_with ((go_at_call 55; (with_reducible refine HD.out.mono ?_); rintro e w1 ⟨rfl, rfl⟩))
  go_ret
  exact ⟨rfl, rfl⟩
/-- The number of writes behind one. -/
def less (k : Option Nat) : Option Nat := k.map (· - 1)
theorem Fz.set {w : World} {f m : Nat} (h : Fz w f (some (m + 1))) : Fz (w.setCell ⟨f, 1, none⟩ (.int .i64 (m : Int))) f (some m) :=
  ⟨heap_setCell_same w f 1 _ _ _ h.heap, by have := h.le; simp at this ⊢; omega⟩
theorem spend_live (fu k : Option Nat) (w : World) (h : FzO w fu k) (hk : k ≠ some 0) :
    Calls Try.prog 59 #[.pointer (fp fu)] w fun e w' => e = .returned (.bool true) ∧ FzO w' fu (less k) ∧ Up (FF fu) w w' ∧ w'.heap.size = w.heap.size := by
  have hd := dead_any fu k w h
  rw [show (k == some 0) = false by simpa using hk] at hd
  have HD := hid hd
  clear hd
  cases fu with
  | none =>
    obtain rfl : k = none := h
    have HD : Hid (Calls Try.prog 55 #[.pointer none] w _) := HD
    show Calls Try.prog 59 #[.pointer none] w _
    go_enter Try.func59, Try.ntmps59
    go_wp2_with ((go_at_call 55; (with_reducible refine HD.out.mono ?_); rintro e w1 ⟨rfl, rfl⟩))
    go_ret
    exact ⟨rfl, rfl, Up.refl _ _, rfl⟩
  | some f =>
    have HD : Hid (Calls Try.prog 55 #[.pointer (some ⟨f, 0, none⟩)] w _) := HD
    show Calls Try.prog 59 #[.pointer (some ⟨f, 0, none⟩)] w _
    rcases k with _ | _ | n
    · have HF : Hid (Fz w f none) := h
      have c0 : w.cell? ⟨f, 0, none⟩ = some (.bool false) := Fz.c0 h
      clear h hk
      go_enter Try.func59, Try.ntmps59
      go_wp2_with ((go_at_call 55; (with_reducible refine HD.out.mono ?_); rintro e w1 ⟨rfl, rfl⟩))
      go_ret
      exact ⟨rfl, HF.out, Up.refl _ _, rfl⟩
    · exact absurd rfl hk
    · have HF : Hid (Fz w f (some (n + 1))) := h
      have c0 : w.cell? ⟨f, 0, none⟩ = some (.bool true) := Fz.c0 h
      have c1 : w.cell? ⟨f, 1, none⟩ = some (.int .i64 ((n + 1 : Nat) : Int)) := Fz.c1 h
      have f1 := Fz.fr h 1
      have hle : n + 1 ≤ 9223372036854775807 := HF.out.le
      have HS := hid HF.out.set
      have i1 : ((n + 1 : Nat) : Int) - 1 = (n : Int) := by omega
      obtain ⟨m, hm⟩ : ∃ m, m = n + 1 := ⟨_, rfl⟩
      rw [← hm] at c1 i1
      have i4 : IntKind.i64.wrap ((m : Int) - 1) = (n : Int) := by rw [i1]; exact IntWalk.i64_in _ (by omega)
      have i5 : wrap64 ((m : Int) - 1) = (n : Int) := by rw [← IntWalk.i64_left]; exact i4
      have i6 : wrap64 (n : Int) = (n : Int) := by rw [i1] at i5; exact i5
      clear hk hm hle h
      go_enter Try.func59, Try.ntmps59
      go_wp2_with ((go_at_call 55; (with_reducible refine HD.out.mono ?_); rintro e w1 ⟨rfl, rfl⟩))
      go_ret
      exact ⟨rfl, HS.out, (Up.refl (FF (some f)) _).put rfl _ _, by simp⟩
/-- What k writes are, as NewFuse takes them. -/
def ofk (k : Int) : Option Nat := if 1 ≤ k then some k.toNat else none
/-! ### Bytes of noughts, 'Full' -/
theorem Blk.whole {w : World} {q : Nat} {z : List Nat} (h : Blk w q z) : Row w q 0 z := ⟨fun i hi => by rw [Nat.zero_add]; exact h.cell i hi, fun i => small_getD h.small i⟩
theorem Part.nxt {w wr : World} {g n k x : Nat} {f : Nat → Nat} {y : List Nat} (h : Part w g n k f wr y) (hg : w.heap.size ≤ g) (hk : k < n) (hx : f k = x) (h8 : x < 256) :
    Part w g n (k + 1) f (wr.setCell ⟨g, k, none⟩ (.int .u8 x)) (y.set k x) :=
  ⟨h.blk.set k x h8, by rw [List.length_set]; exact h.len, fun i hi => by
    rw [getD_set _ _ _ _ (by rw [h.len]; exact hk)]
    split
    · next e => rw [e, hx]
    · exact h.told i (by omega), h.up.setCell (.inl hg) _⟩
theorem blank_any (w : World) : Calls Try.prog 48 #[] w fun e w' => e = .returned (.string (strOf (zer 96))) ∧ Up Nul w w' := by
  have hmk : (Instr.makeSlice 32 (.int .i64 96) (.int .i64 96)).run Try.prog w = .ok (.slice (some ⟨w.heap.size, 0, none⟩) 96 96) (w.alloc (.cells (bys (zer 96)) 5)) := make_bytes w 96 (by omega)
  have hcv : (convert 32 9 (.slice (some ⟨w.heap.size, 0, none⟩) 96 96)).run Try.prog (w.alloc (.cells (bys (zer 96)) 5)) = .ok (.string (strOf (zer 96))) (w.alloc (.cells (bys (zer 96)) 5)) := conv_row (Blk.whole (Blk.new w (zer 96) (zer_small 96))) (zer_length 96)
  have HU := hid ((Up.refl Nul w).alloc (.cells (bys (zer 96)) 5))
  generalize strOf (zer 96) = s at hcv ⊢
  go_enter Try.func48, Try.ntmps48
  go_wp2
  go_ret
  exact ⟨rfl, HU.out⟩
/-- What 'Full' lays. -/
def fl (c i : Nat) : Nat := (c + i * 3) % 256
def ful (c : Nat) : List Nat := tab 96 (fl c)
theorem ful_length (c : Nat) : (ful c).length = 96 := by simp [ful, tab]
end Go.Proofs.Ytfmgbmpdifjliaa
