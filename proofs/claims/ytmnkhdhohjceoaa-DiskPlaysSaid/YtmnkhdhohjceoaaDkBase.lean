/- A Fuse and a Disk in memory; the statements' own 'Full', the document's 'Blank'. -/
import Derived.Test.YtmnkhdhohjceoaaPadBase
import Derived.Deep.MidRow
import Derived.BigRegion
namespace Go.Proofs.Ytmnkhdhohjceoaa
open Go.RowKit
set_option linter.unusedVariables false

theorem Up.put {S : Nat → Prop} {u w : World} (h : Up S u w) {b : Nat} (hb : S b) (i : Nat) (v : Value) : Up S u (w.setCell ⟨b, i, none⟩ v) := h.setCell (.inr hb) v
/-- What turns none but new blocks. -/
theorem Up.newer {S : Nat → Prop} {u w w' : World} (h : Up Nul u w) (k : Up S w w') (hs : ∀ i, i < u.heap.size → ¬ S i) : Up Nul u w' :=
  ⟨k.os.trans h.os, k.tape.trans h.tape, k.output.trans h.output, Nat.le_trans h.size k.size, fun i hi _ => (k.block i (Nat.lt_of_lt_of_le hi h.size) (hs i hi)).trans (h.block i hi id)⟩

/-! ### A Fuse -/
/-- A Fuse in memory; 'none': of any number. -/
structure Fz (w : World) (f : Nat) (k : Option Nat) : Prop where
  heap : w.heap[f]? = some (.cells #[.bool k.isSome, .int .i64 ((k.getD 0 : Nat) : Int)] 70 (0, 0))
  le : k.getD 0 ≤ 9223372036854775807
theorem Fz.lt {w : World} {f : Nat} {k : Option Nat} (h : Fz w f k) : f < w.heap.size := (Array.getElem?_eq_some_iff.1 h.heap).1
theorem Fz.c0 {w : World} {f : Nat} {k : Option Nat} (h : Fz w f k) : w.cell? ⟨f, 0, none⟩ = some (.bool k.isSome) := by simp [World.cell?, h.heap]
theorem Fz.c1 {w : World} {f : Nat} {k : Option Nat} (h : Fz w f k) : w.cell? ⟨f, 1, none⟩ = some (.int .i64 ((k.getD 0 : Nat) : Int)) := by simp [World.cell?, h.heap]
theorem Fz.fr {w : World} {f : Nat} {k : Option Nat} (h : Fz w f k) (i : Nat) : w.frozen? ⟨f, i, none⟩ = false := by simp [World.frozen?, h.heap]
theorem Fz.up {S : Nat → Prop} {w w' : World} {f : Nat} {k : Option Nat} (h : Fz w f k) (u : Up S w w') (hs : ¬ S f) : Fz w' f k := ⟨(u.block f h.lt hs).trans h.heap, h.le⟩
/-- The Fuse of a pointer that may be nil. -/
def FzO (w : World) (fu : Option Nat) (k : Option Nat) : Prop := match fu with
  | none => k = none
  | some f => Fz w f k
/-- The pointer. -/
def fp (fu : Option Nat) : Option Addr := fu.map fun f => ⟨f, 0, none⟩
theorem FzO.up {S : Nat → Prop} {w w' : World} {fu k : Option Nat} (h : FzO w fu k) (u : Up S w w') (hs : ∀ f, fu = some f → ¬ S f) : FzO w' fu k := by
  cases fu with
  | none => exact h
  | some f => exact Fz.up h u (hs f rfl)
/-- The Fuse alone turns. -/
def FF (fu : Option Nat) (k : Nat) : Prop := fu = some k
theorem dead_any (fu k : Option Nat) (w : World) (h : FzO w fu k) :
    Calls Try.prog 30 #[.pointer (fp fu)] w fun e w' => e = .returned (.bool (k == some 0)) ∧ w' = w := by
  cases fu with
  | none =>
    obtain rfl : k = none := h
    show Calls Try.prog 30 #[.pointer none] w _
    go_enter Try.func30, Try.ntmps30
    go_wp2
    go_ret
    exact ⟨rfl, rfl⟩
  | some f =>
    show Calls Try.prog 30 #[.pointer (some ⟨f, 0, none⟩)] w _
    rcases k with _ | _ | n
    · have c0 : w.cell? ⟨f, 0, none⟩ = some (.bool false) := Fz.c0 h
      clear h
      go_enter Try.func30, Try.ntmps30
      go_wp2
      go_ret
      exact ⟨rfl, rfl⟩
    · have c0 : w.cell? ⟨f, 0, none⟩ = some (.bool true) := Fz.c0 h
      have c1 : w.cell? ⟨f, 1, none⟩ = some (.int .i64 0) := Fz.c1 h
      clear h
      go_enter Try.func30, Try.ntmps30
      go_wp2
      go_ret
      exact ⟨rfl, rfl⟩
    · have c0 : w.cell? ⟨f, 0, none⟩ = some (.bool true) := Fz.c0 h
      have c1 : w.cell? ⟨f, 1, none⟩ = some (.int .i64 ((n + 1 : Nat) : Int)) := Fz.c1 h
      have e : (some (n + 1) == some 0) = false := by simp
      rw [e]
      clear h
      generalize hm : n + 1 = m at c1
      have i1 : ¬ (m : Int) = 0 := by omega
      clear hm e
      go_enter Try.func30, Try.ntmps30
      go_wp2
      go_ret
      exact ⟨by simp; omega, rfl⟩
theorem spend_dead (fu : Option Nat) (w : World) (h : FzO w fu (some 0)) :
    Calls Try.prog 41 #[.pointer (fp fu)] w fun e w' => e = .returned (.bool false) ∧ w' = w := by
  have HD := hid (dead_any fu (some 0) w h)
  generalize fp fu = p at HD ⊢
  clear h
  go_enter Try.func41, Try.ntmps41
  go_wp2_with ((go_at_call 30; (with_reducible refine HD.out.mono ?_); rintro e w1 ⟨rfl, rfl⟩))
  go_ret
  exact ⟨rfl, rfl⟩
/-- The number of writes behind one. -/
def less (k : Option Nat) : Option Nat := k.map (· - 1)
theorem Fz.set {w : World} {f m : Nat} (h : Fz w f (some (m + 1))) : Fz (w.setCell ⟨f, 1, none⟩ (.int .i64 (m : Int))) f (some m) :=
  ⟨heap_setCell_same w f 1 _ _ _ h.heap, by have := h.le; simp at this ⊢; omega⟩
theorem spend_live (fu k : Option Nat) (w : World) (h : FzO w fu k) (hk : k ≠ some 0) :
    Calls Try.prog 41 #[.pointer (fp fu)] w fun e w' => e = .returned (.bool true) ∧ FzO w' fu (less k) ∧ Up (FF fu) w w' ∧ w'.heap.size = w.heap.size := by
  have hd := dead_any fu k w h
  rw [show (k == some 0) = false by simpa using hk] at hd
  have HD := hid hd
  clear hd
  cases fu with
  | none =>
    obtain rfl : k = none := h
    have HD : Hid (Calls Try.prog 30 #[.pointer none] w _) := HD
    show Calls Try.prog 41 #[.pointer none] w _
    go_enter Try.func41, Try.ntmps41
    go_wp2_with ((go_at_call 30; (with_reducible refine HD.out.mono ?_); rintro e w1 ⟨rfl, rfl⟩))
    go_ret
    exact ⟨rfl, rfl, Up.refl _ _, rfl⟩
  | some f =>
    have HD : Hid (Calls Try.prog 30 #[.pointer (some ⟨f, 0, none⟩)] w _) := HD
    show Calls Try.prog 41 #[.pointer (some ⟨f, 0, none⟩)] w _
    rcases k with _ | _ | n
    · have HF : Hid (Fz w f none) := h
      have c0 : w.cell? ⟨f, 0, none⟩ = some (.bool false) := Fz.c0 h
      clear h hk
      go_enter Try.func41, Try.ntmps41
      go_wp2_with ((go_at_call 30; (with_reducible refine HD.out.mono ?_); rintro e w1 ⟨rfl, rfl⟩))
      go_ret
      exact ⟨rfl, HF.out, Up.refl _ _, rfl⟩
    · exact absurd rfl hk
    · have HF : Hid (Fz w f (some (n + 1))) := h
      have c0 : w.cell? ⟨f, 0, none⟩ = some (.bool true) := Fz.c0 h
      have c1 : w.cell? ⟨f, 1, none⟩ = some (.int .i64 ((n + 1 : Nat) : Int)) := Fz.c1 h
      have f1 := Fz.fr h 1
      have hle : n + 1 ≤ 9223372036854775807 := HF.out.le
      have HS := hid HF.out.set
      have i1 : ((n + 1 : Nat) : Int) - 1 = (n : Int) := by omega
      obtain ⟨m, hm⟩ : ∃ m, m = n + 1 := ⟨_, rfl⟩
      rw [← hm] at c1 i1
      have i4 : IntKind.i64.wrap ((m : Int) - 1) = (n : Int) := by rw [i1]; exact IntWalk.i64_in _ (by omega)
      have i5 : wrap64 ((m : Int) - 1) = (n : Int) := by rw [← IntWalk.i64_left]; exact i4
      have i6 : wrap64 (n : Int) = (n : Int) := by rw [i1] at i5; exact i5
      clear hk hm hle h
      go_enter Try.func41, Try.ntmps41
      go_wp2_with ((go_at_call 30; (with_reducible refine HD.out.mono ?_); rintro e w1 ⟨rfl, rfl⟩))
      go_ret
      exact ⟨rfl, HS.out, (Up.refl (FF (some f)) _).put rfl _ _, by simp⟩
/-- What k writes are, as NewFuse takes them. -/
def ofk (k : Int) : Option Nat := if 1 ≤ k then some k.toNat else none
theorem set_any (f : Nat) (k0 : Option Nat) (k : Int) (w : World) (h : Fz w f k0) (hk : k ≤ 9223372036854775807) :
    Calls Try.prog 28 #[.pointer (some ⟨f, 0, none⟩), .int .i64 k] w fun e w' => e = .returned (.tuple #[]) ∧ Fz w' f (ofk k) ∧ Up (One f) w w' ∧ w'.heap.size = w.heap.size := by
  have c0 := h.c0
  have c1 := h.c1
  have f0 := h.fr 0
  have f1 := h.fr 1
  have HF := hid h
  clear h
  by_cases h1 : 1 ≤ k
  · have HE : Hid (Fz ((w.setCell ⟨f, 0, none⟩ (.bool true)).setCell ⟨f, 1, none⟩ (.int .i64 k)) f (ofk k)) := by
      show Fz _ _ _
      rw [ofk, if_pos h1]
      refine ⟨?_, by simp; omega⟩
      rw [heap_setCell_same _ f 1 _ _ _ (heap_setCell_same w f 0 _ _ _ HF.out.heap)]
      simp
      omega
    have i1 : max k 0 = k := by omega
    have c1' : ∀ v, ∃ u, (w.setCell ⟨f, 0, none⟩ v).cell? ⟨f, 1, none⟩ = some u := fun v => ⟨_, by rw [World.cell?_setCell_other _ _ _ _ (by simp)]; exact c1⟩
    go_enter Try.func28, Try.ntmps28
    go_wp2
    go_end0
    exact ⟨rfl, HE.out, ((Up.refl (One f) _).put rfl _ _).put rfl _ _, by simp⟩
  · have HE : Hid (Fz ((w.setCell ⟨f, 0, none⟩ (.bool false)).setCell ⟨f, 1, none⟩ (.int .i64 0)) f (ofk k)) := by
      show Fz _ _ _
      rw [ofk, if_neg h1]
      refine ⟨?_, by simp⟩
      rw [heap_setCell_same _ f 1 _ _ _ (heap_setCell_same w f 0 _ _ _ HF.out.heap)]
      simp
    have i1 : max k 0 = 0 := by omega
    go_enter Try.func28, Try.ntmps28
    go_wp2
    go_end0
    exact ⟨rfl, HE.out, ((Up.refl (One f) _).put rfl _ _).put rfl _ _, by simp⟩
theorem newFuse_any (k : Int) (w : World) (hk : k ≤ 9223372036854775807) :
    Calls Try.prog 8 #[.int .i64 k] w fun e w' => ∃ f, e = .returned (.pointer (some ⟨f, 0, none⟩)) ∧ Fz w' f (ofk k) ∧ Up Nul w w' ∧ w.heap.size ≤ f := by
  have HZ : Hid (Fz (w.alloc (.cells #[.bool false, .int .i64 0] 70)) w.heap.size none) := ⟨heap_alloc_new _ _, by simp⟩
  have HS := hid (set_any w.heap.size none k _ HZ.out hk)
  have HU := hid ((Up.refl Nul w).alloc (.cells #[.bool false, .int .i64 0] 70))
  go_enter Try.func8, Try.ntmps8
  go_wp2_with ((go_at_call 28; (with_reducible refine HS.out.mono ?_); rintro e w1 ⟨rfl, g1, g2, g3⟩; have G := hid (And.intro g1 g2); clear g1 g2 g3))
  go_ret
  exact ⟨_, rfl, G.out.1, HU.out.newer G.out.2 fun i hi he => by unfold One at he; omega, Nat.le_refl _⟩

/-! ### Bytes of noughts, 'Full' -/
theorem Blk.whole {w : World} {q : Nat} {z : List Nat} (h : Blk w q z) : Row w q 0 z := ⟨fun i hi => by rw [Nat.zero_add]; exact h.cell i hi, fun i => small_getD h.small i⟩
theorem Part.nxt {w wr : World} {g n k x : Nat} {f : Nat → Nat} {y : List Nat} (h : Part w g n k f wr y) (hg : w.heap.size ≤ g) (hk : k < n) (hx : f k = x) (h8 : x < 256) :
    Part w g n (k + 1) f (wr.setCell ⟨g, k, none⟩ (.int .u8 x)) (y.set k x) :=
  ⟨h.blk.set k x h8, by rw [List.length_set]; exact h.len, fun i hi => by
    rw [getD_set _ _ _ _ (by rw [h.len]; exact hk)]
    split
    · next e => rw [e, hx]
    · exact h.told i (by omega), h.up.setCell (.inl hg) _⟩
theorem blank_any (w : World) : Calls Try.prog 39 #[] w fun e w' => e = .returned (.string (strOf (zer 96))) ∧ Up Nul w w' := by
  have hmk : (Instr.makeSlice 37 (.int .i64 96) (.int .i64 96)).run Try.prog w = .ok (.slice (some ⟨w.heap.size, 0, none⟩) 96 96) (w.alloc (.cells (bys (zer 96)) 5)) := make_bytes w 96 (by omega)
  have hcv : (convert 37 9 (.slice (some ⟨w.heap.size, 0, none⟩) 96 96)).run Try.prog (w.alloc (.cells (bys (zer 96)) 5)) = .ok (.string (strOf (zer 96))) (w.alloc (.cells (bys (zer 96)) 5)) := conv_row (Blk.whole (Blk.new w (zer 96) (zer_small 96))) (zer_length 96)
  have HU := hid ((Up.refl Nul w).alloc (.cells (bys (zer 96)) 5))
  generalize strOf (zer 96) = s at hcv ⊢
  go_enter Try.func39, Try.ntmps39
  go_wp2
  go_ret
  exact ⟨rfl, HU.out⟩
/-- What 'Full' lays. -/
def fl (c i : Nat) : Nat := (c + i * 3) % 256
def ful (c : Nat) : List Nat := tab 96 (fl c)
theorem ful_length (c : Nat) : (ful c).length = 96 := by simp [ful, tab]
set_option maxRecDepth 100000 in
theorem full_any (c : Nat) (w : World) (hc : c < 256) :
    Calls Try.prog 15 #[.int .u8 c] w fun e w' => ∃ q, e = .returned (.slice (some ⟨q, 0, none⟩) 96 96) ∧ Blk w' q (ful c) ∧ Up Nul w w' ∧ w.heap.size ≤ q := by
  have hmk : (Instr.makeSlice 37 (.int .i64 96) (.int .i64 96)).run Try.prog w = .ok (.slice (some ⟨w.heap.size, 0, none⟩) 96 96) (w.alloc (.cells (bys (zer 96)) 5)) := make_bytes w 96 (by omega)
  have HP := hid (Part.start w 96 (fl c))
  obtain ⟨g, G⟩ : ∃ g, Hid (w.heap.size = g) := ⟨_, rfl⟩
  rw [G.out] at hmk HP
  obtain ⟨w0, W0⟩ : ∃ w0, Hid ((w.alloc (.cells (bys (zer 96)) 5)) = w0) := ⟨_, rfl⟩
  rw [W0.out] at hmk HP
  go_enter Try.func15, Try.ntmps15
  go_wp2
  go_loopw [4, 8] (fun _ i wr => ∃ k y, k ≤ 96 ∧ i = .int .i64 (k : Nat) ∧ Part w g 96 k (fl c) wr y) (fun _ i _ => 96 - (intOf i).toNat)
  case atStart => exact ⟨0, _, by omega, rfl, HP.out⟩
  case round =>
    obtain ⟨k, y, hk, rfl, hp⟩ := hrel
    by_cases hlt : k < 96
    · have x1 := hp.blk.cell k (by rw [hp.len]; exact hlt)
      have x2 := hp.blk.froz k
      have i1 : (0 : Int) ≤ (k : Int) := by omega
      have i2 : (k : Int) < 96 := by omega
      have HX := hid hp
      have hv : ((c : Int) + (k : Int) * 3) % 256 = ((fl c k : Nat) : Int) := by unfold fl; omega
      have HN := hid (hp.nxt (x := fl c k) (by rw [G.out]; exact Nat.le_refl _) hlt rfl (by unfold fl; omega))
      clear hp
      go_wp2
      go_roundw
      case rel => exact ⟨k + 1, _, by omega, by go_num, HN.out⟩
      case measure => simp [intOf]; omega
    · obtain rfl : k = 96 := by omega
      have HX := hid (And.intro hp.done hp.up)
      clear hp
      go_wp2
      go_ret
      exact ⟨_, rfl, HX.out.1, HX.out.2, by rw [G.out]; exact Nat.le_refl _⟩
end Go.Proofs.Ytmnkhdhohjceoaa
