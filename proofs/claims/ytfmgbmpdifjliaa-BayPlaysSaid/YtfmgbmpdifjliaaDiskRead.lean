/- 'Read', 'Rot' of a Disk. -/
import Derived.Test.YtfmgbmpdifjliaaDiskOps
namespace Go.Proofs.Ytfmgbmpdifjliaa
open Go.RowKit
set_option linter.unusedVariables false

theorem read_arg (d : DK) (x : Int) (w : World) (h : Dsk w d) (hs : x < 0 ∨ (d.n : Int) ≤ x) :
    Calls Try.prog 46 #[.pointer (some ⟨d.b, 0, none⟩), .int .i64 x] w fun e w' => e = .returned (.tuple #[.slice none 0 0, .int .i64 1]) ∧ w' = w := by
  have HL := hid (lacks_out d x w h hs)
  generalize d.b = b at HL ⊢
  clear h hs
  go_enter Try.func46, Try.ntmps46
  go_wp2_with ((go_at_call 45; (with_reducible refine HL.out.mono ?_); rintro e w1 ⟨rfl, rfl⟩))
  go_ret2
  exact ⟨rfl, rfl⟩
theorem read_gone (d : DK) (s : Nat) (w : World) (h : Dsk w d) (hs : s < d.n) (hl : d.live = false) :
    Calls Try.prog 46 #[.pointer (some ⟨d.b, 0, none⟩), .int .i64 s] w fun e w' => e = .returned (.tuple #[.slice none 0 0, .int .i64 5]) ∧ w' = w := by
  have HL := hid (lacks_in d s w h hs)
  have c1 := h.c1
  rw [hl] at c1
  generalize d.b = b at HL c1 ⊢
  clear h hs hl
  go_enter Try.func46, Try.ntmps46
  go_wp2_with ((go_at_call 45; (with_reducible refine HL.out.mono ?_); rintro e w1 ⟨rfl, rfl⟩))
  go_ret2
  exact ⟨rfl, rfl⟩
theorem slot_length {w : World} {d : DK} (h : Dsk w d) {s : Nat} (hs : s < d.n) : (d.slot s).length = 96 := by
  unfold DK.slot
  rw [List.length_take, List.length_drop, h.len]
  omega
theorem getD_part (z : List Nat) (o n i : Nat) (hi : i < n) : ((z.drop o).take n).getD i 0 = z.getD (o + i) 0 := by
  simp [List.getD_eq_getElem?_getD, hi, List.getElem?_drop]
theorem Dsk.row {w : World} {d : DK} (h : Dsk w d) {s : Nat} (hs : s < d.n) : Row w d.q (s * 96) (d.slot s) := by
  refine ⟨fun i hi => ?_, fun i => ?_⟩
  · rw [slot_length h hs] at hi
    rw [h.cq _ (by omega), DK.slot, getD_part _ _ _ _ hi]
  · unfold DK.slot
    rcases Nat.lt_or_ge i 96 with hi | hi
    · rw [getD_part _ _ _ _ hi]
      exact small_getD h.small _
    · rw [List.getD_eq_getElem?_getD, List.getElem?_eq_none (by rw [List.length_take]; omega)]
      decide
theorem read_good (d : DK) (s : Nat) (w : World) (h : Dsk w d) (hs : s < d.n) (hl : d.live = true) :
    Calls Try.prog 46 #[.pointer (some ⟨d.b, 0, none⟩), .int .i64 s] w fun e w' => ∃ a c, e = .returned (.tuple #[.slice a 96 c, .int .i64 0]) ∧ Got w w' a 96 c (d.slot s) := by
  have HL := hid (lacks_in d s w h hs)
  have c1 := h.c1
  rw [hl] at c1
  have c2 := h.c2
  have HC := hid (bclone_any (some ⟨d.q, s * 96, none⟩) 96 96 (d.slot s) w ⟨slot_length h hs, .inr ⟨_, _, rfl, h.lt_q, h.row hs⟩, by omega⟩ (fun e => by cases e) (by omega))
  have ha : Addr.add ⟨d.q, 0, none⟩ (s * 96) = ⟨d.q, s * 96, none⟩ := by rw [add_off, Nat.zero_add]
  have i1 : (s : Int) < (d.n : Int) := by omega
  generalize d.slot s = z at HC ⊢
  generalize d.b = b at HL c1 c2 ⊢
  generalize d.n = n at c2 i1
  generalize d.q = q at c2 HC ha
  clear h hs hl
  go_enter Try.func46, Try.ntmps46
  go_wp2_with (first
    | (go_at_call 45; (with_reducible refine HL.out.mono ?_); rintro e w1 ⟨rfl, rfl⟩)
    | (go_at_call 60; (with_reducible refine HC.out.mono ?_); rintro e w1 ⟨a', c, rfl, k1⟩; have K1 := hid k1; clear k1))
  go_ret2
  exact ⟨a', c, rfl, K1.out⟩

/-! ### 'Rot' -/
theorem rot_slot (d : DK) (x y : Int) (c : Nat) (w : World) (h : Dsk w d) (hs : x < 0 ∨ (d.n : Int) ≤ x) :
    Calls Try.prog 13 #[.pointer (some ⟨d.b, 0, none⟩), .int .i64 x, .int .i64 y, .int .u8 c] w fun e w' => e = .returned (.bool false) ∧ w' = w := by
  have HL := hid (lacks_out d x w h hs)
  generalize d.b = b at HL ⊢
  clear h hs
  go_enter Try.func13, Try.ntmps13
  go_wp2_with ((go_at_call 45; (with_reducible refine HL.out.mono ?_); rintro e w1 ⟨rfl, rfl⟩))
  go_ret
  exact ⟨rfl, rfl⟩
theorem rot_byte (d : DK) (s : Nat) (y : Int) (c : Nat) (w : World) (h : Dsk w d) (hs : s < d.n) (hy : y < 0 ∨ 96 ≤ y) :
    Calls Try.prog 13 #[.pointer (some ⟨d.b, 0, none⟩), .int .i64 s, .int .i64 y, .int .u8 c] w fun e w' => e = .returned (.bool false) ∧ w' = w := by
  have HL := hid (lacks_in d s w h hs)
  generalize d.b = b at HL ⊢
  clear h hs
  by_cases h0 : y < 0
  · clear hy
    go_enter Try.func13, Try.ntmps13
    go_wp2_with ((go_at_call 45; (with_reducible refine HL.out.mono ?_); rintro e w1 ⟨rfl, rfl⟩))
    go_ret
    exact ⟨rfl, rfl⟩
  · have h1 : 96 ≤ y := by omega
    clear hy
    go_enter Try.func13, Try.ntmps13
    go_wp2_with ((go_at_call 45; (with_reducible refine HL.out.mono ?_); rintro e w1 ⟨rfl, rfl⟩))
    go_ret
    exact ⟨rfl, rfl⟩
theorem rot_gone (d : DK) (s t c : Nat) (w : World) (h : Dsk w d) (hs : s < d.n) (ht : t < 96) (hl : d.live = false) :
    Calls Try.prog 13 #[.pointer (some ⟨d.b, 0, none⟩), .int .i64 s, .int .i64 t, .int .u8 c] w fun e w' => e = .returned (.bool false) ∧ w' = w := by
  have HL := hid (lacks_in d s w h hs)
  have c1 := h.c1
  rw [hl] at c1
  have i1 : ¬ (96 : Int) ≤ (t : Int) := by omega
  generalize d.b = b at HL c1 ⊢
  clear h hs hl
  go_enter Try.func13, Try.ntmps13
  go_wp2_with ((go_at_call 45; (with_reducible refine HL.out.mono ?_); rintro e w1 ⟨rfl, rfl⟩))
  go_ret
  exact ⟨rfl, rfl⟩
/-- The Disk with one byte turned. -/
def DK.rot (d : DK) (i c : Nat) : DK := { d with z := d.z.set i (d.z.getD i 0 ^^^ c) }
theorem Dsk.setz {w : World} {d : DK} (h : Dsk w d) (i v : Nat) (hv : v < 256) : Dsk (w.setCell ⟨d.q, i, none⟩ (.int .u8 v)) { d with z := d.z.set i v } := by
  have u := (Up.refl (One d.q) w).put rfl i (.int .u8 v)
  refine ⟨(u.block _ h.lt_b h.bq).trans h.head, ?_, fun x hx => ?_, by simp [h.len], h.le, own_up h.pend u fun g hg e => h.pq ((show d.pv.ownBlock = some g from hg).trans (congrArg some e)), h.good, h.most⟩
  · have := heap_setCell_same w d.q i _ _ (.int .u8 (v : Int)) h.rows
    rw [bys_set] at this
    exact this
  · rcases List.mem_or_eq_of_mem_set hx with hx | rfl
    · exact h.small x hx
    · exact hv
theorem xor_small {a b : Nat} (ha : a < 256) (hb : b < 256) : a ^^^ b < 256 := Nat.xor_lt_two_pow (n := 8) ha hb
set_option maxRecDepth 100000 in
theorem rot_good (d : DK) (s t c : Nat) (w : World) (h : Dsk w d) (hs : s < d.n) (ht : t < 96) (hc : c < 256) (hl : d.live = true) :
    Calls Try.prog 13 #[.pointer (some ⟨d.b, 0, none⟩), .int .i64 s, .int .i64 t, .int .u8 c] w fun e w' => e = .returned (.bool true) ∧ Dsk w' (d.rot (s * 96 + t) c) ∧ Up (One d.q) w w' := by
  have HL := hid (lacks_in d s w h hs)
  have c1 := h.c1
  rw [hl] at c1
  have c2 := h.c2
  have hv := small_getD h.small (s * 96 + t)
  have x1 := h.cq (s * 96 + t) (by omega)
  have x2 := h.frq (s * 96 + t)
  have hx := u8_xor_nat (d.z.getD (s * 96 + t) 0) c hv hc
  have HE := hid ((h.nxt (Up.refl Nul w).drew).setz (s * 96 + t) _ (xor_small hv hc))
  have HU := hid ((Up.refl (One d.q) w).drew.put rfl (s * 96 + t) (.int .u8 ((d.z.getD (s * 96 + t) 0 ^^^ c : Nat) : Int)))
  have i1 : ¬ (96 : Int) ≤ (t : Int) := by omega
  have i2 : (s : Int) < (d.n : Int) := by omega
  have i3 : (t : Int) < 96 := by omega
  unfold DK.rot
  generalize d.z.getD (s * 96 + t) 0 = v at x1 hx HE HU ⊢
  generalize v ^^^ c = vc at hx HE HU ⊢
  generalize { d with z := d.z.set (s * 96 + t) vc } = d2 at HE ⊢
  generalize d.b = b at HL c1 c2 ⊢
  generalize d.n = n at c2 i2
  generalize d.q = q at c2 x1 x2 HE HU ⊢
  clear h hs hl hv ht hc
  go_enter Try.func13, Try.ntmps13
  go_wp2_with ((go_at_call 45; (with_reducible refine HL.out.mono ?_); rintro e w1 ⟨rfl, rfl⟩))
  go_region
  go_wp2
  go_ret
  exact ⟨rfl, HE.out, HU.out⟩
end Go.Proofs.Ytfmgbmpdifjliaa
