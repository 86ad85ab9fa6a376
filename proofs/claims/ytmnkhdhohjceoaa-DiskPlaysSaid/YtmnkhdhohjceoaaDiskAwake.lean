/- 'awake' of the statements. -/
import Derived.Test.YtmnkhdhohjceoaaDiskHold
namespace Go.Proofs.Ytmnkhdhohjceoaa
open Go.RowKit
set_option linter.unusedVariables false

theorem Blk.sln {w : World} {q : Nat} {z : List Nat} (h : Blk w q z) {n : Nat} (hn : z.length = n) (hl : n ≤ 1000) : SlN w (some ⟨q, 0, none⟩) n z := ⟨hn, .inr ⟨q, 0, rfl, h.lt, h.whole⟩, by omega⟩
theorem ful_small (c : Nat) : ∀ i, (ful c).getD i 0 < 256 := fun i => by
  rcases Nat.lt_or_ge i 96 with h | h
  · rw [ful, tab_at _ _ _ h]; unfold fl; omega
  · rw [List.getD_eq_getElem?_getD, List.getElem?_eq_none (by rw [ful_length]; exact h)]; decide
section
variable {w0 w : World} {b n : Nat} {fu k : Option Nat} {live : Bool} {R : Nat → List Nat} {ps : List (Nat × List Nat)}
theorem writeH_dead (h : H w0 w b n fu (some 0) true R ps) {s : Nat} (hs : s < n) (a : Option Addr) (cap : Nat) :
    Calls Try.prog 14 #[.pointer (some ⟨b, 0, none⟩), .int .i64 s, .slice a 96 cap] w fun e w' => e = .returned (.int .i64 4) ∧ w' = w := by
  obtain ⟨d, h1, rfl, rfl, rfl, h5, rfl, h6, h7⟩ := h.ex
  exact write_dead d s a cap w h1 hs h5 h.fz
theorem writeH_gone (h : H w0 w b n fu k false R ps) {s : Nat} (hs : s < n) (a : Option Addr) (cap : Nat) :
    Calls Try.prog 14 #[.pointer (some ⟨b, 0, none⟩), .int .i64 s, .slice a 96 cap] w fun e w' => e = .returned (.int .i64 5) ∧ w' = w := by
  obtain ⟨d, h1, rfl, rfl, rfl, h5, rfl, h6, h7⟩ := h.ex
  exact write_gone d s a cap w h1 hs h5
theorem writeH_slot (h : H w0 w b n fu k live R ps) {x : Int} (hs : x < 0 ∨ (n : Int) ≤ x) (a : Option Addr) (m cap : Nat) :
    Calls Try.prog 14 #[.pointer (some ⟨b, 0, none⟩), .int .i64 x, .slice a m cap] w fun e w' => e = .returned (.int .i64 1) ∧ w' = w := by
  obtain ⟨d, h1, rfl, rfl, rfl, h5, rfl, h6, h7⟩ := h.ex
  exact write_slot d x a m cap w h1 hs
theorem writeH_len (h : H w0 w b n fu k live R ps) {s : Nat} (hs : s < n) (a : Option Addr) (m cap : Nat) (hm : m ≠ 96) :
    Calls Try.prog 14 #[.pointer (some ⟨b, 0, none⟩), .int .i64 s, .slice a m cap] w fun e w' => e = .returned (.int .i64 1) ∧ w' = w := by
  obtain ⟨d, h1, rfl, rfl, rfl, h5, rfl, h6, h7⟩ := h.ex
  exact write_len d s a m cap w h1 hs hm
theorem readH_arg (h : H w0 w b n fu k live R ps) {x : Int} (hs : x < 0 ∨ (n : Int) ≤ x) :
    Calls Try.prog 17 #[.pointer (some ⟨b, 0, none⟩), .int .i64 x] w fun e w' => e = .returned (.tuple #[.slice none 0 0, .int .i64 1]) ∧ w' = w := by
  obtain ⟨d, h1, rfl, rfl, rfl, h5, rfl, h6, h7⟩ := h.ex
  exact read_arg d x w h1 hs
theorem readH_gone (h : H w0 w b n fu k false R ps) {s : Nat} (hs : s < n) :
    Calls Try.prog 17 #[.pointer (some ⟨b, 0, none⟩), .int .i64 s] w fun e w' => e = .returned (.tuple #[.slice none 0 0, .int .i64 5]) ∧ w' = w := by
  obtain ⟨d, h1, rfl, rfl, rfl, h5, rfl, h6, h7⟩ := h.ex
  exact read_gone d s w h1 hs h5
theorem rotH_slot (h : H w0 w b n fu k live R ps) {x : Int} (hs : x < 0 ∨ (n : Int) ≤ x) (y : Int) (c : Nat) :
    Calls Try.prog 24 #[.pointer (some ⟨b, 0, none⟩), .int .i64 x, .int .i64 y, .int .u8 c] w fun e w' => e = .returned (.bool false) ∧ w' = w := by
  obtain ⟨d, h1, rfl, rfl, rfl, h5, rfl, h6, h7⟩ := h.ex
  exact rot_slot d x y c w h1 hs
theorem rotH_byte (h : H w0 w b n fu k live R ps) {s : Nat} (hs : s < n) {y : Int} (hy : y < 0 ∨ 96 ≤ y) (c : Nat) :
    Calls Try.prog 24 #[.pointer (some ⟨b, 0, none⟩), .int .i64 s, .int .i64 y, .int .u8 c] w fun e w' => e = .returned (.bool false) ∧ w' = w := by
  obtain ⟨d, h1, rfl, rfl, rfl, h5, rfl, h6, h7⟩ := h.ex
  exact rot_byte d s y c w h1 hs hy
theorem rotH_gone (h : H w0 w b n fu k false R ps) {s t : Nat} (hs : s < n) (ht : t < 96) (c : Nat) :
    Calls Try.prog 24 #[.pointer (some ⟨b, 0, none⟩), .int .i64 s, .int .i64 t, .int .u8 c] w fun e w' => e = .returned (.bool false) ∧ w' = w := by
  obtain ⟨d, h1, rfl, rfl, rfl, h5, rfl, h6, h7⟩ := h.ex
  exact rot_gone d s t c w h1 hs ht h5
end
/-- New Fuse, as a law meets it. -/
theorem fuseH {w0 w : World} (h0 : Up Nul w0 w) (x : Int) (hk : x ≤ 9223372036854775807) :
    Calls Try.prog 8 #[.int .i64 x] w fun e w' => ∃ f, e = .returned (.pointer (some ⟨f, 0, none⟩)) ∧ FzO w' (some f) (ofk x) ∧ (∀ g, some f = some g → w0.heap.size ≤ g) ∧ Up Nul w w' := by
  refine (newFuse_any x w hk).mono ?_
  rintro e w' ⟨f, rfl, h1, h2, h3⟩
  exact ⟨f, rfl, h1, fun g hg => by injection hg with hg; have := h0.size; omega, h2⟩
set_option maxRecDepth 100000 in
set_option maxHeartbeats 3200000 in
theorem awake_any (w : World) : Calls Try.prog 13 #[] w fun e w' => e = .returned (.bool true) ∧ Up Nul w w' := by
  go_enter Try.func13, Try.ntmps13
  go_wp2_with fail
  refine (fuseH (Up.refl Nul w) 1 (by omega)).mono ?_
  rintro e w1 ⟨f, rfl, f1, f2, f3⟩
  have HF := hid (And.intro f1 f2)
  have U1 := hid f3
  clear f1 f2 f3
  go_wp2_with fail
  refine (newH U1.out 2 (some f) (some 1) HF.out.1 HF.out.2 2 rfl).mono ?_
  rintro e w2 ⟨b, rfl, h1, h2⟩
  have HH := hid h1
  have U2 := hid (U1.out.trans h2)
  clear h1 h2 HF
  go_wp2_with fail
  refine (full_any 1 w2 (by omega)).mono ?_
  rintro e w3 ⟨q, rfl, k1, k2, k3⟩
  have U3 := hid (U2.out.trans k2)
  go_wp2_with fail
  refine (writeH (s := 0) (HH.out.nxt k2) U3.out (by omega) (by decide) (by decide) k1 (ful_length 1)).mono ?_
  rintro e w4 ⟨rfl, h1, h2, _⟩
  clear k1 k2 k3 HH U1 U2
  have HH := hid h1
  have U4 := hid h2
  clear h1 h2
  go_wp2_with fail
  refine (dead_any (some f) _ w4 HH.out.fz).mono ?_
  rintro e w5 ⟨rfl, rfl⟩
  go_wp2_with fail
  refine (full_any 2 _ (by omega)).mono ?_
  rintro e w6 ⟨q2, rfl, k1, k2, k3⟩
  have U5 := hid (U4.out.trans k2)
  have H5 := hid (HH.out.nxt k2)
  clear HH k1 k3 U4
  have H5' : Hid (H w w6 b 2 (some f) (some 0) true (upd (fun _ => zer 96) 0 (ful 1)) [(0, zer 96)]) := H5.out
  clear H5
  go_wp2_with fail
  refine (writeH_dead (s := 1) H5'.out (by omega) _ _).mono ?_
  rintro e w7 ⟨rfl, rfl⟩
  go_wp2_with fail
  refine (crashH H5'.out U5.out 0 0).mono ?_
  rintro e w8 ⟨rfl, h1, h2, _⟩
  have H6 := hid h1
  have U6 := hid h2
  clear h1 h2 H5' U5 k2
  go_wp2_with fail
  refine (readH (s := 0) H6.out (by omega)).mono ?_
  rintro e w9 ⟨a, c, rfl, k1⟩
  have hr : crashR [(0, zer 96)] (0 : Int).toNat (min (0 : Int).toNat 96) (upd (fun _ => zer 96) 0 (ful 1)) 0 = zer 96 := by
    unfold crashR
    rw [if_pos ⟨by decide, rfl⟩]
    rfl
  rw [hr] at k1
  have U7 : Hid (Up Nul w w9) := U6.out.trans k1.up
  have C1 : Hid (∀ W, Up Nul w9 W → (convert 37 9 (.slice a 96 c)).run Try.prog W = .ok (.string (strOf (zer 96))) W) := fun W u => (k1.sl.nxt u).conv c
  have HSL : Hid (∀ W, Up Nul w9 W → Calls Try.prog 12 #[.pointer (some ⟨b, 0, none⟩)] W fun e w' => e = .returned (.int .i64 2) ∧ w' = W) := fun W u => slotsH ((H6.out.nxt k1.up).nxt u)
  have HBL : Hid (∀ W, Calls Try.prog 39 #[] W fun e w' => e = .returned (.string (strOf (zer 96))) ∧ Up Nul W w') := blank_any
  generalize strOf (zer 96) = t1 at C1 HBL
  have q1 : (t1.toList == t1.toList) = true := by simp
  clear H6 U6 k1 hr
  go_wp2_with fail
  have HR0 : Hid (Up Nul w9 w9) := Up.refl _ _
  go_region_held3 (fun w' => Up Nul w9 w' ∧ (convert 37 9 (.slice a 96 c)).run Try.prog w' = .ok (.string t1) w')
    (first | exact ⟨by assumption, C1.out _ (by assumption)⟩ | exact ⟨HR0.out.drew, C1.out _ HR0.out.drew⟩)
    (first
      | (go_at_call 39; (with_reducible refine (HBL.out _).mono ?_); rintro e wb ⟨rfl, kb⟩; have ob : Up Nul w9 wb := (by first | exact HR0.out.drew.trans kb | exact Up.trans (by assumption) kb); clear kb)
      | (go_at_call 12; (with_reducible refine (HSL.out _ (by first | exact HR0.out.drew | assumption)).mono ?_); rintro e wb ⟨rfl, rfl⟩))
  all_goals
    have HE : Hid (Up Nul w9 _) := ob
    go_wp2
    go_ret
    exact ⟨rfl, U7.out.trans HE.out⟩
end Go.Proofs.Ytmnkhdhohjceoaa
