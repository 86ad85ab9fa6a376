/- 'awake' of the statements. -/
import Derived.Test.YtfmgbmpdifjliaaDiskHold
namespace Go.Proofs.Ytfmgbmpdifjliaa
open Go.RowKit
set_option linter.unusedVariables false

theorem Blk.sln {w : World} {q : Nat} {z : List Nat} (h : Blk w q z) {n : Nat} (hn : z.length = n) (hl : n ≤ 1000) : SlN w (some ⟨q, 0, none⟩) n z := ⟨hn, .inr ⟨q, 0, rfl, h.lt, h.whole⟩, by omega⟩
theorem ful_small (c : Nat) : ∀ i, (ful c).getD i 0 < 256 := fun i => by
  rcases Nat.lt_or_ge i 96 with h | h
  · rw [ful, tab_at _ _ _ h]; unfold fl; omega
  · rw [List.getD_eq_getElem?_getD, List.getElem?_eq_none (by rw [ful_length]; exact h)]; decide
section
variable {w0 w : World} {b n : Nat} {fu k : Option Nat} {live : Bool} {R : Nat → List Nat} {ps : List (Nat × List Nat)}
theorem writeH_dead (h : H w0 w b n fu (some 0) true R ps) {s : Nat} (hs : s < n) (a : Option Addr) (cap : Nat) :
    Calls Try.prog 44 #[.pointer (some ⟨b, 0, none⟩), .int .i64 s, .slice a 96 cap] w fun e w' => e = .returned (.int .i64 4) ∧ w' = w := by
  obtain ⟨d, h1, rfl, rfl, rfl, h5, rfl, h6, h7⟩ := h.ex
  exact write_dead d s a cap w h1 hs h5 h.fz
theorem writeH_gone (h : H w0 w b n fu k false R ps) {s : Nat} (hs : s < n) (a : Option Addr) (cap : Nat) :
    Calls Try.prog 44 #[.pointer (some ⟨b, 0, none⟩), .int .i64 s, .slice a 96 cap] w fun e w' => e = .returned (.int .i64 5) ∧ w' = w := by
  obtain ⟨d, h1, rfl, rfl, rfl, h5, rfl, h6, h7⟩ := h.ex
  exact write_gone d s a cap w h1 hs h5
theorem writeH_slot (h : H w0 w b n fu k live R ps) {x : Int} (hs : x < 0 ∨ (n : Int) ≤ x) (a : Option Addr) (m cap : Nat) :
    Calls Try.prog 44 #[.pointer (some ⟨b, 0, none⟩), .int .i64 x, .slice a m cap] w fun e w' => e = .returned (.int .i64 1) ∧ w' = w := by
  obtain ⟨d, h1, rfl, rfl, rfl, h5, rfl, h6, h7⟩ := h.ex
  exact write_slot d x a m cap w h1 hs
theorem writeH_len (h : H w0 w b n fu k live R ps) {s : Nat} (hs : s < n) (a : Option Addr) (m cap : Nat) (hm : m ≠ 96) :
    Calls Try.prog 44 #[.pointer (some ⟨b, 0, none⟩), .int .i64 s, .slice a m cap] w fun e w' => e = .returned (.int .i64 1) ∧ w' = w := by
  obtain ⟨d, h1, rfl, rfl, rfl, h5, rfl, h6, h7⟩ := h.ex
  exact write_len d s a m cap w h1 hs hm
theorem readH_arg (h : H w0 w b n fu k live R ps) {x : Int} (hs : x < 0 ∨ (n : Int) ≤ x) :
    Calls Try.prog 46 #[.pointer (some ⟨b, 0, none⟩), .int .i64 x] w fun e w' => e = .returned (.tuple #[.slice none 0 0, .int .i64 1]) ∧ w' = w := by
  obtain ⟨d, h1, rfl, rfl, rfl, h5, rfl, h6, h7⟩ := h.ex
  exact read_arg d x w h1 hs
theorem readH_gone (h : H w0 w b n fu k false R ps) {s : Nat} (hs : s < n) :
    Calls Try.prog 46 #[.pointer (some ⟨b, 0, none⟩), .int .i64 s] w fun e w' => e = .returned (.tuple #[.slice none 0 0, .int .i64 5]) ∧ w' = w := by
  obtain ⟨d, h1, rfl, rfl, rfl, h5, rfl, h6, h7⟩ := h.ex
  exact read_gone d s w h1 hs h5
theorem rotH_slot (h : H w0 w b n fu k live R ps) {x : Int} (hs : x < 0 ∨ (n : Int) ≤ x) (y : Int) (c : Nat) :
    Calls Try.prog 13 #[.pointer (some ⟨b, 0, none⟩), .int .i64 x, .int .i64 y, .int .u8 c] w fun e w' => e = .returned (.bool false) ∧ w' = w := by
  obtain ⟨d, h1, rfl, rfl, rfl, h5, rfl, h6, h7⟩ := h.ex
  exact rot_slot d x y c w h1 hs
theorem rotH_byte (h : H w0 w b n fu k live R ps) {s : Nat} (hs : s < n) {y : Int} (hy : y < 0 ∨ 96 ≤ y) (c : Nat) :
    Calls Try.prog 13 #[.pointer (some ⟨b, 0, none⟩), .int .i64 s, .int .i64 y, .int .u8 c] w fun e w' => e = .returned (.bool false) ∧ w' = w := by
  obtain ⟨d, h1, rfl, rfl, rfl, h5, rfl, h6, h7⟩ := h.ex
  exact rot_byte d s y c w h1 hs hy
theorem rotH_gone (h : H w0 w b n fu k false R ps) {s t : Nat} (hs : s < n) (ht : t < 96) (c : Nat) :
    Calls Try.prog 13 #[.pointer (some ⟨b, 0, none⟩), .int .i64 s, .int .i64 t, .int .u8 c] w fun e w' => e = .returned (.bool false) ∧ w' = w := by
  obtain ⟨d, h1, rfl, rfl, rfl, h5, rfl, h6, h7⟩ := h.ex
  exact rot_gone d s t c w h1 hs ht h5
end
end Go.Proofs.Ytfmgbmpdifjliaa
